import PyProof.Rows.All
import Wide.All
import OpenK.AllK
import Wide.FinOn
import PyProof.EqAt
import PyProof.EqKinds
import PyProof.TupleCall
import Lean
import PySem.Challenge.RW_foretell_k04_span_refused
set_option Elab.async false
set_option linter.all false
set_option maxRecDepth 100000
set_option maxHeartbeats 4000000
namespace L2
open PySem PySem.Spec PyProof.Rows

/-- a key: an int or a str -/
abbrev Key := Sum Int Str
def keyIs : Key → Value → Bool
  | .inl k, v => Value.isInt k v
  | .inr x, v => Value.isStrOf x v
def keyH (w : World) : Key → Int
  | .inl k => hashInt k
  | .inr x => hashStr w x
theorem keyIs_shape : ∀ {k : Key} {v : Value}, keyIs k v = true → (∃ i t, k = Sum.inl i ∧ v = Value.int i t) ∨ (∃ x t, k = Sum.inr x ∧ v = Value.str x t)
  | .inl i, v, h => by
    obtain ⟨t, e⟩ := Value.isInt_shape (k := i) (v := v) h
    exact .inl ⟨i, t, rfl, e⟩
  | .inr x, v, h => by
    obtain ⟨t, e⟩ := Value.isStrOf_shape (x := x) (v := v) h
    exact .inr ⟨x, t, rfl, e⟩
theorem key_ll (a b : Int) : decide ((Sum.inl a : Key) = Sum.inl b) = (a == b) := by
  by_cases e : a = b
  · subst e; simp
  · have h : ¬ (Sum.inl a : Key) = Sum.inl b := fun q => e (Sum.inl.inj q)
    rw [decide_eq_false h]
    exact (beq_eq_false_iff_ne.mpr e).symm
theorem key_rr (a b : Str) : decide ((Sum.inr a : Key) = Sum.inr b) = decide (a = b) := by
  by_cases e : a = b
  · subst e; simp
  · have h : ¬ (Sum.inr a : Key) = Sum.inr b := fun q => e (Sum.inr.inj q)
    rw [decide_eq_false h, decide_eq_false e]
theorem key_lr (a : Int) (b : Str) : decide ((Sum.inl a : Key) = Sum.inr b) = false := decide_eq_false (fun q => nomatch q)
theorem key_rl (a : Str) (b : Int) : decide ((Sum.inr a : Key) = Sum.inl b) = false := decide_eq_false (fun q => nomatch q)

def mixKind (prog : Program) (w : World) : PySem.KeyKind prog w Key where
  is := keyIs
  hash := keyH w
  inj := fun v a b ha hb => by
    rcases keyIs_shape ha with ⟨i, t, rfl, rfl⟩ | ⟨x, t, rfl, rfl⟩
    · rcases keyIs_shape hb with ⟨j, u, rfl, e⟩ | ⟨y, u, rfl, e⟩
      · injection e with e1 _; rw [e1]
      · exact nomatch e
    · rcases keyIs_shape hb with ⟨j, u, rfl, e⟩ | ⟨y, u, rfl, e⟩
      · exact nomatch e
      · injection e with e1 _; rw [e1]
  byValue := fun k v h => by
    rcases keyIs_shape h with ⟨i, t, rfl, rfl⟩ | ⟨x, t, rfl, rfl⟩ <;> rfl
  pyHash := fun hv h => by
    rcases keyIs_shape hv with ⟨i, t, rfl, rfl⟩ | ⟨x, t, rfl, rfl⟩
    · exact wpAny_pyHash_int h
    · exact wpAny_pyHash_str h
  eqBool := fun hu hv h => by
    rcases keyIs_shape hu with ⟨i, t, rfl, rfl⟩ | ⟨x, t, rfl, rfl⟩
    · rcases keyIs_shape hv with ⟨j, u, rfl, rfl⟩ | ⟨y, u, rfl, rfl⟩
      · rw [key_ll] at h; exact wpAny_eqBool_int h
      · rw [key_lr] at h; exact SeqAt.EqAt.int_str i t y u _ _ _ _ h
    · rcases keyIs_shape hv with ⟨j, u, rfl, rfl⟩ | ⟨y, u, rfl, rfl⟩
      · rw [key_rl] at h; exact SeqAt.EqAt.str_int x t j u _ _ _ _ h
      · rw [key_rr] at h; exact wpAny_eqBool_str h
  «strs» := fun k x t v h => by
    rcases keyIs_shape h with ⟨i, u, rfl, e⟩ | ⟨y, u, rfl, e⟩
    · exact nomatch e
    · injection e with e1 _
      subst e1
      cases v <;> rfl

end L2

namespace L2
open PySem PySem.Spec PyProof.Rows

/-- a value, without the heap -/
inductive V where
  | non | bl (b : Bool) | int (i : Int) | str (x : Str) | byt (b : Array UInt8) | flt (b : UInt64) | ref (a : Addr) | ty (n : String)
  deriving DecidableEq

def RelV : V → Value → Prop
  | .non, u => u = Value.none
  | .bl b, u => u = Value.bool b
  | .int i, u => ∃ t, u = Value.int i t
  | .str x, u => ∃ t, u = Value.str x t
  | .byt b, u => ∃ t, u = Value.bytes b t
  | .flt b, u => ∃ t, u = Value.float b t
  | .ref a, u => u = Value.ref a
  | .ty n, u => u = Value.type n

abbrev Vals : List V → List Value → Prop := Paired RelV
theorem Vals.length {xs : List V} {us : List Value} (r : Vals xs us) : xs.length = us.length := Paired.length r
theorem Vals.get : ∀ {xs : List V} {us : List Value} {i : Nat} {x : V}, Vals xs us → xs[i]? = some x → ∃ u, us[i]? = some u ∧ RelV x u
  | _, _, _, _, .nil, e => by simp at e
  | _, _, 0, _, .cons r _, e => by simp at e; subst e; exact ⟨_, rfl, r⟩
  | _, _, i + 1, x, .cons _ t, e => by
    obtain ⟨u, h1, h2⟩ := Vals.get (i := i) (x := x) t (by simpa using e)
    exact ⟨u, by simpa using h1, h2⟩
theorem Vals.set {x : V} {u : Value} (r : RelV x u) : ∀ {xs : List V} {us : List Value} (i : Nat), Vals xs us → Vals (xs.set i x) (us.set i u)
  | _, _, _, .nil => .nil
  | _, _, 0, .cons _ t => .cons r t
  | _, _, i + 1, .cons q t => .cons q (Vals.set r i t)
theorem Vals.append : ∀ {xs ys : List V} {us ws : List Value}, Vals xs us → Vals ys ws → Vals (xs ++ ys) (us ++ ws)
  | _, _, _, _, .nil, s => s
  | _, _, _, _, .cons r t, s => .cons r (Vals.append t s)
theorem Vals.take : ∀ {xs : List V} {us : List Value} (n : Nat), Vals xs us → Vals (xs.take n) (us.take n)
  | _, _, 0, _ => .nil
  | _, _, _ + 1, .nil => .nil
  | _, _, n + 1, .cons r t => .cons r (Vals.take n t)
theorem Vals.drop : ∀ {xs : List V} {us : List Value} (n : Nat), Vals xs us → Vals (xs.drop n) (us.drop n)
  | _, _, 0, r => r
  | _, _, _ + 1, .nil => .nil
  | _, _, n + 1, .cons _ t => Vals.drop n t
theorem Vals.none_of : ∀ {xs : List V} {us : List Value} {i : Nat}, Vals xs us → xs[i]? = none → us[i]? = none := fun {xs us i} r e => by
  have h1 := r.length
  have h2 : xs.length ≤ i := List.getElem?_eq_none_iff.mp e
  exact List.getElem?_eq_none_iff.mpr (by omega)

def RelO : Option V → Option Value → Prop
  | some v, some u => RelV v u
  | none, none => True
  | _, _ => False
def KV {κ : Type} : List (κ × V) → List (κ × Value) → Prop := Paired fun (p : κ × V) (q : κ × Value) => p.1 = q.1 ∧ RelV p.2 q.2

/-- a key of a dict (00_mix): an int or a text -/
def kV : Key → V
  | .inl i => .int i
  | .inr x => .str x

/-- what stands at a tracked address -/
inductive HO where
  /-- a list -/
  | lst (xs : List V)
  /-- a tuple (never changes) -/
  | tup (xs : List V)
  /-- a dict whose keys are ints and texts; one whose keys are tuples of ints and texts (the empty one is both) -/
  | dK (kvs : List (Key × V)) | dT (kvs : List (List Key × V))
  /-- a set of ints: its members, its size -/
  | set (S : Int → Bool) (n : Nat)
  /-- an instance of the class at C, its dict at dx, its attributes -/
  | ins (C dx : Addr) (fs : List (Str × V))
  /-- the dict of the instance at x -/
  | own (x : Addr)
  /-- the dict of an exception -/
  | xd (fs : List (Str × V))
  /-- a bound method, f of x -/
  | met (f x : Addr)
  /-- a range object lo, lo + 1, .. below hi -/
  | rng (lo hi : Int)
  /-- a thing that is known to the object (the script; a dict while a loop walks it): read, never written while it is so -/
  | frz (o : Obj) (u : HO)
  /-- a code object's table -/
  | tbl (ps : Array Value)
  /-- any other thing, by what is true of its one object (a def of one's own: SetO a S n := HO.ext fun h => ..) -/
  | ext (φ : Heap → Prop)

abbrev Hp := Addr → Option HO
def upd (H : Hp) (a : Addr) (o : HO) : Hp := fun b => if b = a then some o else H b
theorem upd_same {H : Hp} {a : Addr} {o : HO} : upd H a o a = some o := by unfold upd; rw [if_pos rfl]
theorem upd_ne {H : Hp} {a b : Addr} {o : HO} (h : b ≠ a) : upd H a o b = H b := by unfold upd; rw [if_neg h]
/-- two objects of different content stand apart -/
theorem ne_of {H : Hp} {a b : Addr} {o u : HO} (h : H a = some o) (h' : H b = some u) (d : o ≠ u) : a ≠ b := by
  intro e; subst e; rw [h] at h'; exact d (Option.some.inj h')
theorem ne_of_none {H : Hp} {a b : Addr} {o : HO} (h : H a = some o) (h' : H b = none) : a ≠ b := by
  intro e; subst e; rw [h] at h'; cases h'

section
variable (P : Program) (w : World)
def ObjOk (H : Hp) (h : Heap) (a : Addr) : HO → Prop
  | .lst xs => xs.length ≤ sizeLine ∧ ∃ (its : List Value) (n : Nat), Vals xs its ∧ h.get? a = some { cls := .type "list", data := .seq its.toArray n }
  | .tup xs => xs.length ≤ sizeLine ∧ ∃ its : List Value, Vals xs its ∧ IsTup h a its.toArray
  | .dK kvs => kvs.length ≤ sizeLine ∧ (a == sysModules) = false ∧ ∃ vs, KV kvs vs ∧ h.DictOf (mixKind P w) a vs
  | .dT kvs => kvs.length ≤ sizeLine ∧ (a == sysModules) = false ∧ ∃ xs : List (List Key × Addr × Value),
      Paired (fun (p : List Key × V) (q : List Key × Addr × Value) => p.1 = q.1 ∧ H q.2.1 = some (.tup (p.1.map kV)) ∧ RelV p.2 q.2.2) kvs xs ∧
      ∃ o es ep, h.get? a = some o ∧ o.ExactDict ∧ o.data = .dict es ep ∧ es.toList = xs.map (entryOfKey (tupleKind (mixKind P w))) ∧ (xs.map (·.1)).Nodup
  | .set S n => h.SetOf (intKind P w) a S n
  | .ins C dx fs => H dx = some (.own a) ∧ fs.length ≤ 1000 ∧ dx ≠ a ∧ h.get? a = some (PySem.W.instObj C dx) ∧
      ∃ mA, h.Ns1 dx mA ∧ (∀ f, RelO (fs.lookup f) (mA f)) ∧ PySem.Within mA (fs.map (·.1))
  | .own _ => ∃ o, h.get? a = some o
  | .xd fs => ∃ mA, h.Ns1 a mA ∧ ∀ f, RelO (fs.lookup f) (mA f)
  | .rng lo hi => ∃ t u v, h.get? a = some { cls := .type "range", data := .fields #[.int lo t, .int hi u, .int 1 v] }
  | .frz o u => h.get? a = some o ∧ ObjOk H h a u
  | .tbl ps => h.get? a = some { cls := .none, data := .fields ps }
  | .met f x => h.get? a = some (PySem.W.methodObj (.ref f) (.ref x))
  | .ext φ => φ h ∧ (∃ o, h.get? a = some o) ∧ ∀ h1 h2 : Heap, φ h1 → (∀ o, h1.get? a = some o → h2.get? a = some o) → φ h2
/-- the abstract heap is held -/
def HOk (H : Hp) (h : Heap) : Prop := ∀ a o, H a = some o → ObjOk P w H h a o
end

section
variable {P : Program} {w : World} {H H' : Hp} {h h' : Heap} {a : Addr} {o : HO}
theorem ObjOk.lt (x : ObjOk P w H h a o) : a < h.objs.size := by
  cases o with
  | lst xs => obtain ⟨_, _, _, _, e⟩ := x; exact Heap.lt_size e
  | tup xs => obtain ⟨_, _, _, p⟩ := x; exact p.lt
  | dK kvs => obtain ⟨_, _, _, _, o, _, _, e, _⟩ := x; exact Heap.lt_size e
  | dT kvs => obtain ⟨_, _, _, _, o, _, _, e, _⟩ := x; exact Heap.lt_size e
  | set S n => obtain ⟨o, _, _, _, e, _⟩ := x; exact Heap.lt_size e
  | ins C dx fs => obtain ⟨_, _, _, e, _⟩ := x; exact Heap.lt_size e
  | own y => obtain ⟨_, e⟩ := x; exact Heap.lt_size e
  | xd fs => obtain ⟨_, ⟨_, _, _, e, _⟩, _⟩ := x; exact Heap.lt_size e
  | rng lo hi => obtain ⟨_, _, _, e⟩ := x; exact Heap.lt_size e
  | frz ob u => obtain ⟨e, _⟩ := x; exact Heap.lt_size e
  | tbl ps => exact Heap.lt_size (show h.get? a = some _ from x)
  | met f y => exact Heap.lt_size (show h.get? a = some _ from x)
  | ext φ => obtain ⟨_, ⟨_, e⟩, _⟩ := x; exact Heap.lt_size e
theorem Paired.mapP {α β : Type} {F G : α → β → Prop} : ∀ {l₁ : List α} {l₂ : List β}, Paired F l₁ l₂ → (∀ a b, F a b → G a b) → Paired G l₁ l₂
  | _, _, .nil, _ => .nil
  | _, _, .cons r t, f => .cons (f _ _ r) (Paired.mapP t f)
/-- what an object's description leans on: its own object, its own dict, the tuples -/
theorem ObjOk.stay (x : ObjOk P w H h a o) (k : ∀ b u, (b = a ∨ H b = some (.own a)) → h.get? b = some u → h'.get? b = some u)
    (ho : ∀ b, H b = some (.own a) → H' b = some (.own a)) (ht : ∀ b xs, H b = some (.tup xs) → H' b = some (.tup xs)) : ObjOk P w H' h' a o := by
  induction o with
  | lst xs => obtain ⟨z, its, n, r, e⟩ := x; exact ⟨z, its, n, r, k _ _ (.inl rfl) e⟩
  | tup xs => obtain ⟨z, its, r, ob, e, c⟩ := x; exact ⟨z, its, r, ob, k _ _ (.inl rfl) e, c⟩
  | dK kvs => obtain ⟨z, y, vs, r, ob, es, ep, e, c⟩ := x; exact ⟨z, y, vs, r, ob, es, ep, k _ _ (.inl rfl) e, c⟩
  | dT kvs =>
    obtain ⟨z, y, xs, r, ob, es, ep, e, c⟩ := x
    exact ⟨z, y, xs, Paired.mapP r fun p q z => ⟨z.1, ht _ _ z.2.1, z.2.2⟩, ob, es, ep, k _ _ (.inl rfl) e, c⟩
  | set S n => obtain ⟨ob, es, ep, t, e, c⟩ := x; exact ⟨ob, es, ep, t, k _ _ (.inl rfl) e, c⟩
  | ins C dx fs =>
    obtain ⟨d, z, ne, e, mA, ⟨od, es, ep, e2, c⟩, r⟩ := x
    exact ⟨ho _ d, z, ne, k _ _ (.inl rfl) e, mA, ⟨od, es, ep, k _ _ (.inr d) e2, c⟩, r⟩
  | own y => obtain ⟨ob, e⟩ := x; exact ⟨ob, k _ _ (.inl rfl) e⟩
  | xd fs => obtain ⟨mA, ⟨od, es, ep, e, c⟩, r⟩ := x; exact ⟨mA, ⟨od, es, ep, k _ _ (.inl rfl) e, c⟩, r⟩
  | rng lo hi => obtain ⟨t, u, v, e⟩ := x; exact ⟨t, u, v, k _ _ (.inl rfl) e⟩
  | frz ob u ih => obtain ⟨e, q⟩ := x; exact ⟨k _ _ (.inl rfl) e, ih q⟩
  | tbl ps =>
    have e : h.get? a = some { cls := .none, data := .fields ps } := x
    show h'.get? a = some { cls := .none, data := .fields ps }
    exact k a _ (.inl rfl) e
  | met f y =>
    have e : h.get? a = some (PySem.W.methodObj (.ref f) (.ref y)) := x
    show h'.get? a = some (PySem.W.methodObj (.ref f) (.ref y))
    exact k a _ (.inl rfl) e
  | ext φ => obtain ⟨p, ⟨o, e⟩, st⟩ := x; exact ⟨st _ _ p fun o q => k _ _ (.inl rfl) q, ⟨o, k _ _ (.inl rfl) e⟩, st⟩
theorem HOk.lt (x : HOk P w H h) (e : H a = some o) : a < h.objs.size := (x a o e).lt
theorem HOk.fresh (x : HOk P w H h) (e : h.objs.size ≤ a) : H a = none := by
  cases q : H a with
  | none => rfl
  | some u => exact absurd (Nat.lt_of_lt_of_le (x.lt q) e) (Nat.lt_irrefl _)
/-- every object of the heap is kept -/
theorem HOk.kept (x : HOk P w H h) (k : ∀ b u, h.get? b = some u → h'.get? b = some u) : HOk P w H h' := fun a o e =>
  (x a o e).stay (fun b u _ q => k b u q) (fun _ q => q) fun _ _ q => q
/-- a new object is laid and tracked -/
theorem HOk.laid (x : HOk P w H h) (k : ∀ b u, h.get? b = some u → h'.get? b = some u) (hp : h.objs.size ≤ a) (new : ObjOk P w (upd H a o) h' a o) : HOk P w (upd H a o) h' := fun b u e => by
  have hn := x.fresh hp
  by_cases hb : b = a
  · subst hb; rw [upd_same] at e; cases e; exact new
  · rw [upd_ne hb] at e
    exact (x b u e).stay (fun c v _ q => k c v q) (fun c q => by rw [upd_ne (ne_of_none q hn)]; exact q) fun c xs q => by rw [upd_ne (ne_of_none q hn)]; exact q
end

/-- what may be read as u: it is u, or a known u -/
def Rd (H : Hp) (a : Addr) (u : HO) : Prop := H a = some u ∨ ∃ o, H a = some (.frz o u)
theorem Rd.of {H : Hp} {a : Addr} {u : HO} (h : H a = some u) : Rd H a u := .inl h
theorem Rd.ok {P : Program} {w : World} {H : Hp} {h : Heap} {a : Addr} {u : HO} (r : Rd H a u) (x : HOk P w H h) : ObjOk P w H h a u := by
  rcases r with r | ⟨o, r⟩
  · exact x a u r
  · obtain ⟨_, q⟩ := x a _ r
    exact q
/-- what may be written -/
def Mut : Option HO → Prop
  | some (.lst _) => True
  | some (.dK _) => True
  | some (.dT _) => True
  | some (.set _ _) => True
  | some (.ins _ _ _) => True
  | some (.ext _) => True
  | _ => False
section
variable {P : Program} {w : World} {H : Hp} {h h' : Heap} {x e : Addr} {o' : HO}
/-- the object at e is changed: x itself, or the dict of the instance x -/
theorem HOk.write (ok : HOk P w H h) (mu : Mut (H x)) (he : e = x ∨ H e = some (.own x)) (k : ∀ b u, b ≠ e → h.get? b = some u → h'.get? b = some u) (heo : ∃ u, h'.get? e = some u)
    (new : ObjOk P w (upd H x o') h' x o') : HOk P w (upd H x o') h' := fun b u q => by
  have nown : ∀ c y, H c = some (.own y) → c ≠ x := fun c y r z => by subst z; rw [r] at mu; exact mu
  have ntup : ∀ c xs, H c = some (.tup xs) → c ≠ x := fun c xs r z => by subst z; rw [r] at mu; exact mu
  by_cases hb : b = x
  · subst hb; rw [upd_same] at q; cases q; exact new
  · rw [upd_ne hb] at q
    by_cases hbe : b = e
    · have q' : H b = some (.own x) := by
        rcases he with z | z
        · exact absurd (hbe.trans z) hb
        · rw [hbe]; exact z
      rw [q] at q'; cases q'
      obtain ⟨v, hv⟩ := heo
      exact ⟨v, by rw [hbe]; exact hv⟩
    · refine (ok b u q).stay (fun c v hc r => k c v ?_ r) (fun c r => by rw [upd_ne (nown c b r)]; exact r) fun c xs r => by rw [upd_ne (ntup c xs r)]; exact r
      rcases hc with rfl | hc
      · exact hbe
      · rintro rfl
        rcases he with z | z
        · exact nown c b hc z
        · rw [hc] at z; cases z; exact hb rfl
end

/-! ### kept unless tracked; of the frames at fs (the callers') the slots may change (an exception that passes writes there); of the records at ex (iterators) nothing is said -/
structure Un (fs ex : List Addr) (H H' : Hp) (h h' : Heap) : Prop where
  keep : ∀ b o, h.get? b = some o → H b = none → b ∉ fs → b ∉ ex → h'.get? b = some o
  slot : ∀ b o, h.get? b = some o → H b = none → b ∈ fs → b ∉ ex → ∃ sl, h'.get? b = some { o with slots := sl }
  free : ∀ b o, h.get? b = some o → H b = none → b ∉ ex → H' b = none
  there : ∀ b o, h.get? b = some o → b ∉ ex → ∃ o', h'.get? b = some o'
  tups : ∀ b xs, H b = some (.tup xs) → H' b = some (.tup xs)
  frzs : ∀ b o u, H b = some (.frz o u) → H' b = some (.frz o u)
  tbls : ∀ b ps, H b = some (.tbl ps) → ∃ more, H' b = some (.tbl (ps ++ more))
section
variable {fs fs' ex ex' : List Addr} {H H1 H2 : Hp} {h h1 h2 h' : Heap} {a x e : Addr} {o : HO}
theorem Un.any (u : Un fs ex H H1 h h1) {b : Addr} {ob : Obj} (q : h.get? b = some ob) (n : H b = none) (hx : b ∉ ex) : ∃ sl, h1.get? b = some { ob with slots := sl } := by
  by_cases hb : b ∈ fs
  · exact u.slot b ob q n hb hx
  · exact ⟨ob.slots, u.keep b ob q n hb hx⟩
theorem Un.trans (a : Un fs ex H H1 h h1) (b : Un fs ex H1 H2 h1 h2) : Un fs ex H H2 h h2 where
  keep := fun c ob q n hc hx => b.keep c ob (a.keep c ob q n hc hx) (a.free c ob q n hx) hc hx
  slot := fun c ob q n hc hx => by
    obtain ⟨sl, e1⟩ := a.slot c ob q n hc hx
    obtain ⟨sl', e2⟩ := b.slot c _ e1 (a.free c ob q n hx) hc hx
    exact ⟨sl', e2⟩
  free := fun c ob q n hx => by
    obtain ⟨o', e1⟩ := a.there c ob q hx
    exact b.free c o' e1 (a.free c ob q n hx) hx
  there := fun c ob q hx => by
    obtain ⟨o', e1⟩ := a.there c ob q hx
    exact b.there c o' e1 hx
  tups := fun c xs q => b.tups c xs (a.tups c xs q)
  frzs := fun c ob xs q => b.frzs c ob xs (a.frzs c ob xs q)
  tbls := fun c ps q => by
    obtain ⟨m1, e1⟩ := a.tbls c ps q
    obtain ⟨m2, e2⟩ := b.tbls c _ e1
    exact ⟨m1 ++ m2, by rw [e2, Array.append_assoc]⟩
theorem Un.kept (k : ∀ b u, h.get? b = some u → h'.get? b = some u) : Un fs ex H H h h' :=
  ⟨fun b ob q _ _ _ => k b ob q, fun b ob q _ _ _ => ⟨ob.slots, k b ob q⟩, fun _ _ _ n _ => n, fun b ob q _ => ⟨ob, k b ob q⟩, fun _ _ q => q, fun _ _ _ q => q, fun _ ps q => ⟨#[], by rw [q]; simp⟩⟩
theorem Un.refl : Un fs ex H H h h := Un.kept fun _ _ q => q
theorem Un.laid (k : ∀ b u, h.get? b = some u → h'.get? b = some u) (hp : h.objs.size ≤ a) (hn : H a = none) : Un fs ex H (upd H a o) h h' where
  keep := fun b u q _ _ _ => k b u q
  slot := fun b u q _ _ _ => ⟨u.slots, k b u q⟩
  free := fun b u q n _ => by rw [upd_ne (Nat.ne_of_lt (Nat.lt_of_lt_of_le (Heap.lt_size q) hp))]; exact n
  there := fun b u q _ => ⟨u, k b u q⟩
  tups := fun b xs q => by rw [upd_ne (ne_of_none q hn)]; exact q
  frzs := fun b u xs q => by rw [upd_ne (ne_of_none q hn)]; exact q
  tbls := fun b ps q => ⟨#[], by rw [upd_ne (ne_of_none q hn), q]; simp⟩
theorem Un.write (mu : Mut (H x)) (he : e = x ∨ H e = some (.own x)) (k : ∀ b u, b ≠ e → h.get? b = some u → h'.get? b = some u) (heo : ∃ u, h'.get? e = some u) : Un fs ex H (upd H x o) h h' := by
  have hx : ∀ b, H b = none → b ≠ x := fun b n z => by subst z; rw [n] at mu; exact mu
  have hb : ∀ b, H b = none → b ≠ e := fun b n z => by
    subst z
    rcases he with r | r
    · exact hx b n r
    · rw [n] at r; cases r
  have hm : ∀ b u, H b = some u → ¬ Mut (some u) → b ≠ x := fun b u q nm z => by subst z; rw [q] at mu; exact nm mu
  refine ⟨fun b u q n _ _ => k b u (hb b n) q, fun b u q n _ _ => ⟨u.slots, k b u (hb b n) q⟩, fun b u q n _ => by rw [upd_ne (hx b n)]; exact n, fun b u q _ => ?_,
    fun b xs q => by rw [upd_ne (hm b _ q fun z => z)]; exact q, fun b u xs q => by rw [upd_ne (hm b _ q fun z => z)]; exact q, fun b ps q => ⟨#[], by rw [upd_ne (hm b _ q fun z => z), q]; simp⟩⟩
  by_cases hbe : b = e
  · subst hbe; exact heo
  · exact ⟨u, k b u hbe q⟩
theorem Un.mono (u : Un fs ex H H1 h h1) (hs : ∀ b ∈ fs, b ∈ fs') (hx : ∀ b ∈ ex, b ∈ ex') : Un fs' ex' H H1 h h1 :=
  ⟨fun b ob q n hb he => u.keep b ob q n (fun z => hb (hs b z)) fun z => he (hx b z), fun _ _ q n _ he => u.any q n fun z => he (hx _ z), fun b ob q n he => u.free b ob q n fun z => he (hx b z), fun b ob q he => u.there b ob q fun z => he (hx b z), u.tups, u.frzs, u.tbls⟩
end

/-! ### the heap without what is tracked -/
def trk (h : Heap) (H : Hp) : List Addr := (List.range h.objs.size).filter fun a => (H a).isSome
def hidT (h : Heap) (H : Hp) : Heap := PySem.W.hideAll h (trk h H)
theorem hidT_size (h : Heap) (H : Hp) : (hidT h H).objs.size = h.objs.size := PySem.W.hideAll_size _ _
theorem hidT_get {h : Heap} {H : Hp} {b : Addr} {o : Obj} (e : h.get? b = some o) (n : H b = none) : (hidT h H).get? b = some o :=
  PySem.W.hideAll_get _ e fun hm => by
    have q : (H b).isSome = true := (List.mem_filter.mp hm).2
    rw [n] at q; simp at q
theorem of_hidT {h : Heap} {H : Hp} {b : Addr} {o : Obj} (e : (hidT h H).get? b = some o) : h.get? b = some o ∧ H b = none := by
  have e' : h.get? b = some o := PySem.W.of_hideAll (trk h H) e
  refine ⟨e', ?_⟩
  cases q : H b with
  | none => rfl
  | some x =>
    have hm : b ∈ trk h H := List.mem_filter.mpr ⟨List.mem_range.mpr (Heap.lt_size e'), by simp [q]⟩
    have z : (hidT h H).get? b = none := PySem.W.hideAll_none (trk h H) hm
    rw [z] at e; cases e

/-! ### OpenK's ledger, filled with every new object but one -/
def allNews (g h : Heap) (L : Addr) : List (Addr × Obj) := (List.range h.objs.size).filterMap fun a => if a = L ∨ (g.get? a).isSome = true then none else (h.get? a).map fun o => (a, o)
def rest (g h : Heap) (L d : Addr) : List (Addr × Obj) := (allNews g h L).filter fun p => decide (p.1 ≠ d)
end L2

namespace L2
open PySem PySem.Spec PyProof.Rows

/-- the module's facts, over the base: the heap at the law's entry without what is tracked there -/
structure Mod (K : PySem.W.Frag) (mg : Str → Option Value) (base : Heap) : Prop where
  kin : K.In base
  glob : base.Ns mainGlobals mg
  blt : ∃ mb, base.Ns builtinsNs mb ∧ ∀ x : Str, x ≠ "__name__" → mb x = bootBuiltins x
  nolimit : base.NoLimit

/-- the context: a def's body (or a comprehension's block) running. base: fixed through the whole law; s₀, H₀: the entry; outer: the frames whose slots others may change (a def's callers); stack: all frames that run;
   ex: iterators that were made ahead of the entry and are walked here (a comprehension's); fn: the names whose cells were made at the entry (a def: all; a comprehension's block: its own); calm: not within an except suite; pn: pins that every state bears; xe: what is wanted of an exception that leaves the code -/
structure Cx where
  prog : Program
  w : World
  K : PySem.W.Frag
  mg : Str → Option Value
  base : Heap
  A : Around
  N : List Str
  s₀ : Shared
  H₀ : Hp
  env : Env
  outer : List Env
  stack : List Env
  ex : List Addr
  fn : Str → Bool
  calm : Bool
  pn : List (Addr × Obj)
  xe : Value → Shared → Prop
/-- the callers' frames -/
def frs (l : List Env) : List Addr := l.filterMap (·.frame)
abbrev Cx.fs (X : Cx) : List Addr := frs X.outer

def Vis (sc : Scope) (x : Str) : Prop := sc.names.lookup x = some .local ∨ sc.names.lookup x = some .cell ∨ sc.names.lookup x = some .free
def Loc (sc : Scope) (x : Str) : Prop := sc.names.lookup x = some .local ∨ sc.names.lookup x = some .cell
def Look (env : Env) (h : Heap) (m : Str → Option Value) (x : Str) (u : Value) : Prop :=
  (env.kindOf x = some .local ∧ m x = some u) ∨ ((env.kindOf x = some .cell ∨ env.kindOf x = some .free) ∧ ∃ c, env.cells.lookup x = some c ∧ h.IsCell c (some u))

structure Cx.Ok (X : Cx) : Prop where
  mod : Mod X.K X.mg X.base
  kind : X.env.scope.kind = .function
  glob : X.env.globals = mainGlobals
  blt : X.env.builtins = builtinsNs
  above : X.s₀.heap.objs.size ≤ X.env.locals
  inj : ∀ x y c, X.env.cells.lookup x = some c → X.env.cells.lookup y = some c → x = y
  has : ∀ x, (X.env.kindOf x = some .cell ∨ X.env.kindOf x = some .free) → ∃ c, X.env.cells.lookup x = some c
  cab : ∀ x c, X.fn x = true → X.env.cells.lookup x = some c → X.s₀.heap.objs.size ≤ c
  hd : X.calm = true → X.A.handled = none
  frames : X.A.frames = some X.stack
  stk : X.stack = X.outer ∨ (X.stack = X.env :: X.outer ∧ X.env.frame = some X.env.locals)
  exf : ∀ b ∈ X.ex, b ≠ X.env.locals ∧ ∀ x c, X.env.cells.lookup x = some c → c ≠ b
  bs : ∀ b o, X.base.get? b = some o → X.s₀.heap.get? b = some o ∧ X.H₀ b = none
  bsz : X.base.objs.size ≤ X.s₀.heap.objs.size
  noex : ∀ b o, X.base.get? b = some o → b ∉ X.ex
  exfs : ∀ b ∈ X.ex, b ∉ X.fs
  funs : X.s₀.heap.FunFrames X.base X.outer
  frf : ∀ b ∈ X.fs, X.H₀ b = none

structure Inv (X : Cx) (pins : List (Addr × Obj)) (σ : List (Option V)) (H : Hp) (s : Shared) : Prop where
  ok : X.Ok
  os : s.os = X.s₀.os
  bare : AllBare s.gens
  base : Un X.fs X.ex X.H₀ H X.s₀.heap s.heap
  loc : ∃ m, s.heap.Ns X.env.locals m ∧ ∀ (i : Nat) (x : Str) (v : V), X.N[i]? = some x → σ[i]? = some (some v) → Vis X.env.scope x → ∃ u, RelV v u ∧ Look X.env s.heap m x u
  cell : ∀ x c, X.env.cells.lookup x = some c → ∃ v, s.heap.IsCell c v
  free : H X.env.locals = none
  freeC : ∀ x c, X.env.cells.lookup x = some c → H c = none
  pin : ∀ p ∈ X.pn ++ pins, s.heap.get? p.1 = some p.2 ∧ H p.1 = none ∧ p.1 ≠ X.env.locals ∧ p.1 ∉ X.fs ∧ ∀ v, p.2.data ≠ .cell v
  hok : HOk X.prog X.w H s.heap
  len : σ.length = X.N.length

section
variable {X : Cx} {pins : List (Addr × Obj)} {σ : List (Option V)} {H H' : Hp} {s : Shared} {h' : Heap}

theorem Cx.Ok.nofr (ok : X.Ok) {b : Addr} {o : Obj} (e : X.base.get? b = some o) : b ∉ X.fs := fun hb => by
  have := (ok.funs.mem hb).1
  rw [e] at this; cases this
theorem Inv.bs (I : Inv X pins σ H s) : ∀ b o, X.base.get? b = some o → s.heap.get? b = some o ∧ H b = none := fun b o e =>
  ⟨I.base.keep b o (I.ok.bs b o e).1 (I.ok.bs b o e).2 (I.ok.nofr e) (I.ok.noex b o e), I.base.free b o (I.ok.bs b o e).1 (I.ok.bs b o e).2 (I.ok.noex b o e)⟩
theorem Inv.bk (I : Inv X pins σ H s) : ∀ b o, X.base.get? b = some o → s.heap.get? b = some o := fun b o e => (I.bs b o e).1
theorem Inv.mod (I : Inv X pins σ H s) : Mod X.K X.mg X.base := I.ok.mod
theorem Inv.kIn (I : Inv X pins σ H s) : X.K.In s.heap := I.ok.mod.kin.keeps I.bk
theorem Inv.nolimit (I : Inv X pins σ H s) : s.heap.NoLimit := I.ok.mod.nolimit.keeps I.bk
/-- the frame over the base: for OpenK's rules (K.In X.base is I.mod.kin) -/
theorem Inv.fr (I : Inv X pins σ H s) : ∃ m, Fr X.base X.env.locals s.heap m :=
  let ⟨m, hn, _⟩ := I.loc
  ⟨m, hn, I.bk, Nat.le_trans I.ok.bsz I.ok.above⟩
theorem Inv.lt (I : Inv X pins σ H s) : X.env.locals < s.heap.objs.size := let ⟨_, hn, _⟩ := I.loc; hn.lt
theorem Inv.sz (I : Inv X pins σ H s) : X.s₀.heap.objs.size ≤ s.heap.objs.size := Nat.le_trans I.ok.above (Nat.le_of_lt I.lt)
theorem Inv.nofs (I : Inv X pins σ H s) {a : Addr} (h : s.heap.objs.size ≤ a) : a ∉ X.fs := fun hb => by
  obtain ⟨_, o, ho, _⟩ := I.ok.funs.mem hb
  exact absurd (Nat.lt_of_lt_of_le (Heap.lt_size ho) (Nat.le_trans I.sz h)) (Nat.lt_irrefl _)
theorem Inv.cne (I : Inv X pins σ H s) : ∀ x c, X.env.cells.lookup x = some c → c ≠ X.env.locals := fun x c e z => by
  obtain ⟨v, o, ho, hd⟩ := I.cell x c e
  obtain ⟨m, ⟨o', es, ep, ho', hd', _⟩, _⟩ := I.loc
  rw [z, ho'] at ho; cases ho; rw [hd'] at hd; cases hd
theorem Inv.funs (I : Inv X pins σ H s) : s.heap.FunFrames X.base X.outer := by
  have all : ∀ (l : List Env), (∀ b ∈ frs l, b ∈ X.fs) → X.s₀.heap.FunFrames X.base l → s.heap.FunFrames X.base l := by
    intro l
    induction l with
    | nil => intro _ _; trivial
    | cons env r ih =>
      intro hs hl
      obtain ⟨hk, ⟨L, o, hf, hn, ho, hd⟩, hr⟩ := hl
      have hL : L ∈ X.fs := hs L (by unfold frs; rw [List.filterMap_cons, hf]; exact List.mem_cons_self)
      obtain ⟨sl, e⟩ := I.base.slot L o ho (I.ok.frf L hL) hL fun z => I.ok.exfs L z hL
      exact ⟨hk, ⟨L, _, hf, hn, e, hd⟩, ih (fun b hb => hs b (by unfold frs; rw [List.filterMap_cons, hf]; exact List.mem_cons_of_mem _ hb)) hr⟩
  exact all X.outer (fun _ hb => hb) I.ok.funs

/-- the frames that run, for a call -/
theorem Inv.stack (I : Inv X pins σ H s) : s.heap.FunFrames X.base X.stack := by
  rcases I.ok.stk with e | ⟨e, hf⟩
  · rw [e]; exact I.funs
  · rw [e]
    obtain ⟨m, hn, _⟩ := I.loc
    refine .cons (by rw [I.ok.kind]; decide) hf hn ?_ I.funs
    exact Heap.get?_none_of_le (Nat.le_trans I.ok.bsz I.ok.above)
theorem Inv.stkSub (I : Inv X pins σ H s) : ∀ b ∈ frs X.stack, b ∈ X.env.locals :: X.fs := fun b hb => by
  rcases I.ok.stk with e | ⟨e, hf⟩
  · rw [e] at hb; exact List.mem_cons_of_mem _ hb
  · rw [e] at hb
    unfold frs at hb
    rw [List.filterMap_cons, hf] at hb
    exact hb
theorem Inv.stkFree (I : Inv X pins σ H s) : ∀ b ∈ frs X.stack, H b = none := fun b hb => by
  rcases List.mem_cons.mp (I.stkSub b hb) with e | hb
  · rw [e]; exact I.free
  · obtain ⟨_, o, ho, _⟩ := I.ok.funs.mem hb
    exact I.base.free b o ho (I.ok.frf b hb) fun z => I.ok.exfs b z hb

/-- THE STEP: the untracked objects but the frame and the records at ch are kept (the callers' frames up to slots), the frame's map is kept, the new abstract heap is held -/
theorem Inv.step {g' : Array GenState} {t' : Nat} {d' : Drawn} {ch : List Addr} (I : Inv X pins σ H s)
    (hch : ∀ b ∈ ch, (b ∈ X.ex ∨ X.s₀.heap.objs.size ≤ b) ∧ b ≠ X.env.locals ∧ (∀ x c, X.env.cells.lookup x = some c → c ≠ b) ∧ ∀ p ∈ X.pn ++ pins, p.1 ≠ b)
    (keep : ∀ b o, b ≠ X.env.locals → b ∉ X.fs → b ∉ ch → s.heap.get? b = some o → H b = none → h'.get? b = some o)
    (slot : ∀ b o, b ≠ X.env.locals → b ∈ X.fs → b ∉ ch → s.heap.get? b = some o → H b = none → ∃ sl, h'.get? b = some { o with slots := sl }) (free : ∀ b o, b ∉ ch → s.heap.get? b = some o → H b = none → H' b = none)
    (there : ∀ b o, b ∉ ch → s.heap.get? b = some o → ∃ o', h'.get? b = some o')
    (tups : ∀ b xs, H b = some (.tup xs) → H' b = some (.tup xs)) (frzs : ∀ b o u, H b = some (.frz o u) → H' b = some (.frz o u)) (tbls : ∀ b ps, H b = some (.tbl ps) → ∃ more, H' b = some (.tbl (ps ++ more)))
    (ns : ∀ m, s.heap.Ns X.env.locals m → h'.Ns X.env.locals m) (hok : HOk X.prog X.w H' h') (hg : AllBare g') :
    Inv X pins σ H' { s with heap := h', gens := g', drawn := d', toks := t' } := by
  have neL : ∀ b o, X.s₀.heap.get? b = some o → b ≠ X.env.locals := fun b o e => Nat.ne_of_lt (Nat.lt_of_lt_of_le (Heap.lt_size e) I.ok.above)
  have neC : ∀ b o, X.s₀.heap.get? b = some o → b ∉ X.ex → b ∉ ch := fun b o e hx hb => by
    rcases (hch b hb).1 with z | z
    · exact hx z
    · exact absurd (Nat.lt_of_lt_of_le (Heap.lt_size e) z) (Nat.lt_irrefl _)
  have cellK : ∀ x c, X.env.cells.lookup x = some c → ∀ v, s.heap.IsCell c v → h'.IsCell c v := fun x c e v ⟨o, ho, hd⟩ => by
    have nch : c ∉ ch := fun z => (hch c z).2.2.1 x c e rfl
    by_cases hc : c ∈ X.fs
    · obtain ⟨sl, q⟩ := slot c o (I.cne x c e) hc nch ho (I.freeC x c e)
      exact ⟨_, q, hd⟩
    · exact ⟨o, keep c o (I.cne x c e) hc nch ho (I.freeC x c e), hd⟩
  refine ⟨I.ok, I.os, hg, ⟨fun b o e n hb hx => ?_, fun b o e n hb hx => ?_, fun b o e n hx => ?_, fun b o e hx => ?_, fun b xs e => tups b xs (I.base.tups b xs e), fun b o xs e => frzs b o xs (I.base.frzs b o xs e), fun b ps e => ?_⟩, ?_, fun x c e => ?_, ?_, fun x c e => ?_, fun p hp => ?_, hok, I.len⟩
  · exact keep b o (neL b o e) hb (neC b o e hx) (I.base.keep b o e n hb hx) (I.base.free b o e n hx)
  · obtain ⟨sl, e1⟩ := I.base.slot b o e n hb hx
    obtain ⟨sl', e2⟩ := slot b _ (neL b o e) hb (neC b o e hx) e1 (I.base.free b o e n hx)
    exact ⟨sl', e2⟩
  · obtain ⟨o', e1⟩ := I.base.there b o e hx
    exact free b o' (neC b o e hx) e1 (I.base.free b o e n hx)
  · obtain ⟨o', e1⟩ := I.base.there b o e hx
    exact there b o' (neC b o e hx) e1
  · obtain ⟨m1, e1⟩ := I.base.tbls b ps e
    obtain ⟨m2, e2⟩ := tbls b _ e1
    exact ⟨m1 ++ m2, by rw [e2, Array.append_assoc]⟩
  · obtain ⟨m, hn, hl⟩ := I.loc
    refine ⟨m, ns m hn, fun i x v e1 e2 e3 => ?_⟩
    obtain ⟨u, r, l⟩ := hl i x v e1 e2 e3
    refine ⟨u, r, ?_⟩
    rcases l with l | ⟨k, c, e, z⟩
    · exact .inl l
    · exact .inr ⟨k, c, e, cellK x c e _ z⟩
  · obtain ⟨v, z⟩ := I.cell x c e
    exact ⟨v, cellK x c e v z⟩
  · obtain ⟨m, ⟨o, _, _, ho, _⟩, _⟩ := I.loc
    exact free _ o (fun z => (hch _ z).2.1 rfl) ho I.free
  · obtain ⟨v, o, ho, hd⟩ := I.cell x c e
    exact free c o (fun z => (hch c z).2.2.1 x c e rfl) ho (I.freeC x c e)
  · obtain ⟨e, n, ne, nf, d⟩ := I.pin p hp
    have nch : p.1 ∉ ch := fun z => (hch p.1 z).2.2.2 p hp rfl
    exact ⟨keep p.1 p.2 ne nf nch e n, free p.1 p.2 nch e n, ne, nf, d⟩
/-- .. where the frame's own object is kept too -/
theorem Inv.un {t' : Nat} (I : Inv X pins σ H s) (u : Un X.fs [] H H' s.heap h') (hok : HOk X.prog X.w H' h') : Inv X pins σ H' { s with heap := h', toks := t' } := by
  obtain ⟨m, ⟨o, es, ep, ho, r⟩, _⟩ := id I.loc
  obtain ⟨sl, hL⟩ := u.any ho I.free (by simp)
  exact I.step (g' := s.gens) (d' := s.drawn) (ch := []) (fun _ z => nomatch z) (fun b o _ hb _ e n => u.keep b o e n hb (by simp)) (fun b o _ hb _ e n => u.slot b o e n hb (by simp)) (fun b o _ e n => u.free b o e n (by simp)) (fun b o _ e => u.there b o e (by simp)) u.tups u.frzs u.tbls (fun m' hm => by
    obtain ⟨o', es', ep', ho', r'⟩ := hm
    rw [ho] at ho'; cases ho'
    exact ⟨_, es', ep', hL, r'⟩) hok I.bare
/-- behind a call (or a comprehension's block): the slots of this frame may have changed too, the records at ch may have turned -/
theorem Inv.call {g' : Array GenState} {t' : Nat} {d' : Drawn} {ch : List Addr} (I : Inv X pins σ H s) (u : Un (frs X.stack) ch H H' s.heap h') (hok : HOk X.prog X.w H' h') (hg : AllBare g')
    (hch : ∀ b ∈ ch, (b ∈ X.ex ∨ X.s₀.heap.objs.size ≤ b) ∧ b ≠ X.env.locals ∧ (∀ x c, X.env.cells.lookup x = some c → c ≠ b) ∧ ∀ p ∈ X.pn ++ pins, p.1 ≠ b) :
    Inv X pins σ H' { s with heap := h', gens := g', drawn := d', toks := t' } := by
  obtain ⟨m, ⟨o, es, ep, ho, r⟩, _⟩ := id I.loc
  obtain ⟨sl, hL⟩ := u.any ho I.free fun z => (hch _ z).2.1 rfl
  exact I.step (ch := ch) hch (fun b o hL hb hc e n => u.keep b o e n (fun z => (List.mem_cons.mp (I.stkSub b z)).elim hL hb) hc) (fun b o _ _ hc e n => u.any e n hc) (fun b o hc e n => u.free b o e n hc) (fun b o hc e => u.there b o e hc) u.tups u.frzs u.tbls (fun m' hm => by
    obtain ⟨o', es', ep', ho', r'⟩ := hm
    rw [ho] at ho'; cases ho'
    exact ⟨_, es', ep', hL, r'⟩) hok hg
/-- an untracked record of ours (an iterator) has turned -/
theorem Inv.turned {t' : Nat} {it : Addr} (I : Inv X pins σ H s) (k : ∀ b o, b ≠ it → s.heap.get? b = some o → h'.get? b = some o) (hn : H it = none) (hL : it ≠ X.env.locals)
    (h1 : it ∈ X.ex ∨ X.s₀.heap.objs.size ≤ it) (h2 : ∀ x c, X.env.cells.lookup x = some c → c ≠ it) (h3 : ∀ p ∈ X.pn ++ pins, p.1 ≠ it) : Inv X pins σ H { s with heap := h', toks := t' } := by
  have nit : ∀ b u, H b = some u → b ≠ it := fun b u e z => by rw [z, hn] at e; cases e
  refine I.step (g' := s.gens) (d' := s.drawn) (ch := [it]) (fun b hb => ?_) (fun b o _ _ hc e _ => k b o (fun z => hc (by simp [z])) e) (fun b o _ _ hc e _ => ⟨o.slots, k b o (fun z => hc (by simp [z])) e⟩) (fun _ _ _ _ n => n)
    (fun b o hc e => ⟨o, k b o (fun z => hc (by simp [z])) e⟩) (fun _ _ e => e) (fun _ _ _ e => e) (fun b ps e => ⟨#[], by rw [e]; simp⟩) (fun m hm => ?_) (fun b u e => ?_) I.bare
  · have e : b = it := by simpa using hb
    subst e
    exact ⟨h1, hL, h2, h3⟩
  · obtain ⟨o, es, ep, ho, r⟩ := hm
    exact ⟨o, es, ep, k _ o (Ne.symm hL) ho, r⟩
  · refine (I.hok b u e).stay (fun c v hc q => k c v ?_ q) (fun _ q => q) fun _ _ q => q
    rcases hc with z | z
    · rw [z]; exact nit b u e
    · exact nit c _ z
theorem Inv.tok (I : Inv X pins σ H s) (t : Nat) : Inv X pins σ H { s with toks := t } := I.un (h' := s.heap) (t' := t) Un.refl I.hok
/-- all objects kept -/
theorem Inv.kept {t' : Nat} (I : Inv X pins σ H s) (k : ∀ b u, s.heap.get? b = some u → h'.get? b = some u) : Inv X pins σ H { s with heap := h', toks := t' } := I.un (Un.kept k) (I.hok.kept k)
/-- a new object laid and tracked -/
theorem Inv.laid {a : Addr} {o : HO} {t' : Nat} (I : Inv X pins σ H s) (k : ∀ b u, s.heap.get? b = some u → h'.get? b = some u) (hp : s.heap.objs.size ≤ a) (new : ObjOk X.prog X.w (upd H a o) h' a o) :
    Inv X pins σ (upd H a o) { s with heap := h', toks := t' } := I.un (Un.laid k hp (I.hok.fresh hp)) (I.hok.laid k hp new)
/-- an object written -/
theorem Inv.write {x e : Addr} {o : HO} {t' : Nat} (I : Inv X pins σ H s) (mu : Mut (H x)) (he : e = x ∨ H e = some (.own x)) (k : ∀ b u, b ≠ e → s.heap.get? b = some u → h'.get? b = some u) (heo : ∃ u, h'.get? e = some u)
    (new : ObjOk X.prog X.w (upd H x o) h' x o) : Inv X pins σ (upd H x o) { s with heap := h', toks := t' } := I.un (Un.write mu he k heo) (I.hok.write mu he k heo new)
theorem Inv.pins_of {pins' : List (Addr × Obj)} (I : Inv X pins σ H s) (h : ∀ p ∈ pins', s.heap.get? p.1 = some p.2 ∧ H p.1 = none ∧ p.1 ≠ X.env.locals ∧ p.1 ∉ X.fs ∧ ∀ v, p.2.data ≠ .cell v) : Inv X pins' σ H s :=
  ⟨I.ok, I.os, I.bare, I.base, I.loc, I.cell, I.free, I.freeC, fun p hp => (List.mem_append.mp hp).elim (fun z => I.pin p (List.mem_append_left _ z)) (h p), I.hok, I.len⟩

theorem nodup_ix {N : List Str} (hN : N.Nodup) {i j : Nat} {x : Str} (a : N[i]? = some x) (b : N[j]? = some x) : i = j := by
  obtain ⟨h1, e1⟩ := List.getElem?_eq_some_iff.mp a
  obtain ⟨h2, e2⟩ := List.getElem?_eq_some_iff.mp b
  exact (List.getElem_inj hN).mp (e1.trans e2.symm)

/-- a name is stored; what changed -/
theorem store_ok2 {M : Model} {A : Around} {E : Value → Shared → Prop} {i : Nat} {x : Str} {v : V} {u : Value} {Q : Unit → Shared → Prop} (I : Inv X pins σ H s) (hN : X.N.Nodup) (hi : X.N[i]? = some x) (hx : Loc X.env.scope x) (r : RelV v u)
    (h : ∀ s', Inv X pins (σ.set i (some v)) H s' → (∃ a, Heap.SameBut a s.heap s'.heap ∧ (a = X.env.locals ∨ X.env.cells.lookup x = some a)) → Q () s') (hf : X.fn x = true ∨ X.env.scope.names.lookup x = some .local := by first | exact .inl rfl | exact .inr rfl | assumption) : wpAny M A (storeName X.env x u) Q E s := by
  obtain ⟨m, hn, hl⟩ := id I.loc
  have hcls : (X.env.scope.kind == .class || (X.env.scope.kind == .module && X.env.locals != X.env.globals)) = false := by rw [I.ok.kind]; rfl
  have hiσ : i < σ.length := by rw [I.len]; exact (List.getElem?_eq_some_iff.mp hi).1
  have cne := I.cne
  have tracked : ∀ {a : Addr} {h' : Heap}, (∃ o, s.heap.get? a = some o ∧ H a = none) → Heap.SameBut a s.heap h' → HOk X.prog X.w H h' := fun {a h'} ha hs b ob e => by
    obtain ⟨_, _, hfree⟩ := ha
    refine (I.hok b ob e).stay (fun c w' hc q => (hs.2 c ?_).trans q) (fun _ q => q) fun _ _ q => q
    rintro rfl
    rcases hc with rfl | hc
    · rw [hfree] at e; cases e
    · rw [hfree] at hc; cases hc
  rcases hx with hk | hk
  · refine wpAny_storeName_local hk hn (fun h' hn' hs => ?_) hcls
    obtain ⟨oL, _, _, hoL, _⟩ := id hn
    refine h _ ⟨I.ok, I.os, I.bare, ⟨fun b o e n hb hx => ?_, fun b o e n hb hx => ?_, I.base.free, fun b o e hx => ?_, I.base.tups, I.base.frzs, I.base.tbls⟩, ⟨_, hn', fun j y v' e1 e2 e3 => ?_⟩, fun y c e => ?_, I.free, I.freeC, fun p hp => ?_, tracked ⟨oL, hoL, I.free⟩ hs, by simpa using I.len⟩ ⟨_, hs, .inl rfl⟩
    · exact (hs.2 b (Nat.ne_of_lt (Nat.lt_of_lt_of_le (Heap.lt_size e) I.ok.above))).trans (I.base.keep b o e n hb hx)
    · obtain ⟨sl, e1⟩ := I.base.slot b o e n hb hx
      exact ⟨sl, (hs.2 b (Nat.ne_of_lt (Nat.lt_of_lt_of_le (Heap.lt_size e) I.ok.above))).trans e1⟩
    · obtain ⟨o', e1⟩ := I.base.there b o e hx
      exact ⟨o', (hs.2 b (Nat.ne_of_lt (Nat.lt_of_lt_of_le (Heap.lt_size e) I.ok.above))).trans e1⟩
    · by_cases hj : j = i
      · subst hj
        rw [hi] at e1; cases e1
        rw [List.getElem?_set_self hiσ] at e2
        cases e2
        exact ⟨u, r, .inl ⟨hk, by simp⟩⟩
      · rw [List.getElem?_set_ne (Ne.symm hj)] at e2
        obtain ⟨u', r', q⟩ := hl j y v' e1 e2 e3
        refine ⟨u', r', ?_⟩
        rcases q with ⟨k, e⟩ | ⟨k, c, e, z⟩
        · refine .inl ⟨k, ?_⟩
          have : y ≠ x := fun e => hj (nodup_ix hN e1 (e ▸ hi))
          simp [this, e]
        · exact .inr ⟨k, c, e, z.sameBut hs (cne y c e)⟩
    · obtain ⟨w', z⟩ := I.cell y c e
      exact ⟨w', z.sameBut hs (cne y c e)⟩
    · obtain ⟨e, n, ne, nf, d⟩ := I.pin p hp
      exact ⟨(hs.2 p.1 ne).trans e, n, ne, nf, d⟩
  · have hfn : X.fn x = true := by
      rcases hf with z | z
      · exact z
      · rw [z] at hk; cases hk
    obtain ⟨c, hc⟩ := I.ok.has x (.inl hk)
    obtain ⟨w', z⟩ := I.cell x c hc
    refine wpAny_storeName_cell I.ok.kind hk hc z (fun h' hc' hs => ?_)
    obtain ⟨oc, hoc, hocd⟩ := id z
    refine h { s with heap := h' } ⟨I.ok, I.os, I.bare, ⟨fun b o e n hb hx => ?_, fun b o e n hb hx => ?_, I.base.free, fun b o e hx => ?_, I.base.tups, I.base.frzs, I.base.tbls⟩, ⟨m, hn.sameBut hs (Ne.symm (cne x c hc)), fun j y v' e1 e2 e3 => ?_⟩, fun y c' e => ?_, I.free, I.freeC, fun p hp => ?_, tracked ⟨oc, hoc, I.freeC x c hc⟩ hs, by simpa using I.len⟩ ⟨c, hs, .inr hc⟩
    · exact (hs.2 b (Nat.ne_of_lt (Nat.lt_of_lt_of_le (Heap.lt_size e) (I.ok.cab x c hfn hc)))).trans (I.base.keep b o e n hb hx)
    · obtain ⟨sl, e1⟩ := I.base.slot b o e n hb hx
      exact ⟨sl, (hs.2 b (Nat.ne_of_lt (Nat.lt_of_lt_of_le (Heap.lt_size e) (I.ok.cab x c hfn hc)))).trans e1⟩
    · obtain ⟨o', e1⟩ := I.base.there b o e hx
      exact ⟨o', (hs.2 b (Nat.ne_of_lt (Nat.lt_of_lt_of_le (Heap.lt_size e) (I.ok.cab x c hfn hc)))).trans e1⟩
    · by_cases hj : j = i
      · subst hj
        rw [hi] at e1; cases e1
        rw [List.getElem?_set_self hiσ] at e2
        cases e2
        exact ⟨u, r, .inr ⟨.inl hk, c, hc, hc'⟩⟩
      · rw [List.getElem?_set_ne (Ne.symm hj)] at e2
        obtain ⟨u', r', q⟩ := hl j y v' e1 e2 e3
        refine ⟨u', r', ?_⟩
        rcases q with q | ⟨k, c', e, z'⟩
        · exact .inl q
        · refine .inr ⟨k, c', e, z'.sameBut hs ?_⟩
          rintro rfl
          exact hj (nodup_ix hN e1 (I.ok.inj _ _ _ e hc ▸ hi))
    · by_cases hcc : c' = c
      · subst hcc; exact ⟨_, hc'⟩
      · obtain ⟨w2, z2⟩ := I.cell y c' e
        exact ⟨w2, z2.sameBut hs hcc⟩
    · obtain ⟨e, n, ne, nf, d⟩ := I.pin p hp
      refine ⟨(hs.2 p.1 ?_).trans e, n, ne, nf, d⟩
      intro q
      rw [q, hoc] at e
      have q' : oc = p.2 := Option.some.inj e
      exact d w' (by rw [← q']; exact hocd)
theorem store_ok {M : Model} {A : Around} {E : Value → Shared → Prop} {i : Nat} {x : Str} {v : V} {u : Value} {Q : Unit → Shared → Prop} (I : Inv X pins σ H s) (hN : X.N.Nodup) (hi : X.N[i]? = some x) (hx : Loc X.env.scope x) (r : RelV v u)
    (h : ∀ s', Inv X pins (σ.set i (some v)) H s' → Q () s') (hf : X.fn x = true ∨ X.env.scope.names.lookup x = some .local := by first | exact .inl rfl | exact .inr rfl | assumption) : wpAny M A (storeName X.env x u) Q E s :=
  store_ok2 I hN hi hx r (fun s' I' _ => h s' I') hf
/-- behind a call or a block, the state as it is -/
theorem Inv.call' {s' : Shared} {ch : List Addr} (I : Inv X pins σ H s) (ho : s'.os = s.os) (u : Un (frs X.stack) ch H H' s.heap s'.heap) (hok : HOk X.prog X.w H' s'.heap) (hg : AllBare s'.gens)
    (hch : ∀ b ∈ ch, (b ∈ X.ex ∨ X.s₀.heap.objs.size ≤ b) ∧ b ≠ X.env.locals ∧ (∀ x c, X.env.cells.lookup x = some c → c ≠ b) ∧ ∀ p ∈ X.pn ++ pins, p.1 ≠ b) : Inv X pins σ H' s' := by
  obtain ⟨h', g', d', t', o'⟩ := s'
  have e : o' = s.os := ho
  subst e
  exact I.call (g' := g') (t' := t') (d' := d') u hok hg hch
end

/-! ### the judgements -/
/-- an exception: its class, its own dict's address (where it has one), the abstract heap behind it -/
abbrev XK := Value → Option Addr → Hp → Prop
abbrev St := List (Option V)
abbrev VK := V → Hp → Prop
/-- an expression's reading; a test's; an argument list's -/
abbrev TE := St → Hp → VK → Prop
abbrev TT := St → Hp → (Bool → Hp → Prop) → Prop
abbrev TA := St → Hp → (List V → Hp → Prop) → Prop
/-- what is wanted behind a statement -/
structure Ends where
  nx : St → Hp → Prop
  rt : VK
  bk : St → Hp → Prop := fun _ _ => False
  ct : St → Hp → Prop := fun _ _ => False
abbrev TS := Ends → St → Hp → Prop

def EP (X : Cx) (pins : List (Addr × Obj)) (σ : St) (Q : VK) (u : Value) (s' : Shared) : Prop := ∃ v H', Inv X pins σ H' s' ∧ RelV v u ∧ Q v H'
def TP (X : Cx) (pins : List (Addr × Obj)) (σ : St) (Q : Bool → Hp → Prop) (b : Bool) (s' : Shared) : Prop := ∃ H', Inv X pins σ H' s' ∧ Q b H'
def AP (X : Cx) (pins : List (Addr × Obj)) (σ : St) (Q : List V → Hp → Prop) (us : List Value) (s' : Shared) : Prop := ∃ vs H', Inv X pins σ H' s' ∧ Vals vs us ∧ Q vs H'
def SP (X : Cx) (pins : List (Addr × Obj)) (D : Ends) (f : Flow) (s' : Shared) : Prop :=
  match f with
  | .next => ∃ σ' H', Inv X pins σ' H' s' ∧ D.nx σ' H'
  | .brk => ∃ σ' H', Inv X pins σ' H' s' ∧ D.bk σ' H'
  | .cont => ∃ σ' H', Inv X pins σ' H' s' ∧ D.ct σ' H'
  | .ret u => ∃ v σ' H', Inv X pins σ' H' s' ∧ RelV v u ∧ D.rt v H'

def PE (X : Cx) (e : Expr) (t : TE) : Prop :=
  ∀ (pins : List (Addr × Obj)) (s : Shared) (σ : St) (H : Hp) (Q : VK), Inv X pins σ H s → t σ H Q → wpAny (model X.prog X.w) X.A (eval e X.env) (EP X pins σ Q) X.xe s
def PT (X : Cx) (e : Expr) (t : TT) : Prop :=
  ∀ (pins : List (Addr × Obj)) (s : Shared) (σ : St) (H : Hp) (Q : Bool → Hp → Prop), Inv X pins σ H s → t σ H Q → wpAny (model X.prog X.w) X.A (isTrue e X.env (eval e X.env)) (TP X pins σ Q) X.xe s
/-- a test whatever its 'whole' is (and, or) -/
def PW (X : Cx) (e : Expr) (t : TT) : Prop :=
  ∀ (whole : Sem Value) (pins : List (Addr × Obj)) (s : Shared) (σ : St) (H : Hp) (Q : Bool → Hp → Prop), Inv X pins σ H s → t σ H Q → wpAny (model X.prog X.w) X.A (isTrue e X.env whole) (TP X pins σ Q) X.xe s
theorem PW.pt {X : Cx} {e : Expr} {t : TT} (h : PW X e t) : PT X e t := h _
/-- an argument list (no star), from the left -/
def PA (X : Cx) (es : List Expr) (t : TA) : Prop :=
  ∀ (pos : Pos) (pins : List (Addr × Obj)) (s : Shared) (σ : St) (H : Hp) (Q : List V → Hp → Prop), Inv X pins σ H s → t σ H Q → wpAny (model X.prog X.w) X.A (spliced (backTo pos (starEach es X.env))) (AP X pins σ Q) X.xe s
def PS (X : Cx) (st : Stmt) (t : TS) : Prop :=
  ∀ (pins : List (Addr × Obj)) (s : Shared) (σ : St) (H : Hp) (D : Ends), Inv X pins σ H s → t D σ H → wpAny (model X.prog X.w) X.A (exec st X.env) (SP X pins D) X.xe s
def PSs (X : Cx) (st : List Stmt) (t : TS) : Prop :=
  ∀ (pins : List (Addr × Obj)) (s : Shared) (σ : St) (H : Hp) (D : Ends), Inv X pins σ H s → t D σ H → wpAny (model X.prog X.w) X.A (execs st X.env) (SP X pins D) X.xe s
/-- weaken the end -/
theorem thn {α : Type} {t : Sem α} {Q Q' : α → Shared → Prop} {M : Model} {A : Around} {E : Value → Shared → Prop} {s : Shared} (h : wpAny M A t Q E s) (hQ : ∀ a s, Q a s → Q' a s) : wpAny M A t Q' E s := wpAny_mono h hQ fun _ _ x => x
end L2

namespace L2
open PySem PySem.Spec PyProof.Rows
section
variable {X : Cx}

/-! ### names and constants -/
def tVar (i : Nat) : TE := fun σ H Q => ∃ v, σ[i]? = some (some v) ∧ Q v H
def tC (v : V) : TE := fun _ H Q => Q v H
theorem pe_var {i : Nat} {x : Str} {pos : Pos} (hN : X.N[i]? = some x) (hv : Vis X.env.scope x) (hd : (x == ("__debug__" : Str)) = false := by decide) (hcd : (x == ("__classdict__" : Str)) = false := by decide) : PE X (.Name x pos) (tVar i) := by
  intro pins s σ H Q I h
  obtain ⟨v, e, h⟩ := h
  obtain ⟨m, hn, hl⟩ := I.loc
  obtain ⟨u, r, l⟩ := hl i x v hN e hv
  have fin : EP X pins σ Q u s := ⟨v, H, I, r, h⟩
  rcases l with ⟨hk, hm⟩ | ⟨hk, c, hc, hcell⟩
  · exact wpAny_Name (wpAny_loadName_local I.ok.kind hk hn hm fin) hd
  · rcases hk with hk | hk
    · exact wpAny_Name (wpAny_loadName_cell I.ok.kind hk hc hcell fin) hd
    · exact wpAny_Name (wpAny_loadName_free I.ok.kind hk hc hcell fin hcd) hd
theorem pe_int {i j pos} : PE X (.Constant (.int i) j pos) (tC (.int i)) := fun _ _ _ H _ I h => wpAny_Constant_int ⟨.int i, H, I.tok _, ⟨_, rfl⟩, h⟩
theorem pe_bl {b j pos} : PE X (.Constant (.bool b) j pos) (tC (.bl b)) := fun _ _ _ H _ I h => Constant_bool ⟨.bl b, H, I, rfl, h⟩
theorem pe_non {j pos} : PE X (.Constant .none j pos) (tC .non) := fun _ _ _ H _ I h => Constant_none ⟨.non, H, I, rfl, h⟩
theorem pe_str {x j pos} : PE X (.Constant (.str x) j pos) (tC (.str x)) := fun _ _ _ H _ I h => Calls.Constant_str ⟨.str x, H, I.tok _, ⟨_, rfl⟩, h⟩

/-- a global name of the def -/
def Gl (X : Cx) (x : Str) : Prop := X.env.kindOf x = some .globalImplicit
theorem ld_glob {E : Value → Shared → Prop} {pins : List (Addr × Obj)} {s : Shared} {σ : St} {H : Hp} {x : Str} {u : Value} {pos : Pos} {Q : Value → Shared → Prop} (I : Inv X pins σ H s) (hg : Gl X x) (hm : X.mg x = some u) (h : Q u s)
    (hd : (x == ("__debug__" : Str)) = false := by decide) : wpAny (model X.prog X.w) X.A (eval (.Name x pos) X.env) Q E s :=
  Calls.Name_function_global I.ok.kind hg (Calls.loadGlobal_global (by rw [I.ok.glob]; exact I.mod.glob.keeps I.bk) hm h) hd
theorem ld_blt {E : Value → Shared → Prop} {pins : List (Addr × Obj)} {s : Shared} {σ : St} {H : Hp} {x : Str} {u : Value} {pos : Pos} {Q : Value → Shared → Prop} (I : Inv X pins σ H s) (hg : Gl X x) (hm : X.mg x = none) (hv : bootBuiltins x = some u) (h : Q u s)
    (hn : x ≠ "__name__" := by decide) (hd : (x == ("__debug__" : Str)) = false := by decide) : wpAny (model X.prog X.w) X.A (eval (.Name x pos) X.env) Q E s := by
  obtain ⟨mb, h1, h2⟩ := I.mod.blt
  exact Calls.Name_function_global I.ok.kind hg (Calls.loadGlobal_builtin (by rw [I.ok.glob]; exact I.mod.glob.keeps I.bk) hm (by rw [I.ok.blt]; exact h1.keeps I.bk) ((h2 x hn).trans hv) h) hd
/-- a module's constant, a class, a function, as a value -/
theorem pe_glob {x : Str} {v : V} {u : Value} {pos : Pos} (hg : Gl X x) (hm : X.mg x = some u) (r : RelV v u) (hd : (x == ("__debug__" : Str)) = false := by decide) : PE X (.Name x pos) (tC v) :=
  fun _ _ _ H _ I h => ld_glob I hg hm ⟨v, H, I, r, h⟩ hd
theorem pe_bltn {x : Str} {v : V} {u : Value} {pos : Pos} (hg : Gl X x) (hm : X.mg x = none) (hv : bootBuiltins x = some u) (r : RelV v u) (hn : x ≠ "__name__" := by decide) (hd : (x == ("__debug__" : Str)) = false := by decide) : PE X (.Name x pos) (tC v) :=
  fun _ _ _ H _ I h => ld_blt I hg hm hv ⟨v, H, I, r, h⟩ hn hd

/-! ### arithmetic -/
variable {a b : Expr} {ta tb : TE} {pos : Pos}
/-! ### comparisons -/
/-- a comparison as a value, as a test -/
def tB (t : TE) : TT := fun σ H Q => t σ H fun x H1 => ∃ c, x = .bl c ∧ Q c H1
/-- an expression whose value is a bool, as a test -/
theorem pt_val {e : Expr} {t : TE} (h : PE X e t) (he : ∀ whole, isTrue e X.env whole = (do let v ← whole; standAt e.pos; holding [v] (truthy v)) := by intro _; rfl) : PT X e (tB t) := by
  intro pins s σ H Q I hw
  refine isTrue_plain (thn (h pins s σ H _ I hw) fun v s1 ⟨x, H1, I1, r1, q1⟩ => ?_) (he _)
  obtain ⟨d, rfl, q⟩ := q1
  cases r1
  exact wpAny_truthy_bool ⟨H1, I1, q⟩

/-! ### and, or, not -/
variable {tA tB' : TT} {rest : List Expr}
def tAnd (t u : TT) : TT := fun σ H Q => t σ H fun c H1 => if c = true then u σ H1 Q else Q false H1
def tOr (t u : TT) : TT := fun σ H Q => t σ H fun c H1 => if c = true then Q true H1 else u σ H1 Q
def tNot (t : TT) : TT := fun σ H Q => t σ H fun c H1 => Q (!c) H1
theorem pw_or1 (ha : PT X a tA) : PW X (.BoolOp .Or [a] pos) tA := by
  intro wh pins s σ H Q I h
  refine isTrue_or (thn (ha pins s σ H Q I h) fun c s1 e => ?_)
  cases c with
  | false => exact isTrue_or_nil e
  | true => exact e
theorem pw_or (ha : PT X a tA) (hb : PW X (.BoolOp .Or (b :: rest) pos) tB') : PW X (.BoolOp .Or (a :: b :: rest) pos) (tOr tA tB') := by
  intro wh pins s σ H Q I h
  refine isTrue_or (thn (ha pins s σ H _ I h) fun c s1 ⟨H1, I1, q1⟩ => ?_)
  cases c with
  | true => exact ⟨H1, I1, q1⟩
  | false => exact hb wh pins s1 σ H1 Q I1 q1
theorem pt_not (ha : PT X a tA) : PT X (.UnaryOp .Not a pos) (tNot tA) := by
  intro pins s σ H Q I h
  exact isTrue_not (ha pins s σ H (fun c H1 => Q (!c) H1) I h)
/-- .. as values (bools) -/
def tAndV (ta tb : TE) : TE := fun σ H Q => ta σ H fun x H1 => ∃ c, x = .bl c ∧ if c = true then tb σ H1 Q else Q (.bl false) H1
def tOrV (ta tb : TE) : TE := fun σ H Q => ta σ H fun x H1 => ∃ c, x = .bl c ∧ if c = true then Q (.bl true) H1 else tb σ H1 Q
def tNotV (ta : TE) : TE := fun σ H Q => ta σ H fun x H1 => ∃ c, x = .bl c ∧ Q (.bl (!c)) H1
theorem pe_one {op} {t : TE} (h : PE X a t) : PE X (.BoolOp op [a] pos) t := fun pins s σ H Q I hw => BoolOp_one (h pins s σ H Q I hw)
theorem pe_and (ha : PE X a ta) (hb : PE X (.BoolOp .And (b :: rest) pos) tb) : PE X (.BoolOp .And (a :: b :: rest) pos) (tAndV ta tb) := by
  intro pins s σ H Q I h
  refine BoolOp_and (thn (ha pins s σ H _ I h) fun v s1 ⟨x, H1, I1, r1, q1⟩ => ?_)
  obtain ⟨c, rfl, q1⟩ := q1
  cases r1
  refine wpAny_truthy_bool ?_
  cases c with
  | true => exact hb pins s1 σ H1 Q I1 q1
  | false => exact ⟨.bl false, H1, I1, rfl, q1⟩
theorem pe_not (ha : PE X a ta) : PE X (.UnaryOp .Not a pos) (tNotV ta) := by
  intro pins s σ H Q I h
  refine UnaryOp_ (thn (ha pins s σ H _ I h) fun v s1 ⟨x, H1, I1, r1, q1⟩ => ?_)
  obtain ⟨c, rfl, q1⟩ := q1
  cases r1
  exact not_of (wpAny_truthy_bool ⟨.bl (!c), H1, I1, rfl, q1⟩)
/-- a if t else b -/
def tIf (t : TT) (ta tb : TE) : TE := fun σ H Q => t σ H fun c H1 => if c = true then ta σ H1 Q else tb σ H1 Q
theorem pe_ifExp {c : Expr} (hc : PT X c tA) (ha : PE X a ta) (hb : PE X b tb) : PE X (.IfExp c a b pos) (tIf tA ta tb) := by
  intro pins s σ H Q I h
  refine wpAny_IfExp (thn (hc pins s σ H _ I h) fun d s1 ⟨H1, I1, q1⟩ => ?_)
  cases d with
  | true => exact ha pins s1 σ H1 Q I1 q1
  | false => exact hb pins s1 σ H1 Q I1 q1
end
end L2

namespace L2
open PySem PySem.Spec PyProof.Rows

/-! ### a list, a tuple that is read: tracked, frozen, or an object of the module -/
def SqL (K : PySem.W.Frag) (H : Hp) (a : Addr) (xs : List V) : Prop :=
  Rd H a (.lst xs) ∨
    ∃ (o : Obj) (its : Array Value) (n : Nat), K.lookup a = some o ∧ o.cls = .type "list" ∧ o.dict = none ∧ o.data = .seq its n ∧ its.size ≤ sizeLine ∧ Vals xs its.toList
def SqT (K : PySem.W.Frag) (H : Hp) (a : Addr) (xs : List V) : Prop :=
  Rd H a (.tup xs) ∨
    ∃ (o : Obj) (its : Array Value) (n : Nat), K.lookup a = some o ∧ o.cls = .type "tuple" ∧ o.data = .seq its n ∧ its.size ≤ sizeLine ∧ Vals xs its.toList
def absV : Value → Option V
  | .none => some .non
  | .bool b => some (.bl b)
  | .int i _ => some (.int i)
  | .str x _ => some (.str x)
  | .bytes b _ => some (.byt b)
  | .float b _ => some (.flt b)
  | .ref a => some (.ref a)
  | .type n => some (.ty n)
  | _ => none
theorem RelV.abs {x : V} {u : Value} (r : RelV x u) : absV u = some x := by
  cases x with
  | non => cases r; rfl
  | bl _ => cases r; rfl
  | int _ => obtain ⟨t, rfl⟩ := r; rfl
  | str _ => obtain ⟨t, rfl⟩ := r; rfl
  | byt _ => obtain ⟨t, rfl⟩ := r; rfl
  | flt _ => obtain ⟨t, rfl⟩ := r; rfl
  | ref _ => cases r; rfl
  | ty _ => cases r; rfl
theorem RelV.inj {x y : V} {u : Value} (r : RelV x u) (q : RelV y u) : x = y := Option.some.inj (r.abs.symm.trans q.abs)
theorem Vals.inj : ∀ {xs ys : List V} {us : List Value}, Vals xs us → Vals ys us → xs = ys
  | _, _, _, .nil, .nil => rfl
  | _, _, _, .cons r t, .cons r' t' => by rw [r.inj r', Vals.inj t t']
section
variable {X : Cx} {pins : List (Addr × Obj)} {σ : St} {H : Hp} {s : Shared} {a : Addr} {xs ys : List V}
theorem SqL.of {K : PySem.W.Frag} (h : H a = some (.lst xs)) : SqL K H a xs := .inl (.inl h)
theorem SqT.of {K : PySem.W.Frag} (h : H a = some (.tup xs)) : SqT K H a xs := .inl (.inl h)
theorem Inv.list (I : Inv X pins σ H s) (h : SqL X.K H a xs) : ∃ its : List Value, Vals xs its ∧ PlainL s.heap a its.toArray ∧ xs.length ≤ sizeLine := by
  rcases h with h | ⟨o, its, n, hk, hc, hd, hs, hz, r⟩
  · obtain ⟨z, its, n, r, e⟩ := h.ok I.hok
    exact ⟨its, r, ⟨_, n, e, rfl, rfl, rfl⟩, z⟩
  · refine ⟨its.toList, r, ⟨o, n, I.kIn a o hk, hc, hd, by simpa using hs⟩, ?_⟩
    have e := r.length
    simp only [Array.length_toList] at e
    omega
theorem Inv.tuple (I : Inv X pins σ H s) (h : SqT X.K H a xs) : ∃ its : List Value, Vals xs its ∧ IsTup s.heap a its.toArray ∧ xs.length ≤ sizeLine := by
  rcases h with h | ⟨o, its, n, hk, hc, hs, hz, r⟩
  · obtain ⟨z, its, r, p⟩ := h.ok I.hok
    exact ⟨its, r, p, z⟩
  · refine ⟨its.toList, r, ⟨o, I.kIn a o hk, hc, n, by simpa using hs⟩, ?_⟩
    have e := r.length
    simp only [Array.length_toList] at e
    omega
theorem Inv.list_inj (I : Inv X pins σ H s) (h : SqL X.K H a xs) (h' : SqL X.K H a ys) : xs = ys := by
  obtain ⟨its, r, ⟨o, n, e, _, _, d⟩, _⟩ := I.list h
  obtain ⟨its', r', ⟨o', n', e', _, _, d'⟩, _⟩ := I.list h'
  rw [e] at e'; cases e'
  rw [d] at d'
  injection d' with d1 _
  have : its = its' := by simpa using congrArg Array.toList d1
  subst this
  exact r.inj r'
end

/-! ### another wish about exceptions -/
abbrev Cx.wish (X : Cx) (E : Value → Shared → Prop) : Cx := { X with xe := E }
/-- no exception leaves -/
abbrev Cx.nox (X : Cx) : Cx := X.wish fun _ _ => False
theorem Cx.Ok.wish {X : Cx} (ok : X.Ok) (E : Value → Shared → Prop) : (X.wish E).Ok :=
  ⟨ok.mod, ok.kind, ok.glob, ok.blt, ok.above, ok.inj, ok.has, ok.cab, ok.hd, ok.frames, ok.stk, ok.exf, ok.bs, ok.bsz, ok.noex, ok.exfs, ok.funs, ok.frf⟩
theorem Cx.Ok.unwish {X : Cx} {E : Value → Shared → Prop} (ok : (X.wish E).Ok) : X.Ok :=
  ⟨ok.mod, ok.kind, ok.glob, ok.blt, ok.above, ok.inj, ok.has, ok.cab, ok.hd, ok.frames, ok.stk, ok.exf, ok.bs, ok.bsz, ok.noex, ok.exfs, ok.funs, ok.frf⟩
section
variable {X : Cx} {pins : List (Addr × Obj)} {σ : St} {H : Hp} {s : Shared} {E : Value → Shared → Prop}
theorem Inv.wish (I : Inv X pins σ H s) (E : Value → Shared → Prop) : Inv (X.wish E) pins σ H s := ⟨I.ok.wish E, I.os, I.bare, I.base, I.loc, I.cell, I.free, I.freeC, I.pin, I.hok, I.len⟩
theorem Inv.unwish (I : Inv (X.wish E) pins σ H s) : Inv X pins σ H s := ⟨I.ok.unwish, I.os, I.bare, I.base, I.loc, I.cell, I.free, I.freeC, I.pin, I.hok, I.len⟩
theorem SP.unwish {D : Ends} {f : Flow} {s' : Shared} (h : SP (X.wish E) pins D f s') : SP X pins D f s' := by
  cases f with
  | next => obtain ⟨σ', H', I, q⟩ := h; exact ⟨σ', H', I.unwish, q⟩
  | brk => obtain ⟨σ', H', I, q⟩ := h; exact ⟨σ', H', I.unwish, q⟩
  | cont => obtain ⟨σ', H', I, q⟩ := h; exact ⟨σ', H', I.unwish, q⟩
  | ret u => obtain ⟨v, σ', H', I, r, q⟩ := h; exact ⟨v, σ', H', I.unwish, r, q⟩
theorem PE.nox {e : Expr} {t : TE} (h : PE X.nox e t) : PE X e t := fun pins s σ H Q I hw =>
  wpAny_mono (h pins s σ H Q (I.wish _) hw) (fun _ _ ⟨v, H', I', r, q⟩ => ⟨v, H', I'.unwish, r, q⟩) fun _ _ z => False.elim z
theorem PT.nox {e : Expr} {t : TT} (h : PT X.nox e t) : PT X e t := fun pins s σ H Q I hw =>
  wpAny_mono (h pins s σ H Q (I.wish _) hw) (fun _ _ ⟨H', I', q⟩ => ⟨H', I'.unwish, q⟩) fun _ _ z => False.elim z
theorem PSs.nox {st : List Stmt} {t : TS} (h : PSs X.nox st t) : PSs X st t := fun pins s σ H D I hw =>
  wpAny_mono (h pins s σ H D (I.wish _) hw) (fun _ _ q => q.unwish) fun _ _ z => False.elim z
end

/-! ### blocks and small statements -/
section
variable {X : Cx} {st : Stmt} {rest : List Stmt} {t u : TS} {e : Expr} {te : TE} {pos : Pos}
def tNext : TS := fun D σ H => D.nx σ H
def tSeq (t u : TS) : TS := fun D σ H => t { D with nx := u D } σ H
theorem pss_nil : PSs X [] tNext := fun _ _ σ H _ I h => wpAny_execs_nil ⟨σ, H, I, h⟩
theorem pss_cons (h1 : PS X st t) (h2 : PSs X rest u) : PSs X (st :: rest) (tSeq t u) := by
  intro pins s σ H D I h
  refine wpAny_execs_cons (thn (h1 pins s σ H { D with nx := u D } I h) fun f s1 q => ?_)
  cases f with
  | next =>
    obtain ⟨σ', H', I', q⟩ := q
    exact h2 pins s1 σ' H' D I' q
  | ret v => exact q
  | brk => exact q
  | cont => exact q
theorem pss_one (h1 : PS X st t) : PSs X [st] t := by
  intro pins s σ H D I h
  refine wpAny_execs_cons (thn (h1 pins s σ H D I h) fun f s1 q => ?_)
  cases f with
  | next => exact wpAny_execs_nil q
  | ret v => exact q
  | brk => exact q
  | cont => exact q
/-- in a def's body nothing is shown -/
theorem Inv.quiet {pins : List (Addr × Obj)} {σ : St} {H : Hp} {s : Shared} (I : Inv X pins σ H s) : interactive X.env = false := by simp [interactive, I.ok.kind]
/-- an expression whose value is dropped -/
def tDrop (te : TE) : TS := fun D σ H => te σ H fun _ H1 => D.nx σ H1
theorem ps_expr (he : PE X e te) (hs : swapsWith e none pos.line X.env = pure false := by rfl) : PS X (.Expr e pos) (tDrop te) := by
  intro pins s σ H D I h
  exact wpAny_Expr_any (thn (he pins s σ H _ I h) fun v s1 ⟨x, H1, I1, r1, q1⟩ => ⟨σ, H1, I1, q1⟩) I.quiet hs
def tRet (te : TE) : TS := fun D σ H => te σ H D.rt
theorem ps_ret (he : PE X e te) : PS X (.Return (some e) pos) (tRet te) := by
  intro pins s σ H D I h
  exact wpAny_Return_some (thn (he pins s σ H _ I h) fun v s1 ⟨x, H1, I1, r1, q1⟩ => ⟨x, σ, H1, I1, r1, q1⟩)
def tRetN : TS := fun D _ H => D.rt .non H
def tIfS (c : TT) (t u : TS) : TS := fun D σ H => c σ H fun b H1 => if b = true then t D σ H1 else u D σ H1
theorem ps_if {c : Expr} {a b : List Stmt} {tc : TT} (hc : PT X c tc) (ha : PSs X a t) (hb : PSs X b u) : PS X (.If c a b pos) (tIfS tc t u) := by
  intro pins s σ H D I h
  refine wpAny_If (thn (hc pins s σ H _ I h) fun d s1 ⟨H1, I1, q1⟩ => ?_)
  cases d with
  | true => exact ha pins s1 σ H1 D I1 q1
  | false => exact hb pins s1 σ H1 D I1 q1
end

/-! ### targets -/
abbrev TG := V → St → Hp → (St → Hp → Prop) → Prop
abbrev TGs := List V → St → Hp → (St → Hp → Prop) → Prop
def PG (X : Cx) (target : Expr) (t : TG) : Prop :=
  ∀ (pins : List (Addr × Obj)) (s : Shared) (σ : St) (H : Hp) (v : V) (u : Value) (Q : St → Hp → Prop), Inv X pins σ H s → RelV v u → t v σ H Q →
    wpAny (model X.prog X.w) X.A (assign target X.env u) (fun _ s' => ∃ σ' H', Inv X pins σ' H' s' ∧ Q σ' H') X.xe s
/-- several targets, one after another -/
def PGs (X : Cx) (ts : List Expr) (t : TGs) : Prop :=
  ∀ (pins : List (Addr × Obj)) (s : Shared) (σ : St) (H : Hp) (vs : List V) (us : List Value) (Q : St → Hp → Prop), Inv X pins σ H s → Vals vs us → t vs σ H Q →
    wpAny (model X.prog X.w) X.A (assignInOrder ((assignEach ts X.env).map (·.2)) us) (fun _ s' => ∃ σ' H', Inv X pins σ' H' s' ∧ Q σ' H') X.xe s
/-- o[i] = v, by values -/
abbrev TSet := V → V → V → Hp → (Hp → Prop) → Prop
section
variable {X : Cx} {pos : Pos}
def gName (i : Nat) : TG := fun v σ H Q => Q (σ.set i (some v)) H
theorem pg_name {i : Nat} {x : Str} (hN : X.N.Nodup) (hi : X.N[i]? = some x) (hx : Loc X.env.scope x) (hf : X.fn x = true ∨ X.env.scope.names.lookup x = some .local := by first | exact .inl rfl | exact .inr rfl | assumption) : PG X (.Name x pos) (gName i) := by
  intro pins s σ H v u Q I r h
  exact wpAny_assign_Name (store_ok I hN hi hx r (fun s' I' => ⟨_, H, I', h⟩) hf)
def gNil : TGs := fun vs σ H Q => vs = [] ∧ Q σ H
def gCons (t : TG) (u : TGs) : TGs := fun vs σ H Q => ∃ v r, vs = v :: r ∧ t v σ H fun σ' H' => u r σ' H' Q
theorem pgs_nil : PGs X [] gNil := by
  intro pins s σ H vs us Q I r h
  obtain ⟨e, h⟩ := h
  subst e
  cases r
  exact assignInOrder_nil ⟨σ, H, I, h⟩
theorem pgs_cons {e : Expr} {es : List Expr} {t : TG} {u : TGs} (h1 : PG X e t) (h2 : PGs X es u)
    (hs : (assignEach (e :: es) X.env).map (·.2) = assign e X.env :: (assignEach es X.env).map (·.2) := by rfl) : PGs X (e :: es) (gCons t u) := by
  intro pins s σ H vs us Q I r h
  obtain ⟨v, vr, e1, h⟩ := h
  subst e1
  cases r with
  | cons r rr =>
    rw [hs]
    refine assignInOrder_cons (thn (h1 pins s σ H _ _ _ I r h) fun _ s1 ⟨σ1, H1, I1, q1⟩ => ?_)
    exact h2 pins s1 σ1 H1 _ _ Q I1 rr q1
/-- (a, b, ..) = a tuple of that length -/
def gTup (K : PySem.W.Frag) (n : Nat) (t : TGs) : TG := fun v σ H Q => ∃ a xs, v = .ref a ∧ SqT K H a xs ∧ xs.length = n ∧ t xs σ H Q
theorem pg_tup {es : List Expr} {k : Nat} {t : TGs} {n : Nat} (hc : X.calm = true) (h : PGs X es t)
    (hn : (assignEach es X.env).length = n := by rfl) (hst : (assignEach es X.env).findIdx? (·.1) = none := by rfl) : PG X (.Tuple es k pos) (gTup X.K n t) := by
  intro pins s σ H v u Q I r hw
  obtain ⟨a, xs, e1, hq, hl, hw⟩ := hw
  subst e1
  cases r
  obtain ⟨its, rv, ht, hz⟩ := I.tuple hq
  refine assign_Tuple_tuple (I.ok.hd hc) ht (by simp [hn, ← hl, rv.length]) hst fun h' hx => ?_
  have I1 : Inv X pins σ H { s with heap := h' } := I.kept (t' := s.toks) fun b o e => hx b o (Nat.ne_of_lt (Heap.lt_size e)) e
  exact h pins _ σ H xs _ Q I1 (by simpa using rv) hw
/-- o[i] = .. -/
def gSub (to ti : TE) (t : TSet) : TG := fun v σ H Q => to σ H fun o H1 => ti σ H1 fun i H2 => t o i v H2 fun H3 => Q σ H3
/-- target = value -/
def tAsg (te : TE) (g : TG) : TS := fun D σ H => te σ H fun x H1 => g x σ H1 D.nx
theorem ps_asg {tg e : Expr} {te : TE} {g : TG} (he : PE X e te) (hg : PG X tg g) (hs : swapsWithSole [tg] e pos.line X.env = pure false := by rfl) (hw : swappedStores [tg] e X.env = pure none := by rfl)
    (h1 : (assignEach [tg] X.env).map (·.2) = [assign tg X.env] := by rfl) : PS X (.Assign [tg] e pos) (tAsg te g) := by
  intro pins s σ H D I h
  refine wpAny_Assign_stores (thn (he pins s σ H _ I h) fun v s1 ⟨x, H1, I1, r1, q1⟩ => ?_) hs hw
  rw [h1]
  exact thn (hg pins s1 σ H1 x v _ I1 r1 q1) fun _ s2 q => q
/-- name = value -/
theorem ps_set {i : Nat} {x : Str} {e : Expr} {te : TE} {pos' : Pos} (hN : X.N.Nodup) (hi : X.N[i]? = some x) (hx : Loc X.env.scope x) (he : PE X e te) (hs : swapsWith e (some (.Name x pos')) pos.line X.env = pure false := by rfl) (hf : X.fn x = true ∨ X.env.scope.names.lookup x = some .local := by first | exact .inl rfl | exact .inr rfl | assumption) :
    PS X (.Assign [.Name x pos'] e pos) (tAsg te (gName i)) := by
  intro pins s σ H D I h
  refine wpAny_Assign_Name (thn (he pins s σ H _ I h) fun v s1 ⟨y, H1, I1, r1, q1⟩ => ?_) hs
  exact store_ok I1 hN hi hx r1 (fun s2 I2 => ⟨_, H1, I2, q1⟩) hf
end

/-! ### while -/
section
variable {X : Cx} {pos : Pos}
/-- the invariant W with its measure -/
def tWhile (c : TT) (tb : TS) : TS := fun D σ H => ∃ W : Nat → St → Hp → Prop, (∃ m, W m σ H) ∧ ∀ m σ H, W m σ H →
  c σ H fun b H1 => if b = true then ∃ N : St → Hp → Prop, (∀ σ' H', N σ' H' → ∃ m', m' < m ∧ W m' σ' H') ∧ tb { D with nx := N, ct := N, bk := D.nx } σ H1 else D.nx σ H1
theorem ps_while {c : Expr} {body : List Stmt} {tc : TT} {tb : TS} (hp : PassesOwn (model X.prog X.w) X.A X.env X.xe) (hc : PT X c tc) (hb : PSs X body tb) : PS X (.While c body [] pos) (tWhile tc tb) := by
  intro pins s σ H D I h
  obtain ⟨W, ⟨m0, w0⟩, turn⟩ := h
  refine wpAny_While (codeAny_whileLoop (fun n s' => ∃ σ' H', Inv X pins σ' H' s' ∧ W n σ' H') ?_ m0 ⟨σ, H, I, w0⟩)
  rintro n s1 ⟨σ1, H1, I1, w1⟩
  refine wpAny_passesOwn hp (thn (hc pins s1 σ1 H1 _ I1 (turn n σ1 H1 w1)) fun b s2 ⟨H2, I2, q2⟩ => ?_)
  cases b with
  | true =>
    obtain ⟨N, hN, q2⟩ := q2
    rw [if_pos rfl]
    refine wpAny_passesOwn hp (thn (hb pins s2 σ1 H2 _ I2 q2) fun f s3 q3 => ?_)
    cases f with
    | next =>
      obtain ⟨σ3, H3, I3, n3⟩ := q3
      obtain ⟨m', hm, w3⟩ := hN σ3 H3 n3
      exact ⟨m', hm, σ3, H3, I3, w3⟩
    | cont =>
      obtain ⟨σ3, H3, I3, n3⟩ := q3
      obtain ⟨m', hm, w3⟩ := hN σ3 H3 n3
      exact ⟨m', hm, σ3, H3, I3, w3⟩
    | brk => exact q3
    | ret v => exact q3
  | false =>
    rw [if_neg Bool.false_ne_true]
    exact wpAny_execs_nil ⟨σ1, H2, I2, q2⟩
end

/-! ### what a loop or a comprehension walks -/
/-- at turn i: it yields x (the heap may grow), or it stops -/
structure It where
  go : Nat → Hp → Prop
  yld : Nat → Hp → V → Hp → Prop
  stop : Nat → Hp → Prop
/-- the iterator's own objects may turn: they are not the frame's, not pinned, younger than the entry (or a comprehension's own) -/
def FpOk (X : Cx) (pins : List (Addr × Obj)) (H : Hp) (b : Addr) : Prop :=
  H b = none ∧ b ≠ X.env.locals ∧ b ∉ X.fs ∧ (b ∈ X.ex ∨ X.s₀.heap.objs.size ≤ b) ∧ (∀ x c, X.env.cells.lookup x = some c → c ≠ b) ∧ ∀ p ∈ X.pn ++ pins, p.1 ≠ b
theorem Inv.fpOk {X : Cx} {pins : List (Addr × Obj)} {σ : St} {H H' : Hp} {s : Shared} {b : Addr} (I : Inv X pins σ H s) (hb : s.heap.objs.size ≤ b) (hn : H' b = none) : FpOk X pins H' b := by
  refine ⟨hn, Nat.ne_of_gt (Nat.lt_of_lt_of_le I.lt hb), I.nofs hb, .inr (Nat.le_trans I.sz hb), fun x c e z => ?_, fun p hp z => ?_⟩
  · obtain ⟨v, q⟩ := I.cell x c e
    exact absurd (Nat.lt_of_lt_of_le q.lt (by rw [z]; exact hb)) (Nat.lt_irrefl _)
  · exact absurd (Nat.lt_of_lt_of_le (Heap.lt_size (I.pin p hp).1) (by rw [z]; exact hb)) (Nat.lt_irrefl _)
structure Turn (P : Program) (w : World) (K : PySem.W.Frag) (tg : Expr) (J : It) (fp : List Addr) (it : Addr) (tn : Nat → Heap → Prop) : Prop where
  mem : it ∈ fp
  obj : ∀ i h, tn i h → ∀ b ∈ fp, ∃ o, h.get? b = some o ∧ ∀ v, o.data ≠ .cell v
  keep : ∀ i h h', tn i h → (∀ b ∈ fp, ∀ o, h.get? b = some o → h'.get? b = some o) → tn i h'
  item : ∀ (X : Cx), X.prog = P → X.w = w → X.K = K → X.calm = true → ∀ (i : Nat) (pins : List (Addr × Obj)) (s : Shared) (σ : St) (H : Hp) (E : Value → Shared → Prop), Inv X pins σ H s → (∀ b ∈ fp, FpOk X pins H b) → tn i s.heap → J.go i H →
    wpAny (model P w) X.A (pyNext (.ref it)) (fun r s1 => ∃ u, r = some u ∧
      wpAny (model P w) X.A (letOwnedTupleGo tg (.ref it) u) (fun _ s2 => ∃ x H', Inv X pins σ H' s2 ∧ RelV x u ∧ J.yld i H x H' ∧ tn (i + 1) s2.heap ∧ ∀ b ∈ fp, H' b = none) E s1) E s
  done : ∀ (X : Cx), X.prog = P → X.w = w → X.K = K → X.calm = true → ∀ (i : Nat) (pins : List (Addr × Obj)) (s : Shared) (σ : St) (H : Hp) (E : Value → Shared → Prop), Inv X pins σ H s → (∀ b ∈ fp, FpOk X pins H b) → tn i s.heap → J.stop i H →
    wpAny (model P w) X.A (pyNext (.ref it)) (fun r s1 => r = none ∧ Inv X pins σ H s1) E s
  self : ∀ (A : Around) (i : Nat) (s : Shared) (Q : Value → Shared → Prop) (E : Value → Shared → Prop), tn i s.heap → Q (.ref it) s → wpAny (model P w) A (pyIter (.ref it)) Q E s
abbrev TI := St → Hp → (It → Hp → Prop) → Prop
/-- an iterator has come -/
def PIE (X : Cx) (pins : List (Addr × Obj)) (σ : St) (tg : Expr) (R : It → Hp → Prop) (itv : Value) (s2 : Shared) : Prop :=
  ∃ (it : Addr) (fp : List Addr) (tn : Nat → Heap → Prop) (J : It) (H' : Hp), itv = .ref it ∧ Inv X pins σ H' s2 ∧ Turn X.prog X.w X.K tg J fp it tn ∧ tn 0 s2.heap ∧ (∀ b ∈ fp, FpOk X pins H' b) ∧ R J H'
def PI (X : Cx) (tg iter : Expr) (wi : TI) : Prop :=
  ∀ (pins : List (Addr × Obj)) (s : Shared) (σ : St) (H : Hp) (R : It → Hp → Prop), Inv X pins σ H s → wi σ H R →
    wpAny (model X.prog X.w) X.A (eval iter X.env) (fun v s1 => wpAny (model X.prog X.w) X.A (pyIter v) (PIE X pins σ tg R) X.xe s1) X.xe s

/-- the step ahead of the store is nothing for an iterator that keeps no tuple -/
theorem go_of {M : Model} {A : Around} {E : Value → Shared → Prop} {s : Shared} {tg : Expr} {it : Addr} {u : Value} {o : Obj} {n : String} {vs : Array Value} {Q : Unit → Shared → Prop} (ho : s.heap.get? it = some o) (hc : o.cls = .type n) (hd : o.data = .fields vs)
    (hn : ["enumerate", "zip", "dict_itemiterator", "dict_reverseitemiterator", "odict_iterator", "itertools.zip_longest", "itertools.pairwise"].contains n = false) (hQ : Q () s) : wpAny M A (letOwnedTupleGo tg (.ref it) u) Q E s := by
  unfold letOwnedTupleGo
  cases tg <;> first
    | exact wpAny_pure hQ
    | (cases u <;> first
        | exact wpAny_pure hQ
        | (refine wpAny_bind (wpAny_load ho ?_)
           rw [hc, hd]
           show wpAny M A (if (["enumerate", "zip", "dict_itemiterator", "dict_reverseitemiterator", "odict_iterator", "itertools.zip_longest", "itertools.pairwise"].contains n && vs[0]? == some (rawInt _)) = true then _ else _) Q E s
           rw [if_neg (by intro h; rw [hn, Bool.false_and] at h; cases h)]
           exact wpAny_pure hQ))

/-- the list at a, as it stands at each turn (a loop may append to it) -/
def Itl (K : PySem.W.Frag) (a : Addr) : It :=
  ⟨fun i H => ∃ xs x, SqL K H a xs ∧ xs[i]? = some x, fun i H x H' => H' = H ∧ ∀ xs, SqL K H a xs → xs[i]? = some x, fun i H => ∃ xs, SqL K H a xs ∧ xs.length ≤ i⟩
def Itt (K : PySem.W.Frag) (a : Addr) : It :=
  ⟨fun i H => ∃ xs x, SqT K H a xs ∧ xs[i]? = some x, fun i H x H' => H' = H ∧ ∀ xs, SqT K H a xs → xs[i]? = some x, fun i H => ∃ xs, SqT K H a xs ∧ xs.length ≤ i⟩
/-- lo, lo + 1, .. (n of them) -/
def Itr (lo : Int) (n : Nat) : It := ⟨fun i _ => i < n, fun i H x H' => H' = H ∧ x = .int (lo + i), fun i _ => n ≤ i⟩
theorem turn_list {P : Program} {w : World} {K : PySem.W.Frag} {tg : Expr} (a it : Addr) : Turn P w K tg (Itl K a) [it] it (fun i h => h.IsListIter it a i) where
  mem := by simp
  obj := fun i h st b hb => by
    have e : b = it := by simpa using hb
    subst e
    obtain ⟨o, e, c, d⟩ := st
    exact ⟨o, e, fun v z => by rw [d] at z; cases z⟩
  keep := fun i h h' st k => st.at fun o e => k it (by simp) o e
  item := by
    intro X hP hw hK hc i pins s σ H E I hf st hg
    subst hP hw hK
    obtain ⟨xs, x, hq, hx⟩ := hg
    obtain ⟨its, rv, p, hz⟩ := I.list hq
    obtain ⟨u, hu, ru⟩ := rv.get hx
    obtain ⟨f0, f1, f2, f3, f4, f5⟩ := hf it (by simp)
    refine wpAny_pyNext_list_item st p.isList (x := u) (by simpa using hu) fun h' st' sb => ?_
    have I1 : Inv X pins σ H { s with heap := h' } := I.turned (t' := s.toks) (fun b o hb e => (sb.2 b hb).trans e) f0 f1 f3 f4 f5
    obtain ⟨o, e, c, d⟩ := id st'
    exact ⟨u, rfl, go_of (s := { s with heap := h' }) e c d (by decide) ⟨x, H, I1, ru, ⟨rfl, fun ys hy => by rw [I.list_inj hy hq]; exact hx⟩, st', fun b hb => (hf b hb).1⟩⟩
  done := by
    intro X hP hw hK hc i pins s σ H E I hf st hg
    subst hP hw hK
    obtain ⟨xs, hq, hx⟩ := hg
    obtain ⟨its, rv, p, hz⟩ := I.list hq
    obtain ⟨f0, f1, f2, f3, f4, f5⟩ := hf it (by simp)
    have hl := rv.length
    exact wpAny_pyNext_list_end (I.ok.hd hc) st p.isList (by simp; omega) fun h' eb => ⟨rfl, I.turned (t' := s.toks) (fun b o hb e => eb b o hb e) f0 f1 f3 f4 f5⟩
  self := fun _ _ _ _ _ st h => wpAny_pyIter_listiter st h
theorem turn_range {P : Program} {w : World} {K : PySem.W.Frag} {tg : Expr} (it : Addr) (lo : Int) (n : Nat) : Turn P w K tg (Itr lo n) [it] it (fun i h => IsRangeIter h it (lo + (i : Nat) * 1) ((n : Int) - (i : Nat)) 1) where
  mem := by simp
  obj := fun i h st b hb => by
    have e : b = it := by simpa using hb
    subst e
    exact ⟨_, st, fun v z => by
      have z' : Data.fields _ = Data.cell v := z
      cases z'⟩
  keep := fun i h h' st k => k it (by simp) _ st
  item := by
    intro X hP hw hK hc i pins s σ H E I hf st hg
    subst hP hw hK
    obtain ⟨f0, f1, f2, f3, f4, f5⟩ := hf it (by simp)
    have W := Walks.range (prog := X.prog) (w := X.w) (I.ok.hd hc) it lo 1 n
    refine W.item i s _ _ hg st fun v h' tk hv st' kk => ?_
    obtain ⟨t, rfl⟩ := hv
    have I1 : Inv X pins σ H { s with heap := h', toks := tk } := I.turned (fun b o hb e => kk b o (by simpa using hb) e) f0 f1 f3 f4 f5
    refine ⟨_, rfl, go_of (s := { s with heap := h', toks := tk }) (n := "range_iterator") st' rfl rfl (by decide) ⟨.int (lo + i), H, I1, ⟨t, ?_⟩, ⟨rfl, rfl⟩, st', fun b hb => (hf b hb).1⟩⟩
    rw [Int.mul_one]
  done := by
    intro X hP hw hK hc i pins s σ H E I hf st hg
    subst hP hw hK
    obtain ⟨f0, f1, f2, f3, f4, f5⟩ := hf it (by simp)
    exact wpAny_pyNext_range_end (I.ok.hd hc) st (by have : n ≤ i := hg; omega) fun h' eb => ⟨rfl, I.turned (t' := s.toks) (fun b o hb e => eb b o hb e) f0 f1 f3 f4 f5⟩
  self := fun _ _ _ _ _ st h => wpAny_pyIter_rangeiter st h
end L2

namespace L2
open PySem PySem.Spec PyProof.Rows
section
variable {X : Cx} {tg : Expr}
def iList (K : PySem.W.Frag) (tl : TE) : TI := fun σ H R => tl σ H fun x H1 => ∃ a, x = .ref a ∧ (∃ xs, SqL K H1 a xs) ∧ R (Itl K a) H1
def iTup (K : PySem.W.Frag) (tl : TE) : TI := fun σ H R => tl σ H fun x H1 => ∃ a, x = .ref a ∧ (∃ xs, SqT K H1 a xs) ∧ R (Itt K a) H1
theorem pi_list {l : Expr} {tl : TE} (hl : PE X l tl) : PI X tg l (iList X.K tl) := by
  intro pins s σ H R I h
  refine thn (hl pins s σ H _ I h) fun v s1 ⟨x, H1, I1, r1, q1⟩ => ?_
  obtain ⟨a, e, ⟨xs, hq⟩, q⟩ := q1
  subst e
  cases r1
  obtain ⟨its, rv, p, hz⟩ := I1.list hq
  refine wpAny_pyIter_list p.isList ?_
  refine ⟨s1.heap.objs.size, [s1.heap.objs.size], _, _, H1, rfl, I1.kept (t' := s1.toks) fun b o e => Heap.get?_push_of_some _ e, turn_list a _, ⟨_, Heap.get?_push_size _ rfl, rfl, rfl⟩, fun b hb => ?_, q⟩
  have e : b = s1.heap.objs.size := by simpa using hb
  subst e
  exact I1.fpOk (Nat.le_refl _) (I1.hok.fresh (Nat.le_refl _))
/-- a range object just made, walked -/
theorem range_it {pins : List (Addr × Obj)} {σ : St} {H : Hp} {s : Shared} {R : It → Hp → Prop} {E : Value → Shared → Prop} {lo hi : Int} {t u v : Tok} {tk : Nat} (I : Inv X pins σ H s) (h1 : -(2 ^ 62) ≤ lo) (h2 : lo < 2 ^ 62) (h3 : -(2 ^ 62) ≤ hi) (h4 : hi < 2 ^ 62)
    (q : R (Itr lo (hi - lo).toNat) H) : wpAny (model X.prog X.w) X.A (pyIter (.ref s.heap.objs.size)) (PIE X pins σ tg R) E { s with heap := s.heap.push { cls := .type "range", data := .fields #[.int lo t, .int hi u, .int 1 v] }, toks := tk } := by
  refine wpAny_pyIter_range (IsRange.new ..) (small_one h1 h2 h3 h4) ?_
  have I1 : Inv X pins σ H { s with heap := s.heap.push { cls := .type "range", data := .fields #[.int lo t, .int hi u, .int 1 v] }, toks := tk } := I.kept fun b o e => Heap.get?_push_of_some _ e
  refine ⟨(s.heap.push { cls := .type "range", data := .fields #[.int lo t, .int hi u, .int 1 v] }).objs.size, [(s.heap.push { cls := .type "range", data := .fields #[.int lo t, .int hi u, .int 1 v] }).objs.size], _, _, H, rfl,
    I1.kept (t' := tk) fun b o e => Heap.get?_push_of_some _ e, turn_range _ lo (hi - lo).toNat, ?_, fun b hb => ?_, q⟩
  · have e1 : lo + ((0 : Nat) : Int) * 1 = lo := by simp
    have e2 : (((hi - lo).toNat : Nat) : Int) - ((0 : Nat) : Int) = Builtin.Range.rangeSize lo hi 1 := by rw [rangeSize_one]; split <;> omega
    show IsRangeIter _ _ (lo + ((0 : Nat) : Int) * 1) ((((hi - lo).toNat : Nat) : Int) - ((0 : Nat) : Int)) 1
    rw [e1, e2]
    exact Heap.get?_push_size _ rfl
  · have e : b = (s.heap.push { cls := .type "range", data := .fields #[.int lo t, .int hi u, .int 1 v] }).objs.size := by simpa using hb
    subst e
    exact I1.fpOk (Nat.le_refl _) (I1.hok.fresh (Nat.le_refl _))
def iRng1 (ta : TA) : TI := fun σ H R => ta σ H fun vs H1 => ∃ j : Int, vs = [.int j] ∧ -(2 ^ 62) ≤ j ∧ j < 2 ^ 62 ∧ R (Itr 0 j.toNat) H1
def iRng2 (ta : TA) : TI := fun σ H R => ta σ H fun vs H1 => ∃ i j : Int, vs = [.int i, .int j] ∧ (-(2 ^ 62) ≤ i ∧ i < 2 ^ 62 ∧ -(2 ^ 62) ≤ j ∧ j < 2 ^ 62) ∧ R (Itr i (j - i).toNat) H1
theorem pi_range1 {a : Expr} {ta : TA} {p pos : Pos} (hg : Gl X "range") (hm : X.mg "range" = none) (ha : PA X [a] ta) (hs : starEach [a] X.env = [(false, eval a X.env)] := by rfl) : PI X tg (.Call (.Name "range" p) [a] [] pos) (iRng1 ta) := by
  intro pins s σ H R I h
  refine Call_ (ld_blt I hg hm boot_range (PyProof.Rows.callWith_type1 (thn (ha pos pins s σ H _ I h) fun us s1 ⟨vs, H1, I1, r1, q1⟩ => ?_) hs rfl))
  obtain ⟨j, e, q1, q2, q⟩ := q1
  subst e
  cases r1 with
  | cons r rr =>
    cases rr
    obtain ⟨t, rfl⟩ := r
    exact call_range_1 (range_it I1 (by omega) (by omega) q1 q2 (by simpa using q))
/-! ### for -/
/-- W: the invariant by the turn and a measure; N: what the body is to reach -/
def tFor (wi : TI) (g : TG) (tb : TS) : TS := fun D σ H => wi σ H fun J H1 => ∃ W : Nat → Nat → St → Hp → Prop, (∃ m, W 0 m σ H1) ∧ ∀ i m σ H, W i m σ H →
  (J.stop i H ∧ D.nx σ H) ∨ (J.go i H ∧ ∃ N : St → Hp → Prop, (∀ σ' H', N σ' H' → ∃ m', m' < m ∧ W (i + 1) m' σ' H') ∧ ∀ x H', J.yld i H x H' → g x σ H' fun σ2 H2 => tb { D with nx := N, ct := N, bk := D.nx } σ2 H2)
/-- the records at fp as they stand -/
def pinsAt (fp : List Addr) (h : Heap) : List (Addr × Obj) := fp.filterMap fun b => (h.get? b).map fun o => (b, o)
theorem mem_pinsAt {fp : List Addr} {h : Heap} {b : Addr} {o : Obj} (hb : b ∈ fp) (e : h.get? b = some o) : (b, o) ∈ pinsAt fp h := List.mem_filterMap.mpr ⟨b, hb, by rw [e]; rfl⟩
theorem of_pinsAt {fp : List Addr} {h : Heap} {p : Addr × Obj} (hp : p ∈ pinsAt fp h) : p.1 ∈ fp ∧ h.get? p.1 = some p.2 := by
  obtain ⟨b, hb, e⟩ := List.mem_filterMap.mp hp
  cases q : h.get? b with
  | none => rw [q] at e; cases e
  | some o =>
    rw [q] at e
    have e' : (b, o) = p := Option.some.inj e
    subst e'
    exact ⟨hb, q⟩
theorem Inv.pinned {pins : List (Addr × Obj)} {σ : St} {H : Hp} {s : Shared} {fp : List Addr} (I : Inv X pins σ H s) (hf : ∀ b ∈ fp, FpOk X pins H b) (ho : ∀ b ∈ fp, ∃ o, s.heap.get? b = some o ∧ ∀ v, o.data ≠ .cell v) : Inv X (pins ++ pinsAt fp s.heap) σ H s :=
  I.pins_of fun p hp => (List.mem_append.mp hp).elim (fun z => I.pin p (List.mem_append_right _ z)) fun z => by
    obtain ⟨hb, e⟩ := of_pinsAt z
    obtain ⟨f0, f1, f2, _⟩ := hf p.1 hb
    obtain ⟨o, e', d⟩ := ho p.1 hb
    rw [e] at e'; cases e'
    exact ⟨e, f0, f1, f2, d⟩
theorem Inv.unpinned {pins pl : List (Addr × Obj)} {σ : St} {H : Hp} {s : Shared} (I : Inv X (pins ++ pl) σ H s) : Inv X pins σ H s := I.pins_of fun p hp => I.pin p (List.mem_append_right _ (List.mem_append_left _ hp))
theorem ps_for {iter : Expr} {body : List Stmt} {wi : TI} {g : TG} {tb : TS} {pos : Pos} (hp : PassesOwn (model X.prog X.w) X.A X.env X.xe) (hc : X.calm = true) (hi : PI X tg iter wi) (hg : PG X tg g) (hb : PSs X body tb)
    (hs : ∀ x, foldedSetIterable iter X.env x = pure x := by intro _; rfl) : PS X (.For tg iter body [] pos) (tFor wi g tb) := by
  intro pins s σ H D I h
  refine wpAny_For (thn (hi pins s σ H _ I h) fun v s1 h1 => thn h1 fun itv s2 h2 => ?_) hs
  obtain ⟨it, fp, tn, J, H2, e, I2, T, st2, f2, W, ⟨m0, w0⟩, turn⟩ := h2
  subst e
  -- what stays true of the iterator's objects through the loop
  have stat : ∀ {H' : Hp}, (∀ b ∈ fp, H' b = none) → ∀ b ∈ fp, FpOk X pins H' b := fun hn b hb => ⟨hn b hb, (f2 b hb).2⟩
  refine codeAny_forLoop_any (fun n s' => ∃ i σ' H', Inv X pins σ' H' s' ∧ tn i s'.heap ∧ (∀ b ∈ fp, H' b = none) ∧ W i n σ' H') ?_ m0 ⟨0, σ, H2, I2, st2, fun b hb => (f2 b hb).1, w0⟩
  rintro n s3 ⟨i, σ3, H3, I3, st3, fr3, w3⟩
  rcases turn i n σ3 H3 w3 with ⟨stop, qn⟩ | ⟨go, N, hN, step⟩
  · refine wpAny_passesOwn hp (thn (T.done X rfl rfl rfl hc i pins s3 σ3 H3 X.xe I3 (stat fr3) st3 stop) fun r s4 ⟨hr, I4⟩ => ?_)
    subst hr
    exact wpAny_execs_nil ⟨σ3, H3, I4, qn⟩
  · refine wpAny_passesOwn hp (thn (T.item X rfl rfl rfl hc i pins s3 σ3 H3 X.xe I3 (stat fr3) st3 go) fun r s4 ⟨u, hr, h4⟩ => ?_)
    subst hr
    refine wpAny_passesOwn hp (thn h4 fun _ s5 ⟨x, H5, I5, r5, y5, st5, fr5⟩ => ?_)
    have I5' := I5.pinned (stat fr5) (T.obj _ _ st5)
    refine wpAny_passesOwn hp (thn (hg _ s5 σ3 H5 x u _ I5' r5 (step x H5 y5)) fun _ s6 ⟨σ6, H6, I6, q6⟩ => ?_)
    refine wpAny_passesOwn hp (thn (hb _ s6 σ6 H6 _ I6 q6) fun f s7 q7 => ?_)
    have again : ∀ {σ7 : St} {H7 : Hp}, Inv X (pins ++ pinsAt fp s5.heap) σ7 H7 s7 → N σ7 H7 → ∃ m, m < n ∧ ∃ i σ' H', Inv X pins σ' H' s7 ∧ tn i s7.heap ∧ (∀ b ∈ fp, H' b = none) ∧ W i m σ' H' := fun {σ7 H7} I7 n7 => by
      obtain ⟨m', hm, w7⟩ := hN σ7 H7 n7
      refine ⟨m', hm, i + 1, σ7, H7, I7.unpinned, T.keep _ _ _ st5 fun b hb o e => (I7.pin (b, o) (List.mem_append_right _ (List.mem_append_right _ (mem_pinsAt hb e)))).1, fun b hb => ?_, w7⟩
      obtain ⟨o, e, d⟩ := T.obj _ _ st5 b hb
      exact (I7.pin (b, o) (List.mem_append_right _ (List.mem_append_right _ (mem_pinsAt hb e)))).2.1
    cases f with
    | next => obtain ⟨σ7, H7, I7, n7⟩ := q7; exact again I7 n7
    | cont => obtain ⟨σ7, H7, I7, n7⟩ := q7; exact again I7 n7
    | brk => obtain ⟨σ7, H7, I7, q7⟩ := q7; exact ⟨σ7, H7, I7.unpinned, q7⟩
    | ret v => obtain ⟨x7, σ7, H7, I7, r7, q7⟩ := q7; exact ⟨x7, σ7, H7, I7.unpinned, r7, q7⟩
end

/-! ### the forms one uses -/
/-- over a list that the body leaves as it is -/
theorem for_list {K : PySem.W.Frag} {a : Addr} {xs : List V} {g : TG} {tb : TS} {D : Ends} {σ : St} {H : Hp} (Pv : Nat → St → Hp → Prop) (h0 : Pv 0 σ H) (hl : ∀ i σ H, i ≤ xs.length → Pv i σ H → SqL K H a xs)
    (hs : ∀ i x σ H, xs[i]? = some x → Pv i σ H → g x σ H fun σ2 H2 => tb { D with nx := Pv (i + 1), ct := Pv (i + 1), bk := D.nx } σ2 H2) (hd : ∀ σ H, Pv xs.length σ H → D.nx σ H) :
    ∃ W : Nat → Nat → St → Hp → Prop, (∃ m, W 0 m σ H) ∧ ∀ i m σ H, W i m σ H →
      ((Itl K a).stop i H ∧ D.nx σ H) ∨ ((Itl K a).go i H ∧ ∃ N : St → Hp → Prop, (∀ σ' H', N σ' H' → ∃ m', m' < m ∧ W (i + 1) m' σ' H') ∧ ∀ x H', (Itl K a).yld i H x H' → g x σ H' fun σ2 H2 => tb { D with nx := N, ct := N, bk := D.nx } σ2 H2) := by
  refine ⟨fun i m σ H => m = xs.length - i ∧ i ≤ xs.length ∧ Pv i σ H, ⟨xs.length, by simp, Nat.zero_le _, h0⟩, ?_⟩
  rintro i m σ H ⟨rfl, hi, p⟩
  have q := hl i σ H hi p
  by_cases hlt : i < xs.length
  · refine .inr ⟨⟨xs, xs[i], q, by simp [hlt]⟩, Pv (i + 1), fun σ' H' p' => ⟨xs.length - (i + 1), by omega, rfl, hlt, p'⟩, fun x H' y => ?_⟩
    obtain ⟨e, y⟩ := y
    subst e
    exact hs i x σ _ (y xs q) p
  · have e : i = xs.length := by omega
    subst e
    exact .inl ⟨⟨xs, q, Nat.le_refl _⟩, hd σ H p⟩
theorem for_range {lo : Int} {n : Nat} {g : TG} {tb : TS} {D : Ends} {σ : St} {H : Hp} (Pv : Nat → St → Hp → Prop) (h0 : Pv 0 σ H)
    (hs : ∀ i σ H, i < n → Pv i σ H → g (.int (lo + i)) σ H fun σ2 H2 => tb { D with nx := Pv (i + 1), ct := Pv (i + 1), bk := D.nx } σ2 H2) (hd : ∀ σ H, Pv n σ H → D.nx σ H) :
    ∃ W : Nat → Nat → St → Hp → Prop, (∃ m, W 0 m σ H) ∧ ∀ i m σ H, W i m σ H →
      ((Itr lo n).stop i H ∧ D.nx σ H) ∨ ((Itr lo n).go i H ∧ ∃ N : St → Hp → Prop, (∀ σ' H', N σ' H' → ∃ m', m' < m ∧ W (i + 1) m' σ' H') ∧ ∀ x H', (Itr lo n).yld i H x H' → g x σ H' fun σ2 H2 => tb { D with nx := N, ct := N, bk := D.nx } σ2 H2) := by
  refine ⟨fun i m σ H => m = n - i ∧ i ≤ n ∧ Pv i σ H, ⟨n, by simp, Nat.zero_le _, h0⟩, ?_⟩
  rintro i m σ H ⟨rfl, hi, p⟩
  by_cases hlt : i < n
  · refine .inr ⟨hlt, Pv (i + 1), fun σ' H' p' => ⟨n - (i + 1), by omega, rfl, hlt, p'⟩, fun x H' y => ?_⟩
    obtain ⟨e, y⟩ := y
    subst e y
    exact hs i σ _ hlt p
  · have e : i = n := by omega
    subst e
    exact .inl ⟨Nat.le_refl _, hd σ H p⟩
end L2

namespace L2
open PySem PySem.Spec PyProof.Rows

abbrev R2 := V → V → Hp → VK → Prop
/-- a two-place operation on values: f is binaryOp op, inplaceOp op or compareOp op -/
def OpR (X : Cx) (f : Value → Value → Sem Value) (r : R2) : Prop :=
  ∀ (pins : List (Addr × Obj)) (s : Shared) (σ : St) (H : Hp) (x y : V) (v u : Value) (Q : VK), Inv X pins σ H s → RelV x v → RelV y u → r x y H Q →
    wpAny (model X.prog X.w) X.A (f v u) (EP X pins σ Q) X.xe s
/-- a one-place operation -/
def UnR (X : Cx) (f : Value → Sem Value) (r : V → Hp → VK → Prop) : Prop :=
  ∀ (pins : List (Addr × Obj)) (s : Shared) (σ : St) (H : Hp) (x : V) (v : Value) (Q : VK), Inv X pins σ H s → RelV x v → r x H Q →
    wpAny (model X.prog X.w) X.A (f v) (EP X pins σ Q) X.xe s
/-- a call of a value that is known (a builtin, a type) with values -/
def CallR (X : Cx) (f : Value) (r : List V → Hp → VK → Prop) : Prop :=
  ∀ (pins : List (Addr × Obj)) (s : Shared) (σ : St) (H : Hp) (xs : List V) (us : List Value) (Q : VK), Inv X pins σ H s → Vals xs us → r xs H Q →
    wpAny (model X.prog X.w) X.A (call f us) (EP X pins σ Q) X.xe s
def tOp (r : R2) (ta tb : TE) : TE := fun σ H Q => ta σ H fun x H1 => tb σ H1 fun y H2 => r x y H2 Q
def tUn (r : V → Hp → VK → Prop) (ta : TE) : TE := fun σ H Q => ta σ H fun x H1 => r x H1 Q
/-- ints in, under C, and a value out -/
def rI (C : Int → Int → Prop) (g : Int → Int → V) : R2 := fun x y H Q => ∃ i j, x = .int i ∧ y = .int j ∧ C i j ∧ Q (g i j) H
def rI0 (g : Int → Int → V) : R2 := fun x y H Q => ∃ i j, x = .int i ∧ y = .int j ∧ Q (g i j) H
def rU (g : Int → V) : V → Hp → VK → Prop := fun x H Q => ∃ i, x = .int i ∧ Q (g i) H

section
variable {X : Cx} {a b c : Expr} {ta tb tc : TE} {pos : Pos}

theorem binT (ha : PE X a ta) (hb : PE X b tb) {pins : List (Addr × Obj)} {s : Shared} {σ : St} {H : Hp} {R : V → V → Hp → Prop} (I : Inv X pins σ H s)
    (h : ta σ H fun x H1 => tb σ H1 fun y H2 => R x y H2) {Q : Value → Shared → Prop} {f : Value → Value → Sem Value}
    (hf : ∀ v u s2 x y H2, Inv X pins σ H2 s2 → RelV x v → RelV y u → R x y H2 → wpAny (model X.prog X.w) X.A (f v u) Q X.xe s2) :
    wpAny (model X.prog X.w) X.A (eval a X.env) (fun v s₁ => wpAny (model X.prog X.w) X.A (eval b X.env) (fun u s₂ => wpAny (model X.prog X.w) X.A (f v u) Q X.xe s₂) X.xe s₁) X.xe s := by
  refine thn (ha pins s σ H _ I h) fun v s1 ⟨x, H1, I1, r1, q1⟩ => ?_
  refine thn (hb pins s1 σ H1 _ I1 q1) fun u s2 ⟨y, H2, I2, r2, q2⟩ => ?_
  exact hf v u s2 x y H2 I2 r1 r2 q2

theorem pe_op {op : Operator} {r : R2} (ho : OpR X (binaryOp op) r) (ha : PE X a ta) (hb : PE X b tb) : PE X (.BinOp a op b pos) (tOp r ta tb) := by
  intro pins s σ H Q I h
  exact wpAny_BinOp (binT ha hb I h fun v u s2 x y H2 I2 rx ry q => ho pins s2 σ H2 x y v u Q I2 rx ry q)
theorem pe_un {op : UnaryOp} {r : V → Hp → VK → Prop} (ho : UnR X (unaryOp op) r) (ha : PE X a ta) : PE X (.UnaryOp op a pos) (tUn r ta) := by
  intro pins s σ H Q I h
  exact UnaryOp_ (thn (ha pins s σ H _ I h) fun v s1 ⟨x, H1, I1, r1, q1⟩ => ho pins s1 σ H1 x v Q I1 r1 q1)
/-! ### ints -/
theorem opI {f : Value → Value → Sem Value} {C : Int → Int → Prop} {g : Int → Int → Int}
    (rule : ∀ (i j : Int) (t u : Tok) (s : Shared) (Q : Value → Shared → Prop) (E : Value → Shared → Prop), C i j → Q (.int (g i j) s.toks) { s with toks := s.toks + 1 } → wpAny (model X.prog X.w) X.A (f (.int i t) (.int j u)) Q E s) :
    OpR X f (rI C fun i j => .int (g i j)) := by
  intro pins s σ H x y v u Q I rx ry h
  obtain ⟨i, j, rfl, rfl, hc, q⟩ := h
  obtain ⟨t, rfl⟩ := rx
  obtain ⟨t', rfl⟩ := ry
  exact rule i j t t' s _ _ hc ⟨.int (g i j), H, I.tok _, ⟨_, rfl⟩, q⟩
theorem opI0 {f : Value → Value → Sem Value} {g : Int → Int → Int}
    (rule : ∀ (i j : Int) (t u : Tok) (s : Shared) (Q : Value → Shared → Prop) (E : Value → Shared → Prop), Q (.int (g i j) s.toks) { s with toks := s.toks + 1 } → wpAny (model X.prog X.w) X.A (f (.int i t) (.int j u)) Q E s) :
    OpR X f (rI0 fun i j => .int (g i j)) := by
  intro pins s σ H x y v u Q I rx ry h
  obtain ⟨i, j, rfl, rfl, q⟩ := h
  obtain ⟨t, rfl⟩ := rx
  obtain ⟨t', rfl⟩ := ry
  exact rule i j t t' s _ _ ⟨.int (g i j), H, I.tok _, ⟨_, rfl⟩, q⟩
theorem opB0 {f : Value → Value → Sem Value} {g : Int → Int → Bool}
    (rule : ∀ (i j : Int) (t u : Tok) (s : Shared) (Q : Value → Shared → Prop) (E : Value → Shared → Prop), Q (.bool (g i j)) s → wpAny (model X.prog X.w) X.A (f (.int i t) (.int j u)) Q E s) :
    OpR X f (rI0 fun i j => .bl (g i j)) := by
  intro pins s σ H x y v u Q I rx ry h
  obtain ⟨i, j, rfl, rfl, q⟩ := h
  obtain ⟨t, rfl⟩ := rx
  obtain ⟨t', rfl⟩ := ry
  exact rule i j t t' s _ _ ⟨.bl (g i j), H, I, rfl, q⟩

def CPow (i j : Int) : Prop := 0 ≤ j ∧ j ≤ 1000000 ∧ i.natAbs < 2 ^ 64
def CMul (i j : Int) : Prop := (-(2 ^ 64) < i ∧ i < 2 ^ 64) ∨ (-(2 ^ 64) < j ∧ j < 2 ^ 64)
theorem CMul.ok {i j : Int} (h : CMul i j) : IntMulOk i j := by
  rcases h with ⟨h1, h2⟩ | ⟨h1, h2⟩
  · exact .of_left (intBits_le_64 h1 h2)
  · exact .of_right (intBits_le_64 h1 h2)
theorem op_add : OpR X (binaryOp .Add) (rI0 fun i j => .int (i + j)) := opI0 fun _ _ _ _ _ _ _ q => add_int q
theorem op_sub : OpR X (binaryOp .Sub) (rI0 fun i j => .int (i - j)) := opI0 fun _ _ _ _ _ _ _ q => sub_int q
theorem op_mul : OpR X (binaryOp .Mult) (rI CMul fun i j => .int (i * j)) := opI fun _ _ _ _ _ _ _ hc q => mul_int q hc.ok
/-- % by a positive divisor of any size -/
theorem op_mod : OpR X (binaryOp .Mod) (rI (fun _ j => 0 < j) fun i j => .int (i % j)) := opI fun i j _ _ _ _ _ hc q => by
  have h1 : (0 : Int) < j := hc
  exact mod_int' (by omega) (by rw [Int.fmod_eq_emod_of_nonneg i (by omega)]; exact q)
theorem op_pow : OpR X (binaryOp .Pow) (rI CPow fun i j => .int (i ^ j.toNat)) := opI fun _ _ _ _ _ _ _ hc q => pow_int_small hc.1 hc.2.1 hc.2.2 q
theorem unI {f : Value → Sem Value} {g : Int → Int}
    (rule : ∀ (i : Int) (t : Tok) (s : Shared) (Q : Value → Shared → Prop) (E : Value → Shared → Prop), Q (.int (g i) s.toks) { s with toks := s.toks + 1 } → wpAny (model X.prog X.w) X.A (f (.int i t)) Q E s) :
    UnR X f (rU fun i => .int (g i)) := by
  intro pins s σ H x v Q I rx h
  obtain ⟨i, rfl, q⟩ := h
  obtain ⟨t, rfl⟩ := rx
  exact rule i t s _ _ ⟨.int (g i), H, I.tok _, ⟨_, rfl⟩, q⟩
theorem un_neg : UnR X (unaryOp .USub) (rU fun i => .int (-i)) := unI fun _ _ _ _ _ q => neg_int q
/-! ### bools among ints: n += (a < b) -/
end

/-! ### comparisons -/
/-- the scalars that == tells apart as data does -/
def scal : V → V → Bool
  | .non, .non => true | .non, .int _ => true | .int _, .non => true | .non, .bl _ => true | .bl _, .non => true | .non, .str _ => true | .str _, .non => true
  | .int _, .int _ => true | .bl _, .bl _ => true | .str _, .str _ => true | .byt _, .byt _ => true
  | .int _, .str _ => true | .str _, .int _ => true | .bl _, .str _ => true | .str _, .bl _ => true
  | _, _ => false
def rEq : R2 := fun x y H Q => scal x y = true ∧ Q (.bl (decide (x = y))) H
def rNe : R2 := fun x y H Q => scal x y = true ∧ Q (.bl (!decide (x = y))) H

theorem dec_int {i j : Int} : decide (V.int i = V.int j) = (i == j) := by
  rw [Bool.eq_iff_iff]
  simp
theorem dec_bl {i j : Bool} : decide (V.bl i = V.bl j) = (i == j) := by
  rw [Bool.eq_iff_iff]
  simp
theorem dec_str {i j : Str} : decide (V.str i = V.str j) = (i == j) := by
  rw [Bool.eq_iff_iff]
  simp
theorem dec_byt {i j : Array UInt8} : decide (V.byt i = V.byt j) = (i.toList == j.toList) := by
  rw [Bool.eq_iff_iff]
  cases i
  cases j
  simp

section
variable {X : Cx} {a b c : Expr} {ta tb tc : TE} {pos : Pos}
theorem fin_bl {pins : List (Addr × Obj)} {σ : St} {H : Hp} {s : Shared} {Q : VK} {k k' : Bool} (I : Inv X pins σ H s) (q : Q (.bl k) H) (e : k = k') : EP X pins σ Q (.bool k') s := by
  subst e
  exact ⟨.bl k, H, I, rfl, q⟩
theorem op_eq : OpR X (compareOp .Eq) rEq := by
  intro pins s σ H x y v u Q I rx ry h
  obtain ⟨hs, q⟩ := h
  cases x with
  | non =>
    cases rx
    cases y with
    | non => cases ry; exact PySem.EqNone.eq_none_none (fin_bl I q (by simp))
    | bl j => cases ry; exact PySem.EqNone.eq_none_bool (fin_bl I q (by simp))
    | int j => obtain ⟨t', rfl⟩ := ry; exact PySem.EqNone.eq_none_int (fin_bl I q (by simp))
    | str j => obtain ⟨t', rfl⟩ := ry; exact PySem.EqNone.eq_none_str (fin_bl I q (by simp))
    | _ => exact absurd (show false = true from hs) Bool.false_ne_true
  | bl i =>
    cases rx
    cases y with
    | non => cases ry; exact PySem.EqNone.eq_bool_none (fin_bl I q (by simp))
    | bl j => cases ry; exact eq_bool (fin_bl I q dec_bl)
    | str j => obtain ⟨t', rfl⟩ := ry; exact PySem.EqMixed.eq_bool_str (fin_bl I q (by simp))
    | _ => exact absurd (show false = true from hs) Bool.false_ne_true
  | int i =>
    obtain ⟨t, rfl⟩ := rx
    cases y with
    | non => cases ry; exact PySem.EqNone.eq_int_none (fin_bl I q (by simp))
    | int j => obtain ⟨t', rfl⟩ := ry; exact eq_int (fin_bl I q dec_int)
    | str j => obtain ⟨t', rfl⟩ := ry; exact PySem.EqMixed.eq_int_str (fin_bl I q (by simp))
    | _ => exact absurd (show false = true from hs) Bool.false_ne_true
  | str i =>
    obtain ⟨t, rfl⟩ := rx
    cases y with
    | non => cases ry; exact PySem.EqNone.eq_str_none (fin_bl I q (by simp))
    | bl j => cases ry; exact PySem.EqMixed.eq_str_bool (fin_bl I q (by simp))
    | int j => obtain ⟨t', rfl⟩ := ry; exact PySem.EqMixed.eq_str_int (fin_bl I q (by simp))
    | str j => obtain ⟨t', rfl⟩ := ry; exact eq_str (fin_bl I q dec_str)
    | _ => exact absurd (show false = true from hs) Bool.false_ne_true
  | byt i =>
    obtain ⟨t, rfl⟩ := rx
    cases y with
    | byt j => obtain ⟨t', rfl⟩ := ry; exact PySem.W.eq_bytes (fin_bl I q dec_byt)
    | _ => exact absurd (show false = true from hs) Bool.false_ne_true
  | _ => cases y <;> exact absurd (show false = true from hs) Bool.false_ne_true
theorem op_ne : OpR X (compareOp .NotEq) rNe := by
  intro pins s σ H x y v u Q I rx ry h
  obtain ⟨hs, q⟩ := h
  cases x with
  | non =>
    cases rx
    cases y with
    | non => cases ry; exact PySem.EqNone.ne_none_none (fin_bl I q (by simp))
    | bl j => cases ry; exact PySem.EqNone.ne_none_bool (fin_bl I q (by simp))
    | int j => obtain ⟨t', rfl⟩ := ry; exact PySem.EqNone.ne_none_int (fin_bl I q (by simp))
    | str j => obtain ⟨t', rfl⟩ := ry; exact PySem.EqNone.ne_none_str (fin_bl I q (by simp))
    | _ => exact absurd (show false = true from hs) Bool.false_ne_true
  | bl i =>
    cases rx
    cases y with
    | non => cases ry; exact PySem.EqNone.ne_bool_none (fin_bl I q (by simp))
    | bl j => cases ry; exact ne_bool (fin_bl I q (congrArg not dec_bl))
    | str j => obtain ⟨t', rfl⟩ := ry; exact PySem.EqMixed.ne_bool_str (fin_bl I q (by simp))
    | _ => exact absurd (show false = true from hs) Bool.false_ne_true
  | int i =>
    obtain ⟨t, rfl⟩ := rx
    cases y with
    | non => cases ry; exact PySem.EqNone.ne_int_none (fin_bl I q (by simp))
    | int j => obtain ⟨t', rfl⟩ := ry; exact ne_int (fin_bl I q (congrArg not dec_int))
    | str j => obtain ⟨t', rfl⟩ := ry; exact PySem.EqMixed.ne_int_str (fin_bl I q (by simp))
    | _ => exact absurd (show false = true from hs) Bool.false_ne_true
  | str i =>
    obtain ⟨t, rfl⟩ := rx
    cases y with
    | non => cases ry; exact PySem.EqNone.ne_str_none (fin_bl I q (by simp))
    | bl j => cases ry; exact PySem.EqMixed.ne_str_bool (fin_bl I q (by simp))
    | int j => obtain ⟨t', rfl⟩ := ry; exact PySem.EqMixed.ne_str_int (fin_bl I q (by simp))
    | str j => obtain ⟨t', rfl⟩ := ry; exact ne_str (fin_bl I q (congrArg not dec_str))
    | _ => exact absurd (show false = true from hs) Bool.false_ne_true
  | byt i =>
    obtain ⟨t, rfl⟩ := rx
    cases y with
    | byt j => obtain ⟨t', rfl⟩ := ry; exact PySem.W.ne_bytes (fin_bl I q (congrArg not dec_byt))
    | _ => exact absurd (show false = true from hs) Bool.false_ne_true
  | _ => cases y <;> exact absurd (show false = true from hs) Bool.false_ne_true

theorem op_lt : OpR X (compareOp .Lt) (rI0 fun i j => .bl (decide (i < j))) := opB0 fun _ _ _ _ _ _ _ q => lt_int q
theorem op_le : OpR X (compareOp .LtE) (rI0 fun i j => .bl (decide (i ≤ j))) := opB0 fun _ _ _ _ _ _ _ q => le_int q
/-- is None, is not None: the right side a value none -/
theorem op_isN : OpR X (compareOp .Is) (fun x y H Q => y = .non ∧ Q (.bl (decide (x = .non))) H) := by
  intro pins s σ H x y v u Q I rx ry h
  obtain ⟨rfl, q⟩ := h
  cases ry
  refine is_none_gen (fin_bl I q ?_)
  cases x <;> first
    | (cases rx; rfl)
    | (obtain ⟨t, rfl⟩ := rx; rfl)
/-- two rules for one operation: by cases -/
theorem OpR.or {f : Value → Value → Sem Value} {r r' : R2} (h : OpR X f r) (h' : OpR X f r') : OpR X f (fun x y H Q => r x y H Q ∨ r' x y H Q) := by
  intro pins s σ H x y v u Q I rx ry q
  rcases q with q | q
  · exact h pins s σ H x y v u Q I rx ry q
  · exact h' pins s σ H x y v u Q I rx ry q

theorem nomark (b : Expr) {op : CmpOp} (h : op ≠ .In := by decide) (h2 : op ≠ .NotIn := by decide) : behindInMarks op b = false := by
  have e1 : (op == CmpOp.In) = false := by cases op <;> first | rfl | exact absurd rfl h
  have e2 : (op == CmpOp.NotIn) = false := by cases op <;> first | rfl | exact absurd rfl h2
  cases b <;> simp [behindInMarks, e1, e2]
/-- a comparison as a value; hm: nomark b, or (for in, not in) by with_unfolding_all rfl -/
theorem pe_cmpR {op : CmpOp} {r : R2} (ho : OpR X (compareOp op) r) (ha : PE X a ta) (hb : PE X b tb) (hm : behindInMarks op b = false) : PE X (.Compare a [op] [b] pos) (tOp r ta tb) := by
  intro pins s σ H Q I h
  exact wpAny_Compare1 (binT ha hb I h fun v u s2 x y H2 I2 rx ry q => ho pins s2 σ H2 x y v u Q I2 rx ry q) hm
/-- a reading of a value as a test -/
def tTest (t : TE) : TT := fun σ H Q => t σ H fun x H' => ∃ k, x = .bl k ∧ Q k H'
theorem pt_cmpR {op : CmpOp} {r : R2} (ho : OpR X (compareOp op) r) (ha : PE X a ta) (hb : PE X b tb) (hm : behindInMarks op b = false) : PT X (.Compare a [op] [b] pos) (tTest (tOp r ta tb)) := by
  intro pins s σ H Q I h
  refine wpAny_isTrue_Compare1 (thn (ha pins s σ H _ I h) fun v s1 ⟨x, H1, I1, r1, q1⟩ => thn (hb pins s1 σ H1 _ I1 q1) fun u s2 ⟨y, H2, I2, r2, q2⟩ =>
    thn (ho pins s2 σ H2 x y v u _ I2 r1 r2 q2) fun c s3 ⟨z, H3, I3, r3, k, e, q3⟩ => ?_) hm
  subst e
  cases r3
  exact wpAny_truthy_bool ⟨H3, I3, q3⟩
/-- a op1 b op2 c -/
def tChain (r r' : R2) (ta tb tc : TE) : TE := fun σ H Q => ta σ H fun x H1 => tb σ H1 fun y H2 => r x y H2 fun z H3 => ∃ k, z = .bl k ∧
  (if k = true then tc σ H3 fun w' H4 => r' y w' H4 Q else Q (.bl false) H3)
theorem pe_chain {op op' : CmpOp} {r r' : R2} (ho : OpR X (compareOp op) r) (ho' : OpR X (compareOp op') r') (ha : PE X a ta) (hb : PE X b tb) (hc : PE X c tc)
    (hm : lastMarks [op, op'] [b, c] = false := by with_unfolding_all rfl) : PE X (.Compare a [op, op'] [b, c] pos) (tChain r r' ta tb tc) := by
  intro pins s σ H Q I h
  refine Compare_chain (thn (ha pins s σ H _ I h) fun v s1 ⟨x, H1, I1, r1, q1⟩ => chain_link (thn (hb pins s1 σ H1 _ I1 q1) fun u s2 ⟨y, H2, I2, r2, q2⟩ =>
    thn (ho pins s2 σ H2 x y v u _ I2 r1 r2 q2) fun d s3 ⟨z, H3, I3, r3, k, e, q3⟩ => ?_)) hm
  subst e
  cases r3
  refine wpAny_truthy_bool ?_
  cases k with
  | false => exact ite_ff ⟨.bl false, H3, I3, rfl, q3⟩
  | true => exact ite_tt (chain_last (thn (hc pins s3 σ H3 _ I3 q3) fun w' s4 ⟨z', H4, I4, r4, q4⟩ => ho' pins s4 σ H4 y z' u w' Q I4 r2 r4 q4))
/-! ### truth -/
theorem line63 : (sizeLine : Nat) < 2 ^ 63 := by rw [sizeLine_eq]; decide
/-! ### strs and bytes -/
/-! ### scalar builtins, by CallR -/
theorem vals1 {x : V} {us : List Value} (r : Vals [x] us) : ∃ u, us = [u] ∧ RelV x u := by
  cases r with
  | cons r1 r2 => cases r2; exact ⟨_, rfl, r1⟩
theorem vals2 {x y : V} {us : List Value} (r : Vals [x, y] us) : ∃ u w', us = [u, w'] ∧ RelV x u ∧ RelV y w' := by
  cases r with
  | cons r1 r2 =>
    cases r2 with
    | cons r3 r4 => cases r4; exact ⟨_, _, rfl, r1, r3⟩
end
end L2

namespace L2
open PySem PySem.Spec PyProof.Rows

/-! ### an instance, its attributes a map -/
structure ObjM (h : Heap) (x dx C : Addr) (mA : Str → Option Value) : Prop where
  obj : h.get? x = some (PySem.W.instObj C dx)
  ns : h.Ns1 dx mA
  ne : dx ≠ x

theorem lookIn_ns {h : Heap} {dx : Addr} {mA : Str → Option Value} (n : h.Ns1 dx mA) : ∃ od, h.get? dx = some od ∧ ∀ name, PySem.W.lookIn name od = some (mA name) := by
  obtain ⟨o, es, ep, ho, hd, hk, _, hm⟩ := n
  refine ⟨o, ho, fun name => ?_⟩
  have e := hm name
  unfold nsFind findBy at e
  rw [← Array.find?_toList] at e
  unfold PySem.W.lookIn
  rw [hd]
  dsimp only
  split
  · rename_i y q
    rw [q] at e
    exact congrArg some e
  · rename_i q
    rw [q] at e
    have a : es.toList.any (·.refKey) = false := by
      rw [List.any_eq_false]
      intro y hy
      obtain ⟨z, t, hkey⟩ := hk y (Array.mem_toList_iff.mp hy)
      simp [DictEntry.refKey, hkey]
    have a' : ¬ es.toList.any (·.refKey) = true := by rw [a]; exact Bool.false_ne_true
    rw [if_neg a']
    exact congrArg some e

theorem ObjM.look {h : Heap} {x dx C : Addr} {mA : Str → Option Value} (I : ObjM h x dx C mA) : ∃ od, PySem.W.InstAt h x (PySem.W.instObj C dx) C (some od) ∧ ∀ name, PySem.W.lookIn name od = some (mA name) :=
  let ⟨od, ho, hl⟩ := lookIn_ns I.ns
  ⟨od, ⟨I.obj, rfl, rfl, ho⟩, hl⟩

section
variable {prog : Program} {w : World} {A : Around} {E : Value → Shared → Prop} {s : Shared} {K : PySem.W.Frag} {x dx C f : Addr} {mA : Str → Option Value} {name : Str} {v : Value}

theorem get_map {expr : Bool} {Q : Value → Shared → Prop} (X : K.In s.heap) (I : ObjM s.heap x dx C mA) (hg : PySem.W.plainGet K C name = true) (hh : PySem.W.hasDictIn K C = true)
    (ha : PySem.W.findIn K (.ref C) name = some none) (hv : mA name = some v) (hv' : PySem.W.handedIn v = true) (h : Q v { s with toks := s.toks + 1 }) :
    wpAny (model prog w) A (getAttr (.ref x) name expr) Q E s := by
  obtain ⟨od, J, hl⟩ := I.look
  exact PySem.W.get_value X J (PySem.W.plainGet_of hg).1 (PySem.W.findObj_own hh ha rfl (by rw [hl, hv])) hv' h

theorem get_meth {pl : Sem Bool} {Q : Value × List Value → Shared → Prop} (X : K.In s.heap) (I : ObjM s.heap x dx C mA) (hg : PySem.W.plainGet K C name = true)
    (hf : PySem.W.findIn K (.ref C) name = some (some (.ref f))) (ht : PySem.W.isFn K (.ref f) = true) (hv : mA name = none) (h : Q (.ref f, [.ref x]) s) :
    wpAny (model prog w) A (getMethod (.ref x) name pl) Q E s := by
  obtain ⟨od, J, hl⟩ := I.look
  exact PySem.W.method_fn X J (PySem.W.plainGet_of hg).1 (PySem.W.plainGet_of hg).2 hf (beq_iff_eq.mp ht) (by show (PySem.W.lookIn name od).map (·.isSome) = some false; rw [hl, hv]; rfl) h

theorem set_map {ns : List Str} {Q : Unit → Shared → Prop} (X : K.In s.heap) (I : ObjM s.heap x dx C mA)
    (hs : PySem.W.findIn K (.ref C) "__setattr__" = some (some (.builtin "object.__setattr__"))) (hp : PySem.W.plainOver K C = true) (ht : PySem.W.takerIn K C name = some none) (hh : PySem.W.hasDictIn K C = true)
    (hw : PySem.Within mA ns) (hsz : ns.length ≤ sizeLine)
    (h : ∀ h', ObjM h' x dx C (fun y => if y = name then some v else mA y) → Heap.SameBut dx s.heap h' → Q () { s with heap := h', toks := s.toks + 2 }) :
    wpAny (model prog w) A (setAttr (.ref x) name v) Q E s := by
  obtain ⟨od, J, hl⟩ := I.look
  refine PySem.W.set_plain X J hs (PySem.W.osa_open (s := { s with toks := s.toks + 1 }) (r := none) X J hp ht fun b => ?_)
  obtain ⟨cd, hc, hd'⟩ := PySem.W.any_some hh
  have hx : s.heap.get? x = some ⟨.ref C, some dx, .plain, #[]⟩ := I.obj
  refine wpAny_bind (wpAny_pure (wpAny_bind (wpAny_bind (wpAny_loadPart hx (wpAny_bind (PySem.W.Looks.here (s := { s with toks := s.toks + 1 }) (PySem.W.looks_clsIn X hc) ?_))))))
  rw [hd']
  refine wpAny_pure (a := some dx) (wpAny_bind (wpAny_pure (wpAny_bind ?_)))
  refine wpAny_nsSet1 (s := { s with toks := s.toks + 1 }) I.ns fun h' hn2 hs2 => ?_
  obtain ⟨oD, esD, epD, hoD, hdD, hcD⟩ := hn2.count (PySem.Within.cons name v hw)
  refine wpAny_bind (wpAny_lookBehind hoD (by rw [hdD]; exact pastItsLine_dict (Nat.le_trans hcD (by rw [List.length_cons]; omega))) ?_)
  exact wpAny_pure (h _ ⟨(hs2.2 _ (Ne.symm I.ne)).trans I.obj, hn2, I.ne⟩ hs2)

/-- C(..): the dict at the heap's end, the instance behind it; then its __init__ -/
theorem make_map {R : Result → Shared → Prop} {vs : List Value} {kw : List (Str × Value)} (X : K.In s.heap) (hm : PySem.W.makesIn K C = true)
    (hi : PySem.W.findIn K (.ref C) "__init__" = some (some (.ref f))) (hf : PySem.W.typeIn K (.ref f) = some (.type "function"))
    (h : codeAny (model prog w) (A.under (.builtin "type.__call__" ⟨.ref C :: vs, kw⟩)) (.call (.ref f) ⟨.ref (s.heap.objs.size + 1) :: vs, kw⟩) (PySem.W.InitBack (s.heap.objs.size + 1) R)
      { s with heap := (s.heap.push PySem.W.emptyDict).push (PySem.W.instObj C s.heap.objs.size) }) :
    codeAny (model prog w) A (.call (.ref C) ⟨vs, kw⟩) R s := by
  obtain ⟨hh, g, d, t, os⟩ := s
  exact PySem.W.make_core (PySem.W.makes_of X hm) (PySem.W.looks_findIn X hi) (fun self => PySem.W.bind_fn X self hf) (.inl rfl) h
end

/-! ### the attributes as a list of pairs -/
def putF (f : Str) (v : V) : List (Str × V) → List (Str × V)
  | [] => [(f, v)]
  | (g, x) :: r => if g = f then (g, v) :: r else (g, x) :: putF f v r
theorem lookup_putF (f g : Str) (v : V) : ∀ fs : List (Str × V), (putF f v fs).lookup g = if g = f then some v else fs.lookup g
  | [] => by
    show List.lookup g [(f, v)] = _
    by_cases h : g = f
    · have hb : (g == f) = true := beq_iff_eq.mpr h
      simp only [List.lookup, hb, if_pos h]
    · have hb : (g == f) = false := beq_eq_false_iff_ne.mpr h
      simp only [List.lookup, hb, if_neg h]
  | (k, x) :: r => by
    have ih := lookup_putF f g v r
    rw [show putF f v ((k, x) :: r) = (if k = f then (k, v) :: r else (k, x) :: putF f v r) from rfl]
    by_cases hk : k = f
    · rw [if_pos hk]
      by_cases h : g = k
      · have hb : (g == k) = true := beq_iff_eq.mpr h
        simp only [List.lookup, hb, if_pos (h.trans hk)]
      · have hb : (g == k) = false := beq_eq_false_iff_ne.mpr h
        simp only [List.lookup, hb, if_neg (fun e : g = f => h (e.trans hk.symm))]
    · rw [if_neg hk]
      by_cases h : g = k
      · have hb : (g == k) = true := beq_iff_eq.mpr h
        simp only [List.lookup, hb, if_neg (fun e : g = f => hk (h.symm.trans e))]
      · have hb : (g == k) = false := beq_eq_false_iff_ne.mpr h
        simp only [List.lookup, hb]
        exact ih
theorem keys_putF (f : Str) (v : V) : ∀ fs : List (Str × V), f ∈ (putF f v fs).map (·.1) ∧ ∀ g, g ∈ fs.map (·.1) → g ∈ (putF f v fs).map (·.1)
  | [] => ⟨by simp [putF], fun g h => by simp at h⟩
  | (k, x) :: r => by
    obtain ⟨i1, i2⟩ := keys_putF f v r
    rw [show putF f v ((k, x) :: r) = (if k = f then (k, v) :: r else (k, x) :: putF f v r) from rfl]
    by_cases hk : k = f
    · rw [if_pos hk]
      subst hk
      exact ⟨by simp, fun g h => by simpa using h⟩
    · rw [if_neg hk]
      refine ⟨?_, fun g h => ?_⟩
      · rw [List.map_cons]
        exact List.mem_cons_of_mem _ i1
      · rw [List.map_cons] at h ⊢
        rcases List.mem_cons.mp h with e | e
        · exact List.mem_cons.mpr (.inl e)
        · exact List.mem_cons_of_mem _ (i2 g e)
theorem length_putF (f : Str) (v : V) : ∀ fs : List (Str × V), (putF f v fs).length ≤ fs.length + 1
  | [] => by simp [putF]
  | (k, x) :: r => by
    have ih := length_putF f v r
    rw [show putF f v ((k, x) :: r) = (if k = f then (k, v) :: r else (k, x) :: putF f v r) from rfl]
    by_cases hk : k = f
    · rw [if_pos hk, List.length_cons, List.length_cons]; omega
    · rw [if_neg hk, List.length_cons, List.length_cons]; omega

theorem RelO.some_of {v : V} {o : Option Value} (r : RelO (some v) o) : ∃ u, o = some u ∧ RelV v u := by
  cases o with
  | none => exact (show False from r).elim
  | some u => exact ⟨u, rfl, r⟩
theorem RelO.none_of {o : Option Value} (r : RelO none o) : o = none := by
  cases o with
  | none => rfl
  | some u => exact (show False from r).elim
theorem handed_of {v : V} {u : Value} (r : RelV v u) : PySem.W.handedIn u = true := by
  cases v with
  | non => cases (show u = Value.none from r); rfl
  | bl b => cases (show u = Value.bool b from r); rfl
  | int i => obtain ⟨t, e⟩ := (show ∃ t, u = Value.int i t from r); cases e; rfl
  | str x => obtain ⟨t, e⟩ := (show ∃ t, u = Value.str x t from r); cases e; rfl
  | byt b => obtain ⟨t, e⟩ := (show ∃ t, u = Value.bytes b t from r); cases e; rfl
  | flt b => obtain ⟨t, e⟩ := (show ∃ t, u = Value.float b t from r); cases e; rfl
  | ref a => cases (show u = Value.ref a from r); rfl
  | ty n => cases (show u = Value.type n from r); rfl

section
variable {P : Program} {w : World} {H H' : Hp} {h h' : Heap} {a C dx : Addr} {fs fs' : List (Str × V)}
theorem ins_get (hok : HOk P w H h) (e : H a = some (.ins C dx fs)) : ∃ mA, ObjM h a dx C mA ∧ (∀ f, RelO (fs.lookup f) (mA f)) ∧ PySem.Within mA (fs.map (·.1)) ∧ fs.length ≤ 1000 ∧ H dx = some (.own a) := by
  obtain ⟨d, z, ne, ob, mA, n, r, q⟩ := (show ObjOk P w H h a (.ins C dx fs) from hok a _ e)
  exact ⟨mA, ⟨ob, n, ne⟩, r, q, z, d⟩
end

/-! ### what of the text a class must have -/
structure Cls (K : PySem.W.Frag) (C : Addr) : Prop where
  pg : PySem.W.plainGet K C Str.empty = true
  hd : PySem.W.hasDictIn K C = true
  po : PySem.W.plainOver K C = true
  sa : PySem.W.findIn K (.ref C) "__setattr__" = some (some (.builtin "object.__setattr__"))
theorem Cls.get {K : PySem.W.Frag} {C : Addr} (c : Cls K C) (f : Str) : PySem.W.plainGet K C f = true := c.pg
/-- no class of it has the name -/
def NoAttr (K : PySem.W.Frag) (C : Addr) (f : Str) : Prop := PySem.W.findIn K (.ref C) f = some none
theorem NoAttr.taker {K : PySem.W.Frag} {C : Addr} {f : Str} (n : NoAttr K C f) : PySem.W.takerIn K C f = some none := by
  unfold PySem.W.takerIn
  rw [show PySem.W.findIn K (.ref C) f = some none from n]
  rfl
/-- a constant of the class -/
structure Con (K : PySem.W.Frag) (C : Addr) (f : Str) (v : V) (u : Value) : Prop where
  at_ : PySem.W.findIn K (.ref C) f = some (some u)
  rel : RelV v u
  get : PySem.W.specialIn K u "__get__" = some none
  cp : PySem.W.copiedNames.contains f = false
/-- a method: a plain def of the class or of one above it -/
structure Meth (K : PySem.W.Frag) (C : Addr) (m : Str) (f : Addr) : Prop where
  at_ : PySem.W.findIn K (.ref C) m = some (some (.ref f))
  fn : PySem.W.isFn K (.ref f) = true
  kp : PySem.W.keepIn K (.ref f) = true

section
variable {X : Cx} {pins : List (Addr × Obj)} {σ : St} {H : Hp} {s : Shared} {a C dx : Addr} {fs : List (Str × V)} {f : Str} {v : V} {A : Around} {E : Value → Shared → Prop}

theorem getattr_ok {b : Bool} {Q : Value → Shared → Prop} (I : Inv X pins σ H s) (e : H a = some (.ins C dx fs)) (c : Cls X.K C) (n : NoAttr X.K C f) (l : fs.lookup f = some v)
    (h : ∀ u s', Inv X pins σ H s' → RelV v u → Q u s') : wpAny (model X.prog X.w) A (getAttr (.ref a) f b) Q E s := by
  obtain ⟨mA, O, r, _, _, _⟩ := ins_get I.hok e
  obtain ⟨u, hu, ru⟩ := RelO.some_of (v := v) (o := mA f) (by rw [← l]; exact r f)
  exact get_map I.kIn O (c.get f) c.hd n hu (handed_of ru) (h u _ (I.tok _) ru)

theorem getmeth_ok {m : Str} {g : Addr} {pl : Sem Bool} {Q : Value × List Value → Shared → Prop} (I : Inv X pins σ H s) (e : H a = some (.ins C dx fs)) (c : Cls X.K C) (k : Meth X.K C m g) (l : fs.lookup m = none)
    (h : Q (.ref g, [.ref a]) s) : wpAny (model X.prog X.w) A (getMethod (.ref a) m pl) Q E s := by
  obtain ⟨mA, O, r, _, _, _⟩ := ins_get I.hok e
  have hn : mA m = none := RelO.none_of (by rw [← l]; exact r m)
  exact get_meth I.kIn O (c.get m) k.at_ k.fn hn h

theorem setattr_ok {y : V} {u : Value} {Q : Unit → Shared → Prop} (I : Inv X pins σ H s) (e : H a = some (.ins C dx fs)) (c : Cls X.K C) (n : NoAttr X.K C f) (hl : fs.length < 1000) (ry : RelV y u)
    (h : ∀ s', Inv X pins σ (upd H a (.ins C dx (putF f y fs))) s' → Q () s') : wpAny (model X.prog X.w) A (setAttr (.ref a) f u) Q E s := by
  obtain ⟨mA, O, r, wi, _, ho⟩ := ins_get I.hok e
  have hz : (fs.map (·.1)).length ≤ sizeLine := by rw [List.length_map, sizeLine_eq]; omega
  refine set_map I.kIn O c.sa c.po n.taker c.hd wi hz fun h' O' sb => h _ ?_
  have hd : ∃ o, h'.get? dx = some o := let ⟨o, _, _, e', _⟩ := O'.ns; ⟨o, e'⟩
  refine I.write (x := a) (e := dx) (by rw [e]; exact True.intro) (.inr ho) (fun b q hb z => (sb.2 b hb).trans z) hd ?_
  refine ⟨by rw [upd_ne O.ne]; exact ho, ?_, O.ne, O'.obj, _, O'.ns, fun g => ?_, fun g hg => ?_⟩
  · have := length_putF f y fs; omega
  · show RelO ((putF f y fs).lookup g) (if g = f then some u else mA g)
    rw [lookup_putF]
    by_cases q : g = f
    · rw [if_pos q, if_pos q]; exact ry
    · rw [if_neg q, if_neg q]; exact r g
  · by_cases q : g = f
    · rw [q]; exact (keys_putF f y fs).1
    · refine (keys_putF f y fs).2 g (wi g fun z => hg ?_)
      show (if g = f then some u else mA g) = none
      rw [if_neg q]; exact z

/-- a new instance, tracked, without attributes -/
theorem Inv.made (I : Inv X pins σ H s) : Inv X pins σ (upd (upd H s.heap.objs.size (.own (s.heap.objs.size + 1))) (s.heap.objs.size + 1) (.ins C s.heap.objs.size []))
    { s with heap := (s.heap.push PySem.W.emptyDict).push (PySem.W.instObj C s.heap.objs.size) } := by
  have e1 : (s.heap.push PySem.W.emptyDict).get? s.heap.objs.size = some PySem.W.emptyDict := Heap.get?_push_size s.heap rfl
  have e2 : ((s.heap.push PySem.W.emptyDict).push (PySem.W.instObj C s.heap.objs.size)).get? (s.heap.objs.size + 1) = some (PySem.W.instObj C s.heap.objs.size) := by
    have := Heap.get?_push_size (s.heap.push PySem.W.emptyDict) (o := PySem.W.instObj C s.heap.objs.size) rfl
    rwa [Heap.size_push] at this
  have e3 : (s.heap.push PySem.W.emptyDict).Ns s.heap.objs.size (fun _ => none) := ⟨PySem.W.emptyDict, #[], _, e1, rfl, (fun e he => absurd he (by simp)), fun _ => rfl⟩
  have I1 := I.laid (a := s.heap.objs.size) (o := .own (s.heap.objs.size + 1)) (h' := s.heap.push PySem.W.emptyDict) (t' := s.toks) (fun b u q => Heap.get?_push_of_some _ q) (Nat.le_refl _) ⟨_, e1⟩
  refine I1.laid (a := s.heap.objs.size + 1) (o := .ins C s.heap.objs.size []) (t' := s.toks) (fun b u q => Heap.get?_push_of_some _ q) (Nat.le_of_eq (Heap.size_push _ _)) ?_
  have ne : s.heap.objs.size ≠ s.heap.objs.size + 1 := Nat.ne_of_lt (Nat.lt_succ_self _)
  refine ⟨by rw [upd_ne ne, upd_same], Nat.zero_le _, ne, e2, fun _ => none, (Heap.Ns1.of_empty e3).at fun o q => Heap.get?_push_of_some _ q, fun _ => True.intro, fun y hy => absurd rfl hy⟩

/-- e.f where nothing but the object is asked: through attributeBase (super) and the last hold -/
theorem attr_of {prog : Program} {w : World} {env : Env} {e : Expr} {f : Str} {pos : Pos} {s : Shared} {Q : Value → Shared → Prop} (hb : attributeBase e f env (eval e env) = eval e env)
    (h : wpAny (model prog w) A (eval e env) (fun o s₁ => wpAny (model prog w) A (getAttr o f true) Q E s₁) E s) : wpAny (model prog w) A (eval (.Attribute e f pos) env) Q E s :=
  Attribute_any_ h (by rw [arm_eval_Attribute, hb])
end

/-! ### readings and rules -/
/-- e.f, an attribute of the instance -/
def tFld (K : PySem.W.Frag) (ta : TE) (f : Str) : TE := fun σ H Q => ta σ H fun x H1 => ∃ a C dx fs v, x = .ref a ∧ H1 a = some (.ins C dx fs) ∧ Cls K C ∧ NoAttr K C f ∧ fs.lookup f = some v ∧ Q v H1
/-- e.f = value -/
def sFld (K : PySem.W.Frag) (ta tv : TE) (f : Str) : TS := fun D σ H => tv σ H fun y H1 => ta σ H1 fun x H2 => ∃ a C dx fs, x = .ref a ∧ H2 a = some (.ins C dx fs) ∧ Cls K C ∧ NoAttr K C f ∧ fs.length < 1000 ∧
  D.nx σ (upd H2 a (.ins C dx (putF f y fs)))
section
variable {X : Cx} {o e value : Expr} {f : Str} {pos pos' tpos : Pos} {ta tv : TE}
theorem pe_fld (he : PE X e ta) (hb : attributeBase e f X.env (eval e X.env) = eval e X.env) : PE X (.Attribute e f pos) (tFld X.K ta f) := by
  intro pins s σ H Q I h
  refine attr_of hb (thn (he pins s σ H _ I h) fun u s1 ⟨x, H1, I1, rx, a, C, dx, fs, v, ex, ea, c, n, l, q⟩ => ?_)
  subst ex
  obtain rfl : u = Value.ref a := rx
  exact getattr_ok I1 ea c n l fun u' s2 I2 ru => ⟨v, H1, I2, ru, q⟩
theorem ps_fld (ha : PE X o ta) (hv : PE X value tv) (hs : swapsWith value (some (.Attribute o f pos')) pos.line X.env = pure false) : PS X (.Assign [.Attribute o f pos'] value pos) (sFld X.K ta tv f) := by
  intro pins s σ H D I h
  refine plainObj_wpAny_Assign_Attribute (thn (hv pins s σ H _ I h) fun u s1 ⟨y, H1, I1, ry, q⟩ => thn (ha pins s1 σ H1 _ I1 q) fun ov s2 ⟨x, H2, I2, rx, a, C, dx, fs, ex, ea, c, n, l, q2⟩ => ?_) hs
  subst ex
  obtain rfl : ov = Value.ref a := rx
  exact setattr_ok I2 ea c n l ry fun s3 I3 => ⟨σ, _, I3, q2⟩
end

/-! ### isinstance -/
section
variable {X : Cx} {pins : List (Addr × Obj)} {σ : St} {H : Hp} {s : Shared} {A : Around} {E : Value → Shared → Prop} {Q : Value → Shared → Prop} {c : Value} {b : Bool}
/-- the type of a value, as the fragment's deciders take it; for an instance its class -/
inductive TyOf (K : PySem.W.Frag) (H : Hp) : V → Value → Prop where
  | non : TyOf K H .non (.type "NoneType")
  | bl (x : Bool) : TyOf K H (.bl x) (.type "bool")
  | int (i : Int) : TyOf K H (.int i) (.type "int")
  | str (x : Str) : TyOf K H (.str x) (.type "str")
  | flt (x : UInt64) : TyOf K H (.flt x) (.type "float")
  | lst {a : Addr} {xs : List V} (e : H a = some (.lst xs)) : TyOf K H (.ref a) (.type "list")
  | frz {a : Addr} {o : Obj} {xs : List V} (e : H a = some (.frz o (.lst xs))) : TyOf K H (.ref a) (.type "list")
  | tup {a : Addr} {xs : List V} (e : H a = some (.tup xs)) : TyOf K H (.ref a) (.type "tuple")
  | dK {a : Addr} {kvs : List (Key × V)} (e : H a = some (.dK kvs)) : TyOf K H (.ref a) (.type "dict")
  | dT {a : Addr} {kvs : List (List Key × V)} (e : H a = some (.dT kvs)) : TyOf K H (.ref a) (.type "dict")
  | ins {a C dx : Addr} {fs : List (Str × V)} (e : H a = some (.ins C dx fs)) (cl : Cls K C) (ha : PySem.W.findIn K (.ref C) "__class__" = some (some (.builtin "object.__class__")))
      (hn : PySem.W.specialIn K (.builtin "object.__class__") "__get__" = some (some (.builtin "getset_descriptor.__get__"))) (htk : PySem.W.takesIn K (.builtin "object.__class__") = some true)
      (hm : PySem.W.mroIn K C (.type "object") = some true) : TyOf K H (.ref a) (.ref C)
/-- isinstance(x, c) for one class c, a built-in or an own one: kitOne's answer -/
theorem isinst_ok {x : V} {u t : Value} (I : Inv X pins σ H s) (rx : RelV x u) (ty : TyOf X.K H x t) (e : PySem.W.kitOne X.K t c = some b) (h : ∀ tk, Q (.bool b) { s with toks := tk }) :
    wpAny (model X.prog X.w) A (call (.builtin "isinstance") [u, c]) Q E s := by
  cases ty with
  | non => cases (show u = Value.none from rx); exact PySem.W.kia_one PySem.W.kitx_none I.kIn True.intro e (fun z => nomatch z) h
  | bl y => cases (show u = Value.bool y from rx); exact PySem.W.kia_one PySem.W.kitx_bool I.kIn True.intro e (fun z => nomatch z) h
  | int i => obtain ⟨t, q⟩ := (show ∃ t, u = Value.int i t from rx); cases q; exact PySem.W.kia_one PySem.W.kitx_int I.kIn True.intro e (fun z => nomatch z) h
  | str y => obtain ⟨t, q⟩ := (show ∃ t, u = Value.str y t from rx); cases q; exact PySem.W.kia_one PySem.W.kitx_str I.kIn True.intro e (fun z => nomatch z) h
  | flt y => obtain ⟨t, q⟩ := (show ∃ t, u = Value.float y t from rx); cases q; exact PySem.W.kia_one PySem.W.kitx_float I.kIn True.intro e (fun z => nomatch z) h
  | @lst a xs ea =>
    cases (show u = Value.ref a from rx)
    obtain ⟨_, _, n, _, h1⟩ := (show ObjOk X.prog X.w H s.heap a (.lst xs) from I.hok a _ ea)
    exact PySem.W.kia_one PySem.W.kitx_list I.kIn ⟨_, h1, rfl⟩ e (fun z => nomatch z) h
  | @frz a ob xs ea =>
    cases (show u = Value.ref a from rx)
    obtain ⟨_, _, _, n, _, h1⟩ := (show ObjOk X.prog X.w H s.heap a (.frz ob (.lst xs)) from I.hok a _ ea)
    exact PySem.W.kia_one PySem.W.kitx_list I.kIn ⟨_, h1, rfl⟩ e (fun z => nomatch z) h
  | @tup a xs ea =>
    cases (show u = Value.ref a from rx)
    obtain ⟨_, _, _, p⟩ := (show ObjOk X.prog X.w H s.heap a (.tup xs) from I.hok a _ ea)
    obtain ⟨o, h1, h2, _⟩ := p
    exact PySem.W.kia_one PySem.W.kitx_tuple I.kIn ⟨o, h1, h2⟩ e (fun z => nomatch z) h
  | @dK a kvs ea =>
    cases (show u = Value.ref a from rx)
    obtain ⟨_, _, vs, _, p⟩ := (show ObjOk X.prog X.w H s.heap a (.dK kvs) from I.hok a _ ea)
    obtain ⟨o, es, ep, h1, h2, _⟩ := p
    exact PySem.W.kia_one PySem.W.kitx_dict I.kIn ⟨o, h1, h2.1⟩ e (fun z => nomatch z) h
  | @dT a kvs ea =>
    cases (show u = Value.ref a from rx)
    obtain ⟨_, _, xs, _, o, es, ep, h1, h2, _⟩ := (show ObjOk X.prog X.w H s.heap a (.dT kvs) from I.hok a _ ea)
    exact PySem.W.kia_one PySem.W.kitx_dict I.kIn ⟨o, h1, h2.1⟩ e (fun z => nomatch z) h
  | @ins a C dx fs ea cl ha hn htk hm =>
    cases (show u = Value.ref a from rx)
    obtain ⟨mA, O, _⟩ := ins_get I.hok ea
    obtain ⟨od, J, _⟩ := O.look
    exact PySem.W.kia_one (PySem.W.kitx_own (cl.get _) cl.hd ha hn htk hm) I.kIn J e (fun z => nomatch z) h
end
end L2

namespace L2
open PySem PySem.Spec PyProof.Rows

/-! ### room -/
structure Room (k : Nat) (A : Around) : Prop where
  hd : A.handled = none
  dp : A.depth + 3 * k + 5 < recursionLimit
  un : A.units + 16 * k + 200 < cLine
theorem Room.mono {j k : Nat} {A : Around} (r : Room k A) (h : j ≤ k) : Room j A := ⟨r.hd, by have := r.dp; omega, by have := r.un; omega⟩
theorem Room.deeper {k : Nat} {A : Around} (r : Room (k + 1) A) (env : Env) : Room k (A.deeper env) :=
  ⟨r.hd, by have := r.dp; show A.depth + 1 + 3 * k + 5 < _; omega, by have := r.un; show A.units + 3 + 16 * k + 200 < _; omega⟩
theorem Room.in1 {k : Nat} {A : Around} (r : Room (k + 1) A) : Room k A.in1 :=
  ⟨r.hd, by have := r.dp; show A.depth + 3 * k + 5 < _; omega, by have := r.un; show A.units + 1 + 16 * k + 200 < _; omega⟩
theorem make_depth {A : Around} {C : Addr} {us : List Value} {kw : List (Str × Value)} : (A.under (.builtin "type.__call__" ⟨.ref C :: us, kw⟩)).depth = A.depth + 1 := by
  first | rfl | simp [Around.under, Code.weight, Code.isCreation, Code.isGuard, Code.isCaller, Code.frames, Code.isFrame, guardIds]
theorem make_units {A : Around} {C : Addr} {us : List Value} {kw : List (Str × Value)} : (A.under (.builtin "type.__call__" ⟨.ref C :: us, kw⟩)).units = A.units + 1 := by
  first | rfl | simp [Around.under, Code.cUnits, Code.frames, Code.isFrame]
theorem Room.make {k : Nat} {A : Around} (r : Room (k + 1) A) (C : Addr) (us : List Value) (kw : List (Str × Value)) : Room k (A.under (.builtin "type.__call__" ⟨.ref C :: us, kw⟩)) :=
  ⟨r.hd, by have := r.dp; rw [make_depth]; omega, by have := r.un; rw [make_units]; omega⟩
theorem Room.depth {k : Nat} {A : Around} (r : Room k A) : A.depth < recursionLimit := by have := r.dp; omega
theorem Room.units {k : Nat} {A : Around} (r : Room k A) : A.units + 64 < cLine := by have := r.un; omega
/-! ### argument lists and displays -/
def tNil : TA := fun _ H Q => Q [] H
def tCons (ta : TE) (tr : TA) : TA := fun σ H Q => ta σ H fun x H1 => tr σ H1 fun xs H2 => Q (x :: xs) H2
section
variable {X : Cx} {e : Expr} {es : List Expr} {te : TE} {t : TA} {pos : Pos}
theorem pa_nil : PA X [] tNil := fun _ _ _ _ H Q I h => Calls.spliced_nil ⟨[], H, I, .nil, h⟩
theorem pa_cons (ha : PE X e te) (hr : PA X es t) (hs : starEach (e :: es) X.env = (false, eval e X.env) :: starEach es X.env := by rfl) : PA X (e :: es) (tCons te t) := by
  intro pos pins s σ H Q I h
  rw [hs]
  show wpAny _ _ (spliced ((false, eval e X.env) :: backTo pos (starEach es X.env))) _ _ s
  refine Calls.spliced_cons (thn (ha pins s σ H _ I h) fun u s1 ⟨x, H1, I1, r1, q1⟩ => ?_)
  exact thn (hr pos pins s1 σ H1 _ I1 q1) fun us s2 ⟨xs, H2, I2, r2, q2⟩ => ⟨x :: xs, H2, I2, .cons r1 r2, q2⟩

/-- a tuple, a list of written items -/
def tTup (t : TA) : TE := fun σ H Q => t σ H fun xs H1 => xs.length ≤ sizeLine ∧ ∀ p, H1 p = none → Q (.ref p) (upd H1 p (.tup xs))
def tLst (t : TA) : TE := fun σ H Q => t σ H fun xs H1 => xs.length ≤ sizeLine ∧ ∀ p, H1 p = none → Q (.ref p) (upd H1 p (.lst xs))
theorem pe_tup {x1} (h : PA X es t) : PE X (.Tuple es x1 pos) (tTup t) := by
  intro pins s σ H Q I hq
  refine wpAny_Tuple_spliced (thn (h pos pins s σ H _ I hq) fun us s1 ⟨xs, H1, I1, r, z, q⟩ => ⟨by rw [← r.length]; exact z, ?_⟩)
  have hf : H1 s1.heap.objs.size = none := I1.hok.fresh (Nat.le_refl _)
  refine ⟨.ref s1.heap.objs.size, upd H1 s1.heap.objs.size (.tup xs), I1.laid (t' := s1.toks) (fun b u e => Heap.get?_push_of_some _ e) (Nat.le_refl _) ?_, rfl, q _ hf⟩
  exact ⟨z, us, r, ⟨_, Heap.get?_push_size _ rfl, rfl, _, rfl⟩⟩
theorem pe_lst (h : PA X es t) : PE X (.List es pos) (tLst t) := by
  intro pins s σ H Q I hq
  refine wpAny_List_spliced (thn (h pos pins s σ H _ I hq) fun us s1 ⟨xs, H1, I1, r, z, q⟩ => ⟨by rw [← r.length]; exact z, ?_⟩)
  have hf : H1 s1.heap.objs.size = none := I1.hok.fresh (Nat.le_refl _)
  refine ⟨.ref s1.heap.objs.size, upd H1 s1.heap.objs.size (.lst xs), I1.laid (t' := s1.toks) (fun b u e => Heap.get?_push_of_some _ e) (Nat.le_refl _) ?_, rfl, q _ hf⟩
  exact ⟨z, us, 0, r, Heap.get?_push_size _ rfl⟩
end

/-! ### what a def promises -/
/-- a def's promise: the bound arguments in the parameters' order, the heap, the wanted end, the wanted exception -/
abbrev Sp := List V → Hp → VK → XK → Prop
/-- how an exception lies behind a call (file 08 gives it): the callers' frames, abstract heap and state ahead of the call, the wish, the exception, the state -/
abbrev CXT := List Env → Hp → Shared → XK → Value → Shared → Prop

/-- the state at a call -/
structure Env0 (P : Program) (w : World) (K : PySem.W.Frag) (mg : Str → Option Value) (base : Heap) (A : Around) (outer : List Env) (s : Shared) (H : Hp) : Prop where
  frames : A.frames = some outer
  mod : Mod K mg base
  bs : ∀ b o, base.get? b = some o → s.heap.get? b = some o ∧ H b = none
  bsz : base.objs.size ≤ s.heap.objs.size
  funs : s.heap.FunFrames base outer
  frf : ∀ b ∈ frs outer, H b = none
  hok : HOk P w H s.heap
  bare : AllBare s.gens
/-- a call's end -/
def CE (outer : List Env) (P : Program) (w : World) (H : Hp) (s : Shared) (Q : VK) (u : Value) (s' : Shared) : Prop :=
  ∃ v H', s'.os = s.os ∧ AllBare s'.gens ∧ Un (frs outer) [] H H' s.heap s'.heap ∧ HOk P w H' s'.heap ∧ RelV v u ∧ Q v H'
def CR (CX : CXT) (outer : List Env) (P : Program) (w : World) (H : Hp) (s : Shared) (Q : VK) (E : XK) (r : Result) (s' : Shared) : Prop :=
  match r with
  | .ok (.ret u) => CE outer P w H s Q u s'
  | .ok _ => False
  | .error e => CX outer H s E e s'
structure FnOk (P : Program) (w : World) (K : PySem.W.Frag) (mg : Str → Option Value) (base : Heap) (CX : CXT) (k : Nat) (f : Addr) (fd : FuncData) (ps : List Str) (sp : Sp) : Prop where
  len : ∀ vs H Q E, sp vs H Q E → vs.length = ps.length
  run : ∀ (A : Around) (outer : List Env) (s : Shared) (H : Hp) (args : Args) (us : List Value) (vs : List V) (Q : VK) (E : XK), Room k A → Env0 P w K mg base A outer s H → BindsTo s fd args (ps.zip us) → Vals vs us → sp vs H Q E →
    codeAny (model P w) A (.call (.ref f) args) (CR CX outer P w H s Q E) s
theorem FnOk.mono {P : Program} {w : World} {K : PySem.W.Frag} {mg : Str → Option Value} {base : Heap} {CX : CXT} {j k : Nat} {f : Addr} {fd : FuncData} {ps : List Str} {sp : Sp} (F : FnOk P w K mg base CX j f fd ps sp) (h : j ≤ k) :
    FnOk P w K mg base CX k f fd ps sp := ⟨F.len, fun A outer s H args us vs Q E hr => F.run A outer s H args us vs Q E (hr.mono h)⟩
theorem Env0.make {P : Program} {w : World} {K : PySem.W.Frag} {mg : Str → Option Value} {base : Heap} {A : Around} {outer : List Env} {s : Shared} {H : Hp} (e : Env0 P w K mg base A outer s H) (C : Addr) (us : List Value) (kw : List (Str × Value)) :
    Env0 P w K mg base (A.under (.builtin "type.__call__" ⟨.ref C :: us, kw⟩)) outer s H := ⟨by first | exact e.frames | (simpa [Around.under, Code.envs, Code.isFrame, pushEnvs] using e.frames), e.mod, e.bs, e.bsz, e.funs, e.frf, e.hok, e.bare⟩
theorem Env0.in1 {P : Program} {w : World} {K : PySem.W.Frag} {mg : Str → Option Value} {base : Heap} {A : Around} {outer : List Env} {s : Shared} {H : Hp} (e : Env0 P w K mg base A outer s H) :
    Env0 P w K mg base A.in1 outer s H := ⟨e.frames, e.mod, e.bs, e.bsz, e.funs, e.frf, e.hok, e.bare⟩

section
variable {X : Cx} {pins : List (Addr × Obj)} {σ : St} {H : Hp} {s s' : Shared}
/-- from a body: what a callee wants -/
theorem Inv.env0 (I : Inv X pins σ H s) : Env0 X.prog X.w X.K X.mg X.base X.A X.stack s H :=
  ⟨I.ok.frames, I.ok.mod, I.bs, Nat.le_trans I.ok.bsz I.sz, I.stack, I.stkFree, I.hok, I.bare⟩
/-- behind a call -/
theorem Inv.after {Q : VK} {u : Value} (I : Inv X pins σ H s) (h : CE X.stack X.prog X.w H s Q u s') : EP X pins σ Q u s' := by
  obtain ⟨v, H', os, bare, un, hok, r, q⟩ := h
  obtain ⟨hh, g, d, t, os'⟩ := s'
  obtain rfl : os' = s.os := os
  exact ⟨v, H', I.call (h' := hh) (g' := g) (d' := d) (t' := t) (ch := []) un hok bare (fun b z => absurd z (by simp)), r, q⟩
end

/-! ### calls -/
/-- f(..): the written arguments, then the defaults dvs; E: what is wanted of an exception -/
def tCall (sp : Sp) (dvs : List V) (E : XK) (t : TA) : TE := fun σ H Q => t σ H fun vs H1 => sp (vs ++ dvs) H1 Q E
/-- o.m(..) of an instance of the class at C -/
def tMeth (C : Addr) (m : Str) (sp : Sp) (dvs : List V) (E : XK) (ta : TE) (t : TA) : TE := fun σ H Q => ta σ H fun x H1 => ∃ a dx fs, x = .ref a ∧ H1 a = some (.ins C dx fs) ∧ fs.lookup m = none ∧
  t σ H1 fun vs H2 => sp (x :: (vs ++ dvs)) H2 Q E
/-- C(..): a new instance and its dict, then __init__ -/
def tMake (C : Addr) (sp : Sp) (dvs : List V) (E : XK) (t : TA) : TE := fun σ H Q => t σ H fun vs H1 => ∀ x dx, H1 x = none → H1 dx = none → dx ≠ x →
  sp (.ref x :: (vs ++ dvs)) (upd (upd H1 dx (.own x)) x (.ins C dx [])) (fun v H2 => v = .non ∧ Q (.ref x) H2) E

/-- how the parameters are bound: us the positional arguments, kw the keywords' values by name, ds the defaults that fill up -/
def Binds (K : PySem.W.Frag) (fd : FuncData) (ps : List Str) (ds : List Value) : Prop :=
  ∀ (s : Shared) (us : List Value), K.In s.heap → (us ++ ds).length = ps.length → BindsTo s fd ⟨us, []⟩ (ps.zip (us ++ ds))
/-- every parameter is given -/
theorem Binds.all {K : PySem.W.Frag} {fd : FuncData} {ps : List Str} (h : ∀ us : List Value, us.length = ps.length → bindArgs fd ⟨us, []⟩ = pure (ps.zip us)) : Binds K fd ps [] := fun s us _ hl => by
  rw [List.append_nil] at hl ⊢
  exact .of_eq (h us hl)

/-- an exception of a callee reaches what this body wants of exceptions -/
def Passes (CX : CXT) (X : Cx) (E : XK) : Prop := ∀ (pins : List (Addr × Obj)) (σ : St) (H : Hp) (s : Shared) (e : Value) (s' : Shared), Inv X pins σ H s → CX X.stack H s E e s' → X.xe e s'

section
variable {X : Cx} {CX : CXT} {k : Nat} {f C : Addr} {fd : FuncData} {ps : List Str} {sp : Sp} {dvs : List V} {ds : List Value} {E : XK} {x m : Str} {p pos apos : Pos} {e o : Expr} {es : List Expr} {ta : TE} {t : TA}

/-- the callee runs -/
theorem run_fn {pins : List (Addr × Obj)} {σ : St} {H : Hp} {s : Shared} {Q : VK} {us : List Value} {vs : List V} (F : FnOk X.prog X.w X.K X.mg X.base CX k f fd ps sp) (hr : Room k X.A) (hb : Binds X.K fd ps ds) (hd : Vals dvs ds) (hx : Passes CX X E)
    (I : Inv X pins σ H s) (r : Vals vs us) (h : sp (vs ++ dvs) H Q E) : wpAny (model X.prog X.w) X.A (call (.ref f) us) (EP X pins σ Q) X.xe s := by
  have r2 : Vals (vs ++ dvs) (us ++ ds) := r.append hd
  have hl : (us ++ ds).length = ps.length := by rw [← r2.length]; exact F.len _ _ _ _ h
  refine wpAny_call (codeAny_mono (F.run X.A X.stack s H ⟨us, []⟩ (us ++ ds) (vs ++ dvs) Q E hr I.env0 (hb s us I.kIn hl) r2 h) fun r s' hq => ?_)
  cases r with
  | error e => exact hx pins σ H s e s' I hq
  | ok fl =>
    cases fl with
    | ret u => exact I.after hq
    | next => exact False.elim hq
    | brk => exact False.elim hq
    | cont => exact False.elim hq

theorem pe_call (F : FnOk X.prog X.w X.K X.mg X.base CX k f fd ps sp) (hr : Room k X.A) (hg : Gl X x) (hm : X.mg x = some (.ref f)) (hk : PySem.W.keepIn X.K (.ref f) = true) (hb : Binds X.K fd ps ds) (hd : Vals dvs ds) (hx : Passes CX X E)
    (ha : PA X (e :: es) t) (hdb : (x == ("__debug__" : Str)) = false := by decide) (he : starEach (e :: es) X.env = (false, eval e X.env) :: starEach es X.env := by rfl) (hpl : (backTo pos (starEach es X.env)).any (·.1) = false := by rfl) :
    PE X (.Call (.Name x p) (e :: es) [] pos) (tCall sp dvs E t) := by
  intro pins s σ H Q I h
  refine wpAny_Call_Name_kw (ld_glob I hg hm ?_ hdb)
  refine PySem.W.callWith_K (h₀ := X.base) I.ok.mod.kin hk (thn (ha pos pins s σ H _ I h) fun us s1 ⟨vs, H1, I1, r, q⟩ => ⟨I1.kIn, ?_⟩) he hpl
  exact run_fn F hr hb hd hx I1 r q
/-- o.m(e, ..) -/
theorem pe_meth {pl : Sem Bool} (he : PE X o ta) (c : Cls X.K C) (hm : Meth X.K C m f) (F : FnOk X.prog X.w X.K X.mg X.base CX k f fd ps sp) (hr : Room k X.A) (hb : Binds X.K fd ps ds) (hd : Vals dvs ds) (hx : Passes CX X E) (ha : PA X (e :: es) t)
    (hst : starEach (e :: es) X.env = (false, eval e X.env) :: starEach es X.env := by rfl) (hpl : (backTo pos (starEach es X.env)).any (·.1) = false := by rfl)
    (ht : eval (.Call (.Attribute o m apos) (e :: es) [] pos) X.env = (do
      let ov ← eval o X.env
      standAt apos.atName
      let (f, first) ← holding [ov] (getMethod ov m pl)
      callWith pos f first (backTo pos (starEach (e :: es) X.env)) (backToKw pos (keywordEach [] X.env))) := by rfl) :
    PE X (.Call (.Attribute o m apos) (e :: es) [] pos) (tMeth C m sp dvs E ta t) := by
  intro pins s σ H Q I h
  refine PySem.W.methodCall_KW (pl := pl) (thn (he pins s σ H _ I h) fun u s1 ⟨x, H1, I1, rx, a, dx, fs, ex, ea, l, q⟩ => ?_) ht
  subst ex
  obtain rfl : u = Value.ref a := rx
  refine getmeth_ok I1 ea c hm l ?_
  refine PySem.W.callWith_K (first := [.ref a]) (h₀ := X.base) I.ok.mod.kin hm.kp (thn (ha pos pins s1 σ H1 _ I1 q) fun us s2 ⟨vs, H2, I2, r, q2⟩ => ⟨I2.kIn, ?_⟩) hst hpl
  exact run_fn (us := .ref a :: us) (vs := .ref a :: vs) F hr hb hd hx I2 (.cons rfl r) q2
/-- o.m() -/
theorem pe_meth0 {pl : Sem Bool} (he : PE X o ta) (c : Cls X.K C) (hm : Meth X.K C m f) (F : FnOk X.prog X.w X.K X.mg X.base CX k f fd ps sp) (hr : Room k X.A) (hb : Binds X.K fd ps ds) (hd : Vals dvs ds) (hx : Passes CX X E)
    (ht : eval (.Call (.Attribute o m apos) [] [] pos) X.env = (do
      let ov ← eval o X.env
      standAt apos.atName
      let (f, first) ← holding [ov] (getMethod ov m pl)
      callWith pos f first (backTo pos (starEach [] X.env)) (backToKw pos (keywordEach [] X.env))) := by rfl) :
    PE X (.Call (.Attribute o m apos) [] [] pos) (tMeth C m sp dvs E ta tNil) := by
  intro pins s σ H Q I h
  refine PySem.W.methodCall_KW (pl := pl) (thn (he pins s σ H _ I h) fun u s1 ⟨x, H1, I1, rx, a, dx, fs, ex, ea, l, q⟩ => ?_) ht
  subst ex
  obtain rfl : u = Value.ref a := rx
  refine getmeth_ok I1 ea c hm l ?_
  exact PySem.W.callWith_K0 (first := [.ref a]) I1.kIn hm.kp (run_fn (us := [.ref a]) (vs := [.ref a]) F hr hb hd hx I1 (.cons rfl .nil) q)

/-- what a class must have to be made -/
structure Mk (K : PySem.W.Frag) (C f : Addr) : Prop where
  makes : PySem.W.makesIn K C = true
  init : PySem.W.findIn K (.ref C) "__init__" = some (some (.ref f))
  fn : PySem.W.isFn K (.ref f) = true
  kp : PySem.W.keepIn K (.ref C) = true

theorem run_make {pins : List (Addr × Obj)} {σ : St} {H : Hp} {s : Shared} {Q : VK} {us : List Value} {vs : List V} (M : Mk X.K C f) (F : FnOk X.prog X.w X.K X.mg X.base CX k f fd ps sp) (hr : Room (k + 1) X.A) (hb : Binds X.K fd ps ds) (hd : Vals dvs ds)
    (hx : Passes CX X E) (I : Inv X pins σ H s) (r : Vals vs us)
    (h : ∀ x dx, H x = none → H dx = none → dx ≠ x → sp (.ref x :: (vs ++ dvs)) (upd (upd H dx (.own x)) x (.ins C dx [])) (fun v H2 => v = .non ∧ Q (.ref x) H2) E) :
    wpAny (model X.prog X.w) X.A (call (.ref C) us) (EP X pins σ Q) X.xe s := by
  have hq := h (s.heap.objs.size + 1) s.heap.objs.size (I.hok.fresh (Nat.le_succ _)) (I.hok.fresh (Nat.le_refl _)) (Nat.ne_of_lt (Nat.lt_succ_self _))
  have I2 := Inv.made (C := C) I
  have r2 : Vals (V.ref (s.heap.objs.size + 1) :: (vs ++ dvs)) (Value.ref (s.heap.objs.size + 1) :: (us ++ ds)) := .cons rfl (r.append hd)
  have hl : (Value.ref (s.heap.objs.size + 1) :: us ++ ds).length = ps.length := by
    have e := r2.length
    rw [F.len _ _ _ _ hq] at e
    exact e.symm
  refine wpAny_call (make_map (f := f) I.kIn M.makes M.init (beq_iff_eq.mp M.fn) (codeAny_mono (F.run _ X.stack _ _ ⟨Value.ref (s.heap.objs.size + 1) :: us, []⟩ (Value.ref (s.heap.objs.size + 1) :: (us ++ ds)) _ _ E (hr.make C us [])
    (I2.env0.make C us []) (hb _ (Value.ref (s.heap.objs.size + 1) :: us) I2.kIn hl) r2 hq) fun r s' hq' => ?_))
  cases r with
  | error e => exact hx pins σ _ _ e s' I2 hq'
  | ok fl =>
    cases fl with
    | ret u =>
      obtain ⟨v, H', I3, rv, ev, q3⟩ := I2.after hq'
      subst ev
      exact ⟨rv, ⟨V.ref (s.heap.objs.size + 1), H', I3, rfl, q3⟩⟩
    | next => exact False.elim hq'
    | brk => exact False.elim hq'
    | cont => exact False.elim hq'
theorem pe_make0 (M : Mk X.K C f) (F : FnOk X.prog X.w X.K X.mg X.base CX k f fd ps sp) (hr : Room (k + 1) X.A) (hg : Gl X x) (hm : X.mg x = some (.ref C)) (hb : Binds X.K fd ps ds) (hd : Vals dvs ds) (hx : Passes CX X E)
    (hdb : (x == ("__debug__" : Str)) = false := by decide) : PE X (.Call (.Name x p) [] [] pos) (tMake C sp dvs E tNil) := by
  intro pins s σ H Q I h
  refine wpAny_Call_Name_kw (ld_glob I hg hm ?_ hdb)
  exact PySem.W.callWith_K0 I.kIn M.kp (run_make (us := []) M F hr hb hd hx I .nil h)
end

/-! ### keywords -/
section
variable {X : Cx} {CX : CXT} {k : Nat} {f C : Addr} {fd : FuncData} {ps ks : List Str} {sp : Sp} {E : XK} {x m : Str} {p pos apos kpos : Pos} {e o : Expr} {es : List Expr} {kws : List Keyword} {te ta : TE} {t tk : TA} {nm : Option Str}
/-- how a call with keywords binds: g puts the positional values us and the keywords' values ws (names ks) in the parameters' order, defaults among them -/
structure KBinds (K : PySem.W.Frag) (fd : FuncData) (ps ks : List Str) (g : List Value → List Value → List Value) (gV : List V → List V → List V) : Prop where
  to : ∀ (s : Shared) (us ws : List Value), K.In s.heap → (g us ws).length = ps.length → BindsTo s fd ⟨us, ks.zip ws⟩ (ps.zip (g us ws))
  rel : ∀ {vs : List V} {us : List Value} {zs : List V} {ws : List Value}, Vals vs us → Vals zs ws → Vals (gV vs zs) (g us ws)
variable {g : List Value → List Value → List Value} {gV : List V → List V → List V}
end

/-! ### a def's body keeps its promise -/
/-- names: the parameters first -/
structure FnScope (N P : List Str) (sc : Scope) : Prop where
  kind : sc.kind = .function
  co : sc.isCoroutine = false
  gen : sc.isGenerator = false
  nd : N.Nodup
  pre : N.take P.length = P
  par : ∀ x ∈ P, sc.names.lookup x = some .local ∨ sc.names.lookup x = some .cell
  nofree : ∀ y ∈ sc.names, y.2 ≠ .free

theorem bindL_out {kindOf : Str → Option NameKind} {x : Str} : ∀ {binds : List (Str × Value)} {m : Str → Option Value}, (∀ v, (x, v) ∉ binds) → bindL kindOf binds m x = m x
  | [], _, _ => rfl
  | (n, v) :: r, m, h => by
    unfold bindL
    rw [bindL_out fun w hw => h w (List.mem_cons_of_mem _ hw)]
    split
    · have : x ≠ n := by rintro rfl; exact h v List.mem_cons_self
      simp [this]
    · rfl
theorem bindC_out {kindOf : Str → Option NameKind} {x : Str} : ∀ {binds : List (Str × Value)} {m : Str → Option Value}, (∀ v, (x, v) ∉ binds) → bindC kindOf binds m x = m x
  | [], _, _ => rfl
  | (n, v) :: r, m, h => by
    unfold bindC
    rw [bindC_out fun w hw => h w (List.mem_cons_of_mem _ hw)]
    split
    · rfl
    · have : x ≠ n := by rintro rfl; exact h v List.mem_cons_self
      simp [this]
theorem bindL_get {kindOf : Str → Option NameKind} {x : Str} {v : Value} : ∀ {P : List Str} {vs : List Value} {i : Nat} {m : Str → Option Value}, P.Nodup → P[i]? = some x → vs[i]? = some v → kindOf x = some .local →
    bindL kindOf (P.zip vs) m x = some v
  | [], _, _, _, _, h, _, _ => by simp at h
  | _ :: _, [], _, _, _, _, h, _ => by simp at h
  | p :: P, w :: vs, 0, m, nd, h1, h2, hk => by
    simp at h1 h2; subst h1; subst h2
    show bindL kindOf ((p, w) :: P.zip vs) m p = _
    unfold bindL
    rw [bindL_out fun v hv => (List.nodup_cons.mp nd).1 (List.of_mem_zip hv).1, if_pos hk]
    simp
  | p :: P, w :: vs, i + 1, m, nd, h1, h2, hk => by
    show bindL kindOf ((p, w) :: P.zip vs) m x = _
    unfold bindL
    exact bindL_get (i := i) (List.nodup_cons.mp nd).2 (by simpa using h1) (by simpa using h2) hk
theorem bindC_get {kindOf : Str → Option NameKind} {x : Str} {v : Value} : ∀ {P : List Str} {vs : List Value} {i : Nat} {m : Str → Option Value}, P.Nodup → P[i]? = some x → vs[i]? = some v → kindOf x ≠ some .local →
    bindC kindOf (P.zip vs) m x = some v
  | [], _, _, _, _, h, _, _ => by simp at h
  | _ :: _, [], _, _, _, _, h, _ => by simp at h
  | p :: P, w :: vs, 0, m, nd, h1, h2, hk => by
    simp at h1 h2; subst h1; subst h2
    show bindC kindOf ((p, w) :: P.zip vs) m p = _
    unfold bindC
    rw [bindC_out fun v hv => (List.nodup_cons.mp nd).1 (List.of_mem_zip hv).1, if_neg hk]
    simp
  | p :: P, w :: vs, i + 1, m, nd, h1, h2, hk => by
    show bindC kindOf ((p, w) :: P.zip vs) m x = _
    unfold bindC
    exact bindC_get (i := i) (List.nodup_cons.mp nd).2 (by simpa using h1) (by simpa using h2) hk

/-- the names' values at the entry -/
def start (N : List Str) (vs : List V) : St := vs.map some ++ List.replicate (N.length - vs.length) none

/-- the context of a def's body, at its entry; an exception leaves the frame, then lies as CX says -/
def cxOf (CX : CXT) (P : Program) (w : World) (K : PySem.W.Frag) (mg : Str → Option Value) (base : Heap) (N : List Str) (qual : Str) (scope : Scope) (f : Addr) (cd : Value) (A : Around) (outer : List Env) (s : Shared) (H : Hp) (E : XK) : Cx where
  prog := P
  w := w
  K := K
  mg := mg
  base := base
  A := A.deeper (envOfC qual scope s.heap.objs.size f cd)
  N := N
  s₀ := s
  H₀ := H
  env := envOfC qual scope s.heap.objs.size f cd
  outer := outer
  stack := envOfC qual scope s.heap.objs.size f cd :: outer
  ex := []
  calm := true
  fn := fun _ => true
  pn := []
  xe := fun e s' => wpAny (model P w) (A.deeper (envOfC qual scope s.heap.objs.size f cd)) (leaving (envOfC qual scope s.heap.objs.size f cd) e) (fun _ s'' => CX outer H s E e s'') (fun e' s'' => CX outer H s E e' s'') s'

theorem cell_has {sc : Scope} {n : Nat} {x : Str} (h : sc.names.lookup x = some .cell) : ∃ c, (cellsFrom n sc.names []).lookup x = some c := by
  have q := PySem.W.cellsFrom_some sc.names n [] (.inl h)
  exact Option.isSome_iff_exists.mp q

theorem inv_start {CX : CXT} {P : Program} {w : World} {K : PySem.W.Frag} {mg : Str → Option Value} {base : Heap} {N ps : List Str} {qual : Str} {scope : Scope} {f : Addr} {cd : Value} {A : Around} {outer : List Env} {s s1 : Shared} {H : Hp} {E : XK} {us : List Value} {vs : List V}
    (S : FnScope N ps scope) (hd : A.handled = none) (e0 : Env0 P w K mg base A outer s H) (hl : vs.length = ps.length) (r : Vals vs us)
    (x : InCallC s s.heap.objs.size (bindL (envOfC qual scope s.heap.objs.size f cd).kindOf (ps.zip us) fun _ => none) (cellsFrom (s.heap.objs.size + 1) scope.names []) (bindC (envOfC qual scope s.heap.objs.size f cd).kindOf (ps.zip us) fun _ => none) s1) :
    Inv (cxOf CX P w K mg base N qual scope f cd A outer s H E) [] (start N vs) H s1 := by
  have hpl : ps.length ≤ N.length := by have := congrArg List.length S.pre; rw [List.length_take] at this; omega
  obtain ⟨h1, tk, rfl, hk⟩ := x.done
  have noA : ∀ b : Addr, b ∉ (cxOf CX P w K mg base N qual scope f cd A outer s H E).ex := fun b z => absurd (show b ∈ ([] : List Addr) from z) (by simp)
  refine ⟨⟨e0.mod, S.kind, rfl, rfl, Nat.le_refl _, fun y z c h1 h2 => ?_, fun y hy => ?_, fun y c _ h => ?_, fun _ => hd, Around.frames_deeper e0.frames, .inr ⟨rfl, rfl⟩, fun b z => absurd z (noA b), e0.bs, e0.bsz, fun b _ _ => noA b, fun b z => absurd z (noA b), e0.funs, e0.frf⟩,
    rfl, e0.bare, Un.kept hk, ⟨_, x.toInCall.ns, fun i y v h1 h2 h3 => ?_⟩, fun y c h => ⟨_, x.cell y c h⟩, e0.hok.fresh (Nat.le_refl _), fun y c h => ?_, fun p hp => absurd (show p ∈ ([] : List (Addr × Obj)) from hp) (by simp), e0.hok.kept hk, ?_⟩
  · exact name_of_addr x.apart (PySem.mem_of_lookup h1) (PySem.mem_of_lookup h2)
  · have hy : scope.names.lookup y = some .cell ∨ scope.names.lookup y = some .free := hy
    rcases hy with hy | hy
    · exact cell_has hy
    · exact absurd rfl (S.nofree _ (PySem.mem_of_lookup hy))
  · exact Nat.le_of_lt (x.above y c (PySem.mem_of_lookup h))
  · have hi : i < vs.length := by
      unfold start at h2
      by_cases hi : i < vs.length
      · exact hi
      · rw [List.getElem?_append_right (by simpa using hi)] at h2
        rw [List.getElem?_replicate] at h2
        split at h2 <;> cases h2
    have ha : vs[i]? = some v := by
      unfold start at h2
      rw [List.getElem?_append_left (by simpa using hi), List.getElem?_map] at h2
      cases e : vs[i]? with
      | none => rw [e] at h2; cases h2
      | some a => rw [e] at h2; cases h2; rfl
    obtain ⟨u, hu, rv⟩ := r.get ha
    have hp : ps[i]? = some y := by
      rw [← S.pre, List.getElem?_take_of_lt (by omega)]; exact h1
    have ndP : ps.Nodup := by rw [← S.pre]; exact S.nd.sublist (List.take_sublist _ _)
    refine ⟨u, rv, ?_⟩
    rcases S.par y (List.mem_of_getElem? hp) with k | k
    · exact .inl ⟨k, bindL_get ndP hp hu k⟩
    · obtain ⟨c, e⟩ := cell_has (n := s.heap.objs.size + 1) k
      refine .inr ⟨.inl k, c, e, ?_⟩
      have q := x.cell y c e
      rw [bindC_get ndP hp hu (by show scope.names.lookup y ≠ _; rw [k]; decide)] at q
      exact q
  · exact e0.hok.fresh (Nat.le_of_lt (x.above y c (PySem.mem_of_lookup h)))
  · unfold start
    show _ = N.length
    rw [List.length_append, List.length_map, List.length_replicate]
    omega

/-- THE RULE: a def (or a method) of the text, by its body. The body's reading t is chosen for each entry; it is run at the parameters' values -/
theorem fn_of {CX : CXT} {P : Program} {w : World} {K : PySem.W.Frag} {mg : Str → Option Value} {base : Heap} {k : Nat} {f : Addr} {name qual : Str} {params : Arguments} {body : List Stmt} {scope : Scope} {dV kV doc pm cdv ct oc : Value} {an od : Option Addr}
    {osl : Array (Option Value)} {N ps : List Str} {sp : Sp} (lk : K.lookup f = some ⟨oc, od, .func (PySem.W.fnOf name qual params body scope dV kV doc pm an cdv ct), osl⟩) (hcd : PySem.W.codeIn K cdv qual = true) (S : FnScope N ps scope)
    (len : ∀ vs H Q E, sp vs H Q E → vs.length = ps.length)
    (hbody : ∀ (A : Around) (outer : List Env) (s : Shared) (H : Hp) (vs : List V) (Q : VK) (E : XK), Room k (A.deeper (envOfC qual scope s.heap.objs.size f cdv)) → sp vs H Q E →
      ∃ t, PSs (cxOf CX P w K mg base N qual scope f cdv A outer s H E) body t ∧ t { nx := fun _ H' => Q .non H', rt := Q } (start N vs) H) :
    FnOk P w K mg base CX (k + 1) f (PySem.W.fnOf name qual params body scope dV kV doc pm an cdv ct) ps sp := by
  refine ⟨len, fun A outer s H args us vs Q E hr e0 hb r hsp => ?_⟩
  have hl := len _ _ _ _ hsp
  have KX : K.In s.heap := e0.mod.kin.keeps fun b o e => (e0.bs b o e).1
  have lim : s.heap.NoLimit := e0.mod.nolimit.keeps fun b o e => (e0.bs b o e).1
  have hkind : ∀ y ∈ ps.zip us, scope.names.lookup y.1 = some .local ∨ (scope.names.lookup y.1 = some .cell ∧ ((cellsFrom (s.heap.objs.size + 1) scope.names []).lookup y.1).isSome = true) := fun ⟨n, v⟩ hy => by
    rcases S.par n (List.of_mem_zip hy).1 with q | q
    · exact .inl q
    · exact .inr ⟨q, PySem.W.cellsFrom_some _ _ _ (.inl q)⟩
  refine codeAny_call_function hr.depth (KX _ _ lk) rfl S.co S.gen rfl (PySem.W.codeRec_of KX hcd) (hb _ _ _ _ ?_)
  refine wpAny_newFunctionEnv_cells S.kind hkind fun env he s1 x => ?_
  subst he
  refine ⟨lim.keeps x.toInCall.keep, codeAny_func ?_⟩
  obtain ⟨t, ht, hq⟩ := hbody A outer s H vs Q E (hr.deeper _) hsp
  have I : Inv (cxOf CX P w K mg base N qual scope f cdv A outer s H E) [] (start N vs) H s1 := inv_start S hr.hd e0 hl r x
  refine wpAny_mono (ht [] s1 (start N vs) H _ I hq) (fun fl s' hs => ?_) fun e s' hs => hs
  have fin : ∀ {σ' : St} {H' : Hp} {v : V} {u : Value}, Inv (cxOf CX P w K mg base N qual scope f cdv A outer s H E) [] σ' H' s' → RelV v u → Q v H' → CE outer P w H s Q u s' :=
    fun {σ' H' v u} J rv q => ⟨v, H', J.os, J.bare, J.base, J.hok, rv, q⟩
  cases fl with
  | ret u =>
    obtain ⟨v, σ', H', J, rv, q⟩ := hs
    exact fin J rv q
  | next =>
    obtain ⟨σ', H', J, q⟩ := hs
    exact fin (v := V.non) (u := Value.none) J rfl q
  | brk =>
    obtain ⟨_, _, _, q⟩ := hs
    exact False.elim q
  | cont =>
    obtain ⟨_, _, _, q⟩ := hs
    exact False.elim q
end L2

namespace L2
open PySem PySem.Spec PyProof.Rows
section
variable {X : Cx} {x : Str} {p pos : Pos} {e : Expr} {es : List Expr} {t : TA} {id T : String} {r : List V → Hp → VK → Prop}

def tCB (r : List V → Hp → VK → Prop) (t : TA) : TE := fun σ H Q => t σ H fun vs H1 => r vs H1 Q
/-- f(e, ..), f a built-in function -/
theorem pe_callB (hc : CallR X (.builtin id) r) (hg : Gl X x) (hm : X.mg x = none) (hv : bootBuiltins x = some (.builtin id)) (ha : PA X (e :: es) t) (hn : x ≠ "__name__" := by decide) (hdb : (x == ("__debug__" : Str)) = false := by decide)
    (he : starEach (e :: es) X.env = (false, eval e X.env) :: starEach es X.env := by rfl) (hpl : (backTo pos (starEach es X.env)).any (·.1) = false := by rfl) : PE X (.Call (.Name x p) (e :: es) [] pos) (tCB r t) := by
  intro pins s σ H Q I h
  refine wpAny_Call_Name_kw (ld_blt I hg hm hv ?_ hn hdb)
  exact PyProof.Rows.callWith_builtin1 (thn (ha pos pins s σ H _ I h) fun us s1 ⟨vs, H1, I1, r1, q1⟩ => hc pins s1 σ H1 vs us Q I1 r1 q1) he hpl
/-- T(e, ..), T a built-in type -/
theorem pe_callTy (hc : CallR X (.type T) r) (hg : Gl X x) (hm : X.mg x = none) (hv : bootBuiltins x = some (.type T)) (ha : PA X (e :: es) t) (hn : x ≠ "__name__" := by decide) (hdb : (x == ("__debug__" : Str)) = false := by decide)
    (he : starEach (e :: es) X.env = (false, eval e X.env) :: starEach es X.env := by rfl) (hpl : (backTo pos (starEach es X.env)).any (·.1) = false := by rfl) : PE X (.Call (.Name x p) (e :: es) [] pos) (tCB r t) := by
  intro pins s σ H Q I h
  refine wpAny_Call_Name_kw (ld_blt I hg hm hv ?_ hn hdb)
  exact PyProof.Rows.callWith_type1 (thn (ha pos pins s σ H _ I h) fun us s1 ⟨vs, H1, I1, r1, q1⟩ => hc pins s1 σ H1 vs us Q I1 r1 q1) he hpl
end
end L2

namespace HT
open PySem PyProof.Rows

section
open PySem.SeqAt
open PySem.AutoSeq1 (wpAny_loadPart')
open PySem.MeetsSeq PySem.MeetsSeq2 PySem.MeetsSeq3

end

section
variable {prog : Program} {w : World} {A : Around} {E : Value → Shared → Prop} {s : Shared}

/-! ### t[a:b], not the whole -/
/-- a slice's bound as a place among n (d where it is left out) -/
def sIx (n d : Nat) : Option Int → Nat
  | none => d
  | some v => if v < 0 then (v + (n : Int)).toNat else min v.toNat n
end
end HT

namespace L2
open PySem PySem.Spec PyProof.Rows

/-! ### the parts of a slice -/
abbrev TO := St → Hp → (Option Int → Hp → Prop) → Prop
/-- a slice's part (left out, or an int) -/
def PO (X : Cx) (e : Option Expr) (t : TO) : Prop :=
  ∀ (pins : List (Addr × Obj)) (s : Shared) (σ : St) (H : Hp) (Q : Option Int → Hp → Prop), Inv X pins σ H s → t σ H Q →
    wpAny (model X.prog X.w) X.A (evalPart e X.env) (fun u s' => ∃ o H', Inv X pins σ H' s' ∧ IsPart u o ∧ Q o H') X.xe s
def tNoPart : TO := fun _ H Q => Q none H
def tPart (t : TE) : TO := fun σ H Q => t σ H fun x H1 => ∃ i, x = .int i ∧ Q (some i) H1

section
variable {X : Cx} {e : Expr} {te : TE} {lo hi : Option Expr} {tl th : TO} {pos p2 : Pos}

theorem po_some (h : PE X e te) : PO X (some e) (tPart te) := by
  intro pins s σ H Q I hw
  rw [evalPart_some]
  refine thn (h pins s σ H _ I hw) fun u s1 ⟨x, H1, I1, r1, q1⟩ => ?_
  obtain ⟨i, rfl, q⟩ := q1
  obtain ⟨t, rfl⟩ := r1
  exact ⟨some i, H1, I1, .int i t, q⟩

/-- what a slice of a value is, by values: the slice object stands at sl -/
def SlR (X : Cx) (r : V → Option Int → Option Int → Hp → VK → Prop) : Prop :=
  ∀ (pins : List (Addr × Obj)) (s : Shared) (σ : St) (H : Hp) (x : V) (v vl vu : Value) (lo hi : Option Int) (sl : Addr) (Q : VK), Inv X pins σ H s → RelV x v → s.heap.IsSliceOf sl vl vu .none → IsPart vl lo → IsPart vu hi → r x lo hi H Q →
    ∃ T id, typeLookup (.type T) "__getitem__" = pure (some (.builtin id)) ∧ s.TypeIs v T ∧ wpAny (model X.prog X.w) X.A (getItem v (.ref sl)) (EP X pins σ Q) X.xe s
theorem SlR.or {r r' : V → Option Int → Option Int → Hp → VK → Prop} (h : SlR X r) (h' : SlR X r') : SlR X (fun x lo hi H Q => r x lo hi H Q ∨ r' x lo hi H Q) := by
  intro pins s σ H x v vl vu lo hi sl Q I rx hs pl pu q
  rcases q with q | q
  · exact h pins s σ H x v vl vu lo hi sl Q I rx hs pl pu q
  · exact h' pins s σ H x v vl vu lo hi sl Q I rx hs pl pu q
def tSl (r : V → Option Int → Option Int → Hp → VK → Prop) (te : TE) (tl th : TO) : TE := fun σ H Q => te σ H fun x H1 => tl σ H1 fun l H2 => th σ H2 fun u H3 => r x l u H3 Q
/-- a[lo:hi], any a -/
theorem pe_slice {r : V → Option Int → Option Int → Hp → VK → Prop} (hr : SlR X r) (he : PE X e te) (hl : PO X lo tl) (hu : PO X hi th) : PE X (.Subscript e (.Slice lo hi none p2) pos) (tSl r te tl th) := by
  intro pins s σ H Q I h
  refine Subscript_ (thn (he pins s σ H _ I h) fun v s1 ⟨x, H1, I1, r1, q1⟩ => ?_)
  refine wpAny_Slice (thn (hl pins s1 σ H1 _ I1 q1) fun vl s2 ⟨l, H2, I2, pl, q2⟩ => thn (hu pins s2 σ H2 _ I2 q2) fun vu s3 ⟨u, H3, I3, pu, q3⟩ => ?_)
  rw [evalPart_none]
  refine wpAny_pure ?_
  have I4 : Inv X pins σ H3 { s3 with heap := s3.heap.push { cls := .type "slice", data := .fields #[vl, vu, .none] } } := I3.kept (t' := s3.toks) fun b ob q => Heap.get?_push_of_some _ q
  obtain ⟨T, id, hT, ht, hg⟩ := hr pins { s3 with heap := s3.heap.push { cls := .type "slice", data := .fields #[vl, vu, .none] } } σ H3 x v vl vu l u s3.heap.objs.size Q I4 r1 (Heap.IsSliceOf.new ..) pl pu q3
  show wpAny (model X.prog X.w) X.A (subscriptTail e (.Slice lo hi none p2) v (.ref s3.heap.objs.size)) (EP X pins σ Q) X.xe { s3 with heap := s3.heap.push { cls := .type "slice", data := .fields #[vl, vu, .none] } }
  exact tail_any (ops := [.ref s3.heap.objs.size, v]) ht hT hg (by with_unfolding_all rfl)

/-- the items of xs[lo:hi] -/
def cutV (xs : List V) (lo hi : Option Int) : List V := (xs.drop (HT.sIx xs.length 0 lo)).take (HT.sIx xs.length xs.length hi - HT.sIx xs.length 0 lo)
theorem cutV_length (xs : List V) (lo hi : Option Int) : (cutV xs lo hi).length ≤ xs.length := by
  unfold cutV
  rw [List.length_take, List.length_drop]
  omega
/-! ### t < u, t + u -/
end
end L2

namespace L2
open PySem PySem.Spec PyProof.Rows

/-! ### places -/
/-- the place that an index of any sign means -/
def ixN (n : Nat) (i : Int) : Option Nat := if 0 ≤ i then (if i < n then some i.toNat else none) else if -(n : Int) ≤ i then some (i + n).toNat else none
def atI {α : Type} (xs : List α) (i : Int) : Option α := (ixN xs.length i).bind fun j => xs[j]?
theorem ixN_seq {n : Nat} {i : Int} {j : Nat} (h : ixN n i = some j) : seqIndex? i n = some j ∧ j < n ∧ -(n : Int) ≤ i ∧ i < n := by
  unfold ixN at h
  by_cases h0 : 0 ≤ i
  · rw [if_pos h0] at h
    by_cases h1 : i < n
    · rw [if_pos h1] at h
      have e : i.toNat = j := Option.some.inj h
      exact ⟨by rw [seqIndex_of h0 h1, e], by omega, by omega, h1⟩
    · rw [if_neg h1] at h; cases h
  · rw [if_neg h0] at h
    by_cases h1 : -(n : Int) ≤ i
    · rw [if_pos h1] at h
      have e : (i + n).toNat = j := Option.some.inj h
      exact ⟨by rw [seqIndex_neg (by omega) h1, e], by omega, h1, by omega⟩
    · rw [if_neg h1] at h; cases h
theorem atI_get {α : Type} {xs : List α} {i : Int} {v : α} (h : atI xs i = some v) : ∃ j, seqIndex? i xs.length = some j ∧ xs[j]? = some v ∧ j < xs.length ∧ -(xs.length : Int) ≤ i ∧ i < xs.length := by
  unfold atI at h
  cases e : ixN xs.length i with
  | none => rw [e] at h; cases h
  | some j =>
    rw [e] at h
    obtain ⟨h1, h2, h3, h4⟩ := ixN_seq e
    exact ⟨j, h1, h, h2, h3, h4⟩
theorem atI_nat {α : Type} {xs : List α} {j : Nat} {v : α} (h : xs[j]? = some v) : atI xs (j : Int) = some v := by
  have hj : j < xs.length := (List.getElem?_eq_some_iff.mp h).1
  have e : ixN xs.length (j : Int) = some j := by
    unfold ixN
    rw [if_pos (by omega), if_pos (by omega)]; simp
  unfold atI; rw [e]; exact h
/-! ### what may be subscripted -/
/-- what stands as an index of a plain subscript -/
def PlainIx (b : Expr) : Prop := ∀ o i, subscripted b false o i = operate [o, i] (getItem o i)
/-- a subscript by values -/
def IxR (X : Cx) (r : R2) : Prop :=
  ∀ (value slice : Expr) (pins : List (Addr × Obj)) (s : Shared) (σ : St) (H : Hp) (x y : V) (v u : Value) (Q : VK), Inv X pins σ H s → RelV x v → RelV y u → r x y H Q →
    subscripted slice false v u = operate [v, u] (getItem v u) → wpAny (model X.prog X.w) X.A (subscriptTail value slice v u) (EP X pins σ Q) X.xe s
/-- a call of a builtin's method by values: the receiver, the arguments -/
def MtR (X : Cx) (id : String) (r : V → List V → Hp → VK → Prop) : Prop :=
  ∀ (pins : List (Addr × Obj)) (s : Shared) (σ : St) (H : Hp) (x : V) (xs : List V) (v : Value) (us : List Value) (Q : VK), Inv X pins σ H s → RelV x v → Vals xs us → r x xs H Q →
    wpAny (model X.prog X.w) X.A (call (.builtin id) (v :: us)) (EP X pins σ Q) X.xe s
section
variable {X : Cx} {a b : Expr} {ta tb : TE} {pos : Pos}
theorem IxR.or {r r' : R2} (h : IxR X r) (h' : IxR X r') : IxR X (fun x y H Q => r x y H Q ∨ r' x y H Q) := by
  intro value slice pins s σ H x y v u Q I rx ry q hs
  rcases q with q | q
  · exact h value slice pins s σ H x y v u Q I rx ry q hs
  · exact h' value slice pins s σ H x y v u Q I rx ry q hs
theorem MtR.or {id : String} {r r' : V → List V → Hp → VK → Prop} (h : MtR X id r) (h' : MtR X id r') : MtR X id (fun x xs H Q => r x xs H Q ∨ r' x xs H Q) := by
  intro pins s σ H x xs v us Q I rx rs q
  rcases q with q | q
  · exact h pins s σ H x xs v us Q I rx rs q
  · exact h' pins s σ H x xs v us Q I rx rs q
/-- a[b] -/
theorem pe_ix {r : R2} (hr : IxR X r) (ha : PE X a ta) (hb : PE X b tb) (hs : PlainIx b) : PE X (.Subscript a b pos) (tOp r ta tb) := by
  intro pins s σ H Q I h
  exact Subscript_ (binT ha hb I h fun v u s2 x y H2 I2 rx ry q => hr a b pins s2 σ H2 x y v u Q I2 rx ry q (hs _ _))

def rIxL (K : PySem.W.Frag) : R2 := fun x y H Q => ∃ p xs i v, x = .ref p ∧ y = .int i ∧ SqL K H p xs ∧ atI xs i = some v ∧ Q v H
def rIxT (K : PySem.W.Frag) : R2 := fun x y H Q => ∃ p xs i v, x = .ref p ∧ y = .int i ∧ SqT K H p xs ∧ atI xs i = some v ∧ Q v H
theorem ix_list : IxR X (rIxL X.K) := by
  intro value slice pins s σ H x y v u Q I rx ry h hs
  obtain ⟨p, xs, i, z, rfl, rfl, hq, he, q⟩ := h
  cases rx
  obtain ⟨t, rfl⟩ := ry
  obtain ⟨its, r, pl, hz⟩ := I.list hq
  obtain ⟨j, h1, h2, h3, h4, h5⟩ := atI_get he
  obtain ⟨w, ew, rw'⟩ := r.get h2
  have hl := r.length
  have hn := line63
  have fin : EP X pins σ Q w s := ⟨z, H, I, rw', q⟩
  by_cases h0 : 0 ≤ i
  · have hj : i.toNat = j := by
      rw [seqIndex_of h0 h5] at h1
      exact Option.some.inj h1
    exact item_listR pl.isList h0 (by omega) (by rw [hj]; simpa using ew) fin hs
  · have hj : (i + (its.toArray.size : Int)).toNat = j := by
      rw [seqIndex_neg (by omega) h4] at h1
      rw [List.size_toArray, ← hl]
      exact Option.some.inj h1
    exact subscriptTail_builtinR (x := w) pl.isList.typeIs slot_list_getitem.lookup
      (wpAny_getItem_list_neg (Q := fun r s' => r = w ∧ EP X pins σ Q r s') pl.isList (by omega) (by rw [List.size_toArray] <;> omega) (by omega) (by rw [hj]; simpa using ew) ⟨rfl, fin⟩) hs
theorem ix_tup : IxR X (rIxT X.K) := by
  intro value slice pins s σ H x y v u Q I rx ry h hs
  obtain ⟨p, xs, i, z, rfl, rfl, hq, he, q⟩ := h
  cases rx
  obtain ⟨t, rfl⟩ := ry
  obtain ⟨its, r, pl, hz⟩ := I.tuple hq
  obtain ⟨j, h1, h2, h3, h4, h5⟩ := atI_get he
  obtain ⟨w, ew, rw'⟩ := r.get h2
  have hl := r.length
  have hn := line63
  have fin : EP X pins σ Q w s := ⟨z, H, I, rw', q⟩
  exact subscriptTail_builtinR (x := w) pl.typeIs slot_tuple_getitem.lookup
    (getItem_tuple (j := j) (Q := fun r s' => r = w ∧ EP X pins σ Q r s') pl (by omega) (by omega) (by rw [List.size_toArray, ← hl]; exact h1) (by simpa using ew) ⟨rfl, fin⟩) hs
/-! ### xs[i] = v, any sign -/
theorem Inv.lst {pins : List (Addr × Obj)} {σ : St} {H : Hp} {s : Shared} {p : Addr} {xs : List V} (I : Inv X pins σ H s) (h : H p = some (.lst xs)) :
    ∃ (its : List Value) (n : Nat), Vals xs its ∧ s.heap.get? p = some { cls := .type "list", data := .seq its.toArray n } ∧ xs.length ≤ sizeLine := by
  obtain ⟨z, its, n, r, e⟩ := I.hok p _ h
  exact ⟨its, n, r, e, z⟩
/-! ### slices -/
theorem slice_bounds (lo hi : Option Int) (n : Nat) : (sliceBounds lo hi none n).1 = ((HT.sIx n 0 lo : Nat) : Int) ∧ (sliceBounds lo hi none n).2.1 = ((HT.sIx n n hi : Nat) : Int) ∧ (sliceBounds lo hi none n).2.2 = 1 := by
  refine ⟨?_, ?_, rfl⟩
  · cases lo with
    | none => simp [sliceBounds, HT.sIx]
    | some i =>
      simp only [sliceBounds, HT.sIx, Option.getD_none, show (1 : Int) > 0 by decide, if_true]
      by_cases h : i < 0
      · simp only [h, if_true] <;> omega
      · simp only [h, if_false] <;> omega
  · cases hi with
    | none => simp [sliceBounds, HT.sIx]
    | some i =>
      simp only [sliceBounds, HT.sIx, Option.getD_none, show (1 : Int) > 0 by decide, if_true]
      by_cases h : i < 0
      · simp only [h, if_true] <;> omega
      · simp only [h, if_false] <;> omega
theorem slicePick_cut (its : List Value) (lo hi : Option Int) : slicePick its.toArray lo hi none = ((its.drop (HT.sIx its.length 0 lo)).take (HT.sIx its.length its.length hi - HT.sIx its.length 0 lo)).toArray := by
  obtain ⟨h1, h2, h3⟩ := slice_bounds lo hi its.toArray.size
  unfold slicePick
  rw [h1, h2, h3]
  simp only [sliceRange_one, pick_run, List.size_toArray] <;> rfl
/-- xs[lo:hi] of a list: a new list -/
def rSlL (K : PySem.W.Frag) : V → Option Int → Option Int → Hp → VK → Prop := fun x lo hi H Q => ∃ a xs, x = .ref a ∧ SqL K H a xs ∧ ∀ p, H p = none → Q (.ref p) (upd H p (.lst (cutV xs lo hi)))
theorem sl_list : SlR X (rSlL X.K) := by
  intro pins s σ H x v vl vu lo hi sl Q I rx hs pl pu h
  obtain ⟨a, xs, rfl, hx, q⟩ := h
  cases rx
  obtain ⟨its, r, ht, hz⟩ := I.list hx
  have hlen := r.length
  refine ⟨"list", _, slot_list_getitem.lookup, ht.isList.typeIs, ?_⟩
  refine wpAny_getItem_list_slice ht.isList hs pl pu .none (by simp) ?_ (by rw [List.size_toArray] <;> omega)
  rw [slicePick_cut, ← hlen]
  refine ⟨.ref s.heap.objs.size, _, I.laid (t' := s.toks) (o := .lst (cutV xs lo hi)) (fun b ob q => Heap.get?_push_of_some _ q) (Nat.le_refl _) ?_, rfl, q _ (I.hok.fresh (Nat.le_refl _))⟩
  exact ⟨Nat.le_trans (cutV_length xs lo hi) hz, _, 0, (r.drop (HT.sIx xs.length 0 lo)).take (HT.sIx xs.length xs.length hi - HT.sIx xs.length 0 lo), Heap.get?_push_size _ rfl⟩

/-! ### in, not in: flat items -/
/-! ### len, list(x), tuple(x) of any list or tuple that is read -/
theorem call_len_seq : CallR X (.builtin "len") (fun xs H Q => ∃ p ys, xs = [.ref p] ∧ (SqL X.K H p ys ∨ SqT X.K H p ys) ∧ Q (.int ys.length) H) := by
  intro pins s σ H xs us Q I r h
  obtain ⟨p, ys, rfl, hq, q⟩ := h
  obtain ⟨u, rfl, rx⟩ := vals1 r
  cases rx
  have hn := line63
  rcases hq with hq | hq
  · obtain ⟨its, r', pl, hz⟩ := I.list hq
    have hlen := r'.length
    exact Calls.call_len_list pl.isList (by simp only [List.size_toArray] <;> omega) ⟨.int ys.length, H, I.tok _, ⟨s.toks + 1, by rw [List.size_toArray, hlen]⟩, q⟩
  · obtain ⟨its, r', pl, hz⟩ := I.tuple hq
    have hlen := r'.length
    exact len_tuple pl (by simp only [List.size_toArray] <;> omega) ⟨.int ys.length, H, I.tok _, ⟨s.toks + 1, by rw [List.size_toArray, hlen]⟩, q⟩
theorem CallR.or {f : Value} {r r' : List V → Hp → VK → Prop} (h : CallR X f r) (h' : CallR X f r') : CallR X f (fun xs H Q => r xs H Q ∨ r' xs H Q) := by
  intro pins s σ H xs us Q I rs q
  rcases q with q | q
  · exact h pins s σ H xs us Q I rs q
  · exact h' pins s σ H xs us Q I rs q
theorem call_list_of : CallR X (.type "list") (fun xs H Q => ∃ p ys, xs = [.ref p] ∧ (SqL X.K H p ys ∨ SqT X.K H p ys) ∧ ∀ l, H l = none → Q (.ref l) (upd H l (.lst ys))) := by
  intro pins s σ H xs us Q I r h
  obtain ⟨p, ys, rfl, hq, q⟩ := h
  obtain ⟨u, rfl, rx⟩ := vals1 r
  cases rx
  have fin : ∀ (its : List Value), Vals ys its → ys.length ≤ sizeLine → ∀ (h' : Heap) (c' : Nat), (∀ b o', s.heap.get? b = some o' → h'.get? b = some o') →
      h'.get? s.heap.objs.size = some { cls := .type "list", dict := none, data := .seq its.toArray c', slots := #[] } → EP X pins σ Q (.ref s.heap.objs.size) { s with heap := h' } := fun its r' hz h' c' kp e =>
    ⟨.ref s.heap.objs.size, _, I.laid (t' := s.toks) kp (Nat.le_refl _) (show ObjOk X.prog X.w _ h' _ (.lst ys) from ⟨hz, its, c', r', e⟩), rfl, q _ (I.hok.fresh (Nat.le_refl _))⟩
  rcases hq with hq | hq
  · obtain ⟨its, r', pl, hz⟩ := I.list hq
    have hlen := r'.length
    obtain ⟨o, ho, hc, n, hd⟩ := pl.isList
    exact call_list_seq p (.inl rfl) ho hc hd (fun h' c' kp e => fin its r' hz h' c' kp e) (by simp only [List.size_toArray] <;> omega)
  · obtain ⟨its, r', pl, hz⟩ := I.tuple hq
    have hlen := r'.length
    obtain ⟨o, ho, hc, n, hd⟩ := pl
    exact call_list_seq p (.inr rfl) ho hc hd (fun h' c' kp e => fin its r' hz h' c' kp e) (by simp only [List.size_toArray] <;> omega)
/-! ### the call of a builtin's method: o.m(..) -/
/-- the value is of that builtin type -/
def tyV (K : PySem.W.Frag) (T : String) (x : V) (H : Hp) : Prop := match x with
  | .str _ => T = "str"
  | .int _ => T = "int"
  | .ref p => (T = "list" ∧ ∃ xs, SqL K H p xs) ∨ (T = "tuple" ∧ ∃ o, K.lookup p = some o ∧ o.cls = .type "tuple" ∧ o.dict = none) ∨
      (T = "dict" ∧ ((∃ kvs, H p = some (.dK kvs)) ∨ ∃ kvs, H p = some (.dT kvs))) ∨ (T = "set" ∧ ∃ S n, H p = some (.set S n))
  | _ => False
theorem tyV_is {pins : List (Addr × Obj)} {σ : St} {H : Hp} {s : Shared} {T : String} {x : V} {v : Value} (I : Inv X pins σ H s) (r : RelV x v) (ty : tyV X.K T x H) :
    s.TypeIs v T ∧ ∀ a, v = .ref a → ∃ ob, s.heap.get? a = some ob ∧ ob.dict = none := by
  cases x with
  | str z =>
    obtain ⟨t, rfl⟩ := r
    cases (show T = "str" from ty)
    exact ⟨typeIs_str s z t, fun _ e => nomatch e⟩
  | int i =>
    obtain ⟨t, rfl⟩ := r
    cases (show T = "int" from ty)
    exact ⟨typeIs_int s i t, fun _ e => nomatch e⟩
  | ref p =>
    cases r
    rcases ty with ⟨rfl, xs, hq⟩ | ⟨rfl, o, hk, hc, hd⟩ | ⟨rfl, hk⟩ | ⟨rfl, S, n, hk⟩
    · obtain ⟨its, _, pl, _⟩ := I.list hq
      refine ⟨pl.isList.typeIs, fun a e => ?_⟩
      cases e
      obtain ⟨o, n, e, c, hd, _⟩ := pl
      exact ⟨o, e, hd⟩
    · refine ⟨⟨o, I.kIn p o hk, hc⟩, fun a e => ?_⟩
      cases e
      exact ⟨o, I.kIn _ o hk, hd⟩
    · have z : ∃ o, s.heap.get? p = some o ∧ o.ExactDict := by
        rcases hk with ⟨kvs, hk⟩ | ⟨kvs, hk⟩
        · obtain ⟨_, _, _, _, o, _, _, e, ex, _⟩ := I.hok p _ hk
          exact ⟨o, e, ex⟩
        · obtain ⟨_, _, _, _, o, _, _, e, ex, _⟩ := I.hok p _ hk
          exact ⟨o, e, ex⟩
      obtain ⟨o, e, ex⟩ := z
      refine ⟨⟨o, e, ex.1⟩, fun a e2 => ?_⟩
      cases e2
      exact ⟨o, e, ex.2.1⟩
    · obtain ⟨o, _, _, _, e, ex, _⟩ := I.hok p _ hk
      refine ⟨⟨o, e, ex.1⟩, fun a e2 => ?_⟩
      cases e2
      exact ⟨o, e, ex.2.1⟩
  | _ => exact False.elim ty
def tBM0 (K : PySem.W.Frag) (T : String) (r : V → List V → Hp → VK → Prop) (to : TE) : TE := fun σ H Q => to σ H fun x H1 => tyV K T x H1 ∧ r x [] H1 Q
def tBM (K : PySem.W.Frag) (T : String) (r : V → List V → Hp → VK → Prop) (to : TE) (t : TA) : TE := fun σ H Q => to σ H fun x H1 => tyV K T x H1 ∧ t σ H1 fun xs H2 => r x xs H2 Q
variable {o e : Expr} {es : List Expr} {to : TE} {t : TA} {name : Str} {apos cpos : Pos} {T id : String} {r : V → List V → Hp → VK → Prop}
theorem pe_bm0 (pa : PlainAttrs T) (slot : Slot T name id) (hty : typeOf (.builtin id) = pure (.type "method_descriptor")) (hm : MtR X id r) (ho : PE X o to)
    (hbase : attributeBase o name X.env (eval o X.env) = eval o X.env := by rfl) (hline : (apos.endLine == cpos.line) = true := by rfl) : PE X (.Call (.Attribute o name apos) [] [] cpos) (tBM0 X.K T r to) := by
  intro pins s σ H Q I h
  refine wpAny_Call_method0_late hbase hline (thn (ho pins s σ H _ I h) fun v s1 ⟨x, H1, I1, r1, ty, q1⟩ => ?_)
  obtain ⟨h1, h2⟩ := tyV_is I1 r1 ty
  exact ⟨T, id, pa, slot, hty, h1, h2, Calls.callWith_builtin rfl (PySem.evalArgs_none (hm pins s1 σ H1 x [] v [] Q I1 r1 .nil q1))⟩
theorem pe_bm (pa : PlainAttrs T) (slot : Slot T name id) (hty : typeOf (.builtin id) = pure (.type "method_descriptor")) (hm : MtR X id r) (ho : PE X o to) (ha : PA X (e :: es) t)
    (hbase : attributeBase o name X.env (eval o X.env) = eval o X.env := by rfl)
    (hfew : ((backTo cpos (starEach (e :: es) X.env)).all (fun x => !x.1) && (backToKw cpos (keywordEach [] X.env)).all (fun x => x.1.isSome)
      && decide ((e :: es).length + ([] : List Keyword).length + (if ([] : List Keyword).isEmpty then 0 else 1) < 30)) = true := by rfl)
    (hline : (apos.endLine == cpos.line) = true := by rfl) (hs : starEach (e :: es) X.env = (false, eval e X.env) :: starEach es X.env := by rfl) (hplain : (backTo cpos (starEach es X.env)).any (·.1) = false := by rfl) :
    PE X (.Call (.Attribute o name apos) (e :: es) [] cpos) (tBM X.K T r to t) := by
  intro pins s σ H Q I h
  refine wpAny_Call_method_late hbase hfew hline rfl (thn (ho pins s σ H _ I h) fun v s1 ⟨x, H1, I1, r1, ty, q1⟩ => ?_)
  obtain ⟨h1, h2⟩ := tyV_is I1 r1 ty
  refine ⟨T, id, pa, slot, hty, h1, h2, ?_⟩
  have hA := ha cpos pins s1 σ H1 _ I1 q1
  rw [hs] at hA ⊢
  refine Calls.callWith_builtin (by show (false || (backTo cpos (starEach es X.env)).any (·.1)) = false; rw [hplain] <;> rfl) (Calls.evalArgs_plain ?_)
  exact thn hA fun us s2 ⟨vs, H2, I2, r2, q2⟩ => hm pins s2 σ H2 x vs v us Q I2 r1 r2 q2
/- xs.append(e), list.index on a module's tuple .. are MtR facts of 06m -/
end
end L2

namespace L2
open PySem PySem.Spec PyProof.Rows

def MtM (X : Cx) (id : String) (r : V → List V → Hp → VK → Prop) : Prop :=
  ∀ (pins : List (Addr × Obj)) (s : Shared) (σ : St) (H : Hp) (x : V) (xs : List V) (v : Value) (us : List Value) (Q : VK), Inv X pins σ H s → RelV x v → Vals xs us → r x xs H Q →
    wpAny (model X.prog X.w) X.A (call (.builtin id) (v :: us)) (EP X pins σ Q) X.xe s

/-! ### lists of values -/
theorem Vals.one : ∀ {x : V} {us : List Value}, Vals [x] us → ∃ u, us = [u] ∧ RelV x u
  | _, _, .cons r .nil => ⟨_, rfl, r⟩
theorem Vals.two : ∀ {x y : V} {us : List Value}, Vals [x, y] us → ∃ u v, us = [u, v] ∧ RelV x u ∧ RelV y v
  | _, _, _, .cons r (.cons q .nil) => ⟨_, _, rfl, r, q⟩
theorem Vals.zero : ∀ {us : List Value}, Vals [] us → us = []
  | _, .nil => rfl
theorem Vals.reverse {xs : List V} {us : List Value} (h : Vals xs us) : Vals xs.reverse us.reverse := by
  induction h with
  | nil => exact .nil
  | cons r t ih => rw [List.reverse_cons, List.reverse_cons]; exact Vals.append ih (.cons r .nil)
theorem Vals.rep {xs : List V} {us : List Value} (h : Vals xs us) : ∀ k : Nat, Vals (List.replicate k xs).flatten (List.replicate k us).flatten
  | 0 => .nil
  | k + 1 => by
    rw [List.replicate_succ, List.replicate_succ, List.flatten_cons, List.flatten_cons]
    exact Vals.append h (Vals.rep h k)
theorem foldl_rep (its : List Value) : ∀ (k : Nat) (acc : List Value),
    List.foldl (fun x1 x2 => x1 ++ x2) acc.toArray (List.replicate k its.toArray) = (acc ++ (List.replicate k its).flatten).toArray
  | 0, acc => by simp
  | k + 1, acc => by
    have e : acc.toArray ++ its.toArray = (acc ++ its).toArray := by simp
    have e2 : (acc ++ its) ++ (List.replicate k its).flatten = acc ++ (List.replicate (k + 1) its).flatten := by
      rw [List.replicate_succ, List.flatten_cons, List.append_assoc]
    rw [← e2, ← foldl_rep its k (acc ++ its), ← e, List.replicate_succ, List.foldl_cons]

section
variable {X : Cx} {pins : List (Addr × Obj)} {σ : St} {H : Hp} {s : Shared} {l b : Addr} {xs ys zs : List V}

/-! ### the two steps: a tracked list is rewritten, a new list is laid -/
theorem Inv.lset {its its' : List Value} {n : Nat} {f : Array Value → Array Value} {t' : Nat} (I : Inv X pins σ H s) (hH : H l = some (.lst xs))
    (e : s.heap.get? l = some { cls := .type "list", data := .seq its.toArray n }) (hf : f its.toArray = its'.toArray) (hv : Vals ys its') (hz : ys.length ≤ sizeLine) :
    Inv X pins σ (upd H l (.lst ys)) { s with heap := s.heap.update l (Obj.mapSeq f), toks := t' } := by
  have q := PySem.IsL.update e f
  rw [hf] at q
  refine I.write (x := l) (e := l) (by rw [hH]; exact trivial) (.inl rfl) (fun b' u hb hu => (Heap.get?_update_other s.heap (Obj.mapSeq f) (Ne.symm hb)).trans hu) ⟨_, q⟩ ?_
  exact ⟨hz, its', _, hv, q⟩
theorem Inv.lnew {its : List Value} {t' : Nat} (I : Inv X pins σ H s) (hv : Vals ys its) (hz : ys.length ≤ sizeLine) :
    Inv X pins σ (upd H s.heap.objs.size (.lst ys)) { s with heap := s.heap.push { cls := .type "list", data := .seq its.toArray }, toks := t' } :=
  I.laid (fun _ _ q => Heap.get?_push_of_some _ q) (Nat.le_refl _) ⟨hz, its, 0, hv, Heap.get?_push_size _ rfl⟩
theorem Inv.fresh (I : Inv X pins σ H s) : H s.heap.objs.size = none := I.hok.fresh (Nat.le_refl _)
theorem Inv.lstM (I : Inv X pins σ H s) (hH : H l = some (.lst xs)) : xs.length ≤ sizeLine ∧ ∃ (its : List Value) (n : Nat), Vals xs its ∧ xs.length = its.length ∧ s.heap.get? l = some { cls := .type "list", data := .seq its.toArray n } := by
  obtain ⟨z, its, n, r, e⟩ := I.hok l _ hH
  exact ⟨z, its, n, r, r.length, e⟩

theorem notLongL {n : Nat} (h : n ≤ sizeLine) : Builtin.List.listTooLong n = false := by
  unfold Builtin.List.listTooLong
  exact decide_eq_false (by omega)
end

section
variable {X : Cx}

/-! ### methods -/
def rAppend : V → List V → Hp → VK → Prop := fun x vs H Q => ∃ l xs y, x = .ref l ∧ vs = [y] ∧ H l = some (.lst xs) ∧ xs.length < sizeLine ∧ Q .non (upd H l (.lst (xs ++ [y])))
theorem mt_append : MtM X "list.append" rAppend := by
  intro pins s σ H x vs v us Q I rx rv h
  obtain ⟨l, xs, y, rfl, rfl, hH, hz, q⟩ := h
  cases rx
  obtain ⟨u, rfl, ru⟩ := rv.one
  obtain ⟨z, its, n, r, hl, e⟩ := I.lstM hH
  refine call_meets F.slot_list_append ⟨_, e, rfl⟩ F.entry_list_append (F.args_list_append_2 _ _) (PySem.list_append l its.toArray n u (by rw [List.size_toArray]; omega)) ⟨e, ?_⟩
  refine ⟨.non, _, I.lset (its' := its ++ [u]) hH e (by simp) (r.append (.cons ru .nil)) ?_, rfl, q⟩
  rw [List.length_append, List.length_singleton]
  omega

def rReverse : V → List V → Hp → VK → Prop := fun x vs H Q => ∃ l xs, x = .ref l ∧ vs = [] ∧ H l = some (.lst xs) ∧ Q .non (upd H l (.lst xs.reverse))
theorem mt_reverse : MtM X "list.reverse" rReverse := by
  intro pins s σ H x vs v us Q I rx rv h
  obtain ⟨l, xs, rfl, rfl, hH, q⟩ := h
  cases rx
  have hus := rv.zero
  subst hus
  obtain ⟨z, its, n, r, hl, e⟩ := I.lstM hH
  refine call_meets F.slot_list_reverse ⟨_, e, rfl⟩ F.entry_list_reverse (F.args_list_reverse_1 _) (AutoSeq1.list_reverse_list_0 l its.toArray n (by rw [List.size_toArray]; omega)) ⟨e, ?_⟩
  refine ⟨.non, _, I.lset (its' := its.reverse) hH e (by simp) r.reverse ?_, rfl, q⟩
  rw [List.length_reverse]
  omega

/-! ### list + list, list += list, list * int -/
/-- a list times an int (a negative one is nothing) -/
def rRep : R2 := fun x y H Q => ∃ l k xs, x = .ref l ∧ y = .int k ∧ H l = some (.lst xs) ∧ -(2 ^ 63) ≤ k ∧ k < 2 ^ 63 ∧ xs.length * k.toNat ≤ sizeLine ∧
  ∀ p, H p = none → Q (.ref p) (upd H p (.lst (List.replicate k.toNat xs).flatten))
theorem len_rep {α : Type} (xs : List α) (k : Nat) : (List.replicate k xs).flatten.length = k * xs.length := by
  induction k with
  | zero => simp
  | succ k ih => rw [List.replicate_succ, List.flatten_cons, List.length_append, ih, Nat.succ_mul, Nat.add_comm]
theorem op_rep : OpR X (binaryOp .Mult) rRep := by
  intro pins s σ H x y v u Q I rx ry h
  obtain ⟨l, k, xs, rfl, rfl, hH, h1, h2, hz, q⟩ := h
  cases rx
  obtain ⟨t, rfl⟩ := ry
  obtain ⟨z, its, n, r, hl, e⟩ := I.lstM hH
  have hlen : its.toArray.size * k.toNat ≤ sizeLine := by rw [List.size_toArray, ← hl]; exact hz
  have hcap : ¬ its.toArray.size * k.toNat > (2 ^ 63 - 1) / 8 := by
    have : (sizeLine : Nat) ≤ (2 ^ 63 - 1) / 8 := by decide
    omega
  have hfit : ¬ (!Builtin.List.listFitsIndex k) = true := by
    rw [fitsIndex_both h1 h2]
    exact Bool.false_ne_true
  have hlong : ¬ Builtin.List.listTooLong (its.toArray.size * k.toNat) = true := by
    rw [notLongL hlen]
    exact Bool.false_ne_true
  have hnew : List.foldl (fun x1 x2 => x1 ++ x2) #[] (List.replicate (if its.toArray.isEmpty = true then 0 else k.toNat) its.toArray) = (List.replicate k.toNat its).flatten.toArray := by
    have f0 : ∀ m : Nat, List.foldl (fun x1 x2 => x1 ++ x2) #[] (List.replicate m its.toArray) = (List.replicate m its).flatten.toArray := fun m => by
      have := foldl_rep its m []
      rw [List.nil_append] at this
      exact this
    rw [f0]
    cases its with
    | nil => simp
    | cons a r' => rw [if_neg (by simp)]
  refine wpAny_binaryOp_repeat_ref (T := "list") (U := "int") (by decide) ⟨_, e, rfl⟩ (fun s' => typeIs_int s' k t) noFill_list_mul F.fills_int_mul F.slot_int_rmul repeat_list F.slot_int_index.lookup
    (call_meets F.slot_int_rmul (typeIs_int s k t) F.entry_int_rmul (F.args_int_rmul_2 _ _) (int___rmul___int_list k t l its.toArray n)
      ⟨e, rfl, ⟨_, e, rfl⟩, call_meets F.slot_list_mul ⟨_, e, rfl⟩ F.entry_list_mul (F.args_list_mul_2 _ _) (AutoListH.list___mul___list_int_3 l its.toArray n k t hfit hcap hlong) ⟨e, ?_⟩⟩)
  rw [hnew]
  exact ⟨.ref _, _, I.lnew (t' := s.toks) (r.rep k.toNat) (by rw [len_rep, Nat.mul_comm]; exact hz), rfl, q _ I.fresh⟩

/-! ### del xs[i] -/
end

/-! ### xs[a:b] = ys -/
section
variable {prog : Program} {w : World} {A : Around} {E : Value → Shared → Prop} {s : Shared}
end

section
variable {X : Cx}
end
end L2

namespace Att
open PySem PySem.W PySem.Calls PyProof.Rows

/-! ### the script -/
theorem ints_of_wellAll {P : Params} {h : Heap} : ∀ (ns : List Int) (vs : List Value), WellAll P h vs (ns.map WData.int) → IntsAre vs ns := by
  intro ns
  induction ns with
  | nil =>
    intro vs w
    rw [List.map_nil] at w
    cases w
    exact .nil
  | cons n ns ih =>
    intro vs w
    rw [List.map_cons] at w
    cases w with
    | cons a b =>
      cases a
      exact .cons _ _ (ih _ b)

theorem script_of {l : OpenLaw} {n : Nat} (hn : l.most = some n) {P : Params} {h : Heap} {args : List WData} {vals : List Value}
    (hpre : l.row.toRowW.claim.pre args = true) (hwl : WellAll P h vals args) :
    ∃ a vs ns, vals = [Value.ref a] ∧ args = [WData.list (ns.map WData.int)] ∧ h.get? a = some { cls := .type "list", data := .seq vs.toArray } ∧ IntsAre vs ns ∧ ns.length ≤ n := by
  have hsh : WShape.hasAll [] args [.list .int] = true := (pre_splitW hpre).1
  have hc : l.pre.holds [] { args := args } = true := (pre_splitW hpre).2
  obtain ⟨d, r, rfl, h1, h2⟩ := hasAllW_cons hsh
  obtain rfl := hasAllW_nil h2
  obtain ⟨xs, rfl, h3⟩ := hasW_list h1
  obtain ⟨ns, rfl⟩ := items_int h3
  have hlen : ns.length ≤ n := by
    unfold OpenLaw.pre at hc
    have h4 : (WTm.not (.lt (.lit (.int (n : Int))) (.len (.arg 0)))).holds [] { args := [.list (ns.map .int)] } = true := by
      have h4 := (holds_andW hc).1
      rw [hn] at h4
      exact h4
    have h5 := condW_of h4 (w_not (w_lt w_lit (w_len_list (w_arg rfl))))
    rw [List.length_map] at h5
    refine Nat.le_of_not_lt fun q => ?_
    have q' : (n : Int) < ((ns.length : Nat) : Int) := by omega
    first
      | (rw [decide_eq_true q'] at h5; exact absurd h5 (by decide))
      | (simp at h5; omega)
  cases hwl with
  | cons w1 w2 =>
    cases w2
    cases w1 with
    | list ho hall => exact ⟨_, _, ns, rfl, rfl, ho, ints_of_wellAll ns _ hall, hlen⟩

theorem post_true (l : OpenLaw) (args : List WData) : l.row.toRowW.claim.post args (.bool true) args = true :=
  postW_of (r := l.row.toRowW) (X := (true == true))
    (show WShape.has [] (.bool true) .bool = true by first | rfl | decide | simp [WShape.has, WShape.arms, WShape.armsAll])
    (show (WTm.eq .res (.lit (.bool true))).value [] { args := args, res := some (.bool true), after := args } = some (.bool (true == true)) from w_eq_bool (w_res rfl) w_lit) rfl

/-! ### the attachment: holds_open's last premise (the goal 'hc' behind k_head) from a wpAny of the law's body -/
/-- the same from a codeAny of the CALL (for a layer whose function contracts speak of calls) -/
theorem attach_call {l : OpenLaw} {n : Nat} {q : Program} {loose : List Str} {XP : (Str → Option Value) → Heap → Prop} {YP : World → Heap → Prop} {d : DefRec}
    (hn : l.most = some n) (hdf : d.params.defaults = [])
    (call : ∀ (w : World) (s₀ s₁ : Shared) (mg mb : Str → Option Value) (fa : Addr) (o : Obj) (pm cd doc : Value) (a : Addr) (vs : List Value) (ns : List Int),
      Ground q loose [] XP w s₀ mg mb s₁.heap → YP w s₁.heap →
      s₁.heap.get? fa = some o → o.data = .func (docDef d.name d.params d.body d.scope pm cd doc) → s₁.heap.CodeRec cd d.name → mg d.name = some (.ref fa) →
      s₁.heap.get? a = some { cls := .type "list", data := .seq vs.toArray } → IntsAre vs ns → ns.length ≤ n → s₁.gens = #[] →
      codeAny (model l.prog w) callerA (.call (.ref fa) ⟨[.ref a], []⟩) (fun r s' => r = .ok (.ret (.bool true)) ∧ OldK s₁.heap s'.heap ∧ s'.os = s₁.os ∧ AllBare s'.gens) s₁) :
    WalkO q loose XP YP l.row.toRowW d [] (fun f vs => PySem.call f vs) := by
  intro w s₀ s₁ mg mb G Y fa o pm cd doc dV kV ho hd hcd hD hmg hg args vals as hpre hlay hrd hwl hlo
  obtain rfl : dV = .none := Dflts.none hD hdf
  obtain rfl : kV = .none := Dflts.noKw hD
  obtain ⟨a, vs, ns, rfl, rfl, hobj, hints, hlen⟩ := script_of hn hpre hwl
  refine enter_call (codeAny_mono (call w s₀ s₁ mg mb fa o pm cd doc a vs ns G Y ho (fd_plain hd) hcd hmg hobj hints hlen hg) fun r s' hq => ?_)
  obtain ⟨rfl, h2, h3, h4⟩ := hq
  exact ⟨.inl ⟨.bool true, .bool true, [], rfl, fun _ => rfl, .bool true, post_true l _, fun _ => ⟨List.Pairwise.nil, fun _ hm => (nomatch hm)⟩⟩, h2, h3, h4⟩

/-! ### rules over ANY heap (no ledger) from facts about the written part K: the library's own take a ledger (News) for what they write -/
section
variable {prog : Program} {w : World} {A : Around} {E : Value → Shared → Prop} {s : Shared} {K : Frag}

/-! the whole heap as the ledger: makes every rule that writes through a ledger a rule over any heap -/
def ledger (h : Heap) (L d : Addr) : List (Addr × Obj) := (List.range h.objs.size).filterMap fun a => if a = L ∨ a = d then none else (h.get? a).map fun o => (a, o)
end
end Att

namespace L2
open PySem PySem.Spec PyProof.Rows

theorem vals_ints : ∀ {vs : List Value} {ns : List Int}, IntsAre vs ns → Vals (ns.map V.int) vs
  | _, _, .nil => .nil
  | _, _, .cons n t h => .cons ⟨t, rfl⟩ (vals_ints h)

/-- nothing is tracked but the script, known to the object (or it is an object of the module) -/
def Only (H : Hp) : Prop := ∀ b, H b = none ∨ ∃ o xs, H b = some (.frz o (.lst xs))

/-- THE HEAD: the law's promise, at the heap behind the top. F, the promise of the law's def, may use that base is part of the heap (so K.In base, base.Ns mainGlobals mg stand in Mod) -/
theorem law_call {P : Program} {w : World} {K : PySem.W.Frag} {mg mb : Str → Option Value} {CX : CXT} {k : Nat} {fa a : Addr} {fd : FuncData} {x : Str} {sp : Sp} {s₁ : Shared} {vs : List Value} {ns : List Int}
    (KX : K.In s₁.heap) (hns : s₁.heap.Ns mainGlobals mg) (hb : s₁.heap.Ns builtinsNs mb) (hbb : ∀ x : Str, x ≠ "__name__" → mb x = bootBuiltins x) (hlim : s₁.heap.NoLimit) (hg : s₁.gens = #[])
    (ha : s₁.heap.get? a = some { cls := .type "list", data := .seq vs.toArray }) (hi : IntsAre vs ns) (hl : ns.length ≤ sizeLine) (hr : Room k callerA)
    (F : ∀ base : Heap, K.In base → base.Ns mainGlobals mg → FnOk P w K mg base CX k fa fd [x] sp) (hbind : ∀ (s : Shared) (u : Value), BindsTo s fd ⟨[u], []⟩ [(x, u)])
    (hsp : ∀ H : Hp, Only H → SqL K H a (ns.map V.int) → sp [.ref a] H (fun v _ => v = .bl true) fun _ _ _ => False)
    (hCX : ∀ H e s', CX [] H s₁ (fun _ _ _ => False) e s' → False) :
    codeAny (model P w) callerA (.call (.ref fa) ⟨[.ref a], []⟩) (fun r s' => r = .ok (.ret (.bool true)) ∧ OldK s₁.heap s'.heap ∧ s'.os = s₁.os ∧ AllBare s'.gens) s₁ := by
  have rv := vals_ints hi
  have lenV := hi.length
  -- from an abstract heap in which nothing but the script may be tracked
  have core : ∀ H : Hp, Only H → SqL K H a (ns.map V.int) → HOk P w H s₁.heap → (∀ b, H b ≠ none → b = a) → (H a ≠ none → K.lookup a = none) →
      codeAny (model P w) callerA (.call (.ref fa) ⟨[.ref a], []⟩) (fun r s' => r = .ok (.ret (.bool true)) ∧ OldK s₁.heap s'.heap ∧ s'.os = s₁.os ∧ AllBare s'.gens) s₁ := by
    intro H hO hS hok hA hK
    have base_of : ∀ {b : Addr} {o : Obj}, s₁.heap.get? b = some o → H b = none → (hidT s₁.heap H).get? b = some o := fun e n => hidT_get e n
    have noA : ∀ {b : Addr} {o : Obj} {es : Array DictEntry} {ep : Nat}, s₁.heap.get? b = some o → o.data = .dict es ep → H b = none := fun {b o es ep} e d => by
      cases q : H b with
      | none => rfl
      | some u =>
        have e' : b = a := hA b (by rw [q]; simp)
        subst e'
        rw [ha] at e; cases e
        have d' : Data.seq vs.toArray _ = Data.dict es ep := d
        cases d'
    have nsK : ∀ {b : Addr} {m : Str → Option Value}, s₁.heap.Ns b m → (hidT s₁.heap H).Ns b m := fun {b m} ⟨o, es, ep, e, d, r⟩ => ⟨o, es, ep, base_of e (noA e d), d, r⟩
    have hKb : K.In (hidT s₁.heap H) := fun b o e => base_of (KX b o e) (by
      cases q : H b with
      | none => rfl
      | some u =>
        have e' : b = a := hA b (by rw [q]; simp)
        subst e'
        rw [hK (by rw [q]; simp)] at e; cases e)
    have hM : Mod K mg (hidT s₁.heap H) := ⟨hKb, nsK hns, ⟨mb, nsK hb, hbb⟩, let ⟨mc, h1, h2⟩ := hlim; ⟨mc, nsK h1, h2⟩⟩
    have e0 : Env0 P w K mg (hidT s₁.heap H) callerA [] s₁ H := ⟨rfl, hM, fun b o e => of_hidT e, Nat.le_of_eq (hidT_size _ _), trivial, fun b hb => absurd (show b ∈ ([] : List Addr) from hb) (by simp), hok, .of_eq hg⟩
    refine codeAny_mono ((F _ hKb (nsK hns)).run callerA [] s₁ H ⟨[.ref a], []⟩ [.ref a] [.ref a] _ _ hr e0 (hbind s₁ (.ref a)) (.cons rfl .nil) (hsp H hO hS)) fun r s' h => ?_
    cases r with
    | error e => exact (hCX H e s' h).elim
    | ok fl =>
      cases fl with
      | next => exact False.elim h
      | brk => exact False.elim h
      | cont => exact False.elim h
      | ret u =>
        obtain ⟨v, H', os, bare, un, hok', r', q⟩ := h
        have q' : v = .bl true := q
        subst q'
        obtain rfl : u = Value.bool true := r'
        refine ⟨rfl, OldK.of_keep fun b o e => ?_, os, bare⟩
        cases q : H b with
        | none => exact un.keep b o e q (by intro z; exact absurd (show b ∈ ([] : List Addr) from z) (by simp)) (by simp)
        | some u =>
          rcases hO b with z | ⟨ob, xs, z⟩
          · rw [q] at z; cases z
          · have z2 := un.frzs b ob _ z
            obtain ⟨e1, _⟩ := hok b _ z
            obtain ⟨e2, _⟩ := hok' b _ z2
            rw [e] at e1; cases e1
            exact e2
  cases hk : K.lookup a with
  | some o =>
    -- the script is one of the module's own objects
    have e := KX a o hk
    rw [ha] at e
    cases e
    refine core (fun _ => none) (fun _ => .inl rfl) (.inr ⟨_, vs.toArray, _, hk, rfl, rfl, rfl, by rw [List.size_toArray, lenV]; exact hl, by simpa using rv⟩) (fun b u z => by have z' : (none : Option HO) = some u := z; cases z') (fun b z => absurd rfl z) fun z => absurd rfl z
  | none =>
    refine core (fun b => if b = a then some (.frz { cls := .type "list", data := .seq vs.toArray } (.lst (ns.map V.int))) else none) (fun b => ?_) (.inl (.inr ⟨{ cls := .type "list", data := .seq vs.toArray }, if_pos rfl⟩)) (fun b u z => ?_) (fun b z => ?_) fun _ => hk
    · by_cases hb : b = a
      · exact .inr ⟨_, _, if_pos hb⟩
      · exact .inl (if_neg hb)
    · by_cases hb : b = a
      · have z' := (if_pos hb).symm.trans z
        cases z'
        subst hb
        exact ⟨ha, by rw [List.length_map]; exact hl, vs, _, rv, ha⟩
      · have z' := (if_neg hb).symm.trans z
        cases z'
    · by_cases hb : b = a
      · exact hb
      · exact absurd (if_neg hb) z
end L2

namespace L2
open PySem PySem.Spec PyProof.Rows

/-- the goal that k_head leaves (case hc), from the law's promise. F gives the function object fd (K's own) once, then the promise over every base -/
theorem walk_of {l : PySem.W.OpenLaw} {n k : Nat} {q : Program} {loose : List Str} {XP : (Str → Option Value) → Heap → Prop} {YP : World → Heap → Prop} {d : DefRec} {K : Params → PySem.W.Frag} {CX : World → CXT} {sp : World → Sp} {x : Str}
    (hn : l.most = some n) (hn2 : n ≤ sizeLine) (hdf : d.params.defaults = []) (hr : Room k callerA)
    (hY : ∀ (w : World) (h : Heap), YP w h → (K w.params).In h)
    (F : ∀ (w : World) (mg : Str → Option Value) (fa : Addr) (h : Heap), (K w.params).In h → h.Ns mainGlobals mg → mg d.name = some (.ref fa) →
      ∃ fd : FuncData, (∀ (s : Shared) (u : Value), BindsTo s fd ⟨[u], []⟩ [(x, u)]) ∧
        ∀ base : Heap, (K w.params).In base → base.Ns mainGlobals mg → FnOk l.prog w (K w.params) mg base (CX w) k fa fd [x] (sp w))
    (hsp : ∀ (w : World) (H : Hp) (a : Addr) (ns : List Int), ns.length ≤ n → Only H → SqL (K w.params) H a (ns.map V.int) → sp w [.ref a] H (fun v _ => v = .bl true) fun _ _ _ => False)
    (hCX : ∀ (w : World) (H : Hp) (s : Shared) (e : Value) (s' : Shared), CX w [] H s (fun _ _ _ => False) e s' → False) :
    PySem.W.WalkO q loose XP YP l.row.toRowW d [] (fun f vs => PySem.call f vs) := by
  refine Att.attach_call hn hdf fun w s₀ s₁ mg mb fa o pm cd doc a vs ns G Y ho hd hcd hmg hobj hints hlen hg => ?_
  have KX := hY w _ Y
  obtain ⟨fd, hb, hF⟩ := F w mg fa _ KX G.T.g hmg
  exact law_call KX G.T.g G.T.b G.T.builtins G.T.nolimit hg hobj hints (Nat.le_trans hlen hn2) hr hF hb (fun H hO hS => hsp w H a ns hlen hO hS) fun H e s' => hCX w H s₁ e s'
end L2


/-! SHORT WORDS over the layer: a def of the text, its body, what a loop and a test want. -/
namespace L2
open PySem PySem.Spec PyProof.Rows

/-! ### the text by places -/
/-- the j-th statement of a class's body -/
def inClass (s : Stmt) (j : Nat) : Stmt := match s with
  | .ClassDef _ _ _ body _ _ _ _ _ _ _ => body.getD j (.Pass ⟨0, 0, 0, 0⟩)
  | _ => .Pass ⟨0, 0, 0, 0⟩
def defArgs (s : Stmt) : Arguments := match s with
  | .FunctionDef _ a _ _ _ _ _ _ _ _ => a
  | _ => { posonlyargs := [], args := [], vararg := none, kwonlyargs := [], kw_defaults := [], kwarg := none, defaults := [] }
def defBody (s : Stmt) : List Stmt := match s with
  | .FunctionDef _ _ b _ _ _ _ _ _ _ => b
  | _ => []
def defScope (s : Stmt) : Scope := match s with
  | .FunctionDef _ _ _ _ _ _ sc _ _ _ => sc
  | _ => { kind := .function, names := [], isGenerator := false, isCoroutine := false }

/-! ### no exception leaves a def -/
abbrev CX0 : CXT := fun _ _ _ _ _ _ => False
abbrev E0 : XK := fun _ _ _ => False
theorem pass0 {X : Cx} : Passes CX0 X E0 := fun _ _ _ _ _ _ _ h => h.elim

/-! ### a def (or method) of the text as it stands behind the top -/
structure Fun (K : PySem.W.Frag) (x qual : Str) (st : Stmt) (f : Addr) (fd : FuncData) : Prop where
  ex : ∃ (oc : Value) (od : Option Addr) (kV doc pm : Value) (an : Option Addr) (cdv ct : Value) (osl : Array (Option Value)),
    fd = PySem.W.fnOf x qual (defArgs st) (defBody st) (defScope st) .none kV doc pm an cdv ct ∧ K.lookup f = some ⟨oc, od, .func fd, osl⟩ ∧ PySem.W.codeIn K cdv qual = true
  kp : PySem.W.keepIn K (.ref f) = true
section
variable {P : Program} {w : World} {K : PySem.W.Frag} {mg : Str → Option Value} {base : Heap}
/-- THE RULE for a def: its body as a term of rules, and the reading of that term -/
theorem Fun.ok {x qual : Str} {st : Stmt} {f : Addr} {fd : FuncData} {N ps : List Str} {k : Nat} {sp : Sp} (F : Fun K x qual st f fd) (S : FnScope N ps (defScope st)) (len : ∀ vs H Q E, sp vs H Q E → vs.length = ps.length)
    (hbody : ∀ (cdv : Value) (A : Around) (outer : List Env) (s : Shared) (H : Hp) (vs : List V) (Q : VK) (E : XK), Room k (A.deeper (envOfC qual (defScope st) s.heap.objs.size f cdv)) → sp vs H Q E →
      ∃ t, PSs (cxOf CX0 P w K mg base N qual (defScope st) f cdv A outer s H E).nox (defBody st) t ∧ t { nx := fun _ H' => Q .non H', rt := Q } (start N vs) H) : FnOk P w K mg base CX0 (k + 1) f fd ps sp := by
  obtain ⟨oc, od, kV, doc, pm, an, cdv, ct, osl, rfl, lk, hcd⟩ := F.ex
  refine fn_of lk hcd S len fun A outer s H vs Q E hr hsp => ?_
  obtain ⟨t, h, q⟩ := hbody cdv A outer s H vs Q E hr hsp
  exact ⟨t, h.nox, q⟩
/-- how its arguments bind (no defaults): h is «fun _ _ _ _ _ _ us hl => match us, hl with | [_, _], _ => rfl», one _ a parameter -/
theorem Fun.binds {x qual : Str} {st : Stmt} {f : Addr} {fd : FuncData} {ps : List Str} (F : Fun K x qual st f fd)
    (h : ∀ (kV doc pm : Value) (an : Option Addr) (cdv ct : Value) (us : List Value), us.length = ps.length → bindArgs (PySem.W.fnOf x qual (defArgs st) (defBody st) (defScope st) .none kV doc pm an cdv ct) ⟨us, []⟩ = pure (ps.zip us)) : Binds K fd ps [] := by
  obtain ⟨oc, od, kV, doc, pm, an, cdv, ct, osl, rfl, lk, hcd⟩ := F.ex
  exact .all (h kV doc pm an cdv ct)
theorem fun_mk {x qual : Str} {st : Stmt} {f : Addr} {oc : Value} {od an : Option Addr} {osl : Array (Option Value)} {kV doc pm cdv ct : Value} (l : K.lookup f = some ⟨oc, od, .func (PySem.W.fnOf x qual (defArgs st) (defBody st) (defScope st) .none kV doc pm an cdv ct), osl⟩)
    (c : PySem.W.codeIn K cdv qual = true) (k : PySem.W.keepIn K (.ref f) = true) : Fun K x qual st f (PySem.W.fnOf x qual (defArgs st) (defBody st) (defScope st) .none kV doc pm an cdv ct) := ⟨⟨oc, od, kV, doc, pm, an, cdv, ct, osl, rfl, l, c⟩, k⟩
end
theorem small1000 {n : Nat} (h : n ≤ 1000) : n < sizeLine := Nat.lt_of_le_of_lt h (by decide)

/-! ### expressions in short: the name that stands in the i-th slot -/
section
variable {X : Cx}
theorem pv (i : Nat) {x : Str} {pos : Pos} (hN : X.N[i]? = some x := by rfl) (hv : Vis X.env.scope x := by first | exact Or.inl rfl | exact Or.inr (Or.inl rfl) | exact Or.inr (Or.inr rfl)) (hd : (x == ("__debug__" : Str)) = false := by decide)
    (hcd : (x == ("__classdict__" : Str)) = false := by decide) : PE X (.Name x pos) (tVar i) := pe_var hN hv hd hcd
end

/-! ### tests -/
theorem iteF {A B : Prop} (h : B) : if false = true then A else B := by
  rw [if_neg Bool.false_ne_true]
  exact h
theorem iteT {A B : Prop} (h : A) : if true = true then A else B := by
  rw [if_pos rfl]
  exact h
/-! ### heaps -/
/-- all that was tracked is as it was -/
def Same (H H' : Hp) : Prop := ∀ b o, H b = some o → H' b = some o
theorem Same.refl (H : Hp) : Same H H := fun _ _ h => h
theorem Same.trans {H H1 H2 : Hp} (a : Same H H1) (b : Same H1 H2) : Same H H2 := fun c o h => b c o (a c o h)
theorem Same.free {H H' : Hp} (e : Same H H') {l : Addr} (h : H' l = Option.none) : H l = Option.none := by
  cases q : H l with
  | none => rfl
  | some o =>
    rw [e l o q] at h
    cases h
theorem Same.seq {K : PySem.W.Frag} {H H' : Hp} {a : Addr} {xs : List V} (e : Same H H') (h : SqL K H a xs) : SqL K H' a xs := by
  rcases h with (h | ⟨o, h⟩) | h
  · exact .inl (.inl (e _ _ h))
  · exact .inl (.inr ⟨o, e _ _ h⟩)
  · exact .inr h

end L2
/-! RULES OF OUR OWN over the layer: isinstance, == of data, // and << of great numbers, and a word for each reading (i_..), so that a reading goes step by step. -/
namespace L2
open PySem PySem.Spec PyProof.Rows

/-! ### isinstance -/
section
variable {X : Cx}
theorem call_isinst : CallR X (.builtin "isinstance") (fun xs H Q => ∃ x cv t c k, xs = [x, cv] ∧ RelV cv c ∧ (∀ u, RelV cv u → u = c) ∧ TyOf X.K H x t ∧ PySem.W.kitOne X.K t c = some k ∧ Q (.bl k) H) := by
  intro pins s σ H xs us Q I r h
  obtain ⟨x, cv, t, c, k, rfl, _, hc, ty, e, q⟩ := h
  obtain ⟨u, u', rfl, rx, rc⟩ := vals2 r
  obtain rfl := hc u' rc
  exact isinst_ok I rx ty e fun tk => ⟨.bl k, H, I.tok tk, rfl, q⟩

theorem pe_bty {x : Str} {T : String} {pos : Pos} (hg : Gl X x) (hm : X.mg x = none) (hv : bootBuiltins x = some (.type T)) (hn : x ≠ "__name__" := by decide) (hd : (x == ("__debug__" : Str)) = false := by decide) : PE X (.Name x pos) (tC (.ty T)) := pe_bltn hg hm hv rfl hn hd
theorem pe_gint {x : Str} {i : Int} {t : Tok} {pos : Pos} (hg : Gl X x) (hm : X.mg x = some (.int i t)) (hd : (x == ("__debug__" : Str)) = false := by decide) : PE X (.Name x pos) (tC (.int i)) := pe_glob hg hm ⟨t, rfl⟩ hd
theorem pe_gref {x : Str} {C : Addr} {pos : Pos} (hg : Gl X x) (hm : X.mg x = some (.ref C)) (hd : (x == ("__debug__" : Str)) = false := by decide) : PE X (.Name x pos) (tC (.ref C)) := pe_glob hg hm rfl hd

/-! ### == of data: ints, truths, texts, None, lists and tuples of such -/
mutual
inductive RdV (K : PySem.W.Frag) (H : Hp) : V → PyData → Prop
  | non : RdV K H .non .none
  | bl (b) : RdV K H (.bl b) (.bool b)
  | int (i) : RdV K H (.int i) (.int i)
  | str (x) : RdV K H (.str x) (.str x)
  | lst {a xs ds} : SqL K H a xs → RdVs K H xs ds → RdV K H (.ref a) (.list ds)
  | tup {a xs ds} : SqT K H a xs → RdVs K H xs ds → RdV K H (.ref a) (.tuple ds)
inductive RdVs (K : PySem.W.Frag) (H : Hp) : List V → List PyData → Prop
  | nil : RdVs K H [] []
  | cons {x xs d ds} : RdV K H x d → RdVs K H xs ds → RdVs K H (x :: xs) (d :: ds)
end
mutual
theorem RdV.reads {pins : List (Addr × Obj)} {σ : St} {H : Hp} {s : Shared} (I : Inv X pins σ H s) : ∀ {x : V} {d : PyData} {u : Value}, RdV X.K H x d → RelV x u → ∃ as, Reads s.heap u d as
  | _, _, _, .non, r => by cases r; exact ⟨_, .none⟩
  | _, _, _, .bl _, r => by cases r; exact ⟨_, .bool _⟩
  | _, _, _, .int _, r => by obtain ⟨t, rfl⟩ := r; exact ⟨_, .int _ _⟩
  | _, _, _, .str _, r => by obtain ⟨t, rfl⟩ := r; exact ⟨_, .str _ _⟩
  | _, _, _, .lst hq hs, r => by
    cases r
    obtain ⟨its, rv, ⟨o, n, h1, h2, h3, h4⟩, hz⟩ := I.list hq
    obtain ⟨as, ra⟩ := RdVs.reads I hs rv
    exact ⟨_, .list h1 h2 h4 (by simpa using ra)⟩
  | _, _, _, .tup hq hs, r => by
    cases r
    obtain ⟨its, rv, ⟨o, h1, h2, n, h4⟩, hz⟩ := I.tuple hq
    obtain ⟨as, ra⟩ := RdVs.reads I hs rv
    exact ⟨_, .tuple h1 h2 h4 (by simpa using ra)⟩
theorem RdVs.reads {pins : List (Addr × Obj)} {σ : St} {H : Hp} {s : Shared} (I : Inv X pins σ H s) : ∀ {xs : List V} {ds : List PyData} {us : List Value}, RdVs X.K H xs ds → Vals xs us → ∃ as, ReadsAll s.heap us ds as
  | _, _, _, .nil, .nil => ⟨_, .nil⟩
  | _, _, _, .cons h hs, .cons r rs => by
    obtain ⟨as, ra⟩ := RdV.reads I h r
    obtain ⟨bs, rb⟩ := RdVs.reads I hs rs
    exact ⟨_, .cons ra rb⟩
end
def rEqD (K : PySem.W.Frag) (g : Bool → Bool) : R2 := fun x y H Q => ∃ d e, RdV K H x d ∧ RdV K H y e ∧ SeqAt.shaped d = true ∧ SeqAt.shaped e = true ∧ Q (.bl (g (PyData.eqv d e))) H
theorem op_neD (hu : X.A.units + 64 < cLine) : OpR X (compareOp .NotEq) (rEqD X.K fun b => !b) := by
  intro pins s σ H x y v u Q I rx ry h
  obtain ⟨d, e, h1, h2, s1, s2, q⟩ := h
  obtain ⟨as, ra⟩ := h1.reads I rx
  obtain ⟨bs, rb⟩ := h2.reads I ry
  exact ne_dataH ra rb s1 s2 hu ⟨.bl _, H, I, rfl, q⟩
theorem rdVs_ints {K : PySem.W.Frag} {H : Hp} : ∀ ns : List Int, RdVs K H (ns.map V.int) (ns.map PyData.int)
  | [] => .nil
  | n :: r => .cons (.int n) (rdVs_ints r)
theorem canLay_ints : ∀ ns : List Int, PyData.canLayAll0 (ns.map PyData.int) = true
  | [] => rfl
  | _ :: r => by simp [PyData.canLayAll0, PyData.canLay0, canLay_ints r]
theorem depth_ints : ∀ ns : List Int, PyData.depthAll (ns.map PyData.int) = 0
  | [] => rfl
  | _ :: r => by simp [PyData.depthAll, PyData.depth, depth_ints r]
theorem shaped_tup (ns : List Int) : SeqAt.shaped (.tuple (ns.map PyData.int)) = true := by
  simp [SeqAt.shaped, PyData.canLay0, PyData.depth, canLay_ints, depth_ints]
theorem eqvAll_ints : ∀ ns ms : List Int, PyData.eqvAll (ns.map PyData.int) (ms.map PyData.int) = decide (ns = ms)
  | [], [] => by simp [PyData.eqvAll]
  | [], _ :: _ => by simp [PyData.eqvAll]
  | _ :: _, [] => by simp [PyData.eqvAll]
  | a :: r, b :: t => by
    simp only [List.map_cons, PyData.eqvAll, PyData.eqv, eqvAll_ints r t]
    by_cases h : a = b <;> by_cases h' : r = t <;> simp [h, h']
theorem i_eqT {K : PySem.W.Frag} {g : Bool → Bool} {H : Hp} {Q : VK} {a b : Addr} (ns ms : List Int) (ha : SqT K H a (ns.map V.int)) (hb : SqT K H b (ms.map V.int)) (h : Q (.bl (g (decide (ns = ms)))) H) : rEqD K g (.ref a) (.ref b) H Q :=
  ⟨_, _, .tup ha (rdVs_ints ns), .tup hb (rdVs_ints ms), shaped_tup ns, shaped_tup ms, by rw [PyData.eqv, eqvAll_ints]; exact h⟩

/-! ### // by a great positive number, << of a great number -/
def CDivB (_ j : Int) : Prop := 0 < j ∧ j < 2 ^ 200
theorem op_fdivB : OpR X (binaryOp .FloorDiv) (rI CDivB fun i j => .int (i / j)) := opI fun i j _ _ _ _ _ hc q => by
  obtain ⟨h1, h2⟩ := hc
  refine floordiv_int (by omega) ?_ (.inl (PyProof.noPylong_of_log2 ?_))
  · rw [Int.fdiv_eq_ediv_of_nonneg _ (by omega)]; exact q
  · have e : j.natAbs < 2 ^ 200 := by omega
    have e' : j.natAbs ≠ 0 := by omega
    have := (Nat.log2_lt e').mpr e
    omega
/-- a power of two written numbers -/
def rPowC (k : Int) : R2 := fun x y H Q => ∃ i j, x = .int i ∧ y = .int j ∧ CPow i j ∧ i ^ j.toNat = k ∧ Q (.int k) H
theorem op_powC (k : Int) : OpR X (binaryOp .Pow) (rPowC k) := by
  intro pins s σ H x y v u Q I rx ry h
  obtain ⟨i, j, rfl, rfl, hc, e, q⟩ := h
  exact op_pow pins s σ H (.int i) (.int j) v u Q I rx ry ⟨i, j, rfl, rfl, hc, by show Q (.int (i ^ j.toNat)) H; rw [e]; exact q⟩
/-- a statement by a word that holds behind it -/
def tMid (t : TS) : TS := fun D σ H => ∃ M : St → Hp → Prop, t { D with nx := M } σ H ∧ ∀ σ' H', M σ' H' → D.nx σ' H'
theorem ps_mid {st : Stmt} {t : TS} (h : PS X st t) : PS X st (tMid t) := by
  intro pins s σ H D I ⟨M, h1, h2⟩
  refine thn (h pins s σ H { D with nx := M } I h1) fun f s1 q => ?_
  cases f with
  | next =>
    obtain ⟨σ', H', I', q⟩ := q
    exact ⟨σ', H', I', h2 σ' H' q⟩
  | ret v => exact q
  | brk => exact q
  | cont => exact q
end

/-- a wish about what stands behind, kept from being reckoned on the way -/
def After (nx : St → Hp → Prop) (σ : St) (H : Hp) : Prop := nx σ H

/-! ### a word for each reading -/
section
variable {K : PySem.W.Frag} {σ : St} {H : Hp} {Q : VK} {QB : Bool → Hp → Prop} {QL : List V → Hp → Prop} {v x y : V} {i j : Int} {b : Bool} {ta tb tc te : TE} {t u : TS} {tA tB' : TT} {tr : TA} {D : Ends}
  {nx bk ct : St → Hp → Prop} {rt : VK} {A B : Prop}
theorem i_start {N : List Str} {vs : List V} {σ' : St} (e : start N vs = σ') (h : t D σ' H) : t D (start N vs) H := by rw [e]; exact h
theorem i_var {k : Nat} (e : σ[k]? = some (some v)) (h : Q v H) : tVar k σ H Q := ⟨v, e, h⟩
theorem i_c (h : Q v H) : tC v σ H Q := h
theorem i_op {r : R2} (h : ta σ H fun x H1 => tb σ H1 fun y H2 => r x y H2 Q) : tOp r ta tb σ H Q := h
theorem i_un {r : V → Hp → VK → Prop} (h : ta σ H fun x H1 => r x H1 Q) : tUn r ta σ H Q := h
theorem i_I0 {g : Int → Int → V} (h : Q (g i j) H) : rI0 g (.int i) (.int j) H Q := ⟨i, j, rfl, rfl, h⟩
theorem i_I {C : Int → Int → Prop} {g : Int → Int → V} (hc : C i j) (h : Q (g i j) H) : rI C g (.int i) (.int j) H Q := ⟨i, j, rfl, rfl, hc, h⟩
theorem i_U {g : Int → V} (h : Q (g i) H) : rU g (.int i) H Q := ⟨i, rfl, h⟩
theorem i_eqI (h : Q (.bl (decide (i = j))) H) : rEq (.int i) (.int j) H Q := ⟨rfl, by
  have e : decide (V.int i = V.int j) = decide (i = j) := by simp
  rw [e]; exact h⟩
theorem i_neI (h : Q (.bl (!decide (i = j))) H) : rNe (.int i) (.int j) H Q := ⟨rfl, by
  have e : decide (V.int i = V.int j) = decide (i = j) := by simp
  rw [e]; exact h⟩
theorem i_test (h : ta σ H fun x H' => ∃ k, x = .bl k ∧ QB k H') : tTest ta σ H QB := h
theorem i_tB (h : ta σ H fun x H' => ∃ k, x = .bl k ∧ QB k H') : tB ta σ H QB := h
theorem i_bl {P : Bool → Prop} (h : P b) : ∃ k, V.bl b = V.bl k ∧ P k := ⟨b, rfl, h⟩
theorem i_chain {r r' : R2} (h : ta σ H fun x H1 => tb σ H1 fun y H2 => r x y H2 fun z H3 => ∃ k, z = .bl k ∧ (if k = true then tc σ H3 fun w' H4 => r' y w' H4 Q else Q (.bl false) H3)) : tChain r r' ta tb tc σ H Q := h
theorem i_andV (h : ta σ H fun x H1 => ∃ c, x = .bl c ∧ if c = true then tb σ H1 Q else Q (.bl false) H1) : tAndV ta tb σ H Q := h
theorem i_orV (h : ta σ H fun x H1 => ∃ c, x = .bl c ∧ if c = true then Q (.bl true) H1 else tb σ H1 Q) : tOrV ta tb σ H Q := h
theorem i_notV (h : ta σ H fun x H1 => ∃ c, x = .bl c ∧ Q (.bl (!c)) H1) : tNotV ta σ H Q := h
theorem i_and {t1 t2 : TT} (h : t1 σ H fun c H1 => if c = true then t2 σ H1 QB else QB false H1) : tAnd t1 t2 σ H QB := h
theorem i_or {t1 t2 : TT} (h : t1 σ H fun c H1 => if c = true then QB true H1 else t2 σ H1 QB) : tOr t1 t2 σ H QB := h
theorem i_not {t1 : TT} (h : t1 σ H fun c H1 => QB (!c) H1) : tNot t1 σ H QB := h
theorem i_ifE (h : tA σ H fun c H1 => if c = true then ta σ H1 Q else tb σ H1 Q) : tIf tA ta tb σ H Q := h
theorem i_seq (h : t ⟨u D, D.rt, D.bk, D.ct⟩ σ H) : tSeq t u D σ H := h
theorem i_next (h : nx σ H) : tNext ⟨nx, rt, bk, ct⟩ σ H := h
theorem i_ret (h : te σ H rt) : tRet te ⟨nx, rt, bk, ct⟩ σ H := h
theorem i_retN (h : rt .non H) : tRetN ⟨nx, rt, bk, ct⟩ σ H := h
theorem i_drop (h : te σ H fun _ H1 => nx σ H1) : tDrop te ⟨nx, rt, bk, ct⟩ σ H := h
theorem i_if (h : tA σ H fun c H1 => if c = true then t D σ H1 else u D σ H1) : tIfS tA t u D σ H := h
theorem i_mid {t : TS} (M : St → Hp → Prop) (h1 : t ⟨M, rt, bk, ct⟩ σ H) (h2 : ∀ σ' H', M σ' H' → nx σ' H') : tMid t ⟨nx, rt, bk, ct⟩ σ H := ⟨M, h1, h2⟩
theorem i_asg {g : TG} (h : te σ H fun x H1 => g x σ H1 nx) : tAsg te g ⟨nx, rt, bk, ct⟩ σ H := h
theorem i_call {sp : Sp} {dvs : List V} {E : XK} (h : tr σ H fun vs H1 => sp (vs ++ dvs) H1 Q E) : tCall sp dvs E tr σ H Q := h
theorem i_cons (h : ta σ H fun x H1 => tr σ H1 fun xs H2 => QL (x :: xs) H2) : tCons ta tr σ H QL := h
theorem i_nil (h : QL [] H) : tNil σ H QL := h
theorem i_cb {r : List V → Hp → VK → Prop} (h : tr σ H fun vs H1 => r vs H1 Q) : tCB r tr σ H Q := h
theorem i_tup (h : tr σ H fun xs H1 => xs.length ≤ sizeLine ∧ ∀ p, H1 p = none → Q (.ref p) (upd H1 p (.tup xs))) : tTup tr σ H Q := h
theorem i_lst (h : tr σ H fun xs H1 => xs.length ≤ sizeLine ∧ ∀ p, H1 p = none → Q (.ref p) (upd H1 p (.lst xs))) : tLst tr σ H Q := h
theorem i_meth {C : Addr} {m : Str} {sp : Sp} {dvs : List V} {E : XK} (h : ta σ H fun x H1 => ∃ a dx fs, x = .ref a ∧ H1 a = some (.ins C dx fs) ∧ fs.lookup m = none ∧ tr σ H1 fun vs H2 => sp (x :: (vs ++ dvs)) H2 Q E) : tMeth C m sp dvs E ta tr σ H Q := h
theorem i_fld {f : Str} (h : ta σ H fun x H1 => ∃ a C dx fs v, x = .ref a ∧ H1 a = some (.ins C dx fs) ∧ Cls K C ∧ NoAttr K C f ∧ fs.lookup f = some v ∧ Q v H1) : tFld K ta f σ H Q := h
theorem i_sfld {f : Str} (h : tb σ H fun y H1 => ta σ H1 fun x H2 => ∃ a C dx fs, x = .ref a ∧ H2 a = some (.ins C dx fs) ∧ Cls K C ∧ NoAttr K C f ∧ fs.length < 1000 ∧ After nx σ (upd H2 a (.ins C dx (putF f y fs)))) : sFld K ta tb f ⟨nx, rt, bk, ct⟩ σ H := h
theorem i_sl {r : V → Option Int → Option Int → Hp → VK → Prop} {tl th : TO} (h : te σ H fun x H1 => tl σ H1 fun l H2 => th σ H2 fun u H3 => r x l u H3 Q) : tSl r te tl th σ H Q := h
theorem i_noPart {QO : Option Int → Hp → Prop} (h : QO none H) : tNoPart σ H QO := h
theorem i_part {QO : Option Int → Hp → Prop} (h : ta σ H fun x H1 => ∃ i, x = .int i ∧ QO (some i) H1) : tPart ta σ H QO := h
theorem i_int {P : Int → Prop} (h : P i) : ∃ k, V.int i = V.int k ∧ P k := ⟨i, rfl, h⟩
theorem i_nonA (h : A) : V.non = V.non ∧ A := ⟨rfl, h⟩
theorem g0 {a0 : Option V} {r : St} {N : St → Hp → Prop} (h : N (some v :: r) H) : gName 0 v (a0 :: r) H N := h
theorem g1 {a0 a1 : Option V} {r : St} {N : St → Hp → Prop} (h : N (a0 :: some v :: r) H) : gName 1 v (a0 :: a1 :: r) H N := h
theorem g2 {a0 a1 a2 : Option V} {r : St} {N : St → Hp → Prop} (h : N (a0 :: a1 :: some v :: r) H) : gName 2 v (a0 :: a1 :: a2 :: r) H N := h
theorem g3 {a0 a1 a2 a3 : Option V} {r : St} {N : St → Hp → Prop} (h : N (a0 :: a1 :: a2 :: some v :: r) H) : gName 3 v (a0 :: a1 :: a2 :: a3 :: r) H N := h
theorem g4 {a0 a1 a2 a3 a4 : Option V} {r : St} {N : St → Hp → Prop} (h : N (a0 :: a1 :: a2 :: a3 :: some v :: r) H) : gName 4 v (a0 :: a1 :: a2 :: a3 :: a4 :: r) H N := h
theorem g5 {a0 a1 a2 a3 a4 a5 : Option V} {r : St} {N : St → Hp → Prop} (h : N (a0 :: a1 :: a2 :: a3 :: a4 :: some v :: r) H) : gName 5 v (a0 :: a1 :: a2 :: a3 :: a4 :: a5 :: r) H N := h
theorem g6 {a0 a1 a2 a3 a4 a5 a6 : Option V} {r : St} {N : St → Hp → Prop} (h : N (a0 :: a1 :: a2 :: a3 :: a4 :: a5 :: some v :: r) H) : gName 6 v (a0 :: a1 :: a2 :: a3 :: a4 :: a5 :: a6 :: r) H N := h
theorem g7 {a0 a1 a2 a3 a4 a5 a6 a7 : Option V} {r : St} {N : St → Hp → Prop} (h : N (a0 :: a1 :: a2 :: a3 :: a4 :: a5 :: a6 :: some v :: r) H) : gName 7 v (a0 :: a1 :: a2 :: a3 :: a4 :: a5 :: a6 :: a7 :: r) H N := h
theorem g8 {a0 a1 a2 a3 a4 a5 a6 a7 a8 : Option V} {r : St} {N : St → Hp → Prop} (h : N (a0 :: a1 :: a2 :: a3 :: a4 :: a5 :: a6 :: a7 :: some v :: r) H) : gName 8 v (a0 :: a1 :: a2 :: a3 :: a4 :: a5 :: a6 :: a7 :: a8 :: r) H N := h
theorem g9 {a0 a1 a2 a3 a4 a5 a6 a7 a8 a9 : Option V} {r : St} {N : St → Hp → Prop} (h : N (a0 :: a1 :: a2 :: a3 :: a4 :: a5 :: a6 :: a7 :: a8 :: some v :: r) H) : gName 9 v (a0 :: a1 :: a2 :: a3 :: a4 :: a5 :: a6 :: a7 :: a8 :: a9 :: r) H N := h
theorem g10 {a0 a1 a2 a3 a4 a5 a6 a7 a8 a9 a10 : Option V} {r : St} {N : St → Hp → Prop} (h : N (a0 :: a1 :: a2 :: a3 :: a4 :: a5 :: a6 :: a7 :: a8 :: a9 :: some v :: r) H) : gName 10 v (a0 :: a1 :: a2 :: a3 :: a4 :: a5 :: a6 :: a7 :: a8 :: a9 :: a10 :: r) H N := h
theorem g11 {a0 a1 a2 a3 a4 a5 a6 a7 a8 a9 a10 a11 : Option V} {r : St} {N : St → Hp → Prop} (h : N (a0 :: a1 :: a2 :: a3 :: a4 :: a5 :: a6 :: a7 :: a8 :: a9 :: a10 :: some v :: r) H) : gName 11 v (a0 :: a1 :: a2 :: a3 :: a4 :: a5 :: a6 :: a7 :: a8 :: a9 :: a10 :: a11 :: r) H N := h
theorem g12 {a0 a1 a2 a3 a4 a5 a6 a7 a8 a9 a10 a11 a12 : Option V} {r : St} {N : St → Hp → Prop} (h : N (a0 :: a1 :: a2 :: a3 :: a4 :: a5 :: a6 :: a7 :: a8 :: a9 :: a10 :: a11 :: some v :: r) H) : gName 12 v (a0 :: a1 :: a2 :: a3 :: a4 :: a5 :: a6 :: a7 :: a8 :: a9 :: a10 :: a11 :: a12 :: r) H N := h
theorem g13 {a0 a1 a2 a3 a4 a5 a6 a7 a8 a9 a10 a11 a12 a13 : Option V} {r : St} {N : St → Hp → Prop} (h : N (a0 :: a1 :: a2 :: a3 :: a4 :: a5 :: a6 :: a7 :: a8 :: a9 :: a10 :: a11 :: a12 :: some v :: r) H) : gName 13 v (a0 :: a1 :: a2 :: a3 :: a4 :: a5 :: a6 :: a7 :: a8 :: a9 :: a10 :: a11 :: a12 :: a13 :: r) H N := h
theorem g14 {a0 a1 a2 a3 a4 a5 a6 a7 a8 a9 a10 a11 a12 a13 a14 : Option V} {r : St} {N : St → Hp → Prop} (h : N (a0 :: a1 :: a2 :: a3 :: a4 :: a5 :: a6 :: a7 :: a8 :: a9 :: a10 :: a11 :: a12 :: a13 :: some v :: r) H) : gName 14 v (a0 :: a1 :: a2 :: a3 :: a4 :: a5 :: a6 :: a7 :: a8 :: a9 :: a10 :: a11 :: a12 :: a13 :: a14 :: r) H N := h
theorem g15 {a0 a1 a2 a3 a4 a5 a6 a7 a8 a9 a10 a11 a12 a13 a14 a15 : Option V} {r : St} {N : St → Hp → Prop} (h : N (a0 :: a1 :: a2 :: a3 :: a4 :: a5 :: a6 :: a7 :: a8 :: a9 :: a10 :: a11 :: a12 :: a13 :: a14 :: some v :: r) H) : gName 15 v (a0 :: a1 :: a2 :: a3 :: a4 :: a5 :: a6 :: a7 :: a8 :: a9 :: a10 :: a11 :: a12 :: a13 :: a14 :: a15 :: r) H N := h
theorem g16 {a0 a1 a2 a3 a4 a5 a6 a7 a8 a9 a10 a11 a12 a13 a14 a15 a16 : Option V} {r : St} {N : St → Hp → Prop} (h : N (a0 :: a1 :: a2 :: a3 :: a4 :: a5 :: a6 :: a7 :: a8 :: a9 :: a10 :: a11 :: a12 :: a13 :: a14 :: a15 :: some v :: r) H) : gName 16 v (a0 :: a1 :: a2 :: a3 :: a4 :: a5 :: a6 :: a7 :: a8 :: a9 :: a10 :: a11 :: a12 :: a13 :: a14 :: a15 :: a16 :: r) H N := h
theorem g17 {a0 a1 a2 a3 a4 a5 a6 a7 a8 a9 a10 a11 a12 a13 a14 a15 a16 a17 : Option V} {r : St} {N : St → Hp → Prop} (h : N (a0 :: a1 :: a2 :: a3 :: a4 :: a5 :: a6 :: a7 :: a8 :: a9 :: a10 :: a11 :: a12 :: a13 :: a14 :: a15 :: a16 :: some v :: r) H) : gName 17 v (a0 :: a1 :: a2 :: a3 :: a4 :: a5 :: a6 :: a7 :: a8 :: a9 :: a10 :: a11 :: a12 :: a13 :: a14 :: a15 :: a16 :: a17 :: r) H N := h
theorem g18 {a0 a1 a2 a3 a4 a5 a6 a7 a8 a9 a10 a11 a12 a13 a14 a15 a16 a17 a18 : Option V} {r : St} {N : St → Hp → Prop} (h : N (a0 :: a1 :: a2 :: a3 :: a4 :: a5 :: a6 :: a7 :: a8 :: a9 :: a10 :: a11 :: a12 :: a13 :: a14 :: a15 :: a16 :: a17 :: some v :: r) H) : gName 18 v (a0 :: a1 :: a2 :: a3 :: a4 :: a5 :: a6 :: a7 :: a8 :: a9 :: a10 :: a11 :: a12 :: a13 :: a14 :: a15 :: a16 :: a17 :: a18 :: r) H N := h
theorem g19 {a0 a1 a2 a3 a4 a5 a6 a7 a8 a9 a10 a11 a12 a13 a14 a15 a16 a17 a18 a19 : Option V} {r : St} {N : St → Hp → Prop} (h : N (a0 :: a1 :: a2 :: a3 :: a4 :: a5 :: a6 :: a7 :: a8 :: a9 :: a10 :: a11 :: a12 :: a13 :: a14 :: a15 :: a16 :: a17 :: a18 :: some v :: r) H) : gName 19 v (a0 :: a1 :: a2 :: a3 :: a4 :: a5 :: a6 :: a7 :: a8 :: a9 :: a10 :: a11 :: a12 :: a13 :: a14 :: a15 :: a16 :: a17 :: a18 :: a19 :: r) H N := h
theorem g20 {a0 a1 a2 a3 a4 a5 a6 a7 a8 a9 a10 a11 a12 a13 a14 a15 a16 a17 a18 a19 a20 : Option V} {r : St} {N : St → Hp → Prop} (h : N (a0 :: a1 :: a2 :: a3 :: a4 :: a5 :: a6 :: a7 :: a8 :: a9 :: a10 :: a11 :: a12 :: a13 :: a14 :: a15 :: a16 :: a17 :: a18 :: a19 :: some v :: r) H) : gName 20 v (a0 :: a1 :: a2 :: a3 :: a4 :: a5 :: a6 :: a7 :: a8 :: a9 :: a10 :: a11 :: a12 :: a13 :: a14 :: a15 :: a16 :: a17 :: a18 :: a19 :: a20 :: r) H N := h
theorem g21 {a0 a1 a2 a3 a4 a5 a6 a7 a8 a9 a10 a11 a12 a13 a14 a15 a16 a17 a18 a19 a20 a21 : Option V} {r : St} {N : St → Hp → Prop} (h : N (a0 :: a1 :: a2 :: a3 :: a4 :: a5 :: a6 :: a7 :: a8 :: a9 :: a10 :: a11 :: a12 :: a13 :: a14 :: a15 :: a16 :: a17 :: a18 :: a19 :: a20 :: some v :: r) H) : gName 21 v (a0 :: a1 :: a2 :: a3 :: a4 :: a5 :: a6 :: a7 :: a8 :: a9 :: a10 :: a11 :: a12 :: a13 :: a14 :: a15 :: a16 :: a17 :: a18 :: a19 :: a20 :: a21 :: r) H N := h
theorem g22 {a0 a1 a2 a3 a4 a5 a6 a7 a8 a9 a10 a11 a12 a13 a14 a15 a16 a17 a18 a19 a20 a21 a22 : Option V} {r : St} {N : St → Hp → Prop} (h : N (a0 :: a1 :: a2 :: a3 :: a4 :: a5 :: a6 :: a7 :: a8 :: a9 :: a10 :: a11 :: a12 :: a13 :: a14 :: a15 :: a16 :: a17 :: a18 :: a19 :: a20 :: a21 :: some v :: r) H) : gName 22 v (a0 :: a1 :: a2 :: a3 :: a4 :: a5 :: a6 :: a7 :: a8 :: a9 :: a10 :: a11 :: a12 :: a13 :: a14 :: a15 :: a16 :: a17 :: a18 :: a19 :: a20 :: a21 :: a22 :: r) H N := h
theorem g23 {a0 a1 a2 a3 a4 a5 a6 a7 a8 a9 a10 a11 a12 a13 a14 a15 a16 a17 a18 a19 a20 a21 a22 a23 : Option V} {r : St} {N : St → Hp → Prop} (h : N (a0 :: a1 :: a2 :: a3 :: a4 :: a5 :: a6 :: a7 :: a8 :: a9 :: a10 :: a11 :: a12 :: a13 :: a14 :: a15 :: a16 :: a17 :: a18 :: a19 :: a20 :: a21 :: a22 :: some v :: r) H) : gName 23 v (a0 :: a1 :: a2 :: a3 :: a4 :: a5 :: a6 :: a7 :: a8 :: a9 :: a10 :: a11 :: a12 :: a13 :: a14 :: a15 :: a16 :: a17 :: a18 :: a19 :: a20 :: a21 :: a22 :: a23 :: r) H N := h
theorem i_gTup {n : Nat} {tg : TGs} {a : Addr} {xs : List V} {N : St → Hp → Prop} (hq : SqT K H a xs) (hl : xs.length = n) (h : tg xs σ H N) : gTup K n tg (.ref a) σ H N := ⟨a, xs, rfl, hq, hl, h⟩
theorem i_gCons {tg : TG} {us : TGs} {r : List V} {N : St → Hp → Prop} (h : tg v σ H fun σ' H' => us r σ' H' N) : gCons tg us (v :: r) σ H N := ⟨v, r, rfl, h⟩
theorem i_gNil {N : St → Hp → Prop} (h : N σ H) : gNil [] σ H N := ⟨rfl, h⟩
/-- tests -/
theorem iteD {p : Prop} [Decidable p] (h1 : p → A) (h2 : ¬ p → B) : if decide p = true then A else B := by
  by_cases h : p
  · rw [if_pos (decide_eq_true h)]; exact h1 h
  · rw [if_neg (by simp [h])]; exact h2 h
theorem iteDp {p : Prop} [Decidable p] (hp : p) (h : A) : if decide p = true then A else B := by rw [if_pos (decide_eq_true hp)]; exact h
theorem iteDn {p : Prop} [Decidable p] (hp : ¬ p) (h : B) : if decide p = true then A else B := by rw [if_neg (by simp [hp])]; exact h
theorem iteNp {p : Prop} [Decidable p] (hp : p) (h : B) : if (!decide p) = true then A else B := by rw [if_neg (by simp [hp])]; exact h
theorem iteNn {p : Prop} [Decidable p] (hp : ¬ p) (h : A) : if (!decide p) = true then A else B := by rw [if_pos (by simp [hp])]; exact h
theorem iteN {p : Prop} [Decidable p] (h1 : p → B) (h2 : ¬ p → A) : if (!decide p) = true then A else B := by
  by_cases h : p
  · exact iteNp h (h1 h)
  · exact iteNn h (h2 h)
theorem iteNT (h : B) : if (!true) = true then A else B := iteF h
theorem iteNF (h : A) : if (!false) = true then A else B := iteT h
/-- attributes -/
theorem lk_hd {f : Str} {r : List (Str × V)} : List.lookup f ((f, v) :: r) = some v := by simp [List.lookup]
theorem lk_tl {f g : Str} {r : List (Str × V)} {o : Option V} (h : ¬ f = g) (e : List.lookup f r = o) : List.lookup f ((g, v) :: r) = o := by
  have h' : (f == g) = false := by simp [h]
  simp [List.lookup, h', e]
theorem lk_nil {f : Str} : List.lookup f ([] : List (Str × V)) = none := rfl
theorem pf_hd {f : Str} {r : List (Str × V)} : putF f v ((f, x) :: r) = (f, v) :: r := by simp [putF]
theorem pf_tl {f g : Str} {r r' : List (Str × V)} (h : ¬ g = f) (e : putF f v r = r') : putF f v ((g, x) :: r) = (g, x) :: r' := by simp [putF, h, e]
theorem pf_nil {f : Str} : putF f v [] = [(f, v)] := rfl
/-- the heap -/
theorem upd_new {a c : Addr} {o o' : HO} (hn : H a = none) (h : H c = some o) : upd H a o' c = some o := by rw [upd_ne (ne_of_none h hn)]; exact h
theorem upd_oth {a c : Addr} {o o' : HO} (hn : c ≠ a) (h : H c = some o) : upd H a o' c = some o := by rw [upd_ne hn]; exact h
theorem same_upd {a : Addr} {o : HO} (hn : H a = none) : Same H (upd H a o) := fun _ _ h => upd_new hn h
theorem Same.tup {H H' : Hp} {a : Addr} {xs : List V} (e : Same H H') (h : SqT K H a xs) : SqT K H' a xs := by
  rcases h with (h | ⟨o, h⟩) | h
  · exact .inl (.inl (e _ _ h))
  · exact .inl (.inr ⟨o, e _ _ h⟩)
  · exact .inr h
/-- a turn of a while: N is the word with a lower measure -/
theorem i_turn {tb : TS} {W : Nat → St → Hp → Prop} {m : Nat} (h : tb ⟨fun σ' H' => ∃ m', m' < m ∧ W m' σ' H', rt, nx, fun σ' H' => ∃ m', m' < m ∧ W m' σ' H'⟩ σ H) :
    ∃ N : St → Hp → Prop, (∀ σ' H', N σ' H' → ∃ m', m' < m ∧ W m' σ' H') ∧ tb ⟨N, rt, nx, N⟩ σ H := ⟨_, fun _ _ q => q, h⟩
theorem i_make {C : Addr} {sp : Sp} {dvs : List V} {E : XK} (h : tr σ H fun vs H1 => ∀ x dx, H1 x = none → H1 dx = none → dx ≠ x → sp (.ref x :: (vs ++ dvs)) (upd (upd H1 dx (.own x)) x (.ins C dx [])) (fun v H2 => v = .non ∧ Q (.ref x) H2) E) : tMake C sp dvs E tr σ H Q := h
theorem i_bm {T : String} {r : V → List V → Hp → VK → Prop} (h : ta σ H fun x H1 => tyV K T x H1 ∧ tr σ H1 fun xs H2 => r x xs H2 Q) : tBM K T r ta tr σ H Q := h
theorem i_bm0 {T : String} {r : V → List V → Hp → VK → Prop} (h : ta σ H fun x H1 => tyV K T x H1 ∧ r x [] H1 Q) : tBM0 K T r ta σ H Q := h
theorem i_tyL {p : Addr} {xs : List V} (h : H p = some (.lst xs)) (k : A) : tyV K "list" (.ref p) H ∧ A := ⟨.inl ⟨rfl, _, SqL.of h⟩, k⟩
theorem i_append {l : Addr} {xs : List V} (h : H l = some (.lst xs)) (hz : xs.length < sizeLine) (k : Q .non (upd H l (.lst (xs ++ [y])))) : rAppend (.ref l) [y] H Q := ⟨l, xs, y, rfl, rfl, h, hz, k⟩
theorem i_reverse {l : Addr} {xs : List V} (h : H l = some (.lst xs)) (k : Q .non (upd H l (.lst xs.reverse))) : rReverse (.ref l) [] H Q := ⟨l, xs, rfl, rfl, h, k⟩
theorem i_len {p : Addr} {ys : List V} {P : List V → Prop} (h : SqL K H p ys) (k : P ys) : ∃ p' ys', [V.ref p] = [V.ref p'] ∧ (SqL K H p' ys' ∨ SqT K H p' ys') ∧ P ys' := ⟨p, ys, rfl, .inl h, k⟩
theorem i_ixL {p : Addr} {xs : List V} (h : SqL K H p xs) (e : atI xs i = some v) (k : Q v H) : rIxL K (.ref p) (.int i) H Q := ⟨p, xs, i, v, rfl, rfl, h, e, k⟩
theorem i_ixT {p : Addr} {xs : List V} (h : SqT K H p xs) (e : atI xs i = some v) (k : Q v H) : rIxT K (.ref p) (.int i) H Q := ⟨p, xs, i, v, rfl, rfl, h, e, k⟩
theorem i_slL {p : Addr} {xs : List V} {lo hi : Option Int} (h : SqL K H p xs) (k : ∀ q, H q = none → Q (.ref q) (upd H q (.lst (cutV xs lo hi)))) : rSlL K (.ref p) lo hi H Q := ⟨p, xs, rfl, h, k⟩
theorem i_for {wi : TI} {g : TG} {tb : TS} (h : wi σ H fun J H1 => ∃ W : Nat → Nat → St → Hp → Prop, (∃ m, W 0 m σ H1) ∧ ∀ i m σ H, W i m σ H →
    (J.stop i H ∧ D.nx σ H) ∨ (J.go i H ∧ ∃ N : St → Hp → Prop, (∀ σ' H', N σ' H' → ∃ m', m' < m ∧ W (i + 1) m' σ' H') ∧ ∀ x H', J.yld i H x H' → g x σ H' fun σ2 H2 => tb { D with nx := N, ct := N, bk := D.nx } σ2 H2)) : tFor wi g tb D σ H := h
theorem i_iList {R : It → Hp → Prop} (h : ta σ H fun x H1 => ∃ a, x = .ref a ∧ (∃ xs, SqL K H1 a xs) ∧ R (Itl K a) H1) : iList K ta σ H R := h
theorem i_iTup {R : It → Hp → Prop} (h : ta σ H fun x H1 => ∃ a, x = .ref a ∧ (∃ xs, SqT K H1 a xs) ∧ R (Itt K a) H1) : iTup K ta σ H R := h
theorem i_iRng1 {R : It → Hp → Prop} (h : tr σ H fun vs H1 => ∃ j : Int, vs = [.int j] ∧ -(2 ^ 62) ≤ j ∧ j < 2 ^ 62 ∧ R (Itr 0 j.toNat) H1) : iRng1 tr σ H R := h
theorem i_isi {n m : String} {k : Bool} {P : Bool → Prop} (ty : TyOf K H x (.type n)) (e : PySem.W.kitOne K (.type n) (.type m) = some k) (h : P k) :
    ∃ x' cv t c k', [x, V.ty m] = [x', cv] ∧ RelV cv c ∧ (∀ u, RelV cv u → u = c) ∧ TyOf K H x' t ∧ PySem.W.kitOne K t c = some k' ∧ P k' := ⟨x, .ty m, .type n, .type m, k, rfl, rfl, fun _ r => r, ty, e, h⟩
theorem i_powC {k : Int} (hc : CPow i j) (e : i ^ j.toNat = k) (h : Q (.int k) H) : rPowC k (.int i) (.int j) H Q := ⟨i, j, rfl, rfl, hc, e, h⟩
theorem i_after (h : nx σ H) : After nx σ H := h
end
/-- what isinstance(x, int), isinstance(x, bool) say of a plain thing -/
def isIntV : V → Bool
  | .int _ => true
  | .bl _ => true
  | _ => false
def isBoolV : V → Bool
  | .bl _ => true
  | _ => false
def wholeV : V → Bool
  | .int _ => true
  | _ => false
theorem kit_int {K : PySem.W.Frag} {H : Hp} {x : V} {n : String} (ty : TyOf K H x (.type n)) : PySem.W.kitOne K (.type n) (.type "int") = some (isIntV x) := by
  cases ty <;> rfl
theorem kit_bool {K : PySem.W.Frag} {H : Hp} {x : V} {n : String} (ty : TyOf K H x (.type n)) : PySem.W.kitOne K (.type n) (.type "bool") = some (isBoolV x) := by
  cases ty <;> rfl
end L2
namespace SpanMath
/-- a chance -/
def Ch (c : Int) : Prop := 32768 ≤ c ∧ c ≤ 16744448
/-- the while at the end of narrow -/
def ren (l w s : Int) : Int × Int × Int :=
  if w < 4294967296 then (if w * 256 < 4294967296 then (l * 65536, w * 65536, s + 2) else (l * 256, w * 256, s + 1)) else (l, w, s)
def cut (w c : Int) : Int := w * c / 16777216
def nar (x : Int × Int × Int) (c b : Int) : Int × Int × Int :=
  if b = 1 then ren x.1 (cut x.2.1 c) x.2.2 else ren (x.1 + cut x.2.1 c) (x.2.1 - cut x.2.1 c) x.2.2
def s0 : Int × Int × Int := (0, 1099511627776, 5)

theorem ren_step {l w s : Int} (h : w < 4294967296) (h2 : 8388608 ≤ w) : ren (l * 256) (w * 256) (s + 1) = ren l w s := by
  unfold ren
  rw [if_pos h]
  by_cases h3 : w * 256 < 4294967296
  · rw [if_pos h3, if_pos h3, if_neg (by omega)]
    refine Prod.ext ?_ (Prod.ext ?_ ?_)
    · show l * 256 * 256 = l * 65536; omega
    · show w * 256 * 256 = w * 65536; omega
    · show s + 1 + 1 = s + 2; omega
  · rw [if_neg h3, if_neg h3]
theorem ren_end {l w s : Int} (h : ¬ w < 4294967296) : ren l w s = (l, w, s) := by
  unfold ren; rw [if_neg h]

theorem cut_ok {w c : Int} (hw : 4294967296 ≤ w) (hw2 : w ≤ 1099511627776) (hc : Ch c) : 8388608 ≤ cut w c ∧ 8388608 ≤ w - cut w c ∧ cut w c < 1099511627776 := by
  obtain ⟨h1, h2⟩ := hc
  have a1 : w * 32768 ≤ w * c := Int.mul_le_mul_of_nonneg_left h1 (by omega)
  have a2 : w * c ≤ w * 16744448 := Int.mul_le_mul_of_nonneg_left h2 (by omega)
  unfold cut
  generalize w * c = p at a1 a2 ⊢
  omega
/-- a span as it can come -/
structure Ok (x : Int × Int × Int) : Prop where
  l0 : 0 ≤ x.1
  w0 : 4294967296 ≤ x.2.1
  w1 : x.2.1 ≤ 1099511627776
  z : 5 ≤ x.2.2
theorem ok0 : Ok s0 := ⟨by decide, by decide, by decide, by decide⟩
theorem ren_ok {l w s : Int} (h0 : 0 ≤ l) (h1 : 8388608 ≤ w) (h2 : w ≤ 1099511627776) (h3 : 5 ≤ s) : Ok (ren l w s) := by
  unfold ren
  split
  · split
    · exact ⟨by show 0 ≤ l * 65536; omega, by show _ ≤ w * 65536; omega, by show w * 65536 ≤ _; omega, by show 5 ≤ s + 2; omega⟩
    · exact ⟨by show 0 ≤ l * 256; omega, by show _ ≤ w * 256; omega, by show w * 256 ≤ _; omega, by show 5 ≤ s + 1; omega⟩
  · exact ⟨h0, by show _ ≤ w; omega, h2, h3⟩
theorem nar_ok {x : Int × Int × Int} {c b : Int} (h : Ok x) (hc : Ch c) : Ok (nar x c b) := by
  obtain ⟨a1, a2, a3⟩ := cut_ok h.w0 h.w1 hc
  have := h.l0; have := h.w0; have := h.w1; have := h.z
  unfold nar
  split
  · exact ren_ok (by omega) (by omega) (by omega) (by omega)
  · exact ren_ok (by omega) (by omega) (by omega) (by omega)
end SpanMath
namespace SpanMath
/-- 256 ** k -/
def pw : Nat → Int
  | 0 => 1
  | k + 1 => pw k * 256
theorem pw_pos : ∀ k, 0 < pw k
  | 0 => by decide
  | k + 1 => by have := pw_pos k; show 0 < pw k * 256; omega
theorem pw_add (a : Nat) : ∀ b, pw (a + b) = pw a * pw b
  | 0 => by simp [pw]
  | b + 1 => by
    show pw (a + b) * 256 = pw a * (pw b * 256)
    rw [pw_add a b, Int.mul_assoc]
theorem pw_mono {a b : Nat} (h : a ≤ b) : pw a ≤ pw b := by
  obtain ⟨c, rfl⟩ := Nat.exists_eq_add_of_le h
  rw [pw_add]
  have h1 := pw_pos a
  have h2 := pw_pos c
  calc pw a = pw a * 1 := by omega
    _ ≤ pw a * pw c := Int.mul_le_mul_of_nonneg_left (by omega) (by omega)
theorem pw_lt {a b : Nat} (h : pw a < pw b) : a < b := by
  apply Nat.lt_of_not_le
  intro q
  have := pw_mono q
  omega
theorem div_pw_succ (n : Int) (k : Nat) : n / pw (k + 1) = n / pw k / 256 := by
  show n / (pw k * 256) = _
  rw [Int.ediv_ediv_of_nonneg (Int.le_of_lt (pw_pos k))]
theorem div_pw_add (n : Int) (a b : Nat) : n / pw (a + b) = n / pw a / pw b := by
  rw [pw_add, Int.ediv_ediv_of_nonneg (Int.le_of_lt (pw_pos a))]
theorem div_pw_succ' (n : Int) (k : Nat) : n / pw (k + 1) = n / 256 / pw k := by
  rw [Nat.add_comm, div_pw_add]
  rfl
/-! ### numbers written by bytes -/
def lo : Nat → Int → List Int
  | 0, _ => []
  | k + 1, n => n % 256 :: lo k (n / 256)
def wr (k : Nat) (n : Int) : List Int := (lo k n).reverse
theorem lo_len : ∀ k n, (lo k n).length = k
  | 0, _ => rfl
  | k + 1, n => by simp [lo, lo_len k]
theorem wr_len (k : Nat) (n : Int) : (wr k n).length = k := by simp [wr, lo_len]
theorem wr_succ (k : Nat) (n : Int) : wr (k + 1) n = wr k (n / 256) ++ [n % 256] := by simp [wr, lo]
def val (xs : List Int) : Int := xs.foldl (fun a b => a * 256 + b) 0
theorem val_snoc (xs : List Int) (b : Int) : val (xs ++ [b]) = val xs * 256 + b := by simp [val, List.foldl_append]
theorem val_wr : ∀ (k : Nat) (n : Int), 0 ≤ n → n < pw k → val (wr k n) = n
  | 0, n, h0, h1 => by
    have : n < 1 := h1
    have : n = 0 := by omega
    subst this; rfl
  | k + 1, n, h0, h1 => by
    have h2 : n < pw k * 256 := h1
    rw [wr_succ, val_snoc, val_wr k (n / 256) (by omega) (by omega)]
    omega
/-! ### the settled bytes -/
/-- how many bytes from the end a and b part in: the while of settled, n turns at most -/
def part : Nat → Int → Int → Nat
  | 0, _, _ => 0
  | n + 1, a, b => if a = b then 0 else part n (a / 256) (b / 256) + 1
theorem part_le : ∀ n a b, part n a b ≤ n
  | 0, _, _ => Nat.le_refl _
  | n + 1, a, b => by
    unfold part
    split
    · omega
    · have := part_le n (a / 256) (b / 256); omega
theorem part_eq : ∀ n a b, 0 ≤ a → 0 ≤ b → a < pw n → b < pw n → a / pw (part n a b) = b / pw (part n a b)
  | 0, a, b, h1, h2, h3, h4 => by
    have h3' : a < 1 := h3
    have h4' : b < 1 := h4
    have : a = b := by omega
    rw [this]
  | n + 1, a, b, h1, h2, h3, h4 => by
    unfold part
    split
    · rename_i h; rw [h]
    · have h3' : a < pw n * 256 := h3
      have h4' : b < pw n * 256 := h4
      rw [div_pw_succ', div_pw_succ']
      exact part_eq n (a / 256) (b / 256) (by omega) (by omega) (by omega) (by omega)
theorem part_min : ∀ n a b k, k < part n a b → a / pw k ≠ b / pw k
  | 0, _, _, k, h => by simp [part] at h
  | n + 1, a, b, k, h => by
    unfold part at h
    split at h
    · omega
    · rename_i hne
      cases k with
      | zero =>
        have e : ∀ x : Int, x / pw 0 = x := fun x => by show x / 1 = x; omega
        rw [e, e]; exact hne
      | succ k =>
        rw [div_pw_succ', div_pw_succ']
        exact part_min n (a / 256) (b / 256) k (by omega)
end SpanMath
namespace SpanMath
abbrev Sn := Int × Int × Int
def sz (x : Sn) : Nat := x.2.2.toNat
/-- a span as it can come, within its bytes -/
structure OkS (x : Sn) : Prop where
  ok : Ok x
  top : x.1 + x.2.1 ≤ pw (sz x)
theorem OkS.sz {x : Sn} (h : OkS x) : ((sz x : Nat) : Int) = x.2.2 := by
  have := h.ok.z
  unfold SpanMath.sz
  omega
theorem OkS.sz5 {x : Sn} (h : OkS x) : 5 ≤ SpanMath.sz x := by
  have := h.ok.z
  unfold SpanMath.sz
  omega
theorem okS0 : OkS s0 := ⟨ok0, by decide⟩
/-- y lies in x: r bytes more -/
structure Sub (x y : Sn) (r : Nat) : Prop where
  z : sz y = sz x + r
  l : x.1 * pw r ≤ y.1
  h : y.1 + y.2.1 ≤ (x.1 + x.2.1) * pw r
theorem ren_sub {l w s : Int} (hs : 0 ≤ s) : ∃ r, Sub (l, w, s) (ren l w s) r ∧ (ren l w s).2.1 = w * pw r ∧ (ren l w s).1 = l * pw r := by
  unfold ren
  split
  · split
    · refine ⟨2, ⟨?_, ?_, ?_⟩, ?_, ?_⟩
      · show (s + 2).toNat = s.toNat + 2; omega
      · show l * (1 * 256 * 256) ≤ l * 65536; omega
      · show l * 65536 + w * 65536 ≤ (l + w) * (1 * 256 * 256); omega
      · show w * 65536 = w * (1 * 256 * 256); omega
      · show l * 65536 = l * (1 * 256 * 256); omega
    · refine ⟨1, ⟨?_, ?_, ?_⟩, ?_, ?_⟩
      · show (s + 1).toNat = s.toNat + 1; omega
      · show l * (1 * 256) ≤ l * 256; omega
      · show l * 256 + w * 256 ≤ (l + w) * (1 * 256); omega
      · show w * 256 = w * (1 * 256); omega
      · show l * 256 = l * (1 * 256); omega
  · refine ⟨0, ⟨?_, ?_, ?_⟩, ?_, ?_⟩
    · rfl
    · show l * 1 ≤ l; omega
    · show l + w ≤ (l + w) * 1; omega
    · show w = w * 1; omega
    · show l = l * 1; omega
theorem nar_sub {x : Sn} {c b : Int} (h : Ok x) (hc : Ch c) : ∃ r, Sub x (nar x c b) r := by
  obtain ⟨a1, a2, a3⟩ := cut_ok h.w0 h.w1 hc
  have h0 := h.l0; have hz := h.z
  unfold nar
  split
  · obtain ⟨r, ⟨q1, q2, q3⟩, _⟩ := ren_sub (l := x.1) (w := cut x.2.1 c) (s := x.2.2) (by omega)
    refine ⟨r, q1, q2, Int.le_trans q3 (Int.mul_le_mul_of_nonneg_right ?_ (Int.le_of_lt (pw_pos r)))⟩
    show x.1 + cut x.2.1 c ≤ x.1 + x.2.1
    omega
  · obtain ⟨r, ⟨q1, q2, q3⟩, _⟩ := ren_sub (l := x.1 + cut x.2.1 c) (w := x.2.1 - cut x.2.1 c) (s := x.2.2) (by omega)
    refine ⟨r, q1, Int.le_trans (Int.mul_le_mul_of_nonneg_right ?_ (Int.le_of_lt (pw_pos r))) q2, Int.le_trans q3 (Int.mul_le_mul_of_nonneg_right ?_ (Int.le_of_lt (pw_pos r)))⟩
    · show x.1 ≤ x.1 + cut x.2.1 c; omega
    · show x.1 + cut x.2.1 c + (x.2.1 - cut x.2.1 c) ≤ x.1 + x.2.1; omega
theorem nar_okS {x : Sn} {c b : Int} (h : OkS x) (hc : Ch c) : OkS (nar x c b) := by
  refine ⟨nar_ok h.ok hc, ?_⟩
  obtain ⟨r, q⟩ := nar_sub (b := b) h.ok hc
  rw [q.z, pw_add]
  exact Int.le_trans q.h (Int.mul_le_mul_of_nonneg_right h.top (Int.le_of_lt (pw_pos r)))

/-! ### settled -/
def stK (x : Sn) : Nat := part (sz x) x.1 (x.1 + x.2.1 - 1)
def stL (x : Sn) : List Int := wr (sz x - stK x) (x.1 / pw (stK x))
theorem stK_le (x : Sn) : stK x ≤ sz x := part_le _ _ _
theorem stK_eq {x : Sn} (h : OkS x) : x.1 / pw (stK x) = (x.1 + x.2.1 - 1) / pw (stK x) := by
  have h1 := h.top; have h2 := h.ok.l0; have h3 := h.ok.w0
  exact part_eq _ _ _ (by omega) (by omega) (by omega) (by omega)
theorem stK_min {x : Sn} {k : Nat} (h : k < stK x) : x.1 / pw k ≠ (x.1 + x.2.1 - 1) / pw k := part_min _ _ _ _ h
/-! ### told -/
/-- the first block of e numbers behind l -/
def blk (l e : Int) : Int := (l + e - 1) / e
def hold (l w : Int) (k : Nat) : Prop := (blk l (pw k) + 1) * pw k ≤ l + w
instance (l w : Int) (k : Nat) : Decidable (hold l w k) := inferInstanceAs (Decidable ((blk l (pw k) + 1) * pw k ≤ l + w))
theorem blk_ge (l : Int) {e : Int} (h : 0 < e) : l ≤ blk l e * e ∧ blk l e * e < l + e := by
  unfold blk
  have h1 := Int.emod_add_mul_ediv (l + e - 1) e
  have h2 := Int.emod_nonneg (l + e - 1) (show e ≠ 0 by omega)
  have h3 := Int.emod_lt_of_pos (l + e - 1) h
  rw [Int.mul_comm] at h1
  generalize (l + e - 1) / e * e = q at h1 ⊢
  omega
theorem hold_le {l w : Int} {k : Nat} (h : hold l w k) : pw k ≤ w := by
  have h1 := blk_ge l (pw_pos k)
  unfold hold at h
  rw [Int.add_mul] at h
  omega
def tel (l w : Int) : Nat → Nat → Nat
  | 0, k => k
  | f + 1, k => if hold l w (k + 1) then tel l w f (k + 1) else k
theorem tel_step {l w : Int} {f k : Nat} (h : hold l w (k + 1)) : tel l w f (k + 1) = tel l w (f + 1) k := by
  rw [tel, if_pos h]
theorem tel_end {l w : Int} {f k : Nat} (h : ¬ hold l w (k + 1)) : tel l w f k = k := by
  cases f with
  | zero => rfl
  | succ f => rw [tel, if_neg h]
theorem tel_hold {l w : Int} : ∀ {f k : Nat}, hold l w k → hold l w (tel l w f k)
  | 0, _, h => h
  | f + 1, k, h => by
    unfold tel
    split
    · rename_i q; exact tel_hold q
    · exact h
theorem pw5 : pw 5 = 1099511627776 := by decide
theorem hold_5 {l w : Int} {k : Nat} (hw : w ≤ 1099511627776) (h : hold l w k) : k ≤ 5 := by
  have h1 := hold_le h
  rw [← pw5] at hw
  have h2 : pw k < pw 6 := Int.lt_of_le_of_lt (Int.le_trans h1 hw) (by decide)
  have := pw_lt h2
  omega
def tK (x : Sn) : Nat := tel x.1 x.2.1 5 0
def tCn (x : Sn) : Int := blk x.1 (pw (tK x))
def tL (x : Sn) : List Int := wr (sz x - tK x) (tCn x)
theorem hold0 {x : Sn} (h : Ok x) : hold x.1 x.2.1 0 := by
  have := h.w0
  show ((x.1 + 1 - 1) / 1 + 1) * 1 ≤ x.1 + x.2.1
  omega
theorem tK_hold {x : Sn} (h : Ok x) : hold x.1 x.2.1 (tK x) := tel_hold (hold0 h)
theorem tK_le {x : Sn} (h : OkS x) : tK x ≤ 5 ∧ tK x ≤ sz x := by
  have h1 := hold_5 h.ok.w1 (tK_hold h.ok)
  have h2 := h.sz5
  omega
theorem tL_len (x : Sn) : (tL x).length = sz x - tK x := wr_len _ _
theorem tCn_nn {x : Sn} (h : Ok x) : 0 ≤ tCn x := by
  have := h.l0
  have := pw_pos (tK x)
  exact Int.ediv_nonneg (by omega) (by omega)
theorem tCn_lt {x : Sn} (h : OkS x) : tCn x < pw (sz x - tK x) := by
  have h1 : (tCn x + 1) * pw (tK x) ≤ x.1 + x.2.1 := tK_hold h.ok
  have h2 := h.top
  have e : sz x - tK x + tK x = sz x := Nat.sub_add_cancel (tK_le h).2
  rw [← e, pw_add] at h2
  have h3 := Int.le_of_mul_le_mul_right (Int.le_trans h1 h2) (pw_pos (tK x))
  omega
theorem tL_val {x : Sn} (h : OkS x) : val (tL x) = tCn x := val_wr _ _ (tCn_nn h.ok) (tCn_lt h)
/-! ### the cost -/
end SpanMath
/-! A COMPREHENSION of lists: one clause, a plain name, no test, no name of the def around -/
namespace L2
open PySem PySem.Spec PyProof.Rows
/-- the context of its block -/
abbrev Cx.comp (X : Cx) (scope : Scope) (C : Addr) (x : Str) (s2 : Shared) (H2 : Hp) (fp : List Addr) : Cx :=
  { X with N := [x], s₀ := s2, H₀ := H2, env := compEnv scope C X.env, outer := X.stack, ex := fp, fn := fun _ => true, pn := [], xe := fun _ _ => False }
def tCompB (J : It) (te : TE) (D : Addr) (R : Hp → Prop) (H1 : Hp) : Prop := ∃ W : Nat → Nat → Hp → Prop, (∃ m, W 0 m (upd H1 D (.lst []))) ∧
  ∀ i m H2, W i m H2 → (J.stop i H2 ∧ R H2) ∨ (J.go i H2 ∧ ∀ x H3, J.yld i H2 x H3 → te [some x] H3 fun y H4 => ∃ ys, H4 D = some (.lst ys) ∧ ys.length < sizeLine ∧ ∃ m', m' < m ∧ W (i + 1) m' (upd H4 D (.lst (ys ++ [y]))))
def tComp (wi : TI) (te : TE) : TE := fun σ H Q => wi σ H fun J H1 => ∀ D, H1 D = none → tCompB J te D (fun H2 => Q (.ref D) H2) H1
section
variable {X : Cx} {iter elt : Expr} {x : Str} {px pos : Pos} {scope : Scope} {te : TE} {wi : TI} {pins : List (Addr × Obj)} {σ : St}
theorem thnF {α : Type} {t : Sem α} {Q Q' : α → Shared → Prop} {M : Model} {A : Around} {E : Value → Shared → Prop} {s : Shared} (h : wpAny M A t Q (fun _ _ => False) s) (hQ : ∀ a s, Q a s → Q' a s) : wpAny M A t Q' E s := wpAny_mono h hQ fun _ _ z => z.elim
theorem comp_core {s2 : Shared} {H2 : Hp} {it : Addr} {fp : List Addr} {tn : Nat → Heap → Prop} {J : It} (hc : X.calm = true)
    (he : ∀ (C : Addr) (s2 : Shared) (H2 : Hp) (fp : List Addr), PE (X.comp scope C x s2 H2 fp) elt te)
    (hfree : ∀ y ∈ scope.names, y.2 ≠ .free) (hcell : ∀ y ∈ scope.names, y.2 ≠ .cell) (hkind : scope.kind = .function) (hx : scope.names.lookup x = some .local)
    (I2 : Inv X pins σ H2 s2) (T : Turn X.prog X.w X.K (.Name x px) J fp it tn) (st2 : tn 0 s2.heap) (f2 : ∀ b ∈ fp, FpOk X pins H2 b)
    {R : Addr → Hp → Prop} (h : ∀ D, H2 D = none → tCompB J te D (R D) H2) {RR : Value → Env → Result → Shared → Prop} {E : Value → Shared → Prop}
    (hR : ∀ (D C : Addr) (H' : Hp) (s' : Shared) (m : Str → Option Value), FpOk X pins H' C → s'.heap.Ns C m → Inv X pins σ H' s' → R D H' → RR (.ref D) (compEnv scope C X.env) (.ok .next) s') :
    wpAny (model X.prog X.w) X.A (newList []) (fun acc s₃ => wpAny (model X.prog X.w) X.A (newFunctionEnv scope X.env.globals [] [] X.env.qual none .none (some X.env)) (fun cenv s₄ =>
      codeAny (model X.prog X.w) X.A (.compStart (.ListComp elt [⟨.Name x px, iter, [], 0⟩] scope pos) 0 (.ref it) acc { cenv with scope := scope }) (RR acc { cenv with scope := scope }) s₄) E s₃) E s2 := by
  refine wpAny_newObj_type (wpAny_newFunctionEnv hcell (by intro y hy; simp at hy) (fun h₁ hns₁ hsb₁ => ?_) hkind)
  dsimp only at hns₁ hsb₁ ⊢
  generalize hH2 : s2.heap.push { cls := .type "list", dict := none, data := .seq ([] : List Value).toArray } = G at hns₁ hsb₁ ⊢
  have hC : G.objs.size = s2.heap.objs.size + 1 := by rw [← hH2, Heap.size_push]
  have hDC : s2.heap.objs.size ≠ G.objs.size := by rw [hC]; exact Nat.ne_of_lt (Nat.lt_succ_self _)
  have hCle : s2.heap.objs.size ≤ G.objs.size := by rw [hC]; exact Nat.le_succ _
  have below : ∀ b, b < s2.heap.objs.size → b ≠ G.objs.size ∧ b ≠ s2.heap.objs.size := fun b hb => ⟨by rw [hC]; exact Nat.ne_of_lt (Nat.lt_succ_of_lt hb), Nat.ne_of_lt hb⟩
  have old : ∀ b o, s2.heap.get? b = some o → h₁.get? b = some o := fun b o e => hsb₁.extBut b o (below b (Heap.lt_size e)).1 (Heap.get?_push_of_some _ (hH2 ▸ Heap.get?_push_of_some _ e))
  have hacc : h₁.get? s2.heap.objs.size = some { cls := .type "list", data := .seq ([] : List Value).toArray } := hsb₁.extBut _ _ hDC (Heap.get?_push_of_some _ (hH2 ▸ Heap.get?_push_size _ rfl))
  have fpl : ∀ b ∈ fp, b < s2.heap.objs.size := fun b hb => let ⟨_, e, _⟩ := T.obj 0 _ st2 b hb; Heap.lt_size e
  have fpS : ∀ b ∈ fp, b ∉ frs X.stack := fun b hb z => (List.mem_cons.mp (I2.stkSub b z)).elim (f2 b hb).2.1 (f2 b hb).2.2.1
  have nC : H2 G.objs.size = none := I2.hok.fresh hCle
  have nD : H2 s2.heap.objs.size = none := I2.hok.fresh (Nat.le_refl _)
  have okC : (X.comp scope G.objs.size x s2 H2 fp).Ok := by
    refine ⟨I2.ok.mod, hkind, I2.ok.glob, I2.ok.blt, hCle, fun y z c e => (by cases e), fun y e => ?_, fun y c _ e => (by cases e), I2.ok.hd, I2.ok.frames, .inl rfl, fun b hb => ⟨(below b (fpl b hb)).1, fun y c e => (by cases e)⟩, I2.bs, ?_, fun b o e hb => ?_, fun b hb => fpS b hb, I2.stack, I2.stkFree⟩
    · exfalso
      have e' : scope.names.lookup y = some .cell ∨ scope.names.lookup y = some .free := e
      rcases e' with e' | e'
      · exact hcell _ (PySem.mem_of_lookup e') rfl
      · exact hfree _ (PySem.mem_of_lookup e') rfl
    · exact Nat.le_trans I2.ok.bsz I2.sz
    · rcases (f2 b hb).2.2.2.1 with z | z
      · exact I2.ok.noex b o e z
      · exact absurd (Nat.lt_of_lt_of_le (Heap.lt_size (I2.ok.bs b o e).1) z) (Nat.lt_irrefl _)
  have I3 : ∀ tk, Inv (X.comp scope G.objs.size x s2 H2 fp) [] [none] (upd H2 s2.heap.objs.size (.lst [])) { s2 with heap := h₁, toks := tk } := fun tk =>
    ⟨okC, rfl, I2.bare, Un.laid old (Nat.le_refl _) nD, ⟨_, hns₁, fun i y v _ e _ => by
        cases i with
        | zero => cases e
        | succ i => simp at e⟩, fun y c e => (by cases e), (by show upd H2 s2.heap.objs.size _ G.objs.size = none; rw [upd_ne hDC.symm]; exact nC), fun y c e => (by cases e), fun p hp => (by simp at hp),
      I2.hok.laid old (Nat.le_refl _) ⟨Nat.zero_le _, [], _, .nil, hacc⟩, rfl⟩
  have stat : ∀ {H' : Hp}, (∀ b ∈ fp, H' b = none) → ∀ b ∈ fp, FpOk (X.comp scope G.objs.size x s2 H2 fp) [] H' b := fun hn b hb => ⟨hn b hb, (below b (fpl b hb)).1, fpS b hb, .inl hb, fun y c e => (by cases e), fun p hp => (by simp at hp)⟩
  have loop : ∀ tk, codeAny (model X.prog X.w) X.A (.compLoop (.ListComp elt [⟨.Name x px, iter, [], 0⟩] scope pos) 0 (.ref it) (.ref s2.heap.objs.size) (compEnv scope G.objs.size X.env)) (RR (.ref s2.heap.objs.size) (compEnv scope G.objs.size X.env)) { s2 with heap := h₁, toks := tk } := by
    intro tk
    obtain ⟨W, ⟨m0, w0⟩, turn⟩ := h s2.heap.objs.size nD
    refine codeAny_loop rfl (fun n s' => ∃ i v H', Inv (X.comp scope G.objs.size x s2 H2 fp) [] [v] H' s' ∧ tn i s'.heap ∧ (∀ b ∈ fp, H' b = none) ∧ W i n H') (fun n s' hI => ?_) m0
      ⟨0, none, _, I3 tk, T.keep 0 _ _ st2 (fun b hb o e => old b o e), fun b hb => (by rw [upd_ne (below b (fpl b hb)).2]; exact (f2 b hb).1), w0⟩
    obtain ⟨i, v, H', I, st, fr, w⟩ := hI
    show wpAny _ _ ((compTurn (.ListComp elt [⟨.Name x px, iter, [], 0⟩] scope pos) 0 (.ref it) (.ref s2.heap.objs.size) (compEnv scope G.objs.size X.env)).onRaise (fun x => do noteFrame x (compEnv scope G.objs.size X.env); theTreesLotGoes x)) _ _ s'
    refine wpAny_noted ?_
    rw [compTurn_list1]
    refine wpAny_bind (wpAny_standAt (wpAny_bind ?_))
    rcases turn i n H' w with ⟨stop, q⟩ | ⟨go, step⟩
    · refine thn (T.done (X.comp scope G.objs.size x s2 H2 fp) rfl rfl rfl hc i [] s' [v] H' _ I (stat fr) st stop) fun r s4 ⟨hr, I4⟩ => ?_
      subst hr
      refine wpAny_pure ?_
      obtain ⟨m, hn, _⟩ := I4.loc
      exact hR _ _ H' s4 m (I2.fpOk hCle I4.free) hn (I2.call' (ch := fp) I4.os I4.base I4.hok I4.bare fun b hb => ⟨(f2 b hb).2.2.2.1, (f2 b hb).2.1, (f2 b hb).2.2.2.2.1, (f2 b hb).2.2.2.2.2⟩) q
    · refine thn (T.item (X.comp scope G.objs.size x s2 H2 fp) rfl rfl rfl hc i [] s' [v] H' _ I (stat fr) st go) fun r s4 ⟨u, hr, h4⟩ => ?_
      subst hr
      refine wpAny_bind (thn h4 fun _ s5 ⟨y, H5, I5, r5, y5, st5, fr5⟩ => wpAny_bind ?_)
      have I5' := I5.pinned (stat fr5) (T.obj _ _ st5)
      refine wpAny_assign_Name (store_ok (i := 0) I5' (by simp) rfl (Or.inl hx) r5 (fun s6 I6 => ?_) (Or.inl rfl))
      refine wpAny_bind (wpAny_bind (thnF (he _ _ _ _ _ s6 [some y] H5 _ I6 (step y H5 y5)) fun u2 s7 ⟨y2, H7, I7, r7, ys, hD, hl, m', hm, w'⟩ => wpAny_bind ?_))
      refine thnF (mt_append _ s7 [some y] H7 (.ref s2.heap.objs.size) [y2] (.ref s2.heap.objs.size) [u2] (fun _ H8 => H8 = upd H7 s2.heap.objs.size (.lst (ys ++ [y2]))) I7 rfl (.cons r7 .nil) ⟨_, ys, y2, rfl, rfl, hD, hl, rfl⟩) fun _ s8 ⟨_, H8, I8, _, e8⟩ => ?_
      subst e8
      have pin : ∀ b ∈ fp, ∀ o, s5.heap.get? b = some o → s8.heap.get? b = some o ∧ upd H7 s2.heap.objs.size (HO.lst (ys ++ [y2])) b = none := fun b hb o e =>
        ⟨(I8.pin (b, o) (List.mem_append_right _ (List.mem_append_right _ (mem_pinsAt hb e)))).1, (I8.pin (b, o) (List.mem_append_right _ (List.mem_append_right _ (mem_pinsAt hb e)))).2.1⟩
      refine wpAny_pure (wpAny_pure ⟨rfl, m', hm, i + 1, some y, _, I8.unpinned, T.keep _ _ _ st5 fun b hb o e => (pin b hb o e).1, fun b hb => ?_, w'⟩)
      obtain ⟨o, e, d⟩ := T.obj _ _ st5 b hb
      exact (pin b hb o e).2
  exact codeAny_compStart_list (loop _) (T.self X.A 0 _ _ _ (T.keep 0 _ _ st2 (fun b hb o e => old b o e)) (loop _))
/-- a comprehension as a value -/
theorem pe_comp (hc : X.calm = true) (hi : PI X (.Name x px) iter wi) (he : ∀ (C : Addr) (s2 : Shared) (H2 : Hp) (fp : List Addr), PE (X.comp scope C x s2 H2 fp) elt te)
    (hfree : ∀ y ∈ scope.names, y.2 ≠ .free := by decide +kernel) (hcell : ∀ y ∈ scope.names, y.2 ≠ .cell := by decide +kernel) (hkind : scope.kind = .function := by rfl)
    (hnames : ∀ y ∈ scope.names, y.2 = .local → scope.names.lookup y.1 = some .local := by decide +kernel) (hx : scope.names.lookup x = some .local := by rfl) (hs : ∀ x, foldedSetIterable iter X.env x = pure x := by intro _; rfl) :
    PE X (.ListComp elt [⟨.Name x px, iter, [], 0⟩] scope pos) (tComp wi te) := by
  intro pins s σ H Q I h
  refine wpAny_ListComp hfree hkind hnames (thn (hi pins s σ H _ I h) fun v s1 h1 => thn h1 fun itv s2 h2 => ?_) hs
  obtain ⟨it, fp, tn, J, H2, e, I2, T, st2, f2, h⟩ := h2
  subst e
  refine comp_core (R := fun D H' => Q (.ref D) H') (RR := fun acc cenv r s' => ∃ m, s'.heap.Ns cenv.locals m ∧ ∀ h', Heap.SameBut cenv.locals s'.heap h' →
    match r with | .ok _ => EP X pins σ Q acc { s' with heap := h' } | .error x => wpAny (model X.prog X.w) X.A (passOn "comprehension.variables-let-go" x cenv) (EP X pins σ Q) X.xe { s' with heap := h' }) hc he hfree hcell hkind hx I2 T st2 f2 h ?_
  intro D C H' s' m f hn I' q
  refine ⟨m, hn, fun h' sb => ⟨.ref D, H', ?_, rfl, q⟩⟩
  exact I'.turned (t' := s'.toks) (fun b o hb e => sb.extBut b o hb e) f.1 f.2.1 f.2.2.2.1 f.2.2.2.2.1 f.2.2.2.2.2
theorem i_comp {wi : TI} {te : TE} {H : Hp} {Q : VK} (h : wi σ H fun J H1 => ∀ D, H1 D = none → tCompB J te D (fun H2 => Q (.ref D) H2) H1) : tComp wi te σ H Q := h
/-- over a list that the block leaves as it is -/
def cW (n : Nat) (Pv : Nat → Hp → Prop) (i m : Nat) (H : Hp) : Prop := m = n - i ∧ i ≤ n ∧ Pv i H
theorem comp_list {K : PySem.W.Frag} {a D : Addr} {xs : List V} {te : TE} {R : Hp → Prop} {H1 : Hp} (Pv : Nat → Hp → Prop) (h0 : Pv 0 (upd H1 D (.lst []))) (hl : ∀ i H, i ≤ xs.length → Pv i H → SqL K H a xs)
    (hs : ∀ i x H, xs[i]? = some x → i < xs.length → Pv i H → te [some x] H fun y H4 => ∃ ys, H4 D = some (.lst ys) ∧ ys.length < sizeLine ∧ ∃ m', m' < xs.length - i ∧ cW xs.length Pv (i + 1) m' (upd H4 D (.lst (ys ++ [y]))))
    (hd : ∀ H, Pv xs.length H → R H) : tCompB (Itl K a) te D R H1 := by
  refine ⟨cW xs.length Pv, ⟨xs.length, by simp, Nat.zero_le _, h0⟩, ?_⟩
  rintro i m H ⟨rfl, hi, p⟩
  have q := hl i H hi p
  by_cases hlt : i < xs.length
  · refine .inr ⟨⟨xs, xs[i], q, by simp [hlt]⟩, fun x H' y => ?_⟩
    obtain ⟨e, y⟩ := y
    subst e
    exact hs i x _ (y xs q) hlt p
  · have e : i = xs.length := by omega
    subst e
    exact .inl ⟨⟨xs, q, Nat.le_refl _⟩, hd H p⟩
theorem comp_next {n i : Nat} {Pv : Nat → Hp → Prop} {D : Addr} {ys : List V} {y : V} {H4 : Hp} (hD : H4 D = some (.lst ys)) (hl : ys.length < sizeLine) (hi : i < n) (p : Pv (i + 1) (upd H4 D (.lst (ys ++ [y])))) :
    ∃ ys, H4 D = some (.lst ys) ∧ ys.length < sizeLine ∧ ∃ m', m' < n - i ∧ cW n Pv (i + 1) m' (upd H4 D (.lst (ys ++ [y]))) := ⟨ys, hD, hl, n - (i + 1), by omega, rfl, hi, p⟩
end
end L2
namespace L2
open PySem
def notStar : Expr → Bool
  | .Starred _ _ => false
  | _ => true
theorem star_ok {e : Expr} {es : List Expr} {env : Env} (h : notStar e = true) : starEach (e :: es) env = (false, eval e env) :: starEach es env := by
  cases e <;> first | rfl | cases h
end L2
/-! ERRORS of one's own over the layer: raised in a def, passed on by defs, taken by a try with one clause -/
namespace L2
open PySem PySem.Spec PyProof.Rows
/-- what the fragment tells of an own error class without methods -/
structure XCls (K : PySem.W.Frag) (C : Addr) : Prop where
  hd : PySem.W.hasDictIn K C = true
  ga : PySem.W.findIn K (.ref C) "__getattribute__" = some (some (.builtin "BaseException.__getattribute__"))
  gt : PySem.W.findIn K (.ref C) "__getattr__" = some none
  ca : PySem.W.findIn K (.ref C) "__class__" = some (some (.builtin "object.__class__"))
  gg : PySem.W.specialIn K (.builtin "object.__class__") "__get__" = some (some (.builtin "getset_descriptor.__get__"))
  tk : PySem.W.takesIn K (.builtin "object.__class__") = some true
  mo : PySem.W.mroIn K C (.type "object") = some true
  mb : PySem.W.mroIn K C (.type "BaseException") = some true
theorem XCls.cl {K : PySem.W.Frag} {C : Addr} (c : XCls K C) : (PySem.W.clsIn K C).isSome = true := by
  obtain ⟨cd, h, _⟩ := PySem.W.any_some c.hd
  rw [h]; rfl
/-- an error of a class is taken by a clause of its base -/
theorem exm_mk {K : PySem.W.Frag} {C D : Addr} (h0 : PySem.W.subIn K (.ref D) (.type "BaseException") = some true) (h1 : PySem.W.hasDictIn K D = true) (h2 : PySem.W.typeIn K (.ref D) = some (.type "type"))
    (h3 : PySem.W.subIn K (.ref C) (.ref D) = some true) : PySem.W.exmOne K (.ref C) (.ref D) = some true := by
  obtain ⟨cd, h, _⟩ := PySem.W.any_some h1
  unfold PySem.W.exmOne PySem.W.kitCls
  rw [h0]
  dsimp only
  rw [h, h2, h3]
  rfl
/-- an error of the class at C stands at x -/
def ExAt (x C : Addr) (h : Heap) : Prop := ∃ ox, h.get? x = some ox ∧ ox.cls = .ref C
section
variable {prog : Program} {w : World} {A : Around} {E : Value → Shared → Prop} {s : Shared} {K : PySem.W.Frag} {x C : Addr}
theorem ExAt.type {M : Model} {h : Heap} (I : ExAt x C h) : PySem.W.Looks M h (typeOf (.ref x)) (.ref C) := by
  obtain ⟨ox, h1, h2⟩ := I
  exact h2 ▸ (PySem.W.Looks.ld h1).andThen .now
theorem XCls.finds (c : XCls K C) {M : Model} {h : Heap} (X : K.In h) : PySem.W.Looks M h (Builtin.ObjectAttr.find (.ref x) (.ref C) "__class__") (.bind (.builtin "getset_descriptor.__get__") (.builtin "object.__class__")) := by
  have L1 := PySem.W.looks_findIn (M := M) X c.ca
  have L2 : PySem.W.Looks M h (Builtin.ObjectAttr.getOf (some (.builtin "object.__class__"))) (some (.builtin "getset_descriptor.__get__")) := PySem.W.looks_specialIn X c.gg
  have L3 : PySem.W.Looks M h (Builtin.ObjectAttr.dataDescriptor? (some (.builtin "object.__class__")) (some (.builtin "getset_descriptor.__get__"))) (some (.builtin "getset_descriptor.__get__", .builtin "object.__class__")) := (PySem.W.looks_takesIn X c.tk).andThen .now
  exact L1.andThen (L2.andThen (L3.andThen (PySem.W.Looks.tag .now)))
theorem exc_get {R : Result → Shared → Prop} {tp : Value} (c : XCls K C) (X : K.In s.heap) (I : ExAt x C s.heap) (h : R (.ok (.ret (.ref C))) s) :
    codeAny (model prog w) A (.call (.builtin "getset_descriptor.__get__") ⟨[.builtin "object.__class__", .ref x, tp], []⟩) R s := by
  obtain ⟨hh, g, dr, t, os⟩ := s
  have T0 := I.type (M := model prog w)
  have T1 := PySem.W.looks_mroIn (M := model prog w) X c.mo
  refine codeAny_call_builtin PySem.W.KF.slot_gs.plain PySem.W.KF.entry_gs (PySem.W.KF.slot_gs.check _ _ _ _ _ _ _ _ PySem.W.KF.type_class (PySem.W.KF.args_gs _ _ _) ?_)
  unfold Builtin.«getset_descriptor.__get__» Builtin.Getset_descriptor.descrGet
  rw [PySem.W.dga_obj]
  refine wpAny_bind (wpAny_pure ?_)
  unfold Builtin.Getset_descriptor.descrGetter Builtin.Getset_descriptor.descrCheckInstance Builtin.Getset_descriptor.descrNameAndClass isInstance
  simp only [PySem.W.KF.owner_class]
  repeat lk
  refine ⟨Code.quiet_builtin _ (by decide +kernel), codeAny_builtin PySem.W.KF.entry_class ?_⟩
  unfold Builtin.«object.__class__» shownTypeOf
  repeat lk
  exact h
theorem exc_class (c : XCls K C) {Q : Option Value → Shared → Prop} (X : K.In s.heap) (I : ExAt x C s.heap) (h : Q (some (.ref C)) { s with toks := s.toks + 1 }) :
    wpAny (model prog w) A (getAttr? (.ref x) "__class__") Q E s := by
  obtain ⟨hh, g, d, t, os⟩ := s
  have L0 := I.type (M := model prog w)
  have L1 := PySem.W.looks_findIn (M := model prog w) X c.ga
  have L2 := PySem.W.looks_findIn (M := model prog w) X c.gt
  have L3 : PySem.W.Looks (model prog w) hh (isInstance (.ref x) (.type "BaseException")) true := L0.andThen (PySem.W.looks_mroIn X c.mb)
  have L4 := c.finds (x := x) (M := model prog w) X
  unfold getAttr? getAttrBy? getAttrBy
  refine wpAny_bind (wpAny_mkText (wpAny_bind (wpAny_attempt (wpAny_holding (wpAny_bind (L0.at (wpAny_bind (L1.at ?_))))))))
  have e0 : (onTheHeap (Value.ref C) && Value.builtin "BaseException.__getattribute__" == Value.builtin "object.__getattribute__") = false := by
    have z : (Value.builtin "BaseException.__getattribute__" == Value.builtin "object.__getattribute__") = false := by decide +kernel
    rw [z]; rfl
  dsimp only
  rw [e0]
  unfold getAttrByItsOwn hookBefore
  rw [if_neg Bool.false_ne_true]
  refine wpAny_bind ?_
  rw [if_pos (show onTheHeap (.ref C) = true from rfl)]
  refine L2.at ?_
  refine wpAny_bind (wpAny_attempt (wpAny_holding ?_))
  unfold callGetattribute
  rw [if_neg (by simp)]
  unfold boundAndCalled
  rw [F.attr_ValueError.ga.bind (.ref x)]
  refine wpAny_bind (wpAny_pure ?_)
  refine wpAny_call (codeAny_call_builtin F.attr_ValueError.ga.plain F.entry_bexc_ga ?_)
  have hk : builtinKind "BaseException.__getattribute__" = some .slot := by decide +kernel
  have hsplit : splitId "BaseException.__getattribute__" = some ("BaseException", "__getattribute__") := by decide +kernel
  have ha := F.args_bexc_ga (.ref x) (.str "__class__" t)
  simp only [checkBuiltinCall, hk, hsplit, List.cons_append, List.nil_append]
  refine wpAny_bind (L3.at ?_)
  rw [if_neg (by simp)]
  refine wpAny_of_eq ha ?_
  unfold Builtin.«object.__getattribute__»
  have e1 : slotArgs "__getattribute__" 1 ⟨[Value.ref x, Value.str "__class__" t], []⟩ = pure (Value.ref x, [Value.str "__class__" t]) := by kernel_rfl
  have e2 : Builtin.ObjectAttr.attrName (Value.str "__class__" t) = pure "__class__" := by kernel_rfl
  refine wpAny_bind (wpAny_of_eq e1 ?_)
  dsimp only
  refine wpAny_bind (wpAny_of_eq e2 ?_)
  refine wpAny_bind (L0.at ?_)
  refine wpAny_bind (L4.at ?_)
  dsimp only
  show wpAny _ _ (holding [_] (call _ [_, _, _]) >>= ret) _ _ _
  refine wpAny_bind (wpAny_holding (wpAny_call (exc_get (s := ⟨hh, g, d, t + 1, os⟩) c X I ?_)))
  refine wpAny_pure ?_
  exact PySem.W.handed_on rfl (wpAny_pure h)
theorem exc_kit (c : XCls K C) : PySem.W.KitX K (.ref x) (.ref C) (ExAt x C) where
  ty := fun _ _ _ I => I.type
  it := fun M h X _ => by
    obtain ⟨cd, hc⟩ := Option.isSome_iff_exists.mp c.cl
    unfold PySem.W.clsIn at hc
    split at hc
    · rename_i there
      intro A' Q' E' s' k q
      unfold isType loadHead
      exact wpAny_bind (wpAny_loadPart (k _ _ (X _ _ there)) (wpAny_pure q))
    · cases hc
  ne := fun h tp dd its n sl X htp => by
    obtain ⟨cd, hc⟩ := Option.isSome_iff_exists.mp c.cl
    refine Bool.eq_false_iff.mpr fun q => ?_
    obtain rfl : C = tp := Value.ref.inj (beq_iff_eq.mp q)
    unfold PySem.W.clsIn at hc
    split at hc
    · rename_i there
      cases (X _ _ there).symm.trans htp
    · cases hc
  ca := fun X I k => exc_class c X I k
end

/-! ### isinstance of an error -/
section
variable {X : Cx}
theorem exc_obj {pins : List (Addr × Obj)} {σ : St} {H : Hp} {s : Shared} {x C : Addr} (I : Inv X pins σ H s) (e : H x = some (.ext (ExAt x C))) : ExAt x C s.heap := (show ObjOk X.prog X.w H s.heap x (.ext (ExAt x C)) from I.hok x _ e).1
/-- isinstance(e, c) -/
def rIsX (K : PySem.W.Frag) : List V → Hp → VK → Prop := fun xs H Q => ∃ x cv C c k, xs = [.ref x, cv] ∧ RelV cv c ∧ (∀ u, RelV cv u → u = c) ∧ H x = some (.ext (ExAt x C)) ∧ XCls K C ∧ PySem.W.kitOne K (.ref C) c = some k ∧ Q (.bl k) H
theorem call_isX : CallR X (.builtin "isinstance") (rIsX X.K) := by
  intro pins s σ H xs us Q I r h
  obtain ⟨x, cv, C, c, k, rfl, _, hc, ex, cl, e, q⟩ := h
  obtain ⟨u, u', rfl, rx, rc⟩ := vals2 r
  obtain rfl := hc u' rc
  obtain rfl : u = Value.ref x := rx
  exact PySem.W.kia_one (exc_kit cl) I.kIn (exc_obj I ex) e (fun z => nomatch z) fun tk => ⟨.bl k, H, I.tok tk, rfl, q⟩
theorem vals_refs : ∀ {Cs : List Addr} {us : List Value}, Vals (Cs.map V.ref) us → us = Cs.map Value.ref
  | [], _, .nil => rfl
  | C :: r, _, .cons a t => by rw [show _ = Value.ref C from a, vals_refs t]; rfl
/-- isinstance(e, (c1, c2, ..)) of own classes -/
def rIsXT (K : PySem.W.Frag) : List V → Hp → VK → Prop := fun xs H Q => ∃ x tp C Cs k, xs = [.ref x, .ref tp] ∧ H tp = some (.tup (List.map V.ref Cs)) ∧ H x = some (.ext (ExAt x C)) ∧ XCls K C ∧ PySem.W.kitAny K (.ref C) (Cs.map Value.ref) = some k ∧ Q (.bl k) H
theorem call_isXT : CallR X (.builtin "isinstance") (rIsXT X.K) := by
  intro pins s σ H xs us Q I r h
  obtain ⟨x, tp, C, Cs, k, rfl, et, ex, cl, e, q⟩ := h
  obtain ⟨u, u', rfl, rx, rc⟩ := vals2 r
  obtain rfl : u = Value.ref x := rx
  obtain rfl : u' = Value.ref tp := rc
  obtain ⟨_, its, vs, p⟩ := (show ObjOk X.prog X.w H s.heap tp (.tup (Cs.map V.ref)) from I.hok tp _ et)
  obtain ⟨o, h1, h2, n, h3⟩ := p
  obtain ⟨oc, od, odt, osl⟩ := o
  dsimp only at h2 h3
  subst h2 h3
  rw [vals_refs vs] at h1
  exact PySem.W.kia_tup (exc_kit cl) I.kIn (exc_obj I ex) h1 e (fun z => nomatch z) fun tk => ⟨.bl k, H, I.tok tk, rfl, q⟩
end
end L2
namespace L2
open PySem PySem.Spec PyProof.Rows
/-! ### a record of ours that nobody else knows -/
theorem ObjOk.there {P : Program} {w : World} {H : Hp} {h : Heap} {a : Addr} {o : HO} (x : ObjOk P w H h a o) : ∃ ob, h.get? a = some ob := by
  cases o with
  | lst xs => obtain ⟨_, _, _, _, e⟩ := x; exact ⟨_, e⟩
  | tup xs => obtain ⟨_, _, _, ob, e, _⟩ := x; exact ⟨_, e⟩
  | dK kvs => obtain ⟨_, _, _, _, ob, _, _, e, _⟩ := x; exact ⟨_, e⟩
  | dT kvs => obtain ⟨_, _, _, _, ob, _, _, e, _⟩ := x; exact ⟨_, e⟩
  | set S n => obtain ⟨ob, _, _, _, e, _⟩ := x; exact ⟨_, e⟩
  | ins C dx fs => obtain ⟨_, _, _, e, _⟩ := x; exact ⟨_, e⟩
  | own y => exact x
  | xd fs => obtain ⟨_, ⟨_, _, _, e, _⟩, _⟩ := x; exact ⟨_, e⟩
  | rng lo hi => obtain ⟨_, _, _, e⟩ := x; exact ⟨_, e⟩
  | frz ob u => obtain ⟨e, _⟩ := x; exact ⟨_, e⟩
  | tbl ps => exact ⟨_, (show h.get? a = some _ from x)⟩
  | met f y => exact ⟨_, (show h.get? a = some _ from x)⟩
  | ext φ => obtain ⟨_, e, _⟩ := x; exact e
theorem HOk.none_of {P : Program} {w : World} {H : Hp} {h : Heap} {a : Addr} (x : HOk P w H h) (e : h.get? a = none) : H a = none := by
  cases q : H a with
  | none => rfl
  | some u =>
    obtain ⟨ob, z⟩ := (x a u q).there
    rw [e] at z
    cases z
def Fy (X : Cx) (pins : List (Addr × Obj)) (H : Hp) (b : Addr) : Prop :=
  H b = none ∧ b ≠ X.env.locals ∧ b ∉ X.fs ∧ (b ∈ X.ex ∨ X.s₀.heap.get? b = none) ∧ (∀ y c, X.env.cells.lookup y = some c → c ≠ b) ∧ ∀ p ∈ X.pn ++ pins, p.1 ≠ b
section
variable {X : Cx} {pins : List (Addr × Obj)} {σ : St} {H H' : Hp} {s : Shared} {b x T : Addr} {h' : Heap}
theorem fy_new (I : Inv X pins σ H s) (hb : s.heap.get? b = none) (hn : H' b = none) : Fy X pins H' b := by
  refine ⟨hn, ?_, ?_, ?_, ?_, ?_⟩
  · rintro rfl
    obtain ⟨_, ⟨_, _, _, e, _⟩, _⟩ := I.loc
    rw [hb] at e; cases e
  · intro z
    obtain ⟨_, o, e, _⟩ := I.funs.mem z
    rw [hb] at e; cases e
  · by_cases hx : b ∈ X.ex
    · exact .inl hx
    · refine .inr ?_
      cases q : X.s₀.heap.get? b with
      | none => rfl
      | some o =>
        obtain ⟨_, e⟩ := I.base.there b o q hx
        rw [hb] at e; cases e
  · rintro y c e rfl
    obtain ⟨_, _, q, _⟩ := I.cell y c e
    rw [hb] at q; cases q
  · intro p hp z
    have q := (I.pin p hp).1
    rw [z, hb] at q; cases q
/-- nothing but the records at x and T, and slots of the frames that run, has changed -/
theorem Inv.fly (I : Inv X pins σ H s) (hx : Fy X pins H x) (hT : Fy X pins H T)
    (keep : ∀ b o, b ≠ x → b ≠ T → b ∉ frs X.stack → s.heap.get? b = some o → h'.get? b = some o)
    (slot : ∀ b o, b ∈ frs X.stack → s.heap.get? b = some o → ∃ sl, h'.get? b = some { o with slots := sl }) : Inv X pins σ H { s with heap := h' } := by
  have ent : ∀ {y b o}, Fy X pins H y → X.s₀.heap.get? b = some o → b ∉ X.ex → b ≠ y := fun {y b o} hy e he z => by
    subst z
    rcases hy.2.2.2.1 with q | q
    · exact he q
    · rw [e] at q; cases q
  have any : ∀ b o, b ≠ x → b ≠ T → s.heap.get? b = some o → ∃ sl, h'.get? b = some { o with slots := sl } := fun b o h1 h2 e => by
    by_cases z : b ∈ frs X.stack
    · exact slot b o z e
    · exact ⟨o.slots, keep b o h1 h2 z e⟩
  have cellK : ∀ y c, X.env.cells.lookup y = some c → ∀ v, s.heap.IsCell c v → h'.IsCell c v := fun y c e v ⟨o, ho, hd⟩ => by
    obtain ⟨sl, q⟩ := any c o (hx.2.2.2.2.1 y c e) (hT.2.2.2.2.1 y c e) ho
    exact ⟨_, q, hd⟩
  refine ⟨I.ok, I.os, I.bare, ⟨fun b o e n hb he => ?_, fun b o e n hb he => ?_, I.base.free, fun b o e he => ?_, I.base.tups, I.base.frzs, I.base.tbls⟩, ?_, fun y c e => ?_, I.free, I.freeC, fun p hp => ?_, fun b u e => ?_, I.len⟩
  · refine keep b o (ent hx e he) (ent hT e he) (fun z => ?_) (I.base.keep b o e n hb he)
    rcases List.mem_cons.mp (I.stkSub b z) with q | q
    · exact absurd q (Nat.ne_of_lt (Nat.lt_of_lt_of_le (Heap.lt_size e) I.ok.above))
    · exact hb q
  · obtain ⟨sl, e1⟩ := I.base.slot b o e n hb he
    obtain ⟨sl', e2⟩ := any b _ (ent hx e he) (ent hT e he) e1
    exact ⟨sl', e2⟩
  · obtain ⟨o', e1⟩ := I.base.there b o e he
    obtain ⟨sl', e2⟩ := any b _ (ent hx e he) (ent hT e he) e1
    exact ⟨_, e2⟩
  · obtain ⟨m, hn, hl⟩ := I.loc
    refine ⟨m, ?_, fun i y v e1 e2 e3 => ?_⟩
    · obtain ⟨o, es, ep, ho, r⟩ := hn
      obtain ⟨sl, q⟩ := any _ o (Ne.symm hx.2.1) (Ne.symm hT.2.1) ho
      exact ⟨_, es, ep, q, r⟩
    · obtain ⟨u, r, l⟩ := hl i y v e1 e2 e3
      refine ⟨u, r, ?_⟩
      rcases l with l | ⟨k, c, e, z⟩
      · exact .inl l
      · exact .inr ⟨k, c, e, cellK y c e _ z⟩
  · obtain ⟨v, z⟩ := I.cell y c e
    exact ⟨v, cellK y c e v z⟩
  · obtain ⟨e, n, ne, nf, d⟩ := I.pin p hp
    refine ⟨keep p.1 p.2 (hx.2.2.2.2.2 p hp) (hT.2.2.2.2.2 p hp) (fun z => ?_) e, n, ne, nf, d⟩
    rcases List.mem_cons.mp (I.stkSub _ z) with q | q
    · exact ne q
    · exact nf q
  · have tr : ∀ c v, H c = some v → c ≠ x ∧ c ≠ T ∧ c ∉ frs X.stack := fun c v q =>
      ⟨fun z => (by rw [z, hx.1] at q; cases q), fun z => (by rw [z, hT.1] at q; cases q), fun z => (by rw [I.stkFree c z] at q; cases q)⟩
    refine (I.hok b u e).stay (fun c v hc q => ?_) (fun _ q => q) fun _ _ q => q
    obtain ⟨z1, z2, z3⟩ : c ≠ x ∧ c ≠ T ∧ c ∉ frs X.stack := by
      rcases hc with rfl | hc
      · exact tr _ _ e
      · exact tr _ _ hc
    exact keep c v z1 z2 z3 q
/-- the error at x of the class C, with the record of its way at T -/
def Trd (h : Heap) (x T : Addr) (C fl : Value) : Prop :=
  ∃ oe vs oT ts a0, h.get? x = some oe ∧ (oe.cls = C ∧ vs[0]? = some a0) ∧ oe.data = .fields vs ∧ vs[1]? = some (.ref T) ∧ T ≠ x ∧ h.get? T = some oT ∧ oT.data = .fields ts ∧ ts[3]? = some fl
/-- all but the error, the record of its way, the frames -/
def hid (s : Shared) (X : Cx) (x T : Addr) : Heap := PySem.W.hideAll s.heap (x :: T :: frs X.stack)
theorem hid_in : (hid s X x T).StaysIn s.heap := fun _ _ e => PySem.W.of_hideAll _ e
theorem hid_x : (hid s X x T).get? x = none := PySem.W.hideAll_none _ (.head _)
theorem hid_T : (hid s X x T).get? T = none := PySem.W.hideAll_none _ (.tail _ (.head _))
theorem hid_fr (I : Inv X pins σ H s) : s.heap.FunFrames (hid s X x T) X.stack :=
  PySem.W.funFrames_hide I.stack fun env he a ha => .tail _ (.tail _ (List.mem_filterMap.mpr ⟨env, he, ha⟩))
theorem trd_at {C fl : Value} (t : Trd s.heap x T C fl) : ∃ a0, s.heap.TracedAtW (hid s X x T) x C a0 fl := by
  obtain ⟨oe, vs, oT, ts, a0, h1, h2, h3, h4, h5, h6, h7, h8⟩ := t
  exact ⟨a0, oe, vs, T, oT, ts, h1, h2, h3, h4, hid_T, h5, h6, h7, h8⟩
theorem fly_after {C a0 fl : Value} (I : Inv X pins σ H s) (hx : Fy X pins H x) (hT : Fy X pins H T) (k1 : (hid s X x T).StaysIn h') (k2 : h'.FunFrames (hid s X x T) X.stack) (k3 : h'.TracedAtW (hid s X x T) x C a0 fl)
    (k4 : ∀ b o, s.heap.get? b = some o → (∀ vs, o.data ≠ .fields vs) → ∃ sl, h'.get? b = some { o with slots := sl }) :
    Inv X pins σ H { s with heap := h' } ∧ ∃ T', Fy X pins H T' ∧ Trd h' x T' C fl := by
  refine ⟨I.fly hx hT (fun b o n1 n2 n3 e => k1 b o (PySem.W.hideAll_get _ e fun z => ?_)) fun b o hb e => ?_, ?_⟩
  · rcases List.mem_cons.mp z with z | z
    · exact n1 z
    · rcases List.mem_cons.mp z with z | z
      · exact n2 z
      · exact n3 z
  · obtain ⟨_, o', e', nf⟩ := I.stack.mem hb
    rw [e] at e'; cases e'
    exact k4 b o e nf
  · obtain ⟨oe, vs, T', oT, ts, h1, h2, h3, h4, h5, h6, h7, h8, h9⟩ := k3
    refine ⟨T', ?_, oe, vs, oT, ts, a0, h1, h2, h3, h4, h6, h7, h8, h9⟩
    by_cases q : T' = T
    · rw [q]; exact hT
    · cases e : s.heap.get? T' with
      | none => exact fy_new I e (I.hok.none_of e)
      | some o =>
        have z : T' ∈ frs X.stack := Classical.byContradiction fun z => by
          have := PySem.W.hideAll_get (x :: T :: frs X.stack) e (fun m => by
            rcases List.mem_cons.mp m with m | m
            · exact h6 m
            · rcases List.mem_cons.mp m with m | m
              · exact q m
              · exact z m)
          rw [show (PySem.W.hideAll s.heap (x :: T :: frs X.stack)).get? T' = none from h5] at this
          cases this
        obtain ⟨_, o', e', nf⟩ := k2.mem z
        rw [h7] at e'; cases e'
        exact absurd h8 (nf _)
end

/-! ### how an error leaves a call -/
def CXe (P : Program) (w : World) : CXT := fun outer H s E e s' => ∃ x T C H', e = .ref x ∧ s'.os = s.os ∧ AllBare s'.gens ∧ Un (frs outer) [] H H' s.heap s'.heap ∧ HOk P w H' s'.heap ∧
  (H' x = none ∧ s.heap.get? x = none) ∧ (H' T = none ∧ s.heap.get? T = none) ∧ Trd s'.heap x T C .none ∧ E C none H'
/-- an error that comes to this body reaches what it wants -/
def Catch (X : Cx) (Ex : St → XK) : Prop := ∀ (pins : List (Addr × Obj)) (σ : St) (H : Hp) (s' : Shared) (x T : Addr) (C : Value), Inv X pins σ H s' → Fy X pins H x → Fy X pins H T → Trd s'.heap x T C .none → Ex σ C none H → X.xe (.ref x) s'
theorem catch_fn {P : Program} {w : World} {K : PySem.W.Frag} {mg : Str → Option Value} {base : Heap} {N : List Str} {qual : Str} {scope : Scope} {f : Addr} {cd : Value} {A : Around} {outer : List Env} {s : Shared} {H : Hp} {E : XK} :
    Catch (cxOf (CXe P w) P w K mg base N qual scope f cd A outer s H E) (fun _ => E) := by
  intro pins σ H1 s' x T C I hx hT tr q
  show wpAny _ _ (leaving _ _) _ _ _
  obtain ⟨a0, ta⟩ := trd_at (X := cxOf (CXe P w) P w K mg base N qual scope f cd A outer s H E) tr
  refine wpAny_leaving_nextW (base := hid s' (cxOf (CXe P w) P w K mg base N qual scope f cd A outer s H E) x T) (L := s.heap.objs.size) I.ok.frames (hid_fr I) rfl ta hid_in hid_x fun h' ⟨k1, k2, k3, k4⟩ => ?_
  obtain ⟨I', T', hT', t'⟩ := fly_after I hx hT k1 k2 k3 k4
  have new : ∀ {b}, Fy (cxOf (CXe P w) P w K mg base N qual scope f cd A outer s H E) pins H1 b → H1 b = none ∧ s.heap.get? b = none := fun hb => ⟨hb.1, hb.2.2.2.1.resolve_left (by intro z; cases z)⟩
  exact ⟨x, T', C, H1, rfl, I'.os, I'.bare, I'.base, I'.hok, new hx, new hT', t', q⟩
/-- a new error, made and raised here -/
theorem raise_fn {P : Program} {w : World} {K : PySem.W.Frag} {mg : Str → Option Value} {base : Heap} {N : List Str} {qual : Str} {scope : Scope} {f : Addr} {cd : Value} {A : Around} {outer : List Env} {s : Shared} {H : Hp} {E : XK}
    {pins : List (Addr × Obj)} {σ : St} {H1 : Hp} {s1 : Shared} {h' : Heap} {x : Addr} {C : Value} {vs : List Value} (I : Inv (cxOf (CXe P w) P w K mg base N qual scope f cd A outer s H E) pins σ H1 s1) (m : Heap.MadeExcOf s1.heap h' x C vs) (q : E C none H1) :
    (cxOf (CXe P w) P w K mg base N qual scope f cd A outer s H E).xe (.ref x) { s1 with heap := h' } := by
  obtain ⟨t, he, _, _⟩ := m.there
  have hx : Fy (cxOf (CXe P w) P w K mg base N qual scope f cd A outer s H E) pins H1 x := fy_new I m.new (I.hok.none_of m.new)
  have I1 : Inv (cxOf (CXe P w) P w K mg base N qual scope f cd A outer s H E) pins σ H1 { s1 with heap := h' } := I.kept (t' := s1.toks) m.keeps
  show wpAny _ _ (leaving _ _) _ _ _
  refine wpAny_leaving_firstW (base := hid { s1 with heap := h' } (cxOf (CXe P w) P w K mg base N qual scope f cd A outer s H E) x x) (L := s.heap.objs.size) (a0 := .ref t) I1.ok.frames (hid_fr I1) rfl he hid_in hid_x rfl rfl rfl fun h'' ⟨k1, k2, k3, k4⟩ => ?_
  obtain ⟨I', T', hT', t'⟩ := fly_after I1 hx hx k1 k2 k3 k4
  have new : ∀ {b}, Fy (cxOf (CXe P w) P w K mg base N qual scope f cd A outer s H E) pins H1 b → H1 b = none ∧ s.heap.get? b = none := fun hb => ⟨hb.1, hb.2.2.2.1.resolve_left (by intro z; cases z)⟩
  exact ⟨x, T', C, H1, rfl, I'.os, I'.bare, I'.base, I'.hok, new hx, new hT', t', q⟩
end L2
namespace L2
open PySem PySem.Spec PyProof.Rows
/-! ### calls whose errors are wanted -/
def tCallE (sp : Sp) (dvs : List V) (Ex : St → XK) (t : TA) : TE := fun σ H Q => t σ H fun vs H1 => sp (vs ++ dvs) H1 Q (Ex σ)
def tMethE (C : Addr) (m : Str) (sp : Sp) (dvs : List V) (Ex : St → XK) (ta : TE) (t : TA) : TE := fun σ H Q => ta σ H fun x H1 => ∃ a dx fs, x = .ref a ∧ H1 a = some (.ins C dx fs) ∧ fs.lookup m = none ∧
  t σ H1 fun vs H2 => sp (x :: (vs ++ dvs)) H2 Q (Ex σ)
def tMakeE (C : Addr) (sp : Sp) (dvs : List V) (Ex : St → XK) (t : TA) : TE := fun σ H Q => t σ H fun vs H1 => ∀ x dx, H1 x = none → H1 dx = none → dx ≠ x →
  sp (.ref x :: (vs ++ dvs)) (upd (upd H1 dx (.own x)) x (.ins C dx [])) (fun v H2 => v = .non ∧ Q (.ref x) H2) (Ex σ)
section
variable {X : Cx} {k : Nat} {f C : Addr} {fd : FuncData} {ps : List Str} {sp : Sp} {dvs : List V} {ds : List Value} {Ex : St → XK} {x m : Str} {p pos apos : Pos} {e o : Expr} {es : List Expr} {ta : TE} {t : TA}
/-- the error that left a callee has come to this body -/
theorem Inv.came {pins : List (Addr × Obj)} {σ : St} {H : Hp} {s s' : Shared} {v : Value} (I : Inv X pins σ H s) (hc : Catch X Ex) (h : CXe X.prog X.w X.stack H s (Ex σ) v s') : X.xe v s' := by
  obtain ⟨y, T, D, H', rfl, os, bare, un, hok, hy, hT, tr, q⟩ := h
  exact hc pins σ H' s' y T D (I.call' os un hok bare fun b z => absurd z (by simp)) (fy_new I hy.2 hy.1) (fy_new I hT.2 hT.1) tr q
theorem run_fnE {pins : List (Addr × Obj)} {σ : St} {H : Hp} {s : Shared} {Q : VK} {us : List Value} {vs : List V} (F : FnOk X.prog X.w X.K X.mg X.base (CXe X.prog X.w) k f fd ps sp) (hr : Room k X.A) (hb : Binds X.K fd ps ds) (hd : Vals dvs ds) (hc : Catch X Ex)
    (I : Inv X pins σ H s) (r : Vals vs us) (h : sp (vs ++ dvs) H Q (Ex σ)) : wpAny (model X.prog X.w) X.A (call (.ref f) us) (EP X pins σ Q) X.xe s := by
  have r2 : Vals (vs ++ dvs) (us ++ ds) := r.append hd
  have hl : (us ++ ds).length = ps.length := by rw [← r2.length]; exact F.len _ _ _ _ h
  refine wpAny_call (codeAny_mono (F.run X.A X.stack s H ⟨us, []⟩ (us ++ ds) (vs ++ dvs) Q (Ex σ) hr I.env0 (hb s us I.kIn hl) r2 h) fun r s' hq => ?_)
  cases r with
  | error e => exact I.came hc hq
  | ok fl =>
    cases fl with
    | ret u => exact I.after hq
    | next => exact False.elim hq
    | brk => exact False.elim hq
    | cont => exact False.elim hq
theorem pe_callE (F : FnOk X.prog X.w X.K X.mg X.base (CXe X.prog X.w) k f fd ps sp) (hr : Room k X.A) (hg : Gl X x) (hm : X.mg x = some (.ref f)) (hk : PySem.W.keepIn X.K (.ref f) = true) (hb : Binds X.K fd ps ds) (hd : Vals dvs ds) (hc : Catch X Ex)
    (ha : PA X (e :: es) t) (hdb : (x == ("__debug__" : Str)) = false := by decide) (he : starEach (e :: es) X.env = (false, eval e X.env) :: starEach es X.env := by rfl) (hpl : (backTo pos (starEach es X.env)).any (·.1) = false := by rfl) :
    PE X (.Call (.Name x p) (e :: es) [] pos) (tCallE sp dvs Ex t) := by
  intro pins s σ H Q I h
  refine wpAny_Call_Name_kw (ld_glob I hg hm ?_ hdb)
  refine PySem.W.callWith_K (h₀ := X.base) I.ok.mod.kin hk (thn (ha pos pins s σ H _ I h) fun us s1 ⟨vs, H1, I1, r, q⟩ => ⟨I1.kIn, ?_⟩) he hpl
  exact run_fnE F hr hb hd hc I1 r q
theorem pe_methE {pl : Sem Bool} (he : PE X o ta) (c : Cls X.K C) (hm : Meth X.K C m f) (F : FnOk X.prog X.w X.K X.mg X.base (CXe X.prog X.w) k f fd ps sp) (hr : Room k X.A) (hb : Binds X.K fd ps ds) (hd : Vals dvs ds) (hc : Catch X Ex) (ha : PA X (e :: es) t)
    (hst : starEach (e :: es) X.env = (false, eval e X.env) :: starEach es X.env := by rfl) (hpl : (backTo pos (starEach es X.env)).any (·.1) = false := by rfl)
    (ht : eval (.Call (.Attribute o m apos) (e :: es) [] pos) X.env = (do
      let ov ← eval o X.env
      standAt apos.atName
      let (f, first) ← holding [ov] (getMethod ov m pl)
      callWith pos f first (backTo pos (starEach (e :: es) X.env)) (backToKw pos (keywordEach [] X.env))) := by rfl) :
    PE X (.Call (.Attribute o m apos) (e :: es) [] pos) (tMethE C m sp dvs Ex ta t) := by
  intro pins s σ H Q I h
  refine PySem.W.methodCall_KW (pl := pl) (thn (he pins s σ H _ I h) fun u s1 ⟨x, H1, I1, rx, a, dx, fs, ex, ea, l, q⟩ => ?_) ht
  subst ex
  obtain rfl : u = Value.ref a := rx
  refine getmeth_ok I1 ea c hm l ?_
  refine PySem.W.callWith_K (first := [.ref a]) (h₀ := X.base) I.ok.mod.kin hm.kp (thn (ha pos pins s1 σ H1 _ I1 q) fun us s2 ⟨vs, H2, I2, r, q2⟩ => ⟨I2.kIn, ?_⟩) hst hpl
  exact run_fnE (us := .ref a :: us) (vs := .ref a :: vs) F hr hb hd hc I2 (.cons rfl r) q2
theorem run_makeE {pins : List (Addr × Obj)} {σ : St} {H : Hp} {s : Shared} {Q : VK} {us : List Value} {vs : List V} (M : Mk X.K C f) (F : FnOk X.prog X.w X.K X.mg X.base (CXe X.prog X.w) k f fd ps sp) (hr : Room (k + 1) X.A) (hb : Binds X.K fd ps ds) (hd : Vals dvs ds)
    (hc : Catch X Ex) (I : Inv X pins σ H s) (r : Vals vs us)
    (h : ∀ x dx, H x = none → H dx = none → dx ≠ x → sp (.ref x :: (vs ++ dvs)) (upd (upd H dx (.own x)) x (.ins C dx [])) (fun v H2 => v = .non ∧ Q (.ref x) H2) (Ex σ)) :
    wpAny (model X.prog X.w) X.A (call (.ref C) us) (EP X pins σ Q) X.xe s := by
  have hq := h (s.heap.objs.size + 1) s.heap.objs.size (I.hok.fresh (Nat.le_succ _)) (I.hok.fresh (Nat.le_refl _)) (Nat.ne_of_lt (Nat.lt_succ_self _))
  have I2 := Inv.made (C := C) I
  have r2 : Vals (V.ref (s.heap.objs.size + 1) :: (vs ++ dvs)) (Value.ref (s.heap.objs.size + 1) :: (us ++ ds)) := .cons rfl (r.append hd)
  have hl : (Value.ref (s.heap.objs.size + 1) :: us ++ ds).length = ps.length := by
    have e := r2.length
    rw [F.len _ _ _ _ hq] at e
    exact e.symm
  refine wpAny_call (make_map (f := f) I.kIn M.makes M.init (beq_iff_eq.mp M.fn) (codeAny_mono (F.run _ X.stack _ _ ⟨Value.ref (s.heap.objs.size + 1) :: us, []⟩ (Value.ref (s.heap.objs.size + 1) :: (us ++ ds)) _ _ (Ex σ) (hr.make C us [])
    (I2.env0.make C us []) (hb _ (Value.ref (s.heap.objs.size + 1) :: us) I2.kIn hl) r2 hq) fun r s' hq' => ?_))
  cases r with
  | error e => exact I2.came hc hq'
  | ok fl =>
    cases fl with
    | ret u =>
      obtain ⟨v, H', I3, rv, ev, q3⟩ := I2.after hq'
      subst ev
      exact ⟨rv, ⟨V.ref (s.heap.objs.size + 1), H', I3, rfl, q3⟩⟩
    | next => exact False.elim hq'
    | brk => exact False.elim hq'
    | cont => exact False.elim hq'
theorem pe_makeE (M : Mk X.K C f) (F : FnOk X.prog X.w X.K X.mg X.base (CXe X.prog X.w) k f fd ps sp) (hr : Room (k + 1) X.A) (hg : Gl X x) (hm : X.mg x = some (.ref C)) (hb : Binds X.K fd ps ds) (hd : Vals dvs ds) (hc : Catch X Ex)
    (ha : PA X (e :: es) t) (hdb : (x == ("__debug__" : Str)) = false := by decide) (he : starEach (e :: es) X.env = (false, eval e X.env) :: starEach es X.env := by rfl) (hpl : (backTo pos (starEach es X.env)).any (·.1) = false := by rfl) :
    PE X (.Call (.Name x p) (e :: es) [] pos) (tMakeE C sp dvs Ex t) := by
  intro pins s σ H Q I h
  refine wpAny_Call_Name_kw (ld_glob I hg hm ?_ hdb)
  refine PySem.W.callWith_K (h₀ := X.base) I.ok.mod.kin M.kp (thn (ha pos pins s σ H _ I h) fun us s1 ⟨vs, H1, I1, r, q⟩ => ⟨I1.kIn, ?_⟩) he hpl
  exact run_makeE M F hr hb hd hc I1 r q
end
theorem PS.nox {X : Cx} {st : Stmt} {t : TS} (h : PS X.nox st t) : PS X st t := fun pins s σ H D I hw =>
  wpAny_mono (h pins s σ H D (I.wish _) hw) (fun _ _ q => q.unwish) fun _ _ z => False.elim z
section
variable {P : Program} {w : World} {K : PySem.W.Frag} {mg : Str → Option Value} {base : Heap}
/-- no error comes -/
theorem catch_no {X : Cx} : Catch X (fun _ _ _ _ => False) := fun _ _ _ _ _ _ _ _ _ _ _ q => q.elim
/-- THE RULE for a def from which errors may come -/
theorem Fun.okE {x qual : Str} {st : Stmt} {f : Addr} {fd : FuncData} {N ps : List Str} {k : Nat} {sp : Sp} (F : Fun K x qual st f fd) (S : FnScope N ps (defScope st)) (len : ∀ vs H Q E, sp vs H Q E → vs.length = ps.length)
    (hbody : ∀ (cdv : Value) (A : Around) (outer : List Env) (s : Shared) (H : Hp) (vs : List V) (Q : VK) (E : XK), Room k (A.deeper (envOfC qual (defScope st) s.heap.objs.size f cdv)) → sp vs H Q E →
      ∃ t, PSs (cxOf (CXe P w) P w K mg base N qual (defScope st) f cdv A outer s H E) (defBody st) t ∧ t { nx := fun _ H' => Q .non H', rt := Q } (start N vs) H) : FnOk P w K mg base (CXe P w) (k + 1) f fd ps sp := by
  obtain ⟨oc, od, kV, doc, pm, an, cdv, ct, osl, rfl, lk, hcd⟩ := F.ex
  exact fn_of lk hcd S len fun A outer s H vs Q E hr hsp => hbody cdv A outer s H vs Q E hr hsp
end

/-! ### raise C(..) -/
abbrev bmV : List Value := [.type "ValueError", .type "Exception", .type "BaseException", .type "object"]
abbrev XMk (K : PySem.W.Frag) (C : Addr) : Prop := PySem.W.excIn K C bmV "ValueError.__new__" = true
theorem xobj_of {K : PySem.W.Frag} {h : Heap} {C : Addr} {bmB : List Value} {newId : String} (X : K.In h) (q : PySem.W.excIn K C bmB newId = true) :
    ∃ bm N nm qn bs hdct sn sub ab col dd k0 k1 k2 k3 k5 mN, h.get? C = some (excClassObj nm qn C N bs bm hdct sn sub ab col dd k0 k1 k2 k3 k5 newId) ∧ h.Ns N mN ∧ mN "__init__" = none ∧ OwnTail h bmB bm := by
  unfold PySem.W.excIn at q
  split at q
  · rename_i dd cd sl ho
    split at q
    · rename_i C' bm k0 k1 k2 k3 n k5 hm hs
      simp only [Bool.and_eq_true, beq_iff_eq, Bool.not_eq_true'] at q
      obtain ⟨⟨⟨⟨⟨rfl, rfl⟩, hdel⟩, ht⟩, hok⟩, hni⟩ := q
      obtain ⟨nm, bs, mro, ns, qn, hd, sn, sub, ab, col, del⟩ := cd
      dsimp only at hm hdel hok hni
      subst hm hdel
      obtain ⟨l⟩ := sl
      have hs : l = [k0, k1, k2, k3, some (.builtin n), k5] := hs
      subst hs
      exact ⟨bm, ns, nm, qn, bs, hd, sn, sub, ab, col, dd, k0, k1, k2, k3, k5, _, X _ _ ho, .of_isNs (PySem.W.isNs_of_in X hok), PySem.W.nsMap_none_of_in X hok hni, PySem.W.tail_of_in X ht⟩
    · cases q
  · cases q
def tRaise (E : XK) (C : Addr) (t : TA) : TS := fun _ σ H => t σ H fun vs H1 => vs.length ≤ sizeLine ∧ E (.ref C) none H1
theorem ps_raise {P : Program} {w : World} {K : PySem.W.Frag} {mg : Str → Option Value} {base : Heap} {N : List Str} {qual : Str} {scope : Scope} {f : Addr} {cd : Value} {A : Around} {outer : List Env} {s : Shared} {H : Hp} {E : XK}
    {C : Addr} {x : Str} {np cpos pos : Pos} {e₀ : Expr} {rest : List Expr} {t : TA} (hg : Gl (cxOf (CXe P w) P w K mg base N qual scope f cd A outer s H E) x) (hm : mg x = some (.ref C)) (hC : XMk K C)
    (ha : PA (cxOf (CXe P w) P w K mg base N qual scope f cd A outer s H E) (e₀ :: rest) t)
    (he : starEach (e₀ :: rest) (envOfC qual scope s.heap.objs.size f cd) = (false, eval e₀ (envOfC qual scope s.heap.objs.size f cd)) :: starEach rest (envOfC qual scope s.heap.objs.size f cd) := by rfl)
    (hplain : (backTo cpos (starEach rest (envOfC qual scope s.heap.objs.size f cd))).any (·.1) = false := by rfl) (hdb : (x == ("__debug__" : Str)) = false := by decide) :
    PS (cxOf (CXe P w) P w K mg base N qual scope f cd A outer s H E) (.Raise (some (.Call (.Name x np) (e₀ :: rest) [] cpos)) none pos) (tRaise E C t) := by
  intro pins s1 σ H1 D I h
  obtain ⟨tl, NN, nm, q, bs, hdct, sn, sub, ab, col, dd, k0, k1, k2, k3, k5, mN, hCo, hN, hni, T⟩ := xobj_of I.mod.kin hC
  refine wpAny_Raise_call_subT (C := C) (nm := nm) (q := q) (N := NN) (bs := bs) (bm := tl) (hdct := hdct) (sn := sn) (sub := sub) (ab := ab) (col := col) (dd := dd) (k0 := k0) (k1 := k1) (k2 := k2) (k3 := k3) (k5 := k5)
    F.excBase_ValueError (mN := mN) (T.hasType F.excBase_ValueError.hasBase) (I.ok.hd rfl) (by
      show (backTo cpos (starEach (e₀ :: rest) (envOfC qual scope s.heap.objs.size f cd))).any (·.1) = false
      rw [he]; show (false || (backTo cpos (starEach rest (envOfC qual scope s.heap.objs.size f cd))).any (·.1)) = false; rw [hplain]; rfl) hni (ld_glob I hg hm ⟨rfl, ?_⟩ hdb)
  have h2 := ha cpos pins s1 σ H1 _ I h
  have he' : starEach (e₀ :: rest) (cxOf (CXe P w) P w K mg base N qual scope f cd A outer s H E).env = (false, eval e₀ (cxOf (CXe P w) P w K mg base N qual scope f cd A outer s H E).env) :: starEach rest (cxOf (CXe P w) P w K mg base N qual scope f cd A outer s H E).env := he
  rw [he'] at h2 ⊢
  refine Calls.evalArgs_plain (wpAny_mono h2 (fun vs s₂ ⟨xs, H2, I2, r, hl, q2⟩ => ⟨rfl, by rw [← r.length]; exact hl, I2.bk _ _ hCo, hN.keeps I2.bk, T.keeps I2.bk, fun h' y m => raise_fn I2 m q2⟩) fun _ _ y => y)
end L2
namespace L2
open PySem PySem.Spec PyProof.Rows
/-! ### try: .. except C as n: .. -/
section
variable {X : Cx} {pins : List (Addr × Obj)} {σ : St} {H : Hp} {s : Shared} {x T : Addr}
/-- the pins that every state bears -/
abbrev Cx.pnd (X : Cx) (pn : List (Addr × Obj)) : Cx := { X with pn := pn }
theorem Cx.Ok.pnd (ok : X.Ok) (pn : List (Addr × Obj)) : (X.pnd pn).Ok :=
  ⟨ok.mod, ok.kind, ok.glob, ok.blt, ok.above, ok.inj, ok.has, ok.cab, ok.hd, ok.frames, ok.stk, ok.exf, ok.bs, ok.bsz, ok.noex, ok.exfs, ok.funs, ok.frf⟩
theorem Cx.Ok.unpnd {pn : List (Addr × Obj)} (ok : (X.pnd pn).Ok) : X.Ok :=
  ⟨ok.mod, ok.kind, ok.glob, ok.blt, ok.above, ok.inj, ok.has, ok.cab, ok.hd, ok.frames, ok.stk, ok.exf, ok.bs, ok.bsz, ok.noex, ok.exfs, ok.funs, ok.frf⟩
theorem Inv.pnd (I : Inv X pins σ H s) : Inv (X.pnd (X.pn ++ pins)) [] σ H s :=
  ⟨I.ok.pnd _, I.os, I.bare, I.base, I.loc, I.cell, I.free, I.freeC, fun p hp => I.pin p (by simpa using hp), I.hok, I.len⟩
theorem Inv.unpnd {ps : List (Addr × Obj)} (I : Inv (X.pnd (X.pn ++ pins)) ps σ H s) : Inv X pins σ H s :=
  ⟨I.ok.unpnd, I.os, I.bare, I.base, I.loc, I.cell, I.free, I.freeC, fun p hp => I.pin p (List.mem_append_left _ hp), I.hok, I.len⟩
/-- an error has come -/
def XT (Y : Cx) (Ex : St → XK) (e : Value) (s' : Shared) : Prop := ∃ pins σ H x T C, e = .ref x ∧ Inv Y pins σ H s' ∧ Fy Y pins H x ∧ Fy Y pins H T ∧ Trd s'.heap x T C .none ∧ Ex σ C none H
abbrev Cx.tr (X : Cx) (pn : List (Addr × Obj)) (Ex : St → XK) : Cx := (X.pnd pn).wish (XT (X.pnd pn) Ex)
theorem catch_tr {pn : List (Addr × Obj)} {Ex : St → XK} : Catch (X.tr pn Ex) Ex := fun pins σ H _ x T C I hx hT tr q => ⟨pins, σ, H, x, T, C, rfl, I.unwish, hx, hT, tr, q⟩
/-- within the suite -/
abbrev Cx.su (X : Cx) (pn : List (Addr × Obj)) (x : Addr) : Cx := { X with A := X.A.mark (some (.ref x)), calm := false, pn := pn, xe := fun _ _ => False }
theorem Inv.su (I : Inv X pins σ H s) (x : Addr) : Inv (X.su (X.pn ++ pins) x) [] σ H s :=
  ⟨⟨I.ok.mod, I.ok.kind, I.ok.glob, I.ok.blt, I.ok.above, I.ok.inj, I.ok.has, I.ok.cab, fun z => (by cases z), I.ok.frames, I.ok.stk, I.ok.exf, I.ok.bs, I.ok.bsz, I.ok.noex, I.ok.exfs, I.ok.funs, I.ok.frf⟩,
    I.os, I.bare, I.base, I.loc, I.cell, I.free, I.freeC, fun p hp => I.pin p (by simpa using hp), I.hok, I.len⟩
theorem Inv.unsu (I : Inv (X.su (X.pn ++ pins) x) [] σ H s) (ok : X.Ok) : Inv X pins σ H s :=
  ⟨ok, I.os, I.bare, I.base, I.loc, I.cell, I.free, I.freeC, fun p hp => I.pin p (List.mem_append_left _ hp), I.hok, I.len⟩
/-- a record of ours is looked at from now on -/
theorem Inv.track {o : HO} (I : Inv X pins σ H s) (hx : Fy X pins H x) (ob : ObjOk X.prog X.w (upd H x o) s.heap x o) : Inv X pins σ (upd H x o) s := by
  have ne : ∀ {b u}, H b = some u → b ≠ x := fun {b u} e z => by rw [z, hx.1] at e; cases e
  refine ⟨I.ok, I.os, I.bare, ⟨I.base.keep, I.base.slot, fun b ob e n he => ?_, I.base.there, fun b xs e => ?_, fun b ob u e => ?_, fun b ps e => ?_⟩, I.loc, I.cell, ?_, fun y c e => ?_, fun p hp => ?_, fun b u e => ?_, I.len⟩
  · rw [upd_ne ?_]
    · exact I.base.free b ob e n he
    · rintro rfl
      rcases hx.2.2.2.1 with z | z
      · exact he z
      · rw [e] at z; cases z
  · have q := I.base.tups b xs e
    rw [upd_ne (ne q)]; exact q
  · have q := I.base.frzs b ob u e
    rw [upd_ne (ne q)]; exact q
  · obtain ⟨more, q⟩ := I.base.tbls b ps e
    exact ⟨more, by rw [upd_ne (ne q)]; exact q⟩
  · rw [upd_ne (Ne.symm hx.2.1)]; exact I.free
  · rw [upd_ne (hx.2.2.2.2.1 y c e)]; exact I.freeC y c e
  · obtain ⟨e, n, q⟩ := I.pin p hp
    exact ⟨e, by rw [upd_ne (hx.2.2.2.2.2 p hp)]; exact n, q⟩
  · by_cases hb : b = x
    · subst hb
      rw [upd_same] at e
      cases e
      exact ob
    · rw [upd_ne hb] at e
      exact (I.hok b u e).stay (fun _ _ _ q => q) (fun c q => by rw [upd_ne (ne q)]; exact q) fun c xs q => by rw [upd_ne (ne q)]; exact q
/-- the name goes behind the suite -/
theorem Inv.unbind {M : Model} {A : Around} {E : Value → Shared → Prop} {i : Nat} {n : Str} {pos : Pos} {Q : Unit → Shared → Prop} (I : Inv X pins σ H s) (hN : X.N.Nodup) (hi : X.N[i]? = some n) (hl : X.env.scope.names.lookup n = some .local)
    (h : ∀ s', Inv X pins (σ.set i none) H s' → Q () s') : wpAny M A (do bindName X.env n .none; unbindBehindTheSuite X.env n pos) Q E s := by
  obtain ⟨m, hn, hlk⟩ := id I.loc
  obtain ⟨oL, _, _, hoL, _⟩ := id hn
  have neL : ∀ b o, X.s₀.heap.get? b = some o → b ≠ X.env.locals := fun b o e => Nat.ne_of_lt (Nat.lt_of_lt_of_le (Heap.lt_size e) I.ok.above)
  refine wpAny_nameGoes_keeps hl hn (by rw [I.ok.kind]; rfl) fun h' v hn' hs => h _ ⟨I.ok, I.os, I.bare, ⟨fun b o e n hb hx => ?_, fun b o e n hb hx => ?_, I.base.free, fun b o e hx => ?_, I.base.tups, I.base.frzs, I.base.tbls⟩, ⟨_, hn', fun j y v' e1 e2 e3 => ?_⟩, fun y c e => ?_, I.free, I.freeC, fun p hp => ?_, fun b u e => ?_, by simpa using I.len⟩
  · exact (hs.2 b (neL b o e)).trans (I.base.keep b o e n hb hx)
  · obtain ⟨sl, e1⟩ := I.base.slot b o e n hb hx
    exact ⟨sl, (hs.2 b (neL b o e)).trans e1⟩
  · obtain ⟨o', e1⟩ := I.base.there b o e hx
    exact ⟨o', (hs.2 b (neL b o e)).trans e1⟩
  · by_cases hj : j = i
    · subst hj
      have : j < σ.length := by rw [I.len]; exact (List.getElem?_eq_some_iff.mp hi).1
      rw [List.getElem?_set_self this] at e2
      cases e2
    · rw [List.getElem?_set_ne (Ne.symm hj)] at e2
      obtain ⟨u', r', q⟩ := hlk j y v' e1 e2 e3
      refine ⟨u', r', ?_⟩
      rcases q with ⟨k, e⟩ | ⟨k, c, e, z⟩
      · have : y ≠ n := fun z => hj (nodup_ix hN e1 (z ▸ hi))
        exact .inl ⟨k, by simp [this, e]⟩
      · exact .inr ⟨k, c, e, z.sameBut hs (I.cne y c e)⟩
  · obtain ⟨w', z⟩ := I.cell y c e
    exact ⟨w', z.sameBut hs (I.cne y c e)⟩
  · obtain ⟨e, nn, ne, nf, d⟩ := I.pin p hp
    exact ⟨(hs.2 p.1 ne).trans e, nn, ne, nf, d⟩
  · refine (I.hok b u e).stay (fun c w' hc q => (hs.2 c ?_).trans q) (fun _ q => q) fun _ _ q => q
    rintro rfl
    rcases hc with rfl | hc
    · rw [I.free] at e; cases e
    · rw [I.free] at hc; cases hc
end
def Ends.un (D : Ends) (i : Nat) : Ends := ⟨fun σ H => D.nx (σ.set i none) H, D.rt, fun σ H => D.bk (σ.set i none) H, fun σ H => D.ct (σ.set i none) H⟩
/-- what the body's errors come to -/
def exT (K : PySem.W.Frag) (D : Addr) (i : Nat) (ts : TS) (En : Ends) : St → XK := fun σ' C _ H' => ∀ x, H' x = none → ∃ Ca, C = .ref Ca ∧ PySem.W.exmOne K (.ref Ca) (.ref D) = some true ∧ ts (En.un i) (σ'.set i (some (.ref x))) (upd H' x (.ext (ExAt x Ca)))
def tTry (K : PySem.W.Frag) (D : Addr) (i : Nat) (tb : (St → XK) → TS) (ts : TS) : TS := fun En σ H => tb (exT K D i ts En) En σ H
section
variable {X : Cx} {body suite : List Stmt} {b₀ : Stmt} {tx n : Str} {np hpos pos : Pos} {D : Addr} {i : Nat} {tb : (St → XK) → TS} {ts : TS}
theorem ps_try (hb : ∀ pn Ex, PSs (X.tr pn Ex) body (tb Ex)) (hst : X.stack = X.env :: X.outer ∧ X.env.frame = some X.env.locals) (hg : Gl X tx) (hm : X.mg tx = some (.ref D))
    (hs : ∀ pn x, PSs (X.su pn x) (b₀ :: suite) ts) (hN : X.N.Nodup) (hi : X.N[i]? = some n) (hl : X.env.scope.names.lookup n = some .local) (hdb : (tx == ("__debug__" : Str)) = false := by decide) :
    PS X (.Try body [.ExceptHandler (some (.Name tx np)) (some n) (b₀ :: suite) hpos] [] [] pos) (tTry X.K D i tb ts) := by
  intro pins s σ H En I h
  have toX : ∀ {f s'}, SP (X.tr (X.pn ++ pins) (exT X.K D i ts En)) [] En f s' → SP X pins En f s' := fun {f s'} q => by
    cases f with
    | next => obtain ⟨σ', H', J, q⟩ := q; exact ⟨σ', H', J.unwish.unpnd, q⟩
    | brk => obtain ⟨σ', H', J, q⟩ := q; exact ⟨σ', H', J.unwish.unpnd, q⟩
    | cont => obtain ⟨σ', H', J, q⟩ := q; exact ⟨σ', H', J.unwish.unpnd, q⟩
    | ret u => obtain ⟨v, σ', H', J, r, q⟩ := q; exact ⟨v, σ', H', J.unwish.unpnd, r, q⟩
  refine wpAny_Try_except (wpAny_mono (hb (X.pn ++ pins) (exT X.K D i ts En) [] s σ H En (I.pnd.wish _) h) (fun f s1 q => ?_) fun e s1 q => ?_)
  · have q := toX q
    cases f with
    | next => exact wpAny_execs_nil q
    | brk => exact q
    | cont => exact q
    | ret u => exact q
  · obtain ⟨ps, σ', H', x, T, C, rfl, J, hx, hT, tr, q⟩ := q
    have J : Inv X pins σ' H' s1 := J.unpnd
    have hx : Fy X pins H' x := ⟨hx.1, hx.2.1, hx.2.2.1, hx.2.2.2.1, hx.2.2.2.2.1, fun p hp => hx.2.2.2.2.2 p (List.mem_append_left _ hp)⟩
    have hT : Fy X pins H' T := ⟨hT.1, hT.2.1, hT.2.2.1, hT.2.2.2.1, hT.2.2.2.2.1, fun p hp => hT.2.2.2.2.2 p (List.mem_append_left _ hp)⟩
    obtain ⟨Ca, rfl, hex, q⟩ := q x hx.1
    obtain ⟨a0, ta⟩ := trd_at (X := X) tr
    have fr := J.ok.frames
    rw [hst.1] at fr
    have lf := hid_fr (x := x) (T := T) J
    rw [hst.1] at lf
    refine wpAny_noteFrame_onW (base := hid s1 X x T) fr lf hst.2 ta hid_in hid_x fun h2 ⟨k1, k2, k3, k4⟩ => ?_
    rw [← hst.1] at k2
    obtain ⟨J, T2, hT, tr⟩ := fly_after J hx hT k1 k2 k3 k4
    obtain ⟨a0, ta⟩ := trd_at (s := { s1 with heap := h2 }) (X := X) tr
    refine wpAny_setFlight_noneW (base := hid { s1 with heap := h2 } X x T2) hid_in (hid_fr J) ta fun h3 k1 k2 k3 k4 => ?_
    obtain ⟨J, T3, hT, tr⟩ := fly_after J hx hT k1 k2 k3 fun b o e nf => ⟨o.slots, k4 b o e nf⟩
    refine wpAny_handleBy_cons (codeAny_handlers_test (ld_glob (J.su x) hg hm ?_ hdb)) (by intro z; cases z)
    have at3 : ExAt x Ca h3 := by
      obtain ⟨oe, _, _, _, _, e1, e2, _⟩ := id tr
      exact ⟨oe, e1, e2.1⟩
    refine PySem.W.exm_one (M := model X.prog X.w) (h := h3) J.kIn at3.type hex _ _ _ _ (fun _ _ z => z) ?_
    dsimp only [if_true]
    refine codeAny_handlers_suite_as ?_
    obtain ⟨a0, ta⟩ := trd_at (s := { s1 with heap := h3 }) (X := X) tr
    refine wpAny_setFlight_noneW (base := hid { s1 with heap := h3 } X x T3) hid_in (hid_fr J) ta fun h4 k1 k2 k3 k4 => ?_
    obtain ⟨J, T4, hT, tr⟩ := fly_after J hx hT k1 k2 k3 fun b o e nf => ⟨o.slots, k4 b o e nf⟩
    have at4 : ExAt x Ca h4 := by
      obtain ⟨oe, _, _, _, _, e1, e2, _⟩ := id tr
      exact ⟨oe, e1, e2.1⟩
    have J := J.track (o := .ext (ExAt x Ca)) hx ⟨at4, let ⟨ox, z, _⟩ := at4; ⟨ox, z⟩, fun h1 h2 ⟨ox, z1, z2⟩ k => ⟨ox, k _ z1, z2⟩⟩
    refine store_ok (X := X.su (X.pn ++ pins) x) (i := i) (v := V.ref x) (J.su x) hN hi (Or.inl hl) rfl (fun s5 J5 => ?_) (Or.inr hl)
    refine wpAny_mono (hs (X.pn ++ pins) x [] s5 _ _ (En.un i) J5 q) (fun f s6 q => ?_) fun _ _ z => False.elim z
    cases f with
    | next => obtain ⟨σ6, H6, J6, q⟩ := q; exact (J6.unsu I.ok).unbind hN hi hl fun s7 J7 => ⟨_, H6, J7, q⟩
    | brk => obtain ⟨σ6, H6, J6, q⟩ := q; exact (J6.unsu I.ok).unbind hN hi hl fun s7 J7 => ⟨_, H6, J7, q⟩
    | cont => obtain ⟨σ6, H6, J6, q⟩ := q; exact (J6.unsu I.ok).unbind hN hi hl fun s7 J7 => ⟨_, H6, J7, q⟩
    | ret u => obtain ⟨v, σ6, H6, J6, r, q⟩ := q; exact (J6.unsu I.ok).unbind hN hi hl fun s7 J7 => ⟨v, _, H6, J7, r, q⟩
end
section
variable {σ : St} {H : Hp} {Q : VK} {tr : TA} {ta : TE} {nx : St → Hp → Prop} {rt : VK} {bk ct : St → Hp → Prop} {ts : TS}
theorem i_callE {sp : Sp} {dvs : List V} {Ex : St → XK} (h : tr σ H fun vs H1 => sp (vs ++ dvs) H1 Q (Ex σ)) : tCallE sp dvs Ex tr σ H Q := h
theorem i_methE {C : Addr} {m : Str} {sp : Sp} {dvs : List V} {Ex : St → XK} (h : ta σ H fun x H1 => ∃ a dx fs, x = .ref a ∧ H1 a = some (.ins C dx fs) ∧ fs.lookup m = none ∧ tr σ H1 fun vs H2 => sp (x :: (vs ++ dvs)) H2 Q (Ex σ)) : tMethE C m sp dvs Ex ta tr σ H Q := h
theorem i_makeE {C : Addr} {sp : Sp} {dvs : List V} {Ex : St → XK} (h : tr σ H fun vs H1 => ∀ x dx, H1 x = none → H1 dx = none → dx ≠ x → sp (.ref x :: (vs ++ dvs)) (upd (upd H1 dx (.own x)) x (.ins C dx [])) (fun v H2 => v = .non ∧ Q (.ref x) H2) (Ex σ)) : tMakeE C sp dvs Ex tr σ H Q := h
theorem i_raise {E : XK} {C : Addr} {D : Ends} (h : tr σ H fun vs H1 => vs.length ≤ sizeLine ∧ E (.ref C) none H1) : tRaise E C tr D σ H := h
theorem i_try {K : PySem.W.Frag} {D : Addr} {i : Nat} {tb : (St → XK) → TS} (h : tb (exT K D i ts ⟨nx, rt, bk, ct⟩) ⟨nx, rt, bk, ct⟩ σ H) : tTry K D i tb ts ⟨nx, rt, bk, ct⟩ σ H := h
/-- the error has come to the clause -/
theorem i_exT {K : PySem.W.Frag} {D : Addr} {i : Nat} {C : Addr} {d : Option Addr} (he : PySem.W.exmOne K (.ref C) (.ref D) = some true) (h : ∀ x, H x = none → ts ⟨fun σ H => nx (σ.set i none) H, rt, fun σ H => bk (σ.set i none) H, fun σ H => ct (σ.set i none) H⟩ (σ.set i (some (.ref x))) (upd H x (.ext (ExAt x C)))) :
    exT K D i ts ⟨nx, rt, bk, ct⟩ σ (.ref C) d H := fun x hx => ⟨C, rfl, he, h x hx⟩
theorem i_isX {K : PySem.W.Frag} {x C : Addr} {cv : V} {c : Value} {k : Bool} (hx : H x = some (.ext (ExAt x C))) (cl : XCls K C) (r : RelV cv c) (u : ∀ u, RelV cv u → u = c) (e : PySem.W.kitOne K (.ref C) c = some k) (h : Q (.bl k) H) : rIsX K [.ref x, cv] H Q := ⟨x, cv, C, c, k, rfl, r, u, hx, cl, e, h⟩
theorem i_isXr {K : PySem.W.Frag} {x C D : Addr} {k : Bool} (hx : H x = some (.ext (ExAt x C))) (cl : XCls K C) (e : PySem.W.kitOne K (.ref C) (.ref D) = some k) (h : Q (.bl k) H) : rIsX K [.ref x, .ref D] H Q := i_isX hx cl rfl (fun _ z => z) e h
theorem i_isXt {K : PySem.W.Frag} {x C : Addr} {n : String} {k : Bool} (hx : H x = some (.ext (ExAt x C))) (cl : XCls K C) (e : PySem.W.kitOne K (.ref C) (.type n) = some k) (h : Q (.bl k) H) : rIsX K [.ref x, .ty n] H Q := i_isX hx cl rfl (fun _ z => z) e h
theorem i_isXT {K : PySem.W.Frag} {x tp C : Addr} {Cs : List Addr} {k : Bool} (ht : H tp = some (.tup (List.map V.ref Cs))) (hx : H x = some (.ext (ExAt x C))) (cl : XCls K C) (e : PySem.W.kitAny K (.ref C) (Cs.map Value.ref) = some k) (h : Q (.bl k) H) : rIsXT K [.ref x, .ref tp] H Q :=
  ⟨x, tp, C, Cs, k, rfl, ht, hx, cl, e, h⟩
end
end L2
namespace L2
open PySem PySem.Spec PyProof.Rows

/-! ### lists of pairs as tables -/
section
variable {κ : Type} [DecidableEq κ]
def valV (kvs : List (κ × V)) (k : κ) : Option V := (kvs.find? fun kv => decide (kv.1 = k)).map (·.2)
/-- in its place, or at the end -/
def putK (kvs : List (κ × V)) (k : κ) (v : V) : List (κ × V) :=
  if (kvs.any fun kv => decide (kv.1 = k)) = true then kvs.map (fun kv => if kv.1 = k then (kv.1, v) else kv) else kvs ++ [(k, v)]
def dropK (kvs : List (κ × V)) (k : κ) : List (κ × V) := kvs.filter fun kv => decide (kv.1 ≠ k)

theorem valV_pos {p : κ × V} {r : List (κ × V)} {k : κ} (e : p.1 = k) : valV (p :: r) k = some p.2 := by simp [valV, List.find?_cons, e]
theorem valV_neg {p : κ × V} {r : List (κ × V)} {k : κ} (e : ¬ p.1 = k) : valV (p :: r) k = valV r k := by simp [valV, List.find?_cons, e]
theorem RelO.getD {o : Option V} {u : Option Value} {d : V} {d' : Value} (r : RelO o u) (rd : RelV d d') : RelV (o.getD d) (u.getD d') := by
  cases o with
  | none => cases u with
    | none => exact rd
    | some _ => exact (show False from r).elim
  | some _ => cases u with
    | none => exact (show False from r).elim
    | some _ => exact r

/-- raw tables of the same keys -/
theorem KV.val {kvs : List (κ × V)} {vs : List (κ × Value)} (r : KV kvs vs) (k : κ) : RelO (valV kvs k) (valueAt vs k) := by
  unfold KV at r
  induction r with
  | nil => exact True.intro
  | @cons p q ps qs h t ih =>
    obtain ⟨h1, h2⟩ := h
    by_cases e : p.1 = k
    · have e' : q.1 = k := h1.symm.trans e
      have b : valueAt (q :: qs) k = some q.2 := by simp [valueAt, List.find?_cons, e']
      rw [valV_pos e, b]; exact h2
    · have e' : ¬ q.1 = k := fun z => e (h1.trans z)
      have b : valueAt (q :: qs) k = valueAt qs k := by simp [valueAt, List.find?_cons, e']
      rw [valV_neg e, b]; exact ih
theorem KV.any {kvs : List (κ × V)} {vs : List (κ × Value)} (r : KV kvs vs) (k : κ) : (kvs.any fun kv => decide (kv.1 = k)) = vs.any fun kv => decide (kv.1 = k) := by
  unfold KV at r
  induction r with
  | nil => rfl
  | cons h t ih => rw [List.any_cons, List.any_cons, ih, h.1]
theorem KV.drop {kvs : List (κ × V)} {vs : List (κ × Value)} (r : KV kvs vs) (k : κ) : KV (dropK kvs k) (without vs k) := by
  unfold KV at r ⊢
  unfold dropK without
  induction r with
  | nil => exact .nil
  | @cons p q ps qs h t ih =>
    obtain ⟨h1, h2⟩ := h
    rw [List.filter_cons, List.filter_cons]
    by_cases e : p.1 = k
    · have a : ¬ decide (p.1 ≠ k) = true := by simp [e]
      have b : ¬ decide (q.1 ≠ k) = true := by simp [h1.symm.trans e]
      rw [if_neg a, if_neg b]; exact ih
    · have e' : ¬ q.1 = k := fun z => e (h1.trans z)
      have a : decide (p.1 ≠ k) = true := by simp [e]
      have b : decide (q.1 ≠ k) = true := by simp [e']
      rw [if_pos a, if_pos b]; exact .cons ⟨h1, h2⟩ ih
theorem KV.keys {kvs : List (κ × V)} {vs : List (κ × Value)} (r : KV kvs vs) : kvs.map (·.1) = vs.map (·.1) := by
  unfold KV at r
  induction r with
  | nil => rfl
  | cons h t ih => rw [List.map_cons, List.map_cons, ih, h.1]
theorem KV.length {kvs : List (κ × V)} {vs : List (κ × Value)} (r : KV kvs vs) : kvs.length = vs.length := Paired.length r
end


/-! ### a tracked dict, its keys ints and texts or tuples of these -/
/-- raw entries of a dict with tuple keys -/
abbrev KT (H : Hp) : List (List Key × V) → List (List Key × Addr × Value) → Prop := Paired fun p q => p.1 = q.1 ∧ H q.2.1 = some (.tup (p.1.map kV)) ∧ RelV p.2 q.2.2
theorem KT.val {H : Hp} {kvs : List (List Key × V)} {xs : List (List Key × Addr × Value)} (r : KT H kvs xs) (k : List Key) : RelO (valV kvs k) ((atKey xs k).map (·.2)) := by
  induction r with
  | nil => exact True.intro
  | @cons p q ps qs h t ih =>
    obtain ⟨h1, _, h2⟩ := h
    by_cases e : p.1 = k
    · have e' : q.1 = k := h1.symm.trans e
      have b : atKey (q :: qs) k = some q.2 := by simp [atKey, List.find?_cons, e']
      rw [valV_pos e, b]; exact h2
    · have e' : ¬ q.1 = k := fun z => e (h1.trans z)
      have b : atKey (q :: qs) k = atKey qs k := by simp [atKey, List.find?_cons, e']
      rw [valV_neg e, b]; exact ih
theorem KT.keeps {H H' : Hp} {kvs : List (List Key × V)} {xs : List (List Key × Addr × Value)} (r : KT H kvs xs) (ht : ∀ b ys, H b = some (.tup ys) → H' b = some (.tup ys)) : KT H' kvs xs :=
  Paired.mapP r fun _ _ z => ⟨z.1, ht _ _ z.2.1, z.2.2⟩

section
variable {P : Program} {w : World} {H : Hp} {h : Heap} {a : Addr}
end

/-- what the dict at a holds at the key y -/
def DGet (H : Hp) (a : Addr) (y : V) (r : Option V) : Prop :=
  (∃ kvs k, Rd H a (.dK kvs) ∧ y = kV k ∧ r = valV kvs k) ∨ ∃ kvs k b, Rd H a (.dT kvs) ∧ y = .ref b ∧ H b = some (.tup (k.map kV)) ∧ r = valV kvs k
/-- the heap behind a[y] = v -/
def DPut (H : Hp) (a : Addr) (y v : V) (H' : Hp) : Prop :=
  (∃ kvs k, H a = some (.dK kvs) ∧ y = kV k ∧ kvs.length < sizeLine ∧ H' = upd H a (.dK (putK kvs k v))) ∨
  ∃ kvs k b, H a = some (.dT kvs) ∧ y = .ref b ∧ H b = some (.tup (k.map kV)) ∧ kvs.length < sizeLine ∧ H' = upd H a (.dT (putK kvs k v))
theorem DGet.k {H : Hp} {a : Addr} {kvs : List (Key × V)} {k : Key} (e : H a = some (.dK kvs)) : DGet H a (kV k) (valV kvs k) := .inl ⟨kvs, k, .inl e, rfl, rfl⟩
theorem DGet.t {H : Hp} {a b : Addr} {kvs : List (List Key × V)} {k : List Key} (e : H a = some (.dT kvs)) (eb : H b = some (.tup (k.map kV))) : DGet H a (.ref b) (valV kvs k) := .inr ⟨kvs, k, b, .inl e, rfl, eb, rfl⟩
theorem DPut.k {H : Hp} {a : Addr} {kvs : List (Key × V)} {k : Key} {v : V} (e : H a = some (.dK kvs)) (hl : kvs.length < sizeLine) : DPut H a (kV k) v (upd H a (.dK (putK kvs k v))) := .inl ⟨kvs, k, e, rfl, hl, rfl⟩
theorem DPut.t {H : Hp} {a b : Addr} {kvs : List (List Key × V)} {k : List Key} {v : V} (e : H a = some (.dT kvs)) (eb : H b = some (.tup (k.map kV))) (hl : kvs.length < sizeLine) :
    DPut H a (.ref b) v (upd H a (.dT (putK kvs k v))) := .inr ⟨kvs, k, b, e, rfl, eb, hl, rfl⟩


section
variable {X : Cx} {pins : List (Addr × Obj)} {σ : St} {H : Hp} {s : Shared} {a : Addr} {y v : V} {u r : Value} {o : Option V} {A : Around} {E : Value → Shared → Prop}

theorem Inv.big (I : Inv X pins σ H s) : sysModules < s.heap.objs.size := by
  have h : mainGlobals < s.heap.objs.size := (I.mod.glob.keeps I.bk).lt
  exact Nat.lt_trans (by decide) h

end

section
variable {X : Cx} {pins : List (Addr × Obj)} {σ : St} {H : Hp} {s : Shared} {a : Addr} {kvs : List (Key × V)} {k : Key} {u : Value} {A : Around} {E : Value → Shared → Prop}
end


/-! ### readings and rules -/
/-- d[y] -/
def tDGet (td ty : TE) : TE := fun σ H Q => td σ H fun x H1 => ty σ H1 fun y H2 => ∃ a v, x = .ref a ∧ DGet H2 a y (some v) ∧ Q v H2
/-- y in d, y not in d -/
def tDIn (ty td : TE) : TE := fun σ H Q => ty σ H fun y H1 => td σ H1 fun x H2 => ∃ a o, x = .ref a ∧ DGet H2 a y o ∧ Q (.bl o.isSome) H2
def tDNotIn (ty td : TE) : TE := fun σ H Q => ty σ H fun y H1 => td σ H1 fun x H2 => ∃ a o, x = .ref a ∧ DGet H2 a y o ∧ Q (.bl (!o.isSome)) H2
/-- d[y] = v -/
def sDPut (td ty tv : TE) : TS := fun D σ H => tv σ H fun v H1 => td σ H1 fun x H2 => ty σ H2 fun y H3 => ∃ a H4, x = .ref a ∧ DPut H3 a y v H4 ∧ D.nx σ H4
section
variable {X : Cx} {o i e value : Expr} {pos pos' tpos : Pos} {td ty tv : TE}
end


/-! ### displays -/
theorem dk_empty {P : Program} {w : World} {H : Hp} (h : Heap) (hb : sysModules < h.objs.size) : ObjOk P w H (h.push { cls := .type "dict", data := .dict #[] }) h.objs.size (.dK []) :=
  ⟨Nat.zero_le _, beq_eq_false_iff_ne.mpr (Ne.symm (Nat.ne_of_lt hb)), [], .nil, Heap.DictOf.new h⟩
/-- {}, to be a dict of the kind that is wanted -/
def tDNewK : TE := fun _ H Q => ∀ p, H p = none → Q (.ref p) (upd H p (.dK []))
def tDNewT : TE := fun _ H Q => ∀ p, H p = none → Q (.ref p) (upd H p (.dT []))
section
variable {X : Cx} {pos : Pos}
theorem pe_dnewK : PE X (.Dict [] [] pos) tDNewK := fun pins s σ H Q I h =>
  wpAny_Dict_empty ⟨.ref s.heap.objs.size, _, I.laid (a := s.heap.objs.size) (o := .dK []) (t' := s.toks) (fun _ _ q => Heap.get?_push_of_some _ q) (Nat.le_refl _) (dk_empty s.heap I.big), rfl, h _ (I.hok.fresh (Nat.le_refl _))⟩
end

/-! ### methods -/
/-- a method call o.m(e) of a built-in, with one argument: what must be seen of the text -/
structure M1 (X : Cx) (o : Expr) (m : Str) (apos : Pos) (e : Expr) (cpos : Pos) : Prop where
  base : attributeBase o m X.env (eval o X.env) = eval o X.env
  few : ((backTo cpos (starEach [e] X.env)).all (fun x => !x.1) && (backToKw cpos (keywordEach [] X.env)).all (fun x => x.1.isSome)
    && decide (([e] : List Expr).length + ([] : List Keyword).length + (if ([] : List Keyword).isEmpty then 0 else 1) < 30)) = true
  line : (apos.endLine == cpos.line) = true
  trees : backTo cpos (starEach [e] X.env) = [(false, eval e X.env)]
structure M2 (X : Cx) (o : Expr) (m : Str) (apos : Pos) (e f : Expr) (cpos : Pos) : Prop where
  base : attributeBase o m X.env (eval o X.env) = eval o X.env
  few : ((backTo cpos (starEach [e, f] X.env)).all (fun x => !x.1) && (backToKw cpos (keywordEach [] X.env)).all (fun x => x.1.isSome)
    && decide (([e, f] : List Expr).length + ([] : List Keyword).length + (if ([] : List Keyword).isEmpty then 0 else 1) < 30)) = true
  line : (apos.endLine == cpos.line) = true
  trees : backTo cpos (starEach [e, f] X.env) = [(false, eval e X.env), (false, eval f X.env)]

/-- a is a dict, whatever its keys -/
def IsD (H : Hp) (a : Addr) : Prop := (∃ kvs, Rd H a (.dK kvs)) ∨ ∃ kvs, Rd H a (.dT kvs)
section
variable {X : Cx} {pins : List (Addr × Obj)} {σ : St} {H : Hp} {s : Shared} {a : Addr} {y d : V} {u r : Value} {o : Option V} {A : Around} {E : Value → Shared → Prop}
end

def tDGet1 (td ty : TE) : TE := fun σ H Q => td σ H fun x H1 => ∃ a, x = .ref a ∧ IsD H1 a ∧ ty σ H1 fun y H2 => ∃ o, DGet H2 a y o ∧ Q (o.getD .non) H2
def tDGet2 (td ty tx : TE) : TE := fun σ H Q => td σ H fun x H1 => ∃ a, x = .ref a ∧ IsD H1 a ∧ ty σ H1 fun y H2 => tx σ H2 fun z H3 => ∃ o, DGet H3 a y o ∧ Q (o.getD z) H3
section
variable {X : Cx} {o e f : Expr} {apos cpos : Pos} {td ty tx : TE}
end

/-! ### dict(d): a copy -/
section
variable {X : Cx} {pins : List (Addr × Obj)} {σ : St} {H : Hp} {s : Shared} {a : Addr} {kvs : List (Key × V)} {A : Around} {E : Value → Shared → Prop}
end


section
variable {X : Cx} {pins : List (Addr × Obj)} {σ : St} {H : Hp} {s : Shared} {a : Addr} {y : V} {u : Value} {A : Around} {E : Value → Shared → Prop}
end
end L2
namespace L2
open PySem PySem.Spec PyProof.Rows
/-- items of a long display, and a value, a statement with such: shut, so that nobody looks into them -/
@[irreducible] def QA (X : Cx) (es : List Expr) (t : TA) : Prop := PA X es t
@[irreducible] def QE (X : Cx) (e : Expr) (t : TE) : Prop := PE X e t
@[irreducible] def QSs (X : Cx) (st : List Stmt) (t : TS) : Prop := PSs X st t
section
variable {X : Cx} {e : Expr} {es : List Expr} {te : TE} {t : TA} {pos : Pos} {ts us : TS} {st : Stmt} {rest : List Stmt}
theorem qe_of (h : PE X e te) : QE X e te := by unfold QE; exact h
theorem qa_nil : QA X [] tNil := by unfold QA; exact pa_nil
theorem qa_cons (ha : QE X e te) (hr : QA X es t) (h : notStar e = true) : QA X (e :: es) (tCons te t) := by
  unfold QA at hr ⊢
  unfold QE at ha
  exact pa_cons ha hr (star_ok h)
theorem qe_lst (h : QA X es t) : QE X (.List es pos) (tLst t) := by
  unfold QA at h
  exact qe_of (pe_lst h)
end
end L2
namespace L2
open PySem PySem.Spec PyProof.Rows
@[irreducible] def QS (X : Cx) (st : Stmt) (t : TS) : Prop := PS X st t
section
variable {X : Cx} {e : Expr} {te : TE} {pos : Pos} {ts us : TS} {st : Stmt} {rest : List Stmt}
theorem qs_of (h : PS X st ts) : QS X st ts := by unfold QS; exact h
theorem pss_consQ (h1 : QS X st ts) (h2 : PSs X rest us) : PSs X (st :: rest) (tSeq ts us) := by
  unfold QS at h1
  exact pss_cons h1 h2
/-- a block, a statement at a time -/
theorem blk_cons {R : TS → Prop} (h1 : PS X st ts) (h2 : ∃ us, PSs X rest us ∧ R (tSeq ts us)) : ∃ t, PSs X (st :: rest) t ∧ R t := let ⟨_, a, b⟩ := h2; ⟨_, pss_cons h1 a, b⟩
theorem blk_consQ {R : TS → Prop} (h1 : QS X st ts) (h2 : ∃ us, PSs X rest us ∧ R (tSeq ts us)) : ∃ t, PSs X (st :: rest) t ∧ R t := let ⟨_, a, b⟩ := h2; ⟨_, pss_consQ h1 a, b⟩
theorem qs_set {i : Nat} {y : Str} {p : Pos} (hN : X.N.Nodup) (hi : X.N[i]? = some y) (hx : Loc X.env.scope y) (he : QE X e te) (hf : X.fn y = true ∨ X.env.scope.names.lookup y = some .local) (hs : swapsWith e (some (.Name y p)) pos.line X.env = pure false) : QS X (.Assign [.Name y p] e pos) (tAsg te (gName i)) := by
  unfold QE at he
  exact qs_of (ps_set hN hi hx he hs hf)
theorem qs_setIx {i : Nat} {y : Str} {p pos2 : Pos} {a b : Expr} {ta tb : TE} {r : R2} (hN : X.N.Nodup) (hi : X.N[i]? = some y) (hx : Loc X.env.scope y) (hr : IxR X r) (ha : QE X a ta) (hb : PE X b tb) (hp : PlainIx b) (hf : X.fn y = true ∨ X.env.scope.names.lookup y = some .local) (hs : swapsWith (.Subscript a b pos2) (some (.Name y p)) pos.line X.env = pure false) : QS X (.Assign [.Name y p] (.Subscript a b pos2) pos) (tAsg (tOp r ta tb) (gName i)) := by
  unfold QE at ha
  exact qs_of (ps_set hN hi hx (pe_ix hr ha hb hp) hs hf)
end
end L2
namespace L2
open PySem PySem.Spec PyProof.Rows
/-! ### all(..) of a list of truths -/
theorem vals_bls : ∀ {bs : List Bool} {us : List Value}, Vals (bs.map V.bl) us → us = bs.map Value.bool
  | [], _, .nil => rfl
  | b :: r, _, .cons a t => by rw [show _ = Value.bool b from a, vals_bls t]; rfl
theorem all_range (bs : List Bool) : ((List.range bs.length).all fun i => (bs[i]?).getD true) = bs.all id := by
  rw [Bool.eq_iff_iff, List.all_eq_true, List.all_eq_true]
  constructor
  · intro h b hb
    obtain ⟨i, hi, rfl⟩ := List.getElem_of_mem hb
    have := h i (List.mem_range.mpr hi)
    rw [List.getElem?_eq_getElem hi] at this
    exact this
  · intro h i hi
    have hi := List.mem_range.mp hi
    rw [List.getElem?_eq_getElem hi]
    exact h _ (List.getElem_mem hi)
section
variable {X : Cx}
theorem call_all (hc : X.calm = true) : CallR X (.builtin "all") (fun xs H Q => ∃ p bs, xs = [.ref p] ∧ SqL X.K H p (List.map V.bl bs) ∧ Q (.bl (bs.all id)) H) := by
  intro pins s σ H xs us Q I r h
  obtain ⟨p, bs, rfl, hq, q⟩ := h
  obtain ⟨u, rfl, rx⟩ := vals1 r
  cases rx
  obtain ⟨its, r', pl, hz⟩ := I.list hq
  obtain rfl := vals_bls r'
  have hl := pl.isList
  have hlt : p < s.heap.objs.size := by obtain ⟨_, e, _⟩ := hl; exact Heap.lt_size e
  refine call_all_walk (wpAny_pyIter_list hl ?_)
  refine ⟨s.heap.objs.size, [s.heap.objs.size, p], [s.heap.objs.size], (bs.map Value.bool).toArray.size, _, _, fun i => (bs[i]?).getD true, rfl, Walks.list (A := X.A.in1) (show X.A.handled = none from I.ok.hd hc) _ p (Nat.ne_of_lt hlt) (bs.map Value.bool).toArray,
    ⟨⟨_, Heap.get?_push_size _ rfl, rfl, rfl⟩, hl.push _⟩, fun i v s' Q' E' hP hQ => ?_, fun h' tk hk => ?_⟩
  · have hP : (bs.map Value.bool)[i]? = some v := by simpa using hP
    rw [List.getElem?_map] at hP
    cases e : bs[i]? with
    | none => rw [e] at hP; cases hP
    | some b =>
      dsimp only at hQ
      rw [e] at hP hQ
      cases hP
      exact wpAny_truthy_bool hQ
  · have e : ((List.range (bs.map Value.bool).toArray.size).all fun i => (bs[i]?).getD true) = bs.all id := by
      rw [List.size_toArray, List.length_map]
      exact all_range bs
    rw [e]
    refine ⟨.bl (bs.all id), H, I.kept (t' := tk) fun b x e => hk b x (fun hm => ?_) (Heap.get?_push_of_some _ e), rfl, q⟩
    rw [List.mem_singleton.mp hm] at e
    exact Nat.lt_irrefl _ (Heap.lt_size e)
end
end L2
/-! A COMPREHENSION of lists that names locals of the def around (they are cells there): one clause, a plain name, no test -/
namespace L2
open PySem PySem.Spec PyProof.Rows
def tCompBF (J : It) (te : TE) (fr : St) (D : Addr) (R : Hp → Prop) (H1 : Hp) : Prop := ∃ W : Nat → Nat → Hp → Prop, (∃ m, W 0 m (upd H1 D (.lst []))) ∧
  ∀ i m H2, W i m H2 → (J.stop i H2 ∧ R H2) ∨ (J.go i H2 ∧ ∀ x H3, J.yld i H2 x H3 → te (some x :: fr) H3 fun y H4 => ∃ ys, H4 D = some (.lst ys) ∧ ys.length < sizeLine ∧ ∃ m', m' < m ∧ W (i + 1) m' (upd H4 D (.lst (ys ++ [y]))))
def takeS (js : List Nat) (σ : St) : St := js.map fun j => (σ[j]?).getD none
def tCompF (wi : TI) (te : TE) (js : List Nat) : TE := fun σ H Q => wi σ H fun J H1 => ∀ D, H1 D = none → tCompBF J te (takeS js σ) D (fun H2 => Q (.ref D) H2) H1
section
variable {X : Cx} {iter elt : Expr} {x : Str} {px pos : Pos} {scope : Scope} {te : TE} {wi : TI} {pins : List (Addr × Obj)} {σ : St} {ys : List Str} {js : List Nat}
theorem i_compF {H : Hp} {Q : VK} (h : wi σ H fun J H1 => ∀ D, H1 D = none → tCompBF J te (takeS js σ) D (fun H2 => Q (.ref D) H2) H1) : tCompF wi te js σ H Q := h
end
end L2
namespace L2
end L2
/-! for k, x in enumerate(xs); sum(..) of a list of ints -/
namespace L2
open PySem PySem.Spec PyProof.Rows
/-- the pairs of the list at a -/
def Ite (K : PySem.W.Frag) (a : Addr) : It :=
  ⟨fun i H => ∃ xs x, SqL K H a xs ∧ xs[i]? = some x, fun i H y H' => ∃ t x, y = .ref t ∧ H t = none ∧ H' = upd H t (.tup [.int i, x]) ∧ ∀ xs, SqL K H a xs → xs[i]? = some x, fun i H => ∃ xs, SqL K H a xs ∧ xs.length ≤ i⟩
section
variable {prog : Program} {w : World} {A : Around} {E : Value → Shared → Prop} {s : Shared}
end
section
variable {X : Cx}
def iEnum (K : PySem.W.Frag) (ta : TA) : TI := fun σ H R => ta σ H fun vs H1 => ∃ a, vs = [.ref a] ∧ (∃ xs, SqL K H1 a xs) ∧ R (Ite K a) H1
theorem i_iEnum {K : PySem.W.Frag} {ta : TA} {σ : St} {H : Hp} {R : It → Hp → Prop} (h : ta σ H fun vs H1 => ∃ a, vs = [.ref a] ∧ (∃ xs, SqL K H1 a xs) ∧ R (Ite K a) H1) : iEnum K ta σ H R := h
/-! ### sum -/
end
end L2
namespace L2
open PySem PySem.Spec PyProof.Rows
/-! ### one of two readings of the same expression (a method of one class or of another one) -/
section
variable {X : Cx} {e : Expr} {t1 t2 : TE}
end
/-- what is told apart of a new object -/
theorem new_obj {H : Hp} {p : Addr} {o : HO} {A : Hp → Prop} (hp : H p = none) (h : ∀ H', Same H H' → H' p = some o → A H') : A (upd H p o) := h _ (same_upd hp) upd_same
theorem new_obj2 {α : Type} {H : Hp} {p : Addr} {o : HO} {A : Hp → α → Prop} {Q : α} (hp : H p = none) (h : ∀ H', Same H H' → H' p = some o → A H' Q) : A (upd H p o) Q := h _ (same_upd hp) upd_same
/-! ### comprehensions: over a tuple; and where each item comes of its own, and nothing that stood is changed -/
section
variable {K : PySem.W.Frag} {a D : Addr} {xs : List V} {te : TE} {fr : St} {R : Hp → Prop} {H1 : Hp}
/-- the list as far as it is made -/
def Mp (H1 : Hp) (D : Addr) (f : Nat → V) (i : Nat) (H : Hp) : Prop := Same H1 H ∧ H D = some (.lst ((List.range i).map f))
theorem Mp.zero {f : Nat → V} (hD : H1 D = none) : Mp H1 D f 0 (upd H1 D (.lst [])) := ⟨same_upd hD, upd_same⟩
theorem Mp.step {f : Nat → V} {n i : Nat} {H4 : Hp} {y : V} (hD : H1 D = none) (hn : n < sizeLine) (hi : i < n) (S : Same H1 H4) (h4 : H4 D = some (.lst ((List.range i).map f))) (e : y = f i) :
    ∃ ys, H4 D = some (.lst ys) ∧ ys.length < sizeLine ∧ ∃ m', m' < n - i ∧ cW n (Mp H1 D f) (i + 1) m' (upd H4 D (.lst (ys ++ [y]))) := by
  refine comp_next (n := n) h4 (by rw [List.length_map, List.length_range]; omega) hi ⟨?_, ?_⟩
  · intro b o hb
    rw [upd_ne (ne_of_none hb hD)]
    exact S b o hb
  · rw [upd_same, List.range_succ, List.map_append, e]
    rfl
theorem range_map {f : Nat → V} {g : V → V} {xs : List V} (h : ∀ i x, xs[i]? = some x → f i = g x) : (List.range xs.length).map f = xs.map g := by
  refine List.ext_getElem? fun i => ?_
  rw [List.getElem?_map, List.getElem?_map]
  by_cases hi : i < xs.length
  · rw [List.getElem?_range hi, List.getElem?_eq_getElem hi]
    show some (f i) = some (g xs[i])
    rw [h i _ (List.getElem?_eq_getElem hi)]
  · rw [List.getElem?_eq_none (by rw [List.length_range]; omega), List.getElem?_eq_none (by omega)]
    rfl
def ofG (g : V → V) (xs : List V) (i : Nat) : V := ((xs[i]?).map g).getD .non
theorem ofG_at {g : V → V} {xs : List V} {i : Nat} {x : V} (h : xs[i]? = some x) : ofG g xs i = g x := by
  unfold ofG
  rw [h]
  rfl
def MpK (H1 : Hp) (D : Addr) (f : Nat → V) (n i : Nat) : VK := fun y H4 => ∃ ys, H4 D = some (.lst ys) ∧ ys.length < sizeLine ∧ ∃ m', m' < n - i ∧ cW n (Mp H1 D f) (i + 1) m' (upd H4 D (.lst (ys ++ [y])))
theorem Mp.done {g : V → V} {i : Nat} {x y : V} {H4 : Hp} (hD : H1 D = none) (hn : xs.length < sizeLine) (hx : xs[i]? = some x) (S : Same H1 H4) (h4 : H4 D = some (.lst ((List.range i).map (ofG g xs)))) (e : y = g x) : MpK H1 D (ofG g xs) xs.length i y H4 := by
  have hi : i < xs.length := by
    rcases Nat.lt_or_ge i xs.length with q | q
    · exact q
    · rw [List.getElem?_eq_none q] at hx; cases hx
  exact Mp.step hD hn hi S h4 (e.trans (ofG_at hx).symm)
theorem comp_listM (g : V → V) (hq : SqL K H1 a xs) (hD : H1 D = none)
    (hs : ∀ i x H, xs[i]? = some x → Same H1 H → H D = some (.lst ((List.range i).map (ofG g xs))) → te [some x] H (MpK H1 D (ofG g xs) xs.length i))
    (hd : ∀ H, Same H1 H → H D = some (.lst (xs.map g)) → R H) : tCompB (Itl K a) te D R H1 :=
  comp_list (Mp H1 D (ofG g xs)) (Mp.zero hD) (fun _ _ _ p => p.1.seq hq) (fun i x H hx hi p => hs i x H hx p.1 p.2)
    fun H p => hd H p.1 (by rw [← range_map (f := ofG g xs) fun i x => ofG_at]; exact p.2)
theorem i_iRng2 {tr : TA} {σ : St} {H : Hp} {R : It → Hp → Prop} (h : tr σ H fun vs H1 => ∃ i j : Int, vs = [.int i, .int j] ∧ (-(2 ^ 62) ≤ i ∧ i < 2 ^ 62 ∧ -(2 ^ 62) ≤ j ∧ j < 2 ^ 62) ∧ R (Itr i (j - i).toNat) H1) : iRng2 tr σ H R := h
end
/-! ### C() of a class without an __init__ of its own -/
structure Mk0 (K : PySem.W.Frag) (C : Addr) : Prop where
  makes : PySem.W.makesIn K C = true
  init : PySem.W.findIn K (.ref C) "__init__" = some (some (.builtin "object.__init__"))
  kp : PySem.W.keepIn K (.ref C) = true
def tMake0 (C : Addr) : TE := fun _ H Q => ∀ x dx, H x = none → H dx = none → dx ≠ x → Q (.ref x) (upd (upd H dx (.own x)) x (.ins C dx []))
theorem i_make0 {C : Addr} {σ : St} {H : Hp} {Q : VK} (h : ∀ x dx, H x = none → H dx = none → dx ≠ x → Q (.ref x) (upd (upd H dx (.own x)) x (.ins C dx []))) : tMake0 C σ H Q := h
end L2
namespace L2
open PySem PySem.Spec PyProof.Rows
end L2
/-! comprehensions with a target of several names -/
namespace L2
open PySem PySem.Spec PyProof.Rows
def tCompBT (J : It) (g : TG) (te : TE) (n : Nat) (fr : St) (D : Addr) (R : Hp → Prop) (H1 : Hp) : Prop := ∃ W : Nat → Nat → Hp → Prop, (∃ m, W 0 m (upd H1 D (.lst []))) ∧
  ∀ i m H2, W i m H2 → (J.stop i H2 ∧ R H2) ∨ (J.go i H2 ∧ ∀ x H3 pre, J.yld i H2 x H3 → List.length pre = n → g x (pre ++ fr) H3 fun σ' H' => (∃ pre', List.length pre' = n ∧ σ' = pre' ++ fr) ∧ te σ' H' fun y H4 => ∃ ys, H4 D = some (.lst ys) ∧ ys.length < sizeLine ∧ ∃ m', m' < m ∧ W (i + 1) m' (upd H4 D (.lst (ys ++ [y]))))
def tCompT (wi : TI) (g : TG) (te : TE) (n : Nat) (js : List Nat) : TE := fun σ H Q => wi σ H fun J H1 => ∀ D, H1 D = none → tCompBT J g te n (takeS js σ) D (fun H2 => Q (.ref D) H2) H1
section
variable {X : Cx} {iter elt tg : Expr} {xs : List Str} {g : TG} {pos : Pos} {scope : Scope} {te : TE} {wi : TI} {pins : List (Addr × Obj)} {σ : St} {ys : List Str} {js : List Nat}
theorem i_compT {H : Hp} {Q : VK} {n : Nat} (h : wi σ H fun J H1 => ∀ D, H1 D = none → tCompBT J g te n (takeS js σ) D (fun H2 => Q (.ref D) H2) H1) : tCompT wi g te n js σ H Q := h
end
end L2
/-! range with a step; enumerate of a tuple -/
namespace L2
open PySem PySem.Spec PyProof.Rows
/-! ### range(lo, hi, st) -/
def Itrs (lo st : Int) (n : Nat) : It := ⟨fun i _ => i < n, fun i H x H' => H' = H ∧ x = .int (lo + i * st), fun i _ => n ≤ i⟩
/-- how many -/
def rgN (lo hi st : Int) : Nat := if lo < hi then ((hi - lo - 1) / st + 1).toNat else 0
section
variable {X : Cx} {tg : Expr}
def iRng3 (ta : TA) : TI := fun σ H R => ta σ H fun vs H1 => ∃ i j st : Int, vs = [.int i, .int j, .int st] ∧ (0 ≤ i ∧ i < 100000000 ∧ 0 ≤ j ∧ j < 100000000 ∧ 0 < st ∧ st < 1000000) ∧ R (Itrs i st (rgN i j st)) H1
theorem i_iRng3 {tr : TA} {σ : St} {H : Hp} {R : It → Hp → Prop} (h : tr σ H fun vs H1 => ∃ i j st : Int, vs = [.int i, .int j, .int st] ∧ (0 ≤ i ∧ i < 100000000 ∧ 0 ≤ j ∧ j < 100000000 ∧ 0 < st ∧ st < 1000000) ∧ R (Itrs i st (rgN i j st)) H1) : iRng3 tr σ H R := h
end
/-! ### enumerate of a tuple -/
section
variable {prog : Program} {w : World} {A : Around} {E : Value → Shared → Prop} {s : Shared}
end
section
open AutoSeq1 (wpAny_loadPart')
set_option maxRecDepth 100000
end
section
variable {prog : Program} {w : World} {A : Around} {E : Value → Shared → Prop} {s : Shared}
end
/-- the pairs of the tuple at a -/
def IteT (K : PySem.W.Frag) (a : Addr) : It :=
  ⟨fun i H => ∃ xs x, SqT K H a xs ∧ xs[i]? = some x, fun i H y H' => ∃ t x, y = .ref t ∧ H t = none ∧ H' = upd H t (.tup [.int i, x]) ∧ ∀ xs, SqT K H a xs → xs[i]? = some x, fun i H => ∃ xs, SqT K H a xs ∧ xs.length ≤ i⟩
section
variable {X : Cx}
def iEnumT (K : PySem.W.Frag) (ta : TA) : TI := fun σ H R => ta σ H fun vs H1 => ∃ a, vs = [.ref a] ∧ (∃ xs, SqT K H1 a xs) ∧ R (IteT K a) H1
theorem i_iEnumT {K : PySem.W.Frag} {ta : TA} {σ : St} {H : Hp} {R : It → Hp → Prop} (h : ta σ H fun vs H1 => ∃ a, vs = [.ref a] ∧ (∃ xs, SqT K H1 a xs) ∧ R (IteT K a) H1) : iEnumT K ta σ H R := h
end
end L2
namespace L2
open PySem PySem.Spec PyProof.Rows
/-! ### for over what a def tells from which errors may come: no error leaves the loop itself -/
section
variable {X : Cx} {tg : Expr}
end
end L2
namespace L2
/-! ### what the rules of dicts ask -/
section
variable {σ : St} {H : Hp} {Q : VK} {td ty tx tv : TE}
theorem i_dget (h : td σ H fun x H1 => ty σ H1 fun y H2 => ∃ a v, x = .ref a ∧ DGet H2 a y (some v) ∧ Q v H2) : tDGet td ty σ H Q := h
theorem i_dget1 (h : td σ H fun x H1 => ∃ a, x = .ref a ∧ IsD H1 a ∧ ty σ H1 fun y H2 => ∃ o, DGet H2 a y o ∧ Q (o.getD .non) H2) : tDGet1 td ty σ H Q := h
theorem i_dget2 (h : td σ H fun x H1 => ∃ a, x = .ref a ∧ IsD H1 a ∧ ty σ H1 fun y H2 => tx σ H2 fun z H3 => ∃ o, DGet H3 a y o ∧ Q (o.getD z) H3) : tDGet2 td ty tx σ H Q := h
theorem i_din (h : ty σ H fun y H1 => td σ H1 fun x H2 => ∃ a o, x = .ref a ∧ DGet H2 a y o ∧ Q (.bl o.isSome) H2) : tDIn ty td σ H Q := h
theorem i_dnotin (h : ty σ H fun y H1 => td σ H1 fun x H2 => ∃ a o, x = .ref a ∧ DGet H2 a y o ∧ Q (.bl (!o.isSome)) H2) : tDNotIn ty td σ H Q := h
theorem i_dput {nx bk ct : St → Hp → Prop} {rt : VK} (h : tv σ H fun v H1 => td σ H1 fun x H2 => ty σ H2 fun y H3 => ∃ a H4, x = .ref a ∧ DPut H3 a y v H4 ∧ nx σ H4) : sDPut td ty tv ⟨nx, rt, bk, ct⟩ σ H := h
theorem i_dnewT (h : ∀ p, H p = none → Q (.ref p) (upd H p (.dT []))) : tDNewT σ H Q := h
end
end L2
/-! zip of two lists, in a comprehension and in a loop -/
namespace L2
open PySem PySem.Spec PyProof.Rows
/-- the pairs of the lists at a and b -/
def Itz (K : PySem.W.Frag) (a b : Addr) : It :=
  ⟨fun i H => ∃ xs ys x y, SqL K H a xs ∧ SqL K H b ys ∧ xs[i]? = some x ∧ ys[i]? = some y,
   fun i H v H' => ∃ t x y, v = .ref t ∧ H t = none ∧ H' = upd H t (.tup [x, y]) ∧ (∀ xs, SqL K H a xs → xs[i]? = some x) ∧ (∀ ys, SqL K H b ys → ys[i]? = some y),
   fun i H => ∃ xs ys, SqL K H a xs ∧ SqL K H b ys ∧ (xs.length ≤ i ∨ ys.length ≤ i)⟩
structure Zap (z TI TO i1 i2 : Addr) : Prop where
  a1 : TI ≠ z
  a2 : TO ≠ z
  a3 : i1 ≠ z
  a4 : i2 ≠ z
  a5 : TI ≠ TO
  a6 : TI ≠ i1
  a7 : TI ≠ i2
  a8 : TO ≠ i1
  a9 : TO ≠ i2
  b1 : i1 ≠ i2
def Zst (z TI TO i1 i2 l1 l2 : Addr) (i : Nat) (h : Heap) : Prop := IsZip h z TI TO .none ∧ IsPair h TI (.ref i1) (.ref i2) ∧ (∃ a b, IsPair h TO a b) ∧ h.IsListIter i1 l1 i ∧ h.IsListIter i2 l2 i
theorem ne_cls {h : Heap} {a b : Addr} {o o' : Obj} (e : h.get? a = some o) (e' : h.get? b = some o') (n : o.cls ≠ o'.cls) : a ≠ b := by
  rintro rfl
  rw [e] at e'
  cases e'
  exact n rfl
theorem nT {a b : String} (h : Value.type a ≠ Value.type b) : Value.type a ≠ Value.type b := h
theorem Zap.apart {X : Cx} {pins : List (Addr × Obj)} {σ : St} {H : Hp} {s : Shared} {z TI TO i1 i2 l1 l2 : Addr} {i : Nat} {xs ys : List Value} (d : Zap z TI TO i1 i2) (st : Zst z TI TO i1 i2 l1 l2 i s.heap) (p : PlainL s.heap l1 xs.toArray) (q : PlainL s.heap l2 ys.toArray) (_ : Inv X pins σ H s) : ZipApart z TI TO i1 i2 l1 l2 := by
  obtain ⟨hz, hTI, ⟨a, b, hTO⟩, ⟨o1, e1, c1, _⟩, ⟨o2, e2, c2, _⟩⟩ := st
  obtain ⟨ol, el, cl, _⟩ := p.isList
  obtain ⟨om, em, cm, _⟩ := q.isList
  exact ⟨d.a1, d.a2, d.a3, d.a4, d.a5, d.a6, d.a7, d.a8, d.a9, d.b1,
    ne_cls el hz (by rw [cl]; exact nT (by decide)), ne_cls el hTO (by rw [cl]; exact nT (by decide)), ne_cls el e1 (by rw [cl, c1]; decide), ne_cls el e2 (by rw [cl, c2]; decide),
    ne_cls em hz (by rw [cm]; exact nT (by decide)), ne_cls em hTO (by rw [cm]; exact nT (by decide)), ne_cls em e1 (by rw [cm, c1]; decide), ne_cls em e2 (by rw [cm, c2]; decide)⟩
section
variable {X : Cx}
def iZip (K : PySem.W.Frag) (ta : TA) : TI := fun σ H R => ta σ H fun vs H1 => ∃ a b, vs = [.ref a, .ref b] ∧ (∃ xs ys, SqL K H1 a xs ∧ SqL K H1 b ys) ∧ R (Itz K a b) H1
theorem i_iZip {K : PySem.W.Frag} {ta : TA} {σ : St} {H : Hp} {R : It → Hp → Prop} (h : ta σ H fun vs H1 => ∃ a b, vs = [.ref a, .ref b] ∧ (∃ xs ys, SqL K H1 a xs ∧ SqL K H1 b ys) ∧ R (Itz K a b) H1) : iZip K ta σ H R := h
end
/-! ### name = a comprehension with a target of several names -/
section
variable {X : Cx} {iter elt tg : Expr} {xs : List Str} {g : TG} {pos : Pos} {scope : Scope} {te : TE} {wi : TI} {ys : List Str} {js : List Nat}
end
/-! ### << of two written numbers -/
section
variable {X : Cx}
def rShlC (k : Int) : R2 := fun x y H Q => ∃ i j, x = .int i ∧ y = .int j ∧ CPow i j ∧ i * 2 ^ j.toNat = k ∧ Q (.int k) H
theorem i_shlC {i j k : Int} {H : Hp} {Q : VK} (hc : CPow i j) (e : i * 2 ^ j.toNat = k) (h : Q (.int k) H) : rShlC k (.int i) (.int j) H Q := ⟨i, j, rfl, rfl, hc, e, h⟩
end
theorem i_gSub {to ti : TE} {t : TSet} {v : V} {σ : St} {H : Hp} {Q : St → Hp → Prop} (h : to σ H fun o H1 => ti σ H1 fun i H2 => t o i v H2 fun H3 => Q σ H3) : gSub to ti t v σ H Q := h
/-! ### bit_length of an int -/
section
variable {X : Cx}
def rBits : V → List V → Hp → VK → Prop := fun x vs H Q => ∃ i : Int, x = .int i ∧ vs = [] ∧ Q (.int (Builtin.Int.intBits i : Nat)) H
theorem i_bits {K : PySem.W.Frag} {i : Int} {H : Hp} {Q : VK} (h : Q (.int (Builtin.Int.intBits i : Nat)) H) : tyV K "int" (.int i) H ∧ rBits (.int i) [] H Q := ⟨rfl, i, rfl, rfl, h⟩
end
end L2
/-! zip of two tuples, in a comprehension -/
namespace L2
open PySem PySem.Spec PyProof.Rows
section
variable {prog : Program} {w : World} {A : Around} {E : Value → Shared → Prop} {s : Shared}
end
section
variable {prog : Program} {w : World} {A : Around} {E : Value → Shared → Prop} {s : Shared}
end
/-- the pairs of the tuples at a and b -/
def ItzT (K : PySem.W.Frag) (a b : Addr) : It :=
  ⟨fun i H => ∃ xs ys x y, SqT K H a xs ∧ SqT K H b ys ∧ xs[i]? = some x ∧ ys[i]? = some y,
   fun i H v H' => ∃ t x y, v = .ref t ∧ H t = none ∧ H' = upd H t (.tup [x, y]) ∧ (∀ xs, SqT K H a xs → xs[i]? = some x) ∧ (∀ ys, SqT K H b ys → ys[i]? = some y),
   fun i H => ∃ xs ys, SqT K H a xs ∧ SqT K H b ys ∧ (xs.length ≤ i ∨ ys.length ≤ i)⟩
section
variable {X : Cx}
def iZipT (K : PySem.W.Frag) (ta : TA) : TI := fun σ H R => ta σ H fun vs H1 => ∃ a b, vs = [.ref a, .ref b] ∧ (∃ xs ys, SqT K H1 a xs ∧ SqT K H1 b ys) ∧ R (ItzT K a b) H1
theorem i_iZipT {K : PySem.W.Frag} {ta : TA} {σ : St} {H : Hp} {R : It → Hp → Prop} (h : ta σ H fun vs H1 => ∃ a b, vs = [.ref a, .ref b] ∧ (∃ xs ys, SqT K H1 a xs ∧ SqT K H1 b ys) ∧ R (ItzT K a b) H1) : iZipT K ta σ H R := h
end
end L2
namespace L2
open PySem PySem.Spec PyProof.Rows HT
/-! ### t[lo:hi] that is the whole of t: t itself -/
section
variable {prog : Program} {w : World} {A : Around} {E : Value → Shared → Prop} {s : Shared}
end
section
variable {X : Cx}
end
end L2
/-! != of an empty dict with itself -/
namespace L2
open PySem PySem.Spec PyProof.Rows PySem.SeqAt
open AutoSeq1 (wpAny_loadPart')
section
variable {X : Cx}
end
end L2
namespace L2
open PySem PySem.Spec PyProof.Rows
section
variable {X : Cx} {a b : Expr} {ta tb : TE} {pos : Pos} {ts : TS} {st : Stmt}
end
end L2
namespace L2
open PySem PySem.Spec PyProof.Rows
end L2
/-! A row of bytes (noughts without end behind it) and spans: the mathematics of point 7, over SpanMath, Math2, Math3.
    rn d k: the number of the row's first k bytes; InS d x: the row lies in the span x; pick: the bit that a seeker tells;
    in0, in_step: it stays in the span; in_back, picks_back: the bits come again; told_in: rows that begin with what is told. -/
namespace SpanMath
def rn (d : List Int) : Nat → Int
  | 0 => 0
  | k + 1 => rn d k * 256 + (d[k]?).getD 0
def Byt (d : List Int) : Prop := ∀ x ∈ d, 0 ≤ x ∧ x ≤ 255
theorem byt_at {d : List Int} (h : Byt d) (k : Nat) : 0 ≤ (d[k]?).getD 0 ∧ (d[k]?).getD 0 ≤ 255 := by
  cases e : d[k]? with
  | none => exact ⟨by decide, by decide⟩
  | some x => exact h x (List.mem_of_getElem? e)
theorem rn_bd {d : List Int} (h : Byt d) : ∀ k, 0 ≤ rn d k ∧ rn d k < pw k
  | 0 => ⟨Int.le_refl _, show (0 : Int) < 1 by decide⟩
  | k + 1 => by
    obtain ⟨h1, h2⟩ := rn_bd h k
    obtain ⟨h3, h4⟩ := byt_at h k
    show 0 ≤ rn d k * 256 + _ ∧ rn d k * 256 + _ < pw k * 256
    omega
theorem rn_add {d : List Int} (h : Byt d) (k : Nat) : ∀ r, ∃ q, rn d (k + r) = rn d k * pw r + q ∧ 0 ≤ q ∧ q < pw r
  | 0 => ⟨0, by show rn d k = rn d k * 1 + 0; omega, by decide, by decide⟩
  | r + 1 => by
    obtain ⟨q, e, h1, h2⟩ := rn_add h k r
    obtain ⟨h3, h4⟩ := byt_at h (k + r)
    refine ⟨q * 256 + (d[k + r]?).getD 0, ?_, by omega, ?_⟩
    · show rn d (k + r) * 256 + (d[k + r]?).getD 0 = rn d k * (pw r * 256) + _
      rw [e, ← Int.mul_assoc, Int.add_mul, Int.add_assoc]
    · show _ < pw r * 256
      omega
/-- it lies within low .. low + width, at one scale and at another -/
theorem rn_scale {d : List Int} (h : Byt d) (k r : Nat) (l w' : Int) : (l * pw r ≤ rn d (k + r) ∧ rn d (k + r) < l * pw r + w' * pw r) ↔ (l ≤ rn d k ∧ rn d k < l + w') := by
  obtain ⟨q, e, h1, h2⟩ := rn_add h k r
  have hp := pw_pos r
  rw [e, ← Int.add_mul]
  generalize rn d k = v
  generalize pw r = p at hp h1 h2 ⊢
  constructor
  · rintro ⟨a, b⟩
    constructor
    · refine Int.le_of_lt_add_one (Int.lt_of_mul_lt_mul_right (a := p) ?_ (Int.le_of_lt hp))
      rw [Int.add_mul, Int.one_mul]
      omega
    · refine Int.lt_of_mul_lt_mul_right (a := p) ?_ (Int.le_of_lt hp)
      omega
  · rintro ⟨a, b⟩
    have a' := Int.mul_le_mul_of_nonneg_right a (Int.le_of_lt hp)
    have b' := Int.mul_le_mul_of_nonneg_right (show v + 1 ≤ l + w' by omega) (Int.le_of_lt hp)
    rw [Int.add_mul v 1 p, Int.one_mul] at b'
    omega
structure InS (d : List Int) (x : Sn) : Prop where
  lo : x.1 ≤ rn d (sz x)
  hi : rn d (sz x) < x.1 + x.2.1
theorem in0 {d : List Int} (h : Byt d) : InS d s0 := by
  obtain ⟨h1, h2⟩ := rn_bd h 5
  have e : pw 5 = 1099511627776 := pw5
  exact ⟨h1, by show rn d 5 < 0 + 1099511627776; omega⟩
theorem renIs (l w' s' : Int) : ∃ r : Nat, ren l w' s' = (l * pw r, w' * pw r, s' + r) := by
  unfold ren
  split
  · split
    · exact ⟨2, rfl⟩
    · exact ⟨1, rfl⟩
  · refine ⟨0, ?_⟩
    show (l, w', s') = (l * 1, w' * 1, s' + 0)
    rw [Int.mul_one, Int.mul_one, Int.add_zero]
theorem in_ren {d : List Int} (h : Byt d) {l w' s' : Int} (hs : 0 ≤ s') : InS d (ren l w' s') ↔ (l ≤ rn d s'.toNat ∧ rn d s'.toNat < l + w') := by
  obtain ⟨r, e⟩ := renIs l w' s'
  rw [e]
  have hz : sz (l * pw r, w' * pw r, s' + r) = s'.toNat + r := by
    show (s' + (r : Int)).toNat = s'.toNat + r
    omega
  rw [← rn_scale h s'.toNat r l w']
  constructor
  · rintro ⟨a, b⟩
    rw [hz] at a b
    exact ⟨a, b⟩
  · rintro ⟨a, b⟩
    exact ⟨by rw [hz]; exact a, by rw [hz]; exact b⟩
/-- the bit that a seeker tells -/
def pick (d : List Int) (x : Sn) (c : Int) : Int := if rn d (sz x) < x.1 + cut x.2.1 c then 1 else 0
theorem pick_bit (d : List Int) (x : Sn) (c : Int) : pick d x c = 0 ∨ pick d x c = 1 := by
  unfold pick
  split
  · exact .inr rfl
  · exact .inl rfl
theorem in_step {d : List Int} (hd : Byt d) {x : Sn} {c : Int} (h : OkS x) (i : InS d x) : InS d (nar x c (pick d x c)) := by
  have hz := h.ok.z
  have i1 := i.lo
  have i2 := i.hi
  unfold pick nar
  split
  · rw [if_pos rfl]
    refine (in_ren hd (by omega)).mpr ⟨i1, ?_⟩
    assumption
  · rw [if_neg (by decide)]
    refine (in_ren hd (by omega)).mpr ⟨?_, ?_⟩
    · show _ ≤ rn d (sz x)
      omega
    · show rn d (sz x) < _
      omega
theorem in_back {d : List Int} (hd : Byt d) {x : Sn} {c b : Int} (h : OkS x) (hc : Ch c) (hb : b = 0 ∨ b = 1) (i : InS d (nar x c b)) : InS d x ∧ b = pick d x c := by
  have hz := h.ok.z
  obtain ⟨a1, a2, a3⟩ := cut_ok h.ok.w0 h.ok.w1 hc
  unfold nar at i
  rcases hb with rfl | rfl
  · rw [if_neg (by decide)] at i
    obtain ⟨i1, i2⟩ := (in_ren hd (by omega)).mp i
    have i1 : x.1 + cut x.2.1 c ≤ rn d (sz x) := i1
    have i2 : rn d (sz x) < x.1 + cut x.2.1 c + (x.2.1 - cut x.2.1 c) := i2
    refine ⟨⟨by omega, by omega⟩, ?_⟩
    unfold pick
    rw [if_neg (by omega)]
  · rw [if_pos rfl] at i
    obtain ⟨i1, i2⟩ := (in_ren hd (by omega)).mp i
    have i1 : x.1 ≤ rn d (sz x) := i1
    have i2 : rn d (sz x) < x.1 + cut x.2.1 c := i2
    refine ⟨⟨by omega, by omega⟩, ?_⟩
    unfold pick
    rw [if_pos i2]
/-- the spans of a row of steps -/
def nars (x : Sn) : List (Int × Int) → Sn
  | [] => x
  | (c, b) :: r => nars (nar x c b) r
def StepsOk (l : List (Int × Int)) : Prop := ∀ q ∈ l, Ch q.1 ∧ (q.2 = 0 ∨ q.2 = 1)
theorem nars_okS : ∀ {l : List (Int × Int)} {x : Sn}, StepsOk l → OkS x → OkS (nars x l)
  | [], _, _, h => h
  | (c, b) :: r, x, hl, h => nars_okS (l := r) (fun q hq => hl q (.tail _ hq)) (nar_okS (b := b) h (hl (c, b) (.head _)).1)
theorem nars_snoc (x : Sn) (c b : Int) : ∀ l, nars x (l ++ [(c, b)]) = nar (nars x l) c b
  | [] => rfl
  | (c', b') :: r => nars_snoc (nar x c' b') c b r
/-- a row that lies in the last span lies in all ahead -/
theorem in_nars {d : List Int} (hd : Byt d) : ∀ {l : List (Int × Int)} {x : Sn}, StepsOk l → OkS x → InS d (nars x l) → InS d x
  | [], _, _, _, i => i
  | (c, b) :: r, x, hl, h, i =>
    have q := hl (c, b) (.head _)
    (in_back hd h q.1 q.2 (in_nars hd (l := r) (fun q hq => hl q (.tail _ hq)) (nar_okS (b := b) h q.1) i)).1
/-- and its picks are the bits -/
theorem picks_back {d : List Int} (hd : Byt d) {l r : List (Int × Int)} {c b : Int} {x : Sn} (hl : StepsOk (l ++ (c, b) :: r)) (h : OkS x) (i : InS d (nars x (l ++ (c, b) :: r))) : pick d (nars x l) c = b ∧ InS d (nars x l) := by
  have e : nars x (l ++ (c, b) :: r) = nars (nar (nars x l) c b) r := by
    rw [← nars_snoc]
    induction l generalizing x with
    | nil => rfl
    | cons q l ih => exact ih (x := nar x q.1 q.2) (fun z hz => hl z (.tail _ hz)) (nar_okS (b := q.2) h (hl q (.head _)).1) i
  have hq := hl (c, b) (List.mem_append_right _ (.head _))
  have hx : OkS (nars x l) := nars_okS (fun z hz => hl z (List.mem_append_left _ hz)) h
  have hr : StepsOk r := fun z hz => hl z (List.mem_append_right _ (.tail _ hz))
  rw [e] at i
  have i2 := in_nars hd hr (nar_okS (b := b) hx hq.1) i
  obtain ⟨a, b'⟩ := in_back hd hx hq.1 hq.2 i2
  exact ⟨b'.symm, a⟩
/-! ### rows that begin with what is told -/
theorem rn_val : ∀ (k : Nat) (d : List Int), k ≤ d.length → rn d k = val (d.take k)
  | 0, _, _ => rfl
  | k + 1, d, h => by
    have hk : k < d.length := by omega
    have e : d.take (k + 1) = d.take k ++ [d[k]] := by rw [List.take_succ, List.getElem?_eq_getElem hk]; rfl
    rw [e, val_snoc, ← rn_val k d (by omega)]
    show rn d k * 256 + _ = _
    rw [List.getElem?_eq_getElem hk]
    rfl
theorem told_in {d : List Int} (hd : Byt d) {x : Sn} (h : OkS x) (hl : (tL x).length ≤ d.length) (hp : d.take (tL x).length = tL x) : InS d x := by
  have hk := tK_le h
  have e1 : rn d (sz x - tK x) = tCn x := by
    rw [← tL_len x, rn_val _ _ hl, hp, tL_val h]
  obtain ⟨q, e2, q0, q1⟩ := rn_add hd (sz x - tK x) (tK x)
  have e3 : sz x - tK x + tK x = sz x := by omega
  rw [e3, e1] at e2
  have hh := tK_hold h.ok
  have hb := (blk_ge x.1 (pw_pos (tK x))).1
  unfold hold at hh
  have hh : (tCn x + 1) * pw (tK x) ≤ x.1 + x.2.1 := hh
  have hb : x.1 ≤ tCn x * pw (tK x) := hb
  rw [Int.add_mul, Int.one_mul] at hh
  exact ⟨by rw [e2]; omega, by rw [e2]; omega⟩
end SpanMath
namespace Law
open PySem L2
local macro_rules | `(tactic| walk_at "side") => `(tactic| first | exact ⟨by decide, by decide⟩ | (show (0 : Int) < _; first | decide | omega) | exact Or.inl ⟨by omega, by omega⟩ | exact Or.inr ⟨by omega, by omega⟩ | exact ⟨by omega, by omega⟩ | exact ⟨by decide, by decide, by decide⟩)
local macro_rules | `(tactic| walk_at "len") => `(tactic| first | decide | (simp only [List.length_cons, List.length_nil]; decide))
local macro_rules | `(tactic| walk_at "rd1") => `(tactic| with_reducible first
  | refine i_seq ?_
  | (refine' i_var ?rdv ?_; (case rdv => with_unfolding_all rfl))
  | refine i_c ?_
  | refine i_op ?_
  | refine i_I0 ?_
  | refine i_test ?_
  | refine i_tB ?_
  | refine i_bl ?_
  | refine i_if ?_
  | refine i_asg ?_
  | refine i_ret ?_
  | refine i_next ?_
  | refine i_drop ?_
  | refine i_call ?_
  | refine i_callE ?_
  | refine i_methE ?_
  | refine i_makeE ?_
  | refine i_raise ?_
  | refine i_try ?_
  | refine i_cons ?_
  | refine i_nil ?_
  | refine i_cb ?_
  | refine i_eqI ?_
  | refine i_neI ?_
  | refine i_chain ?_
  | refine i_andV ?_
  | refine i_orV ?_
  | refine i_notV ?_
  | refine i_and ?_
  | refine i_or ?_
  | refine i_not ?_
  | refine i_ifE ?_
  | refine i_retN ?_
  | refine i_tup ?_
  | refine i_lst ?_
  | refine i_meth ?_
  | refine i_make ?_
  | refine i_make0 ?_
  | refine i_bm ?_
  | refine i_bm0 ?_
  | refine i_fld ?_
  | refine i_sfld ?_
  | refine i_sl ?_
  | refine i_noPart ?_
  | refine i_part ?_
  | refine i_int ?_
  | refine i_un ?_
  | refine i_U ?_
  | refine g0 ?_ | refine g1 ?_ | refine g2 ?_ | refine g3 ?_ | refine g4 ?_ | refine g5 ?_ | refine g6 ?_ | refine g7 ?_ | refine g8 ?_ | refine g9 ?_ | refine g10 ?_ | refine g11 ?_ | refine g12 ?_ | refine g13 ?_ | refine g14 ?_ | refine g15 ?_ | refine g16 ?_ | refine g17 ?_ | refine g18 ?_ | refine g19 ?_ | refine g20 ?_ | refine g21 ?_ | refine g22 ?_ | refine g23 ?_
  | refine i_gCons ?_
  | refine i_gNil ?_
  | refine iteT ?_
  | refine iteF ?_
  | refine iteNT ?_
  | refine iteNF ?_
  | refine i_for ?_
  | refine i_iList ?_
  | refine i_iTup ?_
  | refine i_iEnum ?_
  | refine i_compF ?_
  | refine i_iRng1 ?_
  | refine i_iRng2 ?_
  | refine i_iRng3 ?_
  | refine i_iEnumT ?_
  | refine i_iZip ?_
  | refine i_iZipT ?_
  | refine i_gSub ?_
  | refine i_bits ?_
  | refine i_compT ?_
  | refine i_dget ?_
  | refine i_dget1 ?_
  | refine i_dget2 ?_
  | refine i_din ?_
  | refine i_dnotin ?_
  | refine i_dput ?_
  | refine i_dnewT ?_
  | refine i_comp ?_
  | refine i_after ?_
  | (refine' i_shlC ?rdp ?rdq ?_; (case rdp => with_unfolding_all exact ⟨by decide, by decide, by decide⟩); (case rdq => with_unfolding_all decide))
  | (refine' i_powC ?rdp ?rdq ?_; (case rdp => with_unfolding_all exact ⟨by decide, by decide, by decide⟩); (case rdq => with_unfolding_all decide))
  | refine i_nonA ?_
  | (refine i_I ?rdc ?_; (case rdc => with_unfolding_all walk_at "side")))
local macro_rules | `(tactic| walk_at "rd") => `(tactic| repeat walk_at "rd1")
def top (i : Nat) : Stmt := PySem.Challenge.pw_foretell_k04_span_refused.main.body.getD i (.Pass ⟨0, 0, 0, 0⟩)
abbrev s_is_whole : Stmt := top 12
abbrev s_is_bit : Stmt := top 13
abbrev s_is_chance : Stmt := top 14
abbrev s_is_sign : Stmt := top 15
abbrev s_is_list_of_signs : Stmt := top 16
abbrev s_checked_bytes : Stmt := top 17
abbrev s_check_chance : Stmt := top 18
abbrev s_check_bit : Stmt := top 19
abbrev s_written : Stmt := top 24
abbrev s_first_block : Stmt := top 25
abbrev s_Span___init__ : Stmt := inClass (top 26) 0
abbrev s_Span_ends : Stmt := inClass (top 26) 1
abbrev s_Span_cut : Stmt := inClass (top 26) 2
abbrev s_Span_narrow : Stmt := inClass (top 26) 3
abbrev s_Span_settled : Stmt := inClass (top 26) 4
abbrev s_Span_holds_block : Stmt := inClass (top 26) 5
abbrev s_Span_told : Stmt := inClass (top 26) 6
abbrev s_Seeker___init__ : Stmt := inClass (top 28) 0
abbrev s_Seeker_follow : Stmt := inClass (top 28) 1
abbrev s_Seeker_byte_at : Stmt := inClass (top 28) 2
abbrev s_Seeker_bit : Stmt := inClass (top 28) 3
abbrev s_Seeker_ends : Stmt := inClass (top 28) 4
abbrev s__law_cell_at : Stmt := top 30
abbrev s__law_step : Stmt := top 31
abbrev s__law_kinds : Stmt := top 32
abbrev s_law : Stmt := top 33
structure Ads where
  f_is_whole : Addr
  d_is_whole : FuncData
  f_is_bit : Addr
  d_is_bit : FuncData
  f_is_chance : Addr
  d_is_chance : FuncData
  f_is_sign : Addr
  d_is_sign : FuncData
  f_is_list_of_signs : Addr
  d_is_list_of_signs : FuncData
  f_checked_bytes : Addr
  d_checked_bytes : FuncData
  f_check_chance : Addr
  d_check_chance : FuncData
  f_check_bit : Addr
  d_check_bit : FuncData
  f_written : Addr
  d_written : FuncData
  f_first_block : Addr
  d_first_block : FuncData
  f_Span___init__ : Addr
  d_Span___init__ : FuncData
  f_Span_ends : Addr
  d_Span_ends : FuncData
  f_Span_cut : Addr
  d_Span_cut : FuncData
  f_Span_narrow : Addr
  d_Span_narrow : FuncData
  f_Span_settled : Addr
  d_Span_settled : FuncData
  f_Span_holds_block : Addr
  d_Span_holds_block : FuncData
  f_Span_told : Addr
  d_Span_told : FuncData
  f_Seeker___init__ : Addr
  d_Seeker___init__ : FuncData
  f_Seeker_follow : Addr
  d_Seeker_follow : FuncData
  f_Seeker_byte_at : Addr
  d_Seeker_byte_at : FuncData
  f_Seeker_bit : Addr
  d_Seeker_bit : FuncData
  f_Seeker_ends : Addr
  d_Seeker_ends : FuncData
  f__law_cell_at : Addr
  d__law_cell_at : FuncData
  f__law_step : Addr
  d__law_step : FuncData
  f__law_kinds : Addr
  d__law_kinds : FuncData
  f_law : Addr
  d_law : FuncData
  C_Span : Addr
  C_Seeker : Addr
  C_NoBytes : Addr
  C_NoChance : Addr
  C_NoBit : Addr
  C_ForetellError : Addr
  C_NoMost : Addr
  C_NoPress : Addr
  C_NoText : Addr
  t_LEAST : Tok
  t_ONE : Tok
  t_MOST_BYTES : Tok
  t_FIRST_WIDTH : Tok
  t_FIRST_SIZE : Tok
  t_LEAST_WIDTH : Tok
structure Txt (K : PySem.W.Frag) (mg : Str → Option Value) (a : Ads) : Prop where
  F_is_whole : Fun K "is_whole" "is_whole" s_is_whole a.f_is_whole a.d_is_whole
  B_is_whole : Binds K a.d_is_whole ["thing"] []
  m_is_whole : mg "is_whole" = some (.ref a.f_is_whole)
  F_is_bit : Fun K "is_bit" "is_bit" s_is_bit a.f_is_bit a.d_is_bit
  B_is_bit : Binds K a.d_is_bit ["thing"] []
  m_is_bit : mg "is_bit" = some (.ref a.f_is_bit)
  F_is_chance : Fun K "is_chance" "is_chance" s_is_chance a.f_is_chance a.d_is_chance
  B_is_chance : Binds K a.d_is_chance ["thing"] []
  m_is_chance : mg "is_chance" = some (.ref a.f_is_chance)
  F_is_sign : Fun K "is_sign" "is_sign" s_is_sign a.f_is_sign a.d_is_sign
  B_is_sign : Binds K a.d_is_sign ["thing"] []
  m_is_sign : mg "is_sign" = some (.ref a.f_is_sign)
  F_is_list_of_signs : Fun K "is_list_of_signs" "is_list_of_signs" s_is_list_of_signs a.f_is_list_of_signs a.d_is_list_of_signs
  B_is_list_of_signs : Binds K a.d_is_list_of_signs ["thing", "most"] []
  m_is_list_of_signs : mg "is_list_of_signs" = some (.ref a.f_is_list_of_signs)
  F_checked_bytes : Fun K "checked_bytes" "checked_bytes" s_checked_bytes a.f_checked_bytes a.d_checked_bytes
  B_checked_bytes : Binds K a.d_checked_bytes ["thing"] []
  m_checked_bytes : mg "checked_bytes" = some (.ref a.f_checked_bytes)
  F_check_chance : Fun K "check_chance" "check_chance" s_check_chance a.f_check_chance a.d_check_chance
  B_check_chance : Binds K a.d_check_chance ["thing"] []
  m_check_chance : mg "check_chance" = some (.ref a.f_check_chance)
  F_check_bit : Fun K "check_bit" "check_bit" s_check_bit a.f_check_bit a.d_check_bit
  B_check_bit : Binds K a.d_check_bit ["thing"] []
  m_check_bit : mg "check_bit" = some (.ref a.f_check_bit)
  F_written : Fun K "written" "written" s_written a.f_written a.d_written
  B_written : Binds K a.d_written ["number", "size"] []
  m_written : mg "written" = some (.ref a.f_written)
  F_first_block : Fun K "first_block" "first_block" s_first_block a.f_first_block a.d_first_block
  B_first_block : Binds K a.d_first_block ["low", "unit"] []
  m_first_block : mg "first_block" = some (.ref a.f_first_block)
  F_Span___init__ : Fun K "__init__" "Span.__init__" s_Span___init__ a.f_Span___init__ a.d_Span___init__
  B_Span___init__ : Binds K a.d_Span___init__ ["self"] []
  F_Span_ends : Fun K "ends" "Span.ends" s_Span_ends a.f_Span_ends a.d_Span_ends
  B_Span_ends : Binds K a.d_Span_ends ["self"] []
  M_Span_ends : Meth K a.C_Span "ends" a.f_Span_ends
  F_Span_cut : Fun K "cut" "Span.cut" s_Span_cut a.f_Span_cut a.d_Span_cut
  B_Span_cut : Binds K a.d_Span_cut ["self", "chance"] []
  M_Span_cut : Meth K a.C_Span "cut" a.f_Span_cut
  F_Span_narrow : Fun K "narrow" "Span.narrow" s_Span_narrow a.f_Span_narrow a.d_Span_narrow
  B_Span_narrow : Binds K a.d_Span_narrow ["self", "chance", "bit"] []
  M_Span_narrow : Meth K a.C_Span "narrow" a.f_Span_narrow
  F_Span_settled : Fun K "settled" "Span.settled" s_Span_settled a.f_Span_settled a.d_Span_settled
  B_Span_settled : Binds K a.d_Span_settled ["self"] []
  M_Span_settled : Meth K a.C_Span "settled" a.f_Span_settled
  F_Span_holds_block : Fun K "holds_block" "Span.holds_block" s_Span_holds_block a.f_Span_holds_block a.d_Span_holds_block
  B_Span_holds_block : Binds K a.d_Span_holds_block ["self", "unit"] []
  M_Span_holds_block : Meth K a.C_Span "holds_block" a.f_Span_holds_block
  F_Span_told : Fun K "told" "Span.told" s_Span_told a.f_Span_told a.d_Span_told
  B_Span_told : Binds K a.d_Span_told ["self"] []
  M_Span_told : Meth K a.C_Span "told" a.f_Span_told
  F_Seeker___init__ : Fun K "__init__" "Seeker.__init__" s_Seeker___init__ a.f_Seeker___init__ a.d_Seeker___init__
  B_Seeker___init__ : Binds K a.d_Seeker___init__ ["self", "data"] []
  F_Seeker_follow : Fun K "follow" "Seeker.follow" s_Seeker_follow a.f_Seeker_follow a.d_Seeker_follow
  B_Seeker_follow : Binds K a.d_Seeker_follow ["self"] []
  M_Seeker_follow : Meth K a.C_Seeker "follow" a.f_Seeker_follow
  F_Seeker_byte_at : Fun K "byte_at" "Seeker.byte_at" s_Seeker_byte_at a.f_Seeker_byte_at a.d_Seeker_byte_at
  B_Seeker_byte_at : Binds K a.d_Seeker_byte_at ["self", "place"] []
  M_Seeker_byte_at : Meth K a.C_Seeker "byte_at" a.f_Seeker_byte_at
  F_Seeker_bit : Fun K "bit" "Seeker.bit" s_Seeker_bit a.f_Seeker_bit a.d_Seeker_bit
  B_Seeker_bit : Binds K a.d_Seeker_bit ["self", "chance"] []
  M_Seeker_bit : Meth K a.C_Seeker "bit" a.f_Seeker_bit
  F_Seeker_ends : Fun K "ends" "Seeker.ends" s_Seeker_ends a.f_Seeker_ends a.d_Seeker_ends
  B_Seeker_ends : Binds K a.d_Seeker_ends ["self"] []
  M_Seeker_ends : Meth K a.C_Seeker "ends" a.f_Seeker_ends
  F__law_cell_at : Fun K "_law_cell_at" "_law_cell_at" s__law_cell_at a.f__law_cell_at a.d__law_cell_at
  B__law_cell_at : Binds K a.d__law_cell_at ["_law_script", "_law_k"] []
  m__law_cell_at : mg "_law_cell_at" = some (.ref a.f__law_cell_at)
  F__law_step : Fun K "_law_step" "_law_step" s__law_step a.f__law_step a.d__law_step
  B__law_step : Binds K a.d__law_step ["_law_cell"] []
  m__law_step : mg "_law_step" = some (.ref a.f__law_step)
  F__law_kinds : Fun K "_law_kinds" "_law_kinds" s__law_kinds a.f__law_kinds a.d__law_kinds
  B__law_kinds : Binds K a.d__law_kinds ["_law_way", "_law_thing", "_law_chance", "_law_bit"] []
  m__law_kinds : mg "_law_kinds" = some (.ref a.f__law_kinds)
  F_law : Fun K "law" "law" s_law a.f_law a.d_law
  B_law : Binds K a.d_law ["_law_script"] []
  m_law : mg "law" = some (.ref a.f_law)
  cl_Span : Cls K a.C_Span
  m_Span : mg "Span" = some (.ref a.C_Span)
  k_Span : Mk K a.C_Span a.f_Span___init__
  n_Span_low : NoAttr K a.C_Span "low"
  n_Span_width : NoAttr K a.C_Span "width"
  n_Span_size : NoAttr K a.C_Span "size"
  cl_Seeker : Cls K a.C_Seeker
  m_Seeker : mg "Seeker" = some (.ref a.C_Seeker)
  k_Seeker : Mk K a.C_Seeker a.f_Seeker___init__
  n_Seeker_data : NoAttr K a.C_Seeker "data"
  n_Seeker_span : NoAttr K a.C_Seeker "span"
  n_Seeker_number : NoAttr K a.C_Seeker "number"
  n_Seeker_reached : NoAttr K a.C_Seeker "reached"
  m_NoBytes : mg "NoBytes" = some (.ref a.C_NoBytes)
  m_NoChance : mg "NoChance" = some (.ref a.C_NoChance)
  m_NoBit : mg "NoBit" = some (.ref a.C_NoBit)
  m_ForetellError : mg "ForetellError" = some (.ref a.C_ForetellError)
  m_NoMost : mg "NoMost" = some (.ref a.C_NoMost)
  m_NoPress : mg "NoPress" = some (.ref a.C_NoPress)
  m_NoText : mg "NoText" = some (.ref a.C_NoText)
  x_NoBytes : XCls K a.C_NoBytes
  r_NoBytes : XMk K a.C_NoBytes
  x_NoChance : XCls K a.C_NoChance
  r_NoChance : XMk K a.C_NoChance
  x_NoBit : XCls K a.C_NoBit
  r_NoBit : XMk K a.C_NoBit
  ki_NoBytes_ValueError : PySem.W.kitOne K (.ref a.C_NoBytes) (.type "ValueError") = some true
  ki_NoBytes_NoBytes : PySem.W.kitOne K (.ref a.C_NoBytes) (.ref a.C_NoBytes) = some true
  ki_NoBytes_NoBit : PySem.W.kitOne K (.ref a.C_NoBytes) (.ref a.C_NoBit) = some false
  ki_NoBytes_NoChance : PySem.W.kitOne K (.ref a.C_NoBytes) (.ref a.C_NoChance) = some false
  ka_NoBytes_0 : PySem.W.kitAny K (.ref a.C_NoBytes) [.ref a.C_NoMost, .ref a.C_NoPress, .ref a.C_NoText] = some false
  em_NoBytes_ForetellError : PySem.W.exmOne K (.ref a.C_NoBytes) (.ref a.C_ForetellError) = some true
  ki_NoChance_ValueError : PySem.W.kitOne K (.ref a.C_NoChance) (.type "ValueError") = some true
  ki_NoChance_NoBytes : PySem.W.kitOne K (.ref a.C_NoChance) (.ref a.C_NoBytes) = some false
  ki_NoChance_NoBit : PySem.W.kitOne K (.ref a.C_NoChance) (.ref a.C_NoBit) = some false
  ki_NoChance_NoChance : PySem.W.kitOne K (.ref a.C_NoChance) (.ref a.C_NoChance) = some true
  ka_NoChance_0 : PySem.W.kitAny K (.ref a.C_NoChance) [.ref a.C_NoMost, .ref a.C_NoPress, .ref a.C_NoText] = some false
  em_NoChance_ForetellError : PySem.W.exmOne K (.ref a.C_NoChance) (.ref a.C_ForetellError) = some true
  ki_NoBit_ValueError : PySem.W.kitOne K (.ref a.C_NoBit) (.type "ValueError") = some true
  ki_NoBit_NoBytes : PySem.W.kitOne K (.ref a.C_NoBit) (.ref a.C_NoBytes) = some false
  ki_NoBit_NoBit : PySem.W.kitOne K (.ref a.C_NoBit) (.ref a.C_NoBit) = some true
  ki_NoBit_NoChance : PySem.W.kitOne K (.ref a.C_NoBit) (.ref a.C_NoChance) = some false
  ka_NoBit_0 : PySem.W.kitAny K (.ref a.C_NoBit) [.ref a.C_NoMost, .ref a.C_NoPress, .ref a.C_NoText] = some false
  em_NoBit_ForetellError : PySem.W.exmOne K (.ref a.C_NoBit) (.ref a.C_ForetellError) = some true
  z_isinstance : mg "isinstance" = none
  z_int : mg "int" = none
  z_bool : mg "bool" = none
  z_list : mg "list" = none
  z_all : mg "all" = none
  z_len : mg "len" = none
  z_ValueError : mg "ValueError" = none
  z_range : mg "range" = none
  c_LEAST : mg "LEAST" = some (.int 32768 a.t_LEAST)
  c_ONE : mg "ONE" = some (.int 16777216 a.t_ONE)
  c_MOST_BYTES : mg "MOST_BYTES" = some (.int 12000 a.t_MOST_BYTES)
  c_FIRST_WIDTH : mg "FIRST_WIDTH" = some (.int 1099511627776 a.t_FIRST_WIDTH)
  c_FIRST_SIZE : mg "FIRST_SIZE" = some (.int 5 a.t_FIRST_SIZE)
  c_LEAST_WIDTH : mg "LEAST_WIDTH" = some (.int 4294967296 a.t_LEAST_WIDTH)
section
variable {P : Program} {w : World} {K : PySem.W.Frag} {mg : Str → Option Value} {base : Heap} {a : Ads}
def F_Seeker (v0 v1 v2 v3 : V) : List (Str × V) := [("data", v0), ("span", v1), ("number", v2), ("reached", v3)]
section
variable {H : Hp} {p dx : Addr} {v0 v1 v2 v3 v : V} {P : V → Prop} {R : Prop} {nx : St → Hp → Prop} {σ : St}
theorem rd_Seeker_data (T : Txt K mg a) (hp : H p = some (.ins a.C_Seeker dx (F_Seeker v0 v1 v2 v3))) (h : P v0) : ∃ a' C dx fs v, V.ref p = .ref a' ∧ H a' = some (.ins C dx fs) ∧ Cls K C ∧ NoAttr K C "data" ∧ fs.lookup ("data" : Str) = some v ∧ P v := ⟨p, _, dx, _, _, rfl, hp, T.cl_Seeker, T.n_Seeker_data, lk_hd, h⟩
theorem st_Seeker_data (T : Txt K mg a) (hp : H p = some (.ins a.C_Seeker dx (F_Seeker v0 v1 v2 v3))) (h : After nx σ (upd H p (.ins a.C_Seeker dx (F_Seeker v v1 v2 v3)))) : ∃ a' C dx fs, V.ref p = .ref a' ∧ H a' = some (.ins C dx fs) ∧ Cls K C ∧ NoAttr K C "data" ∧ fs.length < 1000 ∧ After nx σ (upd H a' (.ins C dx (putF "data" v fs))) := ⟨p, _, dx, F_Seeker v0 v1 v2 v3, rfl, hp, T.cl_Seeker, T.n_Seeker_data, by show 4 < 1000; decide, by rw [show putF "data" v (F_Seeker v0 v1 v2 v3) = F_Seeker v v1 v2 v3 from pf_hd]; exact h⟩
theorem s0_Seeker_data (T : Txt K mg a) (hp : H p = some (.ins a.C_Seeker dx [])) (h : After nx σ (upd H p (.ins a.C_Seeker dx (([("data", v)] : List (Str × V)))))) : ∃ a' C dx fs, V.ref p = .ref a' ∧ H a' = some (.ins C dx fs) ∧ Cls K C ∧ NoAttr K C "data" ∧ fs.length < 1000 ∧ After nx σ (upd H a' (.ins C dx (putF "data" v fs))) := ⟨p, _, dx, [], rfl, hp, T.cl_Seeker, T.n_Seeker_data, by show 0 < 1000; decide, by rw [show putF "data" v [] = ([("data", v)] : List (Str × V)) from pf_nil]; exact h⟩
theorem rd_Seeker_span (T : Txt K mg a) (hp : H p = some (.ins a.C_Seeker dx (F_Seeker v0 v1 v2 v3))) (h : P v1) : ∃ a' C dx fs v, V.ref p = .ref a' ∧ H a' = some (.ins C dx fs) ∧ Cls K C ∧ NoAttr K C "span" ∧ fs.lookup ("span" : Str) = some v ∧ P v := ⟨p, _, dx, _, _, rfl, hp, T.cl_Seeker, T.n_Seeker_span, (lk_tl (by decide +kernel) lk_hd), h⟩
theorem st_Seeker_span (T : Txt K mg a) (hp : H p = some (.ins a.C_Seeker dx (F_Seeker v0 v1 v2 v3))) (h : After nx σ (upd H p (.ins a.C_Seeker dx (F_Seeker v0 v v2 v3)))) : ∃ a' C dx fs, V.ref p = .ref a' ∧ H a' = some (.ins C dx fs) ∧ Cls K C ∧ NoAttr K C "span" ∧ fs.length < 1000 ∧ After nx σ (upd H a' (.ins C dx (putF "span" v fs))) := ⟨p, _, dx, F_Seeker v0 v1 v2 v3, rfl, hp, T.cl_Seeker, T.n_Seeker_span, by show 4 < 1000; decide, by rw [show putF "span" v (F_Seeker v0 v1 v2 v3) = F_Seeker v0 v v2 v3 from (pf_tl (by decide +kernel) pf_hd)]; exact h⟩
theorem s0_Seeker_span (T : Txt K mg a) (hp : H p = some (.ins a.C_Seeker dx [("data", v0)])) (h : After nx σ (upd H p (.ins a.C_Seeker dx (([("data", v0), ("span", v)] : List (Str × V)))))) : ∃ a' C dx fs, V.ref p = .ref a' ∧ H a' = some (.ins C dx fs) ∧ Cls K C ∧ NoAttr K C "span" ∧ fs.length < 1000 ∧ After nx σ (upd H a' (.ins C dx (putF "span" v fs))) := ⟨p, _, dx, [("data", v0)], rfl, hp, T.cl_Seeker, T.n_Seeker_span, by show 1 < 1000; decide, by rw [show putF "span" v [("data", v0)] = ([("data", v0), ("span", v)] : List (Str × V)) from (pf_tl (by decide +kernel) pf_nil)]; exact h⟩
theorem rd_Seeker_number (T : Txt K mg a) (hp : H p = some (.ins a.C_Seeker dx (F_Seeker v0 v1 v2 v3))) (h : P v2) : ∃ a' C dx fs v, V.ref p = .ref a' ∧ H a' = some (.ins C dx fs) ∧ Cls K C ∧ NoAttr K C "number" ∧ fs.lookup ("number" : Str) = some v ∧ P v := ⟨p, _, dx, _, _, rfl, hp, T.cl_Seeker, T.n_Seeker_number, (lk_tl (by decide +kernel) (lk_tl (by decide +kernel) lk_hd)), h⟩
theorem st_Seeker_number (T : Txt K mg a) (hp : H p = some (.ins a.C_Seeker dx (F_Seeker v0 v1 v2 v3))) (h : After nx σ (upd H p (.ins a.C_Seeker dx (F_Seeker v0 v1 v v3)))) : ∃ a' C dx fs, V.ref p = .ref a' ∧ H a' = some (.ins C dx fs) ∧ Cls K C ∧ NoAttr K C "number" ∧ fs.length < 1000 ∧ After nx σ (upd H a' (.ins C dx (putF "number" v fs))) := ⟨p, _, dx, F_Seeker v0 v1 v2 v3, rfl, hp, T.cl_Seeker, T.n_Seeker_number, by show 4 < 1000; decide, by rw [show putF "number" v (F_Seeker v0 v1 v2 v3) = F_Seeker v0 v1 v v3 from (pf_tl (by decide +kernel) (pf_tl (by decide +kernel) pf_hd))]; exact h⟩
theorem s0_Seeker_number (T : Txt K mg a) (hp : H p = some (.ins a.C_Seeker dx [("data", v0), ("span", v1)])) (h : After nx σ (upd H p (.ins a.C_Seeker dx (([("data", v0), ("span", v1), ("number", v)] : List (Str × V)))))) : ∃ a' C dx fs, V.ref p = .ref a' ∧ H a' = some (.ins C dx fs) ∧ Cls K C ∧ NoAttr K C "number" ∧ fs.length < 1000 ∧ After nx σ (upd H a' (.ins C dx (putF "number" v fs))) := ⟨p, _, dx, [("data", v0), ("span", v1)], rfl, hp, T.cl_Seeker, T.n_Seeker_number, by show 2 < 1000; decide, by rw [show putF "number" v [("data", v0), ("span", v1)] = ([("data", v0), ("span", v1), ("number", v)] : List (Str × V)) from (pf_tl (by decide +kernel) (pf_tl (by decide +kernel) pf_nil))]; exact h⟩
theorem rd_Seeker_reached (T : Txt K mg a) (hp : H p = some (.ins a.C_Seeker dx (F_Seeker v0 v1 v2 v3))) (h : P v3) : ∃ a' C dx fs v, V.ref p = .ref a' ∧ H a' = some (.ins C dx fs) ∧ Cls K C ∧ NoAttr K C "reached" ∧ fs.lookup ("reached" : Str) = some v ∧ P v := ⟨p, _, dx, _, _, rfl, hp, T.cl_Seeker, T.n_Seeker_reached, (lk_tl (by decide +kernel) (lk_tl (by decide +kernel) (lk_tl (by decide +kernel) lk_hd))), h⟩
theorem st_Seeker_reached (T : Txt K mg a) (hp : H p = some (.ins a.C_Seeker dx (F_Seeker v0 v1 v2 v3))) (h : After nx σ (upd H p (.ins a.C_Seeker dx (F_Seeker v0 v1 v2 v)))) : ∃ a' C dx fs, V.ref p = .ref a' ∧ H a' = some (.ins C dx fs) ∧ Cls K C ∧ NoAttr K C "reached" ∧ fs.length < 1000 ∧ After nx σ (upd H a' (.ins C dx (putF "reached" v fs))) := ⟨p, _, dx, F_Seeker v0 v1 v2 v3, rfl, hp, T.cl_Seeker, T.n_Seeker_reached, by show 4 < 1000; decide, by rw [show putF "reached" v (F_Seeker v0 v1 v2 v3) = F_Seeker v0 v1 v2 v from (pf_tl (by decide +kernel) (pf_tl (by decide +kernel) (pf_tl (by decide +kernel) pf_hd)))]; exact h⟩
theorem s0_Seeker_reached (T : Txt K mg a) (hp : H p = some (.ins a.C_Seeker dx [("data", v0), ("span", v1), ("number", v2)])) (h : After nx σ (upd H p (.ins a.C_Seeker dx (F_Seeker v0 v1 v2 v)))) : ∃ a' C dx fs, V.ref p = .ref a' ∧ H a' = some (.ins C dx fs) ∧ Cls K C ∧ NoAttr K C "reached" ∧ fs.length < 1000 ∧ After nx σ (upd H a' (.ins C dx (putF "reached" v fs))) := ⟨p, _, dx, [("data", v0), ("span", v1), ("number", v2)], rfl, hp, T.cl_Seeker, T.n_Seeker_reached, by show 3 < 1000; decide, by rw [show putF "reached" v [("data", v0), ("span", v1), ("number", v2)] = F_Seeker v0 v1 v2 v from (pf_tl (by decide +kernel) (pf_tl (by decide +kernel) (pf_tl (by decide +kernel) pf_nil)))]; exact h⟩
theorem nk_Seeker___init__ : (F_Seeker v0 v1 v2 v3).lookup ("__init__" : Str) = none := (lk_tl (by decide +kernel) (lk_tl (by decide +kernel) (lk_tl (by decide +kernel) (lk_tl (by decide +kernel) lk_nil))))
theorem mt_Seeker___init__ {C : Addr} (hp : H p = some (.ins C dx (F_Seeker v0 v1 v2 v3))) (h : R) : ∃ a dx fs, V.ref p = .ref a ∧ H a = some (.ins C dx fs) ∧ fs.lookup ("__init__" : Str) = none ∧ R := ⟨p, dx, _, rfl, hp, nk_Seeker___init__, h⟩
theorem nk_Seeker_follow : (F_Seeker v0 v1 v2 v3).lookup ("follow" : Str) = none := (lk_tl (by decide +kernel) (lk_tl (by decide +kernel) (lk_tl (by decide +kernel) (lk_tl (by decide +kernel) lk_nil))))
theorem mt_Seeker_follow {C : Addr} (hp : H p = some (.ins C dx (F_Seeker v0 v1 v2 v3))) (h : R) : ∃ a dx fs, V.ref p = .ref a ∧ H a = some (.ins C dx fs) ∧ fs.lookup ("follow" : Str) = none ∧ R := ⟨p, dx, _, rfl, hp, nk_Seeker_follow, h⟩
theorem nk_Seeker_byte_at : (F_Seeker v0 v1 v2 v3).lookup ("byte_at" : Str) = none := (lk_tl (by decide +kernel) (lk_tl (by decide +kernel) (lk_tl (by decide +kernel) (lk_tl (by decide +kernel) lk_nil))))
theorem mt_Seeker_byte_at {C : Addr} (hp : H p = some (.ins C dx (F_Seeker v0 v1 v2 v3))) (h : R) : ∃ a dx fs, V.ref p = .ref a ∧ H a = some (.ins C dx fs) ∧ fs.lookup ("byte_at" : Str) = none ∧ R := ⟨p, dx, _, rfl, hp, nk_Seeker_byte_at, h⟩
theorem nk_Seeker_bit : (F_Seeker v0 v1 v2 v3).lookup ("bit" : Str) = none := (lk_tl (by decide +kernel) (lk_tl (by decide +kernel) (lk_tl (by decide +kernel) (lk_tl (by decide +kernel) lk_nil))))
theorem mt_Seeker_bit {C : Addr} (hp : H p = some (.ins C dx (F_Seeker v0 v1 v2 v3))) (h : R) : ∃ a dx fs, V.ref p = .ref a ∧ H a = some (.ins C dx fs) ∧ fs.lookup ("bit" : Str) = none ∧ R := ⟨p, dx, _, rfl, hp, nk_Seeker_bit, h⟩
theorem nk_Seeker_ends : (F_Seeker v0 v1 v2 v3).lookup ("ends" : Str) = none := (lk_tl (by decide +kernel) (lk_tl (by decide +kernel) (lk_tl (by decide +kernel) (lk_tl (by decide +kernel) lk_nil))))
theorem mt_Seeker_ends {C : Addr} (hp : H p = some (.ins C dx (F_Seeker v0 v1 v2 v3))) (h : R) : ∃ a dx fs, V.ref p = .ref a ∧ H a = some (.ins C dx fs) ∧ fs.lookup ("ends" : Str) = none ∧ R := ⟨p, dx, _, rfl, hp, nk_Seeker_ends, h⟩
end
local macro_rules | `(tactic| walk_at "rd1") => `(tactic| first
  | (with_reducible refine' rd_Seeker_data (by assumption) ?rdh ?_; (case rdh => first | assumption | exact upd_same))
  | (with_reducible refine' st_Seeker_data (by assumption) ?rdh ?_; (case rdh => first | assumption | exact upd_same))
  | (with_reducible refine' s0_Seeker_data (by assumption) ?rdh ?_; (case rdh => first | assumption | exact upd_same))
  | (with_reducible refine' rd_Seeker_span (by assumption) ?rdh ?_; (case rdh => first | assumption | exact upd_same))
  | (with_reducible refine' st_Seeker_span (by assumption) ?rdh ?_; (case rdh => first | assumption | exact upd_same))
  | (with_reducible refine' s0_Seeker_span (by assumption) ?rdh ?_; (case rdh => first | assumption | exact upd_same))
  | (with_reducible refine' rd_Seeker_number (by assumption) ?rdh ?_; (case rdh => first | assumption | exact upd_same))
  | (with_reducible refine' st_Seeker_number (by assumption) ?rdh ?_; (case rdh => first | assumption | exact upd_same))
  | (with_reducible refine' s0_Seeker_number (by assumption) ?rdh ?_; (case rdh => first | assumption | exact upd_same))
  | (with_reducible refine' rd_Seeker_reached (by assumption) ?rdh ?_; (case rdh => first | assumption | exact upd_same))
  | (with_reducible refine' st_Seeker_reached (by assumption) ?rdh ?_; (case rdh => first | assumption | exact upd_same))
  | (with_reducible refine' s0_Seeker_reached (by assumption) ?rdh ?_; (case rdh => first | assumption | exact upd_same))
  | (with_reducible refine' mt_Seeker___init__ ?rdh ?_; (case rdh => first | assumption | exact upd_same))
  | (with_reducible refine' mt_Seeker_follow ?rdh ?_; (case rdh => first | assumption | exact upd_same))
  | (with_reducible refine' mt_Seeker_byte_at ?rdh ?_; (case rdh => first | assumption | exact upd_same))
  | (with_reducible refine' mt_Seeker_bit ?rdh ?_; (case rdh => first | assumption | exact upd_same))
  | (with_reducible refine' mt_Seeker_ends ?rdh ?_; (case rdh => first | assumption | exact upd_same))
)
open SpanMath
/-- the ints of a span, as a tuple has them -/
def i3 (x : Sn) : List V := [.int x.1, .int x.2.1, .int x.2.2]
/-- all but p stands as it stood -/
def But (p : Addr) (H H' : Hp) : Prop := ∀ b o, H b = some o → b ≠ p → H' b = some o
theorem But.refl {p : Addr} {H : Hp} : But p H H := fun _ _ h _ => h
theorem But.of {p : Addr} {H H' : Hp} (s : Same H H') : But p H H' := fun b o h _ => s b o h
theorem But.trans {p : Addr} {H H1 H2 : Hp} (x : But p H H1) (y : But p H1 H2) : But p H H2 := fun b o h n => y b o (x b o h n) n
theorem But.upd {p : Addr} {H : Hp} {o : HO} : But p H (L2.upd H p o) := fun b u h n => by rw [upd_ne n]; exact h
theorem But.seq {K : PySem.W.Frag} {p l C dx : Addr} {fs : List (Str × V)} {H H' : Hp} {xs : List V} (e : But p H H') (hp : H p = some (.ins C dx fs)) (h : SqL K H l xs) : SqL K H' l xs := by
  rcases h with (h | ⟨o, h⟩) | h
  · exact .inl (.inl (e _ _ h (ne_of h hp (by intro z; cases z))))
  · exact .inl (.inr ⟨o, e _ _ h (ne_of h hp (by intro z; cases z))⟩)
  · exact .inr h
theorem But.tup {p l C dx : Addr} {fs : List (Str × V)} {H H' : Hp} {xs : List V} (e : But p H H') (hp : H p = some (.ins C dx fs)) (h : H l = some (.tup xs)) : H' l = some (.tup xs) := e _ _ h (ne_of h hp (by intro z; cases z))
theorem But.lst {p l C dx : Addr} {fs : List (Str × V)} {H H' : Hp} {xs : List V} (e : But p H H') (hp : H p = some (.ins C dx fs)) (h : H l = some (.lst xs)) : H' l = some (.lst xs) := e _ _ h (ne_of h hp (by intro z; cases z))
theorem wholeV_int {x : V} (h : wholeV x = true) : ∃ i, x = .int i := by
  cases x with
  | int i => exact ⟨i, rfl⟩
  | _ => cases h
def bitV : V → Bool
  | .int i => decide (0 ≤ i) && decide (i ≤ 1)
  | _ => false
def chV : V → Bool
  | .int i => decide (32768 ≤ i) && decide (i ≤ 16744448)
  | _ => false
/-- the attributes of a Span -/
def flds (x : Sn) : List (Str × V) := [("low", .int x.1), ("width", .int x.2.1), ("size", .int x.2.2)]
theorem nWL : ¬ (("width" : Str) = "low") := by decide +kernel
theorem nLW : ¬ (("low" : Str) = "width") := by decide +kernel
theorem nSL : ¬ (("size" : Str) = "low") := by decide +kernel
theorem nLS : ¬ (("low" : Str) = "size") := by decide +kernel
theorem nSW : ¬ (("size" : Str) = "width") := by decide +kernel
theorem nWS : ¬ (("width" : Str) = "size") := by decide +kernel
theorem lkL (x : Sn) : (flds x).lookup ("low" : Str) = some (.int x.1) := lk_hd
theorem lkW (x : Sn) : (flds x).lookup ("width" : Str) = some (.int x.2.1) := lk_tl nWL lk_hd
theorem lkS (x : Sn) : (flds x).lookup ("size" : Str) = some (.int x.2.2) := lk_tl nSL (lk_tl nSW lk_hd)
theorem lkN (x : Sn) {m : Str} (h1 : ¬ m = "low") (h2 : ¬ m = "width") (h3 : ¬ m = "size") : (flds x).lookup m = none := lk_tl h1 (lk_tl h2 (lk_tl h3 lk_nil))
theorem pfL (x : Sn) (v : Int) : putF "low" (.int v) (flds x) = flds (v, x.2.1, x.2.2) := pf_hd
theorem pfW (x : Sn) (v : Int) : putF "width" (.int v) (flds x) = flds (x.1, v, x.2.2) := pf_tl nLW pf_hd
theorem pfS (x : Sn) (v : Int) : putF "size" (.int v) (flds x) = flds (x.1, x.2.1, v) := pf_tl nLS (pf_tl nWS pf_hd)
section
variable {H : Hp} {p dx : Addr} {x : Sn} {P : V → Prop} {nx : St → Hp → Prop} {σ : St} {v : Int}
theorem rdL (T : Txt K mg a) (hp : H p = some (.ins a.C_Span dx (flds x))) (h : P (.int x.1)) :
    ∃ a' C dx fs v, V.ref p = .ref a' ∧ H a' = some (.ins C dx fs) ∧ Cls K C ∧ NoAttr K C "low" ∧ fs.lookup ("low" : Str) = some v ∧ P v := ⟨p, _, dx, _, _, rfl, hp, T.cl_Span, T.n_Span_low, lkL x, h⟩
theorem rdW (T : Txt K mg a) (hp : H p = some (.ins a.C_Span dx (flds x))) (h : P (.int x.2.1)) :
    ∃ a' C dx fs v, V.ref p = .ref a' ∧ H a' = some (.ins C dx fs) ∧ Cls K C ∧ NoAttr K C "width" ∧ fs.lookup ("width" : Str) = some v ∧ P v := ⟨p, _, dx, _, _, rfl, hp, T.cl_Span, T.n_Span_width, lkW x, h⟩
theorem rdS (T : Txt K mg a) (hp : H p = some (.ins a.C_Span dx (flds x))) (h : P (.int x.2.2)) :
    ∃ a' C dx fs v, V.ref p = .ref a' ∧ H a' = some (.ins C dx fs) ∧ Cls K C ∧ NoAttr K C "size" ∧ fs.lookup ("size" : Str) = some v ∧ P v := ⟨p, _, dx, _, _, rfl, hp, T.cl_Span, T.n_Span_size, lkS x, h⟩
theorem stL' (T : Txt K mg a) (hp : H p = some (.ins a.C_Span dx (flds x))) (h : After nx σ (upd H p (.ins a.C_Span dx (flds (v, x.2.1, x.2.2))))) :
    ∃ a' C dx fs, V.ref p = .ref a' ∧ H a' = some (.ins C dx fs) ∧ Cls K C ∧ NoAttr K C "low" ∧ fs.length < 1000 ∧ After nx σ (upd H a' (.ins C dx (putF "low" (.int v) fs))) := ⟨p, _, dx, flds x, rfl, hp, T.cl_Span, T.n_Span_low, by show 3 < 1000; decide, by rw [pfL]; exact h⟩
theorem stW' (T : Txt K mg a) (hp : H p = some (.ins a.C_Span dx (flds x))) (h : After nx σ (upd H p (.ins a.C_Span dx (flds (x.1, v, x.2.2))))) :
    ∃ a' C dx fs, V.ref p = .ref a' ∧ H a' = some (.ins C dx fs) ∧ Cls K C ∧ NoAttr K C "width" ∧ fs.length < 1000 ∧ After nx σ (upd H a' (.ins C dx (putF "width" (.int v) fs))) := ⟨p, _, dx, flds x, rfl, hp, T.cl_Span, T.n_Span_width, by show 3 < 1000; decide, by rw [pfW]; exact h⟩
theorem stS' (T : Txt K mg a) (hp : H p = some (.ins a.C_Span dx (flds x))) (h : After nx σ (upd H p (.ins a.C_Span dx (flds (x.1, x.2.1, v))))) :
    ∃ a' C dx fs, V.ref p = .ref a' ∧ H a' = some (.ins C dx fs) ∧ Cls K C ∧ NoAttr K C "size" ∧ fs.length < 1000 ∧ After nx σ (upd H a' (.ins C dx (putF "size" (.int v) fs))) := ⟨p, _, dx, flds x, rfl, hp, T.cl_Span, T.n_Span_size, by show 3 < 1000; decide, by rw [pfS]; exact h⟩
end
local macro_rules | `(tactic| walk_at "rd1") => `(tactic| first
  | (with_reducible refine' rdL (by assumption) ?rdh ?_; (case rdh => first | assumption | exact upd_same))
  | (with_reducible refine' rdW (by assumption) ?rdh ?_; (case rdh => first | assumption | exact upd_same))
  | (with_reducible refine' rdS (by assumption) ?rdh ?_; (case rdh => first | assumption | exact upd_same))
  | (with_reducible refine' stL' (by assumption) ?rdh ?_; (case rdh => first | assumption | exact upd_same))
  | (with_reducible refine' stW' (by assumption) ?rdh ?_; (case rdh => first | assumption | exact upd_same))
  | (with_reducible refine' stS' (by assumption) ?rdh ?_; (case rdh => first | assumption | exact upd_same)))
/-- a slot: its kind and what it has seen -/
inductive Slt where
  | ev (n o : Int)
  | qk (h : Int)
  | rn (l n : Int)
def Slt.ok : Slt → Prop
  | .ev n o => 0 ≤ n ∧ 0 ≤ o ∧ n + o ≤ 255
  | .qk h => 32768 ≤ h ∧ h ≤ 16744448
  | .rn l n => 0 ≤ l ∧ l ≤ 1 ∧ 0 ≤ n ∧ n ≤ 255
theorem line_le {n : Nat} (h : n ≤ 16000000) : n ≤ sizeLine := Nat.le_trans h (by decide)
theorem line_lt {n : Nat} (h : n ≤ 16000000) : n < sizeLine := Nat.lt_of_le_of_lt h (by decide)
/-- a list's part is a list of ints -/
theorem cut_sub (ns : List Int) (lo hi : Option Int) : ∃ ms : List Int, cutV (ns.map V.int) lo hi = ms.map V.int ∧ ms.length ≤ ns.length ∧ ∀ m ∈ ms, m ∈ ns := by
  refine ⟨(ns.drop (HT.sIx (ns.map V.int).length 0 lo)).take (HT.sIx (ns.map V.int).length (ns.map V.int).length hi - HT.sIx (ns.map V.int).length 0 lo), ?_, ?_, ?_⟩
  · unfold cutV
    rw [List.map_take, List.map_drop]
  · rw [List.length_take, List.length_drop]
    omega
  · intro m hm
    exact List.mem_of_mem_drop (List.mem_of_mem_take hm)
theorem getInt {ns : List Int} {i : Nat} {x : V} (h : (ns.map V.int)[i]? = some x) : ∃ n, x = .int n ∧ n ∈ ns ∧ ns[i]? = some n ∧ i < ns.length := by
  rw [List.getElem?_map] at h
  cases e : ns[i]? with
  | none => rw [e] at h; cases h
  | some n =>
    rw [e] at h
    have hi : i < ns.length := by
      rcases Nat.lt_or_ge i ns.length with q | q
      · exact q
      · rw [List.getElem?_eq_none q] at e; cases e
    exact ⟨n, (Option.some.inj h).symm, List.mem_of_getElem? e, rfl, hi⟩
theorem take_snocI {l : List Int} {i : Nat} {q : Int} (h : l[i]? = some q) : l.take (i + 1) = l.take i ++ [q] := by
  rw [List.take_add_one, h]
  rfl
theorem flat_ints (c : Int) (n : Nat) : (List.replicate n [V.int c]).flatten = (List.replicate n c).map V.int := by
  induction n with
  | zero => rfl
  | succ n ih => rw [List.replicate_succ, List.flatten_cons, ih, List.replicate_succ]; rfl
theorem nar_sz {x : Sn} {c b : Int} (h : Ok x) : (nar x c b).2.2 ≤ x.2.2 + 2 := by
  unfold nar ren
  have := h.z
  (repeat' split) <;> (dsimp only; omega)
theorem line_1000 {n : Nat} (h : n ≤ 1000) : n < sizeLine := small1000 h
theorem pw_small {k : Nat} (h : k ≤ 6) : pw k ≤ 281474976710656 := Int.le_trans (pw_mono h) (by decide)
theorem map_app1 (xs : List Int) (y : Int) : xs.map V.int ++ [V.int y] = (xs ++ [y]).map V.int := by simp
theorem map_rev (xs : List Int) : (xs.map V.int).reverse = xs.reverse.map V.int := by simp
theorem chV_int {x : V} (h : chV x = true) : ∃ c, x = .int c ∧ 32768 ≤ c ∧ c ≤ 16744448 := by
  cases x with
  | int i =>
    simp only [chV, Bool.and_eq_true, decide_eq_true_eq] at h
    exact ⟨i, rfl, h.1, h.2⟩
  | _ => cases h
theorem bitV_int {x : V} (h : bitV x = true) : ∃ b, x = .int b ∧ 0 ≤ b ∧ b ≤ 1 := by
  cases x with
  | int i =>
    simp only [bitV, Bool.and_eq_true, decide_eq_true_eq] at h
    exact ⟨i, rfl, h.1, h.2⟩
  | _ => cases h
theorem chV_of {c : Int} (h : Ch c) : chV (.int c) = true := by
  obtain ⟨h1, h2⟩ := h
  simp only [chV, Bool.and_eq_true, decide_eq_true_eq]
  omega
theorem bitV_of {b : Int} (h1 : 0 ≤ b) (h2 : b ≤ 1) : bitV (.int b) = true := by
  simp only [bitV, Bool.and_eq_true, decide_eq_true_eq]
  omega
/-- an item of a list in bounds -/
theorem atI_any {xs : List V} {i : Int} (h0 : 0 ≤ i) (h1 : i < xs.length) : ∃ v, v ∈ xs ∧ atI xs i = some v := by
  obtain ⟨j, rfl⟩ : ∃ j : Nat, i = (j : Int) := ⟨i.toNat, by omega⟩
  have hj : j < xs.length := by omega
  exact ⟨xs[j], List.getElem_mem hj, atI_nat (List.getElem?_eq_getElem hj)⟩
theorem rdVs_bls {K : PySem.W.Frag} {H : Hp} : ∀ bs : List Bool, RdVs K H (bs.map V.bl) (bs.map PyData.bool)
  | [] => .nil
  | n :: r => .cons (.bl n) (rdVs_bls r)
theorem canLay_bls : ∀ ns : List Bool, PyData.canLayAll0 (ns.map PyData.bool) = true
  | [] => rfl
  | _ :: r => by simp [PyData.canLayAll0, PyData.canLay0, canLay_bls r]
theorem depth_bls : ∀ ns : List Bool, PyData.depthAll (ns.map PyData.bool) = 0
  | [] => rfl
  | _ :: r => by simp [PyData.depthAll, PyData.depth, depth_bls r]
theorem shaped_bls (ns : List Bool) : SeqAt.shaped (.list (ns.map PyData.bool)) = true := by
  simp [SeqAt.shaped, PyData.canLay0, PyData.depth, canLay_bls, depth_bls]
theorem eqvAll_bls : ∀ ns ms : List Bool, PyData.eqvAll (ns.map PyData.bool) (ms.map PyData.bool) = decide (ns = ms)
  | [], [] => by simp [PyData.eqvAll]
  | [], _ :: _ => by simp [PyData.eqvAll]
  | _ :: _, [] => by simp [PyData.eqvAll]
  | a :: r, b :: t => by
    simp only [List.map_cons, PyData.eqvAll, PyData.eqv, eqvAll_bls r t]
    by_cases h : a = b <;> by_cases h' : r = t <;> simp [h, h']
theorem i_eqLB {K : PySem.W.Frag} {g : Bool → Bool} {H : Hp} {Q : VK} {a b : Addr} (ns ms : List Bool) (ha : SqL K H a (ns.map V.bl)) (hb : SqL K H b (ms.map V.bl)) (h : Q (.bl (g (decide (ns = ms)))) H) : rEqD K g (.ref a) (.ref b) H Q :=
  ⟨_, _, .lst ha (rdVs_bls ns), .lst hb (rdVs_bls ms), shaped_bls ns, shaped_bls ms, by rw [PyData.eqv, eqvAll_bls]; exact h⟩
theorem tysame {K : PySem.W.Frag} {H H' : Hp} {v : V} {n : String} (S : Same H H') (t : TyOf K H v (.type n)) : TyOf K H' v (.type n) := by
  cases t with
  | non => exact .non
  | bl b => exact .bl b
  | int i => exact .int i
  | str x => exact .str x
  | flt x => exact .flt x
  | lst e => exact .lst (S _ _ e)
  | frz e => exact .frz (S _ _ e)
  | tup e => exact .tup (S _ _ e)
  | dK e => exact .dK (S _ _ e)
  | dT e => exact .dT (S _ _ e)
def sgV : V → Bool
  | .int i => decide (0 ≤ i) && decide (i ≤ 255)
  | _ => false
/-- each item is of a plain kind -/
def Typed (K : PySem.W.Frag) (H : Hp) (xs : List V) : Prop := ∀ y ∈ xs, ∃ k : String, TyOf K H y (.type k)
theorem Typed.same {K : PySem.W.Frag} {H H' : Hp} {xs : List V} (t : Law.Typed K H xs) (S : Same H H') : Law.Typed K H' xs := fun y hy => let ⟨k, z⟩ := t y hy; ⟨k, tysame S z⟩
theorem typed_ints {K : PySem.W.Frag} {H : Hp} (ns : List Int) : Typed K H (ns.map V.int) := fun y hy => by
  obtain ⟨i, _, rfl⟩ := List.mem_map.mp hy
  exact ⟨_, .int i⟩
/-- no list of at most m signs -/
def Bad (K : PySem.W.Frag) (H : Hp) (x : V) (n : String) (m : Int) : Prop := n ≠ "list" ∨ ∃ p xs, x = .ref p ∧ H p = some (.lst xs) ∧ Typed K H xs ∧ xs.length ≤ 100000 ∧ (decide ((xs.length : Int) ≤ m) && xs.all sgV) = false
def Good (K : PySem.W.Frag) (H : Hp) (x : V) (xs : List V) (m : Int) : Prop := ∃ p, x = .ref p ∧ H p = some (.lst xs) ∧ Typed K H xs ∧ xs.length ≤ 100000 ∧ (decide ((xs.length : Int) ≤ m) && xs.all sgV) = true
theorem Bad.same {K : PySem.W.Frag} {H H' : Hp} {x : V} {n : String} {m : Int} (h : Law.Bad K H x n m) (S : Same H H') : Law.Bad K H' x n m := by
  rcases h with h | ⟨p, xs, e, hp, t, r⟩
  · exact .inl h
  · exact .inr ⟨p, xs, e, S _ _ hp, t.same S, r⟩
theorem Good.same {K : PySem.W.Frag} {H H' : Hp} {x : V} {xs : List V} {m : Int} (h : Law.Good K H x xs m) (S : Same H H') : Law.Good K H' x xs m := by
  obtain ⟨p, e, hp, t, r⟩ := h
  exact ⟨p, e, S _ _ hp, t.same S, r⟩
theorem kit_lst {K : PySem.W.Frag} {H : Hp} {x : V} {n : String} (ty : TyOf K H x (.type n)) : PySem.W.kitOne K (.type n) (.type "list") = some (decide (n = "list")) := by
  cases ty <;> rfl
theorem line_big {n : Nat} (h : n ≤ 100000) : n < sizeLine := Nat.lt_of_le_of_lt h (by decide)
theorem all_sgn {ns : List Int} (h : ∀ i ∈ ns, 0 ≤ i ∧ i ≤ 255) : (ns.map V.int).all sgV = true := by
  rw [List.all_map, List.all_eq_true]
  intro i hi
  obtain ⟨h1, h2⟩ := h i hi
  simp [sgV, h1, h2]
def sp_checked (K : PySem.W.Frag) (C : Addr) (m : Int) : Sp := fun vs H Q E => ∃ x n, vs = [x] ∧ TyOf K H x (.type n) ∧ ((Bad K H x n m ∧ ∀ H', Same H H' → E (.ref C) none H') ∨ ∃ xs, Good K H x xs m ∧ ∀ r H', H r = none → H' r = some (.lst xs) → Same H H' → Q (.ref r) H')
def But2 (p q : Addr) (H H' : Hp) : Prop := ∀ b o, H b = some o → b ≠ p → b ≠ q → H' b = some o
theorem But.two {p q : Addr} {H H' : Hp} (h : But p H H') : But2 p q H H' := fun b o e n _ => h b o e n
theorem But.two' {p q : Addr} {H H' : Hp} (h : But q H H') : But2 p q H H' := fun b o e _ n => h b o e n
theorem But2.trans {p q : Addr} {H H1 H2 : Hp} (x : But2 p q H H1) (y : But2 p q H1 H2) : But2 p q H H2 := fun b o h n m => y b o (x b o h n m) n m
theorem But2.same {p q : Addr} {H H1 H2 : Hp} (x : But2 p q H H1) (y : Same H1 H2) : But2 p q H H2 := fun b o h n m => y b o (x b o h n m)
theorem But2.of {p q : Addr} {H H' : Hp} (s : Same H H') : But2 p q H H' := fun b o h _ _ => s b o h
/-- a seeker at p: its bytes at pd, its span at ps -/
structure SkAt (a : Ads) (H : Hp) (p dx pd ps ds : Addr) (d : List Int) (x : Sn) : Prop where
  me : H p = some (.ins a.C_Seeker dx (F_Seeker (.ref pd) (.ref ps) (.int (rn d (sz x))) (.int x.2.2)))
  dt : H pd = some (.lst (d.map V.int))
  sp : H ps = some (.ins a.C_Span ds (flds x))
  ne : p ≠ ps
theorem SkAt.same {a : Ads} {H H' : Hp} {p dx pd ps ds : Addr} {d : List Int} {x : Sn} (h : SkAt a H p dx pd ps ds d x) (S : Same H H') : SkAt a H' p dx pd ps ds d x := ⟨S _ _ h.me, S _ _ h.dt, S _ _ h.sp, h.ne⟩
section
variable {a : Ads} {H H' : Hp} {p dx pd ps ds : Addr} {d : List Int} {x : Sn}
theorem SkAt.lst (h : SkAt a H p dx pd ps ds d x) (B : But2 p ps H H') {l : Addr} {xs : List V} (e : H l = some (.lst xs)) : H' l = some (.lst xs) := B _ _ e (ne_of e h.me (by intro z; cases z)) (ne_of e h.sp (by intro z; cases z))
theorem SkAt.tup (h : SkAt a H p dx pd ps ds d x) (B : But2 p ps H H') {l : Addr} {xs : List V} (e : H l = some (.tup xs)) : H' l = some (.tup xs) := B _ _ e (ne_of e h.me (by intro z; cases z)) (ne_of e h.sp (by intro z; cases z))
theorem SkAt.seq (h : SkAt a H p dx pd ps ds d x) (B : But2 p ps H H') {K : PySem.W.Frag} {l : Addr} {xs : List V} (e : SqL K H l xs) : SqL K H' l xs := by
  rcases e with (e | ⟨o, e⟩) | e
  · exact .inl (.inl (h.lst B e))
  · exact .inl (.inr ⟨o, B _ _ e (ne_of e h.me (by intro z; cases z)) (ne_of e h.sp (by intro z; cases z))⟩)
  · exact .inr e
/-- another object's change leaves the seeker -/
theorem SkAt.but (h : SkAt a H p dx pd ps ds d x) {q C dq : Addr} {fs : List (Str × V)} (hq : H q = some (.ins C dq fs)) (B : But q H H') (n1 : p ≠ q) (n2 : ps ≠ q) : SkAt a H' p dx pd ps ds d x := ⟨B _ _ h.me n1, B.lst hq h.dt, B _ _ h.sp n2, h.ne⟩
end
def m256 : V → V
  | .int c => .int (c % 256)
  | _ => .non
theorem m256_map (ns : List Int) : (ns.map V.int).map m256 = (ns.map (· % 256)).map V.int := by
  rw [List.map_map, List.map_map]
  rfl
theorem byt_mod (ns : List Int) : Byt (ns.map (· % 256)) := fun b hb => by
  obtain ⟨c, _, rfl⟩ := List.mem_map.mp hb
  have h0 : 0 ≤ c % 256 := Int.emod_nonneg _ (by decide)
  have h1 : c % 256 < 256 := Int.emod_lt_of_pos _ (by decide)
  exact ⟨h0, by show c % 256 ≤ 255; omega⟩
theorem good_byt {K : PySem.W.Frag} {H : Hp} {p : Addr} {d : List Int} (h : H p = some (.lst (d.map V.int))) (hb : Byt d) (hz : d.length ≤ 12000) : Good K H (.ref p) (d.map V.int) 12000 :=
  ⟨p, rfl, h, typed_ints d, by rw [List.length_map]; omega, by rw [all_sgn hb, List.length_map, decide_eq_true (by omega)]; rfl⟩
theorem same2 {H : Hp} {p dx : Addr} {o o' : HO} (n1 : H p = none) (n2 : H dx = none) : Same H (upd (upd H dx o) p o') := fun b v e => by rw [upd_ne (ne_of_none e n1), upd_ne (ne_of_none e n2)]; exact e
/-- made: nothing that stood is changed -/
theorem made_same {H H' : Hp} {p dx : Addr} {o o' : HO} (n1 : H p = none) (n2 : H dx = none) (B : But p (upd (upd H dx o) p o') H') : Same H H' := fun b v e => B b v (same2 n1 n2 b v e) (ne_of_none e n1)
theorem free2 {H : Hp} {p dx q : Addr} {o o' : HO} (n : upd (upd H dx o) p o' q = none) : H q = none ∧ q ≠ p := by
  have h1 : q ≠ p := fun z => by rw [z, upd_same] at n; cases n
  rw [upd_ne h1] at n
  have h2 : q ≠ dx := fun z => by rw [z, upd_same] at n; cases n
  rw [upd_ne h2] at n
  exact ⟨n, h1⟩
def stC (n : Int) : Int := if n % 1000000000000000 / 2 % 7 < 3 then (atI [32768, 16744448, 8388608] (n % 1000000000000000 / 2 % 7)).getD 0 else 32768 + (n % 1000000000000000 * (n % 1000000000000000) + 5 * (n % 1000000000000000) + 11) * 48271 % 2147483647 % 16711681
def stB (n : Int) : Int := n % 1000000000000000 % 2
theorem stB_bit (n : Int) : 0 ≤ stB n ∧ stB n ≤ 1 := by
  unfold stB
  omega
theorem stC_at {q : Int} (h0 : 0 ≤ q) (h1 : q < 3) : atI [V.int 32768, V.int 16744448, V.int 8388608] q = some (V.int ((atI [(32768 : Int), 16744448, 8388608] q).getD 0)) ∧ Ch ((atI [(32768 : Int), 16744448, 8388608] q).getD 0) := by
  obtain rfl | rfl | rfl : q = 0 ∨ q = 1 ∨ q = 2 := by omega
  · exact ⟨rfl, by decide, by decide⟩
  · exact ⟨rfl, by decide, by decide⟩
  · exact ⟨rfl, by decide, by decide⟩
/-- the span of a seeker that was asked by these cells' chances -/
def skW (d : List Int) : List Int → Sn → Sn
  | [], x => x
  | n :: r, x => skW d r (nar x (stC n) (pick d x (stC n)))
theorem skW_snoc (d : List Int) (n : Int) : ∀ (l : List Int) (x : Sn), skW d (l ++ [n]) x = nar (skW d l x) (stC n) (pick d (skW d l x) (stC n))
  | [], _ => rfl
  | m :: r, x => skW_snoc d n r _
theorem nar_ne {x : Sn} {c b : Int} (h : Ok x) (hc : Ch c) : i3 (nar x c b) ≠ i3 x := by
  obtain ⟨a1, a2, a3⟩ := cut_ok h.w0 h.w1 hc
  intro e
  obtain ⟨r, er⟩ := renIs (if b = 1 then x.1 else x.1 + cut x.2.1 c) (if b = 1 then cut x.2.1 c else x.2.1 - cut x.2.1 c) x.2.2
  have e2 : nar x c b = ren (if b = 1 then x.1 else x.1 + cut x.2.1 c) (if b = 1 then cut x.2.1 c else x.2.1 - cut x.2.1 c) x.2.2 := by
    unfold nar
    split <;> rfl
  rw [e2, er] at e
  unfold i3 at e
  simp only [List.cons.injEq, V.int.injEq, and_true] at e
  obtain ⟨_, e3, e4⟩ := e
  have hr : r = 0 := by omega
  subst hr
  have e5 : (if b = 1 then cut x.2.1 c else x.2.1 - cut x.2.1 c) * 1 = x.2.1 := e3
  split at e5 <;> omega
def kL : Fin 3 → List Bool
  | 0 => [true, false, false, true, false]
  | 1 => [false, true, false, true, false]
  | 2 => [false, false, true, true, false]
theorem SkAt.but2 {a : Ads} {H H' : Hp} {p dx pd ps ds : Addr} {d : List Int} {x : Sn} (h : SkAt a H p dx pd ps ds d x) {q dq qd qs dqs : Addr} {e : List Int} {y : Sn} (hq : SkAt a H q dq qd qs dqs e y) (B : But2 q qs H H') (n1 : p ≠ q) (n2 : p ≠ qs) (n3 : ps ≠ q) (n4 : ps ≠ qs) : SkAt a H' p dx pd ps ds d x := ⟨B _ _ h.me n1 n2, hq.lst B h.dt, B _ _ h.sp n3 n4, h.ne⟩
theorem rdTs {K : PySem.W.Frag} {H : Hp} {t : Addr} {ns : List Int} (h : SqT K H t (ns.map V.int)) : RdV K H (.ref t) (.tuple (ns.map PyData.int)) := .tup h (rdVs_ints ns)
theorem rdLs {K : PySem.W.Frag} {H : Hp} {t : Addr} {ns : List Int} (h : SqL K H t (ns.map V.int)) : RdV K H (.ref t) (.list (ns.map PyData.int)) := .lst h (rdVs_ints ns)
/-- four, of ints: a tuple, two lists, a tuple -/
theorem i_eq4 {K : PySem.W.Frag} {g : Bool → Bool} {H : Hp} {Q : VK} {a b a1 a2 a3 a4 b1 b2 b3 b4 : Addr} {n1 n2 n3 n4 : List Int} (ha : SqL K H a [.ref a1, .ref a2, .ref a3, .ref a4]) (hb : SqL K H b [.ref b1, .ref b2, .ref b3, .ref b4])
    (x1 : SqT K H a1 (n1.map V.int)) (x2 : SqL K H a2 (n2.map V.int)) (x3 : SqL K H a3 (n3.map V.int)) (x4 : SqT K H a4 (n4.map V.int)) (y1 : SqT K H b1 (n1.map V.int)) (y2 : SqL K H b2 (n2.map V.int)) (y3 : SqL K H b3 (n3.map V.int)) (y4 : SqT K H b4 (n4.map V.int))
    (h : Q (.bl (g true)) H) : rEqD K g (.ref a) (.ref b) H Q := by
  have sh : SeqAt.shaped (.list [.tuple (n1.map PyData.int), .list (n2.map PyData.int), .list (n3.map PyData.int), .tuple (n4.map PyData.int)]) = true := by
    simp [SeqAt.shaped, PyData.canLay0, PyData.canLayAll0, PyData.depth, PyData.depthAll, canLay_ints, depth_ints]
  refine ⟨_, _, .lst ha (.cons (rdTs x1) (.cons (rdLs x2) (.cons (rdLs x3) (.cons (rdTs x4) .nil)))), .lst hb (.cons (rdTs y1) (.cons (rdLs y2) (.cons (rdLs y3) (.cons (rdTs y4) .nil)))), sh, sh, ?_⟩
  have e : PyData.eqv (.list [.tuple (n1.map PyData.int), .list (n2.map PyData.int), .list (n3.map PyData.int), .tuple (n4.map PyData.int)]) (.list [.tuple (n1.map PyData.int), .list (n2.map PyData.int), .list (n3.map PyData.int), .tuple (n4.map PyData.int)]) = true := by
    simp [PyData.eqv, PyData.eqvAll, eqvAll_ints]
  rw [e]
  exact h
theorem sc_is_whole : FnScope ["thing"] ["thing"] (defScope s_is_whole) := ⟨rfl, rfl, rfl, by decide +kernel, rfl, by decide +kernel, by decide +kernel⟩
def sp_is_whole (K : PySem.W.Frag) : Sp := fun vs H Q _ => ∃ x n, vs = [x] ∧ TyOf K H x (.type n) ∧ Q (.bl (wholeV x)) H
theorem ok_is_whole (T : Txt K mg a) : FnOk P w K mg base CX0 1 a.f_is_whole a.d_is_whole ["thing"] (sp_is_whole K) := by
  refine T.F_is_whole.ok sc_is_whole (fun vs H Q E h => ?_) (fun cdv A outer s H vs Q E hr h => ?_)
  · obtain ⟨x, n, rfl, _⟩ := h
    rfl
  · obtain ⟨x, n, rfl, ty, k⟩ := h
    refine ⟨_, (pss_one (ps_ret (pe_and (pe_callB call_isinst rfl T.z_isinstance (by decide +kernel) (pa_cons (pv 0) (pa_cons (pe_bty (T := "int") rfl T.z_int (by decide +kernel)) pa_nil (star_ok rfl)) (star_ok rfl))) (pe_one (pe_not (pe_callB call_isinst rfl T.z_isinstance (by decide +kernel) (pa_cons (pv 0) (pa_cons (pe_bty (T := "bool") rfl T.z_bool (by decide +kernel)) pa_nil (star_ok rfl)) (star_ok rfl)))))))), ?_⟩
    try dsimp only [cxOf]
    refine i_start (σ' := [some _]) rfl ?_
    walk_at "rd"
    refine i_isi ty (kit_int ty) ?_
    walk_at "rd"
    cases hx : isIntV x with
    | false =>
      have e : wholeV x = false := by
        cases x <;> first | rfl | cases hx
      rw [e] at k
      exact iteF k
    | true =>
      have e : wholeV x = !isBoolV x := by
        cases x <;> first | rfl | cases hx
      rw [e] at k
      refine iteT ?_
      walk_at "rd"
      refine i_isi ty (kit_bool ty) ?_
      walk_at "rd"
      exact k
theorem sc_is_bit : FnScope ["thing"] ["thing"] (defScope s_is_bit) := ⟨rfl, rfl, rfl, by decide +kernel, rfl, by decide +kernel, by decide +kernel⟩
def sp_is_bit (K : PySem.W.Frag) : Sp := fun vs H Q _ => ∃ x n, vs = [x] ∧ TyOf K H x (.type n) ∧ Q (.bl (bitV x)) H
theorem ok_is_bit (T : Txt K mg a) : FnOk P w K mg base CX0 2 a.f_is_bit a.d_is_bit ["thing"] (sp_is_bit K) := by
  refine T.F_is_bit.ok sc_is_bit (fun vs H Q E h => ?_) (fun cdv A outer s H vs Q E hr h => ?_)
  · obtain ⟨x, n, rfl, _⟩ := h
    rfl
  · obtain ⟨x, n, rfl, ty, k⟩ := h
    refine ⟨_, (pss_one (ps_ret (pe_and (pe_call (ok_is_whole T) (hr.mono (by decide)) rfl T.m_is_whole T.F_is_whole.kp T.B_is_whole .nil pass0 (pa_cons (pv 0) pa_nil (star_ok rfl))) (pe_one (pe_chain op_le op_le pe_int (pv 0) pe_int))))), ?_⟩
    try dsimp only [cxOf]
    refine i_start (σ' := [some _]) rfl ?_
    walk_at "rd"
    refine ⟨x, n, rfl, ty, ?_⟩
    walk_at "rd"
    cases hx : wholeV x with
    | false =>
      have e : bitV x = false := by
        cases x <;> first | rfl | cases hx
      rw [e] at k
      exact iteF k
    | true =>
      obtain ⟨i, rfl⟩ := wholeV_int hx
      refine iteT ?_
      walk_at "rd"
      refine iteD (fun h0 => ?_) (fun h0 => ?_)
      · walk_at "rd"
        have e : bitV (.int i) = decide (i ≤ 1) := by simp [bitV, h0]
        rw [e] at k
        exact k
      · have e : bitV (.int i) = false := by simp [bitV, h0]
        rw [e] at k
        exact k
theorem sc_is_chance : FnScope ["thing"] ["thing"] (defScope s_is_chance) := ⟨rfl, rfl, rfl, by decide +kernel, rfl, by decide +kernel, by decide +kernel⟩
def sp_is_chance (K : PySem.W.Frag) : Sp := fun vs H Q _ => ∃ x n, vs = [x] ∧ TyOf K H x (.type n) ∧ Q (.bl (chV x)) H
theorem ok_is_chance (T : Txt K mg a) : FnOk P w K mg base CX0 2 a.f_is_chance a.d_is_chance ["thing"] (sp_is_chance K) := by
  refine T.F_is_chance.ok sc_is_chance (fun vs H Q E h => ?_) (fun cdv A outer s H vs Q E hr h => ?_)
  · obtain ⟨x, n, rfl, _⟩ := h
    rfl
  · obtain ⟨x, n, rfl, ty, k⟩ := h
    refine ⟨_, (pss_one (ps_ret (pe_and (pe_call (ok_is_whole T) (hr.mono (by decide)) rfl T.m_is_whole T.F_is_whole.kp T.B_is_whole .nil pass0 (pa_cons (pv 0) pa_nil (star_ok rfl))) (pe_one (pe_chain op_le op_le (pe_gint rfl T.c_LEAST) (pv 0) (pe_op op_sub (pe_gint rfl T.c_ONE) (pe_gint rfl T.c_LEAST))))))), ?_⟩
    try dsimp only [cxOf]
    refine i_start (σ' := [some _]) rfl ?_
    walk_at "rd"
    refine ⟨x, n, rfl, ty, ?_⟩
    walk_at "rd"
    cases hx : wholeV x with
    | false =>
      have e : chV x = false := by
        cases x <;> first | rfl | cases hx
      rw [e] at k
      exact iteF k
    | true =>
      obtain ⟨i, rfl⟩ := wholeV_int hx
      refine iteT ?_
      walk_at "rd"
      refine iteD (fun h0 => ?_) (fun h0 => ?_)
      · walk_at "rd"
        have e : chV (.int i) = decide (i ≤ 16777216 - 32768) := by simp [chV, h0]
        rw [e] at k
        exact k
      · have e : chV (.int i) = false := by simp [chV, h0]
        rw [e] at k
        exact k
theorem sc_is_sign : FnScope ["thing"] ["thing"] (defScope s_is_sign) := ⟨rfl, rfl, rfl, by decide +kernel, rfl, by decide +kernel, by decide +kernel⟩
def sp_is_sign (K : PySem.W.Frag) : Sp := fun vs H Q _ => ∃ x n, vs = [x] ∧ TyOf K H x (.type n) ∧ Q (.bl (sgV x)) H
theorem ok_is_sign (T : Txt K mg a) : FnOk P w K mg base CX0 2 a.f_is_sign a.d_is_sign ["thing"] (sp_is_sign K) := by
  refine T.F_is_sign.ok sc_is_sign (fun vs H Q E h => ?_) (fun cdv A outer s H vs Q E hr h => ?_)
  · obtain ⟨x, n, rfl, _⟩ := h
    rfl
  · obtain ⟨x, n, rfl, ty, k⟩ := h
    refine ⟨_, (pss_one (ps_ret (pe_and (pe_call (ok_is_whole T) (hr.mono (by decide)) rfl T.m_is_whole T.F_is_whole.kp T.B_is_whole .nil pass0 (pa_cons (pv 0) pa_nil (star_ok rfl))) (pe_one (pe_chain op_le op_le pe_int (pv 0) pe_int))))), ?_⟩
    try dsimp only [cxOf]
    refine i_start (σ' := [some _]) rfl ?_
    walk_at "rd"
    refine ⟨x, n, rfl, ty, ?_⟩
    walk_at "rd"
    cases hx : wholeV x with
    | false =>
      have e : sgV x = false := by
        cases x <;> first | rfl | cases hx
      rw [e] at k
      exact iteF k
    | true =>
      obtain ⟨i, rfl⟩ := wholeV_int hx
      refine iteT ?_
      walk_at "rd"
      refine iteD (fun h0 => ?_) (fun h0 => ?_)
      · walk_at "rd"
        have e : sgV (.int i) = decide (i ≤ 255) := by simp [sgV, h0]
        rw [e] at k
        exact k
      · have e : sgV (.int i) = false := by simp [sgV, h0]
        rw [e] at k
        exact k
theorem sc_is_list_of_signs : FnScope ["thing", "most"] ["thing", "most"] (defScope s_is_list_of_signs) := ⟨rfl, rfl, rfl, by decide +kernel, rfl, by decide +kernel, by decide +kernel⟩
def sp_los (K : PySem.W.Frag) : Sp := fun vs H Q _ => ∃ x n m, vs = [x, .int m] ∧ TyOf K H x (.type n) ∧ ((Bad K H x n m ∧ ∀ H', Same H H' → Q (.bl false) H') ∨ ∃ xs, Good K H x xs m ∧ ∀ H', Same H H' → Q (.bl true) H')
theorem ok_is_list_of_signs (T : Txt K mg a) : FnOk P w K mg base CX0 3 a.f_is_list_of_signs a.d_is_list_of_signs ["thing", "most"] (sp_los K) := by
  refine T.F_is_list_of_signs.ok sc_is_list_of_signs (fun vs H Q E h => ?_) (fun cdv A outer s H vs Q E hr h => ?_)
  · obtain ⟨x, n, m, rfl, _⟩ := h
    rfl
  · obtain ⟨x, n, m, rfl, ty, h⟩ := h
    have key : (n ≠ "list" ∧ ∀ H', Same H H' → Q (.bl false) H') ∨ ∃ p xs, x = .ref p ∧ H p = some (.lst xs) ∧ Typed K H xs ∧ xs.length ≤ 100000 ∧ ∀ H', Same H H' → Q (.bl (decide ((xs.length : Int) ≤ m) && xs.all sgV)) H' := by
      rcases h with ⟨h | ⟨p, xs, e, hp, t, hz, hb⟩, k⟩ | ⟨xs, ⟨p, e, hp, t, hz, hb⟩, k⟩
      · exact .inl ⟨h, k⟩
      · exact .inr ⟨p, xs, e, hp, t, hz, fun H' S => by rw [hb]; exact k H' S⟩
      · exact .inr ⟨p, xs, e, hp, t, hz, fun H' S => by rw [hb]; exact k H' S⟩
    refine ⟨_, (pss_one (ps_ret (pe_and (pe_callB call_isinst rfl T.z_isinstance (by decide +kernel) (pa_cons (pv 0) (pa_cons (pe_bty (T := "list") rfl T.z_list (by decide +kernel)) pa_nil (star_ok rfl)) (star_ok rfl))) (pe_and (pe_cmpR op_le (pe_callB call_len_seq rfl T.z_len (by decide +kernel) (pa_cons (pv 0) pa_nil (star_ok rfl))) (pv 1) (nomark _)) (pe_one (pe_callB (call_all rfl) rfl T.z_all (by decide +kernel) (pa_cons (pe_comp rfl (pi_list (pv 0)) (fun C s2 H2 fp => (pe_call (ok_is_sign T) (hr.mono (by decide)) rfl T.m_is_sign T.F_is_sign.kp T.B_is_sign .nil pass0 (pa_cons (pv 0) pa_nil (star_ok rfl))))) pa_nil (star_ok rfl)))))))), ?_⟩
    try dsimp only [cxOf]
    refine i_start (σ' := [some _, some _]) rfl ?_
    walk_at "rd"
    refine i_isi ty (kit_lst ty) ?_
    walk_at "rd"
    rcases key with ⟨hn, k⟩ | ⟨p, xs, rfl, hp, tx, hz, k⟩
    · refine iteDn hn ?_
      walk_at "rd"
      exact k _ (Same.refl _)
    · have hn : n = "list" := by
        cases ty with
        | lst e => rfl
        | frz e => rfl
        | tup e => rw [hp] at e; cases e
        | dK e => rw [hp] at e; cases e
        | dT e => rw [hp] at e; cases e
      refine iteDp hn ?_
      walk_at "rd"
      refine i_len (SqL.of hp) ?_
      walk_at "rd"
      refine iteD (fun hm => ?_) (fun hm => ?_)
      · rw [decide_eq_true hm, Bool.true_and] at k
        walk_at "rd"
        refine ⟨p, rfl, ⟨_, SqL.of hp⟩, fun D hD => ?_⟩
        have nD : p ≠ D := ne_of_none hp hD
        refine comp_list (K := K) (a := p) (xs := xs) (fun i H5 => H5 D = some (.lst (((xs.take i).map sgV).map V.bl)) ∧ Same H H5)
          ⟨upd_same, same_upd hD⟩ (fun i H5 _ q => SqL.of (q.2 _ _ hp)) ?_ ?_
        · rintro i y H5 hi hlt ⟨hD5, S5⟩
          walk_at "rd"
          obtain ⟨ky, ty5⟩ := tx y (List.mem_of_getElem? hi)
          refine ⟨y, ky, rfl, tysame S5 ty5, ?_⟩
          refine comp_next hD5 (by rw [List.length_map, List.length_map, List.length_take]; exact line_big (by omega)) hlt ⟨upd_same.trans ?_, fun b o e => upd_oth (fun z => ?_) (S5 _ _ e)⟩
          · rw [List.take_succ, hi]
            simp
          · subst z
            rw [hD] at e
            cases e
        · rintro H5 ⟨hD5, S5⟩
          walk_at "rd"
          refine ⟨D, _, rfl, SqL.of hD5, ?_⟩
          rw [List.take_of_length_le (Nat.le_refl _), List.all_map]
          exact k _ S5
      · rw [decide_eq_false hm, Bool.false_and] at k
        walk_at "rd"
        exact k _ (Same.refl _)
theorem sc_checked_bytes : FnScope ["thing"] ["thing"] (defScope s_checked_bytes) := ⟨rfl, rfl, rfl, by decide +kernel, rfl, by decide +kernel, by decide +kernel⟩
theorem ok_checked_bytes (T : Txt K mg a) : FnOk P w K mg base (CXe P w) 4 a.f_checked_bytes a.d_checked_bytes ["thing"] (sp_checked K a.C_NoBytes 12000) := by
  refine T.F_checked_bytes.okE sc_checked_bytes (fun vs H Q E h => ?_) (fun cdv A outer s H vs Q E hr h => ?_)
  · obtain ⟨x, n, rfl, _⟩ := h
    rfl
  · obtain ⟨x, n, rfl, ty, h⟩ := h
    refine ⟨_, (pss_cons (ps_if (pt_not (pt_val (pe_call (ok_is_list_of_signs T) (hr.mono (by decide)) rfl T.m_is_list_of_signs T.F_is_list_of_signs.kp T.B_is_list_of_signs .nil pass0 (pa_cons (pv 0) (pa_cons (pe_gint rfl T.c_MOST_BYTES) pa_nil (star_ok rfl)) (star_ok rfl))))) (pss_one (ps_raise rfl T.m_NoBytes T.r_NoBytes (pa_cons pe_str pa_nil (star_ok rfl)))) pss_nil) (pss_one (ps_ret (pe_callTy call_list_of rfl T.z_list (by decide +kernel) (pa_cons (pv 0) pa_nil (star_ok rfl)))))), ?_⟩
    try dsimp only [cxOf]
    refine i_start (σ' := [some _]) rfl ?_
    walk_at "rd"
    refine ⟨x, n, _, rfl, ty, ?_⟩
    rcases h with ⟨hb, k⟩ | ⟨xs, hg, k⟩
    · refine .inl ⟨hb, fun H1 S1 => ?_⟩
      walk_at "rd"
      exact ⟨by walk_at "len", k _ S1⟩
    · refine .inr ⟨xs, hg, fun H1 S1 => ?_⟩
      obtain ⟨p, rfl, hp, _⟩ := hg
      walk_at "rd"
      refine ⟨p, xs, rfl, .inl (SqL.of (S1 _ _ hp)), fun r hr0 => ?_⟩
      exact k r _ (S1.free hr0) upd_same (S1.trans (same_upd hr0))
theorem sc_check_chance : FnScope ["thing"] ["thing"] (defScope s_check_chance) := ⟨rfl, rfl, rfl, by decide +kernel, rfl, by decide +kernel, by decide +kernel⟩
def sp_check_chance (K : PySem.W.Frag) (C : Addr) : Sp := fun vs H Q E => ∃ x n, vs = [x] ∧ TyOf K H x (.type n) ∧ (chV x = true → Q .non H) ∧ (chV x = false → E (.ref C) none H)
theorem ok_check_chance (T : Txt K mg a) : FnOk P w K mg base (CXe P w) 3 a.f_check_chance a.d_check_chance ["thing"] (sp_check_chance K a.C_NoChance) := by
  refine T.F_check_chance.okE sc_check_chance (fun vs H Q E h => ?_) (fun cdv A outer s H vs Q E hr h => ?_)
  · obtain ⟨x, n, rfl, _⟩ := h
    rfl
  · obtain ⟨x, n, rfl, ty, k1, k2⟩ := h
    refine ⟨_, (pss_one (ps_if (pt_not (pt_val (pe_call (ok_is_chance T) (hr.mono (by decide)) rfl T.m_is_chance T.F_is_chance.kp T.B_is_chance .nil pass0 (pa_cons (pv 0) pa_nil (star_ok rfl))))) (pss_one (ps_raise rfl T.m_NoChance T.r_NoChance (pa_cons pe_str pa_nil (star_ok rfl)))) pss_nil)), ?_⟩
    try dsimp only [cxOf]
    refine i_start (σ' := [some _]) rfl ?_
    walk_at "rd"
    refine ⟨x, n, rfl, ty, ?_⟩
    walk_at "rd"
    cases hx : chV x with
    | false =>
      walk_at "rd"
      exact ⟨by walk_at "len", k2 hx⟩
    | true =>
      walk_at "rd"
      exact k1 hx
theorem sc_check_bit : FnScope ["thing"] ["thing"] (defScope s_check_bit) := ⟨rfl, rfl, rfl, by decide +kernel, rfl, by decide +kernel, by decide +kernel⟩
def sp_check_bit (K : PySem.W.Frag) (C : Addr) : Sp := fun vs H Q E => ∃ x n, vs = [x] ∧ TyOf K H x (.type n) ∧ (bitV x = true → Q .non H) ∧ (bitV x = false → E (.ref C) none H)
theorem ok_check_bit (T : Txt K mg a) : FnOk P w K mg base (CXe P w) 3 a.f_check_bit a.d_check_bit ["thing"] (sp_check_bit K a.C_NoBit) := by
  refine T.F_check_bit.okE sc_check_bit (fun vs H Q E h => ?_) (fun cdv A outer s H vs Q E hr h => ?_)
  · obtain ⟨x, n, rfl, _⟩ := h
    rfl
  · obtain ⟨x, n, rfl, ty, k1, k2⟩ := h
    refine ⟨_, (pss_one (ps_if (pt_not (pt_val (pe_call (ok_is_bit T) (hr.mono (by decide)) rfl T.m_is_bit T.F_is_bit.kp T.B_is_bit .nil pass0 (pa_cons (pv 0) pa_nil (star_ok rfl))))) (pss_one (ps_raise rfl T.m_NoBit T.r_NoBit (pa_cons pe_str pa_nil (star_ok rfl)))) pss_nil)), ?_⟩
    try dsimp only [cxOf]
    refine i_start (σ' := [some _]) rfl ?_
    walk_at "rd"
    refine ⟨x, n, rfl, ty, ?_⟩
    walk_at "rd"
    cases hx : bitV x with
    | false =>
      walk_at "rd"
      exact ⟨by walk_at "len", k2 hx⟩
    | true =>
      walk_at "rd"
      exact k1 hx
theorem sc_written : FnScope ["number", "size", "places"] ["number", "size"] (defScope s_written) := ⟨rfl, rfl, rfl, by decide +kernel, rfl, by decide +kernel, by decide +kernel⟩
def sp_written : Sp := fun vs H Q _ => ∃ (n : Int) (k : Nat), vs = [.int n, .int k] ∧ k ≤ 1000 ∧ ∀ t H', H t = none → H' t = some (.lst ((wr k n).map V.int)) → Same H H' → Q (.ref t) H'
theorem ok_written (T : Txt K mg a) : FnOk P w K mg base CX0 1 a.f_written a.d_written ["number", "size"] sp_written := by
  refine T.F_written.ok sc_written (fun vs H Q E h => ?_) (fun cdv A outer s H vs Q E hr h => ?_)
  · obtain ⟨n, k', rfl, _⟩ := h
    rfl
  · obtain ⟨n, k', rfl, hk, k⟩ := h
    refine ⟨_, (pss_cons (ps_set (i := 2) sc_written.nd rfl (Or.inl rfl) (pe_lst pa_nil)) (pss_cons (ps_while PassesOwn.never (pt_cmpR op_lt (pe_callB call_len_seq rfl T.z_len (by decide +kernel) (pa_cons (pv 2) pa_nil (star_ok rfl))) (pv 1) (nomark _)) (pss_cons (ps_expr (pe_bm PySem.F.plainAttrs_list PySem.F.slot_list_append PySem.F.type_list_append mt_append (pv 2) (pa_cons (pe_op op_mod (pv 0) pe_int) pa_nil (star_ok rfl)))) (pss_one (ps_set (i := 0) sc_written.nd rfl (Or.inl rfl) (pe_op op_fdivB (pv 0) pe_int))))) (pss_cons (ps_expr (pe_bm0 PySem.F.plainAttrs_list PySem.F.slot_list_reverse PySem.F.type_list_reverse mt_reverse (pv 2))) (pss_one (ps_ret (pv 2)))))), ?_⟩
    try dsimp only [cxOf]
    refine i_start (σ' := [some _, some _, none]) rfl ?_
    walk_at "rd"
    refine ⟨by walk_at "len", fun t ht => ?_⟩
    walk_at "rd"
    refine ⟨fun m σ' H1 => ∃ (n' : Int) (xs : List Int), σ' = [some (.int n'), some (.int k'), some (.ref t)] ∧ H1 t = some (.lst (xs.map V.int)) ∧ Same H H1 ∧ xs ++ lo (k' - xs.length) n' = lo k' n ∧ xs.length ≤ k' ∧ m = k' - xs.length, ⟨_, n, [], rfl, upd_same, same_upd ht, rfl, Nat.zero_le _, rfl⟩, ?_⟩
    rintro m σ2 H2 ⟨n', xs, rfl, h2, S2, e2, l2, rfl⟩
    walk_at "rd"
    refine i_len (SqL.of h2) ?_
    rw [List.length_map]
    walk_at "rd"
    refine iteD (fun hb => ?_) (fun hb => ?_)
    · refine i_turn ?_
      walk_at "rd"
      refine i_tyL h2 ?_
      walk_at "rd"
      refine i_append h2 (by rw [List.length_map]; exact line_1000 (by omega)) ?_
      walk_at "rd"
      refine ⟨_, ?_, n' / 256, xs ++ [n' % 256], rfl, (upd_same.trans (by rw [map_app1])), fun b o e => ?_, ?_, ?_, rfl⟩
      · rw [List.length_append]
        show k' - (xs.length + 1) < k' - xs.length
        omega
      · rw [upd_ne (ne_of_none e ht)]
        exact S2 b o e
      · have el : k' - xs.length = k' - (xs ++ [n' % 256]).length + 1 := by
          rw [List.length_append]
          show k' - xs.length = k' - (xs.length + 1) + 1
          omega
        rw [el] at e2
        rw [← e2, List.append_assoc]
        rfl
      · rw [List.length_append]
        show xs.length + 1 ≤ k'
        omega
    · walk_at "rd"
      have el : k' - xs.length = 0 := by omega
      rw [el] at e2
      have e3 : xs = lo k' n := by rw [← e2]; simp [lo]
      refine i_tyL h2 ?_
      refine i_reverse h2 ?_
      walk_at "rd"
      refine k t _ ht ?_ fun b o e => ?_
      · rw [upd_same, map_rev, e3]
        rfl
      · rw [upd_ne (ne_of_none e ht)]
        exact S2 b o e
theorem sc_first_block : FnScope ["low", "unit"] ["low", "unit"] (defScope s_first_block) := ⟨rfl, rfl, rfl, by decide +kernel, rfl, by decide +kernel, by decide +kernel⟩
def sp_first_block : Sp := fun vs H Q _ => ∃ l e : Int, vs = [.int l, .int e] ∧ 0 < e ∧ e < 2 ^ 63 ∧ Q (.int (blk l e)) H
theorem ok_first_block (T : Txt K mg a) : FnOk P w K mg base CX0 1 a.f_first_block a.d_first_block ["low", "unit"] sp_first_block := by
  refine T.F_first_block.ok sc_first_block (fun vs H Q E h => ?_) (fun cdv A outer s H vs Q E hr h => ?_)
  · obtain ⟨l, e, rfl, _⟩ := h
    rfl
  · obtain ⟨l, e, rfl, h1, h2, k⟩ := h
    refine ⟨_, (pss_one (ps_ret (pe_op op_fdivB (pe_op op_sub (pe_op op_add (pv 0) (pv 1)) pe_int) (pv 1)))), ?_⟩
    try dsimp only [cxOf]
    refine i_start (σ' := [some _, some _]) rfl ?_
    walk_at "rd"
    exact k
theorem sc_Span___init__ : FnScope ["self"] ["self"] (defScope s_Span___init__) := ⟨rfl, rfl, rfl, by decide +kernel, rfl, by decide +kernel, by decide +kernel⟩
def sp_init (C : Addr) : Sp := fun vs H Q _ => ∃ (p dx : Addr), vs = [.ref p] ∧ H p = some (.ins C dx []) ∧ ∀ H', H' p = some (.ins C dx (flds s0)) → But p H H' → Q .non H'
theorem ok_Span___init__ (T : Txt K mg a) : FnOk P w K mg base CX0 1 a.f_Span___init__ a.d_Span___init__ ["self"] (sp_init a.C_Span) := by
  refine T.F_Span___init__.ok sc_Span___init__ (fun vs H Q E h => ?_) (fun cdv A outer s H vs Q E hr h => ?_)
  · obtain ⟨p, dx, rfl, _⟩ := h
    rfl
  · obtain ⟨p, dx, rfl, hp, k⟩ := h
    refine ⟨_, (pss_cons (ps_fld (pv 0) pe_int rfl) (pss_cons (ps_fld (pv 0) (pe_gint rfl T.c_FIRST_WIDTH) rfl) (pss_one (ps_fld (pv 0) (pe_gint rfl T.c_FIRST_SIZE) rfl)))), ?_⟩
    try dsimp only [cxOf]
    refine i_start (σ' := [some _]) rfl ?_
    walk_at "rd"
    refine ⟨p, _, dx, _, rfl, hp, T.cl_Span, T.n_Span_low, by show 0 < 1000; decide, ?_⟩
    walk_at "rd"
    refine ⟨p, _, dx, _, rfl, upd_same, T.cl_Span, T.n_Span_width, by show 1 < 1000; decide, ?_⟩
    walk_at "rd"
    refine ⟨p, _, dx, _, rfl, upd_same, T.cl_Span, T.n_Span_size, by show 2 < 1000; decide, ?_⟩
    have e : putF "size" (.int 5) (putF "width" (.int 1099511627776) (putF "low" (.int 0) [])) = flds s0 := by
      rw [pf_nil, pf_tl nLW pf_nil, pf_tl nLS (pf_tl nWS pf_nil)]
      rfl
    refine k _ (upd_same.trans (congrArg (fun l => some (HO.ins a.C_Span dx l)) e)) fun b o h n => ?_
    rw [upd_ne n, upd_ne n, upd_ne n]
    exact h
theorem sc_Span_ends : FnScope ["self"] ["self"] (defScope s_Span_ends) := ⟨rfl, rfl, rfl, by decide +kernel, rfl, by decide +kernel, by decide +kernel⟩
def sp_ends (C : Addr) : Sp := fun vs H Q _ => ∃ (p dx : Addr) (x : Sn), vs = [.ref p] ∧ H p = some (.ins C dx (flds x)) ∧ ∀ t H', H t = none → H' t = some (.tup (i3 x)) → Same H H' → Q (.ref t) H'
theorem ok_Span_ends (T : Txt K mg a) : FnOk P w K mg base CX0 1 a.f_Span_ends a.d_Span_ends ["self"] (sp_ends a.C_Span) := by
  refine T.F_Span_ends.ok sc_Span_ends (fun vs H Q E h => ?_) (fun cdv A outer s H vs Q E hr h => ?_)
  · obtain ⟨p, dx, x, rfl, _⟩ := h
    rfl
  · obtain ⟨p, dx, x, rfl, hp, k⟩ := h
    refine ⟨_, (pss_one (ps_ret (pe_tup (pa_cons (pe_fld (pv 0) rfl) (pa_cons (pe_fld (pv 0) rfl) (pa_cons (pe_fld (pv 0) rfl) pa_nil (star_ok rfl)) (star_ok rfl)) (star_ok rfl))))), ?_⟩
    try dsimp only [cxOf]
    refine i_start (σ' := [some _]) rfl ?_
    walk_at "rd"
    refine ⟨by walk_at "len", fun t ht => ?_⟩
    exact k t _ ht upd_same (same_upd ht)
theorem sc_Span_cut : FnScope ["self", "chance"] ["self", "chance"] (defScope s_Span_cut) := ⟨rfl, rfl, rfl, by decide +kernel, rfl, by decide +kernel, by decide +kernel⟩
def sp_cut (C : Addr) : Sp := fun vs H Q _ => ∃ (p dx : Addr) (x : Sn) (c : Int), vs = [.ref p, .int c] ∧ H p = some (.ins C dx (flds x)) ∧ Ch c ∧ Q (.int (cut x.2.1 c)) H
theorem ok_Span_cut (T : Txt K mg a) : FnOk P w K mg base CX0 1 a.f_Span_cut a.d_Span_cut ["self", "chance"] (sp_cut a.C_Span) := by
  refine T.F_Span_cut.ok sc_Span_cut (fun vs H Q E h => ?_) (fun cdv A outer s H vs Q E hr h => ?_)
  · obtain ⟨p, dx, x, c, rfl, _⟩ := h
    rfl
  · obtain ⟨p, dx, x, c, rfl, hp, ⟨c1, c2⟩, k⟩ := h
    refine ⟨_, (pss_one (ps_ret (pe_op op_fdivB (pe_op op_mul (pe_fld (pv 0) rfl) (pv 1)) (pe_gint rfl T.c_ONE)))), ?_⟩
    try dsimp only [cxOf]
    refine i_start (σ' := [some _, some _]) rfl ?_
    walk_at "rd"
    exact k
theorem sc_Span_narrow : FnScope ["self", "chance", "bit", "cut"] ["self", "chance", "bit"] (defScope s_Span_narrow) := ⟨rfl, rfl, rfl, by decide +kernel, rfl, by decide +kernel, by decide +kernel⟩
def sp_narrow (K : PySem.W.Frag) (C Nc Nb : Addr) : Sp := fun vs H Q E => ∃ (p dx : Addr) (x : Sn) (vc vb : V) (n m : String), vs = [.ref p, vc, vb] ∧ H p = some (.ins C dx (flds x)) ∧ Ok x ∧ TyOf K H vc (.type n) ∧ TyOf K H vb (.type m) ∧
  (chV vc = false → E (.ref Nc) none H) ∧ (chV vc = true → bitV vb = false → E (.ref Nb) none H) ∧
  ∀ c b : Int, vc = .int c → vb = .int b → Ch c → 0 ≤ b → b ≤ 1 → ∀ H', H' p = some (.ins C dx (flds (nar x c b))) → But p H H' → Q .non H'
theorem ok_Span_narrow (T : Txt K mg a) : FnOk P w K mg base (CXe P w) 4 a.f_Span_narrow a.d_Span_narrow ["self", "chance", "bit"] (sp_narrow K a.C_Span a.C_NoChance a.C_NoBit) := by
  refine T.F_Span_narrow.okE sc_Span_narrow (fun vs H Q E h => ?_) (fun cdv A outer s H vs Q E hr h => ?_)
  · obtain ⟨p, dx, x, vc, vb, n, m, rfl, _⟩ := h
    rfl
  · obtain ⟨p, dx, x, vc, vb, n, m, rfl, hp, hx, tc, tb, k1, k2, k⟩ := h
    refine ⟨_, (pss_cons (ps_expr (pe_callE (ok_check_chance T) (hr.mono (by decide)) rfl T.m_check_chance T.F_check_chance.kp T.B_check_chance .nil catch_fn (pa_cons (pv 1) pa_nil (star_ok rfl)))) (pss_cons (ps_expr (pe_callE (ok_check_bit T) (hr.mono (by decide)) rfl T.m_check_bit T.F_check_bit.kp T.B_check_bit .nil catch_fn (pa_cons (pv 2) pa_nil (star_ok rfl)))) (pss_cons (ps_set (i := 3) sc_Span_narrow.nd rfl (Or.inl rfl) (pe_meth (pv 0) T.cl_Span T.M_Span_cut (ok_Span_cut T) (hr.mono (by decide)) T.B_Span_cut .nil pass0 (pa_cons (pv 1) pa_nil (star_ok rfl)))) (pss_cons (ps_mid (ps_if (pt_cmpR op_eq (pv 2) pe_int (nomark _)) (pss_one (ps_fld (pv 0) (pv 3) rfl)) (pss_cons (ps_fld (pv 0) (pe_op op_add (pe_fld (pv 0) rfl) (pv 3)) rfl) (pss_one (ps_fld (pv 0) (pe_op op_sub (pe_fld (pv 0) rfl) (pv 3)) rfl))))) (pss_one (PS.nox (ps_while PassesOwn.never (pt_cmpR op_lt (pe_fld (pv 0) rfl) (pe_gint rfl T.c_LEAST_WIDTH) (nomark _)) (pss_cons (ps_fld (pv 0) (pe_op op_mul (pe_fld (pv 0) rfl) pe_int) rfl) (pss_cons (ps_fld (pv 0) (pe_op op_mul (pe_fld (pv 0) rfl) pe_int) rfl) (pss_one (ps_fld (pv 0) (pe_op op_add (pe_fld (pv 0) rfl) pe_int) rfl))))))))))), ?_⟩
    try dsimp only [cxOf]
    refine i_start (σ' := [some _, some _, some _, none]) rfl ?_
    have hw0 := hx.w0
    have hw1 := hx.w1
    walk_at "rd"
    refine ⟨vc, n, rfl, tc, fun hvc => ?_, k1⟩
    walk_at "rd"
    refine ⟨vb, m, rfl, tb, fun hvb => ?_, k2 hvc⟩
    obtain ⟨c, rfl, c1, c2⟩ := chV_int hvc
    obtain ⟨b, rfl, b0, b1⟩ := bitV_int hvb
    have hc : Ch c := ⟨c1, c2⟩
    have k := k c b rfl rfl hc b0 b1
    walk_at "rd"
    refine ⟨p, dx, _, rfl, hp, lkN _ (by decide +kernel) (by decide +kernel) (by decide +kernel), ?_⟩
    walk_at "rd"
    refine ⟨p, dx, x, c, rfl, hp, hc, ?_⟩
    walk_at "rd"
    obtain ⟨a1, a2, a3⟩ := cut_ok hw0 hw1 hc
    refine i_mid (fun σ' H' => ∃ y : Sn, σ' = [some (.ref p), some (.int c), some (.int b), some (.int (cut x.2.1 c))] ∧ H' p = some (.ins a.C_Span dx (flds y)) ∧ 8388608 ≤ y.2.1 ∧ y.2.1 ≤ 1099511627776 ∧ ren y.1 y.2.1 y.2.2 = nar x c b ∧ But p H H') ?_ ?_
    · walk_at "rd"
      refine iteD (fun hb => ?_) (fun hb => ?_)
      · walk_at "rd"
        refine ⟨_, rfl, upd_same, a1, Int.le_of_lt a3, ?_, But.upd⟩
        unfold nar
        (rw [if_pos hb]) <;> rfl
      · walk_at "rd"
        refine ⟨_, rfl, upd_same, a2, ?_, ?_, But.upd.trans But.upd⟩
        · show x.2.1 - cut x.2.1 c ≤ _
          omega
        · unfold nar
          (rw [if_neg hb]) <;> rfl
    · rintro σ' H' ⟨y, rfl, hp', y1, y2, y3, y4⟩
      refine ⟨fun m σ' H' => ∃ y : Sn, σ' = [some (.ref p), some (.int c), some (.int b), some (.int (cut x.2.1 c))] ∧ H' p = some (.ins a.C_Span dx (flds y)) ∧ 8388608 ≤ y.2.1 ∧ y.2.1 ≤ 1099511627776 ∧ ren y.1 y.2.1 y.2.2 = nar x c b ∧ But p H H' ∧ m = (4294967296 - y.2.1).toNat, ⟨_, y, rfl, hp', y1, y2, y3, y4, rfl⟩, ?_⟩
      rintro m σ2 H2 ⟨z, rfl, hz, z1, z2, z3, z4, rfl⟩
      walk_at "rd"
      refine iteD (fun hb => ?_) (fun hb => ?_)
      · refine i_turn ?_
        walk_at "rd"
        refine ⟨_, ?_, (z.1 * 256, z.2.1 * 256, z.2.2 + 1), rfl, upd_same, ?_, ?_, (ren_step hb z1).trans z3, ((z4.trans But.upd).trans But.upd).trans But.upd, rfl⟩
        · show (4294967296 - z.2.1 * 256).toNat < (4294967296 - z.2.1).toNat
          omega
        · show 8388608 ≤ z.2.1 * 256
          omega
        · show z.2.1 * 256 ≤ 1099511627776
          omega
      · rw [ren_end hb] at z3
        refine k _ ?_ z4
        rw [← z3]
        exact hz
theorem sc_Span_settled : FnScope ["self", "lowest", "highest", "size"] ["self"] (defScope s_Span_settled) := ⟨rfl, rfl, rfl, by decide +kernel, rfl, by decide +kernel, by decide +kernel⟩
def sp_settled (C : Addr) : Sp := fun vs H Q _ => ∃ (p dx : Addr) (x : Sn), vs = [.ref p] ∧ H p = some (.ins C dx (flds x)) ∧ OkS x ∧ sz x ≤ 1000 ∧ ∀ t H', H t = none → H' t = some (.lst ((stL x).map V.int)) → Same H H' → Q (.ref t) H'
theorem ok_Span_settled (T : Txt K mg a) : FnOk P w K mg base CX0 2 a.f_Span_settled a.d_Span_settled ["self"] (sp_settled a.C_Span) := by
  refine T.F_Span_settled.ok sc_Span_settled (fun vs H Q E h => ?_) (fun cdv A outer s H vs Q E hr h => ?_)
  · obtain ⟨p, dx, x, rfl, _⟩ := h
    rfl
  · obtain ⟨p, dx, x, rfl, hp, hx, hz, k⟩ := h
    refine ⟨_, (pss_cons (ps_set (i := 1) sc_Span_settled.nd rfl (Or.inl rfl) (pe_fld (pv 0) rfl)) (pss_cons (ps_set (i := 2) sc_Span_settled.nd rfl (Or.inl rfl) (pe_op op_sub (pe_op op_add (pe_fld (pv 0) rfl) (pe_fld (pv 0) rfl)) pe_int)) (pss_cons (ps_set (i := 3) sc_Span_settled.nd rfl (Or.inl rfl) (pe_fld (pv 0) rfl)) (pss_cons (ps_while PassesOwn.never (pt_cmpR op_ne (pv 1) (pv 2) (nomark _)) (pss_cons (ps_set (i := 1) sc_Span_settled.nd rfl (Or.inl rfl) (pe_op op_fdivB (pv 1) pe_int)) (pss_cons (ps_set (i := 2) sc_Span_settled.nd rfl (Or.inl rfl) (pe_op op_fdivB (pv 2) pe_int)) (pss_one (ps_set (i := 3) sc_Span_settled.nd rfl (Or.inl rfl) (pe_op op_sub (pv 3) pe_int)))))) (pss_one (ps_ret (pe_call (ok_written T) (hr.mono (by decide)) rfl T.m_written T.F_written.kp T.B_written .nil pass0 (pa_cons (pv 1) (pa_cons (pv 3) pa_nil (star_ok rfl)) (star_ok rfl))))))))), ?_⟩
    try dsimp only [cxOf]
    refine i_start (σ' := [some _, none, none, none]) rfl ?_
    walk_at "rd"
    refine ⟨fun m σ' H1 => H1 = H ∧ ∃ j : Nat, σ' = [some (.ref p), some (.int (x.1 / pw j)), some (.int ((x.1 + x.2.1 - 1) / pw j)), some (.int (x.2.2 - j))] ∧ j ≤ stK x ∧ m = stK x - j, ⟨_, rfl, 0, ?_, Nat.zero_le _, rfl⟩, ?_⟩
    · show _ = [_, some (V.int (x.1 / 1)), some (V.int ((x.1 + x.2.1 - 1) / 1)), some (V.int (x.2.2 - 0))]
      rw [Int.ediv_one, Int.ediv_one, Int.sub_zero]
    rintro m σ2 H2 ⟨rfl, j, rfl, hj, rfl⟩
    walk_at "rd"
    refine iteN (fun hb => ?_) (fun hb => ?_)
    · have ej : j = stK x := by
        apply Nat.le_antisymm hj
        apply Nat.le_of_not_lt
        intro q
        exact stK_min q hb
      subst ej
      walk_at "rd"
      have hs := hx.sz
      have ht := stK_le x
      have e1 : x.2.2 - (stK x : Int) = ((sz x - stK x : Nat) : Int) := by omega
      rw [e1]
      exact ⟨_, _, rfl, by omega, k⟩
    · have lj : j < stK x := by
        apply Nat.lt_of_le_of_ne hj
        intro q
        subst q
        exact hb (stK_eq hx)
      refine i_turn ?_
      walk_at "rd"
      refine ⟨_, ?_, rfl, j + 1, ?_, lj, rfl⟩
      · show stK x - (j + 1) < stK x - j
        omega
      · have e1 : x.2.2 - (j : Int) - 1 = x.2.2 - ((j + 1 : Nat) : Int) := by omega
        rw [e1, div_pw_succ, div_pw_succ]
theorem sc_Span_holds_block : FnScope ["self", "unit"] ["self", "unit"] (defScope s_Span_holds_block) := ⟨rfl, rfl, rfl, by decide +kernel, rfl, by decide +kernel, by decide +kernel⟩
def sp_holds (C : Addr) : Sp := fun vs H Q _ => ∃ (p dx : Addr) (x : Sn) (j : Nat), vs = [.ref p, .int (pw j)] ∧ H p = some (.ins C dx (flds x)) ∧ j ≤ 6 ∧ Q (.bl (decide (hold x.1 x.2.1 j))) H
theorem ok_Span_holds_block (T : Txt K mg a) : FnOk P w K mg base CX0 2 a.f_Span_holds_block a.d_Span_holds_block ["self", "unit"] (sp_holds a.C_Span) := by
  refine T.F_Span_holds_block.ok sc_Span_holds_block (fun vs H Q E h => ?_) (fun cdv A outer s H vs Q E hr h => ?_)
  · obtain ⟨p, dx, x, j, rfl, _⟩ := h
    rfl
  · obtain ⟨p, dx, x, j, rfl, hp, hj, k⟩ := h
    refine ⟨_, (pss_one (ps_ret (pe_cmpR op_le (pe_op op_mul (pe_op op_add (pe_call (ok_first_block T) (hr.mono (by decide)) rfl T.m_first_block T.F_first_block.kp T.B_first_block .nil pass0 (pa_cons (pe_fld (pv 0) rfl) (pa_cons (pv 1) pa_nil (star_ok rfl)) (star_ok rfl))) pe_int) (pv 1)) (pe_op op_add (pe_fld (pv 0) rfl) (pe_fld (pv 0) rfl)) (nomark _)))), ?_⟩
    try dsimp only [cxOf]
    refine i_start (σ' := [some _, some _]) rfl ?_
    have q1 := pw_small hj
    have q2 := pw_pos j
    walk_at "rd"
    refine ⟨_, _, rfl, q2, by omega, ?_⟩
    walk_at "rd"
    exact k
theorem sc_Span_told : FnScope ["self", "unit", "size"] ["self"] (defScope s_Span_told) := ⟨rfl, rfl, rfl, by decide +kernel, rfl, by decide +kernel, by decide +kernel⟩
def sp_told (C : Addr) : Sp := fun vs H Q _ => ∃ (p dx : Addr) (x : Sn), vs = [.ref p] ∧ H p = some (.ins C dx (flds x)) ∧ OkS x ∧ sz x ≤ 1000 ∧ ∀ t H', H t = none → H' t = some (.lst ((tL x).map V.int)) → Same H H' → Q (.ref t) H'
theorem ok_Span_told (T : Txt K mg a) : FnOk P w K mg base CX0 3 a.f_Span_told a.d_Span_told ["self"] (sp_told a.C_Span) := by
  refine T.F_Span_told.ok sc_Span_told (fun vs H Q E h => ?_) (fun cdv A outer s H vs Q E hr h => ?_)
  · obtain ⟨p, dx, x, rfl, _⟩ := h
    rfl
  · obtain ⟨p, dx, x, rfl, hp, hx, hz, k⟩ := h
    refine ⟨_, (pss_cons (ps_set (i := 1) sc_Span_told.nd rfl (Or.inl rfl) pe_int) (pss_cons (ps_set (i := 2) sc_Span_told.nd rfl (Or.inl rfl) (pe_fld (pv 0) rfl)) (pss_cons (ps_while PassesOwn.never (pt_val (pe_meth (pv 0) T.cl_Span T.M_Span_holds_block (ok_Span_holds_block T) (hr.mono (by decide)) T.B_Span_holds_block .nil pass0 (pa_cons (pe_op op_mul (pv 1) pe_int) pa_nil (star_ok rfl)))) (pss_cons (ps_set (i := 1) sc_Span_told.nd rfl (Or.inl rfl) (pe_op op_mul (pv 1) pe_int)) (pss_one (ps_set (i := 2) sc_Span_told.nd rfl (Or.inl rfl) (pe_op op_sub (pv 2) pe_int))))) (pss_one (ps_ret (pe_call (ok_written T) (hr.mono (by decide)) rfl T.m_written T.F_written.kp T.B_written .nil pass0 (pa_cons (pe_call (ok_first_block T) (hr.mono (by decide)) rfl T.m_first_block T.F_first_block.kp T.B_first_block .nil pass0 (pa_cons (pe_fld (pv 0) rfl) (pa_cons (pv 1) pa_nil (star_ok rfl)) (star_ok rfl))) (pa_cons (pv 2) pa_nil (star_ok rfl)) (star_ok rfl)))))))), ?_⟩
    try dsimp only [cxOf]
    refine i_start (σ' := [some _, none, none]) rfl ?_
    walk_at "rd"
    refine ⟨fun m σ' H1 => H1 = H ∧ ∃ j : Nat, σ' = [some (.ref p), some (.int (pw j)), some (.int (x.2.2 - j))] ∧ j ≤ 5 ∧ tel x.1 x.2.1 (5 - j) j = tK x ∧ m = 6 - j, ⟨_, rfl, 0, by simp [pw], by decide, rfl, rfl⟩, ?_⟩
    rintro m σ2 H2 ⟨rfl, j, rfl, hj, ej, rfl⟩
    have q1 := pw_small (show j ≤ 6 by omega)
    have q2 := pw_pos j
    walk_at "rd"
    refine ⟨p, dx, _, rfl, hp, lkN _ (by decide +kernel) (by decide +kernel) (by decide +kernel), ?_⟩
    walk_at "rd"
    refine ⟨p, dx, x, j + 1, rfl, hp, by omega, ?_⟩
    walk_at "rd"
    refine iteD (fun hb => ?_) (fun hb => ?_)
    · refine i_turn ?_
      walk_at "rd"
      have h5 := hold_5 hx.ok.w1 hb
      refine ⟨_, ?_, rfl, j + 1, ?_, h5, ?_, rfl⟩
      · show 6 - (j + 1) < 6 - j
        omega
      · have e1 : x.2.2 - (j : Int) - 1 = x.2.2 - ((j + 1 : Nat) : Int) := by omega
        rw [e1]
        rfl
      · rw [tel_step hb, ← ej]
        congr 1
        omega
    · have ej' : j = tK x := by rw [← ej, tel_end hb]
      subst ej'
      walk_at "rd"
      refine ⟨_, _, rfl, q2, by omega, ?_⟩
      walk_at "rd"
      have hs := hx.sz
      have ht := (tK_le hx).2
      have e1 : x.2.2 - (tK x : Int) = ((sz x - tK x : Nat) : Int) := by omega
      rw [e1]
      exact ⟨_, _, rfl, by omega, k⟩
theorem sc_Seeker_byte_at : FnScope ["self", "place"] ["self", "place"] (defScope s_Seeker_byte_at) := ⟨rfl, rfl, rfl, by decide +kernel, rfl, by decide +kernel, by decide +kernel⟩
def sp_byte_at (C : Addr) : Sp := fun vs H Q _ => ∃ (p dx pd : Addr) (v1 v2 v3 : V) (d : List Int) (k : Nat), vs = [.ref p, .int k] ∧ H p = some (.ins C dx (F_Seeker (.ref pd) v1 v2 v3)) ∧ H pd = some (.lst (d.map V.int)) ∧ Q (.int ((d[k]?).getD 0)) H
theorem ok_Seeker_byte_at (T : Txt K mg a) : FnOk P w K mg base CX0 1 a.f_Seeker_byte_at a.d_Seeker_byte_at ["self", "place"] (sp_byte_at a.C_Seeker) := by
  refine T.F_Seeker_byte_at.ok sc_Seeker_byte_at (fun vs H Q E h => ?_) (fun cdv A outer s H vs Q E hr h => ?_)
  · obtain ⟨p, dx, pd, v1, v2, v3, d, k, rfl, _⟩ := h
    rfl
  · obtain ⟨p, dx, pd, v1, v2, v3, d, k', rfl, hp, hd, k⟩ := h
    refine ⟨_, (pss_one (ps_ret (pe_ifExp (pt_cmpR op_lt (pv 1) (pe_callB call_len_seq rfl T.z_len (by decide +kernel) (pa_cons (pe_fld (pv 0) rfl) pa_nil (star_ok rfl))) (nomark _)) (pe_ix ix_list (pe_fld (pv 0) rfl) (pv 1) (fun _ _ => rfl)) pe_int))), ?_⟩
    try dsimp only [cxOf]
    refine i_start (σ' := [some _, some _]) rfl ?_
    walk_at "rd"
    refine i_len (SqL.of hd) ?_
    rw [List.length_map]
    walk_at "rd"
    refine iteD (fun hb => ?_) (fun hb => ?_)
    · have hk : k' < d.length := by omega
      rw [List.getElem?_eq_getElem hk] at k
      walk_at "rd"
      exact i_ixL (SqL.of hd) (atI_nat (by rw [List.getElem?_map, List.getElem?_eq_getElem hk]; rfl)) k
    · rw [List.getElem?_eq_none (by omega)] at k
      walk_at "rd"
      exact k
theorem sc_Seeker_follow : FnScope ["self"] ["self"] (defScope s_Seeker_follow) := ⟨rfl, rfl, rfl, by decide +kernel, rfl, by decide +kernel, by decide +kernel⟩
def sp_follow (C D : Addr) : Sp := fun vs H Q _ => ∃ (p dx pd ps ds : Addr) (d : List Int) (x : Sn) (r : Nat), vs = [.ref p] ∧ H p = some (.ins C dx (F_Seeker (.ref pd) (.ref ps) (.int (rn d r)) (.int r))) ∧ H pd = some (.lst (d.map V.int)) ∧ H ps = some (.ins D ds (flds x)) ∧ p ≠ ps ∧ OkS x ∧ r ≤ sz x ∧
  ∀ H', H' p = some (.ins C dx (F_Seeker (.ref pd) (.ref ps) (.int (rn d (sz x))) (.int x.2.2))) → But p H H' → Q .non H'
theorem ok_Seeker_follow (T : Txt K mg a) : FnOk P w K mg base CX0 2 a.f_Seeker_follow a.d_Seeker_follow ["self"] (sp_follow a.C_Seeker a.C_Span) := by
  refine T.F_Seeker_follow.ok sc_Seeker_follow (fun vs H Q E h => ?_) (fun cdv A outer s H vs Q E hr h => ?_)
  · obtain ⟨p, dx, pd, ps, ds, d, x, r, rfl, _⟩ := h
    rfl
  · obtain ⟨p, dx, pd, ps, ds, d, x, r, rfl, hp, hd, hs, nps, hx, hr', k⟩ := h
    refine ⟨_, (pss_one (ps_while PassesOwn.never (pt_cmpR op_lt (pe_fld (pv 0) rfl) (pe_fld (pe_fld (pv 0) rfl) rfl) (nomark _)) (pss_cons (ps_fld (pv 0) (pe_op op_add (pe_op op_mul (pe_fld (pv 0) rfl) pe_int) (pe_meth (pv 0) T.cl_Seeker T.M_Seeker_byte_at (ok_Seeker_byte_at T) (hr.mono (by decide)) T.B_Seeker_byte_at .nil pass0 (pa_cons (pe_fld (pv 0) rfl) pa_nil (star_ok rfl)))) rfl) (pss_one (ps_fld (pv 0) (pe_op op_add (pe_fld (pv 0) rfl) pe_int) rfl))))), ?_⟩
    try dsimp only [cxOf]
    refine i_start (σ' := [some _]) rfl ?_
    have hz := hx.sz
    refine ⟨fun m σ' H1 => ∃ r : Nat, σ' = [some (.ref p)] ∧ H1 p = some (.ins a.C_Seeker dx (F_Seeker (.ref pd) (.ref ps) (.int (rn d r)) (.int r))) ∧ r ≤ sz x ∧ But p H H1 ∧ m = sz x - r, ⟨_, r, rfl, hp, hr', But.refl, rfl⟩, ?_⟩
    rintro m σ2 H2 ⟨r, rfl, hp2, hr2, B2, rfl⟩
    have hs2 : H2 ps = some (.ins a.C_Span ds (flds x)) := B2 _ _ hs nps.symm
    have hd2 := B2.lst hp hd
    walk_at "rd"
    refine iteD (fun hb => ?_) (fun hb => ?_)
    · refine i_turn ?_
      walk_at "rd"
      refine ⟨p, dx, pd, _, _, _, d, r, rfl, hp2, hd2, ?_⟩
      walk_at "rd"
      refine ⟨_, ?_, r + 1, rfl, ?_, by omega, (B2.trans But.upd).trans But.upd, rfl⟩
      · omega
      · rw [upd_same]
        rfl
    · have er : r = sz x := by omega
      subst er
      walk_at "rd"
      refine k _ ?_ B2
      rw [← hz]
      exact hp2
theorem sc_Seeker___init__ : FnScope ["self", "data"] ["self", "data"] (defScope s_Seeker___init__) := ⟨rfl, rfl, rfl, by decide +kernel, rfl, by decide +kernel, by decide +kernel⟩
def sp_skinit (K : PySem.W.Frag) (a : Ads) : Sp := fun vs H Q E => ∃ (p dx : Addr) (v : V) (n : String), vs = [.ref p, v] ∧ H p = some (.ins a.C_Seeker dx []) ∧ TyOf K H v (.type n) ∧
  ((Bad K H v n 12000 ∧ ∀ H', Same H H' → E (.ref a.C_NoBytes) none H') ∨ ∃ d : List Int, Good K H v (d.map V.int) 12000 ∧ ∀ pd ps ds H', H pd = none → H ps = none → SkAt a H' p dx pd ps ds d s0 → But p H H' → Q .non H')
theorem ok_Seeker___init__ (T : Txt K mg a) : FnOk P w K mg base (CXe P w) 5 a.f_Seeker___init__ a.d_Seeker___init__ ["self", "data"] (sp_skinit K a) := by
  refine T.F_Seeker___init__.okE sc_Seeker___init__ (fun vs H Q E h => ?_) (fun cdv A outer s H vs Q E hr h => ?_)
  · obtain ⟨p, dx, v, n, rfl, _⟩ := h
    rfl
  · obtain ⟨p, dx, v, n, rfl, hp, ty, h⟩ := h
    refine ⟨_, (pss_cons (ps_fld (pv 0) (pe_callE (ok_checked_bytes T) (hr.mono (by decide)) rfl T.m_checked_bytes T.F_checked_bytes.kp T.B_checked_bytes .nil catch_fn (pa_cons (pv 1) pa_nil (star_ok rfl))) rfl) (pss_cons (ps_fld (pv 0) (pe_make0 T.k_Span (ok_Span___init__ T) (hr.mono (by decide)) rfl T.m_Span T.B_Span___init__ .nil pass0) rfl) (pss_cons (ps_fld (pv 0) pe_int rfl) (pss_cons (ps_fld (pv 0) pe_int rfl) (pss_one (ps_expr (pe_meth0 (pv 0) T.cl_Seeker T.M_Seeker_follow (ok_Seeker_follow T) (hr.mono (by decide)) T.B_Seeker_follow .nil pass0))))))), ?_⟩
    try dsimp only [cxOf]
    refine i_start (σ' := [some _, some _]) rfl ?_
    walk_at "rd"
    refine ⟨v, n, rfl, ty, ?_⟩
    rcases h with ⟨hb, k⟩ | ⟨d, hg, k⟩
    · exact .inl ⟨hb, k⟩
    · refine .inr ⟨d.map V.int, hg, fun pd H1 hd0 hd1 S1 => ?_⟩
      have hp1 := S1 _ _ hp
      have npd : pd ≠ p := fun z => by rw [z, hp] at hd0; cases hd0
      walk_at "rd"
      have B2 : But p H (upd H1 p (.ins a.C_Seeker dx ([("data", V.ref pd)] : List (Str × V)))) := (But.of S1).trans But.upd
      have hp2 : upd H1 p (.ins a.C_Seeker dx ([("data", V.ref pd)] : List (Str × V))) p = some (.ins a.C_Seeker dx ([("data", V.ref pd)] : List (Str × V))) := upd_same
      have hd2 : upd H1 p (.ins a.C_Seeker dx ([("data", V.ref pd)] : List (Str × V))) pd = some (.lst (d.map V.int)) := upd_oth npd hd1
      generalize upd H1 p (.ins a.C_Seeker dx ([("data", V.ref pd)] : List (Str × V))) = H2 at B2 hp2 hd2 ⊢
      intro ps ds nps nds ne
      refine ⟨ps, ds, rfl, upd_same, fun H3 hs3 B3 => ⟨rfl, ?_⟩⟩
      have S3 : Same H2 H3 := fun b o e => B3 b o (by rw [upd_ne (ne_of_none e nps), upd_ne (ne_of_none e nds)]; exact e) (ne_of_none e nps)
      have hp3 := S3 _ _ hp2
      have hd3 := S3 _ _ hd2
      have nsp : p ≠ ps := ne_of_none hp2 nps
      have hs0 : H ps = none := by
        cases e : H ps with
        | none => rfl
        | some o => exact absurd (B2 _ _ e nsp.symm) (by rw [nps]; exact fun z => nomatch z)
      walk_at "rd"
      refine ⟨p, dx, pd, ps, ds, d, s0, 0, rfl, upd_same, ?_, ?_, nsp, okS0, Nat.zero_le _, fun H4 hp4 B4 => ?_⟩
      · exact upd_oth npd (upd_oth npd (upd_oth npd hd3))
      · exact upd_oth nsp.symm (upd_oth nsp.symm (upd_oth nsp.symm hs3))
      · walk_at "rd"
        have B34 : But p H3 H4 := ((But.upd.trans But.upd).trans But.upd).trans B4
        exact k pd ps ds H4 hd0 hs0 ⟨hp4, B34 _ _ hd3 npd, B34 _ _ hs3 nsp.symm, nsp⟩ ((B2.trans (But.of S3)).trans B34)
theorem sc_Seeker_bit : FnScope ["self", "chance", "bit"] ["self", "chance"] (defScope s_Seeker_bit) := ⟨rfl, rfl, rfl, by decide +kernel, rfl, by decide +kernel, by decide +kernel⟩
def sp_skbit (K : PySem.W.Frag) (a : Ads) : Sp := fun vs H Q E => ∃ (p dx pd ps ds : Addr) (d : List Int) (x : Sn) (v : V) (n : String), vs = [.ref p, v] ∧ SkAt a H p dx pd ps ds d x ∧ OkS x ∧ TyOf K H v (.type n) ∧ (chV v = false → E (.ref a.C_NoChance) none H) ∧
  ∀ c : Int, v = .int c → Ch c → ∀ H', SkAt a H' p dx pd ps ds d (nar x c (pick d x c)) → But2 p ps H H' → Q (.int (pick d x c)) H'
theorem sz_nar {x : Sn} {c b : Int} (h : Ok x) (hc : Ch c) : sz x ≤ sz (nar x c b) := by
  obtain ⟨r, e⟩ := renIs (if b = 1 then x.1 else x.1 + cut x.2.1 c) (if b = 1 then cut x.2.1 c else x.2.1 - cut x.2.1 c) x.2.2
  have e2 : nar x c b = ren (if b = 1 then x.1 else x.1 + cut x.2.1 c) (if b = 1 then cut x.2.1 c else x.2.1 - cut x.2.1 c) x.2.2 := by
    unfold nar
    split <;> rfl
  rw [e2, e]
  unfold sz
  dsimp only
  omega
theorem ok_Seeker_bit (T : Txt K mg a) : FnOk P w K mg base (CXe P w) 5 a.f_Seeker_bit a.d_Seeker_bit ["self", "chance"] (sp_skbit K a) := by
  refine T.F_Seeker_bit.okE sc_Seeker_bit (fun vs H Q E h => ?_) (fun cdv A outer s H vs Q E hr h => ?_)
  · obtain ⟨p, dx, pd, ps, ds, d, x, v, n, rfl, _⟩ := h
    rfl
  · obtain ⟨p, dx, pd, ps, ds, d, x, v, n, rfl, hk, hx, ty, k1, k⟩ := h
    refine ⟨_, (pss_cons (ps_expr (pe_callE (ok_check_chance T) (hr.mono (by decide)) rfl T.m_check_chance T.F_check_chance.kp T.B_check_chance .nil catch_fn (pa_cons (pv 1) pa_nil (star_ok rfl)))) (pss_cons (ps_mid (ps_set (i := 2) sc_Seeker_bit.nd rfl (Or.inl rfl) (pe_ifExp (pt_cmpR op_lt (pe_fld (pv 0) rfl) (pe_op op_add (pe_fld (pe_fld (pv 0) rfl) rfl) (pe_meth (pe_fld (pv 0) rfl) T.cl_Span T.M_Span_cut (ok_Span_cut T) (hr.mono (by decide)) T.B_Span_cut .nil pass0 (pa_cons (pv 1) pa_nil (star_ok rfl)))) (nomark _)) pe_int pe_int))) (pss_cons (ps_expr (pe_methE (pe_fld (pv 0) rfl) T.cl_Span T.M_Span_narrow (ok_Span_narrow T) (hr.mono (by decide)) T.B_Span_narrow .nil catch_fn (pa_cons (pv 1) (pa_cons (pv 2) pa_nil (star_ok rfl)) (star_ok rfl)))) (pss_cons (ps_expr (pe_meth0 (pv 0) T.cl_Seeker T.M_Seeker_follow (ok_Seeker_follow T) (hr.mono (by decide)) T.B_Seeker_follow .nil pass0)) (pss_one (ps_ret (pv 2))))))), ?_⟩
    try dsimp only [cxOf]
    refine i_start (σ' := [some _, some _, none]) rfl ?_
    walk_at "rd"
    refine ⟨v, n, rfl, ty, fun hv => ?_, k1⟩
    obtain ⟨c, rfl, c1, c2⟩ := chV_int hv
    have hc : Ch c := ⟨c1, c2⟩
    have k := k c rfl hc
    have hme := hk.me
    have hsp := hk.sp
    walk_at "rd"
    refine i_mid (fun σ' H' => σ' = [some (.ref p), some (.int c), some (.int (pick d x c))] ∧ H = H') ?_ ?_
    · walk_at "rd"
      refine ⟨ps, ds, _, rfl, hsp, lkN _ (by decide +kernel) (by decide +kernel) (by decide +kernel), ?_⟩
      walk_at "rd"
      refine ⟨ps, ds, x, c, rfl, hsp, hc, ?_⟩
      walk_at "rd"
      unfold pick
      refine iteD (fun hb => ?_) (fun hb => ?_)
      · rw [if_pos hb]
        walk_at "rd"
        exact ⟨rfl, rfl⟩
      · rw [if_neg hb]
        walk_at "rd"
        exact ⟨rfl, rfl⟩
    · rintro σ' H' ⟨rfl, rfl⟩
      have hb2 := pick_bit d x c
      generalize hb : pick d x c = b at hb2 k ⊢
      walk_at "rd"
      refine ⟨ps, ds, _, rfl, hsp, lkN _ (by decide +kernel) (by decide +kernel) (by decide +kernel), ?_⟩
      walk_at "rd"
      refine ⟨ps, ds, x, .int c, .int b, _, _, rfl, hsp, hx.ok, .int c, .int b, (fun z => by rw [chV_of hc] at z; cases z), (fun _ z => by rw [bitV_of (by omega) (by omega)] at z; cases z), fun c' b' ec eb _ _ _ H1 hs1 B1 => ?_⟩
      obtain rfl : c = c' := V.int.inj ec
      obtain rfl : b = b' := V.int.inj eb
      have hme1 := B1 _ _ hme hk.ne
      have hdt1 := B1.lst hsp hk.dt
      walk_at "rd"
      have hme1' : H1 p = some (.ins a.C_Seeker dx (F_Seeker (.ref pd) (.ref ps) (.int (rn d (sz x))) (.int ((sz x : Nat) : Int)))) := by rw [hx.sz]; exact hme1
      refine ⟨p, dx, pd, ps, ds, d, nar x c b, sz x, rfl, hme1', hdt1, hs1, hk.ne, nar_okS hx hc, sz_nar hx.ok hc, fun H2 hp2 B2 => ?_⟩
      walk_at "rd"
      exact k H2 ⟨hp2, B2.lst hme1 hdt1, B2 _ _ hs1 hk.ne.symm, hk.ne⟩ (B1.two'.trans B2.two)
theorem sc_Seeker_ends : FnScope ["self"] ["self"] (defScope s_Seeker_ends) := ⟨rfl, rfl, rfl, by decide +kernel, rfl, by decide +kernel, by decide +kernel⟩
def sp_skends (a : Ads) : Sp := fun vs H Q _ => ∃ (p dx pd ps ds : Addr) (d : List Int) (x : Sn), vs = [.ref p] ∧ SkAt a H p dx pd ps ds d x ∧ ∀ t H', H t = none → H' t = some (.tup (i3 x)) → Same H H' → Q (.ref t) H'
theorem ok_Seeker_ends (T : Txt K mg a) : FnOk P w K mg base CX0 2 a.f_Seeker_ends a.d_Seeker_ends ["self"] (sp_skends a) := by
  refine T.F_Seeker_ends.ok sc_Seeker_ends (fun vs H Q E h => ?_) (fun cdv A outer s H vs Q E hr h => ?_)
  · obtain ⟨p, dx, pd, ps, ds, d, x, rfl, _⟩ := h
    rfl
  · obtain ⟨p, dx, pd, ps, ds, d, x, rfl, hk, k⟩ := h
    have hme := hk.me
    have hsp := hk.sp
    refine ⟨_, (pss_one (ps_ret (pe_meth0 (pe_fld (pv 0) rfl) T.cl_Span T.M_Span_ends (ok_Span_ends T) (hr.mono (by decide)) T.B_Span_ends .nil pass0))), ?_⟩
    try dsimp only [cxOf]
    refine i_start (σ' := [some _]) rfl ?_
    walk_at "rd"
    refine ⟨ps, ds, _, rfl, hsp, lkN _ (by decide +kernel) (by decide +kernel) (by decide +kernel), ?_⟩
    walk_at "rd"
    exact ⟨ps, ds, x, rfl, hsp, k⟩
theorem sc__law_cell_at : FnScope ["_law_script", "_law_k"] ["_law_script", "_law_k"] (defScope s__law_cell_at) := ⟨rfl, rfl, rfl, by decide +kernel, rfl, by decide +kernel, by decide +kernel⟩
def sp_cell_at (K : PySem.W.Frag) : Sp := fun vs H Q _ => ∃ (l : Addr) (ns : List Int) (j : Nat), vs = [.ref l, .int j] ∧ SqL K H l (ns.map V.int) ∧ ∀ n : Int, Q (.int n) H
theorem ok__law_cell_at (T : Txt K mg a) : FnOk P w K mg base CX0 1 a.f__law_cell_at a.d__law_cell_at ["_law_script", "_law_k"] (sp_cell_at K) := by
  refine T.F__law_cell_at.ok sc__law_cell_at (fun vs H Q E h => ?_) (fun cdv A outer s H vs Q E hr h => ?_)
  · obtain ⟨l, ns, j, rfl, _⟩ := h
    rfl
  · obtain ⟨l, ns, j, rfl, hl, k⟩ := h
    refine ⟨_, (pss_cons (ps_if (pt_cmpR op_lt (pv 1) (pe_callB call_len_seq rfl T.z_len (by decide +kernel) (pa_cons (pv 0) pa_nil (star_ok rfl))) (nomark _)) (pss_one (ps_ret (pe_ix ix_list (pv 0) (pv 1) (fun _ _ => rfl)))) pss_nil) (pss_one (ps_ret pe_int))), ?_⟩
    try dsimp only [cxOf]
    refine i_start (σ' := [some _, some _]) rfl ?_
    walk_at "rd"
    refine i_len hl ?_
    rw [List.length_map]
    walk_at "rd"
    refine iteD (fun hb => ?_) (fun hb => ?_)
    · have hj : j < ns.length := by omega
      walk_at "rd"
      refine i_ixL (v := V.int ns[j]) hl (atI_nat (by rw [List.getElem?_map, List.getElem?_eq_getElem hj]; rfl)) ?_
      exact k _
    · walk_at "rd"
      exact k _
theorem sc__law_step : FnScope ["_law_cell", "_law_part", "_law_way"] ["_law_cell"] (defScope s__law_step) := ⟨rfl, rfl, rfl, by decide +kernel, rfl, by decide +kernel, by decide +kernel⟩
def sp_step : Sp := fun vs H Q _ => ∃ n : Int, vs = [.int n] ∧ ∀ t H', Ch (stC n) → H t = none → H' t = some (.tup [.int (stC n), .int (stB n)]) → Same H H' → Q (.ref t) H'
theorem ok__law_step (T : Txt K mg a) : FnOk P w K mg base CX0 1 a.f__law_step a.d__law_step ["_law_cell"] sp_step := by
  refine T.F__law_step.ok sc__law_step (fun vs H Q E h => ?_) (fun cdv A outer s H vs Q E hr h => ?_)
  · obtain ⟨n, rfl, _⟩ := h
    rfl
  · obtain ⟨n, rfl, k⟩ := h
    refine ⟨_, (pss_cons (ps_set (i := 0) sc__law_step.nd rfl (Or.inl rfl) (pe_op op_mod (pv 0) (pe_op (op_powC 1000000000000000) pe_int pe_int))) (pss_cons (ps_set (i := 1) sc__law_step.nd rfl (Or.inl rfl) (pe_op op_mod (pe_op op_mul (pe_op op_add (pe_op op_add (pe_op op_mul (pv 0) (pv 0)) (pe_op op_mul pe_int (pv 0))) pe_int) pe_int) pe_int)) (pss_cons (ps_set (i := 2) sc__law_step.nd rfl (Or.inl rfl) (pe_op op_mod (pe_op op_fdivB (pv 0) pe_int) pe_int)) (pss_cons (ps_if (pt_cmpR op_lt (pv 2) pe_int (nomark _)) (pss_one (ps_ret (pe_tup (pa_cons (pe_ix ix_list (pe_lst (pa_cons pe_int (pa_cons pe_int (pa_cons pe_int pa_nil (star_ok rfl)) (star_ok rfl)) (star_ok rfl))) (pv 2) (fun _ _ => rfl)) (pa_cons (pe_op op_mod (pv 0) pe_int) pa_nil (star_ok rfl)) (star_ok rfl))))) pss_nil) (pss_one (ps_ret (pe_tup (pa_cons (pe_op op_add pe_int (pe_op op_mod (pv 1) pe_int)) (pa_cons (pe_op op_mod (pv 0) pe_int) pa_nil (star_ok rfl)) (star_ok rfl))))))))), ?_⟩
    try dsimp only [cxOf]
    refine i_start (σ' := [some _, none, none]) rfl ?_
    unfold stC stB at k
    walk_at "rd"
    have m1 : 0 ≤ n % 1000000000000000 := Int.emod_nonneg _ (by decide)
    have m2 : n % 1000000000000000 < 1000000000000000 := Int.emod_lt_of_pos _ (by decide)
    generalize n % 1000000000000000 = c at m1 m2 k ⊢
    generalize (c * c + 5 * c + 11) * 48271 % 2147483647 = u at k ⊢
    have hw : 0 ≤ c / 2 % 7 := Int.emod_nonneg _ (by decide)
    refine iteD (fun hb => ?_) (fun hb => ?_)
    · rw [if_pos hb] at k
      obtain ⟨hat, hch⟩ := stC_at hw hb
      walk_at "rd"
      refine ⟨by walk_at "len", fun l hl => ?_⟩
      walk_at "rd"
      refine ⟨l, _, _, _, rfl, rfl, SqL.of upd_same, hat, ?_⟩
      walk_at "rd"
      refine ⟨by walk_at "len", fun t ht => ?_⟩
      have ht0 : H t = none := (same_upd (o := HO.lst [V.int 32768, V.int 16744448, V.int 8388608]) hl).free ht
      exact k t _ hch ht0 upd_same ((same_upd hl).trans (same_upd ht))
    · rw [if_neg hb] at k
      walk_at "rd"
      refine ⟨by walk_at "len", fun t ht => ?_⟩
      exact k t _ ⟨by omega, by omega⟩ ht upd_same (same_upd ht)
theorem sc__law_kinds : FnScope ["_law_way", "_law_thing", "_law_chance", "_law_bit", "_law_kinds_here", "e"] ["_law_way", "_law_thing", "_law_chance", "_law_bit"] (defScope s__law_kinds) := ⟨rfl, rfl, rfl, by decide +kernel, rfl, by decide +kernel, by decide +kernel⟩
def sp_lkinds (K : PySem.W.Frag) (a : Ads) : Sp := fun vs H Q _ => ∃ (w' : Int) (v c b : V) (j : Fin 3), vs = [.int w', v, c, b] ∧ (
  (w' = 0 ∧ ∃ p dx x n m, v = .ref p ∧ H p = some (.ins a.C_Span dx (flds x)) ∧ Ok x ∧ TyOf K H c (.type n) ∧ TyOf K H b (.type m) ∧ ((chV c = false ∧ j = 0) ∨ (chV c = true ∧ bitV b = false ∧ j = 1))) ∨
  (w' = 1 ∧ ∃ p dx pd ps ds d x n, v = .ref p ∧ SkAt a H p dx pd ps ds d x ∧ OkS x ∧ TyOf K H c (.type n) ∧ chV c = false ∧ j = 0) ∨
  (w' = 2 ∧ ∃ n, TyOf K H v (.type n) ∧ Bad K H v n 12000 ∧ j = 2)) ∧ ∀ r H', H' r = some (.lst ((kL j).map V.bl)) → Same H H' → Q (.ref r) H'
theorem ok__law_kinds (T : Txt K mg a) : FnOk P w K mg base CX0 7 a.f__law_kinds a.d__law_kinds ["_law_way", "_law_thing", "_law_chance", "_law_bit"] (sp_lkinds K a) := by
  refine T.F__law_kinds.ok sc__law_kinds (fun vs H Q E h => ?_) (fun cdv A outer s H vs Q E hr h => ?_)
  · obtain ⟨w', v, c, b, j, rfl, _⟩ := h
    rfl
  · obtain ⟨w', v, c, b, j, rfl, hc, k⟩ := h
    refine ⟨_, (pss_cons (ps_set (i := 4) sc__law_kinds.nd rfl (Or.inl rfl) (pe_lst pa_nil)) (pss_cons (ps_try (i := 5) (fun pn Ex => (pss_one (ps_if (pt_cmpR op_eq (pv 0) pe_int (nomark _)) (pss_one (ps_expr (pe_methE (pv 1) T.cl_Span T.M_Span_narrow (ok_Span_narrow T) (hr.mono (by decide)) T.B_Span_narrow .nil catch_tr (pa_cons (pv 2) (pa_cons (pv 3) pa_nil (star_ok rfl)) (star_ok rfl))))) (pss_one (ps_if (pt_cmpR op_eq (pv 0) pe_int (nomark _)) (pss_one (ps_expr (pe_methE (pv 1) T.cl_Seeker T.M_Seeker_bit (ok_Seeker_bit T) (hr.mono (by decide)) T.B_Seeker_bit .nil catch_tr (pa_cons (pv 2) pa_nil (star_ok rfl))))) (pss_one (ps_expr (pe_makeE T.k_Seeker (ok_Seeker___init__ T) (hr.mono (by decide)) rfl T.m_Seeker T.B_Seeker___init__ .nil catch_tr (pa_cons (pv 1) pa_nil (star_ok rfl)))))))))) ⟨rfl, rfl⟩ rfl T.m_ForetellError (fun pn x => (pss_one (ps_set (i := 4) sc__law_kinds.nd rfl (Or.inl rfl) (pe_lst (pa_cons (pe_callB (id := "isinstance") (r := rIsX K) call_isX rfl T.z_isinstance (by decide +kernel) (pa_cons (pv 5) (pa_cons (pe_gref rfl T.m_NoChance) pa_nil (star_ok rfl)) (star_ok rfl))) (pa_cons (pe_callB (id := "isinstance") (r := rIsX K) call_isX rfl T.z_isinstance (by decide +kernel) (pa_cons (pv 5) (pa_cons (pe_gref rfl T.m_NoBit) pa_nil (star_ok rfl)) (star_ok rfl))) (pa_cons (pe_callB (id := "isinstance") (r := rIsX K) call_isX rfl T.z_isinstance (by decide +kernel) (pa_cons (pv 5) (pa_cons (pe_gref rfl T.m_NoBytes) pa_nil (star_ok rfl)) (star_ok rfl))) (pa_cons (pe_callB (id := "isinstance") (r := rIsX K) call_isX rfl T.z_isinstance (by decide +kernel) (pa_cons (pv 5) (pa_cons (pe_bty (T := "ValueError") rfl T.z_ValueError (by decide +kernel)) pa_nil (star_ok rfl)) (star_ok rfl))) (pa_cons (pe_callB (id := "isinstance") (r := rIsXT K) call_isXT rfl T.z_isinstance (by decide +kernel) (pa_cons (pv 5) (pa_cons (pe_tup (pa_cons (pe_gref rfl T.m_NoMost) (pa_cons (pe_gref rfl T.m_NoPress) (pa_cons (pe_gref rfl T.m_NoText) pa_nil (star_ok rfl)) (star_ok rfl)) (star_ok rfl))) pa_nil (star_ok rfl)) (star_ok rfl))) pa_nil (star_ok rfl)) (star_ok rfl)) (star_ok rfl)) (star_ok rfl)) (star_ok rfl)))))) sc__law_kinds.nd rfl rfl) (pss_one (ps_ret (pv 4))))), ?_⟩
    try dsimp only [cxOf]
    refine i_start (σ' := [some _, some _, some _, some _, none, none]) rfl ?_
    walk_at "rd"
    refine ⟨by walk_at "len", fun l hl => ?_⟩
    with_reducible first | refine new_obj2 hl fun H1 S1 hl1 => ?_ | refine new_obj hl fun H1 S1 hl1 => ?_
    walk_at "rd"
    rcases hc with ⟨rfl, p, dx, x, n, m, rfl, hp, hx, tc, tb, hcb⟩ | ⟨rfl, p, dx, pd, ps, ds, d, x, n, rfl, hk, hx, tc, hcv, rfl⟩ | ⟨rfl, n, ty, hbad, rfl⟩
    · refine iteDp rfl ?_
      walk_at "rd"
      refine ⟨p, dx, _, rfl, S1 _ _ hp, lkN _ (by decide +kernel) (by decide +kernel) (by decide +kernel), ?_⟩
      walk_at "rd"
      refine ⟨p, dx, x, c, b, n, m, rfl, S1 _ _ hp, hx, tysame S1 tc, tysame S1 tb, fun hcv => ?_, fun hcv hbv => ?_, fun c' b' ec eb hc' b0 b1 => ?_⟩
      · have hj : j = 0 := by
          rcases hcb with ⟨_, e⟩ | ⟨e, _⟩
          · exact e
          · rw [hcv] at e; cases e
        subst hj
        refine i_exT T.em_NoChance_ForetellError fun e he => ?_
        dsimp only [List.set]
        with_reducible first | refine new_obj2 he fun H2 S2 e2 => ?_ | refine new_obj he fun H2 S2 e2 => ?_
        walk_at "rd"
        refine i_isXr e2 T.x_NoChance T.ki_NoChance_NoChance ?_
        walk_at "rd"
        refine i_isXr e2 T.x_NoChance T.ki_NoChance_NoBit ?_
        walk_at "rd"
        refine i_isXr e2 T.x_NoChance T.ki_NoChance_NoBytes ?_
        walk_at "rd"
        refine i_isXt e2 T.x_NoChance T.ki_NoChance_ValueError ?_
        walk_at "rd"
        refine ⟨by walk_at "len", fun tp ht => ?_⟩
        walk_at "rd"
        refine i_isXT (Cs := [a.C_NoMost, a.C_NoPress, a.C_NoText]) upd_same (upd_new ht e2) T.x_NoChance T.ka_NoChance_0 ?_
        walk_at "rd"
        refine ⟨by walk_at "len", fun r h => ?_⟩
        walk_at "rd"
        exact k r _ upd_same (S1.trans (S2.trans ((same_upd ht).trans (same_upd h))))
      · have hj : j = 1 := by
          rcases hcb with ⟨e, _⟩ | ⟨_, _, e⟩
          · rw [hcv] at e; cases e
          · exact e
        subst hj
        refine i_exT T.em_NoBit_ForetellError fun e he => ?_
        dsimp only [List.set]
        with_reducible first | refine new_obj2 he fun H2 S2 e2 => ?_ | refine new_obj he fun H2 S2 e2 => ?_
        walk_at "rd"
        refine i_isXr e2 T.x_NoBit T.ki_NoBit_NoChance ?_
        walk_at "rd"
        refine i_isXr e2 T.x_NoBit T.ki_NoBit_NoBit ?_
        walk_at "rd"
        refine i_isXr e2 T.x_NoBit T.ki_NoBit_NoBytes ?_
        walk_at "rd"
        refine i_isXt e2 T.x_NoBit T.ki_NoBit_ValueError ?_
        walk_at "rd"
        refine ⟨by walk_at "len", fun tp ht => ?_⟩
        walk_at "rd"
        refine i_isXT (Cs := [a.C_NoMost, a.C_NoPress, a.C_NoText]) upd_same (upd_new ht e2) T.x_NoBit T.ka_NoBit_0 ?_
        walk_at "rd"
        refine ⟨by walk_at "len", fun r h => ?_⟩
        walk_at "rd"
        exact k r _ upd_same (S1.trans (S2.trans ((same_upd ht).trans (same_upd h))))
      · exfalso
        rw [ec, eb] at hcb
        rcases hcb with ⟨e, _⟩ | ⟨_, e, _⟩
        · rw [chV_of hc'] at e; cases e
        · rw [bitV_of b0 b1] at e; cases e
    · refine iteDn (by decide) ?_
      walk_at "rd"
      refine iteDp rfl ?_
      have hk1 := hk.same S1
      have hme1 := hk1.me
      walk_at "rd"
      refine ⟨p, dx, pd, ps, ds, d, x, c, n, rfl, hk1, hx, tysame S1 tc, fun _ => ?_, fun c' ec hc' => ?_⟩
      · refine i_exT T.em_NoChance_ForetellError fun e he => ?_
        dsimp only [List.set]
        with_reducible first | refine new_obj2 he fun H2 S2 e2 => ?_ | refine new_obj he fun H2 S2 e2 => ?_
        walk_at "rd"
        refine i_isXr e2 T.x_NoChance T.ki_NoChance_NoChance ?_
        walk_at "rd"
        refine i_isXr e2 T.x_NoChance T.ki_NoChance_NoBit ?_
        walk_at "rd"
        refine i_isXr e2 T.x_NoChance T.ki_NoChance_NoBytes ?_
        walk_at "rd"
        refine i_isXt e2 T.x_NoChance T.ki_NoChance_ValueError ?_
        walk_at "rd"
        refine ⟨by walk_at "len", fun tp ht => ?_⟩
        walk_at "rd"
        refine i_isXT (Cs := [a.C_NoMost, a.C_NoPress, a.C_NoText]) upd_same (upd_new ht e2) T.x_NoChance T.ka_NoChance_0 ?_
        walk_at "rd"
        refine ⟨by walk_at "len", fun r h => ?_⟩
        walk_at "rd"
        exact k r _ upd_same (S1.trans (S2.trans ((same_upd ht).trans (same_upd h))))
      · exfalso
        rw [ec, chV_of hc'] at hcv
        cases hcv
    · refine iteDn (by decide) ?_
      walk_at "rd"
      refine iteDn (by decide) ?_
      walk_at "rd"
      intro p dx np ndx ne
      have Sm := same2 (H := H1) (o := .own p) (o' := .ins a.C_Seeker dx []) np ndx
      refine ⟨p, dx, v, n, rfl, upd_same, tysame (S1.trans Sm) ty, .inl ⟨hbad.same (S1.trans Sm), fun H9 S9 => ?_⟩⟩
      have S1 := S1.trans (Sm.trans S9)
      clear Sm S9
      generalize H9 = H1 at S1 ⊢
      refine i_exT T.em_NoBytes_ForetellError fun e he => ?_
      dsimp only [List.set]
      with_reducible first | refine new_obj2 he fun H2 S2 e2 => ?_ | refine new_obj he fun H2 S2 e2 => ?_
      walk_at "rd"
      refine i_isXr e2 T.x_NoBytes T.ki_NoBytes_NoChance ?_
      walk_at "rd"
      refine i_isXr e2 T.x_NoBytes T.ki_NoBytes_NoBit ?_
      walk_at "rd"
      refine i_isXr e2 T.x_NoBytes T.ki_NoBytes_NoBytes ?_
      walk_at "rd"
      refine i_isXt e2 T.x_NoBytes T.ki_NoBytes_ValueError ?_
      walk_at "rd"
      refine ⟨by walk_at "len", fun tp ht => ?_⟩
      walk_at "rd"
      refine i_isXT (Cs := [a.C_NoMost, a.C_NoPress, a.C_NoText]) upd_same (upd_new ht e2) T.x_NoBytes T.ka_NoBytes_0 ?_
      walk_at "rd"
      refine ⟨by walk_at "len", fun r h => ?_⟩
      walk_at "rd"
      exact k r _ upd_same (S1.trans (S2.trans ((same_upd ht).trans (same_upd h))))
theorem sc_law : FnScope ["_law_script", "_law_span", "_law_seeker", "_law_cell", "_law_chance", "_law_bit", "_law_some", "_law_odd", "_law_other", "_law_data", "_law_held", "_law_k"] ["_law_script"] (defScope s_law) := ⟨rfl, rfl, rfl, by decide +kernel, rfl, by decide +kernel, by decide +kernel⟩
def sp_law (K : PySem.W.Frag) : Sp := fun vs H Q _ => ∃ (l : Addr) (ns : List Int), vs = [.ref l] ∧ SqL K H l (ns.map V.int) ∧ ns.length ≤ 63 ∧ ∀ H', Q (.bl true) H'
theorem ok_law (T : Txt K mg a) : FnOk P w K mg base CX0 8 a.f_law a.d_law ["_law_script"] (sp_law K) := by
  refine T.F_law.ok sc_law (fun vs H Q E h => ?_) (fun cdv A outer s H vs Q E hr h => ?_)
  · obtain ⟨l, ns, rfl, _⟩ := h
    rfl
  · obtain ⟨l, ns, rfl, hS, hlen, k⟩ := h
    refine blk_cons (ps_set (i := 1) sc_law.nd rfl (Or.inl rfl) (pe_make0 T.k_Span (ok_Span___init__ T) (hr.mono (by decide)) rfl T.m_Span T.B_Span___init__ .nil pass0)) ?_
    refine blk_cons (ps_set (i := 2) sc_law.nd rfl (Or.inl rfl) (pe_makeE T.k_Seeker (ok_Seeker___init__ T) (hr.mono (by decide)) rfl T.m_Seeker T.B_Seeker___init__ .nil catch_no (pa_cons (pe_comp rfl (pi_list (pe_slice sl_list (pv 0) (po_some pe_int) (po_some pe_int))) (fun C s2 H2 fp => (pe_op op_mod (pv 0) pe_int))) pa_nil (star_ok rfl)))) ?_
    refine blk_cons (ps_for PassesOwn.never rfl (pi_list (pe_slice sl_list (pv 0) (po_some pe_int) (po_some pe_int))) (pg_name (i := 3) sc_law.nd rfl (Or.inl rfl)) (pss_cons (ps_asg (pe_call (ok__law_step T) (hr.mono (by decide)) rfl T.m__law_step T.F__law_step.kp T.B__law_step .nil pass0 (pa_cons (pv 3) pa_nil (star_ok rfl))) (pg_tup rfl (pgs_cons (pg_name (i := 4) sc_law.nd rfl (Or.inl rfl)) (pgs_cons (pg_name (i := 5) sc_law.nd rfl (Or.inl rfl)) pgs_nil)))) (pss_cons (ps_expr (pe_methE (pv 1) T.cl_Span T.M_Span_narrow (ok_Span_narrow T) (hr.mono (by decide)) T.B_Span_narrow .nil catch_no (pa_cons (pv 4) (pa_cons (pv 5) pa_nil (star_ok rfl)) (star_ok rfl)))) (pss_one (ps_expr (pe_methE (pv 2) T.cl_Seeker T.M_Seeker_bit (ok_Seeker_bit T) (hr.mono (by decide)) T.B_Seeker_bit .nil catch_no (pa_cons (pv 4) pa_nil (star_ok rfl)))))))) ?_
    refine blk_consQ (qs_set (i := 6) sc_law.nd rfl (Or.inl rfl) (qe_lst (qa_cons (qe_of pe_int) (qa_cons (qe_of pe_int) (qa_cons (qe_of pe_int) (qa_cons (qe_of pe_int) (qa_cons (qe_of (pe_un un_neg pe_int)) (qa_cons (qe_of (pe_un un_neg pe_int)) (qa_cons (qe_of pe_int) (qa_cons (qe_of (pe_op (op_powC 1000000000000000000000000000000000000000000000000000000000000) pe_int pe_int)) (qa_cons (qe_of pe_bl) (qa_cons (qe_of pe_non) (qa_cons (qe_of pe_str) (qa_cons (qe_of (pe_lst (pa_cons pe_int pa_nil (star_ok rfl)))) (qa_cons (qe_of (pe_tup (pa_cons pe_int pa_nil (star_ok rfl)))) (qa_cons (qe_of pe_dnewK) qa_nil rfl) rfl) rfl) rfl) rfl) rfl) rfl) rfl) rfl) rfl) rfl) rfl) rfl) rfl)) (Or.inl rfl) rfl) ?_
    refine blk_cons (ps_set (i := 7) sc_law.nd rfl (Or.inl rfl) (pe_ix ix_list (pv 6) (pe_op op_mod (pe_call (ok__law_cell_at T) (hr.mono (by decide)) rfl T.m__law_cell_at T.F__law_cell_at.kp T.B__law_cell_at .nil pass0 (pa_cons (pv 0) (pa_cons pe_int pa_nil (star_ok rfl)) (star_ok rfl))) pe_int) (fun _ _ => rfl))) ?_
    refine blk_consQ (qs_setIx (i := 8) sc_law.nd rfl (Or.inl rfl) ix_list (qe_lst (qa_cons (qe_of pe_int) (qa_cons (qe_of (pe_un un_neg pe_int)) (qa_cons (qe_of pe_bl) (qa_cons (qe_of pe_bl) (qa_cons (qe_of pe_non) (qa_cons (qe_of pe_str) (qa_cons (qe_of (pe_lst (pa_cons pe_int pa_nil (star_ok rfl)))) (qa_cons (qe_of (pe_tup (pa_cons pe_int pa_nil (star_ok rfl)))) (qa_cons (qe_of (pe_op (op_powC 1000000000000000000000000000000000000000000000000000000000000) pe_int pe_int)) (qa_cons (qe_of pe_dnewK) qa_nil rfl) rfl) rfl) rfl) rfl) rfl) rfl) rfl) rfl) rfl)) (pe_op op_mod (pe_call (ok__law_cell_at T) (hr.mono (by decide)) rfl T.m__law_cell_at T.F__law_cell_at.kp T.B__law_cell_at .nil pass0 (pa_cons (pv 0) (pa_cons pe_int pa_nil (star_ok rfl)) (star_ok rfl))) pe_int) (fun _ _ => rfl) (Or.inl rfl) rfl) ?_
    refine blk_consQ (qs_setIx (i := 9) sc_law.nd rfl (Or.inl rfl) ix_list (qe_lst (qa_cons (qe_of pe_non) (qa_cons (qe_of pe_int) (qa_cons (qe_of pe_str) (qa_cons (qe_of (pe_tup (pa_cons pe_int (pa_cons pe_int pa_nil (star_ok rfl)) (star_ok rfl)))) (qa_cons (qe_of (pe_lst (pa_cons pe_int pa_nil (star_ok rfl)))) (qa_cons (qe_of (pe_lst (pa_cons pe_int (pa_cons (pe_un un_neg pe_int) pa_nil (star_ok rfl)) (star_ok rfl)))) (qa_cons (qe_of (pe_lst (pa_cons pe_bl pa_nil (star_ok rfl)))) (qa_cons (qe_of (pe_op op_rep (pe_lst (pa_cons pe_int pa_nil (star_ok rfl))) pe_int)) (qa_cons (qe_of (pe_lst (pa_cons (pe_lst (pa_cons pe_int pa_nil (star_ok rfl))) pa_nil (star_ok rfl)))) qa_nil rfl) rfl) rfl) rfl) rfl) rfl) rfl) rfl) rfl)) (pe_op op_mod (pe_call (ok__law_cell_at T) (hr.mono (by decide)) rfl T.m__law_cell_at T.F__law_cell_at.kp T.B__law_cell_at .nil pass0 (pa_cons (pv 0) (pa_cons pe_int pa_nil (star_ok rfl)) (star_ok rfl))) pe_int) (fun _ _ => rfl) (Or.inl rfl) rfl) ?_
    refine blk_cons (ps_asg (pe_call (ok__law_step T) (hr.mono (by decide)) rfl T.m__law_step T.F__law_step.kp T.B__law_step .nil pass0 (pa_cons (pe_call (ok__law_cell_at T) (hr.mono (by decide)) rfl T.m__law_cell_at T.F__law_cell_at.kp T.B__law_cell_at .nil pass0 (pa_cons (pv 0) (pa_cons pe_int pa_nil (star_ok rfl)) (star_ok rfl))) pa_nil (star_ok rfl))) (pg_tup rfl (pgs_cons (pg_name (i := 4) sc_law.nd rfl (Or.inl rfl)) (pgs_cons (pg_name (i := 5) sc_law.nd rfl (Or.inl rfl)) pgs_nil)))) ?_
    refine blk_cons (ps_set (i := 10) sc_law.nd rfl (Or.inl rfl) (pe_lst (pa_cons (pe_meth0 (pv 1) T.cl_Span T.M_Span_ends (ok_Span_ends T) (hr.mono (by decide)) T.B_Span_ends .nil pass0) (pa_cons (pe_meth0 (pv 1) T.cl_Span T.M_Span_told (ok_Span_told T) (hr.mono (by decide)) T.B_Span_told .nil pass0) (pa_cons (pe_meth0 (pv 1) T.cl_Span T.M_Span_settled (ok_Span_settled T) (hr.mono (by decide)) T.B_Span_settled .nil pass0) (pa_cons (pe_meth0 (pv 2) T.cl_Seeker T.M_Seeker_ends (ok_Seeker_ends T) (hr.mono (by decide)) T.B_Seeker_ends .nil pass0) pa_nil (star_ok rfl)) (star_ok rfl)) (star_ok rfl)) (star_ok rfl)))) ?_
    refine blk_cons (ps_if (pt_cmpR (op_neD hr.units) (pe_call (ok__law_kinds T) (hr.mono (by decide)) rfl T.m__law_kinds T.F__law_kinds.kp T.B__law_kinds .nil pass0 (pa_cons pe_int (pa_cons (pv 1) (pa_cons (pv 7) (pa_cons (pv 5) pa_nil (star_ok rfl)) (star_ok rfl)) (star_ok rfl)) (star_ok rfl))) (pe_lst (pa_cons pe_bl (pa_cons pe_bl (pa_cons pe_bl (pa_cons pe_bl (pa_cons pe_bl pa_nil (star_ok rfl)) (star_ok rfl)) (star_ok rfl)) (star_ok rfl)) (star_ok rfl))) (nomark _)) (pss_one (ps_ret pe_bl)) pss_nil) ?_
    refine blk_cons (ps_if (pt_cmpR (op_neD hr.units) (pe_call (ok__law_kinds T) (hr.mono (by decide)) rfl T.m__law_kinds T.F__law_kinds.kp T.B__law_kinds .nil pass0 (pa_cons pe_int (pa_cons (pv 1) (pa_cons (pv 7) (pa_cons (pv 8) pa_nil (star_ok rfl)) (star_ok rfl)) (star_ok rfl)) (star_ok rfl))) (pe_lst (pa_cons pe_bl (pa_cons pe_bl (pa_cons pe_bl (pa_cons pe_bl (pa_cons pe_bl pa_nil (star_ok rfl)) (star_ok rfl)) (star_ok rfl)) (star_ok rfl)) (star_ok rfl))) (nomark _)) (pss_one (ps_ret pe_bl)) pss_nil) ?_
    refine blk_cons (ps_if (pt_cmpR (op_neD hr.units) (pe_call (ok__law_kinds T) (hr.mono (by decide)) rfl T.m__law_kinds T.F__law_kinds.kp T.B__law_kinds .nil pass0 (pa_cons pe_int (pa_cons (pv 1) (pa_cons (pv 4) (pa_cons (pv 8) pa_nil (star_ok rfl)) (star_ok rfl)) (star_ok rfl)) (star_ok rfl))) (pe_lst (pa_cons pe_bl (pa_cons pe_bl (pa_cons pe_bl (pa_cons pe_bl (pa_cons pe_bl pa_nil (star_ok rfl)) (star_ok rfl)) (star_ok rfl)) (star_ok rfl)) (star_ok rfl))) (nomark _)) (pss_one (ps_ret pe_bl)) pss_nil) ?_
    refine blk_cons (ps_if (pt_cmpR (op_neD hr.units) (pe_call (ok__law_kinds T) (hr.mono (by decide)) rfl T.m__law_kinds T.F__law_kinds.kp T.B__law_kinds .nil pass0 (pa_cons pe_int (pa_cons (pv 2) (pa_cons (pv 7) (pa_cons (pv 5) pa_nil (star_ok rfl)) (star_ok rfl)) (star_ok rfl)) (star_ok rfl))) (pe_lst (pa_cons pe_bl (pa_cons pe_bl (pa_cons pe_bl (pa_cons pe_bl (pa_cons pe_bl pa_nil (star_ok rfl)) (star_ok rfl)) (star_ok rfl)) (star_ok rfl)) (star_ok rfl))) (nomark _)) (pss_one (ps_ret pe_bl)) pss_nil) ?_
    refine blk_cons (ps_if (pt_cmpR (op_neD hr.units) (pe_call (ok__law_kinds T) (hr.mono (by decide)) rfl T.m__law_kinds T.F__law_kinds.kp T.B__law_kinds .nil pass0 (pa_cons pe_int (pa_cons (pv 9) (pa_cons (pv 4) (pa_cons (pv 5) pa_nil (star_ok rfl)) (star_ok rfl)) (star_ok rfl)) (star_ok rfl))) (pe_lst (pa_cons pe_bl (pa_cons pe_bl (pa_cons pe_bl (pa_cons pe_bl (pa_cons pe_bl pa_nil (star_ok rfl)) (star_ok rfl)) (star_ok rfl)) (star_ok rfl)) (star_ok rfl))) (nomark _)) (pss_one (ps_ret pe_bl)) pss_nil) ?_
    refine blk_cons (ps_if (pt_cmpR (op_neD hr.units) (pv 10) (pe_lst (pa_cons (pe_meth0 (pv 1) T.cl_Span T.M_Span_ends (ok_Span_ends T) (hr.mono (by decide)) T.B_Span_ends .nil pass0) (pa_cons (pe_meth0 (pv 1) T.cl_Span T.M_Span_told (ok_Span_told T) (hr.mono (by decide)) T.B_Span_told .nil pass0) (pa_cons (pe_meth0 (pv 1) T.cl_Span T.M_Span_settled (ok_Span_settled T) (hr.mono (by decide)) T.B_Span_settled .nil pass0) (pa_cons (pe_meth0 (pv 2) T.cl_Seeker T.M_Seeker_ends (ok_Seeker_ends T) (hr.mono (by decide)) T.B_Seeker_ends .nil pass0) pa_nil (star_ok rfl)) (star_ok rfl)) (star_ok rfl)) (star_ok rfl))) (nomark _)) (pss_one (ps_ret pe_bl)) pss_nil) ?_
    refine blk_cons (ps_set (i := 8) sc_law.nd rfl (Or.inl rfl) (pe_makeE T.k_Seeker (ok_Seeker___init__ T) (hr.mono (by decide)) rfl T.m_Seeker T.B_Seeker___init__ .nil catch_no (pa_cons (pe_comp rfl (pi_list (pe_slice sl_list (pv 0) (po_some pe_int) (po_some pe_int))) (fun C s2 H2 fp => (pe_op op_mod (pv 0) pe_int))) pa_nil (star_ok rfl)))) ?_
    refine blk_cons (ps_for PassesOwn.never rfl (pi_list (pe_slice sl_list (pv 0) (po_some pe_int) (po_some pe_int))) (pg_name (i := 3) sc_law.nd rfl (Or.inl rfl)) (pss_one (ps_expr (pe_methE (pv 8) T.cl_Seeker T.M_Seeker_bit (ok_Seeker_bit T) (hr.mono (by decide)) T.B_Seeker_bit .nil catch_no (pa_cons (pe_ix ix_tup (pe_call (ok__law_step T) (hr.mono (by decide)) rfl T.m__law_step T.F__law_step.kp T.B__law_step .nil pass0 (pa_cons (pv 3) pa_nil (star_ok rfl))) pe_int (fun _ _ => rfl)) pa_nil (star_ok rfl)))))) ?_
    refine blk_cons (ps_for PassesOwn.never rfl (pi_range1 rfl T.z_range (pa_cons pe_int pa_nil (star_ok rfl))) (pg_name (i := 11) sc_law.nd rfl (Or.inl rfl)) (pss_one (ps_if (PW.pt (pw_or (pt_cmpR op_ne (pe_methE (pv 2) T.cl_Seeker T.M_Seeker_bit (ok_Seeker_bit T) (hr.mono (by decide)) T.B_Seeker_bit .nil catch_no (pa_cons (pv 4) pa_nil (star_ok rfl))) (pe_methE (pv 8) T.cl_Seeker T.M_Seeker_bit (ok_Seeker_bit T) (hr.mono (by decide)) T.B_Seeker_bit .nil catch_no (pa_cons (pv 4) pa_nil (star_ok rfl))) (nomark _)) (pw_or1 (pt_cmpR (op_neD hr.units) (pe_meth0 (pv 2) T.cl_Seeker T.M_Seeker_ends (ok_Seeker_ends T) (hr.mono (by decide)) T.B_Seeker_ends .nil pass0) (pe_meth0 (pv 8) T.cl_Seeker T.M_Seeker_ends (ok_Seeker_ends T) (hr.mono (by decide)) T.B_Seeker_ends .nil pass0) (nomark _))))) (pss_one (ps_ret pe_bl)) pss_nil))) ?_
    refine ⟨_, (pss_one (ps_ret (pe_and (pe_cmpR op_isN (pe_methE (pv 1) T.cl_Span T.M_Span_narrow (ok_Span_narrow T) (hr.mono (by decide)) T.B_Span_narrow .nil catch_no (pa_cons (pv 4) (pa_cons (pv 5) pa_nil (star_ok rfl)) (star_ok rfl))) pe_non (nomark _)) (pe_one (pe_cmpR (op_neD hr.units) (pe_meth0 (pv 1) T.cl_Span T.M_Span_ends (ok_Span_ends T) (hr.mono (by decide)) T.B_Span_ends .nil pass0) (pe_ix ix_list (pv 10) pe_int (fun _ _ => rfl)) (nomark _)))))), ?_⟩
    try dsimp only [cxOf]
    refine i_start (σ' := [some _, none, none, none, none, none, none, none, none, none, none, none]) rfl ?_
    walk_at "rd"
    intro q dq nq ndq neq
    refine ⟨q, dq, rfl, upd_same, fun H1 hq1 B1 => ⟨rfl, ?_⟩⟩
    have S1 := made_same nq ndq B1
    walk_at "rd"
    refine i_slL (S1.seq hS) fun u hu => ?_
    obtain ⟨ms, hms, hml, hmm⟩ := cut_sub ns (some 3) (some 63)
    rw [hms]
    have S2 := same_upd (o := (HO.lst (ms.map V.int))) hu
    have hu2 : upd H1 u (HO.lst (ms.map V.int)) u = some (HO.lst (ms.map V.int)) := upd_same
    generalize upd H1 u (HO.lst (ms.map V.int)) = H2 at S2 hu2 ⊢
    refine ⟨u, rfl, ⟨_, SqL.of hu2⟩, fun D hD => ?_⟩
    refine comp_listM (xs := ms.map V.int) m256 (SqL.of hu2) hD (fun i y H5 hy S5 hD5 => ?_) (fun H3 S3 hD3 => ?_)
    · obtain ⟨p, rfl, _, _, _⟩ := getInt hy
      walk_at "rd"
      exact Mp.done hD (line_lt (by rw [List.length_map]; omega)) hy S5 hD5 rfl
    rw [m256_map] at hD3
    have hby := byt_mod ms
    have hgl : (ms.map (· % 256)).length ≤ 63 := by rw [List.length_map]; omega
    generalize hde : ms.map (· % 256) = d at hD3 hgl hby
    walk_at "rd"
    intro p dx np ndx ne
    have Sm := same2 (H := H3) (o := .own p) (o' := .ins a.C_Seeker dx []) np ndx
    refine ⟨p, dx, .ref D, _, rfl, upd_same, .lst (Sm _ _ hD3), .inr ⟨d, good_byt (Sm _ _ hD3) hby (by omega), fun pd ps ds H4 hpd0 hps0 hk4 B4 => ⟨rfl, ?_⟩⟩⟩
    have S4 := made_same np ndx B4
    obtain ⟨hps0, _⟩ := free2 hps0
    have S14 := S2.trans (S3.trans S4)
    have hq4 := S14 _ _ hq1
    have npq : q ≠ p := ne_of_none (S3 _ _ (S2 _ _ hq1)) np
    have nsq : q ≠ ps := ne_of_none (S3 _ _ (S2 _ _ hq1)) hps0
    have S04 := S1.trans S14
    walk_at "rd"
    refine i_slL (S04.seq hS) fun m hm => ?_
    rw [hms]
    have S5 := same_upd (o := (HO.lst (ms.map V.int))) hm
    have hm5 : upd H4 m (HO.lst (ms.map V.int)) m = some (HO.lst (ms.map V.int)) := upd_same
    generalize upd H4 m (HO.lst (ms.map V.int)) = H5 at S5 hm5 ⊢
    have S05 := S04.trans S5
    refine ⟨m, rfl, ⟨_, SqL.of hm5⟩, for_list (K := K) (a := m) (xs := ms.map V.int) (fun i σ2 G => ∃ (x : Sn) (v1 v2 v3 : Option V), σ2 = [some (.ref l), some (.ref q), some (.ref p), v1, v2, v3, none, none, none, none, none, none] ∧ G q = some (.ins a.C_Span dq (flds x)) ∧ OkS x ∧ x.2.2 ≤ 5 + 2 * i ∧
        SkAt a G p dx pd ps ds d (skW d (ms.take i) s0) ∧ OkS (skW d (ms.take i) s0) ∧ G m = some (.lst (ms.map V.int)) ∧ SqL K G l (ns.map V.int))
      ⟨s0, _, _, _, rfl, S5 _ _ hq4, okS0, by decide, hk4.same S5, okS0, hm5, S05.seq hS⟩ (fun i σ2 H2 _ ⟨_, _, _, _, _, _, _, _, _, _, z, _⟩ => SqL.of z) ?_ ?_⟩
    · rintro i y σ2 G hi ⟨x, v1, v2, v3, rfl, hqG, hx, hz, hkG, hy, hmG, hlG⟩
      obtain ⟨z, rfl, _, hzi, hil⟩ := getInt hi
      walk_at "rd"
      refine ⟨z, rfl, fun st G1 hc hst0 hst T1 => ?_⟩
      obtain ⟨b0, b1⟩ := stB_bit z
      walk_at "rd"
      refine i_gTup (SqT.of hst) rfl ?_
      walk_at "rd"
      have hq1' := T1 _ _ hqG
      refine ⟨q, dq, _, rfl, hq1', lkN _ (by decide +kernel) (by decide +kernel) (by decide +kernel), ?_⟩
      walk_at "rd"
      refine ⟨q, dq, x, .int (stC z), .int (stB z), _, _, rfl, hq1', hx.ok, .int _, .int _, (fun z => by rw [chV_of hc] at z; cases z), (fun _ z => by rw [bitV_of b0 b1] at z; cases z), fun c' b' ec eb _ _ _ G2 hq2 B2 => ?_⟩
      obtain rfl := V.int.inj ec
      obtain rfl := V.int.inj eb
      have hk2 := (hkG.same T1).but hq1' B2 npq.symm nsq.symm
      have hme2 := hk2.me
      have hm2 := B2.lst hq1' (T1 _ _ hmG)
      have hl2 := B2.seq hq1' (T1.seq hlG)
      walk_at "rd"
      refine ⟨p, dx, pd, ps, ds, d, _, .int (stC z), _, rfl, hk2, hy, .int _, (fun z => by rw [chV_of hc] at z; cases z), fun c' ec hc' G3 hk3 B3 => ?_⟩
      obtain rfl := V.int.inj ec
      walk_at "rd"
      have hs2 := nar_sz (c := stC z) (b := stB z) hx.ok
      refine ⟨_, _, _, _, rfl, B3 _ _ hq2 npq nsq, nar_okS hx hc, by omega, ?_, ?_, hk2.lst B3 hm2, hk2.seq B3 hl2⟩
      · rw [take_snocI hzi, skW_snoc]
        exact hk3
      · rw [take_snocI hzi, skW_snoc]
        exact nar_okS hy hc
    rintro σ2 G0 ⟨x, v1, v2, v3, rfl, hq0, hx, hz, hk0, hy, hm0, hl0⟩
    rw [List.length_map] at hz hk0 hy
    rw [List.take_length] at hk0 hy
    have hxs := hx.sz
    have hz1000 : sz x ≤ 1000 := by omega
    walk_at "rd"
    -- what is no chance
    refine ⟨by walk_at "len", fun p1 h1 => ?_⟩
    with_reducible first | refine new_obj2 h1 fun G1 T1 e1 => ?_ | refine new_obj h1 fun G1 T1 e1 => ?_
    walk_at "rd"
    refine ⟨by walk_at "len", fun p2 h2 => ?_⟩
    with_reducible first | refine new_obj2 h2 fun G2 T2 e2 => ?_ | refine new_obj h2 fun G2 T2 e2 => ?_
    walk_at "rd"
    intro p3 h3
    with_reducible first | refine new_obj2 h3 fun G3 T3 e3 => ?_ | refine new_obj h3 fun G3 T3 e3 => ?_
    walk_at "rd"
    refine ⟨by walk_at "len", fun p4 h4 => ?_⟩
    with_reducible first | refine new_obj2 h4 fun G4 T4 e4 => ?_ | refine new_obj h4 fun G4 T4 e4 => ?_
    walk_at "rd"
    have T14 := T1.trans (T2.trans (T3.trans T4))
    refine ⟨l, ns, 0, rfl, T14.seq hl0, fun n0 => ?_⟩
    walk_at "rd"
    obtain ⟨odd, hodd, hoat⟩ := atI_any (xs := [V.int 32767, V.int 16744449, V.int 0, V.int 1, V.int (-1), V.int (-32768), V.int 16777216, V.int 1000000000000000000000000000000000000000000000000000000000000, V.bl true, V.non, V.str "8388608", V.ref p1, V.ref p2, V.ref p3]) (i := n0 % 14) (Int.emod_nonneg _ (by decide)) (by show _ < (14 : Int); exact Int.emod_lt_of_pos _ (by decide))
    refine i_ixL (SqL.of e4) hoat ?_
    obtain ⟨no, tyo, hox⟩ : ∃ n, TyOf K G4 odd (.type n) ∧ chV odd = false := by
      simp only [List.mem_cons, List.not_mem_nil, or_false] at hodd
      rcases hodd with rfl | rfl | rfl | rfl | rfl | rfl | rfl | rfl | rfl | rfl | rfl | rfl | rfl | rfl
      · exact ⟨_, .int _, rfl⟩
      · exact ⟨_, .int _, rfl⟩
      · exact ⟨_, .int _, rfl⟩
      · exact ⟨_, .int _, rfl⟩
      · exact ⟨_, .int _, rfl⟩
      · exact ⟨_, .int _, rfl⟩
      · exact ⟨_, .int _, rfl⟩
      · exact ⟨_, .int _, rfl⟩
      · exact ⟨_, .bl _, rfl⟩
      · exact ⟨_, .non, rfl⟩
      · exact ⟨_, .str _, rfl⟩
      · exact ⟨_, .lst ((T2.trans (T3.trans T4)) _ _ e1), rfl⟩
      · exact ⟨_, .tup ((T3.trans T4) _ _ e2), rfl⟩
      · exact ⟨_, .dK (T4 _ _ e3), rfl⟩
    walk_at "rd"
    -- what is no bit
    refine ⟨by walk_at "len", fun p1 h1 => ?_⟩
    with_reducible first | refine new_obj2 h1 fun J1 U1 e1 => ?_ | refine new_obj h1 fun J1 U1 e1 => ?_
    walk_at "rd"
    refine ⟨by walk_at "len", fun p2 h2 => ?_⟩
    with_reducible first | refine new_obj2 h2 fun J2 U2 e2 => ?_ | refine new_obj h2 fun J2 U2 e2 => ?_
    walk_at "rd"
    intro p3 h3
    with_reducible first | refine new_obj2 h3 fun J3 U3 e3 => ?_ | refine new_obj h3 fun J3 U3 e3 => ?_
    walk_at "rd"
    refine ⟨by walk_at "len", fun p5 h4 => ?_⟩
    with_reducible first | refine new_obj2 h4 fun J4 U4 e4' => ?_ | refine new_obj h4 fun J4 U4 e4' => ?_
    walk_at "rd"
    have U14 := U1.trans (U2.trans (U3.trans U4))
    refine ⟨l, ns, 1, rfl, (T14.trans U14).seq hl0, fun n1 => ?_⟩
    walk_at "rd"
    obtain ⟨oth, hoth, hoat2⟩ := atI_any (xs := [V.int 2, V.int (-1), V.bl true, V.bl false, V.non, V.str "0", V.ref p1, V.ref p2, V.int 1000000000000000000000000000000000000000000000000000000000000, V.ref p3]) (i := n1 % 10) (Int.emod_nonneg _ (by decide)) (by show _ < (10 : Int); exact Int.emod_lt_of_pos _ (by decide))
    refine i_ixL (SqL.of e4') hoat2 ?_
    obtain ⟨nb, tyb, hbx⟩ : ∃ n, TyOf K J4 oth (.type n) ∧ bitV oth = false := by
      simp only [List.mem_cons, List.not_mem_nil, or_false] at hoth
      rcases hoth with rfl | rfl | rfl | rfl | rfl | rfl | rfl | rfl | rfl | rfl
      · exact ⟨_, .int _, rfl⟩
      · exact ⟨_, .int _, rfl⟩
      · exact ⟨_, .bl _, rfl⟩
      · exact ⟨_, .bl _, rfl⟩
      · exact ⟨_, .non, rfl⟩
      · exact ⟨_, .str _, rfl⟩
      · exact ⟨_, .lst ((U2.trans (U3.trans U4)) _ _ e1), rfl⟩
      · exact ⟨_, .tup ((U3.trans U4) _ _ e2), rfl⟩
      · exact ⟨_, .int _, rfl⟩
      · exact ⟨_, .dK (U4 _ _ e3), rfl⟩
    walk_at "rd"
    -- what are no bytes
    refine ⟨by walk_at "len", fun p1 h1 => ?_⟩
    with_reducible first | refine new_obj2 h1 fun L1 W1 f1 => ?_ | refine new_obj h1 fun L1 W1 f1 => ?_
    walk_at "rd"
    refine ⟨by walk_at "len", fun p2 h2 => ?_⟩
    with_reducible first | refine new_obj2 h2 fun L2 W2 f2 => ?_ | refine new_obj h2 fun L2 W2 f2 => ?_
    walk_at "rd"
    refine ⟨by walk_at "len", fun p3 h3 => ?_⟩
    with_reducible first | refine new_obj2 h3 fun L3 W3 f3 => ?_ | refine new_obj h3 fun L3 W3 f3 => ?_
    walk_at "rd"
    refine ⟨by walk_at "len", fun p4' h4 => ?_⟩
    with_reducible first | refine new_obj2 h4 fun L4 W4 f4 => ?_ | refine new_obj h4 fun L4 W4 f4 => ?_
    walk_at "rd"
    refine ⟨by walk_at "len", fun p5' h5 => ?_⟩
    with_reducible first | refine new_obj2 h5 fun L5 W5 f5 => ?_ | refine new_obj h5 fun L5 W5 f5 => ?_
    walk_at "rd"
    refine ⟨p5', 12001, [V.int 0], rfl, rfl, f5, by decide, by decide, line_le (by show 1 * 12001 ≤ 16000000; decide), fun p6 h6 => ?_⟩
    have erep : (List.replicate (12001 : Int).toNat [V.int 0]).flatten = (List.replicate 12001 (0 : Int)).map V.int := flat_ints 0 12001
    rw [erep]
    with_reducible first | refine new_obj2 h6 fun L6 W6 f6 => ?_ | refine new_obj h6 fun L6 W6 f6 => ?_
    walk_at "rd"
    refine ⟨by walk_at "len", fun p7 h7 => ?_⟩
    with_reducible first | refine new_obj2 h7 fun L7 W7 f7 => ?_ | refine new_obj h7 fun L7 W7 f7 => ?_
    walk_at "rd"
    refine ⟨by walk_at "len", fun p8 h8 => ?_⟩
    with_reducible first | refine new_obj2 h8 fun L8 W8 f8 => ?_ | refine new_obj h8 fun L8 W8 f8 => ?_
    walk_at "rd"
    refine ⟨by walk_at "len", fun p9 h9 => ?_⟩
    with_reducible first | refine new_obj2 h9 fun L9 W9 f9 => ?_ | refine new_obj h9 fun L9 W9 f9 => ?_
    walk_at "rd"
    have W89 := W9
    have W79 := W8.trans W9
    have W69 := W7.trans W79
    have W59 := W6.trans W69
    have W49 := W5.trans W59
    have W39 := W4.trans W49
    have W29 := W3.trans W39
    have W19 := W2.trans W29
    have W09 := W1.trans W19
    have T09 := T14.trans (U14.trans W09)
    refine ⟨l, ns, 2, rfl, T09.seq hl0, fun n2 => ?_⟩
    walk_at "rd"
    obtain ⟨dat, hdat, hdat2⟩ := atI_any (xs := [V.non, V.int 7, V.str "ab", V.ref p1, V.ref p2, V.ref p3, V.ref p4', V.ref p6, V.ref p8]) (i := n2 % 9) (Int.emod_nonneg _ (by decide)) (by show _ < (9 : Int); exact Int.emod_lt_of_pos _ (by decide))
    refine i_ixL (SqL.of f9) hdat2 ?_
    obtain ⟨nd, tyd, hdx⟩ : ∃ n, TyOf K L9 dat (.type n) ∧ Bad K L9 dat n 12000 := by
      have g2 := W29 _ _ f2
      have g3 := W39 _ _ f3
      have g4 := W49 _ _ f4
      have g6 := W69 _ _ f6
      have g7 := W79 _ _ f7
      have g8 := W89 _ _ f8
      simp only [List.mem_cons, List.not_mem_nil, or_false] at hdat
      rcases hdat with rfl | rfl | rfl | rfl | rfl | rfl | rfl | rfl | rfl
      · exact ⟨_, .non, .inl (by decide)⟩
      · exact ⟨_, .int _, .inl (by decide)⟩
      · exact ⟨_, .str _, .inl (by decide)⟩
      · exact ⟨_, .tup (W19 _ _ f1), .inl (by decide)⟩
      · exact ⟨_, .lst g2, .inr ⟨p2, _, rfl, g2, typed_ints [256], by decide, rfl⟩⟩
      · exact ⟨_, .lst g3, .inr ⟨p3, _, rfl, g3, typed_ints [0, -1], by decide, rfl⟩⟩
      · exact ⟨_, .lst g4, .inr ⟨p4', _, rfl, g4, fun y hy => by rw [List.mem_singleton.mp hy]; exact ⟨_, .bl _⟩, by decide, rfl⟩⟩
      · exact ⟨_, .lst g6, .inr ⟨p6, _, rfl, g6, typed_ints _, by rw [List.length_map, List.length_replicate]; decide, by rw [List.length_map, List.length_replicate]; rfl⟩⟩
      · exact ⟨_, .lst g8, .inr ⟨p8, _, rfl, g8, fun y hy => by rw [List.mem_singleton.mp hy]; exact ⟨_, .lst g7⟩, (by show 1 ≤ 100000; decide), rfl⟩⟩
    have tyo9 := tysame (U14.trans W09) tyo
    have tyb9 := tysame W09 tyb
    have hq9 := T09 _ _ hq0
    have hk9 := hk0.same T09
    have hl9 := T09.seq hl0
    walk_at "rd"
    refine ⟨l, ns, 0, rfl, hl9, fun n3 => ?_⟩
    walk_at "rd"
    refine ⟨n3, rfl, fun st M1 hc hst0 hst X1 => ?_⟩
    obtain ⟨b0, b1⟩ := stB_bit n3
    generalize stC n3 = c at hc hst ⊢
    generalize stB n3 = b at b0 b1 hst ⊢
    walk_at "rd"
    refine i_gTup (SqT.of hst) rfl ?_
    walk_at "rd"
    refine ⟨q, dq, _, rfl, X1 _ _ hq9, lkN _ (by decide +kernel) (by decide +kernel) (by decide +kernel), ?_⟩
    walk_at "rd"
    refine ⟨q, dq, x, rfl, X1 _ _ hq9, fun t1 M2 ht10 ht1 X2 => ?_⟩
    walk_at "rd"
    have X12 := X1.trans X2
    refine ⟨q, dq, _, rfl, X12 _ _ hq9, lkN _ (by decide +kernel) (by decide +kernel) (by decide +kernel), ?_⟩
    walk_at "rd"
    refine ⟨q, dq, x, rfl, X12 _ _ hq9, hx, hz1000, fun t2 M3 ht20 ht2 X3 => ?_⟩
    walk_at "rd"
    have X13 := X12.trans X3
    refine ⟨q, dq, _, rfl, X13 _ _ hq9, lkN _ (by decide +kernel) (by decide +kernel) (by decide +kernel), ?_⟩
    walk_at "rd"
    refine ⟨q, dq, x, rfl, X13 _ _ hq9, hx, hz1000, fun t3 M4 ht30 ht3 X4 => ?_⟩
    have X14 := X13.trans X4
    have hk14 := hk9.same X14
    have hme14 := hk14.me
    walk_at "rd"
    refine ⟨p, dx, pd, ps, ds, d, _, rfl, hk14, fun t4 M5 ht40 ht4 X5 => ?_⟩
    walk_at "rd"
    refine ⟨by walk_at "len", fun hh hh0 => ?_⟩
    with_reducible first | refine new_obj2 hh0 fun M6 X6 hh6 => ?_ | refine new_obj hh0 fun M6 X6 hh6 => ?_
    have X16 := X14.trans (X5.trans X6)
    walk_at "rd"
    refine ⟨0, .ref q, odd, .int b, 0, rfl, .inl ⟨rfl, q, dq, x, no, _, rfl, X16 _ _ hq9, hx.ok, tysame X16 tyo9, .int b, .inl ⟨hox, rfl⟩⟩, fun r1 N1 hr1 Y1 => ?_⟩
    walk_at "rd"
    refine ⟨by walk_at "len", fun w1 hw1 => ?_⟩
    with_reducible first | refine new_obj2 hw1 fun N2 Y2 hw2 => ?_ | refine new_obj hw1 fun N2 Y2 hw2 => ?_
    refine i_eqLB (kL 0) [true, false, false, true, false] (SqL.of (Y2 _ _ hr1)) (SqL.of hw2) ?_
    rw [decide_eq_true (show kL 0 = [true, false, false, true, false] from rfl)]
    have Y12 := Y1.trans Y2
    walk_at "rd"
    refine ⟨0, .ref q, odd, oth, 0, rfl, .inl ⟨rfl, q, dq, x, no, nb, rfl, (X16.trans Y12) _ _ hq9, hx.ok, tysame (X16.trans Y12) tyo9, tysame (X16.trans Y12) tyb9, .inl ⟨hox, rfl⟩⟩, fun r2 N3 hr2 Y3 => ?_⟩
    walk_at "rd"
    refine ⟨by walk_at "len", fun w1 hw1 => ?_⟩
    with_reducible first | refine new_obj2 hw1 fun N4 Y4 hw4 => ?_ | refine new_obj hw1 fun N4 Y4 hw4 => ?_
    refine i_eqLB (kL 0) [true, false, false, true, false] (SqL.of (Y4 _ _ hr2)) (SqL.of hw4) ?_
    rw [decide_eq_true (show kL 0 = [true, false, false, true, false] from rfl)]
    have Y14 := Y12.trans (Y3.trans Y4)
    walk_at "rd"
    refine ⟨0, .ref q, .int c, oth, 1, rfl, .inl ⟨rfl, q, dq, x, _, nb, rfl, (X16.trans Y14) _ _ hq9, hx.ok, .int c, tysame (X16.trans Y14) tyb9, .inr ⟨chV_of hc, hbx, rfl⟩⟩, fun r3 N5 hr3 Y5 => ?_⟩
    walk_at "rd"
    refine ⟨by walk_at "len", fun w1 hw1 => ?_⟩
    with_reducible first | refine new_obj2 hw1 fun N6 Y6 hw6 => ?_ | refine new_obj hw1 fun N6 Y6 hw6 => ?_
    refine i_eqLB (kL 1) [false, true, false, true, false] (SqL.of (Y6 _ _ hr3)) (SqL.of hw6) ?_
    rw [decide_eq_true (show kL 1 = [false, true, false, true, false] from rfl)]
    have Y16 := Y14.trans (Y5.trans Y6)
    walk_at "rd"
    refine ⟨1, .ref p, odd, .int b, 0, rfl, .inr (.inl ⟨rfl, p, dx, pd, ps, ds, d, _, no, rfl, hk9.same (X16.trans Y16), hy, tysame (X16.trans Y16) tyo9, hox, rfl⟩), fun r4 N7 hr4 Y7 => ?_⟩
    walk_at "rd"
    refine ⟨by walk_at "len", fun w1 hw1 => ?_⟩
    with_reducible first | refine new_obj2 hw1 fun N8 Y8 hw8 => ?_ | refine new_obj hw1 fun N8 Y8 hw8 => ?_
    refine i_eqLB (kL 0) [true, false, false, true, false] (SqL.of (Y8 _ _ hr4)) (SqL.of hw8) ?_
    rw [decide_eq_true (show kL 0 = [true, false, false, true, false] from rfl)]
    have Y18 := Y16.trans (Y7.trans Y8)
    walk_at "rd"
    refine ⟨2, dat, .int c, .int b, 2, rfl, .inr (.inr ⟨rfl, nd, tysame (X16.trans Y18) tyd, hdx.same (X16.trans Y18), rfl⟩), fun r5 N9 hr5 Y9 => ?_⟩
    walk_at "rd"
    refine ⟨by walk_at "len", fun w1 hw1 => ?_⟩
    with_reducible first | refine new_obj2 hw1 fun N10 Y10 hw10 => ?_ | refine new_obj hw1 fun N10 Y10 hw10 => ?_
    refine i_eqLB (kL 2) [false, false, true, true, false] (SqL.of (Y10 _ _ hr5)) (SqL.of hw10) ?_
    rw [decide_eq_true (show kL 2 = [false, false, true, true, false] from rfl)]
    have Y1X := Y18.trans (Y9.trans Y10)
    have Z0 := X16.trans Y1X
    have hq10 := Z0 _ _ hq9
    have hk10 := hk9.same Z0
    walk_at "rd"
    refine ⟨q, dq, _, rfl, hq10, lkN _ (by decide +kernel) (by decide +kernel) (by decide +kernel), ?_⟩
    walk_at "rd"
    refine ⟨q, dq, x, rfl, hq10, fun s1 O1 hs10 hs1 Z1 => ?_⟩
    walk_at "rd"
    refine ⟨q, dq, _, rfl, Z1 _ _ hq10, lkN _ (by decide +kernel) (by decide +kernel) (by decide +kernel), ?_⟩
    walk_at "rd"
    refine ⟨q, dq, x, rfl, Z1 _ _ hq10, hx, hz1000, fun s2 O2 hs20 hs2 Z2 => ?_⟩
    walk_at "rd"
    have Z12 := Z1.trans Z2
    refine ⟨q, dq, _, rfl, Z12 _ _ hq10, lkN _ (by decide +kernel) (by decide +kernel) (by decide +kernel), ?_⟩
    walk_at "rd"
    refine ⟨q, dq, x, rfl, Z12 _ _ hq10, hx, hz1000, fun s3 O3 hs30 hs3 Z3 => ?_⟩
    have Z13 := Z12.trans Z3
    have hk13 := hk10.same Z13
    have hme13 := hk13.me
    walk_at "rd"
    refine ⟨p, dx, pd, ps, ds, d, _, rfl, hk13, fun s4 O4 hs40 hs4 Z4 => ?_⟩
    walk_at "rd"
    refine ⟨by walk_at "len", fun w2 hw20 => ?_⟩
    with_reducible first | refine new_obj2 hw20 fun O5 Z5 hw2 => ?_ | refine new_obj hw20 fun O5 Z5 hw2 => ?_
    have Z15 := Z13.trans (Z4.trans Z5)
    have V15 := Y1X.trans Z15
    have hh15 := V15 _ _ hh6
    have ht115 := (X3.trans (X4.trans (X5.trans (X6.trans V15)))) _ _ ht1
    refine i_eq4 (n1 := [x.1, x.2.1, x.2.2]) (n2 := tL x) (n3 := stL x) (SqL.of hh15) (SqL.of hw2) (SqT.of ht115) (SqL.of ((X4.trans (X5.trans (X6.trans V15))) _ _ ht2)) (SqL.of ((X5.trans (X6.trans V15)) _ _ ht3)) (n4 := [(skW d ms s0).1, (skW d ms s0).2.1, (skW d ms s0).2.2]) (SqT.of ((X6.trans V15) _ _ ht4))
      (SqT.of ((Z2.trans (Z3.trans (Z4.trans Z5))) _ _ hs1)) (SqL.of ((Z3.trans (Z4.trans Z5)) _ _ hs2)) (SqL.of ((Z4.trans Z5) _ _ hs3)) (SqT.of (Z5 _ _ hs4)) ?_
    have hq15 := Z15 _ _ hq10
    have hk15 := hk10.same Z15
    have hl15 := (Z0.trans Z15).seq hl9
    walk_at "rd"
    refine i_slL hl15 fun u2 hu20 => ?_
    rw [hms]
    have A1 := same_upd (o := (HO.lst (ms.map V.int))) hu20
    have hu21 : upd O5 u2 (HO.lst (ms.map V.int)) u2 = some (HO.lst (ms.map V.int)) := upd_same
    generalize upd O5 u2 (HO.lst (ms.map V.int)) = P1 at A1 hu21 ⊢
    refine ⟨u2, rfl, ⟨_, SqL.of hu21⟩, fun D2 hD20 => ?_⟩
    refine comp_listM (xs := ms.map V.int) m256 (SqL.of hu21) hD20 (fun i y H5 hy S5 hD5 => ?_) (fun P2 A2 hD2 => ?_)
    · obtain ⟨p, rfl, _, _, _⟩ := getInt hy
      walk_at "rd"
      exact Mp.done hD20 (line_lt (by rw [List.length_map]; omega)) hy S5 hD5 rfl
    rw [m256_map, hde] at hD2
    walk_at "rd"
    intro p2' dx2 np2 ndx2 ne2
    have Sm2 := same2 (H := P2) (o := .own p2') (o' := .ins a.C_Seeker dx2 []) np2 ndx2
    refine ⟨p2', dx2, .ref D2, _, rfl, upd_same, .lst (Sm2 _ _ hD2), .inr ⟨d, good_byt (Sm2 _ _ hD2) hby (by omega), fun pd2 ps2 ds2 P3 hpd20 hps20 hk2 B2 => ⟨rfl, ?_⟩⟩⟩
    have A3 := made_same np2 ndx2 B2
    obtain ⟨hps20, _⟩ := free2 hps20
    have A12 := A1.trans A2
    have A13 := A12.trans A3
    have n1' : p ≠ p2' := ne_of_none (A12 _ _ hk15.me) np2
    have n2' : ps ≠ p2' := ne_of_none (A12 _ _ hk15.sp) np2
    have n3' : p ≠ ps2 := ne_of_none (A12 _ _ hk15.me) hps20
    have n4' : ps ≠ ps2 := ne_of_none (A12 _ _ hk15.sp) hps20
    have m1 : q ≠ p2' := ne_of_none (A12 _ _ hq15) np2
    have m2 : q ≠ ps2 := ne_of_none (A12 _ _ hq15) hps20
    walk_at "rd"
    refine i_slL (A13.seq hl15) fun m3 hm30 => ?_
    rw [hms]
    have A4 := same_upd (o := (HO.lst (ms.map V.int))) hm30
    have hm34 : upd P3 m3 (HO.lst (ms.map V.int)) m3 = some (HO.lst (ms.map V.int)) := upd_same
    generalize upd P3 m3 (HO.lst (ms.map V.int)) = P4 at A4 hm34 ⊢
    have hk24 := hk2.same A4
    refine ⟨m3, rfl, ⟨_, SqL.of hm34⟩, for_list (K := K) (a := m3) (xs := ms.map V.int) (fun i σ2 G => ∃ (v1 : Option V), σ2 = [some (.ref l), some (.ref q), some (.ref p), v1, some (.int c), some (.int b), some (.ref p4), some odd, some (.ref p2'), some dat, some (.ref hh), none] ∧ SkAt a G p2' dx2 pd2 ps2 ds2 d (skW d (ms.take i) s0) ∧ OkS (skW d (ms.take i) s0) ∧ But2 p2' ps2 P4 G)
      ⟨_, rfl, hk24, okS0, But2.of (Same.refl _)⟩ (fun i σ2 G _ ⟨_, _, _, _, B⟩ => SqL.of (hk24.lst B hm34)) ?_ ?_⟩
    · rintro i y σ2 G hi ⟨v1, rfl, hkG, hyG, BG⟩
      obtain ⟨z, rfl, _, hzi, hil⟩ := getInt hi
      have hmeG := hkG.me
      walk_at "rd"
      refine ⟨z, rfl, fun st G1 hc hst0 hst T1 => ?_⟩
      have hkG1 := hkG.same T1
      have hmeG1 := hkG1.me
      walk_at "rd"
      refine i_ixT (SqT.of hst) (atI_nat (j := 0) rfl) ?_
      walk_at "rd"
      refine ⟨p2', dx2, pd2, ps2, ds2, d, _, .int (stC z), _, rfl, hkG1, hyG, .int _, (fun z => by rw [chV_of hc] at z; cases z), fun c' ec hc' G3 hk3 B3 => ?_⟩
      obtain rfl := V.int.inj ec
      walk_at "rd"
      refine ⟨_, rfl, ?_, ?_, (BG.same T1).trans B3⟩
      · rw [take_snocI hzi, skW_snoc]
        exact hk3
      · rw [take_snocI hzi, skW_snoc]
        exact nar_okS hyG hc
    rintro σ2 P5 ⟨v1', rfl, hk25, hy5, B5⟩
    rw [List.length_map, List.take_length] at hk25
    have A14 := A13.trans A4
    have hk16 := (hk15.same A14).but2 hk24 B5 n1' n3' n2' n4'
    have hq16 := B5 _ _ (A14 _ _ hq15) m1 m2
    have hh16 := hk24.lst B5 (A14 _ _ hh15)
    have ht16 := hk24.tup B5 (A14 _ _ ht115)
    generalize skW d ms s0 = z0 at hk25 hk16 hy
    walk_at "rd"
    refine ⟨_, rfl, by decide, by decide, for_range (n := 40) (fun i σ2 G => ∃ (z : Sn) (v1 v2 : Option V), σ2 = [some (.ref l), some (.ref q), some (.ref p), v1, some (.int c), some (.int b), some (.ref p4), some odd, some (.ref p2'), some dat, some (.ref hh), v2] ∧ SkAt a G p2' dx2 pd2 ps2 ds2 d z ∧ SkAt a G p dx pd ps ds d z ∧ OkS z ∧ G q = some (.ins a.C_Span dq (flds x)) ∧ G hh = some (.lst [.ref t1, .ref t2, .ref t3, .ref t4]) ∧ G t1 = some (.tup (i3 x)))
      ⟨z0, _, _, rfl, hk25, hk16, hy, hq16, hh16, ht16⟩ ?_ ?_⟩
    · rintro i σ2 G hi ⟨z, v1, v2, rfl, hkb, hka, hoz, hqG, hhG, htG⟩
      have hmea := hka.me
      walk_at "rd"
      refine ⟨p, dx, pd, ps, ds, d, z, .int c, _, rfl, hka, hoz, .int c, (fun z => by rw [chV_of hc] at z; cases z), fun c' ec hc' G1 hka1 Ba => ?_⟩
      obtain rfl := V.int.inj ec
      have hkb1 := hkb.but2 hka Ba n1'.symm n2'.symm n3'.symm n4'.symm
      have hmeb := hkb1.me
      walk_at "rd"
      refine ⟨p2', dx2, pd2, ps2, ds2, d, z, .int c, _, rfl, hkb1, hoz, .int c, (fun z => by rw [chV_of hc] at z; cases z), fun c'' ec hc'' G2 hkb2 Bb => ?_⟩
      obtain rfl := V.int.inj ec
      have hka2 := hka1.but2 hkb1 Bb n1' n3' n2' n4'
      have hoz2 := nar_okS (b := pick d z c) hoz hc
      generalize nar z c (pick d z c) = z' at hka2 hkb2 hoz2
      walk_at "rd"
      refine iteNp rfl ?_
      have hmea2 := hka2.me
      walk_at "rd"
      refine ⟨p, dx, pd, ps, ds, d, z', rfl, hka2, fun w1 G3 hw10 hw1 C1 => ?_⟩
      have hkb3 := hkb2.same C1
      have hmeb3 := hkb3.me
      walk_at "rd"
      refine ⟨p2', dx2, pd2, ps2, ds2, d, z', rfl, hkb3, fun w2 G4 hw20 hw2 C2 => ?_⟩
      walk_at "rd"
      refine i_eqT [z'.1, z'.2.1, z'.2.2] [z'.1, z'.2.1, z'.2.2] (SqT.of (C2 _ _ hw1)) (SqT.of hw2) ?_
      rw [decide_eq_true rfl]
      walk_at "rd"
      have C12 := C1.trans C2
      have hq2 := Bb _ _ (Ba _ _ hqG npq nsq) m1 m2
      exact ⟨z', _, _, rfl, hkb2.same C12, hka2.same C12, hoz2, C12 _ _ hq2, C12 _ _ (hkb1.lst Bb (hka.lst Ba hhG)), C12 _ _ (hkb1.tup Bb (hka.tup Ba htG))⟩
    rintro σ2 G ⟨z, v1, v2, rfl, hkb, hka, hoz, hqG, hhG, htG⟩
    walk_at "rd"
    refine ⟨q, dq, _, rfl, hqG, lkN _ (by decide +kernel) (by decide +kernel) (by decide +kernel), ?_⟩
    walk_at "rd"
    refine ⟨q, dq, x, .int c, .int b, _, _, rfl, hqG, hx.ok, .int c, .int b, (fun z => by rw [chV_of hc] at z; cases z), (fun _ z => by rw [bitV_of b0 b1] at z; cases z), fun c' b' ec eb _ _ _ G2 hq2 B2 => ?_⟩
    obtain rfl := V.int.inj ec
    obtain rfl := V.int.inj eb
    walk_at "rd"
    rw [decide_eq_true rfl]
    walk_at "rd"
    refine ⟨q, dq, _, rfl, hq2, lkN _ (by decide +kernel) (by decide +kernel) (by decide +kernel), ?_⟩
    walk_at "rd"
    refine ⟨q, dq, _, rfl, hq2, fun w1 G3 hw10 hw1 C1 => ?_⟩
    walk_at "rd"
    refine i_ixL (SqL.of (C1 _ _ (B2.lst hqG hhG))) (atI_nat (j := 0) rfl) ?_
    walk_at "rd"
    refine i_eqT [(nar x c b).1, (nar x c b).2.1, (nar x c b).2.2] [x.1, x.2.1, x.2.2] (SqT.of hw1) (SqT.of (C1 _ _ (B2.tup hqG htG))) ?_
    have hne := nar_ne (b := b) hx.ok hc
    rw [decide_eq_false (fun e => hne (by
      simp only [List.cons.injEq, and_true] at e
      obtain ⟨e1, e2, e3⟩ := e
      unfold i3
      rw [e1, e2, e3]))]
    exact k _
end
theorem all_mk {l : PySem.W.OpenLaw} {w : World} {K : PySem.W.Frag} {h : Heap} {mg : Str → Option Value} {fa : Addr} (X : K.In h) (G : h.Ns mainGlobals mg) (hfa : mg "law" = some (.ref fa))
    {C_Span : Addr}
    {C_Seeker : Addr}
    {C_NoBytes : Addr}
    {C_NoChance : Addr}
    {C_NoBit : Addr}
    {C_ForetellError : Addr}
    {C_NoMost : Addr}
    {C_NoPress : Addr}
    {C_NoText : Addr}
    {f_is_whole : Addr} {oc_is_whole kV_is_whole dc_is_whole pm_is_whole cd_is_whole ct_is_whole : Value} {od_is_whole an_is_whole : Option Addr} {sl_is_whole : Array (Option Value)}
    {f_is_bit : Addr} {oc_is_bit kV_is_bit dc_is_bit pm_is_bit cd_is_bit ct_is_bit : Value} {od_is_bit an_is_bit : Option Addr} {sl_is_bit : Array (Option Value)}
    {f_is_chance : Addr} {oc_is_chance kV_is_chance dc_is_chance pm_is_chance cd_is_chance ct_is_chance : Value} {od_is_chance an_is_chance : Option Addr} {sl_is_chance : Array (Option Value)}
    {f_is_sign : Addr} {oc_is_sign kV_is_sign dc_is_sign pm_is_sign cd_is_sign ct_is_sign : Value} {od_is_sign an_is_sign : Option Addr} {sl_is_sign : Array (Option Value)}
    {f_is_list_of_signs : Addr} {oc_is_list_of_signs kV_is_list_of_signs dc_is_list_of_signs pm_is_list_of_signs cd_is_list_of_signs ct_is_list_of_signs : Value} {od_is_list_of_signs an_is_list_of_signs : Option Addr} {sl_is_list_of_signs : Array (Option Value)}
    {f_checked_bytes : Addr} {oc_checked_bytes kV_checked_bytes dc_checked_bytes pm_checked_bytes cd_checked_bytes ct_checked_bytes : Value} {od_checked_bytes an_checked_bytes : Option Addr} {sl_checked_bytes : Array (Option Value)}
    {f_check_chance : Addr} {oc_check_chance kV_check_chance dc_check_chance pm_check_chance cd_check_chance ct_check_chance : Value} {od_check_chance an_check_chance : Option Addr} {sl_check_chance : Array (Option Value)}
    {f_check_bit : Addr} {oc_check_bit kV_check_bit dc_check_bit pm_check_bit cd_check_bit ct_check_bit : Value} {od_check_bit an_check_bit : Option Addr} {sl_check_bit : Array (Option Value)}
    {f_written : Addr} {oc_written kV_written dc_written pm_written cd_written ct_written : Value} {od_written an_written : Option Addr} {sl_written : Array (Option Value)}
    {f_first_block : Addr} {oc_first_block kV_first_block dc_first_block pm_first_block cd_first_block ct_first_block : Value} {od_first_block an_first_block : Option Addr} {sl_first_block : Array (Option Value)}
    {f_Span___init__ : Addr} {oc_Span___init__ kV_Span___init__ dc_Span___init__ pm_Span___init__ cd_Span___init__ ct_Span___init__ : Value} {od_Span___init__ an_Span___init__ : Option Addr} {sl_Span___init__ : Array (Option Value)}
    {f_Span_ends : Addr} {oc_Span_ends kV_Span_ends dc_Span_ends pm_Span_ends cd_Span_ends ct_Span_ends : Value} {od_Span_ends an_Span_ends : Option Addr} {sl_Span_ends : Array (Option Value)}
    {f_Span_cut : Addr} {oc_Span_cut kV_Span_cut dc_Span_cut pm_Span_cut cd_Span_cut ct_Span_cut : Value} {od_Span_cut an_Span_cut : Option Addr} {sl_Span_cut : Array (Option Value)}
    {f_Span_narrow : Addr} {oc_Span_narrow kV_Span_narrow dc_Span_narrow pm_Span_narrow cd_Span_narrow ct_Span_narrow : Value} {od_Span_narrow an_Span_narrow : Option Addr} {sl_Span_narrow : Array (Option Value)}
    {f_Span_settled : Addr} {oc_Span_settled kV_Span_settled dc_Span_settled pm_Span_settled cd_Span_settled ct_Span_settled : Value} {od_Span_settled an_Span_settled : Option Addr} {sl_Span_settled : Array (Option Value)}
    {f_Span_holds_block : Addr} {oc_Span_holds_block kV_Span_holds_block dc_Span_holds_block pm_Span_holds_block cd_Span_holds_block ct_Span_holds_block : Value} {od_Span_holds_block an_Span_holds_block : Option Addr} {sl_Span_holds_block : Array (Option Value)}
    {f_Span_told : Addr} {oc_Span_told kV_Span_told dc_Span_told pm_Span_told cd_Span_told ct_Span_told : Value} {od_Span_told an_Span_told : Option Addr} {sl_Span_told : Array (Option Value)}
    {f_Seeker___init__ : Addr} {oc_Seeker___init__ kV_Seeker___init__ dc_Seeker___init__ pm_Seeker___init__ cd_Seeker___init__ ct_Seeker___init__ : Value} {od_Seeker___init__ an_Seeker___init__ : Option Addr} {sl_Seeker___init__ : Array (Option Value)}
    {f_Seeker_follow : Addr} {oc_Seeker_follow kV_Seeker_follow dc_Seeker_follow pm_Seeker_follow cd_Seeker_follow ct_Seeker_follow : Value} {od_Seeker_follow an_Seeker_follow : Option Addr} {sl_Seeker_follow : Array (Option Value)}
    {f_Seeker_byte_at : Addr} {oc_Seeker_byte_at kV_Seeker_byte_at dc_Seeker_byte_at pm_Seeker_byte_at cd_Seeker_byte_at ct_Seeker_byte_at : Value} {od_Seeker_byte_at an_Seeker_byte_at : Option Addr} {sl_Seeker_byte_at : Array (Option Value)}
    {f_Seeker_bit : Addr} {oc_Seeker_bit kV_Seeker_bit dc_Seeker_bit pm_Seeker_bit cd_Seeker_bit ct_Seeker_bit : Value} {od_Seeker_bit an_Seeker_bit : Option Addr} {sl_Seeker_bit : Array (Option Value)}
    {f_Seeker_ends : Addr} {oc_Seeker_ends kV_Seeker_ends dc_Seeker_ends pm_Seeker_ends cd_Seeker_ends ct_Seeker_ends : Value} {od_Seeker_ends an_Seeker_ends : Option Addr} {sl_Seeker_ends : Array (Option Value)}
    {f__law_cell_at : Addr} {oc__law_cell_at kV__law_cell_at dc__law_cell_at pm__law_cell_at cd__law_cell_at ct__law_cell_at : Value} {od__law_cell_at an__law_cell_at : Option Addr} {sl__law_cell_at : Array (Option Value)}
    {f__law_step : Addr} {oc__law_step kV__law_step dc__law_step pm__law_step cd__law_step ct__law_step : Value} {od__law_step an__law_step : Option Addr} {sl__law_step : Array (Option Value)}
    {f__law_kinds : Addr} {oc__law_kinds kV__law_kinds dc__law_kinds pm__law_kinds cd__law_kinds ct__law_kinds : Value} {od__law_kinds an__law_kinds : Option Addr} {sl__law_kinds : Array (Option Value)}
    {f_law : Addr} {oc_law kV_law dc_law pm_law cd_law ct_law : Value} {od_law an_law : Option Addr} {sl_law : Array (Option Value)}
    {t_LEAST : Tok}
    {t_ONE : Tok}
    {t_MOST_BYTES : Tok}
    {t_FIRST_WIDTH : Tok}
    {t_FIRST_SIZE : Tok}
    {t_LEAST_WIDTH : Tok}
    (aC_Span : PySem.W.nsIn K mainGlobals "Span" = some (some (.ref C_Span)))
    (aC_Seeker : PySem.W.nsIn K mainGlobals "Seeker" = some (some (.ref C_Seeker)))
    (aC_NoBytes : PySem.W.nsIn K mainGlobals "NoBytes" = some (some (.ref C_NoBytes)))
    (aC_NoChance : PySem.W.nsIn K mainGlobals "NoChance" = some (some (.ref C_NoChance)))
    (aC_NoBit : PySem.W.nsIn K mainGlobals "NoBit" = some (some (.ref C_NoBit)))
    (aC_ForetellError : PySem.W.nsIn K mainGlobals "ForetellError" = some (some (.ref C_ForetellError)))
    (aC_NoMost : PySem.W.nsIn K mainGlobals "NoMost" = some (some (.ref C_NoMost)))
    (aC_NoPress : PySem.W.nsIn K mainGlobals "NoPress" = some (some (.ref C_NoPress)))
    (aC_NoText : PySem.W.nsIn K mainGlobals "NoText" = some (some (.ref C_NoText)))
    (a_is_whole : PySem.W.nsIn K mainGlobals "is_whole" = some (some (.ref f_is_whole)))
    (l_is_whole : K.lookup f_is_whole = some ⟨oc_is_whole, od_is_whole, .func (PySem.W.fnOf "is_whole" "is_whole" (defArgs s_is_whole) (defBody s_is_whole) (defScope s_is_whole) .none kV_is_whole dc_is_whole pm_is_whole an_is_whole cd_is_whole ct_is_whole), sl_is_whole⟩)
    (c_is_whole : PySem.W.codeIn K cd_is_whole "is_whole" = true)
    (k_is_whole : PySem.W.keepIn K (.ref f_is_whole) = true)
    (a_is_bit : PySem.W.nsIn K mainGlobals "is_bit" = some (some (.ref f_is_bit)))
    (l_is_bit : K.lookup f_is_bit = some ⟨oc_is_bit, od_is_bit, .func (PySem.W.fnOf "is_bit" "is_bit" (defArgs s_is_bit) (defBody s_is_bit) (defScope s_is_bit) .none kV_is_bit dc_is_bit pm_is_bit an_is_bit cd_is_bit ct_is_bit), sl_is_bit⟩)
    (c_is_bit : PySem.W.codeIn K cd_is_bit "is_bit" = true)
    (k_is_bit : PySem.W.keepIn K (.ref f_is_bit) = true)
    (a_is_chance : PySem.W.nsIn K mainGlobals "is_chance" = some (some (.ref f_is_chance)))
    (l_is_chance : K.lookup f_is_chance = some ⟨oc_is_chance, od_is_chance, .func (PySem.W.fnOf "is_chance" "is_chance" (defArgs s_is_chance) (defBody s_is_chance) (defScope s_is_chance) .none kV_is_chance dc_is_chance pm_is_chance an_is_chance cd_is_chance ct_is_chance), sl_is_chance⟩)
    (c_is_chance : PySem.W.codeIn K cd_is_chance "is_chance" = true)
    (k_is_chance : PySem.W.keepIn K (.ref f_is_chance) = true)
    (a_is_sign : PySem.W.nsIn K mainGlobals "is_sign" = some (some (.ref f_is_sign)))
    (l_is_sign : K.lookup f_is_sign = some ⟨oc_is_sign, od_is_sign, .func (PySem.W.fnOf "is_sign" "is_sign" (defArgs s_is_sign) (defBody s_is_sign) (defScope s_is_sign) .none kV_is_sign dc_is_sign pm_is_sign an_is_sign cd_is_sign ct_is_sign), sl_is_sign⟩)
    (c_is_sign : PySem.W.codeIn K cd_is_sign "is_sign" = true)
    (k_is_sign : PySem.W.keepIn K (.ref f_is_sign) = true)
    (a_is_list_of_signs : PySem.W.nsIn K mainGlobals "is_list_of_signs" = some (some (.ref f_is_list_of_signs)))
    (l_is_list_of_signs : K.lookup f_is_list_of_signs = some ⟨oc_is_list_of_signs, od_is_list_of_signs, .func (PySem.W.fnOf "is_list_of_signs" "is_list_of_signs" (defArgs s_is_list_of_signs) (defBody s_is_list_of_signs) (defScope s_is_list_of_signs) .none kV_is_list_of_signs dc_is_list_of_signs pm_is_list_of_signs an_is_list_of_signs cd_is_list_of_signs ct_is_list_of_signs), sl_is_list_of_signs⟩)
    (c_is_list_of_signs : PySem.W.codeIn K cd_is_list_of_signs "is_list_of_signs" = true)
    (k_is_list_of_signs : PySem.W.keepIn K (.ref f_is_list_of_signs) = true)
    (a_checked_bytes : PySem.W.nsIn K mainGlobals "checked_bytes" = some (some (.ref f_checked_bytes)))
    (l_checked_bytes : K.lookup f_checked_bytes = some ⟨oc_checked_bytes, od_checked_bytes, .func (PySem.W.fnOf "checked_bytes" "checked_bytes" (defArgs s_checked_bytes) (defBody s_checked_bytes) (defScope s_checked_bytes) .none kV_checked_bytes dc_checked_bytes pm_checked_bytes an_checked_bytes cd_checked_bytes ct_checked_bytes), sl_checked_bytes⟩)
    (c_checked_bytes : PySem.W.codeIn K cd_checked_bytes "checked_bytes" = true)
    (k_checked_bytes : PySem.W.keepIn K (.ref f_checked_bytes) = true)
    (a_check_chance : PySem.W.nsIn K mainGlobals "check_chance" = some (some (.ref f_check_chance)))
    (l_check_chance : K.lookup f_check_chance = some ⟨oc_check_chance, od_check_chance, .func (PySem.W.fnOf "check_chance" "check_chance" (defArgs s_check_chance) (defBody s_check_chance) (defScope s_check_chance) .none kV_check_chance dc_check_chance pm_check_chance an_check_chance cd_check_chance ct_check_chance), sl_check_chance⟩)
    (c_check_chance : PySem.W.codeIn K cd_check_chance "check_chance" = true)
    (k_check_chance : PySem.W.keepIn K (.ref f_check_chance) = true)
    (a_check_bit : PySem.W.nsIn K mainGlobals "check_bit" = some (some (.ref f_check_bit)))
    (l_check_bit : K.lookup f_check_bit = some ⟨oc_check_bit, od_check_bit, .func (PySem.W.fnOf "check_bit" "check_bit" (defArgs s_check_bit) (defBody s_check_bit) (defScope s_check_bit) .none kV_check_bit dc_check_bit pm_check_bit an_check_bit cd_check_bit ct_check_bit), sl_check_bit⟩)
    (c_check_bit : PySem.W.codeIn K cd_check_bit "check_bit" = true)
    (k_check_bit : PySem.W.keepIn K (.ref f_check_bit) = true)
    (a_written : PySem.W.nsIn K mainGlobals "written" = some (some (.ref f_written)))
    (l_written : K.lookup f_written = some ⟨oc_written, od_written, .func (PySem.W.fnOf "written" "written" (defArgs s_written) (defBody s_written) (defScope s_written) .none kV_written dc_written pm_written an_written cd_written ct_written), sl_written⟩)
    (c_written : PySem.W.codeIn K cd_written "written" = true)
    (k_written : PySem.W.keepIn K (.ref f_written) = true)
    (a_first_block : PySem.W.nsIn K mainGlobals "first_block" = some (some (.ref f_first_block)))
    (l_first_block : K.lookup f_first_block = some ⟨oc_first_block, od_first_block, .func (PySem.W.fnOf "first_block" "first_block" (defArgs s_first_block) (defBody s_first_block) (defScope s_first_block) .none kV_first_block dc_first_block pm_first_block an_first_block cd_first_block ct_first_block), sl_first_block⟩)
    (c_first_block : PySem.W.codeIn K cd_first_block "first_block" = true)
    (k_first_block : PySem.W.keepIn K (.ref f_first_block) = true)
    (a_Span___init__ : PySem.W.findIn K (.ref C_Span) "__init__" = some (some (.ref f_Span___init__)))
    (i_Span___init__ : PySem.W.isFn K (.ref f_Span___init__) = true)
    (l_Span___init__ : K.lookup f_Span___init__ = some ⟨oc_Span___init__, od_Span___init__, .func (PySem.W.fnOf "__init__" "Span.__init__" (defArgs s_Span___init__) (defBody s_Span___init__) (defScope s_Span___init__) .none kV_Span___init__ dc_Span___init__ pm_Span___init__ an_Span___init__ cd_Span___init__ ct_Span___init__), sl_Span___init__⟩)
    (c_Span___init__ : PySem.W.codeIn K cd_Span___init__ "Span.__init__" = true)
    (k_Span___init__ : PySem.W.keepIn K (.ref f_Span___init__) = true)
    (a_Span_ends : PySem.W.findIn K (.ref C_Span) "ends" = some (some (.ref f_Span_ends)))
    (i_Span_ends : PySem.W.isFn K (.ref f_Span_ends) = true)
    (l_Span_ends : K.lookup f_Span_ends = some ⟨oc_Span_ends, od_Span_ends, .func (PySem.W.fnOf "ends" "Span.ends" (defArgs s_Span_ends) (defBody s_Span_ends) (defScope s_Span_ends) .none kV_Span_ends dc_Span_ends pm_Span_ends an_Span_ends cd_Span_ends ct_Span_ends), sl_Span_ends⟩)
    (c_Span_ends : PySem.W.codeIn K cd_Span_ends "Span.ends" = true)
    (k_Span_ends : PySem.W.keepIn K (.ref f_Span_ends) = true)
    (a_Span_cut : PySem.W.findIn K (.ref C_Span) "cut" = some (some (.ref f_Span_cut)))
    (i_Span_cut : PySem.W.isFn K (.ref f_Span_cut) = true)
    (l_Span_cut : K.lookup f_Span_cut = some ⟨oc_Span_cut, od_Span_cut, .func (PySem.W.fnOf "cut" "Span.cut" (defArgs s_Span_cut) (defBody s_Span_cut) (defScope s_Span_cut) .none kV_Span_cut dc_Span_cut pm_Span_cut an_Span_cut cd_Span_cut ct_Span_cut), sl_Span_cut⟩)
    (c_Span_cut : PySem.W.codeIn K cd_Span_cut "Span.cut" = true)
    (k_Span_cut : PySem.W.keepIn K (.ref f_Span_cut) = true)
    (a_Span_narrow : PySem.W.findIn K (.ref C_Span) "narrow" = some (some (.ref f_Span_narrow)))
    (i_Span_narrow : PySem.W.isFn K (.ref f_Span_narrow) = true)
    (l_Span_narrow : K.lookup f_Span_narrow = some ⟨oc_Span_narrow, od_Span_narrow, .func (PySem.W.fnOf "narrow" "Span.narrow" (defArgs s_Span_narrow) (defBody s_Span_narrow) (defScope s_Span_narrow) .none kV_Span_narrow dc_Span_narrow pm_Span_narrow an_Span_narrow cd_Span_narrow ct_Span_narrow), sl_Span_narrow⟩)
    (c_Span_narrow : PySem.W.codeIn K cd_Span_narrow "Span.narrow" = true)
    (k_Span_narrow : PySem.W.keepIn K (.ref f_Span_narrow) = true)
    (a_Span_settled : PySem.W.findIn K (.ref C_Span) "settled" = some (some (.ref f_Span_settled)))
    (i_Span_settled : PySem.W.isFn K (.ref f_Span_settled) = true)
    (l_Span_settled : K.lookup f_Span_settled = some ⟨oc_Span_settled, od_Span_settled, .func (PySem.W.fnOf "settled" "Span.settled" (defArgs s_Span_settled) (defBody s_Span_settled) (defScope s_Span_settled) .none kV_Span_settled dc_Span_settled pm_Span_settled an_Span_settled cd_Span_settled ct_Span_settled), sl_Span_settled⟩)
    (c_Span_settled : PySem.W.codeIn K cd_Span_settled "Span.settled" = true)
    (k_Span_settled : PySem.W.keepIn K (.ref f_Span_settled) = true)
    (a_Span_holds_block : PySem.W.findIn K (.ref C_Span) "holds_block" = some (some (.ref f_Span_holds_block)))
    (i_Span_holds_block : PySem.W.isFn K (.ref f_Span_holds_block) = true)
    (l_Span_holds_block : K.lookup f_Span_holds_block = some ⟨oc_Span_holds_block, od_Span_holds_block, .func (PySem.W.fnOf "holds_block" "Span.holds_block" (defArgs s_Span_holds_block) (defBody s_Span_holds_block) (defScope s_Span_holds_block) .none kV_Span_holds_block dc_Span_holds_block pm_Span_holds_block an_Span_holds_block cd_Span_holds_block ct_Span_holds_block), sl_Span_holds_block⟩)
    (c_Span_holds_block : PySem.W.codeIn K cd_Span_holds_block "Span.holds_block" = true)
    (k_Span_holds_block : PySem.W.keepIn K (.ref f_Span_holds_block) = true)
    (a_Span_told : PySem.W.findIn K (.ref C_Span) "told" = some (some (.ref f_Span_told)))
    (i_Span_told : PySem.W.isFn K (.ref f_Span_told) = true)
    (l_Span_told : K.lookup f_Span_told = some ⟨oc_Span_told, od_Span_told, .func (PySem.W.fnOf "told" "Span.told" (defArgs s_Span_told) (defBody s_Span_told) (defScope s_Span_told) .none kV_Span_told dc_Span_told pm_Span_told an_Span_told cd_Span_told ct_Span_told), sl_Span_told⟩)
    (c_Span_told : PySem.W.codeIn K cd_Span_told "Span.told" = true)
    (k_Span_told : PySem.W.keepIn K (.ref f_Span_told) = true)
    (a_Seeker___init__ : PySem.W.findIn K (.ref C_Seeker) "__init__" = some (some (.ref f_Seeker___init__)))
    (i_Seeker___init__ : PySem.W.isFn K (.ref f_Seeker___init__) = true)
    (l_Seeker___init__ : K.lookup f_Seeker___init__ = some ⟨oc_Seeker___init__, od_Seeker___init__, .func (PySem.W.fnOf "__init__" "Seeker.__init__" (defArgs s_Seeker___init__) (defBody s_Seeker___init__) (defScope s_Seeker___init__) .none kV_Seeker___init__ dc_Seeker___init__ pm_Seeker___init__ an_Seeker___init__ cd_Seeker___init__ ct_Seeker___init__), sl_Seeker___init__⟩)
    (c_Seeker___init__ : PySem.W.codeIn K cd_Seeker___init__ "Seeker.__init__" = true)
    (k_Seeker___init__ : PySem.W.keepIn K (.ref f_Seeker___init__) = true)
    (a_Seeker_follow : PySem.W.findIn K (.ref C_Seeker) "follow" = some (some (.ref f_Seeker_follow)))
    (i_Seeker_follow : PySem.W.isFn K (.ref f_Seeker_follow) = true)
    (l_Seeker_follow : K.lookup f_Seeker_follow = some ⟨oc_Seeker_follow, od_Seeker_follow, .func (PySem.W.fnOf "follow" "Seeker.follow" (defArgs s_Seeker_follow) (defBody s_Seeker_follow) (defScope s_Seeker_follow) .none kV_Seeker_follow dc_Seeker_follow pm_Seeker_follow an_Seeker_follow cd_Seeker_follow ct_Seeker_follow), sl_Seeker_follow⟩)
    (c_Seeker_follow : PySem.W.codeIn K cd_Seeker_follow "Seeker.follow" = true)
    (k_Seeker_follow : PySem.W.keepIn K (.ref f_Seeker_follow) = true)
    (a_Seeker_byte_at : PySem.W.findIn K (.ref C_Seeker) "byte_at" = some (some (.ref f_Seeker_byte_at)))
    (i_Seeker_byte_at : PySem.W.isFn K (.ref f_Seeker_byte_at) = true)
    (l_Seeker_byte_at : K.lookup f_Seeker_byte_at = some ⟨oc_Seeker_byte_at, od_Seeker_byte_at, .func (PySem.W.fnOf "byte_at" "Seeker.byte_at" (defArgs s_Seeker_byte_at) (defBody s_Seeker_byte_at) (defScope s_Seeker_byte_at) .none kV_Seeker_byte_at dc_Seeker_byte_at pm_Seeker_byte_at an_Seeker_byte_at cd_Seeker_byte_at ct_Seeker_byte_at), sl_Seeker_byte_at⟩)
    (c_Seeker_byte_at : PySem.W.codeIn K cd_Seeker_byte_at "Seeker.byte_at" = true)
    (k_Seeker_byte_at : PySem.W.keepIn K (.ref f_Seeker_byte_at) = true)
    (a_Seeker_bit : PySem.W.findIn K (.ref C_Seeker) "bit" = some (some (.ref f_Seeker_bit)))
    (i_Seeker_bit : PySem.W.isFn K (.ref f_Seeker_bit) = true)
    (l_Seeker_bit : K.lookup f_Seeker_bit = some ⟨oc_Seeker_bit, od_Seeker_bit, .func (PySem.W.fnOf "bit" "Seeker.bit" (defArgs s_Seeker_bit) (defBody s_Seeker_bit) (defScope s_Seeker_bit) .none kV_Seeker_bit dc_Seeker_bit pm_Seeker_bit an_Seeker_bit cd_Seeker_bit ct_Seeker_bit), sl_Seeker_bit⟩)
    (c_Seeker_bit : PySem.W.codeIn K cd_Seeker_bit "Seeker.bit" = true)
    (k_Seeker_bit : PySem.W.keepIn K (.ref f_Seeker_bit) = true)
    (a_Seeker_ends : PySem.W.findIn K (.ref C_Seeker) "ends" = some (some (.ref f_Seeker_ends)))
    (i_Seeker_ends : PySem.W.isFn K (.ref f_Seeker_ends) = true)
    (l_Seeker_ends : K.lookup f_Seeker_ends = some ⟨oc_Seeker_ends, od_Seeker_ends, .func (PySem.W.fnOf "ends" "Seeker.ends" (defArgs s_Seeker_ends) (defBody s_Seeker_ends) (defScope s_Seeker_ends) .none kV_Seeker_ends dc_Seeker_ends pm_Seeker_ends an_Seeker_ends cd_Seeker_ends ct_Seeker_ends), sl_Seeker_ends⟩)
    (c_Seeker_ends : PySem.W.codeIn K cd_Seeker_ends "Seeker.ends" = true)
    (k_Seeker_ends : PySem.W.keepIn K (.ref f_Seeker_ends) = true)
    (a__law_cell_at : PySem.W.nsIn K mainGlobals "_law_cell_at" = some (some (.ref f__law_cell_at)))
    (l__law_cell_at : K.lookup f__law_cell_at = some ⟨oc__law_cell_at, od__law_cell_at, .func (PySem.W.fnOf "_law_cell_at" "_law_cell_at" (defArgs s__law_cell_at) (defBody s__law_cell_at) (defScope s__law_cell_at) .none kV__law_cell_at dc__law_cell_at pm__law_cell_at an__law_cell_at cd__law_cell_at ct__law_cell_at), sl__law_cell_at⟩)
    (c__law_cell_at : PySem.W.codeIn K cd__law_cell_at "_law_cell_at" = true)
    (k__law_cell_at : PySem.W.keepIn K (.ref f__law_cell_at) = true)
    (a__law_step : PySem.W.nsIn K mainGlobals "_law_step" = some (some (.ref f__law_step)))
    (l__law_step : K.lookup f__law_step = some ⟨oc__law_step, od__law_step, .func (PySem.W.fnOf "_law_step" "_law_step" (defArgs s__law_step) (defBody s__law_step) (defScope s__law_step) .none kV__law_step dc__law_step pm__law_step an__law_step cd__law_step ct__law_step), sl__law_step⟩)
    (c__law_step : PySem.W.codeIn K cd__law_step "_law_step" = true)
    (k__law_step : PySem.W.keepIn K (.ref f__law_step) = true)
    (a__law_kinds : PySem.W.nsIn K mainGlobals "_law_kinds" = some (some (.ref f__law_kinds)))
    (l__law_kinds : K.lookup f__law_kinds = some ⟨oc__law_kinds, od__law_kinds, .func (PySem.W.fnOf "_law_kinds" "_law_kinds" (defArgs s__law_kinds) (defBody s__law_kinds) (defScope s__law_kinds) .none kV__law_kinds dc__law_kinds pm__law_kinds an__law_kinds cd__law_kinds ct__law_kinds), sl__law_kinds⟩)
    (c__law_kinds : PySem.W.codeIn K cd__law_kinds "_law_kinds" = true)
    (k__law_kinds : PySem.W.keepIn K (.ref f__law_kinds) = true)
    (a_law : PySem.W.nsIn K mainGlobals "law" = some (some (.ref f_law)))
    (l_law : K.lookup f_law = some ⟨oc_law, od_law, .func (PySem.W.fnOf "law" "law" (defArgs s_law) (defBody s_law) (defScope s_law) .none kV_law dc_law pm_law an_law cd_law ct_law), sl_law⟩)
    (c_law : PySem.W.codeIn K cd_law "law" = true)
    (k_law : PySem.W.keepIn K (.ref f_law) = true)
    (pg_Span : PySem.W.plainGet K C_Span Str.empty = true)
    (hd_Span : PySem.W.hasDictIn K C_Span = true)
    (po_Span : PySem.W.plainOver K C_Span = true)
    (sa_Span : PySem.W.findIn K (.ref C_Span) "__setattr__" = some (some (.builtin "object.__setattr__")))
    (mk_Span : PySem.W.makesIn K C_Span = true)
    (kc_Span : PySem.W.keepIn K (.ref C_Span) = true)
    (n_Span_low : PySem.W.findIn K (.ref C_Span) "low" = some none)
    (n_Span_width : PySem.W.findIn K (.ref C_Span) "width" = some none)
    (n_Span_size : PySem.W.findIn K (.ref C_Span) "size" = some none)
    (pg_Seeker : PySem.W.plainGet K C_Seeker Str.empty = true)
    (hd_Seeker : PySem.W.hasDictIn K C_Seeker = true)
    (po_Seeker : PySem.W.plainOver K C_Seeker = true)
    (sa_Seeker : PySem.W.findIn K (.ref C_Seeker) "__setattr__" = some (some (.builtin "object.__setattr__")))
    (mk_Seeker : PySem.W.makesIn K C_Seeker = true)
    (kc_Seeker : PySem.W.keepIn K (.ref C_Seeker) = true)
    (n_Seeker_data : PySem.W.findIn K (.ref C_Seeker) "data" = some none)
    (n_Seeker_span : PySem.W.findIn K (.ref C_Seeker) "span" = some none)
    (n_Seeker_number : PySem.W.findIn K (.ref C_Seeker) "number" = some none)
    (n_Seeker_reached : PySem.W.findIn K (.ref C_Seeker) "reached" = some none)
    (xcl_NoBytes : PySem.W.hasDictIn K C_NoBytes = true)
    (xga_NoBytes : PySem.W.findIn K (.ref C_NoBytes) "__getattribute__" = some (some (.builtin "BaseException.__getattribute__")))
    (xgt_NoBytes : PySem.W.findIn K (.ref C_NoBytes) "__getattr__" = some none)
    (xca_NoBytes : PySem.W.findIn K (.ref C_NoBytes) "__class__" = some (some (.builtin "object.__class__")))
    (xmo_NoBytes : PySem.W.mroIn K C_NoBytes (.type "object") = some true)
    (xmb_NoBytes : PySem.W.mroIn K C_NoBytes (.type "BaseException") = some true)
    (r_NoBytes : PySem.W.excIn K C_NoBytes [.type "ValueError", .type "Exception", .type "BaseException", .type "object"] "ValueError.__new__" = true)
    (xcl_NoChance : PySem.W.hasDictIn K C_NoChance = true)
    (xga_NoChance : PySem.W.findIn K (.ref C_NoChance) "__getattribute__" = some (some (.builtin "BaseException.__getattribute__")))
    (xgt_NoChance : PySem.W.findIn K (.ref C_NoChance) "__getattr__" = some none)
    (xca_NoChance : PySem.W.findIn K (.ref C_NoChance) "__class__" = some (some (.builtin "object.__class__")))
    (xmo_NoChance : PySem.W.mroIn K C_NoChance (.type "object") = some true)
    (xmb_NoChance : PySem.W.mroIn K C_NoChance (.type "BaseException") = some true)
    (r_NoChance : PySem.W.excIn K C_NoChance [.type "ValueError", .type "Exception", .type "BaseException", .type "object"] "ValueError.__new__" = true)
    (xcl_NoBit : PySem.W.hasDictIn K C_NoBit = true)
    (xga_NoBit : PySem.W.findIn K (.ref C_NoBit) "__getattribute__" = some (some (.builtin "BaseException.__getattribute__")))
    (xgt_NoBit : PySem.W.findIn K (.ref C_NoBit) "__getattr__" = some none)
    (xca_NoBit : PySem.W.findIn K (.ref C_NoBit) "__class__" = some (some (.builtin "object.__class__")))
    (xmo_NoBit : PySem.W.mroIn K C_NoBit (.type "object") = some true)
    (xmb_NoBit : PySem.W.mroIn K C_NoBit (.type "BaseException") = some true)
    (r_NoBit : PySem.W.excIn K C_NoBit [.type "ValueError", .type "Exception", .type "BaseException", .type "object"] "ValueError.__new__" = true)
    (xgg : PySem.W.specialIn K (.builtin "object.__class__") "__get__" = some (some (.builtin "getset_descriptor.__get__")))
    (xtk : PySem.W.takesIn K (.builtin "object.__class__") = some true)
    (eb_ForetellError : PySem.W.subIn K (.ref C_ForetellError) (.type "BaseException") = some true)
    (ed_ForetellError : PySem.W.hasDictIn K C_ForetellError = true)
    (et_ForetellError : PySem.W.typeIn K (.ref C_ForetellError) = some (.type "type"))
    (em_NoBytes_ForetellError : PySem.W.subIn K (.ref C_NoBytes) (.ref C_ForetellError) = some true)
    (em_NoChance_ForetellError : PySem.W.subIn K (.ref C_NoChance) (.ref C_ForetellError) = some true)
    (em_NoBit_ForetellError : PySem.W.subIn K (.ref C_NoBit) (.ref C_ForetellError) = some true)
    (ki_NoBytes_ValueError : PySem.W.kitOne K (.ref C_NoBytes) (.type "ValueError") = some true)
    (ki_NoBytes_NoBytes : PySem.W.kitOne K (.ref C_NoBytes) (.ref C_NoBytes) = some true)
    (ki_NoBytes_NoBit : PySem.W.kitOne K (.ref C_NoBytes) (.ref C_NoBit) = some false)
    (ki_NoBytes_NoChance : PySem.W.kitOne K (.ref C_NoBytes) (.ref C_NoChance) = some false)
    (ka_NoBytes_0 : PySem.W.kitAny K (.ref C_NoBytes) [.ref C_NoMost, .ref C_NoPress, .ref C_NoText] = some false)
    (ki_NoChance_ValueError : PySem.W.kitOne K (.ref C_NoChance) (.type "ValueError") = some true)
    (ki_NoChance_NoBytes : PySem.W.kitOne K (.ref C_NoChance) (.ref C_NoBytes) = some false)
    (ki_NoChance_NoBit : PySem.W.kitOne K (.ref C_NoChance) (.ref C_NoBit) = some false)
    (ki_NoChance_NoChance : PySem.W.kitOne K (.ref C_NoChance) (.ref C_NoChance) = some true)
    (ka_NoChance_0 : PySem.W.kitAny K (.ref C_NoChance) [.ref C_NoMost, .ref C_NoPress, .ref C_NoText] = some false)
    (ki_NoBit_ValueError : PySem.W.kitOne K (.ref C_NoBit) (.type "ValueError") = some true)
    (ki_NoBit_NoBytes : PySem.W.kitOne K (.ref C_NoBit) (.ref C_NoBytes) = some false)
    (ki_NoBit_NoBit : PySem.W.kitOne K (.ref C_NoBit) (.ref C_NoBit) = some true)
    (ki_NoBit_NoChance : PySem.W.kitOne K (.ref C_NoBit) (.ref C_NoChance) = some false)
    (ka_NoBit_0 : PySem.W.kitAny K (.ref C_NoBit) [.ref C_NoMost, .ref C_NoPress, .ref C_NoText] = some false)
    (z_isinstance : PySem.W.nsIn K mainGlobals "isinstance" = some none)
    (z_int : PySem.W.nsIn K mainGlobals "int" = some none)
    (z_bool : PySem.W.nsIn K mainGlobals "bool" = some none)
    (z_list : PySem.W.nsIn K mainGlobals "list" = some none)
    (z_all : PySem.W.nsIn K mainGlobals "all" = some none)
    (z_len : PySem.W.nsIn K mainGlobals "len" = some none)
    (z_ValueError : PySem.W.nsIn K mainGlobals "ValueError" = some none)
    (z_range : PySem.W.nsIn K mainGlobals "range" = some none)
    (v_LEAST : PySem.W.nsIn K mainGlobals "LEAST" = some (some (.int 32768 t_LEAST)))
    (v_ONE : PySem.W.nsIn K mainGlobals "ONE" = some (some (.int 16777216 t_ONE)))
    (v_MOST_BYTES : PySem.W.nsIn K mainGlobals "MOST_BYTES" = some (some (.int 12000 t_MOST_BYTES)))
    (v_FIRST_WIDTH : PySem.W.nsIn K mainGlobals "FIRST_WIDTH" = some (some (.int 1099511627776 t_FIRST_WIDTH)))
    (v_FIRST_SIZE : PySem.W.nsIn K mainGlobals "FIRST_SIZE" = some (some (.int 5 t_FIRST_SIZE)))
    (v_LEAST_WIDTH : PySem.W.nsIn K mainGlobals "LEAST_WIDTH" = some (some (.int 4294967296 t_LEAST_WIDTH)))
    : ∃ fd : FuncData, (∀ (s : Shared) (v : Value), BindsTo s fd ⟨[v], []⟩ [("_law_script", v)]) ∧ ∀ base : Heap, K.In base → base.Ns mainGlobals mg → FnOk l.prog w K mg base CX0 8 fa fd ["_law_script"] (sp_law K) := by
  have e := hfa.symm.trans (PySem.W.mg_of X G a_law)
  cases e
  have F_is_whole := fun_mk (st := s_is_whole) l_is_whole c_is_whole k_is_whole
  have F_is_bit := fun_mk (st := s_is_bit) l_is_bit c_is_bit k_is_bit
  have F_is_chance := fun_mk (st := s_is_chance) l_is_chance c_is_chance k_is_chance
  have F_is_sign := fun_mk (st := s_is_sign) l_is_sign c_is_sign k_is_sign
  have F_is_list_of_signs := fun_mk (st := s_is_list_of_signs) l_is_list_of_signs c_is_list_of_signs k_is_list_of_signs
  have F_checked_bytes := fun_mk (st := s_checked_bytes) l_checked_bytes c_checked_bytes k_checked_bytes
  have F_check_chance := fun_mk (st := s_check_chance) l_check_chance c_check_chance k_check_chance
  have F_check_bit := fun_mk (st := s_check_bit) l_check_bit c_check_bit k_check_bit
  have F_written := fun_mk (st := s_written) l_written c_written k_written
  have F_first_block := fun_mk (st := s_first_block) l_first_block c_first_block k_first_block
  have F_Span___init__ := fun_mk (st := s_Span___init__) l_Span___init__ c_Span___init__ k_Span___init__
  have F_Span_ends := fun_mk (st := s_Span_ends) l_Span_ends c_Span_ends k_Span_ends
  have F_Span_cut := fun_mk (st := s_Span_cut) l_Span_cut c_Span_cut k_Span_cut
  have F_Span_narrow := fun_mk (st := s_Span_narrow) l_Span_narrow c_Span_narrow k_Span_narrow
  have F_Span_settled := fun_mk (st := s_Span_settled) l_Span_settled c_Span_settled k_Span_settled
  have F_Span_holds_block := fun_mk (st := s_Span_holds_block) l_Span_holds_block c_Span_holds_block k_Span_holds_block
  have F_Span_told := fun_mk (st := s_Span_told) l_Span_told c_Span_told k_Span_told
  have F_Seeker___init__ := fun_mk (st := s_Seeker___init__) l_Seeker___init__ c_Seeker___init__ k_Seeker___init__
  have F_Seeker_follow := fun_mk (st := s_Seeker_follow) l_Seeker_follow c_Seeker_follow k_Seeker_follow
  have F_Seeker_byte_at := fun_mk (st := s_Seeker_byte_at) l_Seeker_byte_at c_Seeker_byte_at k_Seeker_byte_at
  have F_Seeker_bit := fun_mk (st := s_Seeker_bit) l_Seeker_bit c_Seeker_bit k_Seeker_bit
  have F_Seeker_ends := fun_mk (st := s_Seeker_ends) l_Seeker_ends c_Seeker_ends k_Seeker_ends
  have F__law_cell_at := fun_mk (st := s__law_cell_at) l__law_cell_at c__law_cell_at k__law_cell_at
  have F__law_step := fun_mk (st := s__law_step) l__law_step c__law_step k__law_step
  have F__law_kinds := fun_mk (st := s__law_kinds) l__law_kinds c__law_kinds k__law_kinds
  have F_law := fun_mk (st := s_law) l_law c_law k_law
  have T : Txt K mg { f_is_whole := f_is_whole, d_is_whole := PySem.W.fnOf "is_whole" "is_whole" (defArgs s_is_whole) (defBody s_is_whole) (defScope s_is_whole) .none kV_is_whole dc_is_whole pm_is_whole an_is_whole cd_is_whole ct_is_whole, f_is_bit := f_is_bit, d_is_bit := PySem.W.fnOf "is_bit" "is_bit" (defArgs s_is_bit) (defBody s_is_bit) (defScope s_is_bit) .none kV_is_bit dc_is_bit pm_is_bit an_is_bit cd_is_bit ct_is_bit, f_is_chance := f_is_chance, d_is_chance := PySem.W.fnOf "is_chance" "is_chance" (defArgs s_is_chance) (defBody s_is_chance) (defScope s_is_chance) .none kV_is_chance dc_is_chance pm_is_chance an_is_chance cd_is_chance ct_is_chance, f_is_sign := f_is_sign, d_is_sign := PySem.W.fnOf "is_sign" "is_sign" (defArgs s_is_sign) (defBody s_is_sign) (defScope s_is_sign) .none kV_is_sign dc_is_sign pm_is_sign an_is_sign cd_is_sign ct_is_sign, f_is_list_of_signs := f_is_list_of_signs, d_is_list_of_signs := PySem.W.fnOf "is_list_of_signs" "is_list_of_signs" (defArgs s_is_list_of_signs) (defBody s_is_list_of_signs) (defScope s_is_list_of_signs) .none kV_is_list_of_signs dc_is_list_of_signs pm_is_list_of_signs an_is_list_of_signs cd_is_list_of_signs ct_is_list_of_signs, f_checked_bytes := f_checked_bytes, d_checked_bytes := PySem.W.fnOf "checked_bytes" "checked_bytes" (defArgs s_checked_bytes) (defBody s_checked_bytes) (defScope s_checked_bytes) .none kV_checked_bytes dc_checked_bytes pm_checked_bytes an_checked_bytes cd_checked_bytes ct_checked_bytes, f_check_chance := f_check_chance, d_check_chance := PySem.W.fnOf "check_chance" "check_chance" (defArgs s_check_chance) (defBody s_check_chance) (defScope s_check_chance) .none kV_check_chance dc_check_chance pm_check_chance an_check_chance cd_check_chance ct_check_chance, f_check_bit := f_check_bit, d_check_bit := PySem.W.fnOf "check_bit" "check_bit" (defArgs s_check_bit) (defBody s_check_bit) (defScope s_check_bit) .none kV_check_bit dc_check_bit pm_check_bit an_check_bit cd_check_bit ct_check_bit, f_written := f_written, d_written := PySem.W.fnOf "written" "written" (defArgs s_written) (defBody s_written) (defScope s_written) .none kV_written dc_written pm_written an_written cd_written ct_written, f_first_block := f_first_block, d_first_block := PySem.W.fnOf "first_block" "first_block" (defArgs s_first_block) (defBody s_first_block) (defScope s_first_block) .none kV_first_block dc_first_block pm_first_block an_first_block cd_first_block ct_first_block, f_Span___init__ := f_Span___init__, d_Span___init__ := PySem.W.fnOf "__init__" "Span.__init__" (defArgs s_Span___init__) (defBody s_Span___init__) (defScope s_Span___init__) .none kV_Span___init__ dc_Span___init__ pm_Span___init__ an_Span___init__ cd_Span___init__ ct_Span___init__, f_Span_ends := f_Span_ends, d_Span_ends := PySem.W.fnOf "ends" "Span.ends" (defArgs s_Span_ends) (defBody s_Span_ends) (defScope s_Span_ends) .none kV_Span_ends dc_Span_ends pm_Span_ends an_Span_ends cd_Span_ends ct_Span_ends, f_Span_cut := f_Span_cut, d_Span_cut := PySem.W.fnOf "cut" "Span.cut" (defArgs s_Span_cut) (defBody s_Span_cut) (defScope s_Span_cut) .none kV_Span_cut dc_Span_cut pm_Span_cut an_Span_cut cd_Span_cut ct_Span_cut, f_Span_narrow := f_Span_narrow, d_Span_narrow := PySem.W.fnOf "narrow" "Span.narrow" (defArgs s_Span_narrow) (defBody s_Span_narrow) (defScope s_Span_narrow) .none kV_Span_narrow dc_Span_narrow pm_Span_narrow an_Span_narrow cd_Span_narrow ct_Span_narrow, f_Span_settled := f_Span_settled, d_Span_settled := PySem.W.fnOf "settled" "Span.settled" (defArgs s_Span_settled) (defBody s_Span_settled) (defScope s_Span_settled) .none kV_Span_settled dc_Span_settled pm_Span_settled an_Span_settled cd_Span_settled ct_Span_settled, f_Span_holds_block := f_Span_holds_block, d_Span_holds_block := PySem.W.fnOf "holds_block" "Span.holds_block" (defArgs s_Span_holds_block) (defBody s_Span_holds_block) (defScope s_Span_holds_block) .none kV_Span_holds_block dc_Span_holds_block pm_Span_holds_block an_Span_holds_block cd_Span_holds_block ct_Span_holds_block, f_Span_told := f_Span_told, d_Span_told := PySem.W.fnOf "told" "Span.told" (defArgs s_Span_told) (defBody s_Span_told) (defScope s_Span_told) .none kV_Span_told dc_Span_told pm_Span_told an_Span_told cd_Span_told ct_Span_told, f_Seeker___init__ := f_Seeker___init__, d_Seeker___init__ := PySem.W.fnOf "__init__" "Seeker.__init__" (defArgs s_Seeker___init__) (defBody s_Seeker___init__) (defScope s_Seeker___init__) .none kV_Seeker___init__ dc_Seeker___init__ pm_Seeker___init__ an_Seeker___init__ cd_Seeker___init__ ct_Seeker___init__, f_Seeker_follow := f_Seeker_follow, d_Seeker_follow := PySem.W.fnOf "follow" "Seeker.follow" (defArgs s_Seeker_follow) (defBody s_Seeker_follow) (defScope s_Seeker_follow) .none kV_Seeker_follow dc_Seeker_follow pm_Seeker_follow an_Seeker_follow cd_Seeker_follow ct_Seeker_follow, f_Seeker_byte_at := f_Seeker_byte_at, d_Seeker_byte_at := PySem.W.fnOf "byte_at" "Seeker.byte_at" (defArgs s_Seeker_byte_at) (defBody s_Seeker_byte_at) (defScope s_Seeker_byte_at) .none kV_Seeker_byte_at dc_Seeker_byte_at pm_Seeker_byte_at an_Seeker_byte_at cd_Seeker_byte_at ct_Seeker_byte_at, f_Seeker_bit := f_Seeker_bit, d_Seeker_bit := PySem.W.fnOf "bit" "Seeker.bit" (defArgs s_Seeker_bit) (defBody s_Seeker_bit) (defScope s_Seeker_bit) .none kV_Seeker_bit dc_Seeker_bit pm_Seeker_bit an_Seeker_bit cd_Seeker_bit ct_Seeker_bit, f_Seeker_ends := f_Seeker_ends, d_Seeker_ends := PySem.W.fnOf "ends" "Seeker.ends" (defArgs s_Seeker_ends) (defBody s_Seeker_ends) (defScope s_Seeker_ends) .none kV_Seeker_ends dc_Seeker_ends pm_Seeker_ends an_Seeker_ends cd_Seeker_ends ct_Seeker_ends, f__law_cell_at := f__law_cell_at, d__law_cell_at := PySem.W.fnOf "_law_cell_at" "_law_cell_at" (defArgs s__law_cell_at) (defBody s__law_cell_at) (defScope s__law_cell_at) .none kV__law_cell_at dc__law_cell_at pm__law_cell_at an__law_cell_at cd__law_cell_at ct__law_cell_at, f__law_step := f__law_step, d__law_step := PySem.W.fnOf "_law_step" "_law_step" (defArgs s__law_step) (defBody s__law_step) (defScope s__law_step) .none kV__law_step dc__law_step pm__law_step an__law_step cd__law_step ct__law_step, f__law_kinds := f__law_kinds, d__law_kinds := PySem.W.fnOf "_law_kinds" "_law_kinds" (defArgs s__law_kinds) (defBody s__law_kinds) (defScope s__law_kinds) .none kV__law_kinds dc__law_kinds pm__law_kinds an__law_kinds cd__law_kinds ct__law_kinds, f_law := fa, d_law := PySem.W.fnOf "law" "law" (defArgs s_law) (defBody s_law) (defScope s_law) .none kV_law dc_law pm_law an_law cd_law ct_law, C_Span := C_Span, C_Seeker := C_Seeker, C_NoBytes := C_NoBytes, C_NoChance := C_NoChance, C_NoBit := C_NoBit, C_ForetellError := C_ForetellError, C_NoMost := C_NoMost, C_NoPress := C_NoPress, C_NoText := C_NoText, t_LEAST := t_LEAST, t_ONE := t_ONE, t_MOST_BYTES := t_MOST_BYTES, t_FIRST_WIDTH := t_FIRST_WIDTH, t_FIRST_SIZE := t_FIRST_SIZE, t_LEAST_WIDTH := t_LEAST_WIDTH } := {
    F_is_whole := F_is_whole
    B_is_whole := F_is_whole.binds (ps := ["thing"]) fun _ _ _ _ _ _ us hl => match us, hl with | [_], _ => rfl
    m_is_whole := PySem.W.mg_of X G a_is_whole
    F_is_bit := F_is_bit
    B_is_bit := F_is_bit.binds (ps := ["thing"]) fun _ _ _ _ _ _ us hl => match us, hl with | [_], _ => rfl
    m_is_bit := PySem.W.mg_of X G a_is_bit
    F_is_chance := F_is_chance
    B_is_chance := F_is_chance.binds (ps := ["thing"]) fun _ _ _ _ _ _ us hl => match us, hl with | [_], _ => rfl
    m_is_chance := PySem.W.mg_of X G a_is_chance
    F_is_sign := F_is_sign
    B_is_sign := F_is_sign.binds (ps := ["thing"]) fun _ _ _ _ _ _ us hl => match us, hl with | [_], _ => rfl
    m_is_sign := PySem.W.mg_of X G a_is_sign
    F_is_list_of_signs := F_is_list_of_signs
    B_is_list_of_signs := F_is_list_of_signs.binds (ps := ["thing", "most"]) fun _ _ _ _ _ _ us hl => match us, hl with | [_, _], _ => rfl
    m_is_list_of_signs := PySem.W.mg_of X G a_is_list_of_signs
    F_checked_bytes := F_checked_bytes
    B_checked_bytes := F_checked_bytes.binds (ps := ["thing"]) fun _ _ _ _ _ _ us hl => match us, hl with | [_], _ => rfl
    m_checked_bytes := PySem.W.mg_of X G a_checked_bytes
    F_check_chance := F_check_chance
    B_check_chance := F_check_chance.binds (ps := ["thing"]) fun _ _ _ _ _ _ us hl => match us, hl with | [_], _ => rfl
    m_check_chance := PySem.W.mg_of X G a_check_chance
    F_check_bit := F_check_bit
    B_check_bit := F_check_bit.binds (ps := ["thing"]) fun _ _ _ _ _ _ us hl => match us, hl with | [_], _ => rfl
    m_check_bit := PySem.W.mg_of X G a_check_bit
    F_written := F_written
    B_written := F_written.binds (ps := ["number", "size"]) fun _ _ _ _ _ _ us hl => match us, hl with | [_, _], _ => rfl
    m_written := PySem.W.mg_of X G a_written
    F_first_block := F_first_block
    B_first_block := F_first_block.binds (ps := ["low", "unit"]) fun _ _ _ _ _ _ us hl => match us, hl with | [_, _], _ => rfl
    m_first_block := PySem.W.mg_of X G a_first_block
    F_Span___init__ := F_Span___init__
    B_Span___init__ := F_Span___init__.binds (ps := ["self"]) fun _ _ _ _ _ _ us hl => match us, hl with | [_], _ => rfl
    F_Span_ends := F_Span_ends
    B_Span_ends := F_Span_ends.binds (ps := ["self"]) fun _ _ _ _ _ _ us hl => match us, hl with | [_], _ => rfl
    M_Span_ends := ⟨a_Span_ends, i_Span_ends, k_Span_ends⟩
    F_Span_cut := F_Span_cut
    B_Span_cut := F_Span_cut.binds (ps := ["self", "chance"]) fun _ _ _ _ _ _ us hl => match us, hl with | [_, _], _ => rfl
    M_Span_cut := ⟨a_Span_cut, i_Span_cut, k_Span_cut⟩
    F_Span_narrow := F_Span_narrow
    B_Span_narrow := F_Span_narrow.binds (ps := ["self", "chance", "bit"]) fun _ _ _ _ _ _ us hl => match us, hl with | [_, _, _], _ => rfl
    M_Span_narrow := ⟨a_Span_narrow, i_Span_narrow, k_Span_narrow⟩
    F_Span_settled := F_Span_settled
    B_Span_settled := F_Span_settled.binds (ps := ["self"]) fun _ _ _ _ _ _ us hl => match us, hl with | [_], _ => rfl
    M_Span_settled := ⟨a_Span_settled, i_Span_settled, k_Span_settled⟩
    F_Span_holds_block := F_Span_holds_block
    B_Span_holds_block := F_Span_holds_block.binds (ps := ["self", "unit"]) fun _ _ _ _ _ _ us hl => match us, hl with | [_, _], _ => rfl
    M_Span_holds_block := ⟨a_Span_holds_block, i_Span_holds_block, k_Span_holds_block⟩
    F_Span_told := F_Span_told
    B_Span_told := F_Span_told.binds (ps := ["self"]) fun _ _ _ _ _ _ us hl => match us, hl with | [_], _ => rfl
    M_Span_told := ⟨a_Span_told, i_Span_told, k_Span_told⟩
    F_Seeker___init__ := F_Seeker___init__
    B_Seeker___init__ := F_Seeker___init__.binds (ps := ["self", "data"]) fun _ _ _ _ _ _ us hl => match us, hl with | [_, _], _ => rfl
    F_Seeker_follow := F_Seeker_follow
    B_Seeker_follow := F_Seeker_follow.binds (ps := ["self"]) fun _ _ _ _ _ _ us hl => match us, hl with | [_], _ => rfl
    M_Seeker_follow := ⟨a_Seeker_follow, i_Seeker_follow, k_Seeker_follow⟩
    F_Seeker_byte_at := F_Seeker_byte_at
    B_Seeker_byte_at := F_Seeker_byte_at.binds (ps := ["self", "place"]) fun _ _ _ _ _ _ us hl => match us, hl with | [_, _], _ => rfl
    M_Seeker_byte_at := ⟨a_Seeker_byte_at, i_Seeker_byte_at, k_Seeker_byte_at⟩
    F_Seeker_bit := F_Seeker_bit
    B_Seeker_bit := F_Seeker_bit.binds (ps := ["self", "chance"]) fun _ _ _ _ _ _ us hl => match us, hl with | [_, _], _ => rfl
    M_Seeker_bit := ⟨a_Seeker_bit, i_Seeker_bit, k_Seeker_bit⟩
    F_Seeker_ends := F_Seeker_ends
    B_Seeker_ends := F_Seeker_ends.binds (ps := ["self"]) fun _ _ _ _ _ _ us hl => match us, hl with | [_], _ => rfl
    M_Seeker_ends := ⟨a_Seeker_ends, i_Seeker_ends, k_Seeker_ends⟩
    F__law_cell_at := F__law_cell_at
    B__law_cell_at := F__law_cell_at.binds (ps := ["_law_script", "_law_k"]) fun _ _ _ _ _ _ us hl => match us, hl with | [_, _], _ => rfl
    m__law_cell_at := PySem.W.mg_of X G a__law_cell_at
    F__law_step := F__law_step
    B__law_step := F__law_step.binds (ps := ["_law_cell"]) fun _ _ _ _ _ _ us hl => match us, hl with | [_], _ => rfl
    m__law_step := PySem.W.mg_of X G a__law_step
    F__law_kinds := F__law_kinds
    B__law_kinds := F__law_kinds.binds (ps := ["_law_way", "_law_thing", "_law_chance", "_law_bit"]) fun _ _ _ _ _ _ us hl => match us, hl with | [_, _, _, _], _ => rfl
    m__law_kinds := PySem.W.mg_of X G a__law_kinds
    F_law := F_law
    B_law := F_law.binds (ps := ["_law_script"]) fun _ _ _ _ _ _ us hl => match us, hl with | [_], _ => rfl
    m_law := PySem.W.mg_of X G a_law
    cl_Span := ⟨pg_Span, hd_Span, po_Span, sa_Span⟩
    m_Span := PySem.W.mg_of X G aC_Span
    k_Span := ⟨mk_Span, a_Span___init__, i_Span___init__, kc_Span⟩
    n_Span_low := n_Span_low
    n_Span_width := n_Span_width
    n_Span_size := n_Span_size
    cl_Seeker := ⟨pg_Seeker, hd_Seeker, po_Seeker, sa_Seeker⟩
    m_Seeker := PySem.W.mg_of X G aC_Seeker
    k_Seeker := ⟨mk_Seeker, a_Seeker___init__, i_Seeker___init__, kc_Seeker⟩
    n_Seeker_data := n_Seeker_data
    n_Seeker_span := n_Seeker_span
    n_Seeker_number := n_Seeker_number
    n_Seeker_reached := n_Seeker_reached
    m_NoBytes := PySem.W.mg_of X G aC_NoBytes
    m_NoChance := PySem.W.mg_of X G aC_NoChance
    m_NoBit := PySem.W.mg_of X G aC_NoBit
    m_ForetellError := PySem.W.mg_of X G aC_ForetellError
    m_NoMost := PySem.W.mg_of X G aC_NoMost
    m_NoPress := PySem.W.mg_of X G aC_NoPress
    m_NoText := PySem.W.mg_of X G aC_NoText
    x_NoBytes := ⟨xcl_NoBytes, xga_NoBytes, xgt_NoBytes, xca_NoBytes, xgg, xtk, xmo_NoBytes, xmb_NoBytes⟩
    r_NoBytes := r_NoBytes
    x_NoChance := ⟨xcl_NoChance, xga_NoChance, xgt_NoChance, xca_NoChance, xgg, xtk, xmo_NoChance, xmb_NoChance⟩
    r_NoChance := r_NoChance
    x_NoBit := ⟨xcl_NoBit, xga_NoBit, xgt_NoBit, xca_NoBit, xgg, xtk, xmo_NoBit, xmb_NoBit⟩
    r_NoBit := r_NoBit
    ki_NoBytes_ValueError := ki_NoBytes_ValueError
    ki_NoBytes_NoBytes := ki_NoBytes_NoBytes
    ki_NoBytes_NoBit := ki_NoBytes_NoBit
    ki_NoBytes_NoChance := ki_NoBytes_NoChance
    ka_NoBytes_0 := ka_NoBytes_0
    em_NoBytes_ForetellError := exm_mk eb_ForetellError ed_ForetellError et_ForetellError em_NoBytes_ForetellError
    ki_NoChance_ValueError := ki_NoChance_ValueError
    ki_NoChance_NoBytes := ki_NoChance_NoBytes
    ki_NoChance_NoBit := ki_NoChance_NoBit
    ki_NoChance_NoChance := ki_NoChance_NoChance
    ka_NoChance_0 := ka_NoChance_0
    em_NoChance_ForetellError := exm_mk eb_ForetellError ed_ForetellError et_ForetellError em_NoChance_ForetellError
    ki_NoBit_ValueError := ki_NoBit_ValueError
    ki_NoBit_NoBytes := ki_NoBit_NoBytes
    ki_NoBit_NoBit := ki_NoBit_NoBit
    ki_NoBit_NoChance := ki_NoBit_NoChance
    ka_NoBit_0 := ka_NoBit_0
    em_NoBit_ForetellError := exm_mk eb_ForetellError ed_ForetellError et_ForetellError em_NoBit_ForetellError
    z_isinstance := PySem.W.mg_none_of X G z_isinstance
    z_int := PySem.W.mg_none_of X G z_int
    z_bool := PySem.W.mg_none_of X G z_bool
    z_list := PySem.W.mg_none_of X G z_list
    z_all := PySem.W.mg_none_of X G z_all
    z_len := PySem.W.mg_none_of X G z_len
    z_ValueError := PySem.W.mg_none_of X G z_ValueError
    z_range := PySem.W.mg_none_of X G z_range
    c_LEAST := PySem.W.mg_of X G v_LEAST
    c_ONE := PySem.W.mg_of X G v_ONE
    c_MOST_BYTES := PySem.W.mg_of X G v_MOST_BYTES
    c_FIRST_WIDTH := PySem.W.mg_of X G v_FIRST_WIDTH
    c_FIRST_SIZE := PySem.W.mg_of X G v_FIRST_SIZE
    c_LEAST_WIDTH := PySem.W.mg_of X G v_LEAST_WIDTH
    }
  exact ⟨_, fun s v => .of_eq rfl, fun base _ _ => ok_law T⟩
theorem walk {l : PySem.W.OpenLaw} {q : Program} {loose : List Str} {XP : (Str → Option Value) → Heap → Prop} {YP : World → Heap → Prop} {d : DefRec} {K : Params → PySem.W.Frag} (hn : l.most = some 63) (hdf : d.params.defaults = [])
    (hY : ∀ (w : World) (h : Heap), YP w h → (K w.params).In h)
    (F : ∀ (w : World) (mg : Str → Option Value) (fa : Addr) (h : Heap), (K w.params).In h → h.Ns mainGlobals mg → mg d.name = some (.ref fa) →
      ∃ fd : FuncData, (∀ (s : Shared) (u : Value), BindsTo s fd ⟨[u], []⟩ [("_law_script", u)]) ∧ ∀ base : Heap, (K w.params).In base → base.Ns mainGlobals mg → FnOk l.prog w (K w.params) mg base CX0 8 fa fd ["_law_script"] (sp_law (K w.params))) :
    PySem.W.WalkO q loose XP YP l.row.toRowW d [] (fun f vs => PySem.call f vs) :=
  L2.walk_of (n := 63) (k := 8) (x := "_law_script") (CX := fun _ => CX0) (sp := fun w => sp_law (K w.params)) hn (by decide) hdf ⟨rfl, by decide, by decide⟩ hY F (fun _ _ a ns hl _ hS => ⟨a, ns, rfl, hS, hl, fun _ => rfl⟩) fun _ _ _ _ _ z => z
end Law
open PySem PySem.W PyProof.Rows
set_option maxRecDepth 100000 in
set_option maxHeartbeats 0 in
theorem PySem.Challenge.cw_foretell_k04_span_refused_holds : PySem.Challenge.rw_foretell_k04_span_refused.Holds := by
  w_on; o_law; k_head; (case hw => w_witness2)
  k_fill
  refine Law.walk (l := PySem.Challenge.rw_foretell_k04_span_refused) rfl rfl (fun w h Y => PySem.W.kIn_of Y) ?F
  case F =>
    intro w mg fa h KX G hmg
    refine' Law.all_mk KX G hmg ?aC_Span ?aC_Seeker ?aC_NoBytes ?aC_NoChance ?aC_NoBit ?aC_ForetellError ?aC_NoMost ?aC_NoPress ?aC_NoText ?a_is_whole ?l_is_whole ?c_is_whole ?k_is_whole ?a_is_bit ?l_is_bit ?c_is_bit ?k_is_bit ?a_is_chance ?l_is_chance ?c_is_chance ?k_is_chance ?a_is_sign ?l_is_sign ?c_is_sign ?k_is_sign ?a_is_list_of_signs ?l_is_list_of_signs ?c_is_list_of_signs ?k_is_list_of_signs ?a_checked_bytes ?l_checked_bytes ?c_checked_bytes ?k_checked_bytes ?a_check_chance ?l_check_chance ?c_check_chance ?k_check_chance ?a_check_bit ?l_check_bit ?c_check_bit ?k_check_bit ?a_written ?l_written ?c_written ?k_written ?a_first_block ?l_first_block ?c_first_block ?k_first_block ?a_Span___init__ ?i_Span___init__ ?l_Span___init__ ?c_Span___init__ ?k_Span___init__ ?a_Span_ends ?i_Span_ends ?l_Span_ends ?c_Span_ends ?k_Span_ends ?a_Span_cut ?i_Span_cut ?l_Span_cut ?c_Span_cut ?k_Span_cut ?a_Span_narrow ?i_Span_narrow ?l_Span_narrow ?c_Span_narrow ?k_Span_narrow ?a_Span_settled ?i_Span_settled ?l_Span_settled ?c_Span_settled ?k_Span_settled ?a_Span_holds_block ?i_Span_holds_block ?l_Span_holds_block ?c_Span_holds_block ?k_Span_holds_block ?a_Span_told ?i_Span_told ?l_Span_told ?c_Span_told ?k_Span_told ?a_Seeker___init__ ?i_Seeker___init__ ?l_Seeker___init__ ?c_Seeker___init__ ?k_Seeker___init__ ?a_Seeker_follow ?i_Seeker_follow ?l_Seeker_follow ?c_Seeker_follow ?k_Seeker_follow ?a_Seeker_byte_at ?i_Seeker_byte_at ?l_Seeker_byte_at ?c_Seeker_byte_at ?k_Seeker_byte_at ?a_Seeker_bit ?i_Seeker_bit ?l_Seeker_bit ?c_Seeker_bit ?k_Seeker_bit ?a_Seeker_ends ?i_Seeker_ends ?l_Seeker_ends ?c_Seeker_ends ?k_Seeker_ends ?a__law_cell_at ?l__law_cell_at ?c__law_cell_at ?k__law_cell_at ?a__law_step ?l__law_step ?c__law_step ?k__law_step ?a__law_kinds ?l__law_kinds ?c__law_kinds ?k__law_kinds ?a_law ?l_law ?c_law ?k_law ?pg_Span ?hd_Span ?po_Span ?sa_Span ?mk_Span ?kc_Span ?n_Span_low ?n_Span_width ?n_Span_size ?pg_Seeker ?hd_Seeker ?po_Seeker ?sa_Seeker ?mk_Seeker ?kc_Seeker ?n_Seeker_data ?n_Seeker_span ?n_Seeker_number ?n_Seeker_reached ?xcl_NoBytes ?xga_NoBytes ?xgt_NoBytes ?xca_NoBytes ?xmo_NoBytes ?xmb_NoBytes ?r_NoBytes ?xcl_NoChance ?xga_NoChance ?xgt_NoChance ?xca_NoChance ?xmo_NoChance ?xmb_NoChance ?r_NoChance ?xcl_NoBit ?xga_NoBit ?xgt_NoBit ?xca_NoBit ?xmo_NoBit ?xmb_NoBit ?r_NoBit ?xgg ?xtk ?eb_ForetellError ?ed_ForetellError ?et_ForetellError ?em_NoBytes_ForetellError ?em_NoChance_ForetellError ?em_NoBit_ForetellError ?ki_NoBytes_ValueError ?ki_NoBytes_NoBytes ?ki_NoBytes_NoBit ?ki_NoBytes_NoChance ?ka_NoBytes_0 ?ki_NoChance_ValueError ?ki_NoChance_NoBytes ?ki_NoChance_NoBit ?ki_NoChance_NoChance ?ka_NoChance_0 ?ki_NoBit_ValueError ?ki_NoBit_NoBytes ?ki_NoBit_NoBit ?ki_NoBit_NoChance ?ka_NoBit_0 ?z_isinstance ?z_int ?z_bool ?z_list ?z_all ?z_len ?z_ValueError ?z_range ?v_LEAST ?v_ONE ?v_MOST_BYTES ?v_FIRST_WIDTH ?v_FIRST_SIZE ?v_LEAST_WIDTH
    (case aC_Span => k_is)
    (case aC_Seeker => k_is)
    (case aC_NoBytes => k_is)
    (case aC_NoChance => k_is)
    (case aC_NoBit => k_is)
    (case aC_ForetellError => k_is)
    (case aC_NoMost => k_is)
    (case aC_NoPress => k_is)
    (case aC_NoText => k_is)
    (case a_is_whole => k_is)
    (case l_is_whole => k_is)
    (case c_is_whole => k_is)
    (case k_is_whole => k_is)
    (case a_is_bit => k_is)
    (case l_is_bit => k_is)
    (case c_is_bit => k_is)
    (case k_is_bit => k_is)
    (case a_is_chance => k_is)
    (case l_is_chance => k_is)
    (case c_is_chance => k_is)
    (case k_is_chance => k_is)
    (case a_is_sign => k_is)
    (case l_is_sign => k_is)
    (case c_is_sign => k_is)
    (case k_is_sign => k_is)
    (case a_is_list_of_signs => k_is)
    (case l_is_list_of_signs => k_is)
    (case c_is_list_of_signs => k_is)
    (case k_is_list_of_signs => k_is)
    (case a_checked_bytes => k_is)
    (case l_checked_bytes => k_is)
    (case c_checked_bytes => k_is)
    (case k_checked_bytes => k_is)
    (case a_check_chance => k_is)
    (case l_check_chance => k_is)
    (case c_check_chance => k_is)
    (case k_check_chance => k_is)
    (case a_check_bit => k_is)
    (case l_check_bit => k_is)
    (case c_check_bit => k_is)
    (case k_check_bit => k_is)
    (case a_written => k_is)
    (case l_written => k_is)
    (case c_written => k_is)
    (case k_written => k_is)
    (case a_first_block => k_is)
    (case l_first_block => k_is)
    (case c_first_block => k_is)
    (case k_first_block => k_is)
    (case a_Span___init__ => k_is)
    (case i_Span___init__ => k_is)
    (case l_Span___init__ => k_is)
    (case c_Span___init__ => k_is)
    (case k_Span___init__ => k_is)
    (case a_Span_ends => k_is)
    (case i_Span_ends => k_is)
    (case l_Span_ends => k_is)
    (case c_Span_ends => k_is)
    (case k_Span_ends => k_is)
    (case a_Span_cut => k_is)
    (case i_Span_cut => k_is)
    (case l_Span_cut => k_is)
    (case c_Span_cut => k_is)
    (case k_Span_cut => k_is)
    (case a_Span_narrow => k_is)
    (case i_Span_narrow => k_is)
    (case l_Span_narrow => k_is)
    (case c_Span_narrow => k_is)
    (case k_Span_narrow => k_is)
    (case a_Span_settled => k_is)
    (case i_Span_settled => k_is)
    (case l_Span_settled => k_is)
    (case c_Span_settled => k_is)
    (case k_Span_settled => k_is)
    (case a_Span_holds_block => k_is)
    (case i_Span_holds_block => k_is)
    (case l_Span_holds_block => k_is)
    (case c_Span_holds_block => k_is)
    (case k_Span_holds_block => k_is)
    (case a_Span_told => k_is)
    (case i_Span_told => k_is)
    (case l_Span_told => k_is)
    (case c_Span_told => k_is)
    (case k_Span_told => k_is)
    (case a_Seeker___init__ => k_is)
    (case i_Seeker___init__ => k_is)
    (case l_Seeker___init__ => k_is)
    (case c_Seeker___init__ => k_is)
    (case k_Seeker___init__ => k_is)
    (case a_Seeker_follow => k_is)
    (case i_Seeker_follow => k_is)
    (case l_Seeker_follow => k_is)
    (case c_Seeker_follow => k_is)
    (case k_Seeker_follow => k_is)
    (case a_Seeker_byte_at => k_is)
    (case i_Seeker_byte_at => k_is)
    (case l_Seeker_byte_at => k_is)
    (case c_Seeker_byte_at => k_is)
    (case k_Seeker_byte_at => k_is)
    (case a_Seeker_bit => k_is)
    (case i_Seeker_bit => k_is)
    (case l_Seeker_bit => k_is)
    (case c_Seeker_bit => k_is)
    (case k_Seeker_bit => k_is)
    (case a_Seeker_ends => k_is)
    (case i_Seeker_ends => k_is)
    (case l_Seeker_ends => k_is)
    (case c_Seeker_ends => k_is)
    (case k_Seeker_ends => k_is)
    (case a__law_cell_at => k_is)
    (case l__law_cell_at => k_is)
    (case c__law_cell_at => k_is)
    (case k__law_cell_at => k_is)
    (case a__law_step => k_is)
    (case l__law_step => k_is)
    (case c__law_step => k_is)
    (case k__law_step => k_is)
    (case a__law_kinds => k_is)
    (case l__law_kinds => k_is)
    (case c__law_kinds => k_is)
    (case k__law_kinds => k_is)
    (case a_law => k_is)
    (case l_law => k_is)
    (case c_law => k_is)
    (case k_law => k_is)
    (case pg_Span => k_is)
    (case hd_Span => k_is)
    (case po_Span => k_is)
    (case sa_Span => k_is)
    (case mk_Span => k_is)
    (case kc_Span => k_is)
    (case n_Span_low => k_is)
    (case n_Span_width => k_is)
    (case n_Span_size => k_is)
    (case pg_Seeker => k_is)
    (case hd_Seeker => k_is)
    (case po_Seeker => k_is)
    (case sa_Seeker => k_is)
    (case mk_Seeker => k_is)
    (case kc_Seeker => k_is)
    (case n_Seeker_data => k_is)
    (case n_Seeker_span => k_is)
    (case n_Seeker_number => k_is)
    (case n_Seeker_reached => k_is)
    (case xcl_NoBytes => k_is)
    (case xga_NoBytes => k_is)
    (case xgt_NoBytes => k_is)
    (case xca_NoBytes => k_is)
    (case xmo_NoBytes => k_is)
    (case xmb_NoBytes => k_is)
    (case r_NoBytes => k_exc)
    (case xcl_NoChance => k_is)
    (case xga_NoChance => k_is)
    (case xgt_NoChance => k_is)
    (case xca_NoChance => k_is)
    (case xmo_NoChance => k_is)
    (case xmb_NoChance => k_is)
    (case r_NoChance => k_exc)
    (case xcl_NoBit => k_is)
    (case xga_NoBit => k_is)
    (case xgt_NoBit => k_is)
    (case xca_NoBit => k_is)
    (case xmo_NoBit => k_is)
    (case xmb_NoBit => k_is)
    (case r_NoBit => k_exc)
    (case xgg => k_is)
    (case xtk => k_is)
    (case eb_ForetellError => k_is)
    (case ed_ForetellError => k_is)
    (case et_ForetellError => k_is)
    (case em_NoBytes_ForetellError => k_is)
    (case em_NoChance_ForetellError => k_is)
    (case em_NoBit_ForetellError => k_is)
    (case ki_NoBytes_ValueError => kit_is)
    (case ki_NoBytes_NoBytes => kit_is)
    (case ki_NoBytes_NoBit => kit_is)
    (case ki_NoBytes_NoChance => kit_is)
    (case ka_NoBytes_0 => kit_is)
    (case ki_NoChance_ValueError => kit_is)
    (case ki_NoChance_NoBytes => kit_is)
    (case ki_NoChance_NoBit => kit_is)
    (case ki_NoChance_NoChance => kit_is)
    (case ka_NoChance_0 => kit_is)
    (case ki_NoBit_ValueError => kit_is)
    (case ki_NoBit_NoBytes => kit_is)
    (case ki_NoBit_NoBit => kit_is)
    (case ki_NoBit_NoChance => kit_is)
    (case ka_NoBit_0 => kit_is)
    (case z_isinstance => k_is)
    (case z_int => k_is)
    (case z_bool => k_is)
    (case z_list => k_is)
    (case z_all => k_is)
    (case z_len => k_is)
    (case z_ValueError => k_is)
    (case z_range => k_is)
    (case v_LEAST => k_is)
    (case v_ONE => k_is)
    (case v_MOST_BYTES => k_is)
    (case v_FIRST_WIDTH => k_is)
    (case v_FIRST_SIZE => k_is)
    (case v_LEAST_WIDTH => k_is)
#print axioms PySem.Challenge.cw_foretell_k04_span_refused_holds

