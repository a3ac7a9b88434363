import PyProof.Rows.All
import Wide.All
import OpenK.AllK
import Wide.FinOn
import PyProof.EqAt
import PyProof.EqKinds
import PyProof.TupleCall
import KE.BitLaws
import KE.KMinKey
import KE.KDictList
import KE.KStar
import KE.KRevSl
import PyProof.DictCompW
import KE.KTryMore
import PyProof.StrReplace2
import PyProof.StrBlock
import PyProof.AutoSeq1
import KE.KListMore
import PyProof.WalkInts
import PySem.Challenge.RW_onebend_k53_least_squares_shown
set_option Elab.async false
set_option linter.all false
set_option maxRecDepth 100000
/-! THE HAND LAYER, for ints, bools, texts, own classes, lists, tuples, dicts, comprehensions, walks over dicts, enumerate, zip, reversed, texts, calls, loops. Paste it whole ahead of your own text; what your proof does not reach may be deleted. -/
namespace L2
open PySem PySem.Spec PyProof.Rows

/-- a key: an int or a str -/
abbrev Key := Sum Int Str
def keyIs : Key → Value → Bool
  | .inl k, v => Value.isInt k v
  | .inr x, v => Value.isStrOf x v
def keyH (w : World) : Key → Int
  | .inl k => hashInt k
  | .inr x => hashStr w x
theorem keyIs_shape : ∀ {k : Key} {v : Value}, keyIs k v = true → (∃ i t, k = Sum.inl i ∧ v = Value.int i t) ∨ (∃ x t, k = Sum.inr x ∧ v = Value.str x t)
  | .inl i, v, h => by
    obtain ⟨t, e⟩ := Value.isInt_shape (k := i) (v := v) h
    exact .inl ⟨i, t, rfl, e⟩
  | .inr x, v, h => by
    obtain ⟨t, e⟩ := Value.isStrOf_shape (x := x) (v := v) h
    exact .inr ⟨x, t, rfl, e⟩
theorem keyIs_int (i : Int) (t : Tok) : keyIs (.inl i) (.int i t) = true := by simp [keyIs, Value.isInt]
theorem keyIs_str (x : Str) (t : Tok) : keyIs (.inr x) (.str x t) = true := by simp [keyIs, Value.isStrOf]
theorem key_ll (a b : Int) : decide ((Sum.inl a : Key) = Sum.inl b) = (a == b) := by
  by_cases e : a = b
  · subst e; simp
  · have h : ¬ (Sum.inl a : Key) = Sum.inl b := fun q => e (Sum.inl.inj q)
    rw [decide_eq_false h]
    exact (beq_eq_false_iff_ne.mpr e).symm
theorem key_rr (a b : Str) : decide ((Sum.inr a : Key) = Sum.inr b) = decide (a = b) := by
  by_cases e : a = b
  · subst e; simp
  · have h : ¬ (Sum.inr a : Key) = Sum.inr b := fun q => e (Sum.inr.inj q)
    rw [decide_eq_false h, decide_eq_false e]
theorem key_lr (a : Int) (b : Str) : decide ((Sum.inl a : Key) = Sum.inr b) = false := decide_eq_false (fun q => nomatch q)
theorem key_rl (a : Str) (b : Int) : decide ((Sum.inr a : Key) = Sum.inl b) = false := decide_eq_false (fun q => nomatch q)

def mixKind (prog : Program) (w : World) : PySem.KeyKind prog w Key where
  is := keyIs
  hash := keyH w
  inj := fun v a b ha hb => by
    rcases keyIs_shape ha with ⟨i, t, rfl, rfl⟩ | ⟨x, t, rfl, rfl⟩
    · rcases keyIs_shape hb with ⟨j, u, rfl, e⟩ | ⟨y, u, rfl, e⟩
      · injection e with e1 _; rw [e1]
      · exact nomatch e
    · rcases keyIs_shape hb with ⟨j, u, rfl, e⟩ | ⟨y, u, rfl, e⟩
      · exact nomatch e
      · injection e with e1 _; rw [e1]
  byValue := fun k v h => by
    rcases keyIs_shape h with ⟨i, t, rfl, rfl⟩ | ⟨x, t, rfl, rfl⟩ <;> rfl
  pyHash := fun hv h => by
    rcases keyIs_shape hv with ⟨i, t, rfl, rfl⟩ | ⟨x, t, rfl, rfl⟩
    · exact wpAny_pyHash_int h
    · exact wpAny_pyHash_str h
  eqBool := fun hu hv h => by
    rcases keyIs_shape hu with ⟨i, t, rfl, rfl⟩ | ⟨x, t, rfl, rfl⟩
    · rcases keyIs_shape hv with ⟨j, u, rfl, rfl⟩ | ⟨y, u, rfl, rfl⟩
      · rw [key_ll] at h; exact wpAny_eqBool_int h
      · rw [key_lr] at h; exact SeqAt.EqAt.int_str i t y u _ _ _ _ h
    · rcases keyIs_shape hv with ⟨j, u, rfl, rfl⟩ | ⟨y, u, rfl, rfl⟩
      · rw [key_rl] at h; exact SeqAt.EqAt.str_int x t j u _ _ _ _ h
      · rw [key_rr] at h; exact wpAny_eqBool_str h
  «strs» := fun k x t v h => by
    rcases keyIs_shape h with ⟨i, u, rfl, e⟩ | ⟨y, u, rfl, e⟩
    · exact nomatch e
    · injection e with e1 _
      subst e1
      cases v <;> rfl

theorem mixKind_int (prog : Program) (w : World) (i : Int) (t : Tok) : (mixKind prog w).is (.inl i) (.int i t) = true := keyIs_int i t
theorem mixKind_str (prog : Program) (w : World) (x : Str) (t : Tok) : (mixKind prog w).is (.inr x) (.str x t) = true := keyIs_str x t
end L2

namespace L2
open PySem PySem.Spec PyProof.Rows

/-- a value, without the heap -/
inductive V where
  | non | bl (b : Bool) | int (i : Int) | str (x : Str) | byt (b : Array UInt8) | flt (b : UInt64) | ref (a : Addr) | ty (n : String)
  deriving DecidableEq

def RelV : V → Value → Prop
  | .non, u => u = Value.none
  | .bl b, u => u = Value.bool b
  | .int i, u => ∃ t, u = Value.int i t
  | .str x, u => ∃ t, u = Value.str x t
  | .byt b, u => ∃ t, u = Value.bytes b t
  | .flt b, u => ∃ t, u = Value.float b t
  | .ref a, u => u = Value.ref a
  | .ty n, u => u = Value.type n

abbrev Vals : List V → List Value → Prop := Paired RelV
theorem Vals.length {xs : List V} {us : List Value} (r : Vals xs us) : xs.length = us.length := Paired.length r
theorem Vals.get : ∀ {xs : List V} {us : List Value} {i : Nat} {x : V}, Vals xs us → xs[i]? = some x → ∃ u, us[i]? = some u ∧ RelV x u
  | _, _, _, _, .nil, e => by simp at e
  | _, _, 0, _, .cons r _, e => by simp at e; subst e; exact ⟨_, rfl, r⟩
  | _, _, i + 1, x, .cons _ t, e => by
    obtain ⟨u, h1, h2⟩ := Vals.get (i := i) (x := x) t (by simpa using e)
    exact ⟨u, by simpa using h1, h2⟩
theorem Vals.set {x : V} {u : Value} (r : RelV x u) : ∀ {xs : List V} {us : List Value} (i : Nat), Vals xs us → Vals (xs.set i x) (us.set i u)
  | _, _, _, .nil => .nil
  | _, _, 0, .cons _ t => .cons r t
  | _, _, i + 1, .cons q t => .cons q (Vals.set r i t)
theorem Vals.append : ∀ {xs ys : List V} {us ws : List Value}, Vals xs us → Vals ys ws → Vals (xs ++ ys) (us ++ ws)
  | _, _, _, _, .nil, s => s
  | _, _, _, _, .cons r t, s => .cons r (Vals.append t s)
theorem Vals.take : ∀ {xs : List V} {us : List Value} (n : Nat), Vals xs us → Vals (xs.take n) (us.take n)
  | _, _, 0, _ => .nil
  | _, _, _ + 1, .nil => .nil
  | _, _, n + 1, .cons r t => .cons r (Vals.take n t)
theorem Vals.drop : ∀ {xs : List V} {us : List Value} (n : Nat), Vals xs us → Vals (xs.drop n) (us.drop n)
  | _, _, 0, r => r
  | _, _, _ + 1, .nil => .nil
  | _, _, n + 1, .cons _ t => Vals.drop n t
theorem Vals.none_of : ∀ {xs : List V} {us : List Value} {i : Nat}, Vals xs us → xs[i]? = none → us[i]? = none := fun {xs us i} r e => by
  have h1 := r.length
  have h2 : xs.length ≤ i := List.getElem?_eq_none_iff.mp e
  exact List.getElem?_eq_none_iff.mpr (by omega)

def RelO : Option V → Option Value → Prop
  | some v, some u => RelV v u
  | none, none => True
  | _, _ => False
def KV {κ : Type} : List (κ × V) → List (κ × Value) → Prop := Paired fun (p : κ × V) (q : κ × Value) => p.1 = q.1 ∧ RelV p.2 q.2

/-- a key of a dict (00_mix): an int or a text -/
def kV : Key → V
  | .inl i => .int i
  | .inr x => .str x

/-- what stands at a tracked address -/
inductive HO where
  /-- a list -/
  | lst (xs : List V)
  /-- a tuple (never changes) -/
  | tup (xs : List V)
  /-- a dict whose keys are ints and texts; one whose keys are tuples of ints and texts (the empty one is both) -/
  | dK (kvs : List (Key × V)) | dT (kvs : List (List Key × V))
  /-- a set of ints: its members, its size -/
  | set (S : Int → Bool) (n : Nat)
  /-- an instance of the class at C, its dict at dx, its attributes -/
  | ins (C dx : Addr) (fs : List (Str × V))
  /-- the dict of the instance at x -/
  | own (x : Addr)
  /-- the dict of an exception -/
  | xd (fs : List (Str × V))
  /-- a bound method, f of x -/
  | met (f x : Addr)
  /-- a range object lo, lo + 1, .. below hi -/
  | rng (lo hi : Int)
  /-- a thing that is known to the object (the script; a dict while a loop walks it): read, never written while it is so -/
  | frz (o : Obj) (u : HO)
  /-- a code object's table -/
  | tbl (ps : Array Value)
  /-- any other thing, by what is true of its one object (a def of one's own: SetO a S n := HO.ext fun h => ..) -/
  | ext (φ : Heap → Prop)

abbrev Hp := Addr → Option HO
def upd (H : Hp) (a : Addr) (o : HO) : Hp := fun b => if b = a then some o else H b
theorem upd_same {H : Hp} {a : Addr} {o : HO} : upd H a o a = some o := by unfold upd; rw [if_pos rfl]
theorem upd_ne {H : Hp} {a b : Addr} {o : HO} (h : b ≠ a) : upd H a o b = H b := by unfold upd; rw [if_neg h]
/-- two objects of different content stand apart -/
theorem ne_of {H : Hp} {a b : Addr} {o u : HO} (h : H a = some o) (h' : H b = some u) (d : o ≠ u) : a ≠ b := by
  intro e; subst e; rw [h] at h'; exact d (Option.some.inj h')
theorem ne_of_none {H : Hp} {a b : Addr} {o : HO} (h : H a = some o) (h' : H b = none) : a ≠ b := by
  intro e; subst e; rw [h] at h'; cases h'

section
variable (P : Program) (w : World)
def ObjOk (H : Hp) (h : Heap) (a : Addr) : HO → Prop
  | .lst xs => xs.length ≤ sizeLine ∧ ∃ (its : List Value) (n : Nat), Vals xs its ∧ h.get? a = some { cls := .type "list", data := .seq its.toArray n }
  | .tup xs => xs.length ≤ sizeLine ∧ ∃ its : List Value, Vals xs its ∧ IsTup h a its.toArray
  | .dK kvs => kvs.length ≤ sizeLine ∧ (a == sysModules) = false ∧ ∃ vs, KV kvs vs ∧ h.DictOf (mixKind P w) a vs
  | .dT kvs => kvs.length ≤ sizeLine ∧ (a == sysModules) = false ∧ ∃ xs : List (List Key × Addr × Value),
      Paired (fun (p : List Key × V) (q : List Key × Addr × Value) => p.1 = q.1 ∧ H q.2.1 = some (.tup (p.1.map kV)) ∧ RelV p.2 q.2.2) kvs xs ∧
      ∃ o es ep, h.get? a = some o ∧ o.ExactDict ∧ o.data = .dict es ep ∧ es.toList = xs.map (entryOfKey (tupleKind (mixKind P w))) ∧ (xs.map (·.1)).Nodup
  | .set S n => h.SetOf (intKind P w) a S n
  | .ins C dx fs => H dx = some (.own a) ∧ fs.length ≤ 1000 ∧ dx ≠ a ∧ h.get? a = some (PySem.W.instObj C dx) ∧
      ∃ mA, h.Ns1 dx mA ∧ (∀ f, RelO (fs.lookup f) (mA f)) ∧ PySem.Within mA (fs.map (·.1))
  | .own _ => ∃ o, h.get? a = some o
  | .xd fs => ∃ mA, h.Ns1 a mA ∧ ∀ f, RelO (fs.lookup f) (mA f)
  | .rng lo hi => ∃ t u v, h.get? a = some { cls := .type "range", data := .fields #[.int lo t, .int hi u, .int 1 v] }
  | .frz o u => h.get? a = some o ∧ ObjOk H h a u
  | .tbl ps => h.get? a = some { cls := .none, data := .fields ps }
  | .met f x => h.get? a = some (PySem.W.methodObj (.ref f) (.ref x))
  | .ext φ => φ h ∧ (∃ o, h.get? a = some o) ∧ ∀ h1 h2 : Heap, φ h1 → (∀ o, h1.get? a = some o → h2.get? a = some o) → φ h2
/-- the abstract heap is held -/
def HOk (H : Hp) (h : Heap) : Prop := ∀ a o, H a = some o → ObjOk P w H h a o
end

section
variable {P : Program} {w : World} {H H' : Hp} {h h' : Heap} {a : Addr} {o : HO}
theorem ObjOk.lt (x : ObjOk P w H h a o) : a < h.objs.size := by
  cases o with
  | lst xs => obtain ⟨_, _, _, _, e⟩ := x; exact Heap.lt_size e
  | tup xs => obtain ⟨_, _, _, p⟩ := x; exact p.lt
  | dK kvs => obtain ⟨_, _, _, _, o, _, _, e, _⟩ := x; exact Heap.lt_size e
  | dT kvs => obtain ⟨_, _, _, _, o, _, _, e, _⟩ := x; exact Heap.lt_size e
  | set S n => obtain ⟨o, _, _, _, e, _⟩ := x; exact Heap.lt_size e
  | ins C dx fs => obtain ⟨_, _, _, e, _⟩ := x; exact Heap.lt_size e
  | own y => obtain ⟨_, e⟩ := x; exact Heap.lt_size e
  | xd fs => obtain ⟨_, ⟨_, _, _, e, _⟩, _⟩ := x; exact Heap.lt_size e
  | rng lo hi => obtain ⟨_, _, _, e⟩ := x; exact Heap.lt_size e
  | frz ob u => obtain ⟨e, _⟩ := x; exact Heap.lt_size e
  | tbl ps => exact Heap.lt_size (show h.get? a = some _ from x)
  | met f y => exact Heap.lt_size (show h.get? a = some _ from x)
  | ext φ => obtain ⟨_, ⟨_, e⟩, _⟩ := x; exact Heap.lt_size e
theorem Paired.mapP {α β : Type} {F G : α → β → Prop} : ∀ {l₁ : List α} {l₂ : List β}, Paired F l₁ l₂ → (∀ a b, F a b → G a b) → Paired G l₁ l₂
  | _, _, .nil, _ => .nil
  | _, _, .cons r t, f => .cons (f _ _ r) (Paired.mapP t f)
/-- what an object's description leans on: its own object, its own dict, the tuples -/
theorem ObjOk.stay (x : ObjOk P w H h a o) (k : ∀ b u, (b = a ∨ H b = some (.own a)) → h.get? b = some u → h'.get? b = some u)
    (ho : ∀ b, H b = some (.own a) → H' b = some (.own a)) (ht : ∀ b xs, H b = some (.tup xs) → H' b = some (.tup xs)) : ObjOk P w H' h' a o := by
  induction o with
  | lst xs => obtain ⟨z, its, n, r, e⟩ := x; exact ⟨z, its, n, r, k _ _ (.inl rfl) e⟩
  | tup xs => obtain ⟨z, its, r, ob, e, c⟩ := x; exact ⟨z, its, r, ob, k _ _ (.inl rfl) e, c⟩
  | dK kvs => obtain ⟨z, y, vs, r, ob, es, ep, e, c⟩ := x; exact ⟨z, y, vs, r, ob, es, ep, k _ _ (.inl rfl) e, c⟩
  | dT kvs =>
    obtain ⟨z, y, xs, r, ob, es, ep, e, c⟩ := x
    exact ⟨z, y, xs, Paired.mapP r fun p q z => ⟨z.1, ht _ _ z.2.1, z.2.2⟩, ob, es, ep, k _ _ (.inl rfl) e, c⟩
  | set S n => obtain ⟨ob, es, ep, t, e, c⟩ := x; exact ⟨ob, es, ep, t, k _ _ (.inl rfl) e, c⟩
  | ins C dx fs =>
    obtain ⟨d, z, ne, e, mA, ⟨od, es, ep, e2, c⟩, r⟩ := x
    exact ⟨ho _ d, z, ne, k _ _ (.inl rfl) e, mA, ⟨od, es, ep, k _ _ (.inr d) e2, c⟩, r⟩
  | own y => obtain ⟨ob, e⟩ := x; exact ⟨ob, k _ _ (.inl rfl) e⟩
  | xd fs => obtain ⟨mA, ⟨od, es, ep, e, c⟩, r⟩ := x; exact ⟨mA, ⟨od, es, ep, k _ _ (.inl rfl) e, c⟩, r⟩
  | rng lo hi => obtain ⟨t, u, v, e⟩ := x; exact ⟨t, u, v, k _ _ (.inl rfl) e⟩
  | frz ob u ih => obtain ⟨e, q⟩ := x; exact ⟨k _ _ (.inl rfl) e, ih q⟩
  | tbl ps =>
    have e : h.get? a = some { cls := .none, data := .fields ps } := x
    show h'.get? a = some { cls := .none, data := .fields ps }
    exact k a _ (.inl rfl) e
  | met f y =>
    have e : h.get? a = some (PySem.W.methodObj (.ref f) (.ref y)) := x
    show h'.get? a = some (PySem.W.methodObj (.ref f) (.ref y))
    exact k a _ (.inl rfl) e
  | ext φ => obtain ⟨p, ⟨o, e⟩, st⟩ := x; exact ⟨st _ _ p fun o q => k _ _ (.inl rfl) q, ⟨o, k _ _ (.inl rfl) e⟩, st⟩
theorem HOk.lt (x : HOk P w H h) (e : H a = some o) : a < h.objs.size := (x a o e).lt
theorem HOk.fresh (x : HOk P w H h) (e : h.objs.size ≤ a) : H a = none := by
  cases q : H a with
  | none => rfl
  | some u => exact absurd (Nat.lt_of_lt_of_le (x.lt q) e) (Nat.lt_irrefl _)
/-- every object of the heap is kept -/
theorem HOk.kept (x : HOk P w H h) (k : ∀ b u, h.get? b = some u → h'.get? b = some u) : HOk P w H h' := fun a o e =>
  (x a o e).stay (fun b u _ q => k b u q) (fun _ q => q) fun _ _ q => q
/-- a new object is laid and tracked -/
theorem HOk.laid (x : HOk P w H h) (k : ∀ b u, h.get? b = some u → h'.get? b = some u) (hp : h.objs.size ≤ a) (new : ObjOk P w (upd H a o) h' a o) : HOk P w (upd H a o) h' := fun b u e => by
  have hn := x.fresh hp
  by_cases hb : b = a
  · subst hb; rw [upd_same] at e; cases e; exact new
  · rw [upd_ne hb] at e
    exact (x b u e).stay (fun c v _ q => k c v q) (fun c q => by rw [upd_ne (ne_of_none q hn)]; exact q) fun c xs q => by rw [upd_ne (ne_of_none q hn)]; exact q
end

/-- what may be read as u: it is u, or a known u -/
def Rd (H : Hp) (a : Addr) (u : HO) : Prop := H a = some u ∨ ∃ o, H a = some (.frz o u)
theorem Rd.of {H : Hp} {a : Addr} {u : HO} (h : H a = some u) : Rd H a u := .inl h
theorem Rd.ok {P : Program} {w : World} {H : Hp} {h : Heap} {a : Addr} {u : HO} (r : Rd H a u) (x : HOk P w H h) : ObjOk P w H h a u := by
  rcases r with r | ⟨o, r⟩
  · exact x a u r
  · obtain ⟨_, q⟩ := x a _ r
    exact q
/-- what may be written -/
def Mut : Option HO → Prop
  | some (.lst _) => True
  | some (.dK _) => True
  | some (.dT _) => True
  | some (.set _ _) => True
  | some (.ins _ _ _) => True
  | some (.ext _) => True
  | _ => False
section
variable {P : Program} {w : World} {H : Hp} {h h' : Heap} {x e : Addr} {o' : HO}
/-- the object at e is changed: x itself, or the dict of the instance x -/
theorem HOk.write (ok : HOk P w H h) (mu : Mut (H x)) (he : e = x ∨ H e = some (.own x)) (k : ∀ b u, b ≠ e → h.get? b = some u → h'.get? b = some u) (heo : ∃ u, h'.get? e = some u)
    (new : ObjOk P w (upd H x o') h' x o') : HOk P w (upd H x o') h' := fun b u q => by
  have nown : ∀ c y, H c = some (.own y) → c ≠ x := fun c y r z => by subst z; rw [r] at mu; exact mu
  have ntup : ∀ c xs, H c = some (.tup xs) → c ≠ x := fun c xs r z => by subst z; rw [r] at mu; exact mu
  by_cases hb : b = x
  · subst hb; rw [upd_same] at q; cases q; exact new
  · rw [upd_ne hb] at q
    by_cases hbe : b = e
    · have q' : H b = some (.own x) := by
        rcases he with z | z
        · exact absurd (hbe.trans z) hb
        · rw [hbe]; exact z
      rw [q] at q'; cases q'
      obtain ⟨v, hv⟩ := heo
      exact ⟨v, by rw [hbe]; exact hv⟩
    · refine (ok b u q).stay (fun c v hc r => k c v ?_ r) (fun c r => by rw [upd_ne (nown c b r)]; exact r) fun c xs r => by rw [upd_ne (ntup c xs r)]; exact r
      rcases hc with rfl | hc
      · exact hbe
      · rintro rfl
        rcases he with z | z
        · exact nown c b hc z
        · rw [hc] at z; cases z; exact hb rfl
end

/-! ### kept unless tracked; of the frames at fs (the callers') the slots may change (an exception that passes writes there); of the records at ex (iterators) nothing is said -/
structure Un (fs ex : List Addr) (H H' : Hp) (h h' : Heap) : Prop where
  keep : ∀ b o, h.get? b = some o → H b = none → b ∉ fs → b ∉ ex → h'.get? b = some o
  slot : ∀ b o, h.get? b = some o → H b = none → b ∈ fs → b ∉ ex → ∃ sl, h'.get? b = some { o with slots := sl }
  free : ∀ b o, h.get? b = some o → H b = none → b ∉ ex → H' b = none
  there : ∀ b o, h.get? b = some o → b ∉ ex → ∃ o', h'.get? b = some o'
  tups : ∀ b xs, H b = some (.tup xs) → H' b = some (.tup xs)
  frzs : ∀ b o u, H b = some (.frz o u) → H' b = some (.frz o u)
  tbls : ∀ b ps, H b = some (.tbl ps) → ∃ more, H' b = some (.tbl (ps ++ more))
section
variable {fs fs' ex ex' : List Addr} {H H1 H2 : Hp} {h h1 h2 h' : Heap} {a x e : Addr} {o : HO}
theorem Un.any (u : Un fs ex H H1 h h1) {b : Addr} {ob : Obj} (q : h.get? b = some ob) (n : H b = none) (hx : b ∉ ex) : ∃ sl, h1.get? b = some { ob with slots := sl } := by
  by_cases hb : b ∈ fs
  · exact u.slot b ob q n hb hx
  · exact ⟨ob.slots, u.keep b ob q n hb hx⟩
theorem Un.trans (a : Un fs ex H H1 h h1) (b : Un fs ex H1 H2 h1 h2) : Un fs ex H H2 h h2 where
  keep := fun c ob q n hc hx => b.keep c ob (a.keep c ob q n hc hx) (a.free c ob q n hx) hc hx
  slot := fun c ob q n hc hx => by
    obtain ⟨sl, e1⟩ := a.slot c ob q n hc hx
    obtain ⟨sl', e2⟩ := b.slot c _ e1 (a.free c ob q n hx) hc hx
    exact ⟨sl', e2⟩
  free := fun c ob q n hx => by
    obtain ⟨o', e1⟩ := a.there c ob q hx
    exact b.free c o' e1 (a.free c ob q n hx) hx
  there := fun c ob q hx => by
    obtain ⟨o', e1⟩ := a.there c ob q hx
    exact b.there c o' e1 hx
  tups := fun c xs q => b.tups c xs (a.tups c xs q)
  frzs := fun c ob xs q => b.frzs c ob xs (a.frzs c ob xs q)
  tbls := fun c ps q => by
    obtain ⟨m1, e1⟩ := a.tbls c ps q
    obtain ⟨m2, e2⟩ := b.tbls c _ e1
    exact ⟨m1 ++ m2, by rw [e2, Array.append_assoc]⟩
theorem Un.kept (k : ∀ b u, h.get? b = some u → h'.get? b = some u) : Un fs ex H H h h' :=
  ⟨fun b ob q _ _ _ => k b ob q, fun b ob q _ _ _ => ⟨ob.slots, k b ob q⟩, fun _ _ _ n _ => n, fun b ob q _ => ⟨ob, k b ob q⟩, fun _ _ q => q, fun _ _ _ q => q, fun _ ps q => ⟨#[], by rw [q]; simp⟩⟩
theorem Un.refl : Un fs ex H H h h := Un.kept fun _ _ q => q
theorem Un.laid (k : ∀ b u, h.get? b = some u → h'.get? b = some u) (hp : h.objs.size ≤ a) (hn : H a = none) : Un fs ex H (upd H a o) h h' where
  keep := fun b u q _ _ _ => k b u q
  slot := fun b u q _ _ _ => ⟨u.slots, k b u q⟩
  free := fun b u q n _ => by rw [upd_ne (Nat.ne_of_lt (Nat.lt_of_lt_of_le (Heap.lt_size q) hp))]; exact n
  there := fun b u q _ => ⟨u, k b u q⟩
  tups := fun b xs q => by rw [upd_ne (ne_of_none q hn)]; exact q
  frzs := fun b u xs q => by rw [upd_ne (ne_of_none q hn)]; exact q
  tbls := fun b ps q => ⟨#[], by rw [upd_ne (ne_of_none q hn), q]; simp⟩
theorem Un.write (mu : Mut (H x)) (he : e = x ∨ H e = some (.own x)) (k : ∀ b u, b ≠ e → h.get? b = some u → h'.get? b = some u) (heo : ∃ u, h'.get? e = some u) : Un fs ex H (upd H x o) h h' := by
  have hx : ∀ b, H b = none → b ≠ x := fun b n z => by subst z; rw [n] at mu; exact mu
  have hb : ∀ b, H b = none → b ≠ e := fun b n z => by
    subst z
    rcases he with r | r
    · exact hx b n r
    · rw [n] at r; cases r
  have hm : ∀ b u, H b = some u → ¬ Mut (some u) → b ≠ x := fun b u q nm z => by subst z; rw [q] at mu; exact nm mu
  refine ⟨fun b u q n _ _ => k b u (hb b n) q, fun b u q n _ _ => ⟨u.slots, k b u (hb b n) q⟩, fun b u q n _ => by rw [upd_ne (hx b n)]; exact n, fun b u q _ => ?_,
    fun b xs q => by rw [upd_ne (hm b _ q fun z => z)]; exact q, fun b u xs q => by rw [upd_ne (hm b _ q fun z => z)]; exact q, fun b ps q => ⟨#[], by rw [upd_ne (hm b _ q fun z => z), q]; simp⟩⟩
  by_cases hbe : b = e
  · subst hbe; exact heo
  · exact ⟨u, k b u hbe q⟩
theorem Un.mono (u : Un fs ex H H1 h h1) (hs : ∀ b ∈ fs, b ∈ fs') (hx : ∀ b ∈ ex, b ∈ ex') : Un fs' ex' H H1 h h1 :=
  ⟨fun b ob q n hb he => u.keep b ob q n (fun z => hb (hs b z)) fun z => he (hx b z), fun _ _ q n _ he => u.any q n fun z => he (hx _ z), fun b ob q n he => u.free b ob q n fun z => he (hx b z), fun b ob q he => u.there b ob q fun z => he (hx b z), u.tups, u.frzs, u.tbls⟩
end

/-! ### the heap without what is tracked -/
def trk (h : Heap) (H : Hp) : List Addr := (List.range h.objs.size).filter fun a => (H a).isSome
def hidT (h : Heap) (H : Hp) : Heap := PySem.W.hideAll h (trk h H)
theorem hidT_size (h : Heap) (H : Hp) : (hidT h H).objs.size = h.objs.size := PySem.W.hideAll_size _ _
theorem hidT_get {h : Heap} {H : Hp} {b : Addr} {o : Obj} (e : h.get? b = some o) (n : H b = none) : (hidT h H).get? b = some o :=
  PySem.W.hideAll_get _ e fun hm => by
    have q : (H b).isSome = true := (List.mem_filter.mp hm).2
    rw [n] at q; simp at q
theorem of_hidT {h : Heap} {H : Hp} {b : Addr} {o : Obj} (e : (hidT h H).get? b = some o) : h.get? b = some o ∧ H b = none := by
  have e' : h.get? b = some o := PySem.W.of_hideAll (trk h H) e
  refine ⟨e', ?_⟩
  cases q : H b with
  | none => rfl
  | some x =>
    have hm : b ∈ trk h H := List.mem_filter.mpr ⟨List.mem_range.mpr (Heap.lt_size e'), by simp [q]⟩
    have z : (hidT h H).get? b = none := PySem.W.hideAll_none (trk h H) hm
    rw [z] at e; cases e

/-! ### OpenK's ledger, filled with every new object but one -/
def allNews (g h : Heap) (L : Addr) : List (Addr × Obj) := (List.range h.objs.size).filterMap fun a => if a = L ∨ (g.get? a).isSome = true then none else (h.get? a).map fun o => (a, o)
def rest (g h : Heap) (L d : Addr) : List (Addr × Obj) := (allNews g h L).filter fun p => decide (p.1 ≠ d)
end L2

namespace L2
open PySem PySem.Spec PyProof.Rows

/-- the module's facts, over the base: the heap at the law's entry without what is tracked there -/
structure Mod (K : PySem.W.Frag) (mg : Str → Option Value) (base : Heap) : Prop where
  kin : K.In base
  glob : base.Ns mainGlobals mg
  blt : ∃ mb, base.Ns builtinsNs mb ∧ ∀ x : Str, x ≠ "__name__" → mb x = bootBuiltins x
  nolimit : base.NoLimit

/-- nothing runs in a generator; where q: generators and draws are those of s0 -/
def Bare2 (q : Bool) (s0 : Shared) (g : Array GenState) (d : Drawn) : Prop := (AllBare s0.gens → AllBare g) ∧ (q = true → g = s0.gens ∧ d = s0.drawn)
theorem Bare2.trans {q : Bool} {s0 s1 : Shared} {g : Array GenState} {d : Drawn} (a : Bare2 q s0 s1.gens s1.drawn) (b : Bare2 q s1 g d) : Bare2 q s0 g d :=
  ⟨fun z => b.1 (a.1 z), fun z => ⟨(b.2 z).1.trans (a.2 z).1, (b.2 z).2.trans (a.2 z).2⟩⟩

/-- the context: a def's body (or a comprehension's block) running. base: fixed through the whole law; s₀, H₀: the entry; outer: the frames whose slots others may change (a def's callers); stack: all frames that run;
   ex: iterators that were made ahead of the entry and are walked here (a comprehension's); fn: the names whose cells were made at the entry (a def: all; a comprehension's block: its own); calm: not within an except suite; pn: pins that every state bears; xe: what is wanted of an exception that leaves the code -/
structure Cx where
  prog : Program
  w : World
  K : PySem.W.Frag
  mg : Str → Option Value
  base : Heap
  A : Around
  N : List Str
  s_0 : Shared
  H_0 : Hp
  env : Env
  outer : List Env
  stack : List Env
  ex : List Addr
  fn : Str → Bool
  calm : Bool
  pn : List (Addr × Obj)
  qt : Bool := false
  xe : Value → Shared → Prop
/-- the callers' frames -/
def frs (l : List Env) : List Addr := l.filterMap (·.frame)
abbrev Cx.fs (X : Cx) : List Addr := frs X.outer

def Vis (sc : Scope) (x : Str) : Prop := sc.names.lookup x = some .local ∨ sc.names.lookup x = some .cell ∨ sc.names.lookup x = some .free
def Loc (sc : Scope) (x : Str) : Prop := sc.names.lookup x = some .local ∨ sc.names.lookup x = some .cell
def Look (env : Env) (h : Heap) (m : Str → Option Value) (x : Str) (u : Value) : Prop :=
  (env.kindOf x = some .local ∧ m x = some u) ∨ ((env.kindOf x = some .cell ∨ env.kindOf x = some .free) ∧ ∃ c, env.cells.lookup x = some c ∧ h.IsCell c (some u))

structure Cx.Ok (X : Cx) : Prop where
  mod : Mod X.K X.mg X.base
  kind : X.env.scope.kind = .function
  glob : X.env.globals = mainGlobals
  blt : X.env.builtins = builtinsNs
  above : X.s_0.heap.objs.size ≤ X.env.locals
  inj : ∀ x y c, X.env.cells.lookup x = some c → X.env.cells.lookup y = some c → x = y
  has : ∀ x, (X.env.kindOf x = some .cell ∨ X.env.kindOf x = some .free) → ∃ c, X.env.cells.lookup x = some c
  cab : ∀ x c, X.fn x = true → X.env.cells.lookup x = some c → X.s_0.heap.objs.size ≤ c
  hd : X.calm = true → X.A.handled = none
  frames : True
  stk : X.stack = X.outer ∨ (X.stack = X.env :: X.outer ∧ X.env.frame = some X.env.locals)
  exf : ∀ b ∈ X.ex, b ≠ X.env.locals ∧ ∀ x c, X.env.cells.lookup x = some c → c ≠ b
  bs : ∀ b o, X.base.get? b = some o → X.s_0.heap.get? b = some o ∧ X.H_0 b = none
  bsz : X.base.objs.size ≤ X.s_0.heap.objs.size
  noex : ∀ b o, X.base.get? b = some o → b ∉ X.ex
  exfs : ∀ b ∈ X.ex, b ∉ X.fs
  funs : X.s_0.heap.FunFrames X.base X.outer
  frf : ∀ b ∈ X.fs, X.H_0 b = none

structure Inv (X : Cx) (pins : List (Addr × Obj)) (σ : List (Option V)) (H : Hp) (s : Shared) : Prop where
  ok : X.Ok
  os : s.os = X.s_0.os
  bare : Bare2 X.qt X.s_0 s.gens s.drawn
  base : Un X.fs X.ex X.H_0 H X.s_0.heap s.heap
  loc : ∃ m, s.heap.Ns X.env.locals m ∧ ∀ (i : Nat) (x : Str) (v : V), X.N[i]? = some x → σ[i]? = some (some v) → Vis X.env.scope x → ∃ u, RelV v u ∧ Look X.env s.heap m x u
  cell : ∀ x c, X.env.cells.lookup x = some c → ∃ v, s.heap.IsCell c v
  free : H X.env.locals = none
  freeC : ∀ x c, X.env.cells.lookup x = some c → H c = none
  pin : ∀ p ∈ X.pn ++ pins, s.heap.get? p.1 = some p.2 ∧ H p.1 = none ∧ p.1 ≠ X.env.locals ∧ p.1 ∉ X.fs ∧ ∀ v, p.2.data ≠ .cell v
  hok : HOk X.prog X.w H s.heap
  len : σ.length = X.N.length

section
variable {X : Cx} {pins : List (Addr × Obj)} {σ : List (Option V)} {H H' : Hp} {s : Shared} {h' : Heap}

theorem Cx.Ok.nofr (ok : X.Ok) {b : Addr} {o : Obj} (e : X.base.get? b = some o) : b ∉ X.fs := fun hb => by
  have := (ok.funs.mem hb).1
  rw [e] at this; cases this
theorem Inv.bs (I : Inv X pins σ H s) : ∀ b o, X.base.get? b = some o → s.heap.get? b = some o ∧ H b = none := fun b o e =>
  ⟨I.base.keep b o (I.ok.bs b o e).1 (I.ok.bs b o e).2 (I.ok.nofr e) (I.ok.noex b o e), I.base.free b o (I.ok.bs b o e).1 (I.ok.bs b o e).2 (I.ok.noex b o e)⟩
theorem Inv.bk (I : Inv X pins σ H s) : ∀ b o, X.base.get? b = some o → s.heap.get? b = some o := fun b o e => (I.bs b o e).1
theorem Inv.mod (I : Inv X pins σ H s) : Mod X.K X.mg X.base := I.ok.mod
theorem Inv.kIn (I : Inv X pins σ H s) : X.K.In s.heap := I.ok.mod.kin.keeps I.bk
theorem Inv.nolimit (I : Inv X pins σ H s) : s.heap.NoLimit := I.ok.mod.nolimit.keeps I.bk
/-- the frame over the base: for OpenK's rules (K.In X.base is I.mod.kin) -/
theorem Inv.fr (I : Inv X pins σ H s) : ∃ m, Fr X.base X.env.locals s.heap m :=
  let ⟨m, hn, _⟩ := I.loc
  ⟨m, hn, I.bk, Nat.le_trans I.ok.bsz I.ok.above⟩
theorem Inv.lt (I : Inv X pins σ H s) : X.env.locals < s.heap.objs.size := let ⟨_, hn, _⟩ := I.loc; hn.lt
theorem Inv.sz (I : Inv X pins σ H s) : X.s_0.heap.objs.size ≤ s.heap.objs.size := Nat.le_trans I.ok.above (Nat.le_of_lt I.lt)
theorem Inv.nofs (I : Inv X pins σ H s) {a : Addr} (h : s.heap.objs.size ≤ a) : a ∉ X.fs := fun hb => by
  obtain ⟨_, o, ho, _⟩ := I.ok.funs.mem hb
  exact absurd (Nat.lt_of_lt_of_le (Heap.lt_size ho) (Nat.le_trans I.sz h)) (Nat.lt_irrefl _)
theorem Inv.cne (I : Inv X pins σ H s) : ∀ x c, X.env.cells.lookup x = some c → c ≠ X.env.locals := fun x c e z => by
  obtain ⟨v, o, ho, hd⟩ := I.cell x c e
  obtain ⟨m, ⟨o', es, ep, ho', hd', _⟩, _⟩ := I.loc
  rw [z, ho'] at ho; cases ho; rw [hd'] at hd; cases hd
theorem Inv.funs (I : Inv X pins σ H s) : s.heap.FunFrames X.base X.outer := by
  have all : ∀ (l : List Env), (∀ b ∈ frs l, b ∈ X.fs) → X.s_0.heap.FunFrames X.base l → s.heap.FunFrames X.base l := by
    intro l
    induction l with
    | nil => intro _ _; trivial
    | cons env r ih =>
      intro hs hl
      obtain ⟨hk, ⟨L, o, hf, hn, ho, hd⟩, hr⟩ := hl
      have hL : L ∈ X.fs := hs L (by unfold frs; rw [List.filterMap_cons, hf]; exact List.mem_cons_self)
      obtain ⟨sl, e⟩ := I.base.slot L o ho (I.ok.frf L hL) hL fun z => I.ok.exfs L z hL
      exact ⟨hk, ⟨L, _, hf, hn, e, hd⟩, ih (fun b hb => hs b (by unfold frs; rw [List.filterMap_cons, hf]; exact List.mem_cons_of_mem _ hb)) hr⟩
  exact all X.outer (fun _ hb => hb) I.ok.funs

/-- the frames that run, for a call -/
theorem Inv.stack (I : Inv X pins σ H s) : s.heap.FunFrames X.base X.stack := by
  rcases I.ok.stk with e | ⟨e, hf⟩
  · rw [e]; exact I.funs
  · rw [e]
    obtain ⟨m, hn, _⟩ := I.loc
    refine .cons (by rw [I.ok.kind]; decide) hf hn ?_ I.funs
    exact Heap.get?_none_of_le (Nat.le_trans I.ok.bsz I.ok.above)
theorem Inv.stkSub (I : Inv X pins σ H s) : ∀ b ∈ frs X.stack, b ∈ X.env.locals :: X.fs := fun b hb => by
  rcases I.ok.stk with e | ⟨e, hf⟩
  · rw [e] at hb; exact List.mem_cons_of_mem _ hb
  · rw [e] at hb
    unfold frs at hb
    rw [List.filterMap_cons, hf] at hb
    exact hb
theorem Inv.stkFree (I : Inv X pins σ H s) : ∀ b ∈ frs X.stack, H b = none := fun b hb => by
  rcases List.mem_cons.mp (I.stkSub b hb) with e | hb
  · rw [e]; exact I.free
  · obtain ⟨_, o, ho, _⟩ := I.ok.funs.mem hb
    exact I.base.free b o ho (I.ok.frf b hb) fun z => I.ok.exfs b z hb

/-- THE STEP: the untracked objects but the frame and the records at ch are kept (the callers' frames up to slots), the frame's map is kept, the new abstract heap is held -/
theorem Inv.step {g' : Array GenState} {t' : Nat} {d' : Drawn} {ch : List Addr} (I : Inv X pins σ H s)
    (hch : ∀ b ∈ ch, (b ∈ X.ex ∨ X.s_0.heap.objs.size ≤ b) ∧ b ≠ X.env.locals ∧ (∀ x c, X.env.cells.lookup x = some c → c ≠ b) ∧ ∀ p ∈ X.pn ++ pins, p.1 ≠ b)
    (keep : ∀ b o, b ≠ X.env.locals → b ∉ X.fs → b ∉ ch → s.heap.get? b = some o → H b = none → h'.get? b = some o)
    (slot : ∀ b o, b ≠ X.env.locals → b ∈ X.fs → b ∉ ch → s.heap.get? b = some o → H b = none → ∃ sl, h'.get? b = some { o with slots := sl }) (free : ∀ b o, b ∉ ch → s.heap.get? b = some o → H b = none → H' b = none)
    (there : ∀ b o, b ∉ ch → s.heap.get? b = some o → ∃ o', h'.get? b = some o')
    (tups : ∀ b xs, H b = some (.tup xs) → H' b = some (.tup xs)) (frzs : ∀ b o u, H b = some (.frz o u) → H' b = some (.frz o u)) (tbls : ∀ b ps, H b = some (.tbl ps) → ∃ more, H' b = some (.tbl (ps ++ more)))
    (ns : ∀ m, s.heap.Ns X.env.locals m → h'.Ns X.env.locals m) (hok : HOk X.prog X.w H' h') (hg : Bare2 X.qt X.s_0 g' d') :
    Inv X pins σ H' { s with heap := h', gens := g', drawn := d', toks := t' } := by
  have neL : ∀ b o, X.s_0.heap.get? b = some o → b ≠ X.env.locals := fun b o e => Nat.ne_of_lt (Nat.lt_of_lt_of_le (Heap.lt_size e) I.ok.above)
  have neC : ∀ b o, X.s_0.heap.get? b = some o → b ∉ X.ex → b ∉ ch := fun b o e hx hb => by
    rcases (hch b hb).1 with z | z
    · exact hx z
    · exact absurd (Nat.lt_of_lt_of_le (Heap.lt_size e) z) (Nat.lt_irrefl _)
  have cellK : ∀ x c, X.env.cells.lookup x = some c → ∀ v, s.heap.IsCell c v → h'.IsCell c v := fun x c e v ⟨o, ho, hd⟩ => by
    have nch : c ∉ ch := fun z => (hch c z).2.2.1 x c e rfl
    by_cases hc : c ∈ X.fs
    · obtain ⟨sl, q⟩ := slot c o (I.cne x c e) hc nch ho (I.freeC x c e)
      exact ⟨_, q, hd⟩
    · exact ⟨o, keep c o (I.cne x c e) hc nch ho (I.freeC x c e), hd⟩
  refine ⟨I.ok, I.os, hg, ⟨fun b o e n hb hx => ?_, fun b o e n hb hx => ?_, fun b o e n hx => ?_, fun b o e hx => ?_, fun b xs e => tups b xs (I.base.tups b xs e), fun b o xs e => frzs b o xs (I.base.frzs b o xs e), fun b ps e => ?_⟩, ?_, fun x c e => ?_, ?_, fun x c e => ?_, fun p hp => ?_, hok, I.len⟩
  · exact keep b o (neL b o e) hb (neC b o e hx) (I.base.keep b o e n hb hx) (I.base.free b o e n hx)
  · obtain ⟨sl, e1⟩ := I.base.slot b o e n hb hx
    obtain ⟨sl', e2⟩ := slot b _ (neL b o e) hb (neC b o e hx) e1 (I.base.free b o e n hx)
    exact ⟨sl', e2⟩
  · obtain ⟨o', e1⟩ := I.base.there b o e hx
    exact free b o' (neC b o e hx) e1 (I.base.free b o e n hx)
  · obtain ⟨o', e1⟩ := I.base.there b o e hx
    exact there b o' (neC b o e hx) e1
  · obtain ⟨m1, e1⟩ := I.base.tbls b ps e
    obtain ⟨m2, e2⟩ := tbls b _ e1
    exact ⟨m1 ++ m2, by rw [e2, Array.append_assoc]⟩
  · obtain ⟨m, hn, hl⟩ := I.loc
    refine ⟨m, ns m hn, fun i x v e1 e2 e3 => ?_⟩
    obtain ⟨u, r, l⟩ := hl i x v e1 e2 e3
    refine ⟨u, r, ?_⟩
    rcases l with l | ⟨k, c, e, z⟩
    · exact .inl l
    · exact .inr ⟨k, c, e, cellK x c e _ z⟩
  · obtain ⟨v, z⟩ := I.cell x c e
    exact ⟨v, cellK x c e v z⟩
  · obtain ⟨m, ⟨o, _, _, ho, _⟩, _⟩ := I.loc
    exact free _ o (fun z => (hch _ z).2.1 rfl) ho I.free
  · obtain ⟨v, o, ho, hd⟩ := I.cell x c e
    exact free c o (fun z => (hch c z).2.2.1 x c e rfl) ho (I.freeC x c e)
  · obtain ⟨e, n, ne, nf, d⟩ := I.pin p hp
    have nch : p.1 ∉ ch := fun z => (hch p.1 z).2.2.2 p hp rfl
    exact ⟨keep p.1 p.2 ne nf nch e n, free p.1 p.2 nch e n, ne, nf, d⟩
/-- .. where the frame's own object is kept too -/
theorem Inv.un {t' : Nat} (I : Inv X pins σ H s) (u : Un X.fs [] H H' s.heap h') (hok : HOk X.prog X.w H' h') : Inv X pins σ H' { s with heap := h', toks := t' } := by
  obtain ⟨m, ⟨o, es, ep, ho, r⟩, _⟩ := id I.loc
  obtain ⟨sl, hL⟩ := u.any ho I.free (by simp)
  exact I.step (g' := s.gens) (d' := s.drawn) (ch := []) (fun _ z => nomatch z) (fun b o _ hb _ e n => u.keep b o e n hb (by simp)) (fun b o _ hb _ e n => u.slot b o e n hb (by simp)) (fun b o _ e n => u.free b o e n (by simp)) (fun b o _ e => u.there b o e (by simp)) u.tups u.frzs u.tbls (fun m' hm => by
    obtain ⟨o', es', ep', ho', r'⟩ := hm
    rw [ho] at ho'; cases ho'
    exact ⟨_, es', ep', hL, r'⟩) hok I.bare
/-- behind a call (or a comprehension's block): the slots of this frame may have changed too, the records at ch may have turned -/
theorem Inv.call {g' : Array GenState} {t' : Nat} {d' : Drawn} {ch : List Addr} (I : Inv X pins σ H s) (u : Un (frs X.stack) ch H H' s.heap h') (hok : HOk X.prog X.w H' h') (hg : Bare2 X.qt X.s_0 g' d')
    (hch : ∀ b ∈ ch, (b ∈ X.ex ∨ X.s_0.heap.objs.size ≤ b) ∧ b ≠ X.env.locals ∧ (∀ x c, X.env.cells.lookup x = some c → c ≠ b) ∧ ∀ p ∈ X.pn ++ pins, p.1 ≠ b) :
    Inv X pins σ H' { s with heap := h', gens := g', drawn := d', toks := t' } := by
  obtain ⟨m, ⟨o, es, ep, ho, r⟩, _⟩ := id I.loc
  obtain ⟨sl, hL⟩ := u.any ho I.free fun z => (hch _ z).2.1 rfl
  exact I.step (ch := ch) hch (fun b o hL hb hc e n => u.keep b o e n (fun z => (List.mem_cons.mp (I.stkSub b z)).elim hL hb) hc) (fun b o _ _ hc e n => u.any e n hc) (fun b o hc e n => u.free b o e n hc) (fun b o hc e => u.there b o e hc) u.tups u.frzs u.tbls (fun m' hm => by
    obtain ⟨o', es', ep', ho', r'⟩ := hm
    rw [ho] at ho'; cases ho'
    exact ⟨_, es', ep', hL, r'⟩) hok hg
/-- an untracked record of ours (an iterator) has turned -/
theorem Inv.turned {t' : Nat} {it : Addr} (I : Inv X pins σ H s) (k : ∀ b o, b ≠ it → s.heap.get? b = some o → h'.get? b = some o) (hn : H it = none) (hL : it ≠ X.env.locals)
    (h1 : it ∈ X.ex ∨ X.s_0.heap.objs.size ≤ it) (h2 : ∀ x c, X.env.cells.lookup x = some c → c ≠ it) (h3 : ∀ p ∈ X.pn ++ pins, p.1 ≠ it) : Inv X pins σ H { s with heap := h', toks := t' } := by
  have nit : ∀ b u, H b = some u → b ≠ it := fun b u e z => by rw [z, hn] at e; cases e
  refine I.step (g' := s.gens) (d' := s.drawn) (ch := [it]) (fun b hb => ?_) (fun b o _ _ hc e _ => k b o (fun z => hc (by simp [z])) e) (fun b o _ _ hc e _ => ⟨o.slots, k b o (fun z => hc (by simp [z])) e⟩) (fun _ _ _ _ n => n)
    (fun b o hc e => ⟨o, k b o (fun z => hc (by simp [z])) e⟩) (fun _ _ e => e) (fun _ _ _ e => e) (fun b ps e => ⟨#[], by rw [e]; simp⟩) (fun m hm => ?_) (fun b u e => ?_) I.bare
  · have e : b = it := by simpa using hb
    subst e
    exact ⟨h1, hL, h2, h3⟩
  · obtain ⟨o, es, ep, ho, r⟩ := hm
    exact ⟨o, es, ep, k _ o (Ne.symm hL) ho, r⟩
  · refine (I.hok b u e).stay (fun c v hc q => k c v ?_ q) (fun _ q => q) fun _ _ q => q
    rcases hc with z | z
    · rw [z]; exact nit b u e
    · exact nit c _ z
theorem Inv.tok (I : Inv X pins σ H s) (t : Nat) : Inv X pins σ H { s with toks := t } := I.un (h' := s.heap) (t' := t) Un.refl I.hok
/-- all objects kept -/
theorem Inv.kept {t' : Nat} (I : Inv X pins σ H s) (k : ∀ b u, s.heap.get? b = some u → h'.get? b = some u) : Inv X pins σ H { s with heap := h', toks := t' } := I.un (Un.kept k) (I.hok.kept k)
/-- a new object laid and tracked -/
theorem Inv.laid {a : Addr} {o : HO} {t' : Nat} (I : Inv X pins σ H s) (k : ∀ b u, s.heap.get? b = some u → h'.get? b = some u) (hp : s.heap.objs.size ≤ a) (new : ObjOk X.prog X.w (upd H a o) h' a o) :
    Inv X pins σ (upd H a o) { s with heap := h', toks := t' } := I.un (Un.laid k hp (I.hok.fresh hp)) (I.hok.laid k hp new)
/-- an object written -/
theorem Inv.write {x e : Addr} {o : HO} {t' : Nat} (I : Inv X pins σ H s) (mu : Mut (H x)) (he : e = x ∨ H e = some (.own x)) (k : ∀ b u, b ≠ e → s.heap.get? b = some u → h'.get? b = some u) (heo : ∃ u, h'.get? e = some u)
    (new : ObjOk X.prog X.w (upd H x o) h' x o) : Inv X pins σ (upd H x o) { s with heap := h', toks := t' } := I.un (Un.write mu he k heo) (I.hok.write mu he k heo new)
/-- forgetting slots, pins -/
theorem Inv.weak {σ' : List (Option V)} (I : Inv X pins σ H s) (hl : σ'.length = σ.length) (w : ∀ (i : Nat) v, σ'[i]? = some (some v) → σ[i]? = some (some v)) : Inv X pins σ' H s :=
  ⟨I.ok, I.os, I.bare, I.base, let ⟨m, hn, hl'⟩ := I.loc; ⟨m, hn, fun i x v e1 e2 e3 => hl' i x v e1 (w i v e2) e3⟩, I.cell, I.free, I.freeC, I.pin, I.hok, hl.trans I.len⟩
theorem Inv.pins_of {pins' : List (Addr × Obj)} (I : Inv X pins σ H s) (h : ∀ p ∈ pins', s.heap.get? p.1 = some p.2 ∧ H p.1 = none ∧ p.1 ≠ X.env.locals ∧ p.1 ∉ X.fs ∧ ∀ v, p.2.data ≠ .cell v) : Inv X pins' σ H s :=
  ⟨I.ok, I.os, I.bare, I.base, I.loc, I.cell, I.free, I.freeC, fun p hp => (List.mem_append.mp hp).elim (fun z => I.pin p (List.mem_append_left _ z)) (h p), I.hok, I.len⟩

theorem nodup_ix {N : List Str} (hN : N.Nodup) {i j : Nat} {x : Str} (a : N[i]? = some x) (b : N[j]? = some x) : i = j := by
  obtain ⟨h1, e1⟩ := List.getElem?_eq_some_iff.mp a
  obtain ⟨h2, e2⟩ := List.getElem?_eq_some_iff.mp b
  exact (List.getElem_inj hN).mp (e1.trans e2.symm)

/-- a name is stored; what changed -/
theorem store_ok2 {M : Model} {A : Around} {E : Value → Shared → Prop} {i : Nat} {x : Str} {v : V} {u : Value} {Q : Unit → Shared → Prop} (I : Inv X pins σ H s) (hN : X.N.Nodup) (hi : X.N[i]? = some x) (hx : Loc X.env.scope x) (r : RelV v u)
    (h : ∀ s', Inv X pins (σ.set i (some v)) H s' → (∃ a, Heap.SameBut a s.heap s'.heap ∧ (a = X.env.locals ∨ X.env.cells.lookup x = some a)) → Q () s') (hf : X.fn x = true ∨ X.env.scope.names.lookup x = some .local := by first | exact .inl rfl | exact .inr rfl | assumption) : wpAny M A (storeName X.env x u) Q E s := by
  obtain ⟨m, hn, hl⟩ := id I.loc
  have hcls : (X.env.scope.kind == .class || (X.env.scope.kind == .module && X.env.locals != X.env.globals)) = false := by rw [I.ok.kind]; rfl
  have hiσ : i < σ.length := by rw [I.len]; exact (List.getElem?_eq_some_iff.mp hi).1
  have cne := I.cne
  have tracked : ∀ {a : Addr} {h' : Heap}, (∃ o, s.heap.get? a = some o ∧ H a = none) → Heap.SameBut a s.heap h' → HOk X.prog X.w H h' := fun {a h'} ha hs b ob e => by
    obtain ⟨_, _, hfree⟩ := ha
    refine (I.hok b ob e).stay (fun c w' hc q => (hs.2 c ?_).trans q) (fun _ q => q) fun _ _ q => q
    rintro rfl
    rcases hc with rfl | hc
    · rw [hfree] at e; cases e
    · rw [hfree] at hc; cases hc
  rcases hx with hk | hk
  · refine wpAny_storeName_local hk hn (fun h' hn' hs => ?_) hcls
    obtain ⟨oL, _, _, hoL, _⟩ := id hn
    refine h _ ⟨I.ok, I.os, I.bare, ⟨fun b o e n hb hx => ?_, fun b o e n hb hx => ?_, I.base.free, fun b o e hx => ?_, I.base.tups, I.base.frzs, I.base.tbls⟩, ⟨_, hn', fun j y v' e1 e2 e3 => ?_⟩, fun y c e => ?_, I.free, I.freeC, fun p hp => ?_, tracked ⟨oL, hoL, I.free⟩ hs, by simpa using I.len⟩ ⟨_, hs, .inl rfl⟩
    · exact (hs.2 b (Nat.ne_of_lt (Nat.lt_of_lt_of_le (Heap.lt_size e) I.ok.above))).trans (I.base.keep b o e n hb hx)
    · obtain ⟨sl, e1⟩ := I.base.slot b o e n hb hx
      exact ⟨sl, (hs.2 b (Nat.ne_of_lt (Nat.lt_of_lt_of_le (Heap.lt_size e) I.ok.above))).trans e1⟩
    · obtain ⟨o', e1⟩ := I.base.there b o e hx
      exact ⟨o', (hs.2 b (Nat.ne_of_lt (Nat.lt_of_lt_of_le (Heap.lt_size e) I.ok.above))).trans e1⟩
    · by_cases hj : j = i
      · subst hj
        rw [hi] at e1; cases e1
        rw [List.getElem?_set_self hiσ] at e2
        cases e2
        exact ⟨u, r, .inl ⟨hk, by simp⟩⟩
      · rw [List.getElem?_set_ne (Ne.symm hj)] at e2
        obtain ⟨u', r', q⟩ := hl j y v' e1 e2 e3
        refine ⟨u', r', ?_⟩
        rcases q with ⟨k, e⟩ | ⟨k, c, e, z⟩
        · refine .inl ⟨k, ?_⟩
          have : y ≠ x := fun e => hj (nodup_ix hN e1 (e ▸ hi))
          simp [this, e]
        · exact .inr ⟨k, c, e, z.sameBut hs (cne y c e)⟩
    · obtain ⟨w', z⟩ := I.cell y c e
      exact ⟨w', z.sameBut hs (cne y c e)⟩
    · obtain ⟨e, n, ne, nf, d⟩ := I.pin p hp
      exact ⟨(hs.2 p.1 ne).trans e, n, ne, nf, d⟩
  · have hfn : X.fn x = true := by
      rcases hf with z | z
      · exact z
      · rw [z] at hk; cases hk
    obtain ⟨c, hc⟩ := I.ok.has x (.inl hk)
    obtain ⟨w', z⟩ := I.cell x c hc
    refine wpAny_storeName_cell I.ok.kind hk hc z (fun h' hc' hs => ?_)
    obtain ⟨oc, hoc, hocd⟩ := id z
    refine h { s with heap := h' } ⟨I.ok, I.os, I.bare, ⟨fun b o e n hb hx => ?_, fun b o e n hb hx => ?_, I.base.free, fun b o e hx => ?_, I.base.tups, I.base.frzs, I.base.tbls⟩, ⟨m, hn.sameBut hs (Ne.symm (cne x c hc)), fun j y v' e1 e2 e3 => ?_⟩, fun y c' e => ?_, I.free, I.freeC, fun p hp => ?_, tracked ⟨oc, hoc, I.freeC x c hc⟩ hs, by simpa using I.len⟩ ⟨c, hs, .inr hc⟩
    · exact (hs.2 b (Nat.ne_of_lt (Nat.lt_of_lt_of_le (Heap.lt_size e) (I.ok.cab x c hfn hc)))).trans (I.base.keep b o e n hb hx)
    · obtain ⟨sl, e1⟩ := I.base.slot b o e n hb hx
      exact ⟨sl, (hs.2 b (Nat.ne_of_lt (Nat.lt_of_lt_of_le (Heap.lt_size e) (I.ok.cab x c hfn hc)))).trans e1⟩
    · obtain ⟨o', e1⟩ := I.base.there b o e hx
      exact ⟨o', (hs.2 b (Nat.ne_of_lt (Nat.lt_of_lt_of_le (Heap.lt_size e) (I.ok.cab x c hfn hc)))).trans e1⟩
    · by_cases hj : j = i
      · subst hj
        rw [hi] at e1; cases e1
        rw [List.getElem?_set_self hiσ] at e2
        cases e2
        exact ⟨u, r, .inr ⟨.inl hk, c, hc, hc'⟩⟩
      · rw [List.getElem?_set_ne (Ne.symm hj)] at e2
        obtain ⟨u', r', q⟩ := hl j y v' e1 e2 e3
        refine ⟨u', r', ?_⟩
        rcases q with q | ⟨k, c', e, z'⟩
        · exact .inl q
        · refine .inr ⟨k, c', e, z'.sameBut hs ?_⟩
          rintro rfl
          exact hj (nodup_ix hN e1 (I.ok.inj _ _ _ e hc ▸ hi))
    · by_cases hcc : c' = c
      · subst hcc; exact ⟨_, hc'⟩
      · obtain ⟨w2, z2⟩ := I.cell y c' e
        exact ⟨w2, z2.sameBut hs hcc⟩
    · obtain ⟨e, n, ne, nf, d⟩ := I.pin p hp
      refine ⟨(hs.2 p.1 ?_).trans e, n, ne, nf, d⟩
      intro q
      rw [q, hoc] at e
      have q' : oc = p.2 := Option.some.inj e
      exact d w' (by rw [← q']; exact hocd)
theorem store_ok {M : Model} {A : Around} {E : Value → Shared → Prop} {i : Nat} {x : Str} {v : V} {u : Value} {Q : Unit → Shared → Prop} (I : Inv X pins σ H s) (hN : X.N.Nodup) (hi : X.N[i]? = some x) (hx : Loc X.env.scope x) (r : RelV v u)
    (h : ∀ s', Inv X pins (σ.set i (some v)) H s' → Q () s') (hf : X.fn x = true ∨ X.env.scope.names.lookup x = some .local := by first | exact .inl rfl | exact .inr rfl | assumption) : wpAny M A (storeName X.env x u) Q E s :=
  store_ok2 I hN hi hx r (fun s' I' _ => h s' I') hf
/-- behind a call or a block, the state as it is -/
theorem Inv.call' {s' : Shared} {ch : List Addr} (I : Inv X pins σ H s) (ho : s'.os = s.os) (u : Un (frs X.stack) ch H H' s.heap s'.heap) (hok : HOk X.prog X.w H' s'.heap) (hg : Bare2 X.qt X.s_0 s'.gens s'.drawn)
    (hch : ∀ b ∈ ch, (b ∈ X.ex ∨ X.s_0.heap.objs.size ≤ b) ∧ b ≠ X.env.locals ∧ (∀ x c, X.env.cells.lookup x = some c → c ≠ b) ∧ ∀ p ∈ X.pn ++ pins, p.1 ≠ b) : Inv X pins σ H' s' := by
  obtain ⟨h', g', d', t', o'⟩ := s'
  have e : o' = s.os := ho
  subst e
  exact I.call (g' := g') (t' := t') (d' := d') u hok hg hch
end

/-! ### the judgements -/
/-- an exception: its class, its own dict's address (where it has one), the abstract heap behind it -/
abbrev XK := Value → Option Addr → Hp → Prop
abbrev St := List (Option V)
abbrev VK := V → Hp → Prop
/-- an expression's reading; a test's; an argument list's -/
abbrev TE := St → Hp → VK → Prop
abbrev TT := St → Hp → (Bool → Hp → Prop) → Prop
abbrev TA := St → Hp → (List V → Hp → Prop) → Prop
/-- what is wanted behind a statement -/
structure Ends where
  nx : St → Hp → Prop
  rt : VK
  bk : St → Hp → Prop := fun _ _ => False
  ct : St → Hp → Prop := fun _ _ => False
abbrev TS := Ends → St → Hp → Prop

def EP (X : Cx) (pins : List (Addr × Obj)) (σ : St) (Q : VK) (u : Value) (s' : Shared) : Prop := ∃ v H', Inv X pins σ H' s' ∧ RelV v u ∧ Q v H'
def TP (X : Cx) (pins : List (Addr × Obj)) (σ : St) (Q : Bool → Hp → Prop) (b : Bool) (s' : Shared) : Prop := ∃ H', Inv X pins σ H' s' ∧ Q b H'
def AP (X : Cx) (pins : List (Addr × Obj)) (σ : St) (Q : List V → Hp → Prop) (us : List Value) (s' : Shared) : Prop := ∃ vs H', Inv X pins σ H' s' ∧ Vals vs us ∧ Q vs H'
def SP (X : Cx) (pins : List (Addr × Obj)) (D : Ends) (f : Flow) (s' : Shared) : Prop :=
  match f with
  | .next => ∃ σ' H', Inv X pins σ' H' s' ∧ D.nx σ' H'
  | .brk => ∃ σ' H', Inv X pins σ' H' s' ∧ D.bk σ' H'
  | .cont => ∃ σ' H', Inv X pins σ' H' s' ∧ D.ct σ' H'
  | .ret u => ∃ v σ' H', Inv X pins σ' H' s' ∧ RelV v u ∧ D.rt v H'

def PE (X : Cx) (e : Expr) (t : TE) : Prop :=
  ∀ (pins : List (Addr × Obj)) (s : Shared) (σ : St) (H : Hp) (Q : VK), Inv X pins σ H s → t σ H Q → wpAny (model X.prog X.w) X.A (eval e X.env) (EP X pins σ Q) X.xe s
def PT (X : Cx) (e : Expr) (t : TT) : Prop :=
  ∀ (pins : List (Addr × Obj)) (s : Shared) (σ : St) (H : Hp) (Q : Bool → Hp → Prop), Inv X pins σ H s → t σ H Q → wpAny (model X.prog X.w) X.A (isTrue e X.env (eval e X.env)) (TP X pins σ Q) X.xe s
/-- a test whatever its 'whole' is (and, or) -/
def PW (X : Cx) (e : Expr) (t : TT) : Prop :=
  ∀ (whole : Sem Value) (pins : List (Addr × Obj)) (s : Shared) (σ : St) (H : Hp) (Q : Bool → Hp → Prop), Inv X pins σ H s → t σ H Q → wpAny (model X.prog X.w) X.A (isTrue e X.env whole) (TP X pins σ Q) X.xe s
theorem PW.pt {X : Cx} {e : Expr} {t : TT} (h : PW X e t) : PT X e t := h _
/-- an argument list (no star), from the left -/
def PA (X : Cx) (es : List Expr) (t : TA) : Prop :=
  ∀ (pos : Pos) (pins : List (Addr × Obj)) (s : Shared) (σ : St) (H : Hp) (Q : List V → Hp → Prop), Inv X pins σ H s → t σ H Q → wpAny (model X.prog X.w) X.A (spliced (backTo pos (starEach es X.env))) (AP X pins σ Q) X.xe s
def PS (X : Cx) (st : Stmt) (t : TS) : Prop :=
  ∀ (pins : List (Addr × Obj)) (s : Shared) (σ : St) (H : Hp) (D : Ends), Inv X pins σ H s → t D σ H → wpAny (model X.prog X.w) X.A (exec st X.env) (SP X pins D) X.xe s
def PSs (X : Cx) (st : List Stmt) (t : TS) : Prop :=
  ∀ (pins : List (Addr × Obj)) (s : Shared) (σ : St) (H : Hp) (D : Ends), Inv X pins σ H s → t D σ H → wpAny (model X.prog X.w) X.A (execs st X.env) (SP X pins D) X.xe s
/-- weaken the end -/
theorem thn {α : Type} {t : Sem α} {Q Q' : α → Shared → Prop} {M : Model} {A : Around} {E : Value → Shared → Prop} {s : Shared} (h : wpAny M A t Q E s) (hQ : ∀ a s, Q a s → Q' a s) : wpAny M A t Q' E s := wpAny_mono h hQ fun _ _ x => x
end L2

namespace L2
open PySem PySem.Spec PyProof.Rows
section
variable {X : Cx}

/-- two expressions in a row -/
theorem bin {a b : Expr} {ta tb : TE} (ha : PE X a ta) (hb : PE X b tb) {pins : List (Addr × Obj)} {s : Shared} {σ : St} {H : Hp} {R : V → V → Hp → Prop} (I : Inv X pins σ H s) (h : ta σ H fun x H1 => tb σ H1 fun y H2 => R x y H2)
    {α : Type} {Q : α → Shared → Prop} {f : Value → Value → Sem α}
    (hf : ∀ v u s2 x y H2, Inv X pins σ H2 s2 → RelV x v → RelV y u → R x y H2 → wpAny (model X.prog X.w) X.A (f v u) Q X.xe s2) :
    wpAny (model X.prog X.w) X.A (eval a X.env) (fun v s₁ => wpAny (model X.prog X.w) X.A (eval b X.env) (fun u s₂ => wpAny (model X.prog X.w) X.A (f v u) Q X.xe s₂) X.xe s₁) X.xe s := by
  refine thn (ha pins s σ H _ I h) fun v s1 ⟨x, H1, I1, r1, q1⟩ => ?_
  refine thn (hb pins s1 σ H1 _ I1 q1) fun u s2 ⟨y, H2, I2, r2, q2⟩ => ?_
  exact hf v u s2 x y H2 I2 r1 r2 q2

/-! ### names and constants -/
def tVar (i : Nat) : TE := fun σ H Q => ∃ v, σ[i]? = some (some v) ∧ Q v H
def tC (v : V) : TE := fun _ H Q => Q v H
theorem pe_var {i : Nat} {x : Str} {pos : Pos} (hN : X.N[i]? = some x) (hv : Vis X.env.scope x) (hd : (x == ("__debug__" : Str)) = false := by decide) (hcd : (x == ("__classdict__" : Str)) = false := by decide) : PE X (.Name x pos) (tVar i) := by
  intro pins s σ H Q I h
  obtain ⟨v, e, h⟩ := h
  obtain ⟨m, hn, hl⟩ := I.loc
  obtain ⟨u, r, l⟩ := hl i x v hN e hv
  have fin : EP X pins σ Q u s := ⟨v, H, I, r, h⟩
  rcases l with ⟨hk, hm⟩ | ⟨hk, c, hc, hcell⟩
  · exact wpAny_Name (wpAny_loadName_local I.ok.kind hk hn hm fin) hd
  · rcases hk with hk | hk
    · exact wpAny_Name (wpAny_loadName_cell I.ok.kind hk hc hcell fin) hd
    · exact wpAny_Name (wpAny_loadName_free I.ok.kind hk hc hcell fin hcd) hd
theorem pe_int {i j pos} : PE X (.Constant (.int i) j pos) (tC (.int i)) := fun _ _ _ H _ I h => wpAny_Constant_int ⟨.int i, H, I.tok _, ⟨_, rfl⟩, h⟩
theorem pe_bl {b j pos} : PE X (.Constant (.bool b) j pos) (tC (.bl b)) := fun _ _ _ H _ I h => Constant_bool ⟨.bl b, H, I, rfl, h⟩
theorem pe_non {j pos} : PE X (.Constant .none j pos) (tC .non) := fun _ _ _ H _ I h => Constant_none ⟨.non, H, I, rfl, h⟩
/-- a global name of the def -/
def Gl (X : Cx) (x : Str) : Prop := X.env.kindOf x = some .globalImplicit
theorem ld_glob {E : Value → Shared → Prop} {pins : List (Addr × Obj)} {s : Shared} {σ : St} {H : Hp} {x : Str} {u : Value} {pos : Pos} {Q : Value → Shared → Prop} (I : Inv X pins σ H s) (hg : Gl X x) (hm : X.mg x = some u) (h : Q u s)
    (hd : (x == ("__debug__" : Str)) = false := by decide) : wpAny (model X.prog X.w) X.A (eval (.Name x pos) X.env) Q E s :=
  Calls.Name_function_global I.ok.kind hg (Calls.loadGlobal_global (by rw [I.ok.glob]; exact I.mod.glob.keeps I.bk) hm h) hd
theorem ld_blt {E : Value → Shared → Prop} {pins : List (Addr × Obj)} {s : Shared} {σ : St} {H : Hp} {x : Str} {u : Value} {pos : Pos} {Q : Value → Shared → Prop} (I : Inv X pins σ H s) (hg : Gl X x) (hm : X.mg x = none) (hv : bootBuiltins x = some u) (h : Q u s)
    (hn : x ≠ "__name__" := by decide) (hd : (x == ("__debug__" : Str)) = false := by decide) : wpAny (model X.prog X.w) X.A (eval (.Name x pos) X.env) Q E s := by
  obtain ⟨mb, h1, h2⟩ := I.mod.blt
  exact Calls.Name_function_global I.ok.kind hg (Calls.loadGlobal_builtin (by rw [I.ok.glob]; exact I.mod.glob.keeps I.bk) hm (by rw [I.ok.blt]; exact h1.keeps I.bk) ((h2 x hn).trans hv) h) hd
/-- a module's constant, a class, a function, as a value -/
theorem pe_glob {x : Str} {v : V} {u : Value} {pos : Pos} (hg : Gl X x) (hm : X.mg x = some u) (r : RelV v u) (hd : (x == ("__debug__" : Str)) = false := by decide) : PE X (.Name x pos) (tC v) :=
  fun _ _ _ H _ I h => ld_glob I hg hm ⟨v, H, I, r, h⟩ hd
theorem pe_bltn {x : Str} {v : V} {u : Value} {pos : Pos} (hg : Gl X x) (hm : X.mg x = none) (hv : bootBuiltins x = some u) (r : RelV v u) (hn : x ≠ "__name__" := by decide) (hd : (x == ("__debug__" : Str)) = false := by decide) : PE X (.Name x pos) (tC v) :=
  fun _ _ _ H _ I h => ld_blt I hg hm hv ⟨v, H, I, r, h⟩ hn hd

/-! ### arithmetic -/
/-- two ints -/
def t2I (ta tb : TE) (k : Int → Int → Hp → Prop) : St → Hp → Prop := fun σ H => ta σ H fun x H1 => tb σ H1 fun y H2 => ∃ i j, x = .int i ∧ y = .int j ∧ k i j H2
variable {a b : Expr} {ta tb : TE} {pos : Pos}
/-! ### comparisons -/
def PC (X : Cx) (op : CmpOp) (a b : Expr) (t : TE) : Prop :=
  ∀ (pins : List (Addr × Obj)) (s : Shared) (σ : St) (H : Hp) (Q : VK), Inv X pins σ H s → t σ H Q →
    wpAny (model X.prog X.w) X.A (eval a X.env) (fun v s₁ => wpAny (model X.prog X.w) X.A (eval b X.env) (fun u s₂ => wpAny (model X.prog X.w) X.A (compareOp op v u) (EP X pins σ Q) X.xe s₂) X.xe s₁) X.xe s
theorem nobehind (b : Expr) {op : CmpOp} (h : op ≠ .In) (h2 : op ≠ .NotIn) : behindInMarks op b = false := by
  have e1 : (op == CmpOp.In) = false := by cases op <;> first | rfl | exact absurd rfl h
  have e2 : (op == CmpOp.NotIn) = false := by cases op <;> first | rfl | exact absurd rfl h2
  cases b <;> simp [behindInMarks, e1, e2]
def tCmp (p : Int → Int → Bool) (ta tb : TE) : TE := fun σ H Q => t2I ta tb (fun i j H2 => Q (.bl (p i j)) H2) σ H
abbrev tLt : TE → TE → TE := tCmp fun i j => decide (i < j)
abbrev tGt : TE → TE → TE := tCmp fun i j => decide (j < i)
abbrev tEqI : TE → TE → TE := tCmp fun i j => decide (i = j)
abbrev tNeI : TE → TE → TE := tCmp fun i j => !decide (i = j)
/-- a comparison of two ints, by its rule -/
theorem pc_int {op : CmpOp} {p : Int → Int → Bool} (ha : PE X a ta) (hb : PE X b tb)
    (rule : ∀ (i j : Int) (t u : Tok) (Q : Value → Shared → Prop) (s : Shared), Q (.bool (p i j)) s → wpAny (model X.prog X.w) X.A (compareOp op (.int i t) (.int j u)) Q X.xe s) : PC X op a b (tCmp p ta tb) := by
  intro pins s σ H Q I h
  refine bin ha hb I h fun v u s2 x y H2 I2 rx ry q => ?_
  obtain ⟨i, j, rfl, rfl, q⟩ := q
  obtain ⟨t, rfl⟩ := rx
  obtain ⟨t', rfl⟩ := ry
  exact rule i j t t' _ s2 ⟨.bl _, H2, I2, rfl, q⟩
theorem pc_lt (ha : PE X a ta) (hb : PE X b tb) : PC X .Lt a b (tLt ta tb) := pc_int ha hb fun _ _ _ _ _ _ h => lt_int h
theorem pc_gt (ha : PE X a ta) (hb : PE X b tb) : PC X .Gt a b (tGt ta tb) := pc_int ha hb fun _ _ _ _ _ _ h => gt_int h
theorem pc_eqI (ha : PE X a ta) (hb : PE X b tb) : PC X .Eq a b (tEqI ta tb) := pc_int ha hb fun _ _ _ _ _ _ h => eq_int (by rw [Bool.beq_eq_decide_eq]; exact h)
theorem pc_neI (ha : PE X a ta) (hb : PE X b tb) : PC X .NotEq a b (tNeI ta tb) := pc_int ha hb fun _ _ _ _ _ _ h => ne_int (by rw [bne, Bool.beq_eq_decide_eq]; exact h)
def tNotN (ta : TE) : TE := fun σ H Q => ta σ H fun x H1 => Q (.bl (!decide (x = .non))) H1
theorem RelV.none_iff {x : V} {v : Value} (r : RelV x v) : (v == Value.none) = decide (x = .non) := by
  cases x with
  | non => cases r; rfl
  | bl _ => cases r; rfl
  | int _ => obtain ⟨t, rfl⟩ := r; rfl
  | str _ => obtain ⟨t, rfl⟩ := r; rfl
  | byt _ => obtain ⟨t, rfl⟩ := r; rfl
  | flt _ => obtain ⟨t, rfl⟩ := r; rfl
  | ref _ => cases r; rfl
  | ty _ => cases r; rfl
theorem pc_notN {j pos'} (ha : PE X a ta) : PC X .IsNot a (.Constant .none j pos') (tNotN ta) := by
  intro pins s σ H Q I h
  refine thn (ha pins s σ H _ I h) fun v s1 ⟨x, H1, I1, r1, q1⟩ => ?_
  exact Constant_none (isnot_none_gen ⟨.bl _, H1, I1, by rw [r1.none_iff]; rfl, q1⟩)
/-- a comparison as a value, as a test -/
def tB (t : TE) : TT := fun σ H Q => t σ H fun x H1 => ∃ c, x = .bl c ∧ Q c H1
theorem pe_cmp {op : CmpOp} {t : TE} (h : PC X op a b t) (h1 : behindInMarks op b = false := by first | exact nobehind _ (by decide) (by decide) | rfl) : PE X (.Compare a [op] [b] pos) t := fun pins s σ H Q I hw => wpAny_Compare1 (h pins s σ H Q I hw) h1
theorem pt_cmp {op : CmpOp} {t : TE} (h : PC X op a b t) (h1 : behindInMarks op b = false := by first | exact nobehind _ (by decide) (by decide) | rfl) : PT X (.Compare a [op] [b] pos) (tB t) := by
  intro pins s σ H Q I hw
  refine wpAny_isTrue_Compare1 (thn (h pins s σ H _ I hw) fun v s1 h1 => thn h1 fun u s2 h2 => thn h2 fun c s3 ⟨x, H1, I1, r1, q1⟩ => ?_) h1
  obtain ⟨d, rfl, q⟩ := q1
  cases r1
  exact wpAny_truthy_bool ⟨H1, I1, q⟩
/-- an expression whose value is a bool, as a test -/
theorem pt_val {e : Expr} {t : TE} (h : PE X e t) (he : ∀ whole, isTrue e X.env whole = (do let v ← whole; standAt e.pos; holding [v] (truthy v)) := by intro _; rfl) : PT X e (tB t) := by
  intro pins s σ H Q I hw
  refine isTrue_plain (thn (h pins s σ H _ I hw) fun v s1 ⟨x, H1, I1, r1, q1⟩ => ?_) (he _)
  obtain ⟨d, rfl, q⟩ := q1
  cases r1
  exact wpAny_truthy_bool ⟨H1, I1, q⟩

/-! ### and, or, not -/
variable {tA tB' : TT} {rest : List Expr}
def tOr (t u : TT) : TT := fun σ H Q => t σ H fun c H1 => if c = true then Q true H1 else u σ H1 Q
def tNot (t : TT) : TT := fun σ H Q => t σ H fun c H1 => Q (!c) H1
theorem pw_or1 (ha : PT X a tA) : PW X (.BoolOp .Or [a] pos) tA := by
  intro wh pins s σ H Q I h
  refine isTrue_or (thn (ha pins s σ H Q I h) fun c s1 e => ?_)
  cases c with
  | false => exact isTrue_or_nil e
  | true => exact e
theorem pw_or (ha : PT X a tA) (hb : PW X (.BoolOp .Or (b :: rest) pos) tB') : PW X (.BoolOp .Or (a :: b :: rest) pos) (tOr tA tB') := by
  intro wh pins s σ H Q I h
  refine isTrue_or (thn (ha pins s σ H _ I h) fun c s1 ⟨H1, I1, q1⟩ => ?_)
  cases c with
  | true => exact ⟨H1, I1, q1⟩
  | false => exact hb wh pins s1 σ H1 Q I1 q1
theorem pt_not (ha : PT X a tA) : PT X (.UnaryOp .Not a pos) (tNot tA) := by
  intro pins s σ H Q I h
  exact isTrue_not (ha pins s σ H (fun c H1 => Q (!c) H1) I h)
/-- .. as values (bools) -/
def tAndV (ta tb : TE) : TE := fun σ H Q => ta σ H fun x H1 => ∃ c, x = .bl c ∧ if c = true then tb σ H1 Q else Q (.bl false) H1
def tNotV (ta : TE) : TE := fun σ H Q => ta σ H fun x H1 => ∃ c, x = .bl c ∧ Q (.bl (!c)) H1
theorem pe_one {op} {t : TE} (h : PE X a t) : PE X (.BoolOp op [a] pos) t := fun pins s σ H Q I hw => BoolOp_one (h pins s σ H Q I hw)
theorem pe_and (ha : PE X a ta) (hb : PE X (.BoolOp .And (b :: rest) pos) tb) : PE X (.BoolOp .And (a :: b :: rest) pos) (tAndV ta tb) := by
  intro pins s σ H Q I h
  refine BoolOp_and (thn (ha pins s σ H _ I h) fun v s1 ⟨x, H1, I1, r1, q1⟩ => ?_)
  obtain ⟨c, rfl, q1⟩ := q1
  cases r1
  refine wpAny_truthy_bool ?_
  cases c with
  | true => exact hb pins s1 σ H1 Q I1 q1
  | false => exact ⟨.bl false, H1, I1, rfl, q1⟩
theorem pe_not (ha : PE X a ta) : PE X (.UnaryOp .Not a pos) (tNotV ta) := by
  intro pins s σ H Q I h
  refine UnaryOp_ (thn (ha pins s σ H _ I h) fun v s1 ⟨x, H1, I1, r1, q1⟩ => ?_)
  obtain ⟨c, rfl, q1⟩ := q1
  cases r1
  exact not_of (wpAny_truthy_bool ⟨.bl (!c), H1, I1, rfl, q1⟩)
/-- a if t else b -/
def tIf (t : TT) (ta tb : TE) : TE := fun σ H Q => t σ H fun c H1 => if c = true then ta σ H1 Q else tb σ H1 Q
theorem pe_ifExp {c : Expr} (hc : PT X c tA) (ha : PE X a ta) (hb : PE X b tb) : PE X (.IfExp c a b pos) (tIf tA ta tb) := by
  intro pins s σ H Q I h
  refine wpAny_IfExp (thn (hc pins s σ H _ I h) fun d s1 ⟨H1, I1, q1⟩ => ?_)
  cases d with
  | true => exact ha pins s1 σ H1 Q I1 q1
  | false => exact hb pins s1 σ H1 Q I1 q1
end
end L2

namespace L2
open PySem PySem.Spec PyProof.Rows

/-! ### a list, a tuple that is read: tracked, frozen, or an object of the module -/
def SqL (K : PySem.W.Frag) (H : Hp) (a : Addr) (xs : List V) : Prop :=
  Rd H a (.lst xs) ∨
    ∃ (o : Obj) (its : Array Value) (n : Nat), K.lookup a = some o ∧ o.cls = .type "list" ∧ o.dict = none ∧ o.data = .seq its n ∧ its.size ≤ sizeLine ∧ Vals xs its.toList
def SqT (K : PySem.W.Frag) (H : Hp) (a : Addr) (xs : List V) : Prop :=
  Rd H a (.tup xs) ∨
    ∃ (o : Obj) (its : Array Value) (n : Nat), K.lookup a = some o ∧ o.cls = .type "tuple" ∧ o.data = .seq its n ∧ its.size ≤ sizeLine ∧ Vals xs its.toList
def absV : Value → Option V
  | .none => some .non
  | .bool b => some (.bl b)
  | .int i _ => some (.int i)
  | .str x _ => some (.str x)
  | .bytes b _ => some (.byt b)
  | .float b _ => some (.flt b)
  | .ref a => some (.ref a)
  | .type n => some (.ty n)
  | _ => none
theorem RelV.abs {x : V} {u : Value} (r : RelV x u) : absV u = some x := by
  cases x with
  | non => cases r; rfl
  | bl _ => cases r; rfl
  | int _ => obtain ⟨t, rfl⟩ := r; rfl
  | str _ => obtain ⟨t, rfl⟩ := r; rfl
  | byt _ => obtain ⟨t, rfl⟩ := r; rfl
  | flt _ => obtain ⟨t, rfl⟩ := r; rfl
  | ref _ => cases r; rfl
  | ty _ => cases r; rfl
theorem RelV.inj {x y : V} {u : Value} (r : RelV x u) (q : RelV y u) : x = y := Option.some.inj (r.abs.symm.trans q.abs)
theorem Vals.inj : ∀ {xs ys : List V} {us : List Value}, Vals xs us → Vals ys us → xs = ys
  | _, _, _, .nil, .nil => rfl
  | _, _, _, .cons r t, .cons r' t' => by rw [r.inj r', Vals.inj t t']
section
variable {X : Cx} {pins : List (Addr × Obj)} {σ : St} {H : Hp} {s : Shared} {a : Addr} {xs ys : List V}
theorem SqL.of {K : PySem.W.Frag} (h : H a = some (.lst xs)) : SqL K H a xs := .inl (.inl h)
theorem SqT.of {K : PySem.W.Frag} (h : H a = some (.tup xs)) : SqT K H a xs := .inl (.inl h)
theorem Inv.list (I : Inv X pins σ H s) (h : SqL X.K H a xs) : ∃ its : List Value, Vals xs its ∧ PlainL s.heap a its.toArray ∧ xs.length ≤ sizeLine := by
  rcases h with h | ⟨o, its, n, hk, hc, hd, hs, hz, r⟩
  · obtain ⟨z, its, n, r, e⟩ := h.ok I.hok
    exact ⟨its, r, ⟨_, n, e, rfl, rfl, rfl⟩, z⟩
  · refine ⟨its.toList, r, ⟨o, n, I.kIn a o hk, hc, hd, by simpa using hs⟩, ?_⟩
    have e := r.length
    simp only [Array.length_toList] at e
    omega
theorem Inv.tuple (I : Inv X pins σ H s) (h : SqT X.K H a xs) : ∃ its : List Value, Vals xs its ∧ IsTup s.heap a its.toArray ∧ xs.length ≤ sizeLine := by
  rcases h with h | ⟨o, its, n, hk, hc, hs, hz, r⟩
  · obtain ⟨z, its, r, p⟩ := h.ok I.hok
    exact ⟨its, r, p, z⟩
  · refine ⟨its.toList, r, ⟨o, I.kIn a o hk, hc, n, by simpa using hs⟩, ?_⟩
    have e := r.length
    simp only [Array.length_toList] at e
    omega
theorem Inv.list_inj (I : Inv X pins σ H s) (h : SqL X.K H a xs) (h' : SqL X.K H a ys) : xs = ys := by
  obtain ⟨its, r, ⟨o, n, e, _, _, d⟩, _⟩ := I.list h
  obtain ⟨its', r', ⟨o', n', e', _, _, d'⟩, _⟩ := I.list h'
  rw [e] at e'; cases e'
  rw [d] at d'
  injection d' with d1 _
  have : its = its' := by simpa using congrArg Array.toList d1
  subst this
  exact r.inj r'
end

/-! ### another wish about exceptions -/
abbrev Cx.wish (X : Cx) (E : Value → Shared → Prop) : Cx := { X with xe := E }
/-- no exception leaves -/
abbrev Cx.nox (X : Cx) : Cx := X.wish fun _ _ => False
theorem Cx.Ok.wish {X : Cx} (ok : X.Ok) (E : Value → Shared → Prop) : (X.wish E).Ok :=
  ⟨ok.mod, ok.kind, ok.glob, ok.blt, ok.above, ok.inj, ok.has, ok.cab, ok.hd, ok.frames, ok.stk, ok.exf, ok.bs, ok.bsz, ok.noex, ok.exfs, ok.funs, ok.frf⟩
theorem Cx.Ok.unwish {X : Cx} {E : Value → Shared → Prop} (ok : (X.wish E).Ok) : X.Ok :=
  ⟨ok.mod, ok.kind, ok.glob, ok.blt, ok.above, ok.inj, ok.has, ok.cab, ok.hd, ok.frames, ok.stk, ok.exf, ok.bs, ok.bsz, ok.noex, ok.exfs, ok.funs, ok.frf⟩
section
variable {X : Cx} {pins : List (Addr × Obj)} {σ : St} {H : Hp} {s : Shared} {E : Value → Shared → Prop}
theorem Inv.wish (I : Inv X pins σ H s) (E : Value → Shared → Prop) : Inv (X.wish E) pins σ H s := ⟨I.ok.wish E, I.os, I.bare, I.base, I.loc, I.cell, I.free, I.freeC, I.pin, I.hok, I.len⟩
theorem Inv.unwish (I : Inv (X.wish E) pins σ H s) : Inv X pins σ H s := ⟨I.ok.unwish, I.os, I.bare, I.base, I.loc, I.cell, I.free, I.freeC, I.pin, I.hok, I.len⟩
theorem SP.unwish {D : Ends} {f : Flow} {s' : Shared} (h : SP (X.wish E) pins D f s') : SP X pins D f s' := by
  cases f with
  | next => obtain ⟨σ', H', I, q⟩ := h; exact ⟨σ', H', I.unwish, q⟩
  | brk => obtain ⟨σ', H', I, q⟩ := h; exact ⟨σ', H', I.unwish, q⟩
  | cont => obtain ⟨σ', H', I, q⟩ := h; exact ⟨σ', H', I.unwish, q⟩
  | ret u => obtain ⟨v, σ', H', I, r, q⟩ := h; exact ⟨v, σ', H', I.unwish, r, q⟩
theorem PE.nox {e : Expr} {t : TE} (h : PE X.nox e t) : PE X e t := fun pins s σ H Q I hw =>
  wpAny_mono (h pins s σ H Q (I.wish _) hw) (fun _ _ ⟨v, H', I', r, q⟩ => ⟨v, H', I'.unwish, r, q⟩) fun _ _ z => False.elim z
theorem PT.nox {e : Expr} {t : TT} (h : PT X.nox e t) : PT X e t := fun pins s σ H Q I hw =>
  wpAny_mono (h pins s σ H Q (I.wish _) hw) (fun _ _ ⟨H', I', q⟩ => ⟨H', I'.unwish, q⟩) fun _ _ z => False.elim z
theorem PSs.nox {st : List Stmt} {t : TS} (h : PSs X.nox st t) : PSs X st t := fun pins s σ H D I hw =>
  wpAny_mono (h pins s σ H D (I.wish _) hw) (fun _ _ q => q.unwish) fun _ _ z => False.elim z
end

/-! ### blocks and small statements -/
section
variable {X : Cx} {st : Stmt} {rest : List Stmt} {t u : TS} {e : Expr} {te : TE} {pos : Pos}
def tNext : TS := fun D σ H => D.nx σ H
def tSeq (t u : TS) : TS := fun D σ H => t { D with nx := u D } σ H
theorem pss_nil : PSs X [] tNext := fun _ _ σ H _ I h => wpAny_execs_nil ⟨σ, H, I, h⟩
theorem pss_cons (h1 : PS X st t) (h2 : PSs X rest u) : PSs X (st :: rest) (tSeq t u) := by
  intro pins s σ H D I h
  refine wpAny_execs_cons (thn (h1 pins s σ H { D with nx := u D } I h) fun f s1 q => ?_)
  cases f with
  | next =>
    obtain ⟨σ', H', I', q⟩ := q
    exact h2 pins s1 σ' H' D I' q
  | ret v => exact q
  | brk => exact q
  | cont => exact q
theorem pss_one (h1 : PS X st t) : PSs X [st] t := by
  intro pins s σ H D I h
  refine wpAny_execs_cons (thn (h1 pins s σ H D I h) fun f s1 q => ?_)
  cases f with
  | next => exact wpAny_execs_nil q
  | ret v => exact q
  | brk => exact q
  | cont => exact q
/-- in a def's body nothing is shown -/
theorem Inv.quiet {pins : List (Addr × Obj)} {σ : St} {H : Hp} {s : Shared} (I : Inv X pins σ H s) : interactive X.env = false := by simp [interactive, I.ok.kind]
/-- an expression whose value is dropped -/
def tDrop (te : TE) : TS := fun D σ H => te σ H fun _ H1 => D.nx σ H1
theorem ps_expr (he : PE X e te) (hs : swapsWith e none pos.line X.env = pure false := by rfl) : PS X (.Expr e pos) (tDrop te) := by
  intro pins s σ H D I h
  exact wpAny_Expr_any (thn (he pins s σ H _ I h) fun v s1 ⟨x, H1, I1, r1, q1⟩ => ⟨σ, H1, I1, q1⟩) I.quiet hs
def tRet (te : TE) : TS := fun D σ H => te σ H D.rt
theorem ps_ret (he : PE X e te) : PS X (.Return (some e) pos) (tRet te) := by
  intro pins s σ H D I h
  exact wpAny_Return_some (thn (he pins s σ H _ I h) fun v s1 ⟨x, H1, I1, r1, q1⟩ => ⟨x, σ, H1, I1, r1, q1⟩)
def tIfS (c : TT) (t u : TS) : TS := fun D σ H => c σ H fun b H1 => if b = true then t D σ H1 else u D σ H1
theorem ps_if {c : Expr} {a b : List Stmt} {tc : TT} (hc : PT X c tc) (ha : PSs X a t) (hb : PSs X b u) : PS X (.If c a b pos) (tIfS tc t u) := by
  intro pins s σ H D I h
  refine wpAny_If (thn (hc pins s σ H _ I h) fun d s1 ⟨H1, I1, q1⟩ => ?_)
  cases d with
  | true => exact ha pins s1 σ H1 D I1 q1
  | false => exact hb pins s1 σ H1 D I1 q1
/-- code that the proof never comes to -/
def tNever : TS := fun _ _ _ => False
theorem pss_never {sts : List Stmt} : PSs X sts tNever := fun _ _ _ _ _ _ h => h.elim
end

/-! ### targets -/
abbrev TG := V → St → Hp → (St → Hp → Prop) → Prop
abbrev TGs := List V → St → Hp → (St → Hp → Prop) → Prop
def PG (X : Cx) (target : Expr) (t : TG) : Prop :=
  ∀ (pins : List (Addr × Obj)) (s : Shared) (σ : St) (H : Hp) (v : V) (u : Value) (Q : St → Hp → Prop), Inv X pins σ H s → RelV v u → t v σ H Q →
    wpAny (model X.prog X.w) X.A (assign target X.env u) (fun _ s' => ∃ σ' H', Inv X pins σ' H' s' ∧ Q σ' H') X.xe s
/-- several targets, one after another -/
def PGs (X : Cx) (ts : List Expr) (t : TGs) : Prop :=
  ∀ (pins : List (Addr × Obj)) (s : Shared) (σ : St) (H : Hp) (vs : List V) (us : List Value) (Q : St → Hp → Prop), Inv X pins σ H s → Vals vs us → t vs σ H Q →
    wpAny (model X.prog X.w) X.A (assignInOrder ((assignEach ts X.env).map (·.2)) us) (fun _ s' => ∃ σ' H', Inv X pins σ' H' s' ∧ Q σ' H') X.xe s
/-- o[i] = v, by values -/
abbrev TSet := V → V → V → Hp → (Hp → Prop) → Prop
def PSet (X : Cx) (t : TSet) : Prop :=
  ∀ (pins : List (Addr × Obj)) (s : Shared) (σ : St) (H : Hp) (o i v : V) (ov iv u : Value) (Q : Hp → Prop), Inv X pins σ H s → RelV o ov → RelV i iv → RelV v u → t o i v H Q →
    wpAny (model X.prog X.w) X.A (setItem ov iv u) (fun _ s' => ∃ H', Inv X pins σ H' s' ∧ Q H') X.xe s
section
variable {X : Cx} {pos : Pos}
def gName (i : Nat) : TG := fun v σ H Q => Q (σ.set i (some v)) H
theorem pg_name {i : Nat} {x : Str} (hN : X.N.Nodup) (hi : X.N[i]? = some x) (hx : Loc X.env.scope x) (hf : X.fn x = true ∨ X.env.scope.names.lookup x = some .local := by first | exact .inl rfl | exact .inr rfl | assumption) : PG X (.Name x pos) (gName i) := by
  intro pins s σ H v u Q I r h
  exact wpAny_assign_Name (store_ok I hN hi hx r (fun s' I' => ⟨_, H, I', h⟩) hf)
def gNil : TGs := fun vs σ H Q => vs = [] ∧ Q σ H
def gCons (t : TG) (u : TGs) : TGs := fun vs σ H Q => ∃ v r, vs = v :: r ∧ t v σ H fun σ' H' => u r σ' H' Q
theorem pgs_nil : PGs X [] gNil := by
  intro pins s σ H vs us Q I r h
  obtain ⟨e, h⟩ := h
  subst e
  cases r
  exact assignInOrder_nil ⟨σ, H, I, h⟩
theorem pgs_cons {e : Expr} {es : List Expr} {t : TG} {u : TGs} (h1 : PG X e t) (h2 : PGs X es u)
    (hs : (assignEach (e :: es) X.env).map (·.2) = assign e X.env :: (assignEach es X.env).map (·.2) := by rfl) : PGs X (e :: es) (gCons t u) := by
  intro pins s σ H vs us Q I r h
  obtain ⟨v, vr, e1, h⟩ := h
  subst e1
  cases r with
  | cons r rr =>
    rw [hs]
    refine assignInOrder_cons (thn (h1 pins s σ H _ _ _ I r h) fun _ s1 ⟨σ1, H1, I1, q1⟩ => ?_)
    exact h2 pins s1 σ1 H1 _ _ Q I1 rr q1
/-- (a, b, ..) = a tuple of that length -/
def gTup (K : PySem.W.Frag) (n : Nat) (t : TGs) : TG := fun v σ H Q => ∃ a xs, v = .ref a ∧ SqT K H a xs ∧ xs.length = n ∧ t xs σ H Q
theorem pg_tup {es : List Expr} {k : Nat} {t : TGs} {n : Nat} (hc : X.calm = true) (h : PGs X es t)
    (hn : (assignEach es X.env).length = n := by rfl) (hst : (assignEach es X.env).findIdx? (·.1) = none := by rfl) : PG X (.Tuple es k pos) (gTup X.K n t) := by
  intro pins s σ H v u Q I r hw
  obtain ⟨a, xs, e1, hq, hl, hw⟩ := hw
  subst e1
  cases r
  obtain ⟨its, rv, ht, hz⟩ := I.tuple hq
  refine assign_Tuple_tuple (I.ok.hd hc) ht (by simp [hn, ← hl, rv.length]) hst fun h' hx => ?_
  have I1 : Inv X pins σ H { s with heap := h' } := I.kept (t' := s.toks) fun b o e => hx b o (Nat.ne_of_lt (Heap.lt_size e)) e
  exact h pins _ σ H xs _ Q I1 (by simpa using rv) hw
/-- o[i] = .. -/
def gSub (to ti : TE) (t : TSet) : TG := fun v σ H Q => to σ H fun o H1 => ti σ H1 fun i H2 => t o i v H2 fun H3 => Q σ H3
theorem pg_sub {o i : Expr} {to ti : TE} {t : TSet} (ho : PE X o to) (hi : PE X i ti) (hs : PSet X t)
    (ha : ∀ v, assign (.Subscript o i pos) X.env v = (do
      let ov ← holding [v] (eval o X.env)
      let iv ← holding [v, ov] (eval i X.env)
      standAt pos
      holding [v, ov, iv] (setItem ov iv v)
      release [v, ov, iv] []) := by intro _; rfl) : PG X (.Subscript o i pos) (gSub to ti t) := by
  intro pins s σ H v u Q I r h
  rw [ha]
  refine wpAny_bind (wpAny_holding (thn (ho pins s σ H _ I h) fun ov s1 ⟨x, H1, I1, r1, q1⟩ => ?_))
  refine wpAny_bind (wpAny_holding (thn (hi pins s1 σ H1 _ I1 q1) fun iv s2 ⟨y, H2, I2, r2, q2⟩ => ?_))
  refine wpAny_bind (wpAny_standAt (wpAny_bind (wpAny_holding (thn (hs pins s2 σ H2 x y v ov iv u _ I2 r1 r2 r q2) fun _ s3 ⟨H3, I3, q3⟩ => ?_))))
  exact wpAny_release ⟨σ, H3, I3, q3⟩
/-- target = value -/
def tAsg (te : TE) (g : TG) : TS := fun D σ H => te σ H fun x H1 => g x σ H1 D.nx
theorem ps_asg {tg e : Expr} {te : TE} {g : TG} (he : PE X e te) (hg : PG X tg g) (hs : swapsWithSole [tg] e pos.line X.env = pure false := by rfl) (hw : swappedStores [tg] e X.env = pure none := by rfl)
    (h1 : (assignEach [tg] X.env).map (·.2) = [assign tg X.env] := by rfl) : PS X (.Assign [tg] e pos) (tAsg te g) := by
  intro pins s σ H D I h
  refine wpAny_Assign_stores (thn (he pins s σ H _ I h) fun v s1 ⟨x, H1, I1, r1, q1⟩ => ?_) hs hw
  rw [h1]
  exact thn (hg pins s1 σ H1 x v _ I1 r1 q1) fun _ s2 q => q
/-- name = value -/
theorem ps_set {i : Nat} {x : Str} {e : Expr} {te : TE} {pos' : Pos} (hN : X.N.Nodup) (hi : X.N[i]? = some x) (hx : Loc X.env.scope x) (he : PE X e te) (hs : swapsWith e (some (.Name x pos')) pos.line X.env = pure false := by rfl) (hf : X.fn x = true ∨ X.env.scope.names.lookup x = some .local := by first | exact .inl rfl | exact .inr rfl | assumption) :
    PS X (.Assign [.Name x pos'] e pos) (tAsg te (gName i)) := by
  intro pins s σ H D I h
  refine wpAny_Assign_Name (thn (he pins s σ H _ I h) fun v s1 ⟨y, H1, I1, r1, q1⟩ => ?_) hs
  exact store_ok I1 hN hi hx r1 (fun s2 I2 => ⟨_, H1, I2, q1⟩) hf
/-- a, b = x, y with plain local names: stored from the right; the pair itself is not tracked (the opening rows as in PyProof/Rows/TupAssign.lean:23) -/
def tPar (i j : Nat) (ta : TA) : TS := fun D σ H => ta σ H fun vs H1 => ∃ v w, vs = [v, w] ∧ D.nx ((σ.set i (some v)).set j (some w)) H1
theorem ps_par {i j : Nat} {x y : Str} {a b : Expr} {ta : TA} {px py pt : Pos} {kt k2 pt2} (hc : X.calm = true) (hN : X.N.Nodup) (hi : X.N[i]? = some x) (hj : X.N[j]? = some y) (hij : i ≠ j)
    (hx : X.env.scope.names.lookup x = some .local) (hy : X.env.scope.names.lookup y = some .local) (ha : PA X [a, b] ta)
    (hw : swappedStores [.Tuple [.Name x px, .Name y py] kt pt] (.Tuple [a, b] k2 pt2) X.env = pure (some [x, y]))
    (hs : swapsWithSole [.Tuple [.Name x px, .Name y py] kt pt] (.Tuple [a, b] k2 pt2) pos.line X.env = pure false := by rfl) :
    PS X (.Assign [.Tuple [.Name x px, .Name y py] kt pt] (.Tuple [a, b] k2 pt2) pos) (tPar i j ta) := by
  intro pins s σ H D I h
  rw [exec_Assign_arm]
  refine wpAny_bind (wpAny_standAt ?_)
  rw [hs]
  refine wpAny_bind (wpAny_pure ?_)
  rw [if_neg (by decide)]
  refine wpAny_bind (Tuple_ (thn (ha _ pins s σ H _ I h) fun us s1 ⟨vs, H1, I1, r1, q1⟩ => ?_))
  obtain ⟨v, w, e1, q1⟩ := q1
  subst e1
  obtain ⟨u1, u2, rfl, rv, rw'⟩ : ∃ u1 u2, us = [u1, u2] ∧ RelV v u1 ∧ RelV w u2 := by
    cases r1 with
    | cons p q =>
      cases q with
      | cons p' q' =>
        cases q'
        exact ⟨_, _, rfl, p, p'⟩
  refine wpAny_newObj_type ?_ (by show 2 ≤ sizeLine; decide)
  have I2 : Inv X pins σ H1 { s1 with heap := s1.heap.push { cls := .type "tuple", data := .seq [u1, u2].toArray } } := I1.kept (t' := s1.toks) fun b o e => Heap.get?_push_of_some _ e
  rw [hw]
  refine wpAny_bind (wpAny_pure ?_)
  show wpAny (model X.prog X.w) X.A (do rule "assign.swapped-stores"; let items ← unpackItems (.ref s1.heap.objs.size) 2 none; assignInOrder [fun v => bindName X.env y v, fun v => bindName X.env x v] items.reverse; pure Flow.next) _ _ _
  refine wpAny_bind (wpAny_rule (wpAny_bind (unpackItems_tuple (items := #[u1, u2]) (I.ok.hd hc) (IsTup.new s1.heap _) fun h' hx' => ?_)))
  have I3 := I2.kept (h' := h') (t' := s1.toks) fun b o e => hx' b o (Nat.ne_of_lt (Heap.lt_size e)) e
  show wpAny _ _ (assignInOrder [fun v => bindName X.env y v, fun v => bindName X.env x v] [u2, u1] >>= fun _ => pure Flow.next) _ _ _
  refine wpAny_bind (assignInOrder_cons (wpAny_bindName (store_ok I3 hN hj (.inl hy) rw' (fun s2 I4 => ?_) (.inr hy))))
  refine assignInOrder_cons (wpAny_bindName (store_ok I4 hN hi (.inl hx) rv (fun s3 I5 => assignInOrder_nil (wpAny_pure ?_)) (.inr hx)))
  rw [List.set_comm _ _ (Ne.symm hij)] at I5
  exact ⟨_, H1, I5, q1⟩
end

/-! ### while -/
section
variable {X : Cx} {pos : Pos}
/-- the invariant W with its measure -/
def tWhile (c : TT) (tb : TS) : TS := fun D σ H => ∃ W : Nat → St → Hp → Prop, (∃ m, W m σ H) ∧ ∀ m σ H, W m σ H →
  c σ H fun b H1 => if b = true then ∃ N : St → Hp → Prop, (∀ σ' H', N σ' H' → ∃ m', m' < m ∧ W m' σ' H') ∧ tb { D with nx := N, ct := N, bk := D.nx } σ H1 else D.nx σ H1
theorem ps_while {c : Expr} {body : List Stmt} {tc : TT} {tb : TS} (hp : PassesOwn (model X.prog X.w) X.A X.env X.xe) (hc : PT X c tc) (hb : PSs X body tb) : PS X (.While c body [] pos) (tWhile tc tb) := by
  intro pins s σ H D I h
  obtain ⟨W, ⟨m0, w0⟩, turn⟩ := h
  refine wpAny_While (codeAny_whileLoop (fun n s' => ∃ σ' H', Inv X pins σ' H' s' ∧ W n σ' H') ?_ m0 ⟨σ, H, I, w0⟩)
  rintro n s1 ⟨σ1, H1, I1, w1⟩
  refine wpAny_passesOwn hp (thn (hc pins s1 σ1 H1 _ I1 (turn n σ1 H1 w1)) fun b s2 ⟨H2, I2, q2⟩ => ?_)
  cases b with
  | true =>
    obtain ⟨N, hN, q2⟩ := q2
    rw [if_pos rfl]
    refine wpAny_passesOwn hp (thn (hb pins s2 σ1 H2 _ I2 q2) fun f s3 q3 => ?_)
    cases f with
    | next =>
      obtain ⟨σ3, H3, I3, n3⟩ := q3
      obtain ⟨m', hm, w3⟩ := hN σ3 H3 n3
      exact ⟨m', hm, σ3, H3, I3, w3⟩
    | cont =>
      obtain ⟨σ3, H3, I3, n3⟩ := q3
      obtain ⟨m', hm, w3⟩ := hN σ3 H3 n3
      exact ⟨m', hm, σ3, H3, I3, w3⟩
    | brk => exact q3
    | ret v => exact q3
  | false =>
    rw [if_neg Bool.false_ne_true]
    exact wpAny_execs_nil ⟨σ1, H2, I2, q2⟩
end

/-! ### what a loop or a comprehension walks -/
/-- at turn i: it yields x (the heap may grow), or it stops -/
structure It where
  go : Nat → Hp → Prop
  yld : Nat → Hp → V → Hp → Prop
  stop : Nat → Hp → Prop
/-- the iterator's own objects may turn: they are not the frame's, not pinned, younger than the entry (or a comprehension's own) -/
def FpOk (X : Cx) (pins : List (Addr × Obj)) (H : Hp) (b : Addr) : Prop :=
  H b = none ∧ b ≠ X.env.locals ∧ b ∉ X.fs ∧ (b ∈ X.ex ∨ X.s_0.heap.objs.size ≤ b) ∧ (∀ x c, X.env.cells.lookup x = some c → c ≠ b) ∧ ∀ p ∈ X.pn ++ pins, p.1 ≠ b
theorem Inv.fpOk {X : Cx} {pins : List (Addr × Obj)} {σ : St} {H H' : Hp} {s : Shared} {b : Addr} (I : Inv X pins σ H s) (hb : s.heap.objs.size ≤ b) (hn : H' b = none) : FpOk X pins H' b := by
  refine ⟨hn, Nat.ne_of_gt (Nat.lt_of_lt_of_le I.lt hb), I.nofs hb, .inr (Nat.le_trans I.sz hb), fun x c e z => ?_, fun p hp z => ?_⟩
  · obtain ⟨v, q⟩ := I.cell x c e
    exact absurd (Nat.lt_of_lt_of_le q.lt (by rw [z]; exact hb)) (Nat.lt_irrefl _)
  · exact absurd (Nat.lt_of_lt_of_le (Heap.lt_size (I.pin p hp).1) (by rw [z]; exact hb)) (Nat.lt_irrefl _)
structure Turn (P : Program) (w : World) (K : PySem.W.Frag) (tg : Expr) (J : It) (fp : List Addr) (it : Addr) (tn : Nat → Heap → Prop) : Prop where
  mem : it ∈ fp
  obj : ∀ i h, tn i h → ∀ b ∈ fp, ∃ o, h.get? b = some o ∧ ∀ v, o.data ≠ .cell v
  keep : ∀ i h h', tn i h → (∀ b ∈ fp, ∀ o, h.get? b = some o → h'.get? b = some o) → tn i h'
  item : ∀ (X : Cx), X.prog = P → X.w = w → X.K = K → X.calm = true → ∀ (i : Nat) (pins : List (Addr × Obj)) (s : Shared) (σ : St) (H : Hp) (E : Value → Shared → Prop), Inv X pins σ H s → (∀ b ∈ fp, FpOk X pins H b) → tn i s.heap → J.go i H →
    wpAny (model P w) X.A (pyNext (.ref it)) (fun r s1 => ∃ u, r = some u ∧
      wpAny (model P w) X.A (letOwnedTupleGo tg (.ref it) u) (fun _ s2 => ∃ x H', Inv X pins σ H' s2 ∧ RelV x u ∧ J.yld i H x H' ∧ tn (i + 1) s2.heap ∧ ∀ b ∈ fp, H' b = none) E s1) E s
  done : ∀ (X : Cx), X.prog = P → X.w = w → X.K = K → X.calm = true → ∀ (i : Nat) (pins : List (Addr × Obj)) (s : Shared) (σ : St) (H : Hp) (E : Value → Shared → Prop), Inv X pins σ H s → (∀ b ∈ fp, FpOk X pins H b) → tn i s.heap → J.stop i H →
    wpAny (model P w) X.A (pyNext (.ref it)) (fun r s1 => r = none ∧ Inv X pins σ H s1) E s
  self : ∀ (A : Around) (i : Nat) (s : Shared) (Q : Value → Shared → Prop) (E : Value → Shared → Prop), tn i s.heap → Q (.ref it) s → wpAny (model P w) A (pyIter (.ref it)) Q E s
abbrev TI := St → Hp → (It → Hp → Prop) → Prop
/-- an iterator has come -/
def PIE (X : Cx) (pins : List (Addr × Obj)) (σ : St) (tg : Expr) (R : It → Hp → Prop) (itv : Value) (s2 : Shared) : Prop :=
  ∃ (it : Addr) (fp : List Addr) (tn : Nat → Heap → Prop) (J : It) (H' : Hp), itv = .ref it ∧ Inv X pins σ H' s2 ∧ Turn X.prog X.w X.K tg J fp it tn ∧ tn 0 s2.heap ∧ (∀ b ∈ fp, FpOk X pins H' b) ∧ R J H'
def PI (X : Cx) (tg iter : Expr) (wi : TI) : Prop :=
  ∀ (pins : List (Addr × Obj)) (s : Shared) (σ : St) (H : Hp) (R : It → Hp → Prop), Inv X pins σ H s → wi σ H R →
    wpAny (model X.prog X.w) X.A (eval iter X.env) (fun v s1 => wpAny (model X.prog X.w) X.A (pyIter v) (PIE X pins σ tg R) X.xe s1) X.xe s

/-- the step ahead of the store is nothing for an iterator that keeps no tuple -/
theorem go_of {M : Model} {A : Around} {E : Value → Shared → Prop} {s : Shared} {tg : Expr} {it : Addr} {u : Value} {o : Obj} {n : String} {vs : Array Value} {Q : Unit → Shared → Prop} (ho : s.heap.get? it = some o) (hc : o.cls = .type n) (hd : o.data = .fields vs)
    (hn : ["enumerate", "zip", "dict_itemiterator", "dict_reverseitemiterator", "odict_iterator", "itertools.zip_longest", "itertools.pairwise"].contains n = false) (hQ : Q () s) : wpAny M A (letOwnedTupleGo tg (.ref it) u) Q E s := by
  unfold letOwnedTupleGo
  cases tg <;> first
    | exact wpAny_pure hQ
    | (cases u <;> first
        | exact wpAny_pure hQ
        | (refine wpAny_bind (wpAny_load ho ?_)
           rw [hc, hd]
           show wpAny M A (if (["enumerate", "zip", "dict_itemiterator", "dict_reverseitemiterator", "odict_iterator", "itertools.zip_longest", "itertools.pairwise"].contains n && vs[0]? == some (rawInt _)) = true then _ else _) Q E s
           rw [if_neg (by intro h; rw [hn, Bool.false_and] at h; cases h)]
           exact wpAny_pure hQ))

/-- the list at a, as it stands at each turn (a loop may append to it) -/
def Itl (K : PySem.W.Frag) (a : Addr) : It :=
  ⟨fun i H => ∃ xs x, SqL K H a xs ∧ xs[i]? = some x, fun i H x H' => H' = H ∧ ∀ xs, SqL K H a xs → xs[i]? = some x, fun i H => ∃ xs, SqL K H a xs ∧ xs.length ≤ i⟩
/-- lo, lo + 1, .. (n of them) -/
def Itr (lo : Int) (n : Nat) : It := ⟨fun i _ => i < n, fun i H x H' => H' = H ∧ x = .int (lo + i), fun i _ => n ≤ i⟩
theorem turn_list {P : Program} {w : World} {K : PySem.W.Frag} {tg : Expr} (a it : Addr) : Turn P w K tg (Itl K a) [it] it (fun i h => h.IsListIter it a i) where
  mem := by simp
  obj := fun i h st b hb => by
    have e : b = it := by simpa using hb
    subst e
    obtain ⟨o, e, c, d⟩ := st
    exact ⟨o, e, fun v z => by rw [d] at z; cases z⟩
  keep := fun i h h' st k => st.at fun o e => k it (by simp) o e
  item := by
    intro X hP hw hK hc i pins s σ H E I hf st hg
    subst hP hw hK
    obtain ⟨xs, x, hq, hx⟩ := hg
    obtain ⟨its, rv, p, hz⟩ := I.list hq
    obtain ⟨u, hu, ru⟩ := rv.get hx
    obtain ⟨f0, f1, f2, f3, f4, f5⟩ := hf it (by simp)
    refine wpAny_pyNext_list_item st p.isList (x := u) (by simpa using hu) fun h' st' sb => ?_
    have I1 : Inv X pins σ H { s with heap := h' } := I.turned (t' := s.toks) (fun b o hb e => (sb.2 b hb).trans e) f0 f1 f3 f4 f5
    obtain ⟨o, e, c, d⟩ := id st'
    exact ⟨u, rfl, go_of (s := { s with heap := h' }) e c d (by decide) ⟨x, H, I1, ru, ⟨rfl, fun ys hy => by rw [I.list_inj hy hq]; exact hx⟩, st', fun b hb => (hf b hb).1⟩⟩
  done := by
    intro X hP hw hK hc i pins s σ H E I hf st hg
    subst hP hw hK
    obtain ⟨xs, hq, hx⟩ := hg
    obtain ⟨its, rv, p, hz⟩ := I.list hq
    obtain ⟨f0, f1, f2, f3, f4, f5⟩ := hf it (by simp)
    have hl := rv.length
    exact wpAny_pyNext_list_end (I.ok.hd hc) st p.isList (by simp; omega) fun h' eb => ⟨rfl, I.turned (t' := s.toks) (fun b o hb e => eb b o hb e) f0 f1 f3 f4 f5⟩
  self := fun _ _ _ _ _ st h => wpAny_pyIter_listiter st h
theorem turn_range {P : Program} {w : World} {K : PySem.W.Frag} {tg : Expr} (it : Addr) (lo : Int) (n : Nat) : Turn P w K tg (Itr lo n) [it] it (fun i h => IsRangeIter h it (lo + (i : Nat) * 1) ((n : Int) - (i : Nat)) 1) where
  mem := by simp
  obj := fun i h st b hb => by
    have e : b = it := by simpa using hb
    subst e
    exact ⟨_, st, fun v z => by
      have z' : Data.fields _ = Data.cell v := z
      cases z'⟩
  keep := fun i h h' st k => k it (by simp) _ st
  item := by
    intro X hP hw hK hc i pins s σ H E I hf st hg
    subst hP hw hK
    obtain ⟨f0, f1, f2, f3, f4, f5⟩ := hf it (by simp)
    have W := Walks.range (prog := X.prog) (w := X.w) (I.ok.hd hc) it lo 1 n
    refine W.item i s _ _ hg st fun v h' tk hv st' kk => ?_
    obtain ⟨t, rfl⟩ := hv
    have I1 : Inv X pins σ H { s with heap := h', toks := tk } := I.turned (fun b o hb e => kk b o (by simpa using hb) e) f0 f1 f3 f4 f5
    refine ⟨_, rfl, go_of (s := { s with heap := h', toks := tk }) (n := "range_iterator") st' rfl rfl (by decide) ⟨.int (lo + i), H, I1, ⟨t, ?_⟩, ⟨rfl, rfl⟩, st', fun b hb => (hf b hb).1⟩⟩
    rw [Int.mul_one]
  done := by
    intro X hP hw hK hc i pins s σ H E I hf st hg
    subst hP hw hK
    obtain ⟨f0, f1, f2, f3, f4, f5⟩ := hf it (by simp)
    exact wpAny_pyNext_range_end (I.ok.hd hc) st (by have : n ≤ i := hg; omega) fun h' eb => ⟨rfl, I.turned (t' := s.toks) (fun b o hb e => eb b o hb e) f0 f1 f3 f4 f5⟩
  self := fun _ _ _ _ _ st h => wpAny_pyIter_rangeiter st h
end L2

namespace L2
open PySem PySem.Spec PyProof.Rows
section
variable {X : Cx} {tg : Expr}
def iList (K : PySem.W.Frag) (tl : TE) : TI := fun σ H R => tl σ H fun x H1 => ∃ a, x = .ref a ∧ (∃ xs, SqL K H1 a xs) ∧ R (Itl K a) H1
theorem pi_list {l : Expr} {tl : TE} (hl : PE X l tl) : PI X tg l (iList X.K tl) := by
  intro pins s σ H R I h
  refine thn (hl pins s σ H _ I h) fun v s1 ⟨x, H1, I1, r1, q1⟩ => ?_
  obtain ⟨a, e, ⟨xs, hq⟩, q⟩ := q1
  subst e
  cases r1
  obtain ⟨its, rv, p, hz⟩ := I1.list hq
  refine wpAny_pyIter_list p.isList ?_
  refine ⟨s1.heap.objs.size, [s1.heap.objs.size], _, _, H1, rfl, I1.kept (t' := s1.toks) fun b o e => Heap.get?_push_of_some _ e, turn_list a _, ⟨_, Heap.get?_push_size _ rfl, rfl, rfl⟩, fun b hb => ?_, q⟩
  have e : b = s1.heap.objs.size := by simpa using hb
  subst e
  exact I1.fpOk (Nat.le_refl _) (I1.hok.fresh (Nat.le_refl _))
/-- a range object just made, walked -/
theorem range_it {pins : List (Addr × Obj)} {σ : St} {H : Hp} {s : Shared} {R : It → Hp → Prop} {E : Value → Shared → Prop} {lo hi : Int} {t u v : Tok} {tk : Nat} (I : Inv X pins σ H s) (h1 : -(2 ^ 62) ≤ lo) (h2 : lo < 2 ^ 62) (h3 : -(2 ^ 62) ≤ hi) (h4 : hi < 2 ^ 62)
    (q : R (Itr lo (hi - lo).toNat) H) : wpAny (model X.prog X.w) X.A (pyIter (.ref s.heap.objs.size)) (PIE X pins σ tg R) E { s with heap := s.heap.push { cls := .type "range", data := .fields #[.int lo t, .int hi u, .int 1 v] }, toks := tk } := by
  refine wpAny_pyIter_range (IsRange.new ..) (small_one h1 h2 h3 h4) ?_
  have I1 : Inv X pins σ H { s with heap := s.heap.push { cls := .type "range", data := .fields #[.int lo t, .int hi u, .int 1 v] }, toks := tk } := I.kept fun b o e => Heap.get?_push_of_some _ e
  refine ⟨(s.heap.push { cls := .type "range", data := .fields #[.int lo t, .int hi u, .int 1 v] }).objs.size, [(s.heap.push { cls := .type "range", data := .fields #[.int lo t, .int hi u, .int 1 v] }).objs.size], _, _, H, rfl,
    I1.kept (t' := tk) fun b o e => Heap.get?_push_of_some _ e, turn_range _ lo (hi - lo).toNat, ?_, fun b hb => ?_, q⟩
  · have e1 : lo + ((0 : Nat) : Int) * 1 = lo := by simp
    have e2 : (((hi - lo).toNat : Nat) : Int) - ((0 : Nat) : Int) = Builtin.Range.rangeSize lo hi 1 := by rw [rangeSize_one]; split <;> omega
    show IsRangeIter _ _ (lo + ((0 : Nat) : Int) * 1) ((((hi - lo).toNat : Nat) : Int) - ((0 : Nat) : Int)) 1
    rw [e1, e2]
    exact Heap.get?_push_size _ rfl
  · have e : b = (s.heap.push { cls := .type "range", data := .fields #[.int lo t, .int hi u, .int 1 v] }).objs.size := by simpa using hb
    subst e
    exact I1.fpOk (Nat.le_refl _) (I1.hok.fresh (Nat.le_refl _))
def iRng1 (ta : TA) : TI := fun σ H R => ta σ H fun vs H1 => ∃ j : Int, vs = [.int j] ∧ -(2 ^ 62) ≤ j ∧ j < 2 ^ 62 ∧ R (Itr 0 j.toNat) H1
def iRng2 (ta : TA) : TI := fun σ H R => ta σ H fun vs H1 => ∃ i j : Int, vs = [.int i, .int j] ∧ (-(2 ^ 62) ≤ i ∧ i < 2 ^ 62 ∧ -(2 ^ 62) ≤ j ∧ j < 2 ^ 62) ∧ R (Itr i (j - i).toNat) H1
theorem pi_range1 {a : Expr} {ta : TA} {p pos : Pos} (hg : Gl X "range") (hm : X.mg "range" = none) (ha : PA X [a] ta) (hs : starEach [a] X.env = [(false, eval a X.env)] := by rfl) : PI X tg (.Call (.Name "range" p) [a] [] pos) (iRng1 ta) := by
  intro pins s σ H R I h
  refine Call_ (ld_blt I hg hm boot_range (PyProof.Rows.callWith_type1 (thn (ha pos pins s σ H _ I h) fun us s1 ⟨vs, H1, I1, r1, q1⟩ => ?_) hs rfl))
  obtain ⟨j, e, q1, q2, q⟩ := q1
  subst e
  cases r1 with
  | cons r rr =>
    cases rr
    obtain ⟨t, rfl⟩ := r
    exact call_range_1 (range_it I1 (by omega) (by omega) q1 q2 (by simpa using q))
theorem pi_range2 {a b : Expr} {ta : TA} {p pos : Pos} (hg : Gl X "range") (hm : X.mg "range" = none) (ha : PA X [a, b] ta) (hs : starEach [a, b] X.env = [(false, eval a X.env), (false, eval b X.env)] := by rfl) (hs2 : starEach [b] X.env = [(false, eval b X.env)] := by rfl) :
    PI X tg (.Call (.Name "range" p) [a, b] [] pos) (iRng2 ta) := by
  intro pins s σ H R I h
  refine Call_ (ld_blt I hg hm boot_range (PyProof.Rows.callWith_type1 (thn (ha pos pins s σ H _ I h) fun us s1 ⟨vs, H1, I1, r1, q1⟩ => ?_) (by rw [hs, hs2]) (by rw [hs2]; rfl)))
  obtain ⟨i, j, e, ⟨q1, q2, q3, q4⟩, q⟩ := q1
  subst e
  cases r1 with
  | cons r rr =>
    cases rr with
    | cons r' rr =>
      cases rr
      obtain ⟨t, rfl⟩ := r
      obtain ⟨t', rfl⟩ := r'
      exact call_range_2 (range_it I1 q1 q2 q3 q4 q)

/-! ### for -/
/-- W: the invariant by the turn and a measure; N: what the body is to reach -/
def tFor (wi : TI) (g : TG) (tb : TS) : TS := fun D σ H => wi σ H fun J H1 => ∃ W : Nat → Nat → St → Hp → Prop, (∃ m, W 0 m σ H1) ∧ ∀ i m σ H, W i m σ H →
  (J.stop i H ∧ D.nx σ H) ∨ (J.go i H ∧ ∃ N : St → Hp → Prop, (∀ σ' H', N σ' H' → ∃ m', m' < m ∧ W (i + 1) m' σ' H') ∧ ∀ x H', J.yld i H x H' → g x σ H' fun σ2 H2 => tb { D with nx := N, ct := N, bk := D.nx } σ2 H2)
/-- the records at fp as they stand -/
def pinsAt (fp : List Addr) (h : Heap) : List (Addr × Obj) := fp.filterMap fun b => (h.get? b).map fun o => (b, o)
theorem mem_pinsAt {fp : List Addr} {h : Heap} {b : Addr} {o : Obj} (hb : b ∈ fp) (e : h.get? b = some o) : (b, o) ∈ pinsAt fp h := List.mem_filterMap.mpr ⟨b, hb, by rw [e]; rfl⟩
theorem of_pinsAt {fp : List Addr} {h : Heap} {p : Addr × Obj} (hp : p ∈ pinsAt fp h) : p.1 ∈ fp ∧ h.get? p.1 = some p.2 := by
  obtain ⟨b, hb, e⟩ := List.mem_filterMap.mp hp
  cases q : h.get? b with
  | none => rw [q] at e; cases e
  | some o =>
    rw [q] at e
    have e' : (b, o) = p := Option.some.inj e
    subst e'
    exact ⟨hb, q⟩
theorem Inv.pinned {pins : List (Addr × Obj)} {σ : St} {H : Hp} {s : Shared} {fp : List Addr} (I : Inv X pins σ H s) (hf : ∀ b ∈ fp, FpOk X pins H b) (ho : ∀ b ∈ fp, ∃ o, s.heap.get? b = some o ∧ ∀ v, o.data ≠ .cell v) : Inv X (pins ++ pinsAt fp s.heap) σ H s :=
  I.pins_of fun p hp => (List.mem_append.mp hp).elim (fun z => I.pin p (List.mem_append_right _ z)) fun z => by
    obtain ⟨hb, e⟩ := of_pinsAt z
    obtain ⟨f0, f1, f2, _⟩ := hf p.1 hb
    obtain ⟨o, e', d⟩ := ho p.1 hb
    rw [e] at e'; cases e'
    exact ⟨e, f0, f1, f2, d⟩
theorem Inv.unpinned {pins pl : List (Addr × Obj)} {σ : St} {H : Hp} {s : Shared} (I : Inv X (pins ++ pl) σ H s) : Inv X pins σ H s := I.pins_of fun p hp => I.pin p (List.mem_append_right _ (List.mem_append_left _ hp))
theorem ps_for {iter : Expr} {body : List Stmt} {wi : TI} {g : TG} {tb : TS} {pos : Pos} (hp : PassesOwn (model X.prog X.w) X.A X.env X.xe) (hc : X.calm = true) (hi : PI X tg iter wi) (hg : PG X tg g) (hb : PSs X body tb)
    (hs : ∀ x, foldedSetIterable iter X.env x = pure x := by intro _; rfl) : PS X (.For tg iter body [] pos) (tFor wi g tb) := by
  intro pins s σ H D I h
  refine wpAny_For (thn (hi pins s σ H _ I h) fun v s1 h1 => thn h1 fun itv s2 h2 => ?_) hs
  obtain ⟨it, fp, tn, J, H2, e, I2, T, st2, f2, W, ⟨m0, w0⟩, turn⟩ := h2
  subst e
  -- what stays true of the iterator's objects through the loop
  have stat : ∀ {H' : Hp}, (∀ b ∈ fp, H' b = none) → ∀ b ∈ fp, FpOk X pins H' b := fun hn b hb => ⟨hn b hb, (f2 b hb).2⟩
  refine codeAny_forLoop_any (fun n s' => ∃ i σ' H', Inv X pins σ' H' s' ∧ tn i s'.heap ∧ (∀ b ∈ fp, H' b = none) ∧ W i n σ' H') ?_ m0 ⟨0, σ, H2, I2, st2, fun b hb => (f2 b hb).1, w0⟩
  rintro n s3 ⟨i, σ3, H3, I3, st3, fr3, w3⟩
  rcases turn i n σ3 H3 w3 with ⟨stop, qn⟩ | ⟨go, N, hN, step⟩
  · refine wpAny_passesOwn hp (thn (T.done X rfl rfl rfl hc i pins s3 σ3 H3 X.xe I3 (stat fr3) st3 stop) fun r s4 ⟨hr, I4⟩ => ?_)
    subst hr
    exact wpAny_execs_nil ⟨σ3, H3, I4, qn⟩
  · refine wpAny_passesOwn hp (thn (T.item X rfl rfl rfl hc i pins s3 σ3 H3 X.xe I3 (stat fr3) st3 go) fun r s4 ⟨u, hr, h4⟩ => ?_)
    subst hr
    refine wpAny_passesOwn hp (thn h4 fun _ s5 ⟨x, H5, I5, r5, y5, st5, fr5⟩ => ?_)
    have I5' := I5.pinned (stat fr5) (T.obj _ _ st5)
    refine wpAny_passesOwn hp (thn (hg _ s5 σ3 H5 x u _ I5' r5 (step x H5 y5)) fun _ s6 ⟨σ6, H6, I6, q6⟩ => ?_)
    refine wpAny_passesOwn hp (thn (hb _ s6 σ6 H6 _ I6 q6) fun f s7 q7 => ?_)
    have again : ∀ {σ7 : St} {H7 : Hp}, Inv X (pins ++ pinsAt fp s5.heap) σ7 H7 s7 → N σ7 H7 → ∃ m, m < n ∧ ∃ i σ' H', Inv X pins σ' H' s7 ∧ tn i s7.heap ∧ (∀ b ∈ fp, H' b = none) ∧ W i m σ' H' := fun {σ7 H7} I7 n7 => by
      obtain ⟨m', hm, w7⟩ := hN σ7 H7 n7
      refine ⟨m', hm, i + 1, σ7, H7, I7.unpinned, T.keep _ _ _ st5 fun b hb o e => (I7.pin (b, o) (List.mem_append_right _ (List.mem_append_right _ (mem_pinsAt hb e)))).1, fun b hb => ?_, w7⟩
      obtain ⟨o, e, d⟩ := T.obj _ _ st5 b hb
      exact (I7.pin (b, o) (List.mem_append_right _ (List.mem_append_right _ (mem_pinsAt hb e)))).2.1
    cases f with
    | next => obtain ⟨σ7, H7, I7, n7⟩ := q7; exact again I7 n7
    | cont => obtain ⟨σ7, H7, I7, n7⟩ := q7; exact again I7 n7
    | brk => obtain ⟨σ7, H7, I7, q7⟩ := q7; exact ⟨σ7, H7, I7.unpinned, q7⟩
    | ret v => obtain ⟨x7, σ7, H7, I7, r7, q7⟩ := q7; exact ⟨x7, σ7, H7, I7.unpinned, r7, q7⟩
end

/-! ### the forms one uses -/
/-- over a list that the body leaves as it is -/
theorem for_list {K : PySem.W.Frag} {a : Addr} {xs : List V} {g : TG} {tb : TS} {D : Ends} {σ : St} {H : Hp} (Pv : Nat → St → Hp → Prop) (h0 : Pv 0 σ H) (hl : ∀ i σ H, i ≤ xs.length → Pv i σ H → SqL K H a xs)
    (hs : ∀ i x σ H, xs[i]? = some x → Pv i σ H → g x σ H fun σ2 H2 => tb { D with nx := Pv (i + 1), ct := Pv (i + 1), bk := D.nx } σ2 H2) (hd : ∀ σ H, Pv xs.length σ H → D.nx σ H) :
    ∃ W : Nat → Nat → St → Hp → Prop, (∃ m, W 0 m σ H) ∧ ∀ i m σ H, W i m σ H →
      ((Itl K a).stop i H ∧ D.nx σ H) ∨ ((Itl K a).go i H ∧ ∃ N : St → Hp → Prop, (∀ σ' H', N σ' H' → ∃ m', m' < m ∧ W (i + 1) m' σ' H') ∧ ∀ x H', (Itl K a).yld i H x H' → g x σ H' fun σ2 H2 => tb { D with nx := N, ct := N, bk := D.nx } σ2 H2) := by
  refine ⟨fun i m σ H => m = xs.length - i ∧ i ≤ xs.length ∧ Pv i σ H, ⟨xs.length, by simp, Nat.zero_le _, h0⟩, ?_⟩
  rintro i m σ H ⟨rfl, hi, p⟩
  have q := hl i σ H hi p
  by_cases hlt : i < xs.length
  · refine .inr ⟨⟨xs, xs[i], q, by simp [hlt]⟩, Pv (i + 1), fun σ' H' p' => ⟨xs.length - (i + 1), by omega, rfl, hlt, p'⟩, fun x H' y => ?_⟩
    obtain ⟨e, y⟩ := y
    subst e
    exact hs i x σ _ (y xs q) p
  · have e : i = xs.length := by omega
    subst e
    exact .inl ⟨⟨xs, q, Nat.le_refl _⟩, hd σ H p⟩
theorem for_range {lo : Int} {n : Nat} {g : TG} {tb : TS} {D : Ends} {σ : St} {H : Hp} (Pv : Nat → St → Hp → Prop) (h0 : Pv 0 σ H)
    (hs : ∀ i σ H, i < n → Pv i σ H → g (.int (lo + i)) σ H fun σ2 H2 => tb { D with nx := Pv (i + 1), ct := Pv (i + 1), bk := D.nx } σ2 H2) (hd : ∀ σ H, Pv n σ H → D.nx σ H) :
    ∃ W : Nat → Nat → St → Hp → Prop, (∃ m, W 0 m σ H) ∧ ∀ i m σ H, W i m σ H →
      ((Itr lo n).stop i H ∧ D.nx σ H) ∨ ((Itr lo n).go i H ∧ ∃ N : St → Hp → Prop, (∀ σ' H', N σ' H' → ∃ m', m' < m ∧ W (i + 1) m' σ' H') ∧ ∀ x H', (Itr lo n).yld i H x H' → g x σ H' fun σ2 H2 => tb { D with nx := N, ct := N, bk := D.nx } σ2 H2) := by
  refine ⟨fun i m σ H => m = n - i ∧ i ≤ n ∧ Pv i σ H, ⟨n, by simp, Nat.zero_le _, h0⟩, ?_⟩
  rintro i m σ H ⟨rfl, hi, p⟩
  by_cases hlt : i < n
  · refine .inr ⟨hlt, Pv (i + 1), fun σ' H' p' => ⟨n - (i + 1), by omega, rfl, hlt, p'⟩, fun x H' y => ?_⟩
    obtain ⟨e, y⟩ := y
    subst e y
    exact hs i σ _ hlt p
  · have e : i = n := by omega
    subst e
    exact .inl ⟨Nat.le_refl _, hd σ H p⟩
/-- while, by a word and a measure of the state -/
theorem while_by {c : TT} {tb : TS} {D : Ends} {σ : St} {H : Hp} (Pv : St → Hp → Prop) (μ : St → Hp → Nat) (h0 : Pv σ H)
    (hs : ∀ σ H, Pv σ H → c σ H fun b H1 => if b = true then tb { D with nx := fun σ' H' => Pv σ' H' ∧ μ σ' H' < μ σ H, ct := fun σ' H' => Pv σ' H' ∧ μ σ' H' < μ σ H, bk := D.nx } σ H1 else D.nx σ H1)
    (mono : ∀ σ H Q Q', (∀ b H1, Q b H1 → Q' b H1) → c σ H Q → c σ H Q') : tWhile c tb D σ H := by
  refine ⟨fun m σ H => m = μ σ H ∧ Pv σ H, ⟨_, rfl, h0⟩, ?_⟩
  rintro m σ H ⟨rfl, p⟩
  refine mono σ H _ _ (fun b H1 q => ?_) (hs σ H p)
  cases b with
  | true => exact ⟨_, fun σ' H' ⟨p', l⟩ => ⟨_, l, rfl, p'⟩, q⟩
  | false => exact q
end L2

namespace L2
open PySem PySem.Spec PyProof.Rows

abbrev R2 := V → V → Hp → VK → Prop
/-- a two-place operation on values: f is binaryOp op, inplaceOp op or compareOp op -/
def OpR (X : Cx) (f : Value → Value → Sem Value) (r : R2) : Prop :=
  ∀ (pins : List (Addr × Obj)) (s : Shared) (σ : St) (H : Hp) (x y : V) (v u : Value) (Q : VK), Inv X pins σ H s → RelV x v → RelV y u → r x y H Q →
    wpAny (model X.prog X.w) X.A (f v u) (EP X pins σ Q) X.xe s
/-- a one-place operation -/
def UnR (X : Cx) (f : Value → Sem Value) (r : V → Hp → VK → Prop) : Prop :=
  ∀ (pins : List (Addr × Obj)) (s : Shared) (σ : St) (H : Hp) (x : V) (v : Value) (Q : VK), Inv X pins σ H s → RelV x v → r x H Q →
    wpAny (model X.prog X.w) X.A (f v) (EP X pins σ Q) X.xe s
/-- a call of a value that is known (a builtin, a type) with values -/
def CallR (X : Cx) (f : Value) (r : List V → Hp → VK → Prop) : Prop :=
  ∀ (pins : List (Addr × Obj)) (s : Shared) (σ : St) (H : Hp) (xs : List V) (us : List Value) (Q : VK), Inv X pins σ H s → Vals xs us → r xs H Q →
    wpAny (model X.prog X.w) X.A (call f us) (EP X pins σ Q) X.xe s
def tOp (r : R2) (ta tb : TE) : TE := fun σ H Q => ta σ H fun x H1 => tb σ H1 fun y H2 => r x y H2 Q
def tUn (r : V → Hp → VK → Prop) (ta : TE) : TE := fun σ H Q => ta σ H fun x H1 => r x H1 Q
/-- ints in, under C, and a value out -/
def rI (C : Int → Int → Prop) (g : Int → Int → V) : R2 := fun x y H Q => ∃ i j, x = .int i ∧ y = .int j ∧ C i j ∧ Q (g i j) H
def rI0 (g : Int → Int → V) : R2 := fun x y H Q => ∃ i j, x = .int i ∧ y = .int j ∧ Q (g i j) H
def rU (g : Int → V) : V → Hp → VK → Prop := fun x H Q => ∃ i, x = .int i ∧ Q (g i) H

section
variable {X : Cx} {a b c : Expr} {ta tb tc : TE} {pos : Pos}

theorem binT (ha : PE X a ta) (hb : PE X b tb) {pins : List (Addr × Obj)} {s : Shared} {σ : St} {H : Hp} {R : V → V → Hp → Prop} (I : Inv X pins σ H s)
    (h : ta σ H fun x H1 => tb σ H1 fun y H2 => R x y H2) {Q : Value → Shared → Prop} {f : Value → Value → Sem Value}
    (hf : ∀ v u s2 x y H2, Inv X pins σ H2 s2 → RelV x v → RelV y u → R x y H2 → wpAny (model X.prog X.w) X.A (f v u) Q X.xe s2) :
    wpAny (model X.prog X.w) X.A (eval a X.env) (fun v s₁ => wpAny (model X.prog X.w) X.A (eval b X.env) (fun u s₂ => wpAny (model X.prog X.w) X.A (f v u) Q X.xe s₂) X.xe s₁) X.xe s := by
  refine thn (ha pins s σ H _ I h) fun v s1 ⟨x, H1, I1, r1, q1⟩ => ?_
  refine thn (hb pins s1 σ H1 _ I1 q1) fun u s2 ⟨y, H2, I2, r2, q2⟩ => ?_
  exact hf v u s2 x y H2 I2 r1 r2 q2

theorem pe_op {op : Operator} {r : R2} (ho : OpR X (binaryOp op) r) (ha : PE X a ta) (hb : PE X b tb) : PE X (.BinOp a op b pos) (tOp r ta tb) := by
  intro pins s σ H Q I h
  exact wpAny_BinOp (binT ha hb I h fun v u s2 x y H2 I2 rx ry q => ho pins s2 σ H2 x y v u Q I2 rx ry q)
theorem pe_un {op : UnaryOp} {r : V → Hp → VK → Prop} (ho : UnR X (unaryOp op) r) (ha : PE X a ta) : PE X (.UnaryOp op a pos) (tUn r ta) := by
  intro pins s σ H Q I h
  exact UnaryOp_ (thn (ha pins s σ H _ I h) fun v s1 ⟨x, H1, I1, r1, q1⟩ => ho pins s1 σ H1 x v Q I1 r1 q1)
/-! ### ints -/
theorem opI {f : Value → Value → Sem Value} {C : Int → Int → Prop} {g : Int → Int → Int}
    (rule : ∀ (i j : Int) (t u : Tok) (s : Shared) (Q : Value → Shared → Prop) (E : Value → Shared → Prop), C i j → Q (.int (g i j) s.toks) { s with toks := s.toks + 1 } → wpAny (model X.prog X.w) X.A (f (.int i t) (.int j u)) Q E s) :
    OpR X f (rI C fun i j => .int (g i j)) := by
  intro pins s σ H x y v u Q I rx ry h
  obtain ⟨i, j, rfl, rfl, hc, q⟩ := h
  obtain ⟨t, rfl⟩ := rx
  obtain ⟨t', rfl⟩ := ry
  exact rule i j t t' s _ _ hc ⟨.int (g i j), H, I.tok _, ⟨_, rfl⟩, q⟩
theorem opI0 {f : Value → Value → Sem Value} {g : Int → Int → Int}
    (rule : ∀ (i j : Int) (t u : Tok) (s : Shared) (Q : Value → Shared → Prop) (E : Value → Shared → Prop), Q (.int (g i j) s.toks) { s with toks := s.toks + 1 } → wpAny (model X.prog X.w) X.A (f (.int i t) (.int j u)) Q E s) :
    OpR X f (rI0 fun i j => .int (g i j)) := by
  intro pins s σ H x y v u Q I rx ry h
  obtain ⟨i, j, rfl, rfl, q⟩ := h
  obtain ⟨t, rfl⟩ := rx
  obtain ⟨t', rfl⟩ := ry
  exact rule i j t t' s _ _ ⟨.int (g i j), H, I.tok _, ⟨_, rfl⟩, q⟩
theorem opB0 {f : Value → Value → Sem Value} {g : Int → Int → Bool}
    (rule : ∀ (i j : Int) (t u : Tok) (s : Shared) (Q : Value → Shared → Prop) (E : Value → Shared → Prop), Q (.bool (g i j)) s → wpAny (model X.prog X.w) X.A (f (.int i t) (.int j u)) Q E s) :
    OpR X f (rI0 fun i j => .bl (g i j)) := by
  intro pins s σ H x y v u Q I rx ry h
  obtain ⟨i, j, rfl, rfl, q⟩ := h
  obtain ⟨t, rfl⟩ := rx
  obtain ⟨t', rfl⟩ := ry
  exact rule i j t t' s _ _ ⟨.bl (g i j), H, I, rfl, q⟩

def CPow (i j : Int) : Prop := 0 ≤ j ∧ j ≤ 1000000 ∧ i.natAbs < 2 ^ 64
def CMul (i j : Int) : Prop := (-(2 ^ 64) < i ∧ i < 2 ^ 64) ∨ (-(2 ^ 64) < j ∧ j < 2 ^ 64)
theorem CMul.ok {i j : Int} (h : CMul i j) : IntMulOk i j := by
  rcases h with ⟨h1, h2⟩ | ⟨h1, h2⟩
  · exact .of_left (intBits_le_64 h1 h2)
  · exact .of_right (intBits_le_64 h1 h2)
theorem op_add : OpR X (binaryOp .Add) (rI0 fun i j => .int (i + j)) := opI0 fun _ _ _ _ _ _ _ q => add_int q
theorem op_sub : OpR X (binaryOp .Sub) (rI0 fun i j => .int (i - j)) := opI0 fun _ _ _ _ _ _ _ q => sub_int q
theorem op_mul : OpR X (binaryOp .Mult) (rI CMul fun i j => .int (i * j)) := opI fun _ _ _ _ _ _ _ hc q => mul_int q hc.ok
/-- % by a positive divisor of any size -/
theorem op_mod : OpR X (binaryOp .Mod) (rI (fun _ j => 0 < j) fun i j => .int (i % j)) := opI fun i j _ _ _ _ _ hc q => by
  have h1 : (0 : Int) < j := hc
  exact mod_int' (by omega) (by rw [Int.fmod_eq_emod_of_nonneg i (by omega)]; exact q)
theorem op_pow : OpR X (binaryOp .Pow) (rI CPow fun i j => .int (i ^ j.toNat)) := opI fun _ _ _ _ _ _ _ hc q => pow_int_small hc.1 hc.2.1 hc.2.2 q
theorem unI {f : Value → Sem Value} {g : Int → Int}
    (rule : ∀ (i : Int) (t : Tok) (s : Shared) (Q : Value → Shared → Prop) (E : Value → Shared → Prop), Q (.int (g i) s.toks) { s with toks := s.toks + 1 } → wpAny (model X.prog X.w) X.A (f (.int i t)) Q E s) :
    UnR X f (rU fun i => .int (g i)) := by
  intro pins s σ H x v Q I rx h
  obtain ⟨i, rfl, q⟩ := h
  obtain ⟨t, rfl⟩ := rx
  exact rule i t s _ _ ⟨.int (g i), H, I.tok _, ⟨_, rfl⟩, q⟩
theorem un_neg : UnR X (unaryOp .USub) (rU fun i => .int (-i)) := unI fun _ _ _ _ _ q => neg_int q
end

/-! ### comparisons -/
/-- the scalars that == tells apart as data does -/
def scal : V → V → Bool
  | .non, .non => true | .non, .int _ => true | .int _, .non => true | .non, .bl _ => true | .bl _, .non => true | .non, .str _ => true | .str _, .non => true
  | .int _, .int _ => true | .bl _, .bl _ => true | .str _, .str _ => true | .byt _, .byt _ => true
  | .int _, .str _ => true | .str _, .int _ => true | .bl _, .str _ => true | .str _, .bl _ => true
  | _, _ => false
def rEq : R2 := fun x y H Q => scal x y = true ∧ Q (.bl (decide (x = y))) H
def rNe : R2 := fun x y H Q => scal x y = true ∧ Q (.bl (!decide (x = y))) H

theorem dec_int {i j : Int} : decide (V.int i = V.int j) = (i == j) := by
  rw [Bool.eq_iff_iff]
  simp
theorem dec_bl {i j : Bool} : decide (V.bl i = V.bl j) = (i == j) := by
  rw [Bool.eq_iff_iff]
  simp
theorem dec_str {i j : Str} : decide (V.str i = V.str j) = (i == j) := by
  rw [Bool.eq_iff_iff]
  simp
theorem dec_byt {i j : Array UInt8} : decide (V.byt i = V.byt j) = (i.toList == j.toList) := by
  rw [Bool.eq_iff_iff]
  cases i
  cases j
  simp

section
variable {X : Cx} {a b c : Expr} {ta tb tc : TE} {pos : Pos}
theorem fin_bl {pins : List (Addr × Obj)} {σ : St} {H : Hp} {s : Shared} {Q : VK} {k k' : Bool} (I : Inv X pins σ H s) (q : Q (.bl k) H) (e : k = k') : EP X pins σ Q (.bool k') s := by
  subst e
  exact ⟨.bl k, H, I, rfl, q⟩
theorem op_eq : OpR X (compareOp .Eq) rEq := by
  intro pins s σ H x y v u Q I rx ry h
  obtain ⟨hs, q⟩ := h
  cases x with
  | non =>
    cases rx
    cases y with
    | non => cases ry; exact PySem.EqNone.eq_none_none (fin_bl I q (by simp))
    | bl j => cases ry; exact PySem.EqNone.eq_none_bool (fin_bl I q (by simp))
    | int j => obtain ⟨t', rfl⟩ := ry; exact PySem.EqNone.eq_none_int (fin_bl I q (by simp))
    | str j => obtain ⟨t', rfl⟩ := ry; exact PySem.EqNone.eq_none_str (fin_bl I q (by simp))
    | _ => exact absurd (show false = true from hs) Bool.false_ne_true
  | bl i =>
    cases rx
    cases y with
    | non => cases ry; exact PySem.EqNone.eq_bool_none (fin_bl I q (by simp))
    | bl j => cases ry; exact eq_bool (fin_bl I q dec_bl)
    | str j => obtain ⟨t', rfl⟩ := ry; exact PySem.EqMixed.eq_bool_str (fin_bl I q (by simp))
    | _ => exact absurd (show false = true from hs) Bool.false_ne_true
  | int i =>
    obtain ⟨t, rfl⟩ := rx
    cases y with
    | non => cases ry; exact PySem.EqNone.eq_int_none (fin_bl I q (by simp))
    | int j => obtain ⟨t', rfl⟩ := ry; exact eq_int (fin_bl I q dec_int)
    | str j => obtain ⟨t', rfl⟩ := ry; exact PySem.EqMixed.eq_int_str (fin_bl I q (by simp))
    | _ => exact absurd (show false = true from hs) Bool.false_ne_true
  | str i =>
    obtain ⟨t, rfl⟩ := rx
    cases y with
    | non => cases ry; exact PySem.EqNone.eq_str_none (fin_bl I q (by simp))
    | bl j => cases ry; exact PySem.EqMixed.eq_str_bool (fin_bl I q (by simp))
    | int j => obtain ⟨t', rfl⟩ := ry; exact PySem.EqMixed.eq_str_int (fin_bl I q (by simp))
    | str j => obtain ⟨t', rfl⟩ := ry; exact eq_str (fin_bl I q dec_str)
    | _ => exact absurd (show false = true from hs) Bool.false_ne_true
  | byt i =>
    obtain ⟨t, rfl⟩ := rx
    cases y with
    | byt j => obtain ⟨t', rfl⟩ := ry; exact PySem.W.eq_bytes (fin_bl I q dec_byt)
    | _ => exact absurd (show false = true from hs) Bool.false_ne_true
  | _ => cases y <;> exact absurd (show false = true from hs) Bool.false_ne_true
theorem op_ne : OpR X (compareOp .NotEq) rNe := by
  intro pins s σ H x y v u Q I rx ry h
  obtain ⟨hs, q⟩ := h
  cases x with
  | non =>
    cases rx
    cases y with
    | non => cases ry; exact PySem.EqNone.ne_none_none (fin_bl I q (by simp))
    | bl j => cases ry; exact PySem.EqNone.ne_none_bool (fin_bl I q (by simp))
    | int j => obtain ⟨t', rfl⟩ := ry; exact PySem.EqNone.ne_none_int (fin_bl I q (by simp))
    | str j => obtain ⟨t', rfl⟩ := ry; exact PySem.EqNone.ne_none_str (fin_bl I q (by simp))
    | _ => exact absurd (show false = true from hs) Bool.false_ne_true
  | bl i =>
    cases rx
    cases y with
    | non => cases ry; exact PySem.EqNone.ne_bool_none (fin_bl I q (by simp))
    | bl j => cases ry; exact ne_bool (fin_bl I q (congrArg not dec_bl))
    | str j => obtain ⟨t', rfl⟩ := ry; exact PySem.EqMixed.ne_bool_str (fin_bl I q (by simp))
    | _ => exact absurd (show false = true from hs) Bool.false_ne_true
  | int i =>
    obtain ⟨t, rfl⟩ := rx
    cases y with
    | non => cases ry; exact PySem.EqNone.ne_int_none (fin_bl I q (by simp))
    | int j => obtain ⟨t', rfl⟩ := ry; exact ne_int (fin_bl I q (congrArg not dec_int))
    | str j => obtain ⟨t', rfl⟩ := ry; exact PySem.EqMixed.ne_int_str (fin_bl I q (by simp))
    | _ => exact absurd (show false = true from hs) Bool.false_ne_true
  | str i =>
    obtain ⟨t, rfl⟩ := rx
    cases y with
    | non => cases ry; exact PySem.EqNone.ne_str_none (fin_bl I q (by simp))
    | bl j => cases ry; exact PySem.EqMixed.ne_str_bool (fin_bl I q (by simp))
    | int j => obtain ⟨t', rfl⟩ := ry; exact PySem.EqMixed.ne_str_int (fin_bl I q (by simp))
    | str j => obtain ⟨t', rfl⟩ := ry; exact ne_str (fin_bl I q (congrArg not dec_str))
    | _ => exact absurd (show false = true from hs) Bool.false_ne_true
  | byt i =>
    obtain ⟨t, rfl⟩ := rx
    cases y with
    | byt j => obtain ⟨t', rfl⟩ := ry; exact PySem.W.ne_bytes (fin_bl I q (congrArg not dec_byt))
    | _ => exact absurd (show false = true from hs) Bool.false_ne_true
  | _ => cases y <;> exact absurd (show false = true from hs) Bool.false_ne_true

theorem op_lt : OpR X (compareOp .Lt) (rI0 fun i j => .bl (decide (i < j))) := opB0 fun _ _ _ _ _ _ _ q => lt_int q
theorem op_le : OpR X (compareOp .LtE) (rI0 fun i j => .bl (decide (i ≤ j))) := opB0 fun _ _ _ _ _ _ _ q => le_int q
theorem op_gt : OpR X (compareOp .Gt) (rI0 fun i j => .bl (decide (j < i))) := opB0 fun _ _ _ _ _ _ _ q => gt_int q
theorem op_ge : OpR X (compareOp .GtE) (rI0 fun i j => .bl (decide (j ≤ i))) := opB0 fun _ _ _ _ _ _ _ q => ge_int q
/-- two rules for one operation: by cases -/
theorem OpR.or {f : Value → Value → Sem Value} {r r' : R2} (h : OpR X f r) (h' : OpR X f r') : OpR X f (fun x y H Q => r x y H Q ∨ r' x y H Q) := by
  intro pins s σ H x y v u Q I rx ry q
  rcases q with q | q
  · exact h pins s σ H x y v u Q I rx ry q
  · exact h' pins s σ H x y v u Q I rx ry q

theorem nomark (b : Expr) {op : CmpOp} (h : op ≠ .In := by decide) (h2 : op ≠ .NotIn := by decide) : behindInMarks op b = false := by
  have e1 : (op == CmpOp.In) = false := by cases op <;> first | rfl | exact absurd rfl h
  have e2 : (op == CmpOp.NotIn) = false := by cases op <;> first | rfl | exact absurd rfl h2
  cases b <;> simp [behindInMarks, e1, e2]
/-- a comparison as a value; hm: nomark b, or (for in, not in) by with_unfolding_all rfl -/
theorem pe_cmpR {op : CmpOp} {r : R2} (ho : OpR X (compareOp op) r) (ha : PE X a ta) (hb : PE X b tb) (hm : behindInMarks op b = false) : PE X (.Compare a [op] [b] pos) (tOp r ta tb) := by
  intro pins s σ H Q I h
  exact wpAny_Compare1 (binT ha hb I h fun v u s2 x y H2 I2 rx ry q => ho pins s2 σ H2 x y v u Q I2 rx ry q) hm
/-- a reading of a value as a test -/
def tTest (t : TE) : TT := fun σ H Q => t σ H fun x H' => ∃ k, x = .bl k ∧ Q k H'
theorem pt_cmpR {op : CmpOp} {r : R2} (ho : OpR X (compareOp op) r) (ha : PE X a ta) (hb : PE X b tb) (hm : behindInMarks op b = false) : PT X (.Compare a [op] [b] pos) (tTest (tOp r ta tb)) := by
  intro pins s σ H Q I h
  refine wpAny_isTrue_Compare1 (thn (ha pins s σ H _ I h) fun v s1 ⟨x, H1, I1, r1, q1⟩ => thn (hb pins s1 σ H1 _ I1 q1) fun u s2 ⟨y, H2, I2, r2, q2⟩ =>
    thn (ho pins s2 σ H2 x y v u _ I2 r1 r2 q2) fun c s3 ⟨z, H3, I3, r3, k, e, q3⟩ => ?_) hm
  subst e
  cases r3
  exact wpAny_truthy_bool ⟨H3, I3, q3⟩
/-- a op1 b op2 c -/
def tChain (r r' : R2) (ta tb tc : TE) : TE := fun σ H Q => ta σ H fun x H1 => tb σ H1 fun y H2 => r x y H2 fun z H3 => ∃ k, z = .bl k ∧
  (if k = true then tc σ H3 fun w' H4 => r' y w' H4 Q else Q (.bl false) H3)
theorem pe_chain {op op' : CmpOp} {r r' : R2} (ho : OpR X (compareOp op) r) (ho' : OpR X (compareOp op') r') (ha : PE X a ta) (hb : PE X b tb) (hc : PE X c tc)
    (hm : lastMarks [op, op'] [b, c] = false := by with_unfolding_all rfl) : PE X (.Compare a [op, op'] [b, c] pos) (tChain r r' ta tb tc) := by
  intro pins s σ H Q I h
  refine Compare_chain (thn (ha pins s σ H _ I h) fun v s1 ⟨x, H1, I1, r1, q1⟩ => chain_link (thn (hb pins s1 σ H1 _ I1 q1) fun u s2 ⟨y, H2, I2, r2, q2⟩ =>
    thn (ho pins s2 σ H2 x y v u _ I2 r1 r2 q2) fun d s3 ⟨z, H3, I3, r3, k, e, q3⟩ => ?_)) hm
  subst e
  cases r3
  refine wpAny_truthy_bool ?_
  cases k with
  | false => exact ite_ff ⟨.bl false, H3, I3, rfl, q3⟩
  | true => exact ite_tt (chain_last (thn (hc pins s3 σ H3 _ I3 q3) fun w' s4 ⟨z', H4, I4, r4, q4⟩ => ho' pins s4 σ H4 y z' u w' Q I4 r2 r4 q4))
theorem line63 : (sizeLine : Nat) < 2 ^ 63 := by rw [sizeLine_eq]; decide
/-! ### scalar builtins, by CallR -/
theorem vals1 {x : V} {us : List Value} (r : Vals [x] us) : ∃ u, us = [u] ∧ RelV x u := by
  cases r with
  | cons r1 r2 => cases r2; exact ⟨_, rfl, r1⟩
theorem vals2 {x y : V} {us : List Value} (r : Vals [x, y] us) : ∃ u w', us = [u, w'] ∧ RelV x u ∧ RelV y w' := by
  cases r with
  | cons r1 r2 =>
    cases r2 with
    | cons r3 r4 => cases r4; exact ⟨_, _, rfl, r1, r3⟩
theorem call_abs : CallR X (.builtin "abs") (fun xs H Q => ∃ i, xs = [.int i] ∧ Q (.int (if i < 0 then -i else i)) H) := by
  intro pins s σ H xs us Q I r h
  obtain ⟨i, rfl, q⟩ := h
  obtain ⟨u, rfl, t, rfl⟩ := vals1 r
  exact call_abs_int fun u tk => ⟨.int (if i < 0 then -i else i), H, I.tok _, ⟨_, rfl⟩, q⟩
theorem call_max2 (hc : X.calm = true) : CallR X (.builtin "max") (fun xs H Q => ∃ i j, xs = [.int i, .int j] ∧ Q (.int (if j > i then j else i)) H) := by
  intro pins s σ H xs us Q I r h
  obtain ⟨i, j, rfl, q⟩ := h
  obtain ⟨u, w', rfl, ⟨t, rfl⟩, ⟨t', rfl⟩⟩ := vals2 r
  refine max_two_ints (I.ok.hd hc) fun h' tk k => ⟨_, H, I.kept k, ?_, q⟩
  by_cases hj : j > i
  · rw [if_pos hj, if_pos hj]; exact ⟨_, rfl⟩
  · rw [if_neg hj, if_neg hj]; exact ⟨_, rfl⟩
theorem call_min2 (hc : X.calm = true) : CallR X (.builtin "min") (fun xs H Q => ∃ i j, xs = [.int i, .int j] ∧ Q (.int (if j < i then j else i)) H) := by
  intro pins s σ H xs us Q I r h
  obtain ⟨i, j, rfl, q⟩ := h
  obtain ⟨u, w', rfl, ⟨t, rfl⟩, ⟨t', rfl⟩⟩ := vals2 r
  refine min_two_ints (I.ok.hd hc) fun h' tk k => ⟨_, H, I.kept k, ?_, q⟩
  by_cases hj : j < i
  · rw [if_pos hj, if_pos hj]; exact ⟨_, rfl⟩
  · rw [if_neg hj, if_neg hj]; exact ⟨_, rfl⟩
end
end L2

namespace L2
open PySem PySem.Spec PyProof.Rows

/-! ### an instance, its attributes a map -/
structure ObjM (h : Heap) (x dx C : Addr) (mA : Str → Option Value) : Prop where
  obj : h.get? x = some (PySem.W.instObj C dx)
  ns : h.Ns1 dx mA
  ne : dx ≠ x

theorem lookIn_ns {h : Heap} {dx : Addr} {mA : Str → Option Value} (n : h.Ns1 dx mA) : ∃ od, h.get? dx = some od ∧ ∀ name, PySem.W.lookIn name od = some (mA name) := by
  obtain ⟨o, es, ep, ho, hd, hk, _, hm⟩ := n
  refine ⟨o, ho, fun name => ?_⟩
  have e := hm name
  unfold nsFind findBy at e
  rw [← Array.find?_toList] at e
  unfold PySem.W.lookIn
  rw [hd]
  dsimp only
  split
  · rename_i y q
    rw [q] at e
    exact congrArg some e
  · rename_i q
    rw [q] at e
    have a : es.toList.any (·.refKey) = false := by
      rw [List.any_eq_false]
      intro y hy
      obtain ⟨z, t, hkey⟩ := hk y (Array.mem_toList_iff.mp hy)
      simp [DictEntry.refKey, hkey]
    have a' : ¬ es.toList.any (·.refKey) = true := by rw [a]; exact Bool.false_ne_true
    rw [if_neg a']
    exact congrArg some e

theorem ObjM.look {h : Heap} {x dx C : Addr} {mA : Str → Option Value} (I : ObjM h x dx C mA) : ∃ od, PySem.W.InstAt h x (PySem.W.instObj C dx) C (some od) ∧ ∀ name, PySem.W.lookIn name od = some (mA name) :=
  let ⟨od, ho, hl⟩ := lookIn_ns I.ns
  ⟨od, ⟨I.obj, rfl, rfl, ho⟩, hl⟩

section
variable {prog : Program} {w : World} {A : Around} {E : Value → Shared → Prop} {s : Shared} {K : PySem.W.Frag} {x dx C f : Addr} {mA : Str → Option Value} {name : Str} {v : Value}

theorem get_map {expr : Bool} {Q : Value → Shared → Prop} (X : K.In s.heap) (I : ObjM s.heap x dx C mA) (hg : PySem.W.plainGet K C name = true) (hh : PySem.W.hasDictIn K C = true)
    (ha : PySem.W.findIn K (.ref C) name = some none) (hv : mA name = some v) (hv' : PySem.W.handedIn v = true) (h : Q v { s with toks := s.toks + 1 }) :
    wpAny (model prog w) A (getAttr (.ref x) name expr) Q E s := by
  obtain ⟨od, J, hl⟩ := I.look
  exact PySem.W.get_value X J (PySem.W.plainGet_of hg).1 (PySem.W.findObj_own hh ha rfl (by rw [hl, hv])) hv' h

theorem get_meth {pl : Sem Bool} {Q : Value × List Value → Shared → Prop} (X : K.In s.heap) (I : ObjM s.heap x dx C mA) (hg : PySem.W.plainGet K C name = true)
    (hf : PySem.W.findIn K (.ref C) name = some (some (.ref f))) (ht : PySem.W.isFn K (.ref f) = true) (hv : mA name = none) (h : Q (.ref f, [.ref x]) s) :
    wpAny (model prog w) A (getMethod (.ref x) name pl) Q E s := by
  obtain ⟨od, J, hl⟩ := I.look
  exact PySem.W.method_fn X J (PySem.W.plainGet_of hg).1 (PySem.W.plainGet_of hg).2 hf (beq_iff_eq.mp ht) (by show (PySem.W.lookIn name od).map (·.isSome) = some false; rw [hl, hv]; rfl) h

theorem set_map {ns : List Str} {Q : Unit → Shared → Prop} (X : K.In s.heap) (I : ObjM s.heap x dx C mA)
    (hs : PySem.W.findIn K (.ref C) "__setattr__" = some (some (.builtin "object.__setattr__"))) (hp : PySem.W.plainOver K C = true) (ht : PySem.W.takerIn K C name = some none) (hh : PySem.W.hasDictIn K C = true)
    (hw : PySem.Within mA ns) (hsz : ns.length ≤ sizeLine)
    (h : ∀ h', ObjM h' x dx C (fun y => if y = name then some v else mA y) → Heap.SameBut dx s.heap h' → Q () { s with heap := h', toks := s.toks + 2 }) :
    wpAny (model prog w) A (setAttr (.ref x) name v) Q E s := by
  obtain ⟨od, J, hl⟩ := I.look
  refine PySem.W.set_plain X J hs (PySem.W.osa_open (s := { s with toks := s.toks + 1 }) (r := none) X J hp ht fun b => ?_)
  obtain ⟨cd, hc, hd'⟩ := PySem.W.any_some hh
  have hx : s.heap.get? x = some ⟨.ref C, some dx, .plain, #[]⟩ := I.obj
  refine wpAny_bind (wpAny_pure (wpAny_bind (wpAny_bind (wpAny_loadPart hx (wpAny_bind (PySem.W.Looks.here (s := { s with toks := s.toks + 1 }) (PySem.W.looks_clsIn X hc) ?_))))))
  rw [hd']
  refine wpAny_pure (a := some dx) (wpAny_bind (wpAny_pure (wpAny_bind ?_)))
  refine wpAny_nsSet1 (s := { s with toks := s.toks + 1 }) I.ns fun h' hn2 hs2 => ?_
  obtain ⟨oD, esD, epD, hoD, hdD, hcD⟩ := hn2.count (PySem.Within.cons name v hw)
  refine wpAny_bind (wpAny_lookBehind hoD (by rw [hdD]; exact pastItsLine_dict (Nat.le_trans hcD (by rw [List.length_cons]; omega))) ?_)
  exact wpAny_pure (h _ ⟨(hs2.2 _ (Ne.symm I.ne)).trans I.obj, hn2, I.ne⟩ hs2)

/-- C(..): the dict at the heap's end, the instance behind it; then its __init__ -/
theorem make_map {R : Result → Shared → Prop} {vs : List Value} {kw : List (Str × Value)} (X : K.In s.heap) (hm : PySem.W.makesIn K C = true)
    (hi : PySem.W.findIn K (.ref C) "__init__" = some (some (.ref f))) (hf : PySem.W.typeIn K (.ref f) = some (.type "function"))
    (h : codeAny (model prog w) (A.under (.builtin "type.__call__" ⟨.ref C :: vs, kw⟩)) (.call (.ref f) ⟨.ref (s.heap.objs.size + 1) :: vs, kw⟩) (PySem.W.InitBack (s.heap.objs.size + 1) R)
      { s with heap := (s.heap.push PySem.W.emptyDict).push (PySem.W.instObj C s.heap.objs.size) }) :
    codeAny (model prog w) A (.call (.ref C) ⟨vs, kw⟩) R s := by
  obtain ⟨hh, g, d, t, os⟩ := s
  exact PySem.W.make_core (PySem.W.makes_of X hm) (PySem.W.looks_findIn X hi) (fun self => PySem.W.bind_fn X self hf) (.inl rfl) h
end

/-! ### the attributes as a list of pairs -/
def putF (f : Str) (v : V) : List (Str × V) → List (Str × V)
  | [] => [(f, v)]
  | (g, x) :: r => if g = f then (g, v) :: r else (g, x) :: putF f v r
theorem lookup_putF (f g : Str) (v : V) : ∀ fs : List (Str × V), (putF f v fs).lookup g = if g = f then some v else fs.lookup g
  | [] => by
    show List.lookup g [(f, v)] = _
    by_cases h : g = f
    · have hb : (g == f) = true := beq_iff_eq.mpr h
      simp only [List.lookup, hb, if_pos h]
    · have hb : (g == f) = false := beq_eq_false_iff_ne.mpr h
      simp only [List.lookup, hb, if_neg h]
  | (k, x) :: r => by
    have ih := lookup_putF f g v r
    rw [show putF f v ((k, x) :: r) = (if k = f then (k, v) :: r else (k, x) :: putF f v r) from rfl]
    by_cases hk : k = f
    · rw [if_pos hk]
      by_cases h : g = k
      · have hb : (g == k) = true := beq_iff_eq.mpr h
        simp only [List.lookup, hb, if_pos (h.trans hk)]
      · have hb : (g == k) = false := beq_eq_false_iff_ne.mpr h
        simp only [List.lookup, hb, if_neg (fun e : g = f => h (e.trans hk.symm))]
    · rw [if_neg hk]
      by_cases h : g = k
      · have hb : (g == k) = true := beq_iff_eq.mpr h
        simp only [List.lookup, hb, if_neg (fun e : g = f => hk (h.symm.trans e))]
      · have hb : (g == k) = false := beq_eq_false_iff_ne.mpr h
        simp only [List.lookup, hb]
        exact ih
theorem keys_putF (f : Str) (v : V) : ∀ fs : List (Str × V), f ∈ (putF f v fs).map (·.1) ∧ ∀ g, g ∈ fs.map (·.1) → g ∈ (putF f v fs).map (·.1)
  | [] => ⟨by simp [putF], fun g h => by simp at h⟩
  | (k, x) :: r => by
    obtain ⟨i1, i2⟩ := keys_putF f v r
    rw [show putF f v ((k, x) :: r) = (if k = f then (k, v) :: r else (k, x) :: putF f v r) from rfl]
    by_cases hk : k = f
    · rw [if_pos hk]
      subst hk
      exact ⟨by simp, fun g h => by simpa using h⟩
    · rw [if_neg hk]
      refine ⟨?_, fun g h => ?_⟩
      · rw [List.map_cons]
        exact List.mem_cons_of_mem _ i1
      · rw [List.map_cons] at h ⊢
        rcases List.mem_cons.mp h with e | e
        · exact List.mem_cons.mpr (.inl e)
        · exact List.mem_cons_of_mem _ (i2 g e)
theorem length_putF (f : Str) (v : V) : ∀ fs : List (Str × V), (putF f v fs).length ≤ fs.length + 1
  | [] => by simp [putF]
  | (k, x) :: r => by
    have ih := length_putF f v r
    rw [show putF f v ((k, x) :: r) = (if k = f then (k, v) :: r else (k, x) :: putF f v r) from rfl]
    by_cases hk : k = f
    · rw [if_pos hk, List.length_cons, List.length_cons]; omega
    · rw [if_neg hk, List.length_cons, List.length_cons]; omega

theorem RelO.some_of {v : V} {o : Option Value} (r : RelO (some v) o) : ∃ u, o = some u ∧ RelV v u := by
  cases o with
  | none => exact (show False from r).elim
  | some u => exact ⟨u, rfl, r⟩
theorem RelO.none_of {o : Option Value} (r : RelO none o) : o = none := by
  cases o with
  | none => rfl
  | some u => exact (show False from r).elim
theorem handed_of {v : V} {u : Value} (r : RelV v u) : PySem.W.handedIn u = true := by
  cases v with
  | non => cases (show u = Value.none from r); rfl
  | bl b => cases (show u = Value.bool b from r); rfl
  | int i => obtain ⟨t, e⟩ := (show ∃ t, u = Value.int i t from r); cases e; rfl
  | str x => obtain ⟨t, e⟩ := (show ∃ t, u = Value.str x t from r); cases e; rfl
  | byt b => obtain ⟨t, e⟩ := (show ∃ t, u = Value.bytes b t from r); cases e; rfl
  | flt b => obtain ⟨t, e⟩ := (show ∃ t, u = Value.float b t from r); cases e; rfl
  | ref a => cases (show u = Value.ref a from r); rfl
  | ty n => cases (show u = Value.type n from r); rfl

section
variable {P : Program} {w : World} {H H' : Hp} {h h' : Heap} {a C dx : Addr} {fs fs' : List (Str × V)}
theorem ins_get (hok : HOk P w H h) (e : H a = some (.ins C dx fs)) : ∃ mA, ObjM h a dx C mA ∧ (∀ f, RelO (fs.lookup f) (mA f)) ∧ PySem.Within mA (fs.map (·.1)) ∧ fs.length ≤ 1000 ∧ H dx = some (.own a) := by
  obtain ⟨d, z, ne, ob, mA, n, r, q⟩ := (show ObjOk P w H h a (.ins C dx fs) from hok a _ e)
  exact ⟨mA, ⟨ob, n, ne⟩, r, q, z, d⟩
end

/-! ### what of the text a class must have -/
structure Cls (K : PySem.W.Frag) (C : Addr) : Prop where
  pg : PySem.W.plainGet K C Str.empty = true
  hd : PySem.W.hasDictIn K C = true
  po : PySem.W.plainOver K C = true
  sa : PySem.W.findIn K (.ref C) "__setattr__" = some (some (.builtin "object.__setattr__"))
theorem Cls.get {K : PySem.W.Frag} {C : Addr} (c : Cls K C) (f : Str) : PySem.W.plainGet K C f = true := c.pg
/-- no class of it has the name -/
def NoAttr (K : PySem.W.Frag) (C : Addr) (f : Str) : Prop := PySem.W.findIn K (.ref C) f = some none
theorem NoAttr.taker {K : PySem.W.Frag} {C : Addr} {f : Str} (n : NoAttr K C f) : PySem.W.takerIn K C f = some none := by
  unfold PySem.W.takerIn
  rw [show PySem.W.findIn K (.ref C) f = some none from n]
  rfl
/-- a constant of the class -/
structure Con (K : PySem.W.Frag) (C : Addr) (f : Str) (v : V) (u : Value) : Prop where
  at_ : PySem.W.findIn K (.ref C) f = some (some u)
  rel : RelV v u
  get : PySem.W.specialIn K u "__get__" = some none
  cp : PySem.W.copiedNames.contains f = false
/-- a method: a plain def of the class or of one above it -/
structure Meth (K : PySem.W.Frag) (C : Addr) (m : Str) (f : Addr) : Prop where
  at_ : PySem.W.findIn K (.ref C) m = some (some (.ref f))
  fn : PySem.W.isFn K (.ref f) = true
  kp : PySem.W.keepIn K (.ref f) = true

section
variable {X : Cx} {pins : List (Addr × Obj)} {σ : St} {H : Hp} {s : Shared} {a C dx : Addr} {fs : List (Str × V)} {f : Str} {v : V} {A : Around} {E : Value → Shared → Prop}

theorem getattr_ok {b : Bool} {Q : Value → Shared → Prop} (I : Inv X pins σ H s) (e : H a = some (.ins C dx fs)) (c : Cls X.K C) (n : NoAttr X.K C f) (l : fs.lookup f = some v)
    (h : ∀ u s', Inv X pins σ H s' → RelV v u → Q u s') : wpAny (model X.prog X.w) A (getAttr (.ref a) f b) Q E s := by
  obtain ⟨mA, O, r, _, _, _⟩ := ins_get I.hok e
  obtain ⟨u, hu, ru⟩ := RelO.some_of (v := v) (o := mA f) (by rw [← l]; exact r f)
  exact get_map I.kIn O (c.get f) c.hd n hu (handed_of ru) (h u _ (I.tok _) ru)

theorem getmeth_ok {m : Str} {g : Addr} {pl : Sem Bool} {Q : Value × List Value → Shared → Prop} (I : Inv X pins σ H s) (e : H a = some (.ins C dx fs)) (c : Cls X.K C) (k : Meth X.K C m g) (l : fs.lookup m = none)
    (h : Q (.ref g, [.ref a]) s) : wpAny (model X.prog X.w) A (getMethod (.ref a) m pl) Q E s := by
  obtain ⟨mA, O, r, _, _, _⟩ := ins_get I.hok e
  have hn : mA m = none := RelO.none_of (by rw [← l]; exact r m)
  exact get_meth I.kIn O (c.get m) k.at_ k.fn hn h

theorem setattr_ok {y : V} {u : Value} {Q : Unit → Shared → Prop} (I : Inv X pins σ H s) (e : H a = some (.ins C dx fs)) (c : Cls X.K C) (n : NoAttr X.K C f) (hl : fs.length < 1000) (ry : RelV y u)
    (h : ∀ s', Inv X pins σ (upd H a (.ins C dx (putF f y fs))) s' → Q () s') : wpAny (model X.prog X.w) A (setAttr (.ref a) f u) Q E s := by
  obtain ⟨mA, O, r, wi, _, ho⟩ := ins_get I.hok e
  have hz : (fs.map (·.1)).length ≤ sizeLine := by rw [List.length_map, sizeLine_eq]; omega
  refine set_map I.kIn O c.sa c.po n.taker c.hd wi hz fun h' O' sb => h _ ?_
  have hd : ∃ o, h'.get? dx = some o := let ⟨o, _, _, e', _⟩ := O'.ns; ⟨o, e'⟩
  refine I.write (x := a) (e := dx) (by rw [e]; exact True.intro) (.inr ho) (fun b q hb z => (sb.2 b hb).trans z) hd ?_
  refine ⟨by rw [upd_ne O.ne]; exact ho, ?_, O.ne, O'.obj, _, O'.ns, fun g => ?_, fun g hg => ?_⟩
  · have := length_putF f y fs; omega
  · show RelO ((putF f y fs).lookup g) (if g = f then some u else mA g)
    rw [lookup_putF]
    by_cases q : g = f
    · rw [if_pos q, if_pos q]; exact ry
    · rw [if_neg q, if_neg q]; exact r g
  · by_cases q : g = f
    · rw [q]; exact (keys_putF f y fs).1
    · refine (keys_putF f y fs).2 g (wi g fun z => hg ?_)
      show (if g = f then some u else mA g) = none
      rw [if_neg q]; exact z

/-- a new instance, tracked, without attributes -/
theorem Inv.made (I : Inv X pins σ H s) : Inv X pins σ (upd (upd H s.heap.objs.size (.own (s.heap.objs.size + 1))) (s.heap.objs.size + 1) (.ins C s.heap.objs.size []))
    { s with heap := (s.heap.push PySem.W.emptyDict).push (PySem.W.instObj C s.heap.objs.size) } := by
  have e1 : (s.heap.push PySem.W.emptyDict).get? s.heap.objs.size = some PySem.W.emptyDict := Heap.get?_push_size s.heap rfl
  have e2 : ((s.heap.push PySem.W.emptyDict).push (PySem.W.instObj C s.heap.objs.size)).get? (s.heap.objs.size + 1) = some (PySem.W.instObj C s.heap.objs.size) := by
    have := Heap.get?_push_size (s.heap.push PySem.W.emptyDict) (o := PySem.W.instObj C s.heap.objs.size) rfl
    rwa [Heap.size_push] at this
  have e3 : (s.heap.push PySem.W.emptyDict).Ns s.heap.objs.size (fun _ => none) := ⟨PySem.W.emptyDict, #[], _, e1, rfl, (fun e he => absurd he (by simp)), fun _ => rfl⟩
  have I1 := I.laid (a := s.heap.objs.size) (o := .own (s.heap.objs.size + 1)) (h' := s.heap.push PySem.W.emptyDict) (t' := s.toks) (fun b u q => Heap.get?_push_of_some _ q) (Nat.le_refl _) ⟨_, e1⟩
  refine I1.laid (a := s.heap.objs.size + 1) (o := .ins C s.heap.objs.size []) (t' := s.toks) (fun b u q => Heap.get?_push_of_some _ q) (Nat.le_of_eq (Heap.size_push _ _)) ?_
  have ne : s.heap.objs.size ≠ s.heap.objs.size + 1 := Nat.ne_of_lt (Nat.lt_succ_self _)
  refine ⟨by rw [upd_ne ne, upd_same], Nat.zero_le _, ne, e2, fun _ => none, (Heap.Ns1.of_empty e3).at fun o q => Heap.get?_push_of_some _ q, fun _ => True.intro, fun y hy => absurd rfl hy⟩

/-- e.f where nothing but the object is asked: through attributeBase (super) and the last hold -/
theorem attr_of {prog : Program} {w : World} {env : Env} {e : Expr} {f : Str} {pos : Pos} {s : Shared} {Q : Value → Shared → Prop} (hb : attributeBase e f env (eval e env) = eval e env)
    (h : wpAny (model prog w) A (eval e env) (fun o s₁ => wpAny (model prog w) A (getAttr o f true) Q E s₁) E s) : wpAny (model prog w) A (eval (.Attribute e f pos) env) Q E s :=
  Attribute_any_ h (by rw [arm_eval_Attribute, hb])
end

/-! ### readings and rules -/
/-- e.f, an attribute of the instance -/
def tFld (K : PySem.W.Frag) (ta : TE) (f : Str) : TE := fun σ H Q => ta σ H fun x H1 => ∃ a C dx fs v, x = .ref a ∧ H1 a = some (.ins C dx fs) ∧ Cls K C ∧ NoAttr K C f ∧ fs.lookup f = some v ∧ Q v H1
/-- e.f = value -/
def sFld (K : PySem.W.Frag) (ta tv : TE) (f : Str) : TS := fun D σ H => tv σ H fun y H1 => ta σ H1 fun x H2 => ∃ a C dx fs, x = .ref a ∧ H2 a = some (.ins C dx fs) ∧ Cls K C ∧ NoAttr K C f ∧ fs.length < 1000 ∧
  D.nx σ (upd H2 a (.ins C dx (putF f y fs)))
section
variable {X : Cx} {o e value : Expr} {f : Str} {pos pos' tpos : Pos} {ta tv : TE}
theorem pe_fld (he : PE X e ta) (hb : attributeBase e f X.env (eval e X.env) = eval e X.env) : PE X (.Attribute e f pos) (tFld X.K ta f) := by
  intro pins s σ H Q I h
  refine attr_of hb (thn (he pins s σ H _ I h) fun u s1 ⟨x, H1, I1, rx, a, C, dx, fs, v, ex, ea, c, n, l, q⟩ => ?_)
  subst ex
  obtain rfl : u = Value.ref a := rx
  exact getattr_ok I1 ea c n l fun u' s2 I2 ru => ⟨v, H1, I2, ru, q⟩
theorem ps_fld (ha : PE X o ta) (hv : PE X value tv) (hs : swapsWith value (some (.Attribute o f pos')) pos.line X.env = pure false) : PS X (.Assign [.Attribute o f pos'] value pos) (sFld X.K ta tv f) := by
  intro pins s σ H D I h
  refine plainObj_wpAny_Assign_Attribute (thn (hv pins s σ H _ I h) fun u s1 ⟨y, H1, I1, ry, q⟩ => thn (ha pins s1 σ H1 _ I1 q) fun ov s2 ⟨x, H2, I2, rx, a, C, dx, fs, ex, ea, c, n, l, q2⟩ => ?_) hs
  subst ex
  obtain rfl : ov = Value.ref a := rx
  exact setattr_ok I2 ea c n l ry fun s3 I3 => ⟨σ, _, I3, q2⟩
end

/-! ### isinstance -/
section
variable {X : Cx} {pins : List (Addr × Obj)} {σ : St} {H : Hp} {s : Shared} {A : Around} {E : Value → Shared → Prop} {Q : Value → Shared → Prop} {c : Value} {b : Bool}
/-- the type of a value, as the fragment's deciders take it; for an instance its class -/
inductive TyOf (K : PySem.W.Frag) (H : Hp) : V → Value → Prop where
  | non : TyOf K H .non (.type "NoneType")
  | bl (x : Bool) : TyOf K H (.bl x) (.type "bool")
  | int (i : Int) : TyOf K H (.int i) (.type "int")
  | str (x : Str) : TyOf K H (.str x) (.type "str")
  | flt (x : UInt64) : TyOf K H (.flt x) (.type "float")
  | lst {a : Addr} {xs : List V} (e : H a = some (.lst xs)) : TyOf K H (.ref a) (.type "list")
  | frz {a : Addr} {o : Obj} {xs : List V} (e : H a = some (.frz o (.lst xs))) : TyOf K H (.ref a) (.type "list")
  | frt {a : Addr} {o : Obj} {xs : List V} (e : H a = some (.frz o (.tup xs))) : TyOf K H (.ref a) (.type "tuple")
  | tup {a : Addr} {xs : List V} (e : H a = some (.tup xs)) : TyOf K H (.ref a) (.type "tuple")
  | dK {a : Addr} {kvs : List (Key × V)} (e : H a = some (.dK kvs)) : TyOf K H (.ref a) (.type "dict")
  | dT {a : Addr} {kvs : List (List Key × V)} (e : H a = some (.dT kvs)) : TyOf K H (.ref a) (.type "dict")
  | ins {a C dx : Addr} {fs : List (Str × V)} (e : H a = some (.ins C dx fs)) (cl : Cls K C) (ha : PySem.W.findIn K (.ref C) "__class__" = some (some (.builtin "object.__class__")))
      (hn : PySem.W.specialIn K (.builtin "object.__class__") "__get__" = some (some (.builtin "getset_descriptor.__get__"))) (htk : PySem.W.takesIn K (.builtin "object.__class__") = some true)
      (hm : PySem.W.mroIn K C (.type "object") = some true) : TyOf K H (.ref a) (.ref C)
/-- isinstance(x, c) for one class c, a built-in or an own one: kitOne's answer -/
theorem isinst_ok {x : V} {u t : Value} (I : Inv X pins σ H s) (rx : RelV x u) (ty : TyOf X.K H x t) (e : PySem.W.kitOne X.K t c = some b) (h : ∀ tk, Q (.bool b) { s with toks := tk }) :
    wpAny (model X.prog X.w) A (call (.builtin "isinstance") [u, c]) Q E s := by
  cases ty with
  | non => cases (show u = Value.none from rx); exact PySem.W.kia_one PySem.W.kitx_none I.kIn True.intro e (fun z => nomatch z) h
  | bl y => cases (show u = Value.bool y from rx); exact PySem.W.kia_one PySem.W.kitx_bool I.kIn True.intro e (fun z => nomatch z) h
  | int i => obtain ⟨t, q⟩ := (show ∃ t, u = Value.int i t from rx); cases q; exact PySem.W.kia_one PySem.W.kitx_int I.kIn True.intro e (fun z => nomatch z) h
  | str y => obtain ⟨t, q⟩ := (show ∃ t, u = Value.str y t from rx); cases q; exact PySem.W.kia_one PySem.W.kitx_str I.kIn True.intro e (fun z => nomatch z) h
  | flt y => obtain ⟨t, q⟩ := (show ∃ t, u = Value.float y t from rx); cases q; exact PySem.W.kia_one PySem.W.kitx_float I.kIn True.intro e (fun z => nomatch z) h
  | @lst a xs ea =>
    cases (show u = Value.ref a from rx)
    obtain ⟨_, _, n, _, h1⟩ := (show ObjOk X.prog X.w H s.heap a (.lst xs) from I.hok a _ ea)
    exact PySem.W.kia_one PySem.W.kitx_list I.kIn ⟨_, h1, rfl⟩ e (fun z => nomatch z) h
  | @frz a ob xs ea =>
    cases (show u = Value.ref a from rx)
    obtain ⟨_, _, _, n, _, h1⟩ := (show ObjOk X.prog X.w H s.heap a (.frz ob (.lst xs)) from I.hok a _ ea)
    exact PySem.W.kia_one PySem.W.kitx_list I.kIn ⟨_, h1, rfl⟩ e (fun z => nomatch z) h
  | @frt a ob xs ea =>
    cases (show u = Value.ref a from rx)
    obtain ⟨_, _, _, _, p⟩ := (show ObjOk X.prog X.w H s.heap a (.frz ob (.tup xs)) from I.hok a _ ea)
    obtain ⟨o, h1, h2, _⟩ := p
    exact PySem.W.kia_one PySem.W.kitx_tuple I.kIn ⟨o, h1, h2⟩ e (fun z => nomatch z) h
  | @tup a xs ea =>
    cases (show u = Value.ref a from rx)
    obtain ⟨_, _, _, p⟩ := (show ObjOk X.prog X.w H s.heap a (.tup xs) from I.hok a _ ea)
    obtain ⟨o, h1, h2, _⟩ := p
    exact PySem.W.kia_one PySem.W.kitx_tuple I.kIn ⟨o, h1, h2⟩ e (fun z => nomatch z) h
  | @dK a kvs ea =>
    cases (show u = Value.ref a from rx)
    obtain ⟨_, _, vs, _, p⟩ := (show ObjOk X.prog X.w H s.heap a (.dK kvs) from I.hok a _ ea)
    obtain ⟨o, es, ep, h1, h2, _⟩ := p
    exact PySem.W.kia_one PySem.W.kitx_dict I.kIn ⟨o, h1, h2.1⟩ e (fun z => nomatch z) h
  | @dT a kvs ea =>
    cases (show u = Value.ref a from rx)
    obtain ⟨_, _, xs, _, o, es, ep, h1, h2, _⟩ := (show ObjOk X.prog X.w H s.heap a (.dT kvs) from I.hok a _ ea)
    exact PySem.W.kia_one PySem.W.kitx_dict I.kIn ⟨o, h1, h2.1⟩ e (fun z => nomatch z) h
  | @ins a C dx fs ea cl ha hn htk hm =>
    cases (show u = Value.ref a from rx)
    obtain ⟨mA, O, _⟩ := ins_get I.hok ea
    obtain ⟨od, J, _⟩ := O.look
    exact PySem.W.kia_one (PySem.W.kitx_own (cl.get _) cl.hd ha hn htk hm) I.kIn J e (fun z => nomatch z) h
end
end L2

namespace L2
open PySem PySem.Spec PyProof.Rows

/-! ### room -/
structure Room (k : Nat) (A : Around) : Prop where
  hd : A.handled = none
  dp : A.depth + 3 * k + 5 < recursionLimit
  un : A.units + 16 * k + 200 < cLine
  gd : 7 ≤ k → A.guards = some []
theorem Room.mono {j k : Nat} {A : Around} (r : Room k A) (h : j ≤ k) : Room j A := ⟨r.hd, by have := r.dp; omega, by have := r.un; omega, fun z => r.gd (Nat.le_trans z h)⟩
theorem Room.deeper {k : Nat} {A : Around} (r : Room (k + 1) A) (env : Env) : Room k (A.deeper env) :=
  ⟨r.hd, by have := r.dp; show A.depth + 1 + 3 * k + 5 < _; omega, by have := r.un; show A.units + 3 + 16 * k + 200 < _; omega, fun z => r.gd (Nat.le_succ_of_le z)⟩
theorem Room.in1 {k : Nat} {A : Around} (r : Room (k + 1) A) : Room k A.in1 :=
  ⟨r.hd, by have := r.dp; show A.depth + 3 * k + 5 < _; omega, by have := r.un; show A.units + 1 + 16 * k + 200 < _; omega, fun z => r.gd (Nat.le_succ_of_le z)⟩
theorem make_depth {A : Around} {C : Addr} {us : List Value} {kw : List (Str × Value)} : (A.under (.builtin "type.__call__" ⟨.ref C :: us, kw⟩)).depth = A.depth + 1 := by
  first | rfl | simp [Around.under, Code.weight, Code.isCreation, Code.isGuard, Code.isCaller, Code.frames, Code.isFrame, guardIds]
theorem make_units {A : Around} {C : Addr} {us : List Value} {kw : List (Str × Value)} : (A.under (.builtin "type.__call__" ⟨.ref C :: us, kw⟩)).units = A.units + 1 := by
  first | rfl | simp [Around.under, Code.cUnits, Code.frames, Code.isFrame]
theorem Room.make {k : Nat} {A : Around} (r : Room (k + 1) A) (C : Addr) (us : List Value) (kw : List (Str × Value)) : Room k (A.under (.builtin "type.__call__" ⟨.ref C :: us, kw⟩)) :=
  ⟨r.hd, by have := r.dp; rw [make_depth]; omega, by have := r.un; rw [make_units]; omega, fun z => (show _ = _ from r.gd (Nat.le_succ_of_le z))⟩
theorem Room.depth {k : Nat} {A : Around} (r : Room k A) : A.depth < recursionLimit := by have := r.dp; omega
theorem Room.units {k : Nat} {A : Around} (r : Room k A) : A.units + 64 < cLine := by have := r.un; omega
/-! ### argument lists and displays -/
def tNil : TA := fun _ H Q => Q [] H
def tCons (ta : TE) (tr : TA) : TA := fun σ H Q => ta σ H fun x H1 => tr σ H1 fun xs H2 => Q (x :: xs) H2
section
variable {X : Cx} {e : Expr} {es : List Expr} {te : TE} {t : TA} {pos : Pos}
theorem pa_nil : PA X [] tNil := fun _ _ _ _ H Q I h => Calls.spliced_nil ⟨[], H, I, .nil, h⟩
theorem pa_cons (ha : PE X e te) (hr : PA X es t) (hs : starEach (e :: es) X.env = (false, eval e X.env) :: starEach es X.env := by rfl) : PA X (e :: es) (tCons te t) := by
  intro pos pins s σ H Q I h
  rw [hs]
  show wpAny _ _ (spliced ((false, eval e X.env) :: backTo pos (starEach es X.env))) _ _ s
  refine Calls.spliced_cons (thn (ha pins s σ H _ I h) fun u s1 ⟨x, H1, I1, r1, q1⟩ => ?_)
  exact thn (hr pos pins s1 σ H1 _ I1 q1) fun us s2 ⟨xs, H2, I2, r2, q2⟩ => ⟨x :: xs, H2, I2, .cons r1 r2, q2⟩

/-- a tuple, a list of written items -/
def tTup (t : TA) : TE := fun σ H Q => t σ H fun xs H1 => xs.length ≤ sizeLine ∧ ∀ p, H1 p = none → Q (.ref p) (upd H1 p (.tup xs))
def tLst (t : TA) : TE := fun σ H Q => t σ H fun xs H1 => xs.length ≤ sizeLine ∧ ∀ p, H1 p = none → Q (.ref p) (upd H1 p (.lst xs))
theorem pe_tup {x1} (h : PA X es t) : PE X (.Tuple es x1 pos) (tTup t) := by
  intro pins s σ H Q I hq
  refine wpAny_Tuple_spliced (thn (h pos pins s σ H _ I hq) fun us s1 ⟨xs, H1, I1, r, z, q⟩ => ⟨by rw [← r.length]; exact z, ?_⟩)
  have hf : H1 s1.heap.objs.size = none := I1.hok.fresh (Nat.le_refl _)
  refine ⟨.ref s1.heap.objs.size, upd H1 s1.heap.objs.size (.tup xs), I1.laid (t' := s1.toks) (fun b u e => Heap.get?_push_of_some _ e) (Nat.le_refl _) ?_, rfl, q _ hf⟩
  exact ⟨z, us, r, ⟨_, Heap.get?_push_size _ rfl, rfl, _, rfl⟩⟩
theorem pe_lst (h : PA X es t) : PE X (.List es pos) (tLst t) := by
  intro pins s σ H Q I hq
  refine wpAny_List_spliced (thn (h pos pins s σ H _ I hq) fun us s1 ⟨xs, H1, I1, r, z, q⟩ => ⟨by rw [← r.length]; exact z, ?_⟩)
  have hf : H1 s1.heap.objs.size = none := I1.hok.fresh (Nat.le_refl _)
  refine ⟨.ref s1.heap.objs.size, upd H1 s1.heap.objs.size (.lst xs), I1.laid (t' := s1.toks) (fun b u e => Heap.get?_push_of_some _ e) (Nat.le_refl _) ?_, rfl, q _ hf⟩
  exact ⟨z, us, 0, r, Heap.get?_push_size _ rfl⟩
end

/-! ### what a def promises -/
/-- a def's promise: the bound arguments in the parameters' order, the heap, the wanted end, the wanted exception -/
abbrev Sp := List V → Hp → VK → XK → Prop
/-- how an exception lies behind a call (file 08 gives it): the callers' frames, abstract heap and state ahead of the call, the wish, the exception, the state -/
abbrev CXT := List Env → Hp → Shared → XK → Value → Shared → Prop

/-- the state at a call -/
structure Env0 (P : Program) (w : World) (K : PySem.W.Frag) (mg : Str → Option Value) (base : Heap) (A : Around) (outer : List Env) (s : Shared) (H : Hp) : Prop where
  frames : True
  mod : Mod K mg base
  bs : ∀ b o, base.get? b = some o → s.heap.get? b = some o ∧ H b = none
  bsz : base.objs.size ≤ s.heap.objs.size
  funs : s.heap.FunFrames base outer
  frf : ∀ b ∈ frs outer, H b = none
  hok : HOk P w H s.heap
  bare : True
/-- a call's end -/
def CE (outer : List Env) (P : Program) (w : World) (H : Hp) (s : Shared) (Q : VK) (u : Value) (s' : Shared) : Prop :=
  ∃ v H', s'.os = s.os ∧ (AllBare s.gens → AllBare s'.gens) ∧ Un (frs outer) [] H H' s.heap s'.heap ∧ HOk P w H' s'.heap ∧ RelV v u ∧ Q v H'
def CR (CX : CXT) (outer : List Env) (P : Program) (w : World) (H : Hp) (s : Shared) (Q : VK) (E : XK) (r : Result) (s' : Shared) : Prop :=
  match r with
  | .ok (.ret u) => CE outer P w H s Q u s'
  | .ok _ => False
  | .error e => CX outer H s E e s'
structure FnOk (P : Program) (w : World) (K : PySem.W.Frag) (mg : Str → Option Value) (base : Heap) (CX : CXT) (k : Nat) (f : Addr) (fd : FuncData) (ps : List Str) (sp : Sp) : Prop where
  len : ∀ vs H Q E, sp vs H Q E → vs.length = ps.length
  run : ∀ (A : Around) (outer : List Env) (s : Shared) (H : Hp) (args : Args) (us : List Value) (vs : List V) (Q : VK) (E : XK), Room k A → Env0 P w K mg base A outer s H → BindsTo s fd args (ps.zip us) → Vals vs us → sp vs H Q E →
    codeAny (model P w) A (.call (.ref f) args) (CR CX outer P w H s Q E) s
theorem FnOk.mono {P : Program} {w : World} {K : PySem.W.Frag} {mg : Str → Option Value} {base : Heap} {CX : CXT} {j k : Nat} {f : Addr} {fd : FuncData} {ps : List Str} {sp : Sp} (F : FnOk P w K mg base CX j f fd ps sp) (h : j ≤ k) :
    FnOk P w K mg base CX k f fd ps sp := ⟨F.len, fun A outer s H args us vs Q E hr => F.run A outer s H args us vs Q E (hr.mono h)⟩
theorem Env0.make {P : Program} {w : World} {K : PySem.W.Frag} {mg : Str → Option Value} {base : Heap} {A : Around} {outer : List Env} {s : Shared} {H : Hp} (e : Env0 P w K mg base A outer s H) (C : Addr) (us : List Value) (kw : List (Str × Value)) :
    Env0 P w K mg base (A.under (.builtin "type.__call__" ⟨.ref C :: us, kw⟩)) outer s H := ⟨by first | exact e.frames | (simpa [Around.under, Code.envs, Code.isFrame, pushEnvs] using e.frames), e.mod, e.bs, e.bsz, e.funs, e.frf, e.hok, e.bare⟩
theorem Env0.in1 {P : Program} {w : World} {K : PySem.W.Frag} {mg : Str → Option Value} {base : Heap} {A : Around} {outer : List Env} {s : Shared} {H : Hp} (e : Env0 P w K mg base A outer s H) :
    Env0 P w K mg base A.in1 outer s H := ⟨e.frames, e.mod, e.bs, e.bsz, e.funs, e.frf, e.hok, e.bare⟩

section
variable {X : Cx} {pins : List (Addr × Obj)} {σ : St} {H : Hp} {s s' : Shared}
/-- from a body: what a callee wants -/
theorem Inv.env0 (I : Inv X pins σ H s) : Env0 X.prog X.w X.K X.mg X.base X.A X.stack s H :=
  ⟨I.ok.frames, I.ok.mod, I.bs, Nat.le_trans I.ok.bsz I.sz, I.stack, I.stkFree, I.hok, trivial⟩
/-- behind a call -/
theorem Inv.after {Q : VK} {u : Value} (I : Inv X pins σ H s) (hqt : X.qt = false) (h : CE X.stack X.prog X.w H s Q u s') : EP X pins σ Q u s' := by
  obtain ⟨v, H', os, bare, un, hok, r, q⟩ := h
  obtain ⟨hh, g, d, t, os'⟩ := s'
  obtain rfl : os' = s.os := os
  exact ⟨v, H', I.call (h' := hh) (g' := g) (d' := d) (t' := t) (ch := []) un hok ⟨fun z => bare (I.bare.1 z), fun z => by rw [hqt] at z; cases z⟩ (fun b z => absurd z (by simp)), r, q⟩
end

/-! ### calls -/
/-- f(..): the written arguments, then the defaults dvs; E: what is wanted of an exception -/
def tCall (sp : Sp) (dvs : List V) (E : XK) (t : TA) : TE := fun σ H Q => t σ H fun vs H1 => sp (vs ++ dvs) H1 Q E
/-- o.m(..) of an instance of the class at C -/
def tMeth (C : Addr) (m : Str) (sp : Sp) (dvs : List V) (E : XK) (ta : TE) (t : TA) : TE := fun σ H Q => ta σ H fun x H1 => ∃ a dx fs, x = .ref a ∧ H1 a = some (.ins C dx fs) ∧ fs.lookup m = none ∧
  t σ H1 fun vs H2 => sp (x :: (vs ++ dvs)) H2 Q E
/-- C(..): a new instance and its dict, then __init__ -/
def tMake (C : Addr) (sp : Sp) (dvs : List V) (E : XK) (t : TA) : TE := fun σ H Q => t σ H fun vs H1 => ∀ x dx, H1 x = none → H1 dx = none → dx ≠ x →
  sp (.ref x :: (vs ++ dvs)) (upd (upd H1 dx (.own x)) x (.ins C dx [])) (fun v H2 => v = .non ∧ Q (.ref x) H2) E

/-- how the parameters are bound: us the positional arguments, kw the keywords' values by name, ds the defaults that fill up -/
def Binds (K : PySem.W.Frag) (fd : FuncData) (ps : List Str) (ds : List Value) : Prop :=
  ∀ (s : Shared) (us : List Value), K.In s.heap → (us ++ ds).length = ps.length → BindsTo s fd ⟨us, []⟩ (ps.zip (us ++ ds))
/-- every parameter is given -/
theorem Binds.all {K : PySem.W.Frag} {fd : FuncData} {ps : List Str} (h : ∀ us : List Value, us.length = ps.length → bindArgs fd ⟨us, []⟩ = pure (ps.zip us)) : Binds K fd ps [] := fun s us _ hl => by
  rw [List.append_nil] at hl ⊢
  exact .of_eq (h us hl)

/-- an exception of a callee reaches what this body wants of exceptions -/
def Passes (CX : CXT) (X : Cx) (E : XK) : Prop := X.qt = false ∧ ∀ (pins : List (Addr × Obj)) (σ : St) (H : Hp) (s : Shared) (e : Value) (s' : Shared), Inv X pins σ H s → CX X.stack H s E e s' → X.xe e s'

section
variable {X : Cx} {CX : CXT} {k : Nat} {f C : Addr} {fd : FuncData} {ps : List Str} {sp : Sp} {dvs : List V} {ds : List Value} {E : XK} {x m : Str} {p pos apos : Pos} {e o : Expr} {es : List Expr} {ta : TE} {t : TA}

/-- the callee runs -/
theorem run_fn {pins : List (Addr × Obj)} {σ : St} {H : Hp} {s : Shared} {Q : VK} {us : List Value} {vs : List V} (F : FnOk X.prog X.w X.K X.mg X.base CX k f fd ps sp) (hr : Room k X.A) (hb : Binds X.K fd ps ds) (hd : Vals dvs ds) (hx : Passes CX X E)
    (I : Inv X pins σ H s) (r : Vals vs us) (h : sp (vs ++ dvs) H Q E) : wpAny (model X.prog X.w) X.A (call (.ref f) us) (EP X pins σ Q) X.xe s := by
  have r2 : Vals (vs ++ dvs) (us ++ ds) := r.append hd
  have hl : (us ++ ds).length = ps.length := by rw [← r2.length]; exact F.len _ _ _ _ h
  refine wpAny_call (codeAny_mono (F.run X.A X.stack s H ⟨us, []⟩ (us ++ ds) (vs ++ dvs) Q E hr I.env0 (hb s us I.kIn hl) r2 h) fun r s' hq => ?_)
  cases r with
  | error e => exact hx.2 pins σ H s e s' I hq
  | ok fl =>
    cases fl with
    | ret u => exact I.after hx.1 hq
    | next => exact False.elim hq
    | brk => exact False.elim hq
    | cont => exact False.elim hq

theorem pe_call (F : FnOk X.prog X.w X.K X.mg X.base CX k f fd ps sp) (hr : Room k X.A) (hg : Gl X x) (hm : X.mg x = some (.ref f)) (hk : PySem.W.keepIn X.K (.ref f) = true) (hb : Binds X.K fd ps ds) (hd : Vals dvs ds) (hx : Passes CX X E)
    (ha : PA X (e :: es) t) (hdb : (x == ("__debug__" : Str)) = false := by decide) (he : starEach (e :: es) X.env = (false, eval e X.env) :: starEach es X.env := by rfl) (hpl : (backTo pos (starEach es X.env)).any (·.1) = false := by rfl) :
    PE X (.Call (.Name x p) (e :: es) [] pos) (tCall sp dvs E t) := by
  intro pins s σ H Q I h
  refine wpAny_Call_Name_kw (ld_glob I hg hm ?_ hdb)
  refine PySem.W.callWith_K (h₀ := X.base) I.ok.mod.kin hk (thn (ha pos pins s σ H _ I h) fun us s1 ⟨vs, H1, I1, r, q⟩ => ⟨I1.kIn, ?_⟩) he hpl
  exact run_fn F hr hb hd hx I1 r q
/-- o.m(e, ..) -/
theorem pe_meth {pl : Sem Bool} (he : PE X o ta) (c : Cls X.K C) (hm : Meth X.K C m f) (F : FnOk X.prog X.w X.K X.mg X.base CX k f fd ps sp) (hr : Room k X.A) (hb : Binds X.K fd ps ds) (hd : Vals dvs ds) (hx : Passes CX X E) (ha : PA X (e :: es) t)
    (hst : starEach (e :: es) X.env = (false, eval e X.env) :: starEach es X.env := by rfl) (hpl : (backTo pos (starEach es X.env)).any (·.1) = false := by rfl)
    (ht : eval (.Call (.Attribute o m apos) (e :: es) [] pos) X.env = (do
      let ov ← eval o X.env
      standAt apos.atName
      let (f, first) ← holding [ov] (getMethod ov m pl)
      callWith pos f first (backTo pos (starEach (e :: es) X.env)) (backToKw pos (keywordEach [] X.env))) := by rfl) :
    PE X (.Call (.Attribute o m apos) (e :: es) [] pos) (tMeth C m sp dvs E ta t) := by
  intro pins s σ H Q I h
  refine PySem.W.methodCall_KW (pl := pl) (thn (he pins s σ H _ I h) fun u s1 ⟨x, H1, I1, rx, a, dx, fs, ex, ea, l, q⟩ => ?_) ht
  subst ex
  obtain rfl : u = Value.ref a := rx
  refine getmeth_ok I1 ea c hm l ?_
  refine PySem.W.callWith_K (first := [.ref a]) (h₀ := X.base) I.ok.mod.kin hm.kp (thn (ha pos pins s1 σ H1 _ I1 q) fun us s2 ⟨vs, H2, I2, r, q2⟩ => ⟨I2.kIn, ?_⟩) hst hpl
  exact run_fn (us := .ref a :: us) (vs := .ref a :: vs) F hr hb hd hx I2 (.cons rfl r) q2
/-- o.m() -/
theorem pe_meth0 {pl : Sem Bool} (he : PE X o ta) (c : Cls X.K C) (hm : Meth X.K C m f) (F : FnOk X.prog X.w X.K X.mg X.base CX k f fd ps sp) (hr : Room k X.A) (hb : Binds X.K fd ps ds) (hd : Vals dvs ds) (hx : Passes CX X E)
    (ht : eval (.Call (.Attribute o m apos) [] [] pos) X.env = (do
      let ov ← eval o X.env
      standAt apos.atName
      let (f, first) ← holding [ov] (getMethod ov m pl)
      callWith pos f first (backTo pos (starEach [] X.env)) (backToKw pos (keywordEach [] X.env))) := by rfl) :
    PE X (.Call (.Attribute o m apos) [] [] pos) (tMeth C m sp dvs E ta tNil) := by
  intro pins s σ H Q I h
  refine PySem.W.methodCall_KW (pl := pl) (thn (he pins s σ H _ I h) fun u s1 ⟨x, H1, I1, rx, a, dx, fs, ex, ea, l, q⟩ => ?_) ht
  subst ex
  obtain rfl : u = Value.ref a := rx
  refine getmeth_ok I1 ea c hm l ?_
  exact PySem.W.callWith_K0 (first := [.ref a]) I1.kIn hm.kp (run_fn (us := [.ref a]) (vs := [.ref a]) F hr hb hd hx I1 (.cons rfl .nil) q)

/-- what a class must have to be made -/
structure Mk (K : PySem.W.Frag) (C f : Addr) : Prop where
  makes : PySem.W.makesIn K C = true
  init : PySem.W.findIn K (.ref C) "__init__" = some (some (.ref f))
  fn : PySem.W.isFn K (.ref f) = true
  kp : PySem.W.keepIn K (.ref C) = true

theorem run_make {pins : List (Addr × Obj)} {σ : St} {H : Hp} {s : Shared} {Q : VK} {us : List Value} {vs : List V} (M : Mk X.K C f) (F : FnOk X.prog X.w X.K X.mg X.base CX k f fd ps sp) (hr : Room (k + 1) X.A) (hb : Binds X.K fd ps ds) (hd : Vals dvs ds)
    (hx : Passes CX X E) (I : Inv X pins σ H s) (r : Vals vs us)
    (h : ∀ x dx, H x = none → H dx = none → dx ≠ x → sp (.ref x :: (vs ++ dvs)) (upd (upd H dx (.own x)) x (.ins C dx [])) (fun v H2 => v = .non ∧ Q (.ref x) H2) E) :
    wpAny (model X.prog X.w) X.A (call (.ref C) us) (EP X pins σ Q) X.xe s := by
  have hq := h (s.heap.objs.size + 1) s.heap.objs.size (I.hok.fresh (Nat.le_succ _)) (I.hok.fresh (Nat.le_refl _)) (Nat.ne_of_lt (Nat.lt_succ_self _))
  have I2 := Inv.made (C := C) I
  have r2 : Vals (V.ref (s.heap.objs.size + 1) :: (vs ++ dvs)) (Value.ref (s.heap.objs.size + 1) :: (us ++ ds)) := .cons rfl (r.append hd)
  have hl : (Value.ref (s.heap.objs.size + 1) :: us ++ ds).length = ps.length := by
    have e := r2.length
    rw [F.len _ _ _ _ hq] at e
    exact e.symm
  refine wpAny_call (make_map (f := f) I.kIn M.makes M.init (beq_iff_eq.mp M.fn) (codeAny_mono (F.run _ X.stack _ _ ⟨Value.ref (s.heap.objs.size + 1) :: us, []⟩ (Value.ref (s.heap.objs.size + 1) :: (us ++ ds)) _ _ E (hr.make C us [])
    (I2.env0.make C us []) (hb _ (Value.ref (s.heap.objs.size + 1) :: us) I2.kIn hl) r2 hq) fun r s' hq' => ?_))
  cases r with
  | error e => exact hx.2 pins σ _ _ e s' I2 hq'
  | ok fl =>
    cases fl with
    | ret u =>
      obtain ⟨v, H', I3, rv, ev, q3⟩ := I2.after hx.1 hq'
      subst ev
      exact ⟨rv, ⟨V.ref (s.heap.objs.size + 1), H', I3, rfl, q3⟩⟩
    | next => exact False.elim hq'
    | brk => exact False.elim hq'
    | cont => exact False.elim hq'
theorem pe_make (M : Mk X.K C f) (F : FnOk X.prog X.w X.K X.mg X.base CX k f fd ps sp) (hr : Room (k + 1) X.A) (hg : Gl X x) (hm : X.mg x = some (.ref C)) (hb : Binds X.K fd ps ds) (hd : Vals dvs ds) (hx : Passes CX X E)
    (ha : PA X (e :: es) t) (hdb : (x == ("__debug__" : Str)) = false := by decide) (he : starEach (e :: es) X.env = (false, eval e X.env) :: starEach es X.env := by rfl) (hpl : (backTo pos (starEach es X.env)).any (·.1) = false := by rfl) :
    PE X (.Call (.Name x p) (e :: es) [] pos) (tMake C sp dvs E t) := by
  intro pins s σ H Q I h
  refine wpAny_Call_Name_kw (ld_glob I hg hm ?_ hdb)
  refine PySem.W.callWith_K (h₀ := X.base) I.ok.mod.kin M.kp (thn (ha pos pins s σ H _ I h) fun us s1 ⟨vs, H1, I1, r, q⟩ => ⟨I1.kIn, ?_⟩) he hpl
  exact run_make M F hr hb hd hx I1 r q
end

section
variable {X : Cx} {CX : CXT} {k : Nat} {f C : Addr} {fd : FuncData} {ps ks : List Str} {sp : Sp} {E : XK} {x m : Str} {p pos apos kpos : Pos} {e o : Expr} {es : List Expr} {kws : List Keyword} {te ta : TE} {t tk : TA} {nm : Option Str}
/-- how a call with keywords binds: g puts the positional values us and the keywords' values ws (names ks) in the parameters' order, defaults among them -/
structure KBinds (K : PySem.W.Frag) (fd : FuncData) (ps ks : List Str) (g : List Value → List Value → List Value) (gV : List V → List V → List V) : Prop where
  to : ∀ (s : Shared) (us ws : List Value), K.In s.heap → (g us ws).length = ps.length → BindsTo s fd ⟨us, ks.zip ws⟩ (ps.zip (g us ws))
  rel : ∀ {vs : List V} {us : List Value} {zs : List V} {ws : List Value}, Vals vs us → Vals zs ws → Vals (gV vs zs) (g us ws)
variable {g : List Value → List Value → List Value} {gV : List V → List V → List V}
end

/-! ### a def's body keeps its promise -/
/-- names: the parameters first -/
structure FnScope (N P : List Str) (sc : Scope) : Prop where
  kind : sc.kind = .function
  co : sc.isCoroutine = false
  gen : sc.isGenerator = false
  nd : N.Nodup
  pre : N.take P.length = P
  par : ∀ x ∈ P, sc.names.lookup x = some .local ∨ sc.names.lookup x = some .cell
  nofree : ∀ y ∈ sc.names, y.2 ≠ .free

theorem bindL_out {kindOf : Str → Option NameKind} {x : Str} : ∀ {binds : List (Str × Value)} {m : Str → Option Value}, (∀ v, (x, v) ∉ binds) → bindL kindOf binds m x = m x
  | [], _, _ => rfl
  | (n, v) :: r, m, h => by
    unfold bindL
    rw [bindL_out fun w hw => h w (List.mem_cons_of_mem _ hw)]
    split
    · have : x ≠ n := by rintro rfl; exact h v List.mem_cons_self
      simp [this]
    · rfl
theorem bindC_out {kindOf : Str → Option NameKind} {x : Str} : ∀ {binds : List (Str × Value)} {m : Str → Option Value}, (∀ v, (x, v) ∉ binds) → bindC kindOf binds m x = m x
  | [], _, _ => rfl
  | (n, v) :: r, m, h => by
    unfold bindC
    rw [bindC_out fun w hw => h w (List.mem_cons_of_mem _ hw)]
    split
    · rfl
    · have : x ≠ n := by rintro rfl; exact h v List.mem_cons_self
      simp [this]
theorem bindL_get {kindOf : Str → Option NameKind} {x : Str} {v : Value} : ∀ {P : List Str} {vs : List Value} {i : Nat} {m : Str → Option Value}, P.Nodup → P[i]? = some x → vs[i]? = some v → kindOf x = some .local →
    bindL kindOf (P.zip vs) m x = some v
  | [], _, _, _, _, h, _, _ => by simp at h
  | _ :: _, [], _, _, _, _, h, _ => by simp at h
  | p :: P, w :: vs, 0, m, nd, h1, h2, hk => by
    simp at h1 h2; subst h1; subst h2
    show bindL kindOf ((p, w) :: P.zip vs) m p = _
    unfold bindL
    rw [bindL_out fun v hv => (List.nodup_cons.mp nd).1 (List.of_mem_zip hv).1, if_pos hk]
    simp
  | p :: P, w :: vs, i + 1, m, nd, h1, h2, hk => by
    show bindL kindOf ((p, w) :: P.zip vs) m x = _
    unfold bindL
    exact bindL_get (i := i) (List.nodup_cons.mp nd).2 (by simpa using h1) (by simpa using h2) hk
theorem bindC_get {kindOf : Str → Option NameKind} {x : Str} {v : Value} : ∀ {P : List Str} {vs : List Value} {i : Nat} {m : Str → Option Value}, P.Nodup → P[i]? = some x → vs[i]? = some v → kindOf x ≠ some .local →
    bindC kindOf (P.zip vs) m x = some v
  | [], _, _, _, _, h, _, _ => by simp at h
  | _ :: _, [], _, _, _, _, h, _ => by simp at h
  | p :: P, w :: vs, 0, m, nd, h1, h2, hk => by
    simp at h1 h2; subst h1; subst h2
    show bindC kindOf ((p, w) :: P.zip vs) m p = _
    unfold bindC
    rw [bindC_out fun v hv => (List.nodup_cons.mp nd).1 (List.of_mem_zip hv).1, if_neg hk]
    simp
  | p :: P, w :: vs, i + 1, m, nd, h1, h2, hk => by
    show bindC kindOf ((p, w) :: P.zip vs) m x = _
    unfold bindC
    exact bindC_get (i := i) (List.nodup_cons.mp nd).2 (by simpa using h1) (by simpa using h2) hk

/-- the names' values at the entry -/
def start (N : List Str) (vs : List V) : St := vs.map some ++ List.replicate (N.length - vs.length) none

/-- the context of a def's body, at its entry; an exception leaves the frame, then lies as CX says -/
def cxOf (CX : CXT) (P : Program) (w : World) (K : PySem.W.Frag) (mg : Str → Option Value) (base : Heap) (N : List Str) (qual : Str) (scope : Scope) (f : Addr) (cd : Value) (A : Around) (outer : List Env) (s : Shared) (H : Hp) (E : XK) : Cx where
  prog := P
  w := w
  K := K
  mg := mg
  base := base
  A := A.deeper (envOfC qual scope s.heap.objs.size f cd)
  N := N
  s_0 := s
  H_0 := H
  env := envOfC qual scope s.heap.objs.size f cd
  outer := outer
  stack := envOfC qual scope s.heap.objs.size f cd :: outer
  ex := []
  calm := true
  fn := fun _ => true
  pn := []
  xe := fun e s' => wpAny (model P w) (A.deeper (envOfC qual scope s.heap.objs.size f cd)) (leaving (envOfC qual scope s.heap.objs.size f cd) e) (fun _ s'' => CX outer H s E e s'') (fun e' s'' => CX outer H s E e' s'') s'

theorem cell_has {sc : Scope} {n : Nat} {x : Str} (h : sc.names.lookup x = some .cell) : ∃ c, (cellsFrom n sc.names []).lookup x = some c := by
  have q := PySem.W.cellsFrom_some sc.names n [] (.inl h)
  exact Option.isSome_iff_exists.mp q

theorem inv_start {CX : CXT} {P : Program} {w : World} {K : PySem.W.Frag} {mg : Str → Option Value} {base : Heap} {N ps : List Str} {qual : Str} {scope : Scope} {f : Addr} {cd : Value} {A : Around} {outer : List Env} {s s1 : Shared} {H : Hp} {E : XK} {us : List Value} {vs : List V}
    (S : FnScope N ps scope) (hd : A.handled = none) (e0 : Env0 P w K mg base A outer s H) (hl : vs.length = ps.length) (r : Vals vs us)
    (x : InCallC s s.heap.objs.size (bindL (envOfC qual scope s.heap.objs.size f cd).kindOf (ps.zip us) fun _ => none) (cellsFrom (s.heap.objs.size + 1) scope.names []) (bindC (envOfC qual scope s.heap.objs.size f cd).kindOf (ps.zip us) fun _ => none) s1) :
    Inv (cxOf CX P w K mg base N qual scope f cd A outer s H E) [] (start N vs) H s1 := by
  have hpl : ps.length ≤ N.length := by have := congrArg List.length S.pre; rw [List.length_take] at this; omega
  obtain ⟨h1, tk, rfl, hk⟩ := x.done
  have noA : ∀ b : Addr, b ∉ (cxOf CX P w K mg base N qual scope f cd A outer s H E).ex := fun b z => absurd (show b ∈ ([] : List Addr) from z) (by simp)
  refine ⟨⟨e0.mod, S.kind, rfl, rfl, Nat.le_refl _, fun y z c h1 h2 => ?_, fun y hy => ?_, fun y c _ h => ?_, fun _ => hd, trivial, .inr ⟨rfl, rfl⟩, fun b z => absurd z (noA b), e0.bs, e0.bsz, fun b _ _ => noA b, fun b z => absurd z (noA b), e0.funs, e0.frf⟩,
    rfl, ⟨id, fun _ => ⟨rfl, rfl⟩⟩, Un.kept hk, ⟨_, x.toInCall.ns, fun i y v h1 h2 h3 => ?_⟩, fun y c h => ⟨_, x.cell y c h⟩, e0.hok.fresh (Nat.le_refl _), fun y c h => ?_, fun p hp => absurd (show p ∈ ([] : List (Addr × Obj)) from hp) (by simp), e0.hok.kept hk, ?_⟩
  · exact name_of_addr x.apart (PySem.mem_of_lookup h1) (PySem.mem_of_lookup h2)
  · have hy : scope.names.lookup y = some .cell ∨ scope.names.lookup y = some .free := hy
    rcases hy with hy | hy
    · exact cell_has hy
    · exact absurd rfl (S.nofree _ (PySem.mem_of_lookup hy))
  · exact Nat.le_of_lt (x.above y c (PySem.mem_of_lookup h))
  · have hi : i < vs.length := by
      unfold start at h2
      by_cases hi : i < vs.length
      · exact hi
      · rw [List.getElem?_append_right (by simpa using hi)] at h2
        rw [List.getElem?_replicate] at h2
        split at h2 <;> cases h2
    have ha : vs[i]? = some v := by
      unfold start at h2
      rw [List.getElem?_append_left (by simpa using hi), List.getElem?_map] at h2
      cases e : vs[i]? with
      | none => rw [e] at h2; cases h2
      | some a => rw [e] at h2; cases h2; rfl
    obtain ⟨u, hu, rv⟩ := r.get ha
    have hp : ps[i]? = some y := by
      rw [← S.pre, List.getElem?_take_of_lt (by omega)]; exact h1
    have ndP : ps.Nodup := by rw [← S.pre]; exact S.nd.sublist (List.take_sublist _ _)
    refine ⟨u, rv, ?_⟩
    rcases S.par y (List.mem_of_getElem? hp) with k | k
    · exact .inl ⟨k, bindL_get ndP hp hu k⟩
    · obtain ⟨c, e⟩ := cell_has (n := s.heap.objs.size + 1) k
      refine .inr ⟨.inl k, c, e, ?_⟩
      have q := x.cell y c e
      rw [bindC_get ndP hp hu (by show scope.names.lookup y ≠ _; rw [k]; decide)] at q
      exact q
  · exact e0.hok.fresh (Nat.le_of_lt (x.above y c (PySem.mem_of_lookup h)))
  · unfold start
    show _ = N.length
    rw [List.length_append, List.length_map, List.length_replicate]
    omega

/-- THE RULE: a def (or a method) of the text, by its body. The body's reading t is chosen for each entry; it is run at the parameters' values -/
theorem fn_of {CX : CXT} {P : Program} {w : World} {K : PySem.W.Frag} {mg : Str → Option Value} {base : Heap} {k : Nat} {f : Addr} {name qual : Str} {params : Arguments} {body : List Stmt} {scope : Scope} {dV kV doc pm cdv ct oc : Value} {an od : Option Addr}
    {osl : Array (Option Value)} {N ps : List Str} {sp : Sp} (lk : K.lookup f = some ⟨oc, od, .func (PySem.W.fnOf name qual params body scope dV kV doc pm an cdv ct), osl⟩) (hcd : PySem.W.codeIn K cdv qual = true) (S : FnScope N ps scope)
    (len : ∀ vs H Q E, sp vs H Q E → vs.length = ps.length)
    (hbody : ∀ (A : Around) (outer : List Env) (s : Shared) (H : Hp) (vs : List V) (Q : VK) (E : XK), Room k (A.deeper (envOfC qual scope s.heap.objs.size f cdv)) → sp vs H Q E →
      ∃ t, PSs (cxOf CX P w K mg base N qual scope f cdv A outer s H E) body t ∧ t { nx := fun _ H' => Q .non H', rt := Q } (start N vs) H) :
    FnOk P w K mg base CX (k + 1) f (PySem.W.fnOf name qual params body scope dV kV doc pm an cdv ct) ps sp := by
  refine ⟨len, fun A outer s H args us vs Q E hr e0 hb r hsp => ?_⟩
  have hl := len _ _ _ _ hsp
  have KX : K.In s.heap := e0.mod.kin.keeps fun b o e => (e0.bs b o e).1
  have lim : s.heap.NoLimit := e0.mod.nolimit.keeps fun b o e => (e0.bs b o e).1
  have hkind : ∀ y ∈ ps.zip us, scope.names.lookup y.1 = some .local ∨ (scope.names.lookup y.1 = some .cell ∧ ((cellsFrom (s.heap.objs.size + 1) scope.names []).lookup y.1).isSome = true) := fun ⟨n, v⟩ hy => by
    rcases S.par n (List.of_mem_zip hy).1 with q | q
    · exact .inl q
    · exact .inr ⟨q, PySem.W.cellsFrom_some _ _ _ (.inl q)⟩
  refine codeAny_call_function hr.depth (KX _ _ lk) rfl S.co S.gen rfl (PySem.W.codeRec_of KX hcd) (hb _ _ _ _ ?_)
  refine wpAny_newFunctionEnv_cells S.kind hkind fun env he s1 x => ?_
  subst he
  refine ⟨lim.keeps x.toInCall.keep, codeAny_func ?_⟩
  obtain ⟨t, ht, hq⟩ := hbody A outer s H vs Q E (hr.deeper _) hsp
  have I : Inv (cxOf CX P w K mg base N qual scope f cdv A outer s H E) [] (start N vs) H s1 := inv_start S hr.hd e0 hl r x
  refine wpAny_mono (ht [] s1 (start N vs) H _ I hq) (fun fl s' hs => ?_) fun e s' hs => hs
  have fin : ∀ {σ' : St} {H' : Hp} {v : V} {u : Value}, Inv (cxOf CX P w K mg base N qual scope f cdv A outer s H E) [] σ' H' s' → RelV v u → Q v H' → CE outer P w H s Q u s' :=
    fun {σ' H' v u} J rv q => ⟨v, H', J.os, J.bare.1, J.base, J.hok, rv, q⟩
  cases fl with
  | ret u =>
    obtain ⟨v, σ', H', J, rv, q⟩ := hs
    exact fin J rv q
  | next =>
    obtain ⟨σ', H', J, q⟩ := hs
    exact fin (v := V.non) (u := Value.none) J rfl q
  | brk =>
    obtain ⟨_, _, _, q⟩ := hs
    exact False.elim q
  | cont =>
    obtain ⟨_, _, _, q⟩ := hs
    exact False.elim q
end L2

namespace L2
open PySem PySem.Spec PyProof.Rows
section
variable {X : Cx} {x : Str} {p pos : Pos} {e : Expr} {es : List Expr} {t : TA} {id T : String} {r : List V → Hp → VK → Prop}

def tCB (r : List V → Hp → VK → Prop) (t : TA) : TE := fun σ H Q => t σ H fun vs H1 => r vs H1 Q
/-- f(e, ..), f a built-in function -/
theorem pe_callB (hc : CallR X (.builtin id) r) (hg : Gl X x) (hm : X.mg x = none) (hv : bootBuiltins x = some (.builtin id)) (ha : PA X (e :: es) t) (hn : x ≠ "__name__" := by decide) (hdb : (x == ("__debug__" : Str)) = false := by decide)
    (he : starEach (e :: es) X.env = (false, eval e X.env) :: starEach es X.env := by rfl) (hpl : (backTo pos (starEach es X.env)).any (·.1) = false := by rfl) : PE X (.Call (.Name x p) (e :: es) [] pos) (tCB r t) := by
  intro pins s σ H Q I h
  refine wpAny_Call_Name_kw (ld_blt I hg hm hv ?_ hn hdb)
  exact PyProof.Rows.callWith_builtin1 (thn (ha pos pins s σ H _ I h) fun us s1 ⟨vs, H1, I1, r1, q1⟩ => hc pins s1 σ H1 vs us Q I1 r1 q1) he hpl
/-- T(e, ..), T a built-in type -/
theorem pe_callTy (hc : CallR X (.type T) r) (hg : Gl X x) (hm : X.mg x = none) (hv : bootBuiltins x = some (.type T)) (ha : PA X (e :: es) t) (hn : x ≠ "__name__" := by decide) (hdb : (x == ("__debug__" : Str)) = false := by decide)
    (he : starEach (e :: es) X.env = (false, eval e X.env) :: starEach es X.env := by rfl) (hpl : (backTo pos (starEach es X.env)).any (·.1) = false := by rfl) : PE X (.Call (.Name x p) (e :: es) [] pos) (tCB r t) := by
  intro pins s σ H Q I h
  refine wpAny_Call_Name_kw (ld_blt I hg hm hv ?_ hn hdb)
  exact PyProof.Rows.callWith_type1 (thn (ha pos pins s σ H _ I h) fun us s1 ⟨vs, H1, I1, r1, q1⟩ => hc pins s1 σ H1 vs us Q I1 r1 q1) he hpl
end
end L2

namespace HT
open PySem PyProof.Rows

/-- t < u of tuples of ints -/
def lexLt : List Int → List Int → Bool
  | [], [] => false
  | [], _ :: _ => true
  | _ :: _, [] => false
  | x :: xs, y :: ys => if x = y then lexLt xs ys else decide (x < y)
theorem lexLt_cons (x y : Int) (xs ys : List Int) : lexLt (x :: xs) (y :: ys) = if x = y then lexLt xs ys else decide (x < y) := rfl
section
open PySem.SeqAt
open PySem.AutoSeq1 (wpAny_loadPart')
open PySem.MeetsSeq PySem.MeetsSeq2 PySem.MeetsSeq3

end

section
variable {prog : Program} {w : World} {A : Around} {E : Value → Shared → Prop} {s : Shared}

/-! ### t[a:b], not the whole -/
/-- a slice's bound as a place among n (d where it is left out) -/
def sIx (n d : Nat) : Option Int → Nat
  | none => d
  | some v => if v < 0 then (v + (n : Int)).toNat else min v.toNat n
theorem sIx_none (n d : Nat) : sIx n d none = d := rfl
theorem sIx_nat (n d k : Nat) : sIx n d (some (k : Int)) = min k n := by
  show (if (k : Int) < 0 then ((k : Int) + (n : Int)).toNat else min (k : Int).toNat n) = min k n
  rw [if_neg (by omega), Int.toNat_natCast]
end
end HT

namespace L2
open PySem PySem.Spec PyProof.Rows

/-! ### the parts of a slice -/
abbrev TO := St → Hp → (Option Int → Hp → Prop) → Prop
/-- a slice's part (left out, or an int) -/
def PO (X : Cx) (e : Option Expr) (t : TO) : Prop :=
  ∀ (pins : List (Addr × Obj)) (s : Shared) (σ : St) (H : Hp) (Q : Option Int → Hp → Prop), Inv X pins σ H s → t σ H Q →
    wpAny (model X.prog X.w) X.A (evalPart e X.env) (fun u s' => ∃ o H', Inv X pins σ H' s' ∧ IsPart u o ∧ Q o H') X.xe s
def tNoPart : TO := fun _ H Q => Q none H
def tPart (t : TE) : TO := fun σ H Q => t σ H fun x H1 => ∃ i, x = .int i ∧ Q (some i) H1

section
variable {X : Cx} {e : Expr} {te : TE} {lo hi : Option Expr} {tl th : TO} {pos p2 : Pos}

theorem po_none : PO X none tNoPart := by
  intro pins s σ H Q I h
  rw [evalPart_none]
  exact wpAny_pure ⟨none, H, I, .none, h⟩
theorem po_some (h : PE X e te) : PO X (some e) (tPart te) := by
  intro pins s σ H Q I hw
  rw [evalPart_some]
  refine thn (h pins s σ H _ I hw) fun u s1 ⟨x, H1, I1, r1, q1⟩ => ?_
  obtain ⟨i, rfl, q⟩ := q1
  obtain ⟨t, rfl⟩ := r1
  exact ⟨some i, H1, I1, .int i t, q⟩

/-- what a slice of a value is, by values: the slice object stands at sl -/
def SlR (X : Cx) (r : V → Option Int → Option Int → Hp → VK → Prop) : Prop :=
  ∀ (pins : List (Addr × Obj)) (s : Shared) (σ : St) (H : Hp) (x : V) (v vl vu : Value) (lo hi : Option Int) (sl : Addr) (Q : VK), Inv X pins σ H s → RelV x v → s.heap.IsSliceOf sl vl vu .none → IsPart vl lo → IsPart vu hi → r x lo hi H Q →
    ∃ T id, typeLookup (.type T) "__getitem__" = pure (some (.builtin id)) ∧ s.TypeIs v T ∧ wpAny (model X.prog X.w) X.A (getItem v (.ref sl)) (EP X pins σ Q) X.xe s
theorem SlR.or {r r' : V → Option Int → Option Int → Hp → VK → Prop} (h : SlR X r) (h' : SlR X r') : SlR X (fun x lo hi H Q => r x lo hi H Q ∨ r' x lo hi H Q) := by
  intro pins s σ H x v vl vu lo hi sl Q I rx hs pl pu q
  rcases q with q | q
  · exact h pins s σ H x v vl vu lo hi sl Q I rx hs pl pu q
  · exact h' pins s σ H x v vl vu lo hi sl Q I rx hs pl pu q
def tSl (r : V → Option Int → Option Int → Hp → VK → Prop) (te : TE) (tl th : TO) : TE := fun σ H Q => te σ H fun x H1 => tl σ H1 fun l H2 => th σ H2 fun u H3 => r x l u H3 Q
/-- a[lo:hi], any a -/
theorem pe_slice {r : V → Option Int → Option Int → Hp → VK → Prop} (hr : SlR X r) (he : PE X e te) (hl : PO X lo tl) (hu : PO X hi th) : PE X (.Subscript e (.Slice lo hi none p2) pos) (tSl r te tl th) := by
  intro pins s σ H Q I h
  refine Subscript_ (thn (he pins s σ H _ I h) fun v s1 ⟨x, H1, I1, r1, q1⟩ => ?_)
  refine wpAny_Slice (thn (hl pins s1 σ H1 _ I1 q1) fun vl s2 ⟨l, H2, I2, pl, q2⟩ => thn (hu pins s2 σ H2 _ I2 q2) fun vu s3 ⟨u, H3, I3, pu, q3⟩ => ?_)
  rw [evalPart_none]
  refine wpAny_pure ?_
  have I4 : Inv X pins σ H3 { s3 with heap := s3.heap.push { cls := .type "slice", data := .fields #[vl, vu, .none] } } := I3.kept (t' := s3.toks) fun b ob q => Heap.get?_push_of_some _ q
  obtain ⟨T, id, hT, ht, hg⟩ := hr pins { s3 with heap := s3.heap.push { cls := .type "slice", data := .fields #[vl, vu, .none] } } σ H3 x v vl vu l u s3.heap.objs.size Q I4 r1 (Heap.IsSliceOf.new ..) pl pu q3
  show wpAny (model X.prog X.w) X.A (subscriptTail e (.Slice lo hi none p2) v (.ref s3.heap.objs.size)) (EP X pins σ Q) X.xe { s3 with heap := s3.heap.push { cls := .type "slice", data := .fields #[vl, vu, .none] } }
  exact tail_any (ops := [.ref s3.heap.objs.size, v]) ht hT hg (by with_unfolding_all rfl)

/-- the items of xs[lo:hi] -/
def cutV (xs : List V) (lo hi : Option Int) : List V := (xs.drop (HT.sIx xs.length 0 lo)).take (HT.sIx xs.length xs.length hi - HT.sIx xs.length 0 lo)
theorem cutV_length (xs : List V) (lo hi : Option Int) : (cutV xs lo hi).length ≤ xs.length := by
  unfold cutV
  rw [List.length_take, List.length_drop]
  omega
end
end L2

namespace L2
open PySem PySem.Spec PyProof.Rows

/-! ### places -/
/-- the place that an index of any sign means -/
def ixN (n : Nat) (i : Int) : Option Nat := if 0 ≤ i then (if i < n then some i.toNat else none) else if -(n : Int) ≤ i then some (i + n).toNat else none
def atI {α : Type} (xs : List α) (i : Int) : Option α := (ixN xs.length i).bind fun j => xs[j]?
theorem ixN_seq {n : Nat} {i : Int} {j : Nat} (h : ixN n i = some j) : seqIndex? i n = some j ∧ j < n ∧ -(n : Int) ≤ i ∧ i < n := by
  unfold ixN at h
  by_cases h0 : 0 ≤ i
  · rw [if_pos h0] at h
    by_cases h1 : i < n
    · rw [if_pos h1] at h
      have e : i.toNat = j := Option.some.inj h
      exact ⟨by rw [seqIndex_of h0 h1, e], by omega, by omega, h1⟩
    · rw [if_neg h1] at h; cases h
  · rw [if_neg h0] at h
    by_cases h1 : -(n : Int) ≤ i
    · rw [if_pos h1] at h
      have e : (i + n).toNat = j := Option.some.inj h
      exact ⟨by rw [seqIndex_neg (by omega) h1, e], by omega, h1, by omega⟩
    · rw [if_neg h1] at h; cases h
theorem atI_get {α : Type} {xs : List α} {i : Int} {v : α} (h : atI xs i = some v) : ∃ j, seqIndex? i xs.length = some j ∧ xs[j]? = some v ∧ j < xs.length ∧ -(xs.length : Int) ≤ i ∧ i < xs.length := by
  unfold atI at h
  cases e : ixN xs.length i with
  | none => rw [e] at h; cases h
  | some j =>
    rw [e] at h
    obtain ⟨h1, h2, h3, h4⟩ := ixN_seq e
    exact ⟨j, h1, h, h2, h3, h4⟩
theorem atI_nat {α : Type} {xs : List α} {j : Nat} {v : α} (h : xs[j]? = some v) : atI xs (j : Int) = some v := by
  have hj : j < xs.length := (List.getElem?_eq_some_iff.mp h).1
  have e : ixN xs.length (j : Int) = some j := by
    unfold ixN
    rw [if_pos (by omega), if_pos (by omega)]; simp
  unfold atI; rw [e]; exact h
/-! ### what may be subscripted -/
/-- what stands as an index of a plain subscript -/
def PlainIx (b : Expr) : Prop := ∀ o i, subscripted b false o i = operate [o, i] (getItem o i)
/-- a subscript by values -/
def IxR (X : Cx) (r : R2) : Prop :=
  ∀ (value slice : Expr) (pins : List (Addr × Obj)) (s : Shared) (σ : St) (H : Hp) (x y : V) (v u : Value) (Q : VK), Inv X pins σ H s → RelV x v → RelV y u → r x y H Q →
    subscripted slice false v u = operate [v, u] (getItem v u) → wpAny (model X.prog X.w) X.A (subscriptTail value slice v u) (EP X pins σ Q) X.xe s
/-- a call of a builtin's method by values: the receiver, the arguments -/
def MtR (X : Cx) (id : String) (r : V → List V → Hp → VK → Prop) : Prop :=
  ∀ (pins : List (Addr × Obj)) (s : Shared) (σ : St) (H : Hp) (x : V) (xs : List V) (v : Value) (us : List Value) (Q : VK), Inv X pins σ H s → RelV x v → Vals xs us → r x xs H Q →
    wpAny (model X.prog X.w) X.A (call (.builtin id) (v :: us)) (EP X pins σ Q) X.xe s
section
variable {X : Cx} {a b : Expr} {ta tb : TE} {pos : Pos}
theorem IxR.or {r r' : R2} (h : IxR X r) (h' : IxR X r') : IxR X (fun x y H Q => r x y H Q ∨ r' x y H Q) := by
  intro value slice pins s σ H x y v u Q I rx ry q hs
  rcases q with q | q
  · exact h value slice pins s σ H x y v u Q I rx ry q hs
  · exact h' value slice pins s σ H x y v u Q I rx ry q hs
theorem MtR.or {id : String} {r r' : V → List V → Hp → VK → Prop} (h : MtR X id r) (h' : MtR X id r') : MtR X id (fun x xs H Q => r x xs H Q ∨ r' x xs H Q) := by
  intro pins s σ H x xs v us Q I rx rs q
  rcases q with q | q
  · exact h pins s σ H x xs v us Q I rx rs q
  · exact h' pins s σ H x xs v us Q I rx rs q
/-- a[b] -/
theorem pe_ix {r : R2} (hr : IxR X r) (ha : PE X a ta) (hb : PE X b tb) (hs : PlainIx b) : PE X (.Subscript a b pos) (tOp r ta tb) := by
  intro pins s σ H Q I h
  exact Subscript_ (binT ha hb I h fun v u s2 x y H2 I2 rx ry q => hr a b pins s2 σ H2 x y v u Q I2 rx ry q (hs _ _))

def rIxL (K : PySem.W.Frag) : R2 := fun x y H Q => ∃ p xs i v, x = .ref p ∧ y = .int i ∧ SqL K H p xs ∧ atI xs i = some v ∧ Q v H
def rIxT (K : PySem.W.Frag) : R2 := fun x y H Q => ∃ p xs i v, x = .ref p ∧ y = .int i ∧ SqT K H p xs ∧ atI xs i = some v ∧ Q v H
theorem ix_list : IxR X (rIxL X.K) := by
  intro value slice pins s σ H x y v u Q I rx ry h hs
  obtain ⟨p, xs, i, z, rfl, rfl, hq, he, q⟩ := h
  cases rx
  obtain ⟨t, rfl⟩ := ry
  obtain ⟨its, r, pl, hz⟩ := I.list hq
  obtain ⟨j, h1, h2, h3, h4, h5⟩ := atI_get he
  obtain ⟨w, ew, rw'⟩ := r.get h2
  have hl := r.length
  have hn := line63
  have fin : EP X pins σ Q w s := ⟨z, H, I, rw', q⟩
  by_cases h0 : 0 ≤ i
  · have hj : i.toNat = j := by
      rw [seqIndex_of h0 h5] at h1
      exact Option.some.inj h1
    exact item_listR pl.isList h0 (by omega) (by rw [hj]; simpa using ew) fin hs
  · have hj : (i + (its.toArray.size : Int)).toNat = j := by
      rw [seqIndex_neg (by omega) h4] at h1
      rw [List.size_toArray, ← hl]
      exact Option.some.inj h1
    exact subscriptTail_builtinR (x := w) pl.isList.typeIs slot_list_getitem.lookup
      (wpAny_getItem_list_neg (Q := fun r s' => r = w ∧ EP X pins σ Q r s') pl.isList (by omega) (by rw [List.size_toArray] <;> omega) (by omega) (by rw [hj]; simpa using ew) ⟨rfl, fin⟩) hs
theorem ix_tup : IxR X (rIxT X.K) := by
  intro value slice pins s σ H x y v u Q I rx ry h hs
  obtain ⟨p, xs, i, z, rfl, rfl, hq, he, q⟩ := h
  cases rx
  obtain ⟨t, rfl⟩ := ry
  obtain ⟨its, r, pl, hz⟩ := I.tuple hq
  obtain ⟨j, h1, h2, h3, h4, h5⟩ := atI_get he
  obtain ⟨w, ew, rw'⟩ := r.get h2
  have hl := r.length
  have hn := line63
  have fin : EP X pins σ Q w s := ⟨z, H, I, rw', q⟩
  exact subscriptTail_builtinR (x := w) pl.typeIs slot_tuple_getitem.lookup
    (getItem_tuple (j := j) (Q := fun r s' => r = w ∧ EP X pins σ Q r s') pl (by omega) (by omega) (by rw [List.size_toArray, ← hl]; exact h1) (by simpa using ew) ⟨rfl, fin⟩) hs
/-! ### xs[i] = v, any sign -/
/-- the list's object behind a store -/
theorem mapSeq_set (its : List Value) (n j : Nat) (u : Value) : Obj.mapSeq (·.setIfInBounds j u) { cls := .type "list", data := .seq its.toArray n } = { cls := .type "list", data := .seq (its.set j u).toArray n } := by
  simp [Obj.mapSeq]
theorem Inv.lst {pins : List (Addr × Obj)} {σ : St} {H : Hp} {s : Shared} {p : Addr} {xs : List V} (I : Inv X pins σ H s) (h : H p = some (.lst xs)) :
    ∃ (its : List Value) (n : Nat), Vals xs its ∧ s.heap.get? p = some { cls := .type "list", data := .seq its.toArray n } ∧ xs.length ≤ sizeLine := by
  obtain ⟨z, its, n, r, e⟩ := I.hok p _ h
  exact ⟨its, n, r, e, z⟩
/-- the list at p is written by an update of its object -/
theorem Inv.lstUpd {pins : List (Addr × Obj)} {σ : St} {H : Hp} {s : Shared} {p : Addr} {xs ys : List V} {its its' : List Value} {n n' : Nat} {f : Obj → Obj} (I : Inv X pins σ H s) (h : H p = some (.lst xs))
    (ho : s.heap.get? p = some { cls := .type "list", data := .seq its.toArray n }) (hf : f { cls := .type "list", data := .seq its.toArray n } = { cls := .type "list", data := .seq its'.toArray n' }) (r : Vals ys its') (hz : ys.length ≤ sizeLine) (t : Nat) :
    Inv X pins σ (upd H p (.lst ys)) { s with heap := s.heap.update p f, toks := t } := by
  have e : (s.heap.update p f).get? p = some { cls := .type "list", data := .seq its'.toArray n' } := by
    rw [Heap.get?_update_self f ho (by rw [hf] <;> rfl), hf]
  refine I.write (x := p) (e := p) (by rw [h]; trivial) (.inl rfl) (fun b u hb q => (Heap.get?_update_other _ _ (Ne.symm hb)).trans q) ⟨_, e⟩ ?_
  exact ⟨hz, its', n', r, e⟩
def rSetL : V → V → V → Hp → (Hp → Prop) → Prop := fun o i v H Q => ∃ p xs k j, o = .ref p ∧ i = .int k ∧ H p = some (.lst xs) ∧ ixN xs.length k = some j ∧ Q (upd H p (.lst (xs.set j v)))
theorem set_list : PSet X rSetL := by
  intro pins s σ H o i v ov iv u Q I ro ri rv h
  obtain ⟨p, xs, k, j, rfl, rfl, hp, hj, q⟩ := h
  cases ro
  obtain ⟨t, rfl⟩ := ri
  obtain ⟨its, n, r, ho, hz⟩ := I.lst hp
  obtain ⟨h1, h2, h3, h4⟩ := ixN_seq hj
  have hl := r.length
  have hn := line63
  have I' : Inv X pins σ (upd H p (.lst (xs.set j v))) { s with heap := s.heap.update p (Obj.mapSeq (·.setIfInBounds j u)) } :=
    I.lstUpd hp ho (mapSeq_set its n j u) (r.set rv j) (by rw [List.length_set]; exact hz) s.toks
  by_cases h0 : 0 ≤ k
  · have hk : k.toNat = j := by
      rw [seqIndex_of h0 h4] at h1
      exact Option.some.inj h1
    exact PySem.W.ki_setAt ho h0 (by omega) (by rw [List.size_toArray, ← hl]; exact h4) (by rw [hk]; exact ⟨_, I', q⟩)
  · have hk : (k + (its.toArray.size : Int)).toNat = j := by
      rw [seqIndex_neg (by omega) h3] at h1
      rw [List.size_toArray, ← hl]
      exact Option.some.inj h1
    exact PySem.W.ki_setBack ho (by omega) (by rw [List.size_toArray, ← hl]; exact h3) (by omega) (by rw [hk]; exact ⟨_, I', q⟩)

/-! ### slices -/
theorem slice_bounds (lo hi : Option Int) (n : Nat) : (sliceBounds lo hi none n).1 = ((HT.sIx n 0 lo : Nat) : Int) ∧ (sliceBounds lo hi none n).2.1 = ((HT.sIx n n hi : Nat) : Int) ∧ (sliceBounds lo hi none n).2.2 = 1 := by
  refine ⟨?_, ?_, rfl⟩
  · cases lo with
    | none => simp [sliceBounds, HT.sIx]
    | some i =>
      simp only [sliceBounds, HT.sIx, Option.getD_none, show (1 : Int) > 0 by decide, if_true]
      by_cases h : i < 0
      · simp only [h, if_true] <;> omega
      · simp only [h, if_false] <;> omega
  · cases hi with
    | none => simp [sliceBounds, HT.sIx]
    | some i =>
      simp only [sliceBounds, HT.sIx, Option.getD_none, show (1 : Int) > 0 by decide, if_true]
      by_cases h : i < 0
      · simp only [h, if_true] <;> omega
      · simp only [h, if_false] <;> omega
theorem slicePick_cut (its : List Value) (lo hi : Option Int) : slicePick its.toArray lo hi none = ((its.drop (HT.sIx its.length 0 lo)).take (HT.sIx its.length its.length hi - HT.sIx its.length 0 lo)).toArray := by
  obtain ⟨h1, h2, h3⟩ := slice_bounds lo hi its.toArray.size
  unfold slicePick
  rw [h1, h2, h3]
  simp only [sliceRange_one, pick_run, List.size_toArray] <;> rfl
/-- xs[lo:hi] of a list: a new list -/
def rSlL (K : PySem.W.Frag) : V → Option Int → Option Int → Hp → VK → Prop := fun x lo hi H Q => ∃ a xs, x = .ref a ∧ SqL K H a xs ∧ ∀ p, H p = none → Q (.ref p) (upd H p (.lst (cutV xs lo hi)))
theorem sl_list : SlR X (rSlL X.K) := by
  intro pins s σ H x v vl vu lo hi sl Q I rx hs pl pu h
  obtain ⟨a, xs, rfl, hx, q⟩ := h
  cases rx
  obtain ⟨its, r, ht, hz⟩ := I.list hx
  have hlen := r.length
  refine ⟨"list", _, slot_list_getitem.lookup, ht.isList.typeIs, ?_⟩
  refine wpAny_getItem_list_slice ht.isList hs pl pu .none (by simp) ?_ (by rw [List.size_toArray] <;> omega)
  rw [slicePick_cut, ← hlen]
  refine ⟨.ref s.heap.objs.size, _, I.laid (t' := s.toks) (o := .lst (cutV xs lo hi)) (fun b ob q => Heap.get?_push_of_some _ q) (Nat.le_refl _) ?_, rfl, q _ (I.hok.fresh (Nat.le_refl _))⟩
  exact ⟨Nat.le_trans (cutV_length xs lo hi) hz, _, 0, (r.drop (HT.sIx xs.length 0 lo)).take (HT.sIx xs.length xs.length hi - HT.sIx xs.length 0 lo), Heap.get?_push_size _ rfl⟩

/-! ### len, list(x), tuple(x) of any list or tuple that is read -/
theorem call_len_seq : CallR X (.builtin "len") (fun xs H Q => ∃ p ys, xs = [.ref p] ∧ (SqL X.K H p ys ∨ SqT X.K H p ys) ∧ Q (.int ys.length) H) := by
  intro pins s σ H xs us Q I r h
  obtain ⟨p, ys, rfl, hq, q⟩ := h
  obtain ⟨u, rfl, rx⟩ := vals1 r
  cases rx
  have hn := line63
  rcases hq with hq | hq
  · obtain ⟨its, r', pl, hz⟩ := I.list hq
    have hlen := r'.length
    exact Calls.call_len_list pl.isList (by simp only [List.size_toArray] <;> omega) ⟨.int ys.length, H, I.tok _, ⟨s.toks + 1, by rw [List.size_toArray, hlen]⟩, q⟩
  · obtain ⟨its, r', pl, hz⟩ := I.tuple hq
    have hlen := r'.length
    exact len_tuple pl (by simp only [List.size_toArray] <;> omega) ⟨.int ys.length, H, I.tok _, ⟨s.toks + 1, by rw [List.size_toArray, hlen]⟩, q⟩
theorem CallR.or {f : Value} {r r' : List V → Hp → VK → Prop} (h : CallR X f r) (h' : CallR X f r') : CallR X f (fun xs H Q => r xs H Q ∨ r' xs H Q) := by
  intro pins s σ H xs us Q I rs q
  rcases q with q | q
  · exact h pins s σ H xs us Q I rs q
  · exact h' pins s σ H xs us Q I rs q
theorem call_list_of : CallR X (.type "list") (fun xs H Q => ∃ p ys, xs = [.ref p] ∧ (SqL X.K H p ys ∨ SqT X.K H p ys) ∧ ∀ l, H l = none → Q (.ref l) (upd H l (.lst ys))) := by
  intro pins s σ H xs us Q I r h
  obtain ⟨p, ys, rfl, hq, q⟩ := h
  obtain ⟨u, rfl, rx⟩ := vals1 r
  cases rx
  have fin : ∀ (its : List Value), Vals ys its → ys.length ≤ sizeLine → ∀ (h' : Heap) (c' : Nat), (∀ b o', s.heap.get? b = some o' → h'.get? b = some o') →
      h'.get? s.heap.objs.size = some { cls := .type "list", dict := none, data := .seq its.toArray c', slots := #[] } → EP X pins σ Q (.ref s.heap.objs.size) { s with heap := h' } := fun its r' hz h' c' kp e =>
    ⟨.ref s.heap.objs.size, _, I.laid (t' := s.toks) kp (Nat.le_refl _) (show ObjOk X.prog X.w _ h' _ (.lst ys) from ⟨hz, its, c', r', e⟩), rfl, q _ (I.hok.fresh (Nat.le_refl _))⟩
  rcases hq with hq | hq
  · obtain ⟨its, r', pl, hz⟩ := I.list hq
    have hlen := r'.length
    obtain ⟨o, ho, hc, n, hd⟩ := pl.isList
    exact call_list_seq p (.inl rfl) ho hc hd (fun h' c' kp e => fin its r' hz h' c' kp e) (by simp only [List.size_toArray] <;> omega)
  · obtain ⟨its, r', pl, hz⟩ := I.tuple hq
    have hlen := r'.length
    obtain ⟨o, ho, hc, n, hd⟩ := pl
    exact call_list_seq p (.inr rfl) ho hc hd (fun h' c' kp e => fin its r' hz h' c' kp e) (by simp only [List.size_toArray] <;> omega)
/-! ### the call of a builtin's method: o.m(..) -/
/-- the value is of that builtin type -/
def tyV (K : PySem.W.Frag) (T : String) (x : V) (H : Hp) : Prop := match x with
  | .str _ => T = "str"
  | .int _ => T = "int"
  | .ref p => (T = "list" ∧ ∃ xs, SqL K H p xs) ∨ (T = "tuple" ∧ ∃ o, K.lookup p = some o ∧ o.cls = .type "tuple" ∧ o.dict = none) ∨
      (T = "dict" ∧ ((∃ kvs, H p = some (.dK kvs)) ∨ ∃ kvs, H p = some (.dT kvs))) ∨ (T = "set" ∧ ∃ S n, H p = some (.set S n))
  | _ => False
theorem tyV_is {pins : List (Addr × Obj)} {σ : St} {H : Hp} {s : Shared} {T : String} {x : V} {v : Value} (I : Inv X pins σ H s) (r : RelV x v) (ty : tyV X.K T x H) :
    s.TypeIs v T ∧ ∀ a, v = .ref a → ∃ ob, s.heap.get? a = some ob ∧ ob.dict = none := by
  cases x with
  | str z =>
    obtain ⟨t, rfl⟩ := r
    cases (show T = "str" from ty)
    exact ⟨typeIs_str s z t, fun _ e => nomatch e⟩
  | int i =>
    obtain ⟨t, rfl⟩ := r
    cases (show T = "int" from ty)
    exact ⟨typeIs_int s i t, fun _ e => nomatch e⟩
  | ref p =>
    cases r
    rcases ty with ⟨rfl, xs, hq⟩ | ⟨rfl, o, hk, hc, hd⟩ | ⟨rfl, hk⟩ | ⟨rfl, S, n, hk⟩
    · obtain ⟨its, _, pl, _⟩ := I.list hq
      refine ⟨pl.isList.typeIs, fun a e => ?_⟩
      cases e
      obtain ⟨o, n, e, c, hd, _⟩ := pl
      exact ⟨o, e, hd⟩
    · refine ⟨⟨o, I.kIn p o hk, hc⟩, fun a e => ?_⟩
      cases e
      exact ⟨o, I.kIn _ o hk, hd⟩
    · have z : ∃ o, s.heap.get? p = some o ∧ o.ExactDict := by
        rcases hk with ⟨kvs, hk⟩ | ⟨kvs, hk⟩
        · obtain ⟨_, _, _, _, o, _, _, e, ex, _⟩ := I.hok p _ hk
          exact ⟨o, e, ex⟩
        · obtain ⟨_, _, _, _, o, _, _, e, ex, _⟩ := I.hok p _ hk
          exact ⟨o, e, ex⟩
      obtain ⟨o, e, ex⟩ := z
      refine ⟨⟨o, e, ex.1⟩, fun a e2 => ?_⟩
      cases e2
      exact ⟨o, e, ex.2.1⟩
    · obtain ⟨o, _, _, _, e, ex, _⟩ := I.hok p _ hk
      refine ⟨⟨o, e, ex.1⟩, fun a e2 => ?_⟩
      cases e2
      exact ⟨o, e, ex.2.1⟩
  | _ => exact False.elim ty
def tBM0 (K : PySem.W.Frag) (T : String) (r : V → List V → Hp → VK → Prop) (to : TE) : TE := fun σ H Q => to σ H fun x H1 => tyV K T x H1 ∧ r x [] H1 Q
def tBM (K : PySem.W.Frag) (T : String) (r : V → List V → Hp → VK → Prop) (to : TE) (t : TA) : TE := fun σ H Q => to σ H fun x H1 => tyV K T x H1 ∧ t σ H1 fun xs H2 => r x xs H2 Q
variable {o e : Expr} {es : List Expr} {to : TE} {t : TA} {name : Str} {apos cpos : Pos} {T id : String} {r : V → List V → Hp → VK → Prop}
theorem pe_bm0 (pa : PlainAttrs T) (slot : Slot T name id) (hty : typeOf (.builtin id) = pure (.type "method_descriptor")) (hm : MtR X id r) (ho : PE X o to)
    (hbase : attributeBase o name X.env (eval o X.env) = eval o X.env := by rfl) (hline : (apos.endLine == cpos.line) = true := by rfl) : PE X (.Call (.Attribute o name apos) [] [] cpos) (tBM0 X.K T r to) := by
  intro pins s σ H Q I h
  refine wpAny_Call_method0_late hbase hline (thn (ho pins s σ H _ I h) fun v s1 ⟨x, H1, I1, r1, ty, q1⟩ => ?_)
  obtain ⟨h1, h2⟩ := tyV_is I1 r1 ty
  exact ⟨T, id, pa, slot, hty, h1, h2, Calls.callWith_builtin rfl (PySem.evalArgs_none (hm pins s1 σ H1 x [] v [] Q I1 r1 .nil q1))⟩
theorem pe_bm (pa : PlainAttrs T) (slot : Slot T name id) (hty : typeOf (.builtin id) = pure (.type "method_descriptor")) (hm : MtR X id r) (ho : PE X o to) (ha : PA X (e :: es) t)
    (hbase : attributeBase o name X.env (eval o X.env) = eval o X.env := by rfl)
    (hfew : ((backTo cpos (starEach (e :: es) X.env)).all (fun x => !x.1) && (backToKw cpos (keywordEach [] X.env)).all (fun x => x.1.isSome)
      && decide ((e :: es).length + ([] : List Keyword).length + (if ([] : List Keyword).isEmpty then 0 else 1) < 30)) = true := by rfl)
    (hline : (apos.endLine == cpos.line) = true := by rfl) (hs : starEach (e :: es) X.env = (false, eval e X.env) :: starEach es X.env := by rfl) (hplain : (backTo cpos (starEach es X.env)).any (·.1) = false := by rfl) :
    PE X (.Call (.Attribute o name apos) (e :: es) [] cpos) (tBM X.K T r to t) := by
  intro pins s σ H Q I h
  refine wpAny_Call_method_late hbase hfew hline rfl (thn (ho pins s σ H _ I h) fun v s1 ⟨x, H1, I1, r1, ty, q1⟩ => ?_)
  obtain ⟨h1, h2⟩ := tyV_is I1 r1 ty
  refine ⟨T, id, pa, slot, hty, h1, h2, ?_⟩
  have hA := ha cpos pins s1 σ H1 _ I1 q1
  rw [hs] at hA ⊢
  refine Calls.callWith_builtin (by show (false || (backTo cpos (starEach es X.env)).any (·.1)) = false; rw [hplain] <;> rfl) (Calls.evalArgs_plain ?_)
  exact thn hA fun us s2 ⟨vs, H2, I2, r2, q2⟩ => hm pins s2 σ H2 x vs v us Q I2 r1 r2 q2
/- xs.append(e), list.index on a module's tuple .. are MtR facts of 06m -/
end
end L2

namespace L2
open PySem PySem.Spec PyProof.Rows

def MtM (X : Cx) (id : String) (r : V → List V → Hp → VK → Prop) : Prop :=
  ∀ (pins : List (Addr × Obj)) (s : Shared) (σ : St) (H : Hp) (x : V) (xs : List V) (v : Value) (us : List Value) (Q : VK), Inv X pins σ H s → RelV x v → Vals xs us → r x xs H Q →
    wpAny (model X.prog X.w) X.A (call (.builtin id) (v :: us)) (EP X pins σ Q) X.xe s

/-! ### lists of values -/
theorem Vals.one : ∀ {x : V} {us : List Value}, Vals [x] us → ∃ u, us = [u] ∧ RelV x u
  | _, _, .cons r .nil => ⟨_, rfl, r⟩
theorem Vals.two : ∀ {x y : V} {us : List Value}, Vals [x, y] us → ∃ u v, us = [u, v] ∧ RelV x u ∧ RelV y v
  | _, _, _, .cons r (.cons q .nil) => ⟨_, _, rfl, r, q⟩
theorem Vals.zero : ∀ {us : List Value}, Vals [] us → us = []
  | _, .nil => rfl
theorem Vals.dropLast {xs : List V} {us : List Value} (h : Vals xs us) : Vals xs.dropLast us.dropLast := by
  induction h with
  | nil => exact .nil
  | cons r t ih =>
    cases t with
    | nil => exact .nil
    | cons q t' => exact .cons r ih
theorem Vals.eraseIdx : ∀ {xs : List V} {us : List Value} (i : Nat), Vals xs us → Vals (xs.eraseIdx i) (us.eraseIdx i)
  | _, _, _, .nil => .nil
  | _, _, 0, .cons _ t => t
  | _, _, i + 1, .cons r t => .cons r (Vals.eraseIdx i t)
theorem Vals.reverse {xs : List V} {us : List Value} (h : Vals xs us) : Vals xs.reverse us.reverse := by
  induction h with
  | nil => exact .nil
  | cons r t ih => rw [List.reverse_cons, List.reverse_cons]; exact Vals.append ih (.cons r .nil)
theorem Vals.rep {xs : List V} {us : List Value} (h : Vals xs us) : ∀ k : Nat, Vals (List.replicate k xs).flatten (List.replicate k us).flatten
  | 0 => .nil
  | k + 1 => by
    rw [List.replicate_succ, List.replicate_succ, List.flatten_cons, List.flatten_cons]
    exact Vals.append h (Vals.rep h k)
theorem erase_last {α : Type} (l : List α) : l.eraseIdx (l.length - 1) = l.dropLast := by
  induction l with
  | nil => rfl
  | cons a r ih =>
    cases r with
    | nil => rfl
    | cons b r =>
      have e : (a :: b :: r).length - 1 = ((b :: r).length - 1) + 1 := by
        have h1 : (a :: b :: r).length = r.length + 2 := rfl
        have h2 : (b :: r).length = r.length + 1 := rfl
        omega
      rw [e, List.eraseIdx_cons_succ, ih]
      all_goals rfl
section
variable {X : Cx} {pins : List (Addr × Obj)} {σ : St} {H : Hp} {s : Shared} {l b : Addr} {xs ys zs : List V}

/-! ### the two steps: a tracked list is rewritten, a new list is laid -/
theorem Inv.lset {its its' : List Value} {n : Nat} {f : Array Value → Array Value} {t' : Nat} (I : Inv X pins σ H s) (hH : H l = some (.lst xs))
    (e : s.heap.get? l = some { cls := .type "list", data := .seq its.toArray n }) (hf : f its.toArray = its'.toArray) (hv : Vals ys its') (hz : ys.length ≤ sizeLine) :
    Inv X pins σ (upd H l (.lst ys)) { s with heap := s.heap.update l (Obj.mapSeq f), toks := t' } := by
  have q := PySem.IsL.update e f
  rw [hf] at q
  refine I.write (x := l) (e := l) (by rw [hH]; exact trivial) (.inl rfl) (fun b' u hb hu => (Heap.get?_update_other s.heap (Obj.mapSeq f) (Ne.symm hb)).trans hu) ⟨_, q⟩ ?_
  exact ⟨hz, its', _, hv, q⟩
theorem Inv.lnew {its : List Value} {t' : Nat} (I : Inv X pins σ H s) (hv : Vals ys its) (hz : ys.length ≤ sizeLine) :
    Inv X pins σ (upd H s.heap.objs.size (.lst ys)) { s with heap := s.heap.push { cls := .type "list", data := .seq its.toArray }, toks := t' } :=
  I.laid (fun _ _ q => Heap.get?_push_of_some _ q) (Nat.le_refl _) ⟨hz, its, 0, hv, Heap.get?_push_size _ rfl⟩
theorem Inv.fresh (I : Inv X pins σ H s) : H s.heap.objs.size = none := I.hok.fresh (Nat.le_refl _)
theorem Inv.lstM (I : Inv X pins σ H s) (hH : H l = some (.lst xs)) : xs.length ≤ sizeLine ∧ ∃ (its : List Value) (n : Nat), Vals xs its ∧ xs.length = its.length ∧ s.heap.get? l = some { cls := .type "list", data := .seq its.toArray n } := by
  obtain ⟨z, its, n, r, e⟩ := I.hok l _ hH
  exact ⟨z, its, n, r, r.length, e⟩

end

section
variable {X : Cx}

/-! ### methods -/
def rAppend : V → List V → Hp → VK → Prop := fun x vs H Q => ∃ l xs y, x = .ref l ∧ vs = [y] ∧ H l = some (.lst xs) ∧ xs.length < sizeLine ∧ Q .non (upd H l (.lst (xs ++ [y])))
theorem mt_append : MtM X "list.append" rAppend := by
  intro pins s σ H x vs v us Q I rx rv h
  obtain ⟨l, xs, y, rfl, rfl, hH, hz, q⟩ := h
  cases rx
  obtain ⟨u, rfl, ru⟩ := rv.one
  obtain ⟨z, its, n, r, hl, e⟩ := I.lstM hH
  refine call_meets F.slot_list_append ⟨_, e, rfl⟩ F.entry_list_append (F.args_list_append_2 _ _) (PySem.list_append l its.toArray n u (by rw [List.size_toArray]; omega)) ⟨e, ?_⟩
  refine ⟨.non, _, I.lset (its' := its ++ [u]) hH e (by simp) (r.append (.cons ru .nil)) ?_, rfl, q⟩
  rw [List.length_append, List.length_singleton]
  omega

def rPop : V → List V → Hp → VK → Prop := fun x vs H Q => ∃ l xs y, x = .ref l ∧ vs = [] ∧ H l = some (.lst xs) ∧ xs[xs.length - 1]? = some y ∧ Q y (upd H l (.lst xs.dropLast))
theorem mt_pop : MtM X "list.pop" rPop := by
  intro pins s σ H x vs v us Q I rx rv h
  obtain ⟨l, xs, y, rfl, rfl, hH, hy, q⟩ := h
  cases rx
  have hus := rv.zero
  subst hus
  obtain ⟨z, its, n, r, hl, e⟩ := I.lstM hH
  obtain ⟨u, hu, ru⟩ := r.get hy
  have hy' : its.toArray[its.toArray.size - 1]? = some u := by
    show its.toArray[its.length - 1]? = some u
    rw [← Array.getElem?_toList, ← hl]
    exact hu
  refine call_meets F.slot_list_pop ⟨_, e, rfl⟩ F.entry_list_pop (F.args_list_pop_1 _) (MeetsSeq.list_pop_last l its.toArray n u hy' (by rw [List.size_toArray]; omega)) ⟨e, ?_⟩
  refine ⟨y, _, I.lset (its' := its.dropLast) hH e ?_ r.dropLast ?_, ru, q⟩
  · show its.toArray.eraseIdxIfInBounds (its.toArray.size - 1) = its.dropLast.toArray
    rw [List.size_toArray, List.eraseIdxIfInBounds_toArray, erase_last]
  · rw [List.length_dropLast]
    omega

def rReverse : V → List V → Hp → VK → Prop := fun x vs H Q => ∃ l xs, x = .ref l ∧ vs = [] ∧ H l = some (.lst xs) ∧ Q .non (upd H l (.lst xs.reverse))
theorem mt_reverse : MtM X "list.reverse" rReverse := by
  intro pins s σ H x vs v us Q I rx rv h
  obtain ⟨l, xs, rfl, rfl, hH, q⟩ := h
  cases rx
  have hus := rv.zero
  subst hus
  obtain ⟨z, its, n, r, hl, e⟩ := I.lstM hH
  refine call_meets F.slot_list_reverse ⟨_, e, rfl⟩ F.entry_list_reverse (F.args_list_reverse_1 _) (AutoSeq1.list_reverse_list_0 l its.toArray n (by rw [List.size_toArray]; omega)) ⟨e, ?_⟩
  refine ⟨.non, _, I.lset (its' := its.reverse) hH e (by simp) r.reverse ?_, rfl, q⟩
  rw [List.length_reverse]
  omega

/-! ### list + list, list += list, list * int -/
def rCat : R2 := fun x y H Q => ∃ l b xs zs, x = .ref l ∧ y = .ref b ∧ H l = some (.lst xs) ∧ H b = some (.lst zs) ∧ xs.length + zs.length ≤ sizeLine ∧ ∀ p, H p = none → Q (.ref p) (upd H p (.lst (xs ++ zs)))
theorem op_cat : OpR X (binaryOp .Add) rCat := by
  intro pins s σ H x y v u Q I rx ry h
  obtain ⟨l, b, xs, zs, rfl, rfl, hH, hB, hz, q⟩ := h
  cases rx
  cases ry
  obtain ⟨z, its, n, r, hl, e⟩ := I.lstM hH
  obtain ⟨z2, its2, n2, r2, hl2, e2⟩ := I.lstM hB
  refine PySem.P.add_list e e2 ?_ (by rw [List.size_toArray, List.size_toArray]; omega)
  have ea : its.toArray ++ its2.toArray = (its ++ its2).toArray := by simp
  rw [ea]
  exact ⟨.ref _, _, I.lnew (t' := s.toks) (r.append r2) (by rw [List.length_append]; omega), rfl, q _ I.fresh⟩
end

/-! ### xs[a:b] = ys -/
section
variable {prog : Program} {w : World} {A : Around} {E : Value → Shared → Prop} {s : Shared}
end

section
variable {X : Cx}
end
end L2

namespace L2
open PySem PySem.Spec PyProof.Rows

theorem Vals.ints : ∀ {ns : List Int} {us : List Value}, Vals (ns.map V.int) us → IntsAre us ns
  | [], us, h => by
    rw [List.map_nil] at h
    cases h
    exact IntsAre.nil
  | n :: ns, us, h => by
    rw [List.map_cons] at h
    cases h with
    | cons r t =>
      obtain ⟨k, rfl⟩ := r
      exact IntsAre.cons n k (Vals.ints t)
theorem Vals.strs : ∀ {xs : List Str} {us : List Value}, Vals (xs.map V.str) us → StrsAre us xs
  | [], us, h => by
    rw [List.map_nil] at h
    cases h
    exact StrsAre.nil
  | x :: xs, us, h => by
    rw [List.map_cons] at h
    cases h with
    | cons r t =>
      obtain ⟨k, rfl⟩ := r
      exact StrsAre.cons x k (Vals.strs t)
theorem Vals.ref1 {a : Addr} {us : List Value} (r : Vals [V.ref a] us) : us = [Value.ref a] := by
  cases r with
  | cons r t =>
    cases t
    cases r
    rfl
/-! ### the library's walks over a list of ints, kept objects alone -/
section
variable {prog : Program} {w : World} {A : Around} {E : Value → Shared → Prop} {s : Shared} {l : Addr} {its : List Value} {ns : List Int} {Q : Value → Shared → Prop}
theorem sum_raw (hh : A.handled = none) (hl : s.heap.IsList l its.toArray) (hi : IntsAre its ns)
    (h : ∀ h' tk t', (∀ b o, s.heap.get? b = some o → h'.get? b = some o) → Q (.int ns.sum t') { s with heap := h', toks := tk }) : wpAny (model prog w) A (call (.builtin "sum") [.ref l]) Q E s := by
  obtain ⟨xs, e⟩ := hi.allInts.items
  have hn : numsOf (intItems xs).toList = ns := by rw [← e]; exact hi.numsOf
  rw [nums_intItems] at hn
  rw [e] at hl
  refine PySem.sum_intListG hh hl fun h' tk t' hk => ?_
  have := h h' tk t' hk
  rw [preSum_eq, List.take_of_length_le (by simp), hn]; exact this
end

/-! ### the calls, by values (CallR of 03t; MtR of 06l) -/
section
variable {X : Cx}
/-- sum(xs) of a list of ints -/
def rSum (K : PySem.W.Frag) : List V → Hp → VK → Prop := fun vs H Q => ∃ (a : Addr) (ns : List Int), vs = [V.ref a] ∧ SqL K H a (ns.map V.int) ∧ Q (.int ns.sum) H
theorem cr_sum (hc : X.calm = true) : CallR X (.builtin "sum") (rSum X.K) := by
  intro pins s σ H vs us Q I r h
  obtain ⟨a, ns, rfl, hs, q⟩ := h
  obtain ⟨its, rv, hl, _⟩ := I.list hs
  rw [Vals.ref1 r]
  exact sum_raw (I.ok.hd hc) hl.isList rv.ints fun h' tk t' hk => ⟨.int _, H, I.kept hk, ⟨_, rfl⟩, q⟩
end

/-! ### list.index, flat items -/
section
variable {X : Cx}
end

/-! ### type(x) of an own instance; is, is not of a module's class -/
section
variable {X : Cx}
end

section
variable {X : Cx}
end

/-! ### == and != of data at any depth: none, bools, ints, texts, lists, tuples -/
mutual
inductive Dp (K : PySem.W.Frag) (H : Hp) : V → PyData → Prop
  | non : Dp K H .non .none
  | bl (b : Bool) : Dp K H (.bl b) (.bool b)
  | int (i : Int) : Dp K H (.int i) (.int i)
  | str (x : Str) : Dp K H (.str x) (.str x)
  | lst {a : Addr} {xs : List V} {ds : List PyData} : SqL K H a xs → DpAll K H xs ds → Dp K H (.ref a) (.list ds)
  | tup {a : Addr} {xs : List V} {ds : List PyData} : SqT K H a xs → DpAll K H xs ds → Dp K H (.ref a) (.tuple ds)
inductive DpAll (K : PySem.W.Frag) (H : Hp) : List V → List PyData → Prop
  | nil : DpAll K H [] []
  | cons {v : V} {vs : List V} {d : PyData} {ds : List PyData} : Dp K H v d → DpAll K H vs ds → DpAll K H (v :: vs) (d :: ds)
end
section
variable {X : Cx} {pins : List (Addr × Obj)} {σ : St} {H : Hp} {s : Shared}
mutual
theorem Dp.reads (I : Inv X pins σ H s) : ∀ (d : PyData) (v : V) (u : Value), Dp X.K H v d → RelV v u → ∃ as, Reads s.heap u d as
  | .none, _, _, h, r => by
    cases h
    cases r
    exact ⟨_, Reads.none⟩
  | .bool b, _, _, h, r => by
    cases h
    cases r
    exact ⟨_, Reads.bool b⟩
  | .int i, _, _, h, r => by
    cases h
    obtain ⟨t, rfl⟩ := r
    exact ⟨_, Reads.int i t⟩
  | .str x, _, _, h, r => by
    cases h
    obtain ⟨t, rfl⟩ := r
    exact ⟨_, Reads.str x t⟩
  | .list ds, _, _, h, r => by
    cases h with
    | lst hs ha =>
      cases r
      obtain ⟨its, rv, ⟨o, n, ho, hc, _, hd⟩, _⟩ := I.list hs
      obtain ⟨as, hr⟩ := Dp.readsAll I ds _ its ha rv
      exact ⟨_, Reads.list ho hc hd hr⟩
  | .tuple ds, _, _, h, r => by
    cases h with
    | tup hs ha =>
      cases r
      obtain ⟨its, rv, ⟨o, ho, hc, n, hd⟩, _⟩ := I.tuple hs
      obtain ⟨as, hr⟩ := Dp.readsAll I ds _ its ha rv
      exact ⟨_, Reads.tuple ho hc hd hr⟩
  | .dict _, _, _, h, _ => by cases h
theorem Dp.readsAll (I : Inv X pins σ H s) : ∀ (ds : List PyData) (vs : List V) (us : List Value), DpAll X.K H vs ds → Vals vs us → ∃ as, ReadsAll s.heap us ds as
  | [], _, _, h, r => by
    cases h
    cases r
    exact ⟨_, ReadsAll.nil⟩
  | d :: ds, _, _, h, r => by
    cases h with
    | cons h1 h2 =>
      cases r with
      | cons r1 r2 =>
        obtain ⟨as, q1⟩ := Dp.reads I d _ _ h1 r1
        obtain ⟨bs, q2⟩ := Dp.readsAll I ds _ _ h2 r2
        exact ⟨_, ReadsAll.cons q1 q2⟩
end
end
section
variable {X : Cx}
def rEqD (K : PySem.W.Frag) : R2 := fun x y H Q => ∃ d e, Dp K H x d ∧ Dp K H y e ∧ SeqAt.shaped d = true ∧ SeqAt.shaped e = true ∧ Q (.bl (PyData.eqv d e)) H
def rNeD (K : PySem.W.Frag) : R2 := fun x y H Q => ∃ d e, Dp K H x d ∧ Dp K H y e ∧ SeqAt.shaped d = true ∧ SeqAt.shaped e = true ∧ Q (.bl (!PyData.eqv d e)) H
theorem op_eqD (hu : X.A.units + 64 < cLine) : OpR X (compareOp .Eq) (rEqD X.K) := by
  intro pins s σ H x y v u Q I rx ry h
  obtain ⟨d, e, hd, he, sd, se, q⟩ := h
  obtain ⟨as, r1⟩ := Dp.reads I d x v hd rx
  obtain ⟨bs, r2⟩ := Dp.reads I e y u he ry
  exact SeqAt.compareEq_shaped r1 r2 sd se hu ⟨.bl _, H, I, rfl, q⟩
theorem op_neD (hu : X.A.units + 64 < cLine) : OpR X (compareOp .NotEq) (rNeD X.K) := by
  intro pins s σ H x y v u Q I rx ry h
  obtain ⟨d, e, hd, he, sd, se, q⟩ := h
  obtain ⟨as, r1⟩ := Dp.reads I d x v hd rx
  obtain ⟨bs, r2⟩ := Dp.reads I e y u he ry
  exact SeqAt.compareNe_shaped r1 r2 sd se hu ⟨.bl _, H, I, rfl, q⟩
end
end L2

namespace L2
open PySem PySem.Spec PyProof.Rows
abbrev CellAt (h : Heap) (c : Addr) (v : Option Value) : Prop := h.IsCell c v
def relS (scope sc : Scope) : Scope :=
  { scope with names := scope.names.map fun (n, k) => if (k == .free && sc.kind == .function && sc.names.lookup n == some .cell) then (n, .cell) else (n, k) }

def cloFrom (cells : List (Str × Addr)) : List (Str × NameKind) → List (Str × Addr) → List (Str × Addr)
  | [], acc => acc
  | (n, k) :: r, acc => if k == .free then cloFrom cells r ((n, (cells.lookup n).getD 0) :: acc) else cloFrom cells r acc

theorem closure_loop (env : Env) (f : Str × NameKind → List (Str × Addr) → Sem (ForInStep (List (Str × Addr))))
    (hf : ∀ n k c, f (n, k) c = if k == .free then (do let a ← cellOf env n; pure (.yield ((n, a) :: c))) else pure (.yield c)) :
    ∀ (names : List (Str × NameKind)) (acc : List (Str × Addr)), (∀ y ∈ names, y.2 = .free → ∃ c, env.cells.lookup y.1 = some c) → forIn names acc f = pure (cloFrom env.cells names acc)
  | [], acc, _ => by rw [List.forIn_nil]; rfl
  | (n, k) :: r, acc, h => by
    rw [List.forIn_cons, hf]
    have ih := fun acc => closure_loop env f hf r acc fun y hy => h y (List.mem_cons_of_mem _ hy)
    unfold cloFrom
    by_cases hk : (k == NameKind.free) = true
    · rw [if_pos hk, if_pos hk]
      obtain ⟨c, hc⟩ := h (n, k) List.mem_cons_self (by simpa using hk)
      have e : cellOf env n = pure c := by unfold cellOf; rw [hc]
      rw [e]
      have e2 : (env.cells.lookup n).getD 0 = c := by rw [hc]; rfl
      rw [e2]
      exact ih _
    · rw [if_neg hk, if_neg hk]
      exact ih _
theorem closure_ok {scope : Scope} {env : Env} (h : ∀ y ∈ scope.names, y.2 = .free → ∃ c, env.cells.lookup y.1 = some c) : closureFor scope env = pure (cloFrom env.cells scope.names []) := by
  simp only [closureFor]
  rw [closure_loop env _ (fun n k c => rfl) scope.names [] h]
  rfl

theorem mem_lookup {α : Type} : ∀ {l : List (Str × α)} {n : Str} {c : α}, (n, c) ∈ l → ∃ c', l.lookup n = some c'
  | (k, v) :: r, n, c, h => by
    rw [List.lookup_cons]
    cases hb : n == k with
    | true => exact ⟨_, rfl⟩
    | false =>
      rcases List.mem_cons.mp h with e | h
      · cases e; simp at hb
      · exact mem_lookup h

theorem cloFrom_mem {cells : List (Str × Addr)} : ∀ {names : List (Str × NameKind)} {acc : List (Str × Addr)} {n : Str} {c : Addr}, (n, c) ∈ cloFrom cells names acc → (n, c) ∈ acc ∨ ((n, .free) ∈ names ∧ c = (cells.lookup n).getD 0)
  | [], _, _, _, h => .inl h
  | (m, k) :: r, acc, n, c, h => by
    unfold cloFrom at h
    split at h
    · rename_i hk
      have hk : k = .free := by simpa using hk
      rcases cloFrom_mem h with h | ⟨h1, h2⟩
      · rcases List.mem_cons.mp h with e | h
        · cases e; exact .inr ⟨hk ▸ List.mem_cons_self, rfl⟩
        · exact .inl h
      · exact .inr ⟨List.mem_cons_of_mem _ h1, h2⟩
    · rcases cloFrom_mem h with h | ⟨h1, h2⟩
      · exact .inl h
      · exact .inr ⟨List.mem_cons_of_mem _ h1, h2⟩
theorem cloFrom_acc {cells : List (Str × Addr)} : ∀ {names : List (Str × NameKind)} {acc : List (Str × Addr)} {p : Str × Addr}, p ∈ acc → p ∈ cloFrom cells names acc
  | [], _, _, h => h
  | (m, k) :: r, acc, p, h => by
    unfold cloFrom
    split
    · exact cloFrom_acc (List.mem_cons_of_mem _ h)
    · exact cloFrom_acc h
theorem cloFrom_has {cells : List (Str × Addr)} : ∀ {names : List (Str × NameKind)} {acc : List (Str × Addr)} {n : Str}, (n, .free) ∈ names → (n, (cells.lookup n).getD 0) ∈ cloFrom cells names acc
  | (m, k) :: r, acc, n, h => by
    unfold cloFrom
    rcases List.mem_cons.mp h with e | h
    · cases e
      exact cloFrom_acc List.mem_cons_self
    · split
      · exact cloFrom_has h
      · exact cloFrom_has h

theorem cells_mem : ∀ {names : List (Str × NameKind)} {h : Heap} {acc : List (Str × Addr)} {x : Str} {c : Addr}, (x, c) ∈ cellsFrom h.objs.size names acc →
    (x, c) ∈ acc ∨ ((x, .cell) ∈ names ∧ h.objs.size ≤ c ∧ CellAt (pushCells h names) c none)
  | [], _, _, _, _, h => .inl h
  | (n, k) :: r, h, acc, x, c, hm => by
    unfold cellsFrom at hm
    unfold pushCells
    split at hm
    · rename_i hk
      rw [if_pos hk]
      have hk : k = .cell := by simpa using hk
      rw [← Heap.size_push h { cls := .type "cell", data := .cell none }] at hm
      rcases cells_mem hm with hm | ⟨h1, h2, h3⟩
      · rcases List.mem_cons.mp hm with e | hm
        · cases e
          exact .inr ⟨hk ▸ List.mem_cons_self, Nat.le_refl _, _, pushCells_keeps r _ _ _ (Heap.get?_push_size _ rfl), rfl⟩
        · exact .inl hm
      · rw [Heap.size_push] at h2
        exact .inr ⟨List.mem_cons_of_mem _ h1, Nat.le_of_succ_le h2, h3⟩
    · rename_i hk
      rw [if_neg hk]
      rcases cells_mem hm with hm | ⟨h1, h2, h3⟩
      · exact .inl hm
      · exact .inr ⟨List.mem_cons_of_mem _ h1, h2, h3⟩
theorem cells_acc : ∀ {names : List (Str × NameKind)} {n : Nat} {acc : List (Str × Addr)} {p : Str × Addr}, p ∈ acc → p ∈ cellsFrom n names acc
  | [], _, _, _, h => h
  | (m, k) :: r, n, acc, p, h => by
    unfold cellsFrom
    split
    · exact cells_acc (List.mem_cons_of_mem _ h)
    · exact cells_acc h
theorem cells_has : ∀ {names : List (Str × NameKind)} {n : Nat} {acc : List (Str × Addr)} {x : Str}, (x, .cell) ∈ names → ∃ c, (x, c) ∈ cellsFrom n names acc
  | (m, k) :: r, n, acc, x, h => by
    unfold cellsFrom
    rcases List.mem_cons.mp h with e | h
    · cases e
      exact ⟨n, cells_acc List.mem_cons_self⟩
    · split
      · exact cells_has h
      · exact cells_has h
theorem cells_inj : ∀ {names : List (Str × NameKind)} {h : Heap} {acc : List (Str × Addr)} {x y : Str} {c : Addr}, (∀ p ∈ acc, p.2 < h.objs.size) → (∀ x y c, (x, c) ∈ acc → (y, c) ∈ acc → x = y) →
    (x, c) ∈ cellsFrom h.objs.size names acc → (y, c) ∈ cellsFrom h.objs.size names acc → x = y
  | [], _, _, _, _, _, _, hi, h1, h2 => hi _ _ _ h1 h2
  | (n, k) :: r, h, acc, x, y, c, hl, hi, h1, h2 => by
    unfold cellsFrom at h1 h2
    split at h1
    · rename_i hk
      rw [if_pos hk] at h2
      rw [← Heap.size_push h { cls := .type "cell", data := .cell none }] at h1 h2
      refine cells_inj (h := h.push _) (fun p hp => ?_) (fun x y c a b => ?_) h1 h2
      · rw [Heap.size_push]
        rcases List.mem_cons.mp hp with rfl | hp
        · exact Nat.lt_succ_self _
        · exact Nat.lt_succ_of_lt (hl p hp)
      · rcases List.mem_cons.mp a with e | a <;> rcases List.mem_cons.mp b with e' | b
        · cases e; cases e'; rfl
        · cases e; exact absurd (hl _ b) (Nat.lt_irrefl _)
        · cases e'; exact absurd (hl _ a) (Nat.lt_irrefl _)
        · exact hi _ _ _ a b
    · rename_i hk
      rw [if_neg hk] at h2
      exact cells_inj hl hi h1 h2

theorem newEnv_comp {M : Model} {A : Around} {E : Value → Shared → Prop} {s : Shared} {scope : Scope} {globals : Addr} {closure : List (Str × Addr)} {qual : Str} {func : Option Addr} {code : Value} {around : Env} {builtins : Addr} {Q : Env → Shared → Prop}
    (h : Q (newEnv scope s.heap.objs.size globals (cellsFrom (s.heap.objs.size + 1) scope.names closure) qual func code (some around) builtins)
      { s with heap := pushCells (s.heap.push { cls := .type "dict", data := .dict #[] }) scope.names }) :
    wpAny M A (newFunctionEnv scope globals closure [] qual func code (some around) builtins) Q E s := by
  simp only [newFunctionEnv, Option.isSome_some, if_true]
  refine wpAny_bind (wpAny_alloc ?_)
  refine wpAny_bind (wpAny_layCells _ (fun n k c => rfl) scope.names closure _ _ ?_)
  rw [show ({ s with heap := s.heap.push { cls := .type "dict", data := .dict #[] } } : Shared).heap.objs.size = s.heap.objs.size + 1 from Heap.size_push ..]
  rw [List.forIn_nil]
  exact wpAny_bind (wpAny_pure (wpAny_pure h))

/-- every name of the written scope, in the scope that runs -/
theorem lookup_relS {sc : Scope} : ∀ {names : List (Str × NameKind)} {x : Str} {k : NameKind},
    (names.map fun (n, k) => if (k == NameKind.free && sc.kind == .function && sc.names.lookup n == some .cell) then (n, NameKind.cell) else (n, k)).lookup x = some k →
    ∃ k', names.lookup x = some k' ∧ (k = k' ∨ (k' = .free ∧ k = .cell))
  | [], _, _, h => by simp at h
  | (n, k₀) :: r, x, k, h => by
    have ih := @lookup_relS sc r x k
    have h' : List.lookup x ((if (k₀ == NameKind.free && sc.kind == .function && sc.names.lookup n == some .cell) = true then (n, NameKind.cell) else (n, k₀)) :: (r.map _)) = some k := h
    cases hx : x == n with
    | true =>
      simp only [List.lookup_cons, hx]
      by_cases hc : (k₀ == NameKind.free && sc.kind == .function && sc.names.lookup n == some .cell) = true
      · rw [if_pos hc] at h'
        simp only [List.lookup_cons, hx] at h'
        cases h'
        simp only [Bool.and_eq_true, beq_iff_eq] at hc
        exact ⟨k₀, rfl, .inr ⟨hc.1.1, rfl⟩⟩
      · rw [if_neg hc] at h'
        simp only [List.lookup_cons, hx] at h'
        cases h'
        exact ⟨_, rfl, .inl rfl⟩
    | false =>
      simp only [List.lookup_cons, hx]
      by_cases hc : (k₀ == NameKind.free && sc.kind == .function && sc.names.lookup n == some .cell) = true
      · rw [if_pos hc] at h'
        simp only [List.lookup_cons, hx] at h'
        exact ih h'
      · rw [if_neg hc] at h'
        simp only [List.lookup_cons, hx] at h'
        exact ih h'
/-- the names of a comprehension's block: its own (with their places in N), or captured -/
structure BlkOk (N : List Str) (sc scope : Scope) (own : List (Str × Nat)) : Prop where
  kind : scope.kind = .function
  uniq : ∀ y ∈ scope.names, scope.names.lookup y.1 = some y.2
  ix : ∀ p ∈ own, N[p.2]? = some p.1
  free : ∀ y ∈ scope.names, y.2 = .free → sc.names.lookup y.1 = some .cell ∨ sc.names.lookup y.1 = some .free
  own : ∀ y ∈ scope.names, y.2 = .local ∨ y.2 = .cell → y.1 ∈ own.map (·.1) ∨ y.1 ∉ N
/-- the slots of the block's own names forgotten -/
def wipe (σ : St) : List Nat → St
  | [] => σ
  | v :: vs => (wipe σ vs).set v none
theorem wipe_length (σ : St) : ∀ vs : List Nat, (wipe σ vs).length = σ.length
  | [] => rfl
  | v :: vs => by unfold wipe; rw [List.length_set, wipe_length σ vs]
theorem wipe_some {σ : St} {i : Nat} {x : V} : ∀ {vs : List Nat}, (wipe σ vs)[i]? = some (some x) → σ[i]? = some (some x) ∧ i ∉ vs
  | [], h => ⟨h, by simp⟩
  | v :: vs, h => by
    unfold wipe at h
    by_cases hi : v = i
    · subst hi
      by_cases hv : v < (wipe σ vs).length
      · rw [List.getElem?_set_self hv] at h; cases h
      · rw [List.getElem?_eq_none (by simpa using hv)] at h; cases h
    · rw [List.getElem?_set_ne hi] at h
      obtain ⟨h1, h2⟩ := wipe_some h
      exact ⟨h1, by simp only [List.mem_cons, not_or]; exact ⟨fun e => hi e.symm, h2⟩⟩

/-- the context of a block that starts at s, its iterator's objects at fp -/
abbrev Cx.blk (X : Cx) (s : Shared) (H : Hp) (scope : Scope) (cenv : Env) (fp : List Addr) : Cx := { X with s_0 := s, H_0 := H, env := cenv, outer := X.stack, ex := fp, fn := fun x => scope.names.lookup x == some .cell, pn := [], xe := fun _ _ => False }
section
variable {X : Cx} {pins : List (Addr × Obj)} {σ : St} {H : Hp} {s : Shared}
theorem block_start {scope : Scope} {own : List (Str × Nat)} {fp : List Addr} (I : Inv X pins σ H s) (ok : BlkOk X.N X.env.scope scope own) (hN : X.N.Nodup) (hfp : ∀ b ∈ fp, FpOk X pins H b ∧ b < s.heap.objs.size) :
    Inv (X.blk s H scope (compEnvC scope (cellsFrom (s.heap.objs.size + 1) scope.names (cloFrom X.env.cells scope.names [])) s.heap.objs.size X.env) fp) [] (wipe σ (own.map (·.2))) H { s with heap := pushCells (s.heap.push { cls := .type "dict", data := .dict #[] }) scope.names } := by
  have hfree : ∀ y ∈ scope.names, y.2 = .free → ∃ c, X.env.cells.lookup y.1 = some c := fun y hy e => by
    rcases ok.free y hy e with k | k
    · exact I.ok.has _ (.inl k)
    · exact I.ok.has _ (.inr k)
  generalize hcenv : compEnvC scope (cellsFrom (s.heap.objs.size + 1) scope.names (cloFrom X.env.cells scope.names [])) s.heap.objs.size X.env = cenv
  have kp : ∀ b o, s.heap.get? b = some o → (pushCells (s.heap.push { cls := .type "dict", data := .dict #[] }) scope.names).get? b = some o := fun b o e => pushCells_keeps _ _ _ _ (Heap.get?_push_of_some _ e)
  have hL : cenv.locals = s.heap.objs.size := by rw [← hcenv]; rfl
  have hcl : cenv.cells = cellsFrom (s.heap.objs.size + 1) scope.names (cloFrom X.env.cells scope.names []) := by rw [← hcenv]; rfl
  have hsc : cenv.scope = relS scope X.env.scope := by rw [← hcenv]; rfl
  rw [← Heap.size_push s.heap { cls := .type "dict", data := .dict #[] }] at hcl
  have cm : ∀ {y c}, (y, c) ∈ cloFrom X.env.cells scope.names [] → X.env.cells.lookup y = some c ∧ c < s.heap.objs.size := fun {y c} hm => by
    rcases cloFrom_mem hm with hm | ⟨h1, rfl⟩
    · cases hm
    · obtain ⟨c, hc⟩ := hfree _ h1 rfl
      rw [hc]
      obtain ⟨w, z⟩ := I.cell _ _ hc
      exact ⟨rfl, z.lt⟩
  have mem : ∀ {y c}, cenv.cells.lookup y = some c → (X.env.cells.lookup y = some c ∧ c < s.heap.objs.size) ∨ (s.heap.objs.size + 1 ≤ c ∧ CellAt (pushCells (s.heap.push { cls := .type "dict", data := .dict #[] }) scope.names) c none) := fun {y c} e => by
    rw [hcl] at e
    rcases cells_mem (PySem.mem_of_lookup e) with hm | ⟨_, h2, h3⟩
    · exact .inl (cm hm)
    · rw [Heap.size_push] at h2; exact .inr ⟨h2, h3⟩
  have look : ∀ {y}, scope.names.lookup y = some .free → ∃ c, cenv.cells.lookup y = some c ∧ X.env.cells.lookup y = some c := fun {y} hl => by
    have hy : (y, NameKind.free) ∈ scope.names := PySem.mem_of_lookup hl
    obtain ⟨c', e'⟩ := mem_lookup (cells_acc (names := scope.names) (n := (s.heap.push { cls := .type "dict", data := .dict #[] }).objs.size) (cloFrom_has (cells := X.env.cells) (acc := []) hy))
    rw [← hcl] at e'
    refine ⟨c', e', ?_⟩
    rw [hcl] at e'
    rcases cells_mem (PySem.mem_of_lookup e') with hm | ⟨h1, _, _⟩
    · exact (cm hm).1
    · have := ok.uniq _ h1
      rw [hl] at this; cases this
  have okB : (X.blk s H scope cenv fp).Ok := by
    refine ⟨I.ok.mod, by show cenv.scope.kind = _; rw [hsc]; exact ok.kind, by show cenv.globals = _; rw [← hcenv]; exact I.ok.glob, by show cenv.builtins = _; rw [← hcenv]; exact I.ok.blt, by show s.heap.objs.size ≤ cenv.locals; rw [hL]; exact Nat.le_refl _,
      fun y z c e1 e2 => ?_, fun y hy => ?_, fun y c z e => ?_, I.ok.hd, I.ok.frames, .inl rfl, fun b hb => ⟨?_, fun y c e z => ?_⟩, I.bs, Nat.le_trans I.ok.bsz I.sz, fun b o e hb => ?_, fun b hb z => ?_, I.stack, I.stkFree⟩
    · have e1 : cenv.cells.lookup y = some c := e1
      have e2 : cenv.cells.lookup z = some c := e2
      rw [hcl] at e1 e2
      refine cells_inj (fun p hp => ?_) (fun y z c a b => I.ok.inj y z c (cm a).1 (cm b).1) (PySem.mem_of_lookup e1) (PySem.mem_of_lookup e2)
      rw [Heap.size_push]
      exact Nat.lt_succ_of_lt (cm (y := p.1) (c := p.2) hp).2
    · show ∃ c, cenv.cells.lookup y = some c
      have key : ∀ k, cenv.kindOf y = some k → (k = .cell ∨ k = .free) → ∃ c, cenv.cells.lookup y = some c := fun k hk hk' => by
        unfold Env.kindOf at hk
        rw [hsc] at hk
        obtain ⟨k', e, r⟩ := lookup_relS hk
        have : k' = .cell ∨ k' = .free := by
          rcases r with rfl | ⟨rfl, _⟩
          · exact hk'
          · exact .inr rfl
        rcases this with rfl | rfl
        · obtain ⟨c, hm⟩ := cells_has (n := (s.heap.push { cls := .type "dict", data := .dict #[] }).objs.size) (acc := cloFrom X.env.cells scope.names []) (PySem.mem_of_lookup e)
          obtain ⟨c', e'⟩ := mem_lookup hm
          exact ⟨c', by rw [hcl]; exact e'⟩
        · obtain ⟨c, h1, _⟩ := look e
          exact ⟨c, h1⟩
      rcases hy with hy | hy
      · exact key _ hy (.inl rfl)
      · exact key _ hy (.inr rfl)
    · have z : (scope.names.lookup y == some NameKind.cell) = true := z
      have z : scope.names.lookup y = some .cell := by simpa using z
      have e : cenv.cells.lookup y = some c := e
      rw [hcl] at e
      rcases cells_mem (PySem.mem_of_lookup e) with hm | ⟨_, h2, _⟩
      · rcases cloFrom_mem hm with hm | ⟨h1, _⟩
        · cases hm
        · have q := ok.uniq _ h1
          rw [z] at q; cases q
      · rw [Heap.size_push] at h2
        exact Nat.le_of_succ_le h2
    · show b ≠ cenv.locals
      rw [hL]; exact Nat.ne_of_lt (hfp b hb).2
    · have e : cenv.cells.lookup y = some c := e
      rcases mem e with ⟨h1, _⟩ | ⟨h1, _⟩
      · exact (hfp b hb).1.2.2.2.2.1 y c h1 z
      · have h2 : s.heap.objs.size + 1 ≤ b := by rw [← z]; exact h1
        exact absurd (Nat.lt_of_lt_of_le (hfp b hb).2 (Nat.le_of_succ_le h2)) (Nat.lt_irrefl _)
    · rcases (hfp b hb).1.2.2.2.1 with z | z
      · exact I.ok.noex b o e z
      · exact absurd (Nat.lt_of_lt_of_le (Heap.lt_size e) (Nat.le_trans I.ok.bsz z)) (Nat.lt_irrefl _)
    · rcases List.mem_cons.mp (I.stkSub b z) with z | z
      · exact (hfp b hb).1.2.1 z
      · exact (hfp b hb).1.2.2.1 z
  refine ⟨okB, rfl, ⟨id, fun _ => ⟨rfl, rfl⟩⟩, Un.kept kp, ⟨fun _ => none, ?_, fun i y av e1 e2 e3 => ?_⟩, fun y c e => ?_, ?_, fun y c e => ?_, fun p hp => ?_, I.hok.kept kp, by rw [wipe_length]; exact I.len⟩
  · show Heap.Ns _ cenv.locals _
    rw [hL]
    exact Heap.Ns.keeps (Heap.Ns.new ..) fun b o e => pushCells_keeps _ _ _ _ e
  · obtain ⟨e2, hne⟩ := wipe_some e2
    have hfr : scope.names.lookup y = some .free ∧ (cenv.kindOf y = some .cell ∨ cenv.kindOf y = some .free) := by
      have key : ∀ k, cenv.scope.names.lookup y = some k → k = .local ∨ k = .cell ∨ k = .free → scope.names.lookup y = some .free ∧ (cenv.kindOf y = some .cell ∨ cenv.kindOf y = some .free) := fun k hk hk' => by
        have hk0 := hk
        rw [hsc] at hk
        obtain ⟨k', e, r⟩ := lookup_relS hk
        have no : ¬ (k' = .local ∨ k' = .cell) := fun hh => by
          rcases ok.own _ (PySem.mem_of_lookup e) hh with e' | e'
          · obtain ⟨p, hp, hpy⟩ := List.mem_map.mp e'
            have e3 := ok.ix p hp
            have : p.1 = y := hpy
            rw [this] at e3
            exact hne (List.mem_map.mpr ⟨p, hp, nodup_ix hN e3 e1⟩)
          · exact e' (List.mem_of_getElem? e1)
        rcases r with rfl | ⟨rfl, rfl⟩
        · rcases hk' with rfl | rfl | rfl
          · exact absurd (.inl rfl) no
          · exact absurd (.inr rfl) no
          · exact ⟨e, .inr hk0⟩
        · exact ⟨e, .inl hk0⟩
      have e3 : Vis cenv.scope y := e3
      rcases e3 with e3 | e3 | e3
      · exact key _ e3 (.inl rfl)
      · exact key _ e3 (.inr (.inl rfl))
      · exact key _ e3 (.inr (.inr rfl))
    obtain ⟨m, hn, hl⟩ := I.loc
    have hvis : Vis X.env.scope y := (ok.free _ (PySem.mem_of_lookup hfr.1) rfl).elim (fun k => .inr (.inl k)) (fun k => .inr (.inr k))
    obtain ⟨w, r, q⟩ := hl i y av e1 e2 hvis
    refine ⟨w, r, .inr ⟨hfr.2, ?_⟩⟩
    obtain ⟨c, h1, h2⟩ := look hfr.1
    rcases q with ⟨k, _⟩ | ⟨_, c', e', z⟩
    · have k : X.env.scope.names.lookup y = some .local := k
      rcases ok.free _ (PySem.mem_of_lookup hfr.1) rfl with k' | k' <;> rw [show X.env.scope.names.lookup y = _ from k'] at k <;> cases k
    · rw [h2] at e'; cases e'
      exact ⟨c, h1, z.keeps kp⟩
  · have e : cenv.cells.lookup y = some c := e
    rcases mem e with ⟨h1, _⟩ | ⟨_, z⟩
    · obtain ⟨w, z⟩ := I.cell y c h1
      exact ⟨w, z.keeps kp⟩
    · exact ⟨_, z⟩
  · show H cenv.locals = none
    rw [hL]; exact I.hok.fresh (Nat.le_refl _)
  · have e : cenv.cells.lookup y = some c := e
    rcases mem e with ⟨h1, _⟩ | ⟨h1, _⟩
    · exact I.freeC y c h1
    · exact I.hok.fresh (Nat.le_of_succ_le h1)
  · exact absurd (show p ∈ ([] : List (Addr × Obj)) ++ [] from hp) (by simp)

/-- an item appended to a tracked list -/
theorem app_ok {E : Value → Shared → Prop} {D : Addr} {xs : List V} {y : V} {v : Value} {Q : Value → Shared → Prop} (I : Inv X pins σ H s) (hD : H D = some (.lst xs)) (hz : xs.length < sizeLine) (r : RelV y v)
    (h : ∀ s', Inv X pins σ (upd H D (.lst (xs ++ [y]))) s' → Q .none s') : wpAny (model X.prog X.w) X.A (call (.builtin "list.append") [.ref D, v]) Q E s := by
  obtain ⟨hz', its, n, ri, e⟩ := I.hok D _ hD
  have hl := ri.length
  refine append_at (hsz := by rw [List.size_toArray]; omega) e fun h' sb ho' => ?_
  refine h { s with heap := h' } (I.write (t' := s.toks) (by rw [hD]; trivial) (.inl rfl) (fun b u hb q => (sb.2 b hb).trans q) ⟨_, ho'⟩ ⟨by rw [List.length_append]; exact hz, its ++ [v], n + 1, ri.append (.cons r .nil), ?_⟩)
  rw [ho']
  simp

/-- a clause's tests -/
def PTs (X : Cx) (ifs : List Expr) (t : TT) : Prop :=
  ∀ (pins : List (Addr × Obj)) (s : Shared) (σ : St) (H : Hp) (Q : Bool → Hp → Prop), Inv X pins σ H s → t σ H Q →
    wpAny (model X.prog X.w) X.A (forIn ifs true fun c r => if r = true then do let ok ← isTrue c X.env (eval c X.env); pure (ForInStep.yield ok) else pure (ForInStep.yield r)) (TP X pins σ Q) X.xe s
def tYes : TT := fun _ H Q => Q true H
theorem pts_nil : PTs X [] tYes := fun _ _ _ H _ I h => wpAny_tests_nil ⟨H, I, h⟩
theorem pts_one {c : Expr} {t : TT} (h : PT X c t) : PTs X [c] t := fun pins s σ H Q I hw => wpAny_tests_one (h pins s σ H Q I hw)
end

theorem thnF {α : Type} {t : Sem α} {Q Q' : α → Shared → Prop} {M : Model} {A : Around} {E : Value → Shared → Prop} {s : Shared} (h : wpAny M A t Q (fun _ _ => False) s) (hQ : ∀ a s, Q a s → Q' a s) : wpAny M A t Q' E s := wpAny_mono h hQ fun _ _ z => False.elim z

/-- the loop of a list comprehension's block, the target of any form (codeAny_compLoop_tests asks a target that no tuple goes to; statement and proof follow it, PyProof/CompMap.lean:41-61, with the step letOwnedTupleGo kept) -/
theorem compLoop_any {prog : Program} {w : World} {A : Around} {R : Result → Shared → Prop} {s : Shared} {elt target iter : Expr} {ifs : List Expr} {scope : Scope} {pos : Pos} {it acc : Value} {env : Env} (I : Nat → Shared → Prop)
    (turn : ∀ n s, I n s → wpAny (model prog w) A (pyNext it) (fun r s₁ => match r with
      | none => R (.ok .next) s₁
      | some v => wpAny (model prog w) A (letOwnedTupleGo target it v) (fun _ s₁' => wpAny (model prog w) A (assign target env v) (fun _ s₂ =>
          wpAny (model prog w) A (forIn ifs true fun c r => if r = true then do let ok ← isTrue c env (eval c env); pure (ForInStep.yield ok) else pure (ForInStep.yield r)) (fun ok s₃ =>
            if ok = true then wpAny (model prog w) A (eval elt env) (fun x s₄ =>
              wpAny (model prog w) A (call (.builtin "list.append") [acc, x]) (fun _ s₅ => ∃ m, m < n ∧ I m s₅) (notedBy (model prog w) A env fun e s' => R (.error e) s') s₄) (notedBy (model prog w) A env fun e s' => R (.error e) s') s₃
            else ∃ m, m < n ∧ I m s₃) (notedBy (model prog w) A env fun e s' => R (.error e) s') s₂) (notedBy (model prog w) A env fun e s' => R (.error e) s') s₁') (notedBy (model prog w) A env fun e s' => R (.error e) s') s₁) (notedBy (model prog w) A env fun e s' => R (.error e) s') s)
    (n : Nat) (h : I n s) :
    codeAny (model prog w) A (.compLoop (.ListComp elt [⟨target, iter, ifs, 0⟩] scope pos) 0 it acc env) R s := by
  refine codeAny_loop rfl I (fun n s hI => ?_) n h
  show wpAny _ A ((compTurn (.ListComp elt [⟨target, iter, ifs, 0⟩] scope pos) 0 it acc env).onRaise (fun x => do noteFrame x env; theTreesLotGoes x)) _ _ s
  refine wpAny_noted ?_
  rw [compTurn_list]
  refine wpAny_bind (wpAny_standAt (wpAny_bind (wpAny_mono (turn n s hI) (fun r s₁ h₁ => ?_) fun _ _ h' => h')))
  cases r with
  | none => exact wpAny_pure h₁
  | some v =>
    refine wpAny_bind (wpAny_mono h₁ (fun _ s₁' h₁' => ?_) fun _ _ h' => h')
    refine wpAny_bind (wpAny_mono h₁' (fun _ s₂ h₂ => wpAny_bind (wpAny_mono h₂ (fun ok s₃ h₃ => ?_) fun _ _ h' => h')) fun _ _ h' => h')
    cases ok with
    | false => exact wpAny_pure ⟨rfl, h₃⟩
    | true =>
      exact wpAny_bind (wpAny_bind (wpAny_mono h₃ (fun x s₄ h₄ => wpAny_bind (wpAny_mono h₄ (fun _ s₅ h₅ => wpAny_pure (wpAny_pure ⟨rfl, h₅⟩)) fun _ _ h' => h')) fun _ _ h' => h'))

section
variable {X : Cx}
/-- [elt for target in iter if ..]: D the new list; W by the turn and a measure, Nx what a turn is to reach -/
def tLc (wi : TI) (g : TG) (tt : TT) (te : TE) (vs : List Nat) : TE := fun σ H Q => wi σ H fun J H1 => ∀ D, H1 D = none → ∃ W : Nat → Nat → Hp → Prop, (∃ m, W 0 m (upd H1 D (.lst []))) ∧ ∀ i m H, W i m H →
  (J.stop i H ∧ Q (.ref D) H) ∨ (J.go i H ∧ ∃ Nx : Hp → Prop, (∀ H', Nx H' → ∃ m', m' < m ∧ W (i + 1) m' H') ∧ ∀ x H', J.yld i H x H' → g x (wipe σ vs) H' fun σ2 H2 => wipe σ2 vs = wipe σ vs ∧ tt σ2 H2 fun b H3 =>
    if b = true then te σ2 H3 fun y H4 => ∃ acc, H4 D = some (.lst acc) ∧ acc.length < sizeLine ∧ Nx (upd H4 D (.lst (acc ++ [y]))) else Nx H3)
theorem lc_core {pins : List (Addr × Obj)} {s : Shared} {σ : St} {H : Hp} {Q : VK} {elt tg iter : Expr} {ifs : List Expr} {scope : Scope} {own : List (Str × Nat)} {pos pos' : Pos} {wi : TI} {g : TG} {tt : TT} {te : TE} {use : Option (Value → Sem Unit)} {Qf : Value → Shared → Prop}
    (hc : X.calm = true) (hN : X.N.Nodup) (I : Inv X pins σ H s) (hi : PI X tg iter wi) (ok : BlkOk X.N X.env.scope scope own)
    (hg : ∀ (s : Shared) (H : Hp) (C : Addr) (cl : List (Str × Addr)) (fp : List Addr), PG (X.blk s H scope (compEnvC scope cl C X.env) fp) tg g) (ht : ∀ (s : Shared) (H : Hp) (C : Addr) (cl : List (Str × Addr)) (fp : List Addr), PTs (X.blk s H scope (compEnvC scope cl C X.env) fp) ifs tt)
    (he : ∀ (s : Shared) (H : Hp) (C : Addr) (cl : List (Str × Addr)) (fp : List Addr), PE (X.blk s H scope (compEnvC scope cl C X.env) fp) elt te) (hs : ∀ x, foldedSetIterable iter X.env x = pure x)
    (h : tLc wi g tt te (own.map (·.2)) σ H Q)
    (hRR : ∀ D C s' m H', Inv X pins σ H' s' → Q (.ref D) H' → s'.heap.Ns C m → FpOk X pins H' C → compPost (model X.prog X.w) X.A X.xe use Qf (.ref D) C (.ok .next) s') :
    wpAny (model X.prog X.w) X.A (comprehension (.ListComp elt [⟨tg, iter, ifs, 0⟩] scope pos) scope X.env pos' (newList []) false (eval iter X.env) use) Qf X.xe s := by
  have hfree : ∀ y ∈ scope.names, y.2 = .free → ∃ c, X.env.cells.lookup y.1 = some c := fun y hy e => by
    rcases ok.free y hy e with k | k
    · exact I.ok.has _ (.inl k)
    · exact I.ok.has _ (.inr k)
  refine wpAny_comprehension_free (use := use) rfl hs (closure_ok hfree) ok.kind (fun y hy e => by rw [ok.uniq y hy, e])
    (thn (hi pins s σ H _ I h) fun xv s1 hx => thn hx fun itv s2 h2 => ?_)
  obtain ⟨it, fp, tn, J, H2, e, I2, T, st2, f2, q⟩ := h2
  subst e
  refine wpAny_newObj_type (newEnv_comp ?_) (by show 0 ≤ sizeLine; decide)
  generalize hD : s2.heap.objs.size = D
  have hDn : H2 D = none := I2.hok.fresh (Nat.le_of_eq hD)
  obtain ⟨W, ⟨m0, w0⟩, turn⟩ := q D hDn
  -- the new list
  generalize hs3 : ({ s2 with heap := s2.heap.push { cls := .type "list", data := .seq ([] : List Value).toArray } } : Shared) = s3
  have I3 : Inv X pins σ (upd H2 D (.lst [])) s3 := by
    rw [← hs3]
    refine I2.laid (t' := s2.toks) (fun b o e => Heap.get?_push_of_some _ e) (Nat.le_of_eq hD) ⟨Nat.zero_le _, [], 0, .nil, ?_⟩
    rw [← hD]
    exact Heap.get?_push_size _ rfl
  have h3 : s3.heap = s2.heap.push { cls := .type "list", data := .seq ([] : List Value).toArray } := by rw [← hs3]
  have sz : ∀ b ∈ fp, b < s2.heap.objs.size := fun b hb => by
    obtain ⟨o, e, _⟩ := T.obj _ _ st2 b hb
    exact Heap.lt_size e
  have f3 : ∀ b ∈ fp, FpOk X pins (upd H2 D (.lst [])) b ∧ b < s3.heap.objs.size := fun b hb => by
    have hlt := sz b hb
    refine ⟨⟨?_, (f2 b hb).2⟩, by rw [h3, Heap.size_push]; exact Nat.lt_succ_of_lt hlt⟩
    rw [upd_ne (by rw [← hD]; exact Nat.ne_of_lt hlt)]
    exact (f2 b hb).1
  have st3 : tn 0 s3.heap := T.keep _ _ _ st2 fun b _ o e => by rw [h3]; exact Heap.get?_push_of_some _ e
  have I4 := block_start I3 ok hN f3
  have pg := hg s3 (upd H2 D (.lst [])) s3.heap.objs.size (cellsFrom (s3.heap.objs.size + 1) scope.names (cloFrom X.env.cells scope.names [])) fp
  have pt := ht s3 (upd H2 D (.lst [])) s3.heap.objs.size (cellsFrom (s3.heap.objs.size + 1) scope.names (cloFrom X.env.cells scope.names [])) fp
  have pe := he s3 (upd H2 D (.lst [])) s3.heap.objs.size (cellsFrom (s3.heap.objs.size + 1) scope.names (cloFrom X.env.cells scope.names [])) fp
  show codeAny _ _ (.compStart (.ListComp elt [⟨tg, iter, ifs, 0⟩] scope pos) 0 (.ref it) (.ref D) (compEnvC scope (cellsFrom (s3.heap.objs.size + 1) scope.names (cloFrom X.env.cells scope.names [])) s3.heap.objs.size X.env)) (compPost (model X.prog X.w) X.A X.xe use Qf (.ref D) s3.heap.objs.size) { s3 with heap := pushCells (s3.heap.push { cls := .type "dict", data := .dict #[] }) scope.names }
  have nfp : ∀ b ∈ fp, (upd H2 D (.lst [])) b = none := fun b hb => (f3 b hb).1.1
  generalize hce : compEnvC scope (cellsFrom (s3.heap.objs.size + 1) scope.names (cloFrom X.env.cells scope.names [])) s3.heap.objs.size X.env = ce at I4 pg pt pe ⊢
  have cL : ce.locals = s3.heap.objs.size := by subst hce; rfl
  generalize hH3 : upd H2 D (.lst []) = H3 at I3 I4 pg pt pe w0 nfp f3
  generalize hs4 : ({ s3 with heap := pushCells (s3.heap.push { cls := .type "dict", data := .dict #[] }) scope.names } : Shared) = s4 at I4 ⊢
  have st4 : tn 0 s4.heap := T.keep _ _ _ st3 fun b _ o e => by rw [← hs4]; exact pushCells_keeps _ _ _ _ (Heap.get?_push_of_some _ e)
  have stat : ∀ {σ' : St} {H' : Hp} {s' : Shared}, Inv (X.blk s3 H3 scope ce fp) [] σ' H' s' → (∀ b ∈ fp, H' b = none) → ∀ b ∈ fp, FpOk (X.blk s3 H3 scope ce fp) [] H' b := fun {σ' H' s'} I' hn b hb =>
    ⟨hn b hb, (I'.ok.exf b hb).1, I'.ok.exfs b hb, .inl hb, fun x c e => (I'.ok.exf b hb).2 x c e, fun p hp => absurd (show p ∈ ([] : List (Addr × Obj)) ++ [] from hp) (by simp)⟩
  have loop : codeAny (model X.prog X.w) X.A (.compLoop (.ListComp elt [⟨tg, iter, ifs, 0⟩] scope pos) 0 (.ref it) (.ref D) ce) (compPost (model X.prog X.w) X.A X.xe use Qf (.ref D) s3.heap.objs.size) s4 := by
    refine compLoop_any (fun n s' => ∃ i H', Inv (X.blk s3 H3 scope ce fp) [] (wipe σ (own.map (·.2))) H' s' ∧ tn i s'.heap ∧ (∀ b ∈ fp, H' b = none) ∧ W i n H') ?_ m0 ⟨0, H3, I4, st4, nfp, w0⟩
    rintro n s5 ⟨i, H5, I5, st5, n5, w5⟩
    rcases turn i n H5 w5 with ⟨stop, qq⟩ | ⟨go, Nx, hNx, step⟩
    · have td := T.done (X.blk s3 H3 scope ce fp) rfl rfl rfl hc i [] s5 _ H5 (fun _ _ => False) I5 (stat I5 n5) st5 stop
      refine thnF td fun r s6 ⟨hr, I6⟩ => ?_
      subst hr
      -- back in the def's context
      have I7 : Inv X pins σ H5 s6 := I3.call' (ch := fp) I6.os I6.base I6.hok (Bare2.trans I3.bare I6.bare) fun b hb => ⟨(f3 b hb).1.2.2.2.1, (f3 b hb).1.2.1, (f3 b hb).1.2.2.2.2.1, (f3 b hb).1.2.2.2.2.2⟩
      have nC : H5 s3.heap.objs.size = none := by
        have z : H5 ce.locals = none := I6.free
        rw [cL] at z
        exact z
      obtain ⟨m, hn, _⟩ := I6.loc
      have hn : s6.heap.Ns ce.locals m := hn
      rw [cL] at hn
      exact hRR D s3.heap.objs.size s6 m H5 I7 qq hn (I3.fpOk (Nat.le_refl _) nC)
    · have ti := T.item (X.blk s3 H3 scope ce fp) rfl rfl rfl hc i [] s5 _ H5 (fun _ _ => False) I5 (stat I5 n5) st5 go
      refine thnF ti fun r s6 ⟨u, hr, h6⟩ => ?_
      subst hr
      refine thnF h6 fun _ s7 ⟨x, H7, I7, r7, y7, st7, n7⟩ => ?_
      have I7' := I7.pinned (stat I7 n7) (T.obj _ _ st7)
      refine thnF (pg _ s7 _ H7 x u _ I7' r7 (step x H7 y7)) fun _ s8 ⟨σ8, H8, I8, hw8, q8⟩ => ?_
      refine thnF (pt _ s8 σ8 H8 _ I8 q8) fun b s9 ⟨H9, I9, q9⟩ => ?_
      -- the turn's end
      have fin : ∀ {s' : Shared} {H' : Hp}, Inv (X.blk s3 H3 scope ce fp) ([] ++ pinsAt fp s7.heap) σ8 H' s' → Nx H' → ∃ m, m < n ∧ ∃ i H', Inv (X.blk s3 H3 scope ce fp) [] (wipe σ (own.map (·.2))) H' s' ∧ tn i s'.heap ∧ (∀ b ∈ fp, H' b = none) ∧ W i m H' := fun {s' H'} I' nx => by
        obtain ⟨m', hm, w'⟩ := hNx H' nx
        have pin' : ∀ b ∈ fp, ∀ o, s7.heap.get? b = some o → s'.heap.get? b = some o ∧ H' b = none := fun b hb o e =>
          let z := I'.pin (b, o) (List.mem_append_right _ (List.mem_append_right _ (mem_pinsAt hb e)))
          ⟨z.1, z.2.1⟩
        have hl : (wipe σ (own.map (·.2))).length = σ8.length := by rw [← hw8, wipe_length]
        refine ⟨m', hm, i + 1, H', (I'.unpinned (pins := [])).weak hl (fun j v e => ?_), T.keep _ _ _ st7 fun b hb o e => (pin' b hb o e).1, fun b hb => ?_, w'⟩
        · rw [← hw8] at e
          exact (wipe_some e).1
        · obtain ⟨o, e, _⟩ := T.obj _ _ st7 b hb
          exact (pin' b hb o e).2
      cases b with
      | false =>
        simp only [Bool.false_eq_true, if_false] at q9 ⊢
        exact fin I9 q9
      | true =>
        simp only [if_true] at q9 ⊢
        refine thnF (pe _ s9 σ8 H9 _ I9 q9) fun z s10 ⟨yv, H10, I10, r10, acc, hD10, hz10, nx⟩ => ?_
        exact app_ok (X := X.blk s3 H3 scope ce fp) I10 hD10 hz10 r10 fun s11 I11 => fin I11 nx
  exact codeAny_compStart_list loop (T.self X.A 0 _ _ _ st4 loop)
/-- as a value -/
theorem pe_lc {elt tg iter : Expr} {ifs : List Expr} {scope : Scope} {own : List (Str × Nat)} {pos : Pos} {wi : TI} {g : TG} {tt : TT} {te : TE} (hc : X.calm = true) (hN : X.N.Nodup) (hi : PI X tg iter wi) (ok : BlkOk X.N X.env.scope scope own)
    (hg : ∀ (s : Shared) (H : Hp) (C : Addr) (cl : List (Str × Addr)) (fp : List Addr), PG (X.blk s H scope (compEnvC scope cl C X.env) fp) tg g) (ht : ∀ (s : Shared) (H : Hp) (C : Addr) (cl : List (Str × Addr)) (fp : List Addr), PTs (X.blk s H scope (compEnvC scope cl C X.env) fp) ifs tt)
    (he : ∀ (s : Shared) (H : Hp) (C : Addr) (cl : List (Str × Addr)) (fp : List Addr), PE (X.blk s H scope (compEnvC scope cl C X.env) fp) elt te) (hs : ∀ x, foldedSetIterable iter X.env x = pure x := by intro _; rfl) :
    PE X (.ListComp elt [⟨tg, iter, ifs, 0⟩] scope pos) (tLc wi g tt te (own.map (·.2))) := by
  intro pins s σ H Q I h
  rw [eval_ListComp]
  refine lc_core hc hN I hi ok hg ht he hs h fun D C s' m H' I' q hn f => ⟨m, hn, fun h'' sb => ?_⟩
  obtain ⟨f0, f1, f2, f3, f4, f5⟩ := f
  exact ⟨.ref D, H', I'.turned (t' := s'.toks) (fun b o hb e => (sb.2 b hb).trans e) f0 f1 f3 f4 f5, rfl, q⟩
/-- name = [..] on one line, the name a local -/
theorem ps_setLc {i : Nat} {y : Str} {py : Pos} {elt tg iter : Expr} {ifs : List Expr} {scope : Scope} {own : List (Str × Nat)} {pos spos : Pos} {wi : TI} {g : TG} {tt : TT} {te : TE} (hc : X.calm = true) (hN : X.N.Nodup) (hy : X.N[i]? = some y) (hyl : X.env.scope.names.lookup y = some .local)
    (hsw : swapsWith (.ListComp elt [⟨tg, iter, ifs, 0⟩] scope pos) (some (.Name y py)) spos.line X.env = pure true) (hi : PI X tg iter wi) (ok : BlkOk X.N X.env.scope scope own)
    (hg : ∀ (s : Shared) (H : Hp) (C : Addr) (cl : List (Str × Addr)) (fp : List Addr), PG (X.blk s H scope (compEnvC scope cl C X.env) fp) tg g) (ht : ∀ (s : Shared) (H : Hp) (C : Addr) (cl : List (Str × Addr)) (fp : List Addr), PTs (X.blk s H scope (compEnvC scope cl C X.env) fp) ifs tt)
    (he : ∀ (s : Shared) (H : Hp) (C : Addr) (cl : List (Str × Addr)) (fp : List Addr), PE (X.blk s H scope (compEnvC scope cl C X.env) fp) elt te) (hs : ∀ x, foldedSetIterable iter X.env x = pure x := by intro _; rfl) :
    PS X (.Assign [.Name y py] (.ListComp elt [⟨tg, iter, ifs, 0⟩] scope pos) spos) (tAsg (tLc wi g tt te (own.map (·.2))) (gName i)) := by
  intro pins s σ H D I h
  rw [exec_Assign_Name_used _ _ _ _ hsw]
  refine wpAny_bind (wpAny_standAt (wpAny_bind ?_))
  show wpAny _ X.A (do let _ ← comprehension (.ListComp elt [⟨tg, iter, ifs, 0⟩] scope pos) scope X.env (firstIterPos [⟨tg, iter, ifs, 0⟩] pos) (newList []) false (eval iter X.env) (some (assign (.Name y py) X.env))) _ _ s
  have h : tLc wi g tt te (own.map (·.2)) σ H (fun x H1 => gName i x σ H1 D.nx) := h
  refine wpAny_bind (thn (lc_core (Qf := fun _ s' => SP X pins D .next s') hc hN I hi ok hg ht he hs h fun L C s' m H' I' q hn f => ?_) fun _ s' hq => wpAny_pure (wpAny_pure hq))
  show wpAny _ _ (assign (.Name y py) X.env (.ref L)) _ _ _
  refine wpAny_assign_Name (store_ok2 (v := V.ref L) I' hN hy (.inl hyl) rfl (fun s2 I2 ⟨a, sb, ha⟩ => ?_) (.inr hyl))
  obtain ⟨f0, f1, f2, f3, f4, f5⟩ := f
  have haC : C ≠ a := by
    rcases ha with z | z
    · rw [z]; exact f1
    · exact fun e => f4 y a z e.symm
  refine ⟨m, hn.sameBut sb haC, fun h3 sb3 => ?_⟩
  exact ⟨_, H', I2.turned (t' := s2.toks) (fun b o hb e => (sb3.2 b hb).trans e) f0 f1 f3 f4 f5, q⟩
theorem sw_true {elt : Expr} {gs : List Comprehension} {scope : Scope} {pos py : Pos} {y : Str} {l : Nat} {env : Env} (hk : env.scope.kind = .function) (hy : env.scope.names.lookup y = some .local) (hl : (py.line == pos.line) = true)
    (ha : (scope.names.any fun (n, k) => n == y && (k == .local || k == .cell)) = false) : swapsWith (.ListComp elt gs scope pos) (some (.Name y py)) l env = pure true := by
  have ky : env.kindOf y = some .local := hy
  have hb : env.blockKind = .function := by unfold Env.blockKind; rw [hk]; rfl
  unfold swapsWith
  simp only [hb, ky, ha, Expr.pos, hl]
  rfl
end

/-! ### the forms one uses -/
/-- over a range: Pv by the turn and the heap (the new list at D within) -/
theorem lc_range {lo : Int} {n : Nat} {g : TG} {tt : TT} {te : TE} {vs : List Nat} {σ : St} {H1 : Hp} {D : Addr} {Qd : Hp → Prop} (Pv : Nat → Hp → Prop) (h0 : Pv 0 (upd H1 D (.lst [])))
    (hs : ∀ i H, i < n → Pv i H → g (.int (lo + i)) (wipe σ vs) H fun σ2 H2 => wipe σ2 vs = wipe σ vs ∧ tt σ2 H2 fun b H3 =>
      if b = true then te σ2 H3 fun y H4 => ∃ acc, H4 D = some (.lst acc) ∧ acc.length < sizeLine ∧ Pv (i + 1) (upd H4 D (.lst (acc ++ [y]))) else Pv (i + 1) H3) (hd : ∀ H, Pv n H → Qd H) :
    ∃ W : Nat → Nat → Hp → Prop, (∃ m, W 0 m (upd H1 D (.lst []))) ∧ ∀ i m H, W i m H →
      ((Itr lo n).stop i H ∧ Qd H) ∨ ((Itr lo n).go i H ∧ ∃ Nx : Hp → Prop, (∀ H', Nx H' → ∃ m', m' < m ∧ W (i + 1) m' H') ∧ ∀ x H', (Itr lo n).yld i H x H' → g x (wipe σ vs) H' fun σ2 H2 => wipe σ2 vs = wipe σ vs ∧ tt σ2 H2 fun b H3 =>
        if b = true then te σ2 H3 fun y H4 => ∃ acc, H4 D = some (.lst acc) ∧ acc.length < sizeLine ∧ Nx (upd H4 D (.lst (acc ++ [y]))) else Nx H3) := by
  refine ⟨fun i m H => m = n - i ∧ i ≤ n ∧ Pv i H, ⟨n, by simp, Nat.zero_le _, h0⟩, ?_⟩
  rintro i m H ⟨rfl, hi, p⟩
  by_cases hlt : i < n
  · refine .inr ⟨hlt, Pv (i + 1), fun H' p' => ⟨n - (i + 1), by omega, rfl, hlt, p'⟩, fun x H' y => ?_⟩
    obtain ⟨e, y⟩ := y
    subst e y
    exact hs i _ hlt p
  · have e : i = n := by omega
    subst e
    exact .inl ⟨Nat.le_refl _, hd H p⟩
/-- over a list that the block leaves as it is -/
theorem lc_list {K : PySem.W.Frag} {a : Addr} {xs : List V} {g : TG} {tt : TT} {te : TE} {vs : List Nat} {σ : St} {H1 : Hp} {D : Addr} {Qd : Hp → Prop} (Pv : Nat → Hp → Prop) (h0 : Pv 0 (upd H1 D (.lst []))) (hl : ∀ i H, i ≤ xs.length → Pv i H → SqL K H a xs)
    (hs : ∀ i x H, xs[i]? = some x → Pv i H → g x (wipe σ vs) H fun σ2 H2 => wipe σ2 vs = wipe σ vs ∧ tt σ2 H2 fun b H3 =>
      if b = true then te σ2 H3 fun y H4 => ∃ acc, H4 D = some (.lst acc) ∧ acc.length < sizeLine ∧ Pv (i + 1) (upd H4 D (.lst (acc ++ [y]))) else Pv (i + 1) H3) (hd : ∀ H, Pv xs.length H → Qd H) :
    ∃ W : Nat → Nat → Hp → Prop, (∃ m, W 0 m (upd H1 D (.lst []))) ∧ ∀ i m H, W i m H →
      ((Itl K a).stop i H ∧ Qd H) ∨ ((Itl K a).go i H ∧ ∃ Nx : Hp → Prop, (∀ H', Nx H' → ∃ m', m' < m ∧ W (i + 1) m' H') ∧ ∀ x H', (Itl K a).yld i H x H' → g x (wipe σ vs) H' fun σ2 H2 => wipe σ2 vs = wipe σ vs ∧ tt σ2 H2 fun b H3 =>
        if b = true then te σ2 H3 fun y H4 => ∃ acc, H4 D = some (.lst acc) ∧ acc.length < sizeLine ∧ Nx (upd H4 D (.lst (acc ++ [y]))) else Nx H3) := by
  refine ⟨fun i m H => m = xs.length - i ∧ i ≤ xs.length ∧ Pv i H, ⟨xs.length, by simp, Nat.zero_le _, h0⟩, ?_⟩
  rintro i m H ⟨rfl, hi, p⟩
  have q := hl i H hi p
  by_cases hlt : i < xs.length
  · refine .inr ⟨⟨xs, xs[i], q, by simp [hlt]⟩, Pv (i + 1), fun H' p' => ⟨xs.length - (i + 1), by omega, rfl, hlt, p'⟩, fun x H' y => ?_⟩
    obtain ⟨e, y⟩ := y
    subst e
    exact hs i x _ (y xs q) p
  · have e : i = xs.length := by omega
    subst e
    exact .inl ⟨⟨xs, q, Nat.le_refl _⟩, hd H p⟩
def blkC (N : List Str) (sc scope : Scope) (own : List (Str × Nat)) : Bool :=
  (match scope.kind with | .function => true | _ => false) && (scope.names.all fun y => decide (scope.names.lookup y.1 = some y.2)) && (own.all fun p => decide (N[p.2]? = some p.1)) &&
    (scope.names.all fun y => match y.2 with
      | .free => (match sc.names.lookup y.1 with | some .cell => true | some .free => true | _ => false)
      | .local => decide (y.1 ∈ own.map (·.1)) || decide (y.1 ∉ N)
      | .cell => decide (y.1 ∈ own.map (·.1)) || decide (y.1 ∉ N)
      | _ => true)
theorem blkOk_by {N : List Str} {sc scope : Scope} {own : List (Str × Nat)} (h : blkC N sc scope own = true) : BlkOk N sc scope own := by
  unfold blkC at h
  simp only [Bool.and_eq_true, List.all_eq_true, decide_eq_true_eq] at h
  obtain ⟨⟨⟨h1, h2⟩, h3⟩, h4⟩ := h
  refine ⟨?_, h2, h3, fun y hy e => ?_, fun y hy e => ?_⟩
  · split at h1
    · assumption
    · cases h1
  · have q := h4 y hy
    simp only [e] at q
    split at q <;> first | exact .inl (by assumption) | exact .inr (by assumption) | cases q
  · have q := h4 y hy
    rcases e with e | e <;> (simp only [e, Bool.or_eq_true, decide_eq_true_eq] at q; exact q)
end L2

namespace L2
open PySem PySem.Spec PyProof.Rows

section
variable {prog : Program} {w : World} {A : Around} {R : Result → Shared → Prop} {s : Shared} {elt t0 i0 t1 i1 : Expr} {ifs0 ifs1 : List Expr} {scope : Scope} {pos : Pos} {it acc : Value} {env : Env}
end

section
variable {X : Cx}
end
end L2

namespace L2
open PySem PySem.Spec PyProof.Rows

/-! ### lists of pairs as tables -/
section
variable {κ : Type} [DecidableEq κ]
def valV (kvs : List (κ × V)) (k : κ) : Option V := (kvs.find? fun kv => decide (kv.1 = k)).map (·.2)
/-- in its place, or at the end -/
def putK (kvs : List (κ × V)) (k : κ) (v : V) : List (κ × V) :=
  if (kvs.any fun kv => decide (kv.1 = k)) = true then kvs.map (fun kv => if kv.1 = k then (kv.1, v) else kv) else kvs ++ [(k, v)]
def dropK (kvs : List (κ × V)) (k : κ) : List (κ × V) := kvs.filter fun kv => decide (kv.1 ≠ k)

theorem valV_nil {k : κ} : valV ([] : List (κ × V)) k = none := rfl
theorem valV_pos {p : κ × V} {r : List (κ × V)} {k : κ} (e : p.1 = k) : valV (p :: r) k = some p.2 := by simp [valV, List.find?_cons, e]
theorem valV_neg {p : κ × V} {r : List (κ × V)} {k : κ} (e : ¬ p.1 = k) : valV (p :: r) k = valV r k := by simp [valV, List.find?_cons, e]
theorem valV_any (k : κ) : ∀ kvs : List (κ × V), (kvs.any fun kv => decide (kv.1 = k)) = (valV kvs k).isSome
  | [] => rfl
  | p :: r => by
    rw [List.any_cons]
    by_cases e : p.1 = k
    · simp only [valV_pos e, decide_eq_true e, Bool.true_or, Option.isSome_some]
    · rw [valV_neg e, decide_eq_false e, Bool.false_or]; exact valV_any k r
theorem valV_map (k j : κ) (y : V) : ∀ kvs : List (κ × V), valV (kvs.map fun kv => if kv.1 = k then (kv.1, y) else kv) j = (valV kvs j).map fun x => if j = k then y else x
  | [] => rfl
  | p :: r => by
    have ih := valV_map k j y r
    rw [List.map_cons]
    by_cases h : p.1 = k
    · rw [if_pos h]
      by_cases e : p.1 = j
      · rw [valV_pos (p := (p.1, y)) e, valV_pos e, Option.map_some, if_pos (e.symm.trans h)]
      · rw [valV_neg (p := (p.1, y)) e, valV_neg e, ih]
    · rw [if_neg h]
      by_cases e : p.1 = j
      · rw [valV_pos (p := p) e, valV_pos e, Option.map_some, if_neg (fun z => h (e.trans z))]
      · rw [valV_neg (p := p) e, valV_neg e, ih]
theorem valV_snoc (k j : κ) (y : V) : ∀ kvs : List (κ × V), valV kvs k = none → valV (kvs ++ [(k, y)]) j = if j = k then some y else valV kvs j
  | [], _ => by
    by_cases e : k = j
    · rw [if_pos e.symm]; exact valV_pos (p := (k, y)) e
    · rw [if_neg (fun z => e z.symm)]; exact valV_neg (p := (k, y)) e
  | p :: r, hn => by
    rw [List.cons_append]
    have hk : ¬ p.1 = k := fun z => by rw [valV_pos z] at hn; cases hn
    rw [valV_neg hk] at hn
    have ih := valV_snoc k j y r hn
    by_cases e : p.1 = j
    · rw [valV_pos e, valV_pos e, if_neg (fun z => hk (e.trans z))]
    · rw [valV_neg e, valV_neg e, ih]
theorem valV_put (kvs : List (κ × V)) (k j : κ) (y : V) : valV (putK kvs k y) j = if j = k then some y else valV kvs j := by
  unfold putK
  by_cases a : (kvs.any fun kv => decide (kv.1 = k)) = true
  · rw [if_pos a, valV_map]
    rw [valV_any] at a
    by_cases e : j = k
    · obtain ⟨x, hx⟩ := Option.isSome_iff_exists.mp a
      rw [if_pos e, e, hx, Option.map_some, if_pos rfl]
    · rw [if_neg e]
      cases valV kvs j with
      | none => rfl
      | some x => rw [Option.map_some, if_neg e]
  · rw [if_neg a]
    refine valV_snoc k j y kvs ?_
    rw [valV_any] at a
    cases q : valV kvs k with
    | none => rfl
    | some x => rw [q] at a; exact (a rfl).elim
theorem length_putK (kvs : List (κ × V)) (k : κ) (v : V) : (putK kvs k v).length ≤ kvs.length + 1 := by
  unfold putK
  split
  · rw [List.length_map]; omega
  · rw [List.length_append, List.length_cons, List.length_nil]; omega
theorem putK_new {kvs : List (κ × V)} {k : κ} (v : V) (h : valV kvs k = none) : putK kvs k v = kvs ++ [(k, v)] := by
  unfold putK
  rw [valV_any, h]
  exact if_neg (by decide)

theorem RelO.isSome_eq {o : Option V} {u : Option Value} (r : RelO o u) : o.isSome = u.isSome := by
  cases o with
  | none => cases u with
    | none => rfl
    | some _ => exact (show False from r).elim
  | some _ => cases u with
    | none => exact (show False from r).elim
    | some _ => rfl
theorem RelO.getD {o : Option V} {u : Option Value} {d : V} {d' : Value} (r : RelO o u) (rd : RelV d d') : RelV (o.getD d) (u.getD d') := by
  cases o with
  | none => cases u with
    | none => exact rd
    | some _ => exact (show False from r).elim
  | some _ => cases u with
    | none => exact (show False from r).elim
    | some _ => exact r

/-- raw tables of the same keys -/
theorem KV.val {kvs : List (κ × V)} {vs : List (κ × Value)} (r : KV kvs vs) (k : κ) : RelO (valV kvs k) (valueAt vs k) := by
  unfold KV at r
  induction r with
  | nil => exact True.intro
  | @cons p q ps qs h t ih =>
    obtain ⟨h1, h2⟩ := h
    by_cases e : p.1 = k
    · have e' : q.1 = k := h1.symm.trans e
      have b : valueAt (q :: qs) k = some q.2 := by simp [valueAt, List.find?_cons, e']
      rw [valV_pos e, b]; exact h2
    · have e' : ¬ q.1 = k := fun z => e (h1.trans z)
      have b : valueAt (q :: qs) k = valueAt qs k := by simp [valueAt, List.find?_cons, e']
      rw [valV_neg e, b]; exact ih
theorem KV.any {kvs : List (κ × V)} {vs : List (κ × Value)} (r : KV kvs vs) (k : κ) : (kvs.any fun kv => decide (kv.1 = k)) = vs.any fun kv => decide (kv.1 = k) := by
  unfold KV at r
  induction r with
  | nil => rfl
  | cons h t ih => rw [List.any_cons, List.any_cons, ih, h.1]
theorem KV.repl {kvs : List (κ × V)} {vs : List (κ × Value)} (r : KV kvs vs) (k : κ) {y : V} {u : Value} (ry : RelV y u) :
    KV (kvs.map fun kv => if kv.1 = k then (kv.1, y) else kv) (vs.map fun kv => if kv.1 = k then (kv.1, u) else kv) := by
  unfold KV at r ⊢
  induction r with
  | nil => exact .nil
  | @cons p q ps qs h t ih =>
    rw [List.map_cons, List.map_cons]
    refine .cons ?_ ih
    obtain ⟨h1, h2⟩ := h
    by_cases e : p.1 = k
    · rw [if_pos e, if_pos (h1.symm.trans e)]; exact ⟨h1, ry⟩
    · rw [if_neg e, if_neg (fun z => e (h1.trans z))]; exact ⟨h1, h2⟩
theorem KV.put {kvs : List (κ × V)} {vs : List (κ × Value)} (r : KV kvs vs) (k : κ) {y : V} {u : Value} (ry : RelV y u) : KV (putK kvs k y) (stored vs k u) := by
  unfold putK stored
  rw [r.any k]
  by_cases e : (vs.any fun kv => decide (kv.1 = k)) = true
  · rw [if_pos e, if_pos e]; exact r.repl k ry
  · rw [if_neg e, if_neg e]; exact Paired.snoc r ⟨rfl, ry⟩
theorem KV.drop {kvs : List (κ × V)} {vs : List (κ × Value)} (r : KV kvs vs) (k : κ) : KV (dropK kvs k) (without vs k) := by
  unfold KV at r ⊢
  unfold dropK without
  induction r with
  | nil => exact .nil
  | @cons p q ps qs h t ih =>
    obtain ⟨h1, h2⟩ := h
    rw [List.filter_cons, List.filter_cons]
    by_cases e : p.1 = k
    · have a : ¬ decide (p.1 ≠ k) = true := by simp [e]
      have b : ¬ decide (q.1 ≠ k) = true := by simp [h1.symm.trans e]
      rw [if_neg a, if_neg b]; exact ih
    · have e' : ¬ q.1 = k := fun z => e (h1.trans z)
      have a : decide (p.1 ≠ k) = true := by simp [e]
      have b : decide (q.1 ≠ k) = true := by simp [e']
      rw [if_pos a, if_pos b]; exact .cons ⟨h1, h2⟩ ih
theorem KV.keys {kvs : List (κ × V)} {vs : List (κ × Value)} (r : KV kvs vs) : kvs.map (·.1) = vs.map (·.1) := by
  unfold KV at r
  induction r with
  | nil => rfl
  | cons h t ih => rw [List.map_cons, List.map_cons, ih, h.1]
theorem KV.length {kvs : List (κ × V)} {vs : List (κ × Value)} (r : KV kvs vs) : kvs.length = vs.length := Paired.length r
end


/-! ### a tracked dict, its keys ints and texts or tuples of these -/
theorem kV_is {P : Program} {w : World} {k : Key} {u : Value} (r : RelV (kV k) u) : (mixKind P w).is k u = true := by
  cases k with
  | inl i => obtain ⟨t, e⟩ := (show ∃ t, u = Value.int i t from r); subst e; exact mixKind_int P w i t
  | inr x => obtain ⟨t, e⟩ := (show ∃ t, u = Value.str x t from r); subst e; exact mixKind_str P w x t
theorem items_are {P : Program} {w : World} : ∀ {ks : List Key} {us : List Value}, Vals (ks.map kV) us → ItemsAre (mixKind P w) ks us
  | [], _, r => by rw [List.map_nil] at r; cases r; exact .nil
  | k :: ks, _, r => by
    rw [List.map_cons] at r
    cases r with
    | cons h t => exact .cons (kV_is h) (items_are t)

/-- raw entries of a dict with tuple keys -/
abbrev KT (H : Hp) : List (List Key × V) → List (List Key × Addr × Value) → Prop := Paired fun p q => p.1 = q.1 ∧ H q.2.1 = some (.tup (p.1.map kV)) ∧ RelV p.2 q.2.2
theorem KT.val {H : Hp} {kvs : List (List Key × V)} {xs : List (List Key × Addr × Value)} (r : KT H kvs xs) (k : List Key) : RelO (valV kvs k) ((atKey xs k).map (·.2)) := by
  induction r with
  | nil => exact True.intro
  | @cons p q ps qs h t ih =>
    obtain ⟨h1, _, h2⟩ := h
    by_cases e : p.1 = k
    · have e' : q.1 = k := h1.symm.trans e
      have b : atKey (q :: qs) k = some q.2 := by simp [atKey, List.find?_cons, e']
      rw [valV_pos e, b]; exact h2
    · have e' : ¬ q.1 = k := fun z => e (h1.trans z)
      have b : atKey (q :: qs) k = atKey qs k := by simp [atKey, List.find?_cons, e']
      rw [valV_neg e, b]; exact ih
theorem KT.repl {H : Hp} {kvs : List (List Key × V)} {xs : List (List Key × Addr × Value)} (r : KT H kvs xs) (k : List Key) {y : V} {u : Value} (ry : RelV y u) :
    KT H (kvs.map fun kv => if kv.1 = k then (kv.1, y) else kv) (xs.map (putAt k u)) := by
  induction r with
  | nil => exact .nil
  | @cons p q ps qs h t ih =>
    rw [List.map_cons, List.map_cons]
    refine .cons ?_ ih
    obtain ⟨h1, h2, h3⟩ := h
    unfold putAt
    by_cases e : p.1 = k
    · rw [if_pos e, if_pos (h1.symm.trans e)]; exact ⟨h1, h2, ry⟩
    · rw [if_neg e, if_neg (fun z => e (h1.trans z))]; exact ⟨h1, h2, h3⟩
theorem KT.put {H : Hp} {kvs : List (List Key × V)} {xs : List (List Key × Addr × Value)} (r : KT H kvs xs) (k : List Key) {b : Addr} {y : V} {u : Value} (hb : H b = some (.tup (k.map kV))) (ry : RelV y u) :
    KT H (putK kvs k y) (storedH xs k b u) := by
  have e : (kvs.any fun kv => decide (kv.1 = k)) = (atKey xs k).isSome := by
    rw [valV_any, (r.val k).isSome_eq, Option.isSome_map]
  unfold putK storedH
  rw [e]
  by_cases q : (atKey xs k).isSome = true
  · rw [if_pos q, if_pos q]; exact r.repl k ry
  · rw [if_neg q, if_neg q]; exact Paired.snoc r ⟨rfl, hb, ry⟩
theorem KT.keeps {H H' : Hp} {kvs : List (List Key × V)} {xs : List (List Key × Addr × Value)} (r : KT H kvs xs) (ht : ∀ b ys, H b = some (.tup ys) → H' b = some (.tup ys)) : KT H' kvs xs :=
  Paired.mapP r fun _ _ z => ⟨z.1, ht _ _ z.2.1, z.2.2⟩

section
variable {P : Program} {w : World} {H : Hp} {h : Heap} {a : Addr}
theorem rd_of {u : HO} (ok : HOk P w H h) (e : Rd H a u) : ObjOk P w H h a u := e.ok ok
theorem dk_rd {kvs : List (Key × V)} (ok : HOk P w H h) (e : Rd H a (.dK kvs)) : kvs.length ≤ sizeLine ∧ (a == sysModules) = false ∧ ∃ vs, KV kvs vs ∧ h.DictOf (mixKind P w) a vs :=
  show ObjOk P w H h a (.dK kvs) from rd_of ok e
theorem dk_of {kvs : List (Key × V)} (ok : HOk P w H h) (e : H a = some (.dK kvs)) : kvs.length ≤ sizeLine ∧ (a == sysModules) = false ∧ ∃ vs, KV kvs vs ∧ h.DictOf (mixKind P w) a vs := dk_rd ok (.inl e)
/-- a tracked tuple of ints and texts is a key -/
theorem key_of {ks : List Key} (ok : HOk P w H h) (e : H a = some (.tup (ks.map kV))) : (tupleKind (mixKind P w)).is h ks a := by
  obtain ⟨_, its, r, o, h1, h2, n, h3⟩ := (show ObjOk P w H h a (.tup (ks.map kV)) from ok a _ e)
  exact ⟨o, its.toArray, n, h1, h2, h3, by simpa using items_are r⟩
theorem dt_rd {kvs : List (List Key × V)} (ok : HOk P w H h) (e : Rd H a (.dT kvs)) : kvs.length ≤ sizeLine ∧ (a == sysModules) = false ∧
    ∃ xs, KT H kvs xs ∧ h.DictOfH (tupleKind (mixKind P w)) a xs := by
  obtain ⟨z, y, xs, r, o, es, ep, h1, h2, h3, h4, h5⟩ := (show ObjOk P w H h a (.dT kvs) from rd_of ok e)
  refine ⟨z, y, xs, r, o, es, ep, h1, h2, h3, h4, fun x hx => ?_, h5⟩
  have all : ∀ {l : List (List Key × V)} {m : List (List Key × Addr × Value)}, KT H l m → ∀ x ∈ m, (tupleKind (mixKind P w)).is h x.1 x.2.1 := by
    intro l m q
    induction q with
    | nil => intro x hx; exact nomatch hx
    | @cons p q ps qs hq t ih =>
      intro x hx
      rcases List.mem_cons.mp hx with e | hx
      · subst e
        exact key_of ok (by rw [← hq.1]; exact hq.2.1)
      · exact ih x hx
  exact all r x hx
theorem dt_of {kvs : List (List Key × V)} (ok : HOk P w H h) (e : H a = some (.dT kvs)) : kvs.length ≤ sizeLine ∧ (a == sysModules) = false ∧
    ∃ xs, KT H kvs xs ∧ h.DictOfH (tupleKind (mixKind P w)) a xs := dt_rd ok (.inl e)
end

/-- what the dict at a holds at the key y -/
def DGet (H : Hp) (a : Addr) (y : V) (r : Option V) : Prop :=
  (∃ kvs k, Rd H a (.dK kvs) ∧ y = kV k ∧ r = valV kvs k) ∨ ∃ kvs k b, Rd H a (.dT kvs) ∧ y = .ref b ∧ H b = some (.tup (k.map kV)) ∧ r = valV kvs k
/-- the heap behind a[y] = v -/
def DPut (H : Hp) (a : Addr) (y v : V) (H' : Hp) : Prop :=
  (∃ kvs k, H a = some (.dK kvs) ∧ y = kV k ∧ kvs.length < sizeLine ∧ H' = upd H a (.dK (putK kvs k v))) ∨
  ∃ kvs k b, H a = some (.dT kvs) ∧ y = .ref b ∧ H b = some (.tup (k.map kV)) ∧ kvs.length < sizeLine ∧ H' = upd H a (.dT (putK kvs k v))
theorem DGet.k {H : Hp} {a : Addr} {kvs : List (Key × V)} {k : Key} (e : H a = some (.dK kvs)) : DGet H a (kV k) (valV kvs k) := .inl ⟨kvs, k, .inl e, rfl, rfl⟩
theorem DGet.t {H : Hp} {a b : Addr} {kvs : List (List Key × V)} {k : List Key} (e : H a = some (.dT kvs)) (eb : H b = some (.tup (k.map kV))) : DGet H a (.ref b) (valV kvs k) := .inr ⟨kvs, k, b, .inl e, rfl, eb, rfl⟩
theorem DPut.k {H : Hp} {a : Addr} {kvs : List (Key × V)} {k : Key} {v : V} (e : H a = some (.dK kvs)) (hl : kvs.length < sizeLine) : DPut H a (kV k) v (upd H a (.dK (putK kvs k v))) := .inl ⟨kvs, k, e, rfl, hl, rfl⟩
theorem DPut.t {H : Hp} {a b : Addr} {kvs : List (List Key × V)} {k : List Key} {v : V} (e : H a = some (.dT kvs)) (eb : H b = some (.tup (k.map kV))) (hl : kvs.length < sizeLine) :
    DPut H a (.ref b) v (upd H a (.dT (putK kvs k v))) := .inr ⟨kvs, k, b, e, rfl, eb, hl, rfl⟩


section
variable {X : Cx} {pins : List (Addr × Obj)} {σ : St} {H : Hp} {s : Shared} {a : Addr} {y v : V} {u r : Value} {o : Option V} {A : Around} {E : Value → Shared → Prop}

theorem Inv.big (I : Inv X pins σ H s) : sysModules < s.heap.objs.size := by
  have h : mainGlobals < s.heap.objs.size := (I.mod.glob.keeps I.bk).lt
  exact Nat.lt_trans (by decide) h

/-- a dict's object is replaced -/
theorem d_write {h' : Heap} {t' : Nat} {ob : HO} (I : Inv X pins σ H s) (mu : Mut (H a)) (hs : Heap.SameBut a s.heap h') (he : ∃ q, h'.get? a = some q) (new : ObjOk X.prog X.w (upd H a ob) h' a ob) :
    Inv X pins σ (upd H a ob) { s with heap := h', toks := t' } :=
  I.write (x := a) (e := a) mu (.inl rfl) (fun b q hb z => (hs.2 b hb).trans z) he new
theorem dk_new {P : Program} {w : World} {H' : Hp} {h' : Heap} {kvs : List (Key × V)} {vs : List (Key × Value)} (z : kvs.length ≤ sizeLine) (hd : (a == sysModules) = false) (rel : KV kvs vs) (dd : h'.DictOf (mixKind P w) a vs) :
    ObjOk P w H' h' a (.dK kvs) := ⟨z, hd, vs, rel, dd⟩
end

section
variable {X : Cx} {pins : List (Addr × Obj)} {σ : St} {H : Hp} {s : Shared} {a : Addr} {kvs : List (Key × V)} {k : Key} {u : Value} {A : Around} {E : Value → Shared → Prop}
end


section
variable {X : Cx} {o i e value : Expr} {pos pos' tpos : Pos} {td ty tv : TE}
end


theorem dt_empty {P : Program} {w : World} {H : Hp} (h : Heap) (hb : sysModules < h.objs.size) : ObjOk P w H (h.push { cls := .type "dict", data := .dict #[] }) h.objs.size (.dT []) :=
  ⟨Nat.zero_le _, beq_eq_false_iff_ne.mpr (Ne.symm (Nat.ne_of_lt hb)), [], .nil, _, #[], 0, Heap.get?_push_size _ rfl, ⟨rfl, rfl, rfl⟩, rfl, rfl, List.nodup_nil⟩
section
variable {X : Cx} {pos : Pos}
end

/-! ### methods -/
/-- a method call o.m(e) of a built-in, with one argument: what must be seen of the text -/
structure M1 (X : Cx) (o : Expr) (m : Str) (apos : Pos) (e : Expr) (cpos : Pos) : Prop where
  base : attributeBase o m X.env (eval o X.env) = eval o X.env
  few : ((backTo cpos (starEach [e] X.env)).all (fun x => !x.1) && (backToKw cpos (keywordEach [] X.env)).all (fun x => x.1.isSome)
    && decide (([e] : List Expr).length + ([] : List Keyword).length + (if ([] : List Keyword).isEmpty then 0 else 1) < 30)) = true
  line : (apos.endLine == cpos.line) = true
  trees : backTo cpos (starEach [e] X.env) = [(false, eval e X.env)]
structure M2 (X : Cx) (o : Expr) (m : Str) (apos : Pos) (e f : Expr) (cpos : Pos) : Prop where
  base : attributeBase o m X.env (eval o X.env) = eval o X.env
  few : ((backTo cpos (starEach [e, f] X.env)).all (fun x => !x.1) && (backToKw cpos (keywordEach [] X.env)).all (fun x => x.1.isSome)
    && decide (([e, f] : List Expr).length + ([] : List Keyword).length + (if ([] : List Keyword).isEmpty then 0 else 1) < 30)) = true
  line : (apos.endLine == cpos.line) = true
  trees : backTo cpos (starEach [e, f] X.env) = [(false, eval e X.env), (false, eval f X.env)]

/-- a is a dict, whatever its keys -/
def IsD (H : Hp) (a : Addr) : Prop := (∃ kvs, Rd H a (.dK kvs)) ∨ ∃ kvs, Rd H a (.dT kvs)
theorem isD_at {X : Cx} {pins : List (Addr × Obj)} {σ : St} {H : Hp} {s : Shared} {a : Addr} (I : Inv X pins σ H s) (d : IsD H a) :
    s.TypeIs (.ref a) "dict" ∧ (∀ b, Value.ref a = .ref b → ∃ ob, s.heap.get? b = some ob ∧ ob.dict = none) ∧ (a == sysModules) = false := by
  rcases d with ⟨kvs, e⟩ | ⟨kvs, e⟩
  · obtain ⟨_, hd, vs, _, dd⟩ := dk_rd I.hok e
    refine ⟨dd.typeIs, fun b q => ?_, hd⟩
    cases q
    obtain ⟨ob, _, _, h1, h2, _⟩ := dd
    exact ⟨ob, h1, h2.2.1⟩
  · obtain ⟨_, hd, xs, _, dd⟩ := dt_rd I.hok e
    refine ⟨dd.typeIs, fun b q => ?_, hd⟩
    cases q
    obtain ⟨ob, _, _, h1, h2, _⟩ := dd
    exact ⟨ob, h1, h2.2.1⟩

section
variable {X : Cx} {pins : List (Addr × Obj)} {σ : St} {H : Hp} {s : Shared} {a : Addr} {y d : V} {u r : Value} {o : Option V} {A : Around} {E : Value → Shared → Prop}
/-- d.get(y, x) -/
theorem d_get2 {Q : Value → Shared → Prop} (hu : A.units + 1 < cLine) (I : Inv X pins σ H s) (g : DGet H a y o) (ry : RelV y u) (rd : RelV d r) (h : ∀ w' s', Inv X pins σ H s' → RelV (o.getD d) w' → Q w' s') :
    wpAny (model X.prog X.w) A (call (.builtin "dict.get") [.ref a, u, r]) Q E s := by
  rcases g with ⟨kvs, k, e, ey, l⟩ | ⟨kvs, k, b, e, ey, eb, l⟩
  · subst ey
    obtain ⟨z, hd, vs, rel, dd⟩ := dk_rd I.hok e
    refine call_meetsIn PySem.F.slot_dict_get dd.typeIs PySem.F.entry_dict_get (PySem.F.args_dict_get_3 _ _ _) (meets_dict_get_default (mixKind X.prog X.w) a (kV_is ry) hd r) ⟨_, dd.mapOf, h _ _ (I.tok _) ?_⟩
    rw [l]
    exact (rel.val k).getD rd
  · subst ey
    cases (show u = Value.ref b from ry)
    obtain ⟨z, hd, xs, rel, dd⟩ := dt_rd I.hok e
    refine call_meetsIn PySem.F.slot_dict_get dd.typeIs PySem.F.entry_dict_get (PySem.F.args_dict_get_3 _ _ _) (meetsH_dict_get_default (tupleKind (mixKind X.prog X.w)) a b hd r) ⟨tupleKind_room_in1 hu, k, xs, key_of I.hok eb, dd, h _ _ (I.tok _) ?_⟩
    rw [l]
    exact (rel.val k).getD rd
end

def tDGet2 (td ty tx : TE) : TE := fun σ H Q => td σ H fun x H1 => ∃ a, x = .ref a ∧ IsD H1 a ∧ ty σ H1 fun y H2 => tx σ H2 fun z H3 => ∃ o, DGet H3 a y o ∧ Q (o.getD z) H3
section
variable {X : Cx} {o e f : Expr} {apos cpos : Pos} {td ty tx : TE}
theorem pe_dget2 (hu : X.A.units + 1 < cLine) (ho : PE X o td) (he : PE X e ty) (hf : PE X f tx) (m : M2 X o "get" apos e f cpos) : PE X (.Call (.Attribute o "get" apos) [e, f] [] cpos) (tDGet2 td ty tx) := by
  intro pins s σ H Q I h
  refine wpAny_Call_method m.base m.few m.line PySem.F.plainAttrs_dict PySem.F.slot_dict_get PySem.F.type_dict_get (thn (ho pins s σ H _ I h) fun u s1 ⟨x, H1, I1, rx, a, ex, d, q1⟩ => ?_)
  subst ex
  obtain rfl : u = Value.ref a := rx
  obtain ⟨t1, t2, _⟩ := isD_at I1 d
  refine ⟨t1, t2, ?_⟩
  rw [m.trees]
  refine Calls.callWith_builtin rfl (Calls.evalArgs_plain (Calls.spliced_cons (thn (he pins s1 σ H1 _ I1 q1) fun iv s2 ⟨y, H2, I2, ry, q2⟩ =>
    Calls.spliced_cons (thn (hf pins s2 σ H2 _ I2 q2) fun fv s3 ⟨z, H3, I3, rz, ov, g, q3⟩ => Calls.spliced_nil ?_))))
  exact d_get2 hu I3 g ry rz fun w' s4 I4 rw' => ⟨_, H3, I4, rw', q3⟩
end

/-! ### dict(d): a copy -/
section
variable {X : Cx} {pins : List (Addr × Obj)} {σ : St} {H : Hp} {s : Shared} {a : Addr} {kvs : List (Key × V)} {A : Around} {E : Value → Shared → Prop}
end


section
variable {X : Cx} {pins : List (Addr × Obj)} {σ : St} {H : Hp} {s : Shared} {a : Addr} {y : V} {u : Value} {A : Around} {E : Value → Shared → Prop}
end
end L2

namespace L2
open PySem PySem.Spec PyProof.Rows

section
variable {prog : Program} {w : World} {A : Around} {E : Value → Shared → Prop}
end

section
variable {X : Cx}
end
end L2

namespace L2
open PySem PySem.Spec PyProof.Rows

section
variable {X : Cx} {pins : List (Addr × Obj)} {σ : St} {H : Hp} {s : Shared} {h' : Heap}
/-- several records of ours have turned -/
theorem Inv.turnedL {t' : Nat} {ch : List Addr} (I : Inv X pins σ H s) (k : ∀ b o, b ∉ ch → s.heap.get? b = some o → h'.get? b = some o) (hf : ∀ b ∈ ch, FpOk X pins H b) : Inv X pins σ H { s with heap := h', toks := t' } := by
  have nit : ∀ b u, H b = some u → b ∉ ch := fun b u e z => by
    have q := (hf b z).1
    rw [q] at e; cases e
  refine I.step (g' := s.gens) (d' := s.drawn) (ch := ch) (fun b hb => ⟨(hf b hb).2.2.2.1, (hf b hb).2.1, (hf b hb).2.2.2.2.1, (hf b hb).2.2.2.2.2⟩) (fun b o _ _ hc e _ => k b o hc e) (fun b o _ _ hc e _ => ⟨o.slots, k b o hc e⟩)
    (fun _ _ _ _ n => n) (fun b o hc e => ⟨o, k b o hc e⟩) (fun _ _ e => e) (fun _ _ _ e => e) (fun b ps e => ⟨#[], by rw [e]; simp⟩) (fun m hm => ?_) (fun b u e => ?_) I.bare
  · obtain ⟨o, es, ep, ho, r⟩ := hm
    exact ⟨o, es, ep, k _ o (fun z => (hf _ z).2.1 rfl) ho, r⟩
  · refine (I.hok b u e).stay (fun c v hc q => k c v ?_ q) (fun _ q => q) fun _ _ q => q
    rcases hc with z | z
    · rw [z]; exact nit b u e
    · exact nit c _ z
/-- .. and one new object is laid -/
theorem Inv.turnedNew {t' : Nat} {ch : List Addr} {T : Addr} {ob : HO} (I : Inv X pins σ H s) (k : ∀ b o, b ∉ ch → s.heap.get? b = some o → h'.get? b = some o) (hf : ∀ b ∈ ch, FpOk X pins H b) (hT : s.heap.objs.size ≤ T)
    (new : ObjOk X.prog X.w (upd H T ob) h' T ob) : Inv X pins σ (upd H T ob) { s with heap := h', toks := t' } := by
  have hn : H T = none := I.hok.fresh hT
  have nit : ∀ b u, H b = some u → b ∉ ch := fun b u e z => by
    have q := (hf b z).1
    rw [q] at e; cases e
  refine I.step (g' := s.gens) (d' := s.drawn) (ch := ch) (fun b hb => ⟨(hf b hb).2.2.2.1, (hf b hb).2.1, (hf b hb).2.2.2.2.1, (hf b hb).2.2.2.2.2⟩) (fun b o _ _ hc e _ => k b o hc e) (fun b o _ _ hc e _ => ⟨o.slots, k b o hc e⟩)
    (fun b o _ e n => ?_) (fun b o hc e => ⟨o, k b o hc e⟩) (fun b xs e => ?_) (fun b o u e => ?_) (fun b ps e => ⟨#[], ?_⟩) (fun m hm => ?_) (fun b u e => ?_) I.bare
  · rw [upd_ne (Nat.ne_of_lt (Nat.lt_of_lt_of_le (Heap.lt_size e) hT))]; exact n
  · rw [upd_ne (ne_of_none e hn)]; exact e
  · rw [upd_ne (ne_of_none e hn)]; exact e
  · rw [upd_ne (ne_of_none e hn), e]; simp
  · obtain ⟨o, es, ep, ho, r⟩ := hm
    exact ⟨o, es, ep, k _ o (fun z => (hf _ z).2.1 rfl) ho, r⟩
  · by_cases hb : b = T
    · subst hb
      rw [upd_same] at e
      cases e
      exact new
    · rw [upd_ne hb] at e
      refine (I.hok b u e).stay (fun c v hc q => k c v ?_ q) (fun c q => by rw [upd_ne (ne_of_none q hn)]; exact q) fun c xs q => by rw [upd_ne (ne_of_none q hn)]; exact q
      rcases hc with z | z
      · rw [z]; exact nit b u e
      · exact nit c _ z

end
section
variable {X : Cx}
end

/-- range(i, j, c): small bounds, n items -/
def RgC (i j c : Int) (n : Nat) : Prop := c ≠ 0 ∧ c.natAbs < 1073741824 ∧ Builtin.Range.small i j c = true ∧ Builtin.Range.rangeSize i j c = n
theorem RgC.neg {i j : Int} (ha : -(2 ^ 62) ≤ i) (ha' : i < 2 ^ 62) (hb : -(2 ^ 62) ≤ j) (hb' : j < 2 ^ 62) : RgC i j (-1) (i - j).toNat :=
  ⟨by decide, by decide, PySem.W.small_down ha ha' hb hb', PySem.W.rangeSize_downNat i j⟩
section
variable {X : Cx} {tg : Expr}
end
section
variable {X : Cx} {tg : Expr}
end

/-! ### a dict's keys: any dict's entries -/
section
variable {prog : Program} {w : World} {A : Around} {E : Value → Shared → Prop} {s : Shared}
end

theorem paired_get {α β : Type} {G : α → β → Prop} {l₁ : List α} {l₂ : List β} (h : Paired G l₁ l₂) : ∀ {i : Nat} {a : α}, l₁[i]? = some a → ∃ b, l₂[i]? = some b ∧ G a b := by
  induction h with
  | nil => intro i a e; simp at e
  | @cons a b l₁ l₂ r t ih =>
    intro i a' e
    cases i with
    | zero =>
      simp only [List.getElem?_cons_zero, Option.some.injEq] at e
      subst e
      exact ⟨b, rfl, r⟩
    | succ j =>
      simp only [List.getElem?_cons_succ] at e ⊢
      exact ih e
section
variable {X : Cx} {pins : List (Addr × Obj)} {σ : St} {H : Hp} {s : Shared} {d : Addr} {o : Obj}
end

section
variable {P : Program} {w : World} {K : PySem.W.Frag} {tg : Expr} {d : Addr} {o : Obj} {es : Array DictEntry} {ep : Nat}
end

section
variable {X : Cx} {tg e : Expr} {td : TE} {apos cpos : Pos}
end

/-! ### enumerate(list) -/
/-- the list at a as it stands at each turn, each item in a new pair -/
def Ite (K : PySem.W.Frag) (a : Addr) : It :=
  ⟨fun i H => ∃ (xs : List V) (x : V), SqL K H a xs ∧ xs[i]? = some x, fun i H v H' => ∃ T x, v = .ref T ∧ H T = none ∧ H' = upd H T (.tup [.int (i : Nat), x]) ∧ ∀ xs, SqL K H a xs → xs[i]? = some x, fun i H => ∃ xs : List V, SqL K H a xs ∧ xs.length ≤ i⟩
theorem turn_enum {P : Program} {w : World} {K : PySem.W.Frag} {elts : List Expr} {kk : Nat} {tpos : Pos} (a e it : Addr) :
    Turn P w K (.Tuple elts kk tpos) (Ite K a) [e, it] e (fun i h => (∃ old, IsEnum h e it ((i : Nat) : Int) old) ∧ h.IsListIter it a i ∧ e ≠ it) where
  mem := by simp
  obj := fun i h st b hb => by
    obtain ⟨⟨old, he⟩, ⟨o, ho, hc, hd⟩, _⟩ := st
    have e' : b = e ∨ b = it := by simpa using hb
    rcases e' with z | z
    · rw [z]; exact ⟨_, he, fun v q => nomatch q⟩
    · rw [z]; exact ⟨o, ho, fun v q => by rw [hd] at q; cases q⟩
  keep := fun i h h' st k => let ⟨⟨old, he⟩, hi, hne⟩ := st; ⟨⟨old, k e (by simp) _ he⟩, hi.at fun o q => k it (by simp) o q, hne⟩
  item := by
    intro X hP hw hK hc i pins s σ H E I hf st hg
    subst hP hw hK
    obtain ⟨⟨old, he⟩, hit, hne⟩ := st
    obtain ⟨xs, x, hq, hx⟩ := hg
    obtain ⟨its, rv, p, hz⟩ := I.list hq
    obtain ⟨u, hu, ru⟩ := rv.get hx
    have hel : e < s.heap.objs.size := Heap.lt_size he
    have hil : it < s.heap.objs.size := by obtain ⟨_, q, _⟩ := hit; exact Heap.lt_size q
    refine wpAny_pyNext_enum_item he hit p.isList (x := u) (by simpa using hu) hne fun h' ho hit' hT hsz hk => ?_
    refine ⟨_, rfl, wpAny_letOwnedTupleGo_enum (s := { s with heap := h', toks := s.toks + 1 }) ho fun h'' he' sb => ?_⟩
    have hT2 : h''.get? s.heap.objs.size = some { cls := .type "tuple", data := .seq #[.int i s.toks, u] } := (sb.2 _ (Nat.ne_of_gt hel)).trans hT
    have new : ObjOk X.prog X.w (upd H s.heap.objs.size (.tup [.int (i : Nat), x])) h'' s.heap.objs.size (.tup [.int (i : Nat), x]) :=
      ⟨by show 2 ≤ sizeLine; decide, [.int i s.toks, u], .cons ⟨_, rfl⟩ (.cons ru .nil), ⟨_, hT2, rfl, _, rfl⟩⟩
    have I1 : Inv X pins σ (upd H s.heap.objs.size (.tup [.int (i : Nat), x])) { s with heap := h'', toks := s.toks + 1 } :=
      I.turnedNew (ch := [e, it]) (fun b ob hb q => (sb.2 b (fun z => hb (by simp [z]))).trans (hk b ob (fun z => hb (by simp [z])) (fun z => hb (by simp [z])) q)) hf (Nat.le_refl _) new
    refine ⟨.ref s.heap.objs.size, _, I1, rfl, ⟨_, x, rfl, I.hok.fresh (Nat.le_refl _), rfl, fun ys hy => by rw [I.list_inj hy hq]; exact hx⟩, ⟨⟨u, ?_⟩, hit'.at fun o q => (sb.2 it (Ne.symm hne)).trans q, hne⟩, fun b hb => ?_⟩
    · have e1 : ((i + 1 : Nat) : Int) = (i : Int) + 1 := by omega
      rw [e1]; exact he'
    · have hb' : b < s.heap.objs.size := by
        have e' : b = e ∨ b = it := by simpa using hb
        rcases e' with z | z
        · rw [z]; exact hel
        · rw [z]; exact hil
      rw [upd_ne (Nat.ne_of_lt hb')]
      exact (hf b hb).1
  done := by
    intro X hP hw hK hc i pins s σ H E I hf st hg
    subst hP hw hK
    obtain ⟨⟨old, he⟩, hit, hne⟩ := st
    obtain ⟨xs, hq, hx⟩ := hg
    obtain ⟨its, rv, p, hz⟩ := I.list hq
    obtain ⟨f0, f1, f2, f3, f4, f5⟩ := hf it (by simp)
    have hl := rv.length
    exact wpAny_pyNext_enum_end (I.ok.hd hc) he hit p.isList (by simp; omega) fun h' eb => ⟨rfl, I.turned (t' := s.toks) (fun b o hb q => eb b o hb q) f0 f1 f3 f4 f5⟩
  self := fun A i s Q E st h => let ⟨⟨_, he⟩, _⟩ := st; wpAny_pyIter_enum he h
def iEnum (K : PySem.W.Frag) (ta : TA) : TI := fun σ H R => ta σ H fun vs H1 => ∃ a xs, vs = [.ref a] ∧ SqL K H1 a xs ∧ R (Ite K a) H1
theorem pi_enum {X : Cx} {e : Expr} {ta : TA} {p pos tpos : Pos} {elts : List Expr} {kk : Nat} (hg : Gl X "enumerate") (hm : X.mg "enumerate" = none) (ha : PA X [e] ta) (hs : starEach [e] X.env = [(false, eval e X.env)] := by rfl) :
    PI X (.Tuple elts kk tpos) (.Call (.Name "enumerate" p) [e] [] pos) (iEnum X.K ta) := by
  intro pins s σ H R I h
  refine Call_ (ld_blt I hg hm boot_enumerate (PyProof.Rows.callWith_type1 (thn (ha pos pins s σ H _ I h) fun us s1 ⟨vs, H1, I1, r1, q1⟩ => ?_) hs rfl))
  obtain ⟨a, xs, ex, hq, q⟩ := q1
  subst ex
  cases r1 with
  | cons r rr =>
    cases rr
    cases r
    obtain ⟨its, rv, p', hz⟩ := I1.list hq
    refine call_enumerate_list p'.isList fun h' he hit hsz hk => wpAny_pyIter_enum he ?_
    have I2 : Inv X pins σ H1 { s1 with heap := h' } := I1.kept (t' := s1.toks) hk
    refine ⟨s1.heap.objs.size + 1, [s1.heap.objs.size + 1, s1.heap.objs.size], _, _, H1, rfl, I2, turn_enum a (s1.heap.objs.size + 1) s1.heap.objs.size, ⟨⟨.none, he⟩, hit, Nat.succ_ne_self _⟩, fun b hb => ?_, q⟩
    have e' : b = s1.heap.objs.size + 1 ∨ b = s1.heap.objs.size := by simpa using hb
    have hle : s1.heap.objs.size ≤ b := by
      rcases e' with z | z
      · rw [z]; exact Nat.le_add_right _ _
      · rw [z]; exact Nat.le_refl _
    exact I1.fpOk hle (I1.hok.fresh hle)
/-! ### zip(list, list) -/
theorem boot_zip5 : bootBuiltins "zip" = some (.type "zip") := by decide +kernel
/-- the lists at a and b as they stand at each turn, the items in new pairs -/
def Itz (K : PySem.W.Frag) (a b : Addr) : It :=
  ⟨fun i H => ∃ (xs ys : List V) (x y : V), SqL K H a xs ∧ SqL K H b ys ∧ xs[i]? = some x ∧ ys[i]? = some y,
    fun i H v H' => ∃ T x y, v = .ref T ∧ H T = none ∧ H' = upd H T (.tup [x, y]) ∧ (∀ xs, SqL K H a xs → xs[i]? = some x) ∧ ∀ ys, SqL K H b ys → ys[i]? = some y,
    fun i H => ∃ xs ys : List V, SqL K H a xs ∧ SqL K H b ys ∧ (xs.length ≤ i ∨ ys.length ≤ i)⟩
theorem turn_zip {P : Program} {w : World} {K : PySem.W.Frag} {elts : List Expr} {kk : Nat} {tpos : Pos} {a b z TI TO i1 i2 : Addr} (D : ZipApart z TI TO i1 i2 a b) :
    Turn P w K (.Tuple elts kk tpos) (Itz K a b) [z, TI, TO, i1, i2] z (fun i h => IsZip h z TI TO .none ∧ IsPair h TI (.ref i1) (.ref i2) ∧ (∃ x y, IsPair h TO x y) ∧ h.IsListIter i1 a i ∧ h.IsListIter i2 b i) where
  mem := by simp
  obj := fun i h st c hc => by
    obtain ⟨hz, hTI, ⟨x, y, hTO⟩, ⟨o1, e1, _, d1⟩, ⟨o2, e2, _, d2⟩⟩ := st
    have e' : c = z ∨ c = TI ∨ c = TO ∨ c = i1 ∨ c = i2 := by simpa using hc
    rcases e' with q | q | q | q | q
    · rw [q]; exact ⟨_, hz, fun v q => nomatch q⟩
    · rw [q]; exact ⟨_, hTI, fun v q => nomatch q⟩
    · rw [q]; exact ⟨_, hTO, fun v q => nomatch q⟩
    · rw [q]; exact ⟨o1, e1, fun v q => by rw [d1] at q; cases q⟩
    · rw [q]; exact ⟨o2, e2, fun v q => by rw [d2] at q; cases q⟩
  keep := fun i h h' st k => by
    obtain ⟨hz, hTI, ⟨x, y, hTO⟩, h1, h2⟩ := st
    exact ⟨k z (by simp) _ hz, k TI (by simp) _ hTI, ⟨x, y, k TO (by simp) _ hTO⟩, h1.at fun o q => k i1 (by simp) o q, h2.at fun o q => k i2 (by simp) o q⟩
  item := by
    intro X hP hw hK hc i pins s σ H E I hf st hg
    subst hP hw hK
    obtain ⟨hz, hTI, ⟨x0, y0, hTO⟩, h1, h2⟩ := st
    obtain ⟨xs, ys, x, y, hqx, hqy, hx, hy⟩ := hg
    obtain ⟨its, rv, p, _⟩ := I.list hqx
    obtain ⟨its2, rv2, p2, _⟩ := I.list hqy
    obtain ⟨u, hu, ru⟩ := rv.get hx
    obtain ⟨u2, hu2, ru2⟩ := rv2.get hy
    have hzl : z < s.heap.objs.size := Heap.lt_size hz
    refine wpAny_pyNext_zip_item D hz hTI hTO h1 h2 p.isList p2.isList (x := u) (y := u2) (by simpa using hu) (by simpa using hu2) fun h' z' TO' h1' h2' hT hsz hk => ?_
    refine ⟨_, rfl, wpAny_letOwnedTupleGo_zip (s := { s with heap := h' }) z' fun h'' z'' sb => ?_⟩
    have hT2 : h''.get? s.heap.objs.size = some { cls := .type "tuple", data := .seq #[u, u2] } := (sb.2 _ (Nat.ne_of_gt hzl)).trans hT
    have new : ObjOk X.prog X.w (upd H s.heap.objs.size (.tup [x, y])) h'' s.heap.objs.size (.tup [x, y]) :=
      ⟨by show 2 ≤ sizeLine; decide, [u, u2], .cons ru (.cons ru2 .nil), ⟨_, hT2, rfl, _, rfl⟩⟩
    have I1 : Inv X pins σ (upd H s.heap.objs.size (.tup [x, y])) { s with heap := h'' } :=
      I.turnedNew (t' := s.toks) (ch := [z, TI, TO, i1, i2]) (fun c o hb q => (sb.2 c (fun q' => hb (by simp [q']))).trans (hk c o (fun q' => hb (by simp [q'])) (fun q' => hb (by simp [q'])) (fun q' => hb (by simp [q'])) (fun q' => hb (by simp [q'])) q)) hf (Nat.le_refl _) new
    refine ⟨.ref s.heap.objs.size, _, I1, rfl, ⟨_, x, y, rfl, I.hok.fresh (Nat.le_refl _), rfl, fun l hl => by rw [I.list_inj hl hqx]; exact hx, fun l hl => by rw [I.list_inj hl hqy]; exact hy⟩, ⟨z'', ?_, ⟨u, u2, ?_⟩, ?_, ?_⟩, fun c hcm => ?_⟩
    · exact (sb.2 _ D.TIz).trans (hk _ _ D.TIz D.TITO D.TIi1 D.TIi2 hTI)
    · exact (sb.2 _ D.TOz).trans TO'
    · exact h1'.at fun o q => (sb.2 _ D.i1z).trans q
    · exact h2'.at fun o q => (sb.2 _ D.i2z).trans q
    · have hlt : c < s.heap.objs.size := by
        have e' : c = z ∨ c = TI ∨ c = TO ∨ c = i1 ∨ c = i2 := by simpa using hcm
        rcases e' with q | q | q | q | q
        · rw [q]; exact hzl
        · rw [q]; exact Heap.lt_size hTI
        · rw [q]; exact Heap.lt_size hTO
        · rw [q]; obtain ⟨_, e1, _⟩ := h1; exact Heap.lt_size e1
        · rw [q]; obtain ⟨_, e2, _⟩ := h2; exact Heap.lt_size e2
      rw [upd_ne (Nat.ne_of_lt hlt)]
      exact (hf c hcm).1
  done := by
    intro X hP hw hK hc i pins s σ H E I hf st hg
    subst hP hw hK
    obtain ⟨hz, hTI, ⟨x0, y0, hTO⟩, h1, h2⟩ := st
    obtain ⟨xs, ys, hqx, hqy, hend⟩ := hg
    obtain ⟨its, rv, p, _⟩ := I.list hqx
    obtain ⟨its2, rv2, p2, _⟩ := I.list hqy
    have l1 := rv.length
    have l2 := rv2.length
    have he : its.toArray[i]? = none ∨ its2.toArray[i]? = none := by
      rcases hend with q | q
      · exact .inl (by simp; omega)
      · exact .inr (by simp; omega)
    exact wpAny_pyNext_zip_end (I.ok.hd hc) D hz hTI hTO h1 h2 p.isList p2.isList he fun h' hk => ⟨rfl, I.turnedL (t' := s.toks) (ch := [z, TI, TO, i1, i2]) (fun c o hb q =>
      hk c o (fun q' => hb (by simp [q'])) (fun q' => hb (by simp [q'])) (fun q' => hb (by simp [q'])) (fun q' => hb (by simp [q'])) q) hf⟩
  self := fun A i s Q E st h => wpAny_pyIter_zip st.1 h
def iZip (K : PySem.W.Frag) (ta : TA) : TI := fun σ H R => ta σ H fun vs H1 => ∃ a b xs ys, vs = [.ref a, .ref b] ∧ SqL K H1 a xs ∧ SqL K H1 b ys ∧ R (Itz K a b) H1
theorem pi_zip {X : Cx} {e e2 : Expr} {ta : TA} {p pos tpos : Pos} {elts : List Expr} {kk : Nat} (hg : Gl X "zip") (hm : X.mg "zip" = none) (ha : PA X [e, e2] ta)
    (hs : starEach [e, e2] X.env = (false, eval e X.env) :: starEach [e2] X.env := by rfl) (hpl : (backTo pos (starEach [e2] X.env)).any (·.1) = false := by rfl) :
    PI X (.Tuple elts kk tpos) (.Call (.Name "zip" p) [e, e2] [] pos) (iZip X.K ta) := by
  intro pins s σ H R I h
  refine Call_ (ld_blt I hg hm boot_zip5 (PyProof.Rows.callWith_type1 (thn (ha pos pins s σ H _ I h) fun us s1 ⟨vs, H1, I1, r1, q1⟩ => ?_) hs hpl))
  obtain ⟨a, b, xs, ys, ex, hqx, hqy, q⟩ := q1
  subst ex
  cases r1 with
  | cons r rr =>
    cases rr with
    | cons r' rr =>
      cases rr
      cases r
      cases r'
      obtain ⟨its, rv, p1, _⟩ := I1.list hqx
      obtain ⟨its2, rv2, p2, _⟩ := I1.list hqy
      have la : a < s1.heap.objs.size := p1.lt
      have lb : b < s1.heap.objs.size := p2.lt
      refine call_zip_2 p1.isList p2.isList fun h' hz hTI hTO h1 h2 hsz hk => wpAny_pyIter_zip hz ?_
      have I2 : Inv X pins σ H1 { s1 with heap := h' } := I1.kept (t' := s1.toks) hk
      refine ⟨s1.heap.objs.size + 4, [s1.heap.objs.size + 4, s1.heap.objs.size + 2, s1.heap.objs.size + 3, s1.heap.objs.size, s1.heap.objs.size + 1], _, _, H1, rfl, I2, turn_zip (PySem.W.ktu_apart s1.heap.objs.size a b la lb), ⟨hz, hTI, ⟨_, _, hTO⟩, h1, h2⟩, fun c hcm => ?_, q⟩
      have e' : c = s1.heap.objs.size + 4 ∨ c = s1.heap.objs.size + 2 ∨ c = s1.heap.objs.size + 3 ∨ c = s1.heap.objs.size ∨ c = s1.heap.objs.size + 1 := by simpa using hcm
      have hle : s1.heap.objs.size ≤ c := by
        rcases e' with z | z | z | z | z
        · rw [z]; exact Nat.le_add_right _ _
        · rw [z]; exact Nat.le_add_right _ _
        · rw [z]; exact Nat.le_add_right _ _
        · rw [z]; exact Nat.le_refl _
        · rw [z]; exact Nat.le_add_right _ _
      exact I1.fpOk hle (I1.hok.fresh hle)
end L2

section 
namespace Bits
open PySem PyProof.Rows

end Bits
end 

section 
namespace TL
open PySem PySem.Builtin PySem.Builtin.Str PySem.StrLaws

abbrev tl (x : Str) : List Nat := x.cps.toList
/-! ### the list functions -/
/-- S stands at the head of l -/
def pre (S l : List Nat) : Bool := l.take S.length == S
/-- what stands before the first S, and behind it -/
def par (S : List Nat) : List Nat → List Nat → Option (List Nat × List Nat)
  | _, [] => none
  | acc, c :: r => if pre S (c :: r) = true then some (acc, (c :: r).drop S.length) else par S (acc ++ [c]) r

end TL
end 

namespace L2
open PySem PySem.Spec PyProof.Rows

section
variable {X : Cx} {pins : List (Addr × Obj)} {σ : St} {H : Hp} {s : Shared} {Q : VK}
end

section
variable {X : Cx}

end

section
variable {X : Cx} {o e : Expr} {to te : TE}
end
end L2

namespace L2
open PySem PySem.Spec PyProof.Rows

section
variable {X : Cx}
end

/-! ### slices of a text -/
theorem IsPart.raw {v : Value} {o : Option Int} (p : IsPart v o) : ∃ l : Option (Int × Tok), v = partValue l ∧ l.map (·.1) = o := by
  cases p with
  | none => exact ⟨none, rfl, rfl⟩
  | int i t => exact ⟨some (i, t), rfl, rfl⟩

end L2

namespace Att
open PySem PySem.W PySem.Calls PyProof.Rows

/-! ### the script -/
theorem ints_of_wellAll {P : Params} {h : Heap} : ∀ (ns : List Int) (vs : List Value), WellAll P h vs (ns.map WData.int) → IntsAre vs ns := by
  intro ns
  induction ns with
  | nil =>
    intro vs w
    rw [List.map_nil] at w
    cases w
    exact .nil
  | cons n ns ih =>
    intro vs w
    rw [List.map_cons] at w
    cases w with
    | cons a b =>
      cases a
      exact .cons _ _ (ih _ b)

theorem script_of {l : OpenLaw} {n : Nat} (hn : l.most = some n) {P : Params} {h : Heap} {args : List WData} {vals : List Value}
    (hpre : l.row.toRowW.claim.pre args = true) (hwl : WellAll P h vals args) :
    ∃ a vs ns, vals = [Value.ref a] ∧ args = [WData.list (ns.map WData.int)] ∧ h.get? a = some { cls := .type "list", data := .seq vs.toArray } ∧ IntsAre vs ns ∧ ns.length ≤ n := by
  have hsh : WShape.hasAll [] args [.list .int] = true := (pre_splitW hpre).1
  have hc : l.pre.holds [] { args := args } = true := (pre_splitW hpre).2
  obtain ⟨d, r, rfl, h1, h2⟩ := hasAllW_cons hsh
  obtain rfl := hasAllW_nil h2
  obtain ⟨xs, rfl, h3⟩ := hasW_list h1
  obtain ⟨ns, rfl⟩ := items_int h3
  have hlen : ns.length ≤ n := by
    unfold OpenLaw.pre at hc
    have h4 : (WTm.not (.lt (.lit (.int (n : Int))) (.len (.arg 0)))).holds [] { args := [.list (ns.map .int)] } = true := by
      have h4 := (holds_andW hc).1
      rw [hn] at h4
      exact h4
    have h5 := condW_of h4 (w_not (w_lt w_lit (w_len_list (w_arg rfl))))
    rw [List.length_map] at h5
    refine Nat.le_of_not_lt fun q => ?_
    have q' : (n : Int) < ((ns.length : Nat) : Int) := by omega
    first
      | (rw [decide_eq_true q'] at h5; exact absurd h5 (by decide))
      | (simp at h5; omega)
  cases hwl with
  | cons w1 w2 =>
    cases w2
    cases w1 with
    | list ho hall => exact ⟨_, _, ns, rfl, rfl, ho, ints_of_wellAll ns _ hall, hlen⟩

theorem post_true (l : OpenLaw) (args : List WData) : l.row.toRowW.claim.post args (.bool true) args = true :=
  postW_of (r := l.row.toRowW) (X := (true == true))
    (show WShape.has [] (.bool true) .bool = true by first | rfl | decide | simp [WShape.has, WShape.arms, WShape.armsAll])
    (show (WTm.eq .res (.lit (.bool true))).value [] { args := args, res := some (.bool true), after := args } = some (.bool (true == true)) from w_eq_bool (w_res rfl) w_lit) rfl

/-- the same from a codeAny of the CALL (for a layer whose function contracts speak of calls) -/
theorem attach_call {l : OpenLaw} {n : Nat} {q : Program} {loose : List Str} {XP : (Str → Option Value) → Heap → Prop} {YP : World → Heap → Prop} {d : DefRec}
    (hn : l.most = some n) (hdf : d.params.defaults = [])
    (call : ∀ (w : World) (s₀ s₁ : Shared) (mg mb : Str → Option Value) (fa : Addr) (o : Obj) (pm cd doc : Value) (a : Addr) (vs : List Value) (ns : List Int),
      Ground q loose [] XP w s₀ mg mb s₁.heap → YP w s₁.heap →
      s₁.heap.get? fa = some o → o.data = .func (docDef d.name d.params d.body d.scope pm cd doc) → s₁.heap.CodeRec cd d.name → mg d.name = some (.ref fa) →
      s₁.heap.get? a = some { cls := .type "list", data := .seq vs.toArray } → IntsAre vs ns → ns.length ≤ n → s₁.gens = #[] →
      codeAny (model l.prog w) callerA (.call (.ref fa) ⟨[.ref a], []⟩) (fun r s' => r = .ok (.ret (.bool true)) ∧ OldK s₁.heap s'.heap ∧ s'.os = s₁.os ∧ AllBare s'.gens) s₁) :
    WalkO q loose XP YP l.row.toRowW d [] (fun f vs => PySem.call f vs) := by
  intro w s₀ s₁ mg mb G Y fa o pm cd doc dV kV ho hd hcd hD hmg hg args vals as hpre hlay hrd hwl hlo
  obtain rfl : dV = .none := Dflts.none hD hdf
  obtain rfl : kV = .none := Dflts.noKw hD
  obtain ⟨a, vs, ns, rfl, rfl, hobj, hints, hlen⟩ := script_of hn hpre hwl
  refine enter_call (codeAny_mono (call w s₀ s₁ mg mb fa o pm cd doc a vs ns G Y ho (fd_plain hd) hcd hmg hobj hints hlen hg) fun r s' hq => ?_)
  obtain ⟨rfl, h2, h3, h4⟩ := hq
  exact ⟨.inl ⟨.bool true, .bool true, [], rfl, fun _ => rfl, .bool true, post_true l _, fun _ => ⟨List.Pairwise.nil, fun _ hm => (nomatch hm)⟩⟩, h2, h3, h4⟩

/-! ### rules over ANY heap (no ledger) from facts about the written part K: the library's own take a ledger (News) for what they write -/
section
variable {prog : Program} {w : World} {A : Around} {E : Value → Shared → Prop} {s : Shared} {K : Frag}

/-- a def of the module, or a method (qual 'C.m'), entered: the frame is the next address; cells behind it -/
theorem call_fn {R : Result → Shared → Prop} {name qual : Str} {params : Arguments} {body : List Stmt} {scope : Scope} {dV kV doc pm cdv ct oc : Value} {an od : Option Addr} {osl : Array (Option Value)} {f : Addr} {args : Args} {binds : List (Str × Value)}
    (X : K.In s.heap) (hlim : s.heap.NoLimit) (ho : K.lookup f = some ⟨oc, od, .func (fnOf name qual params body scope dV kV doc pm an cdv ct), osl⟩) (hcd : codeIn K cdv qual = true) (hroom : A.depth < recursionLimit)
    (hbind : BindsTo s (fnOf name qual params body scope dV kV doc pm an cdv ct) args binds)
    (hkind : (binds.all fun y => scope.names.lookup y.1 == some .local || scope.names.lookup y.1 == some .cell) = true)
    (h : ∀ s₁, InCallC s s.heap.objs.size (bindL (envOfC qual scope s.heap.objs.size f cdv).kindOf binds fun _ => none) (cellsFrom (s.heap.objs.size + 1) scope.names [])
        (bindC (envOfC qual scope s.heap.objs.size f cdv).kindOf binds fun _ => none) s₁ →
      wpAny (model prog w) (A.deeper (envOfC qual scope s.heap.objs.size f cdv)) (execs body (envOfC qual scope s.heap.objs.size f cdv))
        (fun fl s' => R (.ok (.ret (match fl with | .ret v => v | _ => .none))) s')
        (fun e s' => wpAny (model prog w) (A.deeper (envOfC qual scope s.heap.objs.size f cdv)) (leaving (envOfC qual scope s.heap.objs.size f cdv) e) (fun _ s'' => R (.error e) s'') (fun e' s'' => R (.error e') s'') s') s₁)
    (hco : scope.isCoroutine = false) (hgen : scope.isGenerator = false) (hk : scope.kind = .function) : codeAny (model prog w) A (.call (.ref f) args) R s := by
  refine codeAny_call_function hroom (X _ _ ho) rfl hco hgen rfl (codeRec_of X hcd) (hbind _ _ _ _ ?_)
  refine wpAny_newFunctionEnv_cells hk (kindsX hkind _) fun env he s₁ x => ?_
  subst he
  exact ⟨hlim.keeps x.toInCall.keep, codeAny_func (h s₁ x)⟩

def ledger (h : Heap) (L d : Addr) : List (Addr × Obj) := (List.range h.objs.size).filterMap fun a => if a = L ∨ a = d then none else (h.get? a).map fun o => (a, o)
end
end Att

namespace L2
open PySem PySem.Spec PyProof.Rows

theorem vals_ints : ∀ {vs : List Value} {ns : List Int}, IntsAre vs ns → Vals (ns.map V.int) vs
  | _, _, .nil => .nil
  | _, _, .cons n t h => .cons ⟨t, rfl⟩ (vals_ints h)

/-- nothing is tracked but the script, known to the object (or it is an object of the module) -/
def Only (H : Hp) : Prop := ∀ b, H b = none ∨ ∃ o xs, H b = some (.frz o (.lst xs))

/-- THE HEAD: the law's promise, at the heap behind the top. F, the promise of the law's def, may use that base is part of the heap (so K.In base, base.Ns mainGlobals mg stand in Mod) -/
theorem law_call {P : Program} {w : World} {K : PySem.W.Frag} {mg mb : Str → Option Value} {CX : CXT} {k : Nat} {fa a : Addr} {fd : FuncData} {x : Str} {sp : Sp} {s₁ : Shared} {vs : List Value} {ns : List Int}
    (KX : K.In s₁.heap) (hns : s₁.heap.Ns mainGlobals mg) (hb : s₁.heap.Ns builtinsNs mb) (hbb : ∀ x : Str, x ≠ "__name__" → mb x = bootBuiltins x) (hlim : s₁.heap.NoLimit) (hg : s₁.gens = #[])
    (ha : s₁.heap.get? a = some { cls := .type "list", data := .seq vs.toArray }) (hi : IntsAre vs ns) (hl : ns.length ≤ sizeLine) (hr : Room k callerA)
    (F : ∀ base : Heap, K.In base → base.Ns mainGlobals mg → FnOk P w K mg base CX k fa fd [x] sp) (hbind : ∀ (s : Shared) (u : Value), BindsTo s fd ⟨[u], []⟩ [(x, u)])
    (hsp : ∀ H : Hp, Only H → SqL K H a (ns.map V.int) → sp [.ref a] H (fun v _ => v = .bl true) fun _ _ _ => False)
    (hCX : ∀ H e s', CX [] H s₁ (fun _ _ _ => False) e s' → False) :
    codeAny (model P w) callerA (.call (.ref fa) ⟨[.ref a], []⟩) (fun r s' => r = .ok (.ret (.bool true)) ∧ OldK s₁.heap s'.heap ∧ s'.os = s₁.os ∧ AllBare s'.gens) s₁ := by
  have rv := vals_ints hi
  have lenV := hi.length
  -- from an abstract heap in which nothing but the script may be tracked
  have core : ∀ H : Hp, Only H → SqL K H a (ns.map V.int) → HOk P w H s₁.heap → (∀ b, H b ≠ none → b = a) → (H a ≠ none → K.lookup a = none) →
      codeAny (model P w) callerA (.call (.ref fa) ⟨[.ref a], []⟩) (fun r s' => r = .ok (.ret (.bool true)) ∧ OldK s₁.heap s'.heap ∧ s'.os = s₁.os ∧ AllBare s'.gens) s₁ := by
    intro H hO hS hok hA hK
    have base_of : ∀ {b : Addr} {o : Obj}, s₁.heap.get? b = some o → H b = none → (hidT s₁.heap H).get? b = some o := fun e n => hidT_get e n
    have noA : ∀ {b : Addr} {o : Obj} {es : Array DictEntry} {ep : Nat}, s₁.heap.get? b = some o → o.data = .dict es ep → H b = none := fun {b o es ep} e d => by
      cases q : H b with
      | none => rfl
      | some u =>
        have e' : b = a := hA b (by rw [q]; simp)
        subst e'
        rw [ha] at e; cases e
        have d' : Data.seq vs.toArray _ = Data.dict es ep := d
        cases d'
    have nsK : ∀ {b : Addr} {m : Str → Option Value}, s₁.heap.Ns b m → (hidT s₁.heap H).Ns b m := fun {b m} ⟨o, es, ep, e, d, r⟩ => ⟨o, es, ep, base_of e (noA e d), d, r⟩
    have hKb : K.In (hidT s₁.heap H) := fun b o e => base_of (KX b o e) (by
      cases q : H b with
      | none => rfl
      | some u =>
        have e' : b = a := hA b (by rw [q]; simp)
        subst e'
        rw [hK (by rw [q]; simp)] at e; cases e)
    have hM : Mod K mg (hidT s₁.heap H) := ⟨hKb, nsK hns, ⟨mb, nsK hb, hbb⟩, let ⟨mc, h1, h2⟩ := hlim; ⟨mc, nsK h1, h2⟩⟩
    have e0 : Env0 P w K mg (hidT s₁.heap H) callerA [] s₁ H := ⟨trivial, hM, fun b o e => of_hidT e, Nat.le_of_eq (hidT_size _ _), trivial, fun b hb => absurd (show b ∈ ([] : List Addr) from hb) (by simp), hok, trivial⟩
    refine codeAny_mono ((F _ hKb (nsK hns)).run callerA [] s₁ H ⟨[.ref a], []⟩ [.ref a] [.ref a] _ _ hr e0 (hbind s₁ (.ref a)) (.cons rfl .nil) (hsp H hO hS)) fun r s' h => ?_
    cases r with
    | error e => exact (hCX H e s' h).elim
    | ok fl =>
      cases fl with
      | next => exact False.elim h
      | brk => exact False.elim h
      | cont => exact False.elim h
      | ret u =>
        obtain ⟨v, H', os, bare0, un, hok', r', q⟩ := h
        have bare := bare0 (.of_eq hg)
        have q' : v = .bl true := q
        subst q'
        obtain rfl : u = Value.bool true := r'
        refine ⟨rfl, OldK.of_keep fun b o e => ?_, os, bare⟩
        cases q : H b with
        | none => exact un.keep b o e q (by intro z; exact absurd (show b ∈ ([] : List Addr) from z) (by simp)) (by simp)
        | some u =>
          rcases hO b with z | ⟨ob, xs, z⟩
          · rw [q] at z; cases z
          · have z2 := un.frzs b ob _ z
            obtain ⟨e1, _⟩ := hok b _ z
            obtain ⟨e2, _⟩ := hok' b _ z2
            rw [e] at e1; cases e1
            exact e2
  cases hk : K.lookup a with
  | some o =>
    -- the script is one of the module's own objects
    have e := KX a o hk
    rw [ha] at e
    cases e
    refine core (fun _ => none) (fun _ => .inl rfl) (.inr ⟨_, vs.toArray, _, hk, rfl, rfl, rfl, by rw [List.size_toArray, lenV]; exact hl, by simpa using rv⟩) (fun b u z => by have z' : (none : Option HO) = some u := z; cases z') (fun b z => absurd rfl z) fun z => absurd rfl z
  | none =>
    refine core (fun b => if b = a then some (.frz { cls := .type "list", data := .seq vs.toArray } (.lst (ns.map V.int))) else none) (fun b => ?_) (.inl (.inr ⟨{ cls := .type "list", data := .seq vs.toArray }, if_pos rfl⟩)) (fun b u z => ?_) (fun b z => ?_) fun _ => hk
    · by_cases hb : b = a
      · exact .inr ⟨_, _, if_pos hb⟩
      · exact .inl (if_neg hb)
    · by_cases hb : b = a
      · have z' := (if_pos hb).symm.trans z
        cases z'
        subst hb
        exact ⟨ha, by rw [List.length_map]; exact hl, vs, _, rv, ha⟩
      · have z' := (if_neg hb).symm.trans z
        cases z'
    · by_cases hb : b = a
      · exact hb
      · exact absurd (if_neg hb) z
end L2

namespace L2
open PySem PySem.Spec PyProof.Rows

abbrev KOf {K : PySem.W.Frag} {h : Heap} (_ : K.In h) : PySem.W.Frag := K

/-- the goal that k_head leaves (case hc), from the law's promise. F gives the function object fd (K's own) once, then the promise over every base -/
theorem walk_of {l : PySem.W.OpenLaw} {n k : Nat} {q : Program} {loose : List Str} {XP : (Str → Option Value) → Heap → Prop} {YP : World → Heap → Prop} {d : DefRec} {K : Params → PySem.W.Frag} {CX : World → CXT} {sp : World → Sp} {x : Str}
    (hn : l.most = some n) (hn2 : n ≤ sizeLine) (hdf : d.params.defaults = []) (hr : Room k callerA)
    (hY : ∀ (w : World) (h : Heap), YP w h → (K w.params).In h)
    (F : ∀ (w : World) (mg : Str → Option Value) (fa : Addr) (h : Heap), (K w.params).In h → h.Ns mainGlobals mg → mg d.name = some (.ref fa) →
      ∃ fd : FuncData, (∀ (s : Shared) (u : Value), BindsTo s fd ⟨[u], []⟩ [(x, u)]) ∧
        ∀ base : Heap, (K w.params).In base → base.Ns mainGlobals mg → FnOk l.prog w (K w.params) mg base (CX w) k fa fd [x] (sp w))
    (hsp : ∀ (w : World) (H : Hp) (a : Addr) (ns : List Int), ns.length ≤ n → Only H → SqL (K w.params) H a (ns.map V.int) → sp w [.ref a] H (fun v _ => v = .bl true) fun _ _ _ => False)
    (hCX : ∀ (w : World) (H : Hp) (s : Shared) (e : Value) (s' : Shared), CX w [] H s (fun _ _ _ => False) e s' → False) :
    PySem.W.WalkO q loose XP YP l.row.toRowW d [] (fun f vs => PySem.call f vs) := by
  refine Att.attach_call hn hdf fun w s₀ s₁ mg mb fa o pm cd doc a vs ns G Y ho hd hcd hmg hobj hints hlen hg => ?_
  have KX := hY w _ Y
  obtain ⟨fd, hb, hF⟩ := F w mg fa _ KX G.T.g hmg
  exact law_call KX G.T.g G.T.b G.T.builtins G.T.nolimit hg hobj hints (Nat.le_trans hlen hn2) hr hF hb (fun H hO hS => hsp w H a ns hlen hO hS) fun H e s' => hCX w H s₁ e s'
end L2

/- THE LAST THEOREM (shape; LID, My.* are yours):
   My.Adr: a structure of the addresses that your layer names (classes, functions); My.Txt K t: a structure (Prop) of the equations over K;
   My.txt_mk : {K} {implicit addresses ..} (e1 : nsIn K mainGlobals "law" = some (some (.ref f))) (e2 : K.lookup f = some ⟨oc, od, .func (fnOf "law" "law" params body scope dV kV doc pm an cdv ct), sl⟩) (e3 : codeIn K cdv "law" = true) .. : ∃ t, My.Txt K t

set_option maxRecDepth 100000 in
set_option maxHeartbeats 0 in
theorem PySem.Challenge.cw_LID_holds : PySem.Challenge.rw_LID.Holds := by
  w_on; o_law; k_head; (case hw => w_witness2)
  k_fill
  refine L2.walk_of (l := PySem.Challenge.rw_LID) (n := 63) (k := 40) (x := "script") (CX := fun w => ..) (sp := fun _ => My.sp_law) rfl (by decide) rfl ⟨rfl, by decide, by decide⟩ (fun w h Y => PySem.W.kIn_of Y) ?F ?S ?C
  case F =>
    intro w mg fa h KX G hmg
    have T : ∃ t, My.Txt (L2.KOf KX) t := by
      dsimp only [L2.KOf]                          -- K must stand as «<heap const> w.params» for k_is
      refine' My.txt_mk ?e1 ?e2 ?e3 ..
      (case e1 => PySem.W.k_is)                    -- in the order: a name -> its address -> its object -> its parts
      (case e2 => PySem.W.k_is)
      ..
    obtain ⟨t, T⟩ := T
    have e0 := hmg.symm.trans (PySem.W.mg_of KX G T.law)
    cases e0                                       -- fa is the law's own address
    exact ⟨_, fun s u => .of_eq rfl, fun base kb nb => My.law_fn T kb nb⟩     -- if «.of_eq rfl» comes too early: refine' ⟨_, ?b, fun base kb nb => My.law_fn T kb nb⟩; exact fun s u => .of_eq rfl
  case S => exact fun w H a ns hl hO hS => ..
  case C => exact ..
(the tactic k_is has no namespace: write k_is) -/
/-! SHORT WORDS over the layer: a def of the text, its body, what a loop and a test want. -/
namespace L2
open PySem PySem.Spec PyProof.Rows

/-! ### the text by places -/
/-- the j-th statement of a class's body -/
def inClass (s : Stmt) (j : Nat) : Stmt := match s with
  | .ClassDef _ _ _ body _ _ _ _ _ _ _ => body.getD j (.Pass ⟨0, 0, 0, 0⟩)
  | _ => .Pass ⟨0, 0, 0, 0⟩
def defArgs (s : Stmt) : Arguments := match s with
  | .FunctionDef _ a _ _ _ _ _ _ _ _ => a
  | _ => { posonlyargs := [], args := [], vararg := none, kwonlyargs := [], kw_defaults := [], kwarg := none, defaults := [] }
def defBody (s : Stmt) : List Stmt := match s with
  | .FunctionDef _ _ b _ _ _ _ _ _ _ => b
  | _ => []
def defScope (s : Stmt) : Scope := match s with
  | .FunctionDef _ _ _ _ _ _ sc _ _ _ => sc
  | _ => { kind := .function, names := [], isGenerator := false, isCoroutine := false }

/-! ### no exception leaves a def -/
abbrev CX0 : CXT := fun _ _ _ _ _ _ => False
abbrev E0 : XK := fun _ _ _ => False
theorem pass0 {X : Cx} (hqt : X.qt = false := by rfl) : Passes CX0 X E0 := ⟨hqt, fun _ _ _ _ _ _ _ h => h.elim⟩

/-! ### a def (or method) of the text as it stands behind the top -/
structure Fun (K : PySem.W.Frag) (x qual : Str) (st : Stmt) (f : Addr) (fd : FuncData) : Prop where
  ex : ∃ (oc : Value) (od : Option Addr) (kV doc pm : Value) (an : Option Addr) (cdv ct : Value) (osl : Array (Option Value)),
    fd = PySem.W.fnOf x qual (defArgs st) (defBody st) (defScope st) .none kV doc pm an cdv ct ∧ K.lookup f = some ⟨oc, od, .func fd, osl⟩ ∧ PySem.W.codeIn K cdv qual = true
  kp : PySem.W.keepIn K (.ref f) = true
section
variable {P : Program} {w : World} {K : PySem.W.Frag} {mg : Str → Option Value} {base : Heap}
/-- THE RULE for a def: its body as a term of rules, and the reading of that term -/
theorem Fun.ok {x qual : Str} {st : Stmt} {f : Addr} {fd : FuncData} {N ps : List Str} {k : Nat} {sp : Sp} (F : Fun K x qual st f fd) (S : FnScope N ps (defScope st)) (len : ∀ vs H Q E, sp vs H Q E → vs.length = ps.length)
    (hbody : ∀ (cdv : Value) (A : Around) (outer : List Env) (s : Shared) (H : Hp) (vs : List V) (Q : VK) (E : XK), Room k (A.deeper (envOfC qual (defScope st) s.heap.objs.size f cdv)) → sp vs H Q E →
      ∃ t, PSs (cxOf CX0 P w K mg base N qual (defScope st) f cdv A outer s H E).nox (defBody st) t ∧ t { nx := fun _ H' => Q .non H', rt := Q } (start N vs) H) : FnOk P w K mg base CX0 (k + 1) f fd ps sp := by
  obtain ⟨oc, od, kV, doc, pm, an, cdv, ct, osl, rfl, lk, hcd⟩ := F.ex
  refine fn_of lk hcd S len fun A outer s H vs Q E hr hsp => ?_
  obtain ⟨t, h, q⟩ := hbody cdv A outer s H vs Q E hr hsp
  exact ⟨t, h.nox, q⟩
/-- how its arguments bind (no defaults): h is «fun _ _ _ _ _ _ us hl => match us, hl with | [_, _], _ => rfl», one _ a parameter -/
theorem Fun.binds {x qual : Str} {st : Stmt} {f : Addr} {fd : FuncData} {ps : List Str} (F : Fun K x qual st f fd)
    (h : ∀ (kV doc pm : Value) (an : Option Addr) (cdv ct : Value) (us : List Value), us.length = ps.length → bindArgs (PySem.W.fnOf x qual (defArgs st) (defBody st) (defScope st) .none kV doc pm an cdv ct) ⟨us, []⟩ = pure (ps.zip us)) : Binds K fd ps [] := by
  obtain ⟨oc, od, kV, doc, pm, an, cdv, ct, osl, rfl, lk, hcd⟩ := F.ex
  exact .all (h kV doc pm an cdv ct)
theorem fun_mk {x qual : Str} {st : Stmt} {f : Addr} {oc : Value} {od an : Option Addr} {osl : Array (Option Value)} {kV doc pm cdv ct : Value} (l : K.lookup f = some ⟨oc, od, .func (PySem.W.fnOf x qual (defArgs st) (defBody st) (defScope st) .none kV doc pm an cdv ct), osl⟩)
    (c : PySem.W.codeIn K cdv qual = true) (k : PySem.W.keepIn K (.ref f) = true) : Fun K x qual st f (PySem.W.fnOf x qual (defArgs st) (defBody st) (defScope st) .none kV doc pm an cdv ct) := ⟨⟨oc, od, kV, doc, pm, an, cdv, ct, osl, rfl, l, c⟩, k⟩
end
theorem small1000 {n : Nat} (h : n ≤ 1000) : n < sizeLine := Nat.lt_of_le_of_lt h (by decide)

/-! ### expressions in short: the name that stands in the i-th slot -/
section
variable {X : Cx}
theorem pv (i : Nat) {x : Str} {pos : Pos} (hN : X.N[i]? = some x := by rfl) (hv : Vis X.env.scope x := by first | exact Or.inl rfl | exact Or.inr (Or.inl rfl) | exact Or.inr (Or.inr rfl)) (hd : (x == ("__debug__" : Str)) = false := by decide)
    (hcd : (x == ("__classdict__" : Str)) = false := by decide) : PE X (.Name x pos) (tVar i) := pe_var hN hv hd hcd
end

/-! ### tests -/
theorem iteF {A B : Prop} (h : B) : if false = true then A else B := by
  rw [if_neg Bool.false_ne_true]
  exact h
theorem iteT {A B : Prop} (h : A) : if true = true then A else B := by
  rw [if_pos rfl]
  exact h
theorem ite2 {c A B : Prop} [Decidable c] (h1 : c → A) (h2 : ¬ c → B) : if c then A else B := by
  by_cases h : c
  · rw [if_pos h]
    exact h1 h
  · rw [if_neg h]
    exact h2 h
/-! ### heaps -/
/-- all that was tracked is as it was -/
def Same (H H' : Hp) : Prop := ∀ b o, H b = some o → H' b = some o
theorem Same.refl (H : Hp) : Same H H := fun _ _ h => h
theorem Same.trans {H H1 H2 : Hp} (a : Same H H1) (b : Same H1 H2) : Same H H2 := fun c o h => b c o (a c o h)
theorem Same.free {H H' : Hp} (e : Same H H') {l : Addr} (h : H' l = Option.none) : H l = Option.none := by
  cases q : H l with
  | none => rfl
  | some o =>
    rw [e l o q] at h
    cases h
theorem Same.seq {K : PySem.W.Frag} {H H' : Hp} {a : Addr} {xs : List V} (e : Same H H') (h : SqL K H a xs) : SqL K H' a xs := by
  rcases h with (h | ⟨o, h⟩) | h
  · exact .inl (.inl (e _ _ h))
  · exact .inl (.inr ⟨o, e _ _ h⟩)
  · exact .inr h

/-! ### a dict's pairs: keys that differ -/
section
variable {κ : Type} [DecidableEq κ]
theorem valV_not {kvs : List (κ × V)} {k : κ} (h : valV kvs k = none) : ¬ k ∈ kvs.map (·.1) := by
  intro m
  obtain ⟨p, hp, e⟩ := List.mem_map.mp m
  have q : (kvs.any fun kv => decide (kv.1 = k)) = true := List.any_eq_true.mpr ⟨p, hp, decide_eq_true e⟩
  rw [valV_any, h] at q
  exact absurd q (by simp)
end
/-- a new instance and its __init__ leave all that was tracked as it was -/
theorem Same.made {H H1 : Hp} {x dx C : Addr} (nx : H x = Option.none) (nd : H dx = Option.none) (k : ∀ b o, (upd (upd H dx (.own x)) x (.ins C dx [])) b = some o → b ≠ x → H1 b = some o) : Same H H1 := fun b o e =>
  k b o (by rw [upd_ne (ne_of_none e nx), upd_ne (ne_of_none e nd)]; exact e) (ne_of_none e nx)
end L2

set_option maxHeartbeats 4000000
namespace L2
open PySem PySem.Spec PyProof.Rows
/-- the context of a quiet def: generators and draws stay as they were at the entry -/
abbrev cxQ (P : Program) (w : World) (K : PySem.W.Frag) (mg : Str → Option Value) (base : Heap) (N : List Str) (qual : Str) (scope : Scope) (f : Addr) (cd : Value) (A : Around) (outer : List Env) (s : Shared) (H : Hp) (E : XK) : Cx :=
  { cxOf CX0 P w K mg base N qual scope f cd A outer s H E with qt := true }
/-- a quiet function -/
structure FnQ (P : Program) (w : World) (K : PySem.W.Frag) (mg : Str → Option Value) (base : Heap) (k : Nat) (f : Addr) (fd : FuncData) (ps : List Str) (sp : Sp) : Prop where
  len : ∀ vs H Q E, sp vs H Q E → vs.length = ps.length
  run : ∀ (A : Around) (outer : List Env) (s : Shared) (H : Hp) (args : Args) (us : List Value) (vs : List V) (Q : VK) (E : XK), Room k A → Env0 P w K mg base A outer s H → BindsTo s fd args (ps.zip us) → Vals vs us → sp vs H Q E →
    codeAny (model P w) A (.call (.ref f) args) (fun r s' => CR CX0 outer P w H s Q E r s' ∧ s'.gens = s.gens ∧ s'.drawn = s.drawn) s
theorem FnQ.fn {P : Program} {w : World} {K : PySem.W.Frag} {mg : Str → Option Value} {base : Heap} {k : Nat} {f : Addr} {fd : FuncData} {ps : List Str} {sp : Sp} (F : FnQ P w K mg base k f fd ps sp) : FnOk P w K mg base CX0 k f fd ps sp :=
  ⟨F.len, fun A outer s H args us vs Q E hr he hb hv hs => codeAny_mono (F.run A outer s H args us vs Q E hr he hb hv hs) fun _ _ h => h.1⟩
section
variable {X : Cx} {pins : List (Addr × Obj)} {σ : St} {H : Hp} {s s' : Shared}
end
section
variable {X : Cx} {k : Nat} {f : Addr} {fd : FuncData} {ps : List Str} {sp : Sp} {dvs : List V} {ds : List Value} {x : Str} {p pos : Pos} {e : Expr} {es : List Expr} {t : TA}
end
theorem Inv.toQ {X : Cx} {pins : List (Addr × Obj)} {σ : St} {H : Hp} {s : Shared} (I : Inv X pins σ H s) (e : s.gens = X.s_0.gens ∧ s.drawn = X.s_0.drawn) : Inv { X with qt := true } pins σ H s :=
  ⟨⟨I.ok.mod, I.ok.kind, I.ok.glob, I.ok.blt, I.ok.above, I.ok.inj, I.ok.has, I.ok.cab, I.ok.hd, I.ok.frames, I.ok.stk, I.ok.exf, I.ok.bs, I.ok.bsz, I.ok.noex, I.ok.exfs, I.ok.funs, I.ok.frf⟩,
    I.os, ⟨I.bare.1, fun _ => e⟩, I.base, I.loc, I.cell, I.free, I.freeC, I.pin, I.hok, I.len⟩
section
variable {P : Program} {w : World} {K : PySem.W.Frag} {mg : Str → Option Value} {base : Heap}
/-- the rule for a quiet def -/
theorem Fun.okQ {x qual : Str} {st : Stmt} {f : Addr} {fd : FuncData} {N ps : List Str} {k : Nat} {sp : Sp} (F : Fun K x qual st f fd) (S : FnScope N ps (defScope st)) (len : ∀ vs H Q E, sp vs H Q E → vs.length = ps.length)
    (hbody : ∀ (cdv : Value) (A : Around) (outer : List Env) (s : Shared) (H : Hp) (vs : List V) (Q : VK) (E : XK), Room k (A.deeper (envOfC qual (defScope st) s.heap.objs.size f cdv)) → sp vs H Q E →
      ∃ t, PSs (cxQ P w K mg base N qual (defScope st) f cdv A outer s H E).nox (defBody st) t ∧ t { nx := fun _ H' => Q .non H', rt := Q } (start N vs) H) : FnQ P w K mg base (k + 1) f fd ps sp := by
  obtain ⟨oc, od, kV, doc, pm, an, cdv, ct, osl, rfl, lk, hcd⟩ := F.ex
  refine ⟨len, fun A outer s H args us vs Q E hr e0 hb r hsp => ?_⟩
  have hl := len _ _ _ _ hsp
  have KX : K.In s.heap := e0.mod.kin.keeps fun b o e => (e0.bs b o e).1
  have lim : s.heap.NoLimit := e0.mod.nolimit.keeps fun b o e => (e0.bs b o e).1
  have hkind : ∀ y ∈ ps.zip us, (defScope st).names.lookup y.1 = some .local ∨ ((defScope st).names.lookup y.1 = some .cell ∧ ((cellsFrom (s.heap.objs.size + 1) (defScope st).names []).lookup y.1).isSome = true) := fun ⟨n, v⟩ hy => by
    rcases S.par n (List.of_mem_zip hy).1 with q | q
    · exact .inl q
    · exact .inr ⟨q, PySem.W.cellsFrom_some _ _ _ (.inl q)⟩
  refine codeAny_call_function hr.depth (KX _ _ lk) rfl S.co S.gen rfl (PySem.W.codeRec_of KX hcd) (hb _ _ _ _ ?_)
  refine wpAny_newFunctionEnv_cells S.kind hkind fun env he s1 x => ?_
  subst he
  refine ⟨lim.keeps x.toInCall.keep, codeAny_func ?_⟩
  obtain ⟨t, ht0, hq⟩ := hbody cdv A outer s H vs Q E (hr.deeper _) hsp
  have ht := ht0.nox
  have I0 : Inv (cxOf CX0 P w K mg base N qual (defScope st) f cdv A outer s H E) [] (start N vs) H s1 := inv_start S hr.hd e0 hl r x
  have eg : s1.gens = s.gens ∧ s1.drawn = s.drawn := by
    obtain ⟨h1, tk, rfl, hk⟩ := x.done
    exact ⟨rfl, rfl⟩
  have I : Inv (cxQ P w K mg base N qual (defScope st) f cdv A outer s H E) [] (start N vs) H s1 := I0.toQ eg
  refine wpAny_mono (ht [] s1 (start N vs) H _ I hq) (fun fl s' hs => ?_) fun e s' hs => ?_
  · have fin : ∀ {σ' : St} {H' : Hp} {v : V} {u : Value}, Inv (cxQ P w K mg base N qual (defScope st) f cdv A outer s H E) [] σ' H' s' → RelV v u → Q v H' → CE outer P w H s Q u s' ∧ s'.gens = s.gens ∧ s'.drawn = s.drawn :=
      fun {σ' H' v u} J rv q => ⟨⟨v, H', J.os, J.bare.1, J.base, J.hok, rv, q⟩, J.bare.2 rfl⟩
    cases fl with
    | ret u =>
      obtain ⟨v, σ', H', J, rv, q⟩ := hs
      exact fin J rv q
    | next =>
      obtain ⟨σ', H', J, q⟩ := hs
      exact fin (v := V.non) (u := Value.none) J rfl q
    | brk =>
      obtain ⟨_, _, _, q⟩ := hs
      exact False.elim q
    | cont =>
      obtain ⟨_, _, _, q⟩ := hs
      exact False.elim q
  · exact wpAny_mono hs (fun _ _ z => False.elim z) fun _ _ z => False.elim z
end
end L2

namespace Ob
open PySem PySem.Spec PyProof.Rows L2
section
variable {prog : Program} {w : World} {A : Around} {E : Value → Shared → Prop} {s : Shared} {K : PySem.W.Frag}
/-- a built-in's name, read in a def's frame -/
theorem load_bi {env : Env} {x : Str} {u : Value} {pos : Pos} {mg mb : Str → Option Value} {Q : Value → Shared → Prop} (hk : env.scope.kind = .function) (hg : env.kindOf x = some .globalImplicit) (G : s.heap.Ns env.globals mg) (hm : mg x = none)
    (B : s.heap.Ns env.builtins mb) (hb : mb x = some u) (h : Q u s) (hd : (x == ("__debug__" : Str)) = false := by decide) : wpAny (model prog w) A (eval (.Name x pos) env) Q E s :=
  Calls.Name_function_global hk hg (Calls.loadGlobal_builtin G hm B hb h) hd
theorem load_here {env : Env} {x : Str} {u : Value} {pos : Pos} {m : Str → Option Value} {Q : Value → Shared → Prop} (hk : env.scope.kind = .function) (hl : env.kindOf x = some .local) (hn : s.heap.Ns env.locals m) (hm : m x = some u) (h : Q u s)
    (hd : (x == ("__debug__" : Str)) = false := by decide) : wpAny (model prog w) A (eval (.Name x pos) env) Q E s :=
  wpAny_Name (wpAny_loadName_local hk hl hn hm h) hd
/-- isinstance(x, T) of a local and a built-in class -/
theorem isi_raw {env : Env} {x T : Str} {TT : String} {u t : Value} {Hh : Heap → Prop} {b : Bool} {p1 p2 p3 p4 : Pos} {m mg mb : Str → Option Value} {Q : Value → Shared → Prop} (hk : env.scope.kind = .function) (KX : K.In s.heap)
    (hg : env.kindOf "isinstance" = some .globalImplicit) (hT : env.kindOf T = some .globalImplicit) (hl : env.kindOf x = some .local) (hn : s.heap.Ns env.locals m) (hm : m x = some u)
    (G : s.heap.Ns env.globals mg) (g1 : mg "isinstance" = none) (g2 : mg T = none) (B : s.heap.Ns env.builtins mb) (b1 : mb "isinstance" = some (.builtin "isinstance")) (b2 : mb T = some (.type TT))
    (Z : PySem.W.KitX K u t Hh) (hH : Hh s.heap) (e : PySem.W.kitOne K t (.type TT) = some b) (hx : u ≠ .builtin "__main__.__loader__#opaque") (h : ∀ tk, Q (.bool b) { s with toks := tk })
    (hd : (x == ("__debug__" : Str)) = false := by decide) (hd2 : (T == ("__debug__" : Str)) = false := by decide) :
    wpAny (model prog w) A (eval (.Call (.Name "isinstance" p1) [.Name x p2, .Name T p3] [] p4) env) Q E s := by
  refine wpAny_Call_Name_kw (load_bi hk hg G g1 B b1 ?_)
  refine PyProof.Rows.callWith_builtin1 ?_ rfl rfl
  refine Calls.spliced_cons (load_here hk hl hn hm ?_ hd)
  refine Calls.spliced_cons (load_bi hk hT G g2 B b2 ?_ hd2)
  refine Calls.spliced_nil ?_
  exact PySem.W.kia_one Z KX hH e hx h
end
end Ob

namespace Ob
open PySem PySem.Spec PyProof.Rows L2
/-- what a call of is_whole needs of the heap at hand -/
structure GlobAt (mg : Str → Option Value) (h : Heap) : Prop where
  g : h.Ns mainGlobals mg
  b : ∃ mb, h.Ns builtinsNs mb ∧ ∀ x : Str, x ≠ "__name__" → mb x = bootBuiltins x
theorem GlobAt.keeps {mg : Str → Option Value} {h h' : Heap} (x : GlobAt mg h) (k : ∀ b o, h.get? b = some o → h'.get? b = some o) : GlobAt mg h' :=
  ⟨x.g.keeps k, let ⟨mb, a, b⟩ := x.b; ⟨mb, a.keeps k, b⟩⟩
/-- the body of is_whole, with any places in the text -/
abbrev wholeBody (p1 p2 p3 p4 p5 p6 p7 p8 p9 p10 p11 : Pos) : List Stmt :=
  [.Return (some (.BoolOp .And [.Call (.Name "isinstance" p1) [.Name "thing" p2, .Name "int" p3] [] p4, .UnaryOp .Not (.Call (.Name "isinstance" p5) [.Name "thing" p6, .Name "bool" p7] [] p8) p9] p10)) p11]
section
variable {prog : Program} {w : World} {A : Around} {E : Value → Shared → Prop} {s : Shared} {K : PySem.W.Frag}
theorem whole_body {env : Env} {u t : Value} {Hh : Heap → Prop} {b1 b2 : Bool} {p1 p2 p3 p4 p5 p6 p7 p8 p9 p10 p11 : Pos} {m mg : Str → Option Value} {Q : Flow → Shared → Prop} (hk : env.scope.kind = .function) (KX : K.In s.heap)
    (hg : env.kindOf "isinstance" = some .globalImplicit) (hI : env.kindOf "int" = some .globalImplicit) (hB : env.kindOf "bool" = some .globalImplicit) (hl : env.kindOf "thing" = some .local) (hn : s.heap.Ns env.locals m) (hm : m "thing" = some u)
    (eg : env.globals = mainGlobals) (eb : env.builtins = builtinsNs) (G : GlobAt mg s.heap) (g1 : mg "isinstance" = none) (g2 : mg "int" = none) (g3 : mg "bool" = none)
    (Z : PySem.W.KitX K u t Hh) (hH : Hh s.heap) (e1 : PySem.W.kitOne K t (.type "int") = some b1) (e2 : PySem.W.kitOne K t (.type "bool") = some b2) (hx : u ≠ .builtin "__main__.__loader__#opaque")
    (h : ∀ tk, Q (.ret (.bool (b1 && !b2))) { s with toks := tk }) :
    wpAny (model prog w) A (execs (wholeBody p1 p2 p3 p4 p5 p6 p7 p8 p9 p10 p11) env) Q E s := by
  obtain ⟨mb, B, hb⟩ := G.b
  refine wpAny_execs_cons (wpAny_Return_some (BoolOp_and ?_))
  refine isi_raw hk KX hg hI hl hn hm (eg ▸ G.g) g1 g2 (eb ▸ B) ((hb _ (by decide)).trans (by decide +kernel)) ((hb _ (by decide)).trans (by decide +kernel)) Z hH e1 hx (fun tk => ?_)
  refine wpAny_truthy_bool ?_
  cases b1 with
  | false => exact h tk
  | true =>
    refine BoolOp_one (UnaryOp_ ?_)
    refine isi_raw (s := { s with toks := tk }) hk KX hg hB hl hn hm (eg ▸ G.g) g1 g3 (eb ▸ B) ((hb _ (by decide)).trans (by decide +kernel)) ((hb _ (by decide)).trans (by decide +kernel)) Z hH e2 hx (fun tk' => ?_)
    exact not_of (wpAny_truthy_bool (h tk'))
theorem whole_call {f : Addr} {u t : Value} {Hh : Heap → Prop} {b1 b2 : Bool} {p1 p2 p3 p4 p5 p6 p7 p8 p9 p10 p11 : Pos} {mg : Str → Option Value} {params : Arguments} {scope : Scope} {kV doc pm cdv ct oc : Value} {an od : Option Addr} {osl : Array (Option Value)}
    (KX : K.In s.heap) (lim : s.heap.NoLimit) (lk : K.lookup f = some ⟨oc, od, .func (PySem.W.fnOf "is_whole" "is_whole" params (wholeBody p1 p2 p3 p4 p5 p6 p7 p8 p9 p10 p11) scope .none kV doc pm an cdv ct), osl⟩) (hcd : PySem.W.codeIn K cdv "is_whole" = true)
    (hroom : A.depth < recursionLimit)
    (hb : BindsTo s (PySem.W.fnOf "is_whole" "is_whole" params (wholeBody p1 p2 p3 p4 p5 p6 p7 p8 p9 p10 p11) scope .none kV doc pm an cdv ct) ⟨[u], []⟩ [("thing", u)])
    (sk : scope.kind = .function) (hco : scope.isCoroutine = false) (hgen : scope.isGenerator = false)
    (s1 : scope.names.lookup ("thing" : Str) = some .local) (s2 : scope.names.lookup ("isinstance" : Str) = some .globalImplicit) (s3 : scope.names.lookup ("int" : Str) = some .globalImplicit) (s4 : scope.names.lookup ("bool" : Str) = some .globalImplicit)
    (G : GlobAt mg s.heap) (g1 : mg "isinstance" = none) (g2 : mg "int" = none) (g3 : mg "bool" = none)
    (Z : PySem.W.KitX K u t Hh) (hH : ∀ h', (∀ b o, s.heap.get? b = some o → h'.get? b = some o) → Hh h') (e1 : PySem.W.kitOne K t (.type "int") = some b1) (e2 : PySem.W.kitOne K t (.type "bool") = some b2) (hx : u ≠ .builtin "__main__.__loader__#opaque") :
    codeAny (model prog w) A (.call (.ref f) ⟨[u], []⟩) (fun r s' => r = .ok (.ret (.bool (b1 && !b2))) ∧ Keeps s s') s := by
  refine Att.call_fn KX lim lk hcd hroom hb (by simp [s1]) (fun s₁ x => ?_) hco hgen sk
  obtain ⟨h', tk, es, kp⟩ := id x.done
  have KX1 : K.In s₁.heap := KX.keeps x.toInCall.keep
  refine whole_body (s := s₁) (m := _) (mg := mg) (by exact sk) KX1 (by exact s2) (by exact s3) (by exact s4) (by exact s1) x.toInCall.ns ?_ rfl rfl (G.keeps x.toInCall.keep) g1 g2 g3 Z (hH _ x.toInCall.keep) e1 e2 hx fun tk' => ⟨rfl, ?_⟩
  · have e : (envOfC "is_whole" scope s.heap.objs.size f cdv).kindOf "thing" = some .local := s1
    simp [bindL, e]
  · exact ⟨s₁.heap, tk', by rw [es], x.toInCall.keep⟩
end
end Ob

set_option maxHeartbeats 4000000
namespace Ob
open PySem PySem.Spec PyProof.Rows L2
/-- the table of a code object: it may grow while a generator expression is met for the first time -/
def TbP (P : Addr) : Heap → Prop := fun h => ∃ ps : Array Value, h.get? P = some { cls := .none, data := .fields ps } ∧ TriplesOk ps.toList
theorem TbP.stay {P : Addr} {h h' : Heap} (x : TbP P h) (k : ∀ o, h.get? P = some o → h'.get? P = some o) : TbP P h' := let ⟨ps, a, b⟩ := x; ⟨ps, k _ a, b⟩
/-- the code object at c, whose table stands at P -/
structure CodeB (h : Heap) (c P : Addr) : Prop where
  ex : ∃ o vs file tf flags tg inF text tt, h.get? c = some o ∧ o.cls = .type "code" ∧ o.data = .fields vs ∧ vs.getD 11 .none = .ref P ∧ vs[11]? = some (.ref P) ∧ vs.getD 18 .none = .str file tf ∧ vs.getD 7 .none = .int flags tg ∧
    vs.getD 9 .none = .bool inF ∧ vs.getD 10 .none = .int text tt
  ne : c ≠ P
theorem CodeB.keeps {h h' : Heap} {c P : Addr} (x : CodeB h c P) (k : ∀ b o, h.get? b = some o → h'.get? b = some o) : CodeB h' c P :=
  ⟨let ⟨o, vs, file, tf, flags, tg, inF, text, tt, a, r⟩ := x.ex; ⟨o, vs, file, tf, flags, tg, inF, text, tt, k _ _ a, r⟩, x.ne⟩
theorem CodeB.isCode {h : Heap} {c P : Addr} {ps : Array Value} (x : CodeB h c P) (e : h.get? P = some { cls := .none, data := .fields ps }) (t : TriplesOk ps.toList) : h.IsCode c P ps ∧ h.TableAt c P ps := by
  obtain ⟨⟨o, vs, file, tf, flags, tg, inF, text, tt, a, hc, r1, r2, r3, r4, r5, r6, r7⟩, ne⟩ := x
  exact ⟨⟨o, vs, file, tf, flags, tg, inF, text, tt, _, a, r1, r2, r4, r5, r6, r7, e, rfl, t, ne⟩, ⟨⟨o, vs, a, hc, r1, r3⟩, e⟩⟩
section
variable {M : Model} {A : Around} {E : Value → Shared → Prop} {s : Shared}
/-- the code of a generator expression: it is there, or it is put into the table -/
theorem gen_code {env : Env} {c P : Addr} {pos : Pos} {qn : Str} {scope : Scope} {Q : Value → Shared → Prop} (hc : env.code = .ref c) (C : CodeB s.heap c P) (T : TbP P s.heap)
    (hQ : ∀ code h' tk, Heap.ExtBut P s.heap h' → s.heap.objs.size ≤ h'.objs.size → TbP P h' → Q code { s with heap := h', toks := tk }) : wpAny M A (genexprCode env pos qn scope) Q E s := by
  obtain ⟨ps, hP, ht⟩ := T
  obtain ⟨hi, htab⟩ := C.isCode hP ht
  cases hnf : codeAmong pos ps.toList with
  | none =>
    refine wpAny_genexprCodeX hc hi htab hnf fun c' h' tk hx h1 h2 hi' _ ht' _ => hQ _ h' tk hx (Nat.le_trans h1 (Nat.le_of_lt h2)) ?_
    obtain ⟨_, _, _, _, _, _, _, _, _, op, _, _, _, _, _, _, _, e1, e2, e3, _⟩ := hi'
    exact ⟨_, ht'.2, e3⟩
  | some cv =>
    obtain ⟨⟨o, vs, file, tf, flags, tg, inF, text, tt, a, hcl, r1, r2, r3, r4, r5, r6, r7⟩, ne⟩ := C
    unfold genexprCode codeAt
    rw [hc, if_neg (by exact Bool.false_ne_true)]
    refine wpAny_bind (wpAny_fieldsOf a r1 ?_)
    rw [r2]
    refine wpAny_bind (wpAny_fieldsOf hP rfl ?_)
    rw [hnf]
    exact wpAny_pure (hQ cv s.heap s.toks (Heap.ExtBut.refl _ _) (Nat.le_refl _) ⟨ps, hP, ht⟩)
end
/-- what is known of is_whole -/
structure WholeFn (K : PySem.W.Frag) (mg : Str → Option Value) (f : Addr) : Prop where
  ex : ∃ (p1 p2 p3 p4 p5 p6 p7 p8 p9 p10 p11 : Pos) (params : Arguments) (scope : Scope) (kV doc pm cdv ct oc : Value) (an od : Option Addr) (osl : Array (Option Value)),
    K.lookup f = some ⟨oc, od, .func (PySem.W.fnOf "is_whole" "is_whole" params (wholeBody p1 p2 p3 p4 p5 p6 p7 p8 p9 p10 p11) scope .none kV doc pm an cdv ct), osl⟩ ∧ PySem.W.codeIn K cdv "is_whole" = true ∧
    (∀ (s : Shared) (u : Value), BindsTo s (PySem.W.fnOf "is_whole" "is_whole" params (wholeBody p1 p2 p3 p4 p5 p6 p7 p8 p9 p10 p11) scope .none kV doc pm an cdv ct) ⟨[u], []⟩ [("thing", u)]) ∧
    scope.kind = .function ∧ scope.isCoroutine = false ∧ scope.isGenerator = false ∧
    scope.names.lookup ("thing" : Str) = some .local ∧ scope.names.lookup ("isinstance" : Str) = some .globalImplicit ∧ scope.names.lookup ("int" : Str) = some .globalImplicit ∧ scope.names.lookup ("bool" : Str) = some .globalImplicit
  kp : PySem.W.keepIn K (.ref f) = true
  mf : mg "is_whole" = some (.ref f)
  g1 : mg "isinstance" = none
  g2 : mg "int" = none
  g3 : mg "bool" = none
/-- the kind of a value, by which is_whole judges -/
def JudgedBy (K : PySem.W.Frag) (t : Value) (b : Bool) : Prop := ∃ b1 b2, PySem.W.kitOne K t (.type "int") = some b1 ∧ PySem.W.kitOne K t (.type "bool") = some b2 ∧ b = (b1 && !b2)
section
variable {X : Cx} {pins : List (Addr × Obj)} {σ : L2.St} {H : Hp} {s : Shared} {P : Addr}
theorem kit_of (I : Inv X pins σ H s) (hP : H P = some (.ext (TbP P))) {x : V} {u : Value} {T : String} (rx : RelV x u) (ty : TyOf X.K H x (.type T)) :
    ∃ Hh, PySem.W.KitX X.K u (.type T) Hh ∧ (∀ h' : Heap, (∀ b o, b ≠ P → s.heap.get? b = some o → h'.get? b = some o) → Hh h') ∧ u ≠ .builtin "__main__.__loader__#opaque" := by
  generalize ht : Value.type T = t at ty
  cases ty with
  | non => cases ht; cases (show u = Value.none from rx); exact ⟨_, PySem.W.kitx_none, fun _ _ => trivial, fun z => nomatch z⟩
  | bl y => cases ht; cases (show u = Value.bool y from rx); exact ⟨_, PySem.W.kitx_bool, fun _ _ => trivial, fun z => nomatch z⟩
  | int i => cases ht; obtain ⟨t, q⟩ := (show ∃ t, u = Value.int i t from rx); cases q; exact ⟨_, PySem.W.kitx_int, fun _ _ => trivial, fun z => nomatch z⟩
  | str y => cases ht; obtain ⟨t, q⟩ := (show ∃ t, u = Value.str y t from rx); cases q; exact ⟨_, PySem.W.kitx_str, fun _ _ => trivial, fun z => nomatch z⟩
  | flt y => cases ht; obtain ⟨t, q⟩ := (show ∃ t, u = Value.float y t from rx); cases q; exact ⟨_, PySem.W.kitx_float, fun _ _ => trivial, fun z => nomatch z⟩
  | @lst a xs ea =>
    cases ht
    cases (show u = Value.ref a from rx)
    obtain ⟨_, _, n, _, h1⟩ := (show ObjOk X.prog X.w H s.heap a (.lst xs) from I.hok a _ ea)
    exact ⟨_, PySem.W.kitx_list, fun h' k => ⟨_, k a _ (ne_of ea hP (by intro z; cases z)) h1, rfl⟩, fun z => nomatch z⟩
  | @frz a ob xs ea =>
    cases ht
    cases (show u = Value.ref a from rx)
    obtain ⟨_, _, _, n, _, h1⟩ := (show ObjOk X.prog X.w H s.heap a (.frz ob (.lst xs)) from I.hok a _ ea)
    exact ⟨_, PySem.W.kitx_list, fun h' k => ⟨_, k a _ (ne_of ea hP (by intro z; cases z)) h1, rfl⟩, fun z => nomatch z⟩
  | @frt a ob xs ea =>
    cases ht
    cases (show u = Value.ref a from rx)
    obtain ⟨_, _, _, _, p⟩ := (show ObjOk X.prog X.w H s.heap a (.frz ob (.tup xs)) from I.hok a _ ea)
    obtain ⟨o, h1, h2, _⟩ := p
    exact ⟨_, PySem.W.kitx_tuple, fun h' k => ⟨_, k a _ (ne_of ea hP (by intro z; cases z)) h1, h2⟩, fun z => nomatch z⟩
  | @tup a xs ea =>
    cases ht
    cases (show u = Value.ref a from rx)
    obtain ⟨_, _, _, p⟩ := (show ObjOk X.prog X.w H s.heap a (.tup xs) from I.hok a _ ea)
    obtain ⟨o, h1, h2, _⟩ := p
    exact ⟨_, PySem.W.kitx_tuple, fun h' k => ⟨_, k a _ (ne_of ea hP (by intro z; cases z)) h1, h2⟩, fun z => nomatch z⟩
  | @dK a kvs ea =>
    cases ht
    cases (show u = Value.ref a from rx)
    obtain ⟨_, _, vs, _, p⟩ := (show ObjOk X.prog X.w H s.heap a (.dK kvs) from I.hok a _ ea)
    obtain ⟨o, es, ep, h1, h2, _⟩ := p
    exact ⟨_, PySem.W.kitx_dict, fun h' k => ⟨_, k a _ (ne_of ea hP (by intro z; cases z)) h1, h2.1⟩, fun z => nomatch z⟩
  | @dT a kvs ea =>
    cases ht
    cases (show u = Value.ref a from rx)
    obtain ⟨_, _, xs, _, o, es, ep, h1, h2, _⟩ := (show ObjOk X.prog X.w H s.heap a (.dT kvs) from I.hok a _ ea)
    exact ⟨_, PySem.W.kitx_dict, fun h' k => ⟨_, k a _ (ne_of ea hP (by intro z; cases z)) h1, h2.1⟩, fun z => nomatch z⟩
  | @ins a C dx fs ea cl ha hn htk hm => cases ht
end
theorem judged_int (K : PySem.W.Frag) : JudgedBy K (.type "int") true := ⟨true, false, by rfl, by rfl, rfl⟩
end Ob

set_option maxHeartbeats 4000000
namespace Ob
open PySem PySem.Spec PyProof.Rows L2
theorem boot_all' : bootBuiltins "all" = some (.builtin "all") := by decide +kernel
/-- what a generator expression in a def needs of the module -/
structure GenB (X : Cx) (c P : Addr) : Prop where
  code : CodeB X.base c P
  bm : ∃ bm ob, BMod X.base mainGlobals X.mg bm ob
  ec : X.env.code = .ref c
/-- all(is_whole(x) for x in ..) -/
def tAllW (K : PySem.W.Frag) (P : Addr) (ti : TE) : TE := fun σ H Q => ti σ H fun v H1 => ∃ (a : Addr) (xs : List V) (q : V → Bool), v = .ref a ∧ SqL K H1 a xs ∧ H1 P = some (.ext (TbP P)) ∧
  (∀ x ∈ xs, ∃ T : String, TyOf K H1 x (.type T) ∧ JudgedBy K (.type T) (q x)) ∧ Q (.bl (xs.all q)) H1
/-- the answer for the j-th item -/
def ansAt (xs : List V) (q : V → Bool) (j : Nat) : Bool := (xs[j]?.map q).getD true
theorem ansAt_all (xs : List V) (q : V → Bool) : (List.range xs.length).all (ansAt xs q) = xs.all q := by
  rw [Bool.eq_iff_iff, List.all_eq_true, List.all_eq_true]
  constructor
  · intro h x hx
    obtain ⟨j, hj, rfl⟩ := List.getElem_of_mem hx
    simpa [ansAt, List.getElem?_eq_getElem hj] using h j (List.mem_range.mpr hj)
  · intro h j hj
    have hj' := List.mem_range.mp hj
    simp [ansAt, List.getElem?_eq_getElem hj', h _ (List.getElem_mem hj')]
theorem upd_id {H : Hp} {a : Addr} {o : HO} (h : H a = some o) : upd H a o = H := by
  funext b
  unfold upd
  split
  · rename_i e; rw [e, h]
  · rfl
section
variable {X : Cx} {pins : List (Addr × Obj)} {σ : L2.St} {H : Hp} {s : Shared} {P c : Addr}
theorem Inv.tableAt (I : Inv X pins σ H s) (hP : H P = some (.ext (TbP P))) : TbP P s.heap := (show ObjOk X.prog X.w H s.heap P (.ext (TbP P)) from I.hok P _ hP).1
/-- the table has grown, generators were made and have ended -/
theorem Inv.grown {s' : Shared} (I : Inv X pins σ H s) (hqt : X.qt = false) (hP : H P = some (.ext (TbP P))) (k : ∀ b o, b ≠ P → s.heap.get? b = some o → s'.heap.get? b = some o) (T : TbP P s'.heap) (hg : AllBare s.gens → AllBare s'.gens) (ho : s'.os = s.os) : Inv X pins σ H s' := by
  have mu : Mut (H P) := by rw [hP]; exact trivial
  have heo : ∃ u, s'.heap.get? P = some u := let ⟨_, a, _⟩ := T; ⟨_, a⟩
  have st : ∀ h1 h2 : Heap, TbP P h1 → (∀ o, h1.get? P = some o → h2.get? P = some o) → TbP P h2 := fun _ _ x k => x.stay k
  have new : ObjOk X.prog X.w (upd H P (.ext (TbP P))) s'.heap P (.ext (TbP P)) := ⟨T, heo, st⟩
  have hok : HOk X.prog X.w H s'.heap := by
    have z := I.hok.write (x := P) (e := P) (o' := .ext (TbP P)) mu (.inl rfl) k heo new
    rw [upd_id hP] at z
    exact z
  have un : Un (frs X.stack) [] H H s.heap s'.heap := by
    have z : Un (frs X.stack) [] H (upd H P (.ext (TbP P))) s.heap s'.heap := Un.write mu (.inl rfl) k heo
    rw [upd_id hP] at z
    exact z
  have J := I.call (g' := s'.gens) (t' := s'.toks) (d' := s'.drawn) (ch := []) un hok ⟨fun z => hg (I.bare.1 z), fun z => by rw [hqt] at z; cases z⟩ (fun _ z => nomatch z)
  have e : ({ s with heap := s'.heap, gens := s'.gens, drawn := s'.drawn, toks := s'.toks } : Shared) = s' := by
    cases s'
    cases s
    simp only at ho
    subst ho
    rfl
  rw [e] at J
  exact J
end
section
variable {X : Cx} {P c f : Addr} {x : Str} {iter : Expr} {ti : TE} {p1 p2 p3 p4 p5 p6 p7 : Pos} {scope : Scope}
theorem pe_allW (hcalm : X.calm = true) (B : GenB X c P) (W : WholeFn X.K X.mg f) (hr : Room 2 X.A) (hg : Gl X "all") (hm : X.mg "all" = none) (hi : PE X iter ti)
    (hco : scope.isCoroutine = false) (hclos : closureFor scope X.env = pure []) (hcell : ∀ y ∈ scope.names, y.2 ≠ .cell) (h0 : scope.names.lookup (".0" : Str) = some NameKind.local) (hx : scope.names.lookup x = some .local) (hw : scope.names.lookup ("is_whole" : Str) = some .globalImplicit)
    (hkind : scope.kind = .function) (hs : ∀ v, genFold iter X.env v = pure v) (hd : (x == ("__debug__" : Str)) = false := by decide) (hqt : X.qt = false := by rfl) :
    PE X (.Call (.Name "all" p1) [.GeneratorExp (.Call (.Name "is_whole" p2) [.Name x p3] [] p4) [⟨.Name x p5, iter, [], 0⟩] scope p6] [] p7) (tAllW X.K P ti) := by
  intro pins s σ H Q I h
  have hh : X.A.handled = none := I.ok.hd hcalm
  refine wpAny_Call_Name_kw (ld_blt I hg hm boot_all' ?_ (by decide) (by decide))
  refine PyProof.Rows.callWith_builtin1 ?_ rfl rfl
  refine Calls.spliced_cons ?_
  refine wpAny_GeneratorExp_walksQD hh hco hclos hcell h0 hx hkind hr.depth (thn (hi pins s σ H _ I h) fun u s1 ⟨v, H1, I1, r1, q1⟩ => ?_) hs
  obtain ⟨a, xs, q, rfl, hS, hP, hT, hQ⟩ := q1
  cases r1
  obtain ⟨its, rv, pl, hz⟩ := I1.list hS
  have hl := pl.isList
  have hlt : a < s1.heap.objs.size := by obtain ⟨_, e, _⟩ := hl; exact Heap.lt_size e
  have tb1 := Inv.tableAt I1 hP
  have hPlt : P < s1.heap.objs.size := let ⟨_, e, _⟩ := tb1; Heap.lt_size e
  refine wpAny_pyIter_list hl ⟨(I1.nolimit).push _, ?_⟩
  refine gen_code B.ec ((B.code.keeps I1.bk).keeps fun b o e => Heap.get?_push_of_some _ e) (tb1.stay fun o e => Heap.get?_push_of_some _ e) fun code h3 tk hx3 hsz3 tb3 => ?_
  obtain ⟨bm, ob, M⟩ := B.bm
  -- all that stood at s1 stands at h3, but the table
  have k3 : ∀ b o, b ≠ P → s1.heap.get? b = some o → h3.get? b = some o := fun b o hb e => hx3 b o hb (Heap.get?_push_of_some _ e)
  have nbP : ∀ b o, X.base.get? b = some o → b ≠ P := fun b o e z => by
    have z2 := (I1.bs b o e).2
    rw [z, hP] at z2
    cases z2
  have kb3 : ∀ b o, X.base.get? b = some o → h3.get? b = some o := fun b o e => k3 b o (nbP b o e) (I1.bk b o e)
  have M3 := M.keeps kb3
  rw [I.ok.glob]
  refine wpAny_builtinsFor M3.ns M3.name M3.ne M3.obj M3.cls M3.dict M3.data ?_
  have hsz : s1.heap.objs.size < h3.objs.size := Nat.lt_of_lt_of_le (by rw [Heap.size_push]; exact Nat.lt_succ_self _) hsz3
  have hit3 : ∀ o, (s1.heap.push { cls := .type "list_iterator", data := .fields #[.ref a, .int 0 0] }).get? s1.heap.objs.size = some o → h3.get? s1.heap.objs.size = some o := fun o e => hx3 _ o (Nat.ne_of_gt hPlt) e
  have haP : a ≠ P := fun z => by
    obtain ⟨o, ho, hcls, _⟩ := hl
    obtain ⟨_, e, _⟩ := tb1
    rw [z, e] at ho
    cases ho
    exact nomatch hcls
  have lim3 : h3.NoLimit := I.ok.mod.nolimit.keeps kb3
  refine ⟨s1.heap.objs.size, [s1.heap.objs.size, a], [s1.heap.objs.size], its.toArray.size, _, _, fun _ => true, fun i y => ∃ v, its.toArray[i]? = some v ∧ ∃ z, xs[i]? = some z ∧ y = .bool (q z), rfl, fun A' hA => Walks.list hA _ _ (Nat.ne_of_lt hlt) its.toArray, ?_, ?_, lim3, ?_, ?_, ?_⟩
  · exact ⟨⟨_, hit3 _ (Heap.get?_push_size _ rfl), rfl, rfl⟩, hl.at fun o e => k3 a o haP e⟩
  · intro b hb
    rcases List.mem_cons.mp hb with rfl | hb
    · exact hsz
    · rcases List.mem_cons.mp hb with rfl | hb
      · exact Nat.lt_trans hlt hsz
      · cases hb
  · intro hb
    have z : cStatics = s1.heap.objs.size := by simpa using hb
    obtain ⟨_, hn, _⟩ := I1.nolimit
    exact absurd (z ▸ hn.lt) (Nat.lt_irrefl _)
  · intro href hhref
    refine ⟨fun A' E' i v t m2 hA hD hU hPi hn hm2 hk => wpAny_pure ⟨rfl, t.heap, t.toks, rfl, fun _ _ e => e⟩, fun A' E' i v t m2 hA hD hU hPi _ hn hm2 hk => ?_⟩
    -- all that stood at s1 stands at t, but the table
    have kt : ∀ b o, b ≠ P → s1.heap.get? b = some o → t.heap.get? b = some o := fun b o hb e =>
      hk b (List.mem_range.mpr (Heap.lt_size (k3 b o hb e))) (fun z => by
        have z2 : b = s1.heap.objs.size := by simpa using z
        exact absurd (z2 ▸ Heap.lt_size e) (Nat.lt_irrefl _)) o (hhref b o (k3 b o hb e))
    have kbt : ∀ b o, X.base.get? b = some o → t.heap.get? b = some o := fun b o e => kt b o (nbP b o e) (I1.bk b o e)
    obtain ⟨z, hz1, hz2⟩ : ∃ z, xs[i]? = some z ∧ RelV z v := by
      have e : its[i]? = some v := by simpa using hPi
      cases q : xs[i]? with
      | none => rw [rv.none_of q] at e; cases e
      | some z =>
        obtain ⟨u, e1, e2⟩ := rv.get q
        rw [e] at e1
        cases e1
        exact ⟨z, rfl, e2⟩
    obtain ⟨T, hty, b1, b2, e1, e2, eq⟩ := hT z (List.mem_of_getElem? hz1)
    obtain ⟨Hh, Z, hst, hne⟩ := kit_of I1 hP hz2 hty
    obtain ⟨⟨w1, w2, w3, w4, w5, w6, w7, w8, w9, w10, w11, params, scp, kV, doc, pm, cdv, ct, oc, an, od, osl, lk, hcd, hb, s1', s2', s3', s4', s5', s6', s7'⟩, kp, mf, g1, g2, g3⟩ := W
    have KXt : X.K.In t.heap := I.ok.mod.kin.keeps kbt
    have Gt : GlobAt X.mg t.heap := ⟨I.ok.mod.glob.keeps kbt, let ⟨mb, a, b⟩ := I.ok.mod.blt; ⟨mb, a.keeps kbt, b⟩⟩
    refine wpAny_Call_Name_kw (Calls.Name_function_global hkind hw (Calls.loadGlobal_global (mg := X.mg) ?_ mf ?_) (by decide))
    · show t.heap.Ns X.env.globals X.mg
      rw [I.ok.glob]
      exact Gt.g
    refine PySem.W.callWith_K (h₀ := X.base) I.ok.mod.kin kp (Calls.spliced_cons (load_here hkind hx hn hm2 (Calls.spliced_nil ⟨KXt, ?_⟩) hd)) rfl rfl
    have lim : t.heap.NoLimit := I.ok.mod.nolimit.keeps kbt
    have room : A'.depth < recursionLimit := Nat.lt_of_le_of_lt hD (by have := hr.dp; omega)
    refine wpAny_call (codeAny_mono (whole_call KXt lim lk hcd room (hb t v) s1' s2' s3' s4' s5' s6' s7' Gt g1 g2 g3 Z (fun h' k => hst h' fun b o hb e => k b o (kt b o hb e)) e1 e2 hne) fun r s' ⟨er, kk⟩ => ?_)
    subst er
    exact ⟨⟨v, hPi, z, hz1, by rw [eq]⟩, kk⟩
  · intro a' h5 tk5 gs hgb hag hsz5 hk5 Wk hat
    have Wk := Wk.in4_1
    refine Calls.spliced_nil ?_
    have npass : ∀ n, (passing (fun _ => true) n 0) = List.range n := fun n => by simp [passing]
    refine call_all_walkS (Wk.self 0 _ _ _ hat ⟨a', _, _, _, _, _, _, ansAt xs q, rfl, Wk, hat, ?_, fun s' hm => ?_⟩)
    · rintro j v t Q' E' ⟨i, hi', v', hv', z, hz', rfl⟩ hQ'
      have ei : i = j := by
        rw [npass] at hi'
        have := (List.getElem?_eq_some_iff.mp hi').2
        simpa using this.symm
      subst ei
      simp only [ansAt, hz', Option.map_some, Option.getD_some] at hQ'
      exact wpAny_truthy_bool hQ'
    · have kk : ∀ b o, b ≠ P → s1.heap.get? b = some o → s'.heap.get? b = some o := fun b o hb e => hm.heap b o (fun z => by
        rcases List.mem_cons.mp z with z | z
        · exact absurd (z ▸ Heap.lt_size (k3 b o hb e)) (Nat.lt_irrefl _)
        · have z2 : b = s1.heap.objs.size := by simpa using z
          exact absurd (z2 ▸ Heap.lt_size e) (Nat.lt_irrefl _)) (hk5 b o (k3 b o hb e))
      have tb' : TbP P s'.heap := (tb3.stay fun o e => hk5 P o e).stay fun o e => hm.heap P o (fun z => by
        rcases List.mem_cons.mp z with z | z
        · exact absurd (Nat.lt_trans hPlt hsz) (z ▸ Nat.lt_irrefl _)
        · have z2 : P = s1.heap.objs.size := by simpa using z
          exact absurd hPlt (z2 ▸ Nat.lt_irrefl _)) e
      have J := Inv.grown I1 hqt hP kk tb' (fun hb => AllBare.movedS (hb.push hgb) hm) hm.os
      refine ⟨.bl (xs.all q), H1, J, ?_, hQ⟩
      have hlen : (passing (fun _ => true) its.toArray.size 0).length = xs.length := by
        rw [npass, List.length_range, List.size_toArray, rv.length]
      show Value.bool _ = Value.bool _
      rw [hlen]
      exact congrArg Value.bool (ansAt_all xs q)
end
end Ob

set_option maxHeartbeats 4000000
namespace Ob
open PySem PySem.Spec PyProof.Rows L2
def rIsi (K : PySem.W.Frag) : List V → Hp → VK → Prop := fun xs H Q => ∃ (x : V) (T T' : String) (b : Bool), xs = [x, .ty T'] ∧ TyOf K H x (.type T) ∧ PySem.W.kitOne K (.type T) (.type T') = some b ∧ Q (.bl b) H
section
variable {X : Cx}
/-- isinstance(x, T), T a built-in class -/
theorem call_isi : CallR X (.builtin "isinstance") (rIsi X.K) := by
  intro pins s σ H xs us Q I r h
  obtain ⟨x, T, T', b, rfl, ty, e, q⟩ := h
  cases r with
  | cons r1 r =>
    cases r with
    | cons r2 r =>
      cases r
      cases r2
      exact isinst_ok I r1 ty e fun tk => ⟨.bl b, H, I.tok tk, rfl, q⟩
/-- // by a positive divisor below 2 ^ 64 -/
def CDivL (_ j : Int) : Prop := 0 < j ∧ j < 2 ^ 64
theorem op_fdivL : OpR X (binaryOp .FloorDiv) (rI CDivL fun i j => .int (i / j)) := opI fun i j _ _ _ _ _ hc q => by
  obtain ⟨h1, h2⟩ := hc
  have h64 : (2 : Int) ^ 64 = 18446744073709551616 := by decide
  rw [h64] at h2
  have hn : j.natAbs ≠ 0 := by omega
  have hlog : j.natAbs.log2 < 64 := (Nat.log2_lt hn).mpr (by
    have : (2 : Nat) ^ 64 = 18446744073709551616 := by decide
    omega)
  exact floordiv_int (by omega) (by rw [Int.fdiv_eq_ediv_of_nonneg i (by omega)]; exact q) (.inl (PyProof.noPylong_of_log2 (by omega)))
/-- xs[::-1] -/
def tRev (K : PySem.W.Frag) (te ts : TE) : TE := fun σ H Q => te σ H fun x H1 => ts σ H1 fun k H2 => k = .int (-1) ∧ ∃ a xs, x = .ref a ∧ SqL K H2 a xs ∧ ∀ p, H2 p = none → Q (.ref p) (upd H2 p (.lst xs.reverse))
theorem vals_rev : ∀ {xs : List V} {us : List Value}, Vals xs us → Vals xs.reverse us.reverse
  | _, _, .nil => .nil
  | _, _, .cons r t => by
    rw [List.reverse_cons, List.reverse_cons]
    exact (vals_rev t).append (.cons r .nil)
theorem pe_rev {e st : Expr} {te ts : TE} {p2 pos : Pos} (he : PE X e te) (hst : PE X st ts) (hsub : ∀ a b : Addr, ∃ ops, subscripted (.Slice none none (some st) p2) false (.ref a) (.ref b) = operate ops (getItem (.ref a) (.ref b)) := by exact fun _ _ => ⟨_, by with_unfolding_all rfl⟩) : PE X (.Subscript e (.Slice none none (some st) p2) pos) (tRev X.K te ts) := by
  intro pins s σ H Q I h
  refine Subscript_ (thn (he pins s σ H _ I h) fun v s1 ⟨x, H1, I1, r1, q1⟩ => ?_)
  refine wpAny_Slice ?_
  rw [evalPart_none]
  refine wpAny_pure (wpAny_pure ?_)
  rw [evalPart_some]
  refine thn (hst pins s1 σ H1 _ I1 q1) fun vk s3 ⟨k, H3, I3, rk, ek, a, xs, ex, hq, q⟩ => ?_
  subst ek ex
  obtain ⟨t, rfl⟩ := rk
  cases r1
  have I4 : Inv X pins σ H3 { s3 with heap := s3.heap.push { cls := .type "slice", data := .fields #[.none, .none, .int (-1) t] } } := I3.kept (t' := s3.toks) fun b ob q => Heap.get?_push_of_some _ q
  obtain ⟨its, r, ht, hz⟩ := I4.list hq
  have hlen := r.length
  show wpAny (model X.prog X.w) X.A (subscriptTail e (.Slice none none (some st) p2) (.ref a) (.ref s3.heap.objs.size)) (EP X pins σ Q) X.xe { s3 with heap := s3.heap.push { cls := .type "slice", data := .fields #[.none, .none, .int (-1) t] } }
  obtain ⟨ops, eo⟩ := hsub a s3.heap.objs.size
  refine tail_any (ops := ops) ht.isList.typeIs slot_list_getitem.lookup (wpAny_getItem_list_slice ht.isList (Heap.IsSliceOf.new ..) .none .none (.int _ t) (by decide) ?_ (by rw [List.size_toArray]; omega)) eo
  rw [PySem.W.krv_pick]
  refine ⟨.ref _, _, I4.laid (t' := s3.toks) (o := .lst xs.reverse) (fun b ob q => Heap.get?_push_of_some _ q) (Nat.le_refl _) ?_, rfl, q _ (I4.hok.fresh (Nat.le_refl _))⟩
  exact ⟨by rw [List.length_reverse]; exact hz, _, 0, vals_rev r, Heap.get?_push_size _ rfl⟩
end
/-- a comprehension over zip of two lists that the block leaves as they are; each turn's pair is a new tuple -/
theorem lc_zip {K : PySem.W.Frag} {a b : Addr} {xs ys : List V} {g : TG} {tt : TT} {te : TE} {vs : List Nat} {σ : L2.St} {H1 : Hp} {D : Addr} {Qd : Hp → Prop} (Pv : Nat → Hp → Prop) (n : Nat) (hn : n = min xs.length ys.length) (h0 : Pv 0 (upd H1 D (.lst [])))
    (hl : ∀ i H, i ≤ n → Pv i H → SqL K H a xs ∧ SqL K H b ys)
    (hs : ∀ i x y T H, xs[i]? = some x → ys[i]? = some y → H T = none → Pv i H → g (.ref T) (wipe σ vs) (upd H T (.tup [x, y])) fun σ2 H2 => wipe σ2 vs = wipe σ vs ∧ tt σ2 H2 fun b H3 =>
      if b = true then te σ2 H3 fun y H4 => ∃ acc, H4 D = some (.lst acc) ∧ acc.length < sizeLine ∧ Pv (i + 1) (upd H4 D (.lst (acc ++ [y]))) else Pv (i + 1) H3) (hd : ∀ H, Pv n H → Qd H) :
    ∃ W : Nat → Nat → Hp → Prop, (∃ m, W 0 m (upd H1 D (.lst []))) ∧ ∀ i m H, W i m H →
      ((Itz K a b).stop i H ∧ Qd H) ∨ ((Itz K a b).go i H ∧ ∃ Nx : Hp → Prop, (∀ H', Nx H' → ∃ m', m' < m ∧ W (i + 1) m' H') ∧ ∀ x H', (Itz K a b).yld i H x H' → g x (wipe σ vs) H' fun σ2 H2 => wipe σ2 vs = wipe σ vs ∧ tt σ2 H2 fun b H3 =>
        if b = true then te σ2 H3 fun y H4 => ∃ acc, H4 D = some (.lst acc) ∧ acc.length < sizeLine ∧ Nx (upd H4 D (.lst (acc ++ [y]))) else Nx H3) := by
  refine ⟨fun i m H => m = n - i ∧ i ≤ n ∧ Pv i H, ⟨n, by simp, Nat.zero_le _, h0⟩, ?_⟩
  rintro i m H ⟨rfl, hi, p⟩
  obtain ⟨q1, q2⟩ := hl i H hi p
  by_cases hlt : i < n
  · have l1 : i < xs.length := by omega
    have l2 : i < ys.length := by omega
    refine .inr ⟨⟨xs, ys, xs[i], ys[i], q1, q2, by simp [l1], by simp [l2]⟩, Pv (i + 1), fun H' p' => ⟨n - (i + 1), by omega, rfl, hlt, p'⟩, fun x H' y => ?_⟩
    obtain ⟨T, u, v, rfl, hT, rfl, e1, e2⟩ := y
    exact hs i u v T H (e1 xs q1) (e2 ys q2) hT p
  · have e : i = n := by omega
    subst e
    exact .inl ⟨⟨xs, ys, q1, q2, by omega⟩, hd H p⟩
/-- for i, x in enumerate(xs), the list stays; each turn's pair is a new tuple -/
theorem for_enum {K : PySem.W.Frag} {a : Addr} {xs : List V} {g : TG} {tb : TS} {D : Ends} {σ : L2.St} {H : Hp} (Pv : Nat → L2.St → Hp → Prop) (h0 : Pv 0 σ H) (hl : ∀ i σ H, i ≤ xs.length → Pv i σ H → SqL K H a xs)
    (hs : ∀ i x T σ H, xs[i]? = some x → H T = none → Pv i σ H → g (.ref T) σ (upd H T (.tup [.int (i : Nat), x])) fun σ2 H2 => tb { D with nx := Pv (i + 1), ct := Pv (i + 1), bk := D.nx } σ2 H2) (hd : ∀ σ H, Pv xs.length σ H → D.nx σ H) :
    ∃ W : Nat → Nat → L2.St → Hp → Prop, (∃ m, W 0 m σ H) ∧ ∀ i m σ H, W i m σ H →
      ((Ite K a).stop i H ∧ D.nx σ H) ∨ ((Ite K a).go i H ∧ ∃ N : L2.St → Hp → Prop, (∀ σ' H', N σ' H' → ∃ m', m' < m ∧ W (i + 1) m' σ' H') ∧ ∀ x H', (Ite K a).yld i H x H' → g x σ H' fun σ2 H2 => tb { D with nx := N, ct := N, bk := D.nx } σ2 H2) := by
  refine ⟨fun i m σ H => m = xs.length - i ∧ i ≤ xs.length ∧ Pv i σ H, ⟨xs.length, by simp, Nat.zero_le _, h0⟩, ?_⟩
  rintro i m σ H ⟨rfl, hi, p⟩
  have q := hl i σ H hi p
  by_cases hlt : i < xs.length
  · refine .inr ⟨⟨xs, xs[i], q, by simp [hlt]⟩, Pv (i + 1), fun σ' H' p' => ⟨xs.length - (i + 1), by omega, rfl, hlt, p'⟩, fun x H' y => ?_⟩
    obtain ⟨T, u, rfl, hT, rfl, e1⟩ := y
    exact hs i u T σ H (e1 xs q) hT p
  · have e : i = xs.length := by omega
    subst e
    exact .inl ⟨⟨xs, q, Nat.le_refl _⟩, hd σ H p⟩
end Ob

set_option maxHeartbeats 4000000
namespace Ob
open PySem PySem.Spec PyProof.Rows L2
end Ob

set_option maxHeartbeats 4000000
namespace Ob
open PySem PySem.Spec PyProof.Rows L2
/-! derivations in boxes: Lean does not look through a structure, so it does not run a statement of many constants while it reads a derivation -/
structure WE (X : Cx) (e : Expr) (t : TE) : Prop where
  get : PE X e t
structure WA (X : Cx) (es : List Expr) (t : TA) : Prop where
  get : PA X es t
structure WS (X : Cx) (st : Stmt) (t : TS) : Prop where
  get : PS X st t
structure WSs (X : Cx) (st : List Stmt) (t : TS) : Prop where
  get : PSs X st t
section
variable {X : Cx} {st : Stmt} {rest : List Stmt} {t u : TS} {e a b : Expr} {es : List Expr} {te ta tb : TE} {tas : TA} {pos : Pos}
theorem wss_cons (h1 : WS X st t) (h2 : WSs X rest u) : WSs X (st :: rest) (tSeq t u) := ⟨pss_cons h1.get h2.get⟩
theorem wss_one (h1 : WS X st t) : WSs X [st] t := ⟨pss_one h1.get⟩
theorem ws_set {i : Nat} {x : Str} {pos' : Pos} (hN : X.N.Nodup) (hi : X.N[i]? = some x) (hx : Loc X.env.scope x) (he : WE X e te) (hs : swapsWith e (some (.Name x pos')) pos.line X.env = pure false) (hf : X.fn x = true ∨ X.env.scope.names.lookup x = some .local) : WS X (.Assign [.Name x pos'] e pos) (tAsg te (gName i)) := ⟨ps_set hN hi hx he.get hs hf⟩
theorem wa_nil : WA X [] tNil := ⟨pa_nil⟩
theorem wa_cons (ha : WE X e te) (hr : WA X es tas) (hs : starEach (e :: es) X.env = (false, eval e X.env) :: starEach es X.env) : WA X (e :: es) (tCons te tas) := ⟨pa_cons ha.get hr.get hs⟩
theorem we_lst (h : WA X es tas) : WE X (.List es pos) (tLst tas) := ⟨pe_lst h.get⟩
theorem we_ix {r : R2} (hr : IxR X r) (ha : WE X a ta) (hb : WE X b tb) (hs : PlainIx b) : WE X (.Subscript a b pos) (tOp r ta tb) := ⟨pe_ix hr ha.get hb.get hs⟩
end
end Ob

namespace Ob
open PySem PySem.Spec PyProof.Rows L2
/-! more boxes: ifs and loops -/
structure WT (X : Cx) (c : Expr) (t : TT) : Prop where
  get : PT X c t
structure WI (X : Cx) (tg e : Expr) (t : TI) : Prop where
  get : PI X tg e t
structure WG (X : Cx) (tg : Expr) (g : TG) : Prop where
  get : PG X tg g
section
variable {X : Cx} {t u : TS} {pos : Pos} {tg : Expr}
theorem wss_nil : WSs X [] tNext := ⟨pss_nil⟩
theorem ws_if {c : Expr} {a b : List Stmt} {tc : TT} (hc : WT X c tc) (ha : WSs X a t) (hb : WSs X b u) : WS X (.If c a b pos) (tIfS tc t u) := ⟨ps_if hc.get ha.get hb.get⟩
theorem ws_for {iter : Expr} {body : List Stmt} {wi : TI} {g : TG} {tb : TS} (hp : PassesOwn (model X.prog X.w) X.A X.env X.xe) (hc : X.calm = true) (hi : WI X tg iter wi) (hg : WG X tg g) (hb : WSs X body tb)
    (hs : ∀ x, foldedSetIterable iter X.env x = pure x) : WS X (.For tg iter body [] pos) (tFor wi g tb) := ⟨ps_for hp hc hi.get hg.get hb.get hs⟩
end
end Ob

set_option maxHeartbeats 4000000
namespace Ob
open PySem PySem.Spec PyProof.Rows L2
theorem boot_isi : bootBuiltins "isinstance" = some (.builtin "isinstance") := by decide +kernel
theorem boot_int : bootBuiltins "int" = some (.type "int") := by decide +kernel
theorem boot_bool : bootBuiltins "bool" = some (.type "bool") := by decide +kernel
/-- a def whose code is known -/
theorem okC {P : Program} {w : World} {K : PySem.W.Frag} {mg : Str → Option Value} {base : Heap} {x qual : Str} {st : Stmt} {f c : Addr} {fd : FuncData} {N ps : List Str} {k : Nat} {sp : Sp} (F : Fun K x qual st f fd) (hc : fd.code = .ref c) (S : FnScope N ps (defScope st)) (len : ∀ vs H Q E, sp vs H Q E → vs.length = ps.length)
    (hbody : ∀ (A : Around) (outer : List Env) (s : Shared) (H : Hp) (vs : List V) (Q : VK) (E : XK), Room k (A.deeper (envOfC qual (defScope st) s.heap.objs.size f (.ref c))) → sp vs H Q E →
      ∃ t, PSs (cxOf CX0 P w K mg base N qual (defScope st) f (.ref c) A outer s H E).nox (defBody st) t ∧ t { nx := fun _ H' => Q .non H', rt := Q } (start N vs) H) : FnOk P w K mg base CX0 (k + 1) f fd ps sp := by
  obtain ⟨oc, od, kV, doc, pm, an, cdv, ct, osl, rfl, lk, hcd⟩ := F.ex
  have e : cdv = .ref c := hc
  subst e
  refine fn_of lk hcd S len fun A outer s H vs Q E hr hsp => ?_
  obtain ⟨t, h, q⟩ := hbody A outer s H vs Q E hr hsp
  exact ⟨t, h.nox, q⟩
/-- the names of the module that are built-ins, and its constant -/
structure Tx (mg : Str → Option Value) : Prop where
  isi : mg "isinstance" = none
  int : mg "int" = none
  bool : mg "bool" = none
  list : mg "list" = none
  len : mg "len" = none
  all : mg "all" = none
  range : mg "range" = none
  min : mg "min" = none
  max : mg "max" = none
  sorted : mg "sorted" = none
  zip : mg "zip" = none
  enum : mg "enumerate" = none
  most : ∃ t, mg "MOST_NUMBERS" = some (.int 12 t)
theorem same_new {H : Hp} {p : Addr} (h : H p = none) (o : HO) : Same H (upd H p o) := fun b u q => by rw [upd_ne (ne_of_none q h)]; exact q
abbrev Tb (P : Addr) (H : Hp) : Prop := H P = some (.ext (TbP P))
theorem ix_int {ns : List Int} {k : Nat} {n : Int} (h : ns[k]? = some n) : atI (ns.map V.int) (k : Int) = some (.int n) := atI_nat (by rw [List.getElem?_map, h]; rfl)
theorem small {n : Nat} (h : n ≤ 1000) : n ≤ sizeLine := Nat.le_of_lt (small1000 h)
/-- the items of a row, as the promise of is_row takes them -/
def Judged (K : PySem.W.Frag) (H : Hp) (xs : List V) (q : V → Bool) : Prop := ∀ x ∈ xs, ∃ T : String, TyOf K H x (.type T) ∧ JudgedBy K (.type T) (q x)
theorem judged_ints (K : PySem.W.Frag) (H : Hp) (ns : List Int) : Judged K H (ns.map V.int) fun _ => true := fun x hx => by
  obtain ⟨n, _, rfl⟩ := List.mem_map.mp hx
  exact ⟨"int", .int n, judged_int K⟩
/-- the differences of neighbours -/
def diffs (ns : List Int) : List Int := List.zipWith (fun x y => y - x) ns (ns.drop 1)
theorem diffs_length (ns : List Int) : (diffs ns).length = ns.length - 1 := by
  unfold diffs
  rw [List.length_zipWith, List.length_drop]
  omega
theorem cut_from {xs : List V} {k : Nat} : cutV xs (some (k : Int)) none = xs.drop k := by
  unfold cutV
  rw [HT.sIx_nat, HT.sIx_none]
  by_cases h : k ≤ xs.length
  · rw [Nat.min_eq_left h, List.take_of_length_le]
    rw [List.length_drop]
    exact Nat.le_refl _
  · rw [Nat.min_eq_right (by omega), List.drop_length, List.drop_eq_nil_of_le (by omega)]
    exact List.take_nil
theorem diffs_step {ns : List Int} {i : Nat} {x y : V} (hx : (ns.map V.int)[i]? = some x) (hy : ((ns.drop 1).map V.int)[i]? = some y) : ∃ u v : Int, x = .int u ∧ y = .int v ∧ (diffs ns)[i]? = some (v - u) := by
  rw [List.getElem?_map] at hx hy
  cases e1 : ns[i]? with
  | none => rw [e1] at hx; cases hx
  | some u =>
    cases e2 : (ns.drop 1)[i]? with
    | none => rw [e2] at hy; cases hy
    | some v =>
      rw [e1] at hx
      rw [e2] at hy
      cases hx
      cases hy
      refine ⟨u, v, rfl, rfl, ?_⟩
      unfold diffs
      rw [List.getElem?_zipWith, e1, e2]
theorem take_next {α : Type} {xs : List α} {i : Nat} {x : α} (h : xs[i]? = some x) : xs.take (i + 1) = xs.take i ++ [x] := by
  rw [List.take_add_one, h]
  rfl
/-! promises -/
def spLen (K : PySem.W.Frag) : Sp := fun vs H Q _ => ∃ v, vs = [v] ∧ ((∃ (a : Addr) (xs : List V), v = .ref a ∧ H a = some (.lst xs) ∧ Q (.bl (decide (1 ≤ xs.length) && decide (xs.length ≤ 12))) H) ∨
  (∃ T : String, TyOf K H v (.type T) ∧ PySem.W.kitOne K (.type T) (.type "list") = some false ∧ Q (.bl false) H))
def spIsRow (K : PySem.W.Frag) (P : Addr) : Sp := fun vs H Q _ => Tb P H ∧ ∃ v, vs = [v] ∧ ((∃ (a : Addr) (xs : List V) (q : V → Bool), v = .ref a ∧ H a = some (.lst xs) ∧ Judged K H xs q ∧ Q (.bl (decide (1 ≤ xs.length) && decide (xs.length ≤ 12) && xs.all q)) H) ∨
  (∃ T : String, TyOf K H v (.type T) ∧ PySem.W.kitOne K (.type T) (.type "list") = some false ∧ Q (.bl false) H))
def spCheck (K : PySem.W.Frag) (P : Addr) : Sp := fun vs H Q _ => Tb P H ∧ ∃ (a : Addr) (ns : List Int), vs = [.ref a] ∧ H a = some (.lst (ns.map V.int)) ∧ 1 ≤ ns.length ∧ ns.length ≤ 12 ∧ Q .non H
def spDiff : Sp := fun vs H Q _ => ∃ (a : Addr) (ns : List Int), vs = [.ref a] ∧ H a = some (.lst (ns.map V.int)) ∧ ns.length ≤ 1000 ∧ ∀ (r : Addr) (H' : Hp), Same H H' → H r = none → H' r = some (.lst ((diffs ns).map V.int)) → Q (.ref r) H'
end Ob

set_option maxHeartbeats 4000000
namespace Ob
open PySem PySem.Spec PyProof.Rows L2
/-- a pool of draws: what is left, the way, how many were drawn -/
abbrev pool (x m c : Int) : HO := .lst [.int x, .int m, .int c]
/-- the pool at p has gone on, all else stands -/
structure Went (p : Addr) (H H' : Hp) (x m c : Int) : Prop where
  keep : ∀ b o, H b = some o → b ≠ p → H' b = some o
  here : H' p = some (pool x m c)
theorem Went.trans {p : Addr} {H H1 H2 : Hp} {x1 m1 c1 x m c : Int} (a : Went p H H1 x1 m1 c1) (b : Went p H1 H2 x m c) : Went p H H2 x m c := ⟨fun d o e n => b.keep d o (a.keep d o e n) n, b.here⟩
theorem Went.upd {p : Addr} {H : Hp} {x m c : Int} : Went p H (upd H p (pool x m c)) x m c := ⟨fun d o e n => by rw [upd_ne n]; exact e, upd_same⟩
theorem Went.same {p : Addr} {H H1 H2 : Hp} {x m c : Int} (a : Went p H H1 x m c) (s : Same H1 H2) : Went p H H2 x m c := ⟨fun d o e n => s d o (a.keep d o e n), s _ _ a.here⟩
theorem Went.free {p : Addr} {H H1 : Hp} {x m c : Int} (a : Went p H H1 x m c) {l : Addr} (h : H1 l = none) : H l = none := by
  cases q : H l with
  | none => rfl
  | some o =>
    have n : l ≠ p := fun z => by rw [z, a.here] at h; cases h
    rw [a.keep l o q n] at h
    cases h
end Ob

namespace Ob
open PySem PySem.Spec PyProof.Rows L2
theorem went_new {p D : Addr} {H H1 : Hp} {x m c : Int} (a : Went p H H1 x m c) (hD : H1 D = none) (o : HO) : Went p H (upd H1 D o) x m c := a.same (same_new hD o)
theorem went_put {p D : Addr} {H H1 : Hp} {x m c : Int} {o : HO} (a : Went p H H1 x m c) (hD : H D = none) (n : p ≠ D) : Went p H (upd H1 D o) x m c :=
  ⟨fun b u e hb => by rw [upd_ne (ne_of_none e hD)]; exact a.keep b u e hb, by rw [upd_ne n]; exact a.here⟩
/-- one more way through an if that only goes on -/
theorem if_join {c : Bool} {A : Prop} {R : L2.St → Hp → Prop} {σ : L2.St} {H : Hp} (J : L2.St → Hp → Prop) (h0 : c = false → J σ H) (hA : c = true → (∀ σ' H', J σ' H' → R σ' H') → A) (hR : ∀ σ' H', J σ' H' → R σ' H') : if c = true then A else R σ H := by
  cases c with
  | true => exact iteT (hA rfl hR)
  | false => exact iteF (hR _ _ (h0 rfl))
end Ob

namespace Ob
open PySem PySem.Spec PyProof.Rows L2
/-- a list at D that is being filled with ints while the pool at p goes on -/
def Fill (p D : Addr) (H : Hp) (m c C : Int) (B : Int → Prop) (i : Nat) (H' : Hp) : Prop :=
  ∃ (ns : List Int) (x' c' : Int), ns.length = i ∧ (∀ z ∈ ns, B z) ∧ c ≤ c' ∧ c' ≤ C + 4 * i ∧ Went p H H' x' m c' ∧ H' D = some (.lst (ns.map V.int))
theorem Fill.start {p D : Addr} {H H' : Hp} {m c C x' : Int} {B : Int → Prop} (w : Went p H H' x' m C) (h : c ≤ C) (hD : H' D = none) : Fill p D H m c C B 0 (upd H' D (.lst [])) :=
  ⟨[], x', C, rfl, (fun _ z => nomatch z), h, by omega, went_new w hD _, upd_same⟩
theorem Fill.more {p D : Addr} {H H' : Hp} {m c C x' c' v : Int} {B : Int → Prop} {ns : List Int} (hD : H D = none) (n : p ≠ D) (hb : ∀ z ∈ ns, B z) (hv : B v) (w : Went p H H' x' m c') (h1 : c ≤ c') (h2 : c' ≤ C + 4 * (ns.length + 1)) :
    Fill p D H m c C B (ns.length + 1) (upd H' D (.lst (ns.map V.int ++ [.int v]))) := by
  refine ⟨ns ++ [v], x', c', by simp, fun z hz => ?_, h1, by omega, went_put w hD n, ?_⟩
  · rcases List.mem_append.mp hz with hz | hz
    · exact hb z hz
    · rw [List.mem_singleton.mp hz]
      exact hv
  · rw [upd_same, List.map_append]
    rfl
theorem fill_len {ns : List Int} {k : Nat} (h : ns.length ≤ k) (hk : k ≤ 1000) : (ns.map V.int).length < sizeLine := by
  rw [List.length_map]
  exact small1000 (by omega)
theorem ixN_nat {n : Nat} {i : Int} (h0 : 0 ≤ i) (h1 : i < n) : ixN n i = some i.toNat := by
  unfold ixN
  rw [if_pos h0, if_pos h1]
end Ob

namespace Ob
open PySem PySem.Spec PyProof.Rows L2
theorem dpAll_ints (K : PySem.W.Frag) (H : Hp) : ∀ ns : List Int, DpAll K H (ns.map V.int) (ns.map PyData.int)
  | [] => .nil
  | n :: r => .cons (.int n) (dpAll_ints K H r)
theorem dp_ints {K : PySem.W.Frag} {H : Hp} {a : Addr} {ns : List Int} (h : H a = some (.lst (ns.map V.int))) : Dp K H (.ref a) (.list (ns.map PyData.int)) := .lst (SqL.of h) (dpAll_ints K H ns)
theorem canLayAll_ints : ∀ ns : List Int, PyData.canLayAll0 (ns.map PyData.int) = true
  | [] => rfl
  | n :: r => by
    show (PyData.canLay0 (.int n) && PyData.canLayAll0 (r.map PyData.int)) = true
    rw [canLayAll_ints r]
    rfl
theorem depthAll_ints : ∀ ns : List Int, PyData.depthAll (ns.map PyData.int) ≤ 1
  | [] => by decide
  | n :: r => by
    have := depthAll_ints r
    show max (PyData.depth (.int n)) (PyData.depthAll (r.map PyData.int)) ≤ 1
    have e : PyData.depth (.int n) ≤ 1 := by
      show _ ≤ 1
      simp [PyData.depth]
    omega
theorem shaped_ints (ns : List Int) : SeqAt.shaped (.list (ns.map PyData.int)) = true := by
  unfold SeqAt.shaped
  rw [Bool.and_eq_true_iff]
  refine ⟨canLayAll_ints ns, decide_eq_true ?_⟩
  have := depthAll_ints ns
  show PyData.depthAll (ns.map PyData.int) + 1 ≤ 64
  omega
theorem eqv_same (ns : List Int) : PyData.eqv (.list (ns.map PyData.int)) (.list (ns.map PyData.int)) = true := SeqAt.eqv_refl _ (SeqAt.canLay_of_shaped (shaped_ints ns))
end Ob

namespace Ob
open PySem PySem.Spec PyProof.Rows L2
end Ob

namespace Ob
open PySem PySem.Spec PyProof.Rows L2
theorem diffs_at {ns : List Int} {i : Nat} {z0 z1 : Int} (h0 : ns[i]? = some z0) (h1 : ns[i + 1]? = some z1) : (diffs ns)[i]? = some (z1 - z0) := by
  unfold diffs
  rw [List.getElem?_zipWith, List.getElem?_drop, Nat.add_comm 1 i, h0, h1]
theorem bends_at {ns : List Int} {i : Nat} {z0 z1 z2 : Int} (h0 : ns[i]? = some z0) (h1 : ns[i + 1]? = some z1) (h2 : ns[i + 2]? = some z2) : (diffs (diffs ns))[i]? = some (z0 - 2 * z1 + z2) := by
  rw [diffs_at (diffs_at h0 h1) (diffs_at (i := i + 1) h1 h2)]
  exact congrArg some (by omega)
theorem put_new {H H' : Hp} {D : Addr} {o : HO} (s : Same H H') (hD : H D = none) : Same H (upd H' D o) := fun b u e => by
  rw [upd_ne (ne_of_none e hD)]
  exact s b u e
end Ob


set_option maxHeartbeats 4000000
namespace Ob
open PySem PySem.Spec PyProof.Rows L2
/-- is there a number below 0 at this place -/
def neg (bs : List Int) (j : Nat) : Bool := decide (bs.getD j 0 < 0)
theorem eqv_nil (ns : List Int) : PyData.eqv (.list (ns.map PyData.int)) (.list (([] : List Int).map PyData.int)) = ns.isEmpty := by
  cases ns with
  | nil => exact eqv_same []
  | cons a r => rfl
end Ob

set_option maxHeartbeats 1000000
namespace Ob
/-- (q - p) times the line from the p-th to the q-th number, at t -/
def ln (A : Nat → Int) (p q t : Nat) : Int := A p * ((q : Int) - t) + A q * ((t : Int) - p)
/-- that line is not above the number at t -/
def Sup (A : Nat → Int) (p q t : Nat) : Prop := ln A p q t ≤ A t * ((q : Int) - p)
/-- an edge that bears m makes the edge ahead of it bear m -/
theorem sup_ext {A : Nat → Int} {o p q m : Nat} (h1 : o < p) (h2 : p < q) (h3 : q ≤ m) (s1 : Sup A o p q) (s2 : Sup A p q m) : Sup A o p m := by
  unfold Sup ln at *
  have e1 := Int.mul_le_mul_of_nonneg_right s1 (show (0 : Int) ≤ (m : Int) - p by omega)
  have e2 := Int.mul_le_mul_of_nonneg_right s2 (show (0 : Int) ≤ (p : Int) - o by omega)
  refine Int.le_of_mul_le_mul_right (a := (q : Int) - p) ?_ (by omega)
  grind
/-- the corners, the last one first: each edge bears all places below m -/
def Chain (A : Nat → Int) (m : Nat) : List Nat → Prop
  | [] => False
  | [c] => c = 0
  | q :: p :: r => p < q ∧ (∀ t, t < m → Sup A p q t) ∧ Chain A m (p :: r)
theorem Chain.more {A : Nat → Int} {m : Nat} : ∀ {q p : Nat} {r : List Nat}, Chain A m (q :: p :: r) → q < m → Sup A p q m → Chain A (m + 1) (q :: p :: r)
  | q, p, [], ⟨h1, h2, h3⟩, hq, s => ⟨h1, fun t ht => if e : t = m then e ▸ s else h2 t (by omega), h3⟩
  | q, p, o :: r, ⟨h1, h2, h3⟩, hq, s => ⟨h1, fun t ht => if e : t = m then e ▸ s else h2 t (by omega), Chain.more h3 (by omega) (sup_ext h3.1 h1 (by omega) (h3.2.1 q hq) s)⟩
/-- what a bearing edge says of a place between two others: the value there is at most any line's -/
theorem bears {A : Nat → Int} {p q i j k : Nat} (hpq : p < q) (h1 : i ≤ j) (h2 : j ≤ k) (si : Sup A p q i) (sk : Sup A p q k) : ln A p q j * ((k : Int) - i) ≤ ln A i k j * ((q : Int) - p) := by
  unfold Sup at si sk
  have e1 := Int.mul_le_mul_of_nonneg_right si (show (0 : Int) ≤ (k : Int) - j by omega)
  have e2 := Int.mul_le_mul_of_nonneg_right sk (show (0 : Int) ≤ (j : Int) - i by omega)
  unfold ln at *
  grind
end Ob

set_option maxHeartbeats 4000000
namespace Ob
open PySem PySem.Spec PyProof.Rows L2
/-- the numbers of a row by their places -/
def An (ns : List Int) : Nat → Int := fun i => ns.getD i 0
theorem an_at {ns : List Int} {j : Nat} (h : j < ns.length) : ns[j]? = some (An ns j) := by
  unfold An
  rw [List.getD_eq_getElem?_getD, List.getElem?_eq_getElem h]
  rfl
theorem at_an {ns : List Int} {k : Int} {j : Nat} (h : k = j) (hj : j < ns.length) : atI (ns.map V.int) k = some (.int (An ns j)) := by
  subst h
  exact ix_int (an_at hj)
theorem gcd_turn {one other : Int} (h1 : 0 ≤ one) (h2 : 0 < other) : Int.gcd other (one % other) = Int.gcd one other := by
  obtain ⟨m, rfl⟩ := Int.eq_ofNat_of_zero_le h1
  obtain ⟨n, rfl⟩ := Int.eq_ofNat_of_zero_le (Int.le_of_lt h2)
  have e : ((m : Int) % (n : Int)) = ((m % n : Nat) : Int) := rfl
  rw [e, Int.gcd_natCast_natCast, Int.gcd_natCast_natCast, Nat.gcd_comm m n, Nat.gcd_rec n m, Nat.gcd_comm]
def redT (t b : Int) : Int := t / (Int.gcd t b : Int)
def redB (t b : Int) : Int := b / (Int.gcd t b : Int)
theorem gcd_pos {t b : Int} (h : 0 < b) : 0 < (Int.gcd t b : Int) := by
  have : 0 < Int.gcd t b := Int.gcd_pos_of_ne_zero_right t (by omega)
  omega
theorem gcd_le {t b : Int} (h : 0 < b) : (Int.gcd t b : Int) ≤ b := Int.le_of_dvd h (Int.gcd_dvd_right t b)
theorem red_mul {t b : Int} (h : 0 < b) : redT t b * b = redB t b * t := by
  have d1 := Int.mul_ediv_cancel' (Int.gcd_dvd_left t b)
  have d2 := Int.mul_ediv_cancel' (Int.gcd_dvd_right t b)
  unfold redT redB
  generalize t / (Int.gcd t b : Int) = x at *
  generalize b / (Int.gcd t b : Int) = y at *
  generalize (Int.gcd t b : Int) = g at *
  rw [← d1, ← d2]
  grind
theorem redB_pos {t b : Int} (h : 0 < b) : 0 < redB t b := by
  have d2 := Int.mul_ediv_cancel' (Int.gcd_dvd_right t b)
  have g := gcd_pos (t := t) h
  unfold redB
  generalize b / (Int.gcd t b : Int) = y at *
  rcases Int.lt_or_le 0 y with hy | hy
  · exact hy
  · have := Int.mul_nonpos_of_nonneg_of_nonpos (Int.le_of_lt g) hy
    omega
theorem red_gcd {t b : Int} (h : 0 < b) : Int.gcd (redT t b) (redB t b) = 1 := by
  unfold redT redB
  exact Int.gcd_ediv_gcd_ediv_gcd (by have := gcd_pos (t := t) h; omega)
/-- a told fraction is the greatest row below, at j -/
structure HullAt (A : Nat → Int) (n j : Nat) (t : Int × Int) : Prop where
  pos : 0 < t.2
  cop : Int.gcd t.1 t.2 = 1
  on : (n = 1 ∧ t = (A 0, 1)) ∨ ∃ p q : Nat, p < q ∧ q < n ∧ p ≤ j ∧ j ≤ q ∧ (∀ u, u < n → Sup A p q u) ∧ t.1 * ((q : Int) - p) = t.2 * ln A p q j
theorem boot_abs' : bootBuiltins "abs" = some (.builtin "abs") := by decide +kernel
/-! promises -/
def spGcd : Sp := fun vs H Q _ => ∃ i j : Int, vs = [.int i, .int j] ∧ Q (.int (Int.gcd i j : Int)) H
/-- fractions as tuples, each at its own address -/
def FracsAt (H : Hp) (rs : List Addr) (ts : List (Int × Int)) : Prop := Paired (fun r t => H r = some (.tup [.int t.1, .int t.2])) rs ts
theorem FracsAt.same {H H' : Hp} {rs : List Addr} {ts : List (Int × Int)} (s : Same H H') (h : FracsAt H rs ts) : FracsAt H' rs ts := Paired.mapP h fun _ _ e => s _ _ e
theorem paired_snoc {α β : Type} {F : α → β → Prop} {a : α} {b : β} (h : F a b) : ∀ {xs : List α} {ys : List β}, Paired F xs ys → Paired F (xs ++ [a]) (ys ++ [b])
  | _, _, .nil => .cons h .nil
  | _, _, .cons r t => .cons r (paired_snoc h t)
theorem paired_get {α β : Type} {F : α → β → Prop} : ∀ {xs : List α} {ys : List β} {i : Nat} {a : α}, Paired F xs ys → xs[i]? = some a → ∃ b, ys[i]? = some b ∧ F a b
  | _, _, _, _, .nil, e => by simp at e
  | _, _, 0, _, .cons r _, e => by simp at e; subst e; exact ⟨_, rfl, r⟩
  | _, _, i + 1, a, .cons _ t, e => by
    obtain ⟨b, h1, h2⟩ := paired_get (i := i) (a := a) t (by simpa using e)
    exact ⟨b, by simpa using h1, h2⟩
/-- a for over zip of two lists that the body leaves as they are -/
theorem for_zip {K : PySem.W.Frag} {a b : Addr} {xs ys : List V} {g : TG} {tb : TS} {D : Ends} {σ : L2.St} {H : Hp} (Pv : Nat → L2.St → Hp → Prop) (n : Nat) (hn : n = min xs.length ys.length) (h0 : Pv 0 σ H) (hl : ∀ i σ H, i ≤ n → Pv i σ H → SqL K H a xs ∧ SqL K H b ys)
    (hs : ∀ i x y T σ H, xs[i]? = some x → ys[i]? = some y → H T = none → Pv i σ H → g (.ref T) σ (upd H T (.tup [x, y])) fun σ2 H2 => tb { D with nx := Pv (i + 1), ct := Pv (i + 1), bk := D.nx } σ2 H2) (hd : ∀ σ H, Pv n σ H → D.nx σ H) :
    ∃ W : Nat → Nat → L2.St → Hp → Prop, (∃ m, W 0 m σ H) ∧ ∀ i m σ H, W i m σ H →
      ((Itz K a b).stop i H ∧ D.nx σ H) ∨ ((Itz K a b).go i H ∧ ∃ N : L2.St → Hp → Prop, (∀ σ' H', N σ' H' → ∃ m', m' < m ∧ W (i + 1) m' σ' H') ∧ ∀ x H', (Itz K a b).yld i H x H' → g x σ H' fun σ2 H2 => tb { D with nx := N, ct := N, bk := D.nx } σ2 H2) := by
  refine ⟨fun i m σ H => m = n - i ∧ i ≤ n ∧ Pv i σ H, ⟨n, by simp, Nat.zero_le _, h0⟩, ?_⟩
  rintro i m σ H ⟨rfl, hi, p⟩
  obtain ⟨q1, q2⟩ := hl i σ H hi p
  by_cases hlt : i < n
  · have l1 : i < xs.length := by omega
    have l2 : i < ys.length := by omega
    refine .inr ⟨⟨xs, ys, xs[i], ys[i], q1, q2, by simp [l1], by simp [l2]⟩, Pv (i + 1), fun σ' H' p' => ⟨n - (i + 1), by omega, rfl, hlt, p'⟩, fun x H' y => ?_⟩
    obtain ⟨T, u, v, rfl, hT, rfl, e1, e2⟩ := y
    exact hs i u v T σ H (e1 xs q1) (e2 ys q2) hT p
  · have e : i = n := by omega
    subst e
    exact .inl ⟨⟨xs, ys, q1, q2, by omega⟩, hd σ H p⟩
theorem fracs_snoc {H : Hp} {r : Addr} {t : Int × Int} {rs : List Addr} {ts : List (Int × Int)} (h : H r = some (.tup [.int t.1, .int t.2])) (f : FracsAt H rs ts) : FracsAt H (rs ++ [r]) (ts ++ [t]) :=
  paired_snoc (F := fun r (t : Int × Int) => H r = some (.tup [.int t.1, .int t.2])) h f
theorem fracs_put {H' : Hp} {D : Addr} {rs : List Addr} {ts : List (Int × Int)} {o : HO} {xs : List V} (hD : H' D = some (.lst xs)) (f : FracsAt H' rs ts) : FracsAt (upd H' D o) rs ts :=
  Paired.mapP f fun r t e => (upd_ne (ne_of e hD (by intro z; cases z))).trans e
/-- all but one thing stands -/
def But (D : Addr) (H H' : Hp) : Prop := ∀ b o, H b = some o → b ≠ D → H' b = some o
theorem But.refl (D : Addr) (H : Hp) : But D H H := fun _ _ e _ => e
theorem But.same {D : Addr} {H H1 H2 : Hp} (a : But D H H1) (s : Same H1 H2) : But D H H2 := fun b o e n => s b o (a b o e n)
theorem But.put {D : Addr} {H H1 : Hp} {o : HO} (a : But D H H1) : But D H (upd H1 D o) := fun b u e n => (upd_ne n).trans (a b u e n)
end Ob

set_option maxHeartbeats 4000000
namespace Ob
open PySem PySem.Spec PyProof.Rows L2
theorem shaped_pair (a b : Int) : SeqAt.shaped (.tuple [.int a, .int b]) = true := by rfl
theorem dp_pair {K : PySem.W.Frag} {H : Hp} {r : Addr} {a b : Int} (h : H r = some (.tup [.int a, .int b])) : Dp K H (.ref r) (.tuple [.int a, .int b]) := .tup (SqT.of h) (.cons (.int a) (.cons (.int b) .nil))
end Ob

set_option maxHeartbeats 4000000
namespace Ob
open PySem PySem.Spec PyProof.Rows L2
theorem cop_dvd {a b c : Int} (h : Int.gcd a b = 1) (d : b ∣ a * c) : b ∣ c := by
  have e1 : Int.gcd (a * c) b = b.natAbs := Int.gcd_eq_natAbs_right d
  rw [Int.mul_comm, Int.gcd_mul_left_left_of_gcd_eq_one h] at e1
  exact Int.gcd_eq_natAbs_right_iff_dvd.mp e1
/-- two fractions in least numbers of one value are one -/
theorem least_unique {a b c d : Int} (hb : 0 < b) (hd : 0 < d) (h1 : Int.gcd a b = 1) (h2 : Int.gcd c d = 1) (h : a * d = c * b) : a = c ∧ b = d := by
  have e1 : b ∣ d := cop_dvd h1 ⟨c, by rw [h, Int.mul_comm]⟩
  have e2 : d ∣ b := cop_dvd h2 ⟨a, by rw [← h, Int.mul_comm]⟩
  have e3 : b = d := by
    have l1 := Int.le_of_dvd hd e1
    have l2 := Int.le_of_dvd hb e2
    omega
  subst e3
  exact ⟨Int.eq_of_mul_eq_mul_right (by omega) h, rfl⟩
/-- the least of the number and of all lines about it, as the law goes through them -/
structure Best (A : Nat → Int) (n j : Nat) (R : Nat → Nat → Prop) (b : Int × Int) : Prop where
  pos : 0 < b.2
  small : b.2 ≤ 1000
  is : b = (A j, 1) ∨ ∃ i k : Nat, i < j ∧ j < k ∧ k < n ∧ b = (ln A i k j, (k : Int) - i)
  own : b.1 ≤ A j * b.2
  all : ∀ i k : Nat, R i k → b.1 * ((k : Int) - i) ≤ ln A i k j * b.2
def pairD (t : Int × Int) : PyData := .tuple [.int t.1, .int t.2]
instance (A : Nat → Int) (p q t : Nat) : Decidable (Sup A p q t) := by unfold Sup; infer_instance
end Ob

set_option maxHeartbeats 4000000
namespace Ob
open PySem PySem.Spec PyProof.Rows L2
/-- an abstract heap of one thing, frozen -/
def one (r : Addr) (u : HO) : Hp := upd (fun _ => none) r u
section
variable {X : Cx} {pins : List (Addr × Obj)} {σ : L2.St} {H : Hp} {s : Shared} {P : Addr}
end
section
variable {X : Cx} {P c f : Addr} {x g y : Str} {iter : Expr} {ti : TE} {p1 p2 p3 p4 p5 p6 p7 : Pos} {scope : Scope} {k : Nat} {fd : FuncData} {sp : Sp}
end
end Ob

set_option maxHeartbeats 4000000
namespace Ob
open PySem PySem.Spec PyProof.Rows L2
section
variable {X : Cx} {P c : Addr} {x : Str} {iter : Expr} {ti : TE} {p1 p2 p3 p4 p5 p6 p7 : Pos} {scope : Scope} {k : Nat}
end
end Ob

set_option maxHeartbeats 4000000
namespace Ob
open PySem PySem.Spec PyProof.Rows L2
end Ob

set_option maxHeartbeats 4000000
namespace Ob
open PySem PySem.Spec PyProof.Rows L2
/-- a fraction whose bottom is small -/
def Sm (t : Int × Int) : Prop := 0 < t.2 ∧ t.2 ≤ 1000000
theorem Sm.mul {t u : Int × Int} (h : Sm t) (g : Sm u) : 0 < t.2 * u.2 ∧ t.2 * u.2 ≤ 1000000 * 1000000 := ⟨Int.mul_pos h.1 g.1, Int.mul_le_mul h.2 g.2 (Int.le_of_lt g.1) (by decide)⟩
end Ob

set_option maxHeartbeats 4000000
namespace Ob
open PySem PySem.Spec PyProof.Rows L2
theorem boot_tuple2 : bootBuiltins "tuple" = some (.type "tuple") := by decide +kernel
/-- a fraction in least numbers with a small bottom -/
def Fr (t : Int × Int) : Prop := 0 < t.2 ∧ t.2 ≤ 12 ∧ Int.gcd t.1 t.2 = 1
def spWholeI : Sp := fun vs H Q _ => ∃ n : Int, vs = [.int n] ∧ Q (.bl true) H
/-- a list of fractions at hand -/
structure FrL (H : Hp) (a : Addr) (rs : List Addr) (ts : List (Int × Int)) : Prop where
  l : H a = some (.lst (rs.map V.ref))
  f : FracsAt H rs ts
  fr : ∀ t ∈ ts, Fr t
  one : 1 ≤ ts.length
  most : ts.length ≤ 12
theorem FrL.same {H H' : Hp} {a : Addr} {rs : List Addr} {ts : List (Int × Int)} (s : Same H H') (h : FrL H a rs ts) : FrL H' a rs ts := ⟨s _ _ h.l, h.f.same s, h.fr, h.one, h.most⟩
theorem FrL.at {H : Hp} {a : Addr} {rs : List Addr} {ts : List (Int × Int)} {i : Nat} {x : V} (h : FrL H a rs ts) (hx : (rs.map V.ref)[i]? = some x) : ∃ (r : Addr) (t : Int × Int), x = .ref r ∧ ts[i]? = some t ∧ H r = some (.tup [.int t.1, .int t.2]) ∧ Fr t := by
  rw [List.getElem?_map] at hx
  cases e : rs[i]? with
  | none => rw [e] at hx; cases hx
  | some r =>
    rw [e] at hx
    obtain ⟨t, h1, h2⟩ := L2.paired_get h.f e
    exact ⟨r, t, (Option.some.inj hx).symm, h1, h2, h.fr t (List.mem_of_getElem? h1)⟩
def overT (L : Int) (t : Int × Int) : Int := t.1 * (L / t.2)
/-- s // gcd(s, b) * b is over both -/
theorem lcm_step {s b N : Int} (hs : 0 < s) (hb : 0 < b) (ds : s ∣ N) (db : b ∣ N) : 0 < s / (Int.gcd s b : Int) * b ∧ s / (Int.gcd s b : Int) * b ∣ N ∧ s ∣ s / (Int.gcd s b : Int) * b ∧ b ∣ s / (Int.gcd s b : Int) * b := by
  have g0 := gcd_pos (t := s) hb
  have e1 := Int.mul_ediv_cancel' (Int.gcd_dvd_left s b)
  have e2 := Int.mul_ediv_cancel' (Int.gcd_dvd_right s b)
  have cop : Int.gcd (s / (Int.gcd s b : Int)) (b / (Int.gcd s b : Int)) = 1 := Int.gcd_ediv_gcd_ediv_gcd (by omega)
  generalize s / (Int.gcd s b : Int) = x at *
  generalize b / (Int.gcd s b : Int) = y at *
  generalize (Int.gcd s b : Int) = g at *
  subst e1
  have hx : 0 < x := by
    rcases Int.lt_or_le 0 x with h | h
    · exact h
    · have := Int.mul_nonpos_of_nonneg_of_nonpos (Int.le_of_lt g0) h
      omega
  refine ⟨Int.mul_pos hx hb, ?_, ⟨y, by rw [← e2]; ac_rfl⟩, ⟨x, by ac_rfl⟩⟩
  obtain ⟨u, hu⟩ := ds
  obtain ⟨v, hv⟩ := db
  have e3 : x * u = y * v := by
    have : g * (x * u) = g * (y * v) := by
      rw [← Int.mul_assoc, ← hu, hv, ← e2, Int.mul_assoc]
    exact Int.eq_of_mul_eq_mul_left (by omega) this
  have d : x ∣ v := cop_dvd (a := y) (b := x) (by rw [Int.gcd_comm]; exact cop) ⟨u, e3.symm⟩
  obtain ⟨w, rfl⟩ := d
  exact ⟨w, by rw [hv]; ac_rfl⟩
end Ob

set_option maxHeartbeats 4000000
namespace Ob
open PySem PySem.Spec PyProof.Rows L2
theorem ints_at {ns : List Int} {i : Nat} {x : V} (h : (ns.map V.int)[i]? = some x) : ∃ u : Int, x = .int u ∧ ns[i]? = some u := by
  rw [List.getElem?_map] at h
  cases e : ns[i]? with
  | none => rw [e] at h; cases h
  | some u => rw [e] at h; exact ⟨u, (Option.some.inj h).symm, rfl⟩
theorem refs_at' {rs : List Addr} {ts : List (Int × Int)} {H : Hp} {i : Nat} {x : V} (f : FracsAt H rs ts) (h : (rs.map V.ref)[i]? = some x) : ∃ (r : Addr) (t : Int × Int), x = .ref r ∧ H r = some (.tup [.int t.1, .int t.2]) ∧ ts[i]? = some t := by
  rw [List.getElem?_map] at h
  cases e : rs[i]? with
  | none => rw [e] at h; cases h
  | some r =>
    rw [e] at h
    obtain ⟨t, h1, h2⟩ := L2.paired_get f e
    exact ⟨r, t, (Option.some.inj h).symm, h2, h1⟩
theorem idx_lt {α : Type} {xs : List α} {i : Nat} {x : α} (h : xs[i]? = some x) : i < xs.length := (List.getElem?_eq_some_iff.mp h).1
/-! rows that bend one way -/
def Conv (c : Nat → Int) (n : Nat) : Prop := ∀ j, j + 2 < n → 2 * c (j + 1) ≤ c j + c (j + 2)
end Ob

set_option maxHeartbeats 4000000
namespace Ob
open PySem PySem.Spec PyProof.Rows L2
/-! great numbers -/
def Bt (k : Nat) (z : Int) : Prop := z.natAbs < 2 ^ k
theorem Bt.mono {j k : Nat} {z : Int} (h : Bt j z) (hk : j ≤ k) : Bt k z := Nat.lt_of_lt_of_le h (Nat.pow_le_pow_right (by decide) hk)
theorem Bt.mul {j k : Nat} {x y : Int} (h : Bt j x) (g : Bt k y) : Bt (j + k) (x * y) := by
  unfold Bt at *
  rw [Int.natAbs_mul, Nat.pow_add]
  exact Nat.mul_lt_mul'' h g
theorem Bt.add {k : Nat} {x y : Int} (h : Bt k x) (g : Bt k y) : Bt (k + 1) (x + y) := by
  unfold Bt at *
  have := Int.natAbs_add_le x y
  rw [Nat.pow_succ]
  omega
theorem Bt.neg {k : Nat} {x : Int} (h : Bt k x) : Bt k (-x) := by
  unfold Bt at *
  rw [Int.natAbs_neg]
  exact h
theorem Bt.le {k : Nat} {x y : Int} (h : Bt k y) (hl : x.natAbs ≤ y.natAbs) : Bt k x := Nat.lt_of_le_of_lt hl h
theorem Bt.log {k : Nat} {x : Int} (h : Bt k x) (hk : 0 < k) : x.natAbs.log2 < k := by
  by_cases e : x.natAbs = 0
  · rw [e, Nat.log2_zero]
    exact hk
  · exact (Nat.log2_lt e).mpr h
theorem Bt.bits {k : Nat} {x : Int} (h : Bt k x) : Builtin.Int.intBits x ≤ k := by
  unfold Builtin.Int.intBits
  by_cases e : x = 0
  · subst e
    simp
  · have e' : (x == 0) = false := by simpa using e
    rw [e']
    have hn : x.natAbs ≠ 0 := by omega
    have := (Nat.log2_lt hn).mpr h
    show x.natAbs.log2 + 1 ≤ k
    omega
def CMulB (i j : Int) : Prop := ∃ a b : Nat, Bt a i ∧ Bt b j ∧ a + b ≤ 8000
def CDivB (_ j : Int) : Prop := 0 < j ∧ ∃ b : Nat, Bt b j ∧ b ≤ 8000
section
variable {X : Cx}
theorem op_mulB : OpR X (binaryOp .Mult) (rI CMulB fun i j => .int (i * j)) := opI fun i j _ _ _ _ _ hc q => mul_int q (by
  obtain ⟨a, b, h1, h2, h3⟩ := hc
  unfold IntMulOk
  have z1 := h1.bits
  have z2 := h2.bits
  intro z
  rw [Bool.and_eq_true] at z
  have z3 := z.2
  unfold Builtin.Int.intTooBig at z3
  have z4 := of_decide_eq_true z3
  have z5 : (bitsLine : Int) = 134217728 := by decide
  omega)
theorem op_fdivB : OpR X (binaryOp .FloorDiv) (rI CDivB fun i j => .int (i / j)) := opI fun i j _ _ _ _ _ hc q => by
  obtain ⟨h1, b, h2, h3⟩ := hc
  refine floordiv_int (by omega) (by rw [Int.fdiv_eq_ediv_of_nonneg i (by omega)]; exact q) (.inl (PyProof.noPylong_of_log2 ?_))
  have := (h2.mono (k := 8001) (by omega)).log (by decide)
  omega
end
section
variable {X : Cx} {a : Addr} {vs : List (Key × Value)} {nm : Str} {p pos : Pos} {i : Expr} {ty : TE}
end
/-! the call of what a name holds -/
section
variable {X : Cx} {x : Str} {p pos : Pos} {e : Expr} {es : List Expr} {tv : TE} {t : TA}
end
/-! sum(x * x for x in ..) -/
theorem boot_sum' : bootBuiltins "sum" = some (.builtin "sum") := by decide +kernel
def sqAt (ns : List Int) (j : Nat) : Int := (ns[j]?.map fun n => n * n).getD 0
theorem preSum_sq (ns : List Int) : preSum (sqAt ns) ns.length = (ns.map fun n => n * n).sum := by
  have key : ∀ i, i ≤ ns.length → preSum (sqAt ns) i = ((ns.take i).map fun n => n * n).sum := by
    intro i
    induction i with
    | zero => intro _; rfl
    | succ i ih =>
      intro hi
      have e : ns[i]? = some (ns[i]'(by omega)) := List.getElem?_eq_getElem _
      show preSum (sqAt ns) i + sqAt ns i = _
      rw [ih (by omega), List.take_add_one, e, List.map_append, List.sum_append]
      unfold sqAt
      rw [e]
      congr 1
      simp
  rw [key _ (Nat.le_refl _), List.take_of_length_le (Nat.le_refl _)]
def tSumSq (K : PySem.W.Frag) (P : Addr) (ti : TE) : TE := fun σ H Q => ti σ H fun v H1 => ∃ (a : Addr) (ns : List Int), v = .ref a ∧ SqL K H1 a (ns.map V.int) ∧ (∀ n ∈ ns, Bt 4000 n) ∧ H1 P = some (.ext (TbP P)) ∧ Q (.int (ns.map fun n => n * n).sum) H1
section
variable {X : Cx} {P c : Addr} {x : Str} {iter : Expr} {ti : TE} {p1 p2 p3 p4 p5 p6 p7 : Pos} {scope : Scope} {k : Nat}
theorem pe_sumSq (hcalm : X.calm = true) (B : GenB X c P) (hr : Room 1 X.A) (hg : Gl X "sum") (hm : X.mg "sum" = none) (hi : PE X iter ti)
    (hco : scope.isCoroutine = false) (hclos : closureFor scope X.env = pure []) (hcell : ∀ y ∈ scope.names, y.2 ≠ .cell) (h0 : scope.names.lookup (".0" : Str) = some NameKind.local) (hx : scope.names.lookup x = some .local)
    (hkind : scope.kind = .function) (hs : ∀ v, genFold iter X.env v = pure v) (hd : (x == ("__debug__" : Str)) = false := by decide) (hqt : X.qt = false := by rfl) :
    PE X (.Call (.Name "sum" p1) [.GeneratorExp (.BinOp (.Name x p2) .Mult (.Name x p3) p4) [⟨.Name x p5, iter, [], 0⟩] scope p6] [] p7) (tSumSq X.K P ti) := by
  intro pins s σ H Q I h
  have hh : X.A.handled = none := I.ok.hd hcalm
  refine wpAny_Call_Name_kw (ld_blt I hg hm boot_sum' ?_ (by decide) (by decide))
  refine PyProof.Rows.callWith_builtin1 ?_ rfl rfl
  refine Calls.spliced_cons ?_
  refine wpAny_GeneratorExp_walksQD hh hco hclos hcell h0 hx hkind hr.depth (thn (hi pins s σ H _ I h) fun u s1 ⟨v, H1, I1, r1, q1⟩ => ?_) hs
  obtain ⟨a, ns, rfl, hS, hB, hP, hQ⟩ := q1
  cases r1
  obtain ⟨its, rv, pl, hz⟩ := I1.list hS
  have hl := pl.isList
  have hlt : a < s1.heap.objs.size := by obtain ⟨_, e, _⟩ := hl; exact Heap.lt_size e
  have tb1 := Inv.tableAt I1 hP
  have hPlt : P < s1.heap.objs.size := let ⟨_, e, _⟩ := tb1; Heap.lt_size e
  refine wpAny_pyIter_list hl ⟨(I1.nolimit).push _, ?_⟩
  refine gen_code B.ec ((B.code.keeps I1.bk).keeps fun b o e => Heap.get?_push_of_some _ e) (tb1.stay fun o e => Heap.get?_push_of_some _ e) fun code h3 tk hx3 hsz3 tb3 => ?_
  obtain ⟨bm, ob, M⟩ := B.bm
  have k3 : ∀ b o, b ≠ P → s1.heap.get? b = some o → h3.get? b = some o := fun b o hb e => hx3 b o hb (Heap.get?_push_of_some _ e)
  have nbP : ∀ b o, X.base.get? b = some o → b ≠ P := fun b o e z => by
    have z2 := (I1.bs b o e).2
    rw [z, hP] at z2
    cases z2
  have kb3 : ∀ b o, X.base.get? b = some o → h3.get? b = some o := fun b o e => k3 b o (nbP b o e) (I1.bk b o e)
  have M3 := M.keeps kb3
  rw [I.ok.glob]
  refine wpAny_builtinsFor M3.ns M3.name M3.ne M3.obj M3.cls M3.dict M3.data ?_
  have hsz : s1.heap.objs.size < h3.objs.size := Nat.lt_of_lt_of_le (by rw [Heap.size_push]; exact Nat.lt_succ_self _) hsz3
  have hit3 : ∀ o, (s1.heap.push { cls := .type "list_iterator", data := .fields #[.ref a, .int 0 0] }).get? s1.heap.objs.size = some o → h3.get? s1.heap.objs.size = some o := fun o e => hx3 _ o (Nat.ne_of_gt hPlt) e
  have haP : a ≠ P := fun z => by
    obtain ⟨o, ho, hcls, _⟩ := hl
    obtain ⟨_, e, _⟩ := tb1
    rw [z, e] at ho
    cases ho
    exact nomatch hcls
  have lim3 : h3.NoLimit := I.ok.mod.nolimit.keeps kb3
  refine ⟨s1.heap.objs.size, [s1.heap.objs.size, a], [s1.heap.objs.size], its.toArray.size, _, _, fun _ => true, fun i y => ∃ v, its.toArray[i]? = some v ∧ ∃ z, (ns.map V.int)[i]? = some z ∧ ∃ n tk, z = .int n ∧ y = .int (n * n) tk, rfl, fun A' hA => Walks.list hA _ _ (Nat.ne_of_lt hlt) its.toArray, ?_, ?_, lim3, ?_, ?_, ?_⟩
  · exact ⟨⟨_, hit3 _ (Heap.get?_push_size _ rfl), rfl, rfl⟩, hl.at fun o e => k3 a o haP e⟩
  · intro b hb
    rcases List.mem_cons.mp hb with rfl | hb
    · exact hsz
    · rcases List.mem_cons.mp hb with rfl | hb
      · exact Nat.lt_trans hlt hsz
      · cases hb
  · intro hb
    have z : cStatics = s1.heap.objs.size := by simpa using hb
    obtain ⟨_, hn, _⟩ := I1.nolimit
    exact absurd (z ▸ hn.lt) (Nat.lt_irrefl _)
  · intro href hhref
    refine ⟨fun A' E' i v t m2 hA hD hU hPi hn hm2 hk => wpAny_pure ⟨rfl, t.heap, t.toks, rfl, fun _ _ e => e⟩, fun A' E' i v t m2 hA hD hU hPi _ hn hm2 hk => ?_⟩
    obtain ⟨n, hz1, tk', rfl⟩ : ∃ n : Int, (ns.map V.int)[i]? = some (.int n) ∧ ∃ tk', v = .int n tk' := by
      have e : its[i]? = some v := by simpa using hPi
      cases q : (ns.map V.int)[i]? with
      | none => rw [rv.none_of q] at e; cases e
      | some z =>
        obtain ⟨u, e1, e2⟩ := rv.get q
        rw [e] at e1
        cases e1
        rw [List.getElem?_map] at q
        cases q2 : ns[i]? with
        | none => rw [q2] at q; cases q
        | some n =>
          rw [q2] at q
          cases q
          exact ⟨n, rfl, e2⟩
    have hBn : Bt 4000 n := hB n (by
      rw [List.getElem?_map] at hz1
      cases q2 : ns[i]? with
      | none => rw [q2] at hz1; cases hz1
      | some z =>
        rw [q2] at hz1
        have e : z = n := by injection (Option.some.inj hz1)
        rw [← e]
        exact List.mem_of_getElem? q2)
    have mok : IntMulOk n n := by
      unfold IntMulOk
      have z1 := hBn.bits
      intro z
      rw [Bool.and_eq_true] at z
      have z3 := z.2
      unfold Builtin.Int.intTooBig at z3
      have z4 := of_decide_eq_true z3
      have z5 : (bitsLine : Int) = 134217728 := by decide
      omega
    refine wpAny_BinOp (load_here hkind hx hn hm2 (load_here hkind hx hn hm2 (mul_int ⟨⟨_, hPi, _, hz1, n, _, rfl, rfl⟩, t.heap, _, rfl, fun _ _ e => e⟩ mok) hd) hd)
  · intro a' h5 tk5 gs hgb hag hsz5 hk5 Wk hat
    have Wk := Wk.in4_1
    refine Calls.spliced_nil ?_
    have npass : ∀ n, (passing (fun _ => true) n 0) = List.range n := fun n => by simp [passing]
    refine call_sum_walkAnyS (Wk.self 0 _ _ _ hat ⟨a', _, _, _, _, _, _, sqAt ns, rfl, Wk, hat, ?F, ?_, fun s' t' hm => ?_⟩)
    case F =>
      intro b hb
      have hag' : h3.objs.size < a' := hag
      show b < h5.objs.size
      rw [hsz5]
      rcases List.mem_cons.mp hb with h | hb
      · rw [h]; exact Nat.lt_succ_self _
      rcases List.mem_cons.mp hb with h | hb
      · rw [h]; exact Nat.lt_succ_of_lt hag'
      have hb3 : b < h3.objs.size := List.mem_range.mp hb
      exact Nat.lt_succ_of_lt (Nat.lt_trans hb3 hag')
    · rintro j v ⟨i, hi', v', hv', z, hz', n, tk, rfl, rfl⟩
      have ei : i = j := by
        rw [npass] at hi'
        have := (List.getElem?_eq_some_iff.mp hi').2
        simpa using this.symm
      subst ei
      refine ⟨tk, ?_⟩
      rw [List.getElem?_map] at hz'
      cases q2 : ns[i]? with
      | none => rw [q2] at hz'; cases hz'
      | some u =>
        rw [q2] at hz'
        have e : u = n := by injection (Option.some.inj hz')
        unfold sqAt
        rw [q2, e]
        rfl
    · have kk : ∀ b o, b ≠ P → s1.heap.get? b = some o → s'.heap.get? b = some o := fun b o hb e => hm.heap b o (fun z => by
        rcases List.mem_cons.mp z with z | z
        · exact absurd (z ▸ Heap.lt_size (k3 b o hb e)) (Nat.lt_irrefl _)
        · have z2 : b = s1.heap.objs.size := by simpa using z
          exact absurd (z2 ▸ Heap.lt_size e) (Nat.lt_irrefl _)) (hk5 b o (k3 b o hb e))
      have tb' : TbP P s'.heap := (tb3.stay fun o e => hk5 P o e).stay fun o e => hm.heap P o (fun z => by
        rcases List.mem_cons.mp z with z | z
        · exact absurd (Nat.lt_trans hPlt hsz) (z ▸ Nat.lt_irrefl _)
        · have z2 : P = s1.heap.objs.size := by simpa using z
          exact absurd hPlt (z2 ▸ Nat.lt_irrefl _)) e
      have J := Inv.grown I1 hqt hP kk tb' (fun hb => AllBare.movedS (hb.push hgb) hm) hm.os
      refine ⟨.int (ns.map fun n => n * n).sum, H1, J, ?_, hQ⟩
      have hlen : (passing (fun _ => true) its.toArray.size 0).length = (ns.map V.int).length := by
        rw [npass, List.length_range, List.size_toArray, rv.length]
      rw [hlen, List.length_map, preSum_sq]
      exact ⟨_, rfl⟩
end
end Ob

set_option maxHeartbeats 4000000
namespace Ob
open PySem PySem.Spec PyProof.Rows L2
theorem red_eq {X Y X' Y' : Int} (hY : 0 < Y) (hY' : 0 < Y') (h : X * Y' = X' * Y) : (redT X Y, redB X Y) = (redT X' Y', redB X' Y') := by
  have m1 := red_mul (t := X) hY
  have m2 := red_mul (t := X') hY'
  have e : redT X Y * redB X' Y' = redT X' Y' * redB X Y := by
    refine Int.eq_of_mul_eq_mul_right (a := Y * Y') (by have := Int.mul_pos hY hY'; omega) ?_
    calc redT X Y * redB X' Y' * (Y * Y') = (redT X Y * Y) * (redB X' Y' * Y') := by ac_rfl
      _ = (redB X Y * X) * (redB X' Y' * Y') := by rw [m1]
      _ = redB X Y * redB X' Y' * (X * Y') := by ac_rfl
      _ = redB X Y * redB X' Y' * (X' * Y) := by rw [h]
      _ = (redB X' Y' * X') * (redB X Y * Y) := by ac_rfl
      _ = (redT X' Y' * Y') * (redB X Y * Y) := by rw [m2]
      _ = redT X' Y' * redB X Y * (Y * Y') := by ac_rfl
  obtain ⟨z1, z2⟩ := least_unique (redB_pos hY) (redB_pos hY') (red_gcd hY) (red_gcd hY') e
  exact Prod.ext z1 z2
def absI (z : Int) : Int := if z < 0 then -z else z
def gapF (L : Int) (p : Int × (Int × Int)) : Int := absI (p.1 * L - overT L p.2)
def gapsOf (ns : List Int) (ts : List (Int × Int)) (L : Int) : List Int := (ns.zip ts).map (gapF L)
section
variable {L B : Int} {ps : List (Int × (Int × Int))}
end
/-- a fraction of at most twelve figures and some more -/
structure Fq (t : Int × Int) : Prop where
  pos : 0 < t.2
  small : t.2 < 2 ^ 40
  cop : Int.gcd t.1 t.2 = 1
  top : t.1.natAbs < 2 ^ 62
structure FqL (H : Hp) (a : Addr) (rs : List Addr) (ts : List (Int × Int)) : Prop where
  l : H a = some (.lst (rs.map V.ref))
  f : FracsAt H rs ts
  fr : ∀ t ∈ ts, Fq t
  one : 1 ≤ ts.length
  most : ts.length ≤ 12
theorem FqL.same {H H' : Hp} {a : Addr} {rs : List Addr} {ts : List (Int × Int)} (s : Same H H') (h : FqL H a rs ts) : FqL H' a rs ts := ⟨s _ _ h.l, h.f.same s, h.fr, h.one, h.most⟩
theorem FqL.at {H : Hp} {a : Addr} {rs : List Addr} {ts : List (Int × Int)} {i : Nat} {x : V} (h : FqL H a rs ts) (hx : (rs.map V.ref)[i]? = some x) : ∃ (r : Addr) (t : Int × Int), x = .ref r ∧ ts[i]? = some t ∧ H r = some (.tup [.int t.1, .int t.2]) ∧ Fq t := by
  obtain ⟨r, t, e, h1, h2⟩ := refs_at' h.f hx
  exact ⟨r, t, e, h2, h1, h.fr t (List.mem_of_getElem? h2)⟩
structure Over2 (ts : List (Int × Int)) (L : Int) : Prop where
  pos : 0 < L
  dvd : ∀ t ∈ ts, t.2 ∣ L
  bt : Bt 500 L
def spLeastB : Sp := fun vs H Q _ => ∃ t b : Int, vs = [.int t, .int b] ∧ 0 < b ∧ Bt 4000 b ∧ ∀ r, H r = none → Q (.ref r) (upd H r (.tup [.int (redT t b), .int (redB t b)]))
theorem Bt.of {k : Nat} {z : Int} (h : z.natAbs < 2 ^ k) : Bt k z := h
end Ob

set_option maxHeartbeats 4000000
namespace Ob
open PySem PySem.Spec PyProof.Rows L2
theorem nn {a b : Nat} (h : ¬ a = b) : @Ne Addr a b := h
section
variable {prog : Program} {w : World} {A : Around} {E : Value → Shared → Prop} {s : Shared}
end
section
variable {prog : Program} {w : World} {A : Around} {E : Value → Shared → Prop} {s : Shared}
end
end Ob

set_option maxHeartbeats 4000000
namespace Ob
open PySem PySem.Spec PyProof.Rows L2
section
variable {X : Cx} {P c : Addr} {x : Str} {elt iter : Expr} {ti : TE} {p1 p5 p6 p7 : Pos} {scope : Scope} {R : L2.St → Hp → V → Bool → Prop}
end
end Ob

set_option maxHeartbeats 4000000
namespace Ob
open PySem PySem.Spec PyProof.Rows L2
section
variable {prog : Program} {w : World} {A : Around} {E : Value → Shared → Prop} {s : Shared}
end
section
variable {prog : Program} {w : World} {A : Around} {E : Value → Shared → Prop} {s : Shared}
end
end Ob

set_option maxHeartbeats 4000000
namespace Ob
open PySem PySem.Spec PyProof.Rows L2
section
variable {X : Cx} {P c : Addr} {x : Str} {elt iter : Expr} {ti : TE} {p1 p5 p6 p7 : Pos} {scope : Scope} {R : L2.St → Hp → V → Bool → Prop}
end
end Ob

set_option maxHeartbeats 4000000
namespace L2
open PySem PySem.Spec PyProof.Rows
section
variable {prog : Program} {w : World} {A : Around} {R : Result → Shared → Prop} {s : Shared} {elt t0 i0 t1 i1 t2 i2 : Expr} {ifs0 ifs1 ifs2 : List Expr} {scope : Scope} {pos : Pos} {it acc : Value} {env : Env}
end
section
variable {X : Cx}
end
end L2

set_option maxHeartbeats 4000000
namespace Ob
open PySem PySem.Spec PyProof.Rows L2
/-- three places -/
abbrev Tri := Nat × Nat × Nat
abbrev triO (t : Tri) : HO := .tup [.int (t.1 : Int), .int (t.2.1 : Int), .int (t.2.2 : Int)]
/-- tuples of three places, each at its own address -/
def TrisAt (H : Hp) (rs : List Addr) (ts : List Tri) : Prop := Paired (fun r t => H r = some (triO t)) rs ts
theorem TrisAt.same {H H' : Hp} {rs : List Addr} {ts : List Tri} (s : Same H H') (h : TrisAt H rs ts) : TrisAt H' rs ts := Paired.mapP h fun _ _ e => s _ _ e
/-- what the amid number is above the line of the others, times how far these are -/
def topOf (ns : List Int) (t : Tri) : Int := An ns t.2.1 * ((t.2.2 : Int) - t.1) - ln (An ns) t.1 t.2.2 t.2.1
/-- what three places show -/
def shownP (ns : List Int) (t : Tri) : Int × Int := if topOf ns t ≤ 0 then (0, 1) else (redT (topOf ns t) (2 * ((t.2.2 : Int) - t.1)), redB (topOf ns t) (2 * ((t.2.2 : Int) - t.1)))
theorem redB_le {t b : Int} (h : 0 < b) : redB t b ≤ b := by
  have d : redB t b ∣ b := ⟨_, (Int.mul_ediv_cancel' (Int.gcd_dvd_right t b)).symm.trans (Int.mul_comm _ _)⟩
  exact Int.le_of_dvd h d
theorem shown_pos (ns : List Int) {t : Tri} (h : t.1 < t.2.2) : 0 < (shownP ns t).2 := by
  unfold shownP
  split
  · exact (show (0 : Int) < 1 by decide)
  · exact redB_pos (by omega)
theorem shown_sm (ns : List Int) {t : Tri} (h : t.1 < t.2.2) (h2 : t.2.2 ≤ 1000) : Sm (shownP ns t) := by
  refine ⟨shown_pos ns h, ?_⟩
  unfold shownP
  split
  · exact (show (1 : Int) ≤ 1000000 by decide)
  · have := redB_le (t := topOf ns t) (b := 2 * ((t.2.2 : Int) - t.1)) (by omega)
    show redB _ _ ≤ 1000000
    omega
theorem shown_cop (ns : List Int) {t : Tri} (h : t.1 < t.2.2) : Int.gcd (shownP ns t).1 (shownP ns t).2 = 1 := by
  unfold shownP
  split
  · rfl
  · exact red_gcd (by omega)
/-- the first that shows the most, as both go through them -/
abbrev Bs := (Int × Int) × Option Tri
def stepP (ns : List Int) (st : Bs) (t : Tri) : Bs := if st.1.1 * (shownP ns t).2 < (shownP ns t).1 * st.1.2 then (shownP ns t, some t) else st
/-- what is known of a best -/
structure BsOk (ns : List Int) (n : Nat) (st : Bs) : Prop where
  sm : Sm st.1
  cop : Int.gcd st.1.1 st.1.2 = 1
  is : st.1 = (match st.2 with | none => (0, 1) | some t => shownP ns t)
  tri : ∀ t, st.2 = some t → t.1 < t.2.1 ∧ t.2.1 < t.2.2 ∧ t.2.2 < n
theorem BsOk.start (ns : List Int) (n : Nat) : BsOk ns n ((0, 1), none) := ⟨⟨(show (0 : Int) < 1 by decide), (show (1 : Int) ≤ 1000000 by decide)⟩, rfl, rfl, fun _ e => by cases e⟩
theorem BsOk.step {ns : List Int} {n : Nat} {st : Bs} {t : Tri} (b : BsOk ns n st) (h : t.1 < t.2.1 ∧ t.2.1 < t.2.2 ∧ t.2.2 < n) (hn : n ≤ 1000) : BsOk ns n (stepP ns st t) := by
  unfold stepP
  split
  · exact ⟨shown_sm ns (by omega) (by omega), shown_cop ns (by omega), rfl, fun u e => by cases e; exact h⟩
  · exact b
/-- what is told: none, or the places -/
def ToldAt (H : Hp) (v : V) (o : Option Tri) : Prop := match o with
  | none => v = .non
  | some t => ∃ r, v = .ref r ∧ H r = some (triO t)
theorem ToldAt.same {H H' : Hp} {v : V} {o : Option Tri} (s : Same H H') (h : ToldAt H v o) : ToldAt H' v o := by
  cases o with
  | none => exact h
  | some t => obtain ⟨r, e, h⟩ := h; exact ⟨r, e, s _ _ h⟩
end Ob

set_option maxHeartbeats 4000000
namespace Ob
open PySem PySem.Spec PyProof.Rows L2
section
variable {prog : Program} {w : World} {A : Around} {E : Value → Shared → Prop} {s : Shared}
end
section
variable {X : Cx}
theorem vals_at : ∀ (ys : List V) (us : List Value), ys.length = us.length → (∀ (j : Nat) (y : V) (u : Value), ys[j]? = some y → us[j]? = some u → RelV y u) → Vals ys us
  | [], [], _, _ => .nil
  | y :: r, u :: r', h, hh => .cons (hh 0 y u rfl rfl) (vals_at r r' (by simpa using h) fun j y u e1 e2 => hh (j + 1) y u (by simpa using e1) (by simpa using e2))
end
end Ob

set_option maxHeartbeats 4000000
namespace Ob
open PySem PySem.Spec PyProof.Rows L2
section
variable {X : Cx}
end
end Ob

set_option maxHeartbeats 4000000
namespace Ob
open PySem PySem.Spec PyProof.Rows L2
end Ob

set_option maxHeartbeats 4000000
namespace Ob
open PySem PySem.Spec PyProof.Rows L2
open PySem.SeqAt
open PySem.AutoSeq1 (wpAny_loadPart')
open PySem.MeetsSeq PySem.MeetsSeq2 PySem.MeetsSeq3
/-- one thing is less than another -/
def LtAt (A : Around) (s : Shared) (y x : Value) (b : Bool) : Prop :=
  ∀ (prog : Program) (w : World) (E : Value → Shared → Prop) (Q : Value → Shared → Prop), Q (.bool b) s → wpAny (model prog w) A (richCompare .Lt y x) Q E s
/-- the first places that differ tell -/
def firstLt (e lt : Nat → Bool) (d : Bool) : List Nat → Bool
  | [] => d
  | j :: r => if e j then firstLt e lt d r else lt j
theorem lt_loopAt (l b : Addr) (items items2 : Array Value) (n n2 : Nat) (dd dd2 : Option Addr) (sl sl2 : Array (Option Value)) (e lt : Nat → Bool) (k : Nat) :
    ∀ i : Nat, min items.size items2.size - i = k → i ≤ min items.size items2.size → Meets (Builtin.«list.__eq__.loop» ⟨[.ref l, .ref b, rawInt i, rawInt 0], []⟩)
      (fun A R s => s.heap.get? l = some { cls := .type "list", dict := dd, data := .seq items n, slots := sl } ∧ s.heap.get? b = some { cls := .type "list", dict := dd2, data := .seq items2 n2, slots := sl2 } ∧
        (∀ j (h1 : j < items.size) (h2 : j < items2.size), EqAt A.in1 s items[j] items2[j] (e j)) ∧ (∀ j (h1 : j < items.size) (h2 : j < items2.size), LtAt A.in1 s items[j] items2[j] (lt j)) ∧
        R (.ok (.ret (.bool (firstLt e lt (decide (items.size < items2.size)) ((List.range (min items.size items2.size)).drop i))))) s) := by
  induction k with
  | zero =>
    intro i hk hi prog w A R s h
    obtain ⟨hp, g, d, tk, os⟩ := s; obtain ⟨hl, hb, he, hlt, h⟩ := h
    wp_walk using wpAny_loadPart' hl, wpAny_loadPart' hb
    have hd : (List.range (min items.size items2.size)).drop i = [] := by simp; omega
    rw [hd] at h
    have hh : items[((i : Nat) : Int).toNat]? = none ∨ items2[((i : Nat) : Int).toNat]? = none := by
      rcases Nat.le_total items.size items2.size with q | q
      · exact .inl (by simp; omega)
      · exact .inr (by simp; omega)
    have hz : firstLt e lt (decide (items.size < items2.size)) [] = decide (items.size < items2.size) := rfl
    rw [hz] at h
    rcases hh with hh | hh
    · rw [hh]
      wp_walk using wpAny_loadPart' hl, wpAny_loadPart' hb
      exact h
    · rw [hh]
      cases items[((i : Nat) : Int).toNat]? with
      | none =>
        wp_walk using wpAny_loadPart' hl, wpAny_loadPart' hb
        exact h
      | some x =>
        wp_walk using wpAny_loadPart' hl, wpAny_loadPart' hb
        exact h
  | succ k ih =>
    intro i hk hi prog w A R s h
    obtain ⟨hp, g, d, tk, os⟩ := s; obtain ⟨hl, hb, he, hlt', h⟩ := h
    wp_walk using wpAny_loadPart' hl, wpAny_loadPart' hb
    have hlt : i < items.size := by omega
    have hlt2 : i < items2.size := by omega
    have hi1 : items[((i : Nat) : Int).toNat]? = some items[i] := by simp [hlt]
    have hi2 : items2[((i : Nat) : Int).toNat]? = some items2[i] := by simp [hlt2]
    have hd : (List.range (min items.size items2.size)).drop i = i :: (List.range (min items.size items2.size)).drop (i + 1) := by
      rw [List.drop_eq_getElem_cons (by simp; omega)]
      simp
    have hc : ((i : Int) + 1) = ((i + 1 : Nat) : Int) := by push_cast; rfl
    rw [hd] at h
    unfold firstLt at h
    rw [hi1, hi2]
    refine wpAny_bind (he i hlt hlt2 prog w _ _ ?_)
    cases hb' : e i with
    | true =>
      rw [hb'] at h
      wp_walk
      rw [hc]
      exact ⟨plainId_quiet plain_eq_loop _, codeAny_builtin entry_eq_loop (by
        rw [Around.under_plainId plain_eq_loop _]
        exact ih (i + 1) (by omega) (by omega) prog w A R _ ⟨hl, hb, he, hlt', by simpa using h⟩)⟩
    | false =>
      rw [hb'] at h
      wp_walk using wpAny_loadPart' hl, wpAny_loadPart' hb
      rw [hi1, hi2]
      have hri := hlt' i hlt hlt2 prog w
      wp_walk using hri
      simpa using h
theorem list_ltAt (l b : Addr) (items items2 : Array Value) (n n2 : Nat) (dd dd2 : Option Addr) (sl sl2 : Array (Option Value)) (e lt : Nat → Bool) :
    Meets (Builtin.«list.__lt__» ⟨[.ref l, .ref b], []⟩)
      (fun A R s => s.heap.get? l = some { cls := .type "list", dict := dd, data := .seq items n, slots := sl } ∧ s.heap.get? b = some { cls := .type "list", dict := dd2, data := .seq items2 n2, slots := sl2 } ∧
        (∀ j (h1 : j < items.size) (h2 : j < items2.size), EqAt A.in1 s items[j] items2[j] (e j)) ∧ (∀ j (h1 : j < items.size) (h2 : j < items2.size), LtAt A.in1 s items[j] items2[j] (lt j)) ∧
        R (.ok (.ret (.bool (firstLt e lt (decide (items.size < items2.size)) (List.range (min items.size items2.size)))))) s) := by
  intro prog w A R s h
  obtain ⟨hp, g, d, tk, os⟩ := s; obtain ⟨hl, hb, he, hlt, h⟩ := h
  have f3 := AutoSeq1.sub_list_list
  wp_walk using wpAny_loadPart' hl, wpAny_loadPart' hb
  exact ⟨plainId_quiet plain_eq_loop _, codeAny_builtin entry_eq_loop (by
    rw [Around.under_plainId plain_eq_loop _]
    exact lt_loopAt l b items items2 n n2 dd dd2 sl sl2 e lt _ 0 rfl (Nat.zero_le _) prog w A R _ ⟨hl, hb, he, hlt, by simpa using h⟩)⟩
theorem LtAt.lists {A : Around} {s : Shared} {l b : Addr} {items items2 : Array Value} {e lt : Nat → Bool} (hl : s.heap.IsList l items) (hb : s.heap.IsList b items2) (hu : A.units < cLine)
    (he : ∀ j (h1 : j < items.size) (h2 : j < items2.size), EqAt A.in1 s items[j] items2[j] (e j)) (hlt : ∀ j (h1 : j < items.size) (h2 : j < items2.size), LtAt A.in1 s items[j] items2[j] (lt j)) :
    LtAt A s (.ref l) (.ref b) (firstLt e lt (decide (items.size < items2.size)) (List.range (min items.size items2.size))) := fun prog w E Q h => by
  obtain ⟨⟨cls, dd, data, sl⟩, ho, hc, n, hd⟩ := id hl
  obtain ⟨⟨cls2, dd2, data2, sl2⟩, ho2, hc2, n2, hd2⟩ := id hb
  simp only at hc hd hc2 hd2
  subst hc hd hc2 hd2
  exact richCompare_meets_room (op := .Lt) ⟨_, ho, rfl⟩ ⟨_, ho2, rfl⟩ PySem.F.slot_list_lt PySem.F.entry_list_lt (PySem.F.args_list_lt_2 _ _) (list_ltAt l b items items2 n n2 dd dd2 sl sl2 e lt)
    ⟨ho, ho2, he, hlt, (fun x => nomatch x), h⟩ hu
theorem tuple_ltAt (l b : Addr) (items items2 : Array Value) (n n2 : Nat) (dd dd2 : Option Addr) (sl sl2 : Array (Option Value)) (e lt : Nat → Bool) :
    Meets (Builtin.«tuple.__lt__» ⟨[.ref l, .ref b], []⟩)
      (fun A R s => s.heap.get? l = some { cls := .type "tuple", dict := dd, data := .seq items n, slots := sl } ∧ s.heap.get? b = some { cls := .type "tuple", dict := dd2, data := .seq items2 n2, slots := sl2 } ∧
        (∀ j (h1 : j < items.size) (h2 : j < items2.size), EqAt A.in1 s items[j] items2[j] (e j)) ∧ (∀ j (h1 : j < items.size) (h2 : j < items2.size), LtAt A.in1 s items[j] items2[j] (lt j)) ∧
        R (.ok (.ret (.bool (firstLt e lt (decide (items.size < items2.size)) (List.range (min items.size items2.size)))))) s) :=
  .of_wp fun prog w A R s h => by
    obtain ⟨hp, g, d, tk, os⟩ := s; obtain ⟨hl, hb, he, hlt', h⟩ := h
    have f2 := AutoSeq1.sub_tuple_tuple
    have hZ : (items.toList.zip items2.toList).length = min items.size items2.size := by simp
    wp_walk using wpAny_loadPart' hl, wpAny_loadPart' hb, wpAny_forIn_list _ (fun rest b s' => b.1 = none ∧ s' = ⟨hp, g, d, tk, os⟩ ∧ ∃ i, rest = (items.toList.zip items2.toList).drop i ∧
      R (.ok (.ret (.bool (firstLt e lt (decide (items.size < items2.size)) ((List.range (min items.size items2.size)).drop i))))) ⟨hp, g, d, tk, os⟩) _
    case turn =>
      rintro ⟨y, x⟩ rest b s' ⟨hb', rfl, i, hz, hR⟩
      have hlt : i < (items.toList.zip items2.toList).length := by
        rcases Nat.lt_or_ge i (items.toList.zip items2.toList).length with h' | h'
        · exact h'
        · rw [List.drop_of_length_le h'] at hz; cases hz
      have hm : i < min items.size items2.size := hZ ▸ hlt
      have h1 : i < items.size := Nat.lt_of_lt_of_le hm (Nat.min_le_left _ _)
      have h2 : i < items2.size := Nat.lt_of_lt_of_le hm (Nat.min_le_right _ _)
      rw [List.drop_eq_getElem_cons hlt] at hz
      injection hz with hyx hrest
      have hy : y = items[i] := by have := congrArg Prod.fst hyx; simpa using this
      have hx : x = items2[i] := by have := congrArg Prod.snd hyx; simpa using this
      subst hy hx
      have hd : (List.range (min items.size items2.size)).drop i = i :: (List.range (min items.size items2.size)).drop (i + 1) := by
        rw [List.drop_eq_getElem_cons (by simp; omega)]
        simp
      rw [hd] at hR
      unfold firstLt at hR
      refine wpAny_bind (he i h1 h2 prog w _ _ ?_)
      cases hy : e i with
      | true =>
        rw [hy] at hR
        wp_walk
        exact ⟨rfl, rfl, i + 1, hrest, by simpa using hR⟩
      | false =>
        rw [hy] at hR
        have hri := hlt' i h1 h2 prog w
        wp_walk using hri
        exact ⟨_, rfl, by simpa using hR⟩
    case fin =>
      rintro ⟨b1, b2⟩ s' ⟨hb', rfl, i, hz, hR⟩
      simp only at hb'
      subst hb'
      have hge : min items.size items2.size ≤ i := by
        rcases Nat.lt_or_ge i (items.toList.zip items2.toList).length with h' | h'
        · rw [List.drop_eq_getElem_cons h'] at hz; cases hz
        · exact hZ ▸ h'
      rw [List.drop_of_length_le (by simpa using hge)] at hR
      wp_walk
      exact ⟨_, rfl, by simpa [Builtin.Tuple.tupleCompareSizes, firstLt] using hR⟩
    case h =>
      exact ⟨rfl, rfl, 0, rfl, by simpa using h⟩
theorem LtAt.tuples {A : Around} {s : Shared} {l b : Addr} {items items2 : Array Value} {e lt : Nat → Bool} (hl : IsTup s.heap l items) (hb : IsTup s.heap b items2) (hu : A.units < cLine)
    (he : ∀ j (h1 : j < items.size) (h2 : j < items2.size), EqAt A.in1 s items[j] items2[j] (e j)) (hlt : ∀ j (h1 : j < items.size) (h2 : j < items2.size), LtAt A.in1 s items[j] items2[j] (lt j)) :
    LtAt A s (.ref l) (.ref b) (firstLt e lt (decide (items.size < items2.size)) (List.range (min items.size items2.size))) := fun prog w E Q h => by
  obtain ⟨⟨cls, dd, data, sl⟩, ho, hc, n, hd⟩ := id hl
  obtain ⟨⟨cls2, dd2, data2, sl2⟩, ho2, hc2, n2, hd2⟩ := id hb
  simp only at hc hd hc2 hd2
  subst hc hd hc2 hd2
  exact richCompare_meets_room (op := .Lt) ⟨_, ho, rfl⟩ ⟨_, ho2, rfl⟩ PySem.F.slot_tuple_lt PySem.F.entry_tuple_lt (PySem.F.args_tuple_lt_2 _ _) (tuple_ltAt l b items items2 n n2 dd dd2 sl sl2 e lt)
    ⟨ho, ho2, he, hlt, (fun x => nomatch x), h⟩ hu
/-- a key: an int, then a list of ints -/
def keyLt (a : Int) (ns : List Int) (b : Int) (ms : List Int) : Bool := if a = b then HT.lexLt ns ms else decide (a < b)
end Ob

set_option maxHeartbeats 4000000
namespace Ob
open PySem PySem.Spec PyProof.Rows L2
/-- the table of a code, with what stands in it for a place of the text -/
def TbS (P : Addr) (pos : Pos) (G : Option Addr) : Heap → Prop := fun h => ∃ ps : Array Value, h.get? P = some { cls := .none, data := .fields ps } ∧ TriplesOk ps.toList ∧ codeAmong pos ps.toList = G.map Value.ref
theorem TbS.stay {P : Addr} {pos : Pos} {G : Option Addr} {h h' : Heap} (x : TbS P pos G h) (k : ∀ o, h.get? P = some o → h'.get? P = some o) : TbS P pos G h' := let ⟨ps, a, b⟩ := x; ⟨ps, k _ a, b⟩
/-- a code of a lambda -/
def CodeL (c : Addr) (q : Str) : Heap → Prop := fun h => ∃ o vs t, h.get? c = some o ∧ o.data = .fields vs ∧ vs[1]? = some (.str q t)
theorem CodeL.stay {c : Addr} {q : Str} {h h' : Heap} (x : CodeL c q h) (k : ∀ o, h.get? c = some o → h'.get? c = some o) : CodeL c q h' := let ⟨o, vs, t, a, b⟩ := x; ⟨o, vs, t, k _ a, b⟩
def LamAt (P : Addr) (pos : Pos) (q : Str) (H : Hp) : Prop := ∃ G : Option Addr, H P = some (.ext (TbS P pos G)) ∧ ∀ c, G = some c → H c = some (.ext (CodeL c q)) ∧ c ≠ P
/-- all but the table stays -/
def SameX (P : Addr) (H H' : Hp) : Prop := ∀ b o, b ≠ P → H b = some o → H' b = some o
theorem SameX.refl (P : Addr) (H : Hp) : SameX P H H := fun _ _ _ e => e
theorem SameX.trans {P : Addr} {H H1 H2 : Hp} (a : SameX P H H1) (b : SameX P H1 H2) : SameX P H H2 := fun c o n e => b c o n (a c o n e)
theorem Same.x {H H' : Hp} (P : Addr) (s : Same H H') : SameX P H H' := fun b o _ e => s b o e
theorem LamAt.same {P : Addr} {pos : Pos} {q : Str} {H H' : Hp} (h : LamAt P pos q H) (s : Same H H') : LamAt P pos q H' := let ⟨G, a, b⟩ := h; ⟨G, s _ _ a, fun c e => ⟨s _ _ (b c e).1, (b c e).2⟩⟩
section
variable {X : Cx} {pins pins' : List (Addr × Obj)} {σ : L2.St} {H : Hp} {s : Shared} {h' : Heap}
/-- a record of ours has turned, or is a new one -/
theorem Inv.recd {it : Addr} {o' : Obj} {t' : Nat} (I : Inv X pins σ H s) (k : ∀ b u, b ≠ it → s.heap.get? b = some u → h'.get? b = some u) (hnew : h'.get? it = some o') (hn : H it = none) (hL : it ≠ X.env.locals) (hfs : it ∉ X.fs)
    (h1 : X.s_0.heap.objs.size ≤ it) (h2 : ∀ x c, X.env.cells.lookup x = some c → c ≠ it) (hd : ∀ v, o'.data ≠ .cell v) (hpn : ∀ p ∈ X.pn, p.1 ≠ it)
    (hp : ∀ p ∈ pins', p = (it, o') ∨ (p ∈ pins ∧ p.1 ≠ it)) : Inv X pins' σ H { s with heap := h', toks := t' } := by
  have I0 : Inv X [] σ H s := I.pins_of (fun p hp => nomatch hp)
  have J := I0.turned (t' := t') k hn hL (.inr h1) h2 (fun p hp => by rw [List.append_nil] at hp; exact hpn p hp)
  refine J.pins_of fun p hp' => ?_
  rcases hp p hp' with rfl | ⟨hm, ne⟩
  · exact ⟨hnew, hn, hL, hfs, hd⟩
  · obtain ⟨e, n, a, b, c⟩ := I.pin p (List.mem_append_right _ hm)
    exact ⟨k _ _ ne e, n, a, b, c⟩
/-- .. one that was pinned -/
theorem Inv.pinned {it : Addr} {o o' : Obj} {t' : Nat} (I : Inv X pins σ H s) (hm : (it, o) ∈ pins) (k : ∀ b u, b ≠ it → s.heap.get? b = some u → h'.get? b = some u) (hnew : h'.get? it = some o')
    (h1 : X.s_0.heap.objs.size ≤ it) (hd : ∀ v, o'.data ≠ .cell v) (hpn : ∀ p ∈ X.pn, p.1 ≠ it)
    (hp : ∀ p ∈ pins', p = (it, o') ∨ (p ∈ pins ∧ p.1 ≠ it)) : Inv X pins' σ H { s with heap := h', toks := t' } := by
  obtain ⟨e, n, a, b, c⟩ := I.pin _ (List.mem_append_right _ hm)
  refine Inv.recd I k hnew n a b h1 (fun x c' hc z => ?_) hd hpn hp
  obtain ⟨v, oc, hoc, hod⟩ := I.cell x c' hc
  rw [z] at hoc
  have e' : s.heap.get? it = some o := e
  rw [e'] at hoc
  cases hoc
  exact c v hod
end
section
variable {X : Cx} {pins : List (Addr × Obj)} {σ : L2.St} {H : Hp} {s : Shared} {c P : Addr} {pos : Pos} {params : Arguments} {body : Expr} {scope : Scope} {Q : Value → Shared → Prop} {E : Value → Shared → Prop} {q : Str}
theorem CodeB.hd {h : Heap} {c P : Addr} (x : CodeB h c P) : PySem.W.CodeHd h c P := by
  obtain ⟨⟨o, vs, file, tf, flags, tg, inF, text, tt, a, hc, r1, r2, r3, r4, r5, r6, r7⟩, ne⟩ := x
  exact ⟨o, vs, file, tf, flags, tg, inF, text, tt, a, hc, r1, r3, r2, r4, r5, r6, r7, ne⟩
end
end Ob

set_option maxHeartbeats 4000000
namespace Ob
open PySem PySem.Spec PyProof.Rows L2
/-- a longer list, or of those as long a lesser one -/
def kl (m n : List Int) : Bool := keyLt (-(m.length : Int)) m (-(n.length : Int)) n
section
variable {X : Cx} {pins : List (Addr × Obj)} {σ : L2.St} {H0 : Hp} {f l I S : Addr} {fo : Obj} {as : List Addr} {nss : List (List Int)} {R : Result → Shared → Prop}
end
section
variable {X : Cx} {P c : Addr} {x : Str} {iter : Expr} {ti : TE} {p0 p1 p2 p3 p4 p5 p6 pos pc : Pos} {scope : Scope} {params : Arguments} {q : Str} {kp : Pos} {kt : Nat}
end
end Ob

set_option maxHeartbeats 4000000
namespace Ob
open PySem PySem.Spec PyProof.Rows L2
/-- a dict by its entries -/
def RawD (h : Heap) (d : Addr) (es : Array DictEntry) (ep : Nat) : Prop := ∃ o, h.get? d = some o ∧ o.ExactDict ∧ o.data = .dict es ep
theorem RawD.at' {h h' : Heap} {d : Addr} {es : Array DictEntry} {ep : Nat} (x : RawD h d es ep) (e : ∀ o, h.get? d = some o → h'.get? d = some o) : RawD h' d es ep := let ⟨o, a, b⟩ := x; ⟨o, e o a, b⟩
theorem RawD.typeIs {s : Shared} {d : Addr} {es : Array DictEntry} {ep : Nat} (x : RawD s.heap d es ep) : s.TypeIs (.ref d) "dict" := let ⟨o, a, b, _⟩ := x; ⟨o, a, b.1⟩
section
variable {prog : Program} {w : World} {A : Around} {E : Value → Shared → Prop} {s : Shared}
end
end Ob

set_option maxHeartbeats 4000000
namespace Ob
open PySem PySem.Spec PyProof.Rows L2
section
variable {prog : Program} {w : World} {A : Around} {E : Value → Shared → Prop} {s : Shared}
end
section
variable {X : Cx}
end
end Ob

set_option maxHeartbeats 4000000
namespace Ob
open PySem PySem.Spec PyProof.Rows L2
/-- places as whole numbers -/
def pz (ps : List Nat) : List Int := ps.map fun (j : Nat) => (j : Int)
theorem pz_len (ps : List Nat) : (pz ps).length = ps.length := List.length_map ..
/-- rising places of so many -/
structure Ris (ps : List Nat) (n : Nat) : Prop where
  lt : ∀ j ∈ ps, j < n
  up : ∀ l, l + 1 < ps.length → ps.getD l 0 < ps.getD (l + 1) 0
  len : ps.length ≤ 12
theorem getD_at {ps : List Nat} {l : Nat} (h : l < ps.length) : ps[l]? = some (ps.getD l 0) := by
  rw [List.getD_eq_getElem?_getD, List.getElem?_eq_getElem h]
  rfl
theorem Ris.at {ps : List Nat} {n l : Nat} (h : Ris ps n) (hl : l < ps.length) : ps.getD l 0 < n := h.lt _ (List.mem_of_getElem? (getD_at hl))
/-- the line to the middle one goes no more up than the one from it -/
def okT (A : Nat → Int) (i j k : Nat) : Bool := decide ((A j - A i) * ((k : Int) - j) ≤ (A k - A j) * ((j : Int) - i))
/-- can they all stay -/
def okAt (A : Nat → Int) (ps : List Nat) (l : Nat) : Bool := okT A (ps.getD l 0) (ps.getD (l + 1) 0) (ps.getD (l + 2) 0)
def canB (A : Nat → Int) (ps : List Nat) : Bool := (List.range (ps.length - 2)).all (okAt A ps)
end Ob

set_option maxHeartbeats 4000000
namespace Ob
open PySem PySem.Spec PyProof.Rows L2
theorem kl_total {a b : List Int} (h1 : kl a b = false) (h2 : kl b a = false) : a = b := by
  have lex : ∀ a b : List Int, a.length = b.length → HT.lexLt a b = false → HT.lexLt b a = false → a = b := by
    intro a
    induction a with
    | nil => intro b hl _ _; cases b with | nil => rfl | cons _ _ => cases hl
    | cons x xs ih =>
      intro b hl h1 h2
      cases b with
      | nil => cases hl
      | cons y ys =>
        rw [HT.lexLt_cons] at h1 h2
        by_cases e : x = y
        · rw [if_pos e] at h1
          rw [if_pos e.symm] at h2
          rw [e, ih ys (by simpa using hl) h1 h2]
        · rw [if_neg e] at h1
          rw [if_neg (fun z => e z.symm)] at h2
          have := of_decide_eq_false h1
          have := of_decide_eq_false h2
          omega
  unfold kl keyLt at h1 h2
  by_cases e : -(a.length : Int) = -(b.length : Int)
  · rw [if_pos e] at h1
    rw [if_pos e.symm] at h2
    exact lex a b (by omega) h1 h2
  · rw [if_neg e] at h1
    rw [if_neg (fun z => e z.symm)] at h2
    have := of_decide_eq_false h1
    have := of_decide_eq_false h2
    omega
theorem pz_inj {a b : List Nat} (h : pz a = pz b) : a = b := by
  have hl : a.length = b.length := by have := congrArg List.length h; rw [pz_len, pz_len] at this; exact this
  apply List.ext_getElem hl
  intro j h1 h2
  have e : (pz a)[j]'(by rw [pz_len]; exact h1) = (pz b)[j]'(by rw [pz_len]; exact h2) := by simp only [h]
  unfold pz at e
  rw [List.getElem_map, List.getElem_map] at e
  omega
/-- it can stay -/
structure Good (A : Nat → Int) (n : Nat) (ps : List Nat) : Prop where
  ne : ps ≠ []
  ris : Ris ps n
  can : canB A ps = true
/-- .. the best of those that begin so -/
structure BestB (A : Nat → Int) (n i j : Nat) (ps : List Nat) : Prop where
  beg : ∃ r, ps = i :: j :: r
  good : Good A n ps
  most : ∀ r, Good A n (i :: j :: r) → kl (pz (i :: j :: r)) (pz ps) = false
structure BestL (A : Nat → Int) (n : Nat) (ps : List Nat) : Prop where
  good : Good A n ps
  most : ∀ qs, Good A n qs → kl (pz qs) (pz ps) = false
theorem BestL.uniq {A : Nat → Int} {n : Nat} {a b : List Nat} (h1 : BestL A n a) (h2 : BestL A n b) : a = b := pz_inj (kl_total (h2.most a h1.good) (h1.most b h2.good))
/-- the candidates of two places, the third ones below t looked at -/
structure Cands (A : Nat → Int) (n i j t : Nat) (pss : List (List Nat)) : Prop where
  all : ∀ ps ∈ pss, (∃ r, ps = i :: j :: r) ∧ Good A n ps
  two : [i, j] ∈ pss
  each : ∀ k, j < k → k < t → okT A i j k = true → ∃ qs, BestB A n j k qs ∧ (i :: qs) ∈ pss
/-! the law's lists -/
def al (n : Nat) : Nat → List (List Nat)
  | 0 => []
  | d + 1 => [[n - (d + 1)]] ++ (al n d).map (fun r => (n - (d + 1)) :: r) ++ al n d
/-- the law's longest, behind the first so many -/
structure LBest (A : Nat → Int) (n k : Nat) (ps : List Nat) : Prop where
  ok : ps = [] ∨ (ps ∈ (al n n).take k ∧ canB A ps = true)
  most : ∀ qs ∈ (al n n).take k, canB A qs = true → ps ≠ [] ∧ kl (pz qs) (pz ps) = false
end Ob
namespace Ob
open PySem PySem.Spec PyProof.Rows L2
theorem valV_mem {κ : Type} [DecidableEq κ] {kvs : List (κ × V)} {k : κ} {v : V} (h : valV kvs k = some v) : (k, v) ∈ kvs := by
  unfold valV at h
  cases e : kvs.find? (fun kv => decide (kv.1 = k)) with
  | none => rw [e] at h; cases h
  | some p =>
    rw [e] at h
    have e1 := List.mem_of_find?_eq_some e
    have e2 := List.find?_some e
    have e3 : p.1 = k := of_decide_eq_true e2
    have e4 : p.2 = v := Option.some.inj h
    rw [← e3, ← e4]
    exact e1
abbrev key2 (i j : Nat) : List Key := [Sum.inl (i : Int), Sum.inl (j : Int)]
/-- the dict of the best lists, by their first two places -/
structure DInv (A : Nat → Int) (n : Nat) (Done : Nat → Nat → Prop) (kvs : List (List Key × V)) (H : Hp) : Prop where
  all : ∀ e ∈ kvs, ∃ (i j : Nat) (p : Addr) (ps : List Nat), i < j ∧ j < n ∧ Done i j ∧ e = (key2 i j, V.ref p) ∧ H p = some (.lst ((pz ps).map V.int)) ∧ BestB A n i j ps
  has : ∀ i j, i < j → j < n → Done i j → ∃ v, (key2 i j, v) ∈ kvs
theorem key2_inj {i j i' j' : Nat} (h : key2 i j = key2 i' j') : i = i' ∧ j = j' := by
  unfold key2 at h
  injection h with h1 h2
  injection h2 with h3 _
  injection h1 with h4
  injection h3 with h5
  omega
theorem DInv.get {A : Nat → Int} {n : Nat} {Done : Nat → Nat → Prop} {kvs : List (List Key × V)} {H : Hp} (h : DInv A n Done kvs H) {i j : Nat} (h1 : i < j) (h2 : j < n) (d : Done i j) :
    ∃ p ps, valV kvs (key2 i j) = some (.ref p) ∧ H p = some (.lst ((pz ps).map V.int)) ∧ BestB A n i j ps := by
  obtain ⟨v, hv⟩ := h.has i j h1 h2 d
  cases e : valV kvs (key2 i j) with
  | none => exact absurd (List.mem_map.mpr ⟨_, hv, rfl⟩) (valV_not e)
  | some v' =>
    obtain ⟨i', j', p, ps, _, _, _, e1, e2, e3⟩ := h.all _ (valV_mem e)
    injection e1 with e4 e5
    obtain ⟨rfl, rfl⟩ := key2_inj e4
    exact ⟨p, ps, by rw [e5], e2, e3⟩
theorem DInv.same {A : Nat → Int} {n : Nat} {Done : Nat → Nat → Prop} {kvs : List (List Key × V)} {H H' : Hp} (h : DInv A n Done kvs H) (k : ∀ b xs, H b = some (.lst xs) → H' b = some (.lst xs)) : DInv A n Done kvs H' :=
  ⟨fun e he => let ⟨i, j, p, ps, a, b, c, d, e1, f⟩ := h.all e he; ⟨i, j, p, ps, a, b, c, d, k _ _ e1, f⟩, h.has⟩
theorem DInv.put {A : Nat → Int} {n : Nat} {Done Done' : Nat → Nat → Prop} {kvs : List (List Key × V)} {H : Hp} (h : DInv A n Done kvs H) {i j : Nat} {p : Addr} {ps : List Nat} (h1 : i < j) (h2 : j < n) (nd : ¬ Done i j) (e : H p = some (.lst ((pz ps).map V.int))) (b : BestB A n i j ps)
    (hd : ∀ i' j', Done' i' j' ↔ (Done i' j' ∨ (i' = i ∧ j' = j))) : DInv A n Done' (putK kvs (key2 i j) (.ref p)) H ∧ (putK kvs (key2 i j) (.ref p)).length = kvs.length + 1 := by
  have no : valV kvs (key2 i j) = none := by
    cases q : valV kvs (key2 i j) with
    | none => rfl
    | some v =>
      obtain ⟨i', j', p', ps', _, _, d, e1, _⟩ := h.all _ (valV_mem q)
      injection e1 with e4 e5
      obtain ⟨rfl, rfl⟩ := key2_inj e4
      exact absurd d nd
  rw [putK_new _ no]
  refine ⟨⟨fun x hx => ?_, fun i' j' a b' d => ?_⟩, by rw [List.length_append]; rfl⟩
  · rcases List.mem_append.mp hx with hx | hx
    · obtain ⟨i', j', p', ps', a, b', c, r⟩ := h.all x hx
      exact ⟨i', j', p', ps', a, b', (hd _ _).mpr (.inl c), r⟩
    · rw [List.mem_singleton.mp hx]
      exact ⟨i, j, p, ps, h1, h2, (hd _ _).mpr (.inr ⟨rfl, rfl⟩), rfl, e, b⟩
  · rcases (hd _ _).mp d with d | ⟨rfl, rfl⟩
    · obtain ⟨v, hv⟩ := h.has i' j' a b' d
      exact ⟨v, List.mem_append_left _ hv⟩
    · exact ⟨_, List.mem_append_right _ (List.mem_singleton.mpr rfl)⟩
/-- lists of places at addresses -/
def PlsAt (H : Hp) (as : List Addr) (pss : List (List Nat)) : Prop := as.length = pss.length ∧ ∀ (i : Nat) p ps, as[i]? = some p → pss[i]? = some ps → H p = some (.lst ((pz ps).map V.int))
theorem PlsAt.same {H H' : Hp} {as : List Addr} {pss : List (List Nat)} (h : PlsAt H as pss) (k : ∀ b xs, b ∈ as → H b = some (.lst xs) → H' b = some (.lst xs)) : PlsAt H' as pss :=
  ⟨h.1, fun i p ps e1 e2 => k _ _ (List.mem_of_getElem? e1) (h.2 i p ps e1 e2)⟩
theorem PlsAt.snoc {H : Hp} {as : List Addr} {pss : List (List Nat)} {p : Addr} {ps : List Nat} (h : PlsAt H as pss) (e : H p = some (.lst ((pz ps).map V.int))) : PlsAt H (as ++ [p]) (pss ++ [ps]) := by
  refine ⟨by rw [List.length_append, List.length_append, h.1]; rfl, fun i q qs e1 e2 => ?_⟩
  by_cases hi : i < as.length
  · rw [List.getElem?_append_left hi] at e1
    rw [List.getElem?_append_left (by rw [← h.1]; exact hi)] at e2
    exact h.2 i q qs e1 e2
  · rw [List.getElem?_append_right (by omega)] at e1
    rw [List.getElem?_append_right (by have := h.1; omega)] at e2
    have hi0 : i - as.length = 0 := by
      have := (List.getElem?_eq_some_iff.mp e1).1
      simp at this
      omega
    rw [hi0] at e1
    have hi1 : i - pss.length = 0 := by have := h.1; omega
    rw [hi1] at e2
    cases e1
    cases e2
    exact e
end Ob

set_option maxHeartbeats 4000000
namespace Ob
open PySem PySem.Spec PyProof.Rows L2
end Ob

set_option maxHeartbeats 4000000
namespace L2
open PySem PySem.Spec PyProof.Rows
section
variable {prog : Program} {w : World} {A : Around} {E : Value → Shared → Prop} {s : Shared}
end
theorem vals_rev : ∀ {xs : List V} {us : List Value}, Vals xs us → Vals xs.reverse us.reverse
  | _, _, .nil => .nil
  | _, _, .cons r t => by rw [List.reverse_cons, List.reverse_cons]; exact Vals.append (vals_rev t) (.cons r .nil)
section
variable {X : Cx}
end
end L2

set_option maxHeartbeats 4000000
namespace L2
open PySem PySem.Spec PyProof.Rows
section
variable {X : Cx} {pins : List (Addr × Obj)} {σ : St} {H : Hp} {s : Shared} {a : Addr} {y v : V} {u r : Value} {A : Around} {E : Value → Shared → Prop}
/-- a pair is put into a dict, as a display does it -/
theorem d_dictSet {H' : Hp} {Q : Unit → Shared → Prop} (hu : A.units + 1 < cLine) (I : Inv X pins σ H s) (g : DPut H a y v H') (ry : RelV y u) (rv : RelV v r) (h : ∀ s', Inv X pins σ H' s' → Q () s') :
    wpAny (model X.prog X.w) A (dictSet a u r) Q E s := by
  rcases g with ⟨kvs, k, e, ey, l, eH⟩ | ⟨kvs, k, b, e, ey, eb, l, eH⟩
  · subst ey eH
    obtain ⟨z, hd, vs, rel, dd⟩ := dk_of I.hok e
    have hz : vs.length ≤ sizeLine := by rw [← rel.length]; exact z
    have hl : (putK kvs k v).length ≤ sizeLine := by have := length_putK kvs k v; omega
    refine wpAny_dictSet_pairs (hsz := hz) (kV_is ry) dd fun h' dd' hs => h _ ?_
    have he : ∃ q, h'.get? a = some q := let ⟨q, _, _, hq, _⟩ := dd'; ⟨q, hq⟩
    exact d_write I (by rw [e]; exact True.intro) hs he (dk_new hl hd (rel.put k rv) dd')
  · subst ey eH
    cases (show u = Value.ref b from ry)
    obtain ⟨z, hd, xs, rel, dd⟩ := dt_of I.hok e
    have hz : xs.length ≤ sizeLine := by rw [← Paired.length rel]; exact z
    have hl : (putK kvs k v).length ≤ sizeLine := by have := length_putK kvs k v; omega
    refine wpAny_dictSet_heap (hsz := hz) (Nat.lt_of_succ_lt hu) (key_of I.hok eb) dd fun h' dd' hs => h _ ?_
    obtain ⟨q, es, ep, hq, h2, h3, h4, _, h5⟩ := dd'
    refine d_write I (by rw [e]; exact True.intro) hs ⟨q, hq⟩ ⟨hl, hd, _, (rel.put k eb rv).keeps fun c ys ec => ?_, q, es, ep, hq, h2, h3, h4, h5⟩
    rw [upd_ne (ne_of ec e (fun z => nomatch z))]
    exact ec
end
/-- the loop of a dict comprehension's block, the target of any form -/
theorem compLoopD_any {prog : Program} {w : World} {A : Around} {R : Result → Shared → Prop} {s : Shared} {kx vx target iter : Expr} {ifs : List Expr} {scope : Scope} {pos : Pos} {it : Value} {D : Addr} {env : Env} (I : Nat → Shared → Prop)
    (turn : ∀ n s, I n s → wpAny (model prog w) A (pyNext it) (fun r s₁ => match r with
      | none => R (.ok .next) s₁
      | some v => wpAny (model prog w) A (letOwnedTupleGo target it v) (fun _ s₁' => wpAny (model prog w) A (assign target env v) (fun _ s₂ =>
          wpAny (model prog w) A (forIn ifs true fun c r => if r = true then do let ok ← isTrue c env (eval c env); pure (ForInStep.yield ok) else pure (ForInStep.yield r)) (fun ok s₃ =>
            if ok = true then wpAny (model prog w) A (eval kx env) (fun kv s₄ => wpAny (model prog w) A (eval vx env) (fun vv s₅ =>
              wpAny (model prog w) A (dictSet D kv vv) (fun _ s₆ => ∃ m, m < n ∧ I m s₆) (notedBy (model prog w) A env fun e s' => R (.error e) s') s₅) (notedBy (model prog w) A env fun e s' => R (.error e) s') s₄) (notedBy (model prog w) A env fun e s' => R (.error e) s') s₃
            else ∃ m, m < n ∧ I m s₃) (notedBy (model prog w) A env fun e s' => R (.error e) s') s₂) (notedBy (model prog w) A env fun e s' => R (.error e) s') s₁') (notedBy (model prog w) A env fun e s' => R (.error e) s') s₁) (notedBy (model prog w) A env fun e s' => R (.error e) s') s)
    (n : Nat) (h : I n s) :
    codeAny (model prog w) A (.compLoop (.DictComp kx vx [⟨target, iter, ifs, 0⟩] scope pos) 0 it (.ref D) env) R s := by
  refine codeAny_loop rfl I (fun n s hI => ?_) n h
  show wpAny _ A ((compTurn (.DictComp kx vx [⟨target, iter, ifs, 0⟩] scope pos) 0 it (.ref D) env).onRaise (fun x => do noteFrame x env; theTreesLotGoes x)) _ _ s
  refine wpAny_noted ?_
  rw [compTurn_dict]
  refine wpAny_bind (wpAny_standAt (wpAny_bind (wpAny_mono (turn n s hI) (fun r s₁ h₁ => ?_) fun _ _ h' => h')))
  cases r with
  | none => exact wpAny_pure h₁
  | some v =>
    refine wpAny_bind (wpAny_mono h₁ (fun _ s₁' h₁' => ?_) fun _ _ h' => h')
    refine wpAny_bind (wpAny_mono h₁' (fun _ s₂ h₂ => wpAny_bind (wpAny_mono h₂ (fun ok s₃ h₃ => ?_) fun _ _ h' => h')) fun _ _ h' => h')
    cases ok with
    | false => exact wpAny_pure ⟨rfl, h₃⟩
    | true =>
      exact wpAny_bind (wpAny_bind (wpAny_mono h₃ (fun kv s₄ h₄ => wpAny_bind (wpAny_holding (wpAny_mono h₄ (fun vv s₅ h₅ => wpAny_bind (wpAny_standAt (wpAny_holding (wpAny_mono h₅ (fun _ s₆ h₆ => wpAny_pure ⟨rfl, h₆⟩) fun _ _ h' => h')))) fun _ _ h' => h'))) fun _ _ h' => h'))
section
variable {X : Cx}
/-- {k: v for target in iter if ..}: D the new dict -/
def tDc (wi : TI) (g : TG) (tt : TT) (tk tv : TE) (vs : List Nat) : TE := fun σ H Q => wi σ H fun J H1 => ∀ D, H1 D = none → ∃ W : Nat → Nat → Hp → Prop, (∃ m, W 0 m (upd H1 D (.dT []))) ∧ ∀ i m H, W i m H →
  (J.stop i H ∧ Q (.ref D) H) ∨ (J.go i H ∧ ∃ Nx : Hp → Prop, (∀ H', Nx H' → ∃ m', m' < m ∧ W (i + 1) m' H') ∧ ∀ x H', J.yld i H x H' → g x (wipe σ vs) H' fun σ2 H2 => wipe σ2 vs = wipe σ vs ∧ tt σ2 H2 fun b H3 =>
    if b = true then tk σ2 H3 fun k H4 => tv σ2 H4 fun y H5 => ∃ H6, DPut H5 D k y H6 ∧ Nx H6 else Nx H3)
theorem dc_core {pins : List (Addr × Obj)} {s : Shared} {σ : St} {H : Hp} {Q : VK} {kx vx tg iter : Expr} {ifs : List Expr} {scope : Scope} {own : List (Str × Nat)} {pos pos' : Pos} {wi : TI} {g : TG} {tt : TT} {tk tv : TE} {use : Option (Value → Sem Unit)} {Qf : Value → Shared → Prop}
    (hc : X.calm = true) (hN : X.N.Nodup) (I : Inv X pins σ H s) (hi : PI X tg iter wi) (ok : BlkOk X.N X.env.scope scope own)
    (hg : ∀ (s : Shared) (H : Hp) (C : Addr) (cl : List (Str × Addr)) (fp : List Addr), PG (X.blk s H scope (compEnvC scope cl C X.env) fp) tg g) (ht : ∀ (s : Shared) (H : Hp) (C : Addr) (cl : List (Str × Addr)) (fp : List Addr), PTs (X.blk s H scope (compEnvC scope cl C X.env) fp) ifs tt)
    (he : ∀ (s : Shared) (H : Hp) (C : Addr) (cl : List (Str × Addr)) (fp : List Addr), PE (X.blk s H scope (compEnvC scope cl C X.env) fp) kx tk) (he2 : ∀ (s : Shared) (H : Hp) (C : Addr) (cl : List (Str × Addr)) (fp : List Addr), PE (X.blk s H scope (compEnvC scope cl C X.env) fp) vx tv) (hun : X.A.units + 1 < cLine) (hs : ∀ x, foldedSetIterable iter X.env x = pure x)
    (h : tDc wi g tt tk tv (own.map (·.2)) σ H Q)
    (hRR : ∀ D C s' m H', Inv X pins σ H' s' → Q (.ref D) H' → s'.heap.Ns C m → FpOk X pins H' C → compPost (model X.prog X.w) X.A X.xe use Qf (.ref D) C (.ok .next) s') :
    wpAny (model X.prog X.w) X.A (comprehension (.DictComp kx vx [⟨tg, iter, ifs, 0⟩] scope pos) scope X.env pos' newDict false (eval iter X.env) use) Qf X.xe s := by
  have hfree : ∀ y ∈ scope.names, y.2 = .free → ∃ c, X.env.cells.lookup y.1 = some c := fun y hy e => by
    rcases ok.free y hy e with k | k
    · exact I.ok.has _ (.inl k)
    · exact I.ok.has _ (.inr k)
  refine wpAny_comprehension_free (use := use) rfl hs (closure_ok hfree) ok.kind (fun y hy e => by rw [ok.uniq y hy, e])
    (thn (hi pins s σ H _ I h) fun xv s1 hx => thn hx fun itv s2 h2 => ?_)
  obtain ⟨it, fp, tn, J, H2, e, I2, T, st2, f2, q⟩ := h2
  subst e
  refine wpAny_newObj_type (newEnv_comp ?_)
  generalize hD : s2.heap.objs.size = D
  have hDn : H2 D = none := I2.hok.fresh (Nat.le_of_eq hD)
  obtain ⟨W, ⟨m0, w0⟩, turn⟩ := q D hDn
  -- the new list
  generalize hs3 : ({ s2 with heap := s2.heap.push { cls := .type "dict", dict := none, data := .dict #[] } } : Shared) = s3
  have I3 : Inv X pins σ (upd H2 D (.dT [])) s3 := by
    rw [← hs3]
    refine I2.laid (t' := s2.toks) (fun b o e => Heap.get?_push_of_some _ e) (Nat.le_of_eq hD) (by rw [← hD]; exact dt_empty s2.heap I2.big)
  have h3 : s3.heap = s2.heap.push { cls := .type "dict", dict := none, data := .dict #[] } := by rw [← hs3]
  have sz : ∀ b ∈ fp, b < s2.heap.objs.size := fun b hb => by
    obtain ⟨o, e, _⟩ := T.obj _ _ st2 b hb
    exact Heap.lt_size e
  have f3 : ∀ b ∈ fp, FpOk X pins (upd H2 D (.dT [])) b ∧ b < s3.heap.objs.size := fun b hb => by
    have hlt := sz b hb
    refine ⟨⟨?_, (f2 b hb).2⟩, by rw [h3, Heap.size_push]; exact Nat.lt_succ_of_lt hlt⟩
    rw [upd_ne (by rw [← hD]; exact Nat.ne_of_lt hlt)]
    exact (f2 b hb).1
  have st3 : tn 0 s3.heap := T.keep _ _ _ st2 fun b _ o e => by rw [h3]; exact Heap.get?_push_of_some _ e
  have I4 := block_start I3 ok hN f3
  have pg := hg s3 (upd H2 D (.dT [])) s3.heap.objs.size (cellsFrom (s3.heap.objs.size + 1) scope.names (cloFrom X.env.cells scope.names [])) fp
  have pt := ht s3 (upd H2 D (.dT [])) s3.heap.objs.size (cellsFrom (s3.heap.objs.size + 1) scope.names (cloFrom X.env.cells scope.names [])) fp
  have pe2 := he2 s3 (upd H2 D (.dT [])) s3.heap.objs.size (cellsFrom (s3.heap.objs.size + 1) scope.names (cloFrom X.env.cells scope.names [])) fp
  have pe := he s3 (upd H2 D (.dT [])) s3.heap.objs.size (cellsFrom (s3.heap.objs.size + 1) scope.names (cloFrom X.env.cells scope.names [])) fp
  show codeAny _ _ (.compStart (.DictComp kx vx [⟨tg, iter, ifs, 0⟩] scope pos) 0 (.ref it) (.ref D) (compEnvC scope (cellsFrom (s3.heap.objs.size + 1) scope.names (cloFrom X.env.cells scope.names [])) s3.heap.objs.size X.env)) (compPost (model X.prog X.w) X.A X.xe use Qf (.ref D) s3.heap.objs.size) { s3 with heap := pushCells (s3.heap.push { cls := .type "dict", data := .dict #[] }) scope.names }
  have nfp : ∀ b ∈ fp, (upd H2 D (.dT [])) b = none := fun b hb => (f3 b hb).1.1
  generalize hce : compEnvC scope (cellsFrom (s3.heap.objs.size + 1) scope.names (cloFrom X.env.cells scope.names [])) s3.heap.objs.size X.env = ce at I4 pg pt pe pe2 ⊢
  have cL : ce.locals = s3.heap.objs.size := by subst hce; rfl
  generalize hH3 : upd H2 D (.dT []) = H3 at I3 I4 pg pt pe pe2 w0 nfp f3
  generalize hs4 : ({ s3 with heap := pushCells (s3.heap.push { cls := .type "dict", data := .dict #[] }) scope.names } : Shared) = s4 at I4 ⊢
  have st4 : tn 0 s4.heap := T.keep _ _ _ st3 fun b _ o e => by rw [← hs4]; exact pushCells_keeps _ _ _ _ (Heap.get?_push_of_some _ e)
  have stat : ∀ {σ' : St} {H' : Hp} {s' : Shared}, Inv (X.blk s3 H3 scope ce fp) [] σ' H' s' → (∀ b ∈ fp, H' b = none) → ∀ b ∈ fp, FpOk (X.blk s3 H3 scope ce fp) [] H' b := fun {σ' H' s'} I' hn b hb =>
    ⟨hn b hb, (I'.ok.exf b hb).1, I'.ok.exfs b hb, .inl hb, fun x c e => (I'.ok.exf b hb).2 x c e, fun p hp => absurd (show p ∈ ([] : List (Addr × Obj)) ++ [] from hp) (by simp)⟩
  have loop : codeAny (model X.prog X.w) X.A (.compLoop (.DictComp kx vx [⟨tg, iter, ifs, 0⟩] scope pos) 0 (.ref it) (.ref D) ce) (compPost (model X.prog X.w) X.A X.xe use Qf (.ref D) s3.heap.objs.size) s4 := by
    refine compLoopD_any (fun n s' => ∃ i H', Inv (X.blk s3 H3 scope ce fp) [] (wipe σ (own.map (·.2))) H' s' ∧ tn i s'.heap ∧ (∀ b ∈ fp, H' b = none) ∧ W i n H') ?_ m0 ⟨0, H3, I4, st4, nfp, w0⟩
    rintro n s5 ⟨i, H5, I5, st5, n5, w5⟩
    rcases turn i n H5 w5 with ⟨stop, qq⟩ | ⟨go, Nx, hNx, step⟩
    · have td := T.done (X.blk s3 H3 scope ce fp) rfl rfl rfl hc i [] s5 _ H5 (fun _ _ => False) I5 (stat I5 n5) st5 stop
      refine thnF td fun r s6 ⟨hr, I6⟩ => ?_
      subst hr
      -- back in the def's context
      have I7 : Inv X pins σ H5 s6 := I3.call' (ch := fp) I6.os I6.base I6.hok (Bare2.trans I3.bare I6.bare) fun b hb => ⟨(f3 b hb).1.2.2.2.1, (f3 b hb).1.2.1, (f3 b hb).1.2.2.2.2.1, (f3 b hb).1.2.2.2.2.2⟩
      have nC : H5 s3.heap.objs.size = none := by
        have z : H5 ce.locals = none := I6.free
        rw [cL] at z
        exact z
      obtain ⟨m, hn, _⟩ := I6.loc
      have hn : s6.heap.Ns ce.locals m := hn
      rw [cL] at hn
      exact hRR D s3.heap.objs.size s6 m H5 I7 qq hn (I3.fpOk (Nat.le_refl _) nC)
    · have ti := T.item (X.blk s3 H3 scope ce fp) rfl rfl rfl hc i [] s5 _ H5 (fun _ _ => False) I5 (stat I5 n5) st5 go
      refine thnF ti fun r s6 ⟨u, hr, h6⟩ => ?_
      subst hr
      refine thnF h6 fun _ s7 ⟨x, H7, I7, r7, y7, st7, n7⟩ => ?_
      have I7' := I7.pinned (stat I7 n7) (T.obj _ _ st7)
      refine thnF (pg _ s7 _ H7 x u _ I7' r7 (step x H7 y7)) fun _ s8 ⟨σ8, H8, I8, hw8, q8⟩ => ?_
      refine thnF (pt _ s8 σ8 H8 _ I8 q8) fun b s9 ⟨H9, I9, q9⟩ => ?_
      -- the turn's end
      have fin : ∀ {s' : Shared} {H' : Hp}, Inv (X.blk s3 H3 scope ce fp) ([] ++ pinsAt fp s7.heap) σ8 H' s' → Nx H' → ∃ m, m < n ∧ ∃ i H', Inv (X.blk s3 H3 scope ce fp) [] (wipe σ (own.map (·.2))) H' s' ∧ tn i s'.heap ∧ (∀ b ∈ fp, H' b = none) ∧ W i m H' := fun {s' H'} I' nx => by
        obtain ⟨m', hm, w'⟩ := hNx H' nx
        have pin' : ∀ b ∈ fp, ∀ o, s7.heap.get? b = some o → s'.heap.get? b = some o ∧ H' b = none := fun b hb o e =>
          let z := I'.pin (b, o) (List.mem_append_right _ (List.mem_append_right _ (mem_pinsAt hb e)))
          ⟨z.1, z.2.1⟩
        have hl : (wipe σ (own.map (·.2))).length = σ8.length := by rw [← hw8, wipe_length]
        refine ⟨m', hm, i + 1, H', (I'.unpinned (pins := [])).weak hl (fun j v e => ?_), T.keep _ _ _ st7 fun b hb o e => (pin' b hb o e).1, fun b hb => ?_, w'⟩
        · rw [← hw8] at e
          exact (wipe_some e).1
        · obtain ⟨o, e, _⟩ := T.obj _ _ st7 b hb
          exact (pin' b hb o e).2
      cases b with
      | false =>
        simp only [Bool.false_eq_true, if_false] at q9 ⊢
        exact fin I9 q9
      | true =>
        simp only [if_true] at q9 ⊢
        refine thnF (pe _ s9 σ8 H9 _ I9 q9) fun z s10 ⟨kv, H10, I10, r10, q10⟩ => ?_
        refine thnF (pe2 _ s10 σ8 H10 _ I10 q10) fun z2 s11 ⟨yv, H11, I11, r11, H12, dp, nx⟩ => ?_
        exact d_dictSet (X := X.blk s3 H3 scope ce fp) hun I11 dp r10 r11 fun s12 I12 => fin I12 nx
  exact codeAny_compStart_dict loop (T.self X.A 0 _ _ _ st4 loop)
theorem pe_dc {kx vx tg iter : Expr} {ifs : List Expr} {scope : Scope} {own : List (Str × Nat)} {pos : Pos} {wi : TI} {g : TG} {tt : TT} {tk tv : TE} (hc : X.calm = true) (hN : X.N.Nodup) (hi : PI X tg iter wi) (ok : BlkOk X.N X.env.scope scope own)
    (hg : ∀ (s : Shared) (H : Hp) (C : Addr) (cl : List (Str × Addr)) (fp : List Addr), PG (X.blk s H scope (compEnvC scope cl C X.env) fp) tg g) (ht : ∀ (s : Shared) (H : Hp) (C : Addr) (cl : List (Str × Addr)) (fp : List Addr), PTs (X.blk s H scope (compEnvC scope cl C X.env) fp) ifs tt)
    (he : ∀ (s : Shared) (H : Hp) (C : Addr) (cl : List (Str × Addr)) (fp : List Addr), PE (X.blk s H scope (compEnvC scope cl C X.env) fp) kx tk) (he2 : ∀ (s : Shared) (H : Hp) (C : Addr) (cl : List (Str × Addr)) (fp : List Addr), PE (X.blk s H scope (compEnvC scope cl C X.env) fp) vx tv) (hun : X.A.units + 1 < cLine) (hs : ∀ x, foldedSetIterable iter X.env x = pure x := by intro _; rfl) :
    PE X (.DictComp kx vx [⟨tg, iter, ifs, 0⟩] scope pos) (tDc wi g tt tk tv (own.map (·.2))) := by
  intro pins s σ H Q I h
  rw [arm_eval_DictComp]
  refine dc_core hc hN I hi ok hg ht he he2 hun hs h fun D C s' m H' I' q hn f => ⟨m, hn, fun h'' sb => ?_⟩
  obtain ⟨f0, f1, f2, f3, f4, f5⟩ := f
  exact ⟨.ref D, H', I'.turned (t' := s'.toks) (fun b o hb e => (sb.2 b hb).trans e) f0 f1 f3 f4 f5, rfl, q⟩
end
end L2

set_option maxHeartbeats 4000000
namespace Ob
open PySem PySem.Spec PyProof.Rows L2
/-! what stands in the heap, as data, the empty dict too -/
mutual
inductive Dq (H : Hp) : V → PyData → Prop
  | non : Dq H .non .none
  | bl (b : Bool) : Dq H (.bl b) (.bool b)
  | int (i : Int) : Dq H (.int i) (.int i)
  | str (x : Str) : Dq H (.str x) (.str x)
  | lst {a : Addr} {xs : List V} {ds : List PyData} : H a = some (.lst xs) → DqAll H xs ds → Dq H (.ref a) (.list ds)
  | tup {a : Addr} {xs : List V} {ds : List PyData} : H a = some (.tup xs) → DqAll H xs ds → Dq H (.ref a) (.tuple ds)
  | dic {a : Addr} : H a = some (.dK []) → Dq H (.ref a) (.dict [])
inductive DqAll (H : Hp) : List V → List PyData → Prop
  | nil : DqAll H [] []
  | cons {v : V} {vs : List V} {d : PyData} {ds : List PyData} : Dq H v d → DqAll H vs ds → DqAll H (v :: vs) (d :: ds)
end
mutual
theorem Dq.same {H H' : Hp} (s : Same H H') : ∀ (d : PyData) (v : V), Dq H v d → Dq H' v d
  | .none, _, h => by cases h; exact .non
  | .bool b, _, h => by cases h; exact .bl b
  | .int i, _, h => by cases h; exact .int i
  | .str x, _, h => by cases h; exact .str x
  | .list ds, _, h => by
    cases h with
    | lst e a => exact .lst (s _ _ e) (DqAll.same s ds _ a)
  | .tuple ds, _, h => by
    cases h with
    | tup e a => exact .tup (s _ _ e) (DqAll.same s ds _ a)
  | .dict _, _, h => by
    cases h with
    | dic e => exact .dic (s _ _ e)
theorem DqAll.same {H H' : Hp} (s : Same H H') : ∀ (ds : List PyData) (vs : List V), DqAll H vs ds → DqAll H' vs ds
  | [], _, h => by cases h; exact .nil
  | d :: ds, _, h => by
    cases h with
    | cons a b => exact .cons (Dq.same s d _ a) (DqAll.same s ds _ b)
end
section
variable {X : Cx} {pins : List (Addr × Obj)} {σ : L2.St} {H : Hp} {s : Shared}
theorem not_sys (I : Inv X pins σ H s) (hS : ∃ o, X.base.get? sysModules = some o) {a : Addr} {o : HO} (e : H a = some o) : a ≠ sysModules := fun z => by
  obtain ⟨ob, hob⟩ := hS
  have := (I.bs _ _ hob).2
  rw [z, this] at e
  cases e
mutual
theorem Dq.reads (I : Inv X pins σ H s) (hS : ∃ o, X.base.get? sysModules = some o) : ∀ (d : PyData) (v : V) (u : Value), Dq H v d → RelV v u → ∃ as, Reads s.heap u d as ∧ sysModules ∉ as
  | .none, _, _, h, r => by
    cases h
    cases r
    exact ⟨_, Reads.none, List.not_mem_nil⟩
  | .bool b, _, _, h, r => by
    cases h
    cases r
    exact ⟨_, Reads.bool b, List.not_mem_nil⟩
  | .int i, _, _, h, r => by
    cases h
    obtain ⟨t, rfl⟩ := r
    exact ⟨_, Reads.int i t, List.not_mem_nil⟩
  | .str x, _, _, h, r => by
    cases h
    obtain ⟨t, rfl⟩ := r
    exact ⟨_, Reads.str x t, List.not_mem_nil⟩
  | .list ds, _, _, h, r => by
    cases h with
    | lst hs ha =>
      cases r
      obtain ⟨its, rv, ⟨o, n, ho, hc, _, hd⟩, _⟩ := I.list (SqL.of hs)
      obtain ⟨as, hr, hn⟩ := DqAll.reads I hS ds _ its ha rv
      exact ⟨_, Reads.list ho hc hd hr, fun z => by
        rcases List.mem_cons.mp z with z | z
        · exact not_sys I hS hs z.symm
        · exact hn z⟩
  | .tuple ds, _, _, h, r => by
    cases h with
    | tup hs ha =>
      cases r
      obtain ⟨its, rv, ⟨o, ho, hc, n, hd⟩, _⟩ := I.tuple (SqT.of hs)
      obtain ⟨as, hr, hn⟩ := DqAll.reads I hS ds _ its ha rv
      exact ⟨_, Reads.tuple ho hc hd hr, hn⟩
  | .dict _, _, _, h, r => by
    cases h with
    | dic hs =>
      cases r
      obtain ⟨_, _, vs, kv, m⟩ := dk_of I.hok hs
      cases kv
      obtain ⟨o, es, ep, e, hc, hd, _, pr, _⟩ := m
      have hsz : es.toList = [] := by
        generalize es.toList = l at pr
        cases pr
        rfl
      refine ⟨_, Reads.dict e hc.1 hd (as := []) (bs := []) ?_ ?_, fun z => ?_⟩
      · rw [hsz]; exact .nil
      · rw [hsz]; exact .nil
      · rcases List.mem_cons.mp z with z | z
        · exact not_sys I hS hs z.symm
        · cases z
theorem DqAll.reads (I : Inv X pins σ H s) (hS : ∃ o, X.base.get? sysModules = some o) : ∀ (ds : List PyData) (vs : List V) (us : List Value), DqAll H vs ds → Vals vs us → ∃ as, ReadsAll s.heap us ds as ∧ sysModules ∉ as
  | [], _, _, h, r => by
    cases h
    cases r
    exact ⟨_, ReadsAll.nil, List.not_mem_nil⟩
  | d :: ds, _, _, h, r => by
    cases h with
    | cons h1 h2 =>
      cases r with
      | cons r1 r2 =>
        obtain ⟨as, q1, n1⟩ := Dq.reads I hS d _ _ h1 r1
        obtain ⟨bs, q2, n2⟩ := DqAll.reads I hS ds _ _ h2 r2
        exact ⟨_, ReadsAll.cons q1 q2, fun z => (List.mem_append.mp z).elim n1 n2⟩
end
/-- repr of data: not too deep, not too long -/
structure Showy (d : PyData) : Prop where
  may : d.showable = true
  low : d.depth ≤ 60
  fits : d.shown.length ≤ sizeLine
def rRepr : List V → Hp → VK → Prop := fun vs H Q => ∃ (v : V) (d : PyData), vs = [v] ∧ Dq H v d ∧ Showy d ∧ Q (.str d.shown) H
theorem call_repr (hS : ∃ o, X.base.get? sysModules = some o) (hg : X.A.guards = some []) (hu : X.A.units + 64 < cLine) : CallR X (.builtin "repr") rRepr := by
  intro pins s σ H vs us Q I r h
  obtain ⟨v, d, rfl, hd, sh, q⟩ := h
  cases r with
  | cons r1 r2 =>
    cases r2
    obtain ⟨as, rd, hn⟩ := Dq.reads I hS d _ _ hd r1
    have fin : ∀ (h' : Heap) (u : Tok) (tk : Tok), (∀ b o, s.heap.get? b = some o → h'.get? b = some o) → EP X pins σ Q (.str d.shown u) { s with heap := h', toks := tk } := fun h' u tk hk => ⟨.str d.shown, H, I.kept hk, ⟨_, rfl⟩, q⟩
    cases rd with
    | none => exact P.repr_of_none (fin _ _ _ fun _ _ e => e)
    | bool b => exact P.repr_of_bool (fin _ _ _ fun _ _ e => e)
    | int i t => exact P.repr_of_int (of_decide_eq_true sh.may) (fin _ _ _ fun _ _ e => e)
    | str x t => exact P.repr_of_str (fin _ _ _ fun _ _ e => e) sh.fits
    | list a b c e => exact repr_of_reads' (Reads.list a b c e) sh.may (fun _ => hn) hg (by have := sh.low; omega) (fun _ _ e => e) fin sh.fits
    | tuple a b c e => exact repr_of_reads' (Reads.tuple a b c e) sh.may (fun _ => hn) hg (by have := sh.low; omega) (fun _ _ e => e) fin sh.fits
    | dict a b c e f => exact repr_of_reads' (Reads.dict a b c e f) sh.may (fun _ => hn) hg (by have := sh.low; omega) (fun _ _ e => e) fin sh.fits
end
end Ob

set_option maxHeartbeats 4000000
namespace Ob
open PySem PySem.Spec PyProof.Rows L2
/-- data of such a size -/
structure Sz (d : PyData) (k w : Nat) : Prop where
  may : d.showable = true
  low : d.depth ≤ k
  short : d.leavesShort 120 = true
  wt : d.weight ≤ w
theorem Sz.showy {d : PyData} {k w : Nat} (h : Sz d k w) (hk : k ≤ 60) (hw : w ≤ 100000) : Showy d := by
  refine ⟨h.may, Nat.le_trans h.low hk, ?_⟩
  have a := PyData.shown_le 120 (by decide) d h.short
  have b := h.wt
  rw [sizeLine_eq]
  omega
theorem Sz.mono {d : PyData} {k w k' w' : Nat} (h : Sz d k w) (hk : k ≤ k') (hw : w ≤ w') : Sz d k' w' := ⟨h.may, Nat.le_trans h.low hk, h.short, Nat.le_trans h.wt hw⟩
/-! what kind it is -/
def tyN : PyData → String
  | .none => "NoneType"
  | .bool _ => "bool"
  | .int _ => "int"
  | .str _ => "str"
  | .list _ => "list"
  | .tuple _ => "tuple"
  | .dict _ => "dict"
def isWh : PyData → Bool
  | .int _ => true
  | _ => false
def isWhV : V → Bool
  | .int _ => true
  | _ => false
theorem Dq.ty (K : PySem.W.Frag) {H : Hp} {v : V} {d : PyData} (h : Dq H v d) : TyOf K H v (.type (tyN d)) := by
  cases h with
  | non => exact .non
  | bl b => exact .bl b
  | int i => exact .int i
  | str x => exact .str x
  | lst e _ => exact .lst e
  | tup e _ => exact .tup e
  | dic e => exact .dK e
theorem Dq.wh {H : Hp} {v : V} {d : PyData} (h : Dq H v d) : isWhV v = isWh d := by cases h <;> rfl
theorem DqAll.length {H : Hp} : ∀ {xs : List V} {ds : List PyData}, DqAll H xs ds → xs.length = ds.length
  | [], _, h => by cases h; rfl
  | x :: xs, _, h => by
    cases h with
    | cons a b => rw [List.length_cons, List.length_cons, DqAll.length b]
theorem DqAll.get {H : Hp} : ∀ {xs : List V} {ds : List PyData} {i : Nat} {x : V}, DqAll H xs ds → xs[i]? = some x → ∃ d, ds[i]? = some d ∧ Dq H x d
  | _ :: _, _, 0, _, h, e => by
    cases h with
    | cons a b => cases e; exact ⟨_, rfl, a⟩
  | _ :: _, _, i + 1, _, h, e => by
    cases h with
    | cons a b =>
      obtain ⟨d, e1, e2⟩ := DqAll.get (i := i) b (by simpa using e)
      exact ⟨d, by simpa using e1, e2⟩
theorem DqAll.append {H : Hp} : ∀ {xs ys : List V} {ds es : List PyData}, DqAll H xs ds → DqAll H ys es → DqAll H (xs ++ ys) (ds ++ es)
  | [], _, _, _, h, g => by cases h; exact g
  | _ :: _, _, _, _, h, g => by
    cases h with
    | cons a b => exact .cons a (DqAll.append b g)
end Ob

set_option maxHeartbeats 4000000
namespace Ob
open PySem PySem.Spec PyProof.Rows L2
/-- the lists and tuples of H stand in H0, frozen, and nothing else but what is frozen -/
structure FrzD (H H0 : Hp) : Prop where
  fz : ∀ c o, H0 c = some o → ∃ ob u, o = .frz ob u
  tp : ∀ c ys, H c = some (.tup ys) → ∃ ob, H0 c = some (.frz ob (.tup ys))
  ls : ∀ c ys, H c = some (.lst ys) → ∃ ob, H0 c = some (.frz ob (.lst ys))
  dk : ∀ c kvs, H c = some (.dK kvs) → ∃ ob, H0 c = some (.frz ob (.dK kvs))
section
variable {X : Cx} {pins : List (Addr × Obj)} {σ : L2.St} {H : Hp} {s : Shared} {P : Addr}
end
section
variable {X : Cx} {P c f : Addr} {x g y : Str} {iter : Expr} {ti : TE} {p1 p2 p3 p4 p5 p6 p7 : Pos} {scope : Scope} {k : Nat} {fd : FuncData} {sp : Sp}
end
/-- the type of a thing, a frozen dict's, too -/
inductive TyF (K : PySem.W.Frag) (H : Hp) : V → Value → Prop
  | of {v : V} {t : Value} (h : TyOf K H v t) : TyF K H v t
  | frd {a : Addr} {o : Obj} {kvs : List (Key × V)} (e : H a = some (.frz o (.dK kvs))) : TyF K H (.ref a) (.type "dict")
end Ob

set_option maxHeartbeats 4000000
namespace L2
open PySem PySem.Spec PyProof.Rows
/-! ### refusals that fly: behind a call the refusal ea of the class at C is under way -/
/-- what stays while it flies: B; all that is tracked, all that stood at the heap g but the frames -/
structure Fly (l : List Env) (H : Hp) (g h : Heap) (ea C : Addr) (B : Heap) (t : Addr) : Prop where
  fl : Heap.FlyingW B l ea (.ref C) (.ref t) h
  trk : ∀ b o, H b = some o → ∃ ob, B.get? b = some ob
  old : ∀ b ob, g.get? b = some ob → b ∉ frs l → ∃ ob', B.get? b = some ob'
/-- a def's promise where the frames that run are known -/
structure FnF (P : Program) (w : World) (K : PySem.W.Frag) (mg : Str → Option Value) (base : Heap) (CX : CXT) (k : Nat) (f : Addr) (fd : FuncData) (ps : List Str) (sp : Sp) : Prop where
  len : ∀ vs H Q E, sp vs H Q E → vs.length = ps.length
  run : ∀ (A : Around) (outer : List Env) (s : Shared) (H : Hp) (args : Args) (us : List Value) (vs : List V) (Q : VK) (E : XK), A.frames = some outer → Room k A → Env0 P w K mg base A outer s H → BindsTo s fd args (ps.zip us) → Vals vs us → sp vs H Q E →
    codeAny (model P w) A (.call (.ref f) args) (CR CX outer P w H s Q E) s
theorem FnOk.f {P : Program} {w : World} {K : PySem.W.Frag} {mg : Str → Option Value} {base : Heap} {CX : CXT} {k : Nat} {f : Addr} {fd : FuncData} {ps : List Str} {sp : Sp} (F : FnOk P w K mg base CX k f fd ps sp) : FnF P w K mg base CX k f fd ps sp :=
  ⟨F.len, fun A outer s H args us vs Q E _ => F.run A outer s H args us vs Q E⟩
theorem FnF.mono {P : Program} {w : World} {K : PySem.W.Frag} {mg : Str → Option Value} {base : Heap} {CX : CXT} {j k : Nat} {f : Addr} {fd : FuncData} {ps : List Str} {sp : Sp} (F : FnF P w K mg base CX j f fd ps sp) (h : j ≤ k) : FnF P w K mg base CX k f fd ps sp :=
  ⟨F.len, fun A outer s H args us vs Q E hf hr => F.run A outer s H args us vs Q E hf (hr.mono h)⟩
section
variable {P : Program} {w : World} {K : PySem.W.Frag} {mg : Str → Option Value} {base : Heap}
end

section
variable {X : Cx} {CX : CXT} {k : Nat} {f C : Addr} {fd : FuncData} {ps : List Str} {sp : Sp} {dvs : List V} {ds : List Value} {EF : St → XK} {x m : Str} {p pos apos : Pos} {e o : Expr} {es : List Expr} {ta : TE} {t : TA}
end

end L2

set_option maxHeartbeats 4000000
namespace L2
open PySem PySem.Spec PyProof.Rows
/-! ### try .. except -/
abbrev Cx.tr (X : Cx) (pn : List (Addr × Obj)) (E : Value → Shared → Prop) : Cx := { X with pn := pn, xe := E }
section
variable {X : Cx} {pins : List (Addr × Obj)} {σ : St} {H : Hp} {s : Shared}
theorem Inv.tr (I : Inv X pins σ H s) (E : Value → Shared → Prop) : Inv (X.tr (X.pn ++ pins) E) [] σ H s :=
  ⟨⟨I.ok.mod, I.ok.kind, I.ok.glob, I.ok.blt, I.ok.above, I.ok.inj, I.ok.has, I.ok.cab, I.ok.hd, I.ok.frames, I.ok.stk, I.ok.exf, I.ok.bs, I.ok.bsz, I.ok.noex, I.ok.exfs, I.ok.funs, I.ok.frf⟩,
    I.os, I.bare, I.base, I.loc, I.cell, I.free, I.freeC, fun p hp => I.pin p (by simpa using hp), I.hok, I.len⟩
end
/-- a refusal of the class at C is held in this body -/
def HeldE (X : Cx) (pins : List (Addr × Obj)) (σ : St) (H' : Hp) (ea C : Addr) (s' : Shared) : Prop :=
  ∃ H s B t, Inv X pins σ H s ∧ s'.os = s.os ∧ (AllBare s.gens → AllBare s'.gens) ∧ Un (frs X.stack) [] H H' s.heap s'.heap ∧ HOk X.prog X.w H' s'.heap ∧ Fly X.stack H' s.heap s'.heap ea C B t
section
variable {X : Cx} {pins : List (Addr × Obj)} {σ : St} {H : Hp} {s : Shared} {ea C : Addr}
/-- the refusal's own object is new -/
theorem Fly.new {X : Cx} {H1 : Hp} {s0 : Shared} {B : Heap} {t : Addr} {h : Heap} (I : Inv X pins σ H1 s0) (f : Fly X.stack H s0.heap h ea C B t) : s0.heap.get? ea = none := by
  cases q : s0.heap.get? ea with
  | none => rfl
  | some o =>
    exfalso
    by_cases hb : ea ∈ frs X.stack
    · obtain ⟨_, o2, e2, nf⟩ := f.fl.2.2.1.mem hb
      obtain ⟨oe, vs, he, _, hd, _⟩ := f.fl.first
      rw [he] at e2
      cases e2
      exact nf _ hd
    · obtain ⟨ob, z⟩ := f.old ea o q hb
      rw [f.fl.2.1] at z
      cases z
theorem HeldE.nil (h : HeldE X pins σ H ea C s) : H ea = none := by
  obtain ⟨H0, s0, B, t, I, ho, hb, un, hok, fly⟩ := h
  cases q : H ea with
  | none => rfl
  | some o =>
    obtain ⟨ob, z⟩ := fly.trk ea o q
    rw [fly.fl.2.1] at z
    cases z
theorem HeldE.ty (h : HeldE X pins σ H ea C s) {M : Model} : PySem.W.Looks M s.heap (typeOf (.ref ea)) (.ref C) := by
  obtain ⟨H0, s0, B, t, I, ho, hb, un, hok, fly⟩ := h
  obtain ⟨oe, vs, he, hc, _⟩ := fly.fl.first
  rw [← hc]
  exact (PySem.W.Looks.ld he).andThen .now
end

/-- what is wanted behind the handlers, by the class of the refusal -/
abbrev TH := Addr → TS
section
variable {X : Cx} {x n : Str} {c : Addr} {i : Nat} {np pos : Pos} {b0 : Stmt} {suite : List Stmt} {rest : List ExceptHandler} {tb : TS} {tr : TH}
end
end L2

set_option maxHeartbeats 4000000
namespace L2
open PySem PySem.Spec PyProof.Rows
section
variable {X : Cx}
end
end L2

set_option maxHeartbeats 4000000
namespace L2
open PySem PySem.Spec PyProof.Rows
section
variable {X : Cx} {a b c e o : Expr} {es : List Expr} {st : Stmt} {rest : List Stmt} {ta tb te to : TE} {tc : TT} {t u : TS} {ts : TA} {pos p : Pos}
end
end L2

set_option maxHeartbeats 4000000
namespace L2
open PySem PySem.Spec PyProof.Rows
section
variable {X : Cx}
end
end L2

set_option maxHeartbeats 4000000
namespace Ob
open PySem PySem.Spec PyProof.Rows L2
abbrev TPr := L2.St → Hp → (List (V × V) → Hp → Prop) → Prop
section
variable {X : Cx} {P c : Addr} {x y : Str} {elt iter : Expr} {ts : TPr} {p1 p3 p4 p5 p6 p7 : Pos} {kt : Nat} {scope : Scope} {R : L2.St → Hp → V → V → Int → Prop}
end
end Ob

set_option maxHeartbeats 4000000
namespace Ob
open PySem PySem.Spec PyProof.Rows L2
end Ob

set_option maxHeartbeats 4000000
namespace Ob
open PySem PySem.Spec PyProof.Rows L2
/-! ### a generator expression whose element makes generators itself; the element's own table is at Pw -/
/-- all but what is at W stays, generators may be more -/
structure Sty (W : List Addr) (s t : Shared) : Prop where
  keep : ∀ b o, b ∉ W → s.heap.get? b = some o → t.heap.get? b = some o
  bare : AllBare s.gens → AllBare t.gens
  os : t.os = s.os
  more : s.gens.size ≤ t.gens.size
theorem Sty.refl (W : List Addr) (s : Shared) : Sty W s s := ⟨fun _ _ _ e => e, id, rfl, Nat.le_refl _⟩
theorem Sty.trans {W : List Addr} {a b c : Shared} (x : Sty W a b) (y : Sty W b c) : Sty W a c := ⟨fun k o h e => y.keep k o h (x.keep k o h e), fun z => y.bare (x.bare z), y.os.trans x.os, Nat.le_trans x.more y.more⟩
theorem Sty.mono {W W' : List Addr} {a b : Shared} (x : Sty W a b) (h : ∀ k ∈ W, k ∈ W') : Sty W' a b := ⟨fun k o n e => x.keep k o (fun z => n (h k z)) e, x.bare, x.os, x.more⟩
theorem Sty.heap {W : List Addr} {a b : Shared} (x : Sty W a b) {h' : Heap} {tk : Nat} (k : ∀ c o, c ∉ W → b.heap.get? c = some o → h'.get? c = some o) : Sty W a { b with heap := h', toks := tk } := ⟨fun c o n e => k c o n (x.keep c o n e), x.bare, x.os, x.more⟩
/-- what stood ahead of the walk stands, but for the iterator at I and the table at Pw, which is a table -/
structure Rdy (s0 : Shared) (I Pw : Addr) (s : Shared) : Prop where
  old : ∀ b o, b ≠ I → b ≠ Pw → s0.heap.get? b = some o → s.heap.get? b = some o
  tb : TbP Pw s.heap
  bare : AllBare s0.gens → AllBare s.gens
  os : s.os = s0.os
theorem Rdy.heap {s0 s : Shared} {I Pw C : Addr} (x : Rdy s0 I Pw s) (hC : s0.heap.get? C = none) (hCP : C ≠ Pw) (hIP : I ≠ Pw) {h' : Heap} {tk : Nat} (k : ∀ b o, b ≠ C → b ≠ I → s.heap.get? b = some o → h'.get? b = some o) : Rdy s0 I Pw { s with heap := h', toks := tk } :=
  ⟨fun b o h1 h2 e => k b o (fun z => by rw [z, hC] at e; cases e) h1 (x.old b o h1 h2 e), x.tb.stay fun o e => k Pw o hCP.symm hIP.symm e, x.bare, x.os⟩
theorem Rdy.same {s0 s t : Shared} {I Pw : Addr} (x : Rdy s0 I Pw s) (k : ∀ b o, s.heap.get? b = some o → t.heap.get? b = some o) (hb : AllBare s.gens → AllBare t.gens) (ho : t.os = s.os) : Rdy s0 I Pw t := ⟨fun b o h1 h2 e => k b o (x.old b o h1 h2 e), x.tb.stay fun o e => k Pw o e, fun z => hb (x.bare z), ho.trans x.os⟩
theorem Rdy.turn {s0 s t : Shared} {I Pw : Addr} (x : Rdy s0 I Pw s) (y : Sty [Pw] s t) (tb : TbP Pw t.heap) : Rdy s0 I Pw t := ⟨fun b o h1 h2 e => y.keep b o (by simpa using h2) (x.old b o h1 h2 e), tb, fun z => y.bare (x.bare z), y.os.trans x.os⟩
def protG (C I Pw : Addr) (s0 : Shared) (n : Nat) (F : Nat → Value → Prop) : Protocol := fun m s₀ v s kap =>
  F (n - 1 - m) v ∧ Sty [C, I, Pw] s₀ s ∧ Rdy s0 I Pw s ∧ ∀ s'' : Shared, (∀ b o, s.heap.get? b = some o → s''.heap.get? b = some o) → (AllBare s.gens → AllBare s''.gens) → s''.os = s.os → kap (.send .none) s''
def endG (C I Pw : Addr) (s0 : Shared) : Nat → Shared → Shared → Prop := fun n s₀ s₁ => n = 0 ∧ Sty [C, I, Pw] s₀ s₁ ∧ Rdy s0 I Pw s₁
section
variable {prog : Program} {w : World} {A : Around} {elt iter : Expr} {x : Str} {px : Pos} {scope : Scope} {pos : Pos} {I Pw : Addr} {fp : List Addr} {n : Nat} {Pt : Nat → Value → Prop} {St : Nat → Heap → Prop} {cenv : Env} {s0 : Shared} {F : Nat → Value → Prop}
end
section
variable {prog : Program} {w : World} {A : Around} {I Pw C a : Addr} {g n : Nat} {s0 : Shared} {F : Nat → Value → Prop}
theorem setGen_bare {u : Shared} {g : Nat} {x y : GenState} (h : u.gens[g]? = some y) (hx : x.bare = true) (hb : AllBare u.gens) : AllBare (u.setGen g x).gens :=
  (GenOnlyQ.of (GenOnly.setGen u g x) (setGen_self h) hx).bare hb
/-- the generator at a stands ahead of its j-th item -/
def GenV (prog : Program) (w : World) (A : Around) (a : Addr) (g : Nat) (C I Pw : Addr) (s0 : Shared) (n : Nat) (F : Nat → Value → Prop) (j : Nat) (s : Shared) : Prop :=
  s.heap.IsGen a g ∧ Rdy s0 I Pw s ∧ ∃ gs, s.gens[g]? = some gs ∧ ∀ s'' : Shared, (∀ b o, s.heap.get? b = some o → s''.heap.get? b = some o) → (AllBare s.gens → AllBare s''.gens) → s''.os = s.os →
    gs.Goes (model prog w) A.in1 (fun n s₀ r s₁ => r = .ok .next ∧ endG C I Pw s0 n s₀ s₁) (protG C I Pw s0 n F) (n - j) (.send .none) s''
theorem GenV.next (hh : A.handled = none) (hroom : A.depth < recursionLimit) (l0 : s0.heap.NoLimit) (c1 : cStatics ≠ I) (c2 : cStatics ≠ Pw) (haC : a ≠ C) (haI : a ≠ I) (haP : a ≠ Pw) {j : Nat} {s : Shared} {E : Value → Shared → Prop} (st : GenV prog w A a g C I Pw s0 n F j s) (hj : j < n) :
    wpAny (model prog w) A (pyNext (.ref a)) (fun r t => ∃ v, r = some v ∧ F j v ∧ GenV prog w A a g C I Pw s0 n F (j + 1) t) E s := by
  obtain ⟨hg, rd, gs, hgs, hgo⟩ := st
  obtain ⟨m, hm⟩ : ∃ m, n - j = m + 1 := ⟨n - j - 1, by omega⟩
  rw [hm] at hgo
  have nl : s.heap.NoLimit := let ⟨mc, hns, hnn⟩ := l0; ⟨mc, hns.at' fun o e => rd.old _ o c1 c2 e, hnn⟩
  refine wpAny_pyNext_genexpQ (P := endG C I Pw s0) hh nl hroom hg hgs (hgo _ (fun _ _ e => e) (setGen_bare hgs rfl) rfl) (fun v s1 gs' hb hv => ?_) (fun s1 hp h' hk => ?_)
  · obtain ⟨hF, sty, rd1, hkap⟩ := hv
    have lt : g < s1.gens.size := by
      have z := sty.more
      have z2 : g < s.gens.size := (Array.getElem?_eq_some_iff.mp hgs).1
      have z3 : (s.setGen g .running).gens.size = s.gens.size := by simp [Shared.setGen]
      omega
    have hy : s1.gens[g]? = some _ := Array.getElem?_eq_getElem lt
    have idx : n - 1 - (m + 1 - 1) = j := by omega
    rw [idx] at hF
    refine ⟨v, rfl, hF, let ⟨o, nm, qn, ho, r⟩ := hg; ⟨o, nm, qn, sty.keep a o (by simp [haC, haI, haP]) ho, r⟩, rd1.same (t := s1.setGen g gs') (fun _ _ e => e) (setGen_bare hy hb) rfl, gs', setGen_self hy, fun s'' hal hb' ho => ?_⟩
    have e : n - (j + 1) = m := by omega
    rw [e]
    exact hkap s'' hal (fun z => hb' (setGen_bare hy hb z)) ho
  · exact absurd hp.1 (Nat.succ_ne_zero m)
theorem GenV.last (hh : A.handled = none) (hroom : A.depth < recursionLimit) (l0 : s0.heap.NoLimit) (c1 : cStatics ≠ I) (c2 : cStatics ≠ Pw) {s : Shared} {E : Value → Shared → Prop} (st : GenV prog w A a g C I Pw s0 n F n s) :
    wpAny (model prog w) A (pyNext (.ref a)) (fun r t => r = none ∧ Rdy s0 I Pw t) E s := by
  obtain ⟨hg, rd, gs, hgs, hgo⟩ := st
  rw [Nat.sub_self] at hgo
  have nl : s.heap.NoLimit := let ⟨mc, hns, hnn⟩ := l0; ⟨mc, hns.at' fun o e => rd.old _ o c1 c2 e, hnn⟩
  refine wpAny_pyNext_genexpQ (P := endG C I Pw s0) hh nl hroom hg hgs (hgo _ (fun _ _ e => e) (setGen_bare hgs rfl) rfl) (fun v s1 gs' hb hv => ?_) (fun s1 hp h' hk => ?_)
  · obtain ⟨_, _, _, hkap⟩ := hv
    exact False.elim (hkap s1 (fun _ _ e => e) id rfl)
  · obtain ⟨_, sty, rd1⟩ := hp
    have lt : g < s1.gens.size := by
      have z := sty.more
      have z2 : g < s.gens.size := (Array.getElem?_eq_some_iff.mp hgs).1
      have z3 : (s.setGen g .running).gens.size = s.gens.size := by simp [Shared.setGen]
      omega
    have hy : s1.gens[g]? = some _ := Array.getElem?_eq_getElem lt
    exact ⟨rfl, rd1.same (fun b o e => hk b o e) (setGen_bare (x := .finished) hy rfl) rfl⟩
end
section
variable {prog : Program} {w : World} {A : Around} {R : Result → Shared → Prop} {a : Addr} {n : Nat} {St : Nat → Shared → Prop} {Fin : Shared → Prop} {q : Nat → Bool}
end
end Ob

set_option maxHeartbeats 4000000
namespace Ob
open PySem PySem.Spec PyProof.Rows L2
section
variable {X : Cx} {pins : List (Addr × Obj)} {σ : L2.St} {H : Hp} {s : Shared}
end
section
variable {X : Cx} {P Pw c : Addr} {x : Str} {elt e : Expr} {ta : TA} {p1 p2 p5 p6 p7 p8 : Pos} {scope : Scope} {R : L2.St → Hp → Nat → Bool → Prop}
end
end Ob

set_option maxHeartbeats 4000000
namespace Ob
open PySem PySem.Spec PyProof.Rows L2
section
variable {X : Cx} {P Pw : Addr} {x y : Str} {scope : Scope} {q1 q2 q3 q4 q5 q6 q7 q8 q9 : Pos}
end
end Ob

set_option maxHeartbeats 4000000
namespace Ob
open PySem PySem.Spec PyProof.Rows L2
/-- each number times how far its place is ahead of p -/
def aheadS (xs : List Int) (p : Int) : Int := (xs.zipIdx.map fun e => e.1 * (p - ((e.2 : Nat) : Int))).sum
/-- each number times its place -/
def wS (xs : List Int) : Int := (xs.zipIdx.map fun e => e.1 * ((e.2 : Nat) : Int)).sum
def showsB (xs : List Int) : Bool := decide (xs.sum = 0) && decide (wS xs = 0) && (List.range xs.length).all fun p => decide (aheadS (xs.take p) p ≤ 0)
/-- a fraction from -1 to 1 -/
structure Pq (t : Int × Int) : Prop where
  fq : Fq t
  one : t.1.natAbs ≤ t.2.natAbs
def dotS (ns xs : List Int) : Int := ((ns.zip xs).map fun e => e.1 * e.2).sum
end Ob

set_option maxHeartbeats 4000000
namespace Ob
open PySem PySem.Spec PyProof.Rows L2
/-! ### the deck -/
/-- numbers that a deck may hold -/
def Dk (ds : List Int) : Prop := (∀ z ∈ ds, 0 ≤ z ∧ z < 2147483648) ∧ ds.length ≤ 1000
theorem Dk.nil : Dk [] := ⟨fun _ z => (nomatch z), by decide⟩
theorem Dk.cut {ds : List Int} (h : Dk ds) : Dk ds.dropLast := ⟨fun z hz => h.1 z ((List.dropLast_sublist _).subset hz), by rw [List.length_dropLast]; have := h.2; omega⟩
theorem Dk.rev {ds : List Int} (h : Dk ds) : Dk ds.reverse := ⟨fun z hz => h.1 z (List.mem_reverse.mp hz), by rw [List.length_reverse]; exact h.2⟩
def DkAt (d : Addr) (H : Hp) : Prop := ∃ ds, H d = some (.lst (ds.map V.int)) ∧ Dk ds
/-- the deck at d has been drawn from, all else stands -/
structure Drew (d : Addr) (H H' : Hp) : Prop where
  keep : ∀ b o, H b = some o → b ≠ d → H' b = some o
  here : DkAt d H'
theorem Drew.refl {d : Addr} {H : Hp} (h : DkAt d H) : Drew d H H := ⟨fun _ _ e _ => e, h⟩
theorem Drew.trans {d : Addr} {H H1 H2 : Hp} (a : Drew d H H1) (b : Drew d H1 H2) : Drew d H H2 := ⟨fun c o e n => b.keep c o (a.keep c o e n) n, b.here⟩
theorem Drew.same {d : Addr} {H H1 H2 : Hp} (a : Drew d H H1) (s : Same H1 H2) : Drew d H H2 := ⟨fun c o e n => s c o (a.keep c o e n), let ⟨ds, h, k⟩ := a.here; ⟨ds, s _ _ h, k⟩⟩
theorem Drew.of {d : Addr} {H H1 : Hp} (h : DkAt d H) (s : Same H H1) : Drew d H H1 := (Drew.refl h).same s
theorem Drew.new {d : Addr} {H H1 : Hp} (a : Drew d H H1) {l : Addr} (hl : H1 l = none) (o : HO) : Drew d H (upd H1 l o) := a.same (same_new hl o)
theorem Drew.free {d : Addr} {H H1 : Hp} (a : Drew d H H1) {l : Addr} (h : H1 l = none) : H l = none := by
  cases q : H l with
  | none => rfl
  | some o =>
    by_cases n : l = d
    · obtain ⟨ds, e, _⟩ := a.here
      rw [n, e] at h
      cases h
    · rw [a.keep l o q n] at h
      cases h
theorem DkAt.ne {d l : Addr} {H : Hp} (h : DkAt d H) (hl : H l = none) : l ≠ d := fun z => by
  obtain ⟨ds, e, _⟩ := h
  rw [z, e] at hl
  cases hl
/-- a new thing at l, made ahead of the drawing, may be written on -/
theorem Drew.put {d l : Addr} {H H1 : Hp} {o : HO} (a : Drew d H H1) (hl : H l = none) (n : l ≠ d) : Drew d H (upd H1 l o) := ⟨fun c u e k => by rw [upd_ne (ne_of_none e hl)]; exact a.keep c u e k, let ⟨ds, h, k⟩ := a.here; ⟨ds, by rw [upd_ne (Ne.symm n)]; exact h, k⟩⟩
def spCellAt (K : PySem.W.Frag) : Sp := fun vs H Q _ => ∃ (a : Addr) (ns : List Int) (k : Int), vs = [.ref a, .int k] ∧ SqL K H a (ns.map V.int) ∧ 0 ≤ k ∧ ∀ x, Q (.int x) H
def spStir : Sp := fun vs H Q _ => ∃ c k : Int, vs = [.int c, .int k] ∧ 0 ≤ k ∧ k ≤ 1000 ∧ ∀ n, 0 ≤ n → n < 2147483648 → Q (.int n) H
def spDeck : Sp := fun vs H Q _ => ∃ (c : Int) (m : Nat), vs = [.int c, .int (m : Int)] ∧ m ≤ 1000 ∧ ∀ r H', Same H H' → H r = none → DkAt r H' → Q (.ref r) H'
def spNext : Sp := fun vs H Q _ => ∃ d : Addr, vs = [.ref d] ∧ DkAt d H ∧ ∀ n H', 0 ≤ n → n < 2147483648 → Drew d H H' → Q (.int n) H'
def spFarD : Sp := fun vs H Q _ => ∃ d : Addr, vs = [.ref d] ∧ DkAt d H ∧ ∀ n H', 0 ≤ n → n < 1000000000000 → Drew d H H' → Q (.int n) H'
def Bw (k : Nat) (z : Int) : Prop := z.natAbs < 2 ^ k
def spBentD : Sp := fun vs H Q _ => ∃ (d : Addr) (m : Nat), vs = [.ref d, .int (m : Int)] ∧ DkAt d H ∧ m ≤ 12 ∧ ∀ (r : Addr) (ns : List Int) (H' : Hp), Drew d H H' → H r = none → H' r = some (.lst (ns.map V.int)) → ns.length = m → (∀ z ∈ ns, Bw 40 z) → Conv (An ns) ns.length → Q (.ref r) H'
def spRowD : Sp := fun vs H Q _ => ∃ (d : Addr) (m : Nat), vs = [.ref d, .int (m : Int)] ∧ DkAt d H ∧ 1 ≤ m ∧ m ≤ 12 ∧ ∀ (r : Addr) (ns : List Int) (H' : Hp), Drew d H H' → H r = none → H' r = some (.lst (ns.map V.int)) → 1 ≤ ns.length → ns.length ≤ m → (∀ z ∈ ns, Bw 42 z) → Q (.ref r) H'
theorem use_ws {X : Cx} {st : List Stmt} {t : TS} {D : Ends} {σ : L2.St} {H : Hp} (h : WSs X st t) (q : t D σ H) : ∃ t, PSs X st t ∧ t D σ H := ⟨t, h.get, q⟩
end Ob

set_option maxHeartbeats 4000000
namespace Ob
/-! ### determinants: rows as functions of the column, columns as a list; expanded along the first column -/
abbrev Rw := Nat → Int
/-- the sum over the rows of l, each taken out in turn, with its sign -/
def exq (c : Nat) (F : List Rw → Int) : List Rw → List Rw → Int → Int
  | _, [], _ => 0
  | pre, r :: l, s => s * r c * F (pre ++ l) + exq c F (pre ++ [r]) l (-s)
def dt : List Nat → List Rw → Int
  | [], _ => 1
  | c :: cs, l => exq c (dt cs) [] l 1
/-- two neighbours exchanged -/
theorem dt_swap : ∀ (cs : List Nat) (pre post : List Rw) (x y : Rw), cs.length = (pre ++ x :: y :: post).length → dt cs (pre ++ x :: y :: post) = - dt cs (pre ++ y :: x :: post)
  | [], pre, post, x, y, h => by simp at h
  | c :: cs, pre, post, x, y, h => by
    have hl : cs.length = pre.length + post.length + 1 := by simp at h; omega
    have go : ∀ (l done : List Rw) (s : Int), done ++ l = pre → exq c (dt cs) done (l ++ x :: y :: post) s = - exq c (dt cs) done (l ++ y :: x :: post) s := by
      intro l
      induction l with
      | nil =>
        intro done s e
        rw [List.append_nil] at e
        subst e
        rw [List.nil_append, List.nil_append, exq, exq, exq, exq]
        have tail : exq c (dt cs) (done ++ [x] ++ [y]) post (- -s) = - exq c (dt cs) (done ++ [y] ++ [x]) post (- -s) := by
          -- all further rows: the same with the two exchanged
          have go2 : ∀ (l mid : List Rw) (s : Int), mid ++ l = post → exq c (dt cs) (done ++ x :: y :: mid) l s = - exq c (dt cs) (done ++ y :: x :: mid) l s := by
            intro l
            induction l with
            | nil => intro mid s e; rfl
            | cons r l ih =>
              intro mid s e
              have k := dt_swap cs done (mid ++ l) x y (by rw [← e] at hl; simp at hl ⊢; omega)
              have ih' := ih (mid ++ [r]) (-s) (by rw [← e]; simp)
              rw [exq, exq]
              have a1 : done ++ x :: y :: mid ++ l = done ++ x :: y :: (mid ++ l) := by simp
              have a2 : done ++ y :: x :: mid ++ l = done ++ y :: x :: (mid ++ l) := by simp
              have a3 : done ++ x :: y :: mid ++ [r] = done ++ x :: y :: (mid ++ [r]) := by simp
              have a4 : done ++ y :: x :: mid ++ [r] = done ++ y :: x :: (mid ++ [r]) := by simp
              rw [a1, a2, a3, a4, k, ih', Int.mul_neg]
              omega
          have z := go2 post [] (- -s) rfl
          have b1 : done ++ [x] ++ [y] = done ++ x :: y :: [] := by simp
          have b2 : done ++ [y] ++ [x] = done ++ y :: x :: [] := by simp
          rw [b1, b2]
          exact z
        rw [tail]
        have b1 : done ++ [x] ++ post = done ++ x :: post := by simp
        have b2 : done ++ [y] ++ post = done ++ y :: post := by simp
        rw [b1, b2]
        generalize dt cs (done ++ y :: post) = A
        generalize dt cs (done ++ x :: post) = B
        grind
      | cons r l ih =>
        intro done s e
        have k := dt_swap cs (done ++ l) post x y (by rw [← e] at hl; simp at hl ⊢; omega)
        have ih' := ih (done ++ [r]) (-s) (by rw [← e]; simp)
        rw [List.cons_append, List.cons_append, exq, exq, ih']
        have a1 : done ++ (l ++ x :: y :: post) = done ++ l ++ x :: y :: post := by simp
        have a2 : done ++ (l ++ y :: x :: post) = done ++ l ++ y :: x :: post := by simp
        rw [a1, a2, k, Int.mul_neg]
        omega
    exact go pre [] 1 rfl
theorem dt_twin (cs : List Nat) (pre post : List Rw) (x : Rw) (h : cs.length = (pre ++ x :: x :: post).length) : dt cs (pre ++ x :: x :: post) = 0 := by
  have z := dt_swap cs pre post x x h
  omega
/-- a row made of two -/
def lin (p : Int) (x : Rw) (u : Int) (y : Rw) : Rw := fun j => p * x j - u * y j
theorem dt_lin (p u : Int) (x y : Rw) : ∀ (cs : List Nat) (pre post : List Rw), cs.length = (pre ++ x :: post).length → dt cs (pre ++ lin p x u y :: post) = p * dt cs (pre ++ x :: post) - u * dt cs (pre ++ y :: post)
  | [], pre, post, h => by simp at h
  | c :: cs, pre, post, h => by
    have hl : cs.length = pre.length + post.length := by simp at h; omega
    have go : ∀ (l done : List Rw) (s : Int), done ++ l = pre → exq c (dt cs) done (l ++ lin p x u y :: post) s = p * exq c (dt cs) done (l ++ x :: post) s - u * exq c (dt cs) done (l ++ y :: post) s := by
      intro l
      induction l with
      | nil =>
        intro done s e
        rw [List.append_nil] at e
        subst e
        rw [List.nil_append, List.nil_append, List.nil_append, exq, exq, exq]
        have go2 : ∀ (l mid : List Rw) (s : Int), mid ++ l = post → exq c (dt cs) (done ++ lin p x u y :: mid) l s = p * exq c (dt cs) (done ++ x :: mid) l s - u * exq c (dt cs) (done ++ y :: mid) l s := by
          intro l
          induction l with
          | nil => intro mid s e; simp [exq]
          | cons r l ih =>
            intro mid s e
            have k := dt_lin p u x y cs done (mid ++ l) (by rw [← e] at hl; simp at hl ⊢; omega)
            have ih' := ih (mid ++ [r]) (-s) (by rw [← e]; simp)
            rw [exq, exq, exq]
            have a : ∀ v : Rw, done ++ v :: mid ++ l = done ++ v :: (mid ++ l) := fun v => by simp
            have a' : ∀ v : Rw, done ++ v :: mid ++ [r] = done ++ v :: (mid ++ [r]) := fun v => by simp
            rw [a, a, a, a', a', a', k, ih']
            grind
        have z := go2 post [] (-s) rfl
        rw [z]
        show s * (p * x c - u * y c) * _ + _ = _
        grind
      | cons r l ih =>
        intro done s e
        have k := dt_lin p u x y cs (done ++ l) post (by rw [← e] at hl; simp at hl ⊢; omega)
        have ih' := ih (done ++ [r]) (-s) (by rw [← e]; simp)
        rw [List.cons_append, List.cons_append, List.cons_append, exq, exq, exq, ih']
        have a : ∀ v : Rw, done ++ (l ++ v :: post) = done ++ l ++ v :: post := fun v => by simp
        rw [a, a, a, k]
        grind
    exact go pre [] 1 rfl
/-- rows behind w changed by it -/
theorem dt_behind (p : Int) (w : Rw) (u : Rw → Int) : ∀ (rs pre : List Rw) (cs : List Nat), cs.length = (pre ++ w :: rs).length → dt cs (pre ++ w :: rs.map fun r => lin p r (u r) w) = p ^ rs.length * dt cs (pre ++ w :: rs)
  | [], pre, cs, h => by simp
  | r :: rs, pre, cs, h => by
    have hm : (rs.map fun r => lin p r (u r) w).length = rs.length := List.length_map ..
    have e1 := dt_lin p (u r) r w cs (pre ++ [w]) (rs.map fun r => lin p r (u r) w) (by simp at h ⊢; omega)
    have e2 := dt_twin cs pre (rs.map fun r => lin p r (u r) w) w (by simp at h ⊢; omega)
    have e3 := dt_swap cs pre (rs.map fun r => lin p r (u r) w) w r (by simp at h ⊢; omega)
    have e4 := dt_behind p w u rs (pre ++ [r]) cs (by simp at h ⊢; omega)
    have e5 := dt_swap cs pre rs w r (by simp at h ⊢; omega)
    have a : ∀ (v : Rw) (l : List Rw), pre ++ [v] ++ l = pre ++ v :: l := fun v l => by simp
    rw [a, a, a] at e1
    rw [a, a] at e4
    rw [List.map_cons, e1, e2, e3, e4, e5, List.length_cons, Int.pow_succ]
    grind
/-- rows ahead of w changed by it -/
theorem dt_ahead (p : Int) (w : Rw) (u : Rw → Int) (post : List Rw) : ∀ (n : Nat) (rs : List Rw) (cs : List Nat), rs.length = n → ∀ post, cs.length = (rs ++ w :: post).length → dt cs ((rs.map fun r => lin p r (u r) w) ++ w :: post) = p ^ rs.length * dt cs (rs ++ w :: post)
  | 0, rs, cs, hn, post, h => by
    have : rs = [] := List.length_eq_zero_iff.mp hn
    subst this
    simp
  | n + 1, rs, cs, hn, post, h => by
    obtain ⟨qs, r, rfl⟩ : ∃ qs r, rs = qs ++ [r] := ⟨rs.dropLast, rs.getLast (by intro z; rw [z] at hn; simp at hn), (List.dropLast_concat_getLast _).symm⟩
    have hq : qs.length = n := by simp at hn; exact hn
    have e1 := dt_lin p (u r) r w cs (qs.map fun r => lin p r (u r) w) (w :: post) (by simp at h ⊢; omega)
    have e2 := dt_twin cs (qs.map fun r => lin p r (u r) w) post w (by simp at h ⊢; omega)
    have e3 := dt_swap cs (qs.map fun r => lin p r (u r) w) post r w (by simp at h ⊢; omega)
    have e4 := dt_ahead p w u (r :: post) n qs cs hq (r :: post) (by simp at h ⊢; omega)
    have e5 := dt_swap cs qs post r w (by simp at h ⊢; omega)
    rw [List.map_append, List.append_assoc, List.append_assoc]
    show dt cs (_ ++ lin p r (u r) w :: w :: post) = _ * dt cs (qs ++ r :: w :: post)
    rw [e1, e2, e3, e4, e5, List.length_append, List.length_singleton, Int.pow_succ]
    grind
end Ob

set_option maxHeartbeats 4000000
namespace Ob
/-- columns that have nothing but at rows that are out of the way -/
theorem exq_zero {c : Nat} {F : List Rw → Int} : ∀ {l pre : List Rw} {s : Int}, (∀ q r m, l = q ++ r :: m → r c * F (pre ++ q ++ m) = 0) → exq c F pre l s = 0
  | [], pre, s, h => rfl
  | r :: l, pre, s, h => by
    have h0 := h [] r l rfl
    rw [List.append_nil] at h0
    have ih := exq_zero (c := c) (F := F) (l := l) (pre := pre ++ [r]) (s := -s) fun q x m e => by
      have z := h (r :: q) x m (by rw [e]; rfl)
      have e2 : pre ++ [r] ++ q ++ m = pre ++ (r :: q) ++ m := by simp
      rw [e2]
      exact z
    rw [exq, ih, Int.mul_assoc, h0]
    simp
theorem dt_zrow : ∀ (cs : List Nat) (l : List Rw) (r : Rw), r ∈ l → cs.length = l.length → (∀ c ∈ cs, r c = 0) → dt cs l = 0
  | [], l, r, hr, h, _ => by
    cases l with
    | nil => cases hr
    | cons a l => simp at h
  | c :: cs, l, r, hr, h, hz => by
    rw [dt]
    refine exq_zero fun q x m e => ?_
    by_cases hx : x = r
    · rw [hx, hz c (List.mem_cons_self ..)]
      simp
    · have hm : r ∈ [] ++ q ++ m := by
        rw [e] at hr
        rcases List.mem_append.mp hr with z | z
        · simp [z]
        · rcases List.mem_cons.mp z with z | z
          · exact absurd z.symm hx
          · simp [z]
      rw [dt_zrow cs _ r hm (by rw [e] at h; simp at h ⊢; omega) fun d hd => hz d (List.mem_cons_of_mem _ hd)]
      simp
/-- a column that has something at the first row alone -/
theorem dt_first {c : Nat} {cs : List Nat} {r : Rw} {l : List Rw} (h : ∀ x ∈ l, x c = 0) : dt (c :: cs) (r :: l) = r c * dt cs l := by
  rw [dt, exq]
  have z : exq c (dt cs) ([] ++ [r]) l (-1) = 0 := exq_zero fun q x m e => by
    rw [h x (by rw [e]; simp)]
    simp
  rw [z]
  simp
/-- the rows l, each with its own column of cs and its own number of ds there, and nothing else in these columns -/
def Diag : List Rw → List Nat → List Int → Prop
  | [], [], [] => True
  | r :: l, c :: cs, d :: ds => r c = d ∧ (∀ x ∈ l, x c = 0) ∧ (∀ e ∈ cs, r e = 0) ∧ Diag l cs ds
  | _, _, _ => False
theorem Diag.len : ∀ {l : List Rw} {cs : List Nat} {ds : List Int}, Diag l cs ds → l.length = cs.length ∧ ds.length = cs.length
  | [], [], [], _ => ⟨rfl, rfl⟩
  | r :: l, c :: cs, d :: ds, h => by
    have z := Diag.len h.2.2.2
    simp [z.1, z.2]
def prodL : List Int → Int
  | [] => 1
  | d :: ds => d * prodL ds
theorem Diag.dt : ∀ {l : List Rw} {cs : List Nat} {ds : List Int}, Diag l cs ds → dt cs l = prodL ds
  | [], [], [], _ => rfl
  | r :: l, c :: cs, d :: ds, h => by
    rw [dt_first h.2.1, h.1, Diag.dt h.2.2.2]
    rfl
/-- with one column otherwise -/
theorem Diag.cramer {j : Nat} : ∀ {l : List Rw} {cs : List Nat} {ds : List Int} {i : Nat} {r : Rw}, Diag l cs ds → l[i]? = some r → Ob.dt (cs.set i j) l = r j * prodL (ds.eraseIdx i)
  | [], [], [], i, r, _, hi => by simp at hi
  | q :: l, c :: cs, d :: ds, 0, r, h, hi => by
    have e : q = r := by simpa using hi
    subst e
    have hl := Diag.len h.2.2.2
    show Ob.dt (j :: cs) (q :: l) = q j * prodL ds
    rw [Ob.dt, exq]
    have z : exq j (Ob.dt cs) ([] ++ [q]) l (-1) = 0 := exq_zero fun a x m e => by
      rw [dt_zrow cs _ q (by simp) (by rw [e] at hl; simp at hl ⊢; omega) h.2.2.1]
      simp
    rw [z]
    show 1 * q j * Ob.dt cs ([] ++ l) + 0 = _
    rw [List.nil_append, Diag.dt h.2.2.2]
    simp
  | q :: l, c :: cs, d :: ds, i + 1, r, h, hi => by
    have hi' : l[i]? = some r := by simpa using hi
    show Ob.dt (c :: cs.set i j) (q :: l) = r j * prodL (d :: ds.eraseIdx i)
    rw [dt_first h.2.1, h.1, Diag.cramer h.2.2.2 hi']
    show d * (r j * prodL (ds.eraseIdx i)) = r j * (d * prodL (ds.eraseIdx i))
    ac_rfl
/-- Diag, by places -/
theorem Diag.of : ∀ {l : List Rw} {cs : List Nat} {ds : List Int}, l.length = cs.length → ds.length = cs.length → (∀ (i k : Nat) (r : Rw) (c : Nat), l[i]? = some r → cs[k]? = some c → r c = if i = k then ds.getD i 0 else 0) → Diag l cs ds
  | [], [], [], _, _, _ => trivial
  | [], [], d :: ds, _, h, _ => by simp at h
  | [], c :: cs, _, h, _, _ => by simp at h
  | r :: l, [], _, h, _, _ => by simp at h
  | r :: l, c :: cs, [], _, h, _ => by simp at h
  | r :: l, c :: cs, d :: ds, h1, h2, h => by
    refine ⟨by simpa using h 0 0 r c rfl rfl, fun x hx => ?_, fun e he => ?_, Diag.of (by simpa using h1) (by simpa using h2) fun i k x e hx he => ?_⟩
    · obtain ⟨i, hi⟩ := List.mem_iff_getElem?.mp hx
      simpa using h (i + 1) 0 x c (by simpa using hi) rfl
    · obtain ⟨k, hk⟩ := List.mem_iff_getElem?.mp he
      simpa using h 0 (k + 1) r e rfl (by simpa using hk)
    · simpa using h (i + 1) (k + 1) x e (by simpa using hx) (by simpa using he)
/-- the sizes -/
theorem exq_le {c : Nat} {F : List Rw → Int} {N M : Nat} : ∀ {l pre : List Rw} {s : Int}, s.natAbs = 1 → (∀ r ∈ l, (r c).natAbs ≤ N) → (∀ q r m, l = q ++ r :: m → (F (pre ++ q ++ m)).natAbs ≤ M) → (exq c F pre l s).natAbs ≤ l.length * (N * M)
  | [], pre, s, _, _, _ => by simp [exq]
  | r :: l, pre, s, hs, hn, hm => by
    have h0 := hm [] r l rfl
    rw [List.append_nil] at h0
    have ih := exq_le (c := c) (F := F) (N := N) (M := M) (l := l) (pre := pre ++ [r]) (s := -s) (by omega) (fun x hx => hn x (List.mem_cons_of_mem _ hx)) fun q x m e => by
      have z := hm (r :: q) x m (by rw [e]; rfl)
      have e2 : pre ++ [r] ++ q ++ m = pre ++ (r :: q) ++ m := by simp
      rw [e2]
      exact z
    rw [exq, List.length_cons]
    have t : (s * r c * F (pre ++ l)).natAbs ≤ N * M := by
      rw [Int.natAbs_mul, Int.natAbs_mul, hs, Nat.one_mul]
      exact Nat.mul_le_mul (hn r (List.mem_cons_self ..)) h0
    have a := Int.natAbs_add_le (s * r c * F (pre ++ l)) (exq c F (pre ++ [r]) l (-s))
    rw [Nat.add_mul, Nat.one_mul]
    omega
theorem dt_le {N : Nat} : ∀ (cs : List Nat) (l : List Rw), cs.length = l.length → (∀ r ∈ l, ∀ c ∈ cs, (r c).natAbs ≤ N) → (dt cs l).natAbs ≤ (cs.length * N) ^ cs.length
  | [], l, _, _ => by simp [dt]
  | c :: cs, l, h, hn => by
    rw [dt]
    have z := exq_le (c := c) (F := dt cs) (N := N) (M := (cs.length * N) ^ cs.length) (l := l) (pre := []) (s := 1) (by decide) (fun r hr => hn r hr c (List.mem_cons_self ..)) fun q r m e => by
      refine dt_le cs _ (by rw [e] at h; simp at h ⊢; omega) fun x hx d hd => hn x ?_ d (List.mem_cons_of_mem _ hd)
      rw [e]
      simp at hx ⊢
      rcases hx with hx | hx
      · exact .inl hx
      · exact .inr (.inr hx)
    refine Nat.le_trans z ?_
    have hl : l.length = cs.length + 1 := by simp at h; omega
    rw [hl, List.length_cons, Nat.pow_succ, Nat.mul_comm]
    have m : (cs.length * N) ^ cs.length ≤ ((cs.length + 1) * N) ^ cs.length := Nat.pow_le_pow_left (Nat.mul_le_mul_right _ (by omega)) _
    calc N * (cs.length * N) ^ cs.length * (cs.length + 1) = (cs.length * N) ^ cs.length * ((cs.length + 1) * N) := by ac_rfl
      _ ≤ ((cs.length + 1) * N) ^ cs.length * ((cs.length + 1) * N) := Nat.mul_le_mul_right _ m
end Ob

set_option maxHeartbeats 4000000
namespace Ob
/-! ### tables: all columns, those of the amounts beside the lines, too -/
structure Tbl (A W : List Rw) (B : List Nat) (b : Int) : Prop where
  lw : W.length = A.length
  lb : B.length = A.length
  pos : 0 < b
  bas : ∀ (i k : Nat) (r : Rw) (c : Nat), W[i]? = some r → B[k]? = some c → r c = if i = k then b else 0
  det : ∀ J : List Nat, J.length = A.length → dt J W = b ^ (A.length - 1) * dt J A
theorem prodL_rep (x : Int) : ∀ n : Nat, prodL (List.replicate n x) = x ^ n
  | 0 => by simp [prodL]
  | n + 1 => by
    rw [List.replicate_succ, prodL, prodL_rep x n, Int.pow_succ]
    exact Int.mul_comm ..
theorem prodL_erase : ∀ (ds : List Int) (i : Nat) (d : Int), ds[i]? = some d → prodL (ds.eraseIdx i) * d = prodL ds
  | [], i, d, h => by simp at h
  | e :: ds, 0, d, h => by
    have z : e = d := by simpa using h
    subst z
    show prodL ds * e = e * prodL ds
    exact Int.mul_comm ..
  | e :: ds, i + 1, d, h => by
    have z := prodL_erase ds i d (by simpa using h)
    show e * prodL (ds.eraseIdx i) * d = e * prodL ds
    rw [Int.mul_assoc, z]
theorem prodL_set : ∀ (ds : List Int) (a : Nat) (x p : Int), ds[a]? = some x → prodL (ds.set a p) * x = prodL ds * p
  | [], a, x, p, h => by simp at h
  | e :: ds, 0, x, p, h => by
    have z : e = x := by simpa using h
    subst z
    show p * prodL ds * e = e * prodL ds * p
    ac_rfl
  | e :: ds, a + 1, x, p, h => by
    have z := prodL_set ds a x p (by simpa using h)
    show e * prodL (ds.set a p) * x = e * prodL ds * p
    rw [Int.mul_assoc, z, Int.mul_assoc]
theorem pow_pos' {b : Int} (h : 0 < b) : ∀ n : Nat, 0 < b ^ n
  | 0 => by rw [Int.pow_zero]; decide
  | n + 1 => by rw [Int.pow_succ]; exact Int.mul_pos (pow_pos' h n) h
/-- each number is a determinant -/
theorem Tbl.entry {A W : List Rw} {B : List Nat} {b : Int} (T : Tbl A W B b) {i : Nat} {r : Rw} (hi : W[i]? = some r) (j : Nat) : r j = dt (B.set i j) A := by
  have hil := (List.getElem?_eq_some_iff.mp hi).1
  have lw := T.lw
  have lb := T.lb
  have D : Diag W B (List.replicate A.length b) := Diag.of (by omega) (by rw [List.length_replicate]; omega) fun i k x c hx hc => by
    have := (List.getElem?_eq_some_iff.mp hx).1
    have eg : (List.replicate A.length b).getD i 0 = b := by
      rw [List.getD_eq_getElem?_getD, List.getElem?_replicate, if_pos (by omega)]
      rfl
    rw [T.bas i k x c hx hc, eg]
  have z := D.cramer (j := j) hi
  rw [T.det _ (by rw [List.length_set]; omega)] at z
  have e := prodL_erase (List.replicate A.length b) i b (by rw [List.getElem?_replicate, if_pos (by omega)])
  rw [prodL_rep] at e
  have ep : b ^ A.length = b ^ (A.length - 1) * b := by rw [← Int.pow_succ]; congr 1; omega
  rw [ep] at e
  have b0 := T.pos
  have e2 : prodL ((List.replicate A.length b).eraseIdx i) = b ^ (A.length - 1) := Int.eq_of_mul_eq_mul_right (by omega) e
  rw [e2] at z
  have pp := pow_pos' b0 (A.length - 1)
  have z2 : r j * b ^ (A.length - 1) = dt (B.set i j) A * b ^ (A.length - 1) := by rw [← z]; exact Int.mul_comm ..
  exact Int.eq_of_mul_eq_mul_right (by omega) z2
/-- all rows but one made otherwise by it -/
def mixW (W : List Rw) (a : Nat) (p : Int) (u : Rw → Int) (w : Rw) : List Rw := (W.take a).map (fun r => lin p r (u r) w) ++ w :: (W.drop (a + 1)).map fun r => lin p r (u r) w
theorem split_at {W : List Rw} {a : Nat} {w : Rw} (h : W[a]? = some w) : W = W.take a ++ w :: W.drop (a + 1) := by
  obtain ⟨hl, e⟩ := List.getElem?_eq_some_iff.mp h
  conv => lhs; rw [← List.take_append_drop a W, List.drop_eq_getElem_cons hl, e]
theorem dt_mix {W : List Rw} {a : Nat} {w : Rw} (h : W[a]? = some w) (p : Int) (u : Rw → Int) (J : List Nat) (hJ : J.length = W.length) : dt J (mixW W a p u w) = p ^ (W.length - 1) * dt J W := by
  have e := split_at h
  have hal := (List.getElem?_eq_some_iff.mp h).1
  have l1 : (W.take a).length = a := by rw [List.length_take]; omega
  have l2 : (W.drop (a + 1)).length = W.length - (a + 1) := List.length_drop ..
  unfold mixW
  rw [dt_ahead p w u [] (W.take a).length (W.take a) J rfl _ (by simp; omega), dt_behind p w u (W.drop (a + 1)) (W.take a) J (by simp; omega), ← e, ← Int.mul_assoc, ← Int.pow_add, l1, l2]
  congr 2
  omega
theorem mix_at {W : List Rw} {a : Nat} {w : Rw} (h : W[a]? = some w) (p : Int) (u : Rw → Int) : (mixW W a p u w)[a]? = some w ∧ ∀ i r, i ≠ a → W[i]? = some r → (mixW W a p u w)[i]? = some (lin p r (u r) w) := by
  have hal := (List.getElem?_eq_some_iff.mp h).1
  have l1 : ((W.take a).map fun r => lin p r (u r) w).length = a := by rw [List.length_map, List.length_take]; omega
  unfold mixW
  constructor
  · rw [List.getElem?_append_right (by omega), l1, Nat.sub_self]
    rfl
  · intro i r hi hr
    by_cases c : i < a
    · rw [List.getElem?_append_left (by omega), List.getElem?_map, List.getElem?_take, if_pos c, hr]
      rfl
    · rw [List.getElem?_append_right (by omega), l1, show i - a = (i - a - 1) + 1 by omega, List.getElem?_cons_succ, List.getElem?_map, List.getElem?_drop, show a + 1 + (i - a - 1) = i by omega, hr]
      rfl
theorem mix_len {W : List Rw} {a : Nat} {w : Rw} (h : W[a]? = some w) (p : Int) (u : Rw → Int) : (mixW W a p u w).length = W.length := by
  have hal := (List.getElem?_eq_some_iff.mp h).1
  unfold mixW
  simp
  omega
section
variable {A W : List Rw} {B : List Nat} {b : Int} {a c : Nat} {w : Rw}
theorem Tbl.diag (T : Tbl A W B b) (ha : W[a]? = some w) (hp : 0 < w c) : Diag (mixW W a (w c) (fun r => r c) w) (B.set a c) ((List.replicate A.length (w c * b)).set a (w c)) := by
  have hal := (List.getElem?_eq_some_iff.mp ha).1
  have lw := T.lw
  have lb := T.lb
  have M := mix_at ha (w c) (fun r => r c)
  have ml := mix_len ha (w c) (fun r => r c)
  refine Diag.of (by rw [ml, List.length_set]; omega) (by rw [List.length_set, List.length_set, List.length_replicate]; omega) fun i k r d hr hd => ?_
  have hil := (List.getElem?_eq_some_iff.mp hr).1
  rw [ml] at hil
  obtain ⟨q, hq⟩ : ∃ q, W[i]? = some q := ⟨_, List.getElem?_eq_getElem hil⟩
  have eg : ((List.replicate A.length (w c * b)).set a (w c)).getD i 0 = if i = a then w c else w c * b := by
    rw [List.getD_eq_getElem?_getD, List.getElem?_set, List.length_replicate]
    by_cases e : a = i
    · rw [if_pos e, if_pos (by omega), if_pos e.symm]
      rfl
    · rw [if_neg e, if_neg (fun z => e z.symm), List.getElem?_replicate, if_pos (by omega)]
      rfl
  rw [eg]
  rw [List.getElem?_set] at hd
  by_cases ei : i = a
  · subst ei
    rw [M.1] at hr
    have er : w = r := by injection hr
    subst er
    rw [if_pos rfl]
    by_cases ek : i = k
    · rw [if_pos ek, if_pos (by omega)] at hd
      have ed : c = d := by injection hd
      rw [if_pos ek, ed]
    · rw [if_neg ek] at hd
      rw [if_neg ek, T.bas i k w d ha hd, if_neg ek]
  · rw [M.2 i q ei hq] at hr
    have er : lin (w c) q (q c) w = r := by injection hr
    subst er
    rw [if_neg ei]
    show w c * q d - q c * w d = _
    by_cases ek : a = k
    · rw [if_pos ek, if_pos (by omega)] at hd
      have ed : c = d := by injection hd
      rw [if_neg (by omega), ← ed, Int.mul_comm]
      omega
    · rw [if_neg ek] at hd
      rw [T.bas i k q d hq hd, T.bas a k w d ha hd, if_neg ek]
      split <;> simp
theorem Tbl.exact (T : Tbl A W B b) (ha : W[a]? = some w) (hp : 0 < w c) {i : Nat} {r : Rw} (hi : W[i]? = some r) (ne : i ≠ a) (j : Nat) : w c * r j - r c * w j = b * dt ((B.set a c).set i j) A := by
  have hal := (List.getElem?_eq_some_iff.mp ha).1
  have hil := (List.getElem?_eq_some_iff.mp hi).1
  have lw := T.lw
  have lb := T.lb
  have D := T.diag ha hp
  have M := (mix_at ha (w c) (fun r => r c)).2 i r ne hi
  have z := D.cramer (j := j) M
  rw [dt_mix ha _ _ _ (by rw [List.length_set, List.length_set]; omega), T.det _ (by rw [List.length_set, List.length_set]; omega), lw] at z
  have b0 := T.pos
  have e1 := prodL_erase ((List.replicate A.length (w c * b)).set a (w c)) i (w c * b) (by rw [List.getElem?_set, if_neg (fun q => ne q.symm), List.getElem?_replicate, if_pos (by omega)])
  have e2 := prodL_set (List.replicate A.length (w c * b)) a (w c * b) (w c) (by rw [List.getElem?_replicate, if_pos (by omega)])
  rw [prodL_rep] at e2
  show lin (w c) r (r c) w j = _
  generalize lin (w c) r (r c) w j = V at *
  generalize dt ((B.set a c).set i j) A = X at *
  generalize prodL (((List.replicate A.length (w c * b)).set a (w c)).eraseIdx i) = E at *
  generalize prodL ((List.replicate A.length (w c * b)).set a (w c)) = S at *
  generalize w c = p at *
  obtain ⟨n, hn⟩ : ∃ n, A.length = n + 1 := ⟨A.length - 1, by omega⟩
  rw [hn, Nat.add_sub_cancel] at z
  rw [hn] at e2
  have hpb := Int.mul_pos hp b0
  have pn := pow_pos' hp n
  have bn := pow_pos' b0 n
  -- E (pb) (pb) = (pb)^(n+1) p
  have e3 : E * (p * b) * (p * b) = p ^ n * b ^ n * (p * b) * p := by
    rw [e1, e2, Int.pow_succ, Int.mul_pow]
  have e4 : E * (p * b) = p ^ n * b ^ n * p := Int.eq_of_mul_eq_mul_right (show p * b ≠ 0 by omega) (by rw [e3]; ac_rfl)
  have e5 : E * b = p ^ n * b ^ n := Int.eq_of_mul_eq_mul_right (show p ≠ 0 by omega) (by rw [← e4]; ac_rfl)
  have e6 : p ^ n * b ^ n * V = p ^ n * b ^ n * (b * X) := by
    rw [← e5]
    calc E * b * V = V * E * b := by ac_rfl
      _ = p ^ n * (b ^ n * X) * b := by rw [← z]
      _ = p ^ n * b ^ n * (b * X) := by ac_rfl
      _ = E * b * (b * X) := by rw [e5]
  exact Int.eq_of_mul_eq_mul_left (show p ^ n * b ^ n ≠ 0 by have := Int.mul_pos pn bn; omega) e6
/-- an exchange -/
theorem Tbl.step (T : Tbl A W B b) (ha : W[a]? = some w) (hp : 0 < w c) {W' : List Rw} (hl : W'.length = W.length) (ha' : W'[a]? = some w) (h : ∀ i r r', i ≠ a → W[i]? = some r → W'[i]? = some r' → ∀ j, b * r' j = w c * r j - r c * w j) : Tbl A W' (B.set a c) (w c) := by
  have hal := (List.getElem?_eq_some_iff.mp ha).1
  have lw := T.lw
  have lb := T.lb
  have b0 := T.pos
  have V : mixW W a (w c) (fun r => r c) w = mixW W' a b (fun _ => 0) w := by
    refine List.ext_getElem? fun i => ?_
    have M := mix_at ha (w c) (fun r => r c)
    have M' := mix_at ha' b (fun _ => 0)
    by_cases ei : i = a
    · subst ei
      rw [M.1, M'.1]
    · by_cases hil : i < W.length
      · obtain ⟨q, hq⟩ : ∃ q, W[i]? = some q := ⟨_, List.getElem?_eq_getElem hil⟩
        obtain ⟨q', hq'⟩ : ∃ q', W'[i]? = some q' := ⟨_, List.getElem?_eq_getElem (by omega)⟩
        rw [M.2 i q ei hq, M'.2 i q' ei hq']
        congr 1
        funext j
        show w c * q j - q c * w j = b * q' j - 0 * w j
        rw [h i q q' ei hq hq' j]
        simp
      · rw [List.getElem?_eq_none (by rw [mix_len ha]; omega), List.getElem?_eq_none (by rw [mix_len ha']; omega)]
  have D := T.diag ha hp
  refine ⟨by omega, by rw [List.length_set]; exact lb, hp, fun i k r d hr hd => ?_, fun J hJ => ?_⟩
  · have hil := (List.getElem?_eq_some_iff.mp hr).1
    obtain ⟨q, hq⟩ : ∃ q, W[i]? = some q := ⟨_, List.getElem?_eq_getElem (by omega)⟩
    rw [List.getElem?_set] at hd
    by_cases ei : i = a
    · subst ei
      rw [ha'] at hr
      have er : w = r := by injection hr
      subst er
      by_cases ek : i = k
      · rw [if_pos ek, if_pos (by omega)] at hd
        have ed : c = d := by injection hd
        rw [if_pos ek, ed]
      · rw [if_neg ek] at hd
        rw [if_neg ek, T.bas i k w d ha hd, if_neg ek]
    · have e := h i q r ei hq hr d
      by_cases ek : a = k
      · rw [if_pos ek, if_pos (by omega)] at hd
        have ed : c = d := by injection hd
        rw [if_neg (by omega)]
        rw [← ed, Int.mul_comm (w c)] at e
        have e2 : b * r c = 0 := by omega
        rw [← ed]
        rcases Int.mul_eq_zero.mp e2 with z | z
        · omega
        · exact z
      · rw [if_neg ek] at hd
        rw [T.bas i k q d hq hd, T.bas a k w d ha hd, if_neg ek, Int.mul_zero, Int.sub_zero] at e
        by_cases ik : i = k
        · rw [if_pos ik] at e ⊢
          rw [Int.mul_comm (w c)] at e
          exact Int.eq_of_mul_eq_mul_left (by omega) e
        · rw [if_neg ik] at e ⊢
          rw [Int.mul_zero] at e
          rcases Int.mul_eq_zero.mp e with z | z
          · omega
          · exact z
  · have e1 := dt_mix ha (w c) (fun r => r c) J (by omega)
    have e2 := dt_mix ha' b (fun _ => 0) J (by omega)
    rw [V, e2, T.det J hJ, hl, lw] at e1
    have bp := pow_pos' b0 (A.length - 1)
    have e3 : b ^ (A.length - 1) * dt J W' = b ^ (A.length - 1) * (w c ^ (A.length - 1) * dt J A) := by rw [e1]; ac_rfl
    exact Int.eq_of_mul_eq_mul_left (by omega) e3
end
/-- the first table -/
theorem Tbl.init {A : List Rw} {B : List Nat} (lb : B.length = A.length) (bas : ∀ (i k : Nat) (r : Rw) (c : Nat), A[i]? = some r → B[k]? = some c → r c = if i = k then 1 else 0) : Tbl A A B 1 := ⟨rfl, lb, by decide, bas, fun J _ => by rw [Int.one_pow, Int.one_mul]⟩
end Ob

set_option maxHeartbeats 4000000
namespace Ob
open PySem PySem.Spec PyProof.Rows L2
/-! ### tables as the program has them -/
def woR (b : Int) (c : Nat) (ch line : List Int) : List Int := ((line.zip ch).map fun e => (e.1 * An ch c - An line c * e.2) / b).set c (-(An line c))
def exT (T : List (List Int)) (b : Int) (a c : Nat) (ch : List Int) : List (List Int) := (T.map (woR b c ch)).set a (ch.set c b)
/-- lists of numbers, by their places -/
def RowsAt (H : Hp) (ls : List Addr) (T : List (List Int)) : Prop := Paired (fun l t => H l = some (.lst (t.map V.int))) ls T
theorem RowsAt.same {H H' : Hp} {ls : List Addr} {T : List (List Int)} (h : RowsAt H ls T) (s : Same H H') : RowsAt H' ls T := Paired.mapP h fun _ _ e => s _ _ e
theorem RowsAt.keep {H H' : Hp} {ls : List Addr} {T : List (List Int)} (h : RowsAt H ls T) (k : ∀ l ∈ ls, ∀ o, H l = some o → H' l = some o) : RowsAt H' ls T := by
  unfold RowsAt at *
  induction h with
  | nil => exact .nil
  | cons e t ih => exact .cons (k _ (List.mem_cons_self ..) _ e) (ih fun l hl => k l (List.mem_cons_of_mem _ hl))
theorem RowsAt.at {H : Hp} : ∀ {ls : List Addr} {T : List (List Int)} {i : Nat} {x : V}, RowsAt H ls T → (ls.map V.ref)[i]? = some x → ∃ (l : Addr) (t : List Int), x = .ref l ∧ ls[i]? = some l ∧ T[i]? = some t ∧ H l = some (.lst (t.map V.int))
  | _, _, i, x, .nil, hx => by simp at hx
  | l :: ls, t :: T, 0, x, .cons e r, hx => ⟨l, t, (Option.some.inj hx).symm, rfl, rfl, e⟩
  | l :: ls, t :: T, i + 1, x, .cons e r, hx => by
    obtain ⟨l', t', e1, e2, e3, e4⟩ := RowsAt.at (i := i) r (by simpa using hx)
    exact ⟨l', t', e1, by simpa using e2, by simpa using e3, e4⟩
theorem RowsAt.snoc {H : Hp} {ls : List Addr} {T : List (List Int)} {l : Addr} {t : List Int} (h : RowsAt H ls T) (e : H l = some (.lst (t.map V.int))) : RowsAt H (ls ++ [l]) (T ++ [t]) := paired_snoc (F := fun (l : Addr) (t : List Int) => H l = some (HO.lst (t.map V.int))) e h
theorem RowsAt.len {H : Hp} {ls : List Addr} {T : List (List Int)} (h : RowsAt H ls T) : ls.length = T.length := Paired.length h
theorem RowsAt.set {H : Hp} : ∀ {ls : List Addr} {T : List (List Int)} (i : Nat) {l : Addr} {t : List Int}, RowsAt H ls T → H l = some (.lst (t.map V.int)) → RowsAt H (ls.set i l) (T.set i t)
  | _, _, i, l, t, .nil, e => .nil
  | _ :: _, _ :: _, 0, l, t, .cons e1 r, e => .cons e r
  | _ :: _, _ :: _, i + 1, l, t, .cons e1 r, e => .cons e1 (RowsAt.set i r e)
theorem fracs_set {H : Hp} : ∀ {rs : List Addr} {ts : List (Int × Int)} (i : Nat) {r : Addr} {t : Int × Int}, FracsAt H rs ts → H r = some (.tup [.int t.1, .int t.2]) → FracsAt H (rs.set i r) (ts.set i t)
  | _, _, i, r, t, .nil, e => .nil
  | _ :: _, _ :: _, 0, r, t, .cons e1 q, e => .cons e q
  | _ :: _, _ :: _, i + 1, r, t, .cons e1 q, e => .cons e1 (fracs_set i q e)
theorem fracs_get {H : Hp} : ∀ {rs : List Addr} {ts : List (Int × Int)} {i : Nat} {t : Int × Int}, FracsAt H rs ts → ts[i]? = some t → ∃ r, rs[i]? = some r ∧ H r = some (.tup [.int t.1, .int t.2])
  | _, _, i, t, .nil, hx => by simp at hx
  | r :: rs, u :: ts, 0, t, .cons e q, hx => by
    have z : u = t := by simpa using hx
    subst z
    exact ⟨r, rfl, e⟩
  | r :: rs, u :: ts, i + 1, t, .cons e q, hx => by
    obtain ⟨r', e1, e2⟩ := fracs_get (i := i) q (by simpa using hx)
    exact ⟨r', by simpa using e1, e2⟩
/-- the attributes of a Table -/
abbrev tflds (L B A : Addr) (b : Int) : List (Str × V) := [("lines", .ref L), ("beside", .ref B), ("atop", .ref A), ("bottom", .int b)]
theorem tf_lines (L B A : Addr) (b : Int) : (tflds L B A b).lookup ("lines" : Str) = some (.ref L) := by simp [tflds, List.lookup]
theorem tf_beside (L B A : Addr) (b : Int) : (tflds L B A b).lookup ("beside" : Str) = some (.ref B) := by
  have h : (("beside" : Str) == ("lines" : Str)) = false := by decide
  simp [tflds, List.lookup, h]
theorem tf_atop (L B A : Addr) (b : Int) : (tflds L B A b).lookup ("atop" : Str) = some (.ref A) := by
  have h : (("atop" : Str) == ("lines" : Str)) = false := by decide
  have h2 : (("atop" : Str) == ("beside" : Str)) = false := by decide
  simp [tflds, List.lookup, h, h2]
theorem tf_bottom (L B A : Addr) (b : Int) : (tflds L B A b).lookup ("bottom" : Str) = some (.int b) := by
  have h : (("bottom" : Str) == ("lines" : Str)) = false := by decide
  have h2 : (("bottom" : Str) == ("beside" : Str)) = false := by decide
  have h3 : (("bottom" : Str) == ("atop" : Str)) = false := by decide
  simp [tflds, List.lookup, h, h2, h3]
theorem tf_no (L B A : Addr) (b : Int) {m : Str} (h1 : (m == ("lines" : Str)) = false) (h2 : (m == ("beside" : Str)) = false) (h3 : (m == ("atop" : Str)) = false) (h4 : (m == ("bottom" : Str)) = false) : (tflds L B A b).lookup m = none := by simp [tflds, List.lookup, h1, h2, h3, h4]
theorem tf_setL (L L' B A : Addr) (b : Int) : putF "lines" (.ref L') (tflds L B A b) = tflds L' B A b := by simp [tflds, putF]
theorem tf_setb (L B A : Addr) (b b' : Int) : putF "bottom" (.int b') (tflds L B A b) = tflds L B A b' := by
  have h : ¬ ("lines" : Str) = "bottom" := by decide
  have h2 : ¬ ("beside" : Str) = "bottom" := by decide
  have h3 : ¬ ("atop" : Str) = "bottom" := by decide
  simp [tflds, putF, h, h2, h3]
/-- a Table at p: its lists of names stand at B and A -/
structure TabAt (C : Addr) (H : Hp) (p B A : Addr) (T : List (List Int)) (ns ms : List (Int × Int)) (b : Int) : Prop where
  ob : ∃ (dx L : Addr) (ls bs as : List Addr), H p = some (.ins C dx (tflds L B A b)) ∧ H L = some (.lst (ls.map V.ref)) ∧ RowsAt H ls T ∧ H B = some (.lst (bs.map V.ref)) ∧ FracsAt H bs ns ∧ H A = some (.lst (as.map V.ref)) ∧ FracsAt H as ms
  ne : B ≠ A
theorem TabAt.same {C : Addr} {H H' : Hp} {p B A : Addr} {T : List (List Int)} {ns ms : List (Int × Int)} {b : Int} (h : TabAt C H p B A T ns ms b) (s : Same H H') : TabAt C H' p B A T ns ms b :=
  let ⟨dx, L, ls, bs, as, e1, e2, e3, e4, e5, e6, e7⟩ := h.ob
  ⟨⟨dx, L, ls, bs, as, s _ _ e1, s _ _ e2, e3.same s, s _ _ e4, e5.same s, s _ _ e6, e7.same s⟩, h.ne⟩
/-- the class -/
structure TTk (K : PySem.W.Frag) (mg : Str → Option Value) (C : Addr) : Prop where
  cl : Cls K C
  nl : NoAttr K C "lines"
  nb : NoAttr K C "beside"
  na : NoAttr K C "atop"
  no : NoAttr K C "bottom"
  mgC : mg "Table" = some (.ref C)
structure Fit (T : List (List Int)) (k : Nat) : Prop where
  len : T.length ≤ 20
  row : ∀ t ∈ T, t.length = k
  few : k ≤ 12
  bt : ∀ t ∈ T, ∀ z ∈ t, Bt 900 z
def spTInit (C : Addr) : Sp := fun vs H Q _ => ∃ (p ll nb na dx : Addr) (ls bs as : List Addr) (T : List (List Int)) (ns ms : List (Int × Int)) (k : Nat), vs = [.ref p, .ref ll, .ref nb, .ref na] ∧ H p = some (.ins C dx []) ∧ H ll = some (.lst (ls.map V.ref)) ∧ RowsAt H ls T ∧ Fit T k ∧
  H nb = some (.lst (bs.map V.ref)) ∧ FracsAt H bs ns ∧ H na = some (.lst (as.map V.ref)) ∧ FracsAt H as ms ∧
  ∀ (B A : Addr) (H' : Hp), H B = none → H A = none → TabAt C H' p B A T ns ms 1 → (∀ x o, H x = some o → x ≠ p → H' x = some o) → Q .non H'
def spWithout (C : Addr) : Sp := fun vs H Q _ => ∃ (p la lb dx L B A : Addr) (b : Int) (line ch : List Int) (c : Nat), vs = [.ref p, .ref la, .ref lb, .int (c : Int)] ∧ H p = some (.ins C dx (tflds L B A b)) ∧ H la = some (.lst (line.map V.int)) ∧ H lb = some (.lst (ch.map V.int)) ∧ line.length = ch.length ∧ c < ch.length ∧ ch.length ≤ 12 ∧
  0 < b ∧ Bt 900 b ∧ (∀ z ∈ line, Bt 900 z) ∧ (∀ z ∈ ch, Bt 900 z) ∧ ∀ (r : Addr) (H' : Hp), Same H H' → H r = none → H' r = some (.lst ((woR b c ch line).map V.int)) → Q (.ref r) H'
def spExch (C : Addr) : Sp := fun vs H Q _ => ∃ (p B A : Addr) (T : List (List Int)) (ns ms : List (Int × Int)) (b : Int) (a c k : Nat) (ch : List Int) (na mc : Int × Int), vs = [.ref p, .int (a : Int), .int (c : Int)] ∧ TabAt C H p B A T ns ms b ∧ Fit T k ∧ c < k ∧ T[a]? = some ch ∧ ns[a]? = some na ∧ ms[c]? = some mc ∧ 0 < b ∧ Bt 900 b ∧ ns.length ≤ 20 ∧ ms.length ≤ 20 ∧
  ∀ H', TabAt C H' p B A (exT T b a c ch) (ns.set a mc) (ms.set c na) (An ch c) → (∀ x o, H x = some o → x ≠ p → x ≠ B → x ≠ A → H' x = some o) → Q .non H'
end Ob
namespace L2
open PySem PySem.Spec PyProof.Rows
/-- within a block: the frag said -/
theorem pe_fldK {X : Cx} {K : PySem.W.Frag} {e : Expr} {ta : TE} {f : Str} {pos : Pos} (hK : X.K = K) (he : PE X e ta) (hb : attributeBase e f X.env (eval e X.env) = eval e X.env) : PE X (.Attribute e f pos) (tFld K ta f) := by
  subst hK
  exact pe_fld he hb
def rListOf (K : PySem.W.Frag) : List V → Hp → VK → Prop := fun xs H Q => ∃ p ys, xs = [.ref p] ∧ (SqL K H p ys ∨ SqT K H p ys) ∧ ∀ l, H l = none → Q (.ref l) (upd H l (.lst ys))
theorem call_list_ofK {X : Cx} {K : PySem.W.Frag} (hK : X.K = K) : CallR X (.type "list") (rListOf K) := by
  subst hK
  exact call_list_of
end L2

set_option maxHeartbeats 4000000
namespace Ob
open PySem PySem.Spec PyProof.Rows L2
theorem lc_enum {K : PySem.W.Frag} {a : Addr} {xs : List V} {g : TG} {tt : TT} {te : TE} {vs : List Nat} {σ : L2.St} {H1 : Hp} {D : Addr} {Qd : Hp → Prop} (Pv : Nat → Hp → Prop) (h0 : Pv 0 (upd H1 D (.lst [])))
    (hl : ∀ i H, i ≤ xs.length → Pv i H → SqL K H a xs)
    (hs : ∀ i x T H, xs[i]? = some x → H T = none → Pv i H → g (.ref T) (wipe σ vs) (upd H T (.tup [.int (i : Nat), x])) fun σ2 H2 => wipe σ2 vs = wipe σ vs ∧ tt σ2 H2 fun b H3 =>
      if b = true then te σ2 H3 fun y H4 => ∃ acc, H4 D = some (.lst acc) ∧ acc.length < sizeLine ∧ Pv (i + 1) (upd H4 D (.lst (acc ++ [y]))) else Pv (i + 1) H3) (hd : ∀ H, Pv xs.length H → Qd H) :
    ∃ W : Nat → Nat → Hp → Prop, (∃ m, W 0 m (upd H1 D (.lst []))) ∧ ∀ i m H, W i m H →
      ((Ite K a).stop i H ∧ Qd H) ∨ ((Ite K a).go i H ∧ ∃ Nx : Hp → Prop, (∀ H', Nx H' → ∃ m', m' < m ∧ W (i + 1) m' H') ∧ ∀ x H', (Ite K a).yld i H x H' → g x (wipe σ vs) H' fun σ2 H2 => wipe σ2 vs = wipe σ vs ∧ tt σ2 H2 fun b H3 =>
        if b = true then te σ2 H3 fun y H4 => ∃ acc, H4 D = some (.lst acc) ∧ acc.length < sizeLine ∧ Nx (upd H4 D (.lst (acc ++ [y]))) else Nx H3) := by
  refine ⟨fun i m H => m = xs.length - i ∧ i ≤ xs.length ∧ Pv i H, ⟨xs.length, by simp, Nat.zero_le _, h0⟩, ?_⟩
  rintro i m H ⟨rfl, hi, p⟩
  have q := hl i H hi p
  by_cases hlt : i < xs.length
  · refine .inr ⟨⟨xs, xs[i], q, by simp [hlt]⟩, Pv (i + 1), fun H' p' => ⟨xs.length - (i + 1), by omega, rfl, hlt, p'⟩, fun x H' y => ?_⟩
    obtain ⟨T, u, rfl, hT, rfl, e1⟩ := y
    exact hs i u T H (e1 xs q) hT p
  · have e : i = xs.length := by omega
    subst e
    exact .inl ⟨⟨xs, q, Nat.le_refl _⟩, hd H p⟩
theorem gcd_turn' {one other : Int} (h2 : 0 < other) : Int.gcd other (one % other) = Int.gcd one other := by
  apply Nat.dvd_antisymm
  · refine Int.dvd_gcd ?_ (Int.gcd_dvd_left ..)
    have a := Int.gcd_dvd_left other (one % other)
    have b := Int.gcd_dvd_right other (one % other)
    have e : one = other * (one / other) + one % other := (Int.mul_ediv_add_emod one other).symm
    have z0 : ((Int.gcd other (one % other) : Nat) : Int) ∣ other * (one / other) := Int.dvd_mul_of_dvd_left a
    have z := Int.dvd_add z0 b
    rw [← e] at z
    exact z
  · refine Int.dvd_gcd (Int.gcd_dvd_right ..) ?_
    have a := Int.gcd_dvd_left one other
    have b := Int.gcd_dvd_right one other
    have e : one % other = one - other * (one / other) := Int.emod_def ..
    rw [e]
    exact Int.dvd_sub a (Int.dvd_mul_of_dvd_left b)
/-! promises -/
def spLDiv : Sp := fun vs H Q _ => ∃ i j : Int, vs = [.int i, .int j] ∧ 0 < j ∧ Q (.int (Int.gcd i j : Int)) H
def spLIsFr : Sp := fun vs H Q _ => ∃ (r : Addr) (t b : Int), vs = [.ref r] ∧ H r = some (.tup [.int t, .int b]) ∧ 0 < b ∧ Int.gcd t b = 1 ∧ Q (.bl true) H
def spLShow : Sp := fun vs H Q _ => ∃ (a : Addr) (xs : List Int), vs = [.ref a] ∧ H a = some (.lst (xs.map V.int)) ∧ xs.length ≤ 12 ∧ (∀ x ∈ xs, Bt 600 x) ∧ ∀ H', Same H H' → Q (.bl (showsB xs)) H'
/-! ### what lies behind a place -/
def behF (p : Int) (e : Int × Nat) : Bool := decide (p < ((e.2 : Nat) : Int))
def behG (p : Int) (e : Int × Nat) : Int := e.1 * (((e.2 : Nat) : Int) - p)
def behS (xs : List Int) (p : Int) : Int := ((xs.zipIdx.filter (behF p)).map (behG p)).sum
theorem beh_split (p : Int) : ∀ (xs : List Int) (s : Nat), (((xs.zipIdx s).filter (behF p)).map (behG p)).sum = ((xs.zipIdx s).map fun e => e.1 * ((e.2 : Nat) : Int)).sum - p * xs.sum + (((xs.zipIdx s).filter fun e => !behF p e).map fun e => e.1 * (p - ((e.2 : Nat) : Int))).sum
  | [], s => by simp
  | x :: xs, s => by
    have ih := beh_split p xs (s + 1)
    rw [List.zipIdx_cons, List.map_cons, List.sum_cons, List.sum_cons]
    cases h : behF p (x, s) with
    | true =>
      rw [List.filter_cons_of_pos h, List.filter_cons_of_neg (by simp [h]), List.map_cons, List.sum_cons, ih]
      show x * ((s : Int) - p) + _ = (x * (s : Int) + _) - p * (x + xs.sum) + _
      rw [Int.mul_sub, Int.mul_add, Int.mul_comm p x]
      omega
    | false =>
      rw [List.filter_cons_of_neg (by simp [h]), List.filter_cons_of_pos (by simp [h]), List.map_cons, List.sum_cons, ih]
      show _ = (x * (s : Int) + _) - p * (x + xs.sum) + (x * (p - (s : Int)) + _)
      rw [Int.mul_sub, Int.mul_add, Int.mul_comm p x]
      omega
theorem beh_take (p : Nat) : ∀ (xs : List Int) (s : Nat), (((xs.zipIdx s).filter fun e => !behF p e).map fun e => e.1 * ((p : Int) - ((e.2 : Nat) : Int))).sum = (((xs.take (p - s)).zipIdx s).map fun e => e.1 * ((p : Int) - ((e.2 : Nat) : Int))).sum
  | [], s => by simp
  | x :: xs, s => by
    have ih := beh_take p xs (s + 1)
    rw [List.zipIdx_cons]
    by_cases h : s < p
    · have e1 : behF p (x, s) = false := decide_eq_false (by show ¬ (p : Int) < (s : Int); omega)
      have e2 : p - s = (p - (s + 1)) + 1 := by omega
      rw [List.filter_cons_of_pos (by simp [e1]), e2, List.take_succ_cons, List.zipIdx_cons, List.map_cons, List.sum_cons, List.map_cons, List.sum_cons, ih]
    · have e2 : p - s = 0 := by omega
      have e3 : p - (s + 1) = 0 := by omega
      rw [e3] at ih
      rw [e2]
      by_cases h2 : s = p
      · have e1 : behF p (x, s) = false := decide_eq_false (by show ¬ (p : Int) < (s : Int); omega)
        rw [List.filter_cons_of_pos (by simp [e1]), List.map_cons, List.sum_cons, ih]
        show x * ((p : Int) - (s : Int)) + _ = _
        rw [h2, Int.sub_self, Int.mul_zero]
        simp
      · have e1 : behF p (x, s) = true := decide_eq_true (by show (p : Int) < (s : Int); omega)
        rw [List.filter_cons_of_neg (by simp [e1]), ih]
        simp
theorem beh_ahead {xs : List Int} (h1 : xs.sum = 0) (h2 : wS xs = 0) (p : Nat) : aheadS (xs.take p) p = behS xs p := by
  have z1 := beh_split p xs 0
  have z2 := beh_take p xs 0
  unfold behS aheadS
  unfold wS at h2
  rw [z1, z2, h1, h2]
  simp
theorem beh_far {xs : List Int} {p : Nat} (h : xs.length ≤ p + 1) : behS xs p = 0 := by
  unfold behS
  have e : xs.zipIdx.filter (behF p) = [] := by
    rw [List.filter_eq_nil_iff]
    rintro ⟨x, i⟩ hm
    have z := (List.mem_zipIdx hm).2.1
    unfold behF
    have : ¬ (p : Int) < (i : Int) := by omega
    simp [this]
  rw [e]
  rfl
theorem shows_beh {xs : List Int} (h1 : xs.sum = 0) (h2 : wS xs = 0) : showsB xs = true ↔ ∀ p : Nat, 1 ≤ p → p + 1 < xs.length → behS xs p ≤ 0 := by
  unfold showsB
  rw [decide_eq_true h1, decide_eq_true h2, Bool.true_and, Bool.true_and, List.all_eq_true]
  constructor
  · intro h p p1 p2
    have z := of_decide_eq_true (h p (List.mem_range.mpr (by omega)))
    rw [← beh_ahead h1 h2]
    exact z
  · intro h p hp
    have hp' := List.mem_range.mp hp
    refine decide_eq_true ?_
    rw [beh_ahead h1 h2]
    by_cases c1 : p = 0
    · subst c1
      rw [← beh_ahead h1 h2]
      simp [aheadS]
    · by_cases c2 : p + 1 < xs.length
      · exact h p (by omega) c2
      · rw [beh_far (by omega)]
        exact Int.le_refl _
end Ob

set_option maxHeartbeats 4000000
namespace Ob
open PySem PySem.Spec PyProof.Rows L2
end Ob

set_option maxHeartbeats 4000000
namespace Ob
open PySem PySem.Spec PyProof.Rows L2
/-- a price at hand -/
def PqV (H : Hp) (v : V) : Prop := ∃ (r : Addr) (t : Int × Int), v = .ref r ∧ Pq t ∧ H r = some (.tup [.int t.1, .int t.2])
def PqL (H : Hp) (n : Nat) (xs : List V) : Prop := xs.length = n ∧ ∀ v ∈ xs, PqV H v
theorem PqV.same {H H' : Hp} {v : V} (h : PqV H v) (s : Same H H') : PqV H' v := let ⟨r, t, e, p, k⟩ := h; ⟨r, t, e, p, s _ _ k⟩
theorem PqL.same {H H' : Hp} {n : Nat} {xs : List V} (h : PqL H n xs) (s : Same H H') : PqL H' n xs := ⟨h.1, fun v hv => (h.2 v hv).same s⟩
/-- a list of prices may be written on -/
theorem PqV.put {H : Hp} {v : V} {l : Addr} {xs : List V} {o : HO} (h : PqV H v) (hl : H l = some (.lst xs)) : PqV (upd H l o) v := by
  obtain ⟨r, t, e, p, k⟩ := h
  refine ⟨r, t, e, p, ?_⟩
  rw [upd_ne fun z => by rw [z, hl] at k; cases k]
  exact k
theorem PqL.rev {H : Hp} {n : Nat} {xs : List V} (h : PqL H n xs) : PqL H n xs.reverse := ⟨by rw [List.length_reverse]; exact h.1, fun v hv => h.2 v (List.mem_reverse.mp hv)⟩
theorem PqL.rep {H : Hp} {v : V} (n : Nat) (h : PqV H v) : PqL H n (List.replicate n v) := ⟨List.length_replicate, fun u hu => by rw [(List.mem_replicate.mp hu).2]; exact h⟩
theorem PqL.set {H : Hp} {n : Nat} {xs : List V} (h : PqL H n xs) (i : Nat) {v : V} (hv : PqV H v) : PqL H n (xs.set i v) := ⟨by rw [List.length_set]; exact h.1, fun u hu => by
  rcases List.mem_or_eq_of_mem_set hu with q | q
  · exact h.2 u q
  · rw [q]; exact hv⟩
theorem PqL.of {H : Hp} {a : Addr} {rs : List Addr} {ts : List (Int × Int)} (L : FqL H a rs ts) (pq : ∀ t ∈ ts, Pq t) : PqL H ts.length (rs.map V.ref) := by
  refine ⟨by rw [List.length_map]; exact Paired.length L.f, fun v hv => ?_⟩
  obtain ⟨i, hi⟩ := List.mem_iff_getElem?.mp hv
  obtain ⟨r, t, rfl, ht, hrt, fr⟩ := L.at hi
  exact ⟨r, t, rfl, pq t (List.mem_of_getElem? ht), hrt⟩
theorem PqL.fracs {H : Hp} : ∀ {xs : List V}, (∀ v ∈ xs, PqV H v) → ∃ (rs : List Addr) (ts : List (Int × Int)), xs = rs.map V.ref ∧ FracsAt H rs ts ∧ ∀ t ∈ ts, Pq t
  | [], _ => ⟨[], [], rfl, .nil, fun _ z => (nomatch z)⟩
  | v :: xs, h => by
    obtain ⟨r, t, rfl, p, k⟩ := h v (List.mem_cons_self ..)
    obtain ⟨rs, ts, e, f, q⟩ := PqL.fracs (xs := xs) fun u hu => h u (List.mem_cons_of_mem _ hu)
    exact ⟨r :: rs, t :: ts, by rw [e]; rfl, .cons k f, fun u hu => by
      rcases List.mem_cons.mp hu with z | z
      · rw [z]; exact p
      · exact q u z⟩
theorem PqL.fq {H : Hp} {n : Nat} {xs : List V} {l : Addr} (h : PqL H n xs) (hl : H l = some (.lst xs)) (h1 : 1 ≤ n) (h2 : n ≤ 12) : ∃ (rs : List Addr) (ts : List (Int × Int)), FqL H l rs ts ∧ ts.length = n ∧ ∀ t ∈ ts, Pq t := by
  obtain ⟨rs, ts, e, f, q⟩ := PqL.fracs h.2
  have hl' : ts.length = n := by rw [← Paired.length f, ← h.1, e, List.length_map]
  exact ⟨rs, ts, ⟨by rw [hl, e], f, fun t ht => (q t ht).fq, by omega, by omega⟩, hl', q⟩
theorem flat_ones {α : Type} (v : α) : ∀ n : Nat, (List.replicate n [v]).flatten = List.replicate n v
  | 0 => rfl
  | n + 1 => by
    rw [List.replicate_succ, List.flatten_cons, flat_ones v n, List.replicate_succ]
    rfl
theorem PqL.ne {H : Hp} {n : Nat} {xs : List V} {c d : Addr} (h : PqL H n xs) (hc : H c = some (.lst xs)) (h1 : 1 ≤ n) (hd : DkAt d H) : c ≠ d := fun z => by
  obtain ⟨ds, e, _⟩ := hd
  rw [← z, hc] at e
  have e2 : xs = ds.map V.int := by injection e with e; injection e
  obtain ⟨k, r⟩ := h
  cases xs with
  | nil => simp at k; omega
  | cons x xs =>
    obtain ⟨a, t, e3, _⟩ := r x (List.mem_cons_self ..)
    cases ds with
    | nil => cases e2
    | cons y ys =>
      rw [List.map_cons] at e2
      injection e2 with e4 _
      rw [e3] at e4
      cases e4
theorem PqL.flat {H : Hp} {v : V} {n : Nat} {k : Int} (hk : k.toNat = n) (h : PqV H v) : PqL H n (List.replicate k.toNat [v]).flatten := by
  rw [flat_ones, hk]
  exact PqL.rep n h
end Ob

set_option maxHeartbeats 4000000
namespace Ob
open PySem PySem.Spec PyProof.Rows L2
/-! ### tops over one bottom and over another -/
theorem sum_mulR {α : Type} (f : α → Int) (b : Int) : ∀ l : List α, (l.map fun e => f e * b).sum = (l.map f).sum * b
  | [] => by simp
  | e :: l => by rw [List.map_cons, List.map_cons, List.sum_cons, List.sum_cons, sum_mulR f b l, Int.add_mul]
def mulB (b : Int) (xs : List Int) : List Int := xs.map (· * b)
theorem mulB_dot (b : Int) (ns xs : List Int) : dotS ns (mulB b xs) = dotS ns xs * b := by
  unfold dotS mulB
  rw [List.zip_map_right, List.map_map, ← sum_mulR]
  congr 1
  exact List.map_congr_left fun e _ => by show e.1 * (e.2 * b) = e.1 * e.2 * b; ac_rfl
theorem over_mul {ts : List (Int × Int)} {L M : Int} (h : Over2 ts L) (g : Over2 ts M) : mulB M (ts.map (overT L)) = mulB L (ts.map (overT M)) := by
  unfold mulB
  rw [List.map_map, List.map_map]
  refine List.map_congr_left fun t ht => ?_
  show t.1 * (L / t.2) * M = t.1 * (M / t.2) * L
  have e1 := Int.ediv_mul_cancel (h.dvd t ht)
  have e2 := Int.ediv_mul_cancel (g.dvd t ht)
  calc t.1 * (L / t.2) * M = t.1 * (L / t.2) * (M / t.2 * t.2) := by rw [e2]
    _ = t.1 * (M / t.2) * (L / t.2 * t.2) := by ac_rfl
    _ = t.1 * (M / t.2) * L := by rw [e1]
theorem dot_any {ts : List (Int × Int)} {L M : Int} (ns : List Int) (h : Over2 ts L) (g : Over2 ts M) : (redT (dotS ns (ts.map (overT L))) L, redB (dotS ns (ts.map (overT L))) L) = (redT (dotS ns (ts.map (overT M))) M, redB (dotS ns (ts.map (overT M))) M) :=
  red_eq h.pos g.pos (by rw [← mulB_dot, ← mulB_dot, over_mul h g])
end Ob

set_option maxHeartbeats 4000000
namespace Ob
open PySem PySem.Spec PyProof.Rows L2
/-! ### sums over places -/
def sg (f : Nat → Int) : Nat → Int
  | 0 => 0
  | n + 1 => sg f n + f n
theorem sg_congr {f g : Nat → Int} : ∀ {n : Nat}, (∀ i, i < n → f i = g i) → sg f n = sg g n
  | 0, _ => rfl
  | n + 1, h => by rw [sg, sg, sg_congr fun i hi => h i (by omega), h n (by omega)]
theorem sg_add (f g : Nat → Int) : ∀ n, sg (fun i => f i + g i) n = sg f n + sg g n
  | 0 => rfl
  | n + 1 => by rw [sg, sg, sg, sg_add f g n]; omega
theorem sg_mul (f : Nat → Int) (c : Int) : ∀ n, sg (fun i => f i * c) n = sg f n * c
  | 0 => by simp [sg]
  | n + 1 => by rw [sg, sg, sg_mul f c n, Int.add_mul]
theorem sg_le {f g : Nat → Int} : ∀ {n : Nat}, (∀ i, i < n → f i ≤ g i) → sg f n ≤ sg g n
  | 0, _ => Int.le_refl _
  | n + 1, h => by
    have a := sg_le (n := n) fun i hi => h i (by omega)
    have b := h n (by omega)
    rw [sg, sg]
    omega
theorem sg_shift (f : Nat → Int) : ∀ n, sg f (n + 1) = f 0 + sg (fun i => f (i + 1)) n
  | 0 => by simp [sg]
  | n + 1 => by
    rw [sg, sg_shift f n, sg]
    omega
theorem sg_rev (f : Nat → Int) : ∀ n, sg (fun i => f (n - 1 - i)) n = sg f n
  | 0 => rfl
  | n + 1 => by
    rw [sg_shift]
    show f (n + 1 - 1 - 0) + _ = _
    rw [show n + 1 - 1 - 0 = n by omega, sg_congr (g := fun i => f (n - 1 - i)) (fun i hi => by show f (n + 1 - 1 - (i + 1)) = f (n - 1 - i); congr 1; omega), sg_rev f n, sg]
    omega
theorem sum_sg {α : Type} (g : α → Int) (f : Nat → Int) : ∀ (l : List α) (k : Nat), (∀ (i : Nat) (a : α), l[i]? = some a → g a = f (k + i)) → (l.map g).sum = sg (fun i => f (k + i)) l.length
  | [], _, _ => rfl
  | a :: l, k, h => by
    rw [List.map_cons, List.sum_cons, List.length_cons, sg_shift, h 0 a rfl, sum_sg g f l (k + 1) fun i b hb => by
      rw [h (i + 1) b (by simpa using hb)]
      congr 1
      omega]
    congr 1
    exact sg_congr fun i _ => by show f (k + 1 + i) = f (k + (i + 1)); congr 1; omega
theorem sum_sg0 {α : Type} (g : α → Int) (f : Nat → Int) (l : List α) (h : ∀ (i : Nat) (a : α), l[i]? = some a → g a = f i) : (l.map g).sum = sg f l.length := by
  rw [sum_sg g f l 0 fun i a ha => by rw [h i a ha]; congr 1; omega]
  exact sg_congr fun i _ => by show f (0 + i) = f i; congr 1; omega
/-- what stands ahead of a place, weighed -/
def ahF (x : Nat → Int) (p : Nat) : Int := sg (fun i => x i * ((p : Int) - (i : Int))) p
theorem ahF_next (x : Nat → Int) (p : Nat) : ahF x (p + 1) = ahF x p + sg x (p + 1) := by
  unfold ahF
  rw [sg, sg_congr (g := fun i => x i * ((p : Int) - (i : Int)) + x i) (fun i _ => by show x i * (((p + 1 : Nat) : Int) - (i : Int)) = _; rw [show ((p + 1 : Nat) : Int) - (i : Int) = ((p : Int) - (i : Int)) + 1 by omega, Int.mul_add, Int.mul_one]), sg_add, sg]
  rw [show ((p + 1 : Nat) : Int) - (p : Int) = 1 by omega]
  omega
theorem ahF_all (x : Nat → Int) : ∀ n : Nat, ahF x n = sg x n * (n : Int) - sg (fun i => x i * (i : Int)) n := by
  intro n
  unfold ahF
  have e : sg (fun i => x i * ((n : Int) - (i : Int))) n + sg (fun i => x i * (i : Int)) n = sg x n * (n : Int) := by
    rw [← sg_add, ← sg_mul]
    exact sg_congr fun i _ => by
      show x i * ((n : Int) - (i : Int)) + x i * (i : Int) = x i * (n : Int)
      rw [← Int.mul_add]
      congr 1
      omega
  omega
theorem parts (c x : Nat → Int) : ∀ n : Nat, sg (fun i => c i * x i) (n + 2) = c (n + 1) * sg x (n + 2) - (c (n + 1) - c n) * ahF x (n + 1) + sg (fun i => (c (i + 2) - 2 * c (i + 1) + c i) * ahF x (i + 1)) n
  | 0 => by
    simp [sg, ahF]
    grind
  | n + 1 => by
    have ih := parts c x n
    have s1 : sg (fun i => c i * x i) (n + 1 + 2) = sg (fun i => c i * x i) (n + 2) + c (n + 2) * x (n + 2) := rfl
    have s2 : sg x (n + 1 + 2) = sg x (n + 2) + x (n + 2) := rfl
    have s3 : sg (fun i => (c (i + 2) - 2 * c (i + 1) + c i) * ahF x (i + 1)) (n + 1) = sg (fun i => (c (i + 2) - 2 * c (i + 1) + c i) * ahF x (i + 1)) n + (c (n + 2) - 2 * c (n + 1) + c n) * ahF x (n + 1) := rfl
    have e1 : ahF x (n + 1 + 1) = ahF x (n + 1) + sg x (n + 2) := ahF_next x (n + 1)
    rw [s1, ih, s2, s3, e1]
    generalize sg x (n + 2) = S
    generalize ahF x (n + 1) = A
    generalize sg (fun i => (c (i + 2) - 2 * c (i + 1) + c i) * ahF x (i + 1)) n = Z
    rw [show n + 1 + 1 = n + 2 by omega]
    generalize c n = a
    generalize c (n + 1) = b
    generalize c (n + 2) = d
    generalize x (n + 2) = y
    grind
/-- prices that show something -/
structure ShowsF (x : Nat → Int) (n : Nat) : Prop where
  s : sg x n = 0
  w : sg (fun i => x i * (i : Int)) n = 0
  a : ∀ p, p < n → ahF x p ≤ 0
theorem ShowsF.end_ {x : Nat → Int} {n : Nat} (h : ShowsF x n) : ahF x n = 0 := by rw [ahF_all, h.s, h.w]; omega
/-- of a row that bends one way they show no more than 0 -/
theorem ShowsF.bent {c x : Nat → Int} {n : Nat} (h : ShowsF x n) (hc : Conv c n) : sg (fun i => c i * x i) n ≤ 0 := by
  match n, h, hc with
  | 0, _, _ => exact Int.le_refl _
  | 1, h, _ =>
    have s := h.s
    simp [sg] at s ⊢
    rw [s]
    simp
  | n + 2, h, hc =>
    have e1 := h.end_
    have e2 := ahF_next x (n + 1)
    have e3 := h.s
    rw [show n + 1 + 1 = n + 2 by omega] at e2
    have e4 : ahF x (n + 1) = 0 := by omega
    rw [parts, e3, e4]
    have z : sg (fun i => (c (i + 2) - 2 * c (i + 1) + c i) * ahF x (i + 1)) n ≤ sg (fun _ => 0) n := sg_le fun i hi => by
      have a := h.a (i + 1) (by omega)
      have b := hc i (by omega)
      exact Int.mul_nonpos_of_nonneg_of_nonpos (by omega) a
    have z0 : ∀ m, sg (fun _ => 0) m = 0 := fun m => by
      induction m with
      | zero => rfl
      | succ m ih => rw [sg, ih]; rfl
    rw [z0] at z
    omega
theorem ShowsF.congr {x y : Nat → Int} {n : Nat} (h : ShowsF x n) (e : ∀ i, i < n → y i = x i) : ShowsF y n :=
  ⟨by rw [sg_congr e]; exact h.s, by rw [sg_congr (g := fun i => x i * (i : Int)) fun i hi => by show y i * _ = x i * _; rw [e i hi]]; exact h.w, fun p hp => by
    unfold ahF
    rw [sg_congr (g := fun i => x i * ((p : Int) - (i : Int))) fun i hi => by show y i * _ = x i * _; rw [e i (by omega)]]
    exact h.a p hp⟩
theorem ShowsF.two {x y : Nat → Int} {n : Nat} {a b : Int} (h : ShowsF x n) (k : ShowsF y n) (ha : 0 ≤ a) (hb : 0 ≤ b) : ShowsF (fun i => x i * a + y i * b) n := by
  have m : ∀ (v : Nat → Int) (n : Nat), sg (fun i => (x i * a + y i * b) * v i) n = sg (fun i => x i * v i) n * a + sg (fun i => y i * v i) n * b := fun v n => by
    rw [← sg_mul, ← sg_mul, ← sg_add]
    exact sg_congr fun i _ => by
      show (x i * a + y i * b) * v i = x i * v i * a + y i * v i * b
      rw [Int.add_mul]
      congr 1 <;> ac_rfl
  refine ⟨?_, ?_, fun p hp => ?_⟩
  · rw [sg_add, sg_mul, sg_mul, h.s, k.s]
    simp
  · rw [m (fun i => (i : Int)) n, h.w, k.w]
    simp
  · have e : ahF (fun i => x i * a + y i * b) p = ahF x p * a + ahF y p * b := m (fun i => (p : Int) - (i : Int)) p
    rw [e]
    have z1 := Int.mul_nonpos_of_nonpos_of_nonneg (h.a p hp) ha
    have z2 := Int.mul_nonpos_of_nonpos_of_nonneg (k.a p hp) hb
    omega
theorem ShowsF.of_mul {x : Nat → Int} {n : Nat} {a : Int} (ha : 0 < a) (h : ShowsF (fun i => x i * a) n) : ShowsF x n := by
  have m : ∀ (v : Nat → Int) (n : Nat), sg (fun i => x i * a * v i) n = sg (fun i => x i * v i) n * a := fun v n => by
    rw [← sg_mul]
    exact sg_congr fun i _ => by show x i * a * v i = x i * v i * a; ac_rfl
  have z : ∀ {y : Int}, y * a = 0 → y = 0 := fun e => by
    rcases Int.mul_eq_zero.mp e with e | e
    · exact e
    · omega
  refine ⟨z (by rw [← sg_mul]; exact h.s), z (by rw [← m (fun i => (i : Int))]; exact h.w), fun p hp => ?_⟩
  have e : ahF (fun i => x i * a) p = ahF x p * a := m (fun i => (p : Int) - (i : Int)) p
  have k := h.a p hp
  rw [e] at k
  by_cases c : ahF x p ≤ 0
  · exact c
  · have := Int.mul_pos (show 0 < ahF x p by omega) ha
    omega
/-- with a line put to the numbers the same -/
theorem ShowsF.line {c x : Nat → Int} {n : Nat} (h : ShowsF x n) (u v : Int) : sg (fun i => (c i + (u + v * (i : Int))) * x i) n = sg (fun i => c i * x i) n := by
  have e : sg (fun i => (c i + (u + v * (i : Int))) * x i) n = sg (fun i => c i * x i) n + (sg x n * u + sg (fun i => x i * (i : Int)) n * v) := by
    rw [← sg_mul, ← sg_mul, ← sg_add, ← sg_add]
    exact sg_congr fun i _ => by
      show (c i + (u + v * (i : Int))) * x i = c i * x i + (x i * u + x i * (i : Int) * v)
      grind
  rw [e, h.s, h.w]
  simp
/-- by what stands for inner places, from 0 on -/
theorem shows_heights {h x : Nat → Int} {m : Nat} (hm : 1 ≤ m) (h0 : h 0 = 0) (h1 : h 1 = 0) (e0 : h m = 0) (e1 : h (m + 1) = 0) (pos : ∀ i, i ≤ m → 0 ≤ h i) (hx : ∀ i, i < m → x i = 2 * h (1 + i) - h i - h (2 + i)) : ShowsF x m := by
  have s : ∀ k, k ≤ m → sg x k = h k - h (k + 1) := fun k => by
    induction k with
    | zero => intro _; rw [h0, show (0 : Nat) + 1 = 1 from rfl, h1]; rfl
    | succ k ih =>
      intro hk
      rw [sg, ih (by omega), hx k (by omega), show 1 + k = k + 1 by omega, show 2 + k = k + 1 + 1 by omega]
      omega
  have a : ∀ k, k ≤ m → ahF x k = - h (k + 1) := fun k => by
    induction k with
    | zero => intro _; rw [show (0 : Nat) + 1 = 1 from rfl, h1]; rfl
    | succ k ih =>
      intro hk
      rw [ahF_next, ih (by omega), s (k + 1) hk]
      omega
  have sm := s m (Nat.le_refl _)
  have am := a m (Nat.le_refl _)
  rw [e0, e1] at sm
  rw [e1] at am
  have al := ahF_all x m
  refine ⟨by omega, ?_, fun p hp => ?_⟩
  · rw [am, show sg x m = 0 by omega] at al
    omega
  · rw [a p (by omega)]
    have := pos (p + 1) (by omega)
    omega
/-- from behind -/
theorem ShowsF.rev {x : Nat → Int} {n : Nat} (h : ShowsF x n) : ShowsF (fun i => x (n - 1 - i)) n := by
  refine ⟨by rw [sg_rev]; exact h.s, ?_, fun p hp => ?_⟩
  · have e : sg (fun i => x (n - 1 - i) * (i : Int)) n = sg (fun i => x i * (((n - 1 - i : Nat)) : Int)) n := by
      rw [← sg_rev (fun i => x i * (((n - 1 - i : Nat)) : Int))]
      exact sg_congr fun i hi => by
        show x (n - 1 - i) * (i : Int) = x (n - 1 - i) * (((n - 1 - (n - 1 - i) : Nat)) : Int)
        congr 2
        omega
    have e2 : sg (fun i => x i * (((n - 1 - i : Nat)) : Int)) n + sg (fun i => x i * (i : Int)) n = sg x n * ((n : Int) - 1) := by
      rw [← sg_add, ← sg_mul]
      exact sg_congr fun i hi => by
        show x i * (((n - 1 - i : Nat)) : Int) + x i * (i : Int) = x i * ((n : Int) - 1)
        rw [← Int.mul_add]
        congr 1
        omega
    rw [e]
    rw [h.s, h.w] at e2
    omega
  · -- a sum over all places: what is ahead counts, all else by 0
    have cut : ∀ (y : Nat → Int) (p m : Nat), p ≤ m → sg (fun i => y i * (((p - i : Nat)) : Int)) m = ahF y p := fun y p m => by
      induction m with
      | zero =>
        intro hm
        have : p = 0 := by omega
        subst this
        rfl
      | succ m ih =>
        intro hm
        by_cases c : p ≤ m
        · rw [sg, ih c, show p - m = 0 by omega]
          simp
        · have e : p = m + 1 := by omega
          subst e
          unfold ahF
          exact sg_congr fun i hi => by show y i * (((m + 1 - i : Nat)) : Int) = y i * (((m + 1 : Nat) : Int) - (i : Int)); congr 1; omega
    have e1 := cut (fun i => x (n - 1 - i)) p n (by omega)
    have e2 : sg (fun i => x (n - 1 - i) * (((p - i : Nat)) : Int)) n = sg (fun i => x i * (((p - (n - 1 - i) : Nat)) : Int)) n := by
      rw [← sg_rev (fun i => x i * (((p - (n - 1 - i) : Nat)) : Int))]
      exact sg_congr fun i hi => by
        show x (n - 1 - i) * (((p - i : Nat)) : Int) = x (n - 1 - i) * (((p - (n - 1 - (n - 1 - i)) : Nat)) : Int)
        congr 3
        omega
    have e3 := cut x (n - 1 - p) n (by omega)
    have e4 : sg (fun i => x i * (((p - (n - 1 - i) : Nat)) : Int)) n = sg (fun i => x i * (((n - 1 - p - i : Nat)) : Int)) n + (sg (fun i => x i * (i : Int)) n + sg x n * (-(((n - 1 - p : Nat)) : Int))) := by
      rw [← sg_mul, ← sg_add, ← sg_add]
      exact sg_congr fun i hi => by
        show x i * (((p - (n - 1 - i) : Nat)) : Int) = x i * (((n - 1 - p - i : Nat)) : Int) + (x i * (i : Int) + x i * (-(((n - 1 - p : Nat)) : Int)))
        rw [← Int.mul_add, ← Int.mul_add]
        congr 1
        omega
    rw [← e1, e2, e4, e3, h.s, h.w]
    have := h.a (n - 1 - p) (by omega)
    omega
/-! ### of lists -/
theorem an_val' {ns : List Int} {i : Nat} {u : Int} (h : ns[i]? = some u) : An ns i = u := by
  unfold An
  rw [List.getD_eq_getElem?_getD, h]
  rfl
theorem sum_an (xs : List Int) : xs.sum = sg (An xs) xs.length := by
  have z := sum_sg0 id (An xs) xs fun i a ha => (an_val' ha).symm
  simpa using z
theorem wS_an (xs : List Int) : wS xs = sg (fun i => An xs i * (i : Int)) xs.length := by
  unfold wS
  have z := sum_sg0 (fun e : Int × Nat => e.1 * ((e.2 : Nat) : Int)) (fun i => An xs i * (i : Int)) xs.zipIdx fun i a ha => by
    rw [List.getElem?_zipIdx] at ha
    cases q : xs[i]? with
    | none => rw [q] at ha; cases ha
    | some u =>
      rw [q] at ha
      have e : a = (u, 0 + i) := by injection ha with ha; exact ha.symm
      rw [e, an_val' q]
      simp
  rw [z, List.length_zipIdx]
theorem ahead_an (xs : List Int) (p : Nat) (hp : p ≤ xs.length) : aheadS (xs.take p) p = ahF (An xs) p := by
  unfold aheadS ahF
  have z := sum_sg0 (fun e : Int × Nat => e.1 * ((p : Int) - ((e.2 : Nat) : Int))) (fun i => An xs i * ((p : Int) - (i : Int))) (xs.take p).zipIdx fun i a ha => by
    rw [List.getElem?_zipIdx] at ha
    cases q : (xs.take p)[i]? with
    | none => rw [q] at ha; cases ha
    | some u =>
      rw [q] at ha
      have e : a = (u, 0 + i) := by injection ha with ha; exact ha.symm
      have q2 : xs[i]? = some u := by
        rw [List.getElem?_take] at q
        split at q
        · exact q
        · cases q
      rw [e, an_val' q2]
      simp
  rw [z, List.length_zipIdx, List.length_take, show min p xs.length = p by omega]
theorem dot_an {ns xs : List Int} (h : ns.length = xs.length) : dotS ns xs = sg (fun i => An ns i * An xs i) xs.length := by
  unfold dotS
  have z := sum_sg0 (fun e : Int × Int => e.1 * e.2) (fun i => An ns i * An xs i) (ns.zip xs) fun i a ha => by
    obtain ⟨h1, h2⟩ := List.getElem?_zip_eq_some.mp ha
    rw [an_val' h1, an_val' h2]
  rw [z, List.length_zip, show min ns.length xs.length = xs.length by omega]
theorem shows_f (xs : List Int) : showsB xs = true ↔ ShowsF (An xs) xs.length := by
  unfold showsB
  rw [Bool.and_eq_true, Bool.and_eq_true, decide_eq_true_eq, decide_eq_true_eq, List.all_eq_true, sum_an, wS_an]
  constructor
  · rintro ⟨⟨a, b⟩, c⟩
    exact ⟨a, b, fun p hp => by
      have z := of_decide_eq_true (c p (List.mem_range.mpr hp))
      rw [ahead_an xs p (by omega)] at z
      exact z⟩
  · rintro ⟨a, b, c⟩
    refine ⟨⟨a, b⟩, fun p hp => decide_eq_true ?_⟩
    have hp' := List.mem_range.mp hp
    rw [ahead_an xs p (by omega)]
    exact c p hp'
theorem dot_bent {ns xs : List Int} (h : ns.length = xs.length) (hs : showsB xs = true) (hc : Conv (An ns) ns.length) : dotS ns xs ≤ 0 := by
  rw [dot_an h]
  rw [shows_f] at hs
  exact hs.bent (h ▸ hc)
end Ob

set_option maxHeartbeats 4000000
namespace Ob
open PySem PySem.Spec PyProof.Rows L2
/-! ### the program's table and the whole one -/
theorem wo_at {b : Int} {c j : Nat} {ch t : List Int} (hl : t.length = ch.length) (hj : j < ch.length) : An (woR b c ch t) j = if j = c then -(An t c) else (An t j * An ch c - An t c * An ch j) / b := by
  have e : ((t.zip ch).map fun e => (e.1 * An ch c - An t c * e.2) / b)[j]? = some ((An t j * An ch c - An t c * An ch j) / b) := by
    rw [List.getElem?_map, show (t.zip ch)[j]? = some (An t j, An ch j) from List.getElem?_zip_eq_some.mpr ⟨an_at (by omega), an_at hj⟩]
    rfl
  unfold woR
  by_cases h : j = c
  · subst h
    rw [if_pos rfl]
    refine an_val' ?_
    rw [List.getElem?_set, if_pos rfl, if_pos (by rw [List.length_map, List.length_zip]; omega)]
  · rw [if_neg h]
    refine an_val' ?_
    rw [List.getElem?_set, if_neg (fun z => h z.symm)]
    exact e
theorem wo_len {b : Int} {c : Nat} {ch t : List Int} (hl : t.length = ch.length) : (woR b c ch t).length = ch.length := by
  unfold woR
  rw [List.length_set, List.length_map, List.length_zip]
  omega
theorem an_setI {ns : List Int} {k i : Nat} {y : Int} (hk : k < ns.length) : An (ns.set k y) i = if i = k then y else An ns i := by
  unfold An
  rw [List.getD_eq_getElem?_getD, List.getD_eq_getElem?_getD, List.getElem?_set]
  by_cases e : k = i
  · subst e
    simp [hk]
  · rw [if_neg e, if_neg (fun z => e z.symm)]
/-- the rows of a table, by the columns that it has -/
structure Shown (W : List Rw) (T : List (List Int)) (N : Nat → Nat) (k : Nat) : Prop where
  len : T.length = W.length
  row : ∀ t ∈ T, t.length = k
  at_ : ∀ (i : Nat) (r : Rw) (t : List Int), W[i]? = some r → T[i]? = some t → ∀ j, j < k → An t j = r (N j)
theorem exT_shown {A W : List Rw} {B : List Nat} {b : Int} {T : List (List Int)} {N : Nat → Nat} {k a c ba : Nat} {w : Rw} {ch : List Int} (tb : Tbl A W B b) (S : Shown W T N k) (ha : W[a]? = some w) (hch : T[a]? = some ch) (hc : c < k) (hp : 0 < w (N c)) (hB : B[a]? = some ba) :
    ∃ W', Tbl A W' (B.set a (N c)) (w (N c)) ∧ Shown W' (exT T b a c ch) (fun j => if j = c then ba else N j) k ∧ W'[a]? = some w ∧ ∀ i r r', i ≠ a → W[i]? = some r → W'[i]? = some r' → ∀ j, b * r' j = w (N c) * r j - r (N c) * w j := by
  have hal := (List.getElem?_eq_some_iff.mp ha).1
  have b0 := tb.pos
  have chk := S.row ch (List.mem_of_getElem? hch)
  have pc : An ch c = w (N c) := S.at_ a w ch ha hch c hc
  let W' : List Rw := (List.range W.length).map fun i => if i = a then w else fun j => dt ((B.set a (N c)).set i j) A
  have wl : W'.length = W.length := by simp [W']
  have wa : W'[a]? = some w := by
    show ((List.range W.length).map _)[a]? = _
    rw [List.getElem?_map, List.getElem?_range hal]
    simp
  have wi : ∀ i r r', i ≠ a → W[i]? = some r → W'[i]? = some r' → ∀ j, b * r' j = w (N c) * r j - r (N c) * w j := fun i r r' hi hr hr' j => by
    have hil := (List.getElem?_eq_some_iff.mp hr).1
    have e : W'[i]? = some (fun j => dt ((B.set a (N c)).set i j) A) := by
      show ((List.range W.length).map _)[i]? = _
      rw [List.getElem?_map, List.getElem?_range hil]
      simp [hi]
    rw [e] at hr'
    have er : (fun j => dt ((B.set a (N c)).set i j) A) = r' := by injection hr'
    rw [← er]
    exact (tb.exact ha hp hr hi j).symm
  refine ⟨W', tb.step ha hp wl wa wi, ⟨?_, ?_, ?_⟩, wa, wi⟩
  · unfold exT
    rw [List.length_set, List.length_map, S.len, wl]
  · intro t ht
    unfold exT at ht
    rcases List.mem_or_eq_of_mem_set ht with q | q
    · obtain ⟨t0, ht0, rfl⟩ := List.mem_map.mp q
      rw [wo_len (by rw [chk]; exact S.row t0 ht0), chk]
    · rw [q, List.length_set, chk]
  · intro i r' t hr' ht j hj
    have hil : i < W.length := by have := (List.getElem?_eq_some_iff.mp hr').1; omega
    obtain ⟨r, hr⟩ : ∃ r, W[i]? = some r := ⟨_, List.getElem?_eq_getElem hil⟩
    obtain ⟨t0, ht0⟩ : ∃ t0, T[i]? = some t0 := ⟨_, List.getElem?_eq_getElem (by rw [S.len]; exact hil)⟩
    unfold exT at ht
    rw [List.getElem?_set] at ht
    by_cases hi : i = a
    · subst hi
      rw [if_pos rfl, if_pos (by rw [List.length_map, S.len]; exact hal)] at ht
      have et : ch.set c b = t := by injection ht
      rw [wa] at hr'
      have er : w = r' := by injection hr'
      rw [← et, ← er, an_setI (by omega)]
      show _ = w (if j = c then ba else N j)
      by_cases e : j = c
      · rw [if_pos e, if_pos e, tb.bas i i w ba ha hB, if_pos rfl]
      · rw [if_neg e, if_neg e]
        exact S.at_ i w ch ha hch j hj
    · rw [if_neg (fun z => hi z.symm), List.getElem?_map, ht0] at ht
      have et : woR b c ch t0 = t := by injection ht
      have l0 := S.row t0 (List.mem_of_getElem? ht0)
      rw [← et, wo_at (by omega) (by omega)]
      have x := wi i r r' hi hr hr'
      show _ = r' (if j = c then ba else N j)
      by_cases e : j = c
      · rw [if_pos e, if_pos e, S.at_ i r t0 hr ht0 c hc]
        have z := x ba
        rw [tb.bas i a r ba hr hB, if_neg hi, tb.bas a a w ba ha hB, if_pos rfl, Int.mul_zero, Int.zero_sub, Int.mul_comm (r (N c)) b] at z
        have z2 : b * r' ba = b * (-(r (N c))) := by rw [z, Int.mul_neg]
        exact (Int.eq_of_mul_eq_mul_left (by omega) z2).symm
      · rw [if_neg e, if_neg e, S.at_ i r t0 hr ht0 j hj, S.at_ i r t0 hr ht0 c hc, pc, S.at_ a w ch ha hch j hj, Int.mul_comm (r (N j)), ← x (N j), Int.mul_ediv_cancel_left _ (by omega)]
/-! ### what solves a table -/
def ip (r y : Rw) (n : Nat) : Int := sg (fun v => r v * y v) n
def Ker (W : List Rw) (y : Rw) (n : Nat) : Prop := ∀ r ∈ W, ip r y n = 0
theorem ip_lin (p u : Int) (x w y : Rw) (n : Nat) : ip (lin p x u w) y n = p * ip x y n - u * ip w y n := by
  unfold ip
  have e : sg (fun v => lin p x u w v * y v) n + sg (fun v => w v * y v) n * u = sg (fun v => x v * y v) n * p := by
    rw [← sg_mul, ← sg_mul, ← sg_add]
    exact sg_congr fun v _ => by show (p * x v - u * w v) * y v + w v * y v * u = x v * y v * p; grind
  rw [Int.mul_comm p, Int.mul_comm u]
  omega
theorem ker_step {W W' : List Rw} {a : Nat} {w : Rw} {b p : Int} {u : Rw → Int} (b0 : 0 < b) (p0 : 0 < p) (hl : W'.length = W.length) (ha : W[a]? = some w) (ha' : W'[a]? = some w) (h : ∀ i r r', i ≠ a → W[i]? = some r → W'[i]? = some r' → ∀ j, b * r' j = p * r j - u r * w j) (y : Rw) (n : Nat) : Ker W' y n ↔ Ker W y n := by
  have each : ∀ i r r', i ≠ a → W[i]? = some r → W'[i]? = some r' → b * ip r' y n = p * ip r y n - u r * ip w y n := fun i r r' hi hr hr' => by
    rw [← ip_lin]
    unfold ip
    rw [Int.mul_comm b, ← sg_mul]
    exact sg_congr fun v _ => by
      show r' v * y v * b = lin p r (u r) w v * y v
      unfold lin
      rw [← h i r r' hi hr hr' v]
      ac_rfl
  constructor
  · intro k r hr
    obtain ⟨i, hi⟩ := List.mem_iff_getElem?.mp hr
    have hw := k w (List.mem_of_getElem? ha')
    by_cases e : i = a
    · subst e
      rw [ha] at hi
      have er : w = r := by injection hi
      rw [← er]
      exact hw
    · have hil := (List.getElem?_eq_some_iff.mp hi).1
      obtain ⟨r', hr'⟩ : ∃ r', W'[i]? = some r' := ⟨_, List.getElem?_eq_getElem (by omega)⟩
      have z := each i r r' e hi hr'
      rw [k r' (List.mem_of_getElem? hr'), hw, Int.mul_zero, Int.mul_zero, Int.sub_zero] at z
      rcases Int.mul_eq_zero.mp z.symm with q | q
      · omega
      · exact q
  · intro k r' hr'
    obtain ⟨i, hi⟩ := List.mem_iff_getElem?.mp hr'
    have hw := k w (List.mem_of_getElem? ha)
    by_cases e : i = a
    · subst e
      rw [ha'] at hi
      have er : w = r' := by injection hi
      rw [← er]
      exact hw
    · have hil := (List.getElem?_eq_some_iff.mp hi).1
      obtain ⟨r, hr⟩ : ∃ r, W[i]? = some r := ⟨_, List.getElem?_eq_getElem (by omega)⟩
      have z := each i r r' e hr hi
      rw [k r (List.mem_of_getElem? hr), hw, Int.mul_zero, Int.mul_zero, Int.sub_zero] at z
      rcases Int.mul_eq_zero.mp z with q | q
      · omega
      · exact q
end Ob

set_option maxHeartbeats 4000000
namespace Ob
open PySem PySem.Spec PyProof.Rows L2
/-! ### heights and what they make -/
theorem heights_sums {h x : Nat → Int} {m : Nat} (h0 : h 0 = 0) (h1 : h 1 = 0) (hx : ∀ i, i < m → x i = 2 * h (1 + i) - h i - h (2 + i)) : (∀ k, k ≤ m → sg x k = h k - h (k + 1)) ∧ ∀ k, k ≤ m → ahF x k = - h (k + 1) := by
  have s : ∀ k, k ≤ m → sg x k = h k - h (k + 1) := fun k => by
    induction k with
    | zero => intro _; rw [h0, show (0 : Nat) + 1 = 1 from rfl, h1]; rfl
    | succ k ih =>
      intro hk
      rw [sg, ih (by omega), hx k (by omega), show 1 + k = k + 1 by omega, show 2 + k = k + 1 + 1 by omega]
      omega
  refine ⟨s, fun k => ?_⟩
  induction k with
  | zero => intro _; rw [show (0 : Nat) + 1 = 1 from rfl, h1]; rfl
  | succ k ih =>
    intro hk
    rw [ahF_next, ih (by omega), s (k + 1) hk]
    omega
/-- the second differences twice -/
def Mh (h : Nat → Int) (i : Nat) : Int := h i - 4 * h (i + 1) + 6 * h (i + 2) - 4 * h (i + 3) + h (i + 4)
def D2 (h : Nat → Int) (k : Nat) : Int := 2 * h (1 + k) - h k - h (2 + k)
theorem quad {h : Nat → Int} {n : Nat} (h0 : h 0 = 0) (h1 : h 1 = 0) (e0 : h (n + 2) = 0) (e1 : h (n + 3) = 0) : sg (fun k => D2 h k * D2 h k) (n + 2) = sg (fun i => Mh h i * h (i + 2)) n := by
  obtain ⟨s, a⟩ := heights_sums (x := D2 h) (m := n + 2) h0 h1 fun i _ => rfl
  rw [parts, s (n + 2) (Nat.le_refl _), a (n + 1) (by omega), e0, show n + 2 + 1 = n + 3 from rfl, e1]
  have e : sg (fun i => (D2 h (i + 2) - 2 * D2 h (i + 1) + D2 h i) * ahF (D2 h) (i + 1)) n = sg (fun i => Mh h i * h (i + 2)) n := sg_congr fun i hi => by
    show (D2 h (i + 2) - 2 * D2 h (i + 1) + D2 h i) * ahF (D2 h) (i + 1) = Mh h i * h (i + 2)
    rw [a (i + 1) (by omega)]
    unfold D2 Mh
    rw [show 1 + (i + 2) = i + 3 by omega, show 2 + (i + 2) = i + 4 by omega, show 1 + (i + 1) = i + 2 by omega, show 2 + (i + 1) = i + 3 by omega, show 1 + i = i + 1 by omega, show 2 + i = i + 2 by omega, show i + 1 + 1 = i + 2 from rfl]
    grind
  rw [e]
  omega
theorem sg_sq_nonneg (x : Nat → Int) : ∀ n, 0 ≤ sg (fun k => x k * x k) n
  | 0 => Int.le_refl _
  | n + 1 => by
    have := sg_sq_nonneg x n
    have : 0 ≤ x n * x n := by
      rcases Int.le_total 0 (x n) with h | h
      · exact Int.mul_nonneg h h
      · exact Int.mul_nonneg_of_nonpos_of_nonpos h h
    rw [sg]
    omega
theorem sg_sq_zero (x : Nat → Int) : ∀ n, sg (fun k => x k * x k) n = 0 → ∀ k, k < n → x k = 0
  | 0, _, k, hk => by omega
  | n + 1, h, k, hk => by
    have a := sg_sq_nonneg x n
    have b : 0 ≤ x n * x n := by
      rcases Int.le_total 0 (x n) with h | h
      · exact Int.mul_nonneg h h
      · exact Int.mul_nonneg_of_nonpos_of_nonpos h h
    rw [sg] at h
    by_cases c : k = n
    · subst c
      have z : x k * x k = 0 := by omega
      rcases Int.mul_eq_zero.mp z with q | q <;> exact q
    · exact sg_sq_zero x n (by omega) k (by omega)
theorem quad_zero {h : Nat → Int} {n : Nat} (h0 : h 0 = 0) (h1 : h 1 = 0) (e0 : h (n + 2) = 0) (e1 : h (n + 3) = 0) (z : sg (fun i => Mh h i * h (i + 2)) n = 0) : ∀ k, k ≤ n + 3 → h k = 0 := by
  rw [← quad h0 h1 e0 e1] at z
  have d := sg_sq_zero (D2 h) (n + 2) z
  have two : ∀ k, k ≤ n + 2 → h k = 0 ∧ h (k + 1) = 0 := fun k => by
    induction k with
    | zero => exact fun _ => ⟨h0, h1⟩
    | succ k ih =>
      intro hk
      obtain ⟨a, b⟩ := ih (by omega)
      have e := d k (by omega)
      unfold D2 at e
      rw [show 1 + k = k + 1 by omega, show 2 + k = k + 1 + 1 by omega, a, b] at e
      exact ⟨b, by omega⟩
  intro k hk
  by_cases c : k ≤ n + 2
  · exact (two k c).1
  · have e : k = n + 2 + 1 := by omega
    rw [e]
    exact (two (n + 2) (Nat.le_refl _)).2
/-- numbers for the inner places, 0 beyond -/
def hz (z : Nat → Int) (n : Nat) : Nat → Int := fun k => if 2 ≤ k ∧ k < n + 2 then z (k - 2) else 0
theorem hz_in {z : Nat → Int} {n i : Nat} (h : i < n) : hz z n (i + 2) = z i := by
  unfold hz
  rw [if_pos ⟨by omega, by omega⟩]
  congr 1
theorem hz_out {z : Nat → Int} {n k : Nat} (h : k < 2 ∨ n + 2 ≤ k) : hz z n k = 0 := if_neg fun c => by omega
/-- how often a weight has what stands at another place -/
def putI (i j : Nat) : Int := if i = j then 6 else if i = j + 1 ∨ j = i + 1 then -4 else if i = j + 2 ∨ j = i + 2 then 1 else 0
theorem sg_pt (f : Nat → Int) (k : Nat) : ∀ n, sg (fun j => if j = k then f j else 0) n = if k < n then f k else 0
  | 0 => by simp [sg]
  | n + 1 => by
    rw [sg, sg_pt f k n]
    by_cases c : n = k
    · subst c
      rw [if_neg (by omega), if_pos rfl, if_pos (by omega)]
      omega
    · rw [if_neg c]
      by_cases d : k < n
      · rw [if_pos d, if_pos (by omega)]
        omega
      · rw [if_neg d, if_neg (by omega)]
        omega
theorem put_sum {z : Nat → Int} {n i : Nat} (hi : i < n) : sg (fun j => putI j i * z j) n = Mh (hz z n) i := by
  have e : sg (fun j => putI j i * z j) n = sg (fun j => if j = i then 6 * z j else 0) n + (sg (fun j => if j = i + 1 then -4 * z j else 0) n + (sg (fun j => if j = i + 2 then z j else 0) n + (sg (fun j => if j + 1 = i then -4 * z j else 0) n + sg (fun j => if j + 2 = i then z j else 0) n))) := by
    rw [← sg_add, ← sg_add, ← sg_add, ← sg_add]
    refine sg_congr fun j _ => ?_
    show putI j i * z j = (if j = i then 6 * z j else 0) + ((if j = i + 1 then -4 * z j else 0) + ((if j = i + 2 then z j else 0) + ((if j + 1 = i then -4 * z j else 0) + if j + 2 = i then z j else 0)))
    unfold putI
    repeat' split
    all_goals first | omega | grind
  have m1 : sg (fun j => if j + 1 = i then -4 * z j else 0) n = -4 * hz z n (i + 1) := by
    by_cases c : 1 ≤ i
    · rw [sg_congr (g := fun j => if j = i - 1 then -4 * z j else 0) fun j _ => by
        show (if j + 1 = i then _ else _) = if j = i - 1 then _ else _
        by_cases d : j + 1 = i
        · rw [if_pos d, if_pos (by omega)]
        · rw [if_neg d, if_neg (by omega)], sg_pt, if_pos (by omega)]
      rw [show i + 1 = i - 1 + 2 by omega, hz_in (by omega)]
    · rw [sg_congr (g := fun _ => 0) fun j _ => if_neg (by omega), hz_out (by omega)]
      have : ∀ m, sg (fun _ => 0) m = 0 := fun m => by
        induction m with
        | zero => rfl
        | succ m ih => rw [sg, ih]; rfl
      rw [this]
      rfl
  have m2 : sg (fun j => if j + 2 = i then z j else 0) n = hz z n i := by
    by_cases c : 2 ≤ i
    · rw [sg_congr (g := fun j => if j = i - 2 then z j else 0) fun j _ => by
        show (if j + 2 = i then _ else _) = if j = i - 2 then _ else _
        by_cases d : j + 2 = i
        · rw [if_pos d, if_pos (by omega)]
        · rw [if_neg d, if_neg (by omega)], sg_pt, if_pos (by omega)]
      obtain ⟨k, rfl⟩ : ∃ k, i = k + 2 := ⟨i - 2, by omega⟩
      rw [hz_in (by omega)]
      congr 1
    · rw [sg_congr (g := fun _ => 0) fun j _ => if_neg (by omega), hz_out (by omega)]
      have : ∀ m, sg (fun _ => 0) m = 0 := fun m => by
        induction m with
        | zero => rfl
        | succ m ih => rw [sg, ih]; rfl
      exact this _
  have a1 : (if i + 1 < n then -4 * z (i + 1) else 0) = -4 * hz z n (i + 3) := by
    by_cases c : i + 1 < n
    · rw [if_pos c, show i + 3 = i + 1 + 2 from rfl, hz_in c]
    · rw [if_neg c, hz_out (by omega)]
      rfl
  have a2 : (if i + 2 < n then z (i + 2) else 0) = hz z n (i + 4) := by
    by_cases c : i + 2 < n
    · rw [if_pos c, show i + 4 = i + 2 + 2 from rfl, hz_in c]
    · rw [if_neg c, hz_out (by omega)]
  rw [e, m1, m2, sg_pt (fun j => 6 * z j), sg_pt (fun j => -4 * z j), sg_pt z, if_pos hi, a1, a2]
  unfold Mh
  rw [hz_in hi]
  omega
end Ob

set_option maxHeartbeats 4000000
namespace Ob
open PySem PySem.Spec PyProof.Rows L2
/-! ### the table of weights: n inner places, S: at which the weight is beside, q what is at the right -/
def sqR (n : Nat) (q : Nat → Int) (i : Nat) : Rw := fun v => if v < n then putI v i else if v < 2 * n then (if v - n = i then 1 else 0) else if v = 2 * n then q i else 0
def sqA (n : Nat) (q : Nat → Int) : List Rw := (List.range n).map (sqR n q)
def sqBv (n : Nat) (S : Nat → Bool) (i : Nat) : Nat := if S i = true then i else n + i
def sqB (n : Nat) (S : Nat → Bool) : List Nat := (List.range n).map (sqBv n S)
def sqN (n : Nat) (S : Nat → Bool) (j : Nat) : Nat := if j = n then 2 * n else if S j = true then n + j else j
def flip (S : Nat → Bool) (a : Nat) : Nat → Bool := fun i => if i = a then !S i else S i
structure SqSt (n : Nat) (q : Nat → Int) (S : Nat → Bool) (T : List (List Int)) (b : Int) : Prop where
  ex : ∃ W, Tbl (sqA n q) W (sqB n S) b ∧ Shown W T (sqN n S) (n + 1) ∧ ∀ y, Ker W y (2 * n + 1) ↔ Ker (sqA n q) y (2 * n + 1)
theorem sqA_at {n : Nat} {q : Nat → Int} {i : Nat} (h : i < n) : (sqA n q)[i]? = some (sqR n q i) := by
  unfold sqA
  rw [List.getElem?_map, List.getElem?_range h]
  rfl
theorem sqB_at {n : Nat} {S : Nat → Bool} {i : Nat} (h : i < n) : (sqB n S)[i]? = some (sqBv n S i) := by
  unfold sqB
  rw [List.getElem?_map, List.getElem?_range h]
  rfl
theorem sqA_len (n : Nat) (q : Nat → Int) : (sqA n q).length = n := by simp [sqA]
theorem sqB_len (n : Nat) (S : Nat → Bool) : (sqB n S).length = n := by simp [sqB]
theorem sqB_flip {n : Nat} {S : Nat → Bool} {a : Nat} (h : a < n) : (sqB n S).set a (sqN n S a) = sqB n (flip S a) := by
  refine List.ext_getElem? fun i => ?_
  rw [List.getElem?_set, sqB_len]
  by_cases hi : i < n
  · rw [sqB_at hi, sqB_at hi]
    by_cases e : a = i
    · subst e
      rw [if_pos rfl, if_pos h]
      congr 1
      have fl : flip S a a = !S a := if_pos rfl
      unfold sqN sqBv
      rw [if_neg (show ¬ a = n by omega), fl]
      cases S a <;> rfl
    · rw [if_neg e]
      congr 1
      have fl : flip S a i = S i := if_neg fun z => e z.symm
      unfold sqBv
      rw [fl]
  · rw [List.getElem?_eq_none (by rw [sqB_len]; omega), List.getElem?_eq_none (by rw [sqB_len]; omega), if_neg (by omega)]
theorem sqN_flip {n : Nat} {S : Nat → Bool} {a : Nat} (h : a < n) : (fun j => if j = a then sqBv n S a else sqN n S j) = sqN n (flip S a) := by
  funext j
  by_cases e : j = a
  · subst e
    rw [if_pos rfl]
    have fl : flip S j j = !S j := if_pos rfl
    unfold sqN sqBv
    rw [if_neg (show ¬ j = n by omega), fl]
    cases S j <;> rfl
  · rw [if_neg e]
    have fl : flip S a j = S j := if_neg e
    unfold sqN
    rw [fl]
/-- what the amounts beside are, and those atop, as one row of numbers -/
def vecS (n : Nat) (S : Nat → Bool) (f g : Nat → Int) (u : Int) : Rw := fun v => if v < n then (if S v = true then f v else g v) else if v < 2 * n then (if S (v - n) = true then g (v - n) else f (v - n)) else u
theorem sg_split (f : Nat → Int) (n : Nat) : ∀ m, sg f (n + m) = sg f n + sg (fun k => f (n + k)) m
  | 0 => by simp [sg]
  | m + 1 => by
    rw [show n + (m + 1) = (n + m) + 1 by omega, sg, sg_split f n m, sg]
    omega
theorem sg_three (f : Nat → Int) (n : Nat) : sg f (2 * n + 1) = sg (fun k => f k + f (n + k)) n + f (2 * n) := by
  rw [sg, show 2 * n = n + n by omega, sg_split, sg_add]
theorem ip_W {n : Nat} {q : Nat → Int} {S : Nat → Bool} {T : List (List Int)} {b : Int} {W : List Rw} (tb : Tbl (sqA n q) W (sqB n S) b) (sh : Shown W T (sqN n S) (n + 1)) {i : Nat} {r : Rw} {t : List Int} (hr : W[i]? = some r) (ht : T[i]? = some t) (hi : i < n) (f g : Nat → Int) (u : Int) :
    ip r (vecS n S f g u) (2 * n + 1) = b * f i + sg (fun k => An t k * g k) n + An t n * u := by
  unfold ip
  rw [sg_three]
  have e1 : ∀ k, k < n → r k * vecS n S f g u k + r (n + k) * vecS n S f g u (n + k) = (if k = i then b * f k else 0) + An t k * g k := fun k hk => by
    have c1 : vecS n S f g u k = if S k = true then f k else g k := by unfold vecS; rw [if_pos hk]
    have c2 : vecS n S f g u (n + k) = if S k = true then g k else f k := by
      unfold vecS
      rw [if_neg (by omega), if_pos (by omega), show n + k - n = k by omega]
    have bs := tb.bas i k r _ hr (sqB_at hk)
    have an := sh.at_ i r t hr ht k (by omega)
    unfold sqBv at bs
    unfold sqN at an
    rw [if_neg (by omega)] at an
    rw [c1, c2]
    cases hS : S k with
    | true =>
      rw [hS] at bs an
      rw [if_pos rfl] at bs an
      rw [if_pos rfl, if_pos rfl, bs, an]
      by_cases e : i = k
      · rw [if_pos e, if_pos e.symm]
      · rw [if_neg e, if_neg (fun z => e z.symm)]
        omega
    | false =>
      rw [hS] at bs an
      rw [if_neg (by decide)] at bs an
      rw [if_neg (by decide), if_neg (by decide), bs, an]
      by_cases e : i = k
      · rw [if_pos e, if_pos e.symm]
        omega
      · rw [if_neg e, if_neg (fun z => e z.symm)]
        omega
  have c3 : vecS n S f g u (2 * n) = u := by
    unfold vecS
    rw [if_neg (by omega), if_neg (by omega)]
  have an := sh.at_ i r t hr ht n (by omega)
  unfold sqN at an
  rw [if_pos rfl] at an
  rw [sg_congr (g := fun k => (if k = i then b * f k else 0) + An t k * g k) e1, sg_add, sg_pt (fun k => b * f k), if_pos hi, c3, an]
theorem ip_A {n : Nat} {q : Nat → Int} {i : Nat} (hi : i < n) (y : Rw) : ip (sqR n q i) y (2 * n + 1) = Mh (hz y n) i + y (n + i) + q i * y (2 * n) := by
  unfold ip
  rw [sg_three, ← put_sum hi]
  have e1 : ∀ k, k < n → sqR n q i k * y k + sqR n q i (n + k) * y (n + k) = putI k i * y k + (if k = i then y (n + k) else 0) := fun k hk => by
    have c1 : sqR n q i k = putI k i := by unfold sqR; rw [if_pos hk]
    have c2 : sqR n q i (n + k) = if k = i then 1 else 0 := by
      unfold sqR
      rw [if_neg (by omega), if_pos (by omega), show n + k - n = k by omega]
    rw [c1, c2]
    split <;> omega
  have c3 : sqR n q i (2 * n) = q i := by
    unfold sqR
    rw [if_neg (by omega), if_neg (by omega), if_pos rfl]
  rw [sg_congr (g := fun k => putI k i * y k + (if k = i then y (n + k) else 0)) e1, sg_add, sg_pt (fun k => y (n + k)), if_pos hi, c3]
/-- what solves the table, by its parts -/
theorem ker_A {n : Nat} {q : Nat → Int} {y : Rw} : Ker (sqA n q) y (2 * n + 1) ↔ ∀ i, i < n → Mh (hz y n) i + y (n + i) + q i * y (2 * n) = 0 := by
  constructor
  · intro k i hi
    rw [← ip_A hi]
    exact k _ (List.mem_of_getElem? (sqA_at hi))
  · intro k r hr
    unfold sqA at hr
    obtain ⟨i, hi, rfl⟩ := List.mem_map.mp hr
    have hi' := List.mem_range.mp hi
    rw [ip_A hi']
    exact k i hi'
section
variable {n : Nat} {q : Nat → Int} {S : Nat → Bool} {T : List (List Int)} {b : Int}
theorem SqSt.len (s : SqSt n q S T b) : T.length = n := by
  obtain ⟨W, tb, sh, _⟩ := s.ex
  rw [sh.len, tb.lw, sqA_len]
theorem SqSt.row (s : SqSt n q S T b) : ∀ t ∈ T, t.length = n + 1 := by
  obtain ⟨W, tb, sh, _⟩ := s.ex
  exact sh.row
theorem SqSt.pos (s : SqSt n q S T b) : 0 < b := by
  obtain ⟨W, tb, sh, _⟩ := s.ex
  exact tb.pos
/-- what solves it: amounts that the lines tell -/
theorem SqSt.sol (s : SqSt n q S T b) (f g : Nat → Int) (u : Int) (h : ∀ i t, T[i]? = some t → b * f i + sg (fun k => An t k * g k) n + An t n * u = 0) : ∀ i, i < n → Mh (hz (vecS n S f g u) n) i + vecS n S f g u (n + i) + q i * u = 0 := by
  obtain ⟨W, tb, sh, ke⟩ := s.ex
  have k : Ker W (vecS n S f g u) (2 * n + 1) := fun r hr => by
    obtain ⟨i, hi⟩ := List.mem_iff_getElem?.mp hr
    have hil := (List.getElem?_eq_some_iff.mp hi).1
    have lw := tb.lw
    rw [sqA_len] at lw
    obtain ⟨t, ht⟩ : ∃ t, T[i]? = some t := ⟨_, List.getElem?_eq_getElem (by rw [sh.len]; exact hil)⟩
    rw [ip_W tb sh hi ht (by omega)]
    exact h i t ht
  have z := ker_A.mp ((ke _).mp k)
  have c3 : vecS n S f g u (2 * n) = u := by
    unfold vecS
    rw [if_neg (by omega), if_neg (by omega)]
  rw [c3] at z
  exact z
theorem vec_mul (S : Nat → Bool) (f g : Nat → Int) (u : Int) {i : Nat} (hi : i < n) : vecS n S f g u i * vecS n S f g u (n + i) = f i * g i := by
  have c1 : vecS n S f g u i = if S i = true then f i else g i := by unfold vecS; rw [if_pos hi]
  have c2 : vecS n S f g u (n + i) = if S i = true then g i else f i := by
    unfold vecS
    rw [if_neg (by omega), if_pos (by omega), show n + i - n = i by omega]
  rw [c1, c2]
  cases S i
  · show g i * f i = _
    exact Int.mul_comm ..
  · rfl
/-- the pivot is above 0 -/
theorem SqSt.pivot (s : SqSt n q S T b) {a : Nat} {ch : List Int} (hch : T[a]? = some ch) : 0 < An ch a := by
  have han : a < n := by rw [← s.len]; exact (List.getElem?_eq_some_iff.mp hch).1
  have b0 := s.pos
  have z := s.sol (fun i => match T[i]? with | some t => - An t a | none => 0) (fun k => if k = a then b else 0) 0 fun i t ht => by
    show b * (match T[i]? with | some t => - An t a | none => 0) + sg (fun k => An t k * if k = a then b else 0) n + An t n * 0 = 0
    rw [ht]
    have e : sg (fun k => An t k * if k = a then b else 0) n = An t a * b := by
      rw [sg_congr (g := fun k => if k = a then An t k * b else 0) fun k _ => by
        show An t k * (if k = a then b else 0) = if k = a then An t k * b else 0
        split <;> simp]
      rw [sg_pt (fun k => An t k * b), if_pos han]
    rw [e]
    show b * -An t a + An t a * b + An t n * 0 = 0
    rw [Int.mul_neg, Int.mul_comm b]
    omega
  generalize hy : vecS n S (fun i => match T[i]? with | some t => - An t a | none => 0) (fun k => if k = a then b else 0) 0 = y at z
  have w : ∀ i, i < n → y (n + i) = - Mh (hz y n) i := fun i hi => by
    have := z i hi
    omega
  have m : ∀ i, i < n → y i * y (n + i) = if i = a then - An ch a * b else 0 := fun i hi => by
    rw [← hy, vec_mul _ _ _ _ hi]
    show (match T[i]? with | some t => - An t a | none => 0) * (if i = a then b else 0) = _
    by_cases e : i = a
    · subst e
      rw [if_pos rfl, if_pos rfl, hch]
    · rw [if_neg e, if_neg e]
      simp
  have tot : sg (fun i => Mh (hz y n) i * hz y n (i + 2)) n = An ch a * b := by
    rw [sg_congr (g := fun i => if i = a then An ch i * b else 0) fun i hi => by
      show Mh (hz y n) i * hz y n (i + 2) = if i = a then An ch i * b else 0
      rw [hz_in hi]
      have e1 := m i hi
      rw [w i hi] at e1
      by_cases e : i = a
      · rw [if_pos e] at e1 ⊢
        rw [e] at e1 ⊢
        grind
      · rw [if_neg e] at e1 ⊢
        grind]
    rw [sg_pt (fun i => An ch i * b), if_pos han]
  have o0 : hz y n 0 = 0 := hz_out (.inl (by omega))
  have o1 : hz y n 1 = 0 := hz_out (.inl (by omega))
  have o2 : hz y n (n + 2) = 0 := hz_out (.inr (by omega))
  have o3 : hz y n (n + 3) = 0 := hz_out (.inr (by omega))
  have nn := sg_sq_nonneg (D2 (hz y n)) (n + 2)
  rw [quad o0 o1 o2 o3, tot] at nn
  by_cases c : 0 < An ch a
  · exact c
  · have ez : An ch a * b = 0 := by
      have := Int.mul_nonpos_of_nonpos_of_nonneg (show An ch a ≤ 0 by omega) (Int.le_of_lt b0)
      omega
    rw [ez] at tot
    have hq := quad_zero o0 o1 o2 o3 tot
    have y0 : ∀ i, i < n → y i = 0 := fun i hi => by rw [← hz_in (z := y) hi]; exact hq _ (by omega)
    have w0 : ∀ i, i < n → y (n + i) = 0 := fun i hi => by
      rw [w i hi]
      unfold Mh
      rw [hq _ (by omega), hq _ (by omega), hq _ (by omega), hq _ (by omega)]
      by_cases d : i + 4 ≤ n + 3
      · rw [hq _ d]
        rfl
      · rw [hz_out (.inr (by omega))]
        rfl
    exfalso
    have c1 : y a = if S a = true then (match T[a]? with | some t => - An t a | none => 0) else b := by
      rw [← hy]
      unfold vecS
      rw [if_pos han]
      show (if S a = true then _ else (if a = a then b else 0)) = _
      rw [if_pos (rfl : a = a)]
    have c2 : y (n + a) = if S a = true then b else (match T[a]? with | some t => - An t a | none => 0) := by
      rw [← hy]
      unfold vecS
      rw [if_neg (by omega), if_pos (by omega), show n + a - n = a by omega]
      show (if S a = true then (if a = a then b else 0) else _) = _
      rw [if_pos (rfl : a = a)]
    have p := y0 a han
    have p2 := w0 a han
    rw [c1] at p
    rw [c2] at p2
    cases hS : S a with
    | true => rw [hS, if_pos rfl] at p2; omega
    | false => rw [hS, if_neg (by decide)] at p; omega
theorem SqSt.step (s : SqSt n q S T b) {a : Nat} {ch : List Int} (hch : T[a]? = some ch) : SqSt n q (flip S a) (exT T b a a ch) (An ch a) := by
  have han : a < n := by rw [← s.len]; exact (List.getElem?_eq_some_iff.mp hch).1
  have pv := s.pivot hch
  obtain ⟨W, tb, sh, ke⟩ := s.ex
  have hal := (List.getElem?_eq_some_iff.mp hch).1
  obtain ⟨w, hw⟩ : ∃ w, W[a]? = some w := ⟨_, List.getElem?_eq_getElem (by rw [← sh.len]; exact hal)⟩
  have e := sh.at_ a w ch hw hch a (by omega)
  rw [e] at pv ⊢
  obtain ⟨W', tb', sh', wa, wi⟩ := exT_shown tb sh hw hch (by omega) pv (sqB_at han)
  refine ⟨W', sqB_flip han ▸ tb', sqN_flip han ▸ sh', fun y => (ker_step tb.pos pv (by have := tb.lw; have := tb'.lw; omega) hw wa wi y _).trans (ke y)⟩
/-- the amounts at a table, none atop -/
def basF (T : List (List Int)) (n : Nat) : Nat → Int := fun i => match T[i]? with | some t => An t n | none => 0
theorem SqSt.basic (s : SqSt n q S T b) : ∀ i, i < n → Mh (hz (vecS n S (basF T n) (fun _ => 0) (-b)) n) i + vecS n S (basF T n) (fun _ => 0) (-b) (n + i) = b * q i := by
  have z := s.sol (basF T n) (fun _ => 0) (-b) fun i t ht => by
    have e : sg (fun k => An t k * 0) n = 0 := by
      rw [sg_congr (g := fun k => 0 * 0) fun k _ => by simp, sg_mul]
      simp
    rw [e]
    unfold basF
    rw [ht]
    show b * An t n + 0 + An t n * -b = 0
    rw [Int.mul_neg, Int.mul_comm b]
    omega
  intro i hi
  have := z i hi
  rw [Int.mul_neg, Int.mul_comm (q i)] at this
  omega
end
end Ob

set_option maxHeartbeats 4000000
namespace Ob
open PySem PySem.Spec PyProof.Rows L2
/-! ### no choice comes again -/
/-- the amount of line i is as it must be -/
def OkAt (S : Nat → Bool) (T : List (List Int)) (n i : Nat) : Prop := if S i = true then 0 ≤ basF T n i else basF T n i ≤ 0
instance (S : Nat → Bool) (T : List (List Int)) (n i : Nat) : Decidable (OkAt S T n i) := by unfold OkAt; infer_instance
theorem Mh_lin (x y : Nat → Int) (a b : Int) (i : Nat) : Mh (fun k => a * x k - b * y k) i = a * Mh x i - b * Mh y i := by
  unfold Mh
  grind
theorem hz_lin (x y : Nat → Int) (a b : Int) (n : Nat) : hz (fun k => a * x k - b * y k) n = fun k => a * hz x n k - b * hz y n k := by
  funext k
  unfold hz
  split <;> simp
theorem vec_lo (S : Nat → Bool) (f g : Nat → Int) (u : Int) {n i : Nat} (hi : i < n) : vecS n S f g u i = if S i = true then f i else g i := by unfold vecS; rw [if_pos hi]
theorem vec_hi (S : Nat → Bool) (f g : Nat → Int) (u : Int) {n i : Nat} (hi : i < n) : vecS n S f g u (n + i) = if S i = true then g i else f i := by
  unfold vecS
  rw [if_neg (by omega), if_pos (by omega), show n + i - n = i by omega]
theorem murty {n : Nat} {q : Nat → Int} {S0 S : Nat → Bool} {T0 T : List (List Int)} {b0 b : Int} (s0 : SqSt n q S0 T0 b0) (s : SqSt n q S T b) {k : Nat} (hk : k < n) (ok0 : ∀ i, i < k → OkAt S0 T0 n i) (no0 : ¬ OkAt S0 T0 n k) (ok : ∀ i, i < k → OkAt S T n i) (no : ¬ OkAt S T n k)
    (ne : S0 k ≠ S k) (eq : ∀ l, k < l → l < n → S0 l = S l) : False := by
  have z0 := s0.basic
  have z1 := s.basic
  have p0 := s0.pos
  have p1 := s.pos
  generalize hy0 : vecS n S0 (basF T0 n) (fun _ => 0) (-b0) = y0 at z0
  generalize hy1 : vecS n S (basF T n) (fun _ => 0) (-b) = y1 at z1
  have w : ∀ i, i < n → b * y0 (n + i) - b0 * y1 (n + i) = - Mh (hz (fun v => b * y0 v - b0 * y1 v) n) i := fun i hi => by
    rw [hz_lin, Mh_lin]
    have a := z0 i hi
    have c := z1 i hi
    have e1 : b * y0 (n + i) = b * (b0 * q i) - b * Mh (hz y0 n) i := by rw [← a, Int.mul_add]; omega
    have e2 : b0 * y1 (n + i) = b0 * (b * q i) - b0 * Mh (hz y1 n) i := by rw [← c, Int.mul_add]; omega
    rw [e1, e2]
    have e3 : b * (b0 * q i) = b0 * (b * q i) := by ac_rfl
    omega
  have tot : sg (fun i => (b * y0 i - b0 * y1 i) * (b * y0 (n + i) - b0 * y1 (n + i))) n ≤ 0 := by
    have o0 : hz (fun v => b * y0 v - b0 * y1 v) n 0 = 0 := hz_out (.inl (by omega))
    have o1 : hz (fun v => b * y0 v - b0 * y1 v) n 1 = 0 := hz_out (.inl (by omega))
    have o2 : hz (fun v => b * y0 v - b0 * y1 v) n (n + 2) = 0 := hz_out (.inr (by omega))
    have o3 : hz (fun v => b * y0 v - b0 * y1 v) n (n + 3) = 0 := hz_out (.inr (by omega))
    have nn := sg_sq_nonneg (D2 (hz (fun v => b * y0 v - b0 * y1 v) n)) (n + 2)
    rw [quad o0 o1 o2 o3] at nn
    have e : sg (fun i => (b * y0 i - b0 * y1 i) * (b * y0 (n + i) - b0 * y1 (n + i))) n + sg (fun i => Mh (hz (fun v => b * y0 v - b0 * y1 v) n) i * hz (fun v => b * y0 v - b0 * y1 v) n (i + 2)) n = 0 := by
      rw [← sg_add, sg_congr (g := fun _ => 0 * 0) fun i hi => by
        show (b * y0 i - b0 * y1 i) * (b * y0 (n + i) - b0 * y1 (n + i)) + Mh (hz (fun v => b * y0 v - b0 * y1 v) n) i * hz (fun v => b * y0 v - b0 * y1 v) n (i + 2) = 0 * 0
        rw [w i hi, hz_in hi]
        show (b * y0 i - b0 * y1 i) * -Mh (hz (fun v => b * y0 v - b0 * y1 v) n) i + Mh (hz (fun v => b * y0 v - b0 * y1 v) n) i * (b * y0 i - b0 * y1 i) = 0 * 0
        generalize Mh (hz (fun v => b * y0 v - b0 * y1 v) n) i = M
        grind, sg_mul]
      simp
    omega
  have term : ∀ i, i < n → (b * y0 i - b0 * y1 i) * (b * y0 (n + i) - b0 * y1 (n + i)) = if S0 i = S i then 0 else -(b * b0) * (basF T0 n i * basF T n i) := fun i hi => by
    rw [← hy0, ← hy1, vec_lo _ _ _ _ hi, vec_lo _ _ _ _ hi, vec_hi _ _ _ _ hi, vec_hi _ _ _ _ hi]
    cases S0 i <;> cases S i <;> simp <;> grind
  have pk : 0 < -(b * b0) * (basF T0 n k * basF T n k) := by
    have pb := Int.mul_pos p1 p0
    have neg : basF T0 n k * basF T n k < 0 := by
      unfold OkAt at no0 no
      cases h0 : S0 k with
      | true =>
        cases h1 : S k with
        | true => rw [h0, h1] at ne; exact absurd rfl ne
        | false =>
          rw [h0, if_pos rfl] at no0
          rw [h1, if_neg (by decide)] at no
          have := Int.mul_pos (show 0 < - basF T0 n k by omega) (show 0 < basF T n k by omega)
          rw [Int.neg_mul] at this
          omega
      | false =>
        cases h1 : S k with
        | false => rw [h0, h1] at ne; exact absurd rfl ne
        | true =>
          rw [h0, if_neg (by decide)] at no0
          rw [h1, if_pos rfl] at no
          have := Int.mul_pos (show 0 < basF T0 n k by omega) (show 0 < - basF T n k by omega)
          rw [Int.mul_neg] at this
          omega
    have := Int.mul_pos pb (show 0 < -(basF T0 n k * basF T n k) by omega)
    rw [Int.mul_neg] at this
    rw [Int.neg_mul]
    omega
  have low : sg (fun i => if i = k then -(b * b0) * (basF T0 n i * basF T n i) else 0) n ≤ sg (fun i => (b * y0 i - b0 * y1 i) * (b * y0 (n + i) - b0 * y1 (n + i))) n := sg_le fun i hi => by
    rw [term i hi]
    by_cases c : i = k
    · subst c
      rw [if_pos rfl, if_neg ne]
      exact Int.le_refl _
    · rw [if_neg c]
      by_cases d : S0 i = S i
      · rw [if_pos d]
        exact Int.le_refl _
      · rw [if_neg d]
        have hik : i < k := by
          by_cases e : k < i
          · exact absurd (eq i e hi) d
          · omega
        have a := ok0 i hik
        have c2 := ok i hik
        unfold OkAt at a c2
        have pb := Int.mul_pos p1 p0
        have np : basF T0 n i * basF T n i ≤ 0 := by
          cases h0 : S0 i with
          | true =>
            cases h1 : S i with
            | true => rw [h0, h1] at d; exact absurd rfl d
            | false =>
              rw [h0, if_pos rfl] at a
              rw [h1, if_neg (by decide)] at c2
              exact Int.mul_nonpos_of_nonneg_of_nonpos a c2
          | false =>
            cases h1 : S i with
            | false => rw [h0, h1] at d; exact absurd rfl d
            | true =>
              rw [h0, if_neg (by decide)] at a
              rw [h1, if_pos rfl] at c2
              exact Int.mul_nonpos_of_nonpos_of_nonneg a c2
        have := Int.mul_nonneg (Int.le_of_lt pb) (show 0 ≤ -(basF T0 n i * basF T n i) by omega)
        rw [Int.mul_neg] at this
        rw [Int.neg_mul]
        omega
  rw [sg_pt (fun i => -(b * b0) * (basF T0 n i * basF T n i)), if_pos hk] at low
  omega
/-- what stood when a line was last exchanged -/
structure Snap where
  S : Nat → Bool
  T : List (List Int)
  b : Int
structure Past (n : Nat) (q : Nat → Int) (S : Nat → Bool) (h : Nat → Option Snap) : Prop where
  at_ : ∀ k s, k < n → h k = some s → SqSt n q s.S s.T s.b ∧ (∀ i, i < k → OkAt s.S s.T n i) ∧ ¬ OkAt s.S s.T n k ∧ s.S k ≠ S k ∧ ∀ l, k < l → l < n → s.S l = S l
def mu (h : Nat → Option Snap) : Nat → Nat
  | 0 => 0
  | k + 1 => mu h k + if (h k).isNone = true then 2 ^ k else 0
def hput (h : Nat → Option Snap) (j : Nat) (s : Snap) : Nat → Option Snap := fun i => if i < j then none else if i = j then some s else h i
theorem mu_le (h : Nat → Option Snap) : ∀ k, mu h k + 1 ≤ 2 ^ k
  | 0 => by simp [mu]
  | k + 1 => by
    have := mu_le h k
    rw [mu, Nat.pow_succ]
    split <;> omega
theorem mu_put {h : Nat → Option Snap} {j : Nat} {s : Snap} (hj : h j = none) : ∀ n, j < n → mu (hput h j s) n < mu h n
  | 0, hn => by omega
  | n + 1, hn => by
    by_cases c : j = n
    · subst c
      have a := mu_le (hput h j s) j
      rw [mu, mu, hj]
      have e : hput h j s j = some s := by
        unfold hput
        rw [if_neg (by omega), if_pos rfl]
      rw [e]
      simp
      omega
    · have ih := mu_put (s := s) hj n (by omega)
      have e : hput h j s n = h n := by
        unfold hput
        rw [if_neg (by omega), if_neg (by omega)]
      rw [mu, mu, e]
      omega
theorem Past.next {n : Nat} {q : Nat → Int} {S : Nat → Bool} {T : List (List Int)} {b : Int} {h : Nat → Option Snap} (P : Past n q S h) (s : SqSt n q S T b) {j : Nat} (hj : j < n) (ok : ∀ i, i < j → OkAt S T n i) (no : ¬ OkAt S T n j) : h j = none ∧ Past n q (flip S j) (hput h j ⟨S, T, b⟩) := by
  constructor
  · cases e : h j with
    | none => rfl
    | some s0 =>
      obtain ⟨a1, a2, a3, a4, a5⟩ := P.at_ j s0 hj e
      exact absurd (murty a1 s hj a2 a3 ok no a4 a5) id
  · refine ⟨fun k s0 hk hs => ?_⟩
    unfold hput at hs
    by_cases c : k < j
    · rw [if_pos c] at hs
      cases hs
    · rw [if_neg c] at hs
      by_cases d : k = j
      · rw [if_pos d] at hs
        have e : (⟨S, T, b⟩ : Snap) = s0 := by injection hs
        rw [← e, d]
        refine ⟨s, ok, no, ?_, fun l hl _ => ?_⟩
        · show S j ≠ flip S j j
          unfold flip
          rw [if_pos rfl]
          cases S j <;> decide
        · show S l = flip S j l
          unfold flip
          rw [if_neg (by omega)]
      · rw [if_neg d] at hs
        obtain ⟨a1, a2, a3, a4, a5⟩ := P.at_ k s0 hk hs
        refine ⟨a1, a2, a3, ?_, fun l hl hn => ?_⟩
        · have e : flip S j k = S k := if_neg d
          rw [e]
          exact a4
        · have e : flip S j l = S l := if_neg (by omega)
          rw [e]
          exact a5 l hl hn
/-- the sizes -/
theorem SqSt.bt {n : Nat} {q : Nat → Int} {S : Nat → Bool} {T : List (List Int)} {b : Int} (s : SqSt n q S T b) (h6 : n ≤ 6) (hq : ∀ i, i < n → Bt 60 (q i)) : (∀ t ∈ T, ∀ z ∈ t, Bt 900 z) ∧ (0 < n → Bt 900 b) := by
  obtain ⟨W, tb, sh, _⟩ := s.ex
  have lw := tb.lw
  rw [sqA_len] at lw
  have each : ∀ r ∈ W, ∀ j, Bt 900 (r j) := fun r hr j => by
    obtain ⟨i, hi⟩ := List.mem_iff_getElem?.mp hr
    rw [tb.entry hi j]
    have z := dt_le (N := 2 ^ 60) ((sqB n S).set i j) (sqA n q) (by rw [List.length_set, sqB_len, sqA_len]) fun x hx c _ => by
      unfold sqA at hx
      obtain ⟨k, hk, rfl⟩ := List.mem_map.mp hx
      have hk' := List.mem_range.mp hk
      unfold sqR putI
      have := hq k hk'
      unfold Bt at this
      repeat' split
      all_goals first | omega | exact Nat.le_of_lt this | decide
    rw [List.length_set, sqB_len] at z
    have m : (n * 2 ^ 60) ^ n ≤ (2 ^ 63) ^ 6 := Nat.le_trans (Nat.pow_le_pow_left (show n * 2 ^ 60 ≤ 2 ^ 63 by omega) n) (Nat.pow_le_pow_right (by decide) h6)
    exact Nat.lt_of_le_of_lt (Nat.le_trans z m) (by rw [← Nat.pow_mul]; exact Nat.pow_lt_pow_right (by decide) (by decide))
  constructor
  · intro t ht x hx
    obtain ⟨i, hi⟩ := List.mem_iff_getElem?.mp ht
    obtain ⟨j, hj⟩ := List.mem_iff_getElem?.mp hx
    have hil := (List.getElem?_eq_some_iff.mp hi).1
    have hjl := (List.getElem?_eq_some_iff.mp hj).1
    have lt := sh.row t ht
    obtain ⟨r, hr⟩ : ∃ r, W[i]? = some r := ⟨_, List.getElem?_eq_getElem (by rw [← sh.len]; exact hil)⟩
    have e := sh.at_ i r t hr hi j (by omega)
    rw [an_val' hj] at e
    rw [e]
    exact each r (List.mem_of_getElem? hr) _
  · intro hn
    obtain ⟨r, hr⟩ : ∃ r, W[0]? = some r := ⟨_, List.getElem?_eq_getElem (by omega)⟩
    have e := tb.bas 0 0 r _ hr (sqB_at hn)
    rw [if_pos rfl] at e
    rw [← e]
    exact each r (List.mem_of_getElem? hr) _
end Ob

set_option maxHeartbeats 4000000
namespace Ob
open PySem PySem.Spec PyProof.Rows L2
theorem an_mapT {ts : List (Int × Int)} {g : Int × Int → Int} {i : Nat} {t : Int × Int} (h : ts[i]? = some t) : An (ts.map g) i = g t := an_val' (by rw [List.getElem?_map, h]; rfl)
theorem an_mapI {ns : List Int} {g : Int → Int} {i : Nat} (h : i < ns.length) : An (ns.map g) i = g (An ns i) := an_val' (by rw [List.getElem?_map, an_at h]; rfl)
theorem over_red {L b t : Int} (hb : 0 < b) (d : redB t b ∣ L) : overT L (redT t b, redB t b) * b = t * L := by
  show redT t b * (L / redB t b) * b = t * L
  have e1 := Int.ediv_mul_cancel d
  have m := red_mul (t := t) hb
  calc redT t b * (L / redB t b) * b = redT t b * b * (L / redB t b) := by ac_rfl
    _ = redB t b * t * (L / redB t b) := by rw [m]
    _ = t * (L / redB t b * redB t b) := by ac_rfl
    _ = t * L := by rw [e1]
/-! ### never above how far -/
theorem over_abs {t : Int × Int} {L : Int} (p : Pq t) (hL : 0 < L) (d : t.2 ∣ L) : -L ≤ overT L t ∧ overT L t ≤ L := by
  have e1 := Int.ediv_mul_cancel d
  have hp := p.fq.pos
  have h1 := p.one
  have hq : 0 < L / t.2 := Int.ediv_pos_of_pos_of_dvd hL (Int.le_of_lt hp) d
  have a : t.1 ≤ t.2 ∧ -t.2 ≤ t.1 := by omega
  unfold overT
  generalize L / t.2 = q at *
  constructor
  · have := Int.mul_le_mul_of_nonneg_right a.2 (Int.le_of_lt hq)
    rw [Int.neg_mul, Int.mul_comm t.2 q, e1] at this
    exact this
  · have := Int.mul_le_mul_of_nonneg_right a.1 (Int.le_of_lt hq)
    rw [Int.mul_comm t.2 q, e1] at this
    exact this
theorem abs_bound {z x L : Int} (hL : 0 ≤ L) (h : -L ≤ x ∧ x ≤ L) : z * x ≤ absI z * L := by
  unfold absI
  split
  · rename_i hz
    have := Int.mul_le_mul_of_nonneg_left h.1 (show 0 ≤ -z by omega)
    have e : -z * -L = z * L := by grind
    have e2 : -z * x = -(z * x) := by grind
    have e3 : -z * L = -(z * L) := by grind
    rw [e3]
    omega
  · rename_i hz
    exact Int.mul_le_mul_of_nonneg_left h.2 (by omega)
theorem gaps_an {ns : List Int} {fs : List (Int × Int)} {B : Int} (hl : fs.length = ns.length) : (gapsOf ns fs B).sum = sg (fun i => absI (An ns i * B - An (fs.map (overT B)) i)) ns.length := by
  unfold gapsOf
  have z := sum_sg0 (gapF B) (fun i => absI (An ns i * B - An (fs.map (overT B)) i)) (ns.zip fs) fun i a ha => by
    obtain ⟨h1, h2⟩ := List.getElem?_zip_eq_some.mp ha
    rw [an_val' h1, an_mapT h2]
    rfl
  rw [z, List.length_zip, show min ns.length fs.length = ns.length by omega]
theorem weak {ns : List Int} {ts fs : List (Int × Int)} {L B : Int} (hl : ts.length = ns.length) (hf : fs.length = ns.length) (oL : Over2 ts L) (oB : Over2 fs B) (pq : ∀ t ∈ ts, Pq t) (hs : showsB (ts.map (overT L)) = true) (hc : Conv (An (fs.map (overT B))) fs.length) :
    dotS ns (ts.map (overT L)) * B ≤ (gapsOf ns fs B).sum * L := by
  have lp : (ts.map (overT L)).length = ns.length := by rw [List.length_map]; exact hl
  have lo : (fs.map (overT B)).length = ns.length := by rw [List.length_map]; exact hf
  have d1 := dot_bent (ns := fs.map (overT B)) (xs := ts.map (overT L)) (by omega) hs (by rw [List.length_map]; exact hc)
  rw [dot_an (by omega), lp] at d1
  rw [gaps_an hf, dot_an (by omega), lp, ← sg_mul, ← sg_mul]
  have z : sg (fun i => An ns i * An (ts.map (overT L)) i * B) ns.length = sg (fun i => (An ns i * B - An (fs.map (overT B)) i) * An (ts.map (overT L)) i) ns.length + sg (fun i => An (fs.map (overT B)) i * An (ts.map (overT L)) i) ns.length := by
    rw [← sg_add]
    exact sg_congr fun i _ => by
      show An ns i * An (ts.map (overT L)) i * B = (An ns i * B - An (fs.map (overT B)) i) * An (ts.map (overT L)) i + An (fs.map (overT B)) i * An (ts.map (overT L)) i
      rw [Int.sub_mul]
      have e : An ns i * An (ts.map (overT L)) i * B = An ns i * B * An (ts.map (overT L)) i := by ac_rfl
      omega
  rw [z]
  have y : sg (fun i => (An ns i * B - An (fs.map (overT B)) i) * An (ts.map (overT L)) i) ns.length ≤ sg (fun i => absI (An ns i * B - An (fs.map (overT B)) i) * L) ns.length := sg_le fun i hi => by
    obtain ⟨t, ht⟩ : ∃ t, ts[i]? = some t := ⟨_, List.getElem?_eq_getElem (by omega)⟩
    refine abs_bound (Int.le_of_lt oL.pos) ?_
    rw [an_mapT ht]
    exact over_abs (pq t (List.mem_of_getElem? ht)) oL.pos (oL.dvd t (List.mem_of_getElem? ht))
  omega
theorem sg_zero : ∀ m, sg (fun _ => 0) m = 0
  | 0 => rfl
  | m + 1 => by rw [sg, sg_zero m]; rfl
/-! ### rows that bend, step by step -/
theorem an_app {ns ms : List Int} {i : Nat} (h : i < ns.length) : An (ns ++ ms) i = An ns i := an_val' (by rw [List.getElem?_append_left h]; exact an_at h)
theorem an_last {ns : List Int} {b : Int} : An (ns ++ [b]) ns.length = b := an_val' (by simp)
theorem bent_step {ns : List Int} {a b : Int} (hc : Conv (An (ns ++ [b])) (ns.length + 1)) (h : 1 ≤ ns.length → b - An ns (ns.length - 1) ≤ a) : Conv (An (ns ++ [b] ++ [b + a])) (ns.length + 2) := by
  intro j hj
  have l1 : (ns ++ [b]).length = ns.length + 1 := by rw [List.length_append]; rfl
  have f : ∀ i, i < ns.length + 1 → An (ns ++ [b] ++ [b + a]) i = An (ns ++ [b]) i := fun i hi => an_app (by omega)
  have g : ∀ i, i < ns.length → An (ns ++ [b]) i = An ns i := fun i hi => an_app hi
  have k : An (ns ++ [b] ++ [b + a]) (ns.length + 1) = b + a := by rw [← l1]; exact an_last
  have k2 : An (ns ++ [b]) ns.length = b := an_last
  by_cases c : j + 2 < ns.length + 1
  · rw [f _ (by omega), f _ (by omega), f _ c]
    exact hc j c
  · have e : j + 2 = ns.length + 1 := by omega
    have e2 : j + 1 = ns.length := by omega
    rw [e, k, e2, f _ (by omega), k2, f _ (by omega), g _ (by omega)]
    have z := h (by omega)
    rw [show ns.length - 1 = j by omega] at z
    omega
theorem bent_end {ns : List Int} {b : Int} (hc : Conv (An (ns ++ [b])) (ns.length + 1)) : Conv (An ns) ns.length := by
  intro j hj
  have z := hc j (by omega)
  rw [an_app (by omega), an_app (by omega), an_app (by omega)] at z
  exact z
theorem conv_one (b : Int) : Conv (An ([] ++ [b])) 1 := fun j hj => by omega
end Ob
namespace Ob
open PySem PySem.Spec PyProof.Rows L2
theorem sum_bt {k : Nat} : ∀ (l : List Int), (∀ z ∈ l, Bt k z) → l.sum.natAbs ≤ l.length * 2 ^ k
  | [], _ => by simp
  | a :: l, h => by
    have ih := sum_bt l fun z hz => h z (List.mem_cons_of_mem _ hz)
    have ha : a.natAbs < 2 ^ k := h a (List.mem_cons_self ..)
    rw [List.sum_cons, List.length_cons, Nat.add_mul, Nat.one_mul]
    have := Int.natAbs_add_le a l.sum
    omega
theorem dot_bt {ns xs : List Int} (hn : ∀ z ∈ ns, Bt 60 z) (hx : ∀ z ∈ xs, Bt 600 z) (hl : xs.length ≤ 12) : Bt 664 (dotS ns xs) := by
  unfold dotS
  have z := sum_bt (k := 660) ((ns.zip xs).map fun e => e.1 * e.2) fun z hz => by
    obtain ⟨e, he, rfl⟩ := List.mem_map.mp hz
    have q := List.of_mem_zip he
    exact (hn _ q.1).mul (hx _ q.2)
  have l : ((ns.zip xs).map fun e => e.1 * e.2).length ≤ 12 := by
    rw [List.length_map, List.length_zip]
    omega
  refine Nat.lt_of_le_of_lt z (Nat.lt_of_le_of_lt (Nat.mul_le_mul_right _ l) ?_)
  rw [show 664 = 4 + 660 from rfl, Nat.pow_add]
  exact Nat.mul_lt_mul_of_pos_right (by decide) (Nat.pow_pos (by decide))
def TS (ns : List Int) (ts : List (Int × Int)) (M : Int) : Int × Int := (redT (dotS ns (ts.map (overT M))) M, redB (dotS ns (ts.map (overT M))) M)
theorem TS.any {ns : List Int} {ts : List (Int × Int)} {L M : Int} (h : Over2 ts L) (g : Over2 ts M) : TS ns ts L = TS ns ts M := dot_any ns h g
theorem TS.pos {ns : List Int} {ts : List (Int × Int)} {M : Int} (h : Over2 ts M) : 0 < (TS ns ts M).2 := redB_pos h.pos
theorem TS.bt {ns : List Int} {ts : List (Int × Int)} {M : Int} (h : Over2 ts M) (pq : ∀ t ∈ ts, Pq t) (hn : ∀ z ∈ ns, Bt 60 z) (hl : ts.length ≤ 12) : Bt 1000 (TS ns ts M).1 ∧ Bt 1000 (TS ns ts M).2 := by
  have d := dot_bt (ns := ns) (xs := ts.map (overT M)) hn (fun z hz => by
    obtain ⟨t, ht, rfl⟩ := List.mem_map.mp hz
    have z1 : Bt 62 t.1 := (pq t ht).fq.top
    have z2 : Bt 500 (M / t.2) := h.bt.le (Int.natAbs_ediv_le_natAbs _ _)
    exact (z1.mul z2).mono (by decide)) (by rw [List.length_map]; exact hl)
  exact ⟨(d.le (Int.natAbs_ediv_le_natAbs _ _)).mono (by decide), (h.bt.le (Int.natAbs_ediv_le_natAbs _ _)).mono (by decide)⟩
/-- a told fraction -/
def TldAt (H : Hp) (v : V) (ns : List Int) (ts : List (Int × Int)) : Prop := ∃ (rv : Addr) (M : Int), v = .ref rv ∧ Over2 ts M ∧ H rv = some (.tup [.int (TS ns ts M).1, .int (TS ns ts M).2])
theorem TldAt.same {H H' : Hp} {v : V} {ns : List Int} {ts : List (Int × Int)} (h : TldAt H v ns ts) (s : Same H H') : TldAt H' v ns ts := let ⟨r, M, e, o, k⟩ := h; ⟨r, M, e, o, s _ _ k⟩
/-- told of prices: what they show, or None -/
def TldO (H : Hp) (v : V) (ns : List Int) (ts : List (Int × Int)) : Prop := (v = .non ∧ ∀ M, Over2 ts M → showsB (ts.map (overT M)) = false) ∨ (TldAt H v ns ts ∧ ∀ M, Over2 ts M → showsB (ts.map (overT M)) = true)
theorem TldO.same {H H' : Hp} {v : V} {ns : List Int} {ts : List (Int × Int)} (h : TldO H v ns ts) (s : Same H H') : TldO H' v ns ts := by
  rcases h with h | ⟨h, k⟩
  · exact .inl h
  · exact .inr ⟨h.same s, k⟩
structure Tb7 (P1 P2 P3 P4 P5 P6 P7 : Addr) (H : Hp) : Prop where
  t1 : Tb P1 H
  t2 : Tb P2 H
  t3 : Tb P3 H
  t4 : Tb P4 H
  t5 : Tb P5 H
  t6 : Tb P6 H
  t7 : Tb P7 H
theorem Tb7.same {P1 P2 P3 P4 P5 P6 P7 : Addr} {H H' : Hp} (h : Tb7 P1 P2 P3 P4 P5 P6 P7 H) (s : Same H H') : Tb7 P1 P2 P3 P4 P5 P6 P7 H' := ⟨s _ _ h.t1, s _ _ h.t2, s _ _ h.t3, s _ _ h.t4, s _ _ h.t5, s _ _ h.t6, s _ _ h.t7⟩
end Ob

set_option maxHeartbeats 4000000
namespace Ob
open PySem PySem.Spec PyProof.Rows L2
/-! ### the first table -/
def sqT (n : Nat) (q : Nat → Int) : List (List Int) := (List.range n).map fun i => (List.range n).map (fun j => putI j i) ++ [q i]
theorem sqT_at {n : Nat} {q : Nat → Int} {i : Nat} (h : i < n) : (sqT n q)[i]? = some ((List.range n).map (fun j => putI j i) ++ [q i]) := by
  unfold sqT
  rw [List.getElem?_map, List.getElem?_range h]
  rfl
theorem sqT_an {n : Nat} {q : Nat → Int} {i j : Nat} (hj : j ≤ n) : An ((List.range n).map (fun j => putI j i) ++ [q i]) j = if j < n then putI j i else q i := by
  refine an_val' ?_
  by_cases h : j < n
  · rw [if_pos h, List.getElem?_append_left (by simp; exact h), List.getElem?_map, List.getElem?_range h]
    rfl
  · have e : j = n := by omega
    rw [if_neg h, e, List.getElem?_append_right (by simp)]
    simp
theorem sq_init (n : Nat) (q : Nat → Int) : SqSt n q (fun _ => false) (sqT n q) 1 := by
  refine ⟨sqA n q, Tbl.init (by rw [sqB_len, sqA_len]) fun i k r c hr hc => ?_, ⟨?_, fun t ht => ?_, fun i r t hr ht j hj => ?_⟩, fun y => Iff.rfl⟩
  · have hi : i < n := by have := (List.getElem?_eq_some_iff.mp hr).1; rw [sqA_len] at this; exact this
    have hk : k < n := by have := (List.getElem?_eq_some_iff.mp hc).1; rw [sqB_len] at this; exact this
    rw [sqA_at hi] at hr
    rw [sqB_at hk] at hc
    have er : sqR n q i = r := by injection hr
    have ec : sqBv n (fun _ => false) k = c := by injection hc
    have eB : sqBv n (fun _ => false) k = n + k := rfl
    rw [← er, ← ec, eB]
    unfold sqR
    rw [if_neg (by omega), if_pos (by omega), show n + k - n = k by omega]
    by_cases e : k = i
    · rw [if_pos e, if_pos e.symm]
    · rw [if_neg e, if_neg (fun z => e z.symm)]
  · simp [sqT, sqA]
  · unfold sqT at ht
    obtain ⟨i, _, rfl⟩ := List.mem_map.mp ht
    simp
  · have hi : i < n := by have := (List.getElem?_eq_some_iff.mp hr).1; rw [sqA_len] at this; exact this
    rw [sqA_at hi] at hr
    rw [sqT_at hi] at ht
    have er : sqR n q i = r := by injection hr
    have et : (List.range n).map (fun j => putI j i) ++ [q i] = t := by injection ht
    rw [← er, ← et, sqT_an (by omega)]
    by_cases h : j < n
    · have eN : sqN n (fun _ => false) j = j := by
        unfold sqN
        rw [if_neg (show ¬ j = n by omega)]
        rfl
      rw [eN, if_pos h]
      unfold sqR
      rw [if_pos h]
    · have eN : sqN n (fun _ => false) j = 2 * n := by
        unfold sqN
        rw [if_pos (show j = n by omega)]
      rw [eN, if_neg h]
      unfold sqR
      rw [if_neg (by omega), if_neg (by omega), if_pos rfl]
/-! ### what is told at the end -/
structure NearSq (ns : List Int) (b : Int) (x : Nat → Int) : Prop where
  pos : 0 < b
  shows : ShowsF x ns.length
  conv : Conv (fun k => An ns k * b - x k) ns.length
  orth : sg (fun k => (An ns k * b - x k) * x k) ns.length = 0
def wts (S : Nat → Bool) (T : List (List Int)) (n : Nat) : Nat → Int := fun i => if S i = true then basF T n i else 0
theorem near_end {ns : List Int} {n : Nat} {q : Nat → Int} {S : Nat → Bool} {T : List (List Int)} {b : Int} (hn : ns.length = n + 2) (hq : ∀ i, i < n → q i = -(An ns i - 2 * An ns (i + 1) + An ns (i + 2))) (s : SqSt n q S T b) (ok : ∀ i, i < n → OkAt S T n i) : NearSq ns b (D2 (hz (wts S T n) n)) := by
  have zb := s.basic
  have b0 := s.pos
  have ez : ∀ k, hz (vecS n S (basF T n) (fun _ => 0) (-b)) n k = hz (wts S T n) n k := fun k => by
    by_cases h : 2 ≤ k ∧ k < n + 2
    · obtain ⟨i, rfl⟩ : ∃ i, k = i + 2 := ⟨k - 2, by omega⟩
      rw [hz_in (by omega), hz_in (by omega), vec_lo _ _ _ _ (by omega)]
      rfl
    · rw [hz_out (by omega), hz_out (by omega)]
  have fe : hz (vecS n S (basF T n) (fun _ => 0) (-b)) n = hz (wts S T n) n := funext ez
  rw [fe] at zb
  have hw : ∀ i, i < n → 0 ≤ wts S T n i := fun i hi => by
    have z := ok i hi
    unfold OkAt at z
    unfold wts
    cases h : S i with
    | true => rw [h, if_pos rfl] at z; rw [if_pos rfl]; exact z
    | false => rw [if_neg (by decide)]; exact Int.le_refl _
  have wl : ∀ i, i < n → vecS n S (basF T n) (fun _ => 0) (-b) (n + i) ≤ 0 := fun i hi => by
    have z := ok i hi
    unfold OkAt at z
    rw [vec_hi _ _ _ _ hi]
    cases h : S i with
    | true => rw [if_pos rfl]; exact Int.le_refl _
    | false => rw [h, if_neg (by decide)] at z; rw [if_neg (by decide)]; exact z
  have ww : ∀ i, i < n → wts S T n i * vecS n S (basF T n) (fun _ => 0) (-b) (n + i) = 0 := fun i hi => by
    rw [vec_hi _ _ _ _ hi]
    unfold wts
    cases S i <;> simp
  have h0 : hz (wts S T n) n 0 = 0 := hz_out (.inl (by omega))
  have h1 : hz (wts S T n) n 1 = 0 := hz_out (.inl (by omega))
  have e0 : hz (wts S T n) n (n + 2) = 0 := hz_out (.inr (by omega))
  have e1 : hz (wts S T n) n (n + 2 + 1) = 0 := hz_out (.inr (by omega))
  have pos : ∀ i, i ≤ n + 2 → 0 ≤ hz (wts S T n) n i := fun i _ => by
    by_cases h : 2 ≤ i ∧ i < n + 2
    · obtain ⟨k, rfl⟩ : ∃ k, i = k + 2 := ⟨i - 2, by omega⟩
      rw [hz_in (by omega)]
      exact hw k (by omega)
    · rw [hz_out (by omega)]
      exact Int.le_refl _
  have sh : ShowsF (D2 (hz (wts S T n) n)) (n + 2) := shows_heights (by omega) h0 h1 e0 e1 pos fun i _ => rfl
  obtain ⟨_, ah⟩ := heights_sums (x := D2 (hz (wts S T n) n)) (m := n + 2) h0 h1 fun i _ => rfl
  -- the bends of the told row
  have dd : ∀ i, i < n → (An ns (i + 2) * b - D2 (hz (wts S T n) n) (i + 2)) - 2 * (An ns (i + 1) * b - D2 (hz (wts S T n) n) (i + 1)) + (An ns i * b - D2 (hz (wts S T n) n) i) = - vecS n S (basF T n) (fun _ => 0) (-b) (n + i) := fun i hi => by
    have z := zb i hi
    rw [hq i hi] at z
    have m : Mh (hz (wts S T n) n) i = -(D2 (hz (wts S T n) n) (i + 2) - 2 * D2 (hz (wts S T n) n) (i + 1) + D2 (hz (wts S T n) n) i) := by
      unfold D2 Mh
      rw [show 1 + (i + 2) = i + 3 by omega, show 2 + (i + 2) = i + 4 by omega, show 1 + (i + 1) = i + 2 by omega, show 2 + (i + 1) = i + 3 by omega, show 1 + i = i + 1 by omega, show 2 + i = i + 2 by omega]
      omega
    rw [m] at z
    grind
  refine ⟨b0, by rw [hn]; exact sh, fun j hj => ?_, ?_⟩
  · have z := dd j (by omega)
    have y := wl j (by omega)
    show 2 * (An ns (j + 1) * b - D2 (hz (wts S T n) n) (j + 1)) ≤ (An ns j * b - D2 (hz (wts S T n) n) j) + (An ns (j + 2) * b - D2 (hz (wts S T n) n) (j + 2))
    omega
  · have sE := sh.s
    have aE := sh.end_
    have aN := ahF_next (D2 (hz (wts S T n) n)) (n + 1)
    rw [show n + 1 + 1 = n + 2 from rfl] at aN
    rw [hn, parts (fun k => An ns k * b - D2 (hz (wts S T n) n) k) (D2 (hz (wts S T n) n)) n, sE, show ahF (D2 (hz (wts S T n) n)) (n + 1) = 0 by omega]
    have e : sg (fun i => ((An ns (i + 2) * b - D2 (hz (wts S T n) n) (i + 2)) - 2 * (An ns (i + 1) * b - D2 (hz (wts S T n) n) (i + 1)) + (An ns i * b - D2 (hz (wts S T n) n) i)) * ahF (D2 (hz (wts S T n) n)) (i + 1)) n = 0 := by
      rw [sg_congr (g := fun _ => 0) fun i hi => by
        show _ * ahF (D2 (hz (wts S T n) n)) (i + 1) = 0
        rw [dd i hi, ah (i + 1) (by omega), show i + 1 + 1 = i + 2 from rfl, hz_in hi, Int.neg_mul_neg, Int.mul_comm]
        exact ww i hi]
      exact sg_zero n
    rw [e]
    simp
/-- the nearest is one -/
theorem NearSq.uniq {ns : List Int} {b c : Int} {x y : Nat → Int} (N : NearSq ns b x) (M : NearSq ns c y) : ∀ k, k < ns.length → x k * c = y k * b := by
  have a1 := M.shows.bent N.conv
  have a2 := N.shows.bent M.conv
  have o1 := N.orth
  have o2 := M.orth
  have p := N.pos
  have p2 := M.pos
  have e : sg (fun k => (x k * c - y k * b) * (x k * c - y k * b)) ns.length = -(sg (fun k => (An ns k * b - x k) * x k) ns.length * (c * c) + sg (fun k => (An ns k * c - y k) * y k) ns.length * (b * b)) + (sg (fun k => (An ns k * b - x k) * y k) ns.length * (b * c) + sg (fun k => (An ns k * c - y k) * x k) ns.length * (b * c)) := by
    have z : sg (fun k => (x k * c - y k * b) * (x k * c - y k * b)) ns.length + (sg (fun k => (An ns k * b - x k) * x k) ns.length * (c * c) + sg (fun k => (An ns k * c - y k) * y k) ns.length * (b * b)) = sg (fun k => (An ns k * b - x k) * y k) ns.length * (b * c) + sg (fun k => (An ns k * c - y k) * x k) ns.length * (b * c) := by
      rw [← sg_mul, ← sg_mul, ← sg_mul, ← sg_mul, ← sg_add, ← sg_add, ← sg_add]
      exact sg_congr fun k _ => by
        show (x k * c - y k * b) * (x k * c - y k * b) + ((An ns k * b - x k) * x k * (c * c) + (An ns k * c - y k) * y k * (b * b)) = (An ns k * b - x k) * y k * (b * c) + (An ns k * c - y k) * x k * (b * c)
        grind
    omega
  rw [o1, o2] at e
  have bc := Int.mul_pos p p2
  have l1 := Int.mul_nonpos_of_nonpos_of_nonneg a1 (Int.le_of_lt bc)
  have l2 := Int.mul_nonpos_of_nonpos_of_nonneg a2 (Int.le_of_lt bc)
  have nn := sg_sq_nonneg (fun k => x k * c - y k * b) ns.length
  have z := sg_sq_zero (fun k => x k * c - y k * b) ns.length (by
    show sg (fun k => (x k * c - y k * b) * (x k * c - y k * b)) ns.length = 0
    have nn' : 0 ≤ sg (fun k => (x k * c - y k * b) * (x k * c - y k * b)) ns.length := nn
    omega)
  intro k hk
  have := z k hk
  omega
end Ob

set_option maxHeartbeats 4000000
namespace HT
open PySem PySem.Spec PyProof.Rows L2
section
variable {prog : Program} {w : World} {A : Around} {E : Value → Shared → Prop} {s : Shared}
end
end HT
namespace L2
open PySem PySem.Spec PyProof.Rows
section
variable {X : Cx}
end
end L2

set_option maxHeartbeats 4000000
namespace Ob
open PySem PySem.Spec PyProof.Rows L2
section
variable {X : Cx} {P c : Addr} {x : Str} {elt iter : Expr} {ti : TE} {p1 p5 p6 p7 : Pos} {scope : Scope} {R : L2.St → Hp → V → Int → Prop}
end
end Ob

set_option maxHeartbeats 4000000
namespace Ob
open PySem PySem.Spec PyProof.Rows L2
section
variable {X : Cx} {pins : List (Addr × Obj)} {σ : L2.St} {H : Hp} {s : Shared} {P : Addr}
end
/-- ints as a key -/
def kk (t : List Int) : List Key := t.map Sum.inl
section
variable {X : Cx} {P : Addr} {x : Str} {scope : Scope}
end
end Ob

set_option maxHeartbeats 4000000
namespace L2
open PySem PySem.Spec PyProof.Rows
end L2
namespace Ob
open PySem PySem.Spec PyProof.Rows L2
section
variable {X : Cx}
/-- list(range(a, b)), far from 0 too -/
def ramp (lo : Int) (n : Nat) : List Int := (List.range n).map fun (k : Nat) => lo + (k : Int)
def tLRngW (ta : TA) : TE := fun σ H Q => ta σ H fun vs H1 => ∃ lo hi : Int, vs = [.int lo, .int hi] ∧ -(2 ^ 60) ≤ lo ∧ lo ≤ 2 ^ 60 ∧ -(2 ^ 60) ≤ hi ∧ hi ≤ 2 ^ 60 ∧ (hi - lo).toNat ≤ 1000 ∧ ∀ l, H1 l = none → Q (.ref l) (upd H1 l (.lst ((ramp lo (hi - lo).toNat).map V.int)))
theorem pe_lrngW {a b : Expr} {ta : TA} {p1 p2 p3 p4 : Pos} (hc : X.calm = true) (hgl : Gl X "list") (hml : X.mg "list" = none) (hg : Gl X "range") (hm : X.mg "range" = none) (ha : PA X [a, b] ta) (hs : starEach [a, b] X.env = [(false, eval a X.env), (false, eval b X.env)] := by rfl) (hs2 : starEach [b] X.env = [(false, eval b X.env)] := by rfl) :
    PE X (.Call (.Name "list" p1) [.Call (.Name "range" p2) [a, b] [] p3] [] p4) (tLRngW ta) := by
  intro pins s σ H Q I h
  have hh : X.A.handled = none := I.ok.hd hc
  refine Call_ (ld_blt I hgl hml PyProof.Rows.boot_list (PyProof.Rows.callWith_type1 ?_ rfl rfl))
  refine Calls.spliced_cons ?_
  refine Call_ (ld_blt I hg hm boot_range (PyProof.Rows.callWith_type1 (thn (ha p3 pins s σ H _ I h) fun us s1 ⟨vs, H1, I1, r1, q1⟩ => ?_) (by rw [hs, hs2]) (by rw [hs2]; rfl)))
  obtain ⟨lo, hi, e, l1, l2, l3, l4, hn, q⟩ := q1
  subst e
  generalize hnn : (hi - lo).toNat = n at *
  cases r1 with
  | cons r rr =>
    cases rr with
    | cons r' rr' =>
    cases rr'
    obtain ⟨t, rfl⟩ := r
    obtain ⟨t2, rfl⟩ := r'
    refine call_range_2 (Calls.spliced_nil ?_)
    have hsz : Builtin.Range.rangeSize lo hi 1 = n := by rw [rangeSize_one]; split <;> omega
    refine call_list_range hh (IsRange.new ..) (small_one (by omega) (by omega) (by omega) (by omega)) hsz (by omega) fun h' tk acc c' hk hS hacc => ?_
    have I2 := I1.kept (h' := s1.heap.push { cls := .type "range", data := .fields #[.int lo t, .int hi t2, .int 1 s1.toks] }) (t' := s1.toks + 1) fun b o e => Heap.get?_push_of_some _ e
    refine ⟨.ref _, _, I2.laid (t' := tk) hk (Nat.le_refl _) (show ObjOk X.prog X.w _ h' _ (.lst ((ramp lo n).map V.int)) from ⟨?_, acc.toList, c', ?_, ?_⟩), rfl, q _ (I2.hok.fresh (Nat.le_refl _))⟩
    · unfold ramp
      rw [List.length_map, List.length_map, List.length_range]
      exact Nat.le_of_lt (small1000 hn)
    · refine vals_at _ _ (by unfold ramp; rw [List.length_map, List.length_map, List.length_range, Array.length_toList, hacc.1]) fun j y u e1 e2 => ?_
      obtain ⟨t', rfl⟩ := hacc.2 j u (by simpa using e2)
      unfold ramp at e1
      rw [List.getElem?_map, List.getElem?_map] at e1
      cases e3 : (List.range n)[j]? with
      | none => rw [e3] at e1; cases e1
      | some k =>
        rw [e3] at e1
        cases e1
        have ek : k = j := by
          have := (List.getElem?_eq_some_iff.mp e3).2
          simpa using this.symm
        subst ek
        exact ⟨t', by simp⟩
    · rw [hS]
end
theorem ramp_len (lo : Int) (n : Nat) : (ramp lo n).length = n := by unfold ramp; rw [List.length_map, List.length_range]
/-- the numbers of a bound -/
def rng (b : Int × Int) : List Int := ramp b.1 (b.2 + 1 - b.1).toNat
/-- all rows within, and how many they are -/
def okR (row : List Int) (n : Int) : Bool := decide (row.length < 2) || decide (row.getD (row.length - 1) 0 - row.getD (row.length - 2) 0 ≤ n - row.getD (row.length - 1) 0)
def grow (found : List (List Int)) (b : Int × Int) : List (List Int) := found.flatMap fun row => ((rng b).filter (okR row)).map fun n => row ++ [n]
end Ob

set_option maxHeartbeats 4000000
namespace Ob
open PySem PySem.Spec PyProof.Rows L2
/-! ### promises of the nearest by squares -/
def spNotMany : Sp := fun vs H Q _ => ∃ (a : Addr) (ns : List Int), vs = [.ref a] ∧ H a = some (.lst (ns.map V.int)) ∧ ns.length ≤ 8 ∧ Q .non H
def spInner : Sp := fun vs H Q _ => ∃ (a : Addr) (ns : List Int), vs = [.ref a] ∧ H a = some (.lst (ns.map V.int)) ∧ ns.length ≤ 8 ∧ ∀ r, H r = none → Q (.ref r) (upd H r (.lst ((ramp 1 (ns.length - 2)).map V.int)))
def spPut : Sp := fun vs H Q _ => ∃ i j : Nat, vs = [.int (1 + (i : Int)), .int (1 + (j : Int))] ∧ i ≤ 100 ∧ j ≤ 100 ∧ Q (.int (putI i j)) H
/-- the inner places' names -/
def nmS (n : Nat) (S : Nat → Bool) : List (Int × Int) := (List.range n).map fun (i : Nat) => ((if S i = true then 0 else 1), 1 + (i : Int))
def bendQ (ns : List Int) : Nat → Int := fun i => -(An ns i - 2 * An ns (i + 1) + An ns (i + 2))
def spTblW (C : Addr) : Sp := fun vs H Q _ => ∃ (a : Addr) (ns : List Int), vs = [.ref a] ∧ H a = some (.lst (ns.map V.int)) ∧ 1 ≤ ns.length ∧ ns.length ≤ 8 ∧ (∀ z ∈ ns, Bt 42 z) ∧
  ∀ (p B A : Addr) (H' : Hp), Same H H' → H p = none → H B = none → H A = none → TabAt C H' p B A (sqT (ns.length - 2) (bendQ ns)) (nmS (ns.length - 2) fun _ => false) (nmS (ns.length - 2) fun _ => true) 1 → Q (.ref p) H'
def spAmiss : Sp := fun vs H Q _ => ∃ (r : Addr) (k p x : Int), vs = [.ref r, .int x] ∧ H r = some (.tup [.int k, .int p]) ∧ ∀ H', Same H H' → Q (.bl (if k = 0 then decide (x < 0) else decide (x > 0))) H'
def spFirstA (C : Addr) : Sp := fun vs H Q _ => ∃ (p B A : Addr) (T : List (List Int)) (S : Nat → Bool) (ms : List (Int × Int)) (b : Int) (n : Nat), vs = [.ref p] ∧ TabAt C H p B A T (nmS n S) ms b ∧ T.length = n ∧ (∀ t ∈ T, t.length = n + 1) ∧ n ≤ 8 ∧
  ∀ H', Same H H' → ((∀ i, i < n → OkAt S T n i) → Q .non H') ∧ ∀ a : Nat, a < n → (∀ i, i < a → OkAt S T n i) → ¬ OkAt S T n a → Q (.int (a : Int)) H'
def spRight (C : Addr) : Sp := fun vs H Q _ => ∃ (p B A : Addr) (n : Nat) (q : Nat → Int), vs = [.ref p] ∧ TabAt C H p B A (sqT n q) (nmS n fun _ => false) (nmS n fun _ => true) 1 ∧ n ≤ 6 ∧ (∀ i, i < n → Bt 60 (q i)) ∧
  ∀ (S : Nat → Bool) (T : List (List Int)) (b : Int) (H' : Hp), SqSt n q S T b → (n = 0 → b = 1) → (∀ i, i < n → OkAt S T n i) → TabAt C H' p B A T (nmS n S) (nmS n fun i => !S i) b → (∀ x o, H x = some o → x ≠ p → x ≠ B → x ≠ A → H' x = some o) → Q .non H'
theorem nm_at {n : Nat} {S : Nat → Bool} {i : Nat} (h : i < n) : (nmS n S)[i]? = some ((if S i = true then 0 else 1), 1 + (i : Int)) := by
  unfold nmS
  rw [List.getElem?_map, List.getElem?_range h]
  rfl
theorem nm_len (n : Nat) (S : Nat → Bool) : (nmS n S).length = n := by simp [nmS]
theorem nm_set {n : Nat} {S : Nat → Bool} {a : Nat} (h : a < n) : (nmS n S).set a ((if S a = true then 1 else 0), 1 + (a : Int)) = nmS n (flip S a) := by
  refine List.ext_getElem? fun i => ?_
  rw [List.getElem?_set, nm_len]
  by_cases hi : i < n
  · rw [nm_at hi, nm_at hi]
    by_cases e : a = i
    · subst e
      have fl : flip S a a = !S a := if_pos rfl
      rw [if_pos rfl, if_pos h, fl]
      cases S a <;> rfl
    · have fl : flip S a i = S i := if_neg fun z => e z.symm
      rw [if_neg e, fl]
  · rw [List.getElem?_eq_none (by rw [nm_len]; omega), List.getElem?_eq_none (by rw [nm_len]; omega), if_neg (by omega)]
theorem flip_not (S : Nat → Bool) (a : Nat) : flip (fun i => !S i) a = fun i => !flip S a i := by
  funext i
  unfold flip
  split <;> rfl
theorem nm_set' {n : Nat} {S : Nat → Bool} {a : Nat} (h : a < n) : (nmS n fun i => !S i).set a ((if S a = true then 0 else 1), 1 + (a : Int)) = nmS n fun i => !flip S a i := by
  have z := nm_set (S := fun i => !S i) h
  rw [flip_not] at z
  rw [← z]
  congr 2
  cases S a <;> rfl
/-- what at says of a table -/
def AtIs (S : Nat → Bool) (T : List (List Int)) (n : Nat) (v : V) : Prop := (v = .non ∧ ∀ i, i < n → OkAt S T n i) ∨ ∃ a : Nat, v = .int (a : Int) ∧ a < n ∧ (∀ i, i < a → OkAt S T n i) ∧ ¬ OkAt S T n a
theorem with_at {G : Prop} {S : V → Hp → Prop} {R : V → Hp → Prop} (use : (∀ v H, S v H → R v H) → G) (rest : ∀ v H, S v H → R v H) : G := use rest
theorem basF_at {T : List (List Int)} {n i : Nat} {t : List Int} (h : T[i]? = some t) : basF T n i = An t n := by
  unfold basF
  rw [h]
theorem ramp_at {lo : Int} {n k : Nat} (h : k < n) : (ramp lo n)[k]? = some (lo + (k : Int)) := by
  unfold ramp
  rw [List.getElem?_map, List.getElem?_range h]
  rfl
end Ob

set_option maxHeartbeats 4000000
namespace Ob
open PySem PySem.Spec PyProof.Rows L2
/-- a dict comprehension over zip of two lists -/
theorem dc_zip {K : PySem.W.Frag} {a b : Addr} {xs ys : List V} {g : TG} {tt : TT} {tk tv : TE} {vs : List Nat} {σ : L2.St} {H1 : Hp} {D : Addr} {Qd : Hp → Prop} (Pv : Nat → Hp → Prop) (n : Nat) (hn : n = min xs.length ys.length) (h0 : Pv 0 (upd H1 D (.dT []))) (hl : ∀ i H, i ≤ n → Pv i H → SqL K H a xs ∧ SqL K H b ys)
    (hs : ∀ i x y T H, xs[i]? = some x → ys[i]? = some y → H T = none → Pv i H → g (.ref T) (wipe σ vs) (upd H T (.tup [x, y])) fun σ2 H2 => wipe σ2 vs = wipe σ vs ∧ tt σ2 H2 fun b H3 =>
      if b = true then tk σ2 H3 fun k H4 => tv σ2 H4 fun y H5 => ∃ H6, DPut H5 D k y H6 ∧ Pv (i + 1) H6 else Pv (i + 1) H3) (hd : ∀ H, Pv n H → Qd H) :
    ∃ W : Nat → Nat → Hp → Prop, (∃ m, W 0 m (upd H1 D (.dT []))) ∧ ∀ i m H, W i m H →
      ((Itz K a b).stop i H ∧ Qd H) ∨ ((Itz K a b).go i H ∧ ∃ Nx : Hp → Prop, (∀ H', Nx H' → ∃ m', m' < m ∧ W (i + 1) m' H') ∧ ∀ x H', (Itz K a b).yld i H x H' → g x (wipe σ vs) H' fun σ2 H2 => wipe σ2 vs = wipe σ vs ∧ tt σ2 H2 fun b H3 =>
        if b = true then tk σ2 H3 fun k H4 => tv σ2 H4 fun y H5 => ∃ H6, DPut H5 D k y H6 ∧ Nx H6 else Nx H3) := by
  refine ⟨fun i m H => m = n - i ∧ i ≤ n ∧ Pv i H, ⟨n, by simp, Nat.zero_le _, h0⟩, ?_⟩
  rintro i m H ⟨rfl, hi, p⟩
  obtain ⟨q1, q2⟩ := hl i H hi p
  by_cases hlt : i < n
  · have l1 : i < xs.length := by omega
    have l2 : i < ys.length := by omega
    refine .inr ⟨⟨xs, ys, xs[i], ys[i], q1, q2, by simp [l1], by simp [l2]⟩, Pv (i + 1), fun H' p' => ⟨n - (i + 1), by omega, rfl, hlt, p'⟩, fun x H' y => ?_⟩
    obtain ⟨T, u, v, rfl, hT, rfl, e1, e2⟩ := y
    exact hs i u v T H (e1 xs q1) (e2 ys q2) hT p
  · have e : i = n := by omega
    subst e
    exact .inl ⟨⟨xs, ys, q1, q2, by omega⟩, hd H p⟩
theorem hu_ofR {k : Nat} {A : Around} (r : Room k A) : A.units + 1 < cLine := by have := r.un; omega
theorem last_at {t : List Int} {n : Nat} (lt : t.length = n + 1) : atI (t.map V.int) (-1) = some (.int (An t n)) := by
  have e : atI (t.map V.int) (-1) = (t.map V.int)[n]? := by
    unfold atI ixN
    rw [if_neg (by decide), if_pos (by rw [List.length_map]; omega), List.length_map, lt]
    show (t.map V.int)[_]? = _
    congr 1
    omega
  rw [e, List.getElem?_map, an_at (by omega)]
  rfl
theorem bends_an {ns : List Int} {i : Nat} (h : i + 2 < ns.length) : (diffs (diffs ns))[i]? = some (An ns i - 2 * An ns (i + 1) + An ns (i + 2)) := bends_at (an_at (by omega)) (an_at (by omega)) (an_at h)
/-- the bottom is small -/
theorem SqSt.small {n : Nat} {q : Nat → Int} {S : Nat → Bool} {T : List (List Int)} {b : Int} (s : SqSt n q S T b) (h6 : n ≤ 6) (b1 : n = 0 → b = 1) : b < 2 ^ 40 := by
  by_cases h0 : n = 0
  · rw [b1 h0]
    decide
  obtain ⟨W, tb, sh, _⟩ := s.ex
  have lw := tb.lw
  rw [sqA_len] at lw
  obtain ⟨r, hr⟩ : ∃ r, W[0]? = some r := ⟨_, List.getElem?_eq_getElem (by omega)⟩
  have e := tb.bas 0 0 r _ hr (sqB_at (by omega))
  rw [if_pos rfl] at e
  rw [tb.entry hr] at e
  have z := dt_le (N := 6) ((sqB n S).set 0 (sqBv n S 0)) (sqA n q) (by rw [List.length_set, sqB_len, sqA_len]) fun x hx c hc => by
    unfold sqA at hx
    obtain ⟨k, hk, rfl⟩ := List.mem_map.mp hx
    have cl : c < 2 * n := by
      have bv : ∀ i, i < n → sqBv n S i < 2 * n := fun i hi => by unfold sqBv; split <;> omega
      rcases List.mem_or_eq_of_mem_set hc with w | w
      · unfold sqB at w
        obtain ⟨i, hi, rfl⟩ := List.mem_map.mp w
        exact bv i (List.mem_range.mp hi)
      · rw [w]
        exact bv 0 (by omega)
    unfold sqR putI
    repeat' split
    all_goals first | omega | decide
  rw [List.length_set, sqB_len, e] at z
  have m : (n * 6) ^ n ≤ 36 ^ 6 := Nat.le_trans (Nat.pow_le_pow_left (show n * 6 ≤ 36 by omega) n) (Nat.pow_le_pow_right (by decide) h6)
  have e2 : (36 : Nat) ^ 6 = 2176782336 := by decide
  have e3 : (2 : Int) ^ 40 = 1099511627776 := by decide
  omega
theorem hz_bt {T : List (List Int)} {n : Nat} {S : Nat → Bool} (h : ∀ t ∈ T, ∀ z ∈ t, Bt 900 z) (hr : ∀ t ∈ T, t.length = n + 1) (k : Nat) : Bt 1000 (Ob.D2 (hz (wts S T n) n) k) := by
  have e : ∀ j, Bt 900 (hz (wts S T n) n j) := fun j => by
    unfold hz wts basF
    split
    · split
      · split
        · rename_i t ht
          have mt := List.mem_of_getElem? ht
          exact h t mt _ (List.mem_of_getElem? (an_at (by rw [hr t mt]; omega)))
        · unfold Bt; exact Nat.pow_pos (by decide)
      · unfold Bt; exact Nat.pow_pos (by decide)
    · unfold Bt; exact Nat.pow_pos (by decide)
  unfold Ob.D2
  have b2 : Bt 2 2 := by unfold Bt; decide
  have a := ((b2.mul (e (1 + k))).mono (k := 902) (by decide))
  have c := (a.add ((show Bt 902 (-(hz (wts S T n) n k)) from by unfold Bt; rw [Int.natAbs_neg]; exact (e k).mono (by decide)))).add (show Bt 903 (-(hz (wts S T n) n (2 + k))) from by unfold Bt; rw [Int.natAbs_neg]; exact (e (2 + k)).mono (by decide))
  exact c.mono (by decide)
def amtV (T : List (List Int)) (n : Nat) (S : Nat → Bool) (i : Nat) (kd pl : Int) : Option V := if 1 ≤ pl ∧ pl ≤ (i : Int) ∧ kd = (if S (pl - 1).toNat = true then 0 else 1) then some (.int (basF T n (pl - 1).toNat)) else none
def spAmt (C : Addr) : Sp := fun vs H Q _ => ∃ (p B A : Addr) (T : List (List Int)) (S : Nat → Bool) (ms : List (Int × Int)) (b : Int) (n : Nat), vs = [.ref p] ∧ TabAt C H p B A T (nmS n S) ms b ∧ T.length = n ∧ (∀ t ∈ T, t.length = n + 1) ∧ n ≤ 8 ∧
  ∀ (D : Addr) (kvs : List (List Key × V)) (H' : Hp), Same H H' → H D = none → H' D = some (.dT kvs) → (∀ kd pl : Int, valV kvs [Sum.inl kd, Sum.inl pl] = amtV T n S n kd pl) → Q (.ref D) H'
def spPOW (C : Addr) : Sp := fun vs H Q _ => ∃ (p B A : Addr) (T : List (List Int)) (S : Nat → Bool) (ms : List (Int × Int)) (b : Int) (n m : Nat), vs = [.ref p, .int (m : Int)] ∧ TabAt C H p B A T (nmS n S) ms b ∧ T.length = n ∧ (∀ t ∈ T, t.length = n + 1) ∧ n ≤ 8 ∧ m ≤ 8 ∧ 1 ≤ m ∧ n = m - 2 ∧
  ∀ (r : Addr) (gs : List Int) (H' : Hp), Same H H' → H r = none → H' r = some (.lst (gs.map V.int)) → gs.length = m → (∀ k, k < m → An gs k = D2 (hz (wts S T n) n) k) → Q (.ref r) H'
def spNS (P1 Pt : Addr) : Sp := fun vs H Q _ => Tb P1 H ∧ Tb Pt H ∧ ∃ (a : Addr) (ns : List Int), vs = [.ref a] ∧ H a = some (.lst (ns.map V.int)) ∧ 1 ≤ ns.length ∧ ns.length ≤ 8 ∧ (∀ z ∈ ns, Bt 42 z) ∧
  ∀ (r r1 L : Addr) (rs : List Addr) (H' : Hp) (b : Int) (x : Nat → Int), Same H H' → H r = none → H r1 = none → H L = none → H' r = some (.tup [.ref r1, .ref L]) → NearSq ns b x → b < 2 ^ 40 → (∀ k, k < ns.length → Bt 1000 (x k)) →
    H' r1 = some (.tup [.int (redT (sg (fun k => x k * x k) ns.length) (b * b)), .int (redB (sg (fun k => x k * x k) ns.length) (b * b))]) → H' L = some (.lst (rs.map V.ref)) → FracsAt H' rs ((List.range ns.length).map fun k => (redT (An ns k * b - x k) b, redB (An ns k * b - x k) b)) → Q (.ref r) H'
end Ob

set_option maxHeartbeats 4000000
namespace Ob
open PySem PySem.Spec PyProof.Rows L2
/-! ### sizes of the nearest -/
theorem sg_term_le (f : Nat → Int) : ∀ {n k : Nat}, (∀ i, i < n → 0 ≤ f i) → k < n → f k ≤ sg f n
  | 0, k, _, h => by omega
  | n + 1, k, h, hk => by
    rw [sg]
    have hn := h n (by omega)
    have nn : 0 ≤ sg f n := by
      have z := sg_le (f := fun _ => 0) (g := f) (n := n) fun i hi => h i (by omega)
      rw [sg_zero] at z
      exact z
    by_cases c : k = n
    · subst c
      omega
    · have := sg_term_le f (n := n) (k := k) (fun i hi => h i (by omega)) (by omega)
      omega
theorem sq_nonneg' (z : Int) : 0 ≤ z * z := by
  rcases Int.le_total 0 z with h | h
  · exact Int.mul_nonneg h h
  · exact Int.mul_nonneg_of_nonpos_of_nonpos h h
theorem sq_bt {z M : Int} {k : Nat} (h : z * z ≤ M) (hM : M < 2 ^ (2 * k)) : Bt k z := by
  show z.natAbs < 2 ^ k
  refine Nat.lt_of_not_le fun c => ?_
  have e : ((z.natAbs * z.natAbs : Nat) : Int) = z * z := Int.natAbs_mul_self
  have l : 2 ^ k * 2 ^ k ≤ z.natAbs * z.natAbs := Nat.mul_le_mul c c
  rw [← Nat.pow_add] at l
  have e2 : k + k = 2 * k := by omega
  rw [e2] at l
  have l2 : ((2 ^ (2 * k) : Nat) : Int) ≤ z * z := by rw [← e]; exact Int.ofNat_le.mpr l
  have e3 : ((2 ^ (2 * k) : Nat) : Int) = (2 : Int) ^ (2 * k) := by push_cast; rfl
  omega
theorem NearSq.energy {ns : List Int} {b : Int} {x : Nat → Int} (N : NearSq ns b x) : sg (fun k => x k * x k) ns.length + sg (fun k => (An ns k * b - x k) * (An ns k * b - x k)) ns.length = sg (fun k => An ns k * An ns k) ns.length * (b * b) := by
  have o := N.orth
  have e : sg (fun k => x k * x k) ns.length + sg (fun k => (An ns k * b - x k) * (An ns k * b - x k)) ns.length + sg (fun k => (An ns k * b - x k) * x k) ns.length * 2 = sg (fun k => An ns k * An ns k) ns.length * (b * b) := by
    rw [← sg_mul, ← sg_mul, ← sg_add, ← sg_add]
    exact sg_congr fun k _ => by
      show x k * x k + (An ns k * b - x k) * (An ns k * b - x k) + (An ns k * b - x k) * x k * 2 = An ns k * An ns k * (b * b)
      grind
  rw [o] at e
  omega
theorem NearSq.bounds {ns : List Int} {b : Int} {x : Nat → Int} (N : NearSq ns b x) (l2 : ns.length ≤ 8) (hb : ∀ z ∈ ns, Bt 42 z) (bs : b < 2 ^ 40) : (∀ k, k < ns.length → Bt 84 (x k)) ∧ (∀ k, k < ns.length → Bt 84 (An ns k * b - x k)) ∧ Bt 168 (sg (fun k => x k * x k) ns.length) := by
  have E := N.energy
  have p := N.pos
  have p40 : (2 : Int) ^ 40 = 1099511627776 := by decide
  have p42 : (2 : Nat) ^ 42 = 4398046511104 := by decide
  have n2 : ∀ m, m ≤ ns.length → sg (fun k => An ns k * An ns k) m ≤ (m : Int) * (4398046511104 * 4398046511104) := fun m => by
    induction m with
    | zero => intro _; exact Int.le_refl _
    | succ m ih =>
      intro hm
      have z := hb _ (List.mem_of_getElem? (an_at (ns := ns) (j := m) (by omega)))
      unfold Bt at z
      rw [p42] at z
      have s : An ns m * An ns m ≤ 4398046511104 * 4398046511104 := by
        rw [← Int.natAbs_mul_self]
        have := Nat.mul_le_mul (Nat.le_of_lt z) (Nat.le_of_lt z)
        omega
      have := ih (by omega)
      rw [sg]
      omega
  have t := n2 ns.length (Nat.le_refl _)
  have nn : 0 ≤ sg (fun k => An ns k * An ns k) ns.length := sg_sq_nonneg _ _
  have b2 : b * b ≤ 1099511627776 * 1099511627776 := Int.mul_le_mul (by omega) (by omega) (by omega) (by decide)
  have bb0 : 0 ≤ b * b := sq_nonneg' b
  have tot : sg (fun k => An ns k * An ns k) ns.length * (b * b) ≤ 8 * (4398046511104 * 4398046511104) * (1099511627776 * 1099511627776) := Int.mul_le_mul (by omega) b2 bb0 (by decide)
  have a1 := sg_sq_nonneg x ns.length
  have a2 := sg_sq_nonneg (fun k => An ns k * b - x k) ns.length
  have a2' : 0 ≤ sg (fun k => (An ns k * b - x k) * (An ns k * b - x k)) ns.length := a2
  have lim : (8 * (4398046511104 * 4398046511104) * (1099511627776 * 1099511627776) : Int) < 2 ^ (2 * 84) := by decide
  refine ⟨fun k hk => ?_, fun k hk => ?_, ?_⟩
  · have z := sg_term_le (fun k => x k * x k) (fun i _ => sq_nonneg' (x i)) hk
    exact sq_bt (M := 8 * (4398046511104 * 4398046511104) * (1099511627776 * 1099511627776)) (by have z' : x k * x k ≤ sg (fun k => x k * x k) ns.length := z; omega) lim
  · have z := sg_term_le (fun k => (An ns k * b - x k) * (An ns k * b - x k)) (fun i _ => sq_nonneg' _) hk
    exact sq_bt (M := 8 * (4398046511104 * 4398046511104) * (1099511627776 * 1099511627776)) (by have z' : (An ns k * b - x k) * (An ns k * b - x k) ≤ sg (fun k => (An ns k * b - x k) * (An ns k * b - x k)) ns.length := z; omega) lim
  · have l3 : (sg (fun k => x k * x k) ns.length) < 2 ^ 168 := by
      have e : (2 : Int) ^ (2 * 84) = 2 ^ 168 := by decide
      omega
    show (sg (fun k => x k * x k) ns.length).natAbs < 2 ^ 168
    have e : ((2 ^ 168 : Nat) : Int) = (2 : Int) ^ 168 := by decide
    omega
/-! ### rows of fractions, wider -/
structure FqX (t : Int × Int) : Prop where
  pos : 0 < t.2
  small : t.2 < 2 ^ 40
  cop : Int.gcd t.1 t.2 = 1
  top : Bt 90 t.1
structure FqW (H : Hp) (a : Addr) (rs : List Addr) (ts : List (Int × Int)) : Prop where
  l : H a = some (.lst (rs.map V.ref))
  f : FracsAt H rs ts
  fr : ∀ t ∈ ts, FqX t
  one : 1 ≤ ts.length
  most : ts.length ≤ 12
theorem FqW.same {H H' : Hp} {a : Addr} {rs : List Addr} {ts : List (Int × Int)} (s : Same H H') (h : FqW H a rs ts) : FqW H' a rs ts := ⟨s _ _ h.l, h.f.same s, h.fr, h.one, h.most⟩
theorem FqW.at {H : Hp} {a : Addr} {rs : List Addr} {ts : List (Int × Int)} {i : Nat} {x : V} (h : FqW H a rs ts) (hx : (rs.map V.ref)[i]? = some x) : ∃ (r : Addr) (t : Int × Int), x = .ref r ∧ ts[i]? = some t ∧ H r = some (.tup [.int t.1, .int t.2]) ∧ FqX t := by
  obtain ⟨r, t, e, h1, h2⟩ := refs_at' h.f hx
  exact ⟨r, t, e, h2, h1, h.fr t (List.mem_of_getElem? h2)⟩
def spOneBW : Sp := fun vs H Q _ => ∃ (a : Addr) (rs : List Addr) (ts : List (Int × Int)), vs = [.ref a] ∧ FqW H a rs ts ∧ ∀ (L : Int) (r r2 : Addr) (H' : Hp), Over2 ts L → Same H H' → H r = none → H' r = some (.tup [.int L, .ref r2]) → H' r2 = some (.lst ((ts.map (overT L)).map V.int)) → Q (.ref r) H'
/-- the told fractions -/
def nearT (ns : List Int) (b : Int) (x : Nat → Int) : List (Int × Int) := (List.range ns.length).map fun k => (redT (An ns k * b - x k) b, redB (An ns k * b - x k) b)
def nearQ (ns : List Int) (b : Int) (x : Nat → Int) : Int × Int := (redT (sg (fun k => x k * x k) ns.length) (b * b), redB (sg (fun k => x k * x k) ns.length) (b * b))
/-- a told answer -/
structure ToldSq (H : Hp) (r r1 L : Addr) (rs : List Addr) (ns : List Int) (b : Int) (x : Nat → Int) : Prop where
  tup : H r = some (.tup [.ref r1, .ref L])
  sq : H r1 = some (.tup [.int (nearQ ns b x).1, .int (nearQ ns b x).2])
  w : FqW H L rs (nearT ns b x)
  near : NearSq ns b x
theorem ToldSq.same {H H' : Hp} {r r1 L : Addr} {rs : List Addr} {ns : List Int} {b : Int} {x : Nat → Int} (h : ToldSq H r r1 L rs ns b x) (s : Same H H') : ToldSq H' r r1 L rs ns b x := ⟨s _ _ h.tup, s _ _ h.sq, h.w.same s, h.near⟩
theorem near_fq {ns : List Int} {b : Int} {x : Nat → Int} (N : NearSq ns b x) (l2 : ns.length ≤ 8) (hb : ∀ z ∈ ns, Bt 42 z) (bs : b < 2 ^ 40) : ∀ t ∈ nearT ns b x, FqX t := fun t ht => by
  unfold nearT at ht
  obtain ⟨k, hk, rfl⟩ := List.mem_map.mp ht
  have hk' := List.mem_range.mp hk
  have B := (N.bounds l2 hb bs).2.1 k hk'
  have p := N.pos
  have l : (redB (An ns k * b - x k) b).natAbs ≤ b.natAbs := Int.natAbs_ediv_le_natAbs _ _
  have q := redB_pos (t := An ns k * b - x k) p
  exact ⟨q, by show redB _ b < 2 ^ 40; omega, red_gcd p, (B.le (Int.natAbs_ediv_le_natAbs _ _)).mono (by decide)⟩
theorem nearT_at {ns : List Int} {b : Int} {x : Nat → Int} {k : Nat} (h : k < ns.length) : (nearT ns b x)[k]? = some (redT (An ns k * b - x k) b, redB (An ns k * b - x k) b) := by
  unfold nearT
  rw [List.getElem?_map, List.getElem?_range h]
  rfl
theorem nearT_len (ns : List Int) (b : Int) (x : Nat → Int) : (nearT ns b x).length = ns.length := by simp [nearT]
/-- the answer is one -/
theorem near_uniq {ns : List Int} {b c : Int} {x y : Nat → Int} (N : NearSq ns b x) (M : NearSq ns c y) : nearT ns b x = nearT ns c y ∧ nearQ ns b x = nearQ ns c y := by
  have u := N.uniq M
  have p := N.pos
  have p2 := M.pos
  constructor
  · unfold nearT
    refine List.map_congr_left fun k hk => ?_
    have hk' := List.mem_range.mp hk
    refine red_eq p p2 ?_
    have := u k hk'
    rw [Int.sub_mul, Int.sub_mul, this]
    have e : An ns k * b * c = An ns k * c * b := by ac_rfl
    omega
  · refine red_eq (Int.mul_pos p p) (Int.mul_pos p2 p2) ?_
    rw [← sg_mul, ← sg_mul]
    refine sg_congr fun k hk => ?_
    show x k * x k * (c * c) = y k * y k * (b * b)
    have := u k hk
    calc x k * x k * (c * c) = (x k * c) * (x k * c) := by ac_rfl
      _ = (y k * b) * (y k * b) := by rw [this]
      _ = _ := by ac_rfl
/-- over one bottom -/
theorem near_over {ns : List Int} {b M : Int} {x : Nat → Int} (N : NearSq ns b x) (o : Over2 (nearT ns b x) M) {k : Nat} (h : k < ns.length) : An ((nearT ns b x).map (overT M)) k * b = (An ns k * b - x k) * M := by
  rw [an_mapT (nearT_at h)]
  exact over_red N.pos (o.dvd _ (List.mem_of_getElem? (nearT_at h)))
theorem near_above {ns : List Int} {b M : Int} {x : Nat → Int} (N : NearSq ns b x) (o : Over2 (nearT ns b x) M) {k : Nat} (h : k < ns.length) : (An ns k * M - An ((nearT ns b x).map (overT M)) k) * b = x k * M := by
  rw [Int.sub_mul, near_over N o h, Int.sub_mul]
  have e : An ns k * M * b = An ns k * b * M := by ac_rfl
  omega
end Ob
namespace Ob
open PySem PySem.Spec PyProof.Rows L2
theorem eqv_pairs {a b : Int × Int} (h : a = b) : PyData.eqv (.tuple [.int a.1, .int a.2]) (.tuple [.int b.1, .int b.2]) = true := by
  rw [h]
  exact SeqAt.eqv_refl _ (SeqAt.canLay_of_shaped (shaped_pair _ _))
def spAreW : Sp := fun vs H Q _ => ∃ (a : Addr) (rs : List Addr) (ts : List (Int × Int)), vs = [.ref a, .int ((ts.length : Nat) : Int)] ∧ FqW H a rs ts ∧ ∀ H', Same H H' → Q (.bl true) H'
def spLB1 : Sp := fun vs H Q _ => ∃ (a : Addr) (xs : List Int), vs = [.ref a] ∧ H a = some (.lst (xs.map V.int)) ∧ xs.length ≤ 12 ∧ Conv (An xs) xs.length ∧ ∀ H', Same H H' → Q (.bl true) H'
def spRgt53 : Sp := fun vs H Q _ => ∃ (a : Addr) (ns : List Int) (r r1 L : Addr) (rs : List Addr) (b : Int) (x : Nat → Int), vs = [.ref a, .ref r] ∧ H a = some (.lst (ns.map V.int)) ∧ 1 ≤ ns.length ∧ ns.length ≤ 8 ∧ (∀ z ∈ ns, Bt 42 z) ∧ b < 2 ^ 40 ∧ ToldSq H r r1 L rs ns b x ∧ ∀ H', Same H H' → Q (.bl true) H'
end Ob

set_option maxHeartbeats 4000000
namespace Pg
open PySem PySem.Spec PyProof.Rows L2 Ob
def top (i : Nat) : Stmt := PySem.Challenge.pw_onebend_k53_least_squares_shown.main.body.getD i (.Pass ⟨0, 0, 0, 0⟩)
abbrev sWhole : Stmt := top 1
abbrev sGcd : Stmt := top 2
abbrev sLeast : Stmt := top 3
abbrev sLen : Stmt := top 11
abbrev sIsRow : Stmt := top 12
abbrev sCheck : Stmt := top 13
abbrev sDiff : Stmt := top 14
abbrev sNMany : Stmt := top 18
abbrev sInner : Stmt := top 19
abbrev sPOW : Stmt := top 20
abbrev sPut : Stmt := top 24
abbrev sTblW : Stmt := top 25
abbrev sAmiss : Stmt := top 26
abbrev sFirstA : Stmt := top 27
abbrev sRight2 : Stmt := top 28
abbrev sNS : Stmt := top 29
abbrev sCellAt : Stmt := top 31
abbrev sStir : Stmt := top 32
abbrev sDeck : Stmt := top 33
abbrev sLNext : Stmt := top 34
abbrev sFar : Stmt := top 35
abbrev sBent : Stmt := top 36
abbrev sRow : Stmt := top 37
abbrev sLWhole : Stmt := top 38
abbrev sLDiv : Stmt := top 39
abbrev sLIsFr : Stmt := top 40
abbrev sLAreFr : Stmt := top 41
abbrev sFraction : Stmt := top 42
abbrev sOneB : Stmt := top 43
abbrev sLB1 : Stmt := top 44
abbrev sLShow : Stmt := top 45
abbrev sRight : Stmt := top 46
abbrev sLaw : Stmt := top 47
end Pg

set_option maxHeartbeats 4000000
namespace Pg
open PySem PySem.Spec PyProof.Rows L2 Ob
section
variable {P : Program} {w : World} {K : PySem.W.Frag} {mg : Str → Option Value} {base : Heap} {f g h : Addr} {fd gd hd : FuncData} {Pt c : Addr}
theorem scGcd : FnScope ["one", "other"] ["one", "other"] (defScope sGcd) := ⟨rfl, rfl, rfl, by decide +kernel, rfl, by decide +kernel, by decide +kernel⟩
theorem q_gcd (F : Fun K "greatest_divisor" "greatest_divisor" sGcd f fd) (zabs : mg "abs" = none) : FnQ P w K mg base 1 f fd ["one", "other"] spGcd := by
  refine F.okQ scGcd (fun vs H Q E h => ?_) (fun cdv A outer s H vs Q E hr h => ?_)
  · obtain ⟨i, j, rfl, _⟩ := h
    rfl
  obtain ⟨i, j, rfl, q⟩ := h
  refine ⟨_, pss_cons (ps_par (i := 0) (j := 1) (by rfl) scGcd.nd rfl rfl (by decide) rfl rfl (pa_cons (pe_callB call_abs rfl zabs boot_abs' (pa_cons (pv 0) pa_nil)) (pa_cons (pe_callB call_abs rfl zabs boot_abs' (pa_cons (pv 1) pa_nil)) pa_nil)) (by rfl))
    (pss_cons (ps_while PassesOwn.never (pt_cmpR op_ne (pv 1) pe_int (nomark _)) (pss_one (ps_par (i := 0) (j := 1) (by rfl) scGcd.nd rfl rfl (by decide) rfl rfl (pa_cons (pv 1) (pa_cons (pe_op op_mod (pv 0) (pv 1)) pa_nil)) (by rfl))))
    (pss_one (ps_ret (pv 0)))), ?_⟩
  refine ⟨_, rfl, _, rfl, _, rfl, _, rfl, _, _, rfl, ?_⟩
  refine while_by (fun σ H' => ∃ x y : Int, σ = [some (.int x), some (.int y)] ∧ 0 ≤ x ∧ 0 ≤ y ∧ Int.gcd x y = Int.gcd i j ∧ H' = H) (fun σ _ => match σ with | [_, some (.int y)] => y.toNat | _ => 0) ⟨_, _, rfl, by split <;> omega, by split <;> omega, ?_, rfl⟩ ?_ ?_
  · have e1 : Int.gcd (if i < 0 then -i else i) (if j < 0 then -j else j) = Int.gcd i j := by
      split <;> split <;> simp
    exact e1
  · rintro σ H' ⟨x, y, rfl, hx, hy, hg, rfl⟩
    refine ⟨_, rfl, rfl, _, rfl, ?_⟩
    by_cases e : y = 0
    · subst e
      rw [decide_eq_true (rfl : V.int 0 = V.int 0)]
      refine iteF ⟨_, rfl, ?_⟩
      have ex : x = (Int.gcd i j : Int) := by
        rw [← hg, Int.gcd_zero]
        omega
      rw [ex]
      exact q
    · rw [decide_eq_false (fun z => e (by injection z) : ¬ V.int y = V.int 0)]
      refine iteT ?_
      have hy0 : 0 < y := by omega
      refine ⟨_, rfl, _, rfl, _, rfl, _, _, rfl, rfl, hy0, _, _, rfl, ?_⟩
      refine ⟨⟨y, x % y, rfl, hy, Int.emod_nonneg _ e, (gcd_turn hx hy0).trans hg, rfl⟩, ?_⟩
      have h1 := Int.emod_lt_of_pos x hy0
      have h2 := Int.emod_nonneg x e
      show (x % y).toNat < y.toNat
      omega
  · rintro σ H' Q1 Q2 hQ ⟨v, e1, h2, k, e2, h3⟩
    exact ⟨v, e1, h2, k, e2, hQ _ _ h3⟩
end
end Pg

set_option maxHeartbeats 4000000
namespace Pg
open PySem PySem.Spec PyProof.Rows L2 Ob
section
variable {P : Program} {w : World} {K : PySem.W.Frag} {mg : Str → Option Value} {base : Heap} {f g h : Addr} {fd gd hd : FuncData} {Pt c : Addr}
theorem scLeast : FnScope ["top", "bottom", "divisor"] ["top", "bottom"] (defScope sLeast) := ⟨rfl, rfl, rfl, by decide +kernel, rfl, by decide +kernel, by decide +kernel⟩
theorem ok_leastB (F : Fun K "in_least_numbers" "in_least_numbers" sLeast f fd) (G : FnOk P w K mg base CX0 1 g gd ["one", "other"] spGcd) (bG : Binds K gd ["one", "other"] []) (kG : PySem.W.keepIn K (.ref g) = true) (mG : mg "greatest_divisor" = some (.ref g)) : FnOk P w K mg base CX0 2 f fd ["top", "bottom"] spLeastB := by
  refine F.ok scLeast (fun vs H Q E h => ?_) (fun cdv A outer s H vs Q E hr h => ?_)
  · obtain ⟨t, b, rfl, _⟩ := h
    rfl
  obtain ⟨t, b, rfl, hb, hb2, q⟩ := h
  refine ⟨_, pss_cons (ps_set (i := 2) scLeast.nd rfl (Or.inl rfl) (pe_call G hr rfl mG kG bG .nil pass0 (pa_cons (pv 0) (pa_cons (pv 1) pa_nil))))
    (pss_one (ps_ret (pe_tup (pa_cons (pe_op op_fdivB (pv 0) (pv 2)) (pa_cons (pe_op op_fdivB (pv 1) (pv 2)) pa_nil))))), ?_⟩
  have g0 := gcd_pos (t := t) hb
  have g1 := gcd_le (t := t) hb
  have g2 : Bt 4000 (Int.gcd t b : Int) := hb2.le (by omega)
  refine ⟨_, rfl, _, rfl, t, b, rfl, ?_⟩
  exact ⟨_, rfl, _, rfl, _, _, rfl, rfl, ⟨g0, 4000, g2, by decide⟩, _, rfl, _, rfl, _, _, rfl, rfl, ⟨g0, 4000, g2, by decide⟩, (by show 2 ≤ sizeLine; decide), fun r hr' => q r hr'⟩
end
end Pg

set_option maxHeartbeats 4000000
namespace Pg
open PySem PySem.Spec PyProof.Rows L2 Ob
section
variable {P : Program} {w : World} {K : PySem.W.Frag} {mg : Str → Option Value} {base : Heap} {f g : Addr} {fd gd : FuncData} {Pt c : Addr}
theorem scLen : FnScope ["thing"] ["thing"] (defScope sLen) := ⟨rfl, rfl, rfl, by decide +kernel, rfl, by decide +kernel, by decide +kernel⟩
theorem ok_len (F : Fun K "is_list_of_row_length" "is_list_of_row_length" sLen f fd) (T : Tx mg) : FnOk P w K mg base CX0 1 f fd ["thing"] (spLen K) := by
  refine F.ok scLen (fun vs H Q E h => ?_) (fun cdv A outer s H vs Q E hr h => ?_)
  · obtain ⟨v, rfl, _⟩ := h
    rfl
  obtain ⟨tm, hmost⟩ := T.most
  obtain ⟨v, rfl, h⟩ := h
  refine ⟨_, pss_one (ps_ret (pe_and (pe_callB call_isi rfl T.isi boot_isi (pa_cons (pv 0) (pa_cons (pe_bltn (v := .ty "list") rfl T.list boot_list rfl) pa_nil)))
    (pe_one (pe_chain op_le op_le pe_int (pe_callB call_len_seq rfl T.len PySem.boot_len (pa_cons (pv 0) pa_nil)) (pe_glob (v := .int 12) rfl hmost ⟨tm, rfl⟩))))), ?_⟩
  rcases h with ⟨a, xs, rfl, ha, q⟩ | ⟨T', ty, e, q⟩
  · refine ⟨_, rfl, _, "list", "list", true, rfl, .lst ha, rfl, true, rfl, iteT ?_⟩
    refine ⟨_, rfl, a, xs, rfl, .inl (SqL.of ha), _, _, rfl, rfl, _, rfl, ?_⟩
    by_cases h1 : 1 ≤ xs.length
    · have e1 : decide ((1 : Int) ≤ (xs.length : Int)) = true := decide_eq_true (by omega)
      rw [e1]
      refine iteT ⟨_, _, rfl, rfl, ?_⟩
      have e2 : decide ((xs.length : Int) ≤ 12) = decide (xs.length ≤ 12) := decide_eq_decide.mpr (by omega)
      show Q (.bl (decide ((xs.length : Int) ≤ 12))) H
      rw [e2]
      rw [decide_eq_true h1, Bool.true_and] at q
      exact q
    · have e1 : decide ((1 : Int) ≤ (xs.length : Int)) = false := decide_eq_false (by omega)
      rw [e1]
      rw [decide_eq_false h1, Bool.false_and] at q
      exact iteF q
  · exact ⟨_, rfl, _, T', "list", false, rfl, ty, e, false, rfl, iteF q⟩
theorem scIsRow : FnScope ["thing"] ["thing"] (defScope sIsRow) := ⟨rfl, rfl, rfl, by decide +kernel, rfl, by decide +kernel, by decide +kernel⟩
theorem ok_isrow (F : Fun K "is_row" "is_row" sIsRow f fd) (hc : fd.code = .ref c) (T : Tx mg) (CB : CodeB base c Pt) (BM : ∃ bm ob, BMod base mainGlobals mg bm ob) {fw : Addr} (W : WholeFn K mg fw)
    (G : FnOk P w K mg base CX0 1 g gd ["thing"] (spLen K)) (bG : Binds K gd ["thing"] []) (kG : PySem.W.keepIn K (.ref g) = true) (mG : mg "is_list_of_row_length" = some (.ref g)) : FnOk P w K mg base CX0 3 f fd ["thing"] (spIsRow K Pt) := by
  refine okC F hc scIsRow (fun vs H Q E h => ?_) (fun A outer s H vs Q E hr h => ?_)
  · obtain ⟨_, v, rfl, _⟩ := h
    rfl
  obtain ⟨hP, v, rfl, h⟩ := h
  have hr1 : Room 1 _ := hr.mono (by decide)
  refine ⟨_, pss_one (ps_ret (pe_and (pe_call G hr1 rfl mG kG bG .nil pass0 (pa_cons (pv 0) pa_nil))
    (pe_one (pe_allW (f := fw) (c := c) (P := Pt) rfl ⟨CB, BM, rfl⟩ W hr rfl T.all (pv 0) rfl rfl (by decide +kernel) (by decide +kernel) (by decide +kernel) (by decide +kernel) rfl (fun _ => rfl))))), ?_⟩
  rcases h with ⟨a, xs, q, rfl, ha, hj, hq⟩ | ⟨T', ty, e, hq⟩
  · refine ⟨_, rfl, _, rfl, .inl ⟨a, xs, rfl, ha, ?_⟩⟩
    refine ⟨_, rfl, ?_⟩
    cases hb : (decide (1 ≤ xs.length) && decide (xs.length ≤ 12)) with
    | true =>
      rw [hb, Bool.true_and] at hq
      exact iteT ⟨_, rfl, a, xs, q, rfl, SqL.of ha, hP, hj, hq⟩
    | false =>
      rw [hb, Bool.false_and] at hq
      exact iteF hq
  · exact ⟨_, rfl, _, rfl, .inr ⟨T', ty, e, _, rfl, iteF hq⟩⟩
end
end Pg


set_option maxHeartbeats 4000000
namespace Pg
open PySem PySem.Spec PyProof.Rows L2 Ob
section
variable {P : Program} {w : World} {K : PySem.W.Frag} {mg : Str → Option Value} {base : Heap} {f g h : Addr} {fd gd hd : FuncData} {Pt c : Addr}
theorem scCheck : FnScope ["numbers"] ["numbers"] (defScope sCheck) := ⟨rfl, rfl, rfl, by decide +kernel, rfl, by decide +kernel, by decide +kernel⟩
theorem ok_check (F : Fun K "check_row" "check_row" sCheck f fd)
    (G : FnOk P w K mg base CX0 3 g gd ["thing"] (spIsRow K Pt)) (bG : Binds K gd ["thing"] []) (kG : PySem.W.keepIn K (.ref g) = true) (mG : mg "is_row" = some (.ref g)) : FnOk P w K mg base CX0 4 f fd ["numbers"] (spCheck K Pt) := by
  refine F.ok scCheck (fun vs H Q E h => ?_) (fun cdv A outer s H vs Q E hr h => ?_)
  · obtain ⟨_, a, ns, rfl, _⟩ := h
    rfl
  obtain ⟨hP, a, ns, rfl, ha, h1, h2, q⟩ := h
  refine ⟨_, pss_one (ps_if (pt_not (pt_val (pe_call G hr rfl mG kG bG .nil pass0 (pa_cons (pv 0) pa_nil)))) pss_never pss_nil), ?_⟩
  refine ⟨_, rfl, hP, _, rfl, .inl ⟨a, _, _, rfl, ha, judged_ints K H ns, ?_⟩⟩
  have e : (decide (1 ≤ (ns.map V.int).length) && decide ((ns.map V.int).length ≤ 12) && (ns.map V.int).all fun _ => true) = true := by
    rw [List.length_map]
    simp [h1, h2]
  rw [e]
  exact ⟨_, rfl, iteF q⟩
end
end Pg

set_option maxHeartbeats 4000000
namespace Pg
open PySem PySem.Spec PyProof.Rows L2 Ob
section
variable {P : Program} {w : World} {K : PySem.W.Frag} {mg : Str → Option Value} {base : Heap} {f g h : Addr} {fd gd hd : FuncData} {Pt c : Addr}
theorem scDiff : FnScope ["numbers", "ahead", "number"] ["numbers"] (defScope sDiff) := ⟨rfl, rfl, rfl, by decide +kernel, rfl, by decide +kernel, by decide +kernel⟩
theorem ok_diff (F : Fun K "differences" "differences" sDiff f fd) (T : Tx mg) : FnOk P w K mg base CX0 1 f fd ["numbers"] spDiff := by
  refine F.ok scDiff (fun vs H Q E h => ?_) (fun cdv A outer s H vs Q E hr h => ?_)
  · obtain ⟨a, ns, rfl, _⟩ := h
    rfl
  obtain ⟨a, ns, rfl, ha, hl, q⟩ := h
  refine ⟨_, pss_one (ps_ret (pe_lc (own := [("ahead", 1), ("number", 2)]) (g := gTup K 2 (gCons (gName 1) (gCons (gName 2) gNil))) (by rfl) scDiff.nd (pi_zip rfl T.zip (pa_cons (pv 0) (pa_cons (pe_slice sl_list (pv 0) (po_some pe_int) po_none) pa_nil)))
    (blkOk_by (own := [("ahead", 1), ("number", 2)]) (N := ["numbers", "ahead", "number"]) (sc := defScope sDiff) (by decide +kernel))
    (fun _ _ _ _ _ => pg_tup rfl (pgs_cons (pg_name (i := 1) scDiff.nd rfl (Or.inl rfl)) (pgs_cons (pg_name (i := 2) scDiff.nd rfl (Or.inl rfl)) pgs_nil)))
    (fun _ _ _ _ _ => pts_nil) (fun _ _ _ _ _ => pe_op op_sub (pv 2) (pv 1)))), ?_⟩
  refine ⟨_, rfl, _, rfl, _, rfl, a, _, rfl, SqL.of ha, fun p hp => ?_⟩
  have ec : cutV (ns.map V.int) (some 1) none = (ns.drop 1).map V.int := (cut_from (k := 1)).trans List.map_drop.symm
  rw [ec]
  have g1 := same_new hp (.lst ((ns.drop 1).map V.int))
  refine ⟨a, p, ns.map V.int, (ns.drop 1).map V.int, rfl, g1.seq (SqL.of ha), SqL.of upd_same, fun D hD => ?_⟩
  refine lc_zip (xs := ns.map V.int) (ys := (ns.drop 1).map V.int) (fun i H2 => Same (upd H p (.lst ((ns.drop 1).map V.int))) H2 ∧ H2 D = some (.lst (((diffs ns).take i).map V.int))) (ns.length - 1) (by simp only [List.length_map, List.length_drop]; omega)
    ⟨same_new hD _, by rw [upd_same]; rfl⟩ (fun i H2 _ ⟨s2, _⟩ => ⟨s2.seq (g1.seq (SqL.of ha)), s2.seq (SqL.of upd_same)⟩) ?_ ?_
  · rintro i x y T' H2 hx hy hT ⟨s2, e2⟩
    obtain ⟨u, v, rfl, rfl, hdv⟩ := diffs_step hx hy
    have nTD : D ≠ T' := ne_of_none e2 hT
    refine ⟨T', _, rfl, SqT.of upd_same, rfl, _, _, rfl, _, _, rfl, rfl, rfl, ?_⟩
    refine ⟨_, rfl, _, rfl, _, _, rfl, rfl, _, (by rw [upd_ne nTD]; exact e2), ?_, ?_, ?_⟩
    · refine Nat.lt_of_le_of_lt ?_ (small1000 hl)
      rw [List.length_map, List.length_take, diffs_length]
      omega
    · intro b o e
      rw [upd_ne (ne_of_none e hD), upd_ne (ne_of_none (s2 b o e) hT)]
      exact s2 b o e
    · rw [upd_same, take_next hdv, List.map_append]
      rfl
  · rintro H2 ⟨s2, e2⟩
    have nD : H D = none := g1.free hD
    refine q D H2 (g1.trans s2) nD ?_
    rw [e2, List.take_of_length_le (by rw [diffs_length]; exact Nat.le_refl _)]
end
end Pg

set_option maxHeartbeats 4000000
namespace Pg
open PySem PySem.Spec PyProof.Rows L2 Ob
abbrev sTInit : Stmt := inClass (top 4) 0
abbrev sTEx : Stmt := inClass (top 4) 1
abbrev sTWo : Stmt := inClass (top 4) 2
abbrev sTAm : Stmt := inClass (top 4) 3
section
variable {P : Program} {w : World} {K : PySem.W.Frag} {mg : Str → Option Value} {base : Heap} {f g C : Addr} {fd gd : FuncData}
abbrev nWo : List Str := ["self", "line", "chosen", "column", "told", "part", "other"]
theorem scWo : FnScope nWo ["self", "line", "chosen", "column"] (defScope sTWo) := ⟨rfl, rfl, rfl, by decide +kernel, rfl, by decide +kernel, by decide +kernel⟩
theorem ok_without (F : Fun K "without" "Table.without" sTWo f fd) (T : Tx mg) (TK : TTk K mg C) : FnOk P w K mg base CX0 1 f fd ["self", "line", "chosen", "column"] (spWithout C) := by
  refine F.ok scWo (fun vs H Q E h => ?_) (fun cdv A outer s H vs Q E hr h => ?_)
  · obtain ⟨p, la, lb, dx, L, B, A, b, line, ch, c, rfl, _⟩ := h
    rfl
  obtain ⟨p, la, lb, dx, L, B, A', b, line, ch, c, rfl, hp, ela, elb, hl, hc, h12, b0, bb, hb1, hb2, q⟩ := h
  refine ⟨_, (pss_cons (ps_setLc (i := 4) (own := [("part", 5), ("other", 6)]) (g := gTup K 2 (gCons (gName 5) (gCons (gName 6) gNil))) (by rfl) scWo.nd rfl rfl (sw_true rfl rfl rfl (by decide +kernel)) (pi_zip rfl T.zip (pa_cons (pv 1) (pa_cons (pv 2) pa_nil))) (blkOk_by (own := [("part", 5), ("other", 6)]) (N := nWo) (sc := defScope sTWo) (by decide +kernel)) (fun _ _ _ _ _ => pg_tup rfl (pgs_cons (pg_name (i := 5) scWo.nd rfl (Or.inl rfl)) (pgs_cons (pg_name (i := 6) scWo.nd rfl (Or.inl rfl)) pgs_nil))) (fun _ _ _ _ _ => pts_nil) (fun _ _ _ _ _ => pe_op op_fdivB (pe_op op_sub (pe_op op_mulB (pv 5) (pe_ix (r := rIxL K) ix_list (pv 2) (pv 3) (fun _ _ => rfl))) (pe_op op_mulB (pe_ix (r := rIxL K) ix_list (pv 1) (pv 3) (fun _ _ => rfl)) (pv 6))) (pe_fldK (K := K) rfl (pv 0) rfl)))
    (pss_cons (ps_asg (pe_un un_neg (pe_ix ix_list (pv 1) (pv 3) (fun _ _ => rfl))) (pg_sub (pv 4) (pv 3) set_list))
    (pss_one (ps_ret (pv 4))))), ?_⟩
  refine ⟨_, rfl, _, rfl, la, lb, _, _, rfl, SqL.of ela, SqL.of elb, fun D hD => ?_⟩
  refine lc_zip (K := K) (a := la) (b := lb) (xs := line.map V.int) (ys := ch.map V.int) (fun i H' => Same H H' ∧ H' D = some (.lst ((((line.zip ch).take i).map fun e => (e.1 * An ch c - An line c * e.2) / b).map V.int))) ch.length (by rw [List.length_map, List.length_map]; omega) ⟨same_new hD _, upd_same⟩ (fun i H' _ ⟨s', _⟩ => ⟨s'.seq (SqL.of ela), s'.seq (SqL.of elb)⟩) ?_ ?_
  · rintro i x y T' H' hx hy hT ⟨s', e'⟩
    obtain ⟨n, rfl, hn⟩ := ints_at hx
    obtain ⟨m, rfl, hm⟩ := ints_at hy
    have hi := idx_lt hm
    have tT := same_new hT (.tup [.int n, .int m])
    have sT := s'.trans tT
    have hz : (line.zip ch)[i]? = some (n, m) := by rw [List.getElem?_zip_eq_some]; exact ⟨hn, hm⟩
    have b1 := hb1 n (List.mem_of_getElem? hn)
    have b2 := hb2 m (List.mem_of_getElem? hm)
    have b3 := hb2 _ (List.mem_of_getElem? (an_at hc))
    have b4 := hb1 _ (List.mem_of_getElem? (an_at (ns := line) (j := c) (by omega)))
    refine ⟨T', _, rfl, SqT.of upd_same, rfl, _, _, rfl, _, _, rfl, rfl, rfl, ?_⟩
    refine ⟨_, rfl, _, rfl, _, rfl, lb, _, _, _, rfl, rfl, sT.seq (SqL.of elb), at_an rfl hc, _, _, rfl, rfl, ⟨900, 900, b1, b3, by decide⟩, _, rfl, _, rfl, la, _, _, _, rfl, rfl, sT.seq (SqL.of ela), at_an rfl (by omega), _, rfl, _, _, rfl, rfl, ⟨900, 900, b4, b2, by decide⟩, _, _, rfl, rfl, _, rfl, p, C, dx, _, _, rfl, sT _ _ hp, TK.cl, TK.no, tf_bottom _ _ _ _, _, _, rfl, rfl, ⟨b0, 900, bb, by decide⟩, _, tT _ _ e', fill_len (k := 12) (by rw [List.length_map, List.length_take, List.length_zip]; omega) (by decide), put_new sT hD, ?_⟩
    rw [upd_same, take_next hz, List.map_append, List.map_append]
    rfl
  rintro H1 ⟨s1, e1⟩
  rw [List.take_of_length_le (by rw [List.length_zip]; omega)] at e1
  refine ⟨_, rfl, _, rfl, la, _, _, _, rfl, rfl, s1.seq (SqL.of ela), at_an rfl (by omega), _, rfl, _, rfl, _, rfl, D, _, _, c, rfl, rfl, e1, by rw [ixN_nat (by omega) (by rw [List.length_map, List.length_map, List.length_zip]; omega)]; rfl, ?_⟩
  refine ⟨_, rfl, q D _ (put_new s1 hD) hD ?_⟩
  rw [upd_same]
  unfold woR
  rw [List.map_set]

abbrev nEx : List Str := ["self", "at", "column", "chosen", "lines", "line"]
theorem scEx : FnScope nEx ["self", "at", "column"] (defScope sTEx) := ⟨rfl, rfl, rfl, by decide +kernel, rfl, by decide +kernel, by decide +kernel⟩
theorem ok_exchange (F : Fun K "exchange" "Table.exchange" sTEx f fd) (T : Tx mg) (TK : TTk K mg C) (GW : FnOk P w K mg base CX0 1 g gd ["self", "line", "chosen", "column"] (spWithout C)) (bW : Binds K gd ["self", "line", "chosen", "column"] []) (mW : Meth K C "without" g) : FnOk P w K mg base CX0 2 f fd ["self", "at", "column"] (spExch C) := by
  refine F.ok scEx (fun vs H Q E h => ?_) (fun cdv A outer s H vs Q E hr h => ?_)
  · obtain ⟨p, B, A, T', ns, ms, b, a, c, k, ch, na, mc, rfl, _⟩ := h
    rfl
  obtain ⟨p, B, A', T', ns, ms, b, a, c, k, ch, na, mc, rfl, tab, fit, hc, hch, hna, hmc, b0, bb, n20, m20, q⟩ := h
  refine ⟨_, (pss_cons (ps_set (i := 3) scEx.nd rfl (Or.inr rfl) (pe_ix ix_list (pe_fld (pv 0) rfl) (pv 1) (fun _ _ => rfl)))
    (pss_cons (ps_setLc (i := 4) (own := [("line", 5)]) (g := gName 5) (by rfl) scEx.nd rfl rfl (sw_true rfl rfl rfl (by decide +kernel)) (pi_list (pe_fld (pv 0) rfl)) (blkOk_by (own := [("line", 5)]) (N := nEx) (sc := defScope sTEx) (by decide +kernel)) (fun _ _ _ _ _ => pg_name (i := 5) scEx.nd rfl (Or.inl rfl)) (fun _ _ _ _ _ => pts_nil) (fun _ _ _ _ _ => pe_meth (pv 0) TK.cl mW GW hr bW .nil pass0 (pa_cons (pv 5) (pa_cons (pv 3) (pa_cons (pv 2) pa_nil)))))
    (pss_cons (ps_asg (pe_callTy call_list_of rfl T.list PyProof.Rows.boot_list (pa_cons (pv 3) pa_nil)) (pg_sub (pv 4) (pv 1) set_list))
    (pss_cons (ps_asg (pe_fld (pv 0) rfl) (pg_sub (pe_ix ix_list (pv 4) (pv 1) (fun _ _ => rfl)) (pv 2) set_list))
    (pss_cons (ps_fld (pv 0) (pv 4) rfl)
    (pss_cons (ps_fld (pv 0) (pe_ix ix_list (pv 3) (pv 2) (fun _ _ => rfl)) rfl)
    (pss_one (ps_asg (pe_tup (pa_cons (pe_ix ix_list (pe_fld (pv 0) rfl) (pv 2) (fun _ _ => rfl)) (pa_cons (pe_ix ix_list (pe_fld (pv 0) rfl) (pv 1) (fun _ _ => rfl)) pa_nil))) (pg_tup (by rfl) (pgs_cons (pg_sub (pe_fld (pv 0) rfl) (pv 1) set_list) (pgs_cons (pg_sub (pe_fld (pv 0) rfl) (pv 2) set_list) pgs_nil))))))))))), ?_⟩
  obtain ⟨dx, L, ls, bs, as, e1, e2, e3, e4, e5, e6, e7⟩ := tab.ob
  have lls := e3.len
  have lbs : bs.length = ns.length := Paired.length e5
  have las : as.length = ms.length := Paired.length e7
  have hal := (List.getElem?_eq_some_iff.mp hch).1
  have ha2 := (List.getElem?_eq_some_iff.mp hna).1
  have hc2 := (List.getElem?_eq_some_iff.mp hmc).1
  have fl := fit.len
  have fw := fit.few
  have chk : ch.length = k := fit.row ch (List.mem_of_getElem? hch)
  obtain ⟨lch, hlch, elch⟩ : ∃ lch, ls[a]? = some lch ∧ H lch = some (.lst (ch.map V.int)) := by
    obtain ⟨l, hl⟩ : ∃ l, ls[a]? = some l := ⟨_, List.getElem?_eq_getElem (by omega)⟩
    obtain ⟨l', t', e, i1, i2, i3⟩ := e3.at (i := a) (x := .ref l) (by rw [List.getElem?_map, hl]; rfl)
    rw [hch] at i2
    have z : ch = t' := by injection i2
    have z2 : l = l' := by injection e
    exact ⟨l, hl, by rw [z, z2]; exact i3⟩
  have atL : atI (ls.map V.ref) (a : Int) = some (.ref lch) := atI_nat (by rw [List.getElem?_map, hlch]; rfl)
  refine ⟨_, rfl, p, C, dx, _, _, rfl, e1, TK.cl, TK.nl, tf_lines _ _ _ _, _, rfl, L, _, _, _, rfl, rfl, SqL.of e2, atL, ?_⟩
  refine ⟨_, rfl, p, C, dx, _, _, rfl, e1, TK.cl, TK.nl, tf_lines _ _ _ _, L, rfl, ⟨_, SqL.of e2⟩, fun D hD => ?_⟩
  refine lc_list (K := K) (a := L) (xs := ls.map V.ref) (fun i H' => Same H H' ∧ ∃ qs : List Addr, H' D = some (.lst (qs.map V.ref)) ∧ RowsAt H' qs ((T'.take i).map (woR b c ch)) ∧ D ∉ qs ∧ qs.length = i ∧ ∀ x ∈ qs, H x = none) ⟨same_new hD _, [], upd_same, .nil, (fun z => nomatch z), rfl, fun _ z => nomatch z⟩ (fun i H' _ ⟨s', _⟩ => s'.seq (SqL.of e2)) ?_ ?_
  · rintro i x H' hx ⟨s', qs, e', r', nD, ql, frq⟩
    obtain ⟨l, t, rfl, hl, ht, el⟩ := e3.at hx
    have hi := (List.getElem?_eq_some_iff.mp ht).1
    have mt := List.mem_of_getElem? ht
    refine ⟨rfl, ?_⟩
    refine ⟨_, rfl, p, dx, _, rfl, s' _ _ e1, tf_no _ _ _ _ (by decide) (by decide) (by decide) (by decide), _, rfl, _, rfl, _, rfl, p, l, lch, dx, L, B, A', b, t, ch, c, rfl, s' _ _ e1, s' _ _ el, s' _ _ elch, (fit.row t mt).trans chk.symm, by omega, by omega, b0, bb, fit.bt t mt, fit.bt ch (List.mem_of_getElem? hch), fun r H'' s'' hr er => ?_⟩
    have eD := s'' _ _ e'
    have nr : r ≠ D := fun z => by rw [z, e'] at hr; cases hr
    refine ⟨_, eD, by rw [List.length_map, ql]; exact Nat.lt_of_lt_of_le (show i < 100 by omega) (by decide), put_new (s'.trans s'') hD, qs ++ [r], by rw [upd_same, List.map_append]; rfl, ?_, fun z => ?_, by rw [List.length_append, ql]; rfl, fun x hx => ?_⟩
    · rw [take_next ht, List.map_append]
      have r2 : RowsAt (upd H'' D (.lst (qs.map V.ref ++ [.ref r]))) qs ((T'.take i).map (woR b c ch)) := (r'.same s'').keep fun l' hl' o ho => by rw [upd_ne (fun z => nD (by rw [← z]; exact hl'))]; exact ho
      exact r2.snoc (by rw [upd_ne nr]; exact er)
    · rcases List.mem_append.mp z with z | z
      · exact nD z
      · exact nr (List.mem_singleton.mp z).symm
    · rcases List.mem_append.mp hx with z | z
      · exact frq x z
      · rw [List.mem_singleton.mp z]
        cases q' : H r with
        | none => rfl
        | some o => rw [s' _ _ q'] at hr; cases hr
  rintro H1 ⟨s1, qs, eD, rQ, nD, ql, frq⟩
  rw [List.length_map, lls, List.take_of_length_le (Nat.le_refl _)] at rQ
  rw [List.length_map, lls] at ql
  -- lines[at] = list(chosen)
  refine ⟨_, rfl, lch, _, rfl, .inl (s1.seq (SqL.of elch)), fun l hl => ?_⟩
  have t1 := same_new hl (.lst (ch.map V.int))
  have nlD : l ≠ D := fun z => by rw [z, eD] at hl; cases hl
  refine ⟨_, rfl, _, rfl, D, _, _, a, rfl, rfl, t1 _ _ eD, by rw [ixN_nat (by omega) (by rw [List.length_map]; omega)]; rfl, ?_⟩
  rw [← List.map_set]
  have s2 : Same H (upd (upd H1 l (.lst (ch.map V.int))) D (.lst ((qs.set a l).map V.ref))) := put_new (s1.trans t1) hD
  have r2 : RowsAt (upd (upd H1 l (.lst (ch.map V.int))) D (.lst ((qs.set a l).map V.ref))) qs (T'.map (woR b c ch)) := (rQ.same t1).keep fun l' hl' o ho => by rw [upd_ne (fun z => nD (by rw [← z]; exact hl'))]; exact ho
  have nlq : l ∉ qs := fun z => by
    obtain ⟨i, hi⟩ := List.mem_iff_getElem?.mp z
    obtain ⟨l', t', e, i1, i2, i3⟩ := rQ.at (i := i) (x := .ref l) (by rw [List.getElem?_map, hi]; rfl)
    have z2 : l = l' := by injection e
    rw [← z2, hl] at i3
    cases i3
  have el : (upd (upd H1 l (.lst (ch.map V.int))) D (.lst ((qs.set a l).map V.ref))) l = some (.lst (ch.map V.int)) := by rw [upd_ne nlD]; exact upd_same
  have eD2 : (upd (upd H1 l (.lst (ch.map V.int))) D (.lst ((qs.set a l).map V.ref))) D = some (.lst ((qs.set a l).map V.ref)) := upd_same
  have Hl : H l = none := by
    cases z : H l with
    | none => rfl
    | some o => rw [s1 _ _ z] at hl; cases hl
  generalize upd (upd H1 l (.lst (ch.map V.int))) D (.lst ((qs.set a l).map V.ref)) = H2 at s2 r2 el eD2
  -- lines[at][column] = self.bottom
  have atD : atI ((qs.set a l).map V.ref) (a : Int) = some (.ref l) := atI_nat (by rw [List.getElem?_map, List.getElem?_set, if_pos rfl, if_pos (by omega)]; rfl)
  refine ⟨_, rfl, p, C, dx, _, _, rfl, s2 _ _ e1, TK.cl, TK.no, tf_bottom _ _ _ _, _, rfl, _, rfl, D, _, _, _, rfl, rfl, SqL.of eD2, atD, _, rfl, l, _, _, c, rfl, rfl, el, by rw [ixN_nat (by omega) (by rw [List.length_map]; omega)]; rfl, ?_⟩
  rw [← List.map_set]
  have s3 : Same H (upd H2 l (.lst ((ch.set c b).map V.int))) := put_new s2 Hl
  have r3 : RowsAt (upd H2 l (.lst ((ch.set c b).map V.int))) (qs.set a l) (exT T' b a c ch) := (r2.keep fun l' hl' o ho => by rw [upd_ne (fun z => nlq (by rw [← z]; exact hl'))]; exact ho).set a upd_same
  have eD3 : (upd H2 l (.lst ((ch.set c b).map V.int))) D = some (.lst ((qs.set a l).map V.ref)) := by rw [upd_ne nlD.symm]; exact eD2
  generalize upd H2 l (.lst ((ch.set c b).map V.int)) = H3 at s3 r3 eD3
  -- self.lines = lines
  have ep3 := s3 _ _ e1
  have npD : p ≠ D := ne_of ep3 eD3 (by intro z; cases z)
  refine ⟨_, rfl, _, rfl, p, C, dx, _, rfl, ep3, TK.cl, TK.nl, (by show 4 < 1000; decide), ?_⟩
  rw [tf_setL]
  have kp : ∀ x o, H3 x = some o → x ≠ p → (upd H3 p (.ins C dx (tflds D B A' b))) x = some o := fun x o hx n => by rw [upd_ne n]; exact hx
  have elch3 := s3 _ _ elch
  have nlp : lch ≠ p := ne_of elch3 ep3 (by intro z; cases z)
  -- self.bottom = chosen[column]
  refine ⟨_, rfl, _, rfl, lch, _, _, _, rfl, rfl, SqL.of (kp _ _ elch3 nlp), at_an rfl (by omega), _, rfl, p, C, dx, _, rfl, upd_same, TK.cl, TK.no, (by show 4 < 1000; decide), ?_⟩
  rw [tf_setb]
  have ep4 : (upd (upd H3 p (.ins C dx (tflds D B A' b))) p (.ins C dx (tflds D B A' (An ch c)))) p = some (.ins C dx (tflds D B A' (An ch c))) := upd_same
  have kp4 : ∀ x o, H3 x = some o → x ≠ p → (upd (upd H3 p (.ins C dx (tflds D B A' b))) p (.ins C dx (tflds D B A' (An ch c)))) x = some o := fun x o hx n => by rw [upd_ne n]; exact kp x o hx n
  generalize upd (upd H3 p (.ins C dx (tflds D B A' b))) p (.ins C dx (tflds D B A' (An ch c))) = H4 at ep4 kp4
  have eB4 := kp4 _ _ (s3 _ _ e4) (ne_of (s3 _ _ e4) ep3 (by intro z; cases z))
  have eA4 := kp4 _ _ (s3 _ _ e6) (ne_of (s3 _ _ e6) ep3 (by intro z; cases z))
  obtain ⟨rn, hrn, ern⟩ := fracs_get e5 hna
  obtain ⟨rm, hrm, erm⟩ := fracs_get e7 hmc
  have atA : atI (as.map V.ref) (c : Int) = some (.ref rm) := atI_nat (by rw [List.getElem?_map, hrm]; rfl)
  have atB : atI (bs.map V.ref) (a : Int) = some (.ref rn) := atI_nat (by rw [List.getElem?_map, hrn]; rfl)
  have nBA := tab.ne
  -- the names change places
  refine ⟨_, rfl, p, C, dx, _, _, rfl, ep4, TK.cl, TK.na, tf_atop _ _ _ _, _, rfl, A', _, _, _, rfl, rfl, SqL.of eA4, atA, _, rfl, p, C, dx, _, _, rfl, ep4, TK.cl, TK.nb, tf_beside _ _ _ _, _, rfl, B, _, _, _, rfl, rfl, SqL.of eB4, atB, (by show 2 ≤ sizeLine; decide), fun t ht => ?_⟩
  have t5 := same_new ht (.tup [.ref rm, .ref rn])
  refine ⟨t, _, rfl, SqT.of upd_same, rfl, _, _, rfl, _, rfl, p, C, dx, _, _, rfl, t5 _ _ ep4, TK.cl, TK.nb, tf_beside _ _ _ _, _, rfl, B, _, _, a, rfl, rfl, t5 _ _ eB4, by rw [ixN_nat (by omega) (by rw [List.length_map]; omega)]; rfl, ?_⟩
  rw [← List.map_set]
  have npB : p ≠ B := ne_of ep4 eB4 (by intro z; cases z)
  have npA : p ≠ A' := ne_of ep4 eA4 (by intro z; cases z)
  refine ⟨_, _, rfl, _, rfl, p, C, dx, _, _, rfl, by rw [upd_ne npB]; exact t5 _ _ ep4, TK.cl, TK.na, tf_atop _ _ _ _, _, rfl, A', _, _, c, rfl, rfl, by rw [upd_ne nBA.symm]; exact t5 _ _ eA4, by rw [ixN_nat (by omega) (by rw [List.length_map]; omega)]; rfl, rfl, ?_⟩
  rw [← List.map_set]
  have fin : ∀ x o, H4 x = some o → x ≠ B → x ≠ A' → (upd (upd (upd H4 t (.tup [.ref rm, .ref rn])) B (.lst ((bs.set a rm).map V.ref))) A' (.lst ((as.set c rn).map V.ref))) x = some o := fun x o hx n1 n2 => by
    rw [upd_ne n2, upd_ne n1]
    exact t5 _ _ hx
  have tupk : ∀ r (u : Int × Int), H r = some (.tup [.int u.1, .int u.2]) → (upd (upd (upd H4 t (.tup [.ref rm, .ref rn])) B (.lst ((bs.set a rm).map V.ref))) A' (.lst ((as.set c rn).map V.ref))) r = some (.tup [.int u.1, .int u.2]) := fun r u hr => by
    have h3 := s3 _ _ hr
    exact fin _ _ (kp4 _ _ h3 (ne_of h3 ep3 (by intro z; cases z))) (ne_of hr e4 (by intro z; cases z)) (ne_of hr e6 (by intro z; cases z))
  have fr : ∀ rs ts, FracsAt H rs ts → FracsAt _ rs ts := fun rs ts h => Paired.mapP h fun r u e => tupk r u e
  refine q _ ⟨⟨dx, D, qs.set a l, bs.set a rm, as.set c rn, ?_, ?_, ?_, ?_, ?_, upd_same, ?_⟩, nBA⟩ fun x o hx n1 n2 n3 => fin x o (kp4 x o (s3 x o hx) n1) n2 n3
  · exact fin _ _ ep4 npB npA
  · have nDB : D ≠ B := fun z => by rw [z, e4] at hD; cases hD
    have nDA : D ≠ A' := fun z => by rw [z, e6] at hD; cases hD
    exact fin _ _ (kp4 _ _ eD3 npD.symm) nDB nDA
  · refine r3.keep fun x hx o ho => ?_
    obtain ⟨i, hi⟩ := List.mem_iff_getElem?.mp hx
    obtain ⟨x', tx, e, i1, i2, i3⟩ := r3.at (i := i) (x := .ref x) (by rw [List.getElem?_map, hi]; rfl)
    have z2 : x = x' := by injection e
    rw [← z2] at i3
    have hn : H x = none := by
      rw [List.getElem?_set] at hi
      by_cases c1 : a = i
      · rw [if_pos c1] at hi
        split at hi
        · have z3 : l = x := by injection hi
          rw [← z3]
          exact Hl
        · cases hi
      · rw [if_neg c1] at hi
        exact frq x (List.mem_of_getElem? hi)
    have nx : x ≠ p := ne_of i3 ep3 (by intro z; cases z)
    exact fin _ _ (kp4 _ _ ho nx) (fun z => by rw [z, e4] at hn; cases hn) (fun z => by rw [z, e6] at hn; cases hn)
  · rw [upd_ne nBA]
    exact upd_same
  · exact fracs_set a (fr _ _ e5) (tupk rm mc erm)
  · exact fracs_set c (fr _ _ e7) (tupk rn na ern)

abbrev nTI : List Str := ["self", "lines", "beside", "atop", "line"]
theorem scTI : FnScope nTI ["self", "lines", "beside", "atop"] (defScope sTInit) := ⟨rfl, rfl, rfl, by decide +kernel, rfl, by decide +kernel, by decide +kernel⟩
theorem ok_tinit (F : Fun K "__init__" "Table.__init__" sTInit f fd) (T : Tx mg) (TK : TTk K mg C) : FnOk P w K mg base CX0 1 f fd ["self", "lines", "beside", "atop"] (spTInit C) := by
  refine F.ok scTI (fun vs H Q E h => ?_) (fun cdv A outer s H vs Q E hr h => ?_)
  · obtain ⟨p, ll, nb, na, dx, ls, bs, as, T', ns, ms, k, rfl, _⟩ := h
    rfl
  obtain ⟨p, ll, nb, na, dx, ls, bs, as, T', ns, ms, k, rfl, hp, ell, hR, fit, enb, fb, ena, fa, q⟩ := h
  refine ⟨_, (pss_cons (ps_fld (pv 0) (pe_lc (own := [("line", 4)]) (g := gName 4) (by rfl) scTI.nd (pi_list (pv 1)) (blkOk_by (own := [("line", 4)]) (N := nTI) (sc := defScope sTInit) (by decide +kernel)) (fun _ _ _ _ _ => pg_name (i := 4) scTI.nd rfl (Or.inl rfl)) (fun _ _ _ _ _ => pts_nil) (fun _ _ _ _ _ => pe_callTy (call_list_ofK (K := K) rfl) rfl T.list PyProof.Rows.boot_list (pa_cons (pv 4) pa_nil))) rfl)
    (pss_cons (ps_fld (pv 0) (pe_callTy call_list_of rfl T.list PyProof.Rows.boot_list (pa_cons (pv 2) pa_nil)) rfl)
    (pss_cons (ps_fld (pv 0) (pe_callTy call_list_of rfl T.list PyProof.Rows.boot_list (pa_cons (pv 3) pa_nil)) rfl)
    (pss_one (ps_fld (pv 0) pe_int rfl))))), ?_⟩
  refine ⟨_, rfl, ll, rfl, ⟨_, SqL.of ell⟩, fun D hD => ?_⟩
  have lls := hR.len
  have fl := fit.len
  refine lc_list (K := K) (a := ll) (xs := ls.map V.ref) (fun i H' => Same H H' ∧ ∃ qs : List Addr, H' D = some (.lst (qs.map V.ref)) ∧ RowsAt H' qs (T'.take i) ∧ D ∉ qs ∧ qs.length = i) ⟨same_new hD _, [], upd_same, .nil, (fun z => nomatch z), rfl⟩ (fun i H' _ ⟨s', _⟩ => s'.seq (SqL.of ell)) ?_ ?_
  · rintro i x H' hx ⟨s', qs, e', r', nD, ql⟩
    obtain ⟨l, t, rfl, hl, ht, el⟩ := hR.at hx
    have hi := (List.getElem?_eq_some_iff.mp ht).1
    refine ⟨rfl, ?_⟩
    refine ⟨_, rfl, l, _, rfl, .inl (s'.seq (SqL.of el)), fun r hr => ?_⟩
    have t1 := same_new hr (.lst (t.map V.int))
    have nr : r ≠ D := fun z => by rw [z, e'] at hr; cases hr
    refine ⟨_, t1 _ _ e', by rw [List.length_map, ql]; exact Nat.lt_of_lt_of_le (show i < 100 by omega) (by decide), put_new (s'.trans t1) hD, qs ++ [r], by rw [upd_same, List.map_append]; rfl, ?_, fun z => ?_, by rw [List.length_append, ql]; rfl⟩
    · rw [take_next ht]
      have r2 : RowsAt (upd (upd H' r (.lst (t.map V.int))) D (.lst (qs.map V.ref ++ [.ref r]))) qs (T'.take i) := (r'.same t1).keep fun l' hl' o ho => by rw [upd_ne (fun z => nD (by rw [← z]; exact hl'))]; exact ho
      exact r2.snoc (by rw [upd_ne nr]; exact upd_same)
    · rcases List.mem_append.mp z with z | z
      · exact nD z
      · exact nr (List.mem_singleton.mp z).symm
  rintro H1 ⟨s1, qs, eD, rQ, nD, ql⟩
  rw [List.length_map, lls, List.take_of_length_le (Nat.le_refl _)] at rQ
  have ep1 := s1 _ _ hp
  have npD : p ≠ D := ne_of ep1 eD (by intro z; cases z)
  refine ⟨_, rfl, p, C, dx, _, rfl, ep1, TK.cl, TK.nl, (by show 0 < 1000; decide), ?_⟩
  have k1 : ∀ x o, H1 x = some o → x ≠ p → (upd H1 p (.ins C dx (putF "lines" (.ref D) []))) x = some o := fun x o hx n => by rw [upd_ne n]; exact hx
  have enb1 := s1 _ _ enb
  have ena1 := s1 _ _ ena
  refine ⟨_, rfl, nb, _, rfl, .inl (SqL.of (k1 _ _ enb1 (ne_of enb1 ep1 (by intro z; cases z)))), fun B hB => ?_⟩
  have npB : p ≠ B := fun z => by rw [← z, upd_same] at hB; cases hB
  refine ⟨_, rfl, p, C, dx, _, rfl, by rw [upd_ne npB]; exact upd_same, TK.cl, TK.nb, (by show 1 < 1000; decide), ?_⟩
  refine ⟨_, rfl, na, as.map V.ref, rfl, .inl (SqL.of ?_), fun A' hA => ?_⟩
  · rw [upd_ne (ne_of ena1 ep1 (by intro z; cases z)), upd_ne (ne_of_none (k1 _ _ ena1 (ne_of ena1 ep1 (by intro z; cases z))) hB)]
    exact k1 _ _ ena1 (ne_of ena1 ep1 (by intro z; cases z))
  have npA : p ≠ A' := fun z => by rw [← z, upd_same] at hA; cases hA
  have nBA : B ≠ A' := fun z => by rw [← z, upd_ne npB.symm, upd_same] at hA; cases hA
  refine ⟨_, rfl, p, C, dx, _, rfl, by rw [upd_ne npA]; exact upd_same, TK.cl, TK.na, (by show 2 < 1000; decide), ?_⟩
  refine ⟨_, rfl, p, C, dx, _, rfl, upd_same, TK.cl, TK.no, (by show 3 < 1000; decide), ?_⟩
  have ef : putF "bottom" (.int 1) (putF "atop" (.ref A') (putF "beside" (.ref B) (putF "lines" (.ref D) []))) = tflds D B A' 1 := by
    have h1 : ¬ ("lines" : Str) = "beside" := by decide
    have h2 : ¬ ("lines" : Str) = "atop" := by decide
    have h3 : ¬ ("beside" : Str) = "atop" := by decide
    have h4 : ¬ ("lines" : Str) = "bottom" := by decide
    have h5 : ¬ ("beside" : Str) = "bottom" := by decide
    have h6 : ¬ ("atop" : Str) = "bottom" := by decide
    simp [putF, h1, h2, h3, h4, h5, h6]
  rw [ef]
  have HB : H1 B = none := by rw [upd_ne npB.symm] at hB; exact hB
  have HA : H1 A' = none := by
    rw [upd_ne npA.symm, upd_ne nBA.symm, upd_ne npA.symm] at hA
    exact hA
  have keep : ∀ x o, H1 x = some o → x ≠ p → (upd (upd (upd (upd (upd (upd H1 p (.ins C dx (putF "lines" (.ref D) []))) B (.lst (bs.map V.ref))) p (.ins C dx (putF "beside" (.ref B) (putF "lines" (.ref D) [])))) A' (.lst (as.map V.ref))) p (.ins C dx (putF "atop" (.ref A') (putF "beside" (.ref B) (putF "lines" (.ref D) []))))) p (.ins C dx (tflds D B A' 1))) x = some o := fun x o hx n => by
    rw [upd_ne n, upd_ne n, upd_ne (ne_of_none hx HA), upd_ne n, upd_ne (ne_of_none hx HB), upd_ne n]
    exact hx
  have no0 : ∀ x, H1 x = none → H x = none := fun x hx => by
    cases z : H x with
    | none => rfl
    | some o => rw [s1 _ _ z] at hx; cases hx
  have tupk : ∀ r (u : Int × Int), H r = some (.tup [.int u.1, .int u.2]) → _ := fun r u hr => keep r _ (s1 _ _ hr) (ne_of hr hp (by intro z; cases z))
  refine q B A' _ (no0 _ HB) (no0 _ HA) ⟨⟨dx, D, qs, bs, as, upd_same, keep _ _ eD npD.symm, rQ.keep fun x hx o ho => keep x o ho ?_, ?_, Paired.mapP fb fun r u e => tupk r u e, ?_, Paired.mapP fa fun r u e => tupk r u e⟩, nBA⟩ fun x o hx n => keep x o (s1 _ _ hx) n
  · obtain ⟨i, hi⟩ := List.mem_iff_getElem?.mp hx
    obtain ⟨x', tx, e, i1, i2, i3⟩ := rQ.at (i := i) (x := .ref x) (by rw [List.getElem?_map, hi]; rfl)
    have z2 : x = x' := by injection e
    rw [← z2] at i3
    exact ne_of i3 ep1 (by intro z; cases z)
  · rw [upd_ne npB.symm, upd_ne npB.symm, upd_ne nBA, upd_ne npB.symm]
    exact upd_same
  · rw [upd_ne npA.symm, upd_ne npA.symm]
    exact upd_same

end
end Pg

set_option maxHeartbeats 4000000
namespace Pg
open PySem PySem.Spec PyProof.Rows L2 Ob
section
variable {P : Program} {w : World} {K : PySem.W.Frag} {mg : Str → Option Value} {base : Heap} {f f1 f2 f3 f4 C : Addr} {fd d1 d2 d3 d4 : FuncData}
abbrev n_nmany : List Str := ["numbers"]
theorem sc_nmany : FnScope n_nmany ["numbers"] (defScope sNMany) := ⟨rfl, rfl, rfl, by decide +kernel, rfl, by decide +kernel, by decide +kernel⟩
theorem ok_nmany (F : Fun K "check_not_many" "check_not_many" sNMany f fd) (T : Tx mg) {tm : Tok} (m8 : mg "MOST_IN_A_SUM" = some (.int 8 tm)) : FnOk P w K mg base CX0 1 f fd ["numbers"] spNotMany := by
  refine F.ok sc_nmany (fun vs H Q E h => ?_) (fun cdv A outer s H vs Q E hr h => ?_)
  · obtain ⟨a, ns, rfl, _⟩ := h
    rfl
  obtain ⟨a, ns, rfl, ha, hl, q⟩ := h
  refine ⟨_, (pss_one (ps_if (pt_cmpR op_gt (pe_callB call_len_seq rfl T.len PySem.boot_len (pa_cons (pv 0) pa_nil)) (pe_glob (v := .int 8) rfl m8 ⟨tm, rfl⟩) (nomark _)) pss_never pss_nil)), ?_⟩
  refine ⟨_, rfl, a, _, rfl, .inl (SqL.of ha), _, _, rfl, rfl, _, rfl, ?_⟩
  refine ite2 (fun e => absurd (of_decide_eq_true e) (by rw [List.length_map]; omega)) (fun _ => q)
abbrev n_inner : List Str := ["numbers"]
theorem sc_inner : FnScope n_inner ["numbers"] (defScope sInner) := ⟨rfl, rfl, rfl, by decide +kernel, rfl, by decide +kernel, by decide +kernel⟩
theorem ok_inner (F : Fun K "inner_places" "inner_places" sInner f fd) (T : Tx mg) : FnOk P w K mg base CX0 1 f fd ["numbers"] spInner := by
  refine F.ok sc_inner (fun vs H Q E h => ?_) (fun cdv A outer s H vs Q E hr h => ?_)
  · obtain ⟨a, ns, rfl, _⟩ := h
    rfl
  obtain ⟨a, ns, rfl, ha, hl, q⟩ := h
  refine ⟨_, (pss_one (ps_ret (pe_lrngW rfl rfl T.list rfl T.range (pa_cons pe_int (pa_cons (pe_op op_sub (pe_callB call_len_seq rfl T.len PySem.boot_len (pa_cons (pv 0) pa_nil)) pe_int) pa_nil))))), ?_⟩
  refine ⟨_, rfl, a, _, rfl, .inl (SqL.of ha), _, _, rfl, rfl, 1, (((ns.map V.int).length : Nat) : Int) - 1, rfl, by decide, by decide, ?_, ?_, ?_, fun l hl' => ?_⟩
  · rw [List.length_map]
    have : (2 : Int) ^ 60 = 1152921504606846976 := by decide
    omega
  · rw [List.length_map]
    have : (2 : Int) ^ 60 = 1152921504606846976 := by decide
    omega
  · rw [List.length_map]
    omega
  · rw [List.length_map, show ((ns.length : Int) - 1 - 1).toNat = ns.length - 2 by omega]
    exact q l hl'
abbrev n_putb : List Str := ["place", "other", "away"]
theorem sc_putb : FnScope n_putb ["place", "other"] (defScope sPut) := ⟨rfl, rfl, rfl, by decide +kernel, rfl, by decide +kernel, by decide +kernel⟩
theorem ok_putb (F : Fun K "put_to_bend" "put_to_bend" sPut f fd) (T : Tx mg) (zabs : mg "abs" = none) {fP : Addr} (mP : mg "PUT_TO_BENDS" = some (.ref fP)) (KP : ∀ H, SqT K H fP [.int 6, .int (-4), .int 1]) : FnOk P w K mg base CX0 1 f fd ["place", "other"] spPut := by
  refine F.ok sc_putb (fun vs H Q E h => ?_) (fun cdv A outer s H vs Q E hr h => ?_)
  · obtain ⟨i, j, rfl, _⟩ := h
    rfl
  obtain ⟨i, j, rfl, hi, hj, q⟩ := h
  refine ⟨_, (pss_cons (ps_set (i := 2) sc_putb.nd rfl (Or.inl rfl) (pe_callB call_abs rfl zabs boot_abs' (pa_cons (pe_op op_sub (pv 0) (pv 1)) pa_nil)))
    (pss_one (ps_ret (pe_ifExp (pt_cmpR op_lt (pv 2) (pe_callB call_len_seq rfl T.len PySem.boot_len (pa_cons (pe_glob (v := .ref fP) rfl mP rfl) pa_nil)) (nomark _)) (pe_ix ix_tup (pe_glob (v := .ref fP) rfl mP rfl) (pv 2) (fun _ _ => rfl)) pe_int)))), ?_⟩
  refine ⟨_, rfl, _, rfl, _, _, rfl, rfl, _, rfl, ?_⟩
  refine ⟨_, rfl, fP, _, rfl, .inr (KP _), _, _, rfl, rfl, _, rfl, ?_⟩
  unfold putI at q
  have hab : (if 1 + (i : Int) - (1 + (j : Int)) < 0 then -(1 + (i : Int) - (1 + (j : Int))) else 1 + (i : Int) - (1 + (j : Int))) = ((if i ≤ j then j - i else i - j : Nat) : Int) := by
    split <;> split <;> omega
  refine ite2 (fun e => ?_) (fun e => ?_)
  · have e' := of_decide_eq_true e
    refine ⟨_, rfl, fP, _, _, _, rfl, rfl, KP _, ?_, q⟩
    have lt : (if i ≤ j then j - i else i - j : Nat) < 3 := by
      have : (if 1 + (i : Int) - (1 + (j : Int)) < 0 then -(1 + (i : Int) - (1 + (j : Int))) else 1 + (i : Int) - (1 + (j : Int))) < (3 : Int) := e'
      rw [hab] at this
      omega
    rw [hab]
    refine atI_nat ?_
    generalize hk : (if i ≤ j then j - i else i - j : Nat) = k at lt
    have hk3 : k = 0 ∨ k = 1 ∨ k = 2 := by omega
    rcases hk3 with rfl | rfl | rfl
    · have : i = j := by split at hk <;> omega
      rw [if_pos this]
      rfl
    · have : i = j + 1 ∨ j = i + 1 := by split at hk <;> omega
      rw [if_neg (by omega), if_pos this]
      rfl
    · have : i = j + 2 ∨ j = i + 2 := by split at hk <;> omega
      rw [if_neg (by omega), if_neg (by omega), if_pos this]
      rfl
  · have e' : ¬ (if 1 + (i : Int) - (1 + (j : Int)) < 0 then -(1 + (i : Int) - (1 + (j : Int))) else 1 + (i : Int) - (1 + (j : Int))) < (3 : Int) := fun z => e (decide_eq_true z)
    rw [hab] at e'
    have lt : 3 ≤ (if i ≤ j then j - i else i - j : Nat) := by omega
    rw [if_neg (by split at lt <;> omega), if_neg (by split at lt <;> omega), if_neg (by split at lt <;> omega)] at q
    exact q
abbrev n_amiss : List Str := ["name", "amount", "kind", "place"]
theorem sc_amiss : FnScope n_amiss ["name", "amount"] (defScope sAmiss) := ⟨rfl, rfl, rfl, by decide +kernel, rfl, by decide +kernel, by decide +kernel⟩
theorem ok_amiss (F : Fun K "is_amiss" "is_amiss" sAmiss f fd) (T : Tx mg) {tw : Tok} (mW : mg "WEIGHT" = some (.int 0 tw)) : FnOk P w K mg base CX0 1 f fd ["name", "amount"] spAmiss := by
  refine F.ok sc_amiss (fun vs H Q E h => ?_) (fun cdv A outer s H vs Q E hr h => ?_)
  · obtain ⟨r, k, p, x, rfl, _⟩ := h
    rfl
  obtain ⟨r, k, p, x, rfl, hr', q⟩ := h
  refine ⟨_, (pss_cons (ps_asg (pv 0) (pg_tup (by rfl) (pgs_cons (pg_name (i := 2) sc_amiss.nd rfl (Or.inl rfl)) (pgs_cons (pg_name (i := 3) sc_amiss.nd rfl (Or.inl rfl)) pgs_nil))))
    (pss_one (ps_ret (pe_ifExp (pt_cmp (pc_eqI (pv 2) (pe_glob (v := .int 0) rfl mW ⟨tw, rfl⟩))) (pe_cmp (pc_lt (pv 1) pe_int)) (pe_cmp (pc_gt (pv 1) pe_int)))))), ?_⟩
  refine ⟨_, rfl, r, _, rfl, SqT.of hr', rfl, _, _, rfl, _, _, rfl, rfl, ?_⟩
  refine ⟨_, rfl, _, _, rfl, rfl, _, rfl, ?_⟩
  have q' := q H (Same.refl _)
  refine ite2 (fun e => ?_) (fun e => ?_)
  · rw [if_pos (of_decide_eq_true e)] at q'
    exact ⟨_, rfl, _, _, rfl, rfl, q'⟩
  · rw [if_neg (fun z => e (decide_eq_true z))] at q'
    exact ⟨_, rfl, _, _, rfl, rfl, q'⟩
abbrev n_first : List Str := ["table", "at", "line"]
theorem sc_first : FnScope n_first ["table"] (defScope sFirstA) := ⟨rfl, rfl, rfl, by decide +kernel, rfl, by decide +kernel, by decide +kernel⟩
theorem ok_first (F : Fun K "first_amiss" "first_amiss" sFirstA f fd) (T : Tx mg) (TK : TTk K mg C) (GA : FnOk P w K mg base CX0 1 f1 d1 ["name", "amount"] spAmiss) (bA : Binds K d1 ["name", "amount"] []) (kA : PySem.W.keepIn K (.ref f1) = true) (mA : mg "is_amiss" = some (.ref f1)) : FnOk P w K mg base CX0 2 f fd ["table"] (spFirstA C) := by
  refine F.ok sc_first (fun vs H Q E h => ?_) (fun cdv A outer s H vs Q E hr h => ?_)
  · obtain ⟨p, B, A', T', S, ms, b, n, rfl, _⟩ := h
    rfl
  obtain ⟨p, B, A', T', S, ms, b, n, rfl, tab, hl, hrow, h8, q⟩ := h
  refine ⟨_, (pss_cons (ps_for PassesOwn.never rfl (pi_enum rfl T.enum (pa_cons (pe_fld (pv 0) rfl) pa_nil)) (pg_tup (by rfl) (pgs_cons (pg_name (i := 1) sc_first.nd rfl (Or.inl rfl)) (pgs_cons (pg_name (i := 2) sc_first.nd rfl (Or.inl rfl)) pgs_nil)))
      (pss_one (ps_if (pt_val (pe_call GA hr rfl mA kA bA .nil pass0 (pa_cons (pe_ix ix_list (pe_fld (pv 0) rfl) (pv 1) (fun _ _ => rfl)) (pa_cons (pe_ix ix_list (pv 2) (pe_un un_neg pe_int) (fun _ _ => rfl)) pa_nil)))) (pss_one (ps_ret (pv 1))) pss_nil)))
    (pss_one (ps_ret pe_non))), ?_⟩
  obtain ⟨dx, L, ls, bs, as, e1, e2, e3, e4, e5, e6, e7⟩ := tab.ob
  have lls := e3.len
  refine ⟨_, rfl, p, C, dx, _, _, rfl, e1, TK.cl, TK.nl, tf_lines _ _ _ _, L, _, rfl, SqL.of e2, ?_⟩
  refine for_enum (K := K) (a := L) (xs := ls.map V.ref) (fun i σ H' => ∃ v1 v2 : Option V, σ = [some (.ref p), v1, v2] ∧ Same H H' ∧ ∀ j, j < i → OkAt S T' n j) ⟨_, _, rfl, Same.refl _, fun j hj => absurd hj (by omega)⟩ (fun i σ H' _ ⟨_, _, _, s', _⟩ => s'.seq (SqL.of e2)) ?_ ?_
  · rintro i x T1 σ H' hx hT ⟨v1, v2, rfl, s', ok⟩
    obtain ⟨l, t, rfl, hl', ht, el⟩ := e3.at hx
    have hi : i < n := by rw [← hl]; exact (List.getElem?_eq_some_iff.mp ht).1
    have lt := hrow t (List.mem_of_getElem? ht)
    have tT := same_new hT (.tup [.int (i : Nat), .ref l])
    have sT := s'.trans tT
    obtain ⟨rn, hrn, ern⟩ := fracs_get e5 (nm_at (S := S) hi)
    refine ⟨T1, _, rfl, SqT.of upd_same, rfl, _, _, rfl, _, _, rfl, rfl, ?_⟩
    refine ⟨_, rfl, p, C, dx, _, _, rfl, sT _ _ e1, TK.cl, TK.nb, tf_beside _ _ _ _, _, rfl, B, _, _, _, rfl, rfl, SqL.of (sT _ _ e4), atI_nat (by rw [List.getElem?_map, hrn]; rfl), ?_⟩
    have last : atI (t.map V.int) (-1) = some (.int (An t n)) := by
      have e : atI (t.map V.int) (-1) = (t.map V.int)[n]? := by
        unfold atI ixN
        rw [if_neg (by decide), if_pos (by rw [List.length_map]; omega), List.length_map, lt]
        show (t.map V.int)[_]? = _
        congr 1
        omega
      rw [e, List.getElem?_map, an_at (by omega)]
      rfl
    refine ⟨_, rfl, _, rfl, l, _, _, _, rfl, rfl, SqL.of (sT _ _ el), last, rn, _, _, _, rfl, sT _ _ ern, fun H'' s'' => ⟨_, rfl, ?_⟩⟩
    have bf := basF_at (n := n) ht
    have okI : OkAt S T' n i ↔ ¬ (if (if S i = true then (0 : Int) else 1) = 0 then decide (An t n < 0) else decide (An t n > 0)) = true := by
      unfold OkAt
      rw [bf]
      cases S i <;> simp <;> omega
    refine ite2 (fun e => ?_) (fun e => ?_)
    · have z := (q H'' (sT.trans s'')).2 i hi ok (fun z => (okI.mp z) e)
      exact ⟨_, rfl, z⟩
    · refine ⟨_, _, rfl, sT.trans s'', fun j hj => ?_⟩
      by_cases c : j < i
      · exact ok j c
      · rw [show j = i by omega]
        exact okI.mpr e
  · rintro σ H' ⟨v1, v2, rfl, s', ok⟩
    rw [List.length_map, lls, hl] at ok
    exact (q H' s').1 ok
abbrev n_right : List Str := ["table", "at"]
theorem sc_right : FnScope n_right ["table"] (defScope sRight2) := ⟨rfl, rfl, rfl, by decide +kernel, rfl, by decide +kernel, by decide +kernel⟩
theorem ok_right (F : Fun K "put_right" "put_right" sRight2 f fd) (TK : TTk K mg C) (GA : FnOk P w K mg base CX0 2 f1 d1 ["table"] (spFirstA C)) (bA : Binds K d1 ["table"] []) (kA : PySem.W.keepIn K (.ref f1) = true) (mA : mg "first_amiss" = some (.ref f1)) (GX : FnOk P w K mg base CX0 2 f2 d2 ["self", "at", "column"] (spExch C)) (bX : Binds K d2 ["self", "at", "column"] []) (mX : Meth K C "exchange" f2) : FnOk P w K mg base CX0 3 f fd ["table"] (spRight C) := by
  refine F.ok sc_right (fun vs H Q E h => ?_) (fun cdv A outer s H vs Q E hr h => ?_)
  · obtain ⟨p, B, A', n, q, rfl, _⟩ := h
    rfl
  obtain ⟨p, B, A', n, q, rfl, tab, h6, hq, k⟩ := h
  refine ⟨_, (pss_cons (ps_set (i := 1) sc_right.nd rfl (Or.inl rfl) (pe_call GA hr rfl mA kA bA .nil pass0 (pa_cons (pv 0) pa_nil)))
    (pss_one (ps_while PassesOwn.never (pt_cmp (pc_notN (pv 1))) (pss_cons (ps_expr (pe_meth (pv 0) TK.cl mX GX hr bX .nil pass0 (pa_cons (pv 1) (pa_cons (pv 1) pa_nil)))) (pss_one (ps_set (i := 1) sc_right.nd rfl (Or.inl rfl) (pe_call GA hr rfl mA kA bA .nil pass0 (pa_cons (pv 0) pa_nil)))))))), ?_⟩
  have fitS : ∀ {S : Nat → Bool} {T : List (List Int)} {b : Int}, SqSt n q S T b → Fit T (n + 1) := fun s => ⟨by rw [s.len]; omega, s.row, by omega, (s.bt h6 hq).1⟩
  apply with_at (S := fun v HX => ∃ (S : Nat → Bool) (T : List (List Int)) (b : Int), SqSt n q S T b ∧ (n = 0 → b = 1) ∧ Past n q S (fun _ => none) ∧ TabAt C HX p B A' T (nmS n S) (nmS n fun i => !S i) b ∧ (∀ x o, H x = some o → x ≠ p → x ≠ B → x ≠ A' → HX x = some o) ∧ AtIs S T n v)
  case use =>
    intro rest
    have s0 := sq_init n q
    have P0 : Past n q (fun _ => false) (fun _ => none) := ⟨fun _ _ _ z => nomatch z⟩
    refine ⟨_, rfl, p, B, A', sqT n q, fun _ => false, nmS n fun _ => true, 1, n, rfl, tab, s0.len, s0.row, by omega, fun H1 s1 => ⟨fun ok => ?_, fun a ha ok no => ?_⟩⟩
    rotate_left
    · have at1 : AtIs (fun _ => false) (sqT n q) n (.int (a : Int)) := .inr ⟨a, rfl, ha, ok, no⟩
      generalize V.int (a : Int) = v0 at at1 ⊢
      exact rest v0 H1 ⟨_, _, _, s0, (fun _ => rfl), P0, tab.same s1, fun x o hx _ _ _ => s1 x o hx, at1⟩
    · exact rest .non H1 ⟨_, _, _, s0, (fun _ => rfl), P0, tab.same s1, fun x o hx _ _ _ => s1 x o hx, .inl ⟨rfl, ok⟩⟩
  case rest =>
  rintro v0 HX ⟨S, T, b, sS, b1, PS, tabX, kX, at0⟩
  refine ⟨fun m σ H' => ∃ (v : V) (S : Nat → Bool) (T : List (List Int)) (b : Int) (h : Nat → Option Snap), σ = [some (.ref p), some v] ∧ m = mu h n ∧ SqSt n q S T b ∧ (n = 0 → b = 1) ∧ Past n q S h ∧ TabAt C H' p B A' T (nmS n S) (nmS n fun i => !S i) b ∧ (∀ x o, H x = some o → x ≠ p → x ≠ B → x ≠ A' → H' x = some o) ∧ AtIs S T n v, ⟨_, v0, S, T, b, _, rfl, rfl, sS, b1, PS, tabX, kX, at0⟩, ?_⟩
  rintro m σ H' ⟨v, S, T, b, h, rfl, rfl, sS, b1, PS, tabX, kX, at0⟩
  refine ⟨_, rfl, _, rfl, ?_⟩
  rcases at0 with ⟨rfl, ok⟩ | ⟨a, rfl, ha, ok, no⟩
  · exact iteF (k S T b H' sS b1 ok tabX kX)
  · refine iteT ⟨fun σ' H'' => ∃ m', m' < mu h n ∧ ∃ (v : V) (S : Nat → Bool) (T : List (List Int)) (b : Int) (h : Nat → Option Snap), σ' = [some (.ref p), some v] ∧ m' = mu h n ∧ SqSt n q S T b ∧ (n = 0 → b = 1) ∧ Past n q S h ∧ TabAt C H'' p B A' T (nmS n S) (nmS n fun i => !S i) b ∧ (∀ x o, H x = some o → x ≠ p → x ≠ B → x ≠ A' → H'' x = some o) ∧ AtIs S T n v, fun _ _ z => z, ?_⟩
    obtain ⟨hn1, P2⟩ := PS.next sS ha ok no
    have lT := sS.len
    obtain ⟨ch, hch⟩ : ∃ ch, T[a]? = some ch := ⟨_, List.getElem?_eq_getElem (by omega)⟩
    have s2 := sS.step hch
    obtain ⟨dx, L, ls, bs, as, e1, _⟩ := tabX.ob
    refine ⟨_, rfl, p, dx, _, rfl, e1, tf_no _ _ _ _ (by decide) (by decide) (by decide) (by decide), _, rfl, _, rfl, p, B, A', T, nmS n S, nmS n fun i => !S i, b, a, a, n + 1, ch, _, _, rfl, tabX, fitS sS, by omega, hch, nm_at ha, nm_at ha, sS.pos, (sS.bt h6 hq).2 (by omega), by rw [nm_len]; omega, by rw [nm_len]; omega, fun H2 tab2 k2 => ?_⟩
    have en : (nmS n S).set a ((if (!S a) = true then 0 else 1), 1 + (a : Int)) = nmS n (flip S a) := by
      rw [← nm_set ha]
      congr 2
      cases S a <;> rfl
    rw [en, nm_set' ha] at tab2
    have k3 : ∀ x o, H x = some o → x ≠ p → x ≠ B → x ≠ A' → H2 x = some o := fun x o hx a1 a2 a3 => k2 x o (kX x o hx a1 a2 a3) a1 a2 a3
    have lt := mu_put (s := ⟨S, T, b⟩) hn1 n ha
    refine ⟨_, rfl, p, B, A', exT T b a a ch, flip S a, _, _, n, rfl, tab2, s2.len, s2.row, by omega, fun H3 s3 => ⟨fun ok' => ?_, fun a' ha' ok' no' => ?_⟩⟩
    · exact ⟨_, lt, .non, flip S a, _, _, _, rfl, rfl, s2, (fun z => absurd z (by omega)), P2, tab2.same s3, fun x o hx a1 a2 a3 => s3 _ _ (k3 x o hx a1 a2 a3), .inl ⟨rfl, ok'⟩⟩
    · exact ⟨_, lt, .int (a' : Int), flip S a, _, _, _, rfl, rfl, s2, (fun z => absurd z (by omega)), P2, tab2.same s3, fun x o hx a1 a2 a3 => s3 _ _ (k3 x o hx a1 a2 a3), .inr ⟨a', rfl, ha', ok', no'⟩⟩
end
end Pg

set_option maxHeartbeats 4000000
namespace Pg
open PySem PySem.Spec PyProof.Rows L2 Ob
section
variable {P : Program} {w : World} {K : PySem.W.Frag} {mg : Str → Option Value} {base : Heap} {f f1 f2 f3 f4 C : Addr} {fd d1 d2 d3 d4 : FuncData}
abbrev n_amounts : List Str := ["self", "name", "line"]
theorem sc_amounts : FnScope n_amounts ["self"] (defScope sTAm) := ⟨rfl, rfl, rfl, by decide +kernel, rfl, by decide +kernel, by decide +kernel⟩
theorem ok_amounts (F : Fun K "amounts" "Table.amounts" sTAm f fd) (T : Tx mg) (TK : TTk K mg C) : FnOk P w K mg base CX0 1 f fd ["self"] (spAmt C) := by
  refine F.ok sc_amounts (fun vs H Q E h => ?_) (fun cdv A outer s H vs Q E hr h => ?_)
  · obtain ⟨p, B, A, T', S, ms, b, n, rfl, _⟩ := h
    rfl
  obtain ⟨p, B, A', T', S, ms, b, n, rfl, tab, hl, hrow, h8, q⟩ := h
  have hu := hu_ofR hr
  refine ⟨_, (pss_one (ps_ret (pe_dc (own := [("name", 1), ("line", 2)]) (g := gTup K 2 (gCons (gName 1) (gCons (gName 2) gNil))) (by rfl) sc_amounts.nd (pi_zip rfl T.zip (pa_cons (pe_fld (pv 0) rfl) (pa_cons (pe_fld (pv 0) rfl) pa_nil))) (blkOk_by (own := [("name", 1), ("line", 2)]) (N := n_amounts) (sc := defScope sTAm) (by decide +kernel)) (fun _ _ _ _ _ => pg_tup rfl (pgs_cons (pg_name (i := 1) sc_amounts.nd rfl (Or.inl rfl)) (pgs_cons (pg_name (i := 2) sc_amounts.nd rfl (Or.inl rfl)) pgs_nil))) (fun _ _ _ _ _ => pts_nil) (fun _ _ _ _ _ => pv 1) (fun _ _ _ _ _ => pe_ix (r := rIxL K) ix_list (pv 2) (pe_un un_neg pe_int) (fun _ _ => rfl)) hu))), ?_⟩
  obtain ⟨dx, L, ls, bs, as, e1, e2, e3, e4, e5, e6, e7⟩ := tab.ob
  have lls := e3.len
  have lbs : bs.length = n := (Paired.length e5).trans (nm_len n S)
  refine ⟨_, rfl, p, C, dx, _, _, rfl, e1, TK.cl, TK.nb, tf_beside _ _ _ _, _, rfl, p, C, dx, _, _, rfl, e1, TK.cl, TK.nl, tf_lines _ _ _ _, B, L, _, _, rfl, SqL.of e4, SqL.of e2, fun D hD => ?_⟩
  refine dc_zip (K := K) (a := B) (b := L) (xs := bs.map V.ref) (ys := ls.map V.ref) (fun i H' => Same H H' ∧ ∃ kvs : List (List Key × V), H' D = some (.dT kvs) ∧ kvs.length ≤ i ∧ ∀ kd pl : Int, valV kvs [Sum.inl kd, Sum.inl pl] = amtV T' n S i kd pl) n (by rw [List.length_map, List.length_map]; omega) ⟨same_new hD _, [], upd_same, Nat.le_refl _, fun kd pl => ?_⟩ (fun i H' _ ⟨s', _⟩ => ⟨s'.seq (SqL.of e4), s'.seq (SqL.of e2)⟩) ?_ ?_
  · rw [valV_nil]
    unfold amtV
    rw [if_neg (by omega)]
  · rintro i x y T1 H' hx hy hT ⟨s', kvs, e', kl, kv⟩
    obtain ⟨l, t, rfl, hl', ht, el⟩ := e3.at hy
    have hi : i < n := by rw [← hl]; exact (List.getElem?_eq_some_iff.mp ht).1
    have lt := hrow t (List.mem_of_getElem? ht)
    obtain ⟨rn, hrn, ern⟩ := fracs_get e5 (nm_at (S := S) hi)
    have ex : x = .ref rn := by
      rw [List.getElem?_map, hrn] at hx
      exact (Option.some.inj hx).symm
    subst ex
    have tT := same_new hT (.tup [.ref rn, .ref l])
    have sT := s'.trans tT
    refine ⟨T1, _, rfl, SqT.of upd_same, rfl, _, _, rfl, _, _, rfl, rfl, rfl, ?_⟩
    refine ⟨_, rfl, _, rfl, _, rfl, l, _, _, _, rfl, rfl, SqL.of (sT _ _ el), last_at lt, _, .inr ⟨kvs, [Sum.inl (if S i = true then 0 else 1), Sum.inl (1 + (i : Int))], rn, tT _ _ e', rfl, sT _ _ ern, Nat.lt_of_le_of_lt (show kvs.length ≤ 100 by omega) (by decide), rfl⟩, put_new sT hD, _, upd_same, ?_, fun kd pl => ?_⟩
    · have := length_putK kvs [Sum.inl (if S i = true then 0 else 1), Sum.inl (1 + (i : Int))] (V.int (An t n))
      omega
    · rw [valV_put, kv]
      have bf := basF_at (n := n) ht
      by_cases c : kd = (if S i = true then 0 else 1) ∧ pl = 1 + (i : Int)
      · obtain ⟨c1, c2⟩ := c
        rw [if_pos (by rw [c1, c2])]
        unfold amtV
        have e0 : (pl - 1).toNat = i := by omega
        rw [e0, if_pos ⟨by omega, by omega, c1⟩, bf]
      · rw [if_neg (fun z => c (by
          injection z with z1 z2
          injection z2 with z2 z3
          exact ⟨by injection z1, by injection z2⟩))]
        unfold amtV
        by_cases d : 1 ≤ pl ∧ pl ≤ (i : Int) ∧ kd = (if S (pl - 1).toNat = true then 0 else 1)
        · rw [if_pos d, if_pos ⟨d.1, by omega, d.2.2⟩]
        · rw [if_neg d, if_neg (fun z => by
            by_cases g : pl ≤ (i : Int)
            · exact d ⟨z.1, g, z.2.2⟩
            · have e0 : (pl - 1).toNat = i := by omega
              rw [e0] at z
              exact c ⟨z.2.2, by omega⟩)]
  · rintro H' ⟨s', kvs, e', kl, kv⟩
    exact q D kvs H' s' hD e' kv
abbrev n_tblw : List Str := ["numbers", "lines", "inner", "place", "bend", "other"]
theorem sc_tblw : FnScope n_tblw ["numbers"] (defScope sTblW) := ⟨rfl, rfl, rfl, by decide +kernel, rfl, by decide +kernel, by decide +kernel⟩
theorem ok_tblw (F : Fun K "table_of_weights" "table_of_weights" sTblW f fd) (T : Tx mg) (TK : TTk K mg C) {tw tl : Tok} (mW : mg "WEIGHT" = some (.int 0 tw)) (mLB : mg "LESS_BEND" = some (.int 1 tl)) (MK : Mk K C f4) (GI : FnOk P w K mg base CX0 1 f1 d1 ["numbers"] spInner) (bI : Binds K d1 ["numbers"] []) (kI : PySem.W.keepIn K (.ref f1) = true) (mI : mg "inner_places" = some (.ref f1)) (GD : FnOk P w K mg base CX0 1 f2 d2 ["numbers"] spDiff) (bD : Binds K d2 ["numbers"] []) (kD : PySem.W.keepIn K (.ref f2) = true) (mD : mg "differences" = some (.ref f2)) (GP : FnOk P w K mg base CX0 1 f3 d3 ["place", "other"] spPut) (bP : Binds K d3 ["place", "other"] []) (kP : PySem.W.keepIn K (.ref f3) = true) (mP : mg "put_to_bend" = some (.ref f3)) (GT : FnOk P w K mg base CX0 1 f4 d4 ["self", "lines", "beside", "atop"] (spTInit C)) (bT : Binds K d4 ["self", "lines", "beside", "atop"] []) : FnOk P w K mg base CX0 3 f fd ["numbers"] (spTblW C) := by
  refine F.ok sc_tblw (fun vs H Q E h => ?_) (fun cdv A outer s H vs Q E hr h => ?_)
  · obtain ⟨a, ns, rfl, _⟩ := h
    rfl
  obtain ⟨a, ns, rfl, ha, l1, l2, hb, q⟩ := h
  have hr1 : Room 1 _ := hr.mono (by decide)
  refine ⟨_, (pss_cons (ps_set (i := 1) sc_tblw.nd rfl (Or.inl rfl) (pe_lst pa_nil))
    (pss_cons (ps_set (i := 2) sc_tblw.nd rfl (Or.inl rfl) (pe_call GI hr1 rfl mI kI bI .nil pass0 (pa_cons (pv 0) pa_nil)))
    (pss_cons (ps_for PassesOwn.never rfl (pi_zip rfl T.zip (pa_cons (pv 2) (pa_cons (pe_call GD hr1 rfl mD kD bD .nil pass0 (pa_cons (pe_call GD hr1 rfl mD kD bD .nil pass0 (pa_cons (pv 0) pa_nil)) pa_nil)) pa_nil))) (pg_tup (by rfl) (pgs_cons (pg_name (i := 3) sc_tblw.nd rfl (Or.inr rfl)) (pgs_cons (pg_name (i := 4) sc_tblw.nd rfl (Or.inl rfl)) pgs_nil)))
      (pss_one (ps_expr (pe_bm PySem.F.plainAttrs_list PySem.F.slot_list_append PySem.F.type_list_append mt_append (pv 1) (pa_cons (pe_op op_cat (pe_lc (own := [("other", 5)]) (g := gName 5) (by rfl) sc_tblw.nd (pi_list (pv 2)) (blkOk_by (own := [("other", 5)]) (N := n_tblw) (sc := defScope sTblW) (by decide +kernel)) (fun _ _ _ _ _ => pg_name (i := 5) sc_tblw.nd rfl (Or.inl rfl)) (fun _ _ _ _ _ => pts_nil) (fun _ _ _ _ _ => pe_call GP hr1 rfl mP kP bP .nil pass0 (pa_cons (pv 5) (pa_cons (pv 3) pa_nil)))) (pe_lst (pa_cons (pe_un un_neg (pv 4)) pa_nil))) pa_nil)))))
    (pss_one (ps_ret (pe_make MK GT hr rfl TK.mgC bT .nil pass0 (pa_cons (pv 1) (pa_cons (pe_lc (own := [("place", 3)]) (g := gName 3) (by rfl) sc_tblw.nd (pi_list (pv 2)) (blkOk_by (own := [("place", 3)]) (N := n_tblw) (sc := defScope sTblW) (by decide +kernel)) (fun _ _ _ _ _ => pg_name (i := 3) sc_tblw.nd rfl (Or.inl rfl)) (fun _ _ _ _ _ => pts_nil) (fun _ _ _ _ _ => pe_tup (pa_cons (pe_glob (v := .int 1) rfl mLB ⟨_, rfl⟩) (pa_cons (pv 3) pa_nil)))) (pa_cons (pe_lc (own := [("place", 3)]) (g := gName 3) (by rfl) sc_tblw.nd (pi_list (pv 2)) (blkOk_by (own := [("place", 3)]) (N := n_tblw) (sc := defScope sTblW) (by decide +kernel)) (fun _ _ _ _ _ => pg_name (i := 3) sc_tblw.nd rfl (Or.inl rfl)) (fun _ _ _ _ _ => pts_nil) (fun _ _ _ _ _ => pe_tup (pa_cons (pe_glob (v := .int 0) rfl mW ⟨_, rfl⟩) (pa_cons (pv 3) pa_nil)))) pa_nil))))))))), ?_⟩
  have hn6 : ns.length - 2 ≤ 6 := by omega
  generalize hn : ns.length - 2 = n at q hn6
  refine ⟨(by show 0 ≤ sizeLine; decide), fun Ll hLl => ?_⟩
  have t1 := same_new hLl (.lst [])
  refine ⟨_, rfl, a, ns, rfl, t1 _ _ ha, l2, fun In hIn => ?_⟩
  rw [hn]
  have t2 := same_new hIn (.lst ((ramp 1 n).map V.int))
  have eIn : (upd (upd H Ll (.lst [])) In (.lst ((ramp 1 n).map V.int))) In = some (.lst ((ramp 1 n).map V.int)) := upd_same
  have eLl : (upd (upd H Ll (.lst [])) In (.lst ((ramp 1 n).map V.int))) Ll = some (.lst []) := t2 _ _ upd_same
  have t12 := t1.trans t2
  generalize upd (upd H Ll (.lst [])) In (.lst ((ramp 1 n).map V.int)) = H0 at eIn eLl t12
  refine ⟨_, rfl, _, rfl, a, ns, rfl, t12 _ _ ha, by omega, fun d1 H1 s1 hd1 ed1 => ⟨d1, diffs ns, rfl, ed1, by rw [diffs_length]; omega, fun d2 H2 s2 hd2 ed2 => ?_⟩⟩
  have s12 := s1.trans s2
  have ld : (diffs (diffs ns)).length = n := by rw [diffs_length, diffs_length]; omega
  have eIn2 := s12 _ _ eIn
  have eLl2 := s12 _ _ eLl
  have nLIn : Ll ≠ In := fun z => by rw [z, upd_same] at hIn; cases hIn
  refine ⟨In, d2, _, _, rfl, SqL.of eIn2, SqL.of ed2, ?_⟩
  have nd2 : d2 ≠ Ll := fun z => by rw [z, s1 _ _ eLl] at hd2; cases hd2
  refine for_zip (K := K) (a := In) (b := d2) (xs := (ramp 1 n).map V.int) (ys := (diffs (diffs ns)).map V.int) (fun i σ H' => ∃ (v3 v4 : Option V) (ls : List Addr), σ = [some (.ref a), some (.ref Ll), some (.ref In), v3, v4, none] ∧ (∀ x o, H2 x = some o → x ≠ Ll → H' x = some o) ∧ H' Ll = some (.lst (ls.map V.ref)) ∧ RowsAt H' ls ((sqT n (bendQ ns)).take i) ∧ Ll ∉ ls ∧ ls.length = i) n (by rw [List.length_map, List.length_map, ramp_len]; omega) ⟨_, _, [], rfl, fun x o hx _ => hx, eLl2, .nil, (fun z => nomatch z), rfl⟩ (fun i σ H' _ ⟨_, _, _, _, k', _⟩ => ⟨SqL.of (k' _ _ eIn2 nLIn.symm), SqL.of (k' _ _ ed2 nd2)⟩) ?_ ?_
  · rintro i x y T1 σ H' hx hy hT ⟨v3, v4, ls, rfl, k', eL, rR, nL, ll⟩
    obtain ⟨u, rfl, hu⟩ := ints_at hx
    obtain ⟨v, rfl, hv⟩ := ints_at hy
    have hi : i < n := by have := (List.getElem?_eq_some_iff.mp hv).1; omega
    rw [ramp_at hi] at hu
    have eu : 1 + (i : Int) = u := by injection hu
    subst eu
    rw [bends_an (by omega)] at hv
    have ev : An ns i - 2 * An ns (i + 1) + An ns (i + 2) = v := by injection hv
    have tT := same_new hT (.tup [.int (1 + (i : Int)), .int v])
    refine ⟨T1, _, rfl, SqT.of upd_same, rfl, _, _, rfl, _, _, rfl, rfl, ?_⟩
    have eIn3 := tT _ _ (k' _ _ eIn2 nLIn.symm)
    have eL3 := tT _ _ eL
    have r3 := rR.same tT
    have k3 : ∀ x o, H2 x = some o → x ≠ Ll → (upd H' T1 (.tup [.int (1 + (i : Int)), .int v])) x = some o := fun x o h1 h2 => tT _ _ (k' x o h1 h2)
    generalize upd H' T1 (.tup [.int (1 + (i : Int)), .int v]) = H3 at eIn3 eL3 r3 k3
    refine ⟨_, rfl, .inl ⟨rfl, _, SqL.of eL3⟩, ?_⟩
    refine ⟨_, rfl, In, rfl, ⟨_, SqL.of eIn3⟩, fun D hD => ?_⟩
    refine lc_list (K := K) (a := In) (xs := (ramp 1 n).map V.int) (fun j H'' => Same H3 H'' ∧ H'' D = some (.lst (((List.range j).map fun k => putI k i).map V.int))) ⟨same_new hD _, upd_same⟩ (fun j H'' _ ⟨s', _⟩ => s'.seq (SqL.of eIn3)) ?_ ?_
    · rintro j z H'' hz0 ⟨s', e'⟩
      obtain ⟨u2, rfl, hu2⟩ := ints_at hz0
      have hj : j < n := by have := (List.getElem?_eq_some_iff.mp hu2).1; rw [ramp_len] at this; exact this
      rw [ramp_at hj] at hu2
      have eu2 : 1 + (j : Int) = u2 := by injection hu2
      subst eu2
      refine ⟨rfl, ?_⟩
      refine ⟨_, rfl, _, rfl, j, i, rfl, by omega, by omega, _, e', fill_len (k := 12) (by simp; omega) (by decide), put_new s' hD, ?_⟩
      rw [upd_same, List.range_succ, List.map_append, List.map_append]
      rfl
    rintro H4 ⟨s4, e4⟩
    rw [List.length_map, ramp_len] at e4
    refine ⟨_, rfl, _, rfl, (by show 1 ≤ sizeLine; decide), fun D1 hD1 => ?_⟩
    have t5 := same_new hD1 (.lst [.int (-v)])
    refine ⟨D, D1, _, _, rfl, rfl, t5 _ _ e4, upd_same, Nat.le_trans (show _ ≤ 100 by simp; omega) (by decide), fun D2' hD2 => ?_⟩
    have t6 := same_new hD2 (.lst (((List.range n).map fun k => putI k i).map V.int ++ [.int (-v)]))
    have erow : ((List.range n).map fun k => putI k i).map V.int ++ [.int (-v)] = ((List.range n).map (fun j => putI j i) ++ [bendQ ns i]).map V.int := by
      rw [List.map_append, ← ev]
      rfl
    have s46 := (s4.trans t5).trans t6
    have eD2 : (upd (upd H4 D1 (.lst [.int (-v)])) D2' (.lst (((List.range n).map fun k => putI k i).map V.int ++ [.int (-v)]))) D2' = some (.lst (((List.range n).map (fun j => putI j i) ++ [bendQ ns i]).map V.int)) := by rw [upd_same, erow]
    have eL6 := s46 _ _ eL3
    have nD2 : D2' ≠ Ll := fun z => by rw [z, t5 _ _ (s4 _ _ eL3)] at hD2; cases hD2
    have r6 := r3.same s46
    have k6 : ∀ x o, H2 x = some o → x ≠ Ll → (upd (upd H4 D1 (.lst [.int (-v)])) D2' (.lst (((List.range n).map fun k => putI k i).map V.int ++ [.int (-v)]))) x = some o := fun x o h1 h2 => s46 _ _ (k3 x o h1 h2)
    generalize upd (upd H4 D1 (.lst [.int (-v)])) D2' (.lst (((List.range n).map fun k => putI k i).map V.int ++ [.int (-v)])) = H6 at eD2 eL6 r6 k6
    refine ⟨Ll, _, _, rfl, rfl, eL6, Nat.lt_of_le_of_lt (show _ ≤ 100 by rw [List.length_map]; omega) (by decide), ?_⟩
    refine ⟨_, _, ls ++ [D2'], rfl, fun x o h1 h2 => by rw [upd_ne h2]; exact k6 x o h1 h2, by rw [upd_same, List.map_append]; rfl, ?_, fun z => ?_, by rw [List.length_append, ll]; rfl⟩
    · rw [take_next (sqT_at hi)]
      have r7 : RowsAt (upd H6 Ll (.lst (ls.map V.ref ++ [.ref D2']))) ls ((sqT n (bendQ ns)).take i) := r6.keep fun l' hl' o ho => by rw [upd_ne (fun z => nL (by rw [← z]; exact hl'))]; exact ho
      exact r7.snoc (by rw [upd_ne nD2]; exact eD2)
    · rcases List.mem_append.mp z with z | z
      · exact nL z
      · exact nD2 (List.mem_singleton.mp z).symm
  · rintro σ H3 ⟨v3, v4, ls, rfl, k', eL, rR, nL, ll⟩
    rw [List.take_of_length_le (by simp [sqT])] at rR
    have eIn3 := k' _ _ eIn2 nLIn.symm
    -- the names
    have nameL : ∀ (kd : Int) (S : Nat → Bool), (∀ i, (if S i = true then (0 : Int) else 1) = kd) → ∀ (rs : List Addr) (Hx : Hp) (j : Nat) (r : Addr), FracsAt Hx rs ((nmS n S).take j) → Hx r = some (.tup [.int kd, .int (1 + (j : Int))]) → j < n → FracsAt Hx (rs ++ [r]) ((nmS n S).take (j + 1)) := fun kd S hS rs Hx j r f er hj => by
      rw [take_next (nm_at hj)]
      exact fracs_snoc (by rw [hS]; exact er) f
    refine ⟨_, rfl, ?_⟩
    refine ⟨_, rfl, In, rfl, ⟨_, SqL.of eIn3⟩, fun N1 hN1 => ?_⟩
    refine lc_list (K := K) (a := In) (xs := (ramp 1 n).map V.int) (fun j H'' => Same H3 H'' ∧ ∃ rs : List Addr, H'' N1 = some (.lst (rs.map V.ref)) ∧ FracsAt H'' rs ((nmS n fun _ => false).take j)) ⟨same_new hN1 _, [], upd_same, .nil⟩ (fun j H'' _ ⟨s', _⟩ => s'.seq (SqL.of eIn3)) ?_ ?_
    · rintro j z H'' hz0 ⟨s', rs, e', f'⟩
      obtain ⟨u2, rfl, hu2⟩ := ints_at hz0
      have hj : j < n := by have := (List.getElem?_eq_some_iff.mp hu2).1; rw [ramp_len] at this; exact this
      rw [ramp_at hj] at hu2
      have eu2 : 1 + (j : Int) = u2 := by injection hu2
      subst eu2
      refine ⟨rfl, ?_⟩
      refine ⟨_, rfl, (by show 2 ≤ sizeLine; decide), fun r hr' => ?_⟩
      have sr := same_new hr' (.tup [.int 1, .int (1 + (j : Int))])
      have lr : rs.length ≤ 12 := by rw [Paired.length f', List.length_take]; omega
      refine ⟨_, sr _ _ e', by rw [List.length_map]; exact Nat.lt_of_le_of_lt lr (by decide), put_new (s'.trans sr) hN1, rs ++ [r], by rw [upd_same, List.map_append]; rfl, ?_⟩
      have f2 := nameL 1 (fun _ => false) (fun _ => rfl) rs _ j r (f'.same sr) upd_same hj
      rw [take_next (nm_at hj)] at f2 ⊢
      exact fracs_put (sr _ _ e') f2
    rintro H4 ⟨s4, bs, e4, f4⟩
    rw [List.length_map, ramp_len, List.take_of_length_le (by rw [nm_len]; exact Nat.le_refl _)] at f4
    refine ⟨_, rfl, In, rfl, ⟨_, SqL.of (s4 _ _ eIn3)⟩, fun N2 hN2 => ?_⟩
    refine lc_list (K := K) (a := In) (xs := (ramp 1 n).map V.int) (fun j H'' => Same H4 H'' ∧ ∃ rs : List Addr, H'' N2 = some (.lst (rs.map V.ref)) ∧ FracsAt H'' rs ((nmS n fun _ => true).take j)) ⟨same_new hN2 _, [], upd_same, .nil⟩ (fun j H'' _ ⟨s', _⟩ => s'.seq (SqL.of (s4 _ _ eIn3))) ?_ ?_
    · rintro j z H'' hz0 ⟨s', rs, e', f'⟩
      obtain ⟨u2, rfl, hu2⟩ := ints_at hz0
      have hj : j < n := by have := (List.getElem?_eq_some_iff.mp hu2).1; rw [ramp_len] at this; exact this
      rw [ramp_at hj] at hu2
      have eu2 : 1 + (j : Int) = u2 := by injection hu2
      subst eu2
      refine ⟨rfl, ?_⟩
      refine ⟨_, rfl, (by show 2 ≤ sizeLine; decide), fun r hr' => ?_⟩
      have sr := same_new hr' (.tup [.int 0, .int (1 + (j : Int))])
      have lr : rs.length ≤ 12 := by rw [Paired.length f', List.length_take]; omega
      refine ⟨_, sr _ _ e', by rw [List.length_map]; exact Nat.lt_of_le_of_lt lr (by decide), put_new (s'.trans sr) hN2, rs ++ [r], by rw [upd_same, List.map_append]; rfl, ?_⟩
      have f2 := nameL 0 (fun _ => true) (fun _ => rfl) rs _ j r (f'.same sr) upd_same hj
      rw [take_next (nm_at hj)] at f2 ⊢
      exact fracs_put (sr _ _ e') f2
    rintro H5 ⟨s5, as, e5, f5⟩
    rw [List.length_map, ramp_len, List.take_of_length_le (by rw [nm_len]; exact Nat.le_refl _)] at f5
    intro p dx hp hdx npd
    have w1 : Same H5 (upd H5 dx (.own p)) := same_new hdx _
    have hp' : (upd H5 dx (.own p)) p = none := by rw [upd_ne npd.symm]; exact hp
    have w2 := w1.trans (same_new hp' (.ins C dx []))
    have s35 := s4.trans s5
    have fit : Fit (sqT n (bendQ ns)) (n + 1) := by
      have si := sq_init n (bendQ ns)
      refine ⟨by rw [si.len]; omega, si.row, by omega, (si.bt (by omega) fun i hi => ?_).1⟩
      have e1 := hb _ (List.mem_of_getElem? (an_at (ns := ns) (j := i) (by omega)))
      have e2 := hb _ (List.mem_of_getElem? (an_at (ns := ns) (j := i + 1) (by omega)))
      have e3 := hb _ (List.mem_of_getElem? (an_at (ns := ns) (j := i + 2) (by omega)))
      unfold Bt at *
      unfold bendQ
      have p42 : (2 : Nat) ^ 42 = 4398046511104 := by decide
      have p60 : (2 : Nat) ^ 60 = 1152921504606846976 := by decide
      omega
    refine ⟨p, Ll, N1, N2, dx, ls, bs, as, sqT n (bendQ ns), _, _, n + 1, rfl, upd_same, w2 _ _ (s35 _ _ eL), (rR.same s35).same w2, fit, w2 _ _ (s5 _ _ e4), (f4.same s5).same w2, w2 _ _ e5, f5.same w2, fun B A' H' hB hA tab keep => ⟨rfl, ?_⟩⟩
    have SH2 : Same H H2 := t12.trans s12
    have S0 : ∀ x o, H x = some o → x ≠ p → x ≠ Ll → H' x = some o := fun x o hx n1 n2 => keep x o (w2 _ _ (s35 _ _ (k' x o (SH2 _ _ hx) n2))) n1
    have HLl : ∀ x o, H x = some o → x ≠ Ll := fun x o hx z => by rw [z, hLl] at hx; cases hx
    have up : ∀ x, (upd (upd H5 dx (.own p)) p (.ins C dx [])) x = none → H x = none := fun x hx => by
      cases z : H x with
      | none => rfl
      | some o => rw [w2 _ _ (s35 _ _ (k' x o (SH2 _ _ z) (HLl x o z)))] at hx; cases hx
    have Hp0 : H p = none := by
      cases z : H p with
      | none => rfl
      | some o => rw [s35 _ _ (k' p o (SH2 _ _ z) (HLl p o z))] at hp; cases hp
    exact q p B A' H' (fun x o hx => S0 x o hx (fun z => by rw [z, Hp0] at hx; cases hx) (HLl x o hx)) Hp0 (up _ hB) (up _ hA) tab
abbrev n_pow : List Str := ["table", "many", "amounts", "weights", "place", "bend"]
theorem sc_pow : FnScope n_pow ["table", "many"] (defScope sPOW) := ⟨rfl, rfl, rfl, by decide +kernel, rfl, by decide +kernel, by decide +kernel⟩
theorem ok_pow (F : Fun K "prices_of_weights" "prices_of_weights" sPOW f fd) (T : Tx mg) (TK : TTk K mg C) {tw : Tok} (mW : mg "WEIGHT" = some (.int 0 tw)) (GA : FnOk P w K mg base CX0 1 f1 d1 ["self"] (spAmt C)) (bA : Binds K d1 ["self"] []) (mA : Meth K C "amounts" f1) (GD : FnOk P w K mg base CX0 1 f2 d2 ["numbers"] spDiff) (bD : Binds K d2 ["numbers"] []) (kD : PySem.W.keepIn K (.ref f2) = true) (mD : mg "differences" = some (.ref f2)) : FnOk P w K mg base CX0 2 f fd ["table", "many"] (spPOW C) := by
  refine F.ok sc_pow (fun vs H Q E h => ?_) (fun cdv A outer s H vs Q E hr h => ?_)
  · obtain ⟨p, B, A, T', S, ms, b, n, m, rfl, _⟩ := h
    rfl
  obtain ⟨p, B, A', T', S, ms, b, n, m, rfl, tab, hl, hrow, h8, m8, m1, nm, q⟩ := h
  have hu := hu_ofR hr
  refine ⟨_, (pss_cons (ps_set (i := 2) sc_pow.nd rfl (Or.inr rfl) (pe_meth0 (pv 0) TK.cl mA GA hr bA .nil pass0))
    (pss_cons (ps_setLc (i := 3) (own := [("place", 4)]) (g := gName 4) (by rfl) sc_pow.nd rfl rfl (sw_true rfl rfl rfl (by decide +kernel)) (pi_range2 rfl T.range (pa_cons (pe_un un_neg pe_int) (pa_cons (pe_op op_add (pv 1) pe_int) pa_nil))) (blkOk_by (own := [("place", 4)]) (N := n_pow) (sc := defScope sPOW) (by decide +kernel)) (fun _ _ _ _ _ => pg_name (i := 4) sc_pow.nd rfl (Or.inl rfl)) (fun _ _ _ _ _ => pts_nil) (fun _ _ _ _ _ => pe_dget2 hu (pv 2) (pe_tup (pa_cons (pe_glob (v := .int 0) rfl mW ⟨_, rfl⟩) (pa_cons (pv 4) pa_nil))) pe_int ⟨by rfl, by rfl, by rfl, by rfl⟩))
    (pss_one (ps_ret (pe_lc (own := [("bend", 5)]) (g := gName 5) (by rfl) sc_pow.nd (pi_list (pe_call GD hr rfl mD kD bD .nil pass0 (pa_cons (pe_call GD hr rfl mD kD bD .nil pass0 (pa_cons (pv 3) pa_nil)) pa_nil))) (blkOk_by (own := [("bend", 5)]) (N := n_pow) (sc := defScope sPOW) (by decide +kernel)) (fun _ _ _ _ _ => pg_name (i := 5) sc_pow.nd rfl (Or.inl rfl)) (fun _ _ _ _ _ => pts_nil) (fun _ _ _ _ _ => pe_un un_neg (pv 5))))))), ?_⟩
  obtain ⟨dx, L, ls, bs, as, e1, _⟩ := tab.ob
  refine ⟨_, rfl, p, dx, _, rfl, e1, tf_no _ _ _ _ (by decide) (by decide) (by decide) (by decide), p, B, A', T', S, ms, b, n, rfl, tab, hl, hrow, h8, fun D kvs H1 s1 hD eD hv => ?_⟩
  refine ⟨_, rfl, _, rfl, _, _, rfl, rfl, _, _, rfl, ⟨by decide, by decide, by omega, by omega⟩, fun D2 hD2 => ?_⟩
  rw [show ((m : Int) + 1 - -1).toNat = m + 2 by omega]
  refine lc_range (lo := -1) (n := m + 2) (fun i H' => Same H1 H' ∧ H' D2 = some (.lst (((List.range i).map fun k => hz (wts S T' n) n k).map V.int))) ⟨same_new hD2 _, upd_same⟩ ?_ ?_
  · rintro i H' hi ⟨s', e'⟩
    refine ⟨rfl, ?_⟩
    refine ⟨_, rfl, D, rfl, .inr ⟨kvs, .inl (s' _ _ eD)⟩, _, rfl, (by show 2 ≤ sizeLine; decide), fun t ht => ?_⟩
    have t1 := same_new ht (.tup [.int 0, .int (-1 + (i : Int))])
    refine ⟨_, DGet.t (k := [Sum.inl 0, Sum.inl (-1 + (i : Int))]) (t1 _ _ (s' _ _ eD)) upd_same, ?_⟩
    have ev : (valV kvs [Sum.inl 0, Sum.inl (-1 + (i : Int))]).getD (.int 0) = .int (hz (wts S T' n) n i) := by
      rw [hv]
      unfold amtV
      by_cases c : 2 ≤ i ∧ i < n + 2
      · obtain ⟨k, rfl⟩ : ∃ k, i = k + 2 := ⟨i - 2, by omega⟩
        rw [hz_in (by omega)]
        unfold wts
        have e0 : (-1 + ((k + 2 : Nat) : Int) - 1).toNat = k := by omega
        rw [e0]
        cases hS : S k with
        | true =>
          rw [if_pos ⟨by omega, by omega, rfl⟩]
          rfl
        | false =>
          rw [if_neg (fun z => absurd z.2.2 (by decide))]
          rfl
      · rw [hz_out (by omega), if_neg (by omega)]
        rfl
    rw [ev]
    refine ⟨_, t1 _ _ e', fill_len (k := 12) (by simp; omega) (by decide), put_new (s'.trans t1) hD2, ?_⟩
    rw [upd_same, List.range_succ, List.map_append, List.map_append]
    rfl
  rintro H2 ⟨s2, e2⟩
  have lw : ((List.range (m + 2)).map fun k => hz (wts S T' n) n k).length = m + 2 := by simp
  generalize hw : ((List.range (m + 2)).map fun k => hz (wts S T' n) n k) = ws at e2 lw
  have aw : ∀ k, k < m + 2 → An ws k = hz (wts S T' n) n k := fun k hk => by
    rw [← hw]
    exact an_val' (by rw [List.getElem?_map, List.getElem?_range hk]; rfl)
  refine ⟨_, rfl, D2, ws, rfl, e2, by omega, fun d1 H3 s3 hd1 ed1 => ⟨d1, diffs ws, rfl, ed1, by rw [diffs_length]; omega, fun d2 H4 s4 hd2 ed2 => ⟨d2, rfl, ⟨_, SqL.of ed2⟩, fun D5 hD5 => ?_⟩⟩⟩
  have l2 : (diffs (diffs ws)).length = m := by rw [diffs_length, diffs_length]; omega
  refine lc_list (K := K) (a := d2) (xs := (diffs (diffs ws)).map V.int) (fun i H' => Same H4 H' ∧ H' D5 = some (.lst ((((diffs (diffs ws)).take i).map fun z => -z).map V.int))) ⟨same_new hD5 _, upd_same⟩ (fun i H' _ ⟨s', _⟩ => s'.seq (SqL.of ed2)) ?_ ?_
  · rintro i x H' hx ⟨s', e'⟩
    obtain ⟨u, rfl, hu'⟩ := ints_at hx
    have hi := idx_lt hu'
    refine ⟨rfl, ?_⟩
    refine ⟨_, rfl, _, rfl, _, e', fill_len (k := 12) (by rw [List.length_map, List.length_take]; omega) (by decide), put_new s' hD5, ?_⟩
    rw [upd_same, take_next hu', List.map_append, List.map_append]
    rfl
  rintro H6 ⟨s6, e6⟩
  rw [List.length_map, List.take_of_length_le (Nat.le_refl _)] at e6
  have S6 := (((s1.trans s2).trans s3).trans s4).trans s6
  refine q D5 ((diffs (diffs ws)).map fun z => -z) H6 S6 ?_ e6 (by rw [List.length_map]; exact l2) fun k hk => ?_
  · cases z : H D5 with
    | none => rfl
    | some o => rw [(((s1.trans s2).trans s3).trans s4) _ _ z] at hD5; cases hD5
  · rw [an_mapI (by omega), an_val' (bends_an (by omega)), aw k (by omega), aw (k + 1) (by omega), aw (k + 2) (by omega)]
    unfold Ob.D2
    rw [show 1 + k = k + 1 by omega, show 2 + k = k + 2 by omega]
    omega
end
end Pg

set_option maxHeartbeats 4000000
namespace Pg
open PySem PySem.Spec PyProof.Rows L2 Ob
section
variable {P : Program} {w : World} {K : PySem.W.Frag} {mg : Str → Option Value} {base : Heap} {f f1 f2 f3 f4 f5 f6 C c P1 Pt : Addr} {fd d1 d2 d3 d4 d5 d6 : FuncData}
abbrev n_ns : List Str := ["numbers", "table", "bottom", "gaps", "fractions", "number", "gap"]
theorem sc_ns : FnScope n_ns ["numbers"] (defScope sNS) := ⟨rfl, rfl, rfl, by decide +kernel, rfl, by decide +kernel, by decide +kernel⟩
theorem ok_ns (F : Fun K "nearest_by_squares" "nearest_by_squares" sNS f fd) (hc : fd.code = .ref c) (T : Tx mg) (TK : TTk K mg C) (CB : CodeB base c Pt) (BM : ∃ bm ob, BMod base mainGlobals mg bm ob) (zsum : mg "sum" = none)
    (GC : FnOk P w K mg base CX0 4 f1 d1 ["numbers"] (spCheck K P1)) (bC : Binds K d1 ["numbers"] []) (kC : PySem.W.keepIn K (.ref f1) = true) (mC : mg "check_row" = some (.ref f1))
    (GM : FnOk P w K mg base CX0 1 f2 d2 ["numbers"] spNotMany) (bM : Binds K d2 ["numbers"] []) (kM : PySem.W.keepIn K (.ref f2) = true) (mM : mg "check_not_many" = some (.ref f2))
    (GW : FnOk P w K mg base CX0 3 f3 d3 ["numbers"] (spTblW C)) (bW : Binds K d3 ["numbers"] []) (kW : PySem.W.keepIn K (.ref f3) = true) (mW : mg "table_of_weights" = some (.ref f3))
    (GR : FnOk P w K mg base CX0 3 f4 d4 ["table"] (spRight C)) (bR : Binds K d4 ["table"] []) (kR : PySem.W.keepIn K (.ref f4) = true) (mR : mg "put_right" = some (.ref f4))
    (GP : FnOk P w K mg base CX0 2 f5 d5 ["table", "many"] (spPOW C)) (bP : Binds K d5 ["table", "many"] []) (kP : PySem.W.keepIn K (.ref f5) = true) (mP : mg "prices_of_weights" = some (.ref f5))
    (GL : FnOk P w K mg base CX0 2 f6 d6 ["top", "bottom"] spLeastB) (bL : Binds K d6 ["top", "bottom"] []) (kL : PySem.W.keepIn K (.ref f6) = true) (mL : mg "in_least_numbers" = some (.ref f6)) : FnOk P w K mg base CX0 5 f fd ["numbers"] (spNS P1 Pt) := by
  refine okC F hc sc_ns (fun vs H Q E h => ?_) (fun A outer s H vs Q E hr h => ?_)
  · obtain ⟨_, _, a, ns, rfl, _⟩ := h
    rfl
  obtain ⟨hP1, hPt, a, ns, rfl, ha, l1, l2, hb, q⟩ := h
  have hr1 : Room 1 _ := hr.mono (by decide)
  have hr2 : Room 2 _ := hr.mono (by decide)
  have hr3 : Room 3 _ := hr.mono (by decide)
  have hr4 : Room 4 _ := hr.mono (by decide)
  refine ⟨_, (pss_cons (ps_expr (pe_call GC hr4 rfl mC kC bC .nil pass0 (pa_cons (pv 0) pa_nil)))
    (pss_cons (ps_expr (pe_call GM hr1 rfl mM kM bM .nil pass0 (pa_cons (pv 0) pa_nil)))
    (pss_cons (ps_set (i := 1) sc_ns.nd rfl (Or.inl rfl) (pe_call GW hr3 rfl mW kW bW .nil pass0 (pa_cons (pv 0) pa_nil)))
    (pss_cons (ps_expr (pe_call GR hr3 rfl mR kR bR .nil pass0 (pa_cons (pv 1) pa_nil)))
    (pss_cons (ps_set (i := 2) sc_ns.nd rfl (Or.inr rfl) (pe_fld (pv 1) rfl))
    (pss_cons (ps_set (i := 3) sc_ns.nd rfl (Or.inl rfl) (pe_call GP hr2 rfl mP kP bP .nil pass0 (pa_cons (pv 1) (pa_cons (pe_callB call_len_seq rfl T.len PySem.boot_len (pa_cons (pv 0) pa_nil)) pa_nil))))
    (pss_cons (ps_setLc (i := 4) (own := [("number", 5), ("gap", 6)]) (g := gTup K 2 (gCons (gName 5) (gCons (gName 6) gNil))) (by rfl) sc_ns.nd rfl rfl (sw_true rfl rfl rfl (by decide +kernel)) (pi_zip rfl T.zip (pa_cons (pv 0) (pa_cons (pv 3) pa_nil))) (blkOk_by (own := [("number", 5), ("gap", 6)]) (N := n_ns) (sc := defScope sNS) (by decide +kernel)) (fun _ _ _ _ _ => pg_tup rfl (pgs_cons (pg_name (i := 5) sc_ns.nd rfl (Or.inl rfl)) (pgs_cons (pg_name (i := 6) sc_ns.nd rfl (Or.inl rfl)) pgs_nil))) (fun _ _ _ _ _ => pts_nil) (fun _ _ _ _ _ => pe_call GL hr2 rfl mL kL bL .nil pass0 (pa_cons (pe_op op_sub (pe_op op_mulB (pv 5) (pv 2)) (pv 6)) (pa_cons (pv 2) pa_nil))))
    (pss_one (ps_ret (pe_tup (pa_cons (pe_call GL hr2 rfl mL kL bL .nil pass0 (pa_cons (pe_sumSq (c := c) (P := Pt) rfl ⟨CB, BM, rfl⟩ hr1 rfl zsum (pv 3) rfl rfl (by decide +kernel) (by decide +kernel) (by decide +kernel) rfl (fun _ => rfl)) (pa_cons (pe_op op_mulB (pv 2) (pv 2)) pa_nil))) (pa_cons (pv 4) pa_nil)))))))))))), ?_⟩
  refine ⟨_, rfl, hP1, a, ns, rfl, ha, l1, by omega, ?_⟩
  refine ⟨_, rfl, a, ns, rfl, ha, l2, ?_⟩
  refine ⟨_, rfl, a, ns, rfl, ha, l1, l2, hb, fun p B A' H1 s1 hp hB hA tab => ?_⟩
  have hq : ∀ i, i < ns.length - 2 → Bt 60 (bendQ ns i) := fun i hi => by
    have e1 := hb _ (List.mem_of_getElem? (an_at (ns := ns) (j := i) (by omega)))
    have e2 := hb _ (List.mem_of_getElem? (an_at (ns := ns) (j := i + 1) (by omega)))
    have e3 := hb _ (List.mem_of_getElem? (an_at (ns := ns) (j := i + 2) (by omega)))
    unfold Bt at *
    unfold bendQ
    have p42 : (2 : Nat) ^ 42 = 4398046511104 := by decide
    have p60 : (2 : Nat) ^ 60 = 1152921504606846976 := by decide
    omega
  have h6 : ns.length - 2 ≤ 6 := by omega
  generalize hn : ns.length - 2 = n at tab hq h6
  refine ⟨_, rfl, p, B, A', n, bendQ ns, rfl, tab, h6, hq, fun S T' b H2 sS b1 ok tab2 k2 => ?_⟩
  have s2 : Same H H2 := fun x o hx => k2 x o (s1 _ _ hx) (fun z => by rw [z, hp] at hx; cases hx) (fun z => by rw [z, hB] at hx; cases hx) (fun z => by rw [z, hA] at hx; cases hx)
  have small := sS.small h6 b1
  have b0 := sS.pos
  have bits := (sS.bt h6 hq).1
  have bb : Bt 41 b := by
    show b.natAbs < 2 ^ 41
    have e1 : (2 : Nat) ^ 41 = 2199023255552 := by decide
    have e2 : (2 : Int) ^ 40 = 1099511627776 := by decide
    omega
  obtain ⟨dx, L, ls, bs, as, e1, _⟩ := tab2.ob
  refine ⟨_, rfl, p, C, dx, _, _, rfl, e1, TK.cl, TK.no, tf_bottom _ _ _ _, ?_⟩
  have ha2 := s2 _ _ ha
  refine ⟨_, rfl, _, rfl, a, _, rfl, .inl (SqL.of ha2), p, B, A', T', S, _, b, n, (ns.map V.int).length, rfl, tab2, sS.len, sS.row, by omega, by rw [List.length_map]; omega, by rw [List.length_map]; omega, by rw [List.length_map]; omega, fun r3 gs H3 s3 hr3 er3 gl gv => ?_⟩
  rw [List.length_map] at gl gv
  have ha3 := s3 _ _ ha2
  refine ⟨_, rfl, _, rfl, a, r3, _, _, rfl, SqL.of ha3, SqL.of er3, fun D hD => ?_⟩
  have gbt : ∀ z ∈ gs, Bt 1000 z := fun z hz => by
    obtain ⟨i, hi⟩ := List.mem_iff_getElem?.mp hz
    have hil := (List.getElem?_eq_some_iff.mp hi).1
    have e := gv i (by omega)
    rw [an_val' hi] at e
    rw [e]
    exact hz_bt bits sS.row i
  refine lc_zip (K := K) (a := a) (b := r3) (xs := ns.map V.int) (ys := gs.map V.int) (fun i H' => Same H3 H' ∧ ∃ rs : List Addr, H' D = some (.lst (rs.map V.ref)) ∧ FracsAt H' rs ((List.range i).map fun k => (redT (An ns k * b - Ob.D2 (hz (wts S T' n) n) k) b, redB (An ns k * b - Ob.D2 (hz (wts S T' n) n) k) b))) ns.length (by rw [List.length_map, List.length_map]; omega) ⟨same_new hD _, [], upd_same, .nil⟩ (fun i H' _ ⟨s', _⟩ => ⟨s'.seq (SqL.of ha3), s'.seq (SqL.of er3)⟩) ?_ ?_
  · rintro i x y T1 H' hx hy hT ⟨s', rs, e', f'⟩
    obtain ⟨u, rfl, hu⟩ := ints_at hx
    obtain ⟨v, rfl, hv⟩ := ints_at hy
    have hi := idx_lt hu
    have tT := same_new hT (.tup [.int u, .int v])
    have eu := an_val' hu
    have ev := gv i hi
    rw [an_val' hv] at ev
    refine ⟨T1, _, rfl, SqT.of upd_same, rfl, _, _, rfl, _, _, rfl, rfl, rfl, ?_⟩
    refine ⟨_, rfl, _, rfl, _, _, rfl, rfl, ⟨42, 41, hb u (List.mem_of_getElem? hu), bb, by decide⟩, _, rfl, _, _, rfl, rfl, _, rfl, _, b, rfl, b0, bb.mono (by decide), fun r hr' => ?_⟩
    have sr := same_new hr' (.tup [.int (redT (u * b - v) b), .int (redB (u * b - v) b)])
    have sTr := tT.trans sr
    have lr : rs.length ≤ 12 := by rw [Paired.length f', List.length_map, List.length_range]; omega
    refine ⟨_, sTr _ _ e', by rw [List.length_map]; exact Nat.lt_of_le_of_lt lr (by decide), put_new (s'.trans sTr) hD, rs ++ [r], by rw [upd_same, List.map_append]; rfl, ?_⟩
    rw [List.range_succ, List.map_append]
    have f2 : FracsAt (upd (upd H' T1 (.tup [.int u, .int v])) r (.tup [.int (redT (u * b - v) b), .int (redB (u * b - v) b)])) (rs ++ [r]) (((List.range i).map fun k => (redT (An ns k * b - Ob.D2 (hz (wts S T' n) n) k) b, redB (An ns k * b - Ob.D2 (hz (wts S T' n) n) k) b)) ++ [(redT (An ns i * b - Ob.D2 (hz (wts S T' n) n) i) b, redB (An ns i * b - Ob.D2 (hz (wts S T' n) n) i) b)]) := by
      refine fracs_snoc ?_ (f'.same sTr)
      rw [upd_same, eu, ← ev]
    exact fracs_put (sTr _ _ e') f2
  rintro H4 ⟨s4, rs, e4, f4⟩
  have er4 := s4 _ _ er3
  have S4 := (s2.trans s3).trans s4
  have hD0 : H D = none := by
    cases z : H D with
    | none => rfl
    | some o => rw [s3 _ _ (s2 _ _ z)] at hD; cases hD
  refine ⟨_, rfl, r3, gs, rfl, SqL.of er4, fun z hz => (gbt z hz).mono (by decide), S4 _ _ hPt, ?_⟩
  have esum : (gs.map fun n => n * n).sum = sg (fun k => Ob.D2 (hz (wts S T' n) n) k * Ob.D2 (hz (wts S T' n) n) k) ns.length := by
    rw [sum_sg0 (fun n : Int => n * n) (fun k => Ob.D2 (hz (wts S T' n) n) k * Ob.D2 (hz (wts S T' n) n) k) gs fun i z hi => by
      have hil := (List.getElem?_eq_some_iff.mp hi).1
      have e := gv i (by omega)
      rw [an_val' hi] at e
      rw [e], gl]
  rw [esum]
  refine ⟨_, rfl, _, rfl, _, _, rfl, rfl, ⟨41, 41, bb, bb, by decide⟩, _, b * b, rfl, Int.mul_pos b0 b0, (bb.mul bb).mono (by decide), fun r1 hr1' => ?_⟩
  have t1 := same_new hr1' (.tup [.int (redT (sg (fun k => Ob.D2 (hz (wts S T' n) n) k * Ob.D2 (hz (wts S T' n) n) k) ns.length) (b * b)), .int (redB (sg (fun k => Ob.D2 (hz (wts S T' n) n) k * Ob.D2 (hz (wts S T' n) n) k) ns.length) (b * b))])
  refine ⟨_, rfl, (by show 2 ≤ sizeLine; decide), fun r hr' => ?_⟩
  have t2 := same_new hr' (.tup [.ref r1, .ref D])
  have free : ∀ x, (upd H4 r1 (.tup [.int (redT (sg (fun k => Ob.D2 (hz (wts S T' n) n) k * Ob.D2 (hz (wts S T' n) n) k) ns.length) (b * b)), .int (redB (sg (fun k => Ob.D2 (hz (wts S T' n) n) k * Ob.D2 (hz (wts S T' n) n) k) ns.length) (b * b))])) x = none → H x = none := fun x hx => by
    cases z : H x with
    | none => rfl
    | some o => rw [t1 _ _ (S4 _ _ z)] at hx; cases hx
  have h10 : H r1 = none := by
    cases z : H r1 with
    | none => rfl
    | some o => rw [S4 _ _ z] at hr1'; cases hr1'
  have near : NearSq ns b (Ob.D2 (hz (wts S T' n) n)) := by
    by_cases c : 2 ≤ ns.length
    · exact near_end (by omega) (fun i _ => rfl) sS ok
    · have n0 : n = 0 := by omega
      have z : ∀ k, Ob.D2 (hz (wts S T' n) n) k = 0 := fun k => by
        unfold Ob.D2
        rw [hz_out (by omega), hz_out (by omega), hz_out (by omega)]
        rfl
      have l : ns.length = 1 := by omega
      refine ⟨b0, ⟨?_, ?_, fun p hp => ?_⟩, fun j hj => absurd hj (by omega), ?_⟩
      · rw [l]
        simp [sg, z]
      · rw [l]
        simp [sg]
      · have : p = 0 := by omega
        subst this
        exact Int.le_refl _
      · rw [l]
        simp [sg, z]
  exact q r r1 D rs _ b (Ob.D2 (hz (wts S T' n) n)) ((S4.trans t1).trans t2) (free r hr') h10 hD0 upd_same near small (fun k _ => hz_bt bits sS.row k) (t2 _ _ upd_same) (t2 _ _ (t1 _ _ e4)) ((f4.same t1).same t2)
end
end Pg

set_option maxHeartbeats 4000000
namespace Pg
open PySem PySem.Spec PyProof.Rows L2 Ob
section
variable {P : Program} {w : World} {K : PySem.W.Frag} {mg : Str → Option Value} {base : Heap} {f g h : Addr} {fd gd hd : FuncData} {Pt c : Addr}
theorem scCellAt : FnScope ["script", "k"] ["script", "k"] (defScope sCellAt) := ⟨rfl, rfl, rfl, by decide +kernel, rfl, by decide +kernel, by decide +kernel⟩
theorem ok_cellat (F : Fun K "_law_cell_at" "_law_cell_at" sCellAt f fd) (T : Tx mg) : FnOk P w K mg base CX0 1 f fd ["script", "k"] (spCellAt K) := by
  refine F.ok scCellAt (fun vs H Q E h => ?_) (fun cdv A outer s H vs Q E hr h => ?_)
  · obtain ⟨a, ns, k, rfl, _⟩ := h
    rfl
  obtain ⟨a, ns, k, rfl, hS, h0, q⟩ := h
  refine ⟨_, pss_cons (ps_if (pt_cmpR op_lt (pv 1) (pe_callB call_len_seq rfl T.len PySem.boot_len (pa_cons (pv 0) pa_nil)) (nomark _)) (pss_one (ps_ret (pe_ix ix_list (pv 0) (pv 1) (fun _ _ => rfl)))) pss_nil)
    (pss_one (ps_ret pe_int)), ?_⟩
  refine ⟨_, rfl, _, rfl, a, _, rfl, .inl hS, _, _, rfl, rfl, _, rfl, ?_⟩
  refine ite2 (fun e => ?_) (fun e => ?_)
  · have hk : k < ((ns.map V.int).length : Nat) := of_decide_eq_true e
    rw [List.length_map] at hk
    have hkn : k.toNat < ns.length := by omega
    have ek : k = (k.toNat : Int) := by omega
    have hix : atI (ns.map V.int) k = some (.int ns[k.toNat]) := by
      have z := ix_int (ns := ns) (k := k.toNat) (List.getElem?_eq_getElem hkn)
      rw [← ek] at z
      exact z
    exact ⟨_, rfl, _, rfl, a, _, _, _, rfl, rfl, hS, hix, q _⟩
  · exact q _
theorem scStir : FnScope ["cell", "k", "one"] ["cell", "k"] (defScope sStir) := ⟨rfl, rfl, rfl, by decide +kernel, rfl, by decide +kernel, by decide +kernel⟩
theorem ok_stir (F : Fun K "_law_stir" "_law_stir" sStir f fd) : FnOk P w K mg base CX0 1 f fd ["cell", "k"] spStir := by
  refine F.ok scStir (fun vs H Q E h => ?_) (fun cdv A outer s H vs Q E hr h => ?_)
  · obtain ⟨x, k, rfl, _⟩ := h
    rfl
  obtain ⟨x, k, rfl, h0, h1, q⟩ := h
  refine ⟨_, pss_cons (ps_set (i := 2) scStir.nd rfl (Or.inl rfl) (pe_op op_mod (pe_op op_mul (pe_op op_add (pe_op op_add (pe_op op_mod (pv 0) pe_int) (pe_op op_mul pe_int (pv 1))) pe_int) pe_int) pe_int))
    (pss_cons (ps_set (i := 2) scStir.nd rfl (Or.inl rfl) (pe_op op_mod (pe_op op_mul (pv 2) (pv 2)) pe_int))
    (pss_one (ps_ret (pe_op op_fdivL (pe_op op_mod (pe_op op_mul (pe_op op_add (pv 2) (pe_op op_mul pe_int (pv 1))) pe_int) pe_int) pe_int)))), ?_⟩
  refine ⟨_, rfl, _, _, rfl, rfl, (by show (0 : Int) < 2147483629; decide), _, rfl, _, _, rfl, rfl, .inl ⟨by decide, by decide⟩, _, _, rfl, rfl, _, _, rfl, rfl, _, _, rfl, rfl, .inr ⟨by decide, by decide⟩, _, _, rfl, rfl, (by show (0 : Int) < 2147483647; decide), ?_⟩
  generalize (x % 2147483629 + 9973 * k + 5) * 48271 = y
  have b0 := Int.emod_nonneg y (show (2147483647 : Int) ≠ 0 by decide)
  have b1 := Int.emod_lt_of_pos y (show (0 : Int) < 2147483647 by decide)
  refine ⟨_, rfl, _, rfl, _, _, rfl, rfl, .inl ⟨by omega, by omega⟩, _, _, rfl, rfl, (by show (0 : Int) < 2147483587; decide), ?_⟩
  generalize y % 2147483647 * (y % 2147483647) = u
  refine ⟨_, rfl, _, rfl, _, _, rfl, rfl, .inl ⟨by decide, by decide⟩, _, _, rfl, rfl, _, _, rfl, rfl, .inr ⟨by decide, by decide⟩, _, _, rfl, rfl, (by show (0 : Int) < 2147483563; decide), _, _, rfl, rfl, ⟨by decide, by decide⟩, ?_⟩
  generalize (u % 2147483587 + 7919 * k) * 16807 = t
  exact q _ (by show 0 ≤ t % 2147483563 / 8; omega) (by show t % 2147483563 / 8 < 2147483648; omega)
abbrev nDeck : List Str := ["cell", "many", "found", "digits", "k", "number"]
theorem scDeck : FnScope nDeck ["cell", "many"] (defScope sDeck) := ⟨rfl, rfl, rfl, by decide +kernel, rfl, by decide +kernel, by decide +kernel⟩
theorem ok_deck (F : Fun K "_law_deck" "_law_deck" sDeck f fd) (T : Tx mg) (G : FnOk P w K mg base CX0 1 g gd ["cell", "k"] spStir) (bG : Binds K gd ["cell", "k"] []) (kG : PySem.W.keepIn K (.ref g) = true) (mG : mg "_law_stir" = some (.ref g)) : FnOk P w K mg base CX0 2 f fd ["cell", "many"] spDeck := by
  refine F.ok scDeck (fun vs H Q E h => ?_) (fun cdv A outer s H vs Q E hr h => ?_)
  · obtain ⟨x, m, rfl, _⟩ := h
    rfl
  obtain ⟨x, m, rfl, hm, q⟩ := h
  refine ⟨_, pss_cons (ps_set (i := 2) scDeck.nd rfl (Or.inl rfl) (pe_lst pa_nil))
    (pss_cons (ps_set (i := 3) scDeck.nd rfl (Or.inl rfl) (pv 0))
    (pss_cons (ps_for PassesOwn.never rfl (pi_range1 rfl T.range (pa_cons (pv 1) pa_nil)) (pg_name (i := 4) scDeck.nd rfl (Or.inl rfl))
      (pss_cons (ps_set (i := 5) scDeck.nd rfl (Or.inl rfl) (pe_call G hr rfl mG kG bG .nil pass0 (pa_cons (pv 0) (pa_cons (pv 4) pa_nil))))
      (pss_cons (ps_if (pt_cmpR op_ge (pv 0) (pe_op op_pow pe_int pe_int) (nomark _)) (pss_one (ps_set (i := 5) scDeck.nd rfl (Or.inl rfl) (pe_op op_mod (pv 3) pe_int))) pss_nil)
      (pss_cons (ps_set (i := 3) scDeck.nd rfl (Or.inl rfl) (pe_op op_fdivL (pv 3) pe_int))
      (pss_one (ps_expr (pe_bm PySem.F.plainAttrs_list PySem.F.slot_list_append PySem.F.type_list_append mt_append (pv 2) (pa_cons (pv 5) pa_nil))))))))
    (pss_one (ps_ret (pe_rev (pv 2) (pe_un un_neg pe_int)))))), ?_⟩
  refine ⟨(by show 0 ≤ sizeLine; decide), fun l hl => ?_⟩
  refine ⟨_, rfl, ?_⟩
  refine ⟨_, rfl, (m : Int), rfl, by omega, by omega, ?_⟩
  refine for_range (lo := 0) (n := m) (fun i σ H' => ∃ (v4 v5 : Option V) (dg : Int) (ds : List Int), σ = [some (.int x), some (.int (m : Int)), some (.ref l), some (.int dg), v4, v5] ∧ Same H H' ∧ H' l = some (.lst (ds.map V.int)) ∧ ds.length = i ∧ ∀ z ∈ ds, 0 ≤ z ∧ z < 2147483648) ⟨_, _, _, [], rfl, same_new hl _, upd_same, rfl, fun _ z => (nomatch z)⟩ ?_ ?_
  · rintro i σ H' hi ⟨v4, v5, dg, ds, rfl, s', e', rfl, hb⟩
    refine ⟨_, rfl, _, rfl, x, ((0 : Int) + (ds.length : Nat)), rfl, by omega, by omega, fun n n0 n1 => ?_⟩
    refine ⟨_, rfl, _, _, rfl, rfl, ⟨by decide, by decide, by decide⟩, _, _, rfl, rfl, _, rfl, ?_⟩
    refine ite2 (fun e => ?_) (fun e => ?_)
    · refine ⟨_, rfl, _, _, rfl, rfl, (by show (0 : Int) < 720720; decide), ?_⟩
      have b0 := Int.emod_nonneg dg (show (720720 : Int) ≠ 0 by decide)
      have b1 := Int.emod_lt_of_pos dg (show (0 : Int) < 720720 by decide)
      refine ⟨_, rfl, _, _, rfl, rfl, ⟨by decide, by decide⟩, ?_⟩
      exact ⟨_, rfl, .inl ⟨rfl, _, SqL.of e'⟩, _, rfl, l, _, _, rfl, rfl, e', fill_len (k := 1000) (by omega) (by decide), _, _, _, ds ++ [dg % 720720], rfl, put_new s' hl, by rw [upd_same, List.map_append]; rfl, by rw [List.length_append]; rfl, fun z hz => by
        rcases List.mem_append.mp hz with h | h
        · exact hb z h
        · rw [List.mem_singleton.mp h]; omega⟩
    · refine ⟨_, rfl, _, _, rfl, rfl, ⟨by decide, by decide⟩, ?_⟩
      exact ⟨_, rfl, .inl ⟨rfl, _, SqL.of e'⟩, _, rfl, l, _, _, rfl, rfl, e', fill_len (k := 1000) (by omega) (by decide), _, _, _, ds ++ [n], rfl, put_new s' hl, by rw [upd_same, List.map_append]; rfl, by rw [List.length_append]; rfl, fun z hz => by
        rcases List.mem_append.mp hz with h | h
        · exact hb z h
        · rw [List.mem_singleton.mp h]; omega⟩
  · rintro σ H' ⟨v4, v5, dg, ds, rfl, s', e', hl', hb⟩
    refine ⟨_, rfl, _, rfl, rfl, l, _, rfl, SqL.of e', fun r hr => ?_⟩
    refine q r _ (s'.trans (same_new hr _)) ?_ ⟨ds.reverse, ?_, Dk.rev ⟨hb, by omega⟩⟩
    · cases w : H r with
      | none => rfl
      | some u => rw [s' _ _ w] at hr; cases hr
    · rw [upd_same, List.map_reverse]
theorem scLNext : FnScope ["deck"] ["deck"] (defScope sLNext) := ⟨rfl, rfl, rfl, by decide +kernel, rfl, by decide +kernel, by decide +kernel⟩
theorem ok_next (F : Fun K "_law_next" "_law_next" sLNext f fd) : FnOk P w K mg base CX0 1 f fd ["deck"] spNext := by
  refine F.ok scLNext (fun vs H Q E h => ?_) (fun cdv A outer s H vs Q E hr h => ?_)
  · obtain ⟨d, rfl, _⟩ := h
    rfl
  obtain ⟨d, rfl, ⟨ds, hd, dk⟩, q⟩ := h
  refine ⟨_, pss_cons (ps_if (pt_cmpR (op_eqD hr.units) (pv 0) (pe_lst pa_nil) (nomark _)) (pss_one (ps_ret pe_int)) pss_nil)
    (pss_one (ps_ret (pe_bm0 PySem.F.plainAttrs_list PySem.F.slot_list_pop PySem.F.type_list_pop mt_pop (pv 0)))), ?_⟩
  refine ⟨_, rfl, (by show 0 ≤ sizeLine; decide), fun p hp => ?_⟩
  have s1 := same_new hp (.lst [])
  have e1 := s1 _ _ hd
  refine ⟨_, _, dp_ints e1, dp_ints (ns := []) upd_same, shaped_ints _, shaped_ints _, ?_⟩
  rw [eqv_nil]
  refine ⟨_, rfl, ?_⟩
  cases ds with
  | nil =>
    refine iteT ?_
    exact q 0 _ (by decide) (by decide) ((Drew.refl ⟨[], hd, Dk.nil⟩).new hp _)
  | cons z zs =>
    refine iteF ?_
    have hl : ((z :: zs).map V.int)[((z :: zs).map V.int).length - 1]? = some (.int ((z :: zs)[zs.length]'(by simp))) := by
      rw [List.getElem?_map, List.length_map]
      simp
    refine ⟨_, rfl, .inl ⟨rfl, _, SqL.of e1⟩, d, _, _, rfl, rfl, e1, hl, ?_⟩
    have zb := dk.1 _ (List.getElem_mem (l := z :: zs) (n := zs.length) (by simp))
    refine q _ _ zb.1 zb.2 ⟨fun b o e n => by rw [upd_ne n]; exact s1 _ _ e, (z :: zs).dropLast, ?_, dk.cut⟩
    rw [upd_same, List.map_dropLast]
theorem scFar : FnScope ["deck", "found", "turn"] ["deck"] (defScope sFar) := ⟨rfl, rfl, rfl, by decide +kernel, rfl, by decide +kernel, by decide +kernel⟩
theorem ok_far (F : Fun K "_law_far" "_law_far" sFar f fd) (T : Tx mg) (G : FnOk P w K mg base CX0 1 g gd ["deck"] spNext) (bG : Binds K gd ["deck"] []) (kG : PySem.W.keepIn K (.ref g) = true) (mG : mg "_law_next" = some (.ref g)) : FnOk P w K mg base CX0 2 f fd ["deck"] spFarD := by
  refine F.ok scFar (fun vs H Q E h => ?_) (fun cdv A outer s H vs Q E hr h => ?_)
  · obtain ⟨d, rfl, _⟩ := h
    rfl
  obtain ⟨d, rfl, hd, q⟩ := h
  refine ⟨_, pss_cons (ps_set (i := 1) scFar.nd rfl (Or.inl rfl) pe_int)
    (pss_cons (ps_for PassesOwn.never rfl (pi_range1 rfl T.range (pa_cons pe_int pa_nil)) (pg_name (i := 2) scFar.nd rfl (Or.inl rfl))
      (pss_one (ps_set (i := 1) scFar.nd rfl (Or.inl rfl) (pe_op op_add (pe_op op_mul (pv 1) (pe_op op_pow pe_int pe_int)) (pe_op op_mod (pe_call G hr rfl mG kG bG .nil pass0 (pa_cons (pv 0) pa_nil)) (pe_op op_pow pe_int pe_int))))))
    (pss_one (ps_ret (pv 1)))), ?_⟩
  refine ⟨_, rfl, ?_⟩
  refine ⟨by decide, by decide, ?_⟩
  refine for_range (lo := 0) (n := 2) (fun i σ H' => ∃ (v2 : Option V) (x : Int), σ = [some (.ref d), some (.int x), v2] ∧ Drew d H H' ∧ 0 ≤ x ∧ (i = 0 → x < 1) ∧ (i = 1 → x < 1000000) ∧ x < 1000000000000) ⟨_, 0, rfl, Drew.refl hd, by decide, fun _ => by decide, fun _ => by decide, by decide⟩ ?_ ?_
  · rintro i σ H' hi ⟨v2, x, rfl, w, x0, x1, x2, x3⟩
    refine ⟨_, rfl, _, _, rfl, rfl, ⟨by decide, by decide, by decide⟩, _, _, rfl, rfl, .inr ⟨by decide, by decide⟩, ?_⟩
    refine ⟨_, rfl, d, rfl, w.here, fun n H2 n0 n1 w2 => ?_⟩
    refine ⟨_, _, rfl, rfl, ⟨by decide, by decide, by decide⟩, _, _, rfl, rfl, (by show (0 : Int) < 10 ^ Int.toNat 6; decide), _, _, rfl, rfl, ?_⟩
    have e6 : (10 : Int) ^ Int.toNat 6 = 1000000 := by decide
    have b0 := Int.emod_nonneg n (show (1000000 : Int) ≠ 0 by decide)
    have b1 := Int.emod_lt_of_pos n (show (0 : Int) < 1000000 by decide)
    rw [e6]
    refine ⟨_, x * 1000000 + n % 1000000, rfl, w.trans w2, by omega, by omega, fun z => ?_, ?_⟩
    · have := x1 (by omega); omega
    · by_cases z : i = 0
      · have := x1 z; omega
      · have := x2 (by omega); omega
  · rintro σ H' ⟨v2, x, rfl, w, x0, x1, x2, x3⟩
    exact ⟨_, rfl, q x H' x0 x3 w⟩
end
end Pg

set_option maxHeartbeats 4000000
namespace Pg
open PySem PySem.Spec PyProof.Rows L2 Ob
section
variable {P : Program} {w : World} {K : PySem.W.Frag} {mg : Str → Option Value} {base : Heap} {f g h : Addr} {fd gd hd : FuncData} {Pt c : Addr}
abbrev nBent : List Str := ["deck", "many", "wide", "step", "number", "found", "place"]
theorem scBent : FnScope nBent ["deck", "many"] (defScope sBent) := ⟨rfl, rfl, rfl, by decide +kernel, rfl, by decide +kernel, by decide +kernel⟩
noncomputable def bentD (T : Tx mg) (G : FnOk P w K mg base CX0 1 g gd ["deck"] spNext) (bG : Binds K gd ["deck"] []) (kG : PySem.W.keepIn K (.ref g) = true) (mG : mg "_law_next" = some (.ref g)) (f : Addr) (cdv : Value) (A : Around) (outer : List Env) (s : Shared) (H : Hp) (E : XK)
    (hr : Room 1 (A.deeper (envOfC "_law_bent" (defScope sBent) s.heap.objs.size f cdv))) : { t : TS // WSs (cxOf CX0 P w K mg base nBent "_law_bent" (defScope sBent) f cdv A outer s H E).nox (defBody sBent) t } :=
  ⟨_, (wss_cons (ws_set (i := 2) scBent.nd rfl (Or.inl rfl) (we_ix ix_list (we_lst (wa_cons ⟨pe_int⟩ (wa_cons ⟨pe_int⟩ (wa_cons ⟨pe_int⟩ (wa_cons ⟨pe_int⟩ (wa_cons ⟨pe_op op_pow pe_int pe_int⟩ wa_nil rfl) rfl) rfl) rfl) rfl)) ⟨pe_op op_mod (pe_call G hr rfl mG kG bG .nil pass0 (pa_cons (pv 0) pa_nil)) pe_int⟩ (fun _ _ => rfl)) rfl (Or.inl rfl))
    (wss_cons ⟨ps_set (i := 3) scBent.nd rfl (Or.inl rfl) (pe_op op_sub (pe_op op_mod (pe_call G hr rfl mG kG bG .nil pass0 (pa_cons (pv 0) pa_nil)) (pe_op op_add (pe_op op_mul pe_int (pv 2)) pe_int)) (pe_op op_mul pe_int (pv 2)))⟩
    (wss_cons ⟨ps_set (i := 4) scBent.nd rfl (Or.inl rfl) (pe_op op_sub (pe_op op_mod (pe_call G hr rfl mG kG bG .nil pass0 (pa_cons (pv 0) pa_nil)) (pe_op op_add (pe_op op_mul pe_int (pv 2)) pe_int)) (pv 2))⟩
    (wss_cons ⟨ps_set (i := 5) scBent.nd rfl (Or.inl rfl) (pe_lst pa_nil)⟩
    (wss_cons ⟨ps_for PassesOwn.never rfl (pi_range1 rfl T.range (pa_cons (pv 1) pa_nil)) (pg_name (i := 6) scBent.nd rfl (Or.inl rfl))
      (pss_cons (ps_expr (pe_bm PySem.F.plainAttrs_list PySem.F.slot_list_append PySem.F.type_list_append mt_append (pv 5) (pa_cons (pv 4) pa_nil)))
      (pss_cons (ps_set (i := 4) scBent.nd rfl (Or.inl rfl) (pe_op op_add (pv 4) (pv 3)))
      (pss_one (ps_if (pt_cmpR op_eq (pe_op op_mod (pe_call G hr rfl mG kG bG .nil pass0 (pa_cons (pv 0) pa_nil)) pe_int) pe_int (nomark _)) (pss_one (ps_set (i := 3) scBent.nd rfl (Or.inl rfl) (pe_op op_add (pv 3) (pe_op op_mod (pe_call G hr rfl mG kG bG .nil pass0 (pa_cons (pv 0) pa_nil)) (pe_op op_add (pv 2) pe_int))))) pss_nil))))⟩
    (wss_one ⟨ps_ret (pv 5)⟩))))))⟩
end
end Pg

set_option maxHeartbeats 4000000
namespace Pg
open PySem PySem.Spec PyProof.Rows L2 Ob
section
variable {P : Program} {w : World} {K : PySem.W.Frag} {mg : Str → Option Value} {base : Heap} {f g h : Addr} {fd gd hd : FuncData} {Pt c : Addr}
theorem ok_bent (F : Fun K "_law_bent" "_law_bent" sBent f fd) (T : Tx mg) (G : FnOk P w K mg base CX0 1 g gd ["deck"] spNext) (bG : Binds K gd ["deck"] []) (kG : PySem.W.keepIn K (.ref g) = true) (mG : mg "_law_next" = some (.ref g)) : FnOk P w K mg base CX0 2 f fd ["deck", "many"] spBentD := by
  refine F.ok scBent (fun vs H Q E h => ?_) (fun cdv A outer s H vs Q E hr h => ?_)
  · obtain ⟨d, m, rfl, _⟩ := h
    rfl
  obtain ⟨d, m, rfl, hd, hm, q⟩ := h
  refine use_ws (bentD T G bG kG mG f cdv A outer s H E hr).2 ?_
  refine ⟨_, _, rfl, rfl, ⟨by decide, by decide, by decide⟩, (by show 5 ≤ sizeLine; decide), fun l hl => ?_⟩
  have g1 := Drew.of hd (same_new hl (.lst [.int 1, .int 2, .int 4, .int 40, .int ((10 : Int) ^ Int.toNat 6)]))
  have nl := hd.ne hl
  refine ⟨_, rfl, d, rfl, g1.here, fun n1 H1 a0 a1 w1 => ?_⟩
  have b0 := Int.emod_nonneg n1 (show (5 : Int) ≠ 0 by decide)
  have b1 := Int.emod_lt_of_pos n1 (show (0 : Int) < 5 by decide)
  have el : H1 l = some (.lst [.int 1, .int 2, .int 4, .int 40, .int ((10 : Int) ^ Int.toNat 6)]) := w1.keep l _ upd_same nl
  have e6 : (10 : Int) ^ Int.toNat 6 = 1000000 := by decide
  rw [e6] at el
  obtain ⟨wd, hwd, w0, w9⟩ : ∃ wd : Int, atI [V.int 1, V.int 2, V.int 4, V.int 40, V.int 1000000] (n1 % 5) = some (.int wd) ∧ 1 ≤ wd ∧ wd ≤ 1000000 := by
    generalize n1 % 5 = k at b0 b1
    have : k = 0 ∨ k = 1 ∨ k = 2 ∨ k = 3 ∨ k = 4 := by omega
    rcases this with rfl | rfl | rfl | rfl | rfl
    · exact ⟨1, rfl, by decide, by decide⟩
    · exact ⟨2, rfl, by decide, by decide⟩
    · exact ⟨4, rfl, by decide, by decide⟩
    · exact ⟨40, rfl, by decide, by decide⟩
    · exact ⟨1000000, rfl, by decide, by decide⟩
  have W1 := g1.trans w1
  refine ⟨_, _, rfl, rfl, (by show (0 : Int) < 5; decide), l, _, _, _, rfl, rfl, SqL.of el, hwd, ?_⟩
  refine ⟨_, rfl, d, rfl, W1.here, fun n2 H2 c0 c1 w2 => ?_⟩
  refine ⟨_, rfl, _, _, rfl, rfl, .inl ⟨by decide, by decide⟩, _, _, rfl, rfl, _, _, rfl, rfl, (by show 0 < 8 * wd + 1; omega), ?_⟩
  refine ⟨_, rfl, _, _, rfl, rfl, .inl ⟨by decide, by decide⟩, _, _, rfl, rfl, ?_⟩
  have d0 := Int.emod_nonneg n2 (show (8 * wd + 1 : Int) ≠ 0 by omega)
  have d1 := Int.emod_lt_of_pos n2 (show (0 : Int) < 8 * wd + 1 by omega)
  obtain ⟨st, hst, t0, t1⟩ : ∃ st : Int, n2 % (8 * wd + 1) - 6 * wd = st ∧ -8000000 ≤ st ∧ st ≤ 8000000 := ⟨_, rfl, by omega, by omega⟩
  have W2 := W1.trans w2
  refine ⟨_, rfl, d, rfl, W2.here, fun n3 H3 f0 f1 w3 => ?_⟩
  refine ⟨_, rfl, _, _, rfl, rfl, .inl ⟨by decide, by decide⟩, _, _, rfl, rfl, _, _, rfl, rfl, (by show 0 < 2 * wd + 1; omega), ?_⟩
  refine ⟨_, rfl, _, _, rfl, rfl, ?_⟩
  have h0 := Int.emod_nonneg n3 (show (2 * wd + 1 : Int) ≠ 0 by omega)
  have h1 := Int.emod_lt_of_pos n3 (show (0 : Int) < 2 * wd + 1 by omega)
  obtain ⟨nu, hnu, u0, u1⟩ : ∃ nu : Int, n3 % (2 * wd + 1) - wd = nu ∧ -1000000 ≤ nu ∧ nu ≤ 1000000 := ⟨_, rfl, by omega, by omega⟩
  have W3 := W2.trans w3
  refine ⟨(by show 0 ≤ sizeLine; decide), fun D hD => ?_⟩
  have nD : D ≠ d := W3.here.ne hD
  have HD : H D = none := W3.free hD
  refine ⟨_, rfl, (m : Int), rfl, by omega, by omega, ?_⟩
  refine for_range (lo := 0) (n := m) (fun i σ H' => ∃ (v6 : Option V) (a b : Int) (ns : List Int), σ = [some (.ref d), some (.int (m : Int)), some (.int wd), some (.int a), some (.int b), some (.ref D), v6] ∧ Drew d H H' ∧ H' D = some (.lst (ns.map V.int)) ∧ ns.length = i ∧ (∀ z ∈ ns, Bw 40 z) ∧ a.natAbs ≤ 8000000 + 1000001 * i ∧ b.natAbs ≤ 1000000 + 30000000 * i ∧ Conv (An (ns ++ [b])) (ns.length + 1) ∧ (1 ≤ ns.length → b - An ns (ns.length - 1) ≤ a)) ⟨_, st, nu, [], by rw [← hst, ← hnu]; rfl, W3.new hD _, upd_same, rfl, fun _ z => (nomatch z), by omega, by omega, conv_one nu, fun z => absurd z (by decide)⟩ ?_ ?_
  · rintro i σ H' hi ⟨v6, a, b, ns, rfl, w, eD, rfl, hb, ha, hbb, hcv, hst'⟩
    refine ⟨_, rfl, .inl ⟨rfl, _, SqL.of eD⟩, _, rfl, D, _, _, rfl, rfl, eD, fill_len (k := 12) (by omega) (by decide), ?_⟩
    refine ⟨_, rfl, _, rfl, _, _, rfl, rfl, ?_⟩
    have w4 := w.put (o := .lst (ns.map V.int ++ [.int b])) HD nD
    refine ⟨_, rfl, d, rfl, w4.here, fun n4 H4 k0 k1 w5 => ?_⟩
    have eD4 : H4 D = some (.lst ((ns ++ [b]).map V.int)) := by rw [List.map_append]; exact w5.keep D _ upd_same nD
    have hb4 : ∀ z ∈ ns ++ [b], Bw 40 z := fun z hz => by
      rcases List.mem_append.mp hz with h | h
      · exact hb z h
      · rw [List.mem_singleton.mp h]
        unfold Bw
        omega
    refine ⟨_, _, rfl, rfl, (by show (0 : Int) < 2; decide), rfl, _, rfl, ?_⟩
    have cv := bent_step hcv hst'
    have ll : (ns ++ [b]).length = ns.length + 1 := by rw [List.length_append]; rfl
    have la : An (ns ++ [b]) ns.length = b := an_last
    refine ite2 (fun e => ?_) (fun e => ?_)
    · refine ⟨_, rfl, _, rfl, d, rfl, w5.here, fun n5 H5 m0 m1 w6 => ?_⟩
      refine ⟨_, rfl, _, _, rfl, rfl, _, _, rfl, rfl, (by show 0 < wd + 1; omega), _, _, rfl, rfl, ?_⟩
      have y0 := Int.emod_nonneg n5 (show (wd + 1 : Int) ≠ 0 by omega)
      have y1 := Int.emod_lt_of_pos n5 (show (0 : Int) < wd + 1 by omega)
      exact ⟨_, a + n5 % (wd + 1), b + a, ns ++ [b], rfl, (w4.trans w5).trans w6, w6.keep D _ eD4 nD, by rw [List.length_append]; rfl, hb4, by omega, by omega, by rw [ll]; exact cv, fun _ => by rw [ll, show ns.length + 1 - 1 = ns.length by omega, la]; omega⟩
    · exact ⟨_, a, b + a, ns ++ [b], rfl, w4.trans w5, eD4, by rw [List.length_append]; rfl, hb4, by omega, by omega, by rw [ll]; exact cv, fun _ => by rw [ll, show ns.length + 1 - 1 = ns.length by omega, la]; omega⟩
  · rintro σ H' ⟨v6, a, b, ns, rfl, w, eD, hl', hb, ha, hbb, hcv, _⟩
    exact ⟨_, rfl, q D ns H' w HD eD hl' hb (bent_end hcv)⟩
end
end Pg

set_option maxHeartbeats 4000000
namespace Pg
open PySem PySem.Spec PyProof.Rows L2 Ob
section
variable {P : Program} {w : World} {K : PySem.W.Frag} {mg : Str → Option Value} {base : Heap} {f g h g3 : Addr} {fd gd hd d3 : FuncData} {Pt c : Addr}
abbrev nRw : List Str := ["deck", "most", "many", "way", "found", "small", "place", "more", "at", "number"]
theorem scRow : FnScope nRw ["deck", "most"] (defScope sRow) := ⟨rfl, rfl, rfl, by decide +kernel, rfl, by decide +kernel, by decide +kernel⟩
noncomputable def rowD (T : Tx mg) (G : FnOk P w K mg base CX0 1 g gd ["deck"] spNext) (bG : Binds K gd ["deck"] []) (kG : PySem.W.keepIn K (.ref g) = true) (mG : mg "_law_next" = some (.ref g))
    (GF : FnOk P w K mg base CX0 2 h hd ["deck"] spFarD) (bF : Binds K hd ["deck"] []) (kF : PySem.W.keepIn K (.ref h) = true) (mF : mg "_law_far" = some (.ref h))
    (GB : FnOk P w K mg base CX0 2 g3 d3 ["deck", "many"] spBentD) (bB : Binds K d3 ["deck", "many"] []) (kB : PySem.W.keepIn K (.ref g3) = true) (mB : mg "_law_bent" = some (.ref g3)) (f : Addr) (cdv : Value) (A : Around) (outer : List Env) (s : Shared) (H : Hp) (E : XK)
    (hr : Room 2 (A.deeper (envOfC "_law_row" (defScope sRow) s.heap.objs.size f cdv))) (hr1 : Room 1 (A.deeper (envOfC "_law_row" (defScope sRow) s.heap.objs.size f cdv))) : { t : TS // WSs (cxOf CX0 P w K mg base nRw "_law_row" (defScope sRow) f cdv A outer s H E).nox (defBody sRow) t } :=
  ⟨_, (wss_cons (ws_set (i := 2) scRow.nd rfl (Or.inl rfl) (we_ix ix_list (we_lst (wa_cons ⟨pe_op op_add pe_int (pe_op op_mod (pe_call G hr1 rfl mG kG bG .nil pass0 (pa_cons (pv 0) pa_nil)) (pv 1))⟩ (wa_cons ⟨pv 1⟩ (wa_cons ⟨pe_op op_add pe_int (pe_op op_mod (pe_call G hr1 rfl mG kG bG .nil pass0 (pa_cons (pv 0) pa_nil)) (pe_callB (call_min2 rfl) rfl T.min boot_min (pa_cons (pv 1) (pa_cons pe_int pa_nil))))⟩ wa_nil rfl) rfl) rfl)) ⟨pe_op op_mod (pe_call G hr1 rfl mG kG bG .nil pass0 (pa_cons (pv 0) pa_nil)) pe_int⟩ (fun _ _ => rfl)) rfl (Or.inl rfl))
    (wss_cons ⟨ps_set (i := 3) scRow.nd rfl (Or.inl rfl) (pe_op op_mod (pe_call G hr1 rfl mG kG bG .nil pass0 (pa_cons (pv 0) pa_nil)) pe_int)⟩
    (wss_cons ⟨ps_set (i := 4) scRow.nd rfl (Or.inl rfl) (pe_call GB hr rfl mB kB bB .nil pass0 (pa_cons (pv 0) (pa_cons (pv 2) pa_nil)))⟩
    (wss_cons (ws_set (i := 5) scRow.nd rfl (Or.inl rfl) (we_ix ix_list (we_lst (wa_cons ⟨pe_int⟩ (wa_cons ⟨pe_int⟩ (wa_cons ⟨pe_int⟩ (wa_cons ⟨pe_int⟩ wa_nil rfl) rfl) rfl) rfl)) ⟨pe_op op_mod (pe_call G hr1 rfl mG kG bG .nil pass0 (pa_cons (pv 0) pa_nil)) pe_int⟩ (fun _ _ => rfl)) rfl (Or.inl rfl))
    (wss_cons ⟨ps_for PassesOwn.never rfl (pi_range1 rfl T.range (pa_cons (pv 2) pa_nil)) (pg_name (i := 6) scRow.nd rfl (Or.inl rfl))
      (pss_cons (ps_set (i := 7) scRow.nd rfl (Or.inl rfl) (pe_op op_mod (pe_call G hr1 rfl mG kG bG .nil pass0 (pa_cons (pv 0) pa_nil)) (pv 5))) (pss_cons (ps_if (pt_cmpR op_eq (pv 3) pe_int (nomark _)) (pss_one (ps_asg (pe_op op_sub (pe_op op_add (pe_ix ix_list (pv 4) (pv 6) (fun _ _ => rfl)) (pv 7)) (pe_op op_fdivL (pv 5) pe_int)) (pg_sub (pv 4) (pv 6) set_list))) pss_nil) (pss_cons (ps_if (pt_cmpR op_eq (pv 3) pe_int (nomark _)) (pss_one (ps_asg (pe_op op_sub (pv 7) (pe_op op_fdivL (pv 5) pe_int)) (pg_sub (pv 4) (pv 6) set_list))) pss_nil) (pss_cons (ps_if (pt_cmpR op_eq (pv 3) pe_int (nomark _)) (pss_one (ps_asg (pe_ix ix_list (pe_lst (pa_cons (pv 7) (pa_cons (pe_op op_sub pe_int (pv 7)) pa_nil))) (pe_op op_mod (pv 6) pe_int) (fun _ _ => rfl)) (pg_sub (pv 4) (pv 6) set_list))) pss_nil) (pss_one (ps_if (pt_cmpR op_eq (pv 3) pe_int (nomark _)) (pss_one (ps_asg (pe_op op_mul (pe_call GF hr rfl mF kF bF .nil pass0 (pa_cons (pv 0) pa_nil)) (pe_ix ix_list (pe_lst (pa_cons pe_int (pa_cons (pe_un un_neg pe_int) pa_nil))) (pe_op op_mod (pe_call G hr1 rfl mG kG bG .nil pass0 (pa_cons (pv 0) pa_nil)) pe_int) (fun _ _ => rfl))) (pg_sub (pv 4) (pv 6) set_list))) pss_nil))))))⟩
    (wss_cons ⟨ps_if (pt_cmpR op_eq (pv 3) pe_int (nomark _)) (pss_cons (ps_set (i := 8) scRow.nd rfl (Or.inl rfl) (pe_op op_mod (pe_call G hr1 rfl mG kG bG .nil pass0 (pa_cons (pv 0) pa_nil)) (pv 2))) (pss_cons (ps_set (i := 7) scRow.nd rfl (Or.inl rfl) (pe_lst (pa_cons (pe_op op_mod (pe_call G hr1 rfl mG kG bG .nil pass0 (pa_cons (pv 0) pa_nil)) (pv 5)) (pa_cons (pe_op op_sub pe_int (pe_op op_mod (pe_call G hr1 rfl mG kG bG .nil pass0 (pa_cons (pv 0) pa_nil)) (pv 5))) (pa_cons (pe_op op_fdivL (pe_call GF hr rfl mF kF bF .nil pass0 (pa_cons (pv 0) pa_nil)) pe_int) pa_nil))))) (pss_one (ps_asg (pe_op op_add (pe_ix ix_list (pv 4) (pv 8) (fun _ _ => rfl)) (pe_ix ix_list (pv 7) (pe_op op_mod (pe_call G hr1 rfl mG kG bG .nil pass0 (pa_cons (pv 0) pa_nil)) pe_int) (fun _ _ => rfl))) (pg_sub (pv 4) (pv 8) set_list))))) pss_nil⟩
    (wss_cons ⟨ps_if (pt_cmpR op_eq (pv 3) pe_int (nomark _)) (pss_one (ps_setLc (i := 4) (own := [("number", 9)]) (g := gName 9) (by rfl) scRow.nd rfl rfl (sw_true rfl rfl rfl (by decide +kernel)) (pi_list (pv 4)) (blkOk_by (own := [("number", 9)]) (N := nRw) (sc := defScope sRow) (by decide +kernel)) (fun _ _ _ _ _ => pg_name (i := 9) scRow.nd rfl (Or.inl rfl)) (fun _ _ _ _ _ => pts_nil) (fun _ _ _ _ _ => pe_op op_sub pe_int (pv 9)))) pss_nil⟩
    (wss_one ⟨ps_ret (pv 4)⟩))))))))⟩
end
end Pg

set_option maxHeartbeats 4000000
namespace Pg
open PySem PySem.Spec PyProof.Rows L2 Ob
section
variable {P : Program} {w : World} {K : PySem.W.Frag} {mg : Str → Option Value} {base : Heap} {f g h g3 : Addr} {fd gd hd d3 : FuncData} {Pt c : Addr}
theorem ok_row (F : Fun K "_law_row" "_law_row" sRow f fd) (T : Tx mg) (G : FnOk P w K mg base CX0 1 g gd ["deck"] spNext) (bG : Binds K gd ["deck"] []) (kG : PySem.W.keepIn K (.ref g) = true) (mG : mg "_law_next" = some (.ref g))
    (GF : FnOk P w K mg base CX0 2 h hd ["deck"] spFarD) (bF : Binds K hd ["deck"] []) (kF : PySem.W.keepIn K (.ref h) = true) (mF : mg "_law_far" = some (.ref h))
    (GB : FnOk P w K mg base CX0 2 g3 d3 ["deck", "many"] spBentD) (bB : Binds K d3 ["deck", "many"] []) (kB : PySem.W.keepIn K (.ref g3) = true) (mB : mg "_law_bent" = some (.ref g3)) : FnOk P w K mg base CX0 3 f fd ["deck", "most"] spRowD := by
  refine F.ok scRow (fun vs H Q E h => ?_) (fun cdv A outer s H vs Q E hr h => ?_)
  · obtain ⟨d, m, rfl, _⟩ := h
    rfl
  obtain ⟨d, m, rfl, hd, hm1, hm, q⟩ := h
  have hr1 : Room 1 _ := hr.mono (by decide)
  refine use_ws (rowD T G bG kG mG GF bF kF mF GB bB kB mB f cdv A outer s H E hr hr1).2 ?_
  have hmin : 0 < (if (4 : Int) < (m : Int) then (4 : Int) else (m : Int)) ∧ (if (4 : Int) < (m : Int) then (4 : Int) else (m : Int)) ≤ m := by
    split <;> omega
  refine ⟨_, rfl, d, rfl, hd, fun n1 H1 a0 a1 w1 => ?_⟩
  have p0 := Int.emod_nonneg n1 (show (m : Int) ≠ 0 by omega)
  have p1 := Int.emod_lt_of_pos n1 (show (0 : Int) < m by omega)
  refine ⟨_, rfl, _, _, rfl, rfl, (by show (0 : Int) < m; omega), _, _, rfl, rfl, _, rfl, _, rfl, d, rfl, w1.here, fun n2 H2 b0 b1 w2 => ?_⟩
  have p2 := Int.emod_nonneg n2 (show (if (4 : Int) < (m : Int) then (4 : Int) else (m : Int)) ≠ 0 by omega)
  have p3 := Int.emod_lt_of_pos n2 hmin.1
  refine ⟨_, rfl, _, _, rfl, _, _, rfl, rfl, hmin.1, _, _, rfl, rfl, (by show 3 ≤ sizeLine; decide), fun l hl => ?_⟩
  have W2 := w1.trans w2
  have nl := W2.here.ne hl
  have g2 := W2.same (same_new hl (.lst [.int (1 + n1 % m), .int m, .int (1 + n2 % (if (4 : Int) < (m : Int) then (4 : Int) else (m : Int)))]))
  refine ⟨_, rfl, d, rfl, g2.here, fun n3 H3 c0 c1 w3 => ?_⟩
  have el : H3 l = some (.lst [.int (1 + n1 % m), .int m, .int (1 + n2 % (if (4 : Int) < (m : Int) then (4 : Int) else (m : Int)))]) := w3.keep l _ upd_same nl
  have c2 := Int.emod_nonneg n3 (show (3 : Int) ≠ 0 by decide)
  have c3 := Int.emod_lt_of_pos n3 (show (0 : Int) < 3 by decide)
  obtain ⟨v, hv, v1, v2⟩ : ∃ v : Nat, atI [V.int (1 + n1 % m), V.int m, V.int (1 + n2 % (if (4 : Int) < (m : Int) then (4 : Int) else (m : Int)))] (n3 % 3) = some (.int (v : Int)) ∧ 1 ≤ v ∧ v ≤ m := by
    have pick : ∀ z : Int, 1 ≤ z → z ≤ m → ∃ v : Nat, z = (v : Int) ∧ 1 ≤ v ∧ v ≤ m := fun z h1 h2 => ⟨z.toNat, by omega, by omega, by omega⟩
    generalize n3 % 3 = k at c2 c3
    have z : k = 0 ∨ k = 1 ∨ k = 2 := by omega
    rcases z with rfl | rfl | rfl
    · obtain ⟨v, e, h1, h2⟩ := pick (1 + n1 % m) (by omega) (by omega)
      exact ⟨v, by rw [← e]; rfl, h1, h2⟩
    · exact ⟨m, rfl, by omega, by omega⟩
    · obtain ⟨v, e, h1, h2⟩ := pick (1 + n2 % (if (4 : Int) < (m : Int) then (4 : Int) else (m : Int))) (by omega) (by omega)
      exact ⟨v, by rw [← e]; rfl, h1, h2⟩
  have W3 := g2.trans w3
  refine ⟨_, _, rfl, rfl, (by show (0 : Int) < 3; decide), l, _, _, _, rfl, rfl, SqL.of el, hv, ?_⟩
  refine ⟨_, rfl, d, rfl, W3.here, fun n4 H4 e0 e1 w4 => ?_⟩
  refine ⟨_, _, rfl, rfl, (by show (0 : Int) < 6; decide), ?_⟩
  obtain ⟨way, hway⟩ : ∃ way : Int, n4 % 6 = way := ⟨_, rfl⟩
  have W4 := W3.trans w4
  refine ⟨_, rfl, _, rfl, d, v, rfl, W4.here, by omega, fun D ns H5 w5 hD eD hlen hb _ => ?_⟩
  have W5 := W4.trans w5
  have HD : H D = none := W4.free hD
  have nD : D ≠ d := W4.here.ne hD
  refine ⟨(by show 4 ≤ sizeLine; decide), fun l2 hl2 => ?_⟩
  have g5 := W5.new hl2 (.lst [.int 2, .int 3, .int 7, .int 21])
  have eD5 := same_new hl2 (.lst [.int 2, .int 3, .int 7, .int 21]) _ _ eD
  have nl2 := W5.here.ne hl2
  refine ⟨_, rfl, d, rfl, g5.here, fun n6 H6 f0 f1 w6 => ?_⟩
  have el2 : H6 l2 = some (.lst [.int 2, .int 3, .int 7, .int 21]) := w6.keep l2 _ upd_same nl2
  have f2 := Int.emod_nonneg n6 (show (4 : Int) ≠ 0 by decide)
  have f3 := Int.emod_lt_of_pos n6 (show (0 : Int) < 4 by decide)
  obtain ⟨sm, hsm, s0, s1⟩ : ∃ sm : Int, atI [V.int 2, V.int 3, V.int 7, V.int 21] (n6 % 4) = some (.int sm) ∧ 2 ≤ sm ∧ sm ≤ 21 := by
    generalize n6 % 4 = k at f2 f3
    have z : k = 0 ∨ k = 1 ∨ k = 2 ∨ k = 3 := by omega
    rcases z with rfl | rfl | rfl | rfl
    · exact ⟨2, rfl, by decide, by decide⟩
    · exact ⟨3, rfl, by decide, by decide⟩
    · exact ⟨7, rfl, by decide, by decide⟩
    · exact ⟨21, rfl, by decide, by decide⟩
  refine ⟨_, _, rfl, rfl, (by show (0 : Int) < 4; decide), l2, _, _, _, rfl, rfl, SqL.of el2, hsm, ?_⟩
  have W6 := g5.trans w6
  have eD6 := w6.keep D _ eD5 nD
  refine ⟨_, rfl, (v : Int), rfl, by omega, by omega, ?_⟩
  refine for_range (lo := 0) (n := v) (fun i σ H' => ∃ (v6 v7 v8 v9 : Option V) (ns : List Int), σ = [some (.ref d), some (.int (m : Int)), some (.int (v : Int)), some (.int way), some (.ref D), some (.int sm), v6, v7, v8, v9] ∧ Drew d H H' ∧ H' D = some (.lst (ns.map V.int)) ∧ ns.length = v ∧ ∀ z ∈ ns, z.natAbs ≤ 1099511627776 + 64 * i)
    ⟨_, _, _, _, ns, by rw [← hway]; rfl, W6, eD6, hlen, fun z hz => by have h : z.natAbs < 2 ^ 40 := hb z hz; omega⟩ ?_ ?_
  · rintro i σ H' hi ⟨v6, v7, v8, v9, ns, rfl, w, eD, hl, hb⟩
    have hix : ∀ ns : List Int, ns.length = v → atI (ns.map V.int) (0 + (i : Int)) = some (.int (An ns i)) := fun ns h => at_an (by omega) (by omega)
    have hput : ∀ ns : List Int, ns.length = v → ixN (ns.map V.int).length (0 + (i : Int)) = some i := fun ns h => by
      rw [ixN_nat (by omega) (by rw [List.length_map]; omega)]
      congr 1
      omega
    have hAn : ∀ (ns : List Int) (B : Nat), ns.length = v → (∀ z ∈ ns, z.natAbs ≤ B) → (An ns i).natAbs ≤ B := fun ns B h hz => by
      unfold An
      rw [List.getD_eq_getElem?_getD, List.getElem?_eq_getElem (by omega)]
      exact hz _ (List.getElem_mem _)
    have hset : ∀ (ns : List Int) (x : Int) (B : Nat), (∀ z ∈ ns, z.natAbs ≤ B) → x.natAbs ≤ B → ∀ z ∈ ns.set i x, z.natAbs ≤ B := fun ns x B h hx z hz => by
      rcases List.mem_or_eq_of_mem_set hz with q | q
      · exact h z q
      · rw [q]
        exact hx
    refine ⟨_, rfl, d, rfl, w.here, fun n7 H7 a0 a1 w7 => ?_⟩
    refine ⟨_, rfl, _, _, rfl, rfl, (by show 0 < sm; omega), ?_⟩
    have m0 := Int.emod_nonneg n7 (show sm ≠ 0 by omega)
    have m1 := Int.emod_lt_of_pos n7 (show 0 < sm by omega)
    obtain ⟨more, hmore⟩ : ∃ more : Int, n7 % sm = more := ⟨_, rfl⟩
    rw [hmore] at m0 m1
    refine ⟨_, rfl, rfl, _, rfl, ?_⟩
    refine if_join (fun σ H' => ∃ ns : List Int, σ = [some (.ref d), some (.int (m : Int)), some (.int (v : Int)), some (.int way), some (.ref D), some (.int sm), some (.int (0 + (i : Int))), some (.int more), v8, v9] ∧ Drew d H H' ∧ H' D = some (.lst (ns.map V.int)) ∧ ns.length = v ∧ ∀ z ∈ ns, z.natAbs ≤ 1099511627776 + 64 * (i + 1))
      (fun _ => ⟨ns, by rw [← hmore]; rfl, w.trans w7, w7.keep D _ eD nD, hl, fun z hz => by have := hb z hz; omega⟩) (fun _ k => ?_) ?_
    · have eD7 := w7.keep D _ eD nD
      have := hAn ns _ hl hb
      refine ⟨_, rfl, _, rfl, D, _, _, _, rfl, rfl, SqL.of eD7, hix ns hl, _, rfl, _, _, rfl, rfl, _, rfl, _, _, rfl, rfl, ⟨by decide, by decide⟩, _, _, rfl, rfl, _, rfl, _, rfl, D, _, _, i, rfl, rfl, eD7, hput ns hl, ?_⟩
      refine k _ _ ⟨ns.set i (An ns i + more - sm / 2), by rw [← hmore]; rfl, (w.trans w7).put HD nD, by rw [upd_same, List.map_set, ← hmore], by rw [List.length_set]; exact hl, hset ns _ _ (fun z hz => by have := hb z hz; omega) (by omega)⟩
    rintro σ H8 ⟨ns8, rfl, w8, eD8, hl8, hb8⟩
    refine ⟨_, rfl, rfl, _, rfl, ?_⟩
    refine if_join (fun σ H' => ∃ ns : List Int, σ = [some (.ref d), some (.int (m : Int)), some (.int (v : Int)), some (.int way), some (.ref D), some (.int sm), some (.int (0 + (i : Int))), some (.int more), v8, v9] ∧ Drew d H H' ∧ H' D = some (.lst (ns.map V.int)) ∧ ns.length = v ∧ ∀ z ∈ ns, z.natAbs ≤ 1099511627776 + 64 * (i + 1))
      (fun _ => ⟨ns8, rfl, w8, eD8, hl8, hb8⟩) (fun _ k => ?_) ?_
    · refine ⟨_, rfl, _, rfl, _, _, rfl, rfl, ⟨by decide, by decide⟩, _, _, rfl, rfl, _, rfl, _, rfl, D, _, _, i, rfl, rfl, eD8, hput ns8 hl8, ?_⟩
      exact k _ _ ⟨ns8.set i (more - sm / 2), rfl, w8.put HD nD, by rw [upd_same, List.map_set], by rw [List.length_set]; exact hl8, hset ns8 _ _ hb8 (by omega)⟩
    rintro σ H9 ⟨ns9, rfl, w9, eD9, hl9, hb9⟩
    refine ⟨_, rfl, rfl, _, rfl, ?_⟩
    refine if_join (fun σ H' => ∃ ns : List Int, σ = [some (.ref d), some (.int (m : Int)), some (.int (v : Int)), some (.int way), some (.ref D), some (.int sm), some (.int (0 + (i : Int))), some (.int more), v8, v9] ∧ Drew d H H' ∧ H' D = some (.lst (ns.map V.int)) ∧ ns.length = v ∧ ∀ z ∈ ns, z.natAbs ≤ 1099511627776 + 64 * (i + 1))
      (fun _ => ⟨ns9, rfl, w9, eD9, hl9, hb9⟩) (fun _ k => ?_) ?_
    · refine ⟨_, rfl, _, rfl, _, _, rfl, rfl, (by show 2 ≤ sizeLine; decide), fun p hp => ?_⟩
      obtain ⟨x, hx, hx2⟩ : ∃ x : Int, atI [V.int more, V.int (0 - more)] ((0 + (i : Int)) % 2) = some (.int x) ∧ x.natAbs ≤ 1099511627776 := by
        have y0 := Int.emod_nonneg (0 + (i : Int)) (show (2 : Int) ≠ 0 by decide)
        have y1 := Int.emod_lt_of_pos (0 + (i : Int)) (show (0 : Int) < 2 by decide)
        generalize (0 + (i : Int)) % 2 = r at y0 y1
        have z : r = 0 ∨ r = 1 := by omega
        rcases z with rfl | rfl
        · exact ⟨more, rfl, by omega⟩
        · exact ⟨0 - more, rfl, by omega⟩
      have g9 := same_new hp (.lst [.int more, .int (0 - more)])
      refine ⟨_, rfl, _, _, rfl, rfl, (by show (0 : Int) < 2; decide), p, _, _, _, rfl, rfl, SqL.of upd_same, hx, _, rfl, _, rfl, D, _, _, i, rfl, rfl, g9 _ _ eD9, hput ns9 hl9, ?_⟩
      exact k _ _ ⟨ns9.set i x, rfl, (w9.same g9).put HD nD, by rw [upd_same, List.map_set], by rw [List.length_set]; exact hl9, hset ns9 _ _ hb9 (by omega)⟩
    rintro σ Ha ⟨nsa, rfl, wa, eDa, hla, hba⟩
    refine ⟨_, rfl, rfl, _, rfl, ?_⟩
    refine if_join (fun σ H' => ∃ ns : List Int, σ = [some (.ref d), some (.int (m : Int)), some (.int (v : Int)), some (.int way), some (.ref D), some (.int sm), some (.int (0 + (i : Int))), some (.int more), v8, v9] ∧ Drew d H H' ∧ H' D = some (.lst (ns.map V.int)) ∧ ns.length = v ∧ ∀ z ∈ ns, z.natAbs ≤ 1099511627776 + 64 * (i + 1))
      (fun _ => ⟨nsa, rfl, wa, eDa, hla, hba⟩) (fun _ k => ?_) ?_
    · refine ⟨_, rfl, d, rfl, wa.here, fun nb Hb b0 b1 wb => ?_⟩
      refine ⟨_, rfl, (by show 2 ≤ sizeLine; decide), fun p hp => ?_⟩
      have Wb := wa.trans wb
      have np := Wb.here.ne hp
      have gb := Wb.same (same_new hp (.lst [.int 1, .int (-1)]))
      have eDb := same_new hp (.lst [.int 1, .int (-1)]) _ _ (wb.keep D _ eDa nD)
      refine ⟨_, rfl, d, rfl, gb.here, fun nc Hc c0 c1 wc => ?_⟩
      have ep : Hc p = some (.lst [.int 1, .int (-1)]) := wc.keep p _ upd_same np
      obtain ⟨x, hx, hx2⟩ : ∃ x : Int, atI [V.int 1, V.int (-1)] (nc % 2) = some (.int x) ∧ (x = 1 ∨ x = -1) := by
        have y0 := Int.emod_nonneg nc (show (2 : Int) ≠ 0 by decide)
        have y1 := Int.emod_lt_of_pos nc (show (0 : Int) < 2 by decide)
        generalize nc % 2 = r at y0 y1
        have z : r = 0 ∨ r = 1 := by omega
        rcases z with rfl | rfl
        · exact ⟨1, rfl, .inl rfl⟩
        · exact ⟨-1, rfl, .inr rfl⟩
      have eDc := wc.keep D _ eDb nD
      refine ⟨_, _, rfl, rfl, (by show (0 : Int) < 2; decide), p, _, _, _, rfl, rfl, SqL.of ep, hx, _, _, rfl, rfl, .inr (by rcases hx2 with rfl | rfl <;> constructor <;> decide), _, rfl, _, rfl, D, _, _, i, rfl, rfl, eDc, hput nsa hla, ?_⟩
      exact k _ _ ⟨nsa.set i (nb * x), rfl, (gb.trans wc).put HD nD, by rw [upd_same, List.map_set], by rw [List.length_set]; exact hla, hset nsa _ _ hba (by rcases hx2 with rfl | rfl <;> omega)⟩
    rintro σ Hd ⟨nsd, rfl, wd, eDd, hld, hbd⟩
    exact ⟨_, _, _, _, nsd, rfl, wd, eDd, hld, hbd⟩
  · rintro σ H' ⟨v6, v7, v8, v9, ns, rfl, w, eD, hl, hb⟩
    have hb2 : ∀ z ∈ ns, z.natAbs ≤ 2199023255552 := fun z hz => by have := hb z hz; omega
    refine ⟨_, rfl, rfl, _, rfl, ?_⟩
    refine if_join (fun σ H' => ∃ (v6 v7 v8 v9 : Option V) (ns : List Int), σ = [some (.ref d), some (.int (m : Int)), some (.int (v : Int)), some (.int way), some (.ref D), some (.int sm), v6, v7, v8, v9] ∧ Drew d H H' ∧ H' D = some (.lst (ns.map V.int)) ∧ ns.length = v ∧ ∀ z ∈ ns, z.natAbs ≤ 4398046511103)
      (fun _ => ⟨_, _, _, _, ns, rfl, w, eD, hl, fun z hz => by have := hb2 z hz; omega⟩) (fun _ k => ?_) ?_
    · refine ⟨_, rfl, d, rfl, w.here, fun nb Hb b0 b1 wb => ?_⟩
      refine ⟨_, rfl, _, _, rfl, rfl, (by show (0 : Int) < v; omega), ?_⟩
      have y0 := Int.emod_nonneg nb (show (v : Int) ≠ 0 by omega)
      have y1 := Int.emod_lt_of_pos nb (show (0 : Int) < v by omega)
      obtain ⟨j, hj⟩ : ∃ j : Nat, nb % (v : Int) = (j : Int) := ⟨(nb % (v : Int)).toNat, by omega⟩
      have hjv : j < v := by omega
      have hixj : ∀ ns : List Int, ns.length = v → atI (ns.map V.int) (j : Int) = some (.int (An ns j)) := fun ns h => at_an rfl (by omega)
      have hputj : ∀ ns : List Int, ns.length = v → ixN (ns.map V.int).length (j : Int) = some j := fun ns h => by
        rw [ixN_nat (by omega) (by rw [List.length_map]; omega)]
        rfl
      refine ⟨_, rfl, d, rfl, wb.here, fun nc Hc c0 c1 wc => ?_⟩
      have z0 := Int.emod_nonneg nc (show sm ≠ 0 by omega)
      have z1 := Int.emod_lt_of_pos nc (show 0 < sm by omega)
      refine ⟨_, rfl, _, _, rfl, rfl, (by show 0 < sm; omega), _, rfl, d, rfl, wc.here, fun nd Hd d0 d1 wd => ?_⟩
      have z2 := Int.emod_nonneg nd (show sm ≠ 0 by omega)
      have z3 := Int.emod_lt_of_pos nd (show 0 < sm by omega)
      refine ⟨_, rfl, _, _, rfl, rfl, (by show 0 < sm; omega), _, _, rfl, rfl, _, rfl, d, rfl, wd.here, fun ne He e0 e1 we => ?_⟩
      refine ⟨_, _, rfl, rfl, ⟨by decide, by decide⟩, (by show 3 ≤ sizeLine; decide), fun p hp => ?_⟩
      have We := ((w.trans wb).trans wc).trans (wd.trans we)
      have np := We.here.ne hp
      have ge := We.same (same_new hp (.lst [.int (nc % sm), .int (0 - nd % sm), .int (ne / 2)]))
      have eDe := same_new hp (.lst [.int (nc % sm), .int (0 - nd % sm), .int (ne / 2)]) _ _ (we.keep D _ (wd.keep D _ (wc.keep D _ (wb.keep D _ eD nD) nD) nD) nD)
      refine ⟨_, rfl, _, by rw [← hj]; rfl, D, _, _, _, rfl, rfl, SqL.of eDe, hixj ns hl, _, rfl, _, rfl, d, rfl, ge.here, fun nf Hf f0 f1 wf => ?_⟩
      have ep : Hf p = some (.lst [.int (nc % sm), .int (0 - nd % sm), .int (ne / 2)]) := wf.keep p _ upd_same np
      obtain ⟨x, hx, hx2⟩ : ∃ x : Int, atI [V.int (nc % sm), V.int (0 - nd % sm), V.int (ne / 2)] (nf % 3) = some (.int x) ∧ x.natAbs ≤ 1099511627776 := by
        have y0 := Int.emod_nonneg nf (show (3 : Int) ≠ 0 by decide)
        have y1 := Int.emod_lt_of_pos nf (show (0 : Int) < 3 by decide)
        generalize nf % 3 = r at y0 y1
        have z : r = 0 ∨ r = 1 ∨ r = 2 := by omega
        rcases z with rfl | rfl | rfl
        · exact ⟨_, rfl, by omega⟩
        · exact ⟨_, rfl, by omega⟩
        · exact ⟨_, rfl, by omega⟩
      have eDf := wf.keep D _ eDe nD
      have hAn : (An ns j).natAbs ≤ 2199023255552 := by
        unfold An
        rw [List.getD_eq_getElem?_getD, List.getElem?_eq_getElem (by omega)]
        exact hb2 _ (List.getElem_mem _)
      refine ⟨_, _, rfl, rfl, (by show (0 : Int) < 3; decide), p, _, _, _, rfl, rfl, SqL.of ep, hx, _, _, rfl, rfl, _, rfl, _, by rw [← hj]; rfl, D, _, _, j, rfl, rfl, eDf, hputj ns hl, ?_⟩
      refine k _ _ ⟨_, _, _, _, ns.set j (An ns j + x), rfl, (ge.trans wf).put HD nD, by rw [upd_same, List.map_set], by rw [List.length_set]; exact hl, fun z hz => ?_⟩
      rcases List.mem_or_eq_of_mem_set hz with q | q
      · have := hb2 z q
        omega
      · rw [q]
        omega
    rintro σ Ha ⟨u6, u7, u8, u9, nsa, rfl, wa, eDa, hla, hba⟩
    have fin : ∀ (D : Addr) (ns : List Int) (H' : Hp), Drew d H H' → H D = none → H' D = some (.lst (ns.map V.int)) → ns.length = v → (∀ z ∈ ns, z.natAbs ≤ 4398046511103) → Q (.ref D) H' := fun D ns H' w h e hl hb =>
      q D ns H' w h e (by omega) (by omega) (fun z hz => by have := hb z hz; unfold Bw; omega)
    refine ⟨_, rfl, rfl, _, rfl, ?_⟩
    refine ite2 (fun e => ?_) (fun e => ?_)
    · refine ⟨_, rfl, D, rfl, ⟨_, SqL.of eDa⟩, fun R hR => ?_⟩
      have nR := wa.here.ne hR
      have DR : D ≠ R := fun z => by rw [← z, eDa] at hR; cases hR
      refine lc_list (K := K) (a := D) (xs := nsa.map V.int) (fun i H' => Same Ha H' ∧ H' R = some (.lst (((nsa.take i).map fun z => 0 - z).map V.int))) ⟨same_new hR _, by rw [upd_same]; rfl⟩ (fun i H' _ ⟨s', _⟩ => s'.seq (SqL.of eDa)) ?_ ?_
      · rintro i x H' hx ⟨s', e'⟩
        obtain ⟨n, rfl, hn⟩ := ints_at hx
        have hi := idx_lt hn
        refine ⟨rfl, ?_⟩
        refine ⟨_, rfl, _, _, rfl, rfl, _, e', fill_len (k := 12) (by rw [List.length_map, List.length_take]; omega) (by decide), ?_, ?_⟩
        · intro b o e
          rw [upd_ne (ne_of_none e hR)]
          exact s' b o e
        · rw [upd_same, take_next hn, List.map_append, List.map_append]
          rfl
      · rintro H' ⟨s', e'⟩
        rw [List.length_map, List.take_of_length_le (Nat.le_refl _)] at e'
        exact ⟨_, rfl, fin R _ H' (wa.same s') (wa.free hR) e' (by rw [List.length_map]; exact hla) (fun z hz => by
          obtain ⟨y, hy, rfl⟩ := List.mem_map.mp hz
          have := hba y hy
          omega)⟩
    · exact ⟨_, rfl, fin D nsa Ha wa HD eDa hla hba⟩
end
end Pg

set_option maxHeartbeats 4000000
namespace Pg
open PySem PySem.Spec PyProof.Rows L2 Ob
section
variable {P : Program} {w : World} {K : PySem.W.Frag} {mg : Str → Option Value} {base : Heap} {f g h : Addr} {fd gd hd : FuncData} {Pt c : Addr}
theorem scLWhole : FnScope ["thing"] ["thing"] (defScope sLWhole) := ⟨rfl, rfl, rfl, by decide +kernel, rfl, by decide +kernel, by decide +kernel⟩
theorem ok_lwhole (F : Fun K "_law_whole" "_law_whole" sLWhole f fd) (T : Tx mg) : FnOk P w K mg base CX0 1 f fd ["thing"] spWholeI := by
  refine F.ok scLWhole (fun vs H Q E h => ?_) (fun cdv A outer s H vs Q E hr h => ?_)
  · obtain ⟨n, rfl, _⟩ := h
    rfl
  obtain ⟨n, rfl, q⟩ := h
  refine ⟨_, pss_one (ps_ret (pe_and (pe_callB call_isi rfl T.isi boot_isi (pa_cons (pv 0) (pa_cons (pe_bltn (v := .ty "int") rfl T.int Ob.boot_int rfl) pa_nil)))
    (pe_one (L2.pe_not (pe_callB call_isi rfl T.isi boot_isi (pa_cons (pv 0) (pa_cons (pe_bltn (v := .ty "bool") rfl T.bool Ob.boot_bool rfl) pa_nil))))))), ?_⟩
  exact ⟨_, rfl, _, "int", "int", true, rfl, .int n, rfl, true, rfl, iteT ⟨_, rfl, _, "int", "bool", false, rfl, .int n, rfl, false, rfl, q⟩⟩
theorem scLDiv : FnScope ["one", "other"] ["one", "other"] (defScope sLDiv) := ⟨rfl, rfl, rfl, by decide +kernel, rfl, by decide +kernel, by decide +kernel⟩
theorem ok_ldiv (F : Fun K "_law_divisor" "_law_divisor" sLDiv f fd) (zabs : mg "abs" = none) : FnOk P w K mg base CX0 1 f fd ["one", "other"] spLDiv := by
  refine F.ok scLDiv (fun vs H Q E h => ?_) (fun cdv A outer s H vs Q E hr h => ?_)
  · obtain ⟨i, j, rfl, _⟩ := h
    rfl
  obtain ⟨i, j, rfl, hj, q⟩ := h
  refine ⟨_, pss_cons (ps_while PassesOwn.never (pt_cmpR op_ne (pv 1) pe_int (nomark _)) (pss_one (ps_par (i := 0) (j := 1) (by rfl) scLDiv.nd rfl rfl (by decide) rfl rfl (pa_cons (pv 1) (pa_cons (pe_op op_mod (pv 0) (pv 1)) pa_nil)) (by rfl))))
    (pss_one (ps_ret (pe_callB call_abs rfl zabs boot_abs' (pa_cons (pv 0) pa_nil)))), ?_⟩
  refine while_by (fun σ H' => ∃ x y : Int, σ = [some (.int x), some (.int y)] ∧ 0 ≤ y ∧ Int.gcd x y = Int.gcd i j ∧ H' = H) (fun σ _ => match σ with | [_, some (.int y)] => y.toNat | _ => 0) ⟨_, _, rfl, by omega, rfl, rfl⟩ ?_ ?_
  · rintro σ H' ⟨x, y, rfl, hy, hg, rfl⟩
    refine ⟨_, rfl, rfl, _, rfl, ?_⟩
    by_cases e : y = 0
    · subst e
      rw [decide_eq_true (rfl : V.int 0 = V.int 0)]
      refine iteF ⟨_, rfl, _, rfl, ?_⟩
      have ex : (if x < 0 then -x else x) = (Int.gcd i j : Int) := by
        rw [← hg, Int.gcd_zero]
        split <;> omega
      show Q (.int (if x < 0 then -x else x)) H'
      rw [ex]
      exact q
    · rw [decide_eq_false (fun z => e (by injection z) : ¬ V.int y = V.int 0)]
      refine iteT ?_
      have hy0 : 0 < y := by omega
      refine ⟨_, rfl, _, rfl, _, rfl, _, _, rfl, rfl, hy0, _, _, rfl, ?_⟩
      refine ⟨⟨y, x % y, rfl, Int.emod_nonneg _ e, (gcd_turn' hy0).trans hg, rfl⟩, ?_⟩
      have h1 := Int.emod_lt_of_pos x hy0
      have h2 := Int.emod_nonneg x e
      show (x % y).toNat < y.toNat
      omega
  · rintro σ H' Q1 Q2 hQ ⟨v, e1, h2, k, e2, h3⟩
    exact ⟨v, e1, h2, k, e2, hQ _ _ h3⟩
theorem scLIsFr : FnScope ["thing"] ["thing"] (defScope sLIsFr) := ⟨rfl, rfl, rfl, by decide +kernel, rfl, by decide +kernel, by decide +kernel⟩
theorem ok_lisfr (F : Fun K "_law_is_fraction" "_law_is_fraction" sLIsFr f fd) (T : Tx mg) (zt : mg "tuple" = none) (G : FnOk P w K mg base CX0 1 g gd ["thing"] spWholeI) (bG : Binds K gd ["thing"] []) (kG : PySem.W.keepIn K (.ref g) = true) (mG : mg "_law_whole" = some (.ref g))
    (GD : FnOk P w K mg base CX0 1 h hd ["one", "other"] spLDiv) (bD : Binds K hd ["one", "other"] []) (kD : PySem.W.keepIn K (.ref h) = true) (mD : mg "_law_divisor" = some (.ref h)) : FnOk P w K mg base CX0 2 f fd ["thing"] spLIsFr := by
  refine F.ok scLIsFr (fun vs H Q E h => ?_) (fun cdv A outer s H vs Q E hr h => ?_)
  · obtain ⟨r, t, b, rfl, _⟩ := h
    rfl
  obtain ⟨r, t, b, rfl, hr', hb, hg, q⟩ := h
  refine ⟨_, pss_cons (ps_if (PW.pt (pw_or (pt_not (pt_val (pe_callB call_isi rfl T.isi boot_isi (pa_cons (pv 0) (pa_cons (pe_bltn (v := .ty "tuple") rfl zt boot_tuple2 rfl) pa_nil))))) (pw_or (pt_cmp (pc_neI (pe_callB call_len_seq rfl T.len PySem.boot_len (pa_cons (pv 0) pa_nil)) pe_int))
      (pw_or (pt_not (pt_val (pe_call G hr rfl mG kG bG .nil pass0 (pa_cons (pe_ix ix_tup (pv 0) pe_int (fun _ _ => rfl)) pa_nil)))) (pw_or1 (pt_not (pt_val (pe_call G hr rfl mG kG bG .nil pass0 (pa_cons (pe_ix ix_tup (pv 0) pe_int (fun _ _ => rfl)) pa_nil))))))))) (pss_one (ps_ret pe_bl)) pss_nil)
    (pss_one (ps_ret (pe_and (pe_cmp (pc_gt (pe_ix ix_tup (pv 0) pe_int (fun _ _ => rfl)) pe_int)) (pe_one (pe_cmp (pc_eqI (pe_call GD hr rfl mD kD bD .nil pass0 (pa_cons (pe_ix ix_tup (pv 0) pe_int (fun _ _ => rfl)) (pa_cons (pe_ix ix_tup (pv 0) pe_int (fun _ _ => rfl)) pa_nil))) pe_int)))))), ?_⟩
  have S : SqT K H r [.int t, .int b] := SqT.of hr'
  refine ⟨_, rfl, _, "tuple", "tuple", true, rfl, .tup hr', rfl, true, rfl, iteF ⟨_, rfl, r, _, rfl, .inr S, _, _, rfl, rfl, _, rfl, iteF ?_⟩⟩
  refine ⟨_, rfl, r, _, 0, _, rfl, rfl, S, rfl, t, rfl, true, rfl, iteF ⟨_, rfl, r, _, 1, _, rfl, rfl, S, rfl, b, rfl, true, rfl, iteF ?_⟩⟩
  refine ⟨_, rfl, r, _, 1, _, rfl, rfl, S, rfl, _, _, rfl, rfl, ?_⟩
  refine ⟨_, rfl, ?_⟩
  refine ite2 (fun _ => ?_) (fun e => absurd (decide_eq_true hb) e)
  refine ⟨_, rfl, r, _, 0, _, rfl, rfl, S, rfl, _, rfl, r, _, 1, _, rfl, rfl, S, rfl, t, b, rfl, hb, _, _, rfl, rfl, ?_⟩
  show Q (.bl (decide ((Int.gcd t b : Int) = 1))) H
  rw [hg]
  exact q
theorem scFraction : FnScope ["top", "bottom", "part"] ["top", "bottom"] (defScope sFraction) := ⟨rfl, rfl, rfl, by decide +kernel, rfl, by decide +kernel, by decide +kernel⟩
theorem ok_lfrac (F : Fun K "_law_fraction" "_law_fraction" sFraction f fd) (G : FnOk P w K mg base CX0 1 g gd ["one", "other"] spLDiv) (bG : Binds K gd ["one", "other"] []) (kG : PySem.W.keepIn K (.ref g) = true) (mG : mg "_law_divisor" = some (.ref g)) : FnOk P w K mg base CX0 2 f fd ["top", "bottom"] spLeastB := by
  refine F.ok scFraction (fun vs H Q E h => ?_) (fun cdv A outer s H vs Q E hr h => ?_)
  · obtain ⟨t, b, rfl, _⟩ := h
    rfl
  obtain ⟨t, b, rfl, hb, hb2, q⟩ := h
  refine ⟨_, pss_cons (ps_set (i := 2) scFraction.nd rfl (Or.inl rfl) (pe_call G hr rfl mG kG bG .nil pass0 (pa_cons (pv 0) (pa_cons (pv 1) pa_nil))))
    (pss_one (ps_ret (pe_tup (pa_cons (pe_op op_fdivB (pv 0) (pv 2)) (pa_cons (pe_op op_fdivB (pv 1) (pv 2)) pa_nil))))), ?_⟩
  have g0 := gcd_pos (t := t) hb
  have g1 := gcd_le (t := t) hb
  have g2 : Bt 4000 (Int.gcd t b : Int) := hb2.le (by omega)
  refine ⟨_, rfl, _, rfl, t, b, rfl, hb, ?_⟩
  exact ⟨_, rfl, _, rfl, _, _, rfl, rfl, ⟨g0, 4000, g2, by decide⟩, _, rfl, _, rfl, _, _, rfl, rfl, ⟨g0, 4000, g2, by decide⟩, (by show 2 ≤ sizeLine; decide), fun r hr' => q r hr'⟩
end
end Pg

set_option maxHeartbeats 4000000
namespace Pg
open PySem PySem.Spec PyProof.Rows L2 Ob
section
variable {P : Program} {w : World} {K : PySem.W.Frag} {mg : Str → Option Value} {base : Heap} {f g h : Addr} {fd gd hd : FuncData} {Pt c : Addr}
abbrev nOneB : List Str := ["fractions", "bottom", "one"]
theorem scOneB : FnScope nOneB ["fractions"] (defScope sOneB) := ⟨rfl, rfl, rfl, by decide +kernel, rfl, by decide +kernel, by decide +kernel⟩
theorem ok_oneb (F : Fun K "_law_one_bottom" "_law_one_bottom" sOneB f fd) (G : FnOk P w K mg base CX0 1 g gd ["one", "other"] spLDiv) (bG : Binds K gd ["one", "other"] []) (kG : PySem.W.keepIn K (.ref g) = true) (mG : mg "_law_divisor" = some (.ref g)) : FnOk P w K mg base CX0 2 f fd ["fractions"] spOneBW := by
  refine F.ok scOneB (fun vs H Q E h => ?_) (fun cdv A outer s H vs Q E hr h => ?_)
  · obtain ⟨a, rs, ts, rfl, _⟩ := h
    rfl
  obtain ⟨a, rs, ts, rfl, L, q⟩ := h
  refine ⟨_, pss_cons (ps_set (i := 1) scOneB.nd rfl (Or.inr rfl) pe_int)
    (pss_cons (ps_for PassesOwn.never rfl (pi_list (pv 0)) (pg_name (i := 2) scOneB.nd rfl (Or.inl rfl))
      (pss_one (ps_set (i := 1) scOneB.nd rfl (Or.inr rfl) (pe_op op_mulB (pv 1) (pe_op op_fdivB (pe_ix ix_tup (pv 2) pe_int (fun _ _ => rfl)) (pe_call G hr rfl mG kG bG .nil pass0 (pa_cons (pv 1) (pa_cons (pe_ix ix_tup (pv 2) pe_int (fun _ _ => rfl)) pa_nil))))))))
    (pss_one (ps_ret (pe_tup (pa_cons (pv 1) (pa_cons (pe_lc (own := [("one", 2)]) (g := gName 2) (by rfl) scOneB.nd (pi_list (pv 0)) (blkOk_by (own := [("one", 2)]) (N := nOneB) (sc := defScope sOneB) (by decide +kernel)) (fun _ _ _ _ _ => pg_name (i := 2) scOneB.nd rfl (Or.inl rfl)) (fun _ _ _ _ _ => pts_nil)
      (fun _ _ _ _ _ => pe_op op_mulB (pe_ix (r := rIxT K) ix_tup (pv 2) pe_int (fun _ _ => rfl)) (pe_op op_fdivB (pv 1) (pe_ix (r := rIxT K) ix_tup (pv 2) pe_int (fun _ _ => rfl))))) pa_nil)))))), ?_⟩
  have l1 : rs.length = ts.length := Paired.length L.f
  have mo := L.most
  refine ⟨_, rfl, a, rfl, ⟨_, SqL.of L.l⟩, ?_⟩
  refine for_list (K := K) (a := a) (xs := rs.map V.ref) (fun i σ H' => H' = H ∧ ∃ (v : Option V) (S : Int), σ = [some (.ref a), some (.int S), v] ∧ 0 < S ∧ (∀ t ∈ ts.take i, t.2 ∣ S) ∧ Bt (40 * i + 1) S) ⟨rfl, _, _, rfl, by decide, fun t ht => by simp at ht, by unfold Bt; decide⟩ (fun i σ H' _ ⟨e, _⟩ => e ▸ SqL.of L.l) ?_ ?_
  · rintro i x σ H' hx ⟨rfl, v, S, rfl, hS0, hSd, hSb⟩
    obtain ⟨r, t, rfl, ht, hrt, fr⟩ := L.at hx
    have fp := fr.pos
    have fb := fr.small
    have hi := idx_lt ht
    have g0 := gcd_pos (t := S) fp
    have gt : Bt 4000 (Int.gcd S t.2 : Int) := by
      have z : (Int.gcd S t.2 : Int) ≤ t.2 := gcd_le (t := S) fp
      exact (show Bt 40 t.2 by unfold Bt; omega).mono (by decide) |>.le (by omega)
    have e3 : Bt 40 (t.2 / (Int.gcd S t.2 : Int)) := (show Bt 40 t.2 by unfold Bt; omega).le (Int.natAbs_ediv_le_natAbs _ _)
    refine ⟨_, rfl, _, rfl, r, _, _, _, rfl, rfl, SqT.of hrt, rfl, _, rfl, _, rfl, r, _, _, _, rfl, rfl, SqT.of hrt, rfl, S, t.2, rfl, fp, _, _, rfl, rfl, ⟨g0, 4000, gt, by decide⟩, _, _, rfl, rfl, ⟨40 * i + 1, 40, hSb, e3, by omega⟩, ?_⟩
    have gS : (Int.gcd S t.2 : Int) ∣ S := Int.gcd_dvd_left ..
    have gT : (Int.gcd S t.2 : Int) ∣ t.2 := Int.gcd_dvd_right ..
    have e : S * (t.2 / (Int.gcd S t.2 : Int)) = S / (Int.gcd S t.2 : Int) * t.2 := by
      rw [← Int.mul_ediv_assoc _ gT, Int.mul_ediv_assoc' _ gS]
    have st := lcm_step (N := S * t.2) hS0 fp ⟨t.2, rfl⟩ ⟨S, by rw [Int.mul_comm]⟩
    refine ⟨rfl, _, S * (t.2 / (Int.gcd S t.2 : Int)), rfl, by rw [e]; exact st.1, fun u hu => ?_, (hSb.mul e3).mono (by omega)⟩
    rw [take_next ht, List.mem_append] at hu
    rw [e]
    rcases hu with hu | hu
    · exact Int.dvd_trans (hSd u hu) st.2.2.1
    · rw [List.mem_singleton.mp hu]
      exact st.2.2.2
  · rintro σ H' ⟨rfl, v, S, rfl, hS0, hSd, hSb⟩
    rw [List.length_map, l1] at hSd hSb
    rw [List.take_of_length_le (Nat.le_refl _)] at hSd
    have hS : Over2 ts S := ⟨hS0, hSd, hSb.mono (by omega)⟩
    refine ⟨_, rfl, _, rfl, a, rfl, ⟨_, SqL.of L.l⟩, fun D hD => ?_⟩
    refine lc_list (K := K) (a := a) (xs := rs.map V.ref) (fun i H2 => Same H' H2 ∧ H2 D = some (.lst (((ts.take i).map (overT S)).map V.int))) ⟨same_new hD _, by rw [upd_same]; rfl⟩ (fun i H2 _ ⟨s', _⟩ => s'.seq (SqL.of L.l)) ?_ ?_
    · rintro i x H2 hx ⟨s', e'⟩
      obtain ⟨r, t, rfl, ht, hrt, fr⟩ := L.at hx
      have fb := fr.small
      have fp := fr.pos
      have ft : Bt 90 t.1 := fr.top
      have hi := idx_lt ht
      have bt : Bt 40 t.2 := by unfold Bt; omega
      have bS : Bt 500 (S / t.2) := hS.bt.le (Int.natAbs_ediv_le_natAbs _ _)
      refine ⟨rfl, ?_⟩
      refine ⟨_, rfl, r, _, 0, _, rfl, rfl, SqT.of (s' _ _ hrt), rfl, _, rfl, _, rfl, r, _, 1, _, rfl, rfl, SqT.of (s' _ _ hrt), rfl, _, _, rfl, rfl, ⟨fp, 40, bt, by decide⟩, _, _, rfl, rfl, ⟨90, 500, ft, bS, by decide⟩, _, e', fill_len (k := 12) (by rw [List.length_map, List.length_take]; omega) (by decide), ?_, ?_⟩
      · intro b o e
        rw [upd_ne (ne_of_none e hD)]
        exact s' b o e
      · rw [upd_same, take_next ht, List.map_append, List.map_append]
        rfl
    · rintro H2 ⟨s', e'⟩
      rw [List.length_map, l1, List.take_of_length_le (Nat.le_refl _)] at e'
      refine ⟨(by show 2 ≤ sizeLine; decide), fun p hp => ?_⟩
      have g2 := same_new hp (.tup [.int S, .ref D])
      exact q S p D _ hS (s'.trans g2) (s'.free hp) upd_same (g2 _ _ e')
abbrev nLSh : List Str := ["tops", "place", "k", "top"]
theorem scLShow : FnScope nLSh ["tops"] (defScope sLShow) := ⟨rfl, rfl, rfl, by decide +kernel, rfl, by decide +kernel, by decide +kernel⟩
theorem ok_lshow (F : Fun K "_law_show" "_law_show" sLShow f fd) (T : Tx mg) (zsum : mg "sum" = none) : FnOk P w K mg base CX0 1 f fd ["tops"] spLShow := by
  refine F.ok scLShow (fun vs H Q E h => ?_) (fun cdv A outer s H vs Q E hr h => ?_)
  · obtain ⟨a, xs, rfl, _⟩ := h
    rfl
  obtain ⟨a, xs, rfl, ha, hl, hxb, q⟩ := h
  refine ⟨_, pss_cons (ps_if (PW.pt (pw_or (pt_cmp (pc_neI (pe_callB (cr_sum rfl) rfl zsum Ob.boot_sum' (pa_cons (pv 0) pa_nil)) pe_int)) (pw_or1 (pt_cmp (pc_neI (pe_callB (cr_sum rfl) rfl zsum Ob.boot_sum' (pa_cons
      (pe_lc (own := [("k", 2), ("top", 3)]) (g := gTup K 2 (gCons (gName 2) (gCons (gName 3) gNil))) (by rfl) scLShow.nd (pi_enum rfl T.enum (pa_cons (pv 0) pa_nil)) (blkOk_by (own := [("k", 2), ("top", 3)]) (N := nLSh) (sc := defScope sLShow) (by decide +kernel))
        (fun _ _ _ _ _ => pg_tup rfl (pgs_cons (pg_name (i := 2) scLShow.nd rfl (Or.inl rfl)) (pgs_cons (pg_name (i := 3) scLShow.nd rfl (Or.inl rfl)) pgs_nil))) (fun _ _ _ _ _ => pts_nil) (fun _ _ _ _ _ => pe_op op_mulB (pv 2) (pv 3))) pa_nil)) pe_int))))) (pss_one (ps_ret pe_bl)) pss_nil)
    (pss_cons (ps_for PassesOwn.never rfl (pi_range2 rfl T.range (pa_cons pe_int (pa_cons (pe_op op_sub (pe_callB call_len_seq rfl T.len PySem.boot_len (pa_cons (pv 0) pa_nil)) pe_int) pa_nil))) (pg_name (i := 1) scLShow.nd rfl (Or.inr rfl))
      (pss_one (ps_if (pt_cmp (pc_gt (pe_callB (cr_sum rfl) rfl zsum Ob.boot_sum' (pa_cons
        (pe_lc (own := [("k", 2), ("top", 3)]) (g := gTup K 2 (gCons (gName 2) (gCons (gName 3) gNil))) (by rfl) scLShow.nd (pi_enum rfl T.enum (pa_cons (pv 0) pa_nil)) (blkOk_by (own := [("k", 2), ("top", 3)]) (N := nLSh) (sc := defScope sLShow) (by decide +kernel))
          (fun _ _ _ _ _ => pg_tup rfl (pgs_cons (pg_name (i := 2) scLShow.nd rfl (Or.inl rfl)) (pgs_cons (pg_name (i := 3) scLShow.nd rfl (Or.inl rfl)) pgs_nil))) (fun _ _ _ _ _ => pts_one (pt_cmpR op_gt (pv 2) (pv 1) (nomark _))) (fun _ _ _ _ _ => pe_op op_mulB (pv 3) (pe_op op_sub (pv 2) (pv 1)))) pa_nil)) pe_int)) (pss_one (ps_ret pe_bl)) pss_nil)))
    (pss_one (ps_ret pe_bl))), ?_⟩
  have zi : ∀ {i : Nat} {n : Int}, xs[i]? = some n → xs.zipIdx[i]? = some (n, i) := fun {i n} h => by simp [h]
  refine ⟨_, rfl, a, xs, rfl, SqL.of ha, _, _, rfl, rfl, _, rfl, ite2 (fun e => ?_) (fun e => ?_)⟩
  · have e1 : decide (xs.sum = 0) = false := by simpa using e
    have e2 : showsB xs = false := by
      unfold showsB
      rw [e1]
      rfl
    rw [e2] at q
    exact iteT (q H (fun _ _ e => e))
  have e1 : xs.sum = 0 := by simpa using e
  refine ⟨_, rfl, a, _, rfl, SqL.of ha, fun D hD => ?_⟩
  refine lc_enum (K := K) (a := a) (xs := xs.map V.int) (fun i H' => Same H H' ∧ H' D = some (.lst (((xs.zipIdx.take i).map fun e => ((e.2 : Nat) : Int) * e.1).map V.int))) ⟨same_new hD _, by rw [upd_same]; rfl⟩ (fun i H' _ ⟨s', _⟩ => s'.seq (SqL.of ha)) ?_ ?_
  · rintro i x T' H' hx hT ⟨s', e'⟩
    obtain ⟨n, rfl, hn⟩ := ints_at hx
    have hi := idx_lt hn
    have tT := same_new hT (.tup [.int (i : Nat), .int n])
    have bn := hxb n (List.mem_of_getElem? hn)
    refine ⟨T', _, rfl, SqT.of upd_same, rfl, _, _, rfl, _, _, rfl, rfl, rfl, ?_⟩
    refine ⟨_, rfl, _, rfl, _, _, rfl, rfl, ⟨60, 600, by unfold Bt; omega, bn, by decide⟩, _, tT _ _ e', fill_len (k := 12) (by rw [List.length_map, List.length_take, List.length_zipIdx]; omega) (by decide), put_new (s'.trans tT) hD, ?_⟩
    rw [upd_same, take_next (zi hn), List.map_append, List.map_append]
    rfl
  rintro H2 ⟨s2, e2⟩
  rw [List.length_map, List.take_of_length_le (by rw [List.length_zipIdx]; exact Nat.le_refl _)] at e2
  have ew : (xs.zipIdx.map fun e => ((e.2 : Nat) : Int) * e.1).sum = wS xs := by
    unfold wS
    congr 1
    exact List.map_congr_left fun e _ => Int.mul_comm _ _
  refine ⟨D, _, rfl, SqL.of e2, _, _, rfl, rfl, _, rfl, ?_⟩
  rw [ew]
  refine ite2 (fun e => ?_) (fun e => ?_)
  · have e3 : decide (wS xs = 0) = false := by simpa using e
    have e4 : showsB xs = false := by
      unfold showsB
      rw [e3, Bool.and_false]
      rfl
    rw [e4] at q
    exact q H2 s2
  have e3 : wS xs = 0 := by simpa using e
  have sb := shows_beh e1 e3
  refine ⟨_, rfl, a, _, rfl, .inl (s2.seq (SqL.of ha)), _, _, rfl, rfl, _, _, rfl, ⟨by decide, by decide, by rw [List.length_map]; omega, by rw [List.length_map]; omega⟩, ?_⟩
  rw [show ((((xs.map V.int).length : Nat) : Int) - 1 - 1).toNat = xs.length - 2 by rw [List.length_map]; omega]
  refine for_range (lo := 1) (n := xs.length - 2) (fun i σ H' => ∃ (v1 v2 v3 : Option V), σ = [some (.ref a), v1, v2, v3] ∧ Same H H' ∧ ∀ p : Nat, 1 ≤ p → p < 1 + i → behS xs p ≤ 0) ⟨_, _, _, rfl, s2, fun p h1 h2 => by omega⟩ ?_ ?_
  · rintro i σ H' hi ⟨v1, v2, v3, rfl, s', hb⟩
    have ec : ((1 + i : Nat) : Int) = 1 + (i : Int) := by omega
    refine ⟨_, rfl, a, _, rfl, s'.seq (SqL.of ha), fun D2 hD2 => ?_⟩
    refine lc_enum (K := K) (a := a) (xs := xs.map V.int) (fun j H3 => Same H' H3 ∧ H3 D2 = some (.lst ((((xs.zipIdx.take j).filter (behF (1 + (i : Int)))).map (behG (1 + (i : Int)))).map V.int))) ⟨same_new hD2 _, by rw [upd_same]; rfl⟩ (fun j H3 _ ⟨s3, _⟩ => (s'.trans s3).seq (SqL.of ha)) ?_ ?_
    · rintro j x T' H3 hx hT ⟨s3, e'⟩
      obtain ⟨n, rfl, hn⟩ := ints_at hx
      have hj := idx_lt hn
      have tT := same_new hT (.tup [.int (j : Nat), .int n])
      have bn := hxb n (List.mem_of_getElem? hn)
      refine ⟨T', _, rfl, SqT.of upd_same, rfl, _, _, rfl, _, _, rfl, rfl, rfl, ?_⟩
      refine ⟨_, rfl, _, rfl, _, _, rfl, rfl, _, rfl, ?_⟩
      refine ite2 (fun e => ?_) (fun e => ?_)
      · have eb : behF (1 + (i : Int)) (n, j) = true := e
        refine ⟨_, rfl, _, rfl, _, rfl, _, _, rfl, rfl, _, _, rfl, rfl, ⟨600, 60, bn, by unfold Bt; omega, by decide⟩, _, tT _ _ e', fill_len (k := 12) (by simp only [List.length_map]; exact Nat.le_trans (List.length_filter_le ..) (by rw [List.length_take, List.length_zipIdx]; omega)) (by decide), put_new (s3.trans tT) hD2, ?_⟩
        rw [upd_same, take_next (zi hn), List.filter_append, List.filter_cons_of_pos eb, List.map_append, List.map_append]
        rfl
      · have eb : ¬ behF (1 + (i : Int)) (n, j) = true := e
        refine ⟨s3.trans tT, ?_⟩
        rw [take_next (zi hn), List.filter_append, List.filter_cons_of_neg eb]
        simpa using tT _ _ e'
    rintro H4 ⟨s4, e4⟩
    rw [List.length_map, List.take_of_length_le (by rw [List.length_zipIdx]; exact Nat.le_refl _)] at e4
    refine ⟨D2, _, rfl, SqL.of e4, _, _, rfl, rfl, _, rfl, ?_⟩
    refine ite2 (fun e => ?_) (fun e => ?_)
    · have e5 : 0 < behS xs (1 + (i : Int)) := of_decide_eq_true e
      cases hsb : showsB xs with
      | false =>
        rw [hsb] at q
        exact q H4 (s'.trans s4)
      | true =>
        have z := sb.mp hsb (1 + i) (by omega) (by omega)
        rw [ec] at z
        omega
    · have e5 : ¬ 0 < behS xs (1 + (i : Int)) := fun z => e (decide_eq_true z)
      refine ⟨_, _, _, rfl, s'.trans s4, fun p h1 h2 => ?_⟩
      by_cases c : p = 1 + i
      · rw [c, ec]
        omega
      · exact hb p h1 (by omega)
  · rintro σ H' ⟨v1, v2, v3, rfl, s', hb⟩
    have e4 : showsB xs = true := sb.mpr fun p h1 h2 => hb p h1 (by omega)
    rw [e4] at q
    exact q H' s'
end
end Pg

set_option maxHeartbeats 4000000
namespace Pg
open PySem PySem.Spec PyProof.Rows L2 Ob
section
variable {P : Program} {w : World} {K : PySem.W.Frag} {mg : Str → Option Value} {base : Heap} {f f1 f2 f3 f4 f5 f6 C : Addr} {fd d1 d2 d3 d4 d5 d6 : FuncData}
abbrev n_aref : List Str := ["thing", "many", "one"]
theorem sc_aref : FnScope n_aref ["thing", "many"] (defScope sLAreFr) := ⟨rfl, rfl, rfl, by decide +kernel, rfl, by decide +kernel, by decide +kernel⟩
theorem ok_aref (F : Fun K "_law_are_fractions" "_law_are_fractions" sLAreFr f fd) (T : Tx mg) (GI : FnOk P w K mg base CX0 2 f1 d1 ["thing"] spLIsFr) (bI : Binds K d1 ["thing"] []) (kI : PySem.W.keepIn K (.ref f1) = true) (mI : mg "_law_is_fraction" = some (.ref f1)) : FnOk P w K mg base CX0 3 f fd ["thing", "many"] spAreW := by
  refine F.ok sc_aref (fun vs H Q E h => ?_) (fun cdv A outer s H vs Q E hr h => ?_)
  · obtain ⟨a, rs, ts, rfl, _⟩ := h
    rfl
  obtain ⟨a, rs, ts, rfl, L, q⟩ := h
  refine ⟨_, (pss_cons (ps_if (PW.pt (pw_or (pt_not (pt_val (pe_callB call_isi rfl T.isi boot_isi (pa_cons (pv 0) (pa_cons (pe_bltn (v := .ty "list") rfl T.list PyProof.Rows.boot_list rfl) pa_nil))))) (pw_or1 (pt_cmp (pc_neI (pe_callB call_len_seq rfl T.len PySem.boot_len (pa_cons (pv 0) pa_nil)) (pv 1)))))) (pss_one (ps_ret pe_bl)) pss_nil)
    (pss_one (ps_ret (pe_cmpR (op_eqD hr.units) (pe_lc (own := [("one", 2)]) (g := gName 2) (by rfl) sc_aref.nd (pi_list (pv 0)) (blkOk_by (own := [("one", 2)]) (N := n_aref) (sc := defScope sLAreFr) (by decide +kernel)) (fun _ _ _ _ _ => pg_name (i := 2) sc_aref.nd rfl (Or.inl rfl)) (fun _ _ _ _ _ => pts_one (pt_not (pt_val (pe_call GI hr rfl mI kI bI .nil pass0 (pa_cons (pv 2) pa_nil))))) (fun _ _ _ _ _ => pv 2)) (pe_lst pa_nil) (nomark _))))), ?_⟩
  have l1 : rs.length = ts.length := Paired.length L.f
  refine ⟨_, rfl, _, "list", "list", true, rfl, .lst L.l, rfl, _, rfl, iteF ⟨_, rfl, a, _, rfl, .inl (SqL.of L.l), _, rfl, _, _, rfl, rfl, _, rfl, ?_⟩⟩
  rw [List.length_map, l1]
  refine ite2 (fun e => absurd (show (!decide (((ts.length : Nat) : Int) = ((ts.length : Nat) : Int))) = true from e) (by simp)) (fun _ => ?_)
  refine ⟨_, rfl, a, rfl, ⟨_, SqL.of L.l⟩, fun D hD => ?_⟩
  refine lc_list (K := K) (a := a) (xs := rs.map V.ref) (fun i H' => Same H H' ∧ H' D = some (.lst [])) ⟨same_new hD _, upd_same⟩ (fun i H' _ ⟨s', _⟩ => s'.seq (SqL.of L.l)) ?_ ?_
  · rintro i x H' hx ⟨s', e'⟩
    obtain ⟨r, t, rfl, ht, hrt, fr⟩ := L.at hx
    refine ⟨rfl, ?_⟩
    refine ⟨_, rfl, r, t.1, t.2, rfl, s' _ _ hrt, fr.pos, fr.cop, ?_⟩
    exact ⟨true, rfl, iteF ⟨s', e'⟩⟩
  rintro H1 ⟨s1, e1⟩
  refine ⟨(by show 0 ≤ sizeLine; decide), fun l hl => ?_⟩
  have tl := same_new hl (.lst [])
  refine ⟨_, _, dp_ints (ns := []) (tl _ _ e1), dp_ints (ns := []) upd_same, shaped_ints [], shaped_ints [], ?_⟩
  rw [SeqAt.eqv_refl _ (SeqAt.canLay_of_shaped (shaped_ints []))]
  exact q _ (s1.trans tl)
abbrev n_lb1 : List Str := ["tops", "k"]
theorem sc_lb1 : FnScope n_lb1 ["tops"] (defScope sLB1) := ⟨rfl, rfl, rfl, by decide +kernel, rfl, by decide +kernel, by decide +kernel⟩
theorem ok_lb1 (F : Fun K "_law_bends_one_way" "_law_bends_one_way" sLB1 f fd) (T : Tx mg) : FnOk P w K mg base CX0 1 f fd ["tops"] spLB1 := by
  refine F.ok sc_lb1 (fun vs H Q E h => ?_) (fun cdv A outer s H vs Q E hr h => ?_)
  · obtain ⟨a, xs, rfl, _⟩ := h
    rfl
  obtain ⟨a, xs, rfl, ha, hl, hc, q⟩ := h
  refine ⟨_, (pss_one (ps_ret (pe_cmpR (op_eqD hr.units) (pe_lc (own := [("k", 1)]) (g := gName 1) (by rfl) sc_lb1.nd (pi_range2 rfl T.range (pa_cons pe_int (pa_cons (pe_callB call_len_seq rfl T.len PySem.boot_len (pa_cons (pv 0) pa_nil)) pa_nil))) (blkOk_by (own := [("k", 1)]) (N := n_lb1) (sc := defScope sLB1) (by decide +kernel)) (fun _ _ _ _ _ => pg_name (i := 1) sc_lb1.nd rfl (Or.inl rfl)) (fun _ _ _ _ _ => pts_one (pt_cmp (pc_lt (pe_op op_sub (pe_ix (r := rIxL K) ix_list (pv 0) (pv 1) (fun _ _ => rfl)) (pe_ix (r := rIxL K) ix_list (pv 0) (pe_op op_sub (pv 1) pe_int) (fun _ _ => rfl))) (pe_op op_sub (pe_ix (r := rIxL K) ix_list (pv 0) (pe_op op_sub (pv 1) pe_int) (fun _ _ => rfl)) (pe_ix (r := rIxL K) ix_list (pv 0) (pe_op op_sub (pv 1) pe_int) (fun _ _ => rfl)))))) (fun _ _ _ _ _ => pv 1)) (pe_lst pa_nil) (nomark _)))), ?_⟩
  refine ⟨_, rfl, a, _, rfl, .inl (SqL.of ha), _, _, rfl, ⟨by decide, by decide, by rw [List.length_map]; omega, by rw [List.length_map]; omega⟩, fun D hD => ?_⟩
  rw [show ((((xs.map V.int).length : Nat) : Int) - 2).toNat = xs.length - 2 by rw [List.length_map]; omega]
  refine lc_range (lo := 2) (n := xs.length - 2) (fun i H' => Same H H' ∧ H' D = some (.lst [])) ⟨same_new hD _, upd_same⟩ ?_ ?_
  · rintro i H' hi ⟨s', e'⟩
    refine ⟨rfl, ?_⟩
    have z := hc i (by omega)
    refine ⟨_, rfl, _, rfl, a, _, _, _, rfl, rfl, SqL.of (s' _ _ ha), at_an (j := i + 2) (by omega) (by omega), _, rfl, _, rfl, _, _, rfl, rfl, a, _, _, _, rfl, rfl, SqL.of (s' _ _ ha), at_an (j := i + 1) (by omega) (by omega), _, _, rfl, rfl, _, rfl, _, rfl, _, _, rfl, rfl, a, _, _, _, rfl, rfl, SqL.of (s' _ _ ha), at_an (j := i + 1) (by omega) (by omega), _, rfl, _, rfl, _, _, rfl, rfl, a, _, _, _, rfl, rfl, SqL.of (s' _ _ ha), at_an (j := i) (by omega) (by omega), _, _, rfl, rfl, _, _, rfl, rfl, _, rfl, ?_⟩
    exact ite2 (fun e => absurd (of_decide_eq_true e) (by omega)) (fun _ => ⟨s', e'⟩)
  rintro H1 ⟨s1, e1⟩
  refine ⟨(by show 0 ≤ sizeLine; decide), fun l hl => ?_⟩
  have tl := same_new hl (.lst [])
  refine ⟨_, _, dp_ints (ns := []) (tl _ _ e1), dp_ints (ns := []) upd_same, shaped_ints [], shaped_ints [], ?_⟩
  rw [SeqAt.eqv_refl _ (SeqAt.canLay_of_shaped (shaped_ints []))]
  exact q _ (s1.trans tl)
abbrev n_rgt : List Str := ["numbers", "told", "bottom", "tops", "above", "number", "top", "one"]
theorem sc_rgt : FnScope n_rgt ["numbers", "told"] (defScope sRight) := ⟨rfl, rfl, rfl, by decide +kernel, rfl, by decide +kernel, by decide +kernel⟩
theorem ok_rgt (F : Fun K "_law_right" "_law_right" sRight f fd) (T : Tx mg) (zsum : mg "sum" = none) (zt : mg "tuple" = none) (GI : FnOk P w K mg base CX0 2 f1 d1 ["thing"] spLIsFr) (bI : Binds K d1 ["thing"] []) (kI : PySem.W.keepIn K (.ref f1) = true) (mI : mg "_law_is_fraction" = some (.ref f1)) (GA : FnOk P w K mg base CX0 3 f2 d2 ["thing", "many"] spAreW) (bA : Binds K d2 ["thing", "many"] []) (kA : PySem.W.keepIn K (.ref f2) = true) (mA : mg "_law_are_fractions" = some (.ref f2)) (GO : FnOk P w K mg base CX0 2 f3 d3 ["fractions"] spOneBW) (bO : Binds K d3 ["fractions"] []) (kO : PySem.W.keepIn K (.ref f3) = true) (mO : mg "_law_one_bottom" = some (.ref f3)) (GE : FnOk P w K mg base CX0 1 f4 d4 ["tops"] spLB1) (bE : Binds K d4 ["tops"] []) (kE : PySem.W.keepIn K (.ref f4) = true) (mE : mg "_law_bends_one_way" = some (.ref f4)) (GS : FnOk P w K mg base CX0 1 f5 d5 ["tops"] spLShow) (bS : Binds K d5 ["tops"] []) (kS : PySem.W.keepIn K (.ref f5) = true) (mS : mg "_law_show" = some (.ref f5)) (GF : FnOk P w K mg base CX0 2 f6 d6 ["top", "bottom"] spLeastB) (bF : Binds K d6 ["top", "bottom"] []) (kF : PySem.W.keepIn K (.ref f6) = true) (mF : mg "_law_fraction" = some (.ref f6)) : FnOk P w K mg base CX0 4 f fd ["numbers", "told"] spRgt53 := by
  refine F.ok sc_rgt (fun vs H Q E h => ?_) (fun cdv A outer s H vs Q E hr h => ?_)
  · obtain ⟨a, ns, r, r1, L, rs, b, x, rfl, _⟩ := h
    rfl
  obtain ⟨a, ns, r, r1, L, rs, b, x, rfl, ha, l1, l2, hb, bs, td, q⟩ := h
  have hr1 : Room 1 _ := hr.mono (by decide)
  have hr2 : Room 2 _ := hr.mono (by decide)
  refine ⟨_, (pss_cons (ps_if (PW.pt (pw_or (pt_not (pt_val (pe_callB call_isi rfl T.isi boot_isi (pa_cons (pv 1) (pa_cons (pe_bltn (v := .ty "tuple") rfl zt boot_tuple2 rfl) pa_nil))))) (pw_or (pt_cmp (pc_neI (pe_callB call_len_seq rfl T.len PySem.boot_len (pa_cons (pv 1) pa_nil)) pe_int)) (pw_or1 (pt_not (pt_val (pe_call GI hr2 rfl mI kI bI .nil pass0 (pa_cons (pe_ix ix_tup (pv 1) pe_int (fun _ _ => rfl)) pa_nil)))))))) (pss_one (ps_ret pe_bl)) pss_nil)
    (pss_cons (ps_if (pt_not (pt_val (pe_call GA hr rfl mA kA bA .nil pass0 (pa_cons (pe_ix ix_tup (pv 1) pe_int (fun _ _ => rfl)) (pa_cons (pe_callB call_len_seq rfl T.len PySem.boot_len (pa_cons (pv 0) pa_nil)) pa_nil))))) (pss_one (ps_ret pe_bl)) pss_nil)
    (pss_cons (ps_asg (pe_call GO hr2 rfl mO kO bO .nil pass0 (pa_cons (pe_ix ix_tup (pv 1) pe_int (fun _ _ => rfl)) pa_nil)) (pg_tup (by rfl) (pgs_cons (pg_name (i := 2) sc_rgt.nd rfl (Or.inr rfl)) (pgs_cons (pg_name (i := 3) sc_rgt.nd rfl (Or.inl rfl)) pgs_nil))))
    (pss_cons (ps_setLc (i := 4) (own := [("number", 5), ("top", 6)]) (g := gTup K 2 (gCons (gName 5) (gCons (gName 6) gNil))) (by rfl) sc_rgt.nd rfl rfl (sw_true rfl rfl rfl (by decide +kernel)) (pi_zip rfl T.zip (pa_cons (pv 0) (pa_cons (pv 3) pa_nil))) (blkOk_by (own := [("number", 5), ("top", 6)]) (N := n_rgt) (sc := defScope sRight) (by decide +kernel)) (fun _ _ _ _ _ => pg_tup rfl (pgs_cons (pg_name (i := 5) sc_rgt.nd rfl (Or.inl rfl)) (pgs_cons (pg_name (i := 6) sc_rgt.nd rfl (Or.inl rfl)) pgs_nil))) (fun _ _ _ _ _ => pts_nil) (fun _ _ _ _ _ => pe_op op_sub (pe_op op_mulB (pv 5) (pv 2)) (pv 6)))
    (pss_cons (ps_if (PW.pt (pw_or (pt_not (pt_val (pe_call GE hr1 rfl mE kE bE .nil pass0 (pa_cons (pv 3) pa_nil)))) (pw_or1 (pt_not (pt_val (pe_call GS hr1 rfl mS kS bS .nil pass0 (pa_cons (pv 4) pa_nil))))))) (pss_one (ps_ret pe_bl)) pss_nil)
    (pss_cons (ps_if (pt_cmp (pc_neI (pe_callB (cr_sum rfl) rfl zsum Ob.boot_sum' (pa_cons (pe_lc (own := [("one", 7), ("top", 6)]) (g := gTup K 2 (gCons (gName 7) (gCons (gName 6) gNil))) (by rfl) sc_rgt.nd (pi_zip rfl T.zip (pa_cons (pv 4) (pa_cons (pv 3) pa_nil))) (blkOk_by (own := [("one", 7), ("top", 6)]) (N := n_rgt) (sc := defScope sRight) (by decide +kernel)) (fun _ _ _ _ _ => pg_tup rfl (pgs_cons (pg_name (i := 7) sc_rgt.nd rfl (Or.inl rfl)) (pgs_cons (pg_name (i := 6) sc_rgt.nd rfl (Or.inl rfl)) pgs_nil))) (fun _ _ _ _ _ => pts_nil) (fun _ _ _ _ _ => pe_op op_mulB (pv 7) (pv 6))) pa_nil)) pe_int)) (pss_one (ps_ret pe_bl)) pss_nil)
    (pss_one (ps_ret (pe_cmpR (op_eqD hr.units) (pe_call GF hr2 rfl mF kF bF .nil pass0 (pa_cons (pe_callB (cr_sum rfl) rfl zsum Ob.boot_sum' (pa_cons (pe_lc (own := [("one", 7)]) (g := gName 7) (by rfl) sc_rgt.nd (pi_list (pv 4)) (blkOk_by (own := [("one", 7)]) (N := n_rgt) (sc := defScope sRight) (by decide +kernel)) (fun _ _ _ _ _ => pg_name (i := 7) sc_rgt.nd rfl (Or.inl rfl)) (fun _ _ _ _ _ => pts_nil) (fun _ _ _ _ _ => pe_op op_mulB (pv 7) (pv 7))) pa_nil)) (pa_cons (pe_op op_mulB (pv 2) (pv 2)) pa_nil))) (pe_ix ix_tup (pv 1) pe_int (fun _ _ => rfl)) (nomark _)))))))))), ?_⟩
  have N := td.near
  have W := td.w
  have lt := nearT_len ns b x
  have b0 := N.pos
  have St : SqT K H r [.ref r1, .ref L] := SqT.of td.tup
  have q1 : 0 < (nearQ ns b x).2 := redB_pos (Int.mul_pos b0 b0)
  have q2 : Int.gcd (nearQ ns b x).1 (nearQ ns b x).2 = 1 := red_gcd (Int.mul_pos b0 b0)
  refine ⟨_, rfl, _, "tuple", "tuple", true, rfl, .tup td.tup, rfl, true, rfl, iteF ⟨_, rfl, r, _, rfl, .inr St, _, _, rfl, rfl, _, rfl, iteF ?_⟩⟩
  refine ⟨_, rfl, r, _, _, _, rfl, rfl, St, rfl, r1, _, _, rfl, td.sq, q1, q2, true, rfl, iteF ?_⟩
  refine ⟨_, rfl, r, _, _, _, rfl, rfl, St, rfl, _, rfl, a, _, rfl, .inl (SqL.of ha), L, rs, nearT ns b x, by rw [List.length_map, lt]; rfl, W, fun H1 s1 => ⟨true, rfl, iteF ?_⟩⟩
  refine ⟨_, rfl, r, _, _, _, rfl, rfl, SqT.of (s1 _ _ td.tup), rfl, L, rs, nearT ns b x, rfl, W.same s1, fun M B1 B2 H2 OM s2 nB eB eT => ⟨B1, _, rfl, SqT.of eB, rfl, _, _, rfl, _, _, rfl, rfl, ?_⟩⟩
  have s12 := s1.trans s2
  have lT : ((nearT ns b x).map (overT M)).length = ns.length := by rw [List.length_map, lt]
  have dB : ∀ z ∈ (nearT ns b x).map (overT M), Bt 590 z := fun z hz => by
    obtain ⟨t, ht, rfl⟩ := List.mem_map.mp hz
    have z1 := (W.fr t ht).top
    have z2 : Bt 500 (M / t.2) := OM.bt.le (Int.natAbs_ediv_le_natAbs _ _)
    exact (z1.mul z2).mono (by decide)
  have ha2 := s12 _ _ ha
  have ov := fun k hk => near_over N OM (k := k) hk
  have ab := fun k hk => near_above N OM (k := k) hk
  generalize (nearT ns b x).map (overT M) = P' at eT lT dB ov ab
  -- above
  refine ⟨_, rfl, _, rfl, a, B2, _, _, rfl, SqL.of ha2, SqL.of eT, fun D hD => ?_⟩
  refine lc_zip (K := K) (a := a) (b := B2) (xs := ns.map V.int) (ys := P'.map V.int) (fun i H' => Same H2 H' ∧ H' D = some (.lst ((((ns.zip P').take i).map fun e => e.1 * M - e.2).map V.int))) ns.length (by rw [List.length_map, List.length_map]; omega) ⟨same_new hD _, upd_same⟩ (fun i H' _ ⟨s', _⟩ => ⟨s'.seq (SqL.of ha2), s'.seq (SqL.of eT)⟩) ?_ ?_
  · rintro i u v T1 H' hx hy hT ⟨s', e'⟩
    obtain ⟨n, rfl, hn⟩ := ints_at hx
    obtain ⟨m, rfl, hm⟩ := ints_at hy
    have hi := idx_lt hn
    have tT := same_new hT (.tup [.int n, .int m])
    have hz : (ns.zip P')[i]? = some (n, m) := List.getElem?_zip_eq_some.mpr ⟨hn, hm⟩
    refine ⟨T1, _, rfl, SqT.of upd_same, rfl, _, _, rfl, _, _, rfl, rfl, rfl, ?_⟩
    refine ⟨_, rfl, _, rfl, _, _, rfl, rfl, ⟨42, 500, hb n (List.mem_of_getElem? hn), OM.bt, by decide⟩, _, rfl, _, _, rfl, rfl, _, tT _ _ e', fill_len (k := 12) (by rw [List.length_map, List.length_take, List.length_zip]; omega) (by decide), put_new (s'.trans tT) hD, ?_⟩
    rw [upd_same, take_next hz, List.map_append, List.map_append]
    rfl
  rintro H3 ⟨s3, e3⟩
  rw [List.take_of_length_le (by rw [List.length_zip]; omega)] at e3
  have lA : ((ns.zip P').map fun e => e.1 * M - e.2).length = ns.length := by rw [List.length_map, List.length_zip]; omega
  have aA : ∀ k, k < ns.length → An ((ns.zip P').map fun e => e.1 * M - e.2) k = An ns k * M - An P' k := fun k hk => an_val' (by
    rw [List.getElem?_map, show (ns.zip P')[k]? = some (An ns k, An P' k) from List.getElem?_zip_eq_some.mpr ⟨an_at hk, an_at (by omega)⟩]
    rfl)
  have bA : ∀ z ∈ ((ns.zip P').map fun e => e.1 * M - e.2), Bt 600 z := fun z hz => by
    obtain ⟨e, he, rfl⟩ := List.mem_map.mp hz
    have w := List.of_mem_zip he
    have z1 : Bt 590 (e.1 * M) := ((hb _ w.1).mul OM.bt).mono (by decide)
    have z2 : Bt 590 (-e.2) := by unfold Bt; rw [Int.natAbs_neg]; exact dB _ w.2
    have z3 := (z1.add z2).mono (k := 600) (by decide)
    exact z3
  generalize ((ns.zip P').map fun e => e.1 * M - e.2) = As at e3 lA aA bA
  have s23 := s12.trans s3
  have m0 := OM.pos
  have aab : ∀ k, k < ns.length → An As k * b = x k * M := fun k hk => by rw [aA k hk]; exact ab k hk
  -- it bends one way, what is above shows
  have cv : Conv (An P') P'.length := fun j hj => by
    have z := N.conv j (by omega)
    have z' : 2 * (An ns (j + 1) * b - x (j + 1)) ≤ (An ns j * b - x j) + (An ns (j + 2) * b - x (j + 2)) := z
    have z2 := Int.mul_le_mul_of_nonneg_right z' (Int.le_of_lt m0)
    rw [Int.add_mul, Int.mul_assoc, ← ov (j + 1) (by omega), ← ov j (by omega), ← ov (j + 2) (by omega), ← Int.mul_assoc, ← Int.add_mul] at z2
    exact Int.le_of_mul_le_mul_right z2 b0
  have shA : showsB As = true := by
    rw [shows_f, lA]
    refine ShowsF.of_mul b0 ?_
    refine (ShowsF.two N.shows N.shows (Int.le_of_lt m0) (Int.le_refl 0)).congr fun i hi => ?_
    show An As i * b = x i * M + x i * 0
    rw [aab i hi]
    simp
  refine ⟨_, rfl, B2, P', rfl, s3 _ _ eT, by omega, cv, fun H4 s4 => ⟨true, rfl, iteF ?_⟩⟩
  refine ⟨_, rfl, D, As, rfl, s4 _ _ e3, by omega, bA, fun H5 s5 => ⟨_, rfl, ?_⟩⟩
  rw [shA]
  refine iteF ?_
  have s45 := s4.trans s5
  have eT5 := s45 _ _ (s3 _ _ eT)
  have eA5 := s45 _ _ e3
  have s05 := s23.trans s45
  refine ⟨_, rfl, _, rfl, D, B2, _, _, rfl, SqL.of eA5, SqL.of eT5, fun D1 hD1 => ?_⟩
  refine lc_zip (K := K) (a := D) (b := B2) (xs := As.map V.int) (ys := P'.map V.int) (fun i H' => Same H5 H' ∧ H' D1 = some (.lst ((((As.zip P').take i).map fun e => e.1 * e.2).map V.int))) ns.length (by rw [List.length_map, List.length_map]; omega) ⟨same_new hD1 _, upd_same⟩ (fun i H' _ ⟨s', _⟩ => ⟨s'.seq (SqL.of eA5), s'.seq (SqL.of eT5)⟩) ?_ ?_
  · rintro i u v T1 H' hx hy hT ⟨s', e'⟩
    obtain ⟨n, rfl, hn⟩ := ints_at hx
    obtain ⟨m, rfl, hm⟩ := ints_at hy
    have hi := idx_lt hn
    have tT := same_new hT (.tup [.int n, .int m])
    have hz : (As.zip P')[i]? = some (n, m) := List.getElem?_zip_eq_some.mpr ⟨hn, hm⟩
    refine ⟨T1, _, rfl, SqT.of upd_same, rfl, _, _, rfl, _, _, rfl, rfl, rfl, ?_⟩
    refine ⟨_, rfl, _, rfl, _, _, rfl, rfl, ⟨600, 590, bA n (List.mem_of_getElem? hn), dB m (List.mem_of_getElem? hm), by decide⟩, _, tT _ _ e', fill_len (k := 12) (by rw [List.length_map, List.length_take, List.length_zip]; omega) (by decide), put_new (s'.trans tT) hD1, ?_⟩
    rw [upd_same, take_next hz, List.map_append, List.map_append]
    rfl
  rintro H6 ⟨s6, e6⟩
  rw [List.take_of_length_le (by rw [List.length_zip]; omega)] at e6
  have zero : ((As.zip P').map fun e => e.1 * e.2).sum = 0 := by
    have z : ((As.zip P').map fun e => e.1 * e.2).sum = sg (fun k => An As k * An P' k) ns.length := by
      rw [show ((As.zip P').map fun e => e.1 * e.2).sum = dotS As P' from rfl, dot_an (by omega), lT]
    have y : sg (fun k => An As k * An P' k) ns.length * (b * b) = 0 := by
      rw [← sg_mul, sg_congr (g := fun k => (An ns k * b - x k) * x k * (M * M)) fun k hk => by
        show An As k * An P' k * (b * b) = _
        calc An As k * An P' k * (b * b) = (An As k * b) * (An P' k * b) := by ac_rfl
          _ = (x k * M) * ((An ns k * b - x k) * M) := by rw [aab k hk, ov k hk]
          _ = _ := by ac_rfl, sg_mul, N.orth]
      simp
    rw [z]
    rcases Int.mul_eq_zero.mp y with w | w
    · exact w
    · have := Int.mul_pos b0 b0
      omega
  refine ⟨D1, _, rfl, SqL.of e6, _, _, rfl, rfl, _, rfl, ?_⟩
  rw [zero]
  refine iteF ?_
  have eA6 := s6 _ _ eA5
  refine ⟨_, rfl, D, rfl, ⟨_, SqL.of eA6⟩, fun D2' hD2 => ?_⟩
  refine lc_list (K := K) (a := D) (xs := As.map V.int) (fun i H' => Same H6 H' ∧ H' D2' = some (.lst (((As.take i).map fun n => n * n).map V.int))) ⟨same_new hD2 _, upd_same⟩ (fun i H' _ ⟨s', _⟩ => s'.seq (SqL.of eA6)) ?_ ?_
  · rintro i u H' hx ⟨s', e'⟩
    obtain ⟨n, rfl, hn⟩ := ints_at hx
    have hi := idx_lt hn
    have bn := bA n (List.mem_of_getElem? hn)
    refine ⟨rfl, ?_⟩
    refine ⟨_, rfl, _, rfl, _, _, rfl, rfl, ⟨600, 600, bn, bn, by decide⟩, _, e', fill_len (k := 12) (by rw [List.length_map, List.length_take]; omega) (by decide), put_new s' hD2, ?_⟩
    rw [upd_same, take_next hn, List.map_append, List.map_append]
    rfl
  rintro H7 ⟨s7, e7⟩
  rw [List.length_map, List.take_of_length_le (Nat.le_refl _)] at e7
  refine ⟨D2', _, rfl, SqL.of e7, ?_⟩
  refine ⟨_, rfl, _, rfl, _, _, rfl, rfl, ⟨500, 500, OM.bt, OM.bt, by decide⟩, _, M * M, rfl, Int.mul_pos m0 m0, (OM.bt.mul OM.bt).mono (by decide), fun rq hrq => ?_⟩
  have t8 := same_new hrq (.tup [.int (redT (As.map fun n => n * n).sum (M * M)), .int (redB (As.map fun n => n * n).sum (M * M))])
  have s08 := ((s05.trans s6).trans s7).trans t8
  refine ⟨_, rfl, r, _, _, _, rfl, rfl, SqT.of (s08 _ _ td.tup), rfl, ?_⟩
  refine ⟨_, _, dp_pair (a := (redT (As.map fun n => n * n).sum (M * M), redB (As.map fun n => n * n).sum (M * M)).1) (b := (redT (As.map fun n => n * n).sum (M * M), redB (As.map fun n => n * n).sum (M * M)).2) upd_same, dp_pair (a := (nearQ ns b x).1) (b := (nearQ ns b x).2) (s08 _ _ td.sq), shaped_pair _ _, shaped_pair _ _, ?_⟩
  have eq : (redT (As.map fun n => n * n).sum (M * M), redB (As.map fun n => n * n).sum (M * M)) = nearQ ns b x := by
    refine red_eq (Int.mul_pos m0 m0) (Int.mul_pos b0 b0) ?_
    rw [sum_sg0 (fun n : Int => n * n) (fun k => An As k * An As k) As fun i z hi => by rw [an_val' hi], lA, ← sg_mul, ← sg_mul]
    refine sg_congr fun k hk => ?_
    show An As k * An As k * (b * b) = x k * x k * (M * M)
    calc An As k * An As k * (b * b) = (An As k * b) * (An As k * b) := by ac_rfl
      _ = (x k * M) * (x k * M) := by rw [aab k hk]
      _ = _ := by ac_rfl
  rw [eqv_pairs eq]
  exact q _ s08
end
end Pg

set_option maxHeartbeats 4000000
namespace Ob
open PySem PySem.Spec PyProof.Rows L2
/-- data of such a size -/
structure SzW (d : PyData) (k w : Nat) : Prop where
  may : d.showable = true
  low : d.depth ≤ k
  short : d.leavesShort 210 = true
  wt : d.weight ≤ w
theorem SzW.showy {d : PyData} {k w : Nat} (h : SzW d k w) (hk : k ≤ 60) (hw : w ≤ 20000) : Showy d := by
  refine ⟨h.may, Nat.le_trans h.low hk, ?_⟩
  have a := PyData.shown_le 210 (by decide) d h.short
  have b := h.wt
  rw [sizeLine_eq]
  omega
theorem SzW.mono {d : PyData} {k w k' w' : Nat} (h : SzW d k w) (hk : k ≤ k') (hw : w ≤ w') : SzW d k' w' := ⟨h.may, Nat.le_trans h.low hk, h.short, Nat.le_trans h.wt hw⟩
theorem szw_all {k w : Nat} : ∀ ds : List PyData, (∀ d ∈ ds, SzW d k w) → PyData.showableAll ds = true ∧ PyData.depthAll ds ≤ k ∧ PyData.leavesShortAll 210 ds = true ∧ PyData.weightAll ds ≤ ds.length * (w + 1)
  | [], _ => ⟨rfl, Nat.zero_le _, rfl, Nat.zero_le _⟩
  | d :: ds, h => by
    have a := h d (by simp)
    obtain ⟨b1, b2, b3, b4⟩ := szw_all ds fun x hx => h x (by simp [hx])
    refine ⟨?_, ?_, ?_, ?_⟩
    · show (PyData.showable d && PyData.showableAll ds) = true
      rw [a.may, b1]
      rfl
    · show max (PyData.depth d) (PyData.depthAll ds) ≤ k
      have := a.low
      omega
    · show (PyData.leavesShort 210 d && PyData.leavesShortAll 210 ds) = true
      rw [a.short, b3]
      rfl
    · show PyData.weight d + 1 + PyData.weightAll ds ≤ (ds.length + 1) * (w + 1)
      have := a.wt
      rw [Nat.succ_mul]
      omega
theorem szw_list {k w : Nat} {ds : List PyData} (h : ∀ d ∈ ds, SzW d k w) : SzW (.list ds) (k + 1) (ds.length * (w + 1)) := by
  obtain ⟨b1, b2, b3, b4⟩ := szw_all ds h
  exact ⟨b1, (by show PyData.depthAll ds + 1 ≤ k + 1; omega), b3, b4⟩
theorem szw_tuple {k w : Nat} {ds : List PyData} (h : ∀ d ∈ ds, SzW d k w) : SzW (.tuple ds) (k + 1) (ds.length * (w + 1)) := by
  obtain ⟨b1, b2, b3, b4⟩ := szw_all ds h
  exact ⟨b1, (by show PyData.depthAll ds + 1 ≤ k + 1; omega), b3, b4⟩
theorem sz_intW {i : Int} (h : i.natAbs < 2 ^ 200) : SzW (.int i) 0 201 := by
  have lg : i.natAbs.log2 < 200 := by
    by_cases e : i.natAbs = 0
    · rw [e]; decide
    · exact (Nat.log2_lt e).mpr h
  refine ⟨decide_eq_true (by omega), Nat.le_refl _, decide_eq_true ?_, ?_⟩
  · have z := int_text_length_le (a := i) (k := 200) (by decide) lg
    show (Str.ofString (toString i)).length ≤ 210
    rw [PySem.ofString_length]
    omega
  · show (if i == 0 then 0 else i.natAbs.log2 + 1) ≤ 201
    split <;> omega
def sqD (t : Int × Int) (ts : List (Int × Int)) : PyData := .tuple [pairD t, .list (ts.map pairD)]
theorem sz_pairW {t : Int × Int} (h1 : t.1.natAbs < 2 ^ 200) (h2 : t.2.natAbs < 2 ^ 200) : SzW (pairD t) 1 404 := by
  have z := szw_tuple (k := 0) (w := 201) (ds := [.int t.1, .int t.2]) fun d hd => by
    rcases List.mem_cons.mp hd with rfl | hd
    · exact sz_intW h1
    · rw [List.mem_singleton.mp hd]
      exact sz_intW h2
  exact z.mono (Nat.le_refl _) (by show 2 * 202 ≤ 404; decide)
theorem sq_showy {t : Int × Int} {ts : List (Int × Int)} (h1 : t.1.natAbs < 2 ^ 200) (h2 : t.2.natAbs < 2 ^ 200) (h : ∀ u ∈ ts, u.1.natAbs < 2 ^ 200 ∧ u.2.natAbs < 2 ^ 200) (l : ts.length ≤ 12) : Showy (sqD t ts) := by
  have a := szw_list (k := 1) (w := 404) (ds := ts.map pairD) fun d hd => by
    obtain ⟨u, hu, rfl⟩ := List.mem_map.mp hd
    exact sz_pairW (h u hu).1 (h u hu).2
  rw [List.length_map] at a
  have z := szw_tuple (k := 2) (w := 4860) (ds := [pairD t, .list (ts.map pairD)]) fun d hd => by
    rcases List.mem_cons.mp hd with rfl | hd
    · exact (sz_pairW h1 h2).mono (by decide) (by decide)
    · rw [List.mem_singleton.mp hd]
      exact a.mono (by decide) (by omega)
  exact z.showy (by decide) (by show 2 * 4861 ≤ 20000; decide)
theorem dqAll_fracs {H : Hp} : ∀ {rs : List Addr} {ts : List (Int × Int)}, FracsAt H rs ts → DqAll H (rs.map V.ref) (ts.map pairD)
  | _, _, .nil => .nil
  | _, _, .cons h t => .cons (.tup h (.cons (.int _) (.cons (.int _) .nil))) (dqAll_fracs t)
theorem ToldSq.dq {H : Hp} {r r1 L : Addr} {rs : List Addr} {ns : List Int} {b : Int} {x : Nat → Int} (h : ToldSq H r r1 L rs ns b x) : Dq H (.ref r) (sqD (nearQ ns b x) (nearT ns b x)) :=
  .tup h.tup (.cons (.tup h.sq (.cons (.int _) (.cons (.int _) .nil))) (.cons (.lst h.w.l (dqAll_fracs h.w.f)) .nil))
theorem told_showy {ns : List Int} {b : Int} {x : Nat → Int} (N : NearSq ns b x) (l2 : ns.length ≤ 8) (hb : ∀ z ∈ ns, Bt 42 z) (bs : b < 2 ^ 40) : Showy (sqD (nearQ ns b x) (nearT ns b x)) := by
  have B := N.bounds l2 hb bs
  have p := N.pos
  have b40 : Bt 40 b := by
    have e : (2 : Int) ^ 40 = 1099511627776 := by decide
    have e2 : (2 : Nat) ^ 40 = 1099511627776 := by decide
    unfold Bt
    omega
  have k1 : Bt 200 (nearQ ns b x).1 := (B.2.2.le (Int.natAbs_ediv_le_natAbs _ _)).mono (by decide)
  have k2 : Bt 200 (nearQ ns b x).2 := ((b40.mul b40).le (Int.natAbs_ediv_le_natAbs _ _)).mono (by decide)
  refine sq_showy k1 k2 (fun u hu => ?_) (by rw [nearT_len]; omega)
  have q := near_fq N l2 hb bs u hu
  have e : (2 : Int) ^ 40 = 1099511627776 := by decide
  have e2 : (2 : Nat) ^ 40 = 1099511627776 := by decide
  have s := q.small
  have z := q.pos
  have y : Bt 40 u.2 := by unfold Bt; omega
  exact ⟨q.top.mono (k := 200) (by decide), y.mono (k := 200) (by decide)⟩
def spLaw53 (K : PySem.W.Frag) (P1 Pt : Addr) : Sp := fun vs H Q _ => Tb P1 H ∧ Tb Pt H ∧ ∃ (a : Addr) (ns : List Int), vs = [.ref a] ∧ SqL K H a (ns.map V.int) ∧ ns.length ≤ 63 ∧ ∀ H', Same H H' → Q (.bl true) H'
end Ob
namespace Pg
open PySem PySem.Spec PyProof.Rows L2 Ob
section
variable {P : Program} {w : World} {K : PySem.W.Frag} {mg : Str → Option Value} {base : Heap} {f fc fd0 fn fs fr : Addr} {fd dc dd dn ds dr : FuncData} {P1 Pt : Addr}
abbrev nLaw : List Str := ["script", "k", "deck", "numbers", "handed", "told", "kept"]
theorem scLaw : FnScope nLaw ["script"] (defScope sLaw) := ⟨rfl, rfl, rfl, by decide +kernel, rfl, by decide +kernel, by decide +kernel⟩
theorem bootR_repr : bootBuiltins "repr" = some (.builtin "repr") := by decide +kernel
theorem ok_law (F : Fun K "law" "law" sLaw f fd) (T : Tx mg) (hS : ∃ o, base.get? sysModules = some o) (zr : mg "repr" = none)
    (GC : FnOk P w K mg base CX0 1 fc dc ["script", "k"] (spCellAt K)) (bC : Binds K dc ["script", "k"] []) (kC : PySem.W.keepIn K (.ref fc) = true) (mC : mg "_law_cell_at" = some (.ref fc))
    (GD : FnOk P w K mg base CX0 2 fd0 dd ["cell", "many"] spDeck) (bD : Binds K dd ["cell", "many"] []) (kD : PySem.W.keepIn K (.ref fd0) = true) (mD : mg "_law_deck" = some (.ref fd0))
    (GN : FnOk P w K mg base CX0 3 fn dn ["deck", "most"] spRowD) (bN : Binds K dn ["deck", "most"] []) (kN : PySem.W.keepIn K (.ref fn) = true) (mN : mg "_law_row" = some (.ref fn))
    (GS : FnOk P w K mg base CX0 5 fs ds ["numbers"] (spNS P1 Pt)) (bS : Binds K ds ["numbers"] []) (kS : PySem.W.keepIn K (.ref fs) = true) (mS : mg "nearest_by_squares" = some (.ref fs))
    (GR : FnOk P w K mg base CX0 4 fr dr ["numbers", "told"] spRgt53) (bR : Binds K dr ["numbers", "told"] []) (kR : PySem.W.keepIn K (.ref fr) = true) (mR : mg "_law_right" = some (.ref fr)) : FnOk P w K mg base CX0 9 f fd ["script"] (spLaw53 K P1 Pt) := by
  refine F.ok scLaw (fun vs H Q E h => ?_) (fun cdv A outer s H vs Q E hr h => ?_)
  · obtain ⟨_, _, a, sc, rfl, _⟩ := h
    rfl
  obtain ⟨t1, t2, a, sc, rfl, hL, h63, q⟩ := h
  have hr1 : Room 1 _ := hr.mono (by decide)
  have hr2 : Room 2 _ := hr.mono (by decide)
  have hr3 : Room 3 _ := hr.mono (by decide)
  have hr4 : Room 4 _ := hr.mono (by decide)
  have hr5 : Room 5 _ := hr.mono (by decide)
  refine ⟨_, WSs.get (wss_cons (ws_for PassesOwn.never rfl ⟨pi_range1 rfl T.range (pa_cons (pe_callB (call_max2 rfl) rfl T.max PyProof.Rows.boot_max (pa_cons pe_int (pa_cons (pe_callB (call_min2 rfl) rfl T.min PyProof.Rows.boot_min (pa_cons (pe_callB call_len_seq rfl T.len PySem.boot_len (pa_cons (pv 0) pa_nil)) (pa_cons pe_int pa_nil))) pa_nil))) pa_nil)⟩ ⟨pg_name (i := 1) scLaw.nd rfl (Or.inl rfl)⟩
    (wss_cons ⟨ps_set (i := 2) scLaw.nd rfl (Or.inl rfl) (pe_call GD hr2 rfl mD kD bD .nil pass0 (pa_cons (pe_call GC hr1 rfl mC kC bC .nil pass0 (pa_cons (pv 0) (pa_cons (pv 1) pa_nil))) (pa_cons pe_int pa_nil)))⟩
    (wss_cons ⟨ps_set (i := 3) scLaw.nd rfl (Or.inl rfl) (pe_call GN hr3 rfl mN kN bN .nil pass0 (pa_cons (pv 2) (pa_cons pe_int pa_nil)))⟩
    (wss_cons ⟨ps_set (i := 4) scLaw.nd rfl (Or.inl rfl) (pe_callTy call_list_of rfl T.list PyProof.Rows.boot_list (pa_cons (pv 3) pa_nil))⟩
    (wss_cons ⟨ps_set (i := 5) scLaw.nd rfl (Or.inl rfl) (pe_call GS hr5 rfl mS kS bS .nil pass0 (pa_cons (pv 4) pa_nil))⟩
    (wss_cons (ws_if ⟨PW.pt (pw_or (pt_not (pt_val (pe_call GR hr4 rfl mR kR bR .nil pass0 (pa_cons (pv 3) (pa_cons (pv 5) pa_nil))))) (pw_or1 (pt_cmpR (op_neD hr.units) (pv 4) (pv 3) (nomark _))))⟩ (wss_one ⟨ps_ret pe_bl⟩) wss_nil)
    (wss_cons ⟨ps_set (i := 6) scLaw.nd rfl (Or.inl rfl) (pe_callB (call_repr hS (hr.gd (by decide)) hr.units) rfl zr bootR_repr (pa_cons (pv 5) pa_nil))⟩
    (wss_cons ⟨ps_expr (pe_bm PySem.F.plainAttrs_list PySem.F.slot_list_append PySem.F.type_list_append mt_append (pe_ix (r := rIxT K) ix_tup (pv 5) pe_int (fun _ _ => rfl)) (pa_cons (pe_tup (pa_cons pe_int (pa_cons pe_int pa_nil))) pa_nil))⟩
    (wss_cons ⟨ps_expr (pe_bm0 PySem.F.plainAttrs_list PySem.F.slot_list_reverse PySem.F.type_list_reverse mt_reverse (pe_ix (r := rIxT K) ix_tup (pv 5) pe_int (fun _ _ => rfl)))⟩
    (wss_one (ws_if ⟨PW.pt (pw_or (pt_cmpR op_ne (pe_callB (call_repr hS (hr.gd (by decide)) hr.units) rfl zr bootR_repr (pa_cons (pe_call GS hr5 rfl mS kS bS .nil pass0 (pa_cons (pv 4) pa_nil)) pa_nil)) (pv 6) (nomark _)) (pw_or1 (pt_cmpR (op_neD hr.units) (pv 4) (pv 3) (nomark _))))⟩ (wss_one ⟨ps_ret pe_bl⟩) wss_nil)))))))))) (fun _ => rfl))
    (wss_one ⟨ps_ret pe_bl⟩)), ?_⟩
  refine ⟨_, rfl, a, _, rfl, .inl hL, _, _, rfl, _, _, rfl, _, rfl, ?_⟩
  generalize hN : (if (if 4 < (((sc.map V.int).length : Nat) : Int) then 4 else (((sc.map V.int).length : Nat) : Int)) > 1 then (if 4 < (((sc.map V.int).length : Nat) : Int) then 4 else (((sc.map V.int).length : Nat) : Int)) else 1) = N
  have hN1 : 1 ≤ N ∧ N ≤ 4 := by
    subst hN
    split <;> split <;> omega
  refine ⟨by omega, by omega, ?_⟩
  refine for_range (lo := 0) (n := N.toNat) (fun i σ H' => ∃ v1 v2 v3 v4 v5 v6 : Option V, σ = [some (.ref a), v1, v2, v3, v4, v5, v6] ∧ Same H H') ⟨_, _, _, _, _, _, rfl, Same.refl _⟩ ?_ ?_
  · rintro i0 σ H1 hi ⟨v1, v2, v3, v4, v5, v6, rfl, s1⟩
    refine ⟨_, rfl, _, rfl, a, sc, _, rfl, s1.seq hL, by omega, fun x => ⟨x, 90, rfl, by decide, fun d H2 s2 hd dk => ?_⟩⟩
    refine ⟨_, rfl, d, 8, rfl, dk, by decide, by decide, fun r ns H3 w3 nr er l1 l2 nb => ?_⟩
    have nrd : r ≠ d := dk.ne nr
    have s3 : Same H H3 := Same.trans s1 fun b o hb => w3.keep b o (s2 b o hb) (ne_of_none hb hd)
    refine ⟨_, rfl, r, _, rfl, .inl (SqL.of er), fun h hh => ?_⟩
    have x1 := same_new hh (.lst (ns.map V.int))
    have eh : (upd H3 h (.lst (ns.map V.int))) h = some (.lst (ns.map V.int)) := upd_same
    have er1 := x1 _ _ er
    generalize upd H3 h (.lst (ns.map V.int)) = H4 at x1 eh er1
    have s4 := s3.trans x1
    refine ⟨_, rfl, s4 _ _ t1, s4 _ _ t2, h, ns, rfl, eh, l1, l2, nb, fun t tq L rs H5 b x s5 nt ntq nL et N bs xb eq eL fL => ?_⟩
    have td : ToldSq H5 t tq L rs ns b x := ⟨et, eq, ⟨eL, fL, near_fq N l2 nb bs, by rw [nearT_len]; omega, by rw [nearT_len]; omega⟩, N⟩
    have er5 := s5 _ _ er1
    have eh5 := s5 _ _ eh
    refine ⟨_, rfl, _, rfl, r, ns, t, tq, L, rs, b, x, rfl, er5, l1, l2, nb, bs, td, fun H6 s6 => ⟨true, rfl, iteF ?_⟩⟩
    have er6 := s6 _ _ er5
    have eh6 := s6 _ _ eh5
    have td6 := td.same s6
    refine ⟨_, rfl, _, rfl, _, _, dp_ints eh6, dp_ints er6, shaped_ints _, shaped_ints _, _, rfl, ?_⟩
    rw [SeqAt.eqv_refl _ (SeqAt.canLay_of_shaped (shaped_ints ns))]
    refine iteF ?_
    refine ⟨_, rfl, _, _, rfl, td6.dq, told_showy N l2 nb bs, ?_⟩
    have nLr : r ≠ L := ne_of_none er1 nL
    have nLh : h ≠ L := ne_of_none eh nL
    have nLt : t ≠ L := fun z => by
      have := td6.tup
      rw [z, td6.w.l] at this
      cases this
    have s46 := s5.trans s6
    have kp : ∀ c o, H4 c = some o → H6 c = some o ∧ c ≠ L := fun c o hc => ⟨s46 _ _ hc, ne_of_none hc nL⟩
    refine ⟨_, rfl, t, _, _, _, rfl, rfl, SqT.of td6.tup, rfl, .inl ⟨rfl, _, SqL.of td6.w.l⟩, (by show 2 ≤ sizeLine; decide), fun p hp => ?_⟩
    have xp := same_new hp (.tup [.int 1, .int 1])
    refine ⟨L, _, _, rfl, rfl, xp _ _ td6.w.l, Nat.lt_of_lt_of_le (show (rs.map V.ref).length < 100 by rw [List.length_map, Paired.length td6.w.f, nearT_len]; omega) (by decide), ?_⟩
    have tt := xp _ _ td6.tup
    have nLp : p ≠ L := fun z => by
      rw [z, td6.w.l] at hp
      cases hp
    refine ⟨_, rfl, t, _, _, _, rfl, rfl, SqT.of (show upd (upd H6 p (.tup [.int 1, .int 1])) L _ t = some (.tup [.ref tq, .ref L]) by rw [upd_ne nLt]; exact tt), rfl, .inl ⟨rfl, _, SqL.of upd_same⟩, ?_⟩
    refine ⟨L, _, rfl, rfl, upd_same, ?_⟩
    have s7 : ∀ c o, H4 c = some o → (upd (upd (upd H6 p (.tup [.int 1, .int 1])) L (.lst (rs.map V.ref ++ [V.ref p]))) L (.lst (rs.map V.ref ++ [V.ref p]).reverse)) c = some o := fun c o hc => by
      obtain ⟨e, n⟩ := kp c o hc
      rw [upd_ne n, upd_ne n]
      exact xp _ _ e
    generalize upd (upd (upd H6 p (.tup [.int 1, .int 1])) L (.lst (rs.map V.ref ++ [V.ref p]))) L (.lst (rs.map V.ref ++ [V.ref p]).reverse) = H7 at s7
    have s7' : Same H4 H7 := s7
    have s07 := s4.trans s7'
    refine ⟨_, rfl, s07 _ _ t1, s07 _ _ t2, h, ns, rfl, s7 _ _ eh, l1, l2, nb, fun u uq L2 rs2 H8 b2 x2 s8 nu nuq nL2 eu N2 bs2 xb2 eq2 eL2 fL2 => ?_⟩
    have td2 : ToldSq H8 u uq L2 rs2 ns b2 x2 := ⟨eu, eq2, ⟨eL2, fL2, near_fq N2 l2 nb bs2, by rw [nearT_len]; omega, by rw [nearT_len]; omega⟩, N2⟩
    have e1 := near_uniq N N2
    refine ⟨_, _, rfl, td2.dq, told_showy N2 l2 nb bs2, ?_⟩
    rw [← e1.1, ← e1.2]
    have er8 := s8 _ _ (s7 _ _ er1)
    have eh8 := s8 _ _ (s7 _ _ eh)
    refine ⟨_, rfl, rfl, _, rfl, ?_⟩
    refine ite2 (fun e => absurd e (by simp)) (fun _ => ?_)
    refine ⟨_, rfl, _, rfl, _, _, dp_ints eh8, dp_ints er8, shaped_ints _, shaped_ints _, _, rfl, ?_⟩
    rw [SeqAt.eqv_refl _ (SeqAt.canLay_of_shaped (shaped_ints ns))]
    refine iteF ?_
    have s48 := s7'.trans s8
    exact ⟨_, _, _, _, _, _, rfl, s4.trans s48⟩
  · rintro σ H1 ⟨v1, v2, v3, v4, v5, v6, rfl, s1⟩
    exact q _ s1
end
end Pg

set_option maxHeartbeats 4000000
namespace Ob
open PySem PySem.Spec PyProof.Rows L2
theorem law_callTsF {Pg : Program} {w : World} {K : PySem.W.Frag} {mg mb : Str → Option Value} {k : Nat} {fa a bm : Addr} {cps : List (Addr × Addr)} {ob : Obj} {fd : FuncData} {x : Str} {sp : Sp} {s₁ : Shared} {vs : List Value} {ns : List Int}
    (hsy : ∃ mm, s₁.heap.Ns sysModules mm) (KX : K.In s₁.heap) (hns : s₁.heap.Ns mainGlobals mg) (hb : s₁.heap.Ns builtinsNs mb) (hbb : ∀ x : Str, x ≠ "__name__" → mb x = bootBuiltins x) (hlim : s₁.heap.NoLimit) (hg : s₁.gens = #[])
    (ha : s₁.heap.get? a = some { cls := .type "list", data := .seq vs.toArray }) (hi : IntsAre vs ns) (hl : ns.length ≤ sizeLine) (hr : Room k callerA)
    (CB : ∀ e ∈ cps, CodeB s₁.heap e.1 e.2) (TA : ∀ e ∈ cps, s₁.heap.TableAt e.1 e.2 #[]) (BM : BMod s₁.heap mainGlobals mg bm ob) (KP : ∀ e ∈ cps, K.lookup e.2 = none)
    (F : ∀ base : Heap, K.In base → base.Ns mainGlobals mg → (∀ e ∈ cps, CodeB base e.1 e.2) → (∃ o, base.get? sysModules = some o) → BMod base mainGlobals mg bm ob → FnF Pg w K mg base CX0 k fa fd [x] sp) (hbind : ∀ (s : Shared) (u : Value), BindsTo s fd ⟨[u], []⟩ [(x, u)])
    (hsp : ∀ H : Hp, (∀ e ∈ cps, H e.2 = some (.ext (TbP e.2))) → SqL K H a (ns.map V.int) → sp [.ref a] H (fun v H' => v = .bl true ∧ ∀ e ∈ cps, H' e.2 = some (.ext (TbP e.2))) fun _ _ _ => False) :
    codeAny (model Pg w) callerA (.call (.ref fa) ⟨[.ref a], []⟩) (fun r s' => r = .ok (.ret (.bool true)) ∧ OldK s₁.heap s'.heap ∧ s'.os = s₁.os ∧ AllBare s'.gens) s₁ := by
  have rv := vals_ints hi
  have lenV := hi.length
  let Ps : Addr → Prop := fun b => ∃ e ∈ cps, e.2 = b
  have dPs : ∀ b, Decidable (Ps b) := fun b => Classical.propDecidable _
  have ePP : ∀ b, Ps b → s₁.heap.get? b = some { cls := .none, data := .fields #[] } := fun b ⟨e, he, eb⟩ => eb ▸ (TA e he).2
  have haP : ¬ Ps a := fun z => by
    rw [ePP _ z] at ha
    cases ha
  have core : ∀ H : Hp, (∀ b, Ps b → H b = some (.ext (TbP b))) → (∀ b, ¬ Ps b → H b = none ∨ ∃ o xs, H b = some (.frz o (.lst xs))) → SqL K H a (ns.map V.int) → HOk Pg w H s₁.heap → (∀ b, ¬ Ps b → H b ≠ none → b = a) → (H a ≠ none → K.lookup a = none) →
      codeAny (model Pg w) callerA (.call (.ref fa) ⟨[.ref a], []⟩) (fun r s' => r = .ok (.ret (.bool true)) ∧ OldK s₁.heap s'.heap ∧ s'.os = s₁.os ∧ AllBare s'.gens) s₁ := by
    intro H hHP hO hS hok hA hK
    have base_of : ∀ {b : Addr} {o : Obj}, s₁.heap.get? b = some o → H b = none → (hidT s₁.heap H).get? b = some o := fun e n => hidT_get e n
    have noA : ∀ {b : Addr} {o : Obj}, s₁.heap.get? b = some o → (∀ v n, o.data ≠ .seq v n) → (∀ v, o.data ≠ .fields v) → H b = none := fun {b o} e d1 d2 => by
      by_cases hbP : Ps b
      · rw [ePP _ hbP] at e
        cases e
        exact absurd rfl (d2 #[])
      · cases q : H b with
        | none => rfl
        | some u =>
          have e' : b = a := hA b hbP (by rw [q]; simp)
          subst e'
          rw [ha] at e
          cases e
          exact absurd rfl (d1 vs.toArray _)
    have nsK : ∀ {b : Addr} {m : Str → Option Value}, s₁.heap.Ns b m → (hidT s₁.heap H).Ns b m := fun {b m} ⟨o, es, ep, e, d, r⟩ => ⟨o, es, ep, base_of e (noA e (by rw [d]; intro _ _ z; cases z) (by rw [d]; intro _ z; cases z)), d, r⟩
    have hKb : K.In (hidT s₁.heap H) := fun b o e => base_of (KX b o e) (by
      by_cases hbP : Ps b
      · obtain ⟨y, hy, rfl⟩ := hbP
        rw [KP y hy] at e
        cases e
      · cases q : H b with
        | none => rfl
        | some u =>
          have e' : b = a := hA b hbP (by rw [q]; simp)
          subst e'
          rw [hK (by rw [q]; simp)] at e
          cases e)
    have hM : Mod K mg (hidT s₁.heap H) := ⟨hKb, nsK hns, ⟨mb, nsK hb, hbb⟩, let ⟨mc, h1, h2⟩ := hlim; ⟨mc, nsK h1, h2⟩⟩
    have hBM : BMod (hidT s₁.heap H) mainGlobals mg bm ob := ⟨nsK BM.ns, BM.name, BM.ne, base_of BM.obj (noA BM.obj (by rw [BM.data]; intro _ _ z; cases z) (by rw [BM.data]; intro _ z; cases z)), BM.cls, BM.dict, BM.data⟩
    have hCB : ∀ y ∈ cps, CodeB (hidT s₁.heap H) y.1 y.2 := by
      intro y hy
      obtain ⟨⟨o, us, file, tf, flags, tg, inF, text, tt, e, hc, hd, r⟩, ne⟩ := CB y hy
      refine ⟨⟨o, us, file, tf, flags, tg, inF, text, tt, base_of e ?_, hc, hd, r⟩, ne⟩
      have hn : ¬ Ps y.1 := fun z => by
        rw [ePP _ z] at e
        cases e
        exact nomatch hc
      cases q : H y.1 with
      | none => rfl
      | some u =>
        have e' : y.1 = a := hA y.1 hn (by rw [q]; simp)
        rw [e', ha] at e
        cases e
        have hc' : Value.type "list" = Value.type "code" := hc
        injection hc' with hc''
        exact absurd hc'' (by decide)
    have e0 : Env0 Pg w K mg (hidT s₁.heap H) callerA [] s₁ H := ⟨trivial, hM, fun b o e => of_hidT e, Nat.le_of_eq (hidT_size _ _), trivial, fun b hb => absurd (show b ∈ ([] : List Addr) from hb) (by simp), hok, trivial⟩
    refine codeAny_mono ((F _ hKb (nsK hns) hCB (let ⟨_, z⟩ := hsy; let ⟨o, _, _, e, _⟩ := nsK z; ⟨o, e⟩) hBM).run callerA [] s₁ H ⟨[.ref a], []⟩ [.ref a] [.ref a] _ _ rfl hr e0 (hbind s₁ (.ref a)) (.cons rfl .nil) (hsp H (fun y hy => hHP y.2 ⟨y, hy, rfl⟩) hS)) fun r s' h => ?_
    cases r with
    | error e => exact False.elim h
    | ok fl =>
      cases fl with
      | next => exact False.elim h
      | brk => exact False.elim h
      | cont => exact False.elim h
      | ret u =>
        obtain ⟨v, H', os, bare0, un, hok', r', q⟩ := h
        have bare := bare0 (.of_eq hg)
        obtain ⟨q', qP⟩ := q
        subst q'
        obtain rfl : u = Value.bool true := r'
        have keep : ∀ b o, ¬ Ps b → s₁.heap.get? b = some o → s'.heap.get? b = some o := fun b o hbP e => by
          cases q : H b with
          | none => exact un.keep b o e q (by intro z; exact absurd (show b ∈ ([] : List Addr) from z) (by simp)) (by simp)
          | some u =>
            rcases hO b hbP with z | ⟨ob, xs, z⟩
            · rw [q] at z; cases z
            · have z2 := un.frzs b ob _ z
              obtain ⟨e1, _⟩ := hok b _ z
              obtain ⟨e2, _⟩ := hok' b _ z2
              rw [e] at e1; cases e1
              exact e2
        refine ⟨rfl, ⟨fun b o e => ?_, fun b o e => ?_⟩, os, bare⟩
        · by_cases hbP : Ps b
          · obtain ⟨y, hy, rfl⟩ := hbP
            obtain ⟨ps, eP, _⟩ := (show ObjOk Pg w H' s'.heap y.2 (.ext (TbP y.2)) from hok' y.2 _ (qP y hy)).1
            rw [(TA y hy).2] at e
            cases e
            exact .inr (.inl ⟨(TA y hy).isCodeTable, rfl, #[], ps, rfl, by rw [eP]; simp⟩)
          · exact .inl (keep b o hbP e)
        · by_cases hbP : Ps b
          · obtain ⟨y, hy, rfl⟩ := hbP
            obtain ⟨ps, eP, _⟩ := (show ObjOk Pg w H' s'.heap y.2 (.ext (TbP y.2)) from hok' y.2 _ (qP y hy)).1
            exact ⟨_, eP⟩
          · exact ⟨o, keep b o hbP e⟩
  have okP : ∀ (H : Hp) b, Ps b → ObjOk Pg w H s₁.heap b (.ext (TbP b)) := fun H b hb => ⟨⟨#[], ePP b hb, trivial⟩, ⟨_, ePP b hb⟩, fun _ _ x k => TbP.stay x k⟩
  cases hk : K.lookup a with
  | some o =>
    have e := KX a o hk
    rw [ha] at e
    cases e
    refine core (fun b => @ite _ (Ps b) (dPs b) (some (.ext (TbP b))) none) (fun b hb => if_pos hb) (fun b hb => .inl (if_neg hb)) (.inr ⟨_, vs.toArray, _, hk, rfl, rfl, rfl, by rw [List.size_toArray, lenV]; exact hl, by simpa using rv⟩) (fun b u z => ?_) (fun b hb z => absurd (if_neg hb) z) fun z => absurd (if_neg haP) z
    by_cases hb : Ps b
    · have z' := (if_pos hb).symm.trans z
      cases z'
      exact okP _ b hb
    · have z' := (if_neg hb).symm.trans z
      cases z'
  | none =>
    refine core (fun b => @ite _ (Ps b) (dPs b) (some (.ext (TbP b))) (if b = a then some (.frz { cls := .type "list", data := .seq vs.toArray } (.lst (ns.map V.int))) else none)) (fun b hb => if_pos hb) (fun b hb => ?_) (.inl (.inr ⟨{ cls := .type "list", data := .seq vs.toArray }, (if_neg haP).trans (if_pos rfl)⟩)) (fun b u z => ?_) (fun b hb z => ?_) fun _ => hk
    · by_cases hba : b = a
      · exact .inr ⟨_, _, (if_neg hb).trans (if_pos hba)⟩
      · exact .inl ((if_neg hb).trans (if_neg hba))
    · by_cases hb : Ps b
      · have z' := (if_pos hb).symm.trans z
        cases z'
        exact okP _ b hb
      · have z1 := (if_neg hb).symm.trans z
        by_cases hba : b = a
        · have z' := (if_pos hba).symm.trans z1
          cases z'
          subst hba
          exact ⟨ha, by rw [List.length_map]; exact hl, vs, _, rv, ha⟩
        · have z' := (if_neg hba).symm.trans z1
          cases z'
    · by_cases hba : b = a
      · exact hba
      · exact absurd ((if_neg hb).trans (if_neg hba)) z

/-- the goal that k_head leaves, where two defs bear a generator expression -/
theorem walk_gen2F {l : PySem.W.OpenLaw} {k : Nat} {q : Program} {loose : List Str} {XP : (Str → Option Value) → Heap → Prop} {YP : World → Heap → Prop} {d d1 d2 : DefRec} {K : Params → PySem.W.Frag} {sp : World → Addr → Addr → Sp} {g1 g2 x : Str}
    (hni : importsNone q = true) (hn : l.most = some 63) (hdf : d.params.defaults = []) (hr : Room k callerA)
    (hY : ∀ (w : World) (h : Heap), YP w h → (K w.params).In h)
    (hf1 : (recsOf q).find? (fun e => e.name == g1) = some d1) (hf2 : (recsOf q).find? (fun e => e.name == g2) = some d2)
    (hcls : ∀ w : World, PySem.W.kb_classed (K w.params) = true)
    (F : ∀ (w : World) (mg : Str → Option Value) (fa : Addr) (h : Heap), (K w.params).In h → h.Ns mainGlobals mg → mg d.name = some (.ref fa) →
      ∃ (e1 e2 : Addr) (o1 o2 : Obj) (fd1 fd2 fd : FuncData), mg g1 = some (.ref e1) ∧ (K w.params).lookup e1 = some o1 ∧ o1.data = .func fd1 ∧ mg g2 = some (.ref e2) ∧ (K w.params).lookup e2 = some o2 ∧ o2.data = .func fd2 ∧
        (∀ (s : Shared) (u : Value), BindsTo s fd ⟨[u], []⟩ [(x, u)]) ∧
        ∀ (base : Heap) (c1 P1 c2 P2 bm : Addr) (ob : Obj), (K w.params).In base → base.Ns mainGlobals mg → fd1.code = .ref c1 → CodeB base c1 P1 → fd2.code = .ref c2 → CodeB base c2 P2 → (∃ o, base.get? sysModules = some o) → BMod base mainGlobals mg bm ob → FnF l.prog w (K w.params) mg base CX0 k fa fd [x] (sp w P1 P2))
    (hsp : ∀ (w : World) (H : Hp) (P1 P2 a : Addr) (ns : List Int), ns.length ≤ 63 → H P1 = some (.ext (TbP P1)) → H P2 = some (.ext (TbP P2)) → SqL (K w.params) H a (ns.map V.int) →
      sp w P1 P2 [.ref a] H (fun v H' => v = .bl true ∧ H' P1 = some (.ext (TbP P1)) ∧ H' P2 = some (.ext (TbP P2))) fun _ _ _ => False)
    (hmono : ∀ (w : World) (H : Hp) (P1 P2 : Addr) (vs : List V) (Q Q' : VK) (E : XK), (∀ v H', Q v H' → Q' v H') → sp w P1 P2 vs H Q E → sp w P1 P2 vs H Q' E) :
    PySem.W.WalkO q loose XP YP l.row.toRowW d [] (fun f vs => PySem.call f vs) := by
  refine Att.attach_call hn hdf fun w s₀ s₁ mg mb fa o pm cd doc a vs ns G Y ho hd hcd hmg hobj hints hlen hg => ?_
  have KX := hY w _ Y
  obtain ⟨e1, e2, o1, o2, fd1, fd2, fd, m1, l1, t1, m2, l2, t2, hb, hF⟩ := F w mg fa _ KX G.T.g hmg
  obtain ⟨bm, ob, M⟩ := PySem.W.bmod_of_top G.T
  have one : ∀ {g : Str} {dg : DefRec} {e : Addr} {og : Obj} {fdg : FuncData}, (recsOf q).find? (fun e => e.name == g) = some dg → mg g = some (.ref e) → (K w.params).lookup e = some og → og.data = .func fdg →
      ∃ c P, fdg.code = .ref c ∧ CodeB s₁.heap c P ∧ s₁.heap.TableAt c P #[] ∧ (K w.params).lookup P = none := by
    intro g dg e og fdg hfind mg1 lk hdat
    obtain ⟨c, P, ec, B⟩ := PySem.W.based_of_top G.T hfind mg1 (KX _ _ lk) hdat
    have TA : s₁.heap.TableAt c P #[] := B.tab
    refine ⟨c, P, ec, ?_, TA, ?_⟩
    · obtain ⟨o', us, file, tf, flags, tg, inF, text, tt, op, e, r1, r2, r3, r4, r5, r6, _, _, _, ne⟩ := B.code
      obtain ⟨⟨o2, us2, e2, hc2, hd2, h112⟩, _⟩ := B.tab
      rw [e] at e2
      cases e2
      rw [r1] at hd2
      cases hd2
      exact ⟨⟨o', us, file, tf, flags, tg, inF, text, tt, e, hc2, r1, r2, h112, r3, r4, r5, r6⟩, ne⟩
    · cases q : (K w.params).lookup P with
      | none => rfl
      | some o' =>
        have e := KX P o' q
        have z := List.all_eq_true.mp (hcls w) (P, o') (PySem.W.kb_mem q)
        rw [TA.2] at e
        cases e
        simp only [Bool.or_eq_true, decide_eq_true_eq, beq_iff_eq] at z
        rcases z with (z | z) | z
        · exact absurd rfl z
        · exact absurd z B.notStatics
        · exact absurd z.symm (B.ne_of_ns G.T.g)
  obtain ⟨c1, P1, ec1, CB1, TA1, KP1⟩ := one hf1 m1 l1 t1
  obtain ⟨c2, P2, ec2, CB2, TA2, KP2⟩ := one hf2 m2 l2 t2
  have each : ∀ {R : Addr × Addr → Prop}, R (c1, P1) → R (c2, P2) → ∀ e ∈ [(c1, P1), (c2, P2)], R e := by
    intro R r1 r2 e he
    rcases List.mem_cons.mp he with rfl | he
    · exact r1
    rcases List.mem_cons.mp he with rfl | he
    · exact r2
    cases he
  refine law_callTsF (hsy := by obtain ⟨mm, z, _⟩ := (G.T.seer hni).mods; exact ⟨mm, z⟩) (cps := [(c1, P1), (c2, P2)]) KX G.T.g G.T.b G.T.builtins G.T.nolimit hg hobj hints (Nat.le_trans hlen (by decide)) hr (each CB1 CB2) (each TA1 TA2) M (each KP1 KP2)
    (fun base k1 k2 k3 ks k4 => hF base c1 P1 c2 P2 bm ob k1 k2 ec1 (k3 (c1, P1) (by simp)) ec2 (k3 (c2, P2) (by simp)) ks k4) hb (fun H hP hS => ?_)
  exact hmono _ _ _ _ _ _ _ _ (fun v H' ⟨a, b1, b2⟩ => ⟨a, each b1 b2⟩) (hsp w H P1 P2 a ns hlen (hP (c1, P1) (by simp)) (hP (c2, P2) (by simp)) hS)
end Ob

set_option maxHeartbeats 4000000
namespace Pg
open PySem PySem.Spec PyProof.Rows L2 Ob
abbrev lawK : Nat := 9
theorem all_mk {l : PySem.W.OpenLaw} {w : World} {K : PySem.W.Frag} {h : Heap} {mg : Str → Option Value} {fa f1 f2 f3 f4 f5 f6 f7 f8 f9 f10 f11 f12 f13 f14 f15 f16 f17 f18 f19 f20 f21 f22 f23 f24 f25 f26 f27 f28 f29 f30 f31 f32 f33 : Addr} (X : K.In h) (G : h.Ns mainGlobals mg) (hfa : mg "law" = some (.ref fa))
    {od1 an1 od2 an2 od3 an3 od4 an4 od5 an5 od6 an6 od7 an7 od8 an8 od9 an9 od10 an10 od11 an11 od12 an12 od13 an13 od14 an14 od15 an15 od16 an16 od17 an17 od18 an18 od19 an19 od20 an20 od21 an21 od22 an22 od23 an23 od24 an24 od25 an25 od26 an26 od27 an27 od28 an28 od29 an29 od30 an30 od31 an31 od32 an32 od33 an33 : Option Addr} {sl1 sl2 sl3 sl4 sl5 sl6 sl7 sl8 sl9 sl10 sl11 sl12 sl13 sl14 sl15 sl16 sl17 sl18 sl19 sl20 sl21 sl22 sl23 sl24 sl25 sl26 sl27 sl28 sl29 sl30 sl31 sl32 sl33 : Array (Option Value)} {oc1 kV1 dc1 pm1 cd1 ct1 oc2 kV2 dc2 pm2 cd2 ct2 oc3 kV3 dc3 pm3 cd3 ct3 oc4 kV4 dc4 pm4 cd4 ct4 oc5 kV5 dc5 pm5 cd5 ct5 oc6 kV6 dc6 pm6 cd6 ct6 oc7 kV7 dc7 pm7 cd7 ct7 oc8 kV8 dc8 pm8 cd8 ct8 oc9 kV9 dc9 pm9 cd9 ct9 oc10 kV10 dc10 pm10 cd10 ct10 oc11 kV11 dc11 pm11 cd11 ct11 oc12 kV12 dc12 pm12 cd12 ct12 oc13 kV13 dc13 pm13 cd13 ct13 oc14 kV14 dc14 pm14 cd14 ct14 oc15 kV15 dc15 pm15 cd15 ct15 oc16 kV16 dc16 pm16 cd16 ct16 oc17 kV17 dc17 pm17 cd17 ct17 oc18 kV18 dc18 pm18 cd18 ct18 oc19 kV19 dc19 pm19 cd19 ct19 oc20 kV20 dc20 pm20 cd20 ct20 oc21 kV21 dc21 pm21 cd21 ct21 oc22 kV22 dc22 pm22 cd22 ct22 oc23 kV23 dc23 pm23 cd23 ct23 oc24 kV24 dc24 pm24 cd24 ct24 oc25 kV25 dc25 pm25 cd25 ct25 oc26 kV26 dc26 pm26 cd26 ct26 oc27 kV27 dc27 pm27 cd27 ct27 oc28 kV28 dc28 pm28 cd28 ct28 oc29 kV29 dc29 pm29 cd29 ct29 oc30 kV30 dc30 pm30 cd30 ct30 oc31 kV31 dc31 pm31 cd31 ct31 oc32 kV32 dc32 pm32 cd32 ct32 oc33 kV33 dc33 pm33 cd33 ct33 : Value} {tm : Tok}
    (a1 : PySem.W.nsIn K mainGlobals "is_whole" = some (some (.ref f1))) (l1 : K.lookup f1 = some ⟨oc1, od1, .func (PySem.W.fnOf "is_whole" "is_whole" (defArgs sWhole) (defBody sWhole) (defScope sWhole) .none kV1 dc1 pm1 an1 cd1 ct1), sl1⟩) (c1 : PySem.W.codeIn K cd1 "is_whole" = true) (k1 : PySem.W.keepIn K (.ref f1) = true)
    (a2 : PySem.W.nsIn K mainGlobals "greatest_divisor" = some (some (.ref f2))) (l2 : K.lookup f2 = some ⟨oc2, od2, .func (PySem.W.fnOf "greatest_divisor" "greatest_divisor" (defArgs sGcd) (defBody sGcd) (defScope sGcd) .none kV2 dc2 pm2 an2 cd2 ct2), sl2⟩) (c2 : PySem.W.codeIn K cd2 "greatest_divisor" = true) (k2 : PySem.W.keepIn K (.ref f2) = true)
    (a3 : PySem.W.nsIn K mainGlobals "in_least_numbers" = some (some (.ref f3))) (l3 : K.lookup f3 = some ⟨oc3, od3, .func (PySem.W.fnOf "in_least_numbers" "in_least_numbers" (defArgs sLeast) (defBody sLeast) (defScope sLeast) .none kV3 dc3 pm3 an3 cd3 ct3), sl3⟩) (c3 : PySem.W.codeIn K cd3 "in_least_numbers" = true) (k3 : PySem.W.keepIn K (.ref f3) = true)
    (a4 : PySem.W.nsIn K mainGlobals "is_list_of_row_length" = some (some (.ref f4))) (l4 : K.lookup f4 = some ⟨oc4, od4, .func (PySem.W.fnOf "is_list_of_row_length" "is_list_of_row_length" (defArgs sLen) (defBody sLen) (defScope sLen) .none kV4 dc4 pm4 an4 cd4 ct4), sl4⟩) (c4 : PySem.W.codeIn K cd4 "is_list_of_row_length" = true) (k4 : PySem.W.keepIn K (.ref f4) = true)
    (a5 : PySem.W.nsIn K mainGlobals "is_row" = some (some (.ref f5))) (l5 : K.lookup f5 = some ⟨oc5, od5, .func (PySem.W.fnOf "is_row" "is_row" (defArgs sIsRow) (defBody sIsRow) (defScope sIsRow) .none kV5 dc5 pm5 an5 cd5 ct5), sl5⟩) (c5 : PySem.W.codeIn K cd5 "is_row" = true) (k5 : PySem.W.keepIn K (.ref f5) = true)
    (a6 : PySem.W.nsIn K mainGlobals "check_row" = some (some (.ref f6))) (l6 : K.lookup f6 = some ⟨oc6, od6, .func (PySem.W.fnOf "check_row" "check_row" (defArgs sCheck) (defBody sCheck) (defScope sCheck) .none kV6 dc6 pm6 an6 cd6 ct6), sl6⟩) (c6 : PySem.W.codeIn K cd6 "check_row" = true) (k6 : PySem.W.keepIn K (.ref f6) = true)
    (a7 : PySem.W.nsIn K mainGlobals "differences" = some (some (.ref f7))) (l7 : K.lookup f7 = some ⟨oc7, od7, .func (PySem.W.fnOf "differences" "differences" (defArgs sDiff) (defBody sDiff) (defScope sDiff) .none kV7 dc7 pm7 an7 cd7 ct7), sl7⟩) (c7 : PySem.W.codeIn K cd7 "differences" = true) (k7 : PySem.W.keepIn K (.ref f7) = true)
    (a8 : PySem.W.nsIn K mainGlobals "check_not_many" = some (some (.ref f8))) (l8 : K.lookup f8 = some ⟨oc8, od8, .func (PySem.W.fnOf "check_not_many" "check_not_many" (defArgs sNMany) (defBody sNMany) (defScope sNMany) .none kV8 dc8 pm8 an8 cd8 ct8), sl8⟩) (c8 : PySem.W.codeIn K cd8 "check_not_many" = true) (k8 : PySem.W.keepIn K (.ref f8) = true)
    (a9 : PySem.W.nsIn K mainGlobals "inner_places" = some (some (.ref f9))) (l9 : K.lookup f9 = some ⟨oc9, od9, .func (PySem.W.fnOf "inner_places" "inner_places" (defArgs sInner) (defBody sInner) (defScope sInner) .none kV9 dc9 pm9 an9 cd9 ct9), sl9⟩) (c9 : PySem.W.codeIn K cd9 "inner_places" = true) (k9 : PySem.W.keepIn K (.ref f9) = true)
    (a10 : PySem.W.nsIn K mainGlobals "prices_of_weights" = some (some (.ref f10))) (l10 : K.lookup f10 = some ⟨oc10, od10, .func (PySem.W.fnOf "prices_of_weights" "prices_of_weights" (defArgs sPOW) (defBody sPOW) (defScope sPOW) .none kV10 dc10 pm10 an10 cd10 ct10), sl10⟩) (c10 : PySem.W.codeIn K cd10 "prices_of_weights" = true) (k10 : PySem.W.keepIn K (.ref f10) = true)
    (a11 : PySem.W.nsIn K mainGlobals "put_to_bend" = some (some (.ref f11))) (l11 : K.lookup f11 = some ⟨oc11, od11, .func (PySem.W.fnOf "put_to_bend" "put_to_bend" (defArgs sPut) (defBody sPut) (defScope sPut) .none kV11 dc11 pm11 an11 cd11 ct11), sl11⟩) (c11 : PySem.W.codeIn K cd11 "put_to_bend" = true) (k11 : PySem.W.keepIn K (.ref f11) = true)
    (a12 : PySem.W.nsIn K mainGlobals "table_of_weights" = some (some (.ref f12))) (l12 : K.lookup f12 = some ⟨oc12, od12, .func (PySem.W.fnOf "table_of_weights" "table_of_weights" (defArgs sTblW) (defBody sTblW) (defScope sTblW) .none kV12 dc12 pm12 an12 cd12 ct12), sl12⟩) (c12 : PySem.W.codeIn K cd12 "table_of_weights" = true) (k12 : PySem.W.keepIn K (.ref f12) = true)
    (a13 : PySem.W.nsIn K mainGlobals "is_amiss" = some (some (.ref f13))) (l13 : K.lookup f13 = some ⟨oc13, od13, .func (PySem.W.fnOf "is_amiss" "is_amiss" (defArgs sAmiss) (defBody sAmiss) (defScope sAmiss) .none kV13 dc13 pm13 an13 cd13 ct13), sl13⟩) (c13 : PySem.W.codeIn K cd13 "is_amiss" = true) (k13 : PySem.W.keepIn K (.ref f13) = true)
    (a14 : PySem.W.nsIn K mainGlobals "first_amiss" = some (some (.ref f14))) (l14 : K.lookup f14 = some ⟨oc14, od14, .func (PySem.W.fnOf "first_amiss" "first_amiss" (defArgs sFirstA) (defBody sFirstA) (defScope sFirstA) .none kV14 dc14 pm14 an14 cd14 ct14), sl14⟩) (c14 : PySem.W.codeIn K cd14 "first_amiss" = true) (k14 : PySem.W.keepIn K (.ref f14) = true)
    (a15 : PySem.W.nsIn K mainGlobals "put_right" = some (some (.ref f15))) (l15 : K.lookup f15 = some ⟨oc15, od15, .func (PySem.W.fnOf "put_right" "put_right" (defArgs sRight2) (defBody sRight2) (defScope sRight2) .none kV15 dc15 pm15 an15 cd15 ct15), sl15⟩) (c15 : PySem.W.codeIn K cd15 "put_right" = true) (k15 : PySem.W.keepIn K (.ref f15) = true)
    (a16 : PySem.W.nsIn K mainGlobals "nearest_by_squares" = some (some (.ref f16))) (l16 : K.lookup f16 = some ⟨oc16, od16, .func (PySem.W.fnOf "nearest_by_squares" "nearest_by_squares" (defArgs sNS) (defBody sNS) (defScope sNS) .none kV16 dc16 pm16 an16 cd16 ct16), sl16⟩) (c16 : PySem.W.codeIn K cd16 "nearest_by_squares" = true) (k16 : PySem.W.keepIn K (.ref f16) = true)
    (a17 : PySem.W.nsIn K mainGlobals "_law_cell_at" = some (some (.ref f17))) (l17 : K.lookup f17 = some ⟨oc17, od17, .func (PySem.W.fnOf "_law_cell_at" "_law_cell_at" (defArgs sCellAt) (defBody sCellAt) (defScope sCellAt) .none kV17 dc17 pm17 an17 cd17 ct17), sl17⟩) (c17 : PySem.W.codeIn K cd17 "_law_cell_at" = true) (k17 : PySem.W.keepIn K (.ref f17) = true)
    (a18 : PySem.W.nsIn K mainGlobals "_law_stir" = some (some (.ref f18))) (l18 : K.lookup f18 = some ⟨oc18, od18, .func (PySem.W.fnOf "_law_stir" "_law_stir" (defArgs sStir) (defBody sStir) (defScope sStir) .none kV18 dc18 pm18 an18 cd18 ct18), sl18⟩) (c18 : PySem.W.codeIn K cd18 "_law_stir" = true) (k18 : PySem.W.keepIn K (.ref f18) = true)
    (a19 : PySem.W.nsIn K mainGlobals "_law_deck" = some (some (.ref f19))) (l19 : K.lookup f19 = some ⟨oc19, od19, .func (PySem.W.fnOf "_law_deck" "_law_deck" (defArgs sDeck) (defBody sDeck) (defScope sDeck) .none kV19 dc19 pm19 an19 cd19 ct19), sl19⟩) (c19 : PySem.W.codeIn K cd19 "_law_deck" = true) (k19 : PySem.W.keepIn K (.ref f19) = true)
    (a20 : PySem.W.nsIn K mainGlobals "_law_next" = some (some (.ref f20))) (l20 : K.lookup f20 = some ⟨oc20, od20, .func (PySem.W.fnOf "_law_next" "_law_next" (defArgs sLNext) (defBody sLNext) (defScope sLNext) .none kV20 dc20 pm20 an20 cd20 ct20), sl20⟩) (c20 : PySem.W.codeIn K cd20 "_law_next" = true) (k20 : PySem.W.keepIn K (.ref f20) = true)
    (a21 : PySem.W.nsIn K mainGlobals "_law_far" = some (some (.ref f21))) (l21 : K.lookup f21 = some ⟨oc21, od21, .func (PySem.W.fnOf "_law_far" "_law_far" (defArgs sFar) (defBody sFar) (defScope sFar) .none kV21 dc21 pm21 an21 cd21 ct21), sl21⟩) (c21 : PySem.W.codeIn K cd21 "_law_far" = true) (k21 : PySem.W.keepIn K (.ref f21) = true)
    (a22 : PySem.W.nsIn K mainGlobals "_law_bent" = some (some (.ref f22))) (l22 : K.lookup f22 = some ⟨oc22, od22, .func (PySem.W.fnOf "_law_bent" "_law_bent" (defArgs sBent) (defBody sBent) (defScope sBent) .none kV22 dc22 pm22 an22 cd22 ct22), sl22⟩) (c22 : PySem.W.codeIn K cd22 "_law_bent" = true) (k22 : PySem.W.keepIn K (.ref f22) = true)
    (a23 : PySem.W.nsIn K mainGlobals "_law_row" = some (some (.ref f23))) (l23 : K.lookup f23 = some ⟨oc23, od23, .func (PySem.W.fnOf "_law_row" "_law_row" (defArgs sRow) (defBody sRow) (defScope sRow) .none kV23 dc23 pm23 an23 cd23 ct23), sl23⟩) (c23 : PySem.W.codeIn K cd23 "_law_row" = true) (k23 : PySem.W.keepIn K (.ref f23) = true)
    (a24 : PySem.W.nsIn K mainGlobals "_law_whole" = some (some (.ref f24))) (l24 : K.lookup f24 = some ⟨oc24, od24, .func (PySem.W.fnOf "_law_whole" "_law_whole" (defArgs sLWhole) (defBody sLWhole) (defScope sLWhole) .none kV24 dc24 pm24 an24 cd24 ct24), sl24⟩) (c24 : PySem.W.codeIn K cd24 "_law_whole" = true) (k24 : PySem.W.keepIn K (.ref f24) = true)
    (a25 : PySem.W.nsIn K mainGlobals "_law_divisor" = some (some (.ref f25))) (l25 : K.lookup f25 = some ⟨oc25, od25, .func (PySem.W.fnOf "_law_divisor" "_law_divisor" (defArgs sLDiv) (defBody sLDiv) (defScope sLDiv) .none kV25 dc25 pm25 an25 cd25 ct25), sl25⟩) (c25 : PySem.W.codeIn K cd25 "_law_divisor" = true) (k25 : PySem.W.keepIn K (.ref f25) = true)
    (a26 : PySem.W.nsIn K mainGlobals "_law_is_fraction" = some (some (.ref f26))) (l26 : K.lookup f26 = some ⟨oc26, od26, .func (PySem.W.fnOf "_law_is_fraction" "_law_is_fraction" (defArgs sLIsFr) (defBody sLIsFr) (defScope sLIsFr) .none kV26 dc26 pm26 an26 cd26 ct26), sl26⟩) (c26 : PySem.W.codeIn K cd26 "_law_is_fraction" = true) (k26 : PySem.W.keepIn K (.ref f26) = true)
    (a27 : PySem.W.nsIn K mainGlobals "_law_are_fractions" = some (some (.ref f27))) (l27 : K.lookup f27 = some ⟨oc27, od27, .func (PySem.W.fnOf "_law_are_fractions" "_law_are_fractions" (defArgs sLAreFr) (defBody sLAreFr) (defScope sLAreFr) .none kV27 dc27 pm27 an27 cd27 ct27), sl27⟩) (c27 : PySem.W.codeIn K cd27 "_law_are_fractions" = true) (k27 : PySem.W.keepIn K (.ref f27) = true)
    (a28 : PySem.W.nsIn K mainGlobals "_law_fraction" = some (some (.ref f28))) (l28 : K.lookup f28 = some ⟨oc28, od28, .func (PySem.W.fnOf "_law_fraction" "_law_fraction" (defArgs sFraction) (defBody sFraction) (defScope sFraction) .none kV28 dc28 pm28 an28 cd28 ct28), sl28⟩) (c28 : PySem.W.codeIn K cd28 "_law_fraction" = true) (k28 : PySem.W.keepIn K (.ref f28) = true)
    (a29 : PySem.W.nsIn K mainGlobals "_law_one_bottom" = some (some (.ref f29))) (l29 : K.lookup f29 = some ⟨oc29, od29, .func (PySem.W.fnOf "_law_one_bottom" "_law_one_bottom" (defArgs sOneB) (defBody sOneB) (defScope sOneB) .none kV29 dc29 pm29 an29 cd29 ct29), sl29⟩) (c29 : PySem.W.codeIn K cd29 "_law_one_bottom" = true) (k29 : PySem.W.keepIn K (.ref f29) = true)
    (a30 : PySem.W.nsIn K mainGlobals "_law_bends_one_way" = some (some (.ref f30))) (l30 : K.lookup f30 = some ⟨oc30, od30, .func (PySem.W.fnOf "_law_bends_one_way" "_law_bends_one_way" (defArgs sLB1) (defBody sLB1) (defScope sLB1) .none kV30 dc30 pm30 an30 cd30 ct30), sl30⟩) (c30 : PySem.W.codeIn K cd30 "_law_bends_one_way" = true) (k30 : PySem.W.keepIn K (.ref f30) = true)
    (a31 : PySem.W.nsIn K mainGlobals "_law_show" = some (some (.ref f31))) (l31 : K.lookup f31 = some ⟨oc31, od31, .func (PySem.W.fnOf "_law_show" "_law_show" (defArgs sLShow) (defBody sLShow) (defScope sLShow) .none kV31 dc31 pm31 an31 cd31 ct31), sl31⟩) (c31 : PySem.W.codeIn K cd31 "_law_show" = true) (k31 : PySem.W.keepIn K (.ref f31) = true)
    (a32 : PySem.W.nsIn K mainGlobals "_law_right" = some (some (.ref f32))) (l32 : K.lookup f32 = some ⟨oc32, od32, .func (PySem.W.fnOf "_law_right" "_law_right" (defArgs sRight) (defBody sRight) (defScope sRight) .none kV32 dc32 pm32 an32 cd32 ct32), sl32⟩) (c32 : PySem.W.codeIn K cd32 "_law_right" = true) (k32 : PySem.W.keepIn K (.ref f32) = true)
    (a33 : PySem.W.nsIn K mainGlobals "law" = some (some (.ref f33))) (l33 : K.lookup f33 = some ⟨oc33, od33, .func (PySem.W.fnOf "law" "law" (defArgs sLaw) (defBody sLaw) (defScope sLaw) .none kV33 dc33 pm33 an33 cd33 ct33), sl33⟩) (c33 : PySem.W.codeIn K cd33 "law" = true) (k33 : PySem.W.keepIn K (.ref f33) = true)
    (z1 : PySem.W.nsIn K mainGlobals "isinstance" = some none)
    (z2 : PySem.W.nsIn K mainGlobals "int" = some none)
    (z3 : PySem.W.nsIn K mainGlobals "bool" = some none)
    (z4 : PySem.W.nsIn K mainGlobals "list" = some none)
    (z5 : PySem.W.nsIn K mainGlobals "len" = some none)
    (z6 : PySem.W.nsIn K mainGlobals "all" = some none)
    (z7 : PySem.W.nsIn K mainGlobals "range" = some none)
    (z8 : PySem.W.nsIn K mainGlobals "min" = some none)
    (z9 : PySem.W.nsIn K mainGlobals "max" = some none)
    (z10 : PySem.W.nsIn K mainGlobals "sorted" = some none)
    (z11 : PySem.W.nsIn K mainGlobals "zip" = some none)
    (z12 : PySem.W.nsIn K mainGlobals "enumerate" = some none)
    (z13 : PySem.W.nsIn K mainGlobals "abs" = some none)
    (z14 : PySem.W.nsIn K mainGlobals "tuple" = some none)
    (z15 : PySem.W.nsIn K mainGlobals "sum" = some none)
    (z16 : PySem.W.nsIn K mainGlobals "repr" = some none)
    {C fK1 fK2 fK3 fK4 : Addr} {odK1 anK1 odK2 anK2 odK3 anK3 odK4 anK4 : Option Addr} {slK1 slK2 slK3 slK4 : Array (Option Value)} {ocK1 kVK1 dcK1 pmK1 cdK1 ctK1 ocK2 kVK2 dcK2 pmK2 cdK2 ctK2 ocK3 kVK3 dcK3 pmK3 cdK3 ctK3 ocK4 kVK4 dcK4 pmK4 cdK4 ctK4 : Value} {fP : Addr} {t8 tw tlb tp1 tp2 tp3 : Tok} {odP : Option Addr} {nP : Nat} {slP : Array (Option Value)}
    (aC : PySem.W.nsIn K mainGlobals "Table" = some (some (.ref C)))
    (aK1 : PySem.W.findIn K (.ref C) "__init__" = some (some (.ref fK1)))
    (iK1 : PySem.W.isFn K (.ref fK1) = true)
    (lK1 : K.lookup fK1 = some ⟨ocK1, odK1, .func (PySem.W.fnOf "__init__" "Table.__init__" (defArgs sTInit) (defBody sTInit) (defScope sTInit) .none kVK1 dcK1 pmK1 anK1 cdK1 ctK1), slK1⟩)
    (cK1 : PySem.W.codeIn K cdK1 "Table.__init__" = true)
    (kK1 : PySem.W.keepIn K (.ref fK1) = true)
    (aK2 : PySem.W.findIn K (.ref C) "exchange" = some (some (.ref fK2)))
    (iK2 : PySem.W.isFn K (.ref fK2) = true)
    (lK2 : K.lookup fK2 = some ⟨ocK2, odK2, .func (PySem.W.fnOf "exchange" "Table.exchange" (defArgs sTEx) (defBody sTEx) (defScope sTEx) .none kVK2 dcK2 pmK2 anK2 cdK2 ctK2), slK2⟩)
    (cK2 : PySem.W.codeIn K cdK2 "Table.exchange" = true)
    (kK2 : PySem.W.keepIn K (.ref fK2) = true)
    (aK3 : PySem.W.findIn K (.ref C) "without" = some (some (.ref fK3)))
    (iK3 : PySem.W.isFn K (.ref fK3) = true)
    (lK3 : K.lookup fK3 = some ⟨ocK3, odK3, .func (PySem.W.fnOf "without" "Table.without" (defArgs sTWo) (defBody sTWo) (defScope sTWo) .none kVK3 dcK3 pmK3 anK3 cdK3 ctK3), slK3⟩)
    (cK3 : PySem.W.codeIn K cdK3 "Table.without" = true)
    (kK3 : PySem.W.keepIn K (.ref fK3) = true)
    (aK4 : PySem.W.findIn K (.ref C) "amounts" = some (some (.ref fK4)))
    (iK4 : PySem.W.isFn K (.ref fK4) = true)
    (lK4 : K.lookup fK4 = some ⟨ocK4, odK4, .func (PySem.W.fnOf "amounts" "Table.amounts" (defArgs sTAm) (defBody sTAm) (defScope sTAm) .none kVK4 dcK4 pmK4 anK4 cdK4 ctK4), slK4⟩)
    (cK4 : PySem.W.codeIn K cdK4 "Table.amounts" = true)
    (kK4 : PySem.W.keepIn K (.ref fK4) = true)
    (pgC : PySem.W.plainGet K C Str.empty = true)
    (hdC : PySem.W.hasDictIn K C = true)
    (poC : PySem.W.plainOver K C = true)
    (saC : PySem.W.findIn K (.ref C) "__setattr__" = some (some (.builtin "object.__setattr__")))
    (mkC : PySem.W.makesIn K C = true)
    (kcC : PySem.W.keepIn K (.ref C) = true)
    (n_lines : PySem.W.findIn K (.ref C) "lines" = some none)
    (n_beside : PySem.W.findIn K (.ref C) "beside" = some none)
    (n_atop : PySem.W.findIn K (.ref C) "atop" = some none)
    (n_bottom : PySem.W.findIn K (.ref C) "bottom" = some none)
    (g8 : PySem.W.nsIn K mainGlobals "MOST_IN_A_SUM" = some (some (.int 8 t8)))
    (gw : PySem.W.nsIn K mainGlobals "WEIGHT" = some (some (.int 0 tw)))
    (gl : PySem.W.nsIn K mainGlobals "LESS_BEND" = some (some (.int 1 tlb)))
    (gp : PySem.W.nsIn K mainGlobals "PUT_TO_BENDS" = some (some (.ref fP)))
    (lP : K.lookup fP = some ⟨.type "tuple", odP, .seq #[.int 6 tp1, .int (-4) tp2, .int 1 tp3] nP, slP⟩)
    (zm : PySem.W.nsIn K mainGlobals "MOST_NUMBERS" = some (some (.int 12 tm))) :
    ∃ (e1 e2 : Addr) (o1 o2 : Obj) (fd1 fd2 fd : FuncData), mg "is_row" = some (.ref e1) ∧ K.lookup e1 = some o1 ∧ o1.data = .func fd1 ∧ mg "nearest_by_squares" = some (.ref e2) ∧ K.lookup e2 = some o2 ∧ o2.data = .func fd2 ∧ (∀ (s : Shared) (v : Value), BindsTo s fd ⟨[v], []⟩ [("script", v)]) ∧
      ∀ (base : Heap) (q1 P1 q2 P2 bm : Addr) (ob : Obj), K.In base → base.Ns mainGlobals mg → fd1.code = .ref q1 → CodeB base q1 P1 → fd2.code = .ref q2 → CodeB base q2 P2 → (∃ o, base.get? sysModules = some o) → BMod base mainGlobals mg bm ob → FnF l.prog w K mg base CX0 9 fa fd ["script"] (spLaw53 K P1 P2) := by
  have e := hfa.symm.trans (PySem.W.mg_of X G a33)
  cases e
  have T : Tx mg := ⟨PySem.W.mg_none_of X G z1, PySem.W.mg_none_of X G z2, PySem.W.mg_none_of X G z3, PySem.W.mg_none_of X G z4, PySem.W.mg_none_of X G z5, PySem.W.mg_none_of X G z6, PySem.W.mg_none_of X G z7, PySem.W.mg_none_of X G z8, PySem.W.mg_none_of X G z9, PySem.W.mg_none_of X G z10, PySem.W.mg_none_of X G z11, PySem.W.mg_none_of X G z12, tm, PySem.W.mg_of X G zm⟩
  have F1 := fun_mk (st := sWhole) l1 c1 k1
  have b1 := F1.binds (ps := ["thing"]) fun _ _ _ _ _ _ us hl => match us, hl with | [_], _ => rfl
  have M1 := PySem.W.mg_of X G a1
  have F2 := fun_mk (st := sGcd) l2 c2 k2
  have b2 := F2.binds (ps := ["one", "other"]) fun _ _ _ _ _ _ us hl => match us, hl with | [_, _], _ => rfl
  have M2 := PySem.W.mg_of X G a2
  have F3 := fun_mk (st := sLeast) l3 c3 k3
  have b3 := F3.binds (ps := ["top", "bottom"]) fun _ _ _ _ _ _ us hl => match us, hl with | [_, _], _ => rfl
  have M3 := PySem.W.mg_of X G a3
  have F4 := fun_mk (st := sLen) l4 c4 k4
  have b4 := F4.binds (ps := ["thing"]) fun _ _ _ _ _ _ us hl => match us, hl with | [_], _ => rfl
  have M4 := PySem.W.mg_of X G a4
  have F5 := fun_mk (st := sIsRow) l5 c5 k5
  have b5 := F5.binds (ps := ["thing"]) fun _ _ _ _ _ _ us hl => match us, hl with | [_], _ => rfl
  have M5 := PySem.W.mg_of X G a5
  have F6 := fun_mk (st := sCheck) l6 c6 k6
  have b6 := F6.binds (ps := ["numbers"]) fun _ _ _ _ _ _ us hl => match us, hl with | [_], _ => rfl
  have M6 := PySem.W.mg_of X G a6
  have F7 := fun_mk (st := sDiff) l7 c7 k7
  have b7 := F7.binds (ps := ["numbers"]) fun _ _ _ _ _ _ us hl => match us, hl with | [_], _ => rfl
  have M7 := PySem.W.mg_of X G a7
  have F8 := fun_mk (st := sNMany) l8 c8 k8
  have b8 := F8.binds (ps := ["numbers"]) fun _ _ _ _ _ _ us hl => match us, hl with | [_], _ => rfl
  have M8 := PySem.W.mg_of X G a8
  have F9 := fun_mk (st := sInner) l9 c9 k9
  have b9 := F9.binds (ps := ["numbers"]) fun _ _ _ _ _ _ us hl => match us, hl with | [_], _ => rfl
  have M9 := PySem.W.mg_of X G a9
  have F10 := fun_mk (st := sPOW) l10 c10 k10
  have b10 := F10.binds (ps := ["table", "many"]) fun _ _ _ _ _ _ us hl => match us, hl with | [_, _], _ => rfl
  have M10 := PySem.W.mg_of X G a10
  have F11 := fun_mk (st := sPut) l11 c11 k11
  have b11 := F11.binds (ps := ["place", "other"]) fun _ _ _ _ _ _ us hl => match us, hl with | [_, _], _ => rfl
  have M11 := PySem.W.mg_of X G a11
  have F12 := fun_mk (st := sTblW) l12 c12 k12
  have b12 := F12.binds (ps := ["numbers"]) fun _ _ _ _ _ _ us hl => match us, hl with | [_], _ => rfl
  have M12 := PySem.W.mg_of X G a12
  have F13 := fun_mk (st := sAmiss) l13 c13 k13
  have b13 := F13.binds (ps := ["name", "amount"]) fun _ _ _ _ _ _ us hl => match us, hl with | [_, _], _ => rfl
  have M13 := PySem.W.mg_of X G a13
  have F14 := fun_mk (st := sFirstA) l14 c14 k14
  have b14 := F14.binds (ps := ["table"]) fun _ _ _ _ _ _ us hl => match us, hl with | [_], _ => rfl
  have M14 := PySem.W.mg_of X G a14
  have F15 := fun_mk (st := sRight2) l15 c15 k15
  have b15 := F15.binds (ps := ["table"]) fun _ _ _ _ _ _ us hl => match us, hl with | [_], _ => rfl
  have M15 := PySem.W.mg_of X G a15
  have F16 := fun_mk (st := sNS) l16 c16 k16
  have b16 := F16.binds (ps := ["numbers"]) fun _ _ _ _ _ _ us hl => match us, hl with | [_], _ => rfl
  have M16 := PySem.W.mg_of X G a16
  have F17 := fun_mk (st := sCellAt) l17 c17 k17
  have b17 := F17.binds (ps := ["script", "k"]) fun _ _ _ _ _ _ us hl => match us, hl with | [_, _], _ => rfl
  have M17 := PySem.W.mg_of X G a17
  have F18 := fun_mk (st := sStir) l18 c18 k18
  have b18 := F18.binds (ps := ["cell", "k"]) fun _ _ _ _ _ _ us hl => match us, hl with | [_, _], _ => rfl
  have M18 := PySem.W.mg_of X G a18
  have F19 := fun_mk (st := sDeck) l19 c19 k19
  have b19 := F19.binds (ps := ["cell", "many"]) fun _ _ _ _ _ _ us hl => match us, hl with | [_, _], _ => rfl
  have M19 := PySem.W.mg_of X G a19
  have F20 := fun_mk (st := sLNext) l20 c20 k20
  have b20 := F20.binds (ps := ["deck"]) fun _ _ _ _ _ _ us hl => match us, hl with | [_], _ => rfl
  have M20 := PySem.W.mg_of X G a20
  have F21 := fun_mk (st := sFar) l21 c21 k21
  have b21 := F21.binds (ps := ["deck"]) fun _ _ _ _ _ _ us hl => match us, hl with | [_], _ => rfl
  have M21 := PySem.W.mg_of X G a21
  have F22 := fun_mk (st := sBent) l22 c22 k22
  have b22 := F22.binds (ps := ["deck", "many"]) fun _ _ _ _ _ _ us hl => match us, hl with | [_, _], _ => rfl
  have M22 := PySem.W.mg_of X G a22
  have F23 := fun_mk (st := sRow) l23 c23 k23
  have b23 := F23.binds (ps := ["deck", "most"]) fun _ _ _ _ _ _ us hl => match us, hl with | [_, _], _ => rfl
  have M23 := PySem.W.mg_of X G a23
  have F24 := fun_mk (st := sLWhole) l24 c24 k24
  have b24 := F24.binds (ps := ["thing"]) fun _ _ _ _ _ _ us hl => match us, hl with | [_], _ => rfl
  have M24 := PySem.W.mg_of X G a24
  have F25 := fun_mk (st := sLDiv) l25 c25 k25
  have b25 := F25.binds (ps := ["one", "other"]) fun _ _ _ _ _ _ us hl => match us, hl with | [_, _], _ => rfl
  have M25 := PySem.W.mg_of X G a25
  have F26 := fun_mk (st := sLIsFr) l26 c26 k26
  have b26 := F26.binds (ps := ["thing"]) fun _ _ _ _ _ _ us hl => match us, hl with | [_], _ => rfl
  have M26 := PySem.W.mg_of X G a26
  have F27 := fun_mk (st := sLAreFr) l27 c27 k27
  have b27 := F27.binds (ps := ["thing", "many"]) fun _ _ _ _ _ _ us hl => match us, hl with | [_, _], _ => rfl
  have M27 := PySem.W.mg_of X G a27
  have F28 := fun_mk (st := sFraction) l28 c28 k28
  have b28 := F28.binds (ps := ["top", "bottom"]) fun _ _ _ _ _ _ us hl => match us, hl with | [_, _], _ => rfl
  have M28 := PySem.W.mg_of X G a28
  have F29 := fun_mk (st := sOneB) l29 c29 k29
  have b29 := F29.binds (ps := ["fractions"]) fun _ _ _ _ _ _ us hl => match us, hl with | [_], _ => rfl
  have M29 := PySem.W.mg_of X G a29
  have F30 := fun_mk (st := sLB1) l30 c30 k30
  have b30 := F30.binds (ps := ["tops"]) fun _ _ _ _ _ _ us hl => match us, hl with | [_], _ => rfl
  have M30 := PySem.W.mg_of X G a30
  have F31 := fun_mk (st := sLShow) l31 c31 k31
  have b31 := F31.binds (ps := ["tops"]) fun _ _ _ _ _ _ us hl => match us, hl with | [_], _ => rfl
  have M31 := PySem.W.mg_of X G a31
  have F32 := fun_mk (st := sRight) l32 c32 k32
  have b32 := F32.binds (ps := ["numbers", "told"]) fun _ _ _ _ _ _ us hl => match us, hl with | [_, _], _ => rfl
  have M32 := PySem.W.mg_of X G a32
  have F33 := fun_mk (st := sLaw) l33 c33 k33
  have M33 := PySem.W.mg_of X G a33
  have W : WholeFn K mg f1 := ⟨⟨_, _, _, _, _, _, _, _, _, _, _, _, _, _, _, _, _, _, _, _, _, _, l1, c1, fun s u => .of_eq rfl, rfl, rfl, rfl, by decide +kernel, by decide +kernel, by decide +kernel, by decide +kernel⟩, k1, M1, T.isi, T.int, T.bool⟩
  refine ⟨f5, f16, _, _, _, _, PySem.W.fnOf "law" "law" (defArgs sLaw) (defBody sLaw) (defScope sLaw) .none kV33 dc33 pm33 an33 cd33 ct33, M5, l5, rfl, M16, l16, rfl, fun s v => .of_eq rfl, fun base q1 P1 q2 P2 bm ob _ _ hc1 CB1 hc2 CB2 hsys BM => ?_⟩
  have TK : TTk K mg C := ⟨⟨pgC, hdC, poC, saC⟩, n_lines, n_beside, n_atop, n_bottom, PySem.W.mg_of X G aC⟩
  have MK : Mk K C fK1 := ⟨mkC, aK1, iK1, kcC⟩
  have FK1 := fun_mk (st := sTInit) lK1 cK1 kK1
  have bK1 := FK1.binds (ps := ["self", "lines", "beside", "atop"]) fun _ _ _ _ _ _ us hl => match us, hl with | [_, _, _, _], _ => rfl
  have FK2 := fun_mk (st := sTEx) lK2 cK2 kK2
  have bK2 := FK2.binds (ps := ["self", "at", "column"]) fun _ _ _ _ _ _ us hl => match us, hl with | [_, _, _], _ => rfl
  have mK2 : Meth K C "exchange" fK2 := ⟨aK2, iK2, kK2⟩
  have FK3 := fun_mk (st := sTWo) lK3 cK3 kK3
  have bK3 := FK3.binds (ps := ["self", "line", "chosen", "column"]) fun _ _ _ _ _ _ us hl => match us, hl with | [_, _, _, _], _ => rfl
  have mK3 : Meth K C "without" fK3 := ⟨aK3, iK3, kK3⟩
  have FK4 := fun_mk (st := sTAm) lK4 cK4 kK4
  have bK4 := FK4.binds (ps := ["self"]) fun _ _ _ _ _ _ us hl => match us, hl with | [_], _ => rfl
  have mK4 : Meth K C "amounts" fK4 := ⟨aK4, iK4, kK4⟩
  have bmx : ∃ bm ob, BMod base mainGlobals mg bm ob := ⟨bm, ob, BM⟩
  have zabs := PySem.W.mg_none_of X G z13
  have ztup := PySem.W.mg_none_of X G z14
  have zsum := PySem.W.mg_none_of X G z15
  have zrep := PySem.W.mg_none_of X G z16
  have KP : ∀ H : Hp, SqT K H fP [.int 6, .int (-4), .int 1] := fun H => .inr ⟨_, _, _, lP, rfl, rfl, (by show 3 ≤ sizeLine; rw [sizeLine_eq]; decide), .cons (show L2.RelV (.int 6) (.int 6 tp1) from ⟨_, rfl⟩) (.cons (show L2.RelV (.int (-4)) (.int (-4) tp2) from ⟨_, rfl⟩) (.cons (show L2.RelV (.int 1) (.int 1 tp3) from ⟨_, rfl⟩) .nil))⟩
  have QG := q_gcd (P := l.prog) (w := w) (base := base) F2 zabs
  have GG := QG.fn
  have GE := ok_leastB F3 GG b2 k2 M2
  have GL := ok_len (P := l.prog) (w := w) (base := base) F4 T
  have GI := ok_isrow F5 hc1 T CB1 bmx W GL b4 k4 M4
  have GC := ok_check F6 GI b5 k5 M5
  have GD := ok_diff (P := l.prog) (w := w) (base := base) F7 T
  have GNM := ok_nmany (P := l.prog) (w := w) (base := base) F8 T (PySem.W.mg_of X G g8)
  have GIn := ok_inner (P := l.prog) (w := w) (base := base) F9 T
  have GPu := ok_putb (P := l.prog) (w := w) (base := base) F11 T zabs (PySem.W.mg_of X G gp) KP
  have GAm := ok_amiss (P := l.prog) (w := w) (base := base) F13 T (PySem.W.mg_of X G gw)
  have GFA := ok_first F14 T TK GAm b13 k13 M13
  have K1 := ok_tinit (P := l.prog) (w := w) (base := base) FK1 T TK
  have K3 := ok_without (P := l.prog) (w := w) (base := base) FK3 T TK
  have K2 := ok_exchange FK2 T TK K3 bK3 mK3
  have K4 := ok_amounts (P := l.prog) (w := w) (base := base) FK4 T TK
  have GRt := ok_right F15 TK GFA b14 k14 M14 K2 bK2 mK2
  have GTW := ok_tblw F12 T TK (PySem.W.mg_of X G gw) (PySem.W.mg_of X G gl) MK GIn b9 k9 M9 GD b7 k7 M7 GPu b11 k11 M11 K1 bK1
  have GPW := ok_pow F10 T TK (PySem.W.mg_of X G gw) K4 bK4 mK4 GD b7 k7 M7
  have GNS := ok_ns F16 hc2 T TK CB2 bmx zsum GC b6 k6 M6 GNM b8 k8 M8 GTW b12 k12 M12 GRt b15 k15 M15 GPW b10 k10 M10 GE b3 k3 M3
  have GCA := ok_cellat (P := l.prog) (w := w) (base := base) F17 T
  have GSt := ok_stir (P := l.prog) (w := w) (mg := mg) (base := base) F18
  have GDk := ok_deck F19 T GSt b18 k18 M18
  have GNx := ok_next (P := l.prog) (w := w) (mg := mg) (base := base) F20
  have GFr := ok_far F21 T GNx b20 k20 M20
  have GBt := ok_bent F22 T GNx b20 k20 M20
  have GRw := ok_row F23 T GNx b20 k20 M20 GFr b21 k21 M21 GBt b22 k22 M22
  have GLW := ok_lwhole (P := l.prog) (w := w) (base := base) F24 T
  have GLD := ok_ldiv (P := l.prog) (w := w) (base := base) F25 zabs
  have GLF := ok_lisfr F26 T ztup GLW b24 k24 M24 GLD b25 k25 M25
  have GFc := ok_lfrac F28 GLD b25 k25 M25
  have GOB := ok_oneb F29 GLD b25 k25 M25
  have GLS := ok_lshow (P := l.prog) (w := w) (base := base) F31 T zsum
  have GAF := ok_aref F27 T GLF b26 k26 M26
  have GB1 := ok_lb1 (P := l.prog) (w := w) (base := base) F30 T
  have GRi := ok_rgt F32 T zsum ztup GLF b26 k26 M26 GAF b27 k27 M27 GOB b29 k29 M29 GB1 b30 k30 M30 GLS b31 k31 M31 GFc b28 k28 M28
  exact (ok_law F33 T hsys zrep GCA b17 k17 M17 GDk b19 k19 M19 GRw b23 k23 M23 GNS b16 k16 M16 GRi b32 k32 M32).f
theorem walk {l : PySem.W.OpenLaw} {q : Program} {loose : List Str} {XP : (Str → Option Value) → Heap → Prop} {YP : World → Heap → Prop} {d d1 d2 : DefRec} {K : Params → PySem.W.Frag} (hni : importsNone q = true) (hn : l.most = some 63) (hdf : d.params.defaults = [])
    (hY : ∀ (w : World) (h : Heap), YP w h → (K w.params).In h) (hf1 : (recsOf q).find? (fun e => e.name == ("is_row" : Str)) = some d1) (hf2 : (recsOf q).find? (fun e => e.name == ("nearest_by_squares" : Str)) = some d2) (hcls : ∀ w : World, PySem.W.kb_classed (K w.params) = true)
    (F : ∀ (w : World) (mg : Str → Option Value) (fa : Addr) (h : Heap), (K w.params).In h → h.Ns mainGlobals mg → mg d.name = some (.ref fa) →
      ∃ (e1 e2 : Addr) (o1 o2 : Obj) (fd1 fd2 fd : FuncData), mg "is_row" = some (.ref e1) ∧ (K w.params).lookup e1 = some o1 ∧ o1.data = .func fd1 ∧ mg "nearest_by_squares" = some (.ref e2) ∧ (K w.params).lookup e2 = some o2 ∧ o2.data = .func fd2 ∧ (∀ (s : Shared) (u : Value), BindsTo s fd ⟨[u], []⟩ [("script", u)]) ∧
        ∀ (base : Heap) (q1 P1 q2 P2 bm : Addr) (ob : Obj), (K w.params).In base → base.Ns mainGlobals mg → fd1.code = .ref q1 → CodeB base q1 P1 → fd2.code = .ref q2 → CodeB base q2 P2 → (∃ o, base.get? sysModules = some o) → BMod base mainGlobals mg bm ob → FnF l.prog w (K w.params) mg base CX0 lawK fa fd ["script"] (spLaw53 (K w.params) P1 P2)) :
    PySem.W.WalkO q loose XP YP l.row.toRowW d [] (fun f vs => PySem.call f vs) :=
  Ob.walk_gen2F (hni := hni) (k := lawK) (g1 := "is_row") (g2 := "nearest_by_squares") (x := "script") (sp := fun w P1 P2 => spLaw53 (K w.params) P1 P2) hn hdf ⟨rfl, by decide, by decide, fun _ => rfl⟩ hY hf1 hf2 hcls F
    (fun w H P1 P2 a ns hl h1 h2 hS => ⟨h1, h2, a, ns, rfl, hS, hl, fun H' s => ⟨rfl, s _ _ h1, s _ _ h2⟩⟩)
    (fun w H P1 P2 vs Q Q' E hQ ⟨h1, h2, a, ns, e, hS, hl, q⟩ => ⟨h1, h2, a, ns, e, hS, hl, fun H' s => hQ _ _ (q H' s)⟩)
end Pg
open PySem PySem.W PyProof.Rows
set_option maxRecDepth 100000 in
set_option maxHeartbeats 0 in
theorem PySem.Challenge.cw_onebend_k53_least_squares_shown_holds : PySem.Challenge.rw_onebend_k53_least_squares_shown.Holds := by
  w_on; o_law; k_head; (case hw => w_witness2)
  k_fill
  refine Pg.walk (l := PySem.Challenge.rw_onebend_k53_least_squares_shown) rfl rfl rfl (fun w h Y => PySem.W.kIn_of Y) rfl rfl ?C ?F
  case C => exact fun w => by rfl
  case F =>
    intro w mg fa h KX G hmg
    refine' Pg.all_mk KX G hmg ?a1 ?l1 ?c1 ?k1 ?a2 ?l2 ?c2 ?k2 ?a3 ?l3 ?c3 ?k3 ?a4 ?l4 ?c4 ?k4 ?a5 ?l5 ?c5 ?k5 ?a6 ?l6 ?c6 ?k6 ?a7 ?l7 ?c7 ?k7 ?a8 ?l8 ?c8 ?k8 ?a9 ?l9 ?c9 ?k9 ?a10 ?l10 ?c10 ?k10 ?a11 ?l11 ?c11 ?k11 ?a12 ?l12 ?c12 ?k12 ?a13 ?l13 ?c13 ?k13 ?a14 ?l14 ?c14 ?k14 ?a15 ?l15 ?c15 ?k15 ?a16 ?l16 ?c16 ?k16 ?a17 ?l17 ?c17 ?k17 ?a18 ?l18 ?c18 ?k18 ?a19 ?l19 ?c19 ?k19 ?a20 ?l20 ?c20 ?k20 ?a21 ?l21 ?c21 ?k21 ?a22 ?l22 ?c22 ?k22 ?a23 ?l23 ?c23 ?k23 ?a24 ?l24 ?c24 ?k24 ?a25 ?l25 ?c25 ?k25 ?a26 ?l26 ?c26 ?k26 ?a27 ?l27 ?c27 ?k27 ?a28 ?l28 ?c28 ?k28 ?a29 ?l29 ?c29 ?k29 ?a30 ?l30 ?c30 ?k30 ?a31 ?l31 ?c31 ?k31 ?a32 ?l32 ?c32 ?k32 ?a33 ?l33 ?c33 ?k33 ?z1 ?z2 ?z3 ?z4 ?z5 ?z6 ?z7 ?z8 ?z9 ?z10 ?z11 ?z12 ?z13 ?z14 ?z15 ?z16 ?aC ?aK1 ?iK1 ?lK1 ?cK1 ?kK1 ?aK2 ?iK2 ?lK2 ?cK2 ?kK2 ?aK3 ?iK3 ?lK3 ?cK3 ?kK3 ?aK4 ?iK4 ?lK4 ?cK4 ?kK4 ?pgC ?hdC ?poC ?saC ?mkC ?kcC ?n_lines ?n_beside ?n_atop ?n_bottom ?g8 ?gw ?gl ?gp ?lP ?zm
    (case a1 => k_is); (case l1 => k_is); (case c1 => k_is); (case k1 => k_is); (case a2 => k_is); (case l2 => k_is)
    (case c2 => k_is); (case k2 => k_is); (case a3 => k_is); (case l3 => k_is); (case c3 => k_is); (case k3 => k_is)
    (case a4 => k_is); (case l4 => k_is); (case c4 => k_is); (case k4 => k_is); (case a5 => k_is); (case l5 => k_is)
    (case c5 => k_is); (case k5 => k_is); (case a6 => k_is); (case l6 => k_is); (case c6 => k_is); (case k6 => k_is)
    (case a7 => k_is); (case l7 => k_is); (case c7 => k_is); (case k7 => k_is); (case a8 => k_is); (case l8 => k_is)
    (case c8 => k_is); (case k8 => k_is); (case a9 => k_is); (case l9 => k_is); (case c9 => k_is); (case k9 => k_is)
    (case a10 => k_is); (case l10 => k_is); (case c10 => k_is); (case k10 => k_is); (case a11 => k_is); (case l11 => k_is)
    (case c11 => k_is); (case k11 => k_is); (case a12 => k_is); (case l12 => k_is); (case c12 => k_is); (case k12 => k_is)
    (case a13 => k_is); (case l13 => k_is); (case c13 => k_is); (case k13 => k_is); (case a14 => k_is); (case l14 => k_is)
    (case c14 => k_is); (case k14 => k_is); (case a15 => k_is); (case l15 => k_is); (case c15 => k_is); (case k15 => k_is)
    (case a16 => k_is); (case l16 => k_is); (case c16 => k_is); (case k16 => k_is); (case a17 => k_is); (case l17 => k_is)
    (case c17 => k_is); (case k17 => k_is); (case a18 => k_is); (case l18 => k_is); (case c18 => k_is); (case k18 => k_is)
    (case a19 => k_is); (case l19 => k_is); (case c19 => k_is); (case k19 => k_is); (case a20 => k_is); (case l20 => k_is)
    (case c20 => k_is); (case k20 => k_is); (case a21 => k_is); (case l21 => k_is); (case c21 => k_is); (case k21 => k_is)
    (case a22 => k_is); (case l22 => k_is); (case c22 => k_is); (case k22 => k_is); (case a23 => k_is); (case l23 => k_is)
    (case c23 => k_is); (case k23 => k_is); (case a24 => k_is); (case l24 => k_is); (case c24 => k_is); (case k24 => k_is)
    (case a25 => k_is); (case l25 => k_is); (case c25 => k_is); (case k25 => k_is); (case a26 => k_is); (case l26 => k_is)
    (case c26 => k_is); (case k26 => k_is); (case a27 => k_is); (case l27 => k_is); (case c27 => k_is); (case k27 => k_is)
    (case a28 => k_is); (case l28 => k_is); (case c28 => k_is); (case k28 => k_is); (case a29 => k_is); (case l29 => k_is)
    (case c29 => k_is); (case k29 => k_is); (case a30 => k_is); (case l30 => k_is); (case c30 => k_is); (case k30 => k_is)
    (case a31 => k_is); (case l31 => k_is); (case c31 => k_is); (case k31 => k_is); (case a32 => k_is); (case l32 => k_is)
    (case c32 => k_is); (case k32 => k_is); (case a33 => k_is); (case l33 => k_is); (case c33 => k_is); (case k33 => k_is)
    (case z1 => k_is); (case z2 => k_is); (case z3 => k_is); (case z4 => k_is); (case z5 => k_is); (case z6 => k_is)
    (case z7 => k_is); (case z8 => k_is); (case z9 => k_is); (case z10 => k_is); (case z11 => k_is); (case z12 => k_is)
    (case z13 => k_is); (case z14 => k_is); (case z15 => k_is); (case z16 => k_is); (case aC => k_is); (case aK1 => k_is)
    (case iK1 => k_is); (case lK1 => k_is); (case cK1 => k_is); (case kK1 => k_is); (case aK2 => k_is); (case iK2 => k_is)
    (case lK2 => k_is); (case cK2 => k_is); (case kK2 => k_is); (case aK3 => k_is); (case iK3 => k_is); (case lK3 => k_is)
    (case cK3 => k_is); (case kK3 => k_is); (case aK4 => k_is); (case iK4 => k_is); (case lK4 => k_is); (case cK4 => k_is)
    (case kK4 => k_is); (case pgC => k_is); (case hdC => k_is); (case poC => k_is); (case saC => k_is); (case mkC => k_is)
    (case kcC => k_is); (case n_lines => k_is); (case n_beside => k_is); (case n_atop => k_is); (case n_bottom => k_is); (case g8 => k_is)
    (case gw => k_is); (case gl => k_is); (case gp => k_is); (case lP => k_is); (case zm => k_is)

