import PyProof.Rows.All
import Wide.All
import OpenK.AllK
import Wide.FinOn
import PyProof.EqAt
import PyProof.EqKinds
import PyProof.TupleCall
import KE.BitLaws
import KE.KMinKey
import KE.KDictList
import KE.KStar
import KE.KRevSl
import KE.KTryMore
import PyProof.StrReplace2
import PyProof.StrBlock
import PyProof.AutoSeq1
import KE.KListMore
import PyProof.WalkInts
import PySem.Challenge.RW_onebend_k50_whole_prices_and_rows
set_option Elab.async false
set_option linter.all false
set_option maxRecDepth 100000
/-! THE HAND LAYER, for ints, bools, texts, own classes, lists, tuples, dicts, comprehensions, walks over dicts, enumerate, zip, reversed, texts, calls, loops. Paste it whole ahead of your own text; what your proof does not reach may be deleted. -/
namespace L2
open PySem PySem.Spec PyProof.Rows

/-- a key: an int or a str -/
abbrev Key := Sum Int Str
def keyIs : Key → Value → Bool
  | .inl k, v => Value.isInt k v
  | .inr x, v => Value.isStrOf x v
def keyH (w : World) : Key → Int
  | .inl k => hashInt k
  | .inr x => hashStr w x
theorem keyIs_shape : ∀ {k : Key} {v : Value}, keyIs k v = true → (∃ i t, k = Sum.inl i ∧ v = Value.int i t) ∨ (∃ x t, k = Sum.inr x ∧ v = Value.str x t)
  | .inl i, v, h => by
    obtain ⟨t, e⟩ := Value.isInt_shape (k := i) (v := v) h
    exact .inl ⟨i, t, rfl, e⟩
  | .inr x, v, h => by
    obtain ⟨t, e⟩ := Value.isStrOf_shape (x := x) (v := v) h
    exact .inr ⟨x, t, rfl, e⟩
theorem keyIs_int (i : Int) (t : Tok) : keyIs (.inl i) (.int i t) = true := by simp [keyIs, Value.isInt]
theorem keyIs_str (x : Str) (t : Tok) : keyIs (.inr x) (.str x t) = true := by simp [keyIs, Value.isStrOf]
theorem key_ll (a b : Int) : decide ((Sum.inl a : Key) = Sum.inl b) = (a == b) := by
  by_cases e : a = b
  · subst e; simp
  · have h : ¬ (Sum.inl a : Key) = Sum.inl b := fun q => e (Sum.inl.inj q)
    rw [decide_eq_false h]
    exact (beq_eq_false_iff_ne.mpr e).symm
theorem key_rr (a b : Str) : decide ((Sum.inr a : Key) = Sum.inr b) = decide (a = b) := by
  by_cases e : a = b
  · subst e; simp
  · have h : ¬ (Sum.inr a : Key) = Sum.inr b := fun q => e (Sum.inr.inj q)
    rw [decide_eq_false h, decide_eq_false e]
theorem key_lr (a : Int) (b : Str) : decide ((Sum.inl a : Key) = Sum.inr b) = false := decide_eq_false (fun q => nomatch q)
theorem key_rl (a : Str) (b : Int) : decide ((Sum.inr a : Key) = Sum.inl b) = false := decide_eq_false (fun q => nomatch q)

def mixKind (prog : Program) (w : World) : PySem.KeyKind prog w Key where
  is := keyIs
  hash := keyH w
  inj := fun v a b ha hb => by
    rcases keyIs_shape ha with ⟨i, t, rfl, rfl⟩ | ⟨x, t, rfl, rfl⟩
    · rcases keyIs_shape hb with ⟨j, u, rfl, e⟩ | ⟨y, u, rfl, e⟩
      · injection e with e1 _; rw [e1]
      · exact nomatch e
    · rcases keyIs_shape hb with ⟨j, u, rfl, e⟩ | ⟨y, u, rfl, e⟩
      · exact nomatch e
      · injection e with e1 _; rw [e1]
  byValue := fun k v h => by
    rcases keyIs_shape h with ⟨i, t, rfl, rfl⟩ | ⟨x, t, rfl, rfl⟩ <;> rfl
  pyHash := fun hv h => by
    rcases keyIs_shape hv with ⟨i, t, rfl, rfl⟩ | ⟨x, t, rfl, rfl⟩
    · exact wpAny_pyHash_int h
    · exact wpAny_pyHash_str h
  eqBool := fun hu hv h => by
    rcases keyIs_shape hu with ⟨i, t, rfl, rfl⟩ | ⟨x, t, rfl, rfl⟩
    · rcases keyIs_shape hv with ⟨j, u, rfl, rfl⟩ | ⟨y, u, rfl, rfl⟩
      · rw [key_ll] at h; exact wpAny_eqBool_int h
      · rw [key_lr] at h; exact SeqAt.EqAt.int_str i t y u _ _ _ _ h
    · rcases keyIs_shape hv with ⟨j, u, rfl, rfl⟩ | ⟨y, u, rfl, rfl⟩
      · rw [key_rl] at h; exact SeqAt.EqAt.str_int x t j u _ _ _ _ h
      · rw [key_rr] at h; exact wpAny_eqBool_str h
  «strs» := fun k x t v h => by
    rcases keyIs_shape h with ⟨i, u, rfl, e⟩ | ⟨y, u, rfl, e⟩
    · exact nomatch e
    · injection e with e1 _
      subst e1
      cases v <;> rfl

theorem mixKind_int (prog : Program) (w : World) (i : Int) (t : Tok) : (mixKind prog w).is (.inl i) (.int i t) = true := keyIs_int i t
theorem mixKind_str (prog : Program) (w : World) (x : Str) (t : Tok) : (mixKind prog w).is (.inr x) (.str x t) = true := keyIs_str x t
end L2

namespace L2
open PySem PySem.Spec PyProof.Rows

/-- a value, without the heap -/
inductive V where
  | non | bl (b : Bool) | int (i : Int) | str (x : Str) | byt (b : Array UInt8) | flt (b : UInt64) | ref (a : Addr) | ty (n : String)
  deriving DecidableEq

def RelV : V → Value → Prop
  | .non, u => u = Value.none
  | .bl b, u => u = Value.bool b
  | .int i, u => ∃ t, u = Value.int i t
  | .str x, u => ∃ t, u = Value.str x t
  | .byt b, u => ∃ t, u = Value.bytes b t
  | .flt b, u => ∃ t, u = Value.float b t
  | .ref a, u => u = Value.ref a
  | .ty n, u => u = Value.type n

abbrev Vals : List V → List Value → Prop := Paired RelV
theorem Vals.length {xs : List V} {us : List Value} (r : Vals xs us) : xs.length = us.length := Paired.length r
theorem Vals.get : ∀ {xs : List V} {us : List Value} {i : Nat} {x : V}, Vals xs us → xs[i]? = some x → ∃ u, us[i]? = some u ∧ RelV x u
  | _, _, _, _, .nil, e => by simp at e
  | _, _, 0, _, .cons r _, e => by simp at e; subst e; exact ⟨_, rfl, r⟩
  | _, _, i + 1, x, .cons _ t, e => by
    obtain ⟨u, h1, h2⟩ := Vals.get (i := i) (x := x) t (by simpa using e)
    exact ⟨u, by simpa using h1, h2⟩
theorem Vals.set {x : V} {u : Value} (r : RelV x u) : ∀ {xs : List V} {us : List Value} (i : Nat), Vals xs us → Vals (xs.set i x) (us.set i u)
  | _, _, _, .nil => .nil
  | _, _, 0, .cons _ t => .cons r t
  | _, _, i + 1, .cons q t => .cons q (Vals.set r i t)
theorem Vals.append : ∀ {xs ys : List V} {us ws : List Value}, Vals xs us → Vals ys ws → Vals (xs ++ ys) (us ++ ws)
  | _, _, _, _, .nil, s => s
  | _, _, _, _, .cons r t, s => .cons r (Vals.append t s)
theorem Vals.take : ∀ {xs : List V} {us : List Value} (n : Nat), Vals xs us → Vals (xs.take n) (us.take n)
  | _, _, 0, _ => .nil
  | _, _, _ + 1, .nil => .nil
  | _, _, n + 1, .cons r t => .cons r (Vals.take n t)
theorem Vals.drop : ∀ {xs : List V} {us : List Value} (n : Nat), Vals xs us → Vals (xs.drop n) (us.drop n)
  | _, _, 0, r => r
  | _, _, _ + 1, .nil => .nil
  | _, _, n + 1, .cons _ t => Vals.drop n t
theorem Vals.none_of : ∀ {xs : List V} {us : List Value} {i : Nat}, Vals xs us → xs[i]? = none → us[i]? = none := fun {xs us i} r e => by
  have h1 := r.length
  have h2 : xs.length ≤ i := List.getElem?_eq_none_iff.mp e
  exact List.getElem?_eq_none_iff.mpr (by omega)

def RelO : Option V → Option Value → Prop
  | some v, some u => RelV v u
  | none, none => True
  | _, _ => False
def KV {κ : Type} : List (κ × V) → List (κ × Value) → Prop := Paired fun (p : κ × V) (q : κ × Value) => p.1 = q.1 ∧ RelV p.2 q.2

/-- a key of a dict (00_mix): an int or a text -/
def kV : Key → V
  | .inl i => .int i
  | .inr x => .str x

/-- what stands at a tracked address -/
inductive HO where
  /-- a list -/
  | lst (xs : List V)
  /-- a tuple (never changes) -/
  | tup (xs : List V)
  /-- a dict whose keys are ints and texts; one whose keys are tuples of ints and texts (the empty one is both) -/
  | dK (kvs : List (Key × V)) | dT (kvs : List (List Key × V))
  /-- a set of ints: its members, its size -/
  | set (S : Int → Bool) (n : Nat)
  /-- an instance of the class at C, its dict at dx, its attributes -/
  | ins (C dx : Addr) (fs : List (Str × V))
  /-- the dict of the instance at x -/
  | own (x : Addr)
  /-- the dict of an exception -/
  | xd (fs : List (Str × V))
  /-- a bound method, f of x -/
  | met (f x : Addr)
  /-- a range object lo, lo + 1, .. below hi -/
  | rng (lo hi : Int)
  /-- a thing that is known to the object (the script; a dict while a loop walks it): read, never written while it is so -/
  | frz (o : Obj) (u : HO)
  /-- a code object's table -/
  | tbl (ps : Array Value)
  /-- any other thing, by what is true of its one object (a def of one's own: SetO a S n := HO.ext fun h => ..) -/
  | ext (φ : Heap → Prop)

abbrev Hp := Addr → Option HO
def upd (H : Hp) (a : Addr) (o : HO) : Hp := fun b => if b = a then some o else H b
theorem upd_same {H : Hp} {a : Addr} {o : HO} : upd H a o a = some o := by unfold upd; rw [if_pos rfl]
theorem upd_ne {H : Hp} {a b : Addr} {o : HO} (h : b ≠ a) : upd H a o b = H b := by unfold upd; rw [if_neg h]
/-- two objects of different content stand apart -/
theorem ne_of {H : Hp} {a b : Addr} {o u : HO} (h : H a = some o) (h' : H b = some u) (d : o ≠ u) : a ≠ b := by
  intro e; subst e; rw [h] at h'; exact d (Option.some.inj h')
theorem ne_of_none {H : Hp} {a b : Addr} {o : HO} (h : H a = some o) (h' : H b = none) : a ≠ b := by
  intro e; subst e; rw [h] at h'; cases h'

section
variable (P : Program) (w : World)
def ObjOk (H : Hp) (h : Heap) (a : Addr) : HO → Prop
  | .lst xs => xs.length ≤ sizeLine ∧ ∃ (its : List Value) (n : Nat), Vals xs its ∧ h.get? a = some { cls := .type "list", data := .seq its.toArray n }
  | .tup xs => xs.length ≤ sizeLine ∧ ∃ its : List Value, Vals xs its ∧ IsTup h a its.toArray
  | .dK kvs => kvs.length ≤ sizeLine ∧ (a == sysModules) = false ∧ ∃ vs, KV kvs vs ∧ h.DictOf (mixKind P w) a vs
  | .dT kvs => kvs.length ≤ sizeLine ∧ (a == sysModules) = false ∧ ∃ xs : List (List Key × Addr × Value),
      Paired (fun (p : List Key × V) (q : List Key × Addr × Value) => p.1 = q.1 ∧ H q.2.1 = some (.tup (p.1.map kV)) ∧ RelV p.2 q.2.2) kvs xs ∧
      ∃ o es ep, h.get? a = some o ∧ o.ExactDict ∧ o.data = .dict es ep ∧ es.toList = xs.map (entryOfKey (tupleKind (mixKind P w))) ∧ (xs.map (·.1)).Nodup
  | .set S n => h.SetOf (intKind P w) a S n
  | .ins C dx fs => H dx = some (.own a) ∧ fs.length ≤ 1000 ∧ dx ≠ a ∧ h.get? a = some (PySem.W.instObj C dx) ∧
      ∃ mA, h.Ns1 dx mA ∧ (∀ f, RelO (fs.lookup f) (mA f)) ∧ PySem.Within mA (fs.map (·.1))
  | .own _ => ∃ o, h.get? a = some o
  | .xd fs => ∃ mA, h.Ns1 a mA ∧ ∀ f, RelO (fs.lookup f) (mA f)
  | .rng lo hi => ∃ t u v, h.get? a = some { cls := .type "range", data := .fields #[.int lo t, .int hi u, .int 1 v] }
  | .frz o u => h.get? a = some o ∧ ObjOk H h a u
  | .tbl ps => h.get? a = some { cls := .none, data := .fields ps }
  | .met f x => h.get? a = some (PySem.W.methodObj (.ref f) (.ref x))
  | .ext φ => φ h ∧ (∃ o, h.get? a = some o) ∧ ∀ h1 h2 : Heap, φ h1 → (∀ o, h1.get? a = some o → h2.get? a = some o) → φ h2
/-- the abstract heap is held -/
def HOk (H : Hp) (h : Heap) : Prop := ∀ a o, H a = some o → ObjOk P w H h a o
end

section
variable {P : Program} {w : World} {H H' : Hp} {h h' : Heap} {a : Addr} {o : HO}
theorem ObjOk.lt (x : ObjOk P w H h a o) : a < h.objs.size := by
  cases o with
  | lst xs => obtain ⟨_, _, _, _, e⟩ := x; exact Heap.lt_size e
  | tup xs => obtain ⟨_, _, _, p⟩ := x; exact p.lt
  | dK kvs => obtain ⟨_, _, _, _, o, _, _, e, _⟩ := x; exact Heap.lt_size e
  | dT kvs => obtain ⟨_, _, _, _, o, _, _, e, _⟩ := x; exact Heap.lt_size e
  | set S n => obtain ⟨o, _, _, _, e, _⟩ := x; exact Heap.lt_size e
  | ins C dx fs => obtain ⟨_, _, _, e, _⟩ := x; exact Heap.lt_size e
  | own y => obtain ⟨_, e⟩ := x; exact Heap.lt_size e
  | xd fs => obtain ⟨_, ⟨_, _, _, e, _⟩, _⟩ := x; exact Heap.lt_size e
  | rng lo hi => obtain ⟨_, _, _, e⟩ := x; exact Heap.lt_size e
  | frz ob u => obtain ⟨e, _⟩ := x; exact Heap.lt_size e
  | tbl ps => exact Heap.lt_size (show h.get? a = some _ from x)
  | met f y => exact Heap.lt_size (show h.get? a = some _ from x)
  | ext φ => obtain ⟨_, ⟨_, e⟩, _⟩ := x; exact Heap.lt_size e
theorem Paired.mapP {α β : Type} {F G : α → β → Prop} : ∀ {l₁ : List α} {l₂ : List β}, Paired F l₁ l₂ → (∀ a b, F a b → G a b) → Paired G l₁ l₂
  | _, _, .nil, _ => .nil
  | _, _, .cons r t, f => .cons (f _ _ r) (Paired.mapP t f)
/-- what an object's description leans on: its own object, its own dict, the tuples -/
theorem ObjOk.stay (x : ObjOk P w H h a o) (k : ∀ b u, (b = a ∨ H b = some (.own a)) → h.get? b = some u → h'.get? b = some u)
    (ho : ∀ b, H b = some (.own a) → H' b = some (.own a)) (ht : ∀ b xs, H b = some (.tup xs) → H' b = some (.tup xs)) : ObjOk P w H' h' a o := by
  induction o with
  | lst xs => obtain ⟨z, its, n, r, e⟩ := x; exact ⟨z, its, n, r, k _ _ (.inl rfl) e⟩
  | tup xs => obtain ⟨z, its, r, ob, e, c⟩ := x; exact ⟨z, its, r, ob, k _ _ (.inl rfl) e, c⟩
  | dK kvs => obtain ⟨z, y, vs, r, ob, es, ep, e, c⟩ := x; exact ⟨z, y, vs, r, ob, es, ep, k _ _ (.inl rfl) e, c⟩
  | dT kvs =>
    obtain ⟨z, y, xs, r, ob, es, ep, e, c⟩ := x
    exact ⟨z, y, xs, Paired.mapP r fun p q z => ⟨z.1, ht _ _ z.2.1, z.2.2⟩, ob, es, ep, k _ _ (.inl rfl) e, c⟩
  | set S n => obtain ⟨ob, es, ep, t, e, c⟩ := x; exact ⟨ob, es, ep, t, k _ _ (.inl rfl) e, c⟩
  | ins C dx fs =>
    obtain ⟨d, z, ne, e, mA, ⟨od, es, ep, e2, c⟩, r⟩ := x
    exact ⟨ho _ d, z, ne, k _ _ (.inl rfl) e, mA, ⟨od, es, ep, k _ _ (.inr d) e2, c⟩, r⟩
  | own y => obtain ⟨ob, e⟩ := x; exact ⟨ob, k _ _ (.inl rfl) e⟩
  | xd fs => obtain ⟨mA, ⟨od, es, ep, e, c⟩, r⟩ := x; exact ⟨mA, ⟨od, es, ep, k _ _ (.inl rfl) e, c⟩, r⟩
  | rng lo hi => obtain ⟨t, u, v, e⟩ := x; exact ⟨t, u, v, k _ _ (.inl rfl) e⟩
  | frz ob u ih => obtain ⟨e, q⟩ := x; exact ⟨k _ _ (.inl rfl) e, ih q⟩
  | tbl ps =>
    have e : h.get? a = some { cls := .none, data := .fields ps } := x
    show h'.get? a = some { cls := .none, data := .fields ps }
    exact k a _ (.inl rfl) e
  | met f y =>
    have e : h.get? a = some (PySem.W.methodObj (.ref f) (.ref y)) := x
    show h'.get? a = some (PySem.W.methodObj (.ref f) (.ref y))
    exact k a _ (.inl rfl) e
  | ext φ => obtain ⟨p, ⟨o, e⟩, st⟩ := x; exact ⟨st _ _ p fun o q => k _ _ (.inl rfl) q, ⟨o, k _ _ (.inl rfl) e⟩, st⟩
theorem HOk.lt (x : HOk P w H h) (e : H a = some o) : a < h.objs.size := (x a o e).lt
theorem HOk.fresh (x : HOk P w H h) (e : h.objs.size ≤ a) : H a = none := by
  cases q : H a with
  | none => rfl
  | some u => exact absurd (Nat.lt_of_lt_of_le (x.lt q) e) (Nat.lt_irrefl _)
/-- every object of the heap is kept -/
theorem HOk.kept (x : HOk P w H h) (k : ∀ b u, h.get? b = some u → h'.get? b = some u) : HOk P w H h' := fun a o e =>
  (x a o e).stay (fun b u _ q => k b u q) (fun _ q => q) fun _ _ q => q
/-- a new object is laid and tracked -/
theorem HOk.laid (x : HOk P w H h) (k : ∀ b u, h.get? b = some u → h'.get? b = some u) (hp : h.objs.size ≤ a) (new : ObjOk P w (upd H a o) h' a o) : HOk P w (upd H a o) h' := fun b u e => by
  have hn := x.fresh hp
  by_cases hb : b = a
  · subst hb; rw [upd_same] at e; cases e; exact new
  · rw [upd_ne hb] at e
    exact (x b u e).stay (fun c v _ q => k c v q) (fun c q => by rw [upd_ne (ne_of_none q hn)]; exact q) fun c xs q => by rw [upd_ne (ne_of_none q hn)]; exact q
end

/-- what may be read as u: it is u, or a known u -/
def Rd (H : Hp) (a : Addr) (u : HO) : Prop := H a = some u ∨ ∃ o, H a = some (.frz o u)
theorem Rd.of {H : Hp} {a : Addr} {u : HO} (h : H a = some u) : Rd H a u := .inl h
theorem Rd.ok {P : Program} {w : World} {H : Hp} {h : Heap} {a : Addr} {u : HO} (r : Rd H a u) (x : HOk P w H h) : ObjOk P w H h a u := by
  rcases r with r | ⟨o, r⟩
  · exact x a u r
  · obtain ⟨_, q⟩ := x a _ r
    exact q
/-- what may be written -/
def Mut : Option HO → Prop
  | some (.lst _) => True
  | some (.dK _) => True
  | some (.dT _) => True
  | some (.set _ _) => True
  | some (.ins _ _ _) => True
  | some (.ext _) => True
  | _ => False
section
variable {P : Program} {w : World} {H : Hp} {h h' : Heap} {x e : Addr} {o' : HO}
/-- the object at e is changed: x itself, or the dict of the instance x -/
theorem HOk.write (ok : HOk P w H h) (mu : Mut (H x)) (he : e = x ∨ H e = some (.own x)) (k : ∀ b u, b ≠ e → h.get? b = some u → h'.get? b = some u) (heo : ∃ u, h'.get? e = some u)
    (new : ObjOk P w (upd H x o') h' x o') : HOk P w (upd H x o') h' := fun b u q => by
  have nown : ∀ c y, H c = some (.own y) → c ≠ x := fun c y r z => by subst z; rw [r] at mu; exact mu
  have ntup : ∀ c xs, H c = some (.tup xs) → c ≠ x := fun c xs r z => by subst z; rw [r] at mu; exact mu
  by_cases hb : b = x
  · subst hb; rw [upd_same] at q; cases q; exact new
  · rw [upd_ne hb] at q
    by_cases hbe : b = e
    · have q' : H b = some (.own x) := by
        rcases he with z | z
        · exact absurd (hbe.trans z) hb
        · rw [hbe]; exact z
      rw [q] at q'; cases q'
      obtain ⟨v, hv⟩ := heo
      exact ⟨v, by rw [hbe]; exact hv⟩
    · refine (ok b u q).stay (fun c v hc r => k c v ?_ r) (fun c r => by rw [upd_ne (nown c b r)]; exact r) fun c xs r => by rw [upd_ne (ntup c xs r)]; exact r
      rcases hc with rfl | hc
      · exact hbe
      · rintro rfl
        rcases he with z | z
        · exact nown c b hc z
        · rw [hc] at z; cases z; exact hb rfl
end

/-! ### kept unless tracked; of the frames at fs (the callers') the slots may change (an exception that passes writes there); of the records at ex (iterators) nothing is said -/
structure Un (fs ex : List Addr) (H H' : Hp) (h h' : Heap) : Prop where
  keep : ∀ b o, h.get? b = some o → H b = none → b ∉ fs → b ∉ ex → h'.get? b = some o
  slot : ∀ b o, h.get? b = some o → H b = none → b ∈ fs → b ∉ ex → ∃ sl, h'.get? b = some { o with slots := sl }
  free : ∀ b o, h.get? b = some o → H b = none → b ∉ ex → H' b = none
  there : ∀ b o, h.get? b = some o → b ∉ ex → ∃ o', h'.get? b = some o'
  tups : ∀ b xs, H b = some (.tup xs) → H' b = some (.tup xs)
  frzs : ∀ b o u, H b = some (.frz o u) → H' b = some (.frz o u)
  tbls : ∀ b ps, H b = some (.tbl ps) → ∃ more, H' b = some (.tbl (ps ++ more))
section
variable {fs fs' ex ex' : List Addr} {H H1 H2 : Hp} {h h1 h2 h' : Heap} {a x e : Addr} {o : HO}
theorem Un.any (u : Un fs ex H H1 h h1) {b : Addr} {ob : Obj} (q : h.get? b = some ob) (n : H b = none) (hx : b ∉ ex) : ∃ sl, h1.get? b = some { ob with slots := sl } := by
  by_cases hb : b ∈ fs
  · exact u.slot b ob q n hb hx
  · exact ⟨ob.slots, u.keep b ob q n hb hx⟩
theorem Un.trans (a : Un fs ex H H1 h h1) (b : Un fs ex H1 H2 h1 h2) : Un fs ex H H2 h h2 where
  keep := fun c ob q n hc hx => b.keep c ob (a.keep c ob q n hc hx) (a.free c ob q n hx) hc hx
  slot := fun c ob q n hc hx => by
    obtain ⟨sl, e1⟩ := a.slot c ob q n hc hx
    obtain ⟨sl', e2⟩ := b.slot c _ e1 (a.free c ob q n hx) hc hx
    exact ⟨sl', e2⟩
  free := fun c ob q n hx => by
    obtain ⟨o', e1⟩ := a.there c ob q hx
    exact b.free c o' e1 (a.free c ob q n hx) hx
  there := fun c ob q hx => by
    obtain ⟨o', e1⟩ := a.there c ob q hx
    exact b.there c o' e1 hx
  tups := fun c xs q => b.tups c xs (a.tups c xs q)
  frzs := fun c ob xs q => b.frzs c ob xs (a.frzs c ob xs q)
  tbls := fun c ps q => by
    obtain ⟨m1, e1⟩ := a.tbls c ps q
    obtain ⟨m2, e2⟩ := b.tbls c _ e1
    exact ⟨m1 ++ m2, by rw [e2, Array.append_assoc]⟩
theorem Un.kept (k : ∀ b u, h.get? b = some u → h'.get? b = some u) : Un fs ex H H h h' :=
  ⟨fun b ob q _ _ _ => k b ob q, fun b ob q _ _ _ => ⟨ob.slots, k b ob q⟩, fun _ _ _ n _ => n, fun b ob q _ => ⟨ob, k b ob q⟩, fun _ _ q => q, fun _ _ _ q => q, fun _ ps q => ⟨#[], by rw [q]; simp⟩⟩
theorem Un.refl : Un fs ex H H h h := Un.kept fun _ _ q => q
theorem Un.laid (k : ∀ b u, h.get? b = some u → h'.get? b = some u) (hp : h.objs.size ≤ a) (hn : H a = none) : Un fs ex H (upd H a o) h h' where
  keep := fun b u q _ _ _ => k b u q
  slot := fun b u q _ _ _ => ⟨u.slots, k b u q⟩
  free := fun b u q n _ => by rw [upd_ne (Nat.ne_of_lt (Nat.lt_of_lt_of_le (Heap.lt_size q) hp))]; exact n
  there := fun b u q _ => ⟨u, k b u q⟩
  tups := fun b xs q => by rw [upd_ne (ne_of_none q hn)]; exact q
  frzs := fun b u xs q => by rw [upd_ne (ne_of_none q hn)]; exact q
  tbls := fun b ps q => ⟨#[], by rw [upd_ne (ne_of_none q hn), q]; simp⟩
theorem Un.write (mu : Mut (H x)) (he : e = x ∨ H e = some (.own x)) (k : ∀ b u, b ≠ e → h.get? b = some u → h'.get? b = some u) (heo : ∃ u, h'.get? e = some u) : Un fs ex H (upd H x o) h h' := by
  have hx : ∀ b, H b = none → b ≠ x := fun b n z => by subst z; rw [n] at mu; exact mu
  have hb : ∀ b, H b = none → b ≠ e := fun b n z => by
    subst z
    rcases he with r | r
    · exact hx b n r
    · rw [n] at r; cases r
  have hm : ∀ b u, H b = some u → ¬ Mut (some u) → b ≠ x := fun b u q nm z => by subst z; rw [q] at mu; exact nm mu
  refine ⟨fun b u q n _ _ => k b u (hb b n) q, fun b u q n _ _ => ⟨u.slots, k b u (hb b n) q⟩, fun b u q n _ => by rw [upd_ne (hx b n)]; exact n, fun b u q _ => ?_,
    fun b xs q => by rw [upd_ne (hm b _ q fun z => z)]; exact q, fun b u xs q => by rw [upd_ne (hm b _ q fun z => z)]; exact q, fun b ps q => ⟨#[], by rw [upd_ne (hm b _ q fun z => z), q]; simp⟩⟩
  by_cases hbe : b = e
  · subst hbe; exact heo
  · exact ⟨u, k b u hbe q⟩
theorem Un.mono (u : Un fs ex H H1 h h1) (hs : ∀ b ∈ fs, b ∈ fs') (hx : ∀ b ∈ ex, b ∈ ex') : Un fs' ex' H H1 h h1 :=
  ⟨fun b ob q n hb he => u.keep b ob q n (fun z => hb (hs b z)) fun z => he (hx b z), fun _ _ q n _ he => u.any q n fun z => he (hx _ z), fun b ob q n he => u.free b ob q n fun z => he (hx b z), fun b ob q he => u.there b ob q fun z => he (hx b z), u.tups, u.frzs, u.tbls⟩
end

/-! ### the heap without what is tracked -/
def trk (h : Heap) (H : Hp) : List Addr := (List.range h.objs.size).filter fun a => (H a).isSome
def hidT (h : Heap) (H : Hp) : Heap := PySem.W.hideAll h (trk h H)
theorem hidT_size (h : Heap) (H : Hp) : (hidT h H).objs.size = h.objs.size := PySem.W.hideAll_size _ _
theorem hidT_get {h : Heap} {H : Hp} {b : Addr} {o : Obj} (e : h.get? b = some o) (n : H b = none) : (hidT h H).get? b = some o :=
  PySem.W.hideAll_get _ e fun hm => by
    have q : (H b).isSome = true := (List.mem_filter.mp hm).2
    rw [n] at q; simp at q
theorem of_hidT {h : Heap} {H : Hp} {b : Addr} {o : Obj} (e : (hidT h H).get? b = some o) : h.get? b = some o ∧ H b = none := by
  have e' : h.get? b = some o := PySem.W.of_hideAll (trk h H) e
  refine ⟨e', ?_⟩
  cases q : H b with
  | none => rfl
  | some x =>
    have hm : b ∈ trk h H := List.mem_filter.mpr ⟨List.mem_range.mpr (Heap.lt_size e'), by simp [q]⟩
    have z : (hidT h H).get? b = none := PySem.W.hideAll_none (trk h H) hm
    rw [z] at e; cases e

/-! ### OpenK's ledger, filled with every new object but one -/
def allNews (g h : Heap) (L : Addr) : List (Addr × Obj) := (List.range h.objs.size).filterMap fun a => if a = L ∨ (g.get? a).isSome = true then none else (h.get? a).map fun o => (a, o)
def rest (g h : Heap) (L d : Addr) : List (Addr × Obj) := (allNews g h L).filter fun p => decide (p.1 ≠ d)
end L2

namespace L2
open PySem PySem.Spec PyProof.Rows

/-- the module's facts, over the base: the heap at the law's entry without what is tracked there -/
structure Mod (K : PySem.W.Frag) (mg : Str → Option Value) (base : Heap) : Prop where
  kin : K.In base
  glob : base.Ns mainGlobals mg
  blt : ∃ mb, base.Ns builtinsNs mb ∧ ∀ x : Str, x ≠ "__name__" → mb x = bootBuiltins x
  nolimit : base.NoLimit

/-- nothing runs in a generator; where q: generators and draws are those of s0 -/
def Bare2 (q : Bool) (s0 : Shared) (g : Array GenState) (d : Drawn) : Prop := (AllBare s0.gens → AllBare g) ∧ (q = true → g = s0.gens ∧ d = s0.drawn)
theorem Bare2.trans {q : Bool} {s0 s1 : Shared} {g : Array GenState} {d : Drawn} (a : Bare2 q s0 s1.gens s1.drawn) (b : Bare2 q s1 g d) : Bare2 q s0 g d :=
  ⟨fun z => b.1 (a.1 z), fun z => ⟨(b.2 z).1.trans (a.2 z).1, (b.2 z).2.trans (a.2 z).2⟩⟩

/-- the context: a def's body (or a comprehension's block) running. base: fixed through the whole law; s₀, H₀: the entry; outer: the frames whose slots others may change (a def's callers); stack: all frames that run;
   ex: iterators that were made ahead of the entry and are walked here (a comprehension's); fn: the names whose cells were made at the entry (a def: all; a comprehension's block: its own); calm: not within an except suite; pn: pins that every state bears; xe: what is wanted of an exception that leaves the code -/
structure Cx where
  prog : Program
  w : World
  K : PySem.W.Frag
  mg : Str → Option Value
  base : Heap
  A : Around
  N : List Str
  s_0 : Shared
  H_0 : Hp
  env : Env
  outer : List Env
  stack : List Env
  ex : List Addr
  fn : Str → Bool
  calm : Bool
  pn : List (Addr × Obj)
  qt : Bool := false
  xe : Value → Shared → Prop
/-- the callers' frames -/
def frs (l : List Env) : List Addr := l.filterMap (·.frame)
abbrev Cx.fs (X : Cx) : List Addr := frs X.outer

def Vis (sc : Scope) (x : Str) : Prop := sc.names.lookup x = some .local ∨ sc.names.lookup x = some .cell ∨ sc.names.lookup x = some .free
def Loc (sc : Scope) (x : Str) : Prop := sc.names.lookup x = some .local ∨ sc.names.lookup x = some .cell
def Look (env : Env) (h : Heap) (m : Str → Option Value) (x : Str) (u : Value) : Prop :=
  (env.kindOf x = some .local ∧ m x = some u) ∨ ((env.kindOf x = some .cell ∨ env.kindOf x = some .free) ∧ ∃ c, env.cells.lookup x = some c ∧ h.IsCell c (some u))

structure Cx.Ok (X : Cx) : Prop where
  mod : Mod X.K X.mg X.base
  kind : X.env.scope.kind = .function
  glob : X.env.globals = mainGlobals
  blt : X.env.builtins = builtinsNs
  above : X.s_0.heap.objs.size ≤ X.env.locals
  inj : ∀ x y c, X.env.cells.lookup x = some c → X.env.cells.lookup y = some c → x = y
  has : ∀ x, (X.env.kindOf x = some .cell ∨ X.env.kindOf x = some .free) → ∃ c, X.env.cells.lookup x = some c
  cab : ∀ x c, X.fn x = true → X.env.cells.lookup x = some c → X.s_0.heap.objs.size ≤ c
  hd : X.calm = true → X.A.handled = none
  frames : True
  stk : X.stack = X.outer ∨ (X.stack = X.env :: X.outer ∧ X.env.frame = some X.env.locals)
  exf : ∀ b ∈ X.ex, b ≠ X.env.locals ∧ ∀ x c, X.env.cells.lookup x = some c → c ≠ b
  bs : ∀ b o, X.base.get? b = some o → X.s_0.heap.get? b = some o ∧ X.H_0 b = none
  bsz : X.base.objs.size ≤ X.s_0.heap.objs.size
  noex : ∀ b o, X.base.get? b = some o → b ∉ X.ex
  exfs : ∀ b ∈ X.ex, b ∉ X.fs
  funs : X.s_0.heap.FunFrames X.base X.outer
  frf : ∀ b ∈ X.fs, X.H_0 b = none

structure Inv (X : Cx) (pins : List (Addr × Obj)) (σ : List (Option V)) (H : Hp) (s : Shared) : Prop where
  ok : X.Ok
  os : s.os = X.s_0.os
  bare : Bare2 X.qt X.s_0 s.gens s.drawn
  base : Un X.fs X.ex X.H_0 H X.s_0.heap s.heap
  loc : ∃ m, s.heap.Ns X.env.locals m ∧ ∀ (i : Nat) (x : Str) (v : V), X.N[i]? = some x → σ[i]? = some (some v) → Vis X.env.scope x → ∃ u, RelV v u ∧ Look X.env s.heap m x u
  cell : ∀ x c, X.env.cells.lookup x = some c → ∃ v, s.heap.IsCell c v
  free : H X.env.locals = none
  freeC : ∀ x c, X.env.cells.lookup x = some c → H c = none
  pin : ∀ p ∈ X.pn ++ pins, s.heap.get? p.1 = some p.2 ∧ H p.1 = none ∧ p.1 ≠ X.env.locals ∧ p.1 ∉ X.fs ∧ ∀ v, p.2.data ≠ .cell v
  hok : HOk X.prog X.w H s.heap
  len : σ.length = X.N.length

section
variable {X : Cx} {pins : List (Addr × Obj)} {σ : List (Option V)} {H H' : Hp} {s : Shared} {h' : Heap}

theorem Cx.Ok.nofr (ok : X.Ok) {b : Addr} {o : Obj} (e : X.base.get? b = some o) : b ∉ X.fs := fun hb => by
  have := (ok.funs.mem hb).1
  rw [e] at this; cases this
theorem Inv.bs (I : Inv X pins σ H s) : ∀ b o, X.base.get? b = some o → s.heap.get? b = some o ∧ H b = none := fun b o e =>
  ⟨I.base.keep b o (I.ok.bs b o e).1 (I.ok.bs b o e).2 (I.ok.nofr e) (I.ok.noex b o e), I.base.free b o (I.ok.bs b o e).1 (I.ok.bs b o e).2 (I.ok.noex b o e)⟩
theorem Inv.bk (I : Inv X pins σ H s) : ∀ b o, X.base.get? b = some o → s.heap.get? b = some o := fun b o e => (I.bs b o e).1
theorem Inv.mod (I : Inv X pins σ H s) : Mod X.K X.mg X.base := I.ok.mod
theorem Inv.kIn (I : Inv X pins σ H s) : X.K.In s.heap := I.ok.mod.kin.keeps I.bk
theorem Inv.nolimit (I : Inv X pins σ H s) : s.heap.NoLimit := I.ok.mod.nolimit.keeps I.bk
/-- the frame over the base: for OpenK's rules (K.In X.base is I.mod.kin) -/
theorem Inv.fr (I : Inv X pins σ H s) : ∃ m, Fr X.base X.env.locals s.heap m :=
  let ⟨m, hn, _⟩ := I.loc
  ⟨m, hn, I.bk, Nat.le_trans I.ok.bsz I.ok.above⟩
theorem Inv.lt (I : Inv X pins σ H s) : X.env.locals < s.heap.objs.size := let ⟨_, hn, _⟩ := I.loc; hn.lt
theorem Inv.sz (I : Inv X pins σ H s) : X.s_0.heap.objs.size ≤ s.heap.objs.size := Nat.le_trans I.ok.above (Nat.le_of_lt I.lt)
theorem Inv.nofs (I : Inv X pins σ H s) {a : Addr} (h : s.heap.objs.size ≤ a) : a ∉ X.fs := fun hb => by
  obtain ⟨_, o, ho, _⟩ := I.ok.funs.mem hb
  exact absurd (Nat.lt_of_lt_of_le (Heap.lt_size ho) (Nat.le_trans I.sz h)) (Nat.lt_irrefl _)
theorem Inv.cne (I : Inv X pins σ H s) : ∀ x c, X.env.cells.lookup x = some c → c ≠ X.env.locals := fun x c e z => by
  obtain ⟨v, o, ho, hd⟩ := I.cell x c e
  obtain ⟨m, ⟨o', es, ep, ho', hd', _⟩, _⟩ := I.loc
  rw [z, ho'] at ho; cases ho; rw [hd'] at hd; cases hd
theorem Inv.funs (I : Inv X pins σ H s) : s.heap.FunFrames X.base X.outer := by
  have all : ∀ (l : List Env), (∀ b ∈ frs l, b ∈ X.fs) → X.s_0.heap.FunFrames X.base l → s.heap.FunFrames X.base l := by
    intro l
    induction l with
    | nil => intro _ _; trivial
    | cons env r ih =>
      intro hs hl
      obtain ⟨hk, ⟨L, o, hf, hn, ho, hd⟩, hr⟩ := hl
      have hL : L ∈ X.fs := hs L (by unfold frs; rw [List.filterMap_cons, hf]; exact List.mem_cons_self)
      obtain ⟨sl, e⟩ := I.base.slot L o ho (I.ok.frf L hL) hL fun z => I.ok.exfs L z hL
      exact ⟨hk, ⟨L, _, hf, hn, e, hd⟩, ih (fun b hb => hs b (by unfold frs; rw [List.filterMap_cons, hf]; exact List.mem_cons_of_mem _ hb)) hr⟩
  exact all X.outer (fun _ hb => hb) I.ok.funs

/-- the frames that run, for a call -/
theorem Inv.stack (I : Inv X pins σ H s) : s.heap.FunFrames X.base X.stack := by
  rcases I.ok.stk with e | ⟨e, hf⟩
  · rw [e]; exact I.funs
  · rw [e]
    obtain ⟨m, hn, _⟩ := I.loc
    refine .cons (by rw [I.ok.kind]; decide) hf hn ?_ I.funs
    exact Heap.get?_none_of_le (Nat.le_trans I.ok.bsz I.ok.above)
theorem Inv.stkSub (I : Inv X pins σ H s) : ∀ b ∈ frs X.stack, b ∈ X.env.locals :: X.fs := fun b hb => by
  rcases I.ok.stk with e | ⟨e, hf⟩
  · rw [e] at hb; exact List.mem_cons_of_mem _ hb
  · rw [e] at hb
    unfold frs at hb
    rw [List.filterMap_cons, hf] at hb
    exact hb
theorem Inv.stkFree (I : Inv X pins σ H s) : ∀ b ∈ frs X.stack, H b = none := fun b hb => by
  rcases List.mem_cons.mp (I.stkSub b hb) with e | hb
  · rw [e]; exact I.free
  · obtain ⟨_, o, ho, _⟩ := I.ok.funs.mem hb
    exact I.base.free b o ho (I.ok.frf b hb) fun z => I.ok.exfs b z hb

/-- THE STEP: the untracked objects but the frame and the records at ch are kept (the callers' frames up to slots), the frame's map is kept, the new abstract heap is held -/
theorem Inv.step {g' : Array GenState} {t' : Nat} {d' : Drawn} {ch : List Addr} (I : Inv X pins σ H s)
    (hch : ∀ b ∈ ch, (b ∈ X.ex ∨ X.s_0.heap.objs.size ≤ b) ∧ b ≠ X.env.locals ∧ (∀ x c, X.env.cells.lookup x = some c → c ≠ b) ∧ ∀ p ∈ X.pn ++ pins, p.1 ≠ b)
    (keep : ∀ b o, b ≠ X.env.locals → b ∉ X.fs → b ∉ ch → s.heap.get? b = some o → H b = none → h'.get? b = some o)
    (slot : ∀ b o, b ≠ X.env.locals → b ∈ X.fs → b ∉ ch → s.heap.get? b = some o → H b = none → ∃ sl, h'.get? b = some { o with slots := sl }) (free : ∀ b o, b ∉ ch → s.heap.get? b = some o → H b = none → H' b = none)
    (there : ∀ b o, b ∉ ch → s.heap.get? b = some o → ∃ o', h'.get? b = some o')
    (tups : ∀ b xs, H b = some (.tup xs) → H' b = some (.tup xs)) (frzs : ∀ b o u, H b = some (.frz o u) → H' b = some (.frz o u)) (tbls : ∀ b ps, H b = some (.tbl ps) → ∃ more, H' b = some (.tbl (ps ++ more)))
    (ns : ∀ m, s.heap.Ns X.env.locals m → h'.Ns X.env.locals m) (hok : HOk X.prog X.w H' h') (hg : Bare2 X.qt X.s_0 g' d') :
    Inv X pins σ H' { s with heap := h', gens := g', drawn := d', toks := t' } := by
  have neL : ∀ b o, X.s_0.heap.get? b = some o → b ≠ X.env.locals := fun b o e => Nat.ne_of_lt (Nat.lt_of_lt_of_le (Heap.lt_size e) I.ok.above)
  have neC : ∀ b o, X.s_0.heap.get? b = some o → b ∉ X.ex → b ∉ ch := fun b o e hx hb => by
    rcases (hch b hb).1 with z | z
    · exact hx z
    · exact absurd (Nat.lt_of_lt_of_le (Heap.lt_size e) z) (Nat.lt_irrefl _)
  have cellK : ∀ x c, X.env.cells.lookup x = some c → ∀ v, s.heap.IsCell c v → h'.IsCell c v := fun x c e v ⟨o, ho, hd⟩ => by
    have nch : c ∉ ch := fun z => (hch c z).2.2.1 x c e rfl
    by_cases hc : c ∈ X.fs
    · obtain ⟨sl, q⟩ := slot c o (I.cne x c e) hc nch ho (I.freeC x c e)
      exact ⟨_, q, hd⟩
    · exact ⟨o, keep c o (I.cne x c e) hc nch ho (I.freeC x c e), hd⟩
  refine ⟨I.ok, I.os, hg, ⟨fun b o e n hb hx => ?_, fun b o e n hb hx => ?_, fun b o e n hx => ?_, fun b o e hx => ?_, fun b xs e => tups b xs (I.base.tups b xs e), fun b o xs e => frzs b o xs (I.base.frzs b o xs e), fun b ps e => ?_⟩, ?_, fun x c e => ?_, ?_, fun x c e => ?_, fun p hp => ?_, hok, I.len⟩
  · exact keep b o (neL b o e) hb (neC b o e hx) (I.base.keep b o e n hb hx) (I.base.free b o e n hx)
  · obtain ⟨sl, e1⟩ := I.base.slot b o e n hb hx
    obtain ⟨sl', e2⟩ := slot b _ (neL b o e) hb (neC b o e hx) e1 (I.base.free b o e n hx)
    exact ⟨sl', e2⟩
  · obtain ⟨o', e1⟩ := I.base.there b o e hx
    exact free b o' (neC b o e hx) e1 (I.base.free b o e n hx)
  · obtain ⟨o', e1⟩ := I.base.there b o e hx
    exact there b o' (neC b o e hx) e1
  · obtain ⟨m1, e1⟩ := I.base.tbls b ps e
    obtain ⟨m2, e2⟩ := tbls b _ e1
    exact ⟨m1 ++ m2, by rw [e2, Array.append_assoc]⟩
  · obtain ⟨m, hn, hl⟩ := I.loc
    refine ⟨m, ns m hn, fun i x v e1 e2 e3 => ?_⟩
    obtain ⟨u, r, l⟩ := hl i x v e1 e2 e3
    refine ⟨u, r, ?_⟩
    rcases l with l | ⟨k, c, e, z⟩
    · exact .inl l
    · exact .inr ⟨k, c, e, cellK x c e _ z⟩
  · obtain ⟨v, z⟩ := I.cell x c e
    exact ⟨v, cellK x c e v z⟩
  · obtain ⟨m, ⟨o, _, _, ho, _⟩, _⟩ := I.loc
    exact free _ o (fun z => (hch _ z).2.1 rfl) ho I.free
  · obtain ⟨v, o, ho, hd⟩ := I.cell x c e
    exact free c o (fun z => (hch c z).2.2.1 x c e rfl) ho (I.freeC x c e)
  · obtain ⟨e, n, ne, nf, d⟩ := I.pin p hp
    have nch : p.1 ∉ ch := fun z => (hch p.1 z).2.2.2 p hp rfl
    exact ⟨keep p.1 p.2 ne nf nch e n, free p.1 p.2 nch e n, ne, nf, d⟩
/-- .. where the frame's own object is kept too -/
theorem Inv.un {t' : Nat} (I : Inv X pins σ H s) (u : Un X.fs [] H H' s.heap h') (hok : HOk X.prog X.w H' h') : Inv X pins σ H' { s with heap := h', toks := t' } := by
  obtain ⟨m, ⟨o, es, ep, ho, r⟩, _⟩ := id I.loc
  obtain ⟨sl, hL⟩ := u.any ho I.free (by simp)
  exact I.step (g' := s.gens) (d' := s.drawn) (ch := []) (fun _ z => nomatch z) (fun b o _ hb _ e n => u.keep b o e n hb (by simp)) (fun b o _ hb _ e n => u.slot b o e n hb (by simp)) (fun b o _ e n => u.free b o e n (by simp)) (fun b o _ e => u.there b o e (by simp)) u.tups u.frzs u.tbls (fun m' hm => by
    obtain ⟨o', es', ep', ho', r'⟩ := hm
    rw [ho] at ho'; cases ho'
    exact ⟨_, es', ep', hL, r'⟩) hok I.bare
/-- behind a call (or a comprehension's block): the slots of this frame may have changed too, the records at ch may have turned -/
theorem Inv.call {g' : Array GenState} {t' : Nat} {d' : Drawn} {ch : List Addr} (I : Inv X pins σ H s) (u : Un (frs X.stack) ch H H' s.heap h') (hok : HOk X.prog X.w H' h') (hg : Bare2 X.qt X.s_0 g' d')
    (hch : ∀ b ∈ ch, (b ∈ X.ex ∨ X.s_0.heap.objs.size ≤ b) ∧ b ≠ X.env.locals ∧ (∀ x c, X.env.cells.lookup x = some c → c ≠ b) ∧ ∀ p ∈ X.pn ++ pins, p.1 ≠ b) :
    Inv X pins σ H' { s with heap := h', gens := g', drawn := d', toks := t' } := by
  obtain ⟨m, ⟨o, es, ep, ho, r⟩, _⟩ := id I.loc
  obtain ⟨sl, hL⟩ := u.any ho I.free fun z => (hch _ z).2.1 rfl
  exact I.step (ch := ch) hch (fun b o hL hb hc e n => u.keep b o e n (fun z => (List.mem_cons.mp (I.stkSub b z)).elim hL hb) hc) (fun b o _ _ hc e n => u.any e n hc) (fun b o hc e n => u.free b o e n hc) (fun b o hc e => u.there b o e hc) u.tups u.frzs u.tbls (fun m' hm => by
    obtain ⟨o', es', ep', ho', r'⟩ := hm
    rw [ho] at ho'; cases ho'
    exact ⟨_, es', ep', hL, r'⟩) hok hg
/-- an untracked record of ours (an iterator) has turned -/
theorem Inv.turned {t' : Nat} {it : Addr} (I : Inv X pins σ H s) (k : ∀ b o, b ≠ it → s.heap.get? b = some o → h'.get? b = some o) (hn : H it = none) (hL : it ≠ X.env.locals)
    (h1 : it ∈ X.ex ∨ X.s_0.heap.objs.size ≤ it) (h2 : ∀ x c, X.env.cells.lookup x = some c → c ≠ it) (h3 : ∀ p ∈ X.pn ++ pins, p.1 ≠ it) : Inv X pins σ H { s with heap := h', toks := t' } := by
  have nit : ∀ b u, H b = some u → b ≠ it := fun b u e z => by rw [z, hn] at e; cases e
  refine I.step (g' := s.gens) (d' := s.drawn) (ch := [it]) (fun b hb => ?_) (fun b o _ _ hc e _ => k b o (fun z => hc (by simp [z])) e) (fun b o _ _ hc e _ => ⟨o.slots, k b o (fun z => hc (by simp [z])) e⟩) (fun _ _ _ _ n => n)
    (fun b o hc e => ⟨o, k b o (fun z => hc (by simp [z])) e⟩) (fun _ _ e => e) (fun _ _ _ e => e) (fun b ps e => ⟨#[], by rw [e]; simp⟩) (fun m hm => ?_) (fun b u e => ?_) I.bare
  · have e : b = it := by simpa using hb
    subst e
    exact ⟨h1, hL, h2, h3⟩
  · obtain ⟨o, es, ep, ho, r⟩ := hm
    exact ⟨o, es, ep, k _ o (Ne.symm hL) ho, r⟩
  · refine (I.hok b u e).stay (fun c v hc q => k c v ?_ q) (fun _ q => q) fun _ _ q => q
    rcases hc with z | z
    · rw [z]; exact nit b u e
    · exact nit c _ z
theorem Inv.tok (I : Inv X pins σ H s) (t : Nat) : Inv X pins σ H { s with toks := t } := I.un (h' := s.heap) (t' := t) Un.refl I.hok
/-- all objects kept -/
theorem Inv.kept {t' : Nat} (I : Inv X pins σ H s) (k : ∀ b u, s.heap.get? b = some u → h'.get? b = some u) : Inv X pins σ H { s with heap := h', toks := t' } := I.un (Un.kept k) (I.hok.kept k)
/-- a new object laid and tracked -/
theorem Inv.laid {a : Addr} {o : HO} {t' : Nat} (I : Inv X pins σ H s) (k : ∀ b u, s.heap.get? b = some u → h'.get? b = some u) (hp : s.heap.objs.size ≤ a) (new : ObjOk X.prog X.w (upd H a o) h' a o) :
    Inv X pins σ (upd H a o) { s with heap := h', toks := t' } := I.un (Un.laid k hp (I.hok.fresh hp)) (I.hok.laid k hp new)
/-- an object written -/
theorem Inv.write {x e : Addr} {o : HO} {t' : Nat} (I : Inv X pins σ H s) (mu : Mut (H x)) (he : e = x ∨ H e = some (.own x)) (k : ∀ b u, b ≠ e → s.heap.get? b = some u → h'.get? b = some u) (heo : ∃ u, h'.get? e = some u)
    (new : ObjOk X.prog X.w (upd H x o) h' x o) : Inv X pins σ (upd H x o) { s with heap := h', toks := t' } := I.un (Un.write mu he k heo) (I.hok.write mu he k heo new)
/-- forgetting slots, pins -/
theorem Inv.weak {σ' : List (Option V)} (I : Inv X pins σ H s) (hl : σ'.length = σ.length) (w : ∀ (i : Nat) v, σ'[i]? = some (some v) → σ[i]? = some (some v)) : Inv X pins σ' H s :=
  ⟨I.ok, I.os, I.bare, I.base, let ⟨m, hn, hl'⟩ := I.loc; ⟨m, hn, fun i x v e1 e2 e3 => hl' i x v e1 (w i v e2) e3⟩, I.cell, I.free, I.freeC, I.pin, I.hok, hl.trans I.len⟩
theorem Inv.pins_of {pins' : List (Addr × Obj)} (I : Inv X pins σ H s) (h : ∀ p ∈ pins', s.heap.get? p.1 = some p.2 ∧ H p.1 = none ∧ p.1 ≠ X.env.locals ∧ p.1 ∉ X.fs ∧ ∀ v, p.2.data ≠ .cell v) : Inv X pins' σ H s :=
  ⟨I.ok, I.os, I.bare, I.base, I.loc, I.cell, I.free, I.freeC, fun p hp => (List.mem_append.mp hp).elim (fun z => I.pin p (List.mem_append_left _ z)) (h p), I.hok, I.len⟩

theorem nodup_ix {N : List Str} (hN : N.Nodup) {i j : Nat} {x : Str} (a : N[i]? = some x) (b : N[j]? = some x) : i = j := by
  obtain ⟨h1, e1⟩ := List.getElem?_eq_some_iff.mp a
  obtain ⟨h2, e2⟩ := List.getElem?_eq_some_iff.mp b
  exact (List.getElem_inj hN).mp (e1.trans e2.symm)

/-- a name is stored; what changed -/
theorem store_ok2 {M : Model} {A : Around} {E : Value → Shared → Prop} {i : Nat} {x : Str} {v : V} {u : Value} {Q : Unit → Shared → Prop} (I : Inv X pins σ H s) (hN : X.N.Nodup) (hi : X.N[i]? = some x) (hx : Loc X.env.scope x) (r : RelV v u)
    (h : ∀ s', Inv X pins (σ.set i (some v)) H s' → (∃ a, Heap.SameBut a s.heap s'.heap ∧ (a = X.env.locals ∨ X.env.cells.lookup x = some a)) → Q () s') (hf : X.fn x = true ∨ X.env.scope.names.lookup x = some .local := by first | exact .inl rfl | exact .inr rfl | assumption) : wpAny M A (storeName X.env x u) Q E s := by
  obtain ⟨m, hn, hl⟩ := id I.loc
  have hcls : (X.env.scope.kind == .class || (X.env.scope.kind == .module && X.env.locals != X.env.globals)) = false := by rw [I.ok.kind]; rfl
  have hiσ : i < σ.length := by rw [I.len]; exact (List.getElem?_eq_some_iff.mp hi).1
  have cne := I.cne
  have tracked : ∀ {a : Addr} {h' : Heap}, (∃ o, s.heap.get? a = some o ∧ H a = none) → Heap.SameBut a s.heap h' → HOk X.prog X.w H h' := fun {a h'} ha hs b ob e => by
    obtain ⟨_, _, hfree⟩ := ha
    refine (I.hok b ob e).stay (fun c w' hc q => (hs.2 c ?_).trans q) (fun _ q => q) fun _ _ q => q
    rintro rfl
    rcases hc with rfl | hc
    · rw [hfree] at e; cases e
    · rw [hfree] at hc; cases hc
  rcases hx with hk | hk
  · refine wpAny_storeName_local hk hn (fun h' hn' hs => ?_) hcls
    obtain ⟨oL, _, _, hoL, _⟩ := id hn
    refine h _ ⟨I.ok, I.os, I.bare, ⟨fun b o e n hb hx => ?_, fun b o e n hb hx => ?_, I.base.free, fun b o e hx => ?_, I.base.tups, I.base.frzs, I.base.tbls⟩, ⟨_, hn', fun j y v' e1 e2 e3 => ?_⟩, fun y c e => ?_, I.free, I.freeC, fun p hp => ?_, tracked ⟨oL, hoL, I.free⟩ hs, by simpa using I.len⟩ ⟨_, hs, .inl rfl⟩
    · exact (hs.2 b (Nat.ne_of_lt (Nat.lt_of_lt_of_le (Heap.lt_size e) I.ok.above))).trans (I.base.keep b o e n hb hx)
    · obtain ⟨sl, e1⟩ := I.base.slot b o e n hb hx
      exact ⟨sl, (hs.2 b (Nat.ne_of_lt (Nat.lt_of_lt_of_le (Heap.lt_size e) I.ok.above))).trans e1⟩
    · obtain ⟨o', e1⟩ := I.base.there b o e hx
      exact ⟨o', (hs.2 b (Nat.ne_of_lt (Nat.lt_of_lt_of_le (Heap.lt_size e) I.ok.above))).trans e1⟩
    · by_cases hj : j = i
      · subst hj
        rw [hi] at e1; cases e1
        rw [List.getElem?_set_self hiσ] at e2
        cases e2
        exact ⟨u, r, .inl ⟨hk, by simp⟩⟩
      · rw [List.getElem?_set_ne (Ne.symm hj)] at e2
        obtain ⟨u', r', q⟩ := hl j y v' e1 e2 e3
        refine ⟨u', r', ?_⟩
        rcases q with ⟨k, e⟩ | ⟨k, c, e, z⟩
        · refine .inl ⟨k, ?_⟩
          have : y ≠ x := fun e => hj (nodup_ix hN e1 (e ▸ hi))
          simp [this, e]
        · exact .inr ⟨k, c, e, z.sameBut hs (cne y c e)⟩
    · obtain ⟨w', z⟩ := I.cell y c e
      exact ⟨w', z.sameBut hs (cne y c e)⟩
    · obtain ⟨e, n, ne, nf, d⟩ := I.pin p hp
      exact ⟨(hs.2 p.1 ne).trans e, n, ne, nf, d⟩
  · have hfn : X.fn x = true := by
      rcases hf with z | z
      · exact z
      · rw [z] at hk; cases hk
    obtain ⟨c, hc⟩ := I.ok.has x (.inl hk)
    obtain ⟨w', z⟩ := I.cell x c hc
    refine wpAny_storeName_cell I.ok.kind hk hc z (fun h' hc' hs => ?_)
    obtain ⟨oc, hoc, hocd⟩ := id z
    refine h { s with heap := h' } ⟨I.ok, I.os, I.bare, ⟨fun b o e n hb hx => ?_, fun b o e n hb hx => ?_, I.base.free, fun b o e hx => ?_, I.base.tups, I.base.frzs, I.base.tbls⟩, ⟨m, hn.sameBut hs (Ne.symm (cne x c hc)), fun j y v' e1 e2 e3 => ?_⟩, fun y c' e => ?_, I.free, I.freeC, fun p hp => ?_, tracked ⟨oc, hoc, I.freeC x c hc⟩ hs, by simpa using I.len⟩ ⟨c, hs, .inr hc⟩
    · exact (hs.2 b (Nat.ne_of_lt (Nat.lt_of_lt_of_le (Heap.lt_size e) (I.ok.cab x c hfn hc)))).trans (I.base.keep b o e n hb hx)
    · obtain ⟨sl, e1⟩ := I.base.slot b o e n hb hx
      exact ⟨sl, (hs.2 b (Nat.ne_of_lt (Nat.lt_of_lt_of_le (Heap.lt_size e) (I.ok.cab x c hfn hc)))).trans e1⟩
    · obtain ⟨o', e1⟩ := I.base.there b o e hx
      exact ⟨o', (hs.2 b (Nat.ne_of_lt (Nat.lt_of_lt_of_le (Heap.lt_size e) (I.ok.cab x c hfn hc)))).trans e1⟩
    · by_cases hj : j = i
      · subst hj
        rw [hi] at e1; cases e1
        rw [List.getElem?_set_self hiσ] at e2
        cases e2
        exact ⟨u, r, .inr ⟨.inl hk, c, hc, hc'⟩⟩
      · rw [List.getElem?_set_ne (Ne.symm hj)] at e2
        obtain ⟨u', r', q⟩ := hl j y v' e1 e2 e3
        refine ⟨u', r', ?_⟩
        rcases q with q | ⟨k, c', e, z'⟩
        · exact .inl q
        · refine .inr ⟨k, c', e, z'.sameBut hs ?_⟩
          rintro rfl
          exact hj (nodup_ix hN e1 (I.ok.inj _ _ _ e hc ▸ hi))
    · by_cases hcc : c' = c
      · subst hcc; exact ⟨_, hc'⟩
      · obtain ⟨w2, z2⟩ := I.cell y c' e
        exact ⟨w2, z2.sameBut hs hcc⟩
    · obtain ⟨e, n, ne, nf, d⟩ := I.pin p hp
      refine ⟨(hs.2 p.1 ?_).trans e, n, ne, nf, d⟩
      intro q
      rw [q, hoc] at e
      have q' : oc = p.2 := Option.some.inj e
      exact d w' (by rw [← q']; exact hocd)
theorem store_ok {M : Model} {A : Around} {E : Value → Shared → Prop} {i : Nat} {x : Str} {v : V} {u : Value} {Q : Unit → Shared → Prop} (I : Inv X pins σ H s) (hN : X.N.Nodup) (hi : X.N[i]? = some x) (hx : Loc X.env.scope x) (r : RelV v u)
    (h : ∀ s', Inv X pins (σ.set i (some v)) H s' → Q () s') (hf : X.fn x = true ∨ X.env.scope.names.lookup x = some .local := by first | exact .inl rfl | exact .inr rfl | assumption) : wpAny M A (storeName X.env x u) Q E s :=
  store_ok2 I hN hi hx r (fun s' I' _ => h s' I') hf
/-- behind a call or a block, the state as it is -/
theorem Inv.call' {s' : Shared} {ch : List Addr} (I : Inv X pins σ H s) (ho : s'.os = s.os) (u : Un (frs X.stack) ch H H' s.heap s'.heap) (hok : HOk X.prog X.w H' s'.heap) (hg : Bare2 X.qt X.s_0 s'.gens s'.drawn)
    (hch : ∀ b ∈ ch, (b ∈ X.ex ∨ X.s_0.heap.objs.size ≤ b) ∧ b ≠ X.env.locals ∧ (∀ x c, X.env.cells.lookup x = some c → c ≠ b) ∧ ∀ p ∈ X.pn ++ pins, p.1 ≠ b) : Inv X pins σ H' s' := by
  obtain ⟨h', g', d', t', o'⟩ := s'
  have e : o' = s.os := ho
  subst e
  exact I.call (g' := g') (t' := t') (d' := d') u hok hg hch
end

/-! ### the judgements -/
/-- an exception: its class, its own dict's address (where it has one), the abstract heap behind it -/
abbrev XK := Value → Option Addr → Hp → Prop
abbrev St := List (Option V)
abbrev VK := V → Hp → Prop
/-- an expression's reading; a test's; an argument list's -/
abbrev TE := St → Hp → VK → Prop
abbrev TT := St → Hp → (Bool → Hp → Prop) → Prop
abbrev TA := St → Hp → (List V → Hp → Prop) → Prop
/-- what is wanted behind a statement -/
structure Ends where
  nx : St → Hp → Prop
  rt : VK
  bk : St → Hp → Prop := fun _ _ => False
  ct : St → Hp → Prop := fun _ _ => False
abbrev TS := Ends → St → Hp → Prop

def EP (X : Cx) (pins : List (Addr × Obj)) (σ : St) (Q : VK) (u : Value) (s' : Shared) : Prop := ∃ v H', Inv X pins σ H' s' ∧ RelV v u ∧ Q v H'
def TP (X : Cx) (pins : List (Addr × Obj)) (σ : St) (Q : Bool → Hp → Prop) (b : Bool) (s' : Shared) : Prop := ∃ H', Inv X pins σ H' s' ∧ Q b H'
def AP (X : Cx) (pins : List (Addr × Obj)) (σ : St) (Q : List V → Hp → Prop) (us : List Value) (s' : Shared) : Prop := ∃ vs H', Inv X pins σ H' s' ∧ Vals vs us ∧ Q vs H'
def SP (X : Cx) (pins : List (Addr × Obj)) (D : Ends) (f : Flow) (s' : Shared) : Prop :=
  match f with
  | .next => ∃ σ' H', Inv X pins σ' H' s' ∧ D.nx σ' H'
  | .brk => ∃ σ' H', Inv X pins σ' H' s' ∧ D.bk σ' H'
  | .cont => ∃ σ' H', Inv X pins σ' H' s' ∧ D.ct σ' H'
  | .ret u => ∃ v σ' H', Inv X pins σ' H' s' ∧ RelV v u ∧ D.rt v H'

def PE (X : Cx) (e : Expr) (t : TE) : Prop :=
  ∀ (pins : List (Addr × Obj)) (s : Shared) (σ : St) (H : Hp) (Q : VK), Inv X pins σ H s → t σ H Q → wpAny (model X.prog X.w) X.A (eval e X.env) (EP X pins σ Q) X.xe s
def PT (X : Cx) (e : Expr) (t : TT) : Prop :=
  ∀ (pins : List (Addr × Obj)) (s : Shared) (σ : St) (H : Hp) (Q : Bool → Hp → Prop), Inv X pins σ H s → t σ H Q → wpAny (model X.prog X.w) X.A (isTrue e X.env (eval e X.env)) (TP X pins σ Q) X.xe s
/-- a test whatever its 'whole' is (and, or) -/
def PW (X : Cx) (e : Expr) (t : TT) : Prop :=
  ∀ (whole : Sem Value) (pins : List (Addr × Obj)) (s : Shared) (σ : St) (H : Hp) (Q : Bool → Hp → Prop), Inv X pins σ H s → t σ H Q → wpAny (model X.prog X.w) X.A (isTrue e X.env whole) (TP X pins σ Q) X.xe s
theorem PW.pt {X : Cx} {e : Expr} {t : TT} (h : PW X e t) : PT X e t := h _
/-- an argument list (no star), from the left -/
def PA (X : Cx) (es : List Expr) (t : TA) : Prop :=
  ∀ (pos : Pos) (pins : List (Addr × Obj)) (s : Shared) (σ : St) (H : Hp) (Q : List V → Hp → Prop), Inv X pins σ H s → t σ H Q → wpAny (model X.prog X.w) X.A (spliced (backTo pos (starEach es X.env))) (AP X pins σ Q) X.xe s
def PS (X : Cx) (st : Stmt) (t : TS) : Prop :=
  ∀ (pins : List (Addr × Obj)) (s : Shared) (σ : St) (H : Hp) (D : Ends), Inv X pins σ H s → t D σ H → wpAny (model X.prog X.w) X.A (exec st X.env) (SP X pins D) X.xe s
def PSs (X : Cx) (st : List Stmt) (t : TS) : Prop :=
  ∀ (pins : List (Addr × Obj)) (s : Shared) (σ : St) (H : Hp) (D : Ends), Inv X pins σ H s → t D σ H → wpAny (model X.prog X.w) X.A (execs st X.env) (SP X pins D) X.xe s
/-- weaken the end -/
theorem thn {α : Type} {t : Sem α} {Q Q' : α → Shared → Prop} {M : Model} {A : Around} {E : Value → Shared → Prop} {s : Shared} (h : wpAny M A t Q E s) (hQ : ∀ a s, Q a s → Q' a s) : wpAny M A t Q' E s := wpAny_mono h hQ fun _ _ x => x
end L2

namespace L2
open PySem PySem.Spec PyProof.Rows
section
variable {X : Cx}

/-- two expressions in a row -/
theorem bin {a b : Expr} {ta tb : TE} (ha : PE X a ta) (hb : PE X b tb) {pins : List (Addr × Obj)} {s : Shared} {σ : St} {H : Hp} {R : V → V → Hp → Prop} (I : Inv X pins σ H s) (h : ta σ H fun x H1 => tb σ H1 fun y H2 => R x y H2)
    {α : Type} {Q : α → Shared → Prop} {f : Value → Value → Sem α}
    (hf : ∀ v u s2 x y H2, Inv X pins σ H2 s2 → RelV x v → RelV y u → R x y H2 → wpAny (model X.prog X.w) X.A (f v u) Q X.xe s2) :
    wpAny (model X.prog X.w) X.A (eval a X.env) (fun v s₁ => wpAny (model X.prog X.w) X.A (eval b X.env) (fun u s₂ => wpAny (model X.prog X.w) X.A (f v u) Q X.xe s₂) X.xe s₁) X.xe s := by
  refine thn (ha pins s σ H _ I h) fun v s1 ⟨x, H1, I1, r1, q1⟩ => ?_
  refine thn (hb pins s1 σ H1 _ I1 q1) fun u s2 ⟨y, H2, I2, r2, q2⟩ => ?_
  exact hf v u s2 x y H2 I2 r1 r2 q2

/-! ### names and constants -/
def tVar (i : Nat) : TE := fun σ H Q => ∃ v, σ[i]? = some (some v) ∧ Q v H
def tC (v : V) : TE := fun _ H Q => Q v H
theorem pe_var {i : Nat} {x : Str} {pos : Pos} (hN : X.N[i]? = some x) (hv : Vis X.env.scope x) (hd : (x == ("__debug__" : Str)) = false := by decide) (hcd : (x == ("__classdict__" : Str)) = false := by decide) : PE X (.Name x pos) (tVar i) := by
  intro pins s σ H Q I h
  obtain ⟨v, e, h⟩ := h
  obtain ⟨m, hn, hl⟩ := I.loc
  obtain ⟨u, r, l⟩ := hl i x v hN e hv
  have fin : EP X pins σ Q u s := ⟨v, H, I, r, h⟩
  rcases l with ⟨hk, hm⟩ | ⟨hk, c, hc, hcell⟩
  · exact wpAny_Name (wpAny_loadName_local I.ok.kind hk hn hm fin) hd
  · rcases hk with hk | hk
    · exact wpAny_Name (wpAny_loadName_cell I.ok.kind hk hc hcell fin) hd
    · exact wpAny_Name (wpAny_loadName_free I.ok.kind hk hc hcell fin hcd) hd
theorem pe_int {i j pos} : PE X (.Constant (.int i) j pos) (tC (.int i)) := fun _ _ _ H _ I h => wpAny_Constant_int ⟨.int i, H, I.tok _, ⟨_, rfl⟩, h⟩
theorem pe_bl {b j pos} : PE X (.Constant (.bool b) j pos) (tC (.bl b)) := fun _ _ _ H _ I h => Constant_bool ⟨.bl b, H, I, rfl, h⟩
theorem pe_non {j pos} : PE X (.Constant .none j pos) (tC .non) := fun _ _ _ H _ I h => Constant_none ⟨.non, H, I, rfl, h⟩
theorem pe_str {x j pos} : PE X (.Constant (.str x) j pos) (tC (.str x)) := fun _ _ _ H _ I h => Calls.Constant_str ⟨.str x, H, I.tok _, ⟨_, rfl⟩, h⟩

/-- a global name of the def -/
def Gl (X : Cx) (x : Str) : Prop := X.env.kindOf x = some .globalImplicit
theorem ld_glob {E : Value → Shared → Prop} {pins : List (Addr × Obj)} {s : Shared} {σ : St} {H : Hp} {x : Str} {u : Value} {pos : Pos} {Q : Value → Shared → Prop} (I : Inv X pins σ H s) (hg : Gl X x) (hm : X.mg x = some u) (h : Q u s)
    (hd : (x == ("__debug__" : Str)) = false := by decide) : wpAny (model X.prog X.w) X.A (eval (.Name x pos) X.env) Q E s :=
  Calls.Name_function_global I.ok.kind hg (Calls.loadGlobal_global (by rw [I.ok.glob]; exact I.mod.glob.keeps I.bk) hm h) hd
theorem ld_blt {E : Value → Shared → Prop} {pins : List (Addr × Obj)} {s : Shared} {σ : St} {H : Hp} {x : Str} {u : Value} {pos : Pos} {Q : Value → Shared → Prop} (I : Inv X pins σ H s) (hg : Gl X x) (hm : X.mg x = none) (hv : bootBuiltins x = some u) (h : Q u s)
    (hn : x ≠ "__name__" := by decide) (hd : (x == ("__debug__" : Str)) = false := by decide) : wpAny (model X.prog X.w) X.A (eval (.Name x pos) X.env) Q E s := by
  obtain ⟨mb, h1, h2⟩ := I.mod.blt
  exact Calls.Name_function_global I.ok.kind hg (Calls.loadGlobal_builtin (by rw [I.ok.glob]; exact I.mod.glob.keeps I.bk) hm (by rw [I.ok.blt]; exact h1.keeps I.bk) ((h2 x hn).trans hv) h) hd
/-- a module's constant, a class, a function, as a value -/
theorem pe_glob {x : Str} {v : V} {u : Value} {pos : Pos} (hg : Gl X x) (hm : X.mg x = some u) (r : RelV v u) (hd : (x == ("__debug__" : Str)) = false := by decide) : PE X (.Name x pos) (tC v) :=
  fun _ _ _ H _ I h => ld_glob I hg hm ⟨v, H, I, r, h⟩ hd
theorem pe_bltn {x : Str} {v : V} {u : Value} {pos : Pos} (hg : Gl X x) (hm : X.mg x = none) (hv : bootBuiltins x = some u) (r : RelV v u) (hn : x ≠ "__name__" := by decide) (hd : (x == ("__debug__" : Str)) = false := by decide) : PE X (.Name x pos) (tC v) :=
  fun _ _ _ H _ I h => ld_blt I hg hm hv ⟨v, H, I, r, h⟩ hn hd

/-! ### arithmetic -/
/-- two ints -/
def t2I (ta tb : TE) (k : Int → Int → Hp → Prop) : St → Hp → Prop := fun σ H => ta σ H fun x H1 => tb σ H1 fun y H2 => ∃ i j, x = .int i ∧ y = .int j ∧ k i j H2
variable {a b : Expr} {ta tb : TE} {pos : Pos}
/-! ### comparisons -/
def PC (X : Cx) (op : CmpOp) (a b : Expr) (t : TE) : Prop :=
  ∀ (pins : List (Addr × Obj)) (s : Shared) (σ : St) (H : Hp) (Q : VK), Inv X pins σ H s → t σ H Q →
    wpAny (model X.prog X.w) X.A (eval a X.env) (fun v s₁ => wpAny (model X.prog X.w) X.A (eval b X.env) (fun u s₂ => wpAny (model X.prog X.w) X.A (compareOp op v u) (EP X pins σ Q) X.xe s₂) X.xe s₁) X.xe s
theorem nobehind (b : Expr) {op : CmpOp} (h : op ≠ .In) (h2 : op ≠ .NotIn) : behindInMarks op b = false := by
  have e1 : (op == CmpOp.In) = false := by cases op <;> first | rfl | exact absurd rfl h
  have e2 : (op == CmpOp.NotIn) = false := by cases op <;> first | rfl | exact absurd rfl h2
  cases b <;> simp [behindInMarks, e1, e2]
def tCmp (p : Int → Int → Bool) (ta tb : TE) : TE := fun σ H Q => t2I ta tb (fun i j H2 => Q (.bl (p i j)) H2) σ H
abbrev tLt : TE → TE → TE := tCmp fun i j => decide (i < j)
abbrev tLe : TE → TE → TE := tCmp fun i j => decide (i ≤ j)
abbrev tGt : TE → TE → TE := tCmp fun i j => decide (j < i)
abbrev tEqI : TE → TE → TE := tCmp fun i j => decide (i = j)
abbrev tNeI : TE → TE → TE := tCmp fun i j => !decide (i = j)
/-- a comparison of two ints, by its rule -/
theorem pc_int {op : CmpOp} {p : Int → Int → Bool} (ha : PE X a ta) (hb : PE X b tb)
    (rule : ∀ (i j : Int) (t u : Tok) (Q : Value → Shared → Prop) (s : Shared), Q (.bool (p i j)) s → wpAny (model X.prog X.w) X.A (compareOp op (.int i t) (.int j u)) Q X.xe s) : PC X op a b (tCmp p ta tb) := by
  intro pins s σ H Q I h
  refine bin ha hb I h fun v u s2 x y H2 I2 rx ry q => ?_
  obtain ⟨i, j, rfl, rfl, q⟩ := q
  obtain ⟨t, rfl⟩ := rx
  obtain ⟨t', rfl⟩ := ry
  exact rule i j t t' _ s2 ⟨.bl _, H2, I2, rfl, q⟩
theorem pc_lt (ha : PE X a ta) (hb : PE X b tb) : PC X .Lt a b (tLt ta tb) := pc_int ha hb fun _ _ _ _ _ _ h => lt_int h
theorem pc_le (ha : PE X a ta) (hb : PE X b tb) : PC X .LtE a b (tLe ta tb) := pc_int ha hb fun _ _ _ _ _ _ h => le_int h
theorem pc_gt (ha : PE X a ta) (hb : PE X b tb) : PC X .Gt a b (tGt ta tb) := pc_int ha hb fun _ _ _ _ _ _ h => gt_int h
theorem pc_eqI (ha : PE X a ta) (hb : PE X b tb) : PC X .Eq a b (tEqI ta tb) := pc_int ha hb fun _ _ _ _ _ _ h => eq_int (by rw [Bool.beq_eq_decide_eq]; exact h)
theorem pc_neI (ha : PE X a ta) (hb : PE X b tb) : PC X .NotEq a b (tNeI ta tb) := pc_int ha hb fun _ _ _ _ _ _ h => ne_int (by rw [bne, Bool.beq_eq_decide_eq]; exact h)
/-- is None -/
def tIsN (ta : TE) : TE := fun σ H Q => ta σ H fun x H1 => Q (.bl (decide (x = .non))) H1
def tNotN (ta : TE) : TE := fun σ H Q => ta σ H fun x H1 => Q (.bl (!decide (x = .non))) H1
theorem RelV.none_iff {x : V} {v : Value} (r : RelV x v) : (v == Value.none) = decide (x = .non) := by
  cases x with
  | non => cases r; rfl
  | bl _ => cases r; rfl
  | int _ => obtain ⟨t, rfl⟩ := r; rfl
  | str _ => obtain ⟨t, rfl⟩ := r; rfl
  | byt _ => obtain ⟨t, rfl⟩ := r; rfl
  | flt _ => obtain ⟨t, rfl⟩ := r; rfl
  | ref _ => cases r; rfl
  | ty _ => cases r; rfl
theorem pc_isN {j pos'} (ha : PE X a ta) : PC X .Is a (.Constant .none j pos') (tIsN ta) := by
  intro pins s σ H Q I h
  refine thn (ha pins s σ H _ I h) fun v s1 ⟨x, H1, I1, r1, q1⟩ => ?_
  exact Constant_none (is_none_gen ⟨.bl _, H1, I1, by rw [r1.none_iff]; rfl, q1⟩)
theorem pc_notN {j pos'} (ha : PE X a ta) : PC X .IsNot a (.Constant .none j pos') (tNotN ta) := by
  intro pins s σ H Q I h
  refine thn (ha pins s σ H _ I h) fun v s1 ⟨x, H1, I1, r1, q1⟩ => ?_
  exact Constant_none (isnot_none_gen ⟨.bl _, H1, I1, by rw [r1.none_iff]; rfl, q1⟩)
/-- a comparison as a value, as a test -/
def tB (t : TE) : TT := fun σ H Q => t σ H fun x H1 => ∃ c, x = .bl c ∧ Q c H1
theorem pe_cmp {op : CmpOp} {t : TE} (h : PC X op a b t) (h1 : behindInMarks op b = false := by first | exact nobehind _ (by decide) (by decide) | rfl) : PE X (.Compare a [op] [b] pos) t := fun pins s σ H Q I hw => wpAny_Compare1 (h pins s σ H Q I hw) h1
theorem pt_cmp {op : CmpOp} {t : TE} (h : PC X op a b t) (h1 : behindInMarks op b = false := by first | exact nobehind _ (by decide) (by decide) | rfl) : PT X (.Compare a [op] [b] pos) (tB t) := by
  intro pins s σ H Q I hw
  refine wpAny_isTrue_Compare1 (thn (h pins s σ H _ I hw) fun v s1 h1 => thn h1 fun u s2 h2 => thn h2 fun c s3 ⟨x, H1, I1, r1, q1⟩ => ?_) h1
  obtain ⟨d, rfl, q⟩ := q1
  cases r1
  exact wpAny_truthy_bool ⟨H1, I1, q⟩
/-- an expression whose value is a bool, as a test -/
theorem pt_val {e : Expr} {t : TE} (h : PE X e t) (he : ∀ whole, isTrue e X.env whole = (do let v ← whole; standAt e.pos; holding [v] (truthy v)) := by intro _; rfl) : PT X e (tB t) := by
  intro pins s σ H Q I hw
  refine isTrue_plain (thn (h pins s σ H _ I hw) fun v s1 ⟨x, H1, I1, r1, q1⟩ => ?_) (he _)
  obtain ⟨d, rfl, q⟩ := q1
  cases r1
  exact wpAny_truthy_bool ⟨H1, I1, q⟩

/-! ### and, or, not -/
variable {tA tB' : TT} {rest : List Expr}
def tAnd (t u : TT) : TT := fun σ H Q => t σ H fun c H1 => if c = true then u σ H1 Q else Q false H1
def tOr (t u : TT) : TT := fun σ H Q => t σ H fun c H1 => if c = true then Q true H1 else u σ H1 Q
def tNot (t : TT) : TT := fun σ H Q => t σ H fun c H1 => Q (!c) H1
theorem pw_and1 (ha : PT X a tA) : PW X (.BoolOp .And [a] pos) tA := by
  intro wh pins s σ H Q I h
  refine isTrue_and (thn (ha pins s σ H Q I h) fun c s1 e => ?_)
  cases c with
  | true => exact isTrue_and_nil e
  | false => exact e
theorem pw_or1 (ha : PT X a tA) : PW X (.BoolOp .Or [a] pos) tA := by
  intro wh pins s σ H Q I h
  refine isTrue_or (thn (ha pins s σ H Q I h) fun c s1 e => ?_)
  cases c with
  | false => exact isTrue_or_nil e
  | true => exact e
theorem pw_and (ha : PT X a tA) (hb : PW X (.BoolOp .And (b :: rest) pos) tB') : PW X (.BoolOp .And (a :: b :: rest) pos) (tAnd tA tB') := by
  intro wh pins s σ H Q I h
  refine isTrue_and (thn (ha pins s σ H _ I h) fun c s1 ⟨H1, I1, q1⟩ => ?_)
  cases c with
  | true => exact hb wh pins s1 σ H1 Q I1 q1
  | false => exact ⟨H1, I1, q1⟩
theorem pw_or (ha : PT X a tA) (hb : PW X (.BoolOp .Or (b :: rest) pos) tB') : PW X (.BoolOp .Or (a :: b :: rest) pos) (tOr tA tB') := by
  intro wh pins s σ H Q I h
  refine isTrue_or (thn (ha pins s σ H _ I h) fun c s1 ⟨H1, I1, q1⟩ => ?_)
  cases c with
  | true => exact ⟨H1, I1, q1⟩
  | false => exact hb wh pins s1 σ H1 Q I1 q1
theorem pt_not (ha : PT X a tA) : PT X (.UnaryOp .Not a pos) (tNot tA) := by
  intro pins s σ H Q I h
  exact isTrue_not (ha pins s σ H (fun c H1 => Q (!c) H1) I h)
/-- .. as values (bools) -/
def tAndV (ta tb : TE) : TE := fun σ H Q => ta σ H fun x H1 => ∃ c, x = .bl c ∧ if c = true then tb σ H1 Q else Q (.bl false) H1
def tNotV (ta : TE) : TE := fun σ H Q => ta σ H fun x H1 => ∃ c, x = .bl c ∧ Q (.bl (!c)) H1
theorem pe_one {op} {t : TE} (h : PE X a t) : PE X (.BoolOp op [a] pos) t := fun pins s σ H Q I hw => BoolOp_one (h pins s σ H Q I hw)
theorem pe_and (ha : PE X a ta) (hb : PE X (.BoolOp .And (b :: rest) pos) tb) : PE X (.BoolOp .And (a :: b :: rest) pos) (tAndV ta tb) := by
  intro pins s σ H Q I h
  refine BoolOp_and (thn (ha pins s σ H _ I h) fun v s1 ⟨x, H1, I1, r1, q1⟩ => ?_)
  obtain ⟨c, rfl, q1⟩ := q1
  cases r1
  refine wpAny_truthy_bool ?_
  cases c with
  | true => exact hb pins s1 σ H1 Q I1 q1
  | false => exact ⟨.bl false, H1, I1, rfl, q1⟩
theorem pe_not (ha : PE X a ta) : PE X (.UnaryOp .Not a pos) (tNotV ta) := by
  intro pins s σ H Q I h
  refine UnaryOp_ (thn (ha pins s σ H _ I h) fun v s1 ⟨x, H1, I1, r1, q1⟩ => ?_)
  obtain ⟨c, rfl, q1⟩ := q1
  cases r1
  exact not_of (wpAny_truthy_bool ⟨.bl (!c), H1, I1, rfl, q1⟩)
end
end L2

namespace L2
open PySem PySem.Spec PyProof.Rows

/-! ### a list, a tuple that is read: tracked, frozen, or an object of the module -/
def SqL (K : PySem.W.Frag) (H : Hp) (a : Addr) (xs : List V) : Prop :=
  Rd H a (.lst xs) ∨
    ∃ (o : Obj) (its : Array Value) (n : Nat), K.lookup a = some o ∧ o.cls = .type "list" ∧ o.dict = none ∧ o.data = .seq its n ∧ its.size ≤ sizeLine ∧ Vals xs its.toList
def SqT (K : PySem.W.Frag) (H : Hp) (a : Addr) (xs : List V) : Prop :=
  Rd H a (.tup xs) ∨
    ∃ (o : Obj) (its : Array Value) (n : Nat), K.lookup a = some o ∧ o.cls = .type "tuple" ∧ o.data = .seq its n ∧ its.size ≤ sizeLine ∧ Vals xs its.toList
def absV : Value → Option V
  | .none => some .non
  | .bool b => some (.bl b)
  | .int i _ => some (.int i)
  | .str x _ => some (.str x)
  | .bytes b _ => some (.byt b)
  | .float b _ => some (.flt b)
  | .ref a => some (.ref a)
  | .type n => some (.ty n)
  | _ => none
theorem RelV.abs {x : V} {u : Value} (r : RelV x u) : absV u = some x := by
  cases x with
  | non => cases r; rfl
  | bl _ => cases r; rfl
  | int _ => obtain ⟨t, rfl⟩ := r; rfl
  | str _ => obtain ⟨t, rfl⟩ := r; rfl
  | byt _ => obtain ⟨t, rfl⟩ := r; rfl
  | flt _ => obtain ⟨t, rfl⟩ := r; rfl
  | ref _ => cases r; rfl
  | ty _ => cases r; rfl
theorem RelV.inj {x y : V} {u : Value} (r : RelV x u) (q : RelV y u) : x = y := Option.some.inj (r.abs.symm.trans q.abs)
theorem Vals.inj : ∀ {xs ys : List V} {us : List Value}, Vals xs us → Vals ys us → xs = ys
  | _, _, _, .nil, .nil => rfl
  | _, _, _, .cons r t, .cons r' t' => by rw [r.inj r', Vals.inj t t']
section
variable {X : Cx} {pins : List (Addr × Obj)} {σ : St} {H : Hp} {s : Shared} {a : Addr} {xs ys : List V}
theorem SqL.of {K : PySem.W.Frag} (h : H a = some (.lst xs)) : SqL K H a xs := .inl (.inl h)
theorem SqT.of {K : PySem.W.Frag} (h : H a = some (.tup xs)) : SqT K H a xs := .inl (.inl h)
theorem Inv.list (I : Inv X pins σ H s) (h : SqL X.K H a xs) : ∃ its : List Value, Vals xs its ∧ PlainL s.heap a its.toArray ∧ xs.length ≤ sizeLine := by
  rcases h with h | ⟨o, its, n, hk, hc, hd, hs, hz, r⟩
  · obtain ⟨z, its, n, r, e⟩ := h.ok I.hok
    exact ⟨its, r, ⟨_, n, e, rfl, rfl, rfl⟩, z⟩
  · refine ⟨its.toList, r, ⟨o, n, I.kIn a o hk, hc, hd, by simpa using hs⟩, ?_⟩
    have e := r.length
    simp only [Array.length_toList] at e
    omega
theorem Inv.tuple (I : Inv X pins σ H s) (h : SqT X.K H a xs) : ∃ its : List Value, Vals xs its ∧ IsTup s.heap a its.toArray ∧ xs.length ≤ sizeLine := by
  rcases h with h | ⟨o, its, n, hk, hc, hs, hz, r⟩
  · obtain ⟨z, its, r, p⟩ := h.ok I.hok
    exact ⟨its, r, p, z⟩
  · refine ⟨its.toList, r, ⟨o, I.kIn a o hk, hc, n, by simpa using hs⟩, ?_⟩
    have e := r.length
    simp only [Array.length_toList] at e
    omega
theorem Inv.list_inj (I : Inv X pins σ H s) (h : SqL X.K H a xs) (h' : SqL X.K H a ys) : xs = ys := by
  obtain ⟨its, r, ⟨o, n, e, _, _, d⟩, _⟩ := I.list h
  obtain ⟨its', r', ⟨o', n', e', _, _, d'⟩, _⟩ := I.list h'
  rw [e] at e'; cases e'
  rw [d] at d'
  injection d' with d1 _
  have : its = its' := by simpa using congrArg Array.toList d1
  subst this
  exact r.inj r'
theorem Inv.tuple_inj (I : Inv X pins σ H s) (h : SqT X.K H a xs) (h' : SqT X.K H a ys) : xs = ys := by
  obtain ⟨its, r, ⟨o, e, _, n, d⟩, _⟩ := I.tuple h
  obtain ⟨its', r', ⟨o', e', _, n', d'⟩, _⟩ := I.tuple h'
  rw [e] at e'; cases e'
  rw [d] at d'
  injection d' with d1 _
  have : its = its' := by simpa using congrArg Array.toList d1
  subst this
  exact r.inj r'
end

/-! ### another wish about exceptions -/
abbrev Cx.wish (X : Cx) (E : Value → Shared → Prop) : Cx := { X with xe := E }
/-- no exception leaves -/
abbrev Cx.nox (X : Cx) : Cx := X.wish fun _ _ => False
theorem Cx.Ok.wish {X : Cx} (ok : X.Ok) (E : Value → Shared → Prop) : (X.wish E).Ok :=
  ⟨ok.mod, ok.kind, ok.glob, ok.blt, ok.above, ok.inj, ok.has, ok.cab, ok.hd, ok.frames, ok.stk, ok.exf, ok.bs, ok.bsz, ok.noex, ok.exfs, ok.funs, ok.frf⟩
theorem Cx.Ok.unwish {X : Cx} {E : Value → Shared → Prop} (ok : (X.wish E).Ok) : X.Ok :=
  ⟨ok.mod, ok.kind, ok.glob, ok.blt, ok.above, ok.inj, ok.has, ok.cab, ok.hd, ok.frames, ok.stk, ok.exf, ok.bs, ok.bsz, ok.noex, ok.exfs, ok.funs, ok.frf⟩
section
variable {X : Cx} {pins : List (Addr × Obj)} {σ : St} {H : Hp} {s : Shared} {E : Value → Shared → Prop}
theorem Inv.wish (I : Inv X pins σ H s) (E : Value → Shared → Prop) : Inv (X.wish E) pins σ H s := ⟨I.ok.wish E, I.os, I.bare, I.base, I.loc, I.cell, I.free, I.freeC, I.pin, I.hok, I.len⟩
theorem Inv.unwish (I : Inv (X.wish E) pins σ H s) : Inv X pins σ H s := ⟨I.ok.unwish, I.os, I.bare, I.base, I.loc, I.cell, I.free, I.freeC, I.pin, I.hok, I.len⟩
theorem SP.unwish {D : Ends} {f : Flow} {s' : Shared} (h : SP (X.wish E) pins D f s') : SP X pins D f s' := by
  cases f with
  | next => obtain ⟨σ', H', I, q⟩ := h; exact ⟨σ', H', I.unwish, q⟩
  | brk => obtain ⟨σ', H', I, q⟩ := h; exact ⟨σ', H', I.unwish, q⟩
  | cont => obtain ⟨σ', H', I, q⟩ := h; exact ⟨σ', H', I.unwish, q⟩
  | ret u => obtain ⟨v, σ', H', I, r, q⟩ := h; exact ⟨v, σ', H', I.unwish, r, q⟩
theorem PE.nox {e : Expr} {t : TE} (h : PE X.nox e t) : PE X e t := fun pins s σ H Q I hw =>
  wpAny_mono (h pins s σ H Q (I.wish _) hw) (fun _ _ ⟨v, H', I', r, q⟩ => ⟨v, H', I'.unwish, r, q⟩) fun _ _ z => False.elim z
theorem PT.nox {e : Expr} {t : TT} (h : PT X.nox e t) : PT X e t := fun pins s σ H Q I hw =>
  wpAny_mono (h pins s σ H Q (I.wish _) hw) (fun _ _ ⟨H', I', q⟩ => ⟨H', I'.unwish, q⟩) fun _ _ z => False.elim z
theorem PSs.nox {st : List Stmt} {t : TS} (h : PSs X.nox st t) : PSs X st t := fun pins s σ H D I hw =>
  wpAny_mono (h pins s σ H D (I.wish _) hw) (fun _ _ q => q.unwish) fun _ _ z => False.elim z
end

/-! ### blocks and small statements -/
section
variable {X : Cx} {st : Stmt} {rest : List Stmt} {t u : TS} {e : Expr} {te : TE} {pos : Pos}
def tNext : TS := fun D σ H => D.nx σ H
def tSeq (t u : TS) : TS := fun D σ H => t { D with nx := u D } σ H
theorem pss_nil : PSs X [] tNext := fun _ _ σ H _ I h => wpAny_execs_nil ⟨σ, H, I, h⟩
theorem pss_cons (h1 : PS X st t) (h2 : PSs X rest u) : PSs X (st :: rest) (tSeq t u) := by
  intro pins s σ H D I h
  refine wpAny_execs_cons (thn (h1 pins s σ H { D with nx := u D } I h) fun f s1 q => ?_)
  cases f with
  | next =>
    obtain ⟨σ', H', I', q⟩ := q
    exact h2 pins s1 σ' H' D I' q
  | ret v => exact q
  | brk => exact q
  | cont => exact q
theorem pss_one (h1 : PS X st t) : PSs X [st] t := by
  intro pins s σ H D I h
  refine wpAny_execs_cons (thn (h1 pins s σ H D I h) fun f s1 q => ?_)
  cases f with
  | next => exact wpAny_execs_nil q
  | ret v => exact q
  | brk => exact q
  | cont => exact q
/-- in a def's body nothing is shown -/
theorem Inv.quiet {pins : List (Addr × Obj)} {σ : St} {H : Hp} {s : Shared} (I : Inv X pins σ H s) : interactive X.env = false := by simp [interactive, I.ok.kind]
/-- an expression whose value is dropped -/
def tDrop (te : TE) : TS := fun D σ H => te σ H fun _ H1 => D.nx σ H1
theorem ps_expr (he : PE X e te) (hs : swapsWith e none pos.line X.env = pure false := by rfl) : PS X (.Expr e pos) (tDrop te) := by
  intro pins s σ H D I h
  exact wpAny_Expr_any (thn (he pins s σ H _ I h) fun v s1 ⟨x, H1, I1, r1, q1⟩ => ⟨σ, H1, I1, q1⟩) I.quiet hs
def tRet (te : TE) : TS := fun D σ H => te σ H D.rt
theorem ps_ret (he : PE X e te) : PS X (.Return (some e) pos) (tRet te) := by
  intro pins s σ H D I h
  exact wpAny_Return_some (thn (he pins s σ H _ I h) fun v s1 ⟨x, H1, I1, r1, q1⟩ => ⟨x, σ, H1, I1, r1, q1⟩)
def tIfS (c : TT) (t u : TS) : TS := fun D σ H => c σ H fun b H1 => if b = true then t D σ H1 else u D σ H1
theorem ps_if {c : Expr} {a b : List Stmt} {tc : TT} (hc : PT X c tc) (ha : PSs X a t) (hb : PSs X b u) : PS X (.If c a b pos) (tIfS tc t u) := by
  intro pins s σ H D I h
  refine wpAny_If (thn (hc pins s σ H _ I h) fun d s1 ⟨H1, I1, q1⟩ => ?_)
  cases d with
  | true => exact ha pins s1 σ H1 D I1 q1
  | false => exact hb pins s1 σ H1 D I1 q1
/-- code that the proof never comes to -/
def tNever : TS := fun _ _ _ => False
theorem pss_never {sts : List Stmt} : PSs X sts tNever := fun _ _ _ _ _ _ h => h.elim
end

/-! ### targets -/
abbrev TG := V → St → Hp → (St → Hp → Prop) → Prop
abbrev TGs := List V → St → Hp → (St → Hp → Prop) → Prop
def PG (X : Cx) (target : Expr) (t : TG) : Prop :=
  ∀ (pins : List (Addr × Obj)) (s : Shared) (σ : St) (H : Hp) (v : V) (u : Value) (Q : St → Hp → Prop), Inv X pins σ H s → RelV v u → t v σ H Q →
    wpAny (model X.prog X.w) X.A (assign target X.env u) (fun _ s' => ∃ σ' H', Inv X pins σ' H' s' ∧ Q σ' H') X.xe s
/-- several targets, one after another -/
def PGs (X : Cx) (ts : List Expr) (t : TGs) : Prop :=
  ∀ (pins : List (Addr × Obj)) (s : Shared) (σ : St) (H : Hp) (vs : List V) (us : List Value) (Q : St → Hp → Prop), Inv X pins σ H s → Vals vs us → t vs σ H Q →
    wpAny (model X.prog X.w) X.A (assignInOrder ((assignEach ts X.env).map (·.2)) us) (fun _ s' => ∃ σ' H', Inv X pins σ' H' s' ∧ Q σ' H') X.xe s
/-- o[i] = v, by values -/
abbrev TSet := V → V → V → Hp → (Hp → Prop) → Prop
def PSet (X : Cx) (t : TSet) : Prop :=
  ∀ (pins : List (Addr × Obj)) (s : Shared) (σ : St) (H : Hp) (o i v : V) (ov iv u : Value) (Q : Hp → Prop), Inv X pins σ H s → RelV o ov → RelV i iv → RelV v u → t o i v H Q →
    wpAny (model X.prog X.w) X.A (setItem ov iv u) (fun _ s' => ∃ H', Inv X pins σ H' s' ∧ Q H') X.xe s
section
variable {X : Cx} {pos : Pos}
def gName (i : Nat) : TG := fun v σ H Q => Q (σ.set i (some v)) H
theorem pg_name {i : Nat} {x : Str} (hN : X.N.Nodup) (hi : X.N[i]? = some x) (hx : Loc X.env.scope x) (hf : X.fn x = true ∨ X.env.scope.names.lookup x = some .local := by first | exact .inl rfl | exact .inr rfl | assumption) : PG X (.Name x pos) (gName i) := by
  intro pins s σ H v u Q I r h
  exact wpAny_assign_Name (store_ok I hN hi hx r (fun s' I' => ⟨_, H, I', h⟩) hf)
def gNil : TGs := fun vs σ H Q => vs = [] ∧ Q σ H
def gCons (t : TG) (u : TGs) : TGs := fun vs σ H Q => ∃ v r, vs = v :: r ∧ t v σ H fun σ' H' => u r σ' H' Q
theorem pgs_nil : PGs X [] gNil := by
  intro pins s σ H vs us Q I r h
  obtain ⟨e, h⟩ := h
  subst e
  cases r
  exact assignInOrder_nil ⟨σ, H, I, h⟩
theorem pgs_cons {e : Expr} {es : List Expr} {t : TG} {u : TGs} (h1 : PG X e t) (h2 : PGs X es u)
    (hs : (assignEach (e :: es) X.env).map (·.2) = assign e X.env :: (assignEach es X.env).map (·.2) := by rfl) : PGs X (e :: es) (gCons t u) := by
  intro pins s σ H vs us Q I r h
  obtain ⟨v, vr, e1, h⟩ := h
  subst e1
  cases r with
  | cons r rr =>
    rw [hs]
    refine assignInOrder_cons (thn (h1 pins s σ H _ _ _ I r h) fun _ s1 ⟨σ1, H1, I1, q1⟩ => ?_)
    exact h2 pins s1 σ1 H1 _ _ Q I1 rr q1
/-- (a, b, ..) = a tuple of that length -/
def gTup (K : PySem.W.Frag) (n : Nat) (t : TGs) : TG := fun v σ H Q => ∃ a xs, v = .ref a ∧ SqT K H a xs ∧ xs.length = n ∧ t xs σ H Q
theorem pg_tup {es : List Expr} {k : Nat} {t : TGs} {n : Nat} (hc : X.calm = true) (h : PGs X es t)
    (hn : (assignEach es X.env).length = n := by rfl) (hst : (assignEach es X.env).findIdx? (·.1) = none := by rfl) : PG X (.Tuple es k pos) (gTup X.K n t) := by
  intro pins s σ H v u Q I r hw
  obtain ⟨a, xs, e1, hq, hl, hw⟩ := hw
  subst e1
  cases r
  obtain ⟨its, rv, ht, hz⟩ := I.tuple hq
  refine assign_Tuple_tuple (I.ok.hd hc) ht (by simp [hn, ← hl, rv.length]) hst fun h' hx => ?_
  have I1 : Inv X pins σ H { s with heap := h' } := I.kept (t' := s.toks) fun b o e => hx b o (Nat.ne_of_lt (Heap.lt_size e)) e
  exact h pins _ σ H xs _ Q I1 (by simpa using rv) hw
/-- o[i] = .. -/
def gSub (to ti : TE) (t : TSet) : TG := fun v σ H Q => to σ H fun o H1 => ti σ H1 fun i H2 => t o i v H2 fun H3 => Q σ H3
theorem pg_sub {o i : Expr} {to ti : TE} {t : TSet} (ho : PE X o to) (hi : PE X i ti) (hs : PSet X t)
    (ha : ∀ v, assign (.Subscript o i pos) X.env v = (do
      let ov ← holding [v] (eval o X.env)
      let iv ← holding [v, ov] (eval i X.env)
      standAt pos
      holding [v, ov, iv] (setItem ov iv v)
      release [v, ov, iv] []) := by intro _; rfl) : PG X (.Subscript o i pos) (gSub to ti t) := by
  intro pins s σ H v u Q I r h
  rw [ha]
  refine wpAny_bind (wpAny_holding (thn (ho pins s σ H _ I h) fun ov s1 ⟨x, H1, I1, r1, q1⟩ => ?_))
  refine wpAny_bind (wpAny_holding (thn (hi pins s1 σ H1 _ I1 q1) fun iv s2 ⟨y, H2, I2, r2, q2⟩ => ?_))
  refine wpAny_bind (wpAny_standAt (wpAny_bind (wpAny_holding (thn (hs pins s2 σ H2 x y v ov iv u _ I2 r1 r2 r q2) fun _ s3 ⟨H3, I3, q3⟩ => ?_))))
  exact wpAny_release ⟨σ, H3, I3, q3⟩
/-- target = value -/
def tAsg (te : TE) (g : TG) : TS := fun D σ H => te σ H fun x H1 => g x σ H1 D.nx
theorem ps_asg {tg e : Expr} {te : TE} {g : TG} (he : PE X e te) (hg : PG X tg g) (hs : swapsWithSole [tg] e pos.line X.env = pure false := by rfl) (hw : swappedStores [tg] e X.env = pure none := by rfl)
    (h1 : (assignEach [tg] X.env).map (·.2) = [assign tg X.env] := by rfl) : PS X (.Assign [tg] e pos) (tAsg te g) := by
  intro pins s σ H D I h
  refine wpAny_Assign_stores (thn (he pins s σ H _ I h) fun v s1 ⟨x, H1, I1, r1, q1⟩ => ?_) hs hw
  rw [h1]
  exact thn (hg pins s1 σ H1 x v _ I1 r1 q1) fun _ s2 q => q
/-- name = value -/
theorem ps_set {i : Nat} {x : Str} {e : Expr} {te : TE} {pos' : Pos} (hN : X.N.Nodup) (hi : X.N[i]? = some x) (hx : Loc X.env.scope x) (he : PE X e te) (hs : swapsWith e (some (.Name x pos')) pos.line X.env = pure false := by rfl) (hf : X.fn x = true ∨ X.env.scope.names.lookup x = some .local := by first | exact .inl rfl | exact .inr rfl | assumption) :
    PS X (.Assign [.Name x pos'] e pos) (tAsg te (gName i)) := by
  intro pins s σ H D I h
  refine wpAny_Assign_Name (thn (he pins s σ H _ I h) fun v s1 ⟨y, H1, I1, r1, q1⟩ => ?_) hs
  exact store_ok I1 hN hi hx r1 (fun s2 I2 => ⟨_, H1, I2, q1⟩) hf
/-- a, b = x, y with plain local names: stored from the right; the pair itself is not tracked (the opening rows as in PyProof/Rows/TupAssign.lean:23) -/
def tPar (i j : Nat) (ta : TA) : TS := fun D σ H => ta σ H fun vs H1 => ∃ v w, vs = [v, w] ∧ D.nx ((σ.set i (some v)).set j (some w)) H1
theorem ps_par {i j : Nat} {x y : Str} {a b : Expr} {ta : TA} {px py pt : Pos} {kt k2 pt2} (hc : X.calm = true) (hN : X.N.Nodup) (hi : X.N[i]? = some x) (hj : X.N[j]? = some y) (hij : i ≠ j)
    (hx : X.env.scope.names.lookup x = some .local) (hy : X.env.scope.names.lookup y = some .local) (ha : PA X [a, b] ta)
    (hw : swappedStores [.Tuple [.Name x px, .Name y py] kt pt] (.Tuple [a, b] k2 pt2) X.env = pure (some [x, y]))
    (hs : swapsWithSole [.Tuple [.Name x px, .Name y py] kt pt] (.Tuple [a, b] k2 pt2) pos.line X.env = pure false := by rfl) :
    PS X (.Assign [.Tuple [.Name x px, .Name y py] kt pt] (.Tuple [a, b] k2 pt2) pos) (tPar i j ta) := by
  intro pins s σ H D I h
  rw [exec_Assign_arm]
  refine wpAny_bind (wpAny_standAt ?_)
  rw [hs]
  refine wpAny_bind (wpAny_pure ?_)
  rw [if_neg (by decide)]
  refine wpAny_bind (Tuple_ (thn (ha _ pins s σ H _ I h) fun us s1 ⟨vs, H1, I1, r1, q1⟩ => ?_))
  obtain ⟨v, w, e1, q1⟩ := q1
  subst e1
  obtain ⟨u1, u2, rfl, rv, rw'⟩ : ∃ u1 u2, us = [u1, u2] ∧ RelV v u1 ∧ RelV w u2 := by
    cases r1 with
    | cons p q =>
      cases q with
      | cons p' q' =>
        cases q'
        exact ⟨_, _, rfl, p, p'⟩
  refine wpAny_newObj_type ?_ (by show 2 ≤ sizeLine; decide)
  have I2 : Inv X pins σ H1 { s1 with heap := s1.heap.push { cls := .type "tuple", data := .seq [u1, u2].toArray } } := I1.kept (t' := s1.toks) fun b o e => Heap.get?_push_of_some _ e
  rw [hw]
  refine wpAny_bind (wpAny_pure ?_)
  show wpAny (model X.prog X.w) X.A (do rule "assign.swapped-stores"; let items ← unpackItems (.ref s1.heap.objs.size) 2 none; assignInOrder [fun v => bindName X.env y v, fun v => bindName X.env x v] items.reverse; pure Flow.next) _ _ _
  refine wpAny_bind (wpAny_rule (wpAny_bind (unpackItems_tuple (items := #[u1, u2]) (I.ok.hd hc) (IsTup.new s1.heap _) fun h' hx' => ?_)))
  have I3 := I2.kept (h' := h') (t' := s1.toks) fun b o e => hx' b o (Nat.ne_of_lt (Heap.lt_size e)) e
  show wpAny _ _ (assignInOrder [fun v => bindName X.env y v, fun v => bindName X.env x v] [u2, u1] >>= fun _ => pure Flow.next) _ _ _
  refine wpAny_bind (assignInOrder_cons (wpAny_bindName (store_ok I3 hN hj (.inl hy) rw' (fun s2 I4 => ?_) (.inr hy))))
  refine assignInOrder_cons (wpAny_bindName (store_ok I4 hN hi (.inl hx) rv (fun s3 I5 => assignInOrder_nil (wpAny_pure ?_)) (.inr hx)))
  rw [List.set_comm _ _ (Ne.symm hij)] at I5
  exact ⟨_, H1, I5, q1⟩
end

/-! ### while -/
section
variable {X : Cx} {pos : Pos}
/-- the invariant W with its measure -/
def tWhile (c : TT) (tb : TS) : TS := fun D σ H => ∃ W : Nat → St → Hp → Prop, (∃ m, W m σ H) ∧ ∀ m σ H, W m σ H →
  c σ H fun b H1 => if b = true then ∃ N : St → Hp → Prop, (∀ σ' H', N σ' H' → ∃ m', m' < m ∧ W m' σ' H') ∧ tb { D with nx := N, ct := N, bk := D.nx } σ H1 else D.nx σ H1
theorem ps_while {c : Expr} {body : List Stmt} {tc : TT} {tb : TS} (hp : PassesOwn (model X.prog X.w) X.A X.env X.xe) (hc : PT X c tc) (hb : PSs X body tb) : PS X (.While c body [] pos) (tWhile tc tb) := by
  intro pins s σ H D I h
  obtain ⟨W, ⟨m0, w0⟩, turn⟩ := h
  refine wpAny_While (codeAny_whileLoop (fun n s' => ∃ σ' H', Inv X pins σ' H' s' ∧ W n σ' H') ?_ m0 ⟨σ, H, I, w0⟩)
  rintro n s1 ⟨σ1, H1, I1, w1⟩
  refine wpAny_passesOwn hp (thn (hc pins s1 σ1 H1 _ I1 (turn n σ1 H1 w1)) fun b s2 ⟨H2, I2, q2⟩ => ?_)
  cases b with
  | true =>
    obtain ⟨N, hN, q2⟩ := q2
    rw [if_pos rfl]
    refine wpAny_passesOwn hp (thn (hb pins s2 σ1 H2 _ I2 q2) fun f s3 q3 => ?_)
    cases f with
    | next =>
      obtain ⟨σ3, H3, I3, n3⟩ := q3
      obtain ⟨m', hm, w3⟩ := hN σ3 H3 n3
      exact ⟨m', hm, σ3, H3, I3, w3⟩
    | cont =>
      obtain ⟨σ3, H3, I3, n3⟩ := q3
      obtain ⟨m', hm, w3⟩ := hN σ3 H3 n3
      exact ⟨m', hm, σ3, H3, I3, w3⟩
    | brk => exact q3
    | ret v => exact q3
  | false =>
    rw [if_neg Bool.false_ne_true]
    exact wpAny_execs_nil ⟨σ1, H2, I2, q2⟩
end

/-! ### what a loop or a comprehension walks -/
/-- at turn i: it yields x (the heap may grow), or it stops -/
structure It where
  go : Nat → Hp → Prop
  yld : Nat → Hp → V → Hp → Prop
  stop : Nat → Hp → Prop
/-- the iterator's own objects may turn: they are not the frame's, not pinned, younger than the entry (or a comprehension's own) -/
def FpOk (X : Cx) (pins : List (Addr × Obj)) (H : Hp) (b : Addr) : Prop :=
  H b = none ∧ b ≠ X.env.locals ∧ b ∉ X.fs ∧ (b ∈ X.ex ∨ X.s_0.heap.objs.size ≤ b) ∧ (∀ x c, X.env.cells.lookup x = some c → c ≠ b) ∧ ∀ p ∈ X.pn ++ pins, p.1 ≠ b
theorem Inv.fpOk {X : Cx} {pins : List (Addr × Obj)} {σ : St} {H H' : Hp} {s : Shared} {b : Addr} (I : Inv X pins σ H s) (hb : s.heap.objs.size ≤ b) (hn : H' b = none) : FpOk X pins H' b := by
  refine ⟨hn, Nat.ne_of_gt (Nat.lt_of_lt_of_le I.lt hb), I.nofs hb, .inr (Nat.le_trans I.sz hb), fun x c e z => ?_, fun p hp z => ?_⟩
  · obtain ⟨v, q⟩ := I.cell x c e
    exact absurd (Nat.lt_of_lt_of_le q.lt (by rw [z]; exact hb)) (Nat.lt_irrefl _)
  · exact absurd (Nat.lt_of_lt_of_le (Heap.lt_size (I.pin p hp).1) (by rw [z]; exact hb)) (Nat.lt_irrefl _)
structure Turn (P : Program) (w : World) (K : PySem.W.Frag) (tg : Expr) (J : It) (fp : List Addr) (it : Addr) (tn : Nat → Heap → Prop) : Prop where
  mem : it ∈ fp
  obj : ∀ i h, tn i h → ∀ b ∈ fp, ∃ o, h.get? b = some o ∧ ∀ v, o.data ≠ .cell v
  keep : ∀ i h h', tn i h → (∀ b ∈ fp, ∀ o, h.get? b = some o → h'.get? b = some o) → tn i h'
  item : ∀ (X : Cx), X.prog = P → X.w = w → X.K = K → X.calm = true → ∀ (i : Nat) (pins : List (Addr × Obj)) (s : Shared) (σ : St) (H : Hp) (E : Value → Shared → Prop), Inv X pins σ H s → (∀ b ∈ fp, FpOk X pins H b) → tn i s.heap → J.go i H →
    wpAny (model P w) X.A (pyNext (.ref it)) (fun r s1 => ∃ u, r = some u ∧
      wpAny (model P w) X.A (letOwnedTupleGo tg (.ref it) u) (fun _ s2 => ∃ x H', Inv X pins σ H' s2 ∧ RelV x u ∧ J.yld i H x H' ∧ tn (i + 1) s2.heap ∧ ∀ b ∈ fp, H' b = none) E s1) E s
  done : ∀ (X : Cx), X.prog = P → X.w = w → X.K = K → X.calm = true → ∀ (i : Nat) (pins : List (Addr × Obj)) (s : Shared) (σ : St) (H : Hp) (E : Value → Shared → Prop), Inv X pins σ H s → (∀ b ∈ fp, FpOk X pins H b) → tn i s.heap → J.stop i H →
    wpAny (model P w) X.A (pyNext (.ref it)) (fun r s1 => r = none ∧ Inv X pins σ H s1) E s
  self : ∀ (A : Around) (i : Nat) (s : Shared) (Q : Value → Shared → Prop) (E : Value → Shared → Prop), tn i s.heap → Q (.ref it) s → wpAny (model P w) A (pyIter (.ref it)) Q E s
abbrev TI := St → Hp → (It → Hp → Prop) → Prop
/-- an iterator has come -/
def PIE (X : Cx) (pins : List (Addr × Obj)) (σ : St) (tg : Expr) (R : It → Hp → Prop) (itv : Value) (s2 : Shared) : Prop :=
  ∃ (it : Addr) (fp : List Addr) (tn : Nat → Heap → Prop) (J : It) (H' : Hp), itv = .ref it ∧ Inv X pins σ H' s2 ∧ Turn X.prog X.w X.K tg J fp it tn ∧ tn 0 s2.heap ∧ (∀ b ∈ fp, FpOk X pins H' b) ∧ R J H'
def PI (X : Cx) (tg iter : Expr) (wi : TI) : Prop :=
  ∀ (pins : List (Addr × Obj)) (s : Shared) (σ : St) (H : Hp) (R : It → Hp → Prop), Inv X pins σ H s → wi σ H R →
    wpAny (model X.prog X.w) X.A (eval iter X.env) (fun v s1 => wpAny (model X.prog X.w) X.A (pyIter v) (PIE X pins σ tg R) X.xe s1) X.xe s

/-- the step ahead of the store is nothing for an iterator that keeps no tuple -/
theorem go_of {M : Model} {A : Around} {E : Value → Shared → Prop} {s : Shared} {tg : Expr} {it : Addr} {u : Value} {o : Obj} {n : String} {vs : Array Value} {Q : Unit → Shared → Prop} (ho : s.heap.get? it = some o) (hc : o.cls = .type n) (hd : o.data = .fields vs)
    (hn : ["enumerate", "zip", "dict_itemiterator", "dict_reverseitemiterator", "odict_iterator", "itertools.zip_longest", "itertools.pairwise"].contains n = false) (hQ : Q () s) : wpAny M A (letOwnedTupleGo tg (.ref it) u) Q E s := by
  unfold letOwnedTupleGo
  cases tg <;> first
    | exact wpAny_pure hQ
    | (cases u <;> first
        | exact wpAny_pure hQ
        | (refine wpAny_bind (wpAny_load ho ?_)
           rw [hc, hd]
           show wpAny M A (if (["enumerate", "zip", "dict_itemiterator", "dict_reverseitemiterator", "odict_iterator", "itertools.zip_longest", "itertools.pairwise"].contains n && vs[0]? == some (rawInt _)) = true then _ else _) Q E s
           rw [if_neg (by intro h; rw [hn, Bool.false_and] at h; cases h)]
           exact wpAny_pure hQ))

/-- the list at a, as it stands at each turn (a loop may append to it) -/
def Itl (K : PySem.W.Frag) (a : Addr) : It :=
  ⟨fun i H => ∃ xs x, SqL K H a xs ∧ xs[i]? = some x, fun i H x H' => H' = H ∧ ∀ xs, SqL K H a xs → xs[i]? = some x, fun i H => ∃ xs, SqL K H a xs ∧ xs.length ≤ i⟩
def Itt (K : PySem.W.Frag) (a : Addr) : It :=
  ⟨fun i H => ∃ xs x, SqT K H a xs ∧ xs[i]? = some x, fun i H x H' => H' = H ∧ ∀ xs, SqT K H a xs → xs[i]? = some x, fun i H => ∃ xs, SqT K H a xs ∧ xs.length ≤ i⟩
/-- lo, lo + 1, .. (n of them) -/
def Itr (lo : Int) (n : Nat) : It := ⟨fun i _ => i < n, fun i H x H' => H' = H ∧ x = .int (lo + i), fun i _ => n ≤ i⟩
theorem turn_list {P : Program} {w : World} {K : PySem.W.Frag} {tg : Expr} (a it : Addr) : Turn P w K tg (Itl K a) [it] it (fun i h => h.IsListIter it a i) where
  mem := by simp
  obj := fun i h st b hb => by
    have e : b = it := by simpa using hb
    subst e
    obtain ⟨o, e, c, d⟩ := st
    exact ⟨o, e, fun v z => by rw [d] at z; cases z⟩
  keep := fun i h h' st k => st.at fun o e => k it (by simp) o e
  item := by
    intro X hP hw hK hc i pins s σ H E I hf st hg
    subst hP hw hK
    obtain ⟨xs, x, hq, hx⟩ := hg
    obtain ⟨its, rv, p, hz⟩ := I.list hq
    obtain ⟨u, hu, ru⟩ := rv.get hx
    obtain ⟨f0, f1, f2, f3, f4, f5⟩ := hf it (by simp)
    refine wpAny_pyNext_list_item st p.isList (x := u) (by simpa using hu) fun h' st' sb => ?_
    have I1 : Inv X pins σ H { s with heap := h' } := I.turned (t' := s.toks) (fun b o hb e => (sb.2 b hb).trans e) f0 f1 f3 f4 f5
    obtain ⟨o, e, c, d⟩ := id st'
    exact ⟨u, rfl, go_of (s := { s with heap := h' }) e c d (by decide) ⟨x, H, I1, ru, ⟨rfl, fun ys hy => by rw [I.list_inj hy hq]; exact hx⟩, st', fun b hb => (hf b hb).1⟩⟩
  done := by
    intro X hP hw hK hc i pins s σ H E I hf st hg
    subst hP hw hK
    obtain ⟨xs, hq, hx⟩ := hg
    obtain ⟨its, rv, p, hz⟩ := I.list hq
    obtain ⟨f0, f1, f2, f3, f4, f5⟩ := hf it (by simp)
    have hl := rv.length
    exact wpAny_pyNext_list_end (I.ok.hd hc) st p.isList (by simp; omega) fun h' eb => ⟨rfl, I.turned (t' := s.toks) (fun b o hb e => eb b o hb e) f0 f1 f3 f4 f5⟩
  self := fun _ _ _ _ _ st h => wpAny_pyIter_listiter st h
theorem turn_tuple {P : Program} {w : World} {K : PySem.W.Frag} {tg : Expr} (a it : Addr) : Turn P w K tg (Itt K a) [it] it (fun i h => h.IsTupleIter it a i) where
  mem := by simp
  obj := fun i h st b hb => by
    have e : b = it := by simpa using hb
    subst e
    obtain ⟨o, e, c, d⟩ := st
    exact ⟨o, e, fun v z => by rw [d] at z; cases z⟩
  keep := fun i h h' st k => st.at fun o e => k it (by simp) o e
  item := by
    intro X hP hw hK hc i pins s σ H E I hf st hg
    subst hP hw hK
    obtain ⟨xs, x, hq, hx⟩ := hg
    obtain ⟨its, rv, p, hz⟩ := I.tuple hq
    obtain ⟨u, hu, ru⟩ := rv.get hx
    obtain ⟨f0, f1, f2, f3, f4, f5⟩ := hf it (by simp)
    refine wpAny_pyNext_tuple_item st (show s.heap.IsTuple a its.toArray from p) (x := u) (by simpa using hu) fun h' st' sb => ?_
    have I1 : Inv X pins σ H { s with heap := h' } := I.turned (t' := s.toks) (fun b o hb e => (sb.2 b hb).trans e) f0 f1 f3 f4 f5
    obtain ⟨o, e, c, d⟩ := id st'
    exact ⟨u, rfl, go_of (s := { s with heap := h' }) e c d (by decide) ⟨x, H, I1, ru, ⟨rfl, fun ys hy => by rw [I.tuple_inj hy hq]; exact hx⟩, st', fun b hb => (hf b hb).1⟩⟩
  done := by
    intro X hP hw hK hc i pins s σ H E I hf st hg
    subst hP hw hK
    obtain ⟨xs, hq, hx⟩ := hg
    obtain ⟨its, rv, p, hz⟩ := I.tuple hq
    obtain ⟨f0, f1, f2, f3, f4, f5⟩ := hf it (by simp)
    have hl := rv.length
    exact wpAny_pyNext_tuple_end (I.ok.hd hc) st (show s.heap.IsTuple a its.toArray from p) (by simp; omega) fun h' eb => ⟨rfl, I.turned (t' := s.toks) (fun b o hb e => eb b o hb e) f0 f1 f3 f4 f5⟩
  self := fun _ _ _ _ _ st h => wpAny_pyIter_tupleiter st h
theorem turn_range {P : Program} {w : World} {K : PySem.W.Frag} {tg : Expr} (it : Addr) (lo : Int) (n : Nat) : Turn P w K tg (Itr lo n) [it] it (fun i h => IsRangeIter h it (lo + (i : Nat) * 1) ((n : Int) - (i : Nat)) 1) where
  mem := by simp
  obj := fun i h st b hb => by
    have e : b = it := by simpa using hb
    subst e
    exact ⟨_, st, fun v z => by
      have z' : Data.fields _ = Data.cell v := z
      cases z'⟩
  keep := fun i h h' st k => k it (by simp) _ st
  item := by
    intro X hP hw hK hc i pins s σ H E I hf st hg
    subst hP hw hK
    obtain ⟨f0, f1, f2, f3, f4, f5⟩ := hf it (by simp)
    have W := Walks.range (prog := X.prog) (w := X.w) (I.ok.hd hc) it lo 1 n
    refine W.item i s _ _ hg st fun v h' tk hv st' kk => ?_
    obtain ⟨t, rfl⟩ := hv
    have I1 : Inv X pins σ H { s with heap := h', toks := tk } := I.turned (fun b o hb e => kk b o (by simpa using hb) e) f0 f1 f3 f4 f5
    refine ⟨_, rfl, go_of (s := { s with heap := h', toks := tk }) (n := "range_iterator") st' rfl rfl (by decide) ⟨.int (lo + i), H, I1, ⟨t, ?_⟩, ⟨rfl, rfl⟩, st', fun b hb => (hf b hb).1⟩⟩
    rw [Int.mul_one]
  done := by
    intro X hP hw hK hc i pins s σ H E I hf st hg
    subst hP hw hK
    obtain ⟨f0, f1, f2, f3, f4, f5⟩ := hf it (by simp)
    exact wpAny_pyNext_range_end (I.ok.hd hc) st (by have : n ≤ i := hg; omega) fun h' eb => ⟨rfl, I.turned (t' := s.toks) (fun b o hb e => eb b o hb e) f0 f1 f3 f4 f5⟩
  self := fun _ _ _ _ _ st h => wpAny_pyIter_rangeiter st h
end L2

namespace L2
open PySem PySem.Spec PyProof.Rows
section
variable {X : Cx} {tg : Expr}
def iList (K : PySem.W.Frag) (tl : TE) : TI := fun σ H R => tl σ H fun x H1 => ∃ a, x = .ref a ∧ (∃ xs, SqL K H1 a xs) ∧ R (Itl K a) H1
def iTup (K : PySem.W.Frag) (tl : TE) : TI := fun σ H R => tl σ H fun x H1 => ∃ a, x = .ref a ∧ (∃ xs, SqT K H1 a xs) ∧ R (Itt K a) H1
theorem pi_list {l : Expr} {tl : TE} (hl : PE X l tl) : PI X tg l (iList X.K tl) := by
  intro pins s σ H R I h
  refine thn (hl pins s σ H _ I h) fun v s1 ⟨x, H1, I1, r1, q1⟩ => ?_
  obtain ⟨a, e, ⟨xs, hq⟩, q⟩ := q1
  subst e
  cases r1
  obtain ⟨its, rv, p, hz⟩ := I1.list hq
  refine wpAny_pyIter_list p.isList ?_
  refine ⟨s1.heap.objs.size, [s1.heap.objs.size], _, _, H1, rfl, I1.kept (t' := s1.toks) fun b o e => Heap.get?_push_of_some _ e, turn_list a _, ⟨_, Heap.get?_push_size _ rfl, rfl, rfl⟩, fun b hb => ?_, q⟩
  have e : b = s1.heap.objs.size := by simpa using hb
  subst e
  exact I1.fpOk (Nat.le_refl _) (I1.hok.fresh (Nat.le_refl _))
theorem pi_tup {l : Expr} {tl : TE} (hl : PE X l tl) : PI X tg l (iTup X.K tl) := by
  intro pins s σ H R I h
  refine thn (hl pins s σ H _ I h) fun v s1 ⟨x, H1, I1, r1, q1⟩ => ?_
  obtain ⟨a, e, ⟨xs, hq⟩, q⟩ := q1
  subst e
  cases r1
  obtain ⟨its, rv, p, hz⟩ := I1.tuple hq
  refine wpAny_pyIter_tuple (show s1.heap.IsTuple a its.toArray from p) ?_
  refine ⟨s1.heap.objs.size, [s1.heap.objs.size], _, _, H1, rfl, I1.kept (t' := s1.toks) fun b o e => Heap.get?_push_of_some _ e, turn_tuple a _, ⟨_, Heap.get?_push_size _ rfl, rfl, rfl⟩, fun b hb => ?_, q⟩
  have e : b = s1.heap.objs.size := by simpa using hb
  subst e
  exact I1.fpOk (Nat.le_refl _) (I1.hok.fresh (Nat.le_refl _))
/-- a range object just made, walked -/
theorem range_it {pins : List (Addr × Obj)} {σ : St} {H : Hp} {s : Shared} {R : It → Hp → Prop} {E : Value → Shared → Prop} {lo hi : Int} {t u v : Tok} {tk : Nat} (I : Inv X pins σ H s) (h1 : -(2 ^ 62) ≤ lo) (h2 : lo < 2 ^ 62) (h3 : -(2 ^ 62) ≤ hi) (h4 : hi < 2 ^ 62)
    (q : R (Itr lo (hi - lo).toNat) H) : wpAny (model X.prog X.w) X.A (pyIter (.ref s.heap.objs.size)) (PIE X pins σ tg R) E { s with heap := s.heap.push { cls := .type "range", data := .fields #[.int lo t, .int hi u, .int 1 v] }, toks := tk } := by
  refine wpAny_pyIter_range (IsRange.new ..) (small_one h1 h2 h3 h4) ?_
  have I1 : Inv X pins σ H { s with heap := s.heap.push { cls := .type "range", data := .fields #[.int lo t, .int hi u, .int 1 v] }, toks := tk } := I.kept fun b o e => Heap.get?_push_of_some _ e
  refine ⟨(s.heap.push { cls := .type "range", data := .fields #[.int lo t, .int hi u, .int 1 v] }).objs.size, [(s.heap.push { cls := .type "range", data := .fields #[.int lo t, .int hi u, .int 1 v] }).objs.size], _, _, H, rfl,
    I1.kept (t' := tk) fun b o e => Heap.get?_push_of_some _ e, turn_range _ lo (hi - lo).toNat, ?_, fun b hb => ?_, q⟩
  · have e1 : lo + ((0 : Nat) : Int) * 1 = lo := by simp
    have e2 : (((hi - lo).toNat : Nat) : Int) - ((0 : Nat) : Int) = Builtin.Range.rangeSize lo hi 1 := by rw [rangeSize_one]; split <;> omega
    show IsRangeIter _ _ (lo + ((0 : Nat) : Int) * 1) ((((hi - lo).toNat : Nat) : Int) - ((0 : Nat) : Int)) 1
    rw [e1, e2]
    exact Heap.get?_push_size _ rfl
  · have e : b = (s.heap.push { cls := .type "range", data := .fields #[.int lo t, .int hi u, .int 1 v] }).objs.size := by simpa using hb
    subst e
    exact I1.fpOk (Nat.le_refl _) (I1.hok.fresh (Nat.le_refl _))
def iRng1 (ta : TA) : TI := fun σ H R => ta σ H fun vs H1 => ∃ j : Int, vs = [.int j] ∧ -(2 ^ 62) ≤ j ∧ j < 2 ^ 62 ∧ R (Itr 0 j.toNat) H1
def iRng2 (ta : TA) : TI := fun σ H R => ta σ H fun vs H1 => ∃ i j : Int, vs = [.int i, .int j] ∧ (-(2 ^ 62) ≤ i ∧ i < 2 ^ 62 ∧ -(2 ^ 62) ≤ j ∧ j < 2 ^ 62) ∧ R (Itr i (j - i).toNat) H1
theorem pi_range1 {a : Expr} {ta : TA} {p pos : Pos} (hg : Gl X "range") (hm : X.mg "range" = none) (ha : PA X [a] ta) (hs : starEach [a] X.env = [(false, eval a X.env)] := by rfl) : PI X tg (.Call (.Name "range" p) [a] [] pos) (iRng1 ta) := by
  intro pins s σ H R I h
  refine Call_ (ld_blt I hg hm boot_range (PyProof.Rows.callWith_type1 (thn (ha pos pins s σ H _ I h) fun us s1 ⟨vs, H1, I1, r1, q1⟩ => ?_) hs rfl))
  obtain ⟨j, e, q1, q2, q⟩ := q1
  subst e
  cases r1 with
  | cons r rr =>
    cases rr
    obtain ⟨t, rfl⟩ := r
    exact call_range_1 (range_it I1 (by omega) (by omega) q1 q2 (by simpa using q))
theorem pi_range2 {a b : Expr} {ta : TA} {p pos : Pos} (hg : Gl X "range") (hm : X.mg "range" = none) (ha : PA X [a, b] ta) (hs : starEach [a, b] X.env = [(false, eval a X.env), (false, eval b X.env)] := by rfl) (hs2 : starEach [b] X.env = [(false, eval b X.env)] := by rfl) :
    PI X tg (.Call (.Name "range" p) [a, b] [] pos) (iRng2 ta) := by
  intro pins s σ H R I h
  refine Call_ (ld_blt I hg hm boot_range (PyProof.Rows.callWith_type1 (thn (ha pos pins s σ H _ I h) fun us s1 ⟨vs, H1, I1, r1, q1⟩ => ?_) (by rw [hs, hs2]) (by rw [hs2]; rfl)))
  obtain ⟨i, j, e, ⟨q1, q2, q3, q4⟩, q⟩ := q1
  subst e
  cases r1 with
  | cons r rr =>
    cases rr with
    | cons r' rr =>
      cases rr
      obtain ⟨t, rfl⟩ := r
      obtain ⟨t', rfl⟩ := r'
      exact call_range_2 (range_it I1 q1 q2 q3 q4 q)

/-! ### for -/
/-- W: the invariant by the turn and a measure; N: what the body is to reach -/
def tFor (wi : TI) (g : TG) (tb : TS) : TS := fun D σ H => wi σ H fun J H1 => ∃ W : Nat → Nat → St → Hp → Prop, (∃ m, W 0 m σ H1) ∧ ∀ i m σ H, W i m σ H →
  (J.stop i H ∧ D.nx σ H) ∨ (J.go i H ∧ ∃ N : St → Hp → Prop, (∀ σ' H', N σ' H' → ∃ m', m' < m ∧ W (i + 1) m' σ' H') ∧ ∀ x H', J.yld i H x H' → g x σ H' fun σ2 H2 => tb { D with nx := N, ct := N, bk := D.nx } σ2 H2)
/-- the records at fp as they stand -/
def pinsAt (fp : List Addr) (h : Heap) : List (Addr × Obj) := fp.filterMap fun b => (h.get? b).map fun o => (b, o)
theorem mem_pinsAt {fp : List Addr} {h : Heap} {b : Addr} {o : Obj} (hb : b ∈ fp) (e : h.get? b = some o) : (b, o) ∈ pinsAt fp h := List.mem_filterMap.mpr ⟨b, hb, by rw [e]; rfl⟩
theorem of_pinsAt {fp : List Addr} {h : Heap} {p : Addr × Obj} (hp : p ∈ pinsAt fp h) : p.1 ∈ fp ∧ h.get? p.1 = some p.2 := by
  obtain ⟨b, hb, e⟩ := List.mem_filterMap.mp hp
  cases q : h.get? b with
  | none => rw [q] at e; cases e
  | some o =>
    rw [q] at e
    have e' : (b, o) = p := Option.some.inj e
    subst e'
    exact ⟨hb, q⟩
theorem Inv.pinned {pins : List (Addr × Obj)} {σ : St} {H : Hp} {s : Shared} {fp : List Addr} (I : Inv X pins σ H s) (hf : ∀ b ∈ fp, FpOk X pins H b) (ho : ∀ b ∈ fp, ∃ o, s.heap.get? b = some o ∧ ∀ v, o.data ≠ .cell v) : Inv X (pins ++ pinsAt fp s.heap) σ H s :=
  I.pins_of fun p hp => (List.mem_append.mp hp).elim (fun z => I.pin p (List.mem_append_right _ z)) fun z => by
    obtain ⟨hb, e⟩ := of_pinsAt z
    obtain ⟨f0, f1, f2, _⟩ := hf p.1 hb
    obtain ⟨o, e', d⟩ := ho p.1 hb
    rw [e] at e'; cases e'
    exact ⟨e, f0, f1, f2, d⟩
theorem Inv.unpinned {pins pl : List (Addr × Obj)} {σ : St} {H : Hp} {s : Shared} (I : Inv X (pins ++ pl) σ H s) : Inv X pins σ H s := I.pins_of fun p hp => I.pin p (List.mem_append_right _ (List.mem_append_left _ hp))
theorem ps_for {iter : Expr} {body : List Stmt} {wi : TI} {g : TG} {tb : TS} {pos : Pos} (hp : PassesOwn (model X.prog X.w) X.A X.env X.xe) (hc : X.calm = true) (hi : PI X tg iter wi) (hg : PG X tg g) (hb : PSs X body tb)
    (hs : ∀ x, foldedSetIterable iter X.env x = pure x := by intro _; rfl) : PS X (.For tg iter body [] pos) (tFor wi g tb) := by
  intro pins s σ H D I h
  refine wpAny_For (thn (hi pins s σ H _ I h) fun v s1 h1 => thn h1 fun itv s2 h2 => ?_) hs
  obtain ⟨it, fp, tn, J, H2, e, I2, T, st2, f2, W, ⟨m0, w0⟩, turn⟩ := h2
  subst e
  -- what stays true of the iterator's objects through the loop
  have stat : ∀ {H' : Hp}, (∀ b ∈ fp, H' b = none) → ∀ b ∈ fp, FpOk X pins H' b := fun hn b hb => ⟨hn b hb, (f2 b hb).2⟩
  refine codeAny_forLoop_any (fun n s' => ∃ i σ' H', Inv X pins σ' H' s' ∧ tn i s'.heap ∧ (∀ b ∈ fp, H' b = none) ∧ W i n σ' H') ?_ m0 ⟨0, σ, H2, I2, st2, fun b hb => (f2 b hb).1, w0⟩
  rintro n s3 ⟨i, σ3, H3, I3, st3, fr3, w3⟩
  rcases turn i n σ3 H3 w3 with ⟨stop, qn⟩ | ⟨go, N, hN, step⟩
  · refine wpAny_passesOwn hp (thn (T.done X rfl rfl rfl hc i pins s3 σ3 H3 X.xe I3 (stat fr3) st3 stop) fun r s4 ⟨hr, I4⟩ => ?_)
    subst hr
    exact wpAny_execs_nil ⟨σ3, H3, I4, qn⟩
  · refine wpAny_passesOwn hp (thn (T.item X rfl rfl rfl hc i pins s3 σ3 H3 X.xe I3 (stat fr3) st3 go) fun r s4 ⟨u, hr, h4⟩ => ?_)
    subst hr
    refine wpAny_passesOwn hp (thn h4 fun _ s5 ⟨x, H5, I5, r5, y5, st5, fr5⟩ => ?_)
    have I5' := I5.pinned (stat fr5) (T.obj _ _ st5)
    refine wpAny_passesOwn hp (thn (hg _ s5 σ3 H5 x u _ I5' r5 (step x H5 y5)) fun _ s6 ⟨σ6, H6, I6, q6⟩ => ?_)
    refine wpAny_passesOwn hp (thn (hb _ s6 σ6 H6 _ I6 q6) fun f s7 q7 => ?_)
    have again : ∀ {σ7 : St} {H7 : Hp}, Inv X (pins ++ pinsAt fp s5.heap) σ7 H7 s7 → N σ7 H7 → ∃ m, m < n ∧ ∃ i σ' H', Inv X pins σ' H' s7 ∧ tn i s7.heap ∧ (∀ b ∈ fp, H' b = none) ∧ W i m σ' H' := fun {σ7 H7} I7 n7 => by
      obtain ⟨m', hm, w7⟩ := hN σ7 H7 n7
      refine ⟨m', hm, i + 1, σ7, H7, I7.unpinned, T.keep _ _ _ st5 fun b hb o e => (I7.pin (b, o) (List.mem_append_right _ (List.mem_append_right _ (mem_pinsAt hb e)))).1, fun b hb => ?_, w7⟩
      obtain ⟨o, e, d⟩ := T.obj _ _ st5 b hb
      exact (I7.pin (b, o) (List.mem_append_right _ (List.mem_append_right _ (mem_pinsAt hb e)))).2.1
    cases f with
    | next => obtain ⟨σ7, H7, I7, n7⟩ := q7; exact again I7 n7
    | cont => obtain ⟨σ7, H7, I7, n7⟩ := q7; exact again I7 n7
    | brk => obtain ⟨σ7, H7, I7, q7⟩ := q7; exact ⟨σ7, H7, I7.unpinned, q7⟩
    | ret v => obtain ⟨x7, σ7, H7, I7, r7, q7⟩ := q7; exact ⟨x7, σ7, H7, I7.unpinned, r7, q7⟩
end

/-! ### the forms one uses -/
/-- over a list that the body leaves as it is -/
theorem for_list {K : PySem.W.Frag} {a : Addr} {xs : List V} {g : TG} {tb : TS} {D : Ends} {σ : St} {H : Hp} (Pv : Nat → St → Hp → Prop) (h0 : Pv 0 σ H) (hl : ∀ i σ H, i ≤ xs.length → Pv i σ H → SqL K H a xs)
    (hs : ∀ i x σ H, xs[i]? = some x → Pv i σ H → g x σ H fun σ2 H2 => tb { D with nx := Pv (i + 1), ct := Pv (i + 1), bk := D.nx } σ2 H2) (hd : ∀ σ H, Pv xs.length σ H → D.nx σ H) :
    ∃ W : Nat → Nat → St → Hp → Prop, (∃ m, W 0 m σ H) ∧ ∀ i m σ H, W i m σ H →
      ((Itl K a).stop i H ∧ D.nx σ H) ∨ ((Itl K a).go i H ∧ ∃ N : St → Hp → Prop, (∀ σ' H', N σ' H' → ∃ m', m' < m ∧ W (i + 1) m' σ' H') ∧ ∀ x H', (Itl K a).yld i H x H' → g x σ H' fun σ2 H2 => tb { D with nx := N, ct := N, bk := D.nx } σ2 H2) := by
  refine ⟨fun i m σ H => m = xs.length - i ∧ i ≤ xs.length ∧ Pv i σ H, ⟨xs.length, by simp, Nat.zero_le _, h0⟩, ?_⟩
  rintro i m σ H ⟨rfl, hi, p⟩
  have q := hl i σ H hi p
  by_cases hlt : i < xs.length
  · refine .inr ⟨⟨xs, xs[i], q, by simp [hlt]⟩, Pv (i + 1), fun σ' H' p' => ⟨xs.length - (i + 1), by omega, rfl, hlt, p'⟩, fun x H' y => ?_⟩
    obtain ⟨e, y⟩ := y
    subst e
    exact hs i x σ _ (y xs q) p
  · have e : i = xs.length := by omega
    subst e
    exact .inl ⟨⟨xs, q, Nat.le_refl _⟩, hd σ H p⟩
theorem for_range {lo : Int} {n : Nat} {g : TG} {tb : TS} {D : Ends} {σ : St} {H : Hp} (Pv : Nat → St → Hp → Prop) (h0 : Pv 0 σ H)
    (hs : ∀ i σ H, i < n → Pv i σ H → g (.int (lo + i)) σ H fun σ2 H2 => tb { D with nx := Pv (i + 1), ct := Pv (i + 1), bk := D.nx } σ2 H2) (hd : ∀ σ H, Pv n σ H → D.nx σ H) :
    ∃ W : Nat → Nat → St → Hp → Prop, (∃ m, W 0 m σ H) ∧ ∀ i m σ H, W i m σ H →
      ((Itr lo n).stop i H ∧ D.nx σ H) ∨ ((Itr lo n).go i H ∧ ∃ N : St → Hp → Prop, (∀ σ' H', N σ' H' → ∃ m', m' < m ∧ W (i + 1) m' σ' H') ∧ ∀ x H', (Itr lo n).yld i H x H' → g x σ H' fun σ2 H2 => tb { D with nx := N, ct := N, bk := D.nx } σ2 H2) := by
  refine ⟨fun i m σ H => m = n - i ∧ i ≤ n ∧ Pv i σ H, ⟨n, by simp, Nat.zero_le _, h0⟩, ?_⟩
  rintro i m σ H ⟨rfl, hi, p⟩
  by_cases hlt : i < n
  · refine .inr ⟨hlt, Pv (i + 1), fun σ' H' p' => ⟨n - (i + 1), by omega, rfl, hlt, p'⟩, fun x H' y => ?_⟩
    obtain ⟨e, y⟩ := y
    subst e y
    exact hs i σ _ hlt p
  · have e : i = n := by omega
    subst e
    exact .inl ⟨Nat.le_refl _, hd σ H p⟩
/-- while, by a word and a measure of the state -/
theorem while_by {c : TT} {tb : TS} {D : Ends} {σ : St} {H : Hp} (Pv : St → Hp → Prop) (μ : St → Hp → Nat) (h0 : Pv σ H)
    (hs : ∀ σ H, Pv σ H → c σ H fun b H1 => if b = true then tb { D with nx := fun σ' H' => Pv σ' H' ∧ μ σ' H' < μ σ H, ct := fun σ' H' => Pv σ' H' ∧ μ σ' H' < μ σ H, bk := D.nx } σ H1 else D.nx σ H1)
    (mono : ∀ σ H Q Q', (∀ b H1, Q b H1 → Q' b H1) → c σ H Q → c σ H Q') : tWhile c tb D σ H := by
  refine ⟨fun m σ H => m = μ σ H ∧ Pv σ H, ⟨_, rfl, h0⟩, ?_⟩
  rintro m σ H ⟨rfl, p⟩
  refine mono σ H _ _ (fun b H1 q => ?_) (hs σ H p)
  cases b with
  | true => exact ⟨_, fun σ' H' ⟨p', l⟩ => ⟨_, l, rfl, p'⟩, q⟩
  | false => exact q
end L2

namespace L2
open PySem PySem.Spec PyProof.Rows

abbrev R2 := V → V → Hp → VK → Prop
/-- a two-place operation on values: f is binaryOp op, inplaceOp op or compareOp op -/
def OpR (X : Cx) (f : Value → Value → Sem Value) (r : R2) : Prop :=
  ∀ (pins : List (Addr × Obj)) (s : Shared) (σ : St) (H : Hp) (x y : V) (v u : Value) (Q : VK), Inv X pins σ H s → RelV x v → RelV y u → r x y H Q →
    wpAny (model X.prog X.w) X.A (f v u) (EP X pins σ Q) X.xe s
/-- a one-place operation -/
def UnR (X : Cx) (f : Value → Sem Value) (r : V → Hp → VK → Prop) : Prop :=
  ∀ (pins : List (Addr × Obj)) (s : Shared) (σ : St) (H : Hp) (x : V) (v : Value) (Q : VK), Inv X pins σ H s → RelV x v → r x H Q →
    wpAny (model X.prog X.w) X.A (f v) (EP X pins σ Q) X.xe s
/-- a call of a value that is known (a builtin, a type) with values -/
def CallR (X : Cx) (f : Value) (r : List V → Hp → VK → Prop) : Prop :=
  ∀ (pins : List (Addr × Obj)) (s : Shared) (σ : St) (H : Hp) (xs : List V) (us : List Value) (Q : VK), Inv X pins σ H s → Vals xs us → r xs H Q →
    wpAny (model X.prog X.w) X.A (call f us) (EP X pins σ Q) X.xe s
def tOp (r : R2) (ta tb : TE) : TE := fun σ H Q => ta σ H fun x H1 => tb σ H1 fun y H2 => r x y H2 Q
def tUn (r : V → Hp → VK → Prop) (ta : TE) : TE := fun σ H Q => ta σ H fun x H1 => r x H1 Q
/-- ints in, under C, and a value out -/
def rI (C : Int → Int → Prop) (g : Int → Int → V) : R2 := fun x y H Q => ∃ i j, x = .int i ∧ y = .int j ∧ C i j ∧ Q (g i j) H
def rI0 (g : Int → Int → V) : R2 := fun x y H Q => ∃ i j, x = .int i ∧ y = .int j ∧ Q (g i j) H
def rU (g : Int → V) : V → Hp → VK → Prop := fun x H Q => ∃ i, x = .int i ∧ Q (g i) H

section
variable {X : Cx} {a b c : Expr} {ta tb tc : TE} {pos : Pos}

theorem binT (ha : PE X a ta) (hb : PE X b tb) {pins : List (Addr × Obj)} {s : Shared} {σ : St} {H : Hp} {R : V → V → Hp → Prop} (I : Inv X pins σ H s)
    (h : ta σ H fun x H1 => tb σ H1 fun y H2 => R x y H2) {Q : Value → Shared → Prop} {f : Value → Value → Sem Value}
    (hf : ∀ v u s2 x y H2, Inv X pins σ H2 s2 → RelV x v → RelV y u → R x y H2 → wpAny (model X.prog X.w) X.A (f v u) Q X.xe s2) :
    wpAny (model X.prog X.w) X.A (eval a X.env) (fun v s₁ => wpAny (model X.prog X.w) X.A (eval b X.env) (fun u s₂ => wpAny (model X.prog X.w) X.A (f v u) Q X.xe s₂) X.xe s₁) X.xe s := by
  refine thn (ha pins s σ H _ I h) fun v s1 ⟨x, H1, I1, r1, q1⟩ => ?_
  refine thn (hb pins s1 σ H1 _ I1 q1) fun u s2 ⟨y, H2, I2, r2, q2⟩ => ?_
  exact hf v u s2 x y H2 I2 r1 r2 q2

theorem pe_op {op : Operator} {r : R2} (ho : OpR X (binaryOp op) r) (ha : PE X a ta) (hb : PE X b tb) : PE X (.BinOp a op b pos) (tOp r ta tb) := by
  intro pins s σ H Q I h
  exact wpAny_BinOp (binT ha hb I h fun v u s2 x y H2 I2 rx ry q => ho pins s2 σ H2 x y v u Q I2 rx ry q)
theorem pe_un {op : UnaryOp} {r : V → Hp → VK → Prop} (ho : UnR X (unaryOp op) r) (ha : PE X a ta) : PE X (.UnaryOp op a pos) (tUn r ta) := by
  intro pins s σ H Q I h
  exact UnaryOp_ (thn (ha pins s σ H _ I h) fun v s1 ⟨x, H1, I1, r1, q1⟩ => ho pins s1 σ H1 x v Q I1 r1 q1)
/-! ### ints -/
theorem opI {f : Value → Value → Sem Value} {C : Int → Int → Prop} {g : Int → Int → Int}
    (rule : ∀ (i j : Int) (t u : Tok) (s : Shared) (Q : Value → Shared → Prop) (E : Value → Shared → Prop), C i j → Q (.int (g i j) s.toks) { s with toks := s.toks + 1 } → wpAny (model X.prog X.w) X.A (f (.int i t) (.int j u)) Q E s) :
    OpR X f (rI C fun i j => .int (g i j)) := by
  intro pins s σ H x y v u Q I rx ry h
  obtain ⟨i, j, rfl, rfl, hc, q⟩ := h
  obtain ⟨t, rfl⟩ := rx
  obtain ⟨t', rfl⟩ := ry
  exact rule i j t t' s _ _ hc ⟨.int (g i j), H, I.tok _, ⟨_, rfl⟩, q⟩
theorem opI0 {f : Value → Value → Sem Value} {g : Int → Int → Int}
    (rule : ∀ (i j : Int) (t u : Tok) (s : Shared) (Q : Value → Shared → Prop) (E : Value → Shared → Prop), Q (.int (g i j) s.toks) { s with toks := s.toks + 1 } → wpAny (model X.prog X.w) X.A (f (.int i t) (.int j u)) Q E s) :
    OpR X f (rI0 fun i j => .int (g i j)) := by
  intro pins s σ H x y v u Q I rx ry h
  obtain ⟨i, j, rfl, rfl, q⟩ := h
  obtain ⟨t, rfl⟩ := rx
  obtain ⟨t', rfl⟩ := ry
  exact rule i j t t' s _ _ ⟨.int (g i j), H, I.tok _, ⟨_, rfl⟩, q⟩
theorem opB0 {f : Value → Value → Sem Value} {g : Int → Int → Bool}
    (rule : ∀ (i j : Int) (t u : Tok) (s : Shared) (Q : Value → Shared → Prop) (E : Value → Shared → Prop), Q (.bool (g i j)) s → wpAny (model X.prog X.w) X.A (f (.int i t) (.int j u)) Q E s) :
    OpR X f (rI0 fun i j => .bl (g i j)) := by
  intro pins s σ H x y v u Q I rx ry h
  obtain ⟨i, j, rfl, rfl, q⟩ := h
  obtain ⟨t, rfl⟩ := rx
  obtain ⟨t', rfl⟩ := ry
  exact rule i j t t' s _ _ ⟨.bl (g i j), H, I, rfl, q⟩

def CPow (i j : Int) : Prop := 0 ≤ j ∧ j ≤ 1000000 ∧ i.natAbs < 2 ^ 64
def CMul (i j : Int) : Prop := (-(2 ^ 64) < i ∧ i < 2 ^ 64) ∨ (-(2 ^ 64) < j ∧ j < 2 ^ 64)
theorem CMul.ok {i j : Int} (h : CMul i j) : IntMulOk i j := by
  rcases h with ⟨h1, h2⟩ | ⟨h1, h2⟩
  · exact .of_left (intBits_le_64 h1 h2)
  · exact .of_right (intBits_le_64 h1 h2)
theorem op_add : OpR X (binaryOp .Add) (rI0 fun i j => .int (i + j)) := opI0 fun _ _ _ _ _ _ _ q => add_int q
theorem op_sub : OpR X (binaryOp .Sub) (rI0 fun i j => .int (i - j)) := opI0 fun _ _ _ _ _ _ _ q => sub_int q
theorem op_mul : OpR X (binaryOp .Mult) (rI CMul fun i j => .int (i * j)) := opI fun _ _ _ _ _ _ _ hc q => mul_int q hc.ok
/-- % by a positive divisor of any size -/
theorem op_mod : OpR X (binaryOp .Mod) (rI (fun _ j => 0 < j) fun i j => .int (i % j)) := opI fun i j _ _ _ _ _ hc q => by
  have h1 : (0 : Int) < j := hc
  exact mod_int' (by omega) (by rw [Int.fmod_eq_emod_of_nonneg i (by omega)]; exact q)
theorem op_pow : OpR X (binaryOp .Pow) (rI CPow fun i j => .int (i ^ j.toNat)) := opI fun _ _ _ _ _ _ _ hc q => pow_int_small hc.1 hc.2.1 hc.2.2 q
theorem unI {f : Value → Sem Value} {g : Int → Int}
    (rule : ∀ (i : Int) (t : Tok) (s : Shared) (Q : Value → Shared → Prop) (E : Value → Shared → Prop), Q (.int (g i) s.toks) { s with toks := s.toks + 1 } → wpAny (model X.prog X.w) X.A (f (.int i t)) Q E s) :
    UnR X f (rU fun i => .int (g i)) := by
  intro pins s σ H x v Q I rx h
  obtain ⟨i, rfl, q⟩ := h
  obtain ⟨t, rfl⟩ := rx
  exact rule i t s _ _ ⟨.int (g i), H, I.tok _, ⟨_, rfl⟩, q⟩
theorem un_neg : UnR X (unaryOp .USub) (rU fun i => .int (-i)) := unI fun _ _ _ _ _ q => neg_int q
end

/-! ### comparisons -/
/-- the scalars that == tells apart as data does -/
def scal : V → V → Bool
  | .non, .non => true | .non, .int _ => true | .int _, .non => true | .non, .bl _ => true | .bl _, .non => true | .non, .str _ => true | .str _, .non => true
  | .int _, .int _ => true | .bl _, .bl _ => true | .str _, .str _ => true | .byt _, .byt _ => true
  | .int _, .str _ => true | .str _, .int _ => true | .bl _, .str _ => true | .str _, .bl _ => true
  | _, _ => false
def rEq : R2 := fun x y H Q => scal x y = true ∧ Q (.bl (decide (x = y))) H
def rNe : R2 := fun x y H Q => scal x y = true ∧ Q (.bl (!decide (x = y))) H

theorem dec_int {i j : Int} : decide (V.int i = V.int j) = (i == j) := by
  rw [Bool.eq_iff_iff]
  simp
theorem dec_bl {i j : Bool} : decide (V.bl i = V.bl j) = (i == j) := by
  rw [Bool.eq_iff_iff]
  simp
theorem dec_str {i j : Str} : decide (V.str i = V.str j) = (i == j) := by
  rw [Bool.eq_iff_iff]
  simp
theorem dec_byt {i j : Array UInt8} : decide (V.byt i = V.byt j) = (i.toList == j.toList) := by
  rw [Bool.eq_iff_iff]
  cases i
  cases j
  simp

section
variable {X : Cx} {a b c : Expr} {ta tb tc : TE} {pos : Pos}
theorem fin_bl {pins : List (Addr × Obj)} {σ : St} {H : Hp} {s : Shared} {Q : VK} {k k' : Bool} (I : Inv X pins σ H s) (q : Q (.bl k) H) (e : k = k') : EP X pins σ Q (.bool k') s := by
  subst e
  exact ⟨.bl k, H, I, rfl, q⟩
theorem op_eq : OpR X (compareOp .Eq) rEq := by
  intro pins s σ H x y v u Q I rx ry h
  obtain ⟨hs, q⟩ := h
  cases x with
  | non =>
    cases rx
    cases y with
    | non => cases ry; exact PySem.EqNone.eq_none_none (fin_bl I q (by simp))
    | bl j => cases ry; exact PySem.EqNone.eq_none_bool (fin_bl I q (by simp))
    | int j => obtain ⟨t', rfl⟩ := ry; exact PySem.EqNone.eq_none_int (fin_bl I q (by simp))
    | str j => obtain ⟨t', rfl⟩ := ry; exact PySem.EqNone.eq_none_str (fin_bl I q (by simp))
    | _ => exact absurd (show false = true from hs) Bool.false_ne_true
  | bl i =>
    cases rx
    cases y with
    | non => cases ry; exact PySem.EqNone.eq_bool_none (fin_bl I q (by simp))
    | bl j => cases ry; exact eq_bool (fin_bl I q dec_bl)
    | str j => obtain ⟨t', rfl⟩ := ry; exact PySem.EqMixed.eq_bool_str (fin_bl I q (by simp))
    | _ => exact absurd (show false = true from hs) Bool.false_ne_true
  | int i =>
    obtain ⟨t, rfl⟩ := rx
    cases y with
    | non => cases ry; exact PySem.EqNone.eq_int_none (fin_bl I q (by simp))
    | int j => obtain ⟨t', rfl⟩ := ry; exact eq_int (fin_bl I q dec_int)
    | str j => obtain ⟨t', rfl⟩ := ry; exact PySem.EqMixed.eq_int_str (fin_bl I q (by simp))
    | _ => exact absurd (show false = true from hs) Bool.false_ne_true
  | str i =>
    obtain ⟨t, rfl⟩ := rx
    cases y with
    | non => cases ry; exact PySem.EqNone.eq_str_none (fin_bl I q (by simp))
    | bl j => cases ry; exact PySem.EqMixed.eq_str_bool (fin_bl I q (by simp))
    | int j => obtain ⟨t', rfl⟩ := ry; exact PySem.EqMixed.eq_str_int (fin_bl I q (by simp))
    | str j => obtain ⟨t', rfl⟩ := ry; exact eq_str (fin_bl I q dec_str)
    | _ => exact absurd (show false = true from hs) Bool.false_ne_true
  | byt i =>
    obtain ⟨t, rfl⟩ := rx
    cases y with
    | byt j => obtain ⟨t', rfl⟩ := ry; exact PySem.W.eq_bytes (fin_bl I q dec_byt)
    | _ => exact absurd (show false = true from hs) Bool.false_ne_true
  | _ => cases y <;> exact absurd (show false = true from hs) Bool.false_ne_true
theorem op_ne : OpR X (compareOp .NotEq) rNe := by
  intro pins s σ H x y v u Q I rx ry h
  obtain ⟨hs, q⟩ := h
  cases x with
  | non =>
    cases rx
    cases y with
    | non => cases ry; exact PySem.EqNone.ne_none_none (fin_bl I q (by simp))
    | bl j => cases ry; exact PySem.EqNone.ne_none_bool (fin_bl I q (by simp))
    | int j => obtain ⟨t', rfl⟩ := ry; exact PySem.EqNone.ne_none_int (fin_bl I q (by simp))
    | str j => obtain ⟨t', rfl⟩ := ry; exact PySem.EqNone.ne_none_str (fin_bl I q (by simp))
    | _ => exact absurd (show false = true from hs) Bool.false_ne_true
  | bl i =>
    cases rx
    cases y with
    | non => cases ry; exact PySem.EqNone.ne_bool_none (fin_bl I q (by simp))
    | bl j => cases ry; exact ne_bool (fin_bl I q (congrArg not dec_bl))
    | str j => obtain ⟨t', rfl⟩ := ry; exact PySem.EqMixed.ne_bool_str (fin_bl I q (by simp))
    | _ => exact absurd (show false = true from hs) Bool.false_ne_true
  | int i =>
    obtain ⟨t, rfl⟩ := rx
    cases y with
    | non => cases ry; exact PySem.EqNone.ne_int_none (fin_bl I q (by simp))
    | int j => obtain ⟨t', rfl⟩ := ry; exact ne_int (fin_bl I q (congrArg not dec_int))
    | str j => obtain ⟨t', rfl⟩ := ry; exact PySem.EqMixed.ne_int_str (fin_bl I q (by simp))
    | _ => exact absurd (show false = true from hs) Bool.false_ne_true
  | str i =>
    obtain ⟨t, rfl⟩ := rx
    cases y with
    | non => cases ry; exact PySem.EqNone.ne_str_none (fin_bl I q (by simp))
    | bl j => cases ry; exact PySem.EqMixed.ne_str_bool (fin_bl I q (by simp))
    | int j => obtain ⟨t', rfl⟩ := ry; exact PySem.EqMixed.ne_str_int (fin_bl I q (by simp))
    | str j => obtain ⟨t', rfl⟩ := ry; exact ne_str (fin_bl I q (congrArg not dec_str))
    | _ => exact absurd (show false = true from hs) Bool.false_ne_true
  | byt i =>
    obtain ⟨t, rfl⟩ := rx
    cases y with
    | byt j => obtain ⟨t', rfl⟩ := ry; exact PySem.W.ne_bytes (fin_bl I q (congrArg not dec_byt))
    | _ => exact absurd (show false = true from hs) Bool.false_ne_true
  | _ => cases y <;> exact absurd (show false = true from hs) Bool.false_ne_true

theorem op_lt : OpR X (compareOp .Lt) (rI0 fun i j => .bl (decide (i < j))) := opB0 fun _ _ _ _ _ _ _ q => lt_int q
theorem op_le : OpR X (compareOp .LtE) (rI0 fun i j => .bl (decide (i ≤ j))) := opB0 fun _ _ _ _ _ _ _ q => le_int q
theorem op_gt : OpR X (compareOp .Gt) (rI0 fun i j => .bl (decide (j < i))) := opB0 fun _ _ _ _ _ _ _ q => gt_int q
theorem op_ge : OpR X (compareOp .GtE) (rI0 fun i j => .bl (decide (j ≤ i))) := opB0 fun _ _ _ _ _ _ _ q => ge_int q
/-- two rules for one operation: by cases -/
theorem OpR.or {f : Value → Value → Sem Value} {r r' : R2} (h : OpR X f r) (h' : OpR X f r') : OpR X f (fun x y H Q => r x y H Q ∨ r' x y H Q) := by
  intro pins s σ H x y v u Q I rx ry q
  rcases q with q | q
  · exact h pins s σ H x y v u Q I rx ry q
  · exact h' pins s σ H x y v u Q I rx ry q

theorem nomark (b : Expr) {op : CmpOp} (h : op ≠ .In := by decide) (h2 : op ≠ .NotIn := by decide) : behindInMarks op b = false := by
  have e1 : (op == CmpOp.In) = false := by cases op <;> first | rfl | exact absurd rfl h
  have e2 : (op == CmpOp.NotIn) = false := by cases op <;> first | rfl | exact absurd rfl h2
  cases b <;> simp [behindInMarks, e1, e2]
/-- a comparison as a value; hm: nomark b, or (for in, not in) by with_unfolding_all rfl -/
theorem pe_cmpR {op : CmpOp} {r : R2} (ho : OpR X (compareOp op) r) (ha : PE X a ta) (hb : PE X b tb) (hm : behindInMarks op b = false) : PE X (.Compare a [op] [b] pos) (tOp r ta tb) := by
  intro pins s σ H Q I h
  exact wpAny_Compare1 (binT ha hb I h fun v u s2 x y H2 I2 rx ry q => ho pins s2 σ H2 x y v u Q I2 rx ry q) hm
/-- a reading of a value as a test -/
def tTest (t : TE) : TT := fun σ H Q => t σ H fun x H' => ∃ k, x = .bl k ∧ Q k H'
theorem pt_cmpR {op : CmpOp} {r : R2} (ho : OpR X (compareOp op) r) (ha : PE X a ta) (hb : PE X b tb) (hm : behindInMarks op b = false) : PT X (.Compare a [op] [b] pos) (tTest (tOp r ta tb)) := by
  intro pins s σ H Q I h
  refine wpAny_isTrue_Compare1 (thn (ha pins s σ H _ I h) fun v s1 ⟨x, H1, I1, r1, q1⟩ => thn (hb pins s1 σ H1 _ I1 q1) fun u s2 ⟨y, H2, I2, r2, q2⟩ =>
    thn (ho pins s2 σ H2 x y v u _ I2 r1 r2 q2) fun c s3 ⟨z, H3, I3, r3, k, e, q3⟩ => ?_) hm
  subst e
  cases r3
  exact wpAny_truthy_bool ⟨H3, I3, q3⟩
/-- a op1 b op2 c -/
def tChain (r r' : R2) (ta tb tc : TE) : TE := fun σ H Q => ta σ H fun x H1 => tb σ H1 fun y H2 => r x y H2 fun z H3 => ∃ k, z = .bl k ∧
  (if k = true then tc σ H3 fun w' H4 => r' y w' H4 Q else Q (.bl false) H3)
theorem pe_chain {op op' : CmpOp} {r r' : R2} (ho : OpR X (compareOp op) r) (ho' : OpR X (compareOp op') r') (ha : PE X a ta) (hb : PE X b tb) (hc : PE X c tc)
    (hm : lastMarks [op, op'] [b, c] = false := by with_unfolding_all rfl) : PE X (.Compare a [op, op'] [b, c] pos) (tChain r r' ta tb tc) := by
  intro pins s σ H Q I h
  refine Compare_chain (thn (ha pins s σ H _ I h) fun v s1 ⟨x, H1, I1, r1, q1⟩ => chain_link (thn (hb pins s1 σ H1 _ I1 q1) fun u s2 ⟨y, H2, I2, r2, q2⟩ =>
    thn (ho pins s2 σ H2 x y v u _ I2 r1 r2 q2) fun d s3 ⟨z, H3, I3, r3, k, e, q3⟩ => ?_)) hm
  subst e
  cases r3
  refine wpAny_truthy_bool ?_
  cases k with
  | false => exact ite_ff ⟨.bl false, H3, I3, rfl, q3⟩
  | true => exact ite_tt (chain_last (thn (hc pins s3 σ H3 _ I3 q3) fun w' s4 ⟨z', H4, I4, r4, q4⟩ => ho' pins s4 σ H4 y z' u w' Q I4 r2 r4 q4))
theorem line63 : (sizeLine : Nat) < 2 ^ 63 := by rw [sizeLine_eq]; decide
/-! ### scalar builtins, by CallR -/
theorem vals1 {x : V} {us : List Value} (r : Vals [x] us) : ∃ u, us = [u] ∧ RelV x u := by
  cases r with
  | cons r1 r2 => cases r2; exact ⟨_, rfl, r1⟩
theorem vals2 {x y : V} {us : List Value} (r : Vals [x, y] us) : ∃ u w', us = [u, w'] ∧ RelV x u ∧ RelV y w' := by
  cases r with
  | cons r1 r2 =>
    cases r2 with
    | cons r3 r4 => cases r4; exact ⟨_, _, rfl, r1, r3⟩
theorem call_abs : CallR X (.builtin "abs") (fun xs H Q => ∃ i, xs = [.int i] ∧ Q (.int (if i < 0 then -i else i)) H) := by
  intro pins s σ H xs us Q I r h
  obtain ⟨i, rfl, q⟩ := h
  obtain ⟨u, rfl, t, rfl⟩ := vals1 r
  exact call_abs_int fun u tk => ⟨.int (if i < 0 then -i else i), H, I.tok _, ⟨_, rfl⟩, q⟩
theorem call_max2 (hc : X.calm = true) : CallR X (.builtin "max") (fun xs H Q => ∃ i j, xs = [.int i, .int j] ∧ Q (.int (if j > i then j else i)) H) := by
  intro pins s σ H xs us Q I r h
  obtain ⟨i, j, rfl, q⟩ := h
  obtain ⟨u, w', rfl, ⟨t, rfl⟩, ⟨t', rfl⟩⟩ := vals2 r
  refine max_two_ints (I.ok.hd hc) fun h' tk k => ⟨_, H, I.kept k, ?_, q⟩
  by_cases hj : j > i
  · rw [if_pos hj, if_pos hj]; exact ⟨_, rfl⟩
  · rw [if_neg hj, if_neg hj]; exact ⟨_, rfl⟩
theorem call_min2 (hc : X.calm = true) : CallR X (.builtin "min") (fun xs H Q => ∃ i j, xs = [.int i, .int j] ∧ Q (.int (if j < i then j else i)) H) := by
  intro pins s σ H xs us Q I r h
  obtain ⟨i, j, rfl, q⟩ := h
  obtain ⟨u, w', rfl, ⟨t, rfl⟩, ⟨t', rfl⟩⟩ := vals2 r
  refine min_two_ints (I.ok.hd hc) fun h' tk k => ⟨_, H, I.kept k, ?_, q⟩
  by_cases hj : j < i
  · rw [if_pos hj, if_pos hj]; exact ⟨_, rfl⟩
  · rw [if_neg hj, if_neg hj]; exact ⟨_, rfl⟩
theorem call_int1 : CallR X (.type "int") (fun xs H Q => (∃ i, xs = [.int i] ∧ Q (.int i) H) ∨ ∃ k, xs = [.bl k] ∧ Q (.int (if k then 1 else 0)) H) := by
  intro pins s σ H xs us Q I r h
  rcases h with ⟨i, rfl, q⟩ | ⟨k, rfl, q⟩
  · obtain ⟨u, rfl, t, rfl⟩ := vals1 r
    exact call_int_int ⟨.int i, H, I, ⟨_, rfl⟩, q⟩
  · obtain ⟨u, rfl, r1⟩ := vals1 r
    cases r1
    exact call_int_bool ⟨.int (if k then 1 else 0), H, I.tok _, ⟨_, rfl⟩, q⟩
end
end L2

namespace L2
open PySem PySem.Spec PyProof.Rows

/-! ### an instance, its attributes a map -/
structure ObjM (h : Heap) (x dx C : Addr) (mA : Str → Option Value) : Prop where
  obj : h.get? x = some (PySem.W.instObj C dx)
  ns : h.Ns1 dx mA
  ne : dx ≠ x

theorem lookIn_ns {h : Heap} {dx : Addr} {mA : Str → Option Value} (n : h.Ns1 dx mA) : ∃ od, h.get? dx = some od ∧ ∀ name, PySem.W.lookIn name od = some (mA name) := by
  obtain ⟨o, es, ep, ho, hd, hk, _, hm⟩ := n
  refine ⟨o, ho, fun name => ?_⟩
  have e := hm name
  unfold nsFind findBy at e
  rw [← Array.find?_toList] at e
  unfold PySem.W.lookIn
  rw [hd]
  dsimp only
  split
  · rename_i y q
    rw [q] at e
    exact congrArg some e
  · rename_i q
    rw [q] at e
    have a : es.toList.any (·.refKey) = false := by
      rw [List.any_eq_false]
      intro y hy
      obtain ⟨z, t, hkey⟩ := hk y (Array.mem_toList_iff.mp hy)
      simp [DictEntry.refKey, hkey]
    have a' : ¬ es.toList.any (·.refKey) = true := by rw [a]; exact Bool.false_ne_true
    rw [if_neg a']
    exact congrArg some e

theorem ObjM.look {h : Heap} {x dx C : Addr} {mA : Str → Option Value} (I : ObjM h x dx C mA) : ∃ od, PySem.W.InstAt h x (PySem.W.instObj C dx) C (some od) ∧ ∀ name, PySem.W.lookIn name od = some (mA name) :=
  let ⟨od, ho, hl⟩ := lookIn_ns I.ns
  ⟨od, ⟨I.obj, rfl, rfl, ho⟩, hl⟩

section
variable {prog : Program} {w : World} {A : Around} {E : Value → Shared → Prop} {s : Shared} {K : PySem.W.Frag} {x dx C f : Addr} {mA : Str → Option Value} {name : Str} {v : Value}

end

theorem RelO.none_of {o : Option Value} (r : RelO none o) : o = none := by
  cases o with
  | none => rfl
  | some u => exact (show False from r).elim
section
variable {P : Program} {w : World} {H H' : Hp} {h h' : Heap} {a C dx : Addr} {fs fs' : List (Str × V)}
theorem ins_get (hok : HOk P w H h) (e : H a = some (.ins C dx fs)) : ∃ mA, ObjM h a dx C mA ∧ (∀ f, RelO (fs.lookup f) (mA f)) ∧ PySem.Within mA (fs.map (·.1)) ∧ fs.length ≤ 1000 ∧ H dx = some (.own a) := by
  obtain ⟨d, z, ne, ob, mA, n, r, q⟩ := (show ObjOk P w H h a (.ins C dx fs) from hok a _ e)
  exact ⟨mA, ⟨ob, n, ne⟩, r, q, z, d⟩
end

/-! ### what of the text a class must have -/
structure Cls (K : PySem.W.Frag) (C : Addr) : Prop where
  pg : PySem.W.plainGet K C Str.empty = true
  hd : PySem.W.hasDictIn K C = true
  po : PySem.W.plainOver K C = true
  sa : PySem.W.findIn K (.ref C) "__setattr__" = some (some (.builtin "object.__setattr__"))
theorem Cls.get {K : PySem.W.Frag} {C : Addr} (c : Cls K C) (f : Str) : PySem.W.plainGet K C f = true := c.pg
/-- a constant of the class -/
structure Con (K : PySem.W.Frag) (C : Addr) (f : Str) (v : V) (u : Value) : Prop where
  at_ : PySem.W.findIn K (.ref C) f = some (some u)
  rel : RelV v u
  get : PySem.W.specialIn K u "__get__" = some none
  cp : PySem.W.copiedNames.contains f = false
/-- a method: a plain def of the class or of one above it -/
structure Meth (K : PySem.W.Frag) (C : Addr) (m : Str) (f : Addr) : Prop where
  at_ : PySem.W.findIn K (.ref C) m = some (some (.ref f))
  fn : PySem.W.isFn K (.ref f) = true
  kp : PySem.W.keepIn K (.ref f) = true

section
variable {X : Cx} {pins : List (Addr × Obj)} {σ : St} {H : Hp} {s : Shared} {a C dx : Addr} {fs : List (Str × V)} {f : Str} {v : V} {A : Around} {E : Value → Shared → Prop}

/-- a new instance, tracked, without attributes -/
theorem Inv.made (I : Inv X pins σ H s) : Inv X pins σ (upd (upd H s.heap.objs.size (.own (s.heap.objs.size + 1))) (s.heap.objs.size + 1) (.ins C s.heap.objs.size []))
    { s with heap := (s.heap.push PySem.W.emptyDict).push (PySem.W.instObj C s.heap.objs.size) } := by
  have e1 : (s.heap.push PySem.W.emptyDict).get? s.heap.objs.size = some PySem.W.emptyDict := Heap.get?_push_size s.heap rfl
  have e2 : ((s.heap.push PySem.W.emptyDict).push (PySem.W.instObj C s.heap.objs.size)).get? (s.heap.objs.size + 1) = some (PySem.W.instObj C s.heap.objs.size) := by
    have := Heap.get?_push_size (s.heap.push PySem.W.emptyDict) (o := PySem.W.instObj C s.heap.objs.size) rfl
    rwa [Heap.size_push] at this
  have e3 : (s.heap.push PySem.W.emptyDict).Ns s.heap.objs.size (fun _ => none) := ⟨PySem.W.emptyDict, #[], _, e1, rfl, (fun e he => absurd he (by simp)), fun _ => rfl⟩
  have I1 := I.laid (a := s.heap.objs.size) (o := .own (s.heap.objs.size + 1)) (h' := s.heap.push PySem.W.emptyDict) (t' := s.toks) (fun b u q => Heap.get?_push_of_some _ q) (Nat.le_refl _) ⟨_, e1⟩
  refine I1.laid (a := s.heap.objs.size + 1) (o := .ins C s.heap.objs.size []) (t' := s.toks) (fun b u q => Heap.get?_push_of_some _ q) (Nat.le_of_eq (Heap.size_push _ _)) ?_
  have ne : s.heap.objs.size ≠ s.heap.objs.size + 1 := Nat.ne_of_lt (Nat.lt_succ_self _)
  refine ⟨by rw [upd_ne ne, upd_same], Nat.zero_le _, ne, e2, fun _ => none, (Heap.Ns1.of_empty e3).at fun o q => Heap.get?_push_of_some _ q, fun _ => True.intro, fun y hy => absurd rfl hy⟩

end

section
variable {X : Cx} {o e value : Expr} {f : Str} {pos pos' tpos : Pos} {ta tv : TE}
end

/-! ### isinstance -/
section
variable {X : Cx} {pins : List (Addr × Obj)} {σ : St} {H : Hp} {s : Shared} {A : Around} {E : Value → Shared → Prop} {Q : Value → Shared → Prop} {c : Value} {b : Bool}
/-- the type of a value, as the fragment's deciders take it; for an instance its class -/
inductive TyOf (K : PySem.W.Frag) (H : Hp) : V → Value → Prop where
  | non : TyOf K H .non (.type "NoneType")
  | bl (x : Bool) : TyOf K H (.bl x) (.type "bool")
  | int (i : Int) : TyOf K H (.int i) (.type "int")
  | str (x : Str) : TyOf K H (.str x) (.type "str")
  | flt (x : UInt64) : TyOf K H (.flt x) (.type "float")
  | lst {a : Addr} {xs : List V} (e : H a = some (.lst xs)) : TyOf K H (.ref a) (.type "list")
  | frz {a : Addr} {o : Obj} {xs : List V} (e : H a = some (.frz o (.lst xs))) : TyOf K H (.ref a) (.type "list")
  | frt {a : Addr} {o : Obj} {xs : List V} (e : H a = some (.frz o (.tup xs))) : TyOf K H (.ref a) (.type "tuple")
  | tup {a : Addr} {xs : List V} (e : H a = some (.tup xs)) : TyOf K H (.ref a) (.type "tuple")
  | dK {a : Addr} {kvs : List (Key × V)} (e : H a = some (.dK kvs)) : TyOf K H (.ref a) (.type "dict")
  | dT {a : Addr} {kvs : List (List Key × V)} (e : H a = some (.dT kvs)) : TyOf K H (.ref a) (.type "dict")
  | ins {a C dx : Addr} {fs : List (Str × V)} (e : H a = some (.ins C dx fs)) (cl : Cls K C) (ha : PySem.W.findIn K (.ref C) "__class__" = some (some (.builtin "object.__class__")))
      (hn : PySem.W.specialIn K (.builtin "object.__class__") "__get__" = some (some (.builtin "getset_descriptor.__get__"))) (htk : PySem.W.takesIn K (.builtin "object.__class__") = some true)
      (hm : PySem.W.mroIn K C (.type "object") = some true) : TyOf K H (.ref a) (.ref C)
/-- isinstance(x, c) for one class c, a built-in or an own one: kitOne's answer -/
theorem isinst_ok {x : V} {u t : Value} (I : Inv X pins σ H s) (rx : RelV x u) (ty : TyOf X.K H x t) (e : PySem.W.kitOne X.K t c = some b) (h : ∀ tk, Q (.bool b) { s with toks := tk }) :
    wpAny (model X.prog X.w) A (call (.builtin "isinstance") [u, c]) Q E s := by
  cases ty with
  | non => cases (show u = Value.none from rx); exact PySem.W.kia_one PySem.W.kitx_none I.kIn True.intro e (fun z => nomatch z) h
  | bl y => cases (show u = Value.bool y from rx); exact PySem.W.kia_one PySem.W.kitx_bool I.kIn True.intro e (fun z => nomatch z) h
  | int i => obtain ⟨t, q⟩ := (show ∃ t, u = Value.int i t from rx); cases q; exact PySem.W.kia_one PySem.W.kitx_int I.kIn True.intro e (fun z => nomatch z) h
  | str y => obtain ⟨t, q⟩ := (show ∃ t, u = Value.str y t from rx); cases q; exact PySem.W.kia_one PySem.W.kitx_str I.kIn True.intro e (fun z => nomatch z) h
  | flt y => obtain ⟨t, q⟩ := (show ∃ t, u = Value.float y t from rx); cases q; exact PySem.W.kia_one PySem.W.kitx_float I.kIn True.intro e (fun z => nomatch z) h
  | @lst a xs ea =>
    cases (show u = Value.ref a from rx)
    obtain ⟨_, _, n, _, h1⟩ := (show ObjOk X.prog X.w H s.heap a (.lst xs) from I.hok a _ ea)
    exact PySem.W.kia_one PySem.W.kitx_list I.kIn ⟨_, h1, rfl⟩ e (fun z => nomatch z) h
  | @frz a ob xs ea =>
    cases (show u = Value.ref a from rx)
    obtain ⟨_, _, _, n, _, h1⟩ := (show ObjOk X.prog X.w H s.heap a (.frz ob (.lst xs)) from I.hok a _ ea)
    exact PySem.W.kia_one PySem.W.kitx_list I.kIn ⟨_, h1, rfl⟩ e (fun z => nomatch z) h
  | @frt a ob xs ea =>
    cases (show u = Value.ref a from rx)
    obtain ⟨_, _, _, _, p⟩ := (show ObjOk X.prog X.w H s.heap a (.frz ob (.tup xs)) from I.hok a _ ea)
    obtain ⟨o, h1, h2, _⟩ := p
    exact PySem.W.kia_one PySem.W.kitx_tuple I.kIn ⟨o, h1, h2⟩ e (fun z => nomatch z) h
  | @tup a xs ea =>
    cases (show u = Value.ref a from rx)
    obtain ⟨_, _, _, p⟩ := (show ObjOk X.prog X.w H s.heap a (.tup xs) from I.hok a _ ea)
    obtain ⟨o, h1, h2, _⟩ := p
    exact PySem.W.kia_one PySem.W.kitx_tuple I.kIn ⟨o, h1, h2⟩ e (fun z => nomatch z) h
  | @dK a kvs ea =>
    cases (show u = Value.ref a from rx)
    obtain ⟨_, _, vs, _, p⟩ := (show ObjOk X.prog X.w H s.heap a (.dK kvs) from I.hok a _ ea)
    obtain ⟨o, es, ep, h1, h2, _⟩ := p
    exact PySem.W.kia_one PySem.W.kitx_dict I.kIn ⟨o, h1, h2.1⟩ e (fun z => nomatch z) h
  | @dT a kvs ea =>
    cases (show u = Value.ref a from rx)
    obtain ⟨_, _, xs, _, o, es, ep, h1, h2, _⟩ := (show ObjOk X.prog X.w H s.heap a (.dT kvs) from I.hok a _ ea)
    exact PySem.W.kia_one PySem.W.kitx_dict I.kIn ⟨o, h1, h2.1⟩ e (fun z => nomatch z) h
  | @ins a C dx fs ea cl ha hn htk hm =>
    cases (show u = Value.ref a from rx)
    obtain ⟨mA, O, _⟩ := ins_get I.hok ea
    obtain ⟨od, J, _⟩ := O.look
    exact PySem.W.kia_one (PySem.W.kitx_own (cl.get _) cl.hd ha hn htk hm) I.kIn J e (fun z => nomatch z) h
end
end L2

namespace L2
open PySem PySem.Spec PyProof.Rows

/-! ### room -/
structure Room (k : Nat) (A : Around) : Prop where
  hd : A.handled = none
  dp : A.depth + 3 * k + 5 < recursionLimit
  un : A.units + 16 * k + 200 < cLine
  gd : 7 ≤ k → A.guards = some []
theorem Room.mono {j k : Nat} {A : Around} (r : Room k A) (h : j ≤ k) : Room j A := ⟨r.hd, by have := r.dp; omega, by have := r.un; omega, fun z => r.gd (Nat.le_trans z h)⟩
theorem Room.deeper {k : Nat} {A : Around} (r : Room (k + 1) A) (env : Env) : Room k (A.deeper env) :=
  ⟨r.hd, by have := r.dp; show A.depth + 1 + 3 * k + 5 < _; omega, by have := r.un; show A.units + 3 + 16 * k + 200 < _; omega, fun z => r.gd (Nat.le_succ_of_le z)⟩
theorem Room.in1 {k : Nat} {A : Around} (r : Room (k + 1) A) : Room k A.in1 :=
  ⟨r.hd, by have := r.dp; show A.depth + 3 * k + 5 < _; omega, by have := r.un; show A.units + 1 + 16 * k + 200 < _; omega, fun z => r.gd (Nat.le_succ_of_le z)⟩
theorem Room.depth {k : Nat} {A : Around} (r : Room k A) : A.depth < recursionLimit := by have := r.dp; omega
theorem Room.units {k : Nat} {A : Around} (r : Room k A) : A.units + 64 < cLine := by have := r.un; omega
/-! ### argument lists and displays -/
def tNil : TA := fun _ H Q => Q [] H
def tCons (ta : TE) (tr : TA) : TA := fun σ H Q => ta σ H fun x H1 => tr σ H1 fun xs H2 => Q (x :: xs) H2
section
variable {X : Cx} {e : Expr} {es : List Expr} {te : TE} {t : TA} {pos : Pos}
theorem pa_nil : PA X [] tNil := fun _ _ _ _ H Q I h => Calls.spliced_nil ⟨[], H, I, .nil, h⟩
theorem pa_cons (ha : PE X e te) (hr : PA X es t) (hs : starEach (e :: es) X.env = (false, eval e X.env) :: starEach es X.env := by rfl) : PA X (e :: es) (tCons te t) := by
  intro pos pins s σ H Q I h
  rw [hs]
  show wpAny _ _ (spliced ((false, eval e X.env) :: backTo pos (starEach es X.env))) _ _ s
  refine Calls.spliced_cons (thn (ha pins s σ H _ I h) fun u s1 ⟨x, H1, I1, r1, q1⟩ => ?_)
  exact thn (hr pos pins s1 σ H1 _ I1 q1) fun us s2 ⟨xs, H2, I2, r2, q2⟩ => ⟨x :: xs, H2, I2, .cons r1 r2, q2⟩

/-- a tuple, a list of written items -/
def tTup (t : TA) : TE := fun σ H Q => t σ H fun xs H1 => xs.length ≤ sizeLine ∧ ∀ p, H1 p = none → Q (.ref p) (upd H1 p (.tup xs))
def tLst (t : TA) : TE := fun σ H Q => t σ H fun xs H1 => xs.length ≤ sizeLine ∧ ∀ p, H1 p = none → Q (.ref p) (upd H1 p (.lst xs))
theorem pe_tup {x1} (h : PA X es t) : PE X (.Tuple es x1 pos) (tTup t) := by
  intro pins s σ H Q I hq
  refine wpAny_Tuple_spliced (thn (h pos pins s σ H _ I hq) fun us s1 ⟨xs, H1, I1, r, z, q⟩ => ⟨by rw [← r.length]; exact z, ?_⟩)
  have hf : H1 s1.heap.objs.size = none := I1.hok.fresh (Nat.le_refl _)
  refine ⟨.ref s1.heap.objs.size, upd H1 s1.heap.objs.size (.tup xs), I1.laid (t' := s1.toks) (fun b u e => Heap.get?_push_of_some _ e) (Nat.le_refl _) ?_, rfl, q _ hf⟩
  exact ⟨z, us, r, ⟨_, Heap.get?_push_size _ rfl, rfl, _, rfl⟩⟩
theorem pe_lst (h : PA X es t) : PE X (.List es pos) (tLst t) := by
  intro pins s σ H Q I hq
  refine wpAny_List_spliced (thn (h pos pins s σ H _ I hq) fun us s1 ⟨xs, H1, I1, r, z, q⟩ => ⟨by rw [← r.length]; exact z, ?_⟩)
  have hf : H1 s1.heap.objs.size = none := I1.hok.fresh (Nat.le_refl _)
  refine ⟨.ref s1.heap.objs.size, upd H1 s1.heap.objs.size (.lst xs), I1.laid (t' := s1.toks) (fun b u e => Heap.get?_push_of_some _ e) (Nat.le_refl _) ?_, rfl, q _ hf⟩
  exact ⟨z, us, 0, r, Heap.get?_push_size _ rfl⟩
end

/-! ### what a def promises -/
/-- a def's promise: the bound arguments in the parameters' order, the heap, the wanted end, the wanted exception -/
abbrev Sp := List V → Hp → VK → XK → Prop
/-- how an exception lies behind a call (file 08 gives it): the callers' frames, abstract heap and state ahead of the call, the wish, the exception, the state -/
abbrev CXT := List Env → Hp → Shared → XK → Value → Shared → Prop

/-- the state at a call -/
structure Env0 (P : Program) (w : World) (K : PySem.W.Frag) (mg : Str → Option Value) (base : Heap) (A : Around) (outer : List Env) (s : Shared) (H : Hp) : Prop where
  frames : True
  mod : Mod K mg base
  bs : ∀ b o, base.get? b = some o → s.heap.get? b = some o ∧ H b = none
  bsz : base.objs.size ≤ s.heap.objs.size
  funs : s.heap.FunFrames base outer
  frf : ∀ b ∈ frs outer, H b = none
  hok : HOk P w H s.heap
  bare : True
/-- a call's end -/
def CE (outer : List Env) (P : Program) (w : World) (H : Hp) (s : Shared) (Q : VK) (u : Value) (s' : Shared) : Prop :=
  ∃ v H', s'.os = s.os ∧ (AllBare s.gens → AllBare s'.gens) ∧ Un (frs outer) [] H H' s.heap s'.heap ∧ HOk P w H' s'.heap ∧ RelV v u ∧ Q v H'
def CR (CX : CXT) (outer : List Env) (P : Program) (w : World) (H : Hp) (s : Shared) (Q : VK) (E : XK) (r : Result) (s' : Shared) : Prop :=
  match r with
  | .ok (.ret u) => CE outer P w H s Q u s'
  | .ok _ => False
  | .error e => CX outer H s E e s'
structure FnOk (P : Program) (w : World) (K : PySem.W.Frag) (mg : Str → Option Value) (base : Heap) (CX : CXT) (k : Nat) (f : Addr) (fd : FuncData) (ps : List Str) (sp : Sp) : Prop where
  len : ∀ vs H Q E, sp vs H Q E → vs.length = ps.length
  run : ∀ (A : Around) (outer : List Env) (s : Shared) (H : Hp) (args : Args) (us : List Value) (vs : List V) (Q : VK) (E : XK), Room k A → Env0 P w K mg base A outer s H → BindsTo s fd args (ps.zip us) → Vals vs us → sp vs H Q E →
    codeAny (model P w) A (.call (.ref f) args) (CR CX outer P w H s Q E) s
theorem FnOk.mono {P : Program} {w : World} {K : PySem.W.Frag} {mg : Str → Option Value} {base : Heap} {CX : CXT} {j k : Nat} {f : Addr} {fd : FuncData} {ps : List Str} {sp : Sp} (F : FnOk P w K mg base CX j f fd ps sp) (h : j ≤ k) :
    FnOk P w K mg base CX k f fd ps sp := ⟨F.len, fun A outer s H args us vs Q E hr => F.run A outer s H args us vs Q E (hr.mono h)⟩
theorem Env0.in1 {P : Program} {w : World} {K : PySem.W.Frag} {mg : Str → Option Value} {base : Heap} {A : Around} {outer : List Env} {s : Shared} {H : Hp} (e : Env0 P w K mg base A outer s H) :
    Env0 P w K mg base A.in1 outer s H := ⟨e.frames, e.mod, e.bs, e.bsz, e.funs, e.frf, e.hok, e.bare⟩

section
variable {X : Cx} {pins : List (Addr × Obj)} {σ : St} {H : Hp} {s s' : Shared}
/-- from a body: what a callee wants -/
theorem Inv.env0 (I : Inv X pins σ H s) : Env0 X.prog X.w X.K X.mg X.base X.A X.stack s H :=
  ⟨I.ok.frames, I.ok.mod, I.bs, Nat.le_trans I.ok.bsz I.sz, I.stack, I.stkFree, I.hok, trivial⟩
/-- behind a call -/
theorem Inv.after {Q : VK} {u : Value} (I : Inv X pins σ H s) (hqt : X.qt = false) (h : CE X.stack X.prog X.w H s Q u s') : EP X pins σ Q u s' := by
  obtain ⟨v, H', os, bare, un, hok, r, q⟩ := h
  obtain ⟨hh, g, d, t, os'⟩ := s'
  obtain rfl : os' = s.os := os
  exact ⟨v, H', I.call (h' := hh) (g' := g) (d' := d) (t' := t) (ch := []) un hok ⟨fun z => bare (I.bare.1 z), fun z => by rw [hqt] at z; cases z⟩ (fun b z => absurd z (by simp)), r, q⟩
end

/-! ### calls -/
/-- f(..): the written arguments, then the defaults dvs; E: what is wanted of an exception -/
def tCall (sp : Sp) (dvs : List V) (E : XK) (t : TA) : TE := fun σ H Q => t σ H fun vs H1 => sp (vs ++ dvs) H1 Q E
/-- how the parameters are bound: us the positional arguments, kw the keywords' values by name, ds the defaults that fill up -/
def Binds (K : PySem.W.Frag) (fd : FuncData) (ps : List Str) (ds : List Value) : Prop :=
  ∀ (s : Shared) (us : List Value), K.In s.heap → (us ++ ds).length = ps.length → BindsTo s fd ⟨us, []⟩ (ps.zip (us ++ ds))
/-- every parameter is given -/
theorem Binds.all {K : PySem.W.Frag} {fd : FuncData} {ps : List Str} (h : ∀ us : List Value, us.length = ps.length → bindArgs fd ⟨us, []⟩ = pure (ps.zip us)) : Binds K fd ps [] := fun s us _ hl => by
  rw [List.append_nil] at hl ⊢
  exact .of_eq (h us hl)

/-- an exception of a callee reaches what this body wants of exceptions -/
def Passes (CX : CXT) (X : Cx) (E : XK) : Prop := X.qt = false ∧ ∀ (pins : List (Addr × Obj)) (σ : St) (H : Hp) (s : Shared) (e : Value) (s' : Shared), Inv X pins σ H s → CX X.stack H s E e s' → X.xe e s'

section
variable {X : Cx} {CX : CXT} {k : Nat} {f C : Addr} {fd : FuncData} {ps : List Str} {sp : Sp} {dvs : List V} {ds : List Value} {E : XK} {x m : Str} {p pos apos : Pos} {e o : Expr} {es : List Expr} {ta : TE} {t : TA}

/-- the callee runs -/
theorem run_fn {pins : List (Addr × Obj)} {σ : St} {H : Hp} {s : Shared} {Q : VK} {us : List Value} {vs : List V} (F : FnOk X.prog X.w X.K X.mg X.base CX k f fd ps sp) (hr : Room k X.A) (hb : Binds X.K fd ps ds) (hd : Vals dvs ds) (hx : Passes CX X E)
    (I : Inv X pins σ H s) (r : Vals vs us) (h : sp (vs ++ dvs) H Q E) : wpAny (model X.prog X.w) X.A (call (.ref f) us) (EP X pins σ Q) X.xe s := by
  have r2 : Vals (vs ++ dvs) (us ++ ds) := r.append hd
  have hl : (us ++ ds).length = ps.length := by rw [← r2.length]; exact F.len _ _ _ _ h
  refine wpAny_call (codeAny_mono (F.run X.A X.stack s H ⟨us, []⟩ (us ++ ds) (vs ++ dvs) Q E hr I.env0 (hb s us I.kIn hl) r2 h) fun r s' hq => ?_)
  cases r with
  | error e => exact hx.2 pins σ H s e s' I hq
  | ok fl =>
    cases fl with
    | ret u => exact I.after hx.1 hq
    | next => exact False.elim hq
    | brk => exact False.elim hq
    | cont => exact False.elim hq

theorem pe_call (F : FnOk X.prog X.w X.K X.mg X.base CX k f fd ps sp) (hr : Room k X.A) (hg : Gl X x) (hm : X.mg x = some (.ref f)) (hk : PySem.W.keepIn X.K (.ref f) = true) (hb : Binds X.K fd ps ds) (hd : Vals dvs ds) (hx : Passes CX X E)
    (ha : PA X (e :: es) t) (hdb : (x == ("__debug__" : Str)) = false := by decide) (he : starEach (e :: es) X.env = (false, eval e X.env) :: starEach es X.env := by rfl) (hpl : (backTo pos (starEach es X.env)).any (·.1) = false := by rfl) :
    PE X (.Call (.Name x p) (e :: es) [] pos) (tCall sp dvs E t) := by
  intro pins s σ H Q I h
  refine wpAny_Call_Name_kw (ld_glob I hg hm ?_ hdb)
  refine PySem.W.callWith_K (h₀ := X.base) I.ok.mod.kin hk (thn (ha pos pins s σ H _ I h) fun us s1 ⟨vs, H1, I1, r, q⟩ => ⟨I1.kIn, ?_⟩) he hpl
  exact run_fn F hr hb hd hx I1 r q
/-- what a class must have to be made -/
structure Mk (K : PySem.W.Frag) (C f : Addr) : Prop where
  makes : PySem.W.makesIn K C = true
  init : PySem.W.findIn K (.ref C) "__init__" = some (some (.ref f))
  fn : PySem.W.isFn K (.ref f) = true
  kp : PySem.W.keepIn K (.ref C) = true

end

section
variable {X : Cx} {CX : CXT} {k : Nat} {f C : Addr} {fd : FuncData} {ps ks : List Str} {sp : Sp} {E : XK} {x m : Str} {p pos apos kpos : Pos} {e o : Expr} {es : List Expr} {kws : List Keyword} {te ta : TE} {t tk : TA} {nm : Option Str}
/-- how a call with keywords binds: g puts the positional values us and the keywords' values ws (names ks) in the parameters' order, defaults among them -/
structure KBinds (K : PySem.W.Frag) (fd : FuncData) (ps ks : List Str) (g : List Value → List Value → List Value) (gV : List V → List V → List V) : Prop where
  to : ∀ (s : Shared) (us ws : List Value), K.In s.heap → (g us ws).length = ps.length → BindsTo s fd ⟨us, ks.zip ws⟩ (ps.zip (g us ws))
  rel : ∀ {vs : List V} {us : List Value} {zs : List V} {ws : List Value}, Vals vs us → Vals zs ws → Vals (gV vs zs) (g us ws)
variable {g : List Value → List Value → List Value} {gV : List V → List V → List V}
end

/-! ### a def's body keeps its promise -/
/-- names: the parameters first -/
structure FnScope (N P : List Str) (sc : Scope) : Prop where
  kind : sc.kind = .function
  co : sc.isCoroutine = false
  gen : sc.isGenerator = false
  nd : N.Nodup
  pre : N.take P.length = P
  par : ∀ x ∈ P, sc.names.lookup x = some .local ∨ sc.names.lookup x = some .cell
  nofree : ∀ y ∈ sc.names, y.2 ≠ .free

theorem bindL_out {kindOf : Str → Option NameKind} {x : Str} : ∀ {binds : List (Str × Value)} {m : Str → Option Value}, (∀ v, (x, v) ∉ binds) → bindL kindOf binds m x = m x
  | [], _, _ => rfl
  | (n, v) :: r, m, h => by
    unfold bindL
    rw [bindL_out fun w hw => h w (List.mem_cons_of_mem _ hw)]
    split
    · have : x ≠ n := by rintro rfl; exact h v List.mem_cons_self
      simp [this]
    · rfl
theorem bindC_out {kindOf : Str → Option NameKind} {x : Str} : ∀ {binds : List (Str × Value)} {m : Str → Option Value}, (∀ v, (x, v) ∉ binds) → bindC kindOf binds m x = m x
  | [], _, _ => rfl
  | (n, v) :: r, m, h => by
    unfold bindC
    rw [bindC_out fun w hw => h w (List.mem_cons_of_mem _ hw)]
    split
    · rfl
    · have : x ≠ n := by rintro rfl; exact h v List.mem_cons_self
      simp [this]
theorem bindL_get {kindOf : Str → Option NameKind} {x : Str} {v : Value} : ∀ {P : List Str} {vs : List Value} {i : Nat} {m : Str → Option Value}, P.Nodup → P[i]? = some x → vs[i]? = some v → kindOf x = some .local →
    bindL kindOf (P.zip vs) m x = some v
  | [], _, _, _, _, h, _, _ => by simp at h
  | _ :: _, [], _, _, _, _, h, _ => by simp at h
  | p :: P, w :: vs, 0, m, nd, h1, h2, hk => by
    simp at h1 h2; subst h1; subst h2
    show bindL kindOf ((p, w) :: P.zip vs) m p = _
    unfold bindL
    rw [bindL_out fun v hv => (List.nodup_cons.mp nd).1 (List.of_mem_zip hv).1, if_pos hk]
    simp
  | p :: P, w :: vs, i + 1, m, nd, h1, h2, hk => by
    show bindL kindOf ((p, w) :: P.zip vs) m x = _
    unfold bindL
    exact bindL_get (i := i) (List.nodup_cons.mp nd).2 (by simpa using h1) (by simpa using h2) hk
theorem bindC_get {kindOf : Str → Option NameKind} {x : Str} {v : Value} : ∀ {P : List Str} {vs : List Value} {i : Nat} {m : Str → Option Value}, P.Nodup → P[i]? = some x → vs[i]? = some v → kindOf x ≠ some .local →
    bindC kindOf (P.zip vs) m x = some v
  | [], _, _, _, _, h, _, _ => by simp at h
  | _ :: _, [], _, _, _, _, h, _ => by simp at h
  | p :: P, w :: vs, 0, m, nd, h1, h2, hk => by
    simp at h1 h2; subst h1; subst h2
    show bindC kindOf ((p, w) :: P.zip vs) m p = _
    unfold bindC
    rw [bindC_out fun v hv => (List.nodup_cons.mp nd).1 (List.of_mem_zip hv).1, if_neg hk]
    simp
  | p :: P, w :: vs, i + 1, m, nd, h1, h2, hk => by
    show bindC kindOf ((p, w) :: P.zip vs) m x = _
    unfold bindC
    exact bindC_get (i := i) (List.nodup_cons.mp nd).2 (by simpa using h1) (by simpa using h2) hk

/-- the names' values at the entry -/
def start (N : List Str) (vs : List V) : St := vs.map some ++ List.replicate (N.length - vs.length) none

/-- the context of a def's body, at its entry; an exception leaves the frame, then lies as CX says -/
def cxOf (CX : CXT) (P : Program) (w : World) (K : PySem.W.Frag) (mg : Str → Option Value) (base : Heap) (N : List Str) (qual : Str) (scope : Scope) (f : Addr) (cd : Value) (A : Around) (outer : List Env) (s : Shared) (H : Hp) (E : XK) : Cx where
  prog := P
  w := w
  K := K
  mg := mg
  base := base
  A := A.deeper (envOfC qual scope s.heap.objs.size f cd)
  N := N
  s_0 := s
  H_0 := H
  env := envOfC qual scope s.heap.objs.size f cd
  outer := outer
  stack := envOfC qual scope s.heap.objs.size f cd :: outer
  ex := []
  calm := true
  fn := fun _ => true
  pn := []
  xe := fun e s' => wpAny (model P w) (A.deeper (envOfC qual scope s.heap.objs.size f cd)) (leaving (envOfC qual scope s.heap.objs.size f cd) e) (fun _ s'' => CX outer H s E e s'') (fun e' s'' => CX outer H s E e' s'') s'

theorem cell_has {sc : Scope} {n : Nat} {x : Str} (h : sc.names.lookup x = some .cell) : ∃ c, (cellsFrom n sc.names []).lookup x = some c := by
  have q := PySem.W.cellsFrom_some sc.names n [] (.inl h)
  exact Option.isSome_iff_exists.mp q

theorem inv_start {CX : CXT} {P : Program} {w : World} {K : PySem.W.Frag} {mg : Str → Option Value} {base : Heap} {N ps : List Str} {qual : Str} {scope : Scope} {f : Addr} {cd : Value} {A : Around} {outer : List Env} {s s1 : Shared} {H : Hp} {E : XK} {us : List Value} {vs : List V}
    (S : FnScope N ps scope) (hd : A.handled = none) (e0 : Env0 P w K mg base A outer s H) (hl : vs.length = ps.length) (r : Vals vs us)
    (x : InCallC s s.heap.objs.size (bindL (envOfC qual scope s.heap.objs.size f cd).kindOf (ps.zip us) fun _ => none) (cellsFrom (s.heap.objs.size + 1) scope.names []) (bindC (envOfC qual scope s.heap.objs.size f cd).kindOf (ps.zip us) fun _ => none) s1) :
    Inv (cxOf CX P w K mg base N qual scope f cd A outer s H E) [] (start N vs) H s1 := by
  have hpl : ps.length ≤ N.length := by have := congrArg List.length S.pre; rw [List.length_take] at this; omega
  obtain ⟨h1, tk, rfl, hk⟩ := x.done
  have noA : ∀ b : Addr, b ∉ (cxOf CX P w K mg base N qual scope f cd A outer s H E).ex := fun b z => absurd (show b ∈ ([] : List Addr) from z) (by simp)
  refine ⟨⟨e0.mod, S.kind, rfl, rfl, Nat.le_refl _, fun y z c h1 h2 => ?_, fun y hy => ?_, fun y c _ h => ?_, fun _ => hd, trivial, .inr ⟨rfl, rfl⟩, fun b z => absurd z (noA b), e0.bs, e0.bsz, fun b _ _ => noA b, fun b z => absurd z (noA b), e0.funs, e0.frf⟩,
    rfl, ⟨id, fun _ => ⟨rfl, rfl⟩⟩, Un.kept hk, ⟨_, x.toInCall.ns, fun i y v h1 h2 h3 => ?_⟩, fun y c h => ⟨_, x.cell y c h⟩, e0.hok.fresh (Nat.le_refl _), fun y c h => ?_, fun p hp => absurd (show p ∈ ([] : List (Addr × Obj)) from hp) (by simp), e0.hok.kept hk, ?_⟩
  · exact name_of_addr x.apart (PySem.mem_of_lookup h1) (PySem.mem_of_lookup h2)
  · have hy : scope.names.lookup y = some .cell ∨ scope.names.lookup y = some .free := hy
    rcases hy with hy | hy
    · exact cell_has hy
    · exact absurd rfl (S.nofree _ (PySem.mem_of_lookup hy))
  · exact Nat.le_of_lt (x.above y c (PySem.mem_of_lookup h))
  · have hi : i < vs.length := by
      unfold start at h2
      by_cases hi : i < vs.length
      · exact hi
      · rw [List.getElem?_append_right (by simpa using hi)] at h2
        rw [List.getElem?_replicate] at h2
        split at h2 <;> cases h2
    have ha : vs[i]? = some v := by
      unfold start at h2
      rw [List.getElem?_append_left (by simpa using hi), List.getElem?_map] at h2
      cases e : vs[i]? with
      | none => rw [e] at h2; cases h2
      | some a => rw [e] at h2; cases h2; rfl
    obtain ⟨u, hu, rv⟩ := r.get ha
    have hp : ps[i]? = some y := by
      rw [← S.pre, List.getElem?_take_of_lt (by omega)]; exact h1
    have ndP : ps.Nodup := by rw [← S.pre]; exact S.nd.sublist (List.take_sublist _ _)
    refine ⟨u, rv, ?_⟩
    rcases S.par y (List.mem_of_getElem? hp) with k | k
    · exact .inl ⟨k, bindL_get ndP hp hu k⟩
    · obtain ⟨c, e⟩ := cell_has (n := s.heap.objs.size + 1) k
      refine .inr ⟨.inl k, c, e, ?_⟩
      have q := x.cell y c e
      rw [bindC_get ndP hp hu (by show scope.names.lookup y ≠ _; rw [k]; decide)] at q
      exact q
  · exact e0.hok.fresh (Nat.le_of_lt (x.above y c (PySem.mem_of_lookup h)))
  · unfold start
    show _ = N.length
    rw [List.length_append, List.length_map, List.length_replicate]
    omega

/-- THE RULE: a def (or a method) of the text, by its body. The body's reading t is chosen for each entry; it is run at the parameters' values -/
theorem fn_of {CX : CXT} {P : Program} {w : World} {K : PySem.W.Frag} {mg : Str → Option Value} {base : Heap} {k : Nat} {f : Addr} {name qual : Str} {params : Arguments} {body : List Stmt} {scope : Scope} {dV kV doc pm cdv ct oc : Value} {an od : Option Addr}
    {osl : Array (Option Value)} {N ps : List Str} {sp : Sp} (lk : K.lookup f = some ⟨oc, od, .func (PySem.W.fnOf name qual params body scope dV kV doc pm an cdv ct), osl⟩) (hcd : PySem.W.codeIn K cdv qual = true) (S : FnScope N ps scope)
    (len : ∀ vs H Q E, sp vs H Q E → vs.length = ps.length)
    (hbody : ∀ (A : Around) (outer : List Env) (s : Shared) (H : Hp) (vs : List V) (Q : VK) (E : XK), Room k (A.deeper (envOfC qual scope s.heap.objs.size f cdv)) → sp vs H Q E →
      ∃ t, PSs (cxOf CX P w K mg base N qual scope f cdv A outer s H E) body t ∧ t { nx := fun _ H' => Q .non H', rt := Q } (start N vs) H) :
    FnOk P w K mg base CX (k + 1) f (PySem.W.fnOf name qual params body scope dV kV doc pm an cdv ct) ps sp := by
  refine ⟨len, fun A outer s H args us vs Q E hr e0 hb r hsp => ?_⟩
  have hl := len _ _ _ _ hsp
  have KX : K.In s.heap := e0.mod.kin.keeps fun b o e => (e0.bs b o e).1
  have lim : s.heap.NoLimit := e0.mod.nolimit.keeps fun b o e => (e0.bs b o e).1
  have hkind : ∀ y ∈ ps.zip us, scope.names.lookup y.1 = some .local ∨ (scope.names.lookup y.1 = some .cell ∧ ((cellsFrom (s.heap.objs.size + 1) scope.names []).lookup y.1).isSome = true) := fun ⟨n, v⟩ hy => by
    rcases S.par n (List.of_mem_zip hy).1 with q | q
    · exact .inl q
    · exact .inr ⟨q, PySem.W.cellsFrom_some _ _ _ (.inl q)⟩
  refine codeAny_call_function hr.depth (KX _ _ lk) rfl S.co S.gen rfl (PySem.W.codeRec_of KX hcd) (hb _ _ _ _ ?_)
  refine wpAny_newFunctionEnv_cells S.kind hkind fun env he s1 x => ?_
  subst he
  refine ⟨lim.keeps x.toInCall.keep, codeAny_func ?_⟩
  obtain ⟨t, ht, hq⟩ := hbody A outer s H vs Q E (hr.deeper _) hsp
  have I : Inv (cxOf CX P w K mg base N qual scope f cdv A outer s H E) [] (start N vs) H s1 := inv_start S hr.hd e0 hl r x
  refine wpAny_mono (ht [] s1 (start N vs) H _ I hq) (fun fl s' hs => ?_) fun e s' hs => hs
  have fin : ∀ {σ' : St} {H' : Hp} {v : V} {u : Value}, Inv (cxOf CX P w K mg base N qual scope f cdv A outer s H E) [] σ' H' s' → RelV v u → Q v H' → CE outer P w H s Q u s' :=
    fun {σ' H' v u} J rv q => ⟨v, H', J.os, J.bare.1, J.base, J.hok, rv, q⟩
  cases fl with
  | ret u =>
    obtain ⟨v, σ', H', J, rv, q⟩ := hs
    exact fin J rv q
  | next =>
    obtain ⟨σ', H', J, q⟩ := hs
    exact fin (v := V.non) (u := Value.none) J rfl q
  | brk =>
    obtain ⟨_, _, _, q⟩ := hs
    exact False.elim q
  | cont =>
    obtain ⟨_, _, _, q⟩ := hs
    exact False.elim q
end L2

namespace L2
open PySem PySem.Spec PyProof.Rows
section
variable {X : Cx} {x : Str} {p pos : Pos} {e : Expr} {es : List Expr} {t : TA} {id T : String} {r : List V → Hp → VK → Prop}

def tCB (r : List V → Hp → VK → Prop) (t : TA) : TE := fun σ H Q => t σ H fun vs H1 => r vs H1 Q
/-- f(e, ..), f a built-in function -/
theorem pe_callB (hc : CallR X (.builtin id) r) (hg : Gl X x) (hm : X.mg x = none) (hv : bootBuiltins x = some (.builtin id)) (ha : PA X (e :: es) t) (hn : x ≠ "__name__" := by decide) (hdb : (x == ("__debug__" : Str)) = false := by decide)
    (he : starEach (e :: es) X.env = (false, eval e X.env) :: starEach es X.env := by rfl) (hpl : (backTo pos (starEach es X.env)).any (·.1) = false := by rfl) : PE X (.Call (.Name x p) (e :: es) [] pos) (tCB r t) := by
  intro pins s σ H Q I h
  refine wpAny_Call_Name_kw (ld_blt I hg hm hv ?_ hn hdb)
  exact PyProof.Rows.callWith_builtin1 (thn (ha pos pins s σ H _ I h) fun us s1 ⟨vs, H1, I1, r1, q1⟩ => hc pins s1 σ H1 vs us Q I1 r1 q1) he hpl
/-- T(e, ..), T a built-in type -/
theorem pe_callTy (hc : CallR X (.type T) r) (hg : Gl X x) (hm : X.mg x = none) (hv : bootBuiltins x = some (.type T)) (ha : PA X (e :: es) t) (hn : x ≠ "__name__" := by decide) (hdb : (x == ("__debug__" : Str)) = false := by decide)
    (he : starEach (e :: es) X.env = (false, eval e X.env) :: starEach es X.env := by rfl) (hpl : (backTo pos (starEach es X.env)).any (·.1) = false := by rfl) : PE X (.Call (.Name x p) (e :: es) [] pos) (tCB r t) := by
  intro pins s σ H Q I h
  refine wpAny_Call_Name_kw (ld_blt I hg hm hv ?_ hn hdb)
  exact PyProof.Rows.callWith_type1 (thn (ha pos pins s σ H _ I h) fun us s1 ⟨vs, H1, I1, r1, q1⟩ => hc pins s1 σ H1 vs us Q I1 r1 q1) he hpl
end
end L2

namespace HT
open PySem PyProof.Rows

/-- t < u of tuples of ints -/
def lexLt : List Int → List Int → Bool
  | [], [] => false
  | [], _ :: _ => true
  | _ :: _, [] => false
  | x :: xs, y :: ys => if x = y then lexLt xs ys else decide (x < y)
theorem lexLt_cons (x y : Int) (xs ys : List Int) : lexLt (x :: xs) (y :: ys) = if x = y then lexLt xs ys else decide (x < y) := rfl
section
open PySem.SeqAt
open PySem.AutoSeq1 (wpAny_loadPart')
open PySem.MeetsSeq PySem.MeetsSeq2 PySem.MeetsSeq3

end

section
variable {prog : Program} {w : World} {A : Around} {E : Value → Shared → Prop} {s : Shared}

/-! ### t[a:b], not the whole -/
/-- a slice's bound as a place among n (d where it is left out) -/
def sIx (n d : Nat) : Option Int → Nat
  | none => d
  | some v => if v < 0 then (v + (n : Int)).toNat else min v.toNat n
theorem sIx_none (n d : Nat) : sIx n d none = d := rfl
theorem sIx_nat (n d k : Nat) : sIx n d (some (k : Int)) = min k n := by
  show (if (k : Int) < 0 then ((k : Int) + (n : Int)).toNat else min (k : Int).toNat n) = min k n
  rw [if_neg (by omega), Int.toNat_natCast]
end
end HT

namespace L2
open PySem PySem.Spec PyProof.Rows

/-! ### the parts of a slice -/
abbrev TO := St → Hp → (Option Int → Hp → Prop) → Prop
/-- a slice's part (left out, or an int) -/
def PO (X : Cx) (e : Option Expr) (t : TO) : Prop :=
  ∀ (pins : List (Addr × Obj)) (s : Shared) (σ : St) (H : Hp) (Q : Option Int → Hp → Prop), Inv X pins σ H s → t σ H Q →
    wpAny (model X.prog X.w) X.A (evalPart e X.env) (fun u s' => ∃ o H', Inv X pins σ H' s' ∧ IsPart u o ∧ Q o H') X.xe s
def tNoPart : TO := fun _ H Q => Q none H
def tPart (t : TE) : TO := fun σ H Q => t σ H fun x H1 => ∃ i, x = .int i ∧ Q (some i) H1

section
variable {X : Cx} {e : Expr} {te : TE} {lo hi : Option Expr} {tl th : TO} {pos p2 : Pos}

theorem po_none : PO X none tNoPart := by
  intro pins s σ H Q I h
  rw [evalPart_none]
  exact wpAny_pure ⟨none, H, I, .none, h⟩
theorem po_some (h : PE X e te) : PO X (some e) (tPart te) := by
  intro pins s σ H Q I hw
  rw [evalPart_some]
  refine thn (h pins s σ H _ I hw) fun u s1 ⟨x, H1, I1, r1, q1⟩ => ?_
  obtain ⟨i, rfl, q⟩ := q1
  obtain ⟨t, rfl⟩ := r1
  exact ⟨some i, H1, I1, .int i t, q⟩

/-- what a slice of a value is, by values: the slice object stands at sl -/
def SlR (X : Cx) (r : V → Option Int → Option Int → Hp → VK → Prop) : Prop :=
  ∀ (pins : List (Addr × Obj)) (s : Shared) (σ : St) (H : Hp) (x : V) (v vl vu : Value) (lo hi : Option Int) (sl : Addr) (Q : VK), Inv X pins σ H s → RelV x v → s.heap.IsSliceOf sl vl vu .none → IsPart vl lo → IsPart vu hi → r x lo hi H Q →
    ∃ T id, typeLookup (.type T) "__getitem__" = pure (some (.builtin id)) ∧ s.TypeIs v T ∧ wpAny (model X.prog X.w) X.A (getItem v (.ref sl)) (EP X pins σ Q) X.xe s
theorem SlR.or {r r' : V → Option Int → Option Int → Hp → VK → Prop} (h : SlR X r) (h' : SlR X r') : SlR X (fun x lo hi H Q => r x lo hi H Q ∨ r' x lo hi H Q) := by
  intro pins s σ H x v vl vu lo hi sl Q I rx hs pl pu q
  rcases q with q | q
  · exact h pins s σ H x v vl vu lo hi sl Q I rx hs pl pu q
  · exact h' pins s σ H x v vl vu lo hi sl Q I rx hs pl pu q
def tSl (r : V → Option Int → Option Int → Hp → VK → Prop) (te : TE) (tl th : TO) : TE := fun σ H Q => te σ H fun x H1 => tl σ H1 fun l H2 => th σ H2 fun u H3 => r x l u H3 Q
/-- a[lo:hi], any a -/
theorem pe_slice {r : V → Option Int → Option Int → Hp → VK → Prop} (hr : SlR X r) (he : PE X e te) (hl : PO X lo tl) (hu : PO X hi th) : PE X (.Subscript e (.Slice lo hi none p2) pos) (tSl r te tl th) := by
  intro pins s σ H Q I h
  refine Subscript_ (thn (he pins s σ H _ I h) fun v s1 ⟨x, H1, I1, r1, q1⟩ => ?_)
  refine wpAny_Slice (thn (hl pins s1 σ H1 _ I1 q1) fun vl s2 ⟨l, H2, I2, pl, q2⟩ => thn (hu pins s2 σ H2 _ I2 q2) fun vu s3 ⟨u, H3, I3, pu, q3⟩ => ?_)
  rw [evalPart_none]
  refine wpAny_pure ?_
  have I4 : Inv X pins σ H3 { s3 with heap := s3.heap.push { cls := .type "slice", data := .fields #[vl, vu, .none] } } := I3.kept (t' := s3.toks) fun b ob q => Heap.get?_push_of_some _ q
  obtain ⟨T, id, hT, ht, hg⟩ := hr pins { s3 with heap := s3.heap.push { cls := .type "slice", data := .fields #[vl, vu, .none] } } σ H3 x v vl vu l u s3.heap.objs.size Q I4 r1 (Heap.IsSliceOf.new ..) pl pu q3
  show wpAny (model X.prog X.w) X.A (subscriptTail e (.Slice lo hi none p2) v (.ref s3.heap.objs.size)) (EP X pins σ Q) X.xe { s3 with heap := s3.heap.push { cls := .type "slice", data := .fields #[vl, vu, .none] } }
  exact tail_any (ops := [.ref s3.heap.objs.size, v]) ht hT hg (by with_unfolding_all rfl)

/-- the items of xs[lo:hi] -/
def cutV (xs : List V) (lo hi : Option Int) : List V := (xs.drop (HT.sIx xs.length 0 lo)).take (HT.sIx xs.length xs.length hi - HT.sIx xs.length 0 lo)
theorem cutV_length (xs : List V) (lo hi : Option Int) : (cutV xs lo hi).length ≤ xs.length := by
  unfold cutV
  rw [List.length_take, List.length_drop]
  omega
end
end L2

namespace L2
open PySem PySem.Spec PyProof.Rows

/-! ### places -/
/-- the place that an index of any sign means -/
def ixN (n : Nat) (i : Int) : Option Nat := if 0 ≤ i then (if i < n then some i.toNat else none) else if -(n : Int) ≤ i then some (i + n).toNat else none
def atI {α : Type} (xs : List α) (i : Int) : Option α := (ixN xs.length i).bind fun j => xs[j]?
theorem ixN_seq {n : Nat} {i : Int} {j : Nat} (h : ixN n i = some j) : seqIndex? i n = some j ∧ j < n ∧ -(n : Int) ≤ i ∧ i < n := by
  unfold ixN at h
  by_cases h0 : 0 ≤ i
  · rw [if_pos h0] at h
    by_cases h1 : i < n
    · rw [if_pos h1] at h
      have e : i.toNat = j := Option.some.inj h
      exact ⟨by rw [seqIndex_of h0 h1, e], by omega, by omega, h1⟩
    · rw [if_neg h1] at h; cases h
  · rw [if_neg h0] at h
    by_cases h1 : -(n : Int) ≤ i
    · rw [if_pos h1] at h
      have e : (i + n).toNat = j := Option.some.inj h
      exact ⟨by rw [seqIndex_neg (by omega) h1, e], by omega, h1, by omega⟩
    · rw [if_neg h1] at h; cases h
theorem atI_get {α : Type} {xs : List α} {i : Int} {v : α} (h : atI xs i = some v) : ∃ j, seqIndex? i xs.length = some j ∧ xs[j]? = some v ∧ j < xs.length ∧ -(xs.length : Int) ≤ i ∧ i < xs.length := by
  unfold atI at h
  cases e : ixN xs.length i with
  | none => rw [e] at h; cases h
  | some j =>
    rw [e] at h
    obtain ⟨h1, h2, h3, h4⟩ := ixN_seq e
    exact ⟨j, h1, h, h2, h3, h4⟩
theorem atI_nat {α : Type} {xs : List α} {j : Nat} {v : α} (h : xs[j]? = some v) : atI xs (j : Int) = some v := by
  have hj : j < xs.length := (List.getElem?_eq_some_iff.mp h).1
  have e : ixN xs.length (j : Int) = some j := by
    unfold ixN
    rw [if_pos (by omega), if_pos (by omega)]; simp
  unfold atI; rw [e]; exact h
theorem atI_last {α : Type} (xs : List α) (v : α) : atI (xs ++ [v]) (-1) = some v := by
  have hl : (xs ++ [v]).length = xs.length + 1 := by simp
  have e : ixN (xs ++ [v]).length (-1) = some xs.length := by
    unfold ixN
    rw [hl, if_neg (by decide), if_pos (by omega)]
    congr 1
    omega
  unfold atI
  rw [e]
  show (xs ++ [v])[xs.length]? = some v
  simp

/-! ### what may be subscripted -/
/-- what stands as an index of a plain subscript -/
def PlainIx (b : Expr) : Prop := ∀ o i, subscripted b false o i = operate [o, i] (getItem o i)
/-- a subscript by values -/
def IxR (X : Cx) (r : R2) : Prop :=
  ∀ (value slice : Expr) (pins : List (Addr × Obj)) (s : Shared) (σ : St) (H : Hp) (x y : V) (v u : Value) (Q : VK), Inv X pins σ H s → RelV x v → RelV y u → r x y H Q →
    subscripted slice false v u = operate [v, u] (getItem v u) → wpAny (model X.prog X.w) X.A (subscriptTail value slice v u) (EP X pins σ Q) X.xe s
/-- a call of a builtin's method by values: the receiver, the arguments -/
def MtR (X : Cx) (id : String) (r : V → List V → Hp → VK → Prop) : Prop :=
  ∀ (pins : List (Addr × Obj)) (s : Shared) (σ : St) (H : Hp) (x : V) (xs : List V) (v : Value) (us : List Value) (Q : VK), Inv X pins σ H s → RelV x v → Vals xs us → r x xs H Q →
    wpAny (model X.prog X.w) X.A (call (.builtin id) (v :: us)) (EP X pins σ Q) X.xe s
section
variable {X : Cx} {a b : Expr} {ta tb : TE} {pos : Pos}
theorem IxR.or {r r' : R2} (h : IxR X r) (h' : IxR X r') : IxR X (fun x y H Q => r x y H Q ∨ r' x y H Q) := by
  intro value slice pins s σ H x y v u Q I rx ry q hs
  rcases q with q | q
  · exact h value slice pins s σ H x y v u Q I rx ry q hs
  · exact h' value slice pins s σ H x y v u Q I rx ry q hs
theorem MtR.or {id : String} {r r' : V → List V → Hp → VK → Prop} (h : MtR X id r) (h' : MtR X id r') : MtR X id (fun x xs H Q => r x xs H Q ∨ r' x xs H Q) := by
  intro pins s σ H x xs v us Q I rx rs q
  rcases q with q | q
  · exact h pins s σ H x xs v us Q I rx rs q
  · exact h' pins s σ H x xs v us Q I rx rs q
/-- a[b] -/
theorem pe_ix {r : R2} (hr : IxR X r) (ha : PE X a ta) (hb : PE X b tb) (hs : PlainIx b) : PE X (.Subscript a b pos) (tOp r ta tb) := by
  intro pins s σ H Q I h
  exact Subscript_ (binT ha hb I h fun v u s2 x y H2 I2 rx ry q => hr a b pins s2 σ H2 x y v u Q I2 rx ry q (hs _ _))

def rIxL (K : PySem.W.Frag) : R2 := fun x y H Q => ∃ p xs i v, x = .ref p ∧ y = .int i ∧ SqL K H p xs ∧ atI xs i = some v ∧ Q v H
def rIxT (K : PySem.W.Frag) : R2 := fun x y H Q => ∃ p xs i v, x = .ref p ∧ y = .int i ∧ SqT K H p xs ∧ atI xs i = some v ∧ Q v H
def rIxS : R2 := fun x y H Q => ∃ z i c, x = .str z ∧ y = .int i ∧ z.length ≤ sizeLine ∧ atI z.cps.toList i = some c ∧ Q (.str ⟨#[c]⟩) H
theorem ix_list : IxR X (rIxL X.K) := by
  intro value slice pins s σ H x y v u Q I rx ry h hs
  obtain ⟨p, xs, i, z, rfl, rfl, hq, he, q⟩ := h
  cases rx
  obtain ⟨t, rfl⟩ := ry
  obtain ⟨its, r, pl, hz⟩ := I.list hq
  obtain ⟨j, h1, h2, h3, h4, h5⟩ := atI_get he
  obtain ⟨w, ew, rw'⟩ := r.get h2
  have hl := r.length
  have hn := line63
  have fin : EP X pins σ Q w s := ⟨z, H, I, rw', q⟩
  by_cases h0 : 0 ≤ i
  · have hj : i.toNat = j := by
      rw [seqIndex_of h0 h5] at h1
      exact Option.some.inj h1
    exact item_listR pl.isList h0 (by omega) (by rw [hj]; simpa using ew) fin hs
  · have hj : (i + (its.toArray.size : Int)).toNat = j := by
      rw [seqIndex_neg (by omega) h4] at h1
      rw [List.size_toArray, ← hl]
      exact Option.some.inj h1
    exact subscriptTail_builtinR (x := w) pl.isList.typeIs slot_list_getitem.lookup
      (wpAny_getItem_list_neg (Q := fun r s' => r = w ∧ EP X pins σ Q r s') pl.isList (by omega) (by rw [List.size_toArray] <;> omega) (by omega) (by rw [hj]; simpa using ew) ⟨rfl, fin⟩) hs
theorem ix_tup : IxR X (rIxT X.K) := by
  intro value slice pins s σ H x y v u Q I rx ry h hs
  obtain ⟨p, xs, i, z, rfl, rfl, hq, he, q⟩ := h
  cases rx
  obtain ⟨t, rfl⟩ := ry
  obtain ⟨its, r, pl, hz⟩ := I.tuple hq
  obtain ⟨j, h1, h2, h3, h4, h5⟩ := atI_get he
  obtain ⟨w, ew, rw'⟩ := r.get h2
  have hl := r.length
  have hn := line63
  have fin : EP X pins σ Q w s := ⟨z, H, I, rw', q⟩
  exact subscriptTail_builtinR (x := w) pl.typeIs slot_tuple_getitem.lookup
    (getItem_tuple (j := j) (Q := fun r s' => r = w ∧ EP X pins σ Q r s') pl (by omega) (by omega) (by rw [List.size_toArray, ← hl]; exact h1) (by simpa using ew) ⟨rfl, fin⟩) hs
theorem ix_str : IxR X rIxS := by
  intro value slice pins s σ H x y v u Q I rx ry h hs
  obtain ⟨z, i, c, rfl, rfl, hz, he, q⟩ := h
  obtain ⟨t, rfl⟩ := rx
  obtain ⟨t', rfl⟩ := ry
  obtain ⟨j, h1, h2, h3, h4, h5⟩ := atI_get he
  have hl : z.cps.toList.length = z.length := by simp [Str.length]
  rw [hl] at h1 h4 h5
  have hn := line63
  exact tail_any (typeIs_str s z t) slot_str_getitem.lookup (getItem_str (c := c) (by
    have e1 : decide (i < -(2 ^ 63 : Int)) = false := decide_eq_false (by omega)
    have e2 : decide (i ≥ 2 ^ 63) = false := decide_eq_false (by omega)
    rw [e1, e2, Bool.or_false]) (by rw [h1]; simpa using h2) ⟨.str ⟨#[c]⟩, H, I.tok _, ⟨_, rfl⟩, q⟩) hs
/-- list, tuple or str -/
def rIx (K : PySem.W.Frag) : R2 := fun x y H Q => rIxL K x y H Q ∨ rIxT K x y H Q ∨ rIxS x y H Q
theorem ix_seq : IxR X (rIx X.K) := ix_list.or (ix_tup.or ix_str)

/-! ### xs[i] = v, any sign -/
/-- the list's object behind a store -/
theorem mapSeq_set (its : List Value) (n j : Nat) (u : Value) : Obj.mapSeq (·.setIfInBounds j u) { cls := .type "list", data := .seq its.toArray n } = { cls := .type "list", data := .seq (its.set j u).toArray n } := by
  simp [Obj.mapSeq]
theorem Inv.lst {pins : List (Addr × Obj)} {σ : St} {H : Hp} {s : Shared} {p : Addr} {xs : List V} (I : Inv X pins σ H s) (h : H p = some (.lst xs)) :
    ∃ (its : List Value) (n : Nat), Vals xs its ∧ s.heap.get? p = some { cls := .type "list", data := .seq its.toArray n } ∧ xs.length ≤ sizeLine := by
  obtain ⟨z, its, n, r, e⟩ := I.hok p _ h
  exact ⟨its, n, r, e, z⟩
/-- the list at p is written by an update of its object -/
theorem Inv.lstUpd {pins : List (Addr × Obj)} {σ : St} {H : Hp} {s : Shared} {p : Addr} {xs ys : List V} {its its' : List Value} {n n' : Nat} {f : Obj → Obj} (I : Inv X pins σ H s) (h : H p = some (.lst xs))
    (ho : s.heap.get? p = some { cls := .type "list", data := .seq its.toArray n }) (hf : f { cls := .type "list", data := .seq its.toArray n } = { cls := .type "list", data := .seq its'.toArray n' }) (r : Vals ys its') (hz : ys.length ≤ sizeLine) (t : Nat) :
    Inv X pins σ (upd H p (.lst ys)) { s with heap := s.heap.update p f, toks := t } := by
  have e : (s.heap.update p f).get? p = some { cls := .type "list", data := .seq its'.toArray n' } := by
    rw [Heap.get?_update_self f ho (by rw [hf] <;> rfl), hf]
  refine I.write (x := p) (e := p) (by rw [h]; trivial) (.inl rfl) (fun b u hb q => (Heap.get?_update_other _ _ (Ne.symm hb)).trans q) ⟨_, e⟩ ?_
  exact ⟨hz, its', n', r, e⟩
def rSetL : V → V → V → Hp → (Hp → Prop) → Prop := fun o i v H Q => ∃ p xs k j, o = .ref p ∧ i = .int k ∧ H p = some (.lst xs) ∧ ixN xs.length k = some j ∧ Q (upd H p (.lst (xs.set j v)))
theorem set_list : PSet X rSetL := by
  intro pins s σ H o i v ov iv u Q I ro ri rv h
  obtain ⟨p, xs, k, j, rfl, rfl, hp, hj, q⟩ := h
  cases ro
  obtain ⟨t, rfl⟩ := ri
  obtain ⟨its, n, r, ho, hz⟩ := I.lst hp
  obtain ⟨h1, h2, h3, h4⟩ := ixN_seq hj
  have hl := r.length
  have hn := line63
  have I' : Inv X pins σ (upd H p (.lst (xs.set j v))) { s with heap := s.heap.update p (Obj.mapSeq (·.setIfInBounds j u)) } :=
    I.lstUpd hp ho (mapSeq_set its n j u) (r.set rv j) (by rw [List.length_set]; exact hz) s.toks
  by_cases h0 : 0 ≤ k
  · have hk : k.toNat = j := by
      rw [seqIndex_of h0 h4] at h1
      exact Option.some.inj h1
    exact PySem.W.ki_setAt ho h0 (by omega) (by rw [List.size_toArray, ← hl]; exact h4) (by rw [hk]; exact ⟨_, I', q⟩)
  · have hk : (k + (its.toArray.size : Int)).toNat = j := by
      rw [seqIndex_neg (by omega) h3] at h1
      rw [List.size_toArray, ← hl]
      exact Option.some.inj h1
    exact PySem.W.ki_setBack ho (by omega) (by rw [List.size_toArray, ← hl]; exact h3) (by omega) (by rw [hk]; exact ⟨_, I', q⟩)

/-! ### slices -/
theorem slice_bounds (lo hi : Option Int) (n : Nat) : (sliceBounds lo hi none n).1 = ((HT.sIx n 0 lo : Nat) : Int) ∧ (sliceBounds lo hi none n).2.1 = ((HT.sIx n n hi : Nat) : Int) ∧ (sliceBounds lo hi none n).2.2 = 1 := by
  refine ⟨?_, ?_, rfl⟩
  · cases lo with
    | none => simp [sliceBounds, HT.sIx]
    | some i =>
      simp only [sliceBounds, HT.sIx, Option.getD_none, show (1 : Int) > 0 by decide, if_true]
      by_cases h : i < 0
      · simp only [h, if_true] <;> omega
      · simp only [h, if_false] <;> omega
  · cases hi with
    | none => simp [sliceBounds, HT.sIx]
    | some i =>
      simp only [sliceBounds, HT.sIx, Option.getD_none, show (1 : Int) > 0 by decide, if_true]
      by_cases h : i < 0
      · simp only [h, if_true] <;> omega
      · simp only [h, if_false] <;> omega
theorem slicePick_cut (its : List Value) (lo hi : Option Int) : slicePick its.toArray lo hi none = ((its.drop (HT.sIx its.length 0 lo)).take (HT.sIx its.length its.length hi - HT.sIx its.length 0 lo)).toArray := by
  obtain ⟨h1, h2, h3⟩ := slice_bounds lo hi its.toArray.size
  unfold slicePick
  rw [h1, h2, h3]
  simp only [sliceRange_one, pick_run, List.size_toArray] <;> rfl
/-- xs[lo:hi] of a list: a new list -/
def rSlL (K : PySem.W.Frag) : V → Option Int → Option Int → Hp → VK → Prop := fun x lo hi H Q => ∃ a xs, x = .ref a ∧ SqL K H a xs ∧ ∀ p, H p = none → Q (.ref p) (upd H p (.lst (cutV xs lo hi)))
theorem sl_list : SlR X (rSlL X.K) := by
  intro pins s σ H x v vl vu lo hi sl Q I rx hs pl pu h
  obtain ⟨a, xs, rfl, hx, q⟩ := h
  cases rx
  obtain ⟨its, r, ht, hz⟩ := I.list hx
  have hlen := r.length
  refine ⟨"list", _, slot_list_getitem.lookup, ht.isList.typeIs, ?_⟩
  refine wpAny_getItem_list_slice ht.isList hs pl pu .none (by simp) ?_ (by rw [List.size_toArray] <;> omega)
  rw [slicePick_cut, ← hlen]
  refine ⟨.ref s.heap.objs.size, _, I.laid (t' := s.toks) (o := .lst (cutV xs lo hi)) (fun b ob q => Heap.get?_push_of_some _ q) (Nat.le_refl _) ?_, rfl, q _ (I.hok.fresh (Nat.le_refl _))⟩
  exact ⟨Nat.le_trans (cutV_length xs lo hi) hz, _, 0, (r.drop (HT.sIx xs.length 0 lo)).take (HT.sIx xs.length xs.length hi - HT.sIx xs.length 0 lo), Heap.get?_push_size _ rfl⟩

/-! ### len, list(x), tuple(x) of any list or tuple that is read -/
theorem call_len_seq : CallR X (.builtin "len") (fun xs H Q => ∃ p ys, xs = [.ref p] ∧ (SqL X.K H p ys ∨ SqT X.K H p ys) ∧ Q (.int ys.length) H) := by
  intro pins s σ H xs us Q I r h
  obtain ⟨p, ys, rfl, hq, q⟩ := h
  obtain ⟨u, rfl, rx⟩ := vals1 r
  cases rx
  have hn := line63
  rcases hq with hq | hq
  · obtain ⟨its, r', pl, hz⟩ := I.list hq
    have hlen := r'.length
    exact Calls.call_len_list pl.isList (by simp only [List.size_toArray] <;> omega) ⟨.int ys.length, H, I.tok _, ⟨s.toks + 1, by rw [List.size_toArray, hlen]⟩, q⟩
  · obtain ⟨its, r', pl, hz⟩ := I.tuple hq
    have hlen := r'.length
    exact len_tuple pl (by simp only [List.size_toArray] <;> omega) ⟨.int ys.length, H, I.tok _, ⟨s.toks + 1, by rw [List.size_toArray, hlen]⟩, q⟩
theorem CallR.or {f : Value} {r r' : List V → Hp → VK → Prop} (h : CallR X f r) (h' : CallR X f r') : CallR X f (fun xs H Q => r xs H Q ∨ r' xs H Q) := by
  intro pins s σ H xs us Q I rs q
  rcases q with q | q
  · exact h pins s σ H xs us Q I rs q
  · exact h' pins s σ H xs us Q I rs q
/-! ### the call of a builtin's method: o.m(..) -/
/-- the value is of that builtin type -/
def tyV (K : PySem.W.Frag) (T : String) (x : V) (H : Hp) : Prop := match x with
  | .str _ => T = "str"
  | .int _ => T = "int"
  | .ref p => (T = "list" ∧ ∃ xs, SqL K H p xs) ∨ (T = "tuple" ∧ ∃ o, K.lookup p = some o ∧ o.cls = .type "tuple" ∧ o.dict = none) ∨
      (T = "dict" ∧ ((∃ kvs, H p = some (.dK kvs)) ∨ ∃ kvs, H p = some (.dT kvs))) ∨ (T = "set" ∧ ∃ S n, H p = some (.set S n))
  | _ => False
theorem tyV_is {pins : List (Addr × Obj)} {σ : St} {H : Hp} {s : Shared} {T : String} {x : V} {v : Value} (I : Inv X pins σ H s) (r : RelV x v) (ty : tyV X.K T x H) :
    s.TypeIs v T ∧ ∀ a, v = .ref a → ∃ ob, s.heap.get? a = some ob ∧ ob.dict = none := by
  cases x with
  | str z =>
    obtain ⟨t, rfl⟩ := r
    cases (show T = "str" from ty)
    exact ⟨typeIs_str s z t, fun _ e => nomatch e⟩
  | int i =>
    obtain ⟨t, rfl⟩ := r
    cases (show T = "int" from ty)
    exact ⟨typeIs_int s i t, fun _ e => nomatch e⟩
  | ref p =>
    cases r
    rcases ty with ⟨rfl, xs, hq⟩ | ⟨rfl, o, hk, hc, hd⟩ | ⟨rfl, hk⟩ | ⟨rfl, S, n, hk⟩
    · obtain ⟨its, _, pl, _⟩ := I.list hq
      refine ⟨pl.isList.typeIs, fun a e => ?_⟩
      cases e
      obtain ⟨o, n, e, c, hd, _⟩ := pl
      exact ⟨o, e, hd⟩
    · refine ⟨⟨o, I.kIn p o hk, hc⟩, fun a e => ?_⟩
      cases e
      exact ⟨o, I.kIn _ o hk, hd⟩
    · have z : ∃ o, s.heap.get? p = some o ∧ o.ExactDict := by
        rcases hk with ⟨kvs, hk⟩ | ⟨kvs, hk⟩
        · obtain ⟨_, _, _, _, o, _, _, e, ex, _⟩ := I.hok p _ hk
          exact ⟨o, e, ex⟩
        · obtain ⟨_, _, _, _, o, _, _, e, ex, _⟩ := I.hok p _ hk
          exact ⟨o, e, ex⟩
      obtain ⟨o, e, ex⟩ := z
      refine ⟨⟨o, e, ex.1⟩, fun a e2 => ?_⟩
      cases e2
      exact ⟨o, e, ex.2.1⟩
    · obtain ⟨o, _, _, _, e, ex, _⟩ := I.hok p _ hk
      refine ⟨⟨o, e, ex.1⟩, fun a e2 => ?_⟩
      cases e2
      exact ⟨o, e, ex.2.1⟩
  | _ => exact False.elim ty
def tBM0 (K : PySem.W.Frag) (T : String) (r : V → List V → Hp → VK → Prop) (to : TE) : TE := fun σ H Q => to σ H fun x H1 => tyV K T x H1 ∧ r x [] H1 Q
def tBM (K : PySem.W.Frag) (T : String) (r : V → List V → Hp → VK → Prop) (to : TE) (t : TA) : TE := fun σ H Q => to σ H fun x H1 => tyV K T x H1 ∧ t σ H1 fun xs H2 => r x xs H2 Q
variable {o e : Expr} {es : List Expr} {to : TE} {t : TA} {name : Str} {apos cpos : Pos} {T id : String} {r : V → List V → Hp → VK → Prop}
theorem pe_bm0 (pa : PlainAttrs T) (slot : Slot T name id) (hty : typeOf (.builtin id) = pure (.type "method_descriptor")) (hm : MtR X id r) (ho : PE X o to)
    (hbase : attributeBase o name X.env (eval o X.env) = eval o X.env := by rfl) (hline : (apos.endLine == cpos.line) = true := by rfl) : PE X (.Call (.Attribute o name apos) [] [] cpos) (tBM0 X.K T r to) := by
  intro pins s σ H Q I h
  refine wpAny_Call_method0_late hbase hline (thn (ho pins s σ H _ I h) fun v s1 ⟨x, H1, I1, r1, ty, q1⟩ => ?_)
  obtain ⟨h1, h2⟩ := tyV_is I1 r1 ty
  exact ⟨T, id, pa, slot, hty, h1, h2, Calls.callWith_builtin rfl (PySem.evalArgs_none (hm pins s1 σ H1 x [] v [] Q I1 r1 .nil q1))⟩
theorem pe_bm (pa : PlainAttrs T) (slot : Slot T name id) (hty : typeOf (.builtin id) = pure (.type "method_descriptor")) (hm : MtR X id r) (ho : PE X o to) (ha : PA X (e :: es) t)
    (hbase : attributeBase o name X.env (eval o X.env) = eval o X.env := by rfl)
    (hfew : ((backTo cpos (starEach (e :: es) X.env)).all (fun x => !x.1) && (backToKw cpos (keywordEach [] X.env)).all (fun x => x.1.isSome)
      && decide ((e :: es).length + ([] : List Keyword).length + (if ([] : List Keyword).isEmpty then 0 else 1) < 30)) = true := by rfl)
    (hline : (apos.endLine == cpos.line) = true := by rfl) (hs : starEach (e :: es) X.env = (false, eval e X.env) :: starEach es X.env := by rfl) (hplain : (backTo cpos (starEach es X.env)).any (·.1) = false := by rfl) :
    PE X (.Call (.Attribute o name apos) (e :: es) [] cpos) (tBM X.K T r to t) := by
  intro pins s σ H Q I h
  refine wpAny_Call_method_late hbase hfew hline rfl (thn (ho pins s σ H _ I h) fun v s1 ⟨x, H1, I1, r1, ty, q1⟩ => ?_)
  obtain ⟨h1, h2⟩ := tyV_is I1 r1 ty
  refine ⟨T, id, pa, slot, hty, h1, h2, ?_⟩
  have hA := ha cpos pins s1 σ H1 _ I1 q1
  rw [hs] at hA ⊢
  refine Calls.callWith_builtin (by show (false || (backTo cpos (starEach es X.env)).any (·.1)) = false; rw [hplain] <;> rfl) (Calls.evalArgs_plain ?_)
  exact thn hA fun us s2 ⟨vs, H2, I2, r2, q2⟩ => hm pins s2 σ H2 x vs v us Q I2 r1 r2 q2
/- xs.append(e), list.index on a module's tuple .. are MtR facts of 06m -/
end
end L2

namespace L2
open PySem PySem.Spec PyProof.Rows

def MtM (X : Cx) (id : String) (r : V → List V → Hp → VK → Prop) : Prop :=
  ∀ (pins : List (Addr × Obj)) (s : Shared) (σ : St) (H : Hp) (x : V) (xs : List V) (v : Value) (us : List Value) (Q : VK), Inv X pins σ H s → RelV x v → Vals xs us → r x xs H Q →
    wpAny (model X.prog X.w) X.A (call (.builtin id) (v :: us)) (EP X pins σ Q) X.xe s

/-! ### lists of values -/
theorem Vals.one : ∀ {x : V} {us : List Value}, Vals [x] us → ∃ u, us = [u] ∧ RelV x u
  | _, _, .cons r .nil => ⟨_, rfl, r⟩
theorem Vals.two : ∀ {x y : V} {us : List Value}, Vals [x, y] us → ∃ u v, us = [u, v] ∧ RelV x u ∧ RelV y v
  | _, _, _, .cons r (.cons q .nil) => ⟨_, _, rfl, r, q⟩
theorem Vals.zero : ∀ {us : List Value}, Vals [] us → us = []
  | _, .nil => rfl
theorem Vals.dropLast {xs : List V} {us : List Value} (h : Vals xs us) : Vals xs.dropLast us.dropLast := by
  induction h with
  | nil => exact .nil
  | cons r t ih =>
    cases t with
    | nil => exact .nil
    | cons q t' => exact .cons r ih
theorem Vals.eraseIdx : ∀ {xs : List V} {us : List Value} (i : Nat), Vals xs us → Vals (xs.eraseIdx i) (us.eraseIdx i)
  | _, _, _, .nil => .nil
  | _, _, 0, .cons _ t => t
  | _, _, i + 1, .cons r t => .cons r (Vals.eraseIdx i t)
theorem Vals.reverse {xs : List V} {us : List Value} (h : Vals xs us) : Vals xs.reverse us.reverse := by
  induction h with
  | nil => exact .nil
  | cons r t ih => rw [List.reverse_cons, List.reverse_cons]; exact Vals.append ih (.cons r .nil)
theorem Vals.rep {xs : List V} {us : List Value} (h : Vals xs us) : ∀ k : Nat, Vals (List.replicate k xs).flatten (List.replicate k us).flatten
  | 0 => .nil
  | k + 1 => by
    rw [List.replicate_succ, List.replicate_succ, List.flatten_cons, List.flatten_cons]
    exact Vals.append h (Vals.rep h k)
theorem erase_last {α : Type} (l : List α) : l.eraseIdx (l.length - 1) = l.dropLast := by
  induction l with
  | nil => rfl
  | cons a r ih =>
    cases r with
    | nil => rfl
    | cons b r =>
      have e : (a :: b :: r).length - 1 = ((b :: r).length - 1) + 1 := by
        have h1 : (a :: b :: r).length = r.length + 2 := rfl
        have h2 : (b :: r).length = r.length + 1 := rfl
        omega
      rw [e, List.eraseIdx_cons_succ, ih]
      all_goals rfl
theorem foldl_rep (its : List Value) : ∀ (k : Nat) (acc : List Value),
    List.foldl (fun x1 x2 => x1 ++ x2) acc.toArray (List.replicate k its.toArray) = (acc ++ (List.replicate k its).flatten).toArray
  | 0, acc => by simp
  | k + 1, acc => by
    have e : acc.toArray ++ its.toArray = (acc ++ its).toArray := by simp
    have e2 : (acc ++ its) ++ (List.replicate k its).flatten = acc ++ (List.replicate (k + 1) its).flatten := by
      rw [List.replicate_succ, List.flatten_cons, List.append_assoc]
    rw [← e2, ← foldl_rep its k (acc ++ its), ← e, List.replicate_succ, List.foldl_cons]

section
variable {X : Cx} {pins : List (Addr × Obj)} {σ : St} {H : Hp} {s : Shared} {l b : Addr} {xs ys zs : List V}

/-! ### the two steps: a tracked list is rewritten, a new list is laid -/
theorem Inv.lset {its its' : List Value} {n : Nat} {f : Array Value → Array Value} {t' : Nat} (I : Inv X pins σ H s) (hH : H l = some (.lst xs))
    (e : s.heap.get? l = some { cls := .type "list", data := .seq its.toArray n }) (hf : f its.toArray = its'.toArray) (hv : Vals ys its') (hz : ys.length ≤ sizeLine) :
    Inv X pins σ (upd H l (.lst ys)) { s with heap := s.heap.update l (Obj.mapSeq f), toks := t' } := by
  have q := PySem.IsL.update e f
  rw [hf] at q
  refine I.write (x := l) (e := l) (by rw [hH]; exact trivial) (.inl rfl) (fun b' u hb hu => (Heap.get?_update_other s.heap (Obj.mapSeq f) (Ne.symm hb)).trans hu) ⟨_, q⟩ ?_
  exact ⟨hz, its', _, hv, q⟩
theorem Inv.lnew {its : List Value} {t' : Nat} (I : Inv X pins σ H s) (hv : Vals ys its) (hz : ys.length ≤ sizeLine) :
    Inv X pins σ (upd H s.heap.objs.size (.lst ys)) { s with heap := s.heap.push { cls := .type "list", data := .seq its.toArray }, toks := t' } :=
  I.laid (fun _ _ q => Heap.get?_push_of_some _ q) (Nat.le_refl _) ⟨hz, its, 0, hv, Heap.get?_push_size _ rfl⟩
theorem Inv.fresh (I : Inv X pins σ H s) : H s.heap.objs.size = none := I.hok.fresh (Nat.le_refl _)
theorem Inv.lstM (I : Inv X pins σ H s) (hH : H l = some (.lst xs)) : xs.length ≤ sizeLine ∧ ∃ (its : List Value) (n : Nat), Vals xs its ∧ xs.length = its.length ∧ s.heap.get? l = some { cls := .type "list", data := .seq its.toArray n } := by
  obtain ⟨z, its, n, r, e⟩ := I.hok l _ hH
  exact ⟨z, its, n, r, r.length, e⟩

theorem notLongL {n : Nat} (h : n ≤ sizeLine) : Builtin.List.listTooLong n = false := by
  unfold Builtin.List.listTooLong
  exact decide_eq_false (by omega)
end

section
variable {X : Cx}

/-! ### methods -/
def rAppend : V → List V → Hp → VK → Prop := fun x vs H Q => ∃ l xs y, x = .ref l ∧ vs = [y] ∧ H l = some (.lst xs) ∧ xs.length < sizeLine ∧ Q .non (upd H l (.lst (xs ++ [y])))
theorem mt_append : MtM X "list.append" rAppend := by
  intro pins s σ H x vs v us Q I rx rv h
  obtain ⟨l, xs, y, rfl, rfl, hH, hz, q⟩ := h
  cases rx
  obtain ⟨u, rfl, ru⟩ := rv.one
  obtain ⟨z, its, n, r, hl, e⟩ := I.lstM hH
  refine call_meets F.slot_list_append ⟨_, e, rfl⟩ F.entry_list_append (F.args_list_append_2 _ _) (PySem.list_append l its.toArray n u (by rw [List.size_toArray]; omega)) ⟨e, ?_⟩
  refine ⟨.non, _, I.lset (its' := its ++ [u]) hH e (by simp) (r.append (.cons ru .nil)) ?_, rfl, q⟩
  rw [List.length_append, List.length_singleton]
  omega

def rPop : V → List V → Hp → VK → Prop := fun x vs H Q => ∃ l xs y, x = .ref l ∧ vs = [] ∧ H l = some (.lst xs) ∧ xs[xs.length - 1]? = some y ∧ Q y (upd H l (.lst xs.dropLast))
theorem mt_pop : MtM X "list.pop" rPop := by
  intro pins s σ H x vs v us Q I rx rv h
  obtain ⟨l, xs, y, rfl, rfl, hH, hy, q⟩ := h
  cases rx
  have hus := rv.zero
  subst hus
  obtain ⟨z, its, n, r, hl, e⟩ := I.lstM hH
  obtain ⟨u, hu, ru⟩ := r.get hy
  have hy' : its.toArray[its.toArray.size - 1]? = some u := by
    show its.toArray[its.length - 1]? = some u
    rw [← Array.getElem?_toList, ← hl]
    exact hu
  refine call_meets F.slot_list_pop ⟨_, e, rfl⟩ F.entry_list_pop (F.args_list_pop_1 _) (MeetsSeq.list_pop_last l its.toArray n u hy' (by rw [List.size_toArray]; omega)) ⟨e, ?_⟩
  refine ⟨y, _, I.lset (its' := its.dropLast) hH e ?_ r.dropLast ?_, ru, q⟩
  · show its.toArray.eraseIdxIfInBounds (its.toArray.size - 1) = its.dropLast.toArray
    rw [List.size_toArray, List.eraseIdxIfInBounds_toArray, erase_last]
  · rw [List.length_dropLast]
    omega

/-! ### list + list, list += list, list * int -/
def rCat : R2 := fun x y H Q => ∃ l b xs zs, x = .ref l ∧ y = .ref b ∧ H l = some (.lst xs) ∧ H b = some (.lst zs) ∧ xs.length + zs.length ≤ sizeLine ∧ ∀ p, H p = none → Q (.ref p) (upd H p (.lst (xs ++ zs)))
theorem op_cat : OpR X (binaryOp .Add) rCat := by
  intro pins s σ H x y v u Q I rx ry h
  obtain ⟨l, b, xs, zs, rfl, rfl, hH, hB, hz, q⟩ := h
  cases rx
  cases ry
  obtain ⟨z, its, n, r, hl, e⟩ := I.lstM hH
  obtain ⟨z2, its2, n2, r2, hl2, e2⟩ := I.lstM hB
  refine PySem.P.add_list e e2 ?_ (by rw [List.size_toArray, List.size_toArray]; omega)
  have ea : its.toArray ++ its2.toArray = (its ++ its2).toArray := by simp
  rw [ea]
  exact ⟨.ref _, _, I.lnew (t' := s.toks) (r.append r2) (by rw [List.length_append]; omega), rfl, q _ I.fresh⟩
/-- a list times an int (a negative one is nothing) -/
def rRep : R2 := fun x y H Q => ∃ l k xs, x = .ref l ∧ y = .int k ∧ H l = some (.lst xs) ∧ -(2 ^ 63) ≤ k ∧ k < 2 ^ 63 ∧ xs.length * k.toNat ≤ sizeLine ∧
  ∀ p, H p = none → Q (.ref p) (upd H p (.lst (List.replicate k.toNat xs).flatten))
theorem len_rep {α : Type} (xs : List α) (k : Nat) : (List.replicate k xs).flatten.length = k * xs.length := by
  induction k with
  | zero => simp
  | succ k ih => rw [List.replicate_succ, List.flatten_cons, List.length_append, ih, Nat.succ_mul, Nat.add_comm]
theorem op_rep : OpR X (binaryOp .Mult) rRep := by
  intro pins s σ H x y v u Q I rx ry h
  obtain ⟨l, k, xs, rfl, rfl, hH, h1, h2, hz, q⟩ := h
  cases rx
  obtain ⟨t, rfl⟩ := ry
  obtain ⟨z, its, n, r, hl, e⟩ := I.lstM hH
  have hlen : its.toArray.size * k.toNat ≤ sizeLine := by rw [List.size_toArray, ← hl]; exact hz
  have hcap : ¬ its.toArray.size * k.toNat > (2 ^ 63 - 1) / 8 := by
    have : (sizeLine : Nat) ≤ (2 ^ 63 - 1) / 8 := by decide
    omega
  have hfit : ¬ (!Builtin.List.listFitsIndex k) = true := by
    rw [fitsIndex_both h1 h2]
    exact Bool.false_ne_true
  have hlong : ¬ Builtin.List.listTooLong (its.toArray.size * k.toNat) = true := by
    rw [notLongL hlen]
    exact Bool.false_ne_true
  have hnew : List.foldl (fun x1 x2 => x1 ++ x2) #[] (List.replicate (if its.toArray.isEmpty = true then 0 else k.toNat) its.toArray) = (List.replicate k.toNat its).flatten.toArray := by
    have f0 : ∀ m : Nat, List.foldl (fun x1 x2 => x1 ++ x2) #[] (List.replicate m its.toArray) = (List.replicate m its).flatten.toArray := fun m => by
      have := foldl_rep its m []
      rw [List.nil_append] at this
      exact this
    rw [f0]
    cases its with
    | nil => simp
    | cons a r' => rw [if_neg (by simp)]
  refine wpAny_binaryOp_repeat_ref (T := "list") (U := "int") (by decide) ⟨_, e, rfl⟩ (fun s' => typeIs_int s' k t) noFill_list_mul F.fills_int_mul F.slot_int_rmul repeat_list F.slot_int_index.lookup
    (call_meets F.slot_int_rmul (typeIs_int s k t) F.entry_int_rmul (F.args_int_rmul_2 _ _) (int___rmul___int_list k t l its.toArray n)
      ⟨e, rfl, ⟨_, e, rfl⟩, call_meets F.slot_list_mul ⟨_, e, rfl⟩ F.entry_list_mul (F.args_list_mul_2 _ _) (AutoListH.list___mul___list_int_3 l its.toArray n k t hfit hcap hlong) ⟨e, ?_⟩⟩)
  rw [hnew]
  exact ⟨.ref _, _, I.lnew (t' := s.toks) (r.rep k.toNat) (by rw [len_rep, Nat.mul_comm]; exact hz), rfl, q _ I.fresh⟩

end

/-! ### xs[a:b] = ys -/
section
variable {prog : Program} {w : World} {A : Around} {E : Value → Shared → Prop} {s : Shared}
end

section
variable {X : Cx}
end
end L2

namespace L2
open PySem PySem.Spec PyProof.Rows

theorem Vals.ints : ∀ {ns : List Int} {us : List Value}, Vals (ns.map V.int) us → IntsAre us ns
  | [], us, h => by
    rw [List.map_nil] at h
    cases h
    exact IntsAre.nil
  | n :: ns, us, h => by
    rw [List.map_cons] at h
    cases h with
    | cons r t =>
      obtain ⟨k, rfl⟩ := r
      exact IntsAre.cons n k (Vals.ints t)
theorem Vals.strs : ∀ {xs : List Str} {us : List Value}, Vals (xs.map V.str) us → StrsAre us xs
  | [], us, h => by
    rw [List.map_nil] at h
    cases h
    exact StrsAre.nil
  | x :: xs, us, h => by
    rw [List.map_cons] at h
    cases h with
    | cons r t =>
      obtain ⟨k, rfl⟩ := r
      exact StrsAre.cons x k (Vals.strs t)
theorem Vals.ref1 {a : Addr} {us : List Value} (r : Vals [V.ref a] us) : us = [Value.ref a] := by
  cases r with
  | cons r t =>
    cases t
    cases r
    rfl
/-! ### the library's walks over a list of ints, kept objects alone -/
section
variable {prog : Program} {w : World} {A : Around} {E : Value → Shared → Prop} {s : Shared} {l : Addr} {its : List Value} {ns : List Int} {Q : Value → Shared → Prop}
theorem sum_raw (hh : A.handled = none) (hl : s.heap.IsList l its.toArray) (hi : IntsAre its ns)
    (h : ∀ h' tk t', (∀ b o, s.heap.get? b = some o → h'.get? b = some o) → Q (.int ns.sum t') { s with heap := h', toks := tk }) : wpAny (model prog w) A (call (.builtin "sum") [.ref l]) Q E s := by
  obtain ⟨xs, e⟩ := hi.allInts.items
  have hn : numsOf (intItems xs).toList = ns := by rw [← e]; exact hi.numsOf
  rw [nums_intItems] at hn
  rw [e] at hl
  refine PySem.sum_intListG hh hl fun h' tk t' hk => ?_
  have := h h' tk t' hk
  rw [preSum_eq, List.take_of_length_le (by simp), hn]; exact this
theorem max_raw (hh : A.handled = none) (hl : s.heap.IsList l its.toArray) (hi : IntsAre its ns) (hne : 0 < ns.length)
    (h : ∀ h' tk M t', (∀ b o, s.heap.get? b = some o → h'.get? b = some o) → M ∈ ns → (∀ a, a ∈ ns → a ≤ M) → Q (.int M t') { s with heap := h', toks := tk }) : wpAny (model prog w) A (call (.builtin "max") [.ref l]) Q E s := by
  obtain ⟨xs, e⟩ := hi.allInts.items
  have hn : numsOf (intItems xs).toList = ns := by rw [← e]; exact hi.numsOf
  rw [nums_intItems] at hn
  subst hn
  rw [e] at hl
  have hsz : 0 < xs.size := by simpa using hne
  refine PySem.max_intList hh hl hsz fun v h' tk hv hk => ?_
  obtain ⟨t, rfl⟩ := intItems_at hv
  obtain ⟨h1, h2⟩ := argBest_gt (numAt xs) (xs.size - 1)
  refine h h' tk _ t hk ?_ fun a ha => ?_
  · rw [numAt_eq]; exact PySem.getD_mem (by rw [List.length_map, Array.length_toList]; omega)
  · obtain ⟨j, hj, rfl⟩ := mem_getD ha
    rw [List.length_map, Array.length_toList] at hj
    rw [← numAt_eq]; exact h2 j (by omega)
end

/-! ### the calls, by values (CallR of 03t; MtR of 06l) -/
section
variable {X : Cx}
/-- sum(xs) of a list of ints -/
def rSum (K : PySem.W.Frag) : List V → Hp → VK → Prop := fun vs H Q => ∃ (a : Addr) (ns : List Int), vs = [V.ref a] ∧ SqL K H a (ns.map V.int) ∧ Q (.int ns.sum) H
/-- max(xs), min(xs) of a list of ints -/
def rMax (K : PySem.W.Frag) : List V → Hp → VK → Prop := fun vs H Q => ∃ (a : Addr) (ns : List Int), vs = [V.ref a] ∧ SqL K H a (ns.map V.int) ∧ 0 < ns.length ∧ ∀ m, m ∈ ns → (∀ y, y ∈ ns → y ≤ m) → Q (.int m) H
theorem cr_sum (hc : X.calm = true) : CallR X (.builtin "sum") (rSum X.K) := by
  intro pins s σ H vs us Q I r h
  obtain ⟨a, ns, rfl, hs, q⟩ := h
  obtain ⟨its, rv, hl, _⟩ := I.list hs
  rw [Vals.ref1 r]
  exact sum_raw (I.ok.hd hc) hl.isList rv.ints fun h' tk t' hk => ⟨.int _, H, I.kept hk, ⟨_, rfl⟩, q⟩
theorem cr_max (hc : X.calm = true) : CallR X (.builtin "max") (rMax X.K) := by
  intro pins s σ H vs us Q I r h
  obtain ⟨a, ns, rfl, hs, hne, q⟩ := h
  obtain ⟨its, rv, hl, _⟩ := I.list hs
  rw [Vals.ref1 r]
  exact max_raw (I.ok.hd hc) hl.isList rv.ints hne fun h' tk m t' hk h1 h2 => ⟨.int _, H, I.kept hk, ⟨_, rfl⟩, q m h1 h2⟩
end

/-! ### list.index, flat items -/
section
variable {X : Cx}
end

/-! ### type(x) of an own instance; is, is not of a module's class -/
section
variable {X : Cx}
end

section
variable {X : Cx}
end

/-! ### == and != of data at any depth: none, bools, ints, texts, lists, tuples -/
mutual
inductive Dp (K : PySem.W.Frag) (H : Hp) : V → PyData → Prop
  | non : Dp K H .non .none
  | bl (b : Bool) : Dp K H (.bl b) (.bool b)
  | int (i : Int) : Dp K H (.int i) (.int i)
  | str (x : Str) : Dp K H (.str x) (.str x)
  | lst {a : Addr} {xs : List V} {ds : List PyData} : SqL K H a xs → DpAll K H xs ds → Dp K H (.ref a) (.list ds)
  | tup {a : Addr} {xs : List V} {ds : List PyData} : SqT K H a xs → DpAll K H xs ds → Dp K H (.ref a) (.tuple ds)
inductive DpAll (K : PySem.W.Frag) (H : Hp) : List V → List PyData → Prop
  | nil : DpAll K H [] []
  | cons {v : V} {vs : List V} {d : PyData} {ds : List PyData} : Dp K H v d → DpAll K H vs ds → DpAll K H (v :: vs) (d :: ds)
end
section
variable {X : Cx} {pins : List (Addr × Obj)} {σ : St} {H : Hp} {s : Shared}
mutual
theorem Dp.reads (I : Inv X pins σ H s) : ∀ (d : PyData) (v : V) (u : Value), Dp X.K H v d → RelV v u → ∃ as, Reads s.heap u d as
  | .none, _, _, h, r => by
    cases h
    cases r
    exact ⟨_, Reads.none⟩
  | .bool b, _, _, h, r => by
    cases h
    cases r
    exact ⟨_, Reads.bool b⟩
  | .int i, _, _, h, r => by
    cases h
    obtain ⟨t, rfl⟩ := r
    exact ⟨_, Reads.int i t⟩
  | .str x, _, _, h, r => by
    cases h
    obtain ⟨t, rfl⟩ := r
    exact ⟨_, Reads.str x t⟩
  | .list ds, _, _, h, r => by
    cases h with
    | lst hs ha =>
      cases r
      obtain ⟨its, rv, ⟨o, n, ho, hc, _, hd⟩, _⟩ := I.list hs
      obtain ⟨as, hr⟩ := Dp.readsAll I ds _ its ha rv
      exact ⟨_, Reads.list ho hc hd hr⟩
  | .tuple ds, _, _, h, r => by
    cases h with
    | tup hs ha =>
      cases r
      obtain ⟨its, rv, ⟨o, ho, hc, n, hd⟩, _⟩ := I.tuple hs
      obtain ⟨as, hr⟩ := Dp.readsAll I ds _ its ha rv
      exact ⟨_, Reads.tuple ho hc hd hr⟩
  | .dict _, _, _, h, _ => by cases h
theorem Dp.readsAll (I : Inv X pins σ H s) : ∀ (ds : List PyData) (vs : List V) (us : List Value), DpAll X.K H vs ds → Vals vs us → ∃ as, ReadsAll s.heap us ds as
  | [], _, _, h, r => by
    cases h
    cases r
    exact ⟨_, ReadsAll.nil⟩
  | d :: ds, _, _, h, r => by
    cases h with
    | cons h1 h2 =>
      cases r with
      | cons r1 r2 =>
        obtain ⟨as, q1⟩ := Dp.reads I d _ _ h1 r1
        obtain ⟨bs, q2⟩ := Dp.readsAll I ds _ _ h2 r2
        exact ⟨_, ReadsAll.cons q1 q2⟩
end
end
section
variable {X : Cx}
def rEqD (K : PySem.W.Frag) : R2 := fun x y H Q => ∃ d e, Dp K H x d ∧ Dp K H y e ∧ SeqAt.shaped d = true ∧ SeqAt.shaped e = true ∧ Q (.bl (PyData.eqv d e)) H
def rNeD (K : PySem.W.Frag) : R2 := fun x y H Q => ∃ d e, Dp K H x d ∧ Dp K H y e ∧ SeqAt.shaped d = true ∧ SeqAt.shaped e = true ∧ Q (.bl (!PyData.eqv d e)) H
theorem op_eqD (hu : X.A.units + 64 < cLine) : OpR X (compareOp .Eq) (rEqD X.K) := by
  intro pins s σ H x y v u Q I rx ry h
  obtain ⟨d, e, hd, he, sd, se, q⟩ := h
  obtain ⟨as, r1⟩ := Dp.reads I d x v hd rx
  obtain ⟨bs, r2⟩ := Dp.reads I e y u he ry
  exact SeqAt.compareEq_shaped r1 r2 sd se hu ⟨.bl _, H, I, rfl, q⟩
theorem op_neD (hu : X.A.units + 64 < cLine) : OpR X (compareOp .NotEq) (rNeD X.K) := by
  intro pins s σ H x y v u Q I rx ry h
  obtain ⟨d, e, hd, he, sd, se, q⟩ := h
  obtain ⟨as, r1⟩ := Dp.reads I d x v hd rx
  obtain ⟨bs, r2⟩ := Dp.reads I e y u he ry
  exact SeqAt.compareNe_shaped r1 r2 sd se hu ⟨.bl _, H, I, rfl, q⟩
end
end L2

namespace L2
open PySem PySem.Spec PyProof.Rows
abbrev CellAt (h : Heap) (c : Addr) (v : Option Value) : Prop := h.IsCell c v
def relS (scope sc : Scope) : Scope :=
  { scope with names := scope.names.map fun (n, k) => if (k == .free && sc.kind == .function && sc.names.lookup n == some .cell) then (n, .cell) else (n, k) }

def cloFrom (cells : List (Str × Addr)) : List (Str × NameKind) → List (Str × Addr) → List (Str × Addr)
  | [], acc => acc
  | (n, k) :: r, acc => if k == .free then cloFrom cells r ((n, (cells.lookup n).getD 0) :: acc) else cloFrom cells r acc

theorem closure_loop (env : Env) (f : Str × NameKind → List (Str × Addr) → Sem (ForInStep (List (Str × Addr))))
    (hf : ∀ n k c, f (n, k) c = if k == .free then (do let a ← cellOf env n; pure (.yield ((n, a) :: c))) else pure (.yield c)) :
    ∀ (names : List (Str × NameKind)) (acc : List (Str × Addr)), (∀ y ∈ names, y.2 = .free → ∃ c, env.cells.lookup y.1 = some c) → forIn names acc f = pure (cloFrom env.cells names acc)
  | [], acc, _ => by rw [List.forIn_nil]; rfl
  | (n, k) :: r, acc, h => by
    rw [List.forIn_cons, hf]
    have ih := fun acc => closure_loop env f hf r acc fun y hy => h y (List.mem_cons_of_mem _ hy)
    unfold cloFrom
    by_cases hk : (k == NameKind.free) = true
    · rw [if_pos hk, if_pos hk]
      obtain ⟨c, hc⟩ := h (n, k) List.mem_cons_self (by simpa using hk)
      have e : cellOf env n = pure c := by unfold cellOf; rw [hc]
      rw [e]
      have e2 : (env.cells.lookup n).getD 0 = c := by rw [hc]; rfl
      rw [e2]
      exact ih _
    · rw [if_neg hk, if_neg hk]
      exact ih _
theorem closure_ok {scope : Scope} {env : Env} (h : ∀ y ∈ scope.names, y.2 = .free → ∃ c, env.cells.lookup y.1 = some c) : closureFor scope env = pure (cloFrom env.cells scope.names []) := by
  simp only [closureFor]
  rw [closure_loop env _ (fun n k c => rfl) scope.names [] h]
  rfl

theorem mem_lookup {α : Type} : ∀ {l : List (Str × α)} {n : Str} {c : α}, (n, c) ∈ l → ∃ c', l.lookup n = some c'
  | (k, v) :: r, n, c, h => by
    rw [List.lookup_cons]
    cases hb : n == k with
    | true => exact ⟨_, rfl⟩
    | false =>
      rcases List.mem_cons.mp h with e | h
      · cases e; simp at hb
      · exact mem_lookup h

theorem cloFrom_mem {cells : List (Str × Addr)} : ∀ {names : List (Str × NameKind)} {acc : List (Str × Addr)} {n : Str} {c : Addr}, (n, c) ∈ cloFrom cells names acc → (n, c) ∈ acc ∨ ((n, .free) ∈ names ∧ c = (cells.lookup n).getD 0)
  | [], _, _, _, h => .inl h
  | (m, k) :: r, acc, n, c, h => by
    unfold cloFrom at h
    split at h
    · rename_i hk
      have hk : k = .free := by simpa using hk
      rcases cloFrom_mem h with h | ⟨h1, h2⟩
      · rcases List.mem_cons.mp h with e | h
        · cases e; exact .inr ⟨hk ▸ List.mem_cons_self, rfl⟩
        · exact .inl h
      · exact .inr ⟨List.mem_cons_of_mem _ h1, h2⟩
    · rcases cloFrom_mem h with h | ⟨h1, h2⟩
      · exact .inl h
      · exact .inr ⟨List.mem_cons_of_mem _ h1, h2⟩
theorem cloFrom_acc {cells : List (Str × Addr)} : ∀ {names : List (Str × NameKind)} {acc : List (Str × Addr)} {p : Str × Addr}, p ∈ acc → p ∈ cloFrom cells names acc
  | [], _, _, h => h
  | (m, k) :: r, acc, p, h => by
    unfold cloFrom
    split
    · exact cloFrom_acc (List.mem_cons_of_mem _ h)
    · exact cloFrom_acc h
theorem cloFrom_has {cells : List (Str × Addr)} : ∀ {names : List (Str × NameKind)} {acc : List (Str × Addr)} {n : Str}, (n, .free) ∈ names → (n, (cells.lookup n).getD 0) ∈ cloFrom cells names acc
  | (m, k) :: r, acc, n, h => by
    unfold cloFrom
    rcases List.mem_cons.mp h with e | h
    · cases e
      exact cloFrom_acc List.mem_cons_self
    · split
      · exact cloFrom_has h
      · exact cloFrom_has h

theorem cells_mem : ∀ {names : List (Str × NameKind)} {h : Heap} {acc : List (Str × Addr)} {x : Str} {c : Addr}, (x, c) ∈ cellsFrom h.objs.size names acc →
    (x, c) ∈ acc ∨ ((x, .cell) ∈ names ∧ h.objs.size ≤ c ∧ CellAt (pushCells h names) c none)
  | [], _, _, _, _, h => .inl h
  | (n, k) :: r, h, acc, x, c, hm => by
    unfold cellsFrom at hm
    unfold pushCells
    split at hm
    · rename_i hk
      rw [if_pos hk]
      have hk : k = .cell := by simpa using hk
      rw [← Heap.size_push h { cls := .type "cell", data := .cell none }] at hm
      rcases cells_mem hm with hm | ⟨h1, h2, h3⟩
      · rcases List.mem_cons.mp hm with e | hm
        · cases e
          exact .inr ⟨hk ▸ List.mem_cons_self, Nat.le_refl _, _, pushCells_keeps r _ _ _ (Heap.get?_push_size _ rfl), rfl⟩
        · exact .inl hm
      · rw [Heap.size_push] at h2
        exact .inr ⟨List.mem_cons_of_mem _ h1, Nat.le_of_succ_le h2, h3⟩
    · rename_i hk
      rw [if_neg hk]
      rcases cells_mem hm with hm | ⟨h1, h2, h3⟩
      · exact .inl hm
      · exact .inr ⟨List.mem_cons_of_mem _ h1, h2, h3⟩
theorem cells_acc : ∀ {names : List (Str × NameKind)} {n : Nat} {acc : List (Str × Addr)} {p : Str × Addr}, p ∈ acc → p ∈ cellsFrom n names acc
  | [], _, _, _, h => h
  | (m, k) :: r, n, acc, p, h => by
    unfold cellsFrom
    split
    · exact cells_acc (List.mem_cons_of_mem _ h)
    · exact cells_acc h
theorem cells_has : ∀ {names : List (Str × NameKind)} {n : Nat} {acc : List (Str × Addr)} {x : Str}, (x, .cell) ∈ names → ∃ c, (x, c) ∈ cellsFrom n names acc
  | (m, k) :: r, n, acc, x, h => by
    unfold cellsFrom
    rcases List.mem_cons.mp h with e | h
    · cases e
      exact ⟨n, cells_acc List.mem_cons_self⟩
    · split
      · exact cells_has h
      · exact cells_has h
theorem cells_inj : ∀ {names : List (Str × NameKind)} {h : Heap} {acc : List (Str × Addr)} {x y : Str} {c : Addr}, (∀ p ∈ acc, p.2 < h.objs.size) → (∀ x y c, (x, c) ∈ acc → (y, c) ∈ acc → x = y) →
    (x, c) ∈ cellsFrom h.objs.size names acc → (y, c) ∈ cellsFrom h.objs.size names acc → x = y
  | [], _, _, _, _, _, _, hi, h1, h2 => hi _ _ _ h1 h2
  | (n, k) :: r, h, acc, x, y, c, hl, hi, h1, h2 => by
    unfold cellsFrom at h1 h2
    split at h1
    · rename_i hk
      rw [if_pos hk] at h2
      rw [← Heap.size_push h { cls := .type "cell", data := .cell none }] at h1 h2
      refine cells_inj (h := h.push _) (fun p hp => ?_) (fun x y c a b => ?_) h1 h2
      · rw [Heap.size_push]
        rcases List.mem_cons.mp hp with rfl | hp
        · exact Nat.lt_succ_self _
        · exact Nat.lt_succ_of_lt (hl p hp)
      · rcases List.mem_cons.mp a with e | a <;> rcases List.mem_cons.mp b with e' | b
        · cases e; cases e'; rfl
        · cases e; exact absurd (hl _ b) (Nat.lt_irrefl _)
        · cases e'; exact absurd (hl _ a) (Nat.lt_irrefl _)
        · exact hi _ _ _ a b
    · rename_i hk
      rw [if_neg hk] at h2
      exact cells_inj hl hi h1 h2

theorem newEnv_comp {M : Model} {A : Around} {E : Value → Shared → Prop} {s : Shared} {scope : Scope} {globals : Addr} {closure : List (Str × Addr)} {qual : Str} {func : Option Addr} {code : Value} {around : Env} {builtins : Addr} {Q : Env → Shared → Prop}
    (h : Q (newEnv scope s.heap.objs.size globals (cellsFrom (s.heap.objs.size + 1) scope.names closure) qual func code (some around) builtins)
      { s with heap := pushCells (s.heap.push { cls := .type "dict", data := .dict #[] }) scope.names }) :
    wpAny M A (newFunctionEnv scope globals closure [] qual func code (some around) builtins) Q E s := by
  simp only [newFunctionEnv, Option.isSome_some, if_true]
  refine wpAny_bind (wpAny_alloc ?_)
  refine wpAny_bind (wpAny_layCells _ (fun n k c => rfl) scope.names closure _ _ ?_)
  rw [show ({ s with heap := s.heap.push { cls := .type "dict", data := .dict #[] } } : Shared).heap.objs.size = s.heap.objs.size + 1 from Heap.size_push ..]
  rw [List.forIn_nil]
  exact wpAny_bind (wpAny_pure (wpAny_pure h))

/-- every name of the written scope, in the scope that runs -/
theorem lookup_relS {sc : Scope} : ∀ {names : List (Str × NameKind)} {x : Str} {k : NameKind},
    (names.map fun (n, k) => if (k == NameKind.free && sc.kind == .function && sc.names.lookup n == some .cell) then (n, NameKind.cell) else (n, k)).lookup x = some k →
    ∃ k', names.lookup x = some k' ∧ (k = k' ∨ (k' = .free ∧ k = .cell))
  | [], _, _, h => by simp at h
  | (n, k₀) :: r, x, k, h => by
    have ih := @lookup_relS sc r x k
    have h' : List.lookup x ((if (k₀ == NameKind.free && sc.kind == .function && sc.names.lookup n == some .cell) = true then (n, NameKind.cell) else (n, k₀)) :: (r.map _)) = some k := h
    cases hx : x == n with
    | true =>
      simp only [List.lookup_cons, hx]
      by_cases hc : (k₀ == NameKind.free && sc.kind == .function && sc.names.lookup n == some .cell) = true
      · rw [if_pos hc] at h'
        simp only [List.lookup_cons, hx] at h'
        cases h'
        simp only [Bool.and_eq_true, beq_iff_eq] at hc
        exact ⟨k₀, rfl, .inr ⟨hc.1.1, rfl⟩⟩
      · rw [if_neg hc] at h'
        simp only [List.lookup_cons, hx] at h'
        cases h'
        exact ⟨_, rfl, .inl rfl⟩
    | false =>
      simp only [List.lookup_cons, hx]
      by_cases hc : (k₀ == NameKind.free && sc.kind == .function && sc.names.lookup n == some .cell) = true
      · rw [if_pos hc] at h'
        simp only [List.lookup_cons, hx] at h'
        exact ih h'
      · rw [if_neg hc] at h'
        simp only [List.lookup_cons, hx] at h'
        exact ih h'
/-- the names of a comprehension's block: its own (with their places in N), or captured -/
structure BlkOk (N : List Str) (sc scope : Scope) (own : List (Str × Nat)) : Prop where
  kind : scope.kind = .function
  uniq : ∀ y ∈ scope.names, scope.names.lookup y.1 = some y.2
  ix : ∀ p ∈ own, N[p.2]? = some p.1
  free : ∀ y ∈ scope.names, y.2 = .free → sc.names.lookup y.1 = some .cell ∨ sc.names.lookup y.1 = some .free
  own : ∀ y ∈ scope.names, y.2 = .local ∨ y.2 = .cell → y.1 ∈ own.map (·.1) ∨ y.1 ∉ N
/-- the slots of the block's own names forgotten -/
def wipe (σ : St) : List Nat → St
  | [] => σ
  | v :: vs => (wipe σ vs).set v none
theorem wipe_length (σ : St) : ∀ vs : List Nat, (wipe σ vs).length = σ.length
  | [] => rfl
  | v :: vs => by unfold wipe; rw [List.length_set, wipe_length σ vs]
theorem wipe_some {σ : St} {i : Nat} {x : V} : ∀ {vs : List Nat}, (wipe σ vs)[i]? = some (some x) → σ[i]? = some (some x) ∧ i ∉ vs
  | [], h => ⟨h, by simp⟩
  | v :: vs, h => by
    unfold wipe at h
    by_cases hi : v = i
    · subst hi
      by_cases hv : v < (wipe σ vs).length
      · rw [List.getElem?_set_self hv] at h; cases h
      · rw [List.getElem?_eq_none (by simpa using hv)] at h; cases h
    · rw [List.getElem?_set_ne hi] at h
      obtain ⟨h1, h2⟩ := wipe_some h
      exact ⟨h1, by simp only [List.mem_cons, not_or]; exact ⟨fun e => hi e.symm, h2⟩⟩

/-- the context of a block that starts at s, its iterator's objects at fp -/
abbrev Cx.blk (X : Cx) (s : Shared) (H : Hp) (scope : Scope) (cenv : Env) (fp : List Addr) : Cx := { X with s_0 := s, H_0 := H, env := cenv, outer := X.stack, ex := fp, fn := fun x => scope.names.lookup x == some .cell, pn := [], xe := fun _ _ => False }
section
variable {X : Cx} {pins : List (Addr × Obj)} {σ : St} {H : Hp} {s : Shared}
theorem block_start {scope : Scope} {own : List (Str × Nat)} {fp : List Addr} (I : Inv X pins σ H s) (ok : BlkOk X.N X.env.scope scope own) (hN : X.N.Nodup) (hfp : ∀ b ∈ fp, FpOk X pins H b ∧ b < s.heap.objs.size) :
    Inv (X.blk s H scope (compEnvC scope (cellsFrom (s.heap.objs.size + 1) scope.names (cloFrom X.env.cells scope.names [])) s.heap.objs.size X.env) fp) [] (wipe σ (own.map (·.2))) H { s with heap := pushCells (s.heap.push { cls := .type "dict", data := .dict #[] }) scope.names } := by
  have hfree : ∀ y ∈ scope.names, y.2 = .free → ∃ c, X.env.cells.lookup y.1 = some c := fun y hy e => by
    rcases ok.free y hy e with k | k
    · exact I.ok.has _ (.inl k)
    · exact I.ok.has _ (.inr k)
  generalize hcenv : compEnvC scope (cellsFrom (s.heap.objs.size + 1) scope.names (cloFrom X.env.cells scope.names [])) s.heap.objs.size X.env = cenv
  have kp : ∀ b o, s.heap.get? b = some o → (pushCells (s.heap.push { cls := .type "dict", data := .dict #[] }) scope.names).get? b = some o := fun b o e => pushCells_keeps _ _ _ _ (Heap.get?_push_of_some _ e)
  have hL : cenv.locals = s.heap.objs.size := by rw [← hcenv]; rfl
  have hcl : cenv.cells = cellsFrom (s.heap.objs.size + 1) scope.names (cloFrom X.env.cells scope.names []) := by rw [← hcenv]; rfl
  have hsc : cenv.scope = relS scope X.env.scope := by rw [← hcenv]; rfl
  rw [← Heap.size_push s.heap { cls := .type "dict", data := .dict #[] }] at hcl
  have cm : ∀ {y c}, (y, c) ∈ cloFrom X.env.cells scope.names [] → X.env.cells.lookup y = some c ∧ c < s.heap.objs.size := fun {y c} hm => by
    rcases cloFrom_mem hm with hm | ⟨h1, rfl⟩
    · cases hm
    · obtain ⟨c, hc⟩ := hfree _ h1 rfl
      rw [hc]
      obtain ⟨w, z⟩ := I.cell _ _ hc
      exact ⟨rfl, z.lt⟩
  have mem : ∀ {y c}, cenv.cells.lookup y = some c → (X.env.cells.lookup y = some c ∧ c < s.heap.objs.size) ∨ (s.heap.objs.size + 1 ≤ c ∧ CellAt (pushCells (s.heap.push { cls := .type "dict", data := .dict #[] }) scope.names) c none) := fun {y c} e => by
    rw [hcl] at e
    rcases cells_mem (PySem.mem_of_lookup e) with hm | ⟨_, h2, h3⟩
    · exact .inl (cm hm)
    · rw [Heap.size_push] at h2; exact .inr ⟨h2, h3⟩
  have look : ∀ {y}, scope.names.lookup y = some .free → ∃ c, cenv.cells.lookup y = some c ∧ X.env.cells.lookup y = some c := fun {y} hl => by
    have hy : (y, NameKind.free) ∈ scope.names := PySem.mem_of_lookup hl
    obtain ⟨c', e'⟩ := mem_lookup (cells_acc (names := scope.names) (n := (s.heap.push { cls := .type "dict", data := .dict #[] }).objs.size) (cloFrom_has (cells := X.env.cells) (acc := []) hy))
    rw [← hcl] at e'
    refine ⟨c', e', ?_⟩
    rw [hcl] at e'
    rcases cells_mem (PySem.mem_of_lookup e') with hm | ⟨h1, _, _⟩
    · exact (cm hm).1
    · have := ok.uniq _ h1
      rw [hl] at this; cases this
  have okB : (X.blk s H scope cenv fp).Ok := by
    refine ⟨I.ok.mod, by show cenv.scope.kind = _; rw [hsc]; exact ok.kind, by show cenv.globals = _; rw [← hcenv]; exact I.ok.glob, by show cenv.builtins = _; rw [← hcenv]; exact I.ok.blt, by show s.heap.objs.size ≤ cenv.locals; rw [hL]; exact Nat.le_refl _,
      fun y z c e1 e2 => ?_, fun y hy => ?_, fun y c z e => ?_, I.ok.hd, I.ok.frames, .inl rfl, fun b hb => ⟨?_, fun y c e z => ?_⟩, I.bs, Nat.le_trans I.ok.bsz I.sz, fun b o e hb => ?_, fun b hb z => ?_, I.stack, I.stkFree⟩
    · have e1 : cenv.cells.lookup y = some c := e1
      have e2 : cenv.cells.lookup z = some c := e2
      rw [hcl] at e1 e2
      refine cells_inj (fun p hp => ?_) (fun y z c a b => I.ok.inj y z c (cm a).1 (cm b).1) (PySem.mem_of_lookup e1) (PySem.mem_of_lookup e2)
      rw [Heap.size_push]
      exact Nat.lt_succ_of_lt (cm (y := p.1) (c := p.2) hp).2
    · show ∃ c, cenv.cells.lookup y = some c
      have key : ∀ k, cenv.kindOf y = some k → (k = .cell ∨ k = .free) → ∃ c, cenv.cells.lookup y = some c := fun k hk hk' => by
        unfold Env.kindOf at hk
        rw [hsc] at hk
        obtain ⟨k', e, r⟩ := lookup_relS hk
        have : k' = .cell ∨ k' = .free := by
          rcases r with rfl | ⟨rfl, _⟩
          · exact hk'
          · exact .inr rfl
        rcases this with rfl | rfl
        · obtain ⟨c, hm⟩ := cells_has (n := (s.heap.push { cls := .type "dict", data := .dict #[] }).objs.size) (acc := cloFrom X.env.cells scope.names []) (PySem.mem_of_lookup e)
          obtain ⟨c', e'⟩ := mem_lookup hm
          exact ⟨c', by rw [hcl]; exact e'⟩
        · obtain ⟨c, h1, _⟩ := look e
          exact ⟨c, h1⟩
      rcases hy with hy | hy
      · exact key _ hy (.inl rfl)
      · exact key _ hy (.inr rfl)
    · have z : (scope.names.lookup y == some NameKind.cell) = true := z
      have z : scope.names.lookup y = some .cell := by simpa using z
      have e : cenv.cells.lookup y = some c := e
      rw [hcl] at e
      rcases cells_mem (PySem.mem_of_lookup e) with hm | ⟨_, h2, _⟩
      · rcases cloFrom_mem hm with hm | ⟨h1, _⟩
        · cases hm
        · have q := ok.uniq _ h1
          rw [z] at q; cases q
      · rw [Heap.size_push] at h2
        exact Nat.le_of_succ_le h2
    · show b ≠ cenv.locals
      rw [hL]; exact Nat.ne_of_lt (hfp b hb).2
    · have e : cenv.cells.lookup y = some c := e
      rcases mem e with ⟨h1, _⟩ | ⟨h1, _⟩
      · exact (hfp b hb).1.2.2.2.2.1 y c h1 z
      · have h2 : s.heap.objs.size + 1 ≤ b := by rw [← z]; exact h1
        exact absurd (Nat.lt_of_lt_of_le (hfp b hb).2 (Nat.le_of_succ_le h2)) (Nat.lt_irrefl _)
    · rcases (hfp b hb).1.2.2.2.1 with z | z
      · exact I.ok.noex b o e z
      · exact absurd (Nat.lt_of_lt_of_le (Heap.lt_size e) (Nat.le_trans I.ok.bsz z)) (Nat.lt_irrefl _)
    · rcases List.mem_cons.mp (I.stkSub b z) with z | z
      · exact (hfp b hb).1.2.1 z
      · exact (hfp b hb).1.2.2.1 z
  refine ⟨okB, rfl, ⟨id, fun _ => ⟨rfl, rfl⟩⟩, Un.kept kp, ⟨fun _ => none, ?_, fun i y av e1 e2 e3 => ?_⟩, fun y c e => ?_, ?_, fun y c e => ?_, fun p hp => ?_, I.hok.kept kp, by rw [wipe_length]; exact I.len⟩
  · show Heap.Ns _ cenv.locals _
    rw [hL]
    exact Heap.Ns.keeps (Heap.Ns.new ..) fun b o e => pushCells_keeps _ _ _ _ e
  · obtain ⟨e2, hne⟩ := wipe_some e2
    have hfr : scope.names.lookup y = some .free ∧ (cenv.kindOf y = some .cell ∨ cenv.kindOf y = some .free) := by
      have key : ∀ k, cenv.scope.names.lookup y = some k → k = .local ∨ k = .cell ∨ k = .free → scope.names.lookup y = some .free ∧ (cenv.kindOf y = some .cell ∨ cenv.kindOf y = some .free) := fun k hk hk' => by
        have hk0 := hk
        rw [hsc] at hk
        obtain ⟨k', e, r⟩ := lookup_relS hk
        have no : ¬ (k' = .local ∨ k' = .cell) := fun hh => by
          rcases ok.own _ (PySem.mem_of_lookup e) hh with e' | e'
          · obtain ⟨p, hp, hpy⟩ := List.mem_map.mp e'
            have e3 := ok.ix p hp
            have : p.1 = y := hpy
            rw [this] at e3
            exact hne (List.mem_map.mpr ⟨p, hp, nodup_ix hN e3 e1⟩)
          · exact e' (List.mem_of_getElem? e1)
        rcases r with rfl | ⟨rfl, rfl⟩
        · rcases hk' with rfl | rfl | rfl
          · exact absurd (.inl rfl) no
          · exact absurd (.inr rfl) no
          · exact ⟨e, .inr hk0⟩
        · exact ⟨e, .inl hk0⟩
      have e3 : Vis cenv.scope y := e3
      rcases e3 with e3 | e3 | e3
      · exact key _ e3 (.inl rfl)
      · exact key _ e3 (.inr (.inl rfl))
      · exact key _ e3 (.inr (.inr rfl))
    obtain ⟨m, hn, hl⟩ := I.loc
    have hvis : Vis X.env.scope y := (ok.free _ (PySem.mem_of_lookup hfr.1) rfl).elim (fun k => .inr (.inl k)) (fun k => .inr (.inr k))
    obtain ⟨w, r, q⟩ := hl i y av e1 e2 hvis
    refine ⟨w, r, .inr ⟨hfr.2, ?_⟩⟩
    obtain ⟨c, h1, h2⟩ := look hfr.1
    rcases q with ⟨k, _⟩ | ⟨_, c', e', z⟩
    · have k : X.env.scope.names.lookup y = some .local := k
      rcases ok.free _ (PySem.mem_of_lookup hfr.1) rfl with k' | k' <;> rw [show X.env.scope.names.lookup y = _ from k'] at k <;> cases k
    · rw [h2] at e'; cases e'
      exact ⟨c, h1, z.keeps kp⟩
  · have e : cenv.cells.lookup y = some c := e
    rcases mem e with ⟨h1, _⟩ | ⟨_, z⟩
    · obtain ⟨w, z⟩ := I.cell y c h1
      exact ⟨w, z.keeps kp⟩
    · exact ⟨_, z⟩
  · show H cenv.locals = none
    rw [hL]; exact I.hok.fresh (Nat.le_refl _)
  · have e : cenv.cells.lookup y = some c := e
    rcases mem e with ⟨h1, _⟩ | ⟨h1, _⟩
    · exact I.freeC y c h1
    · exact I.hok.fresh (Nat.le_of_succ_le h1)
  · exact absurd (show p ∈ ([] : List (Addr × Obj)) ++ [] from hp) (by simp)

/-- an item appended to a tracked list -/
theorem app_ok {E : Value → Shared → Prop} {D : Addr} {xs : List V} {y : V} {v : Value} {Q : Value → Shared → Prop} (I : Inv X pins σ H s) (hD : H D = some (.lst xs)) (hz : xs.length < sizeLine) (r : RelV y v)
    (h : ∀ s', Inv X pins σ (upd H D (.lst (xs ++ [y]))) s' → Q .none s') : wpAny (model X.prog X.w) X.A (call (.builtin "list.append") [.ref D, v]) Q E s := by
  obtain ⟨hz', its, n, ri, e⟩ := I.hok D _ hD
  have hl := ri.length
  refine append_at (hsz := by rw [List.size_toArray]; omega) e fun h' sb ho' => ?_
  refine h { s with heap := h' } (I.write (t' := s.toks) (by rw [hD]; trivial) (.inl rfl) (fun b u hb q => (sb.2 b hb).trans q) ⟨_, ho'⟩ ⟨by rw [List.length_append]; exact hz, its ++ [v], n + 1, ri.append (.cons r .nil), ?_⟩)
  rw [ho']
  simp

/-- a clause's tests -/
def PTs (X : Cx) (ifs : List Expr) (t : TT) : Prop :=
  ∀ (pins : List (Addr × Obj)) (s : Shared) (σ : St) (H : Hp) (Q : Bool → Hp → Prop), Inv X pins σ H s → t σ H Q →
    wpAny (model X.prog X.w) X.A (forIn ifs true fun c r => if r = true then do let ok ← isTrue c X.env (eval c X.env); pure (ForInStep.yield ok) else pure (ForInStep.yield r)) (TP X pins σ Q) X.xe s
def tYes : TT := fun _ H Q => Q true H
theorem pts_nil : PTs X [] tYes := fun _ _ _ H _ I h => wpAny_tests_nil ⟨H, I, h⟩
theorem pts_one {c : Expr} {t : TT} (h : PT X c t) : PTs X [c] t := fun pins s σ H Q I hw => wpAny_tests_one (h pins s σ H Q I hw)
end

theorem thnF {α : Type} {t : Sem α} {Q Q' : α → Shared → Prop} {M : Model} {A : Around} {E : Value → Shared → Prop} {s : Shared} (h : wpAny M A t Q (fun _ _ => False) s) (hQ : ∀ a s, Q a s → Q' a s) : wpAny M A t Q' E s := wpAny_mono h hQ fun _ _ z => False.elim z

/-- the loop of a list comprehension's block, the target of any form (codeAny_compLoop_tests asks a target that no tuple goes to; statement and proof follow it, PyProof/CompMap.lean:41-61, with the step letOwnedTupleGo kept) -/
theorem compLoop_any {prog : Program} {w : World} {A : Around} {R : Result → Shared → Prop} {s : Shared} {elt target iter : Expr} {ifs : List Expr} {scope : Scope} {pos : Pos} {it acc : Value} {env : Env} (I : Nat → Shared → Prop)
    (turn : ∀ n s, I n s → wpAny (model prog w) A (pyNext it) (fun r s₁ => match r with
      | none => R (.ok .next) s₁
      | some v => wpAny (model prog w) A (letOwnedTupleGo target it v) (fun _ s₁' => wpAny (model prog w) A (assign target env v) (fun _ s₂ =>
          wpAny (model prog w) A (forIn ifs true fun c r => if r = true then do let ok ← isTrue c env (eval c env); pure (ForInStep.yield ok) else pure (ForInStep.yield r)) (fun ok s₃ =>
            if ok = true then wpAny (model prog w) A (eval elt env) (fun x s₄ =>
              wpAny (model prog w) A (call (.builtin "list.append") [acc, x]) (fun _ s₅ => ∃ m, m < n ∧ I m s₅) (notedBy (model prog w) A env fun e s' => R (.error e) s') s₄) (notedBy (model prog w) A env fun e s' => R (.error e) s') s₃
            else ∃ m, m < n ∧ I m s₃) (notedBy (model prog w) A env fun e s' => R (.error e) s') s₂) (notedBy (model prog w) A env fun e s' => R (.error e) s') s₁') (notedBy (model prog w) A env fun e s' => R (.error e) s') s₁) (notedBy (model prog w) A env fun e s' => R (.error e) s') s)
    (n : Nat) (h : I n s) :
    codeAny (model prog w) A (.compLoop (.ListComp elt [⟨target, iter, ifs, 0⟩] scope pos) 0 it acc env) R s := by
  refine codeAny_loop rfl I (fun n s hI => ?_) n h
  show wpAny _ A ((compTurn (.ListComp elt [⟨target, iter, ifs, 0⟩] scope pos) 0 it acc env).onRaise (fun x => do noteFrame x env; theTreesLotGoes x)) _ _ s
  refine wpAny_noted ?_
  rw [compTurn_list]
  refine wpAny_bind (wpAny_standAt (wpAny_bind (wpAny_mono (turn n s hI) (fun r s₁ h₁ => ?_) fun _ _ h' => h')))
  cases r with
  | none => exact wpAny_pure h₁
  | some v =>
    refine wpAny_bind (wpAny_mono h₁ (fun _ s₁' h₁' => ?_) fun _ _ h' => h')
    refine wpAny_bind (wpAny_mono h₁' (fun _ s₂ h₂ => wpAny_bind (wpAny_mono h₂ (fun ok s₃ h₃ => ?_) fun _ _ h' => h')) fun _ _ h' => h')
    cases ok with
    | false => exact wpAny_pure ⟨rfl, h₃⟩
    | true =>
      exact wpAny_bind (wpAny_bind (wpAny_mono h₃ (fun x s₄ h₄ => wpAny_bind (wpAny_mono h₄ (fun _ s₅ h₅ => wpAny_pure (wpAny_pure ⟨rfl, h₅⟩)) fun _ _ h' => h')) fun _ _ h' => h'))

section
variable {X : Cx}
/-- [elt for target in iter if ..]: D the new list; W by the turn and a measure, Nx what a turn is to reach -/
def tLc (wi : TI) (g : TG) (tt : TT) (te : TE) (vs : List Nat) : TE := fun σ H Q => wi σ H fun J H1 => ∀ D, H1 D = none → ∃ W : Nat → Nat → Hp → Prop, (∃ m, W 0 m (upd H1 D (.lst []))) ∧ ∀ i m H, W i m H →
  (J.stop i H ∧ Q (.ref D) H) ∨ (J.go i H ∧ ∃ Nx : Hp → Prop, (∀ H', Nx H' → ∃ m', m' < m ∧ W (i + 1) m' H') ∧ ∀ x H', J.yld i H x H' → g x (wipe σ vs) H' fun σ2 H2 => wipe σ2 vs = wipe σ vs ∧ tt σ2 H2 fun b H3 =>
    if b = true then te σ2 H3 fun y H4 => ∃ acc, H4 D = some (.lst acc) ∧ acc.length < sizeLine ∧ Nx (upd H4 D (.lst (acc ++ [y]))) else Nx H3)
theorem lc_core {pins : List (Addr × Obj)} {s : Shared} {σ : St} {H : Hp} {Q : VK} {elt tg iter : Expr} {ifs : List Expr} {scope : Scope} {own : List (Str × Nat)} {pos pos' : Pos} {wi : TI} {g : TG} {tt : TT} {te : TE} {use : Option (Value → Sem Unit)} {Qf : Value → Shared → Prop}
    (hc : X.calm = true) (hN : X.N.Nodup) (I : Inv X pins σ H s) (hi : PI X tg iter wi) (ok : BlkOk X.N X.env.scope scope own)
    (hg : ∀ (s : Shared) (H : Hp) (C : Addr) (cl : List (Str × Addr)) (fp : List Addr), PG (X.blk s H scope (compEnvC scope cl C X.env) fp) tg g) (ht : ∀ (s : Shared) (H : Hp) (C : Addr) (cl : List (Str × Addr)) (fp : List Addr), PTs (X.blk s H scope (compEnvC scope cl C X.env) fp) ifs tt)
    (he : ∀ (s : Shared) (H : Hp) (C : Addr) (cl : List (Str × Addr)) (fp : List Addr), PE (X.blk s H scope (compEnvC scope cl C X.env) fp) elt te) (hs : ∀ x, foldedSetIterable iter X.env x = pure x)
    (h : tLc wi g tt te (own.map (·.2)) σ H Q)
    (hRR : ∀ D C s' m H', Inv X pins σ H' s' → Q (.ref D) H' → s'.heap.Ns C m → FpOk X pins H' C → compPost (model X.prog X.w) X.A X.xe use Qf (.ref D) C (.ok .next) s') :
    wpAny (model X.prog X.w) X.A (comprehension (.ListComp elt [⟨tg, iter, ifs, 0⟩] scope pos) scope X.env pos' (newList []) false (eval iter X.env) use) Qf X.xe s := by
  have hfree : ∀ y ∈ scope.names, y.2 = .free → ∃ c, X.env.cells.lookup y.1 = some c := fun y hy e => by
    rcases ok.free y hy e with k | k
    · exact I.ok.has _ (.inl k)
    · exact I.ok.has _ (.inr k)
  refine wpAny_comprehension_free (use := use) rfl hs (closure_ok hfree) ok.kind (fun y hy e => by rw [ok.uniq y hy, e])
    (thn (hi pins s σ H _ I h) fun xv s1 hx => thn hx fun itv s2 h2 => ?_)
  obtain ⟨it, fp, tn, J, H2, e, I2, T, st2, f2, q⟩ := h2
  subst e
  refine wpAny_newObj_type (newEnv_comp ?_) (by show 0 ≤ sizeLine; decide)
  generalize hD : s2.heap.objs.size = D
  have hDn : H2 D = none := I2.hok.fresh (Nat.le_of_eq hD)
  obtain ⟨W, ⟨m0, w0⟩, turn⟩ := q D hDn
  -- the new list
  generalize hs3 : ({ s2 with heap := s2.heap.push { cls := .type "list", data := .seq ([] : List Value).toArray } } : Shared) = s3
  have I3 : Inv X pins σ (upd H2 D (.lst [])) s3 := by
    rw [← hs3]
    refine I2.laid (t' := s2.toks) (fun b o e => Heap.get?_push_of_some _ e) (Nat.le_of_eq hD) ⟨Nat.zero_le _, [], 0, .nil, ?_⟩
    rw [← hD]
    exact Heap.get?_push_size _ rfl
  have h3 : s3.heap = s2.heap.push { cls := .type "list", data := .seq ([] : List Value).toArray } := by rw [← hs3]
  have sz : ∀ b ∈ fp, b < s2.heap.objs.size := fun b hb => by
    obtain ⟨o, e, _⟩ := T.obj _ _ st2 b hb
    exact Heap.lt_size e
  have f3 : ∀ b ∈ fp, FpOk X pins (upd H2 D (.lst [])) b ∧ b < s3.heap.objs.size := fun b hb => by
    have hlt := sz b hb
    refine ⟨⟨?_, (f2 b hb).2⟩, by rw [h3, Heap.size_push]; exact Nat.lt_succ_of_lt hlt⟩
    rw [upd_ne (by rw [← hD]; exact Nat.ne_of_lt hlt)]
    exact (f2 b hb).1
  have st3 : tn 0 s3.heap := T.keep _ _ _ st2 fun b _ o e => by rw [h3]; exact Heap.get?_push_of_some _ e
  have I4 := block_start I3 ok hN f3
  have pg := hg s3 (upd H2 D (.lst [])) s3.heap.objs.size (cellsFrom (s3.heap.objs.size + 1) scope.names (cloFrom X.env.cells scope.names [])) fp
  have pt := ht s3 (upd H2 D (.lst [])) s3.heap.objs.size (cellsFrom (s3.heap.objs.size + 1) scope.names (cloFrom X.env.cells scope.names [])) fp
  have pe := he s3 (upd H2 D (.lst [])) s3.heap.objs.size (cellsFrom (s3.heap.objs.size + 1) scope.names (cloFrom X.env.cells scope.names [])) fp
  show codeAny _ _ (.compStart (.ListComp elt [⟨tg, iter, ifs, 0⟩] scope pos) 0 (.ref it) (.ref D) (compEnvC scope (cellsFrom (s3.heap.objs.size + 1) scope.names (cloFrom X.env.cells scope.names [])) s3.heap.objs.size X.env)) (compPost (model X.prog X.w) X.A X.xe use Qf (.ref D) s3.heap.objs.size) { s3 with heap := pushCells (s3.heap.push { cls := .type "dict", data := .dict #[] }) scope.names }
  have nfp : ∀ b ∈ fp, (upd H2 D (.lst [])) b = none := fun b hb => (f3 b hb).1.1
  generalize hce : compEnvC scope (cellsFrom (s3.heap.objs.size + 1) scope.names (cloFrom X.env.cells scope.names [])) s3.heap.objs.size X.env = ce at I4 pg pt pe ⊢
  have cL : ce.locals = s3.heap.objs.size := by subst hce; rfl
  generalize hH3 : upd H2 D (.lst []) = H3 at I3 I4 pg pt pe w0 nfp f3
  generalize hs4 : ({ s3 with heap := pushCells (s3.heap.push { cls := .type "dict", data := .dict #[] }) scope.names } : Shared) = s4 at I4 ⊢
  have st4 : tn 0 s4.heap := T.keep _ _ _ st3 fun b _ o e => by rw [← hs4]; exact pushCells_keeps _ _ _ _ (Heap.get?_push_of_some _ e)
  have stat : ∀ {σ' : St} {H' : Hp} {s' : Shared}, Inv (X.blk s3 H3 scope ce fp) [] σ' H' s' → (∀ b ∈ fp, H' b = none) → ∀ b ∈ fp, FpOk (X.blk s3 H3 scope ce fp) [] H' b := fun {σ' H' s'} I' hn b hb =>
    ⟨hn b hb, (I'.ok.exf b hb).1, I'.ok.exfs b hb, .inl hb, fun x c e => (I'.ok.exf b hb).2 x c e, fun p hp => absurd (show p ∈ ([] : List (Addr × Obj)) ++ [] from hp) (by simp)⟩
  have loop : codeAny (model X.prog X.w) X.A (.compLoop (.ListComp elt [⟨tg, iter, ifs, 0⟩] scope pos) 0 (.ref it) (.ref D) ce) (compPost (model X.prog X.w) X.A X.xe use Qf (.ref D) s3.heap.objs.size) s4 := by
    refine compLoop_any (fun n s' => ∃ i H', Inv (X.blk s3 H3 scope ce fp) [] (wipe σ (own.map (·.2))) H' s' ∧ tn i s'.heap ∧ (∀ b ∈ fp, H' b = none) ∧ W i n H') ?_ m0 ⟨0, H3, I4, st4, nfp, w0⟩
    rintro n s5 ⟨i, H5, I5, st5, n5, w5⟩
    rcases turn i n H5 w5 with ⟨stop, qq⟩ | ⟨go, Nx, hNx, step⟩
    · have td := T.done (X.blk s3 H3 scope ce fp) rfl rfl rfl hc i [] s5 _ H5 (fun _ _ => False) I5 (stat I5 n5) st5 stop
      refine thnF td fun r s6 ⟨hr, I6⟩ => ?_
      subst hr
      -- back in the def's context
      have I7 : Inv X pins σ H5 s6 := I3.call' (ch := fp) I6.os I6.base I6.hok (Bare2.trans I3.bare I6.bare) fun b hb => ⟨(f3 b hb).1.2.2.2.1, (f3 b hb).1.2.1, (f3 b hb).1.2.2.2.2.1, (f3 b hb).1.2.2.2.2.2⟩
      have nC : H5 s3.heap.objs.size = none := by
        have z : H5 ce.locals = none := I6.free
        rw [cL] at z
        exact z
      obtain ⟨m, hn, _⟩ := I6.loc
      have hn : s6.heap.Ns ce.locals m := hn
      rw [cL] at hn
      exact hRR D s3.heap.objs.size s6 m H5 I7 qq hn (I3.fpOk (Nat.le_refl _) nC)
    · have ti := T.item (X.blk s3 H3 scope ce fp) rfl rfl rfl hc i [] s5 _ H5 (fun _ _ => False) I5 (stat I5 n5) st5 go
      refine thnF ti fun r s6 ⟨u, hr, h6⟩ => ?_
      subst hr
      refine thnF h6 fun _ s7 ⟨x, H7, I7, r7, y7, st7, n7⟩ => ?_
      have I7' := I7.pinned (stat I7 n7) (T.obj _ _ st7)
      refine thnF (pg _ s7 _ H7 x u _ I7' r7 (step x H7 y7)) fun _ s8 ⟨σ8, H8, I8, hw8, q8⟩ => ?_
      refine thnF (pt _ s8 σ8 H8 _ I8 q8) fun b s9 ⟨H9, I9, q9⟩ => ?_
      -- the turn's end
      have fin : ∀ {s' : Shared} {H' : Hp}, Inv (X.blk s3 H3 scope ce fp) ([] ++ pinsAt fp s7.heap) σ8 H' s' → Nx H' → ∃ m, m < n ∧ ∃ i H', Inv (X.blk s3 H3 scope ce fp) [] (wipe σ (own.map (·.2))) H' s' ∧ tn i s'.heap ∧ (∀ b ∈ fp, H' b = none) ∧ W i m H' := fun {s' H'} I' nx => by
        obtain ⟨m', hm, w'⟩ := hNx H' nx
        have pin' : ∀ b ∈ fp, ∀ o, s7.heap.get? b = some o → s'.heap.get? b = some o ∧ H' b = none := fun b hb o e =>
          let z := I'.pin (b, o) (List.mem_append_right _ (List.mem_append_right _ (mem_pinsAt hb e)))
          ⟨z.1, z.2.1⟩
        have hl : (wipe σ (own.map (·.2))).length = σ8.length := by rw [← hw8, wipe_length]
        refine ⟨m', hm, i + 1, H', (I'.unpinned (pins := [])).weak hl (fun j v e => ?_), T.keep _ _ _ st7 fun b hb o e => (pin' b hb o e).1, fun b hb => ?_, w'⟩
        · rw [← hw8] at e
          exact (wipe_some e).1
        · obtain ⟨o, e, _⟩ := T.obj _ _ st7 b hb
          exact (pin' b hb o e).2
      cases b with
      | false =>
        simp only [Bool.false_eq_true, if_false] at q9 ⊢
        exact fin I9 q9
      | true =>
        simp only [if_true] at q9 ⊢
        refine thnF (pe _ s9 σ8 H9 _ I9 q9) fun z s10 ⟨yv, H10, I10, r10, acc, hD10, hz10, nx⟩ => ?_
        exact app_ok (X := X.blk s3 H3 scope ce fp) I10 hD10 hz10 r10 fun s11 I11 => fin I11 nx
  exact codeAny_compStart_list loop (T.self X.A 0 _ _ _ st4 loop)
/-- as a value -/
theorem pe_lc {elt tg iter : Expr} {ifs : List Expr} {scope : Scope} {own : List (Str × Nat)} {pos : Pos} {wi : TI} {g : TG} {tt : TT} {te : TE} (hc : X.calm = true) (hN : X.N.Nodup) (hi : PI X tg iter wi) (ok : BlkOk X.N X.env.scope scope own)
    (hg : ∀ (s : Shared) (H : Hp) (C : Addr) (cl : List (Str × Addr)) (fp : List Addr), PG (X.blk s H scope (compEnvC scope cl C X.env) fp) tg g) (ht : ∀ (s : Shared) (H : Hp) (C : Addr) (cl : List (Str × Addr)) (fp : List Addr), PTs (X.blk s H scope (compEnvC scope cl C X.env) fp) ifs tt)
    (he : ∀ (s : Shared) (H : Hp) (C : Addr) (cl : List (Str × Addr)) (fp : List Addr), PE (X.blk s H scope (compEnvC scope cl C X.env) fp) elt te) (hs : ∀ x, foldedSetIterable iter X.env x = pure x := by intro _; rfl) :
    PE X (.ListComp elt [⟨tg, iter, ifs, 0⟩] scope pos) (tLc wi g tt te (own.map (·.2))) := by
  intro pins s σ H Q I h
  rw [eval_ListComp]
  refine lc_core hc hN I hi ok hg ht he hs h fun D C s' m H' I' q hn f => ⟨m, hn, fun h'' sb => ?_⟩
  obtain ⟨f0, f1, f2, f3, f4, f5⟩ := f
  exact ⟨.ref D, H', I'.turned (t' := s'.toks) (fun b o hb e => (sb.2 b hb).trans e) f0 f1 f3 f4 f5, rfl, q⟩
/-- name = [..] on one line, the name a local -/
theorem ps_setLc {i : Nat} {y : Str} {py : Pos} {elt tg iter : Expr} {ifs : List Expr} {scope : Scope} {own : List (Str × Nat)} {pos spos : Pos} {wi : TI} {g : TG} {tt : TT} {te : TE} (hc : X.calm = true) (hN : X.N.Nodup) (hy : X.N[i]? = some y) (hyl : X.env.scope.names.lookup y = some .local)
    (hsw : swapsWith (.ListComp elt [⟨tg, iter, ifs, 0⟩] scope pos) (some (.Name y py)) spos.line X.env = pure true) (hi : PI X tg iter wi) (ok : BlkOk X.N X.env.scope scope own)
    (hg : ∀ (s : Shared) (H : Hp) (C : Addr) (cl : List (Str × Addr)) (fp : List Addr), PG (X.blk s H scope (compEnvC scope cl C X.env) fp) tg g) (ht : ∀ (s : Shared) (H : Hp) (C : Addr) (cl : List (Str × Addr)) (fp : List Addr), PTs (X.blk s H scope (compEnvC scope cl C X.env) fp) ifs tt)
    (he : ∀ (s : Shared) (H : Hp) (C : Addr) (cl : List (Str × Addr)) (fp : List Addr), PE (X.blk s H scope (compEnvC scope cl C X.env) fp) elt te) (hs : ∀ x, foldedSetIterable iter X.env x = pure x := by intro _; rfl) :
    PS X (.Assign [.Name y py] (.ListComp elt [⟨tg, iter, ifs, 0⟩] scope pos) spos) (tAsg (tLc wi g tt te (own.map (·.2))) (gName i)) := by
  intro pins s σ H D I h
  rw [exec_Assign_Name_used _ _ _ _ hsw]
  refine wpAny_bind (wpAny_standAt (wpAny_bind ?_))
  show wpAny _ X.A (do let _ ← comprehension (.ListComp elt [⟨tg, iter, ifs, 0⟩] scope pos) scope X.env (firstIterPos [⟨tg, iter, ifs, 0⟩] pos) (newList []) false (eval iter X.env) (some (assign (.Name y py) X.env))) _ _ s
  have h : tLc wi g tt te (own.map (·.2)) σ H (fun x H1 => gName i x σ H1 D.nx) := h
  refine wpAny_bind (thn (lc_core (Qf := fun _ s' => SP X pins D .next s') hc hN I hi ok hg ht he hs h fun L C s' m H' I' q hn f => ?_) fun _ s' hq => wpAny_pure (wpAny_pure hq))
  show wpAny _ _ (assign (.Name y py) X.env (.ref L)) _ _ _
  refine wpAny_assign_Name (store_ok2 (v := V.ref L) I' hN hy (.inl hyl) rfl (fun s2 I2 ⟨a, sb, ha⟩ => ?_) (.inr hyl))
  obtain ⟨f0, f1, f2, f3, f4, f5⟩ := f
  have haC : C ≠ a := by
    rcases ha with z | z
    · rw [z]; exact f1
    · exact fun e => f4 y a z e.symm
  refine ⟨m, hn.sameBut sb haC, fun h3 sb3 => ?_⟩
  exact ⟨_, H', I2.turned (t' := s2.toks) (fun b o hb e => (sb3.2 b hb).trans e) f0 f1 f3 f4 f5, q⟩
theorem sw_true {elt : Expr} {gs : List Comprehension} {scope : Scope} {pos py : Pos} {y : Str} {l : Nat} {env : Env} (hk : env.scope.kind = .function) (hy : env.scope.names.lookup y = some .local) (hl : (py.line == pos.line) = true)
    (ha : (scope.names.any fun (n, k) => n == y && (k == .local || k == .cell)) = false) : swapsWith (.ListComp elt gs scope pos) (some (.Name y py)) l env = pure true := by
  have ky : env.kindOf y = some .local := hy
  have hb : env.blockKind = .function := by unfold Env.blockKind; rw [hk]; rfl
  unfold swapsWith
  simp only [hb, ky, ha, Expr.pos, hl]
  rfl
end

/-! ### the forms one uses -/
/-- over a range: Pv by the turn and the heap (the new list at D within) -/
theorem lc_range {lo : Int} {n : Nat} {g : TG} {tt : TT} {te : TE} {vs : List Nat} {σ : St} {H1 : Hp} {D : Addr} {Qd : Hp → Prop} (Pv : Nat → Hp → Prop) (h0 : Pv 0 (upd H1 D (.lst [])))
    (hs : ∀ i H, i < n → Pv i H → g (.int (lo + i)) (wipe σ vs) H fun σ2 H2 => wipe σ2 vs = wipe σ vs ∧ tt σ2 H2 fun b H3 =>
      if b = true then te σ2 H3 fun y H4 => ∃ acc, H4 D = some (.lst acc) ∧ acc.length < sizeLine ∧ Pv (i + 1) (upd H4 D (.lst (acc ++ [y]))) else Pv (i + 1) H3) (hd : ∀ H, Pv n H → Qd H) :
    ∃ W : Nat → Nat → Hp → Prop, (∃ m, W 0 m (upd H1 D (.lst []))) ∧ ∀ i m H, W i m H →
      ((Itr lo n).stop i H ∧ Qd H) ∨ ((Itr lo n).go i H ∧ ∃ Nx : Hp → Prop, (∀ H', Nx H' → ∃ m', m' < m ∧ W (i + 1) m' H') ∧ ∀ x H', (Itr lo n).yld i H x H' → g x (wipe σ vs) H' fun σ2 H2 => wipe σ2 vs = wipe σ vs ∧ tt σ2 H2 fun b H3 =>
        if b = true then te σ2 H3 fun y H4 => ∃ acc, H4 D = some (.lst acc) ∧ acc.length < sizeLine ∧ Nx (upd H4 D (.lst (acc ++ [y]))) else Nx H3) := by
  refine ⟨fun i m H => m = n - i ∧ i ≤ n ∧ Pv i H, ⟨n, by simp, Nat.zero_le _, h0⟩, ?_⟩
  rintro i m H ⟨rfl, hi, p⟩
  by_cases hlt : i < n
  · refine .inr ⟨hlt, Pv (i + 1), fun H' p' => ⟨n - (i + 1), by omega, rfl, hlt, p'⟩, fun x H' y => ?_⟩
    obtain ⟨e, y⟩ := y
    subst e y
    exact hs i _ hlt p
  · have e : i = n := by omega
    subst e
    exact .inl ⟨Nat.le_refl _, hd H p⟩
/-- over a list that the block leaves as it is -/
theorem lc_list {K : PySem.W.Frag} {a : Addr} {xs : List V} {g : TG} {tt : TT} {te : TE} {vs : List Nat} {σ : St} {H1 : Hp} {D : Addr} {Qd : Hp → Prop} (Pv : Nat → Hp → Prop) (h0 : Pv 0 (upd H1 D (.lst []))) (hl : ∀ i H, i ≤ xs.length → Pv i H → SqL K H a xs)
    (hs : ∀ i x H, xs[i]? = some x → Pv i H → g x (wipe σ vs) H fun σ2 H2 => wipe σ2 vs = wipe σ vs ∧ tt σ2 H2 fun b H3 =>
      if b = true then te σ2 H3 fun y H4 => ∃ acc, H4 D = some (.lst acc) ∧ acc.length < sizeLine ∧ Pv (i + 1) (upd H4 D (.lst (acc ++ [y]))) else Pv (i + 1) H3) (hd : ∀ H, Pv xs.length H → Qd H) :
    ∃ W : Nat → Nat → Hp → Prop, (∃ m, W 0 m (upd H1 D (.lst []))) ∧ ∀ i m H, W i m H →
      ((Itl K a).stop i H ∧ Qd H) ∨ ((Itl K a).go i H ∧ ∃ Nx : Hp → Prop, (∀ H', Nx H' → ∃ m', m' < m ∧ W (i + 1) m' H') ∧ ∀ x H', (Itl K a).yld i H x H' → g x (wipe σ vs) H' fun σ2 H2 => wipe σ2 vs = wipe σ vs ∧ tt σ2 H2 fun b H3 =>
        if b = true then te σ2 H3 fun y H4 => ∃ acc, H4 D = some (.lst acc) ∧ acc.length < sizeLine ∧ Nx (upd H4 D (.lst (acc ++ [y]))) else Nx H3) := by
  refine ⟨fun i m H => m = xs.length - i ∧ i ≤ xs.length ∧ Pv i H, ⟨xs.length, by simp, Nat.zero_le _, h0⟩, ?_⟩
  rintro i m H ⟨rfl, hi, p⟩
  have q := hl i H hi p
  by_cases hlt : i < xs.length
  · refine .inr ⟨⟨xs, xs[i], q, by simp [hlt]⟩, Pv (i + 1), fun H' p' => ⟨xs.length - (i + 1), by omega, rfl, hlt, p'⟩, fun x H' y => ?_⟩
    obtain ⟨e, y⟩ := y
    subst e
    exact hs i x _ (y xs q) p
  · have e : i = xs.length := by omega
    subst e
    exact .inl ⟨⟨xs, q, Nat.le_refl _⟩, hd H p⟩
/-- over a tuple -/
theorem lc_tup {K : PySem.W.Frag} {a : Addr} {xs : List V} {g : TG} {tt : TT} {te : TE} {vs : List Nat} {σ : St} {H1 : Hp} {D : Addr} {Qd : Hp → Prop} (Pv : Nat → Hp → Prop) (h0 : Pv 0 (upd H1 D (.lst []))) (hl : ∀ i H, i ≤ xs.length → Pv i H → SqT K H a xs)
    (hs : ∀ i x H, xs[i]? = some x → Pv i H → g x (wipe σ vs) H fun σ2 H2 => wipe σ2 vs = wipe σ vs ∧ tt σ2 H2 fun b H3 =>
      if b = true then te σ2 H3 fun y H4 => ∃ acc, H4 D = some (.lst acc) ∧ acc.length < sizeLine ∧ Pv (i + 1) (upd H4 D (.lst (acc ++ [y]))) else Pv (i + 1) H3) (hd : ∀ H, Pv xs.length H → Qd H) :
    ∃ W : Nat → Nat → Hp → Prop, (∃ m, W 0 m (upd H1 D (.lst []))) ∧ ∀ i m H, W i m H →
      ((Itt K a).stop i H ∧ Qd H) ∨ ((Itt K a).go i H ∧ ∃ Nx : Hp → Prop, (∀ H', Nx H' → ∃ m', m' < m ∧ W (i + 1) m' H') ∧ ∀ x H', (Itt K a).yld i H x H' → g x (wipe σ vs) H' fun σ2 H2 => wipe σ2 vs = wipe σ vs ∧ tt σ2 H2 fun b H3 =>
        if b = true then te σ2 H3 fun y H4 => ∃ acc, H4 D = some (.lst acc) ∧ acc.length < sizeLine ∧ Nx (upd H4 D (.lst (acc ++ [y]))) else Nx H3) := by
  refine ⟨fun i m H => m = xs.length - i ∧ i ≤ xs.length ∧ Pv i H, ⟨xs.length, by simp, Nat.zero_le _, h0⟩, ?_⟩
  rintro i m H ⟨rfl, hi, p⟩
  have q := hl i H hi p
  by_cases hlt : i < xs.length
  · refine .inr ⟨⟨xs, xs[i], q, by simp [hlt]⟩, Pv (i + 1), fun H' p' => ⟨xs.length - (i + 1), by omega, rfl, hlt, p'⟩, fun x H' y => ?_⟩
    obtain ⟨e, y⟩ := y
    subst e
    exact hs i x _ (y xs q) p
  · have e : i = xs.length := by omega
    subst e
    exact .inl ⟨⟨xs, q, Nat.le_refl _⟩, hd H p⟩
def blkC (N : List Str) (sc scope : Scope) (own : List (Str × Nat)) : Bool :=
  (match scope.kind with | .function => true | _ => false) && (scope.names.all fun y => decide (scope.names.lookup y.1 = some y.2)) && (own.all fun p => decide (N[p.2]? = some p.1)) &&
    (scope.names.all fun y => match y.2 with
      | .free => (match sc.names.lookup y.1 with | some .cell => true | some .free => true | _ => false)
      | .local => decide (y.1 ∈ own.map (·.1)) || decide (y.1 ∉ N)
      | .cell => decide (y.1 ∈ own.map (·.1)) || decide (y.1 ∉ N)
      | _ => true)
theorem blkOk_by {N : List Str} {sc scope : Scope} {own : List (Str × Nat)} (h : blkC N sc scope own = true) : BlkOk N sc scope own := by
  unfold blkC at h
  simp only [Bool.and_eq_true, List.all_eq_true, decide_eq_true_eq] at h
  obtain ⟨⟨⟨h1, h2⟩, h3⟩, h4⟩ := h
  refine ⟨?_, h2, h3, fun y hy e => ?_, fun y hy e => ?_⟩
  · split at h1
    · assumption
    · cases h1
  · have q := h4 y hy
    simp only [e] at q
    split at q <;> first | exact .inl (by assumption) | exact .inr (by assumption) | cases q
  · have q := h4 y hy
    rcases e with e | e <;> (simp only [e, Bool.or_eq_true, decide_eq_true_eq] at q; exact q)
end L2

namespace L2
open PySem PySem.Spec PyProof.Rows

section
variable {prog : Program} {w : World} {A : Around} {R : Result → Shared → Prop} {s : Shared} {elt t0 i0 t1 i1 : Expr} {ifs0 ifs1 : List Expr} {scope : Scope} {pos : Pos} {it acc : Value} {env : Env}
end

section
variable {X : Cx}
end
end L2

namespace L2
open PySem PySem.Spec PyProof.Rows

/-! ### lists of pairs as tables -/
section
variable {κ : Type} [DecidableEq κ]
def valV (kvs : List (κ × V)) (k : κ) : Option V := (kvs.find? fun kv => decide (kv.1 = k)).map (·.2)
/-- in its place, or at the end -/
def putK (kvs : List (κ × V)) (k : κ) (v : V) : List (κ × V) :=
  if (kvs.any fun kv => decide (kv.1 = k)) = true then kvs.map (fun kv => if kv.1 = k then (kv.1, v) else kv) else kvs ++ [(k, v)]
def dropK (kvs : List (κ × V)) (k : κ) : List (κ × V) := kvs.filter fun kv => decide (kv.1 ≠ k)

theorem valV_pos {p : κ × V} {r : List (κ × V)} {k : κ} (e : p.1 = k) : valV (p :: r) k = some p.2 := by simp [valV, List.find?_cons, e]
theorem valV_neg {p : κ × V} {r : List (κ × V)} {k : κ} (e : ¬ p.1 = k) : valV (p :: r) k = valV r k := by simp [valV, List.find?_cons, e]
theorem valV_any (k : κ) : ∀ kvs : List (κ × V), (kvs.any fun kv => decide (kv.1 = k)) = (valV kvs k).isSome
  | [] => rfl
  | p :: r => by
    rw [List.any_cons]
    by_cases e : p.1 = k
    · simp only [valV_pos e, decide_eq_true e, Bool.true_or, Option.isSome_some]
    · rw [valV_neg e, decide_eq_false e, Bool.false_or]; exact valV_any k r
theorem putK_new {kvs : List (κ × V)} {k : κ} (v : V) (h : valV kvs k = none) : putK kvs k v = kvs ++ [(k, v)] := by
  unfold putK
  rw [valV_any, h]
  exact if_neg (by decide)

theorem RelO.isSome_eq {o : Option V} {u : Option Value} (r : RelO o u) : o.isSome = u.isSome := by
  cases o with
  | none => cases u with
    | none => rfl
    | some _ => exact (show False from r).elim
  | some _ => cases u with
    | none => exact (show False from r).elim
    | some _ => rfl
theorem RelO.getD {o : Option V} {u : Option Value} {d : V} {d' : Value} (r : RelO o u) (rd : RelV d d') : RelV (o.getD d) (u.getD d') := by
  cases o with
  | none => cases u with
    | none => exact rd
    | some _ => exact (show False from r).elim
  | some _ => cases u with
    | none => exact (show False from r).elim
    | some _ => exact r

/-- raw tables of the same keys -/
theorem KV.val {kvs : List (κ × V)} {vs : List (κ × Value)} (r : KV kvs vs) (k : κ) : RelO (valV kvs k) (valueAt vs k) := by
  unfold KV at r
  induction r with
  | nil => exact True.intro
  | @cons p q ps qs h t ih =>
    obtain ⟨h1, h2⟩ := h
    by_cases e : p.1 = k
    · have e' : q.1 = k := h1.symm.trans e
      have b : valueAt (q :: qs) k = some q.2 := by simp [valueAt, List.find?_cons, e']
      rw [valV_pos e, b]; exact h2
    · have e' : ¬ q.1 = k := fun z => e (h1.trans z)
      have b : valueAt (q :: qs) k = valueAt qs k := by simp [valueAt, List.find?_cons, e']
      rw [valV_neg e, b]; exact ih
theorem KV.any {kvs : List (κ × V)} {vs : List (κ × Value)} (r : KV kvs vs) (k : κ) : (kvs.any fun kv => decide (kv.1 = k)) = vs.any fun kv => decide (kv.1 = k) := by
  unfold KV at r
  induction r with
  | nil => rfl
  | cons h t ih => rw [List.any_cons, List.any_cons, ih, h.1]
theorem KV.repl {kvs : List (κ × V)} {vs : List (κ × Value)} (r : KV kvs vs) (k : κ) {y : V} {u : Value} (ry : RelV y u) :
    KV (kvs.map fun kv => if kv.1 = k then (kv.1, y) else kv) (vs.map fun kv => if kv.1 = k then (kv.1, u) else kv) := by
  unfold KV at r ⊢
  induction r with
  | nil => exact .nil
  | @cons p q ps qs h t ih =>
    rw [List.map_cons, List.map_cons]
    refine .cons ?_ ih
    obtain ⟨h1, h2⟩ := h
    by_cases e : p.1 = k
    · rw [if_pos e, if_pos (h1.symm.trans e)]; exact ⟨h1, ry⟩
    · rw [if_neg e, if_neg (fun z => e (h1.trans z))]; exact ⟨h1, h2⟩
theorem KV.put {kvs : List (κ × V)} {vs : List (κ × Value)} (r : KV kvs vs) (k : κ) {y : V} {u : Value} (ry : RelV y u) : KV (putK kvs k y) (stored vs k u) := by
  unfold putK stored
  rw [r.any k]
  by_cases e : (vs.any fun kv => decide (kv.1 = k)) = true
  · rw [if_pos e, if_pos e]; exact r.repl k ry
  · rw [if_neg e, if_neg e]; exact Paired.snoc r ⟨rfl, ry⟩
theorem KV.drop {kvs : List (κ × V)} {vs : List (κ × Value)} (r : KV kvs vs) (k : κ) : KV (dropK kvs k) (without vs k) := by
  unfold KV at r ⊢
  unfold dropK without
  induction r with
  | nil => exact .nil
  | @cons p q ps qs h t ih =>
    obtain ⟨h1, h2⟩ := h
    rw [List.filter_cons, List.filter_cons]
    by_cases e : p.1 = k
    · have a : ¬ decide (p.1 ≠ k) = true := by simp [e]
      have b : ¬ decide (q.1 ≠ k) = true := by simp [h1.symm.trans e]
      rw [if_neg a, if_neg b]; exact ih
    · have e' : ¬ q.1 = k := fun z => e (h1.trans z)
      have a : decide (p.1 ≠ k) = true := by simp [e]
      have b : decide (q.1 ≠ k) = true := by simp [e']
      rw [if_pos a, if_pos b]; exact .cons ⟨h1, h2⟩ ih
theorem KV.keys {kvs : List (κ × V)} {vs : List (κ × Value)} (r : KV kvs vs) : kvs.map (·.1) = vs.map (·.1) := by
  unfold KV at r
  induction r with
  | nil => rfl
  | cons h t ih => rw [List.map_cons, List.map_cons, ih, h.1]
theorem KV.length {kvs : List (κ × V)} {vs : List (κ × Value)} (r : KV kvs vs) : kvs.length = vs.length := Paired.length r
end


/-! ### a tracked dict, its keys ints and texts or tuples of these -/
theorem kV_is {P : Program} {w : World} {k : Key} {u : Value} (r : RelV (kV k) u) : (mixKind P w).is k u = true := by
  cases k with
  | inl i => obtain ⟨t, e⟩ := (show ∃ t, u = Value.int i t from r); subst e; exact mixKind_int P w i t
  | inr x => obtain ⟨t, e⟩ := (show ∃ t, u = Value.str x t from r); subst e; exact mixKind_str P w x t
/-- raw entries of a dict with tuple keys -/
abbrev KT (H : Hp) : List (List Key × V) → List (List Key × Addr × Value) → Prop := Paired fun p q => p.1 = q.1 ∧ H q.2.1 = some (.tup (p.1.map kV)) ∧ RelV p.2 q.2.2
theorem KT.val {H : Hp} {kvs : List (List Key × V)} {xs : List (List Key × Addr × Value)} (r : KT H kvs xs) (k : List Key) : RelO (valV kvs k) ((atKey xs k).map (·.2)) := by
  induction r with
  | nil => exact True.intro
  | @cons p q ps qs h t ih =>
    obtain ⟨h1, _, h2⟩ := h
    by_cases e : p.1 = k
    · have e' : q.1 = k := h1.symm.trans e
      have b : atKey (q :: qs) k = some q.2 := by simp [atKey, List.find?_cons, e']
      rw [valV_pos e, b]; exact h2
    · have e' : ¬ q.1 = k := fun z => e (h1.trans z)
      have b : atKey (q :: qs) k = atKey qs k := by simp [atKey, List.find?_cons, e']
      rw [valV_neg e, b]; exact ih
theorem KT.repl {H : Hp} {kvs : List (List Key × V)} {xs : List (List Key × Addr × Value)} (r : KT H kvs xs) (k : List Key) {y : V} {u : Value} (ry : RelV y u) :
    KT H (kvs.map fun kv => if kv.1 = k then (kv.1, y) else kv) (xs.map (putAt k u)) := by
  induction r with
  | nil => exact .nil
  | @cons p q ps qs h t ih =>
    rw [List.map_cons, List.map_cons]
    refine .cons ?_ ih
    obtain ⟨h1, h2, h3⟩ := h
    unfold putAt
    by_cases e : p.1 = k
    · rw [if_pos e, if_pos (h1.symm.trans e)]; exact ⟨h1, h2, ry⟩
    · rw [if_neg e, if_neg (fun z => e (h1.trans z))]; exact ⟨h1, h2, h3⟩
theorem KT.put {H : Hp} {kvs : List (List Key × V)} {xs : List (List Key × Addr × Value)} (r : KT H kvs xs) (k : List Key) {b : Addr} {y : V} {u : Value} (hb : H b = some (.tup (k.map kV))) (ry : RelV y u) :
    KT H (putK kvs k y) (storedH xs k b u) := by
  have e : (kvs.any fun kv => decide (kv.1 = k)) = (atKey xs k).isSome := by
    rw [valV_any, (r.val k).isSome_eq, Option.isSome_map]
  unfold putK storedH
  rw [e]
  by_cases q : (atKey xs k).isSome = true
  · rw [if_pos q, if_pos q]; exact r.repl k ry
  · rw [if_neg q, if_neg q]; exact Paired.snoc r ⟨rfl, hb, ry⟩
theorem KT.keeps {H H' : Hp} {kvs : List (List Key × V)} {xs : List (List Key × Addr × Value)} (r : KT H kvs xs) (ht : ∀ b ys, H b = some (.tup ys) → H' b = some (.tup ys)) : KT H' kvs xs :=
  Paired.mapP r fun _ _ z => ⟨z.1, ht _ _ z.2.1, z.2.2⟩

section
variable {P : Program} {w : World} {H : Hp} {h : Heap} {a : Addr}
theorem rd_of {u : HO} (ok : HOk P w H h) (e : Rd H a u) : ObjOk P w H h a u := e.ok ok
theorem dk_rd {kvs : List (Key × V)} (ok : HOk P w H h) (e : Rd H a (.dK kvs)) : kvs.length ≤ sizeLine ∧ (a == sysModules) = false ∧ ∃ vs, KV kvs vs ∧ h.DictOf (mixKind P w) a vs :=
  show ObjOk P w H h a (.dK kvs) from rd_of ok e
theorem dk_of {kvs : List (Key × V)} (ok : HOk P w H h) (e : H a = some (.dK kvs)) : kvs.length ≤ sizeLine ∧ (a == sysModules) = false ∧ ∃ vs, KV kvs vs ∧ h.DictOf (mixKind P w) a vs := dk_rd ok (.inl e)
end

/-- what the dict at a holds at the key y -/
def DGet (H : Hp) (a : Addr) (y : V) (r : Option V) : Prop :=
  (∃ kvs k, Rd H a (.dK kvs) ∧ y = kV k ∧ r = valV kvs k) ∨ ∃ kvs k b, Rd H a (.dT kvs) ∧ y = .ref b ∧ H b = some (.tup (k.map kV)) ∧ r = valV kvs k
/-- the heap behind a[y] = v -/
def DPut (H : Hp) (a : Addr) (y v : V) (H' : Hp) : Prop :=
  (∃ kvs k, H a = some (.dK kvs) ∧ y = kV k ∧ kvs.length < sizeLine ∧ H' = upd H a (.dK (putK kvs k v))) ∨
  ∃ kvs k b, H a = some (.dT kvs) ∧ y = .ref b ∧ H b = some (.tup (k.map kV)) ∧ kvs.length < sizeLine ∧ H' = upd H a (.dT (putK kvs k v))
theorem DGet.k {H : Hp} {a : Addr} {kvs : List (Key × V)} {k : Key} (e : H a = some (.dK kvs)) : DGet H a (kV k) (valV kvs k) := .inl ⟨kvs, k, .inl e, rfl, rfl⟩
theorem DGet.t {H : Hp} {a b : Addr} {kvs : List (List Key × V)} {k : List Key} (e : H a = some (.dT kvs)) (eb : H b = some (.tup (k.map kV))) : DGet H a (.ref b) (valV kvs k) := .inr ⟨kvs, k, b, .inl e, rfl, eb, rfl⟩
theorem DPut.k {H : Hp} {a : Addr} {kvs : List (Key × V)} {k : Key} {v : V} (e : H a = some (.dK kvs)) (hl : kvs.length < sizeLine) : DPut H a (kV k) v (upd H a (.dK (putK kvs k v))) := .inl ⟨kvs, k, e, rfl, hl, rfl⟩
theorem DPut.t {H : Hp} {a b : Addr} {kvs : List (List Key × V)} {k : List Key} {v : V} (e : H a = some (.dT kvs)) (eb : H b = some (.tup (k.map kV))) (hl : kvs.length < sizeLine) :
    DPut H a (.ref b) v (upd H a (.dT (putK kvs k v))) := .inr ⟨kvs, k, b, e, rfl, eb, hl, rfl⟩


section
variable {X : Cx} {pins : List (Addr × Obj)} {σ : St} {H : Hp} {s : Shared} {a : Addr} {y v : V} {u r : Value} {o : Option V} {A : Around} {E : Value → Shared → Prop}

end

section
variable {X : Cx} {pins : List (Addr × Obj)} {σ : St} {H : Hp} {s : Shared} {a : Addr} {kvs : List (Key × V)} {k : Key} {u : Value} {A : Around} {E : Value → Shared → Prop}
end


/-! ### readings and rules -/
/-- the element of a subscription, not a slice -/
def NoSl (i : Expr) : Prop := ∀ ov iv, subscripted i false ov iv = operate [ov, iv] (getItem ov iv)
theorem subD_of {prog : Program} {w : World} {A : Around} {E : Value → Shared → Prop} {s : Shared} {env : Env} {value slice : Expr} {pos : Pos} {T id : String} {Q : Value → Shared → Prop}
    (hl : typeLookup (.type T) "__getitem__" = pure (some (.builtin id))) (hs : NoSl slice)
    (h : wpAny (model prog w) A (eval value env) (fun o s₁ => wpAny (model prog w) A (eval slice env) (fun i s₂ => s₂.TypeIs o T ∧ wpAny (model prog w) A (getItem o i) Q E s₂) E s₁) E s) :
    wpAny (model prog w) A (eval (.Subscript value slice pos) env) Q E s := by
  refine Subscript_ (wpAny_mono h (fun o s₁ h₁ => wpAny_mono h₁ (fun i s₂ h₂ => ?_) fun _ _ x => x) fun _ _ x => x)
  obtain ⟨hT, h₂⟩ := h₂
  unfold subscriptTail
  refine wpAny_bind ?_
  rw [getitemInPython_of_ne hT.not_modules]
  refine wpAny_bind (wpAny_specialOf hT hl ?_)
  have fin : wpAny (model prog w) A (subscripted slice false o i) (fun r s₃ => wpAny (model prog w) A (letTemporaryGo value o r >>= fun _ => pure r) Q E s₃) E s₂ := by
    rw [hs o i]
    exact wpAny_operating (wpAny_mono h₂ (fun r s₃ h₃ => wpAny_bind (wpAny_letTemporaryGo (wpAny_pure h₃))) fun _ _ x => x)
  first
    | exact wpAny_pure (wpAny_bind fin)
    | exact wpAny_bind (wpAny_pure (wpAny_bind fin))
    | exact wpAny_bind fin

section
variable {X : Cx} {o i e value : Expr} {pos pos' tpos : Pos} {td ty tv : TE}
end


section
variable {X : Cx} {pos : Pos}
end

/-! ### methods -/
/-- a method call o.m(e) of a built-in, with one argument: what must be seen of the text -/
structure M1 (X : Cx) (o : Expr) (m : Str) (apos : Pos) (e : Expr) (cpos : Pos) : Prop where
  base : attributeBase o m X.env (eval o X.env) = eval o X.env
  few : ((backTo cpos (starEach [e] X.env)).all (fun x => !x.1) && (backToKw cpos (keywordEach [] X.env)).all (fun x => x.1.isSome)
    && decide (([e] : List Expr).length + ([] : List Keyword).length + (if ([] : List Keyword).isEmpty then 0 else 1) < 30)) = true
  line : (apos.endLine == cpos.line) = true
  trees : backTo cpos (starEach [e] X.env) = [(false, eval e X.env)]
structure M2 (X : Cx) (o : Expr) (m : Str) (apos : Pos) (e f : Expr) (cpos : Pos) : Prop where
  base : attributeBase o m X.env (eval o X.env) = eval o X.env
  few : ((backTo cpos (starEach [e, f] X.env)).all (fun x => !x.1) && (backToKw cpos (keywordEach [] X.env)).all (fun x => x.1.isSome)
    && decide (([e, f] : List Expr).length + ([] : List Keyword).length + (if ([] : List Keyword).isEmpty then 0 else 1) < 30)) = true
  line : (apos.endLine == cpos.line) = true
  trees : backTo cpos (starEach [e, f] X.env) = [(false, eval e X.env), (false, eval f X.env)]

section
variable {X : Cx} {pins : List (Addr × Obj)} {σ : St} {H : Hp} {s : Shared} {a : Addr} {y d : V} {u r : Value} {o : Option V} {A : Around} {E : Value → Shared → Prop}
end

section
variable {X : Cx} {o e f : Expr} {apos cpos : Pos} {td ty tx : TE}
end

/-! ### dict(d): a copy -/
section
variable {X : Cx} {pins : List (Addr × Obj)} {σ : St} {H : Hp} {s : Shared} {a : Addr} {kvs : List (Key × V)} {A : Around} {E : Value → Shared → Prop}
end


section
variable {X : Cx} {pins : List (Addr × Obj)} {σ : St} {H : Hp} {s : Shared} {a : Addr} {y : V} {u : Value} {A : Around} {E : Value → Shared → Prop}
end
end L2

namespace L2
open PySem PySem.Spec PyProof.Rows

section
variable {prog : Program} {w : World} {A : Around} {E : Value → Shared → Prop}
end

section
variable {X : Cx}
end
end L2

namespace L2
open PySem PySem.Spec PyProof.Rows

section
variable {X : Cx} {pins : List (Addr × Obj)} {σ : St} {H : Hp} {s : Shared} {h' : Heap}
/-- several records of ours have turned -/
theorem Inv.turnedL {t' : Nat} {ch : List Addr} (I : Inv X pins σ H s) (k : ∀ b o, b ∉ ch → s.heap.get? b = some o → h'.get? b = some o) (hf : ∀ b ∈ ch, FpOk X pins H b) : Inv X pins σ H { s with heap := h', toks := t' } := by
  have nit : ∀ b u, H b = some u → b ∉ ch := fun b u e z => by
    have q := (hf b z).1
    rw [q] at e; cases e
  refine I.step (g' := s.gens) (d' := s.drawn) (ch := ch) (fun b hb => ⟨(hf b hb).2.2.2.1, (hf b hb).2.1, (hf b hb).2.2.2.2.1, (hf b hb).2.2.2.2.2⟩) (fun b o _ _ hc e _ => k b o hc e) (fun b o _ _ hc e _ => ⟨o.slots, k b o hc e⟩)
    (fun _ _ _ _ n => n) (fun b o hc e => ⟨o, k b o hc e⟩) (fun _ _ e => e) (fun _ _ _ e => e) (fun b ps e => ⟨#[], by rw [e]; simp⟩) (fun m hm => ?_) (fun b u e => ?_) I.bare
  · obtain ⟨o, es, ep, ho, r⟩ := hm
    exact ⟨o, es, ep, k _ o (fun z => (hf _ z).2.1 rfl) ho, r⟩
  · refine (I.hok b u e).stay (fun c v hc q => k c v ?_ q) (fun _ q => q) fun _ _ q => q
    rcases hc with z | z
    · rw [z]; exact nit b u e
    · exact nit c _ z
/-- .. and one new object is laid -/
theorem Inv.turnedNew {t' : Nat} {ch : List Addr} {T : Addr} {ob : HO} (I : Inv X pins σ H s) (k : ∀ b o, b ∉ ch → s.heap.get? b = some o → h'.get? b = some o) (hf : ∀ b ∈ ch, FpOk X pins H b) (hT : s.heap.objs.size ≤ T)
    (new : ObjOk X.prog X.w (upd H T ob) h' T ob) : Inv X pins σ (upd H T ob) { s with heap := h', toks := t' } := by
  have hn : H T = none := I.hok.fresh hT
  have nit : ∀ b u, H b = some u → b ∉ ch := fun b u e z => by
    have q := (hf b z).1
    rw [q] at e; cases e
  refine I.step (g' := s.gens) (d' := s.drawn) (ch := ch) (fun b hb => ⟨(hf b hb).2.2.2.1, (hf b hb).2.1, (hf b hb).2.2.2.2.1, (hf b hb).2.2.2.2.2⟩) (fun b o _ _ hc e _ => k b o hc e) (fun b o _ _ hc e _ => ⟨o.slots, k b o hc e⟩)
    (fun b o _ e n => ?_) (fun b o hc e => ⟨o, k b o hc e⟩) (fun b xs e => ?_) (fun b o u e => ?_) (fun b ps e => ⟨#[], ?_⟩) (fun m hm => ?_) (fun b u e => ?_) I.bare
  · rw [upd_ne (Nat.ne_of_lt (Nat.lt_of_lt_of_le (Heap.lt_size e) hT))]; exact n
  · rw [upd_ne (ne_of_none e hn)]; exact e
  · rw [upd_ne (ne_of_none e hn)]; exact e
  · rw [upd_ne (ne_of_none e hn), e]; simp
  · obtain ⟨o, es, ep, ho, r⟩ := hm
    exact ⟨o, es, ep, k _ o (fun z => (hf _ z).2.1 rfl) ho, r⟩
  · by_cases hb : b = T
    · subst hb
      rw [upd_same] at e
      cases e
      exact new
    · rw [upd_ne hb] at e
      refine (I.hok b u e).stay (fun c v hc q => k c v ?_ q) (fun c q => by rw [upd_ne (ne_of_none q hn)]; exact q) fun c xs q => by rw [upd_ne (ne_of_none q hn)]; exact q
      rcases hc with z | z
      · rw [z]; exact nit b u e
      · exact nit c _ z

end
section
variable {X : Cx}
end

/-- range(i, j, c): small bounds, n items -/
def RgC (i j c : Int) (n : Nat) : Prop := c ≠ 0 ∧ c.natAbs < 1073741824 ∧ Builtin.Range.small i j c = true ∧ Builtin.Range.rangeSize i j c = n
theorem RgC.neg {i j : Int} (ha : -(2 ^ 62) ≤ i) (ha' : i < 2 ^ 62) (hb : -(2 ^ 62) ≤ j) (hb' : j < 2 ^ 62) : RgC i j (-1) (i - j).toNat :=
  ⟨by decide, by decide, PySem.W.small_down ha ha' hb hb', PySem.W.rangeSize_downNat i j⟩
section
variable {X : Cx} {tg : Expr}
end
section
variable {X : Cx} {tg : Expr}
end

/-! ### a dict's keys: any dict's entries -/
section
variable {prog : Program} {w : World} {A : Around} {E : Value → Shared → Prop} {s : Shared}
end

theorem paired_get {α β : Type} {G : α → β → Prop} {l₁ : List α} {l₂ : List β} (h : Paired G l₁ l₂) : ∀ {i : Nat} {a : α}, l₁[i]? = some a → ∃ b, l₂[i]? = some b ∧ G a b := by
  induction h with
  | nil => intro i a e; simp at e
  | @cons a b l₁ l₂ r t ih =>
    intro i a' e
    cases i with
    | zero =>
      simp only [List.getElem?_cons_zero, Option.some.injEq] at e
      subst e
      exact ⟨b, rfl, r⟩
    | succ j =>
      simp only [List.getElem?_cons_succ] at e ⊢
      exact ih e
section
variable {X : Cx} {pins : List (Addr × Obj)} {σ : St} {H : Hp} {s : Shared} {d : Addr} {o : Obj}
end

section
variable {P : Program} {w : World} {K : PySem.W.Frag} {tg : Expr} {d : Addr} {o : Obj} {es : Array DictEntry} {ep : Nat}
end

section
variable {X : Cx} {tg e : Expr} {td : TE} {apos cpos : Pos}
end

/-! ### enumerate(list) -/
/-- the list at a as it stands at each turn, each item in a new pair -/
def Ite (K : PySem.W.Frag) (a : Addr) : It :=
  ⟨fun i H => ∃ (xs : List V) (x : V), SqL K H a xs ∧ xs[i]? = some x, fun i H v H' => ∃ T x, v = .ref T ∧ H T = none ∧ H' = upd H T (.tup [.int (i : Nat), x]) ∧ ∀ xs, SqL K H a xs → xs[i]? = some x, fun i H => ∃ xs : List V, SqL K H a xs ∧ xs.length ≤ i⟩
theorem turn_enum {P : Program} {w : World} {K : PySem.W.Frag} {elts : List Expr} {kk : Nat} {tpos : Pos} (a e it : Addr) :
    Turn P w K (.Tuple elts kk tpos) (Ite K a) [e, it] e (fun i h => (∃ old, IsEnum h e it ((i : Nat) : Int) old) ∧ h.IsListIter it a i ∧ e ≠ it) where
  mem := by simp
  obj := fun i h st b hb => by
    obtain ⟨⟨old, he⟩, ⟨o, ho, hc, hd⟩, _⟩ := st
    have e' : b = e ∨ b = it := by simpa using hb
    rcases e' with z | z
    · rw [z]; exact ⟨_, he, fun v q => nomatch q⟩
    · rw [z]; exact ⟨o, ho, fun v q => by rw [hd] at q; cases q⟩
  keep := fun i h h' st k => let ⟨⟨old, he⟩, hi, hne⟩ := st; ⟨⟨old, k e (by simp) _ he⟩, hi.at fun o q => k it (by simp) o q, hne⟩
  item := by
    intro X hP hw hK hc i pins s σ H E I hf st hg
    subst hP hw hK
    obtain ⟨⟨old, he⟩, hit, hne⟩ := st
    obtain ⟨xs, x, hq, hx⟩ := hg
    obtain ⟨its, rv, p, hz⟩ := I.list hq
    obtain ⟨u, hu, ru⟩ := rv.get hx
    have hel : e < s.heap.objs.size := Heap.lt_size he
    have hil : it < s.heap.objs.size := by obtain ⟨_, q, _⟩ := hit; exact Heap.lt_size q
    refine wpAny_pyNext_enum_item he hit p.isList (x := u) (by simpa using hu) hne fun h' ho hit' hT hsz hk => ?_
    refine ⟨_, rfl, wpAny_letOwnedTupleGo_enum (s := { s with heap := h', toks := s.toks + 1 }) ho fun h'' he' sb => ?_⟩
    have hT2 : h''.get? s.heap.objs.size = some { cls := .type "tuple", data := .seq #[.int i s.toks, u] } := (sb.2 _ (Nat.ne_of_gt hel)).trans hT
    have new : ObjOk X.prog X.w (upd H s.heap.objs.size (.tup [.int (i : Nat), x])) h'' s.heap.objs.size (.tup [.int (i : Nat), x]) :=
      ⟨by show 2 ≤ sizeLine; decide, [.int i s.toks, u], .cons ⟨_, rfl⟩ (.cons ru .nil), ⟨_, hT2, rfl, _, rfl⟩⟩
    have I1 : Inv X pins σ (upd H s.heap.objs.size (.tup [.int (i : Nat), x])) { s with heap := h'', toks := s.toks + 1 } :=
      I.turnedNew (ch := [e, it]) (fun b ob hb q => (sb.2 b (fun z => hb (by simp [z]))).trans (hk b ob (fun z => hb (by simp [z])) (fun z => hb (by simp [z])) q)) hf (Nat.le_refl _) new
    refine ⟨.ref s.heap.objs.size, _, I1, rfl, ⟨_, x, rfl, I.hok.fresh (Nat.le_refl _), rfl, fun ys hy => by rw [I.list_inj hy hq]; exact hx⟩, ⟨⟨u, ?_⟩, hit'.at fun o q => (sb.2 it (Ne.symm hne)).trans q, hne⟩, fun b hb => ?_⟩
    · have e1 : ((i + 1 : Nat) : Int) = (i : Int) + 1 := by omega
      rw [e1]; exact he'
    · have hb' : b < s.heap.objs.size := by
        have e' : b = e ∨ b = it := by simpa using hb
        rcases e' with z | z
        · rw [z]; exact hel
        · rw [z]; exact hil
      rw [upd_ne (Nat.ne_of_lt hb')]
      exact (hf b hb).1
  done := by
    intro X hP hw hK hc i pins s σ H E I hf st hg
    subst hP hw hK
    obtain ⟨⟨old, he⟩, hit, hne⟩ := st
    obtain ⟨xs, hq, hx⟩ := hg
    obtain ⟨its, rv, p, hz⟩ := I.list hq
    obtain ⟨f0, f1, f2, f3, f4, f5⟩ := hf it (by simp)
    have hl := rv.length
    exact wpAny_pyNext_enum_end (I.ok.hd hc) he hit p.isList (by simp; omega) fun h' eb => ⟨rfl, I.turned (t' := s.toks) (fun b o hb q => eb b o hb q) f0 f1 f3 f4 f5⟩
  self := fun A i s Q E st h => let ⟨⟨_, he⟩, _⟩ := st; wpAny_pyIter_enum he h
def iEnum (K : PySem.W.Frag) (ta : TA) : TI := fun σ H R => ta σ H fun vs H1 => ∃ a xs, vs = [.ref a] ∧ SqL K H1 a xs ∧ R (Ite K a) H1
theorem pi_enum {X : Cx} {e : Expr} {ta : TA} {p pos tpos : Pos} {elts : List Expr} {kk : Nat} (hg : Gl X "enumerate") (hm : X.mg "enumerate" = none) (ha : PA X [e] ta) (hs : starEach [e] X.env = [(false, eval e X.env)] := by rfl) :
    PI X (.Tuple elts kk tpos) (.Call (.Name "enumerate" p) [e] [] pos) (iEnum X.K ta) := by
  intro pins s σ H R I h
  refine Call_ (ld_blt I hg hm boot_enumerate (PyProof.Rows.callWith_type1 (thn (ha pos pins s σ H _ I h) fun us s1 ⟨vs, H1, I1, r1, q1⟩ => ?_) hs rfl))
  obtain ⟨a, xs, ex, hq, q⟩ := q1
  subst ex
  cases r1 with
  | cons r rr =>
    cases rr
    cases r
    obtain ⟨its, rv, p', hz⟩ := I1.list hq
    refine call_enumerate_list p'.isList fun h' he hit hsz hk => wpAny_pyIter_enum he ?_
    have I2 : Inv X pins σ H1 { s1 with heap := h' } := I1.kept (t' := s1.toks) hk
    refine ⟨s1.heap.objs.size + 1, [s1.heap.objs.size + 1, s1.heap.objs.size], _, _, H1, rfl, I2, turn_enum a (s1.heap.objs.size + 1) s1.heap.objs.size, ⟨⟨.none, he⟩, hit, Nat.succ_ne_self _⟩, fun b hb => ?_, q⟩
    have e' : b = s1.heap.objs.size + 1 ∨ b = s1.heap.objs.size := by simpa using hb
    have hle : s1.heap.objs.size ≤ b := by
      rcases e' with z | z
      · rw [z]; exact Nat.le_add_right _ _
      · rw [z]; exact Nat.le_refl _
    exact I1.fpOk hle (I1.hok.fresh hle)
/-! ### zip(list, list) -/
theorem boot_zip5 : bootBuiltins "zip" = some (.type "zip") := by decide +kernel
/-- the lists at a and b as they stand at each turn, the items in new pairs -/
def Itz (K : PySem.W.Frag) (a b : Addr) : It :=
  ⟨fun i H => ∃ (xs ys : List V) (x y : V), SqL K H a xs ∧ SqL K H b ys ∧ xs[i]? = some x ∧ ys[i]? = some y,
    fun i H v H' => ∃ T x y, v = .ref T ∧ H T = none ∧ H' = upd H T (.tup [x, y]) ∧ (∀ xs, SqL K H a xs → xs[i]? = some x) ∧ ∀ ys, SqL K H b ys → ys[i]? = some y,
    fun i H => ∃ xs ys : List V, SqL K H a xs ∧ SqL K H b ys ∧ (xs.length ≤ i ∨ ys.length ≤ i)⟩
theorem turn_zip {P : Program} {w : World} {K : PySem.W.Frag} {elts : List Expr} {kk : Nat} {tpos : Pos} {a b z TI TO i1 i2 : Addr} (D : ZipApart z TI TO i1 i2 a b) :
    Turn P w K (.Tuple elts kk tpos) (Itz K a b) [z, TI, TO, i1, i2] z (fun i h => IsZip h z TI TO .none ∧ IsPair h TI (.ref i1) (.ref i2) ∧ (∃ x y, IsPair h TO x y) ∧ h.IsListIter i1 a i ∧ h.IsListIter i2 b i) where
  mem := by simp
  obj := fun i h st c hc => by
    obtain ⟨hz, hTI, ⟨x, y, hTO⟩, ⟨o1, e1, _, d1⟩, ⟨o2, e2, _, d2⟩⟩ := st
    have e' : c = z ∨ c = TI ∨ c = TO ∨ c = i1 ∨ c = i2 := by simpa using hc
    rcases e' with q | q | q | q | q
    · rw [q]; exact ⟨_, hz, fun v q => nomatch q⟩
    · rw [q]; exact ⟨_, hTI, fun v q => nomatch q⟩
    · rw [q]; exact ⟨_, hTO, fun v q => nomatch q⟩
    · rw [q]; exact ⟨o1, e1, fun v q => by rw [d1] at q; cases q⟩
    · rw [q]; exact ⟨o2, e2, fun v q => by rw [d2] at q; cases q⟩
  keep := fun i h h' st k => by
    obtain ⟨hz, hTI, ⟨x, y, hTO⟩, h1, h2⟩ := st
    exact ⟨k z (by simp) _ hz, k TI (by simp) _ hTI, ⟨x, y, k TO (by simp) _ hTO⟩, h1.at fun o q => k i1 (by simp) o q, h2.at fun o q => k i2 (by simp) o q⟩
  item := by
    intro X hP hw hK hc i pins s σ H E I hf st hg
    subst hP hw hK
    obtain ⟨hz, hTI, ⟨x0, y0, hTO⟩, h1, h2⟩ := st
    obtain ⟨xs, ys, x, y, hqx, hqy, hx, hy⟩ := hg
    obtain ⟨its, rv, p, _⟩ := I.list hqx
    obtain ⟨its2, rv2, p2, _⟩ := I.list hqy
    obtain ⟨u, hu, ru⟩ := rv.get hx
    obtain ⟨u2, hu2, ru2⟩ := rv2.get hy
    have hzl : z < s.heap.objs.size := Heap.lt_size hz
    refine wpAny_pyNext_zip_item D hz hTI hTO h1 h2 p.isList p2.isList (x := u) (y := u2) (by simpa using hu) (by simpa using hu2) fun h' z' TO' h1' h2' hT hsz hk => ?_
    refine ⟨_, rfl, wpAny_letOwnedTupleGo_zip (s := { s with heap := h' }) z' fun h'' z'' sb => ?_⟩
    have hT2 : h''.get? s.heap.objs.size = some { cls := .type "tuple", data := .seq #[u, u2] } := (sb.2 _ (Nat.ne_of_gt hzl)).trans hT
    have new : ObjOk X.prog X.w (upd H s.heap.objs.size (.tup [x, y])) h'' s.heap.objs.size (.tup [x, y]) :=
      ⟨by show 2 ≤ sizeLine; decide, [u, u2], .cons ru (.cons ru2 .nil), ⟨_, hT2, rfl, _, rfl⟩⟩
    have I1 : Inv X pins σ (upd H s.heap.objs.size (.tup [x, y])) { s with heap := h'' } :=
      I.turnedNew (t' := s.toks) (ch := [z, TI, TO, i1, i2]) (fun c o hb q => (sb.2 c (fun q' => hb (by simp [q']))).trans (hk c o (fun q' => hb (by simp [q'])) (fun q' => hb (by simp [q'])) (fun q' => hb (by simp [q'])) (fun q' => hb (by simp [q'])) q)) hf (Nat.le_refl _) new
    refine ⟨.ref s.heap.objs.size, _, I1, rfl, ⟨_, x, y, rfl, I.hok.fresh (Nat.le_refl _), rfl, fun l hl => by rw [I.list_inj hl hqx]; exact hx, fun l hl => by rw [I.list_inj hl hqy]; exact hy⟩, ⟨z'', ?_, ⟨u, u2, ?_⟩, ?_, ?_⟩, fun c hcm => ?_⟩
    · exact (sb.2 _ D.TIz).trans (hk _ _ D.TIz D.TITO D.TIi1 D.TIi2 hTI)
    · exact (sb.2 _ D.TOz).trans TO'
    · exact h1'.at fun o q => (sb.2 _ D.i1z).trans q
    · exact h2'.at fun o q => (sb.2 _ D.i2z).trans q
    · have hlt : c < s.heap.objs.size := by
        have e' : c = z ∨ c = TI ∨ c = TO ∨ c = i1 ∨ c = i2 := by simpa using hcm
        rcases e' with q | q | q | q | q
        · rw [q]; exact hzl
        · rw [q]; exact Heap.lt_size hTI
        · rw [q]; exact Heap.lt_size hTO
        · rw [q]; obtain ⟨_, e1, _⟩ := h1; exact Heap.lt_size e1
        · rw [q]; obtain ⟨_, e2, _⟩ := h2; exact Heap.lt_size e2
      rw [upd_ne (Nat.ne_of_lt hlt)]
      exact (hf c hcm).1
  done := by
    intro X hP hw hK hc i pins s σ H E I hf st hg
    subst hP hw hK
    obtain ⟨hz, hTI, ⟨x0, y0, hTO⟩, h1, h2⟩ := st
    obtain ⟨xs, ys, hqx, hqy, hend⟩ := hg
    obtain ⟨its, rv, p, _⟩ := I.list hqx
    obtain ⟨its2, rv2, p2, _⟩ := I.list hqy
    have l1 := rv.length
    have l2 := rv2.length
    have he : its.toArray[i]? = none ∨ its2.toArray[i]? = none := by
      rcases hend with q | q
      · exact .inl (by simp; omega)
      · exact .inr (by simp; omega)
    exact wpAny_pyNext_zip_end (I.ok.hd hc) D hz hTI hTO h1 h2 p.isList p2.isList he fun h' hk => ⟨rfl, I.turnedL (t' := s.toks) (ch := [z, TI, TO, i1, i2]) (fun c o hb q =>
      hk c o (fun q' => hb (by simp [q'])) (fun q' => hb (by simp [q'])) (fun q' => hb (by simp [q'])) (fun q' => hb (by simp [q'])) q) hf⟩
  self := fun A i s Q E st h => wpAny_pyIter_zip st.1 h
def iZip (K : PySem.W.Frag) (ta : TA) : TI := fun σ H R => ta σ H fun vs H1 => ∃ a b xs ys, vs = [.ref a, .ref b] ∧ SqL K H1 a xs ∧ SqL K H1 b ys ∧ R (Itz K a b) H1
theorem pi_zip {X : Cx} {e e2 : Expr} {ta : TA} {p pos tpos : Pos} {elts : List Expr} {kk : Nat} (hg : Gl X "zip") (hm : X.mg "zip" = none) (ha : PA X [e, e2] ta)
    (hs : starEach [e, e2] X.env = (false, eval e X.env) :: starEach [e2] X.env := by rfl) (hpl : (backTo pos (starEach [e2] X.env)).any (·.1) = false := by rfl) :
    PI X (.Tuple elts kk tpos) (.Call (.Name "zip" p) [e, e2] [] pos) (iZip X.K ta) := by
  intro pins s σ H R I h
  refine Call_ (ld_blt I hg hm boot_zip5 (PyProof.Rows.callWith_type1 (thn (ha pos pins s σ H _ I h) fun us s1 ⟨vs, H1, I1, r1, q1⟩ => ?_) hs hpl))
  obtain ⟨a, b, xs, ys, ex, hqx, hqy, q⟩ := q1
  subst ex
  cases r1 with
  | cons r rr =>
    cases rr with
    | cons r' rr =>
      cases rr
      cases r
      cases r'
      obtain ⟨its, rv, p1, _⟩ := I1.list hqx
      obtain ⟨its2, rv2, p2, _⟩ := I1.list hqy
      have la : a < s1.heap.objs.size := p1.lt
      have lb : b < s1.heap.objs.size := p2.lt
      refine call_zip_2 p1.isList p2.isList fun h' hz hTI hTO h1 h2 hsz hk => wpAny_pyIter_zip hz ?_
      have I2 : Inv X pins σ H1 { s1 with heap := h' } := I1.kept (t' := s1.toks) hk
      refine ⟨s1.heap.objs.size + 4, [s1.heap.objs.size + 4, s1.heap.objs.size + 2, s1.heap.objs.size + 3, s1.heap.objs.size, s1.heap.objs.size + 1], _, _, H1, rfl, I2, turn_zip (PySem.W.ktu_apart s1.heap.objs.size a b la lb), ⟨hz, hTI, ⟨_, _, hTO⟩, h1, h2⟩, fun c hcm => ?_, q⟩
      have e' : c = s1.heap.objs.size + 4 ∨ c = s1.heap.objs.size + 2 ∨ c = s1.heap.objs.size + 3 ∨ c = s1.heap.objs.size ∨ c = s1.heap.objs.size + 1 := by simpa using hcm
      have hle : s1.heap.objs.size ≤ c := by
        rcases e' with z | z | z | z | z
        · rw [z]; exact Nat.le_add_right _ _
        · rw [z]; exact Nat.le_add_right _ _
        · rw [z]; exact Nat.le_add_right _ _
        · rw [z]; exact Nat.le_refl _
        · rw [z]; exact Nat.le_add_right _ _
      exact I1.fpOk hle (I1.hok.fresh hle)
end L2

section 
namespace Bits
open PySem PyProof.Rows

end Bits
end 

section 
namespace TL
open PySem PySem.Builtin PySem.Builtin.Str PySem.StrLaws

abbrev tl (x : Str) : List Nat := x.cps.toList
theorem len_tl (x : Str) : x.length = (tl x).length := by simp [tl, Str.length]
/-! ### the list functions -/
/-- S stands at the head of l -/
def pre (S l : List Nat) : Bool := l.take S.length == S
/-- what stands before the first S, and behind it -/
def par (S : List Nat) : List Nat → List Nat → Option (List Nat × List Nat)
  | _, [] => none
  | acc, c :: r => if pre S (c :: r) = true then some (acc, (c :: r).drop S.length) else par S (acc ++ [c]) r

theorem len1 {y : Str} (hy : tl y ≠ []) : 1 ≤ y.length := by
  have e2 : 0 < (tl y).length := List.length_pos_iff.mpr hy
  rw [len_tl y]
  exact e2
end TL
end 

namespace L2
open PySem PySem.Spec PyProof.Rows

section
variable {X : Cx} {pins : List (Addr × Obj)} {σ : St} {H : Hp} {s : Shared} {Q : VK}
end

section
variable {X : Cx}

end

section
variable {X : Cx} {o e : Expr} {to te : TE}
end
end L2

namespace L2
open PySem PySem.Spec PyProof.Rows

section
variable {X : Cx}
end

/-! ### slices of a text -/
theorem IsPart.raw {v : Value} {o : Option Int} (p : IsPart v o) : ∃ l : Option (Int × Tok), v = partValue l ∧ l.map (·.1) = o := by
  cases p with
  | none => exact ⟨none, rfl, rfl⟩
  | int i t => exact ⟨some (i, t), rfl, rfl⟩

end L2

namespace Att
open PySem PySem.W PySem.Calls PyProof.Rows

/-! ### the script -/
theorem ints_of_wellAll {P : Params} {h : Heap} : ∀ (ns : List Int) (vs : List Value), WellAll P h vs (ns.map WData.int) → IntsAre vs ns := by
  intro ns
  induction ns with
  | nil =>
    intro vs w
    rw [List.map_nil] at w
    cases w
    exact .nil
  | cons n ns ih =>
    intro vs w
    rw [List.map_cons] at w
    cases w with
    | cons a b =>
      cases a
      exact .cons _ _ (ih _ b)

theorem script_of {l : OpenLaw} {n : Nat} (hn : l.most = some n) {P : Params} {h : Heap} {args : List WData} {vals : List Value}
    (hpre : l.row.toRowW.claim.pre args = true) (hwl : WellAll P h vals args) :
    ∃ a vs ns, vals = [Value.ref a] ∧ args = [WData.list (ns.map WData.int)] ∧ h.get? a = some { cls := .type "list", data := .seq vs.toArray } ∧ IntsAre vs ns ∧ ns.length ≤ n := by
  have hsh : WShape.hasAll [] args [.list .int] = true := (pre_splitW hpre).1
  have hc : l.pre.holds [] { args := args } = true := (pre_splitW hpre).2
  obtain ⟨d, r, rfl, h1, h2⟩ := hasAllW_cons hsh
  obtain rfl := hasAllW_nil h2
  obtain ⟨xs, rfl, h3⟩ := hasW_list h1
  obtain ⟨ns, rfl⟩ := items_int h3
  have hlen : ns.length ≤ n := by
    unfold OpenLaw.pre at hc
    have h4 : (WTm.not (.lt (.lit (.int (n : Int))) (.len (.arg 0)))).holds [] { args := [.list (ns.map .int)] } = true := by
      have h4 := (holds_andW hc).1
      rw [hn] at h4
      exact h4
    have h5 := condW_of h4 (w_not (w_lt w_lit (w_len_list (w_arg rfl))))
    rw [List.length_map] at h5
    refine Nat.le_of_not_lt fun q => ?_
    have q' : (n : Int) < ((ns.length : Nat) : Int) := by omega
    first
      | (rw [decide_eq_true q'] at h5; exact absurd h5 (by decide))
      | (simp at h5; omega)
  cases hwl with
  | cons w1 w2 =>
    cases w2
    cases w1 with
    | list ho hall => exact ⟨_, _, ns, rfl, rfl, ho, ints_of_wellAll ns _ hall, hlen⟩

theorem post_true (l : OpenLaw) (args : List WData) : l.row.toRowW.claim.post args (.bool true) args = true :=
  postW_of (r := l.row.toRowW) (X := (true == true))
    (show WShape.has [] (.bool true) .bool = true by first | rfl | decide | simp [WShape.has, WShape.arms, WShape.armsAll])
    (show (WTm.eq .res (.lit (.bool true))).value [] { args := args, res := some (.bool true), after := args } = some (.bool (true == true)) from w_eq_bool (w_res rfl) w_lit) rfl

/-- the same from a codeAny of the CALL (for a layer whose function contracts speak of calls) -/
theorem attach_call {l : OpenLaw} {n : Nat} {q : Program} {loose : List Str} {XP : (Str → Option Value) → Heap → Prop} {YP : World → Heap → Prop} {d : DefRec}
    (hn : l.most = some n) (hdf : d.params.defaults = [])
    (call : ∀ (w : World) (s₀ s₁ : Shared) (mg mb : Str → Option Value) (fa : Addr) (o : Obj) (pm cd doc : Value) (a : Addr) (vs : List Value) (ns : List Int),
      Ground q loose [] XP w s₀ mg mb s₁.heap → YP w s₁.heap →
      s₁.heap.get? fa = some o → o.data = .func (docDef d.name d.params d.body d.scope pm cd doc) → s₁.heap.CodeRec cd d.name → mg d.name = some (.ref fa) →
      s₁.heap.get? a = some { cls := .type "list", data := .seq vs.toArray } → IntsAre vs ns → ns.length ≤ n → s₁.gens = #[] →
      codeAny (model l.prog w) callerA (.call (.ref fa) ⟨[.ref a], []⟩) (fun r s' => r = .ok (.ret (.bool true)) ∧ OldK s₁.heap s'.heap ∧ s'.os = s₁.os ∧ AllBare s'.gens) s₁) :
    WalkO q loose XP YP l.row.toRowW d [] (fun f vs => PySem.call f vs) := by
  intro w s₀ s₁ mg mb G Y fa o pm cd doc dV kV ho hd hcd hD hmg hg args vals as hpre hlay hrd hwl hlo
  obtain rfl : dV = .none := Dflts.none hD hdf
  obtain rfl : kV = .none := Dflts.noKw hD
  obtain ⟨a, vs, ns, rfl, rfl, hobj, hints, hlen⟩ := script_of hn hpre hwl
  refine enter_call (codeAny_mono (call w s₀ s₁ mg mb fa o pm cd doc a vs ns G Y ho (fd_plain hd) hcd hmg hobj hints hlen hg) fun r s' hq => ?_)
  obtain ⟨rfl, h2, h3, h4⟩ := hq
  exact ⟨.inl ⟨.bool true, .bool true, [], rfl, fun _ => rfl, .bool true, post_true l _, fun _ => ⟨List.Pairwise.nil, fun _ hm => (nomatch hm)⟩⟩, h2, h3, h4⟩

/-! ### rules over ANY heap (no ledger) from facts about the written part K: the library's own take a ledger (News) for what they write -/
section
variable {prog : Program} {w : World} {A : Around} {E : Value → Shared → Prop} {s : Shared} {K : Frag}

/-- a def of the module, or a method (qual 'C.m'), entered: the frame is the next address; cells behind it -/
theorem call_fn {R : Result → Shared → Prop} {name qual : Str} {params : Arguments} {body : List Stmt} {scope : Scope} {dV kV doc pm cdv ct oc : Value} {an od : Option Addr} {osl : Array (Option Value)} {f : Addr} {args : Args} {binds : List (Str × Value)}
    (X : K.In s.heap) (hlim : s.heap.NoLimit) (ho : K.lookup f = some ⟨oc, od, .func (fnOf name qual params body scope dV kV doc pm an cdv ct), osl⟩) (hcd : codeIn K cdv qual = true) (hroom : A.depth < recursionLimit)
    (hbind : BindsTo s (fnOf name qual params body scope dV kV doc pm an cdv ct) args binds)
    (hkind : (binds.all fun y => scope.names.lookup y.1 == some .local || scope.names.lookup y.1 == some .cell) = true)
    (h : ∀ s₁, InCallC s s.heap.objs.size (bindL (envOfC qual scope s.heap.objs.size f cdv).kindOf binds fun _ => none) (cellsFrom (s.heap.objs.size + 1) scope.names [])
        (bindC (envOfC qual scope s.heap.objs.size f cdv).kindOf binds fun _ => none) s₁ →
      wpAny (model prog w) (A.deeper (envOfC qual scope s.heap.objs.size f cdv)) (execs body (envOfC qual scope s.heap.objs.size f cdv))
        (fun fl s' => R (.ok (.ret (match fl with | .ret v => v | _ => .none))) s')
        (fun e s' => wpAny (model prog w) (A.deeper (envOfC qual scope s.heap.objs.size f cdv)) (leaving (envOfC qual scope s.heap.objs.size f cdv) e) (fun _ s'' => R (.error e) s'') (fun e' s'' => R (.error e') s'') s') s₁)
    (hco : scope.isCoroutine = false) (hgen : scope.isGenerator = false) (hk : scope.kind = .function) : codeAny (model prog w) A (.call (.ref f) args) R s := by
  refine codeAny_call_function hroom (X _ _ ho) rfl hco hgen rfl (codeRec_of X hcd) (hbind _ _ _ _ ?_)
  refine wpAny_newFunctionEnv_cells hk (kindsX hkind _) fun env he s₁ x => ?_
  subst he
  exact ⟨hlim.keeps x.toInCall.keep, codeAny_func (h s₁ x)⟩

def ledger (h : Heap) (L d : Addr) : List (Addr × Obj) := (List.range h.objs.size).filterMap fun a => if a = L ∨ a = d then none else (h.get? a).map fun o => (a, o)
end
end Att

namespace L2
open PySem PySem.Spec PyProof.Rows

theorem vals_ints : ∀ {vs : List Value} {ns : List Int}, IntsAre vs ns → Vals (ns.map V.int) vs
  | _, _, .nil => .nil
  | _, _, .cons n t h => .cons ⟨t, rfl⟩ (vals_ints h)

/-- nothing is tracked but the script, known to the object (or it is an object of the module) -/
def Only (H : Hp) : Prop := ∀ b, H b = none ∨ ∃ o xs, H b = some (.frz o (.lst xs))

/-- THE HEAD: the law's promise, at the heap behind the top. F, the promise of the law's def, may use that base is part of the heap (so K.In base, base.Ns mainGlobals mg stand in Mod) -/
theorem law_call {P : Program} {w : World} {K : PySem.W.Frag} {mg mb : Str → Option Value} {CX : CXT} {k : Nat} {fa a : Addr} {fd : FuncData} {x : Str} {sp : Sp} {s₁ : Shared} {vs : List Value} {ns : List Int}
    (KX : K.In s₁.heap) (hns : s₁.heap.Ns mainGlobals mg) (hb : s₁.heap.Ns builtinsNs mb) (hbb : ∀ x : Str, x ≠ "__name__" → mb x = bootBuiltins x) (hlim : s₁.heap.NoLimit) (hg : s₁.gens = #[])
    (ha : s₁.heap.get? a = some { cls := .type "list", data := .seq vs.toArray }) (hi : IntsAre vs ns) (hl : ns.length ≤ sizeLine) (hr : Room k callerA)
    (F : ∀ base : Heap, K.In base → base.Ns mainGlobals mg → FnOk P w K mg base CX k fa fd [x] sp) (hbind : ∀ (s : Shared) (u : Value), BindsTo s fd ⟨[u], []⟩ [(x, u)])
    (hsp : ∀ H : Hp, Only H → SqL K H a (ns.map V.int) → sp [.ref a] H (fun v _ => v = .bl true) fun _ _ _ => False)
    (hCX : ∀ H e s', CX [] H s₁ (fun _ _ _ => False) e s' → False) :
    codeAny (model P w) callerA (.call (.ref fa) ⟨[.ref a], []⟩) (fun r s' => r = .ok (.ret (.bool true)) ∧ OldK s₁.heap s'.heap ∧ s'.os = s₁.os ∧ AllBare s'.gens) s₁ := by
  have rv := vals_ints hi
  have lenV := hi.length
  -- from an abstract heap in which nothing but the script may be tracked
  have core : ∀ H : Hp, Only H → SqL K H a (ns.map V.int) → HOk P w H s₁.heap → (∀ b, H b ≠ none → b = a) → (H a ≠ none → K.lookup a = none) →
      codeAny (model P w) callerA (.call (.ref fa) ⟨[.ref a], []⟩) (fun r s' => r = .ok (.ret (.bool true)) ∧ OldK s₁.heap s'.heap ∧ s'.os = s₁.os ∧ AllBare s'.gens) s₁ := by
    intro H hO hS hok hA hK
    have base_of : ∀ {b : Addr} {o : Obj}, s₁.heap.get? b = some o → H b = none → (hidT s₁.heap H).get? b = some o := fun e n => hidT_get e n
    have noA : ∀ {b : Addr} {o : Obj} {es : Array DictEntry} {ep : Nat}, s₁.heap.get? b = some o → o.data = .dict es ep → H b = none := fun {b o es ep} e d => by
      cases q : H b with
      | none => rfl
      | some u =>
        have e' : b = a := hA b (by rw [q]; simp)
        subst e'
        rw [ha] at e; cases e
        have d' : Data.seq vs.toArray _ = Data.dict es ep := d
        cases d'
    have nsK : ∀ {b : Addr} {m : Str → Option Value}, s₁.heap.Ns b m → (hidT s₁.heap H).Ns b m := fun {b m} ⟨o, es, ep, e, d, r⟩ => ⟨o, es, ep, base_of e (noA e d), d, r⟩
    have hKb : K.In (hidT s₁.heap H) := fun b o e => base_of (KX b o e) (by
      cases q : H b with
      | none => rfl
      | some u =>
        have e' : b = a := hA b (by rw [q]; simp)
        subst e'
        rw [hK (by rw [q]; simp)] at e; cases e)
    have hM : Mod K mg (hidT s₁.heap H) := ⟨hKb, nsK hns, ⟨mb, nsK hb, hbb⟩, let ⟨mc, h1, h2⟩ := hlim; ⟨mc, nsK h1, h2⟩⟩
    have e0 : Env0 P w K mg (hidT s₁.heap H) callerA [] s₁ H := ⟨trivial, hM, fun b o e => of_hidT e, Nat.le_of_eq (hidT_size _ _), trivial, fun b hb => absurd (show b ∈ ([] : List Addr) from hb) (by simp), hok, trivial⟩
    refine codeAny_mono ((F _ hKb (nsK hns)).run callerA [] s₁ H ⟨[.ref a], []⟩ [.ref a] [.ref a] _ _ hr e0 (hbind s₁ (.ref a)) (.cons rfl .nil) (hsp H hO hS)) fun r s' h => ?_
    cases r with
    | error e => exact (hCX H e s' h).elim
    | ok fl =>
      cases fl with
      | next => exact False.elim h
      | brk => exact False.elim h
      | cont => exact False.elim h
      | ret u =>
        obtain ⟨v, H', os, bare0, un, hok', r', q⟩ := h
        have bare := bare0 (.of_eq hg)
        have q' : v = .bl true := q
        subst q'
        obtain rfl : u = Value.bool true := r'
        refine ⟨rfl, OldK.of_keep fun b o e => ?_, os, bare⟩
        cases q : H b with
        | none => exact un.keep b o e q (by intro z; exact absurd (show b ∈ ([] : List Addr) from z) (by simp)) (by simp)
        | some u =>
          rcases hO b with z | ⟨ob, xs, z⟩
          · rw [q] at z; cases z
          · have z2 := un.frzs b ob _ z
            obtain ⟨e1, _⟩ := hok b _ z
            obtain ⟨e2, _⟩ := hok' b _ z2
            rw [e] at e1; cases e1
            exact e2
  cases hk : K.lookup a with
  | some o =>
    -- the script is one of the module's own objects
    have e := KX a o hk
    rw [ha] at e
    cases e
    refine core (fun _ => none) (fun _ => .inl rfl) (.inr ⟨_, vs.toArray, _, hk, rfl, rfl, rfl, by rw [List.size_toArray, lenV]; exact hl, by simpa using rv⟩) (fun b u z => by have z' : (none : Option HO) = some u := z; cases z') (fun b z => absurd rfl z) fun z => absurd rfl z
  | none =>
    refine core (fun b => if b = a then some (.frz { cls := .type "list", data := .seq vs.toArray } (.lst (ns.map V.int))) else none) (fun b => ?_) (.inl (.inr ⟨{ cls := .type "list", data := .seq vs.toArray }, if_pos rfl⟩)) (fun b u z => ?_) (fun b z => ?_) fun _ => hk
    · by_cases hb : b = a
      · exact .inr ⟨_, _, if_pos hb⟩
      · exact .inl (if_neg hb)
    · by_cases hb : b = a
      · have z' := (if_pos hb).symm.trans z
        cases z'
        subst hb
        exact ⟨ha, by rw [List.length_map]; exact hl, vs, _, rv, ha⟩
      · have z' := (if_neg hb).symm.trans z
        cases z'
    · by_cases hb : b = a
      · exact hb
      · exact absurd (if_neg hb) z
end L2

namespace L2
open PySem PySem.Spec PyProof.Rows

abbrev KOf {K : PySem.W.Frag} {h : Heap} (_ : K.In h) : PySem.W.Frag := K

/-- the goal that k_head leaves (case hc), from the law's promise. F gives the function object fd (K's own) once, then the promise over every base -/
theorem walk_of {l : PySem.W.OpenLaw} {n k : Nat} {q : Program} {loose : List Str} {XP : (Str → Option Value) → Heap → Prop} {YP : World → Heap → Prop} {d : DefRec} {K : Params → PySem.W.Frag} {CX : World → CXT} {sp : World → Sp} {x : Str}
    (hn : l.most = some n) (hn2 : n ≤ sizeLine) (hdf : d.params.defaults = []) (hr : Room k callerA)
    (hY : ∀ (w : World) (h : Heap), YP w h → (K w.params).In h)
    (F : ∀ (w : World) (mg : Str → Option Value) (fa : Addr) (h : Heap), (K w.params).In h → h.Ns mainGlobals mg → mg d.name = some (.ref fa) →
      ∃ fd : FuncData, (∀ (s : Shared) (u : Value), BindsTo s fd ⟨[u], []⟩ [(x, u)]) ∧
        ∀ base : Heap, (K w.params).In base → base.Ns mainGlobals mg → FnOk l.prog w (K w.params) mg base (CX w) k fa fd [x] (sp w))
    (hsp : ∀ (w : World) (H : Hp) (a : Addr) (ns : List Int), ns.length ≤ n → Only H → SqL (K w.params) H a (ns.map V.int) → sp w [.ref a] H (fun v _ => v = .bl true) fun _ _ _ => False)
    (hCX : ∀ (w : World) (H : Hp) (s : Shared) (e : Value) (s' : Shared), CX w [] H s (fun _ _ _ => False) e s' → False) :
    PySem.W.WalkO q loose XP YP l.row.toRowW d [] (fun f vs => PySem.call f vs) := by
  refine Att.attach_call hn hdf fun w s₀ s₁ mg mb fa o pm cd doc a vs ns G Y ho hd hcd hmg hobj hints hlen hg => ?_
  have KX := hY w _ Y
  obtain ⟨fd, hb, hF⟩ := F w mg fa _ KX G.T.g hmg
  exact law_call KX G.T.g G.T.b G.T.builtins G.T.nolimit hg hobj hints (Nat.le_trans hlen hn2) hr hF hb (fun H hO hS => hsp w H a ns hlen hO hS) fun H e s' => hCX w H s₁ e s'
end L2

/- THE LAST THEOREM (shape; LID, My.* are yours):
   My.Adr: a structure of the addresses that your layer names (classes, functions); My.Txt K t: a structure (Prop) of the equations over K;
   My.txt_mk : {K} {implicit addresses ..} (e1 : nsIn K mainGlobals "law" = some (some (.ref f))) (e2 : K.lookup f = some ⟨oc, od, .func (fnOf "law" "law" params body scope dV kV doc pm an cdv ct), sl⟩) (e3 : codeIn K cdv "law" = true) .. : ∃ t, My.Txt K t

set_option maxRecDepth 100000 in
set_option maxHeartbeats 0 in
theorem PySem.Challenge.cw_LID_holds : PySem.Challenge.rw_LID.Holds := by
  w_on; o_law; k_head; (case hw => w_witness2)
  k_fill
  refine L2.walk_of (l := PySem.Challenge.rw_LID) (n := 63) (k := 40) (x := "script") (CX := fun w => ..) (sp := fun _ => My.sp_law) rfl (by decide) rfl ⟨rfl, by decide, by decide⟩ (fun w h Y => PySem.W.kIn_of Y) ?F ?S ?C
  case F =>
    intro w mg fa h KX G hmg
    have T : ∃ t, My.Txt (L2.KOf KX) t := by
      dsimp only [L2.KOf]                          -- K must stand as «<heap const> w.params» for k_is
      refine' My.txt_mk ?e1 ?e2 ?e3 ..
      (case e1 => PySem.W.k_is)                    -- in the order: a name -> its address -> its object -> its parts
      (case e2 => PySem.W.k_is)
      ..
    obtain ⟨t, T⟩ := T
    have e0 := hmg.symm.trans (PySem.W.mg_of KX G T.law)
    cases e0                                       -- fa is the law's own address
    exact ⟨_, fun s u => .of_eq rfl, fun base kb nb => My.law_fn T kb nb⟩     -- if «.of_eq rfl» comes too early: refine' ⟨_, ?b, fun base kb nb => My.law_fn T kb nb⟩; exact fun s u => .of_eq rfl
  case S => exact fun w H a ns hl hO hS => ..
  case C => exact ..
(the tactic k_is has no namespace: write k_is) -/
/-! SHORT WORDS over the layer: a def of the text, its body, what a loop and a test want. -/
namespace L2
open PySem PySem.Spec PyProof.Rows

def defArgs (s : Stmt) : Arguments := match s with
  | .FunctionDef _ a _ _ _ _ _ _ _ _ => a
  | _ => { posonlyargs := [], args := [], vararg := none, kwonlyargs := [], kw_defaults := [], kwarg := none, defaults := [] }
def defBody (s : Stmt) : List Stmt := match s with
  | .FunctionDef _ _ b _ _ _ _ _ _ _ => b
  | _ => []
def defScope (s : Stmt) : Scope := match s with
  | .FunctionDef _ _ _ _ _ _ sc _ _ _ => sc
  | _ => { kind := .function, names := [], isGenerator := false, isCoroutine := false }

/-! ### no exception leaves a def -/
abbrev CX0 : CXT := fun _ _ _ _ _ _ => False
abbrev E0 : XK := fun _ _ _ => False
theorem pass0 {X : Cx} (hqt : X.qt = false := by rfl) : Passes CX0 X E0 := ⟨hqt, fun _ _ _ _ _ _ _ h => h.elim⟩

/-! ### a def (or method) of the text as it stands behind the top -/
structure Fun (K : PySem.W.Frag) (x qual : Str) (st : Stmt) (f : Addr) (fd : FuncData) : Prop where
  ex : ∃ (oc : Value) (od : Option Addr) (kV doc pm : Value) (an : Option Addr) (cdv ct : Value) (osl : Array (Option Value)),
    fd = PySem.W.fnOf x qual (defArgs st) (defBody st) (defScope st) .none kV doc pm an cdv ct ∧ K.lookup f = some ⟨oc, od, .func fd, osl⟩ ∧ PySem.W.codeIn K cdv qual = true
  kp : PySem.W.keepIn K (.ref f) = true
section
variable {P : Program} {w : World} {K : PySem.W.Frag} {mg : Str → Option Value} {base : Heap}
/-- THE RULE for a def: its body as a term of rules, and the reading of that term -/
theorem Fun.ok {x qual : Str} {st : Stmt} {f : Addr} {fd : FuncData} {N ps : List Str} {k : Nat} {sp : Sp} (F : Fun K x qual st f fd) (S : FnScope N ps (defScope st)) (len : ∀ vs H Q E, sp vs H Q E → vs.length = ps.length)
    (hbody : ∀ (cdv : Value) (A : Around) (outer : List Env) (s : Shared) (H : Hp) (vs : List V) (Q : VK) (E : XK), Room k (A.deeper (envOfC qual (defScope st) s.heap.objs.size f cdv)) → sp vs H Q E →
      ∃ t, PSs (cxOf CX0 P w K mg base N qual (defScope st) f cdv A outer s H E).nox (defBody st) t ∧ t { nx := fun _ H' => Q .non H', rt := Q } (start N vs) H) : FnOk P w K mg base CX0 (k + 1) f fd ps sp := by
  obtain ⟨oc, od, kV, doc, pm, an, cdv, ct, osl, rfl, lk, hcd⟩ := F.ex
  refine fn_of lk hcd S len fun A outer s H vs Q E hr hsp => ?_
  obtain ⟨t, h, q⟩ := hbody cdv A outer s H vs Q E hr hsp
  exact ⟨t, h.nox, q⟩
/-- how its arguments bind (no defaults): h is «fun _ _ _ _ _ _ us hl => match us, hl with | [_, _], _ => rfl», one _ a parameter -/
theorem Fun.binds {x qual : Str} {st : Stmt} {f : Addr} {fd : FuncData} {ps : List Str} (F : Fun K x qual st f fd)
    (h : ∀ (kV doc pm : Value) (an : Option Addr) (cdv ct : Value) (us : List Value), us.length = ps.length → bindArgs (PySem.W.fnOf x qual (defArgs st) (defBody st) (defScope st) .none kV doc pm an cdv ct) ⟨us, []⟩ = pure (ps.zip us)) : Binds K fd ps [] := by
  obtain ⟨oc, od, kV, doc, pm, an, cdv, ct, osl, rfl, lk, hcd⟩ := F.ex
  exact .all (h kV doc pm an cdv ct)
theorem fun_mk {x qual : Str} {st : Stmt} {f : Addr} {oc : Value} {od an : Option Addr} {osl : Array (Option Value)} {kV doc pm cdv ct : Value} (l : K.lookup f = some ⟨oc, od, .func (PySem.W.fnOf x qual (defArgs st) (defBody st) (defScope st) .none kV doc pm an cdv ct), osl⟩)
    (c : PySem.W.codeIn K cdv qual = true) (k : PySem.W.keepIn K (.ref f) = true) : Fun K x qual st f (PySem.W.fnOf x qual (defArgs st) (defBody st) (defScope st) .none kV doc pm an cdv ct) := ⟨⟨oc, od, kV, doc, pm, an, cdv, ct, osl, rfl, l, c⟩, k⟩
end
theorem small1000 {n : Nat} (h : n ≤ 1000) : n < sizeLine := Nat.lt_of_le_of_lt h (by decide)

/-! ### expressions in short: the name that stands in the i-th slot -/
section
variable {X : Cx}
theorem pv (i : Nat) {x : Str} {pos : Pos} (hN : X.N[i]? = some x := by rfl) (hv : Vis X.env.scope x := by first | exact Or.inl rfl | exact Or.inr (Or.inl rfl) | exact Or.inr (Or.inr rfl)) (hd : (x == ("__debug__" : Str)) = false := by decide)
    (hcd : (x == ("__classdict__" : Str)) = false := by decide) : PE X (.Name x pos) (tVar i) := pe_var hN hv hd hcd
end

/-! ### tests -/
theorem iteF {A B : Prop} (h : B) : if false = true then A else B := by
  rw [if_neg Bool.false_ne_true]
  exact h
theorem iteT {A B : Prop} (h : A) : if true = true then A else B := by
  rw [if_pos rfl]
  exact h
theorem ite2 {c A B : Prop} [Decidable c] (h1 : c → A) (h2 : ¬ c → B) : if c then A else B := by
  by_cases h : c
  · rw [if_pos h]
    exact h1 h
  · rw [if_neg h]
    exact h2 h
/-! ### heaps -/
/-- all that was tracked is as it was -/
def Same (H H' : Hp) : Prop := ∀ b o, H b = some o → H' b = some o
theorem Same.refl (H : Hp) : Same H H := fun _ _ h => h
theorem Same.trans {H H1 H2 : Hp} (a : Same H H1) (b : Same H1 H2) : Same H H2 := fun c o h => b c o (a c o h)
theorem Same.free {H H' : Hp} (e : Same H H') {l : Addr} (h : H' l = Option.none) : H l = Option.none := by
  cases q : H l with
  | none => rfl
  | some o =>
    rw [e l o q] at h
    cases h
theorem Same.seq {K : PySem.W.Frag} {H H' : Hp} {a : Addr} {xs : List V} (e : Same H H') (h : SqL K H a xs) : SqL K H' a xs := by
  rcases h with (h | ⟨o, h⟩) | h
  · exact .inl (.inl (e _ _ h))
  · exact .inl (.inr ⟨o, e _ _ h⟩)
  · exact .inr h

/-! ### a dict's pairs: keys that differ -/
section
variable {κ : Type} [DecidableEq κ]
theorem valV_not {kvs : List (κ × V)} {k : κ} (h : valV kvs k = none) : ¬ k ∈ kvs.map (·.1) := by
  intro m
  obtain ⟨p, hp, e⟩ := List.mem_map.mp m
  have q : (kvs.any fun kv => decide (kv.1 = k)) = true := List.any_eq_true.mpr ⟨p, hp, decide_eq_true e⟩
  rw [valV_any, h] at q
  exact absurd q (by simp)
end
/-- a new instance and its __init__ leave all that was tracked as it was -/
theorem Same.made {H H1 : Hp} {x dx C : Addr} (nx : H x = Option.none) (nd : H dx = Option.none) (k : ∀ b o, (upd (upd H dx (.own x)) x (.ins C dx [])) b = some o → b ≠ x → H1 b = some o) : Same H H1 := fun b o e =>
  k b o (by rw [upd_ne (ne_of_none e nx), upd_ne (ne_of_none e nd)]; exact e) (ne_of_none e nx)
end L2

set_option maxHeartbeats 4000000
namespace L2
open PySem PySem.Spec PyProof.Rows
/-- the context of a quiet def: generators and draws stay as they were at the entry -/
abbrev cxQ (P : Program) (w : World) (K : PySem.W.Frag) (mg : Str → Option Value) (base : Heap) (N : List Str) (qual : Str) (scope : Scope) (f : Addr) (cd : Value) (A : Around) (outer : List Env) (s : Shared) (H : Hp) (E : XK) : Cx :=
  { cxOf CX0 P w K mg base N qual scope f cd A outer s H E with qt := true }
/-- a quiet function -/
structure FnQ (P : Program) (w : World) (K : PySem.W.Frag) (mg : Str → Option Value) (base : Heap) (k : Nat) (f : Addr) (fd : FuncData) (ps : List Str) (sp : Sp) : Prop where
  len : ∀ vs H Q E, sp vs H Q E → vs.length = ps.length
  run : ∀ (A : Around) (outer : List Env) (s : Shared) (H : Hp) (args : Args) (us : List Value) (vs : List V) (Q : VK) (E : XK), Room k A → Env0 P w K mg base A outer s H → BindsTo s fd args (ps.zip us) → Vals vs us → sp vs H Q E →
    codeAny (model P w) A (.call (.ref f) args) (fun r s' => CR CX0 outer P w H s Q E r s' ∧ s'.gens = s.gens ∧ s'.drawn = s.drawn) s
theorem FnQ.fn {P : Program} {w : World} {K : PySem.W.Frag} {mg : Str → Option Value} {base : Heap} {k : Nat} {f : Addr} {fd : FuncData} {ps : List Str} {sp : Sp} (F : FnQ P w K mg base k f fd ps sp) : FnOk P w K mg base CX0 k f fd ps sp :=
  ⟨F.len, fun A outer s H args us vs Q E hr he hb hv hs => codeAny_mono (F.run A outer s H args us vs Q E hr he hb hv hs) fun _ _ h => h.1⟩
section
variable {X : Cx} {pins : List (Addr × Obj)} {σ : St} {H : Hp} {s s' : Shared}
theorem Inv.afterQ {Q : VK} {u : Value} (I : Inv X pins σ H s) (h : CE X.stack X.prog X.w H s Q u s') (e1 : s'.gens = s.gens) (e2 : s'.drawn = s.drawn) : EP X pins σ Q u s' := by
  obtain ⟨v, H', os, bare, un, hok, r, q⟩ := h
  obtain ⟨hh, g, d, t, os'⟩ := s'
  obtain rfl : os' = s.os := os
  exact ⟨v, H', I.call (h' := hh) (g' := g) (d' := d) (t' := t) (ch := []) un hok ⟨fun z => bare (I.bare.1 z), fun z => ⟨e1.trans (I.bare.2 z).1, e2.trans (I.bare.2 z).2⟩⟩ (fun b z => absurd z (by simp)), r, q⟩
end
section
variable {X : Cx} {k : Nat} {f : Addr} {fd : FuncData} {ps : List Str} {sp : Sp} {dvs : List V} {ds : List Value} {x : Str} {p pos : Pos} {e : Expr} {es : List Expr} {t : TA}
theorem run_fnQ {pins : List (Addr × Obj)} {σ : St} {H : Hp} {s : Shared} {Q : VK} {us : List Value} {vs : List V} (F : FnQ X.prog X.w X.K X.mg X.base k f fd ps sp) (hr : Room k X.A) (hb : Binds X.K fd ps ds) (hd : Vals dvs ds)
    (I : Inv X pins σ H s) (r : Vals vs us) (h : sp (vs ++ dvs) H Q E0) : wpAny (model X.prog X.w) X.A (call (.ref f) us) (EP X pins σ Q) X.xe s := by
  have r2 : Vals (vs ++ dvs) (us ++ ds) := r.append hd
  have hl : (us ++ ds).length = ps.length := by rw [← r2.length]; exact F.len _ _ _ _ h
  refine wpAny_call (codeAny_mono (F.run X.A X.stack s H ⟨us, []⟩ (us ++ ds) (vs ++ dvs) Q E0 hr I.env0 (hb s us I.kIn hl) r2 h) fun r s' hq => ?_)
  obtain ⟨hq, e1, e2⟩ := hq
  cases r with
  | error e => exact False.elim hq
  | ok fl =>
    cases fl with
    | ret u => exact I.afterQ hq e1 e2
    | next => exact False.elim hq
    | brk => exact False.elim hq
    | cont => exact False.elim hq
/-- a call of a quiet function, in any context -/
theorem pe_callQ (F : FnQ X.prog X.w X.K X.mg X.base k f fd ps sp) (hr : Room k X.A) (hg : Gl X x) (hm : X.mg x = some (.ref f)) (hk : PySem.W.keepIn X.K (.ref f) = true) (hb : Binds X.K fd ps ds) (hd : Vals dvs ds)
    (ha : PA X (e :: es) t) (hdb : (x == ("__debug__" : Str)) = false := by decide) (he : starEach (e :: es) X.env = (false, eval e X.env) :: starEach es X.env := by rfl) (hpl : (backTo pos (starEach es X.env)).any (·.1) = false := by rfl) :
    PE X (.Call (.Name x p) (e :: es) [] pos) (tCall sp dvs E0 t) := by
  intro pins s σ H Q I h
  refine wpAny_Call_Name_kw (ld_glob I hg hm ?_ hdb)
  refine PySem.W.callWith_K (h₀ := X.base) I.ok.mod.kin hk (thn (ha pos pins s σ H _ I h) fun us s1 ⟨vs, H1, I1, r, q⟩ => ⟨I1.kIn, ?_⟩) he hpl
  exact run_fnQ F hr hb hd I1 r q
end
theorem Inv.toQ {X : Cx} {pins : List (Addr × Obj)} {σ : St} {H : Hp} {s : Shared} (I : Inv X pins σ H s) (e : s.gens = X.s_0.gens ∧ s.drawn = X.s_0.drawn) : Inv { X with qt := true } pins σ H s :=
  ⟨⟨I.ok.mod, I.ok.kind, I.ok.glob, I.ok.blt, I.ok.above, I.ok.inj, I.ok.has, I.ok.cab, I.ok.hd, I.ok.frames, I.ok.stk, I.ok.exf, I.ok.bs, I.ok.bsz, I.ok.noex, I.ok.exfs, I.ok.funs, I.ok.frf⟩,
    I.os, ⟨I.bare.1, fun _ => e⟩, I.base, I.loc, I.cell, I.free, I.freeC, I.pin, I.hok, I.len⟩
section
variable {P : Program} {w : World} {K : PySem.W.Frag} {mg : Str → Option Value} {base : Heap}
/-- the rule for a quiet def -/
theorem Fun.okQ {x qual : Str} {st : Stmt} {f : Addr} {fd : FuncData} {N ps : List Str} {k : Nat} {sp : Sp} (F : Fun K x qual st f fd) (S : FnScope N ps (defScope st)) (len : ∀ vs H Q E, sp vs H Q E → vs.length = ps.length)
    (hbody : ∀ (cdv : Value) (A : Around) (outer : List Env) (s : Shared) (H : Hp) (vs : List V) (Q : VK) (E : XK), Room k (A.deeper (envOfC qual (defScope st) s.heap.objs.size f cdv)) → sp vs H Q E →
      ∃ t, PSs (cxQ P w K mg base N qual (defScope st) f cdv A outer s H E).nox (defBody st) t ∧ t { nx := fun _ H' => Q .non H', rt := Q } (start N vs) H) : FnQ P w K mg base (k + 1) f fd ps sp := by
  obtain ⟨oc, od, kV, doc, pm, an, cdv, ct, osl, rfl, lk, hcd⟩ := F.ex
  refine ⟨len, fun A outer s H args us vs Q E hr e0 hb r hsp => ?_⟩
  have hl := len _ _ _ _ hsp
  have KX : K.In s.heap := e0.mod.kin.keeps fun b o e => (e0.bs b o e).1
  have lim : s.heap.NoLimit := e0.mod.nolimit.keeps fun b o e => (e0.bs b o e).1
  have hkind : ∀ y ∈ ps.zip us, (defScope st).names.lookup y.1 = some .local ∨ ((defScope st).names.lookup y.1 = some .cell ∧ ((cellsFrom (s.heap.objs.size + 1) (defScope st).names []).lookup y.1).isSome = true) := fun ⟨n, v⟩ hy => by
    rcases S.par n (List.of_mem_zip hy).1 with q | q
    · exact .inl q
    · exact .inr ⟨q, PySem.W.cellsFrom_some _ _ _ (.inl q)⟩
  refine codeAny_call_function hr.depth (KX _ _ lk) rfl S.co S.gen rfl (PySem.W.codeRec_of KX hcd) (hb _ _ _ _ ?_)
  refine wpAny_newFunctionEnv_cells S.kind hkind fun env he s1 x => ?_
  subst he
  refine ⟨lim.keeps x.toInCall.keep, codeAny_func ?_⟩
  obtain ⟨t, ht0, hq⟩ := hbody cdv A outer s H vs Q E (hr.deeper _) hsp
  have ht := ht0.nox
  have I0 : Inv (cxOf CX0 P w K mg base N qual (defScope st) f cdv A outer s H E) [] (start N vs) H s1 := inv_start S hr.hd e0 hl r x
  have eg : s1.gens = s.gens ∧ s1.drawn = s.drawn := by
    obtain ⟨h1, tk, rfl, hk⟩ := x.done
    exact ⟨rfl, rfl⟩
  have I : Inv (cxQ P w K mg base N qual (defScope st) f cdv A outer s H E) [] (start N vs) H s1 := I0.toQ eg
  refine wpAny_mono (ht [] s1 (start N vs) H _ I hq) (fun fl s' hs => ?_) fun e s' hs => ?_
  · have fin : ∀ {σ' : St} {H' : Hp} {v : V} {u : Value}, Inv (cxQ P w K mg base N qual (defScope st) f cdv A outer s H E) [] σ' H' s' → RelV v u → Q v H' → CE outer P w H s Q u s' ∧ s'.gens = s.gens ∧ s'.drawn = s.drawn :=
      fun {σ' H' v u} J rv q => ⟨⟨v, H', J.os, J.bare.1, J.base, J.hok, rv, q⟩, J.bare.2 rfl⟩
    cases fl with
    | ret u =>
      obtain ⟨v, σ', H', J, rv, q⟩ := hs
      exact fin J rv q
    | next =>
      obtain ⟨σ', H', J, q⟩ := hs
      exact fin (v := V.non) (u := Value.none) J rfl q
    | brk =>
      obtain ⟨_, _, _, q⟩ := hs
      exact False.elim q
    | cont =>
      obtain ⟨_, _, _, q⟩ := hs
      exact False.elim q
  · exact wpAny_mono hs (fun _ _ z => False.elim z) fun _ _ z => False.elim z
end
end L2

namespace Ob
open PySem PySem.Spec PyProof.Rows L2
section
variable {prog : Program} {w : World} {A : Around} {E : Value → Shared → Prop} {s : Shared} {K : PySem.W.Frag}
/-- a built-in's name, read in a def's frame -/
theorem load_bi {env : Env} {x : Str} {u : Value} {pos : Pos} {mg mb : Str → Option Value} {Q : Value → Shared → Prop} (hk : env.scope.kind = .function) (hg : env.kindOf x = some .globalImplicit) (G : s.heap.Ns env.globals mg) (hm : mg x = none)
    (B : s.heap.Ns env.builtins mb) (hb : mb x = some u) (h : Q u s) (hd : (x == ("__debug__" : Str)) = false := by decide) : wpAny (model prog w) A (eval (.Name x pos) env) Q E s :=
  Calls.Name_function_global hk hg (Calls.loadGlobal_builtin G hm B hb h) hd
theorem load_here {env : Env} {x : Str} {u : Value} {pos : Pos} {m : Str → Option Value} {Q : Value → Shared → Prop} (hk : env.scope.kind = .function) (hl : env.kindOf x = some .local) (hn : s.heap.Ns env.locals m) (hm : m x = some u) (h : Q u s)
    (hd : (x == ("__debug__" : Str)) = false := by decide) : wpAny (model prog w) A (eval (.Name x pos) env) Q E s :=
  wpAny_Name (wpAny_loadName_local hk hl hn hm h) hd
/-- isinstance(x, T) of a local and a built-in class -/
theorem isi_raw {env : Env} {x T : Str} {TT : String} {u t : Value} {Hh : Heap → Prop} {b : Bool} {p1 p2 p3 p4 : Pos} {m mg mb : Str → Option Value} {Q : Value → Shared → Prop} (hk : env.scope.kind = .function) (KX : K.In s.heap)
    (hg : env.kindOf "isinstance" = some .globalImplicit) (hT : env.kindOf T = some .globalImplicit) (hl : env.kindOf x = some .local) (hn : s.heap.Ns env.locals m) (hm : m x = some u)
    (G : s.heap.Ns env.globals mg) (g1 : mg "isinstance" = none) (g2 : mg T = none) (B : s.heap.Ns env.builtins mb) (b1 : mb "isinstance" = some (.builtin "isinstance")) (b2 : mb T = some (.type TT))
    (Z : PySem.W.KitX K u t Hh) (hH : Hh s.heap) (e : PySem.W.kitOne K t (.type TT) = some b) (hx : u ≠ .builtin "__main__.__loader__#opaque") (h : ∀ tk, Q (.bool b) { s with toks := tk })
    (hd : (x == ("__debug__" : Str)) = false := by decide) (hd2 : (T == ("__debug__" : Str)) = false := by decide) :
    wpAny (model prog w) A (eval (.Call (.Name "isinstance" p1) [.Name x p2, .Name T p3] [] p4) env) Q E s := by
  refine wpAny_Call_Name_kw (load_bi hk hg G g1 B b1 ?_)
  refine PyProof.Rows.callWith_builtin1 ?_ rfl rfl
  refine Calls.spliced_cons (load_here hk hl hn hm ?_ hd)
  refine Calls.spliced_cons (load_bi hk hT G g2 B b2 ?_ hd2)
  refine Calls.spliced_nil ?_
  exact PySem.W.kia_one Z KX hH e hx h
end
end Ob

namespace Ob
open PySem PySem.Spec PyProof.Rows L2
/-- what a call of is_whole needs of the heap at hand -/
structure GlobAt (mg : Str → Option Value) (h : Heap) : Prop where
  g : h.Ns mainGlobals mg
  b : ∃ mb, h.Ns builtinsNs mb ∧ ∀ x : Str, x ≠ "__name__" → mb x = bootBuiltins x
theorem GlobAt.keeps {mg : Str → Option Value} {h h' : Heap} (x : GlobAt mg h) (k : ∀ b o, h.get? b = some o → h'.get? b = some o) : GlobAt mg h' :=
  ⟨x.g.keeps k, let ⟨mb, a, b⟩ := x.b; ⟨mb, a.keeps k, b⟩⟩
/-- the body of is_whole, with any places in the text -/
abbrev wholeBody (p1 p2 p3 p4 p5 p6 p7 p8 p9 p10 p11 : Pos) : List Stmt :=
  [.Return (some (.BoolOp .And [.Call (.Name "isinstance" p1) [.Name "thing" p2, .Name "int" p3] [] p4, .UnaryOp .Not (.Call (.Name "isinstance" p5) [.Name "thing" p6, .Name "bool" p7] [] p8) p9] p10)) p11]
section
variable {prog : Program} {w : World} {A : Around} {E : Value → Shared → Prop} {s : Shared} {K : PySem.W.Frag}
theorem whole_body {env : Env} {u t : Value} {Hh : Heap → Prop} {b1 b2 : Bool} {p1 p2 p3 p4 p5 p6 p7 p8 p9 p10 p11 : Pos} {m mg : Str → Option Value} {Q : Flow → Shared → Prop} (hk : env.scope.kind = .function) (KX : K.In s.heap)
    (hg : env.kindOf "isinstance" = some .globalImplicit) (hI : env.kindOf "int" = some .globalImplicit) (hB : env.kindOf "bool" = some .globalImplicit) (hl : env.kindOf "thing" = some .local) (hn : s.heap.Ns env.locals m) (hm : m "thing" = some u)
    (eg : env.globals = mainGlobals) (eb : env.builtins = builtinsNs) (G : GlobAt mg s.heap) (g1 : mg "isinstance" = none) (g2 : mg "int" = none) (g3 : mg "bool" = none)
    (Z : PySem.W.KitX K u t Hh) (hH : Hh s.heap) (e1 : PySem.W.kitOne K t (.type "int") = some b1) (e2 : PySem.W.kitOne K t (.type "bool") = some b2) (hx : u ≠ .builtin "__main__.__loader__#opaque")
    (h : ∀ tk, Q (.ret (.bool (b1 && !b2))) { s with toks := tk }) :
    wpAny (model prog w) A (execs (wholeBody p1 p2 p3 p4 p5 p6 p7 p8 p9 p10 p11) env) Q E s := by
  obtain ⟨mb, B, hb⟩ := G.b
  refine wpAny_execs_cons (wpAny_Return_some (BoolOp_and ?_))
  refine isi_raw hk KX hg hI hl hn hm (eg ▸ G.g) g1 g2 (eb ▸ B) ((hb _ (by decide)).trans (by decide +kernel)) ((hb _ (by decide)).trans (by decide +kernel)) Z hH e1 hx (fun tk => ?_)
  refine wpAny_truthy_bool ?_
  cases b1 with
  | false => exact h tk
  | true =>
    refine BoolOp_one (UnaryOp_ ?_)
    refine isi_raw (s := { s with toks := tk }) hk KX hg hB hl hn hm (eg ▸ G.g) g1 g3 (eb ▸ B) ((hb _ (by decide)).trans (by decide +kernel)) ((hb _ (by decide)).trans (by decide +kernel)) Z hH e2 hx (fun tk' => ?_)
    exact not_of (wpAny_truthy_bool (h tk'))
theorem whole_call {f : Addr} {u t : Value} {Hh : Heap → Prop} {b1 b2 : Bool} {p1 p2 p3 p4 p5 p6 p7 p8 p9 p10 p11 : Pos} {mg : Str → Option Value} {params : Arguments} {scope : Scope} {kV doc pm cdv ct oc : Value} {an od : Option Addr} {osl : Array (Option Value)}
    (KX : K.In s.heap) (lim : s.heap.NoLimit) (lk : K.lookup f = some ⟨oc, od, .func (PySem.W.fnOf "is_whole" "is_whole" params (wholeBody p1 p2 p3 p4 p5 p6 p7 p8 p9 p10 p11) scope .none kV doc pm an cdv ct), osl⟩) (hcd : PySem.W.codeIn K cdv "is_whole" = true)
    (hroom : A.depth < recursionLimit)
    (hb : BindsTo s (PySem.W.fnOf "is_whole" "is_whole" params (wholeBody p1 p2 p3 p4 p5 p6 p7 p8 p9 p10 p11) scope .none kV doc pm an cdv ct) ⟨[u], []⟩ [("thing", u)])
    (sk : scope.kind = .function) (hco : scope.isCoroutine = false) (hgen : scope.isGenerator = false)
    (s1 : scope.names.lookup ("thing" : Str) = some .local) (s2 : scope.names.lookup ("isinstance" : Str) = some .globalImplicit) (s3 : scope.names.lookup ("int" : Str) = some .globalImplicit) (s4 : scope.names.lookup ("bool" : Str) = some .globalImplicit)
    (G : GlobAt mg s.heap) (g1 : mg "isinstance" = none) (g2 : mg "int" = none) (g3 : mg "bool" = none)
    (Z : PySem.W.KitX K u t Hh) (hH : ∀ h', (∀ b o, s.heap.get? b = some o → h'.get? b = some o) → Hh h') (e1 : PySem.W.kitOne K t (.type "int") = some b1) (e2 : PySem.W.kitOne K t (.type "bool") = some b2) (hx : u ≠ .builtin "__main__.__loader__#opaque") :
    codeAny (model prog w) A (.call (.ref f) ⟨[u], []⟩) (fun r s' => r = .ok (.ret (.bool (b1 && !b2))) ∧ Keeps s s') s := by
  refine Att.call_fn KX lim lk hcd hroom hb (by simp [s1]) (fun s₁ x => ?_) hco hgen sk
  obtain ⟨h', tk, es, kp⟩ := id x.done
  have KX1 : K.In s₁.heap := KX.keeps x.toInCall.keep
  refine whole_body (s := s₁) (m := _) (mg := mg) (by exact sk) KX1 (by exact s2) (by exact s3) (by exact s4) (by exact s1) x.toInCall.ns ?_ rfl rfl (G.keeps x.toInCall.keep) g1 g2 g3 Z (hH _ x.toInCall.keep) e1 e2 hx fun tk' => ⟨rfl, ?_⟩
  · have e : (envOfC "is_whole" scope s.heap.objs.size f cdv).kindOf "thing" = some .local := s1
    simp [bindL, e]
  · exact ⟨s₁.heap, tk', by rw [es], x.toInCall.keep⟩
end
end Ob

set_option maxHeartbeats 4000000
namespace Ob
open PySem PySem.Spec PyProof.Rows L2
/-- the table of a code object: it may grow while a generator expression is met for the first time -/
def TbP (P : Addr) : Heap → Prop := fun h => ∃ ps : Array Value, h.get? P = some { cls := .none, data := .fields ps } ∧ TriplesOk ps.toList
theorem TbP.stay {P : Addr} {h h' : Heap} (x : TbP P h) (k : ∀ o, h.get? P = some o → h'.get? P = some o) : TbP P h' := let ⟨ps, a, b⟩ := x; ⟨ps, k _ a, b⟩
/-- the code object at c, whose table stands at P -/
structure CodeB (h : Heap) (c P : Addr) : Prop where
  ex : ∃ o vs file tf flags tg inF text tt, h.get? c = some o ∧ o.cls = .type "code" ∧ o.data = .fields vs ∧ vs.getD 11 .none = .ref P ∧ vs[11]? = some (.ref P) ∧ vs.getD 18 .none = .str file tf ∧ vs.getD 7 .none = .int flags tg ∧
    vs.getD 9 .none = .bool inF ∧ vs.getD 10 .none = .int text tt
  ne : c ≠ P
theorem CodeB.keeps {h h' : Heap} {c P : Addr} (x : CodeB h c P) (k : ∀ b o, h.get? b = some o → h'.get? b = some o) : CodeB h' c P :=
  ⟨let ⟨o, vs, file, tf, flags, tg, inF, text, tt, a, r⟩ := x.ex; ⟨o, vs, file, tf, flags, tg, inF, text, tt, k _ _ a, r⟩, x.ne⟩
theorem CodeB.isCode {h : Heap} {c P : Addr} {ps : Array Value} (x : CodeB h c P) (e : h.get? P = some { cls := .none, data := .fields ps }) (t : TriplesOk ps.toList) : h.IsCode c P ps ∧ h.TableAt c P ps := by
  obtain ⟨⟨o, vs, file, tf, flags, tg, inF, text, tt, a, hc, r1, r2, r3, r4, r5, r6, r7⟩, ne⟩ := x
  exact ⟨⟨o, vs, file, tf, flags, tg, inF, text, tt, _, a, r1, r2, r4, r5, r6, r7, e, rfl, t, ne⟩, ⟨⟨o, vs, a, hc, r1, r3⟩, e⟩⟩
section
variable {M : Model} {A : Around} {E : Value → Shared → Prop} {s : Shared}
/-- the code of a generator expression: it is there, or it is put into the table -/
theorem gen_code {env : Env} {c P : Addr} {pos : Pos} {qn : Str} {scope : Scope} {Q : Value → Shared → Prop} (hc : env.code = .ref c) (C : CodeB s.heap c P) (T : TbP P s.heap)
    (hQ : ∀ code h' tk, Heap.ExtBut P s.heap h' → s.heap.objs.size ≤ h'.objs.size → TbP P h' → Q code { s with heap := h', toks := tk }) : wpAny M A (genexprCode env pos qn scope) Q E s := by
  obtain ⟨ps, hP, ht⟩ := T
  obtain ⟨hi, htab⟩ := C.isCode hP ht
  cases hnf : codeAmong pos ps.toList with
  | none =>
    refine wpAny_genexprCodeX hc hi htab hnf fun c' h' tk hx h1 h2 hi' _ ht' _ => hQ _ h' tk hx (Nat.le_trans h1 (Nat.le_of_lt h2)) ?_
    obtain ⟨_, _, _, _, _, _, _, _, _, op, _, _, _, _, _, _, _, e1, e2, e3, _⟩ := hi'
    exact ⟨_, ht'.2, e3⟩
  | some cv =>
    obtain ⟨⟨o, vs, file, tf, flags, tg, inF, text, tt, a, hcl, r1, r2, r3, r4, r5, r6, r7⟩, ne⟩ := C
    unfold genexprCode codeAt
    rw [hc, if_neg (by exact Bool.false_ne_true)]
    refine wpAny_bind (wpAny_fieldsOf a r1 ?_)
    rw [r2]
    refine wpAny_bind (wpAny_fieldsOf hP rfl ?_)
    rw [hnf]
    exact wpAny_pure (hQ cv s.heap s.toks (Heap.ExtBut.refl _ _) (Nat.le_refl _) ⟨ps, hP, ht⟩)
end
/-- what is known of is_whole -/
structure WholeFn (K : PySem.W.Frag) (mg : Str → Option Value) (f : Addr) : Prop where
  ex : ∃ (p1 p2 p3 p4 p5 p6 p7 p8 p9 p10 p11 : Pos) (params : Arguments) (scope : Scope) (kV doc pm cdv ct oc : Value) (an od : Option Addr) (osl : Array (Option Value)),
    K.lookup f = some ⟨oc, od, .func (PySem.W.fnOf "is_whole" "is_whole" params (wholeBody p1 p2 p3 p4 p5 p6 p7 p8 p9 p10 p11) scope .none kV doc pm an cdv ct), osl⟩ ∧ PySem.W.codeIn K cdv "is_whole" = true ∧
    (∀ (s : Shared) (u : Value), BindsTo s (PySem.W.fnOf "is_whole" "is_whole" params (wholeBody p1 p2 p3 p4 p5 p6 p7 p8 p9 p10 p11) scope .none kV doc pm an cdv ct) ⟨[u], []⟩ [("thing", u)]) ∧
    scope.kind = .function ∧ scope.isCoroutine = false ∧ scope.isGenerator = false ∧
    scope.names.lookup ("thing" : Str) = some .local ∧ scope.names.lookup ("isinstance" : Str) = some .globalImplicit ∧ scope.names.lookup ("int" : Str) = some .globalImplicit ∧ scope.names.lookup ("bool" : Str) = some .globalImplicit
  kp : PySem.W.keepIn K (.ref f) = true
  mf : mg "is_whole" = some (.ref f)
  g1 : mg "isinstance" = none
  g2 : mg "int" = none
  g3 : mg "bool" = none
/-- the kind of a value, by which is_whole judges -/
def JudgedBy (K : PySem.W.Frag) (t : Value) (b : Bool) : Prop := ∃ b1 b2, PySem.W.kitOne K t (.type "int") = some b1 ∧ PySem.W.kitOne K t (.type "bool") = some b2 ∧ b = (b1 && !b2)
section
variable {X : Cx} {pins : List (Addr × Obj)} {σ : L2.St} {H : Hp} {s : Shared} {P : Addr}
theorem kit_of (I : Inv X pins σ H s) (hP : H P = some (.ext (TbP P))) {x : V} {u : Value} {T : String} (rx : RelV x u) (ty : TyOf X.K H x (.type T)) :
    ∃ Hh, PySem.W.KitX X.K u (.type T) Hh ∧ (∀ h' : Heap, (∀ b o, b ≠ P → s.heap.get? b = some o → h'.get? b = some o) → Hh h') ∧ u ≠ .builtin "__main__.__loader__#opaque" := by
  generalize ht : Value.type T = t at ty
  cases ty with
  | non => cases ht; cases (show u = Value.none from rx); exact ⟨_, PySem.W.kitx_none, fun _ _ => trivial, fun z => nomatch z⟩
  | bl y => cases ht; cases (show u = Value.bool y from rx); exact ⟨_, PySem.W.kitx_bool, fun _ _ => trivial, fun z => nomatch z⟩
  | int i => cases ht; obtain ⟨t, q⟩ := (show ∃ t, u = Value.int i t from rx); cases q; exact ⟨_, PySem.W.kitx_int, fun _ _ => trivial, fun z => nomatch z⟩
  | str y => cases ht; obtain ⟨t, q⟩ := (show ∃ t, u = Value.str y t from rx); cases q; exact ⟨_, PySem.W.kitx_str, fun _ _ => trivial, fun z => nomatch z⟩
  | flt y => cases ht; obtain ⟨t, q⟩ := (show ∃ t, u = Value.float y t from rx); cases q; exact ⟨_, PySem.W.kitx_float, fun _ _ => trivial, fun z => nomatch z⟩
  | @lst a xs ea =>
    cases ht
    cases (show u = Value.ref a from rx)
    obtain ⟨_, _, n, _, h1⟩ := (show ObjOk X.prog X.w H s.heap a (.lst xs) from I.hok a _ ea)
    exact ⟨_, PySem.W.kitx_list, fun h' k => ⟨_, k a _ (ne_of ea hP (by intro z; cases z)) h1, rfl⟩, fun z => nomatch z⟩
  | @frz a ob xs ea =>
    cases ht
    cases (show u = Value.ref a from rx)
    obtain ⟨_, _, _, n, _, h1⟩ := (show ObjOk X.prog X.w H s.heap a (.frz ob (.lst xs)) from I.hok a _ ea)
    exact ⟨_, PySem.W.kitx_list, fun h' k => ⟨_, k a _ (ne_of ea hP (by intro z; cases z)) h1, rfl⟩, fun z => nomatch z⟩
  | @frt a ob xs ea =>
    cases ht
    cases (show u = Value.ref a from rx)
    obtain ⟨_, _, _, _, p⟩ := (show ObjOk X.prog X.w H s.heap a (.frz ob (.tup xs)) from I.hok a _ ea)
    obtain ⟨o, h1, h2, _⟩ := p
    exact ⟨_, PySem.W.kitx_tuple, fun h' k => ⟨_, k a _ (ne_of ea hP (by intro z; cases z)) h1, h2⟩, fun z => nomatch z⟩
  | @tup a xs ea =>
    cases ht
    cases (show u = Value.ref a from rx)
    obtain ⟨_, _, _, p⟩ := (show ObjOk X.prog X.w H s.heap a (.tup xs) from I.hok a _ ea)
    obtain ⟨o, h1, h2, _⟩ := p
    exact ⟨_, PySem.W.kitx_tuple, fun h' k => ⟨_, k a _ (ne_of ea hP (by intro z; cases z)) h1, h2⟩, fun z => nomatch z⟩
  | @dK a kvs ea =>
    cases ht
    cases (show u = Value.ref a from rx)
    obtain ⟨_, _, vs, _, p⟩ := (show ObjOk X.prog X.w H s.heap a (.dK kvs) from I.hok a _ ea)
    obtain ⟨o, es, ep, h1, h2, _⟩ := p
    exact ⟨_, PySem.W.kitx_dict, fun h' k => ⟨_, k a _ (ne_of ea hP (by intro z; cases z)) h1, h2.1⟩, fun z => nomatch z⟩
  | @dT a kvs ea =>
    cases ht
    cases (show u = Value.ref a from rx)
    obtain ⟨_, _, xs, _, o, es, ep, h1, h2, _⟩ := (show ObjOk X.prog X.w H s.heap a (.dT kvs) from I.hok a _ ea)
    exact ⟨_, PySem.W.kitx_dict, fun h' k => ⟨_, k a _ (ne_of ea hP (by intro z; cases z)) h1, h2.1⟩, fun z => nomatch z⟩
  | @ins a C dx fs ea cl ha hn htk hm => cases ht
end
theorem judged_int (K : PySem.W.Frag) : JudgedBy K (.type "int") true := ⟨true, false, by rfl, by rfl, rfl⟩
end Ob

set_option maxHeartbeats 4000000
namespace Ob
open PySem PySem.Spec PyProof.Rows L2
theorem boot_all' : bootBuiltins "all" = some (.builtin "all") := by decide +kernel
/-- what a generator expression in a def needs of the module -/
structure GenB (X : Cx) (c P : Addr) : Prop where
  code : CodeB X.base c P
  bm : ∃ bm ob, BMod X.base mainGlobals X.mg bm ob
  ec : X.env.code = .ref c
/-- all(is_whole(x) for x in ..) -/
def tAllW (K : PySem.W.Frag) (P : Addr) (ti : TE) : TE := fun σ H Q => ti σ H fun v H1 => ∃ (a : Addr) (xs : List V) (q : V → Bool), v = .ref a ∧ SqL K H1 a xs ∧ H1 P = some (.ext (TbP P)) ∧
  (∀ x ∈ xs, ∃ T : String, TyOf K H1 x (.type T) ∧ JudgedBy K (.type T) (q x)) ∧ Q (.bl (xs.all q)) H1
/-- the answer for the j-th item -/
def ansAt (xs : List V) (q : V → Bool) (j : Nat) : Bool := (xs[j]?.map q).getD true
theorem ansAt_all (xs : List V) (q : V → Bool) : (List.range xs.length).all (ansAt xs q) = xs.all q := by
  rw [Bool.eq_iff_iff, List.all_eq_true, List.all_eq_true]
  constructor
  · intro h x hx
    obtain ⟨j, hj, rfl⟩ := List.getElem_of_mem hx
    simpa [ansAt, List.getElem?_eq_getElem hj] using h j (List.mem_range.mpr hj)
  · intro h j hj
    have hj' := List.mem_range.mp hj
    simp [ansAt, List.getElem?_eq_getElem hj', h _ (List.getElem_mem hj')]
theorem upd_id {H : Hp} {a : Addr} {o : HO} (h : H a = some o) : upd H a o = H := by
  funext b
  unfold upd
  split
  · rename_i e; rw [e, h]
  · rfl
section
variable {X : Cx} {pins : List (Addr × Obj)} {σ : L2.St} {H : Hp} {s : Shared} {P c : Addr}
theorem Inv.tableAt (I : Inv X pins σ H s) (hP : H P = some (.ext (TbP P))) : TbP P s.heap := (show ObjOk X.prog X.w H s.heap P (.ext (TbP P)) from I.hok P _ hP).1
/-- the table has grown, generators were made and have ended -/
theorem Inv.grown {s' : Shared} (I : Inv X pins σ H s) (hqt : X.qt = false) (hP : H P = some (.ext (TbP P))) (k : ∀ b o, b ≠ P → s.heap.get? b = some o → s'.heap.get? b = some o) (T : TbP P s'.heap) (hg : AllBare s.gens → AllBare s'.gens) (ho : s'.os = s.os) : Inv X pins σ H s' := by
  have mu : Mut (H P) := by rw [hP]; exact trivial
  have heo : ∃ u, s'.heap.get? P = some u := let ⟨_, a, _⟩ := T; ⟨_, a⟩
  have st : ∀ h1 h2 : Heap, TbP P h1 → (∀ o, h1.get? P = some o → h2.get? P = some o) → TbP P h2 := fun _ _ x k => x.stay k
  have new : ObjOk X.prog X.w (upd H P (.ext (TbP P))) s'.heap P (.ext (TbP P)) := ⟨T, heo, st⟩
  have hok : HOk X.prog X.w H s'.heap := by
    have z := I.hok.write (x := P) (e := P) (o' := .ext (TbP P)) mu (.inl rfl) k heo new
    rw [upd_id hP] at z
    exact z
  have un : Un (frs X.stack) [] H H s.heap s'.heap := by
    have z : Un (frs X.stack) [] H (upd H P (.ext (TbP P))) s.heap s'.heap := Un.write mu (.inl rfl) k heo
    rw [upd_id hP] at z
    exact z
  have J := I.call (g' := s'.gens) (t' := s'.toks) (d' := s'.drawn) (ch := []) un hok ⟨fun z => hg (I.bare.1 z), fun z => by rw [hqt] at z; cases z⟩ (fun _ z => nomatch z)
  have e : ({ s with heap := s'.heap, gens := s'.gens, drawn := s'.drawn, toks := s'.toks } : Shared) = s' := by
    cases s'
    cases s
    simp only at ho
    subst ho
    rfl
  rw [e] at J
  exact J
end
section
variable {X : Cx} {P c f : Addr} {x : Str} {iter : Expr} {ti : TE} {p1 p2 p3 p4 p5 p6 p7 : Pos} {scope : Scope}
theorem pe_allW (hcalm : X.calm = true) (B : GenB X c P) (W : WholeFn X.K X.mg f) (hr : Room 2 X.A) (hg : Gl X "all") (hm : X.mg "all" = none) (hi : PE X iter ti)
    (hco : scope.isCoroutine = false) (hclos : closureFor scope X.env = pure []) (hcell : ∀ y ∈ scope.names, y.2 ≠ .cell) (h0 : scope.names.lookup (".0" : Str) = some NameKind.local) (hx : scope.names.lookup x = some .local) (hw : scope.names.lookup ("is_whole" : Str) = some .globalImplicit)
    (hkind : scope.kind = .function) (hs : ∀ v, genFold iter X.env v = pure v) (hd : (x == ("__debug__" : Str)) = false := by decide) (hqt : X.qt = false := by rfl) :
    PE X (.Call (.Name "all" p1) [.GeneratorExp (.Call (.Name "is_whole" p2) [.Name x p3] [] p4) [⟨.Name x p5, iter, [], 0⟩] scope p6] [] p7) (tAllW X.K P ti) := by
  intro pins s σ H Q I h
  have hh : X.A.handled = none := I.ok.hd hcalm
  refine wpAny_Call_Name_kw (ld_blt I hg hm boot_all' ?_ (by decide) (by decide))
  refine PyProof.Rows.callWith_builtin1 ?_ rfl rfl
  refine Calls.spliced_cons ?_
  refine wpAny_GeneratorExp_walksQD hh hco hclos hcell h0 hx hkind hr.depth (thn (hi pins s σ H _ I h) fun u s1 ⟨v, H1, I1, r1, q1⟩ => ?_) hs
  obtain ⟨a, xs, q, rfl, hS, hP, hT, hQ⟩ := q1
  cases r1
  obtain ⟨its, rv, pl, hz⟩ := I1.list hS
  have hl := pl.isList
  have hlt : a < s1.heap.objs.size := by obtain ⟨_, e, _⟩ := hl; exact Heap.lt_size e
  have tb1 := Inv.tableAt I1 hP
  have hPlt : P < s1.heap.objs.size := let ⟨_, e, _⟩ := tb1; Heap.lt_size e
  refine wpAny_pyIter_list hl ⟨(I1.nolimit).push _, ?_⟩
  refine gen_code B.ec ((B.code.keeps I1.bk).keeps fun b o e => Heap.get?_push_of_some _ e) (tb1.stay fun o e => Heap.get?_push_of_some _ e) fun code h3 tk hx3 hsz3 tb3 => ?_
  obtain ⟨bm, ob, M⟩ := B.bm
  -- all that stood at s1 stands at h3, but the table
  have k3 : ∀ b o, b ≠ P → s1.heap.get? b = some o → h3.get? b = some o := fun b o hb e => hx3 b o hb (Heap.get?_push_of_some _ e)
  have nbP : ∀ b o, X.base.get? b = some o → b ≠ P := fun b o e z => by
    have z2 := (I1.bs b o e).2
    rw [z, hP] at z2
    cases z2
  have kb3 : ∀ b o, X.base.get? b = some o → h3.get? b = some o := fun b o e => k3 b o (nbP b o e) (I1.bk b o e)
  have M3 := M.keeps kb3
  rw [I.ok.glob]
  refine wpAny_builtinsFor M3.ns M3.name M3.ne M3.obj M3.cls M3.dict M3.data ?_
  have hsz : s1.heap.objs.size < h3.objs.size := Nat.lt_of_lt_of_le (by rw [Heap.size_push]; exact Nat.lt_succ_self _) hsz3
  have hit3 : ∀ o, (s1.heap.push { cls := .type "list_iterator", data := .fields #[.ref a, .int 0 0] }).get? s1.heap.objs.size = some o → h3.get? s1.heap.objs.size = some o := fun o e => hx3 _ o (Nat.ne_of_gt hPlt) e
  have haP : a ≠ P := fun z => by
    obtain ⟨o, ho, hcls, _⟩ := hl
    obtain ⟨_, e, _⟩ := tb1
    rw [z, e] at ho
    cases ho
    exact nomatch hcls
  have lim3 : h3.NoLimit := I.ok.mod.nolimit.keeps kb3
  refine ⟨s1.heap.objs.size, [s1.heap.objs.size, a], [s1.heap.objs.size], its.toArray.size, _, _, fun _ => true, fun i y => ∃ v, its.toArray[i]? = some v ∧ ∃ z, xs[i]? = some z ∧ y = .bool (q z), rfl, fun A' hA => Walks.list hA _ _ (Nat.ne_of_lt hlt) its.toArray, ?_, ?_, lim3, ?_, ?_, ?_⟩
  · exact ⟨⟨_, hit3 _ (Heap.get?_push_size _ rfl), rfl, rfl⟩, hl.at fun o e => k3 a o haP e⟩
  · intro b hb
    rcases List.mem_cons.mp hb with rfl | hb
    · exact hsz
    · rcases List.mem_cons.mp hb with rfl | hb
      · exact Nat.lt_trans hlt hsz
      · cases hb
  · intro hb
    have z : cStatics = s1.heap.objs.size := by simpa using hb
    obtain ⟨_, hn, _⟩ := I1.nolimit
    exact absurd (z ▸ hn.lt) (Nat.lt_irrefl _)
  · intro href hhref
    refine ⟨fun A' E' i v t m2 hA hD hU hPi hn hm2 hk => wpAny_pure ⟨rfl, t.heap, t.toks, rfl, fun _ _ e => e⟩, fun A' E' i v t m2 hA hD hU hPi _ hn hm2 hk => ?_⟩
    -- all that stood at s1 stands at t, but the table
    have kt : ∀ b o, b ≠ P → s1.heap.get? b = some o → t.heap.get? b = some o := fun b o hb e =>
      hk b (List.mem_range.mpr (Heap.lt_size (k3 b o hb e))) (fun z => by
        have z2 : b = s1.heap.objs.size := by simpa using z
        exact absurd (z2 ▸ Heap.lt_size e) (Nat.lt_irrefl _)) o (hhref b o (k3 b o hb e))
    have kbt : ∀ b o, X.base.get? b = some o → t.heap.get? b = some o := fun b o e => kt b o (nbP b o e) (I1.bk b o e)
    obtain ⟨z, hz1, hz2⟩ : ∃ z, xs[i]? = some z ∧ RelV z v := by
      have e : its[i]? = some v := by simpa using hPi
      cases q : xs[i]? with
      | none => rw [rv.none_of q] at e; cases e
      | some z =>
        obtain ⟨u, e1, e2⟩ := rv.get q
        rw [e] at e1
        cases e1
        exact ⟨z, rfl, e2⟩
    obtain ⟨T, hty, b1, b2, e1, e2, eq⟩ := hT z (List.mem_of_getElem? hz1)
    obtain ⟨Hh, Z, hst, hne⟩ := kit_of I1 hP hz2 hty
    obtain ⟨⟨w1, w2, w3, w4, w5, w6, w7, w8, w9, w10, w11, params, scp, kV, doc, pm, cdv, ct, oc, an, od, osl, lk, hcd, hb, s1', s2', s3', s4', s5', s6', s7'⟩, kp, mf, g1, g2, g3⟩ := W
    have KXt : X.K.In t.heap := I.ok.mod.kin.keeps kbt
    have Gt : GlobAt X.mg t.heap := ⟨I.ok.mod.glob.keeps kbt, let ⟨mb, a, b⟩ := I.ok.mod.blt; ⟨mb, a.keeps kbt, b⟩⟩
    refine wpAny_Call_Name_kw (Calls.Name_function_global hkind hw (Calls.loadGlobal_global (mg := X.mg) ?_ mf ?_) (by decide))
    · show t.heap.Ns X.env.globals X.mg
      rw [I.ok.glob]
      exact Gt.g
    refine PySem.W.callWith_K (h₀ := X.base) I.ok.mod.kin kp (Calls.spliced_cons (load_here hkind hx hn hm2 (Calls.spliced_nil ⟨KXt, ?_⟩) hd)) rfl rfl
    have lim : t.heap.NoLimit := I.ok.mod.nolimit.keeps kbt
    have room : A'.depth < recursionLimit := Nat.lt_of_le_of_lt hD (by have := hr.dp; omega)
    refine wpAny_call (codeAny_mono (whole_call KXt lim lk hcd room (hb t v) s1' s2' s3' s4' s5' s6' s7' Gt g1 g2 g3 Z (fun h' k => hst h' fun b o hb e => k b o (kt b o hb e)) e1 e2 hne) fun r s' ⟨er, kk⟩ => ?_)
    subst er
    exact ⟨⟨v, hPi, z, hz1, by rw [eq]⟩, kk⟩
  · intro a' h5 tk5 gs hgb hag hsz5 hk5 Wk hat
    have Wk := Wk.in4_1
    refine Calls.spliced_nil ?_
    have npass : ∀ n, (passing (fun _ => true) n 0) = List.range n := fun n => by simp [passing]
    refine call_all_walkS (Wk.self 0 _ _ _ hat ⟨a', _, _, _, _, _, _, ansAt xs q, rfl, Wk, hat, ?_, fun s' hm => ?_⟩)
    · rintro j v t Q' E' ⟨i, hi', v', hv', z, hz', rfl⟩ hQ'
      have ei : i = j := by
        rw [npass] at hi'
        have := (List.getElem?_eq_some_iff.mp hi').2
        simpa using this.symm
      subst ei
      simp only [ansAt, hz', Option.map_some, Option.getD_some] at hQ'
      exact wpAny_truthy_bool hQ'
    · have kk : ∀ b o, b ≠ P → s1.heap.get? b = some o → s'.heap.get? b = some o := fun b o hb e => hm.heap b o (fun z => by
        rcases List.mem_cons.mp z with z | z
        · exact absurd (z ▸ Heap.lt_size (k3 b o hb e)) (Nat.lt_irrefl _)
        · have z2 : b = s1.heap.objs.size := by simpa using z
          exact absurd (z2 ▸ Heap.lt_size e) (Nat.lt_irrefl _)) (hk5 b o (k3 b o hb e))
      have tb' : TbP P s'.heap := (tb3.stay fun o e => hk5 P o e).stay fun o e => hm.heap P o (fun z => by
        rcases List.mem_cons.mp z with z | z
        · exact absurd (Nat.lt_trans hPlt hsz) (z ▸ Nat.lt_irrefl _)
        · have z2 : P = s1.heap.objs.size := by simpa using z
          exact absurd hPlt (z2 ▸ Nat.lt_irrefl _)) e
      have J := Inv.grown I1 hqt hP kk tb' (fun hb => AllBare.movedS (hb.push hgb) hm) hm.os
      refine ⟨.bl (xs.all q), H1, J, ?_, hQ⟩
      have hlen : (passing (fun _ => true) its.toArray.size 0).length = xs.length := by
        rw [npass, List.length_range, List.size_toArray, rv.length]
      show Value.bool _ = Value.bool _
      rw [hlen]
      exact congrArg Value.bool (ansAt_all xs q)
end
end Ob

set_option maxHeartbeats 4000000
namespace Ob
open PySem PySem.Spec PyProof.Rows L2
def rIsi (K : PySem.W.Frag) : List V → Hp → VK → Prop := fun xs H Q => ∃ (x : V) (T T' : String) (b : Bool), xs = [x, .ty T'] ∧ TyOf K H x (.type T) ∧ PySem.W.kitOne K (.type T) (.type T') = some b ∧ Q (.bl b) H
section
variable {X : Cx}
/-- isinstance(x, T), T a built-in class -/
theorem call_isi : CallR X (.builtin "isinstance") (rIsi X.K) := by
  intro pins s σ H xs us Q I r h
  obtain ⟨x, T, T', b, rfl, ty, e, q⟩ := h
  cases r with
  | cons r1 r =>
    cases r with
    | cons r2 r =>
      cases r
      cases r2
      exact isinst_ok I r1 ty e fun tk => ⟨.bl b, H, I.tok tk, rfl, q⟩
/-- // by a positive divisor below 2 ^ 64 -/
def CDivL (_ j : Int) : Prop := 0 < j ∧ j < 2 ^ 64
theorem op_fdivL : OpR X (binaryOp .FloorDiv) (rI CDivL fun i j => .int (i / j)) := opI fun i j _ _ _ _ _ hc q => by
  obtain ⟨h1, h2⟩ := hc
  have h64 : (2 : Int) ^ 64 = 18446744073709551616 := by decide
  rw [h64] at h2
  have hn : j.natAbs ≠ 0 := by omega
  have hlog : j.natAbs.log2 < 64 := (Nat.log2_lt hn).mpr (by
    have : (2 : Nat) ^ 64 = 18446744073709551616 := by decide
    omega)
  exact floordiv_int (by omega) (by rw [Int.fdiv_eq_ediv_of_nonneg i (by omega)]; exact q) (.inl (PyProof.noPylong_of_log2 (by omega)))
/-- xs[::-1] -/
def tRev (K : PySem.W.Frag) (te ts : TE) : TE := fun σ H Q => te σ H fun x H1 => ts σ H1 fun k H2 => k = .int (-1) ∧ ∃ a xs, x = .ref a ∧ SqL K H2 a xs ∧ ∀ p, H2 p = none → Q (.ref p) (upd H2 p (.lst xs.reverse))
theorem vals_rev : ∀ {xs : List V} {us : List Value}, Vals xs us → Vals xs.reverse us.reverse
  | _, _, .nil => .nil
  | _, _, .cons r t => by
    rw [List.reverse_cons, List.reverse_cons]
    exact (vals_rev t).append (.cons r .nil)
theorem pe_rev {e st : Expr} {te ts : TE} {p2 pos : Pos} (he : PE X e te) (hst : PE X st ts) (hsub : ∀ a b : Addr, ∃ ops, subscripted (.Slice none none (some st) p2) false (.ref a) (.ref b) = operate ops (getItem (.ref a) (.ref b)) := by exact fun _ _ => ⟨_, by with_unfolding_all rfl⟩) : PE X (.Subscript e (.Slice none none (some st) p2) pos) (tRev X.K te ts) := by
  intro pins s σ H Q I h
  refine Subscript_ (thn (he pins s σ H _ I h) fun v s1 ⟨x, H1, I1, r1, q1⟩ => ?_)
  refine wpAny_Slice ?_
  rw [evalPart_none]
  refine wpAny_pure (wpAny_pure ?_)
  rw [evalPart_some]
  refine thn (hst pins s1 σ H1 _ I1 q1) fun vk s3 ⟨k, H3, I3, rk, ek, a, xs, ex, hq, q⟩ => ?_
  subst ek ex
  obtain ⟨t, rfl⟩ := rk
  cases r1
  have I4 : Inv X pins σ H3 { s3 with heap := s3.heap.push { cls := .type "slice", data := .fields #[.none, .none, .int (-1) t] } } := I3.kept (t' := s3.toks) fun b ob q => Heap.get?_push_of_some _ q
  obtain ⟨its, r, ht, hz⟩ := I4.list hq
  have hlen := r.length
  show wpAny (model X.prog X.w) X.A (subscriptTail e (.Slice none none (some st) p2) (.ref a) (.ref s3.heap.objs.size)) (EP X pins σ Q) X.xe { s3 with heap := s3.heap.push { cls := .type "slice", data := .fields #[.none, .none, .int (-1) t] } }
  obtain ⟨ops, eo⟩ := hsub a s3.heap.objs.size
  refine tail_any (ops := ops) ht.isList.typeIs slot_list_getitem.lookup (wpAny_getItem_list_slice ht.isList (Heap.IsSliceOf.new ..) .none .none (.int _ t) (by decide) ?_ (by rw [List.size_toArray]; omega)) eo
  rw [PySem.W.krv_pick]
  refine ⟨.ref _, _, I4.laid (t' := s3.toks) (o := .lst xs.reverse) (fun b ob q => Heap.get?_push_of_some _ q) (Nat.le_refl _) ?_, rfl, q _ (I4.hok.fresh (Nat.le_refl _))⟩
  exact ⟨by rw [List.length_reverse]; exact hz, _, 0, vals_rev r, Heap.get?_push_size _ rfl⟩
end
/-- a comprehension over zip of two lists that the block leaves as they are; each turn's pair is a new tuple -/
theorem lc_zip {K : PySem.W.Frag} {a b : Addr} {xs ys : List V} {g : TG} {tt : TT} {te : TE} {vs : List Nat} {σ : L2.St} {H1 : Hp} {D : Addr} {Qd : Hp → Prop} (Pv : Nat → Hp → Prop) (n : Nat) (hn : n = min xs.length ys.length) (h0 : Pv 0 (upd H1 D (.lst [])))
    (hl : ∀ i H, i ≤ n → Pv i H → SqL K H a xs ∧ SqL K H b ys)
    (hs : ∀ i x y T H, xs[i]? = some x → ys[i]? = some y → H T = none → Pv i H → g (.ref T) (wipe σ vs) (upd H T (.tup [x, y])) fun σ2 H2 => wipe σ2 vs = wipe σ vs ∧ tt σ2 H2 fun b H3 =>
      if b = true then te σ2 H3 fun y H4 => ∃ acc, H4 D = some (.lst acc) ∧ acc.length < sizeLine ∧ Pv (i + 1) (upd H4 D (.lst (acc ++ [y]))) else Pv (i + 1) H3) (hd : ∀ H, Pv n H → Qd H) :
    ∃ W : Nat → Nat → Hp → Prop, (∃ m, W 0 m (upd H1 D (.lst []))) ∧ ∀ i m H, W i m H →
      ((Itz K a b).stop i H ∧ Qd H) ∨ ((Itz K a b).go i H ∧ ∃ Nx : Hp → Prop, (∀ H', Nx H' → ∃ m', m' < m ∧ W (i + 1) m' H') ∧ ∀ x H', (Itz K a b).yld i H x H' → g x (wipe σ vs) H' fun σ2 H2 => wipe σ2 vs = wipe σ vs ∧ tt σ2 H2 fun b H3 =>
        if b = true then te σ2 H3 fun y H4 => ∃ acc, H4 D = some (.lst acc) ∧ acc.length < sizeLine ∧ Nx (upd H4 D (.lst (acc ++ [y]))) else Nx H3) := by
  refine ⟨fun i m H => m = n - i ∧ i ≤ n ∧ Pv i H, ⟨n, by simp, Nat.zero_le _, h0⟩, ?_⟩
  rintro i m H ⟨rfl, hi, p⟩
  obtain ⟨q1, q2⟩ := hl i H hi p
  by_cases hlt : i < n
  · have l1 : i < xs.length := by omega
    have l2 : i < ys.length := by omega
    refine .inr ⟨⟨xs, ys, xs[i], ys[i], q1, q2, by simp [l1], by simp [l2]⟩, Pv (i + 1), fun H' p' => ⟨n - (i + 1), by omega, rfl, hlt, p'⟩, fun x H' y => ?_⟩
    obtain ⟨T, u, v, rfl, hT, rfl, e1, e2⟩ := y
    exact hs i u v T H (e1 xs q1) (e2 ys q2) hT p
  · have e : i = n := by omega
    subst e
    exact .inl ⟨⟨xs, ys, q1, q2, by omega⟩, hd H p⟩
end Ob

set_option maxHeartbeats 4000000
namespace Ob
open PySem PySem.Spec PyProof.Rows L2
end Ob

set_option maxHeartbeats 4000000
namespace Ob
open PySem PySem.Spec PyProof.Rows L2
/-! derivations in boxes: Lean does not look through a structure, so it does not run a statement of many constants while it reads a derivation -/
structure WE (X : Cx) (e : Expr) (t : TE) : Prop where
  get : PE X e t
structure WA (X : Cx) (es : List Expr) (t : TA) : Prop where
  get : PA X es t
structure WS (X : Cx) (st : Stmt) (t : TS) : Prop where
  get : PS X st t
structure WSs (X : Cx) (st : List Stmt) (t : TS) : Prop where
  get : PSs X st t
section
variable {X : Cx} {st : Stmt} {rest : List Stmt} {t u : TS} {e a b : Expr} {es : List Expr} {te ta tb : TE} {tas : TA} {pos : Pos}
theorem wss_cons (h1 : WS X st t) (h2 : WSs X rest u) : WSs X (st :: rest) (tSeq t u) := ⟨pss_cons h1.get h2.get⟩
theorem wss_one (h1 : WS X st t) : WSs X [st] t := ⟨pss_one h1.get⟩
theorem ws_set {i : Nat} {x : Str} {pos' : Pos} (hN : X.N.Nodup) (hi : X.N[i]? = some x) (hx : Loc X.env.scope x) (he : WE X e te) (hs : swapsWith e (some (.Name x pos')) pos.line X.env = pure false) (hf : X.fn x = true ∨ X.env.scope.names.lookup x = some .local) : WS X (.Assign [.Name x pos'] e pos) (tAsg te (gName i)) := ⟨ps_set hN hi hx he.get hs hf⟩
theorem wa_nil : WA X [] tNil := ⟨pa_nil⟩
theorem wa_cons (ha : WE X e te) (hr : WA X es tas) (hs : starEach (e :: es) X.env = (false, eval e X.env) :: starEach es X.env) : WA X (e :: es) (tCons te tas) := ⟨pa_cons ha.get hr.get hs⟩
theorem we_lst (h : WA X es tas) : WE X (.List es pos) (tLst tas) := ⟨pe_lst h.get⟩
theorem we_ix {r : R2} (hr : IxR X r) (ha : WE X a ta) (hb : WE X b tb) (hs : PlainIx b) : WE X (.Subscript a b pos) (tOp r ta tb) := ⟨pe_ix hr ha.get hb.get hs⟩
end
end Ob

namespace Ob
open PySem PySem.Spec PyProof.Rows L2
/-! more boxes: ifs and loops -/
structure WT (X : Cx) (c : Expr) (t : TT) : Prop where
  get : PT X c t
structure WI (X : Cx) (tg e : Expr) (t : TI) : Prop where
  get : PI X tg e t
structure WG (X : Cx) (tg : Expr) (g : TG) : Prop where
  get : PG X tg g
section
variable {X : Cx} {t u : TS} {pos : Pos} {tg : Expr}
theorem wss_nil : WSs X [] tNext := ⟨pss_nil⟩
theorem ws_if {c : Expr} {a b : List Stmt} {tc : TT} (hc : WT X c tc) (ha : WSs X a t) (hb : WSs X b u) : WS X (.If c a b pos) (tIfS tc t u) := ⟨ps_if hc.get ha.get hb.get⟩
theorem ws_for {iter : Expr} {body : List Stmt} {wi : TI} {g : TG} {tb : TS} (hp : PassesOwn (model X.prog X.w) X.A X.env X.xe) (hc : X.calm = true) (hi : WI X tg iter wi) (hg : WG X tg g) (hb : WSs X body tb)
    (hs : ∀ x, foldedSetIterable iter X.env x = pure x) : WS X (.For tg iter body [] pos) (tFor wi g tb) := ⟨ps_for hp hc hi.get hg.get hb.get hs⟩
end
end Ob

set_option maxHeartbeats 4000000
namespace Ob
open PySem PySem.Spec PyProof.Rows L2
theorem boot_isi : bootBuiltins "isinstance" = some (.builtin "isinstance") := by decide +kernel
theorem boot_int : bootBuiltins "int" = some (.type "int") := by decide +kernel
theorem boot_bool : bootBuiltins "bool" = some (.type "bool") := by decide +kernel
/-- a def whose code is known -/
theorem okC {P : Program} {w : World} {K : PySem.W.Frag} {mg : Str → Option Value} {base : Heap} {x qual : Str} {st : Stmt} {f c : Addr} {fd : FuncData} {N ps : List Str} {k : Nat} {sp : Sp} (F : Fun K x qual st f fd) (hc : fd.code = .ref c) (S : FnScope N ps (defScope st)) (len : ∀ vs H Q E, sp vs H Q E → vs.length = ps.length)
    (hbody : ∀ (A : Around) (outer : List Env) (s : Shared) (H : Hp) (vs : List V) (Q : VK) (E : XK), Room k (A.deeper (envOfC qual (defScope st) s.heap.objs.size f (.ref c))) → sp vs H Q E →
      ∃ t, PSs (cxOf CX0 P w K mg base N qual (defScope st) f (.ref c) A outer s H E).nox (defBody st) t ∧ t { nx := fun _ H' => Q .non H', rt := Q } (start N vs) H) : FnOk P w K mg base CX0 (k + 1) f fd ps sp := by
  obtain ⟨oc, od, kV, doc, pm, an, cdv, ct, osl, rfl, lk, hcd⟩ := F.ex
  have e : cdv = .ref c := hc
  subst e
  refine fn_of lk hcd S len fun A outer s H vs Q E hr hsp => ?_
  obtain ⟨t, h, q⟩ := hbody A outer s H vs Q E hr hsp
  exact ⟨t, h.nox, q⟩
/-- the names of the module that are built-ins, and its constant -/
structure Tx (mg : Str → Option Value) : Prop where
  isi : mg "isinstance" = none
  int : mg "int" = none
  bool : mg "bool" = none
  list : mg "list" = none
  len : mg "len" = none
  all : mg "all" = none
  range : mg "range" = none
  min : mg "min" = none
  max : mg "max" = none
  sorted : mg "sorted" = none
  zip : mg "zip" = none
  enum : mg "enumerate" = none
  most : ∃ t, mg "MOST_NUMBERS" = some (.int 12 t)
theorem same_new {H : Hp} {p : Addr} (h : H p = none) (o : HO) : Same H (upd H p o) := fun b u q => by rw [upd_ne (ne_of_none q h)]; exact q
abbrev Tb (P : Addr) (H : Hp) : Prop := H P = some (.ext (TbP P))
theorem ix_int {ns : List Int} {k : Nat} {n : Int} (h : ns[k]? = some n) : atI (ns.map V.int) (k : Int) = some (.int n) := atI_nat (by rw [List.getElem?_map, h]; rfl)
theorem small {n : Nat} (h : n ≤ 1000) : n ≤ sizeLine := Nat.le_of_lt (small1000 h)
/-- the items of a row, as the promise of is_row takes them -/
def Judged (K : PySem.W.Frag) (H : Hp) (xs : List V) (q : V → Bool) : Prop := ∀ x ∈ xs, ∃ T : String, TyOf K H x (.type T) ∧ JudgedBy K (.type T) (q x)
theorem judged_ints (K : PySem.W.Frag) (H : Hp) (ns : List Int) : Judged K H (ns.map V.int) fun _ => true := fun x hx => by
  obtain ⟨n, _, rfl⟩ := List.mem_map.mp hx
  exact ⟨"int", .int n, judged_int K⟩
theorem cut_from {xs : List V} {k : Nat} : cutV xs (some (k : Int)) none = xs.drop k := by
  unfold cutV
  rw [HT.sIx_nat, HT.sIx_none]
  by_cases h : k ≤ xs.length
  · rw [Nat.min_eq_left h, List.take_of_length_le]
    rw [List.length_drop]
    exact Nat.le_refl _
  · rw [Nat.min_eq_right (by omega), List.drop_length, List.drop_eq_nil_of_le (by omega)]
    exact List.take_nil
theorem take_next {α : Type} {xs : List α} {i : Nat} {x : α} (h : xs[i]? = some x) : xs.take (i + 1) = xs.take i ++ [x] := by
  rw [List.take_add_one, h]
  rfl
/-! promises -/
def spLen (K : PySem.W.Frag) : Sp := fun vs H Q _ => ∃ v, vs = [v] ∧ ((∃ (a : Addr) (xs : List V), v = .ref a ∧ H a = some (.lst xs) ∧ Q (.bl (decide (1 ≤ xs.length) && decide (xs.length ≤ 12))) H) ∨
  (∃ T : String, TyOf K H v (.type T) ∧ PySem.W.kitOne K (.type T) (.type "list") = some false ∧ Q (.bl false) H))
def spIsRow (K : PySem.W.Frag) (P : Addr) : Sp := fun vs H Q _ => Tb P H ∧ ∃ v, vs = [v] ∧ ((∃ (a : Addr) (xs : List V) (q : V → Bool), v = .ref a ∧ H a = some (.lst xs) ∧ Judged K H xs q ∧ Q (.bl (decide (1 ≤ xs.length) && decide (xs.length ≤ 12) && xs.all q)) H) ∨
  (∃ T : String, TyOf K H v (.type T) ∧ PySem.W.kitOne K (.type T) (.type "list") = some false ∧ Q (.bl false) H))
def spCheck (K : PySem.W.Frag) (P : Addr) : Sp := fun vs H Q _ => Tb P H ∧ ∃ (a : Addr) (ns : List Int), vs = [.ref a] ∧ H a = some (.lst (ns.map V.int)) ∧ 1 ≤ ns.length ∧ ns.length ≤ 12 ∧ Q .non H
end Ob

set_option maxHeartbeats 4000000
namespace Ob
open PySem PySem.Spec PyProof.Rows L2
/-- a pool of draws: what is left, the way, how many were drawn -/
abbrev pool (x m c : Int) : HO := .lst [.int x, .int m, .int c]
/-- the pool at p has gone on, all else stands -/
structure Went (p : Addr) (H H' : Hp) (x m c : Int) : Prop where
  keep : ∀ b o, H b = some o → b ≠ p → H' b = some o
  here : H' p = some (pool x m c)
theorem Went.trans {p : Addr} {H H1 H2 : Hp} {x1 m1 c1 x m c : Int} (a : Went p H H1 x1 m1 c1) (b : Went p H1 H2 x m c) : Went p H H2 x m c := ⟨fun d o e n => b.keep d o (a.keep d o e n) n, b.here⟩
theorem Went.upd {p : Addr} {H : Hp} {x m c : Int} : Went p H (upd H p (pool x m c)) x m c := ⟨fun d o e n => by rw [upd_ne n]; exact e, upd_same⟩
theorem Went.same {p : Addr} {H H1 H2 : Hp} {x m c : Int} (a : Went p H H1 x m c) (s : Same H1 H2) : Went p H H2 x m c := ⟨fun d o e n => s d o (a.keep d o e n), s _ _ a.here⟩
theorem Went.free {p : Addr} {H H1 : Hp} {x m c : Int} (a : Went p H H1 x m c) {l : Addr} (h : H1 l = none) : H l = none := by
  cases q : H l with
  | none => rfl
  | some o =>
    have n : l ≠ p := fun z => by rw [z, a.here] at h; cases h
    rw [a.keep l o q n] at h
    cases h
end Ob

namespace Ob
open PySem PySem.Spec PyProof.Rows L2
theorem went_new {p D : Addr} {H H1 : Hp} {x m c : Int} (a : Went p H H1 x m c) (hD : H1 D = none) (o : HO) : Went p H (upd H1 D o) x m c := a.same (same_new hD o)
theorem went_put {p D : Addr} {H H1 : Hp} {x m c : Int} {o : HO} (a : Went p H H1 x m c) (hD : H D = none) (n : p ≠ D) : Went p H (upd H1 D o) x m c :=
  ⟨fun b u e hb => by rw [upd_ne (ne_of_none e hD)]; exact a.keep b u e hb, by rw [upd_ne n]; exact a.here⟩
/-- one more way through an if that only goes on -/
theorem if_join {c : Bool} {A : Prop} {R : L2.St → Hp → Prop} {σ : L2.St} {H : Hp} (J : L2.St → Hp → Prop) (h0 : c = false → J σ H) (hA : c = true → (∀ σ' H', J σ' H' → R σ' H') → A) (hR : ∀ σ' H', J σ' H' → R σ' H') : if c = true then A else R σ H := by
  cases c with
  | true => exact iteT (hA rfl hR)
  | false => exact iteF (hR _ _ (h0 rfl))
end Ob

namespace Ob
open PySem PySem.Spec PyProof.Rows L2
/-- a list at D that is being filled with ints while the pool at p goes on -/
def Fill (p D : Addr) (H : Hp) (m c C : Int) (B : Int → Prop) (i : Nat) (H' : Hp) : Prop :=
  ∃ (ns : List Int) (x' c' : Int), ns.length = i ∧ (∀ z ∈ ns, B z) ∧ c ≤ c' ∧ c' ≤ C + 4 * i ∧ Went p H H' x' m c' ∧ H' D = some (.lst (ns.map V.int))
theorem Fill.start {p D : Addr} {H H' : Hp} {m c C x' : Int} {B : Int → Prop} (w : Went p H H' x' m C) (h : c ≤ C) (hD : H' D = none) : Fill p D H m c C B 0 (upd H' D (.lst [])) :=
  ⟨[], x', C, rfl, (fun _ z => nomatch z), h, by omega, went_new w hD _, upd_same⟩
theorem Fill.more {p D : Addr} {H H' : Hp} {m c C x' c' v : Int} {B : Int → Prop} {ns : List Int} (hD : H D = none) (n : p ≠ D) (hb : ∀ z ∈ ns, B z) (hv : B v) (w : Went p H H' x' m c') (h1 : c ≤ c') (h2 : c' ≤ C + 4 * (ns.length + 1)) :
    Fill p D H m c C B (ns.length + 1) (upd H' D (.lst (ns.map V.int ++ [.int v]))) := by
  refine ⟨ns ++ [v], x', c', by simp, fun z hz => ?_, h1, by omega, went_put w hD n, ?_⟩
  · rcases List.mem_append.mp hz with hz | hz
    · exact hb z hz
    · rw [List.mem_singleton.mp hz]
      exact hv
  · rw [upd_same, List.map_append]
    rfl
theorem fill_len {ns : List Int} {k : Nat} (h : ns.length ≤ k) (hk : k ≤ 1000) : (ns.map V.int).length < sizeLine := by
  rw [List.length_map]
  exact small1000 (by omega)
theorem ixN_nat {n : Nat} {i : Int} (h0 : 0 ≤ i) (h1 : i < n) : ixN n i = some i.toNat := by
  unfold ixN
  rw [if_pos h0, if_pos h1]
end Ob

namespace Ob
open PySem PySem.Spec PyProof.Rows L2
theorem dpAll_ints (K : PySem.W.Frag) (H : Hp) : ∀ ns : List Int, DpAll K H (ns.map V.int) (ns.map PyData.int)
  | [] => .nil
  | n :: r => .cons (.int n) (dpAll_ints K H r)
theorem dp_ints {K : PySem.W.Frag} {H : Hp} {a : Addr} {ns : List Int} (h : H a = some (.lst (ns.map V.int))) : Dp K H (.ref a) (.list (ns.map PyData.int)) := .lst (SqL.of h) (dpAll_ints K H ns)
theorem canLayAll_ints : ∀ ns : List Int, PyData.canLayAll0 (ns.map PyData.int) = true
  | [] => rfl
  | n :: r => by
    show (PyData.canLay0 (.int n) && PyData.canLayAll0 (r.map PyData.int)) = true
    rw [canLayAll_ints r]
    rfl
theorem depthAll_ints : ∀ ns : List Int, PyData.depthAll (ns.map PyData.int) ≤ 1
  | [] => by decide
  | n :: r => by
    have := depthAll_ints r
    show max (PyData.depth (.int n)) (PyData.depthAll (r.map PyData.int)) ≤ 1
    have e : PyData.depth (.int n) ≤ 1 := by
      show _ ≤ 1
      simp [PyData.depth]
    omega
theorem shaped_ints (ns : List Int) : SeqAt.shaped (.list (ns.map PyData.int)) = true := by
  unfold SeqAt.shaped
  rw [Bool.and_eq_true_iff]
  refine ⟨canLayAll_ints ns, decide_eq_true ?_⟩
  have := depthAll_ints ns
  show PyData.depthAll (ns.map PyData.int) + 1 ≤ 64
  omega
theorem eqv_same (ns : List Int) : PyData.eqv (.list (ns.map PyData.int)) (.list (ns.map PyData.int)) = true := SeqAt.eqv_refl _ (SeqAt.canLay_of_shaped (shaped_ints ns))
end Ob

namespace Ob
open PySem PySem.Spec PyProof.Rows L2
end Ob

namespace Ob
open PySem PySem.Spec PyProof.Rows L2
theorem put_new {H H' : Hp} {D : Addr} {o : HO} (s : Same H H') (hD : H D = none) : Same H (upd H' D o) := fun b u e => by
  rw [upd_ne (ne_of_none e hD)]
  exact s b u e
end Ob


set_option maxHeartbeats 4000000
namespace Ob
open PySem PySem.Spec PyProof.Rows L2
/-- is there a number below 0 at this place -/
def neg (bs : List Int) (j : Nat) : Bool := decide (bs.getD j 0 < 0)
theorem eqv_nil (ns : List Int) : PyData.eqv (.list (ns.map PyData.int)) (.list (([] : List Int).map PyData.int)) = ns.isEmpty := by
  cases ns with
  | nil => exact eqv_same []
  | cons a r => rfl
theorem cut_to {xs : List V} {k : Nat} (h : k ≤ xs.length) : cutV xs none (some (k : Int)) = xs.take k := by
  unfold cutV
  rw [HT.sIx_none, HT.sIx_nat, Nat.min_eq_left h, List.drop_zero, Nat.sub_zero]
end Ob

set_option maxHeartbeats 1000000
namespace Ob
/-- (q - p) times the line from the p-th to the q-th number, at t -/
def ln (A : Nat → Int) (p q t : Nat) : Int := A p * ((q : Int) - t) + A q * ((t : Int) - p)
/-- that line is not above the number at t -/
def Sup (A : Nat → Int) (p q t : Nat) : Prop := ln A p q t ≤ A t * ((q : Int) - p)
theorem sup_left (A : Nat → Int) (p q : Nat) : Sup A p q p := by unfold Sup ln; grind
theorem sup_right (A : Nat → Int) (p q : Nat) : Sup A p q q := by unfold Sup ln; grind
/-- an edge that bears m makes the edge ahead of it bear m -/
theorem sup_ext {A : Nat → Int} {o p q m : Nat} (h1 : o < p) (h2 : p < q) (h3 : q ≤ m) (s1 : Sup A o p q) (s2 : Sup A p q m) : Sup A o p m := by
  unfold Sup ln at *
  have e1 := Int.mul_le_mul_of_nonneg_right s1 (show (0 : Int) ≤ (m : Int) - p by omega)
  have e2 := Int.mul_le_mul_of_nonneg_right s2 (show (0 : Int) ≤ (p : Int) - o by omega)
  refine Int.le_of_mul_le_mul_right (a := (q : Int) - p) ?_ (by omega)
  grind
theorem sup_new_left {A : Nat → Int} {p q m t : Nat} (h1 : p < q) (h2 : q < m) (h3 : t ≤ q) (s1 : Sup A p q t) (s2 : Sup A p q m) : Sup A q m t := by
  unfold Sup ln at *
  have e1 := Int.mul_le_mul_of_nonneg_right s1 (show (0 : Int) ≤ (m : Int) - q by omega)
  have e2 := Int.mul_le_mul_of_nonneg_right s2 (show (0 : Int) ≤ (q : Int) - t by omega)
  refine Int.le_of_mul_le_mul_right (a := (q : Int) - p) ?_ (by omega)
  grind
theorem pop_right {A : Nat → Int} {p q m t : Nat} (h1 : p < q) (h2 : q < m) (h3 : q ≤ t) (h4 : t ≤ m) (c : ln A p m q ≤ A q * ((m : Int) - p)) (s : Sup A q m t) : Sup A p m t := by
  unfold Sup ln at *
  have e1 := Int.mul_le_mul_of_nonneg_right s (show (0 : Int) ≤ (m : Int) - p by omega)
  have e2 := Int.mul_le_mul_of_nonneg_right c (show (0 : Int) ≤ (m : Int) - t by omega)
  refine Int.le_of_mul_le_mul_right (a := (m : Int) - q) ?_ (by omega)
  grind
theorem pop_left {A : Nat → Int} {p q m t : Nat} (h1 : p < q) (h2 : q < m) (h3 : p ≤ t) (h4 : t ≤ q) (c : ln A p m q ≤ A q * ((m : Int) - p)) (s : Sup A p q t) : Sup A p m t := by
  unfold Sup ln at *
  have e1 := Int.mul_le_mul_of_nonneg_right s (show (0 : Int) ≤ (m : Int) - p by omega)
  have e2 := Int.mul_le_mul_of_nonneg_right c (show (0 : Int) ≤ (t : Int) - p by omega)
  refine Int.le_of_mul_le_mul_right (a := (q : Int) - p) ?_ (by omega)
  grind
theorem under_sup {A : Nat → Int} {p q m : Nat} (c : A q * ((m : Int) - p) < ln A p m q) : Sup A p q m := by
  unfold Sup ln at *
  grind
/-- the corners, the last one first: each edge bears all places below m -/
def Chain (A : Nat → Int) (m : Nat) : List Nat → Prop
  | [] => False
  | [c] => c = 0
  | q :: p :: r => p < q ∧ (∀ t, t < m → Sup A p q t) ∧ Chain A m (p :: r)
theorem Chain.more {A : Nat → Int} {m : Nat} : ∀ {q p : Nat} {r : List Nat}, Chain A m (q :: p :: r) → q < m → Sup A p q m → Chain A (m + 1) (q :: p :: r)
  | q, p, [], ⟨h1, h2, h3⟩, hq, s => ⟨h1, fun t ht => if e : t = m then e ▸ s else h2 t (by omega), h3⟩
  | q, p, o :: r, ⟨h1, h2, h3⟩, hq, s => ⟨h1, fun t ht => if e : t = m then e ▸ s else h2 t (by omega), Chain.more h3 (by omega) (sup_ext h3.1 h1 (by omega) (h3.2.1 q hq) s)⟩
/-- a corner was taken off -/
theorem chain_pop {A : Nat → Int} {m q p : Nat} {r : List Nat} (c : Chain A m (q :: p :: r)) (hq : q < m) (top : ∀ t, q ≤ t → t ≤ m → Sup A q m t) (h : ¬ A q * ((m : Int) - p) < ln A p m q) :
    Chain A m (p :: r) ∧ p < m ∧ ∀ t, p ≤ t → t ≤ m → Sup A p m t := by
  obtain ⟨h1, h2, h3⟩ := c
  refine ⟨h3, by omega, fun t h4 h5 => ?_⟩
  by_cases hle : q ≤ t
  · exact pop_right h1 hq hle h5 (by omega) (top t hle h5)
  · exact pop_left h1 hq h4 (by omega) (by omega) (h2 t (by omega))
/-- the place m is put on -/
theorem chain_push1 {A : Nat → Int} {m : Nat} (hm : 0 < m) (top : ∀ t, 0 ≤ t → t ≤ m → Sup A 0 m t) : Chain A (m + 1) [m, 0] := ⟨hm, fun t ht => top t (by omega) (by omega), rfl⟩
theorem chain_push {A : Nat → Int} {m q p : Nat} {r : List Nat} (c : Chain A m (q :: p :: r)) (hq : q < m) (top : ∀ t, q ≤ t → t ≤ m → Sup A q m t) (h : A q * ((m : Int) - p) < ln A p m q) : Chain A (m + 1) (m :: q :: p :: r) := by
  refine ⟨hq, fun t ht => ?_, Chain.more c hq (under_sup h)⟩
  by_cases hle : q ≤ t
  · exact top t hle (by omega)
  · exact sup_new_left c.1 hq (by omega) (c.2.1 t (by omega)) (under_sup h)
theorem chain_start (A : Nat → Int) : Chain A 1 [0] := rfl
/-- the support at its own two ends, when the last corner is the place ahead -/
theorem top_start (A : Nat → Int) (q : Nat) : ∀ t, q ≤ t → t ≤ q + 1 → Sup A q (q + 1) t := fun t h1 h2 => by
  have e : t = q ∨ t = q + 1 := by omega
  rcases e with rfl | rfl
  · exact sup_left ..
  · exact sup_right ..
/-- what a bearing edge says of a place between two others: the value there is at most any line's -/
theorem bears {A : Nat → Int} {p q i j k : Nat} (hpq : p < q) (h1 : i ≤ j) (h2 : j ≤ k) (si : Sup A p q i) (sk : Sup A p q k) : ln A p q j * ((k : Int) - i) ≤ ln A i k j * ((q : Int) - p) := by
  unfold Sup at si sk
  have e1 := Int.mul_le_mul_of_nonneg_right si (show (0 : Int) ≤ (k : Int) - j by omega)
  have e2 := Int.mul_le_mul_of_nonneg_right sk (show (0 : Int) ≤ (j : Int) - i by omega)
  unfold ln at *
  grind
end Ob

set_option maxHeartbeats 4000000
namespace Ob
open PySem PySem.Spec PyProof.Rows L2
/-- the numbers of a row by their places -/
def An (ns : List Int) : Nat → Int := fun i => ns.getD i 0
theorem an_at {ns : List Int} {j : Nat} (h : j < ns.length) : ns[j]? = some (An ns j) := by
  unfold An
  rw [List.getD_eq_getElem?_getD, List.getElem?_eq_getElem h]
  rfl
theorem at_an {ns : List Int} {k : Int} {j : Nat} (h : k = j) (hj : j < ns.length) : atI (ns.map V.int) k = some (.int (An ns j)) := by
  subst h
  exact ix_int (an_at hj)
theorem gcd_turn {one other : Int} (h1 : 0 ≤ one) (h2 : 0 < other) : Int.gcd other (one % other) = Int.gcd one other := by
  obtain ⟨m, rfl⟩ := Int.eq_ofNat_of_zero_le h1
  obtain ⟨n, rfl⟩ := Int.eq_ofNat_of_zero_le (Int.le_of_lt h2)
  have e : ((m : Int) % (n : Int)) = ((m % n : Nat) : Int) := rfl
  rw [e, Int.gcd_natCast_natCast, Int.gcd_natCast_natCast, Nat.gcd_comm m n, Nat.gcd_rec n m, Nat.gcd_comm]
def redT (t b : Int) : Int := t / (Int.gcd t b : Int)
def redB (t b : Int) : Int := b / (Int.gcd t b : Int)
theorem gcd_pos {t b : Int} (h : 0 < b) : 0 < (Int.gcd t b : Int) := by
  have : 0 < Int.gcd t b := Int.gcd_pos_of_ne_zero_right t (by omega)
  omega
theorem gcd_le {t b : Int} (h : 0 < b) : (Int.gcd t b : Int) ≤ b := Int.le_of_dvd h (Int.gcd_dvd_right t b)
theorem red_mul {t b : Int} (h : 0 < b) : redT t b * b = redB t b * t := by
  have d1 := Int.mul_ediv_cancel' (Int.gcd_dvd_left t b)
  have d2 := Int.mul_ediv_cancel' (Int.gcd_dvd_right t b)
  unfold redT redB
  generalize t / (Int.gcd t b : Int) = x at *
  generalize b / (Int.gcd t b : Int) = y at *
  generalize (Int.gcd t b : Int) = g at *
  rw [← d1, ← d2]
  grind
theorem redB_pos {t b : Int} (h : 0 < b) : 0 < redB t b := by
  have d2 := Int.mul_ediv_cancel' (Int.gcd_dvd_right t b)
  have g := gcd_pos (t := t) h
  unfold redB
  generalize b / (Int.gcd t b : Int) = y at *
  rcases Int.lt_or_le 0 y with hy | hy
  · exact hy
  · have := Int.mul_nonpos_of_nonneg_of_nonpos (Int.le_of_lt g) hy
    omega
theorem red_gcd {t b : Int} (h : 0 < b) : Int.gcd (redT t b) (redB t b) = 1 := by
  unfold redT redB
  exact Int.gcd_ediv_gcd_ediv_gcd (by have := gcd_pos (t := t) h; omega)
/-- a told fraction is the greatest row below, at j -/
structure HullAt (A : Nat → Int) (n j : Nat) (t : Int × Int) : Prop where
  pos : 0 < t.2
  cop : Int.gcd t.1 t.2 = 1
  on : (n = 1 ∧ t = (A 0, 1)) ∨ ∃ p q : Nat, p < q ∧ q < n ∧ p ≤ j ∧ j ≤ q ∧ (∀ u, u < n → Sup A p q u) ∧ t.1 * ((q : Int) - p) = t.2 * ln A p q j
theorem hull_first {A : Nat → Int} {n : Nat} (p q : Nat) (h1 : p = 0) (h2 : p < q) (h3 : q < n) (h4 : ∀ u, u < n → Sup A p q u) : HullAt A n 0 (A 0, 1) := by
  subst h1
  refine ⟨(show (0 : Int) < 1 by decide), by simp, .inr ⟨0, q, h2, h3, Nat.le_refl _, Nat.zero_le _, h4, ?_⟩⟩
  unfold ln
  grind
theorem hull_edge {A : Nat → Int} {n p q j : Nat} (h2 : p < q) (h3 : q < n) (h5 : p ≤ j) (h6 : j ≤ q) (h4 : ∀ u, u < n → Sup A p q u) : HullAt A n j (redT (ln A p q j) ((q : Int) - p), redB (ln A p q j) ((q : Int) - p)) := by
  have hb : (0 : Int) < (q : Int) - p := by omega
  exact ⟨redB_pos hb, red_gcd hb, .inr ⟨p, q, h2, h3, h5, h6, h4, red_mul hb⟩⟩
theorem boot_abs' : bootBuiltins "abs" = some (.builtin "abs") := by decide +kernel
/-! promises -/
def spGcd : Sp := fun vs H Q _ => ∃ i j : Int, vs = [.int i, .int j] ∧ Q (.int (Int.gcd i j : Int)) H
def spLeast : Sp := fun vs H Q _ => ∃ t b : Int, vs = [.int t, .int b] ∧ 0 < b ∧ b < 2 ^ 62 ∧ ∀ r, H r = none → Q (.ref r) (upd H r (.tup [.int (redT t b), .int (redB t b)]))
def spLine : Sp := fun vs H Q _ => ∃ (a : Addr) (ns : List Int) (i k t : Nat), vs = [.ref a, .int i, .int k, .int t] ∧ H a = some (.lst (ns.map V.int)) ∧ i < ns.length ∧ k < ns.length ∧ ns.length ≤ 1000 ∧ t ≤ 1000 ∧
  ∀ r, H r = none → Q (.ref r) (upd H r (.tup [.int (ln (An ns) i k t), .int ((k : Int) - i)]))
def spUnder : Sp := fun vs H Q _ => ∃ (a : Addr) (ns : List Int) (i k t : Nat), vs = [.ref a, .int i, .int k, .int t] ∧ H a = some (.lst (ns.map V.int)) ∧ i < ns.length ∧ k < ns.length ∧ t < ns.length ∧ ns.length ≤ 1000 ∧
  ∀ H', Same H H' → Q (.bl (decide (An ns t * ((k : Int) - i) < ln (An ns) i k t))) H'
def natV (c : Nat) : V := .int (c : Int)
def spCorners : Sp := fun vs H Q _ => ∃ (a : Addr) (ns : List Int), vs = [.ref a] ∧ H a = some (.lst (ns.map V.int)) ∧ 1 ≤ ns.length ∧ ns.length ≤ 12 ∧
  ∀ (r : Addr) (H' : Hp) (st : List Nat), Same H H' → H r = none → H' r = some (.lst (st.reverse.map natV)) → Chain (An ns) ns.length st → st.head? = some (ns.length - 1) → Q (.ref r) H'
/-- fractions as tuples, each at its own address -/
def FracsAt (H : Hp) (rs : List Addr) (ts : List (Int × Int)) : Prop := Paired (fun r t => H r = some (.tup [.int t.1, .int t.2])) rs ts
theorem FracsAt.same {H H' : Hp} {rs : List Addr} {ts : List (Int × Int)} (s : Same H H') (h : FracsAt H rs ts) : FracsAt H' rs ts := Paired.mapP h fun _ _ e => s _ _ e
theorem paired_snoc {α β : Type} {F : α → β → Prop} {a : α} {b : β} (h : F a b) : ∀ {xs : List α} {ys : List β}, Paired F xs ys → Paired F (xs ++ [a]) (ys ++ [b])
  | _, _, .nil => .cons h .nil
  | _, _, .cons r t => .cons r (paired_snoc h t)
theorem paired_get {α β : Type} {F : α → β → Prop} : ∀ {xs : List α} {ys : List β} {i : Nat} {a : α}, Paired F xs ys → xs[i]? = some a → ∃ b, ys[i]? = some b ∧ F a b
  | _, _, _, _, .nil, e => by simp at e
  | _, _, 0, _, .cons r _, e => by simp at e; subst e; exact ⟨_, rfl, r⟩
  | _, _, i + 1, a, .cons _ t, e => by
    obtain ⟨b, h1, h2⟩ := paired_get (i := i) (a := a) t (by simpa using e)
    exact ⟨b, by simpa using h1, h2⟩
def spBelow (P : Addr) : Sp := fun vs H Q _ => Tb P H ∧ ∃ (a : Addr) (ns : List Int), vs = [.ref a] ∧ H a = some (.lst (ns.map V.int)) ∧ 1 ≤ ns.length ∧ ns.length ≤ 12 ∧
  ∀ (r : Addr) (H' : Hp) (rs : List Addr) (ts : List (Int × Int)), Same H H' → H r = none → H' r = some (.lst (rs.map V.ref)) → FracsAt H' rs ts → ts.length = ns.length → (∀ j t, ts[j]? = some t → HullAt (An ns) ns.length j t) → Q (.ref r) H'
/-- a for over zip of two lists that the body leaves as they are -/
theorem for_zip {K : PySem.W.Frag} {a b : Addr} {xs ys : List V} {g : TG} {tb : TS} {D : Ends} {σ : L2.St} {H : Hp} (Pv : Nat → L2.St → Hp → Prop) (n : Nat) (hn : n = min xs.length ys.length) (h0 : Pv 0 σ H) (hl : ∀ i σ H, i ≤ n → Pv i σ H → SqL K H a xs ∧ SqL K H b ys)
    (hs : ∀ i x y T σ H, xs[i]? = some x → ys[i]? = some y → H T = none → Pv i σ H → g (.ref T) σ (upd H T (.tup [x, y])) fun σ2 H2 => tb { D with nx := Pv (i + 1), ct := Pv (i + 1), bk := D.nx } σ2 H2) (hd : ∀ σ H, Pv n σ H → D.nx σ H) :
    ∃ W : Nat → Nat → L2.St → Hp → Prop, (∃ m, W 0 m σ H) ∧ ∀ i m σ H, W i m σ H →
      ((Itz K a b).stop i H ∧ D.nx σ H) ∨ ((Itz K a b).go i H ∧ ∃ N : L2.St → Hp → Prop, (∀ σ' H', N σ' H' → ∃ m', m' < m ∧ W (i + 1) m' σ' H') ∧ ∀ x H', (Itz K a b).yld i H x H' → g x σ H' fun σ2 H2 => tb { D with nx := N, ct := N, bk := D.nx } σ2 H2) := by
  refine ⟨fun i m σ H => m = n - i ∧ i ≤ n ∧ Pv i σ H, ⟨n, by simp, Nat.zero_le _, h0⟩, ?_⟩
  rintro i m σ H ⟨rfl, hi, p⟩
  obtain ⟨q1, q2⟩ := hl i σ H hi p
  by_cases hlt : i < n
  · have l1 : i < xs.length := by omega
    have l2 : i < ys.length := by omega
    refine .inr ⟨⟨xs, ys, xs[i], ys[i], q1, q2, by simp [l1], by simp [l2]⟩, Pv (i + 1), fun σ' H' p' => ⟨n - (i + 1), by omega, rfl, hlt, p'⟩, fun x H' y => ?_⟩
    obtain ⟨T, u, v, rfl, hT, rfl, e1, e2⟩ := y
    exact hs i u v T σ H (e1 xs q1) (e2 ys q2) hT p
  · have e : i = n := by omega
    subst e
    exact .inl ⟨⟨xs, ys, q1, q2, by omega⟩, hd σ H p⟩
theorem leave_chain {A : Nat → Int} {m : Nat} {st : List Nat} (h : (m = 0 ∧ st = []) ∨ (0 < m ∧ st.length ≤ m ∧ Chain A m st ∧ ∃ q, st.head? = some q ∧ q < m ∧ ∀ t, q ≤ t → t ≤ m → Sup A q m t)) (u : ∀ q p r, st = q :: p :: r → A q * ((m : Int) - p) < ln A p m q) :
    Chain A (m + 1) (m :: st) ∧ (m :: st).length ≤ m + 1 := by
  rcases h with ⟨rfl, rfl⟩ | ⟨h0, hl, c, q, hq, hqm, top⟩
  · exact ⟨chain_start A, by simp⟩
  · refine ⟨?_, by simp; omega⟩
    match st, c, hq, u with
    | [], c, _, _ => exact c.elim
    | [x], c, hq, _ =>
      have e : x = 0 := c
      subst e
      have e2 : 0 = q := Option.some.inj hq
      subst e2
      exact chain_push1 h0 top
    | x :: p :: r, c, hq, u =>
      have e2 : x = q := Option.some.inj hq
      subst e2
      exact chain_push c hqm top (u x p r rfl)
theorem at_two {q p : Nat} {r : List Nat} : atI ((q :: p :: r).reverse.map natV) (-2) = some (natV p) := by
  have e : (q :: p :: r).reverse.map natV = r.reverse.map natV ++ [natV p, natV q] := by simp
  rw [e]
  generalize r.reverse.map natV = xs
  have hl : (xs ++ [natV p, natV q]).length = xs.length + 2 := by simp
  have e2 : ixN (xs ++ [natV p, natV q]).length (-2) = some xs.length := by
    unfold ixN
    rw [hl, if_neg (by decide), if_pos (by omega)]
    congr 1
    omega
  unfold atI
  rw [e2]
  show (xs ++ [natV p, natV q])[xs.length]? = some (natV p)
  simp
theorem at_one {q : Nat} {r : List Nat} : atI ((q :: r).reverse.map natV) (-1) = some (natV q) := by
  have e : (q :: r).reverse.map natV = r.reverse.map natV ++ [natV q] := by simp
  rw [e]
  exact atI_last _ _
theorem pop_last {q : Nat} {r : List Nat} : ((q :: r).reverse.map natV)[((q :: r).reverse.map natV).length - 1]? = some (natV q) ∧ ((q :: r).reverse.map natV).dropLast = r.reverse.map natV := by
  have e : (q :: r).reverse.map natV = r.reverse.map natV ++ [natV q] := by simp
  rw [e]
  generalize r.reverse.map natV = xs
  constructor
  · simp
  · simp
theorem chain_edges {A : Nat → Int} {m : Nat} : ∀ {st : List Nat} {i p q : Nat}, Chain A m st → st[i]? = some q → st[i + 1]? = some p → p < q ∧ ∀ t, t < m → Sup A p q t
  | [], _, _, _, c, _, _ => c.elim
  | [_], 0, _, _, _, _, h => by simp at h
  | [_], i + 1, _, _, _, h, _ => by simp at h
  | q' :: p' :: r, 0, p, q, c, h1, h2 => by
    simp at h1 h2
    subst h1 h2
    exact ⟨c.1, c.2.1⟩
  | q' :: p' :: r, i + 1, p, q, c, h1, h2 => chain_edges (st := p' :: r) (i := i) c.2.2 (by simpa using h1) (by simpa using h2)
theorem chain_zero {A : Nat → Int} {m : Nat} : ∀ {st : List Nat}, Chain A m st → st.reverse[0]? = some 0
  | [], c => c.elim
  | [c], h => by simp [show c = 0 from h]
  | q :: p :: r, c => by
    have z := chain_zero (st := p :: r) c.2.2
    rw [List.reverse_cons, List.getElem?_append_left (by simp)]
    exact z
theorem chain_asc {A : Nat → Int} {m : Nat} {st : List Nat} {i p q : Nat} (c : Chain A m st) (h1 : st.reverse[i]? = some p) (h2 : st.reverse[i + 1]? = some q) : p < q ∧ ∀ t, t < m → Sup A p q t := by
  have l2 : i + 1 < st.length := by
    have := (List.getElem?_eq_some_iff.mp h2).1
    rwa [List.length_reverse] at this
  rw [List.getElem?_reverse (by omega)] at h1 h2
  have e : st.length - 1 - i = (st.length - 1 - (i + 1)) + 1 := by omega
  rw [e] at h1
  exact chain_edges c h2 h1
theorem chain_le {A : Nat → Int} {m : Nat} : ∀ {st : List Nat} {x : Nat}, Chain A m st → st.head? = some x → ∀ c ∈ st, c ≤ x
  | [], _, c, _ => c.elim
  | [y], x, _, h => fun c hc => by
    have e : y = x := Option.some.inj h
    rw [List.mem_singleton.mp hc, e]
    exact Nat.le_refl _
  | y :: p :: r, x, c, h => fun d hd => by
    have e : y = x := Option.some.inj h
    rcases List.mem_cons.mp hd with rfl | hd
    · omega
    · have z := chain_le (st := p :: r) (x := p) c.2.2 rfl d hd
      have := c.1
      omega
theorem fracs_snoc {H : Hp} {r : Addr} {t : Int × Int} {rs : List Addr} {ts : List (Int × Int)} (h : H r = some (.tup [.int t.1, .int t.2])) (f : FracsAt H rs ts) : FracsAt H (rs ++ [r]) (ts ++ [t]) :=
  paired_snoc (F := fun r (t : Int × Int) => H r = some (.tup [.int t.1, .int t.2])) h f
theorem fracs_put {H' : Hp} {D : Addr} {rs : List Addr} {ts : List (Int × Int)} {o : HO} {xs : List V} (hD : H' D = some (.lst xs)) (f : FracsAt H' rs ts) : FracsAt (upd H' D o) rs ts :=
  Paired.mapP f fun r t e => (upd_ne (ne_of e hD (by intro z; cases z))).trans e
/-- all but one thing stands -/
def But (D : Addr) (H H' : Hp) : Prop := ∀ b o, H b = some o → b ≠ D → H' b = some o
theorem But.refl (D : Addr) (H : Hp) : But D H H := fun _ _ e _ => e
theorem But.same {D : Addr} {H H1 H2 : Hp} (a : But D H H1) (s : Same H1 H2) : But D H H2 := fun b o e n => s b o (a b o e n)
theorem But.put {D : Addr} {H H1 : Hp} {o : HO} (a : But D H H1) : But D H (upd H1 D o) := fun b u e n => (upd_ne n).trans (a b u e n)
theorem But.toSame {D : Addr} {H H1 H2 : Hp} (s : Same H H1) (n : H D = none) (b : But D H1 H2) : Same H H2 := fun c o e => b c o (s c o e) (ne_of_none e n)
theorem asc_lt {A : Nat → Int} {m n : Nat} {st : List Nat} {i q : Nat} (c : Chain A m st) (hd : st.head? = some (n - 1)) (hn : 1 ≤ n) (h : st.reverse[i]? = some q) : q < n := by
  have z := chain_le c hd q (List.mem_reverse.mp (List.mem_of_getElem? h))
  omega
theorem asc_last {st : List Nat} {n : Nat} (hd : st.head? = some (n - 1)) : st.reverse[st.length - 1]? = some (n - 1) := by
  have hl : 0 < st.length := by
    cases st with
    | nil => cases hd
    | cons a r => simp
  rw [List.getElem?_reverse (by omega)]
  have e : st.length - 1 - (st.length - 1) = 0 := by omega
  rw [e]
  cases st with
  | nil => cases hd
  | cons a r => simpa using hd
end Ob

set_option maxHeartbeats 4000000
namespace Ob
open PySem PySem.Spec PyProof.Rows L2
theorem shaped_pair (a b : Int) : SeqAt.shaped (.tuple [.int a, .int b]) = true := by rfl
theorem dp_pair {K : PySem.W.Frag} {H : Hp} {r : Addr} {a b : Int} (h : H r = some (.tup [.int a, .int b])) : Dp K H (.ref r) (.tuple [.int a, .int b]) := .tup (SqT.of h) (.cons (.int a) (.cons (.int b) .nil))
end Ob

set_option maxHeartbeats 4000000
namespace Ob
open PySem PySem.Spec PyProof.Rows L2
theorem cop_dvd {a b c : Int} (h : Int.gcd a b = 1) (d : b ∣ a * c) : b ∣ c := by
  have e1 : Int.gcd (a * c) b = b.natAbs := Int.gcd_eq_natAbs_right d
  rw [Int.mul_comm, Int.gcd_mul_left_left_of_gcd_eq_one h] at e1
  exact Int.gcd_eq_natAbs_right_iff_dvd.mp e1
/-- two fractions in least numbers of one value are one -/
theorem least_unique {a b c d : Int} (hb : 0 < b) (hd : 0 < d) (h1 : Int.gcd a b = 1) (h2 : Int.gcd c d = 1) (h : a * d = c * b) : a = c ∧ b = d := by
  have e1 : b ∣ d := cop_dvd h1 ⟨c, by rw [h, Int.mul_comm]⟩
  have e2 : d ∣ b := cop_dvd h2 ⟨a, by rw [← h, Int.mul_comm]⟩
  have e3 : b = d := by
    have l1 := Int.le_of_dvd hd e1
    have l2 := Int.le_of_dvd hb e2
    omega
  subst e3
  exact ⟨Int.eq_of_mul_eq_mul_right (by omega) h, rfl⟩
theorem hull_val {A : Nat → Int} {n j : Nat} {t : Int × Int} (h : HullAt A n j t) (hj : j < n) : t.1 ≤ A j * t.2 ∧ (∀ i k : Nat, i < j → j < k → k < n → t.1 * ((k : Int) - i) ≤ ln A i k j * t.2) ∧ (t = (A j, 1) ∨ ∃ i k : Nat, i < j ∧ j < k ∧ k < n ∧ t.1 * ((k : Int) - i) = ln A i k j * t.2) := by
  obtain ⟨pos, cop, on⟩ := h
  rcases on with ⟨h1, ht⟩ | ⟨p, q, hpq, hqn, hp, hq, hs, ht⟩
  · have e : j = 0 := by omega
    subst e
    rw [ht]
    exact ⟨by simp, fun i k hi _ _ => by omega, .inl rfl⟩
  · have hd : (0 : Int) < (q : Int) - p := by omega
    refine ⟨?_, fun i k hi hk hkn => ?_, ?_⟩
    · have s := hs j hj
      unfold Sup at s
      have e := Int.mul_le_mul_of_nonneg_left s (Int.le_of_lt pos)
      refine Int.le_of_mul_le_mul_right (a := (q : Int) - p) ?_ hd
      rw [ht]
      grind
    · have b := bears (A := A) hpq (i := i) (j := j) (k := k) (by omega) (by omega) (hs i (by omega)) (hs k hkn)
      have e := Int.mul_le_mul_of_nonneg_left b (Int.le_of_lt pos)
      refine Int.le_of_mul_le_mul_right (a := (q : Int) - p) ?_ hd
      calc t.1 * ((k : Int) - i) * ((q : Int) - p) = (t.1 * ((q : Int) - p)) * ((k : Int) - i) := by ac_rfl
        _ = t.2 * (ln A p q j * ((k : Int) - i)) := by rw [ht, Int.mul_assoc]
        _ ≤ t.2 * (ln A i k j * ((q : Int) - p)) := e
        _ = ln A i k j * t.2 * ((q : Int) - p) := by ac_rfl
    · by_cases e : p < j ∧ j < q
      · exact .inr ⟨p, q, e.1, e.2, hqn, by rw [ht, Int.mul_comm]⟩
      · left
        have key : ln A p q j = A j * ((q : Int) - p) := by
          have z : j = p ∨ j = q := by omega
          unfold ln
          rcases z with rfl | rfl <;> grind
        rw [key] at ht
        have e2 : t.1 * 1 = A j * t.2 := by
          refine Int.eq_of_mul_eq_mul_right (a := (q : Int) - p) (by omega) ?_
          rw [Int.mul_one, ht]
          grind
        obtain ⟨z1, z2⟩ := least_unique pos (by decide) cop (Int.gcd_one) e2
        exact Prod.ext z1 z2
/-- the least of the number and of all lines about it, as the law goes through them -/
structure Best (A : Nat → Int) (n j : Nat) (R : Nat → Nat → Prop) (b : Int × Int) : Prop where
  pos : 0 < b.2
  small : b.2 ≤ 1000
  is : b = (A j, 1) ∨ ∃ i k : Nat, i < j ∧ j < k ∧ k < n ∧ b = (ln A i k j, (k : Int) - i)
  own : b.1 ≤ A j * b.2
  all : ∀ i k : Nat, R i k → b.1 * ((k : Int) - i) ≤ ln A i k j * b.2
instance (A : Nat → Int) (p q t : Nat) : Decidable (Sup A p q t) := by unfold Sup; infer_instance
end Ob

set_option maxHeartbeats 4000000
namespace Ob
open PySem PySem.Spec PyProof.Rows L2
/-- an abstract heap of one thing, frozen -/
def one (r : Addr) (u : HO) : Hp := upd (fun _ => none) r u
/-- what a quiet function answers of an item: by the item alone, frozen -/
def Answers1 (sp : Sp) (H : Hp) (x : V) (b : Bool) : Prop :=
  ((∀ r, x ≠ .ref r) ∧ sp [x] (fun _ => none) (fun v _ => v = .bl b) E0) ∨
  (∃ (r : Addr) (ys : List V), x = .ref r ∧ ((H r = some (.tup ys) ∧ ∀ ob, sp [x] (one r (.frz ob (.tup ys))) (fun v _ => v = .bl b) E0) ∨ (H r = some (.lst ys) ∧ ∀ ob, sp [x] (one r (.frz ob (.lst ys))) (fun v _ => v = .bl b) E0)))
/-- all(g(x) for x in ..), g a quiet function -/
def tAllQ (K : PySem.W.Frag) (P : Addr) (sp : Sp) (ti : TE) : TE := fun σ H Q => ti σ H fun v H1 => ∃ (a : Addr) (xs : List V) (q : V → Bool), v = .ref a ∧ SqL K H1 a xs ∧ H1 P = some (.ext (TbP P)) ∧
  (∀ x ∈ xs, Answers1 sp H1 x (q x)) ∧ Q (.bl (xs.all q)) H1
section
variable {X : Cx} {pins : List (Addr × Obj)} {σ : L2.St} {H : Hp} {s : Shared} {P : Addr}
/-- a quiet call on one item, from a state in which all but the table stands -/
theorem quiet_call {k : Nat} {f : Addr} {fd : FuncData} {y : Str} {sp : Sp} {A' : Around} {t : Shared} {z : V} {v : Value} {b : Bool} (I : Inv X pins σ H s) (hP : H P = some (.ext (TbP P))) (F : FnQ X.prog X.w X.K X.mg X.base k f fd [y] sp) (hr : Room k A')
    (kt : ∀ b o, b ≠ P → s.heap.get? b = some o → t.heap.get? b = some o) (kbt : ∀ b o, X.base.get? b = some o → t.heap.get? b = some o) (hsz : X.base.objs.size ≤ t.heap.objs.size)
    (hb : BindsTo t fd ⟨[v], []⟩ [(y, v)]) (rz : RelV z v) (an : Answers1 sp H z b) :
    codeAny (model X.prog X.w) A' (.call (.ref f) ⟨[v], []⟩) (fun r s' => r = .ok (.ret (.bool b)) ∧ Keeps t s') t := by
  have core : ∀ H0 : Hp, (∀ c o, H0 c = some o → H c ≠ none) → HOk X.prog X.w H0 t.heap → (∀ c o, H0 c = some o → ∃ ob u, o = .frz ob u) → sp [z] H0 (fun v _ => v = .bl b) E0 →
      codeAny (model X.prog X.w) A' (.call (.ref f) ⟨[v], []⟩) (fun r s' => r = .ok (.ret (.bool b)) ∧ Keeps t s') t := by
    intro H0 h1 hok hfz hsp
    have e0 : Env0 X.prog X.w X.K X.mg X.base A' [] t H0 := ⟨trivial, I.ok.mod, fun c o e => ⟨kbt c o e, ?_⟩, hsz, trivial, fun b hb => absurd (show b ∈ ([] : List Addr) from hb) (by simp), hok, trivial⟩
    · refine codeAny_mono (F.run A' [] t H0 ⟨[v], []⟩ [v] [z] _ E0 hr e0 hb (.cons rz .nil) hsp) fun r s' hh => ?_
      obtain ⟨h, eg, ed⟩ := hh
      cases r with
      | error e => exact False.elim h
      | ok fl =>
        cases fl with
        | next => exact False.elim h
        | brk => exact False.elim h
        | cont => exact False.elim h
        | ret u =>
          obtain ⟨w, H', os, bare, un, hok', r', q⟩ := h
          have q' : w = .bl b := q
          subst q'
          cases (show u = Value.bool b from r')
          refine ⟨rfl, s'.heap, s'.toks, ?_, fun c o e => ?_⟩
          · obtain ⟨a1, a2, a3, a4, a5⟩ := s'
            obtain ⟨b1, b2, b3, b4, b5⟩ := t
            simp only at eg ed os
            subst eg ed os
            rfl
          · cases e0' : H0 c with
            | none => exact un.keep c o e e0' (by simp [frs]) (by simp)
            | some u =>
              obtain ⟨ob, u', rfl⟩ := hfz c u e0'
              have z1 : t.heap.get? c = some ob := (show ObjOk X.prog X.w H0 t.heap c (.frz ob u') from hok c _ e0').1
              have z2 : s'.heap.get? c = some ob := (show ObjOk X.prog X.w H' s'.heap c (.frz ob u') from hok' c _ (un.frzs c ob u' e0')).1
              rw [z1] at e
              cases e
              exact z2
    · cases e0' : H0 c with
      | none => rfl
      | some u => exact absurd (I.bs c o e).2 (h1 c u e0')
  have only : ∀ (r : Addr) (u : HO) c o, one r u c = some o → c = r ∧ o = u := fun r u c o e => by
    unfold one upd at e
    split at e
    · rename_i h; exact ⟨h, (Option.some.inj e).symm⟩
    · cases e
  rcases an with ⟨_, hs⟩ | ⟨r, ys, rfl, ⟨hH, hs⟩ | ⟨hH, hs⟩⟩
  · exact core (fun _ => none) (fun _ _ e => by cases e) (fun _ _ e => by cases e) (fun _ _ e => by cases e) hs
  · obtain ⟨hl, its, rv, ob, g1, g2⟩ := (show ObjOk X.prog X.w H s.heap r (.tup ys) from I.hok r _ hH)
    have hr' := kt r ob (ne_of hH hP (by intro z; cases z)) g1
    refine core (one r (.frz ob (.tup ys))) (fun c o e => ?_) (fun c o e => ?_) (fun c o e => ?_) (hs ob)
    · obtain ⟨rfl, rfl⟩ := only _ _ _ _ e
      rw [hH]; exact fun z => nomatch z
    · obtain ⟨rfl, rfl⟩ := only _ _ _ _ e
      exact ⟨hr', hl, its, rv, ob, hr', g2⟩
    · obtain ⟨rfl, rfl⟩ := only _ _ _ _ e
      exact ⟨_, _, rfl⟩
  · obtain ⟨hl, its, n, rv, g1⟩ := (show ObjOk X.prog X.w H s.heap r (.lst ys) from I.hok r _ hH)
    have hr' := kt r _ (ne_of hH hP (by intro z; cases z)) g1
    refine core (one r (.frz { cls := .type "list", data := .seq its.toArray n } (.lst ys))) (fun c o e => ?_) (fun c o e => ?_) (fun c o e => ?_) (hs _)
    · obtain ⟨rfl, rfl⟩ := only _ _ _ _ e
      rw [hH]; exact fun z => nomatch z
    · obtain ⟨rfl, rfl⟩ := only _ _ _ _ e
      exact ⟨hr', hl, its, n, rv, hr'⟩
    · obtain ⟨rfl, rfl⟩ := only _ _ _ _ e
      exact ⟨_, _, rfl⟩
end
section
variable {X : Cx} {P c f : Addr} {x g y : Str} {iter : Expr} {ti : TE} {p1 p2 p3 p4 p5 p6 p7 : Pos} {scope : Scope} {k : Nat} {fd : FuncData} {sp : Sp}
theorem pe_allQ (hcalm : X.calm = true) (B : GenB X c P) (F : FnQ X.prog X.w X.K X.mg X.base k f fd [y] sp) (hbi : ∀ (s : Shared) (u : Value), BindsTo s fd ⟨[u], []⟩ [(y, u)]) (kp : PySem.W.keepIn X.K (.ref f) = true) (mf : X.mg g = some (.ref f)) (hr : Room (k + 1) X.A) (hg : Gl X "all") (hm : X.mg "all" = none) (hi : PE X iter ti)
    (hco : scope.isCoroutine = false) (hclos : closureFor scope X.env = pure []) (hcell : ∀ y ∈ scope.names, y.2 ≠ .cell) (h0 : scope.names.lookup (".0" : Str) = some NameKind.local) (hx : scope.names.lookup x = some .local) (hw : scope.names.lookup g = some .globalImplicit)
    (hkind : scope.kind = .function) (hs : ∀ v, genFold iter X.env v = pure v) (hd : (x == ("__debug__" : Str)) = false := by decide) (hqt : X.qt = false := by rfl) (hd2 : (g == ("__debug__" : Str)) = false := by decide) (hk7 : k < 7 := by decide) :
    PE X (.Call (.Name "all" p1) [.GeneratorExp (.Call (.Name g p2) [.Name x p3] [] p4) [⟨.Name x p5, iter, [], 0⟩] scope p6] [] p7) (tAllQ X.K P sp ti) := by
  intro pins s σ H Q I h
  have hh : X.A.handled = none := I.ok.hd hcalm
  refine wpAny_Call_Name_kw (ld_blt I hg hm boot_all' ?_ (by decide) (by decide))
  refine PyProof.Rows.callWith_builtin1 ?_ rfl rfl
  refine Calls.spliced_cons ?_
  refine wpAny_GeneratorExp_walksQD hh hco hclos hcell h0 hx hkind hr.depth (thn (hi pins s σ H _ I h) fun u s1 ⟨v, H1, I1, r1, q1⟩ => ?_) hs
  obtain ⟨a, xs, q, rfl, hS, hP, hT, hQ⟩ := q1
  cases r1
  obtain ⟨its, rv, pl, hz⟩ := I1.list hS
  have hl := pl.isList
  have hlt : a < s1.heap.objs.size := by obtain ⟨_, e, _⟩ := hl; exact Heap.lt_size e
  have tb1 := Inv.tableAt I1 hP
  have hPlt : P < s1.heap.objs.size := let ⟨_, e, _⟩ := tb1; Heap.lt_size e
  refine wpAny_pyIter_list hl ⟨(I1.nolimit).push _, ?_⟩
  refine gen_code B.ec ((B.code.keeps I1.bk).keeps fun b o e => Heap.get?_push_of_some _ e) (tb1.stay fun o e => Heap.get?_push_of_some _ e) fun code h3 tk hx3 hsz3 tb3 => ?_
  obtain ⟨bm, ob, M⟩ := B.bm
  -- all that stood at s1 stands at h3, but the table
  have k3 : ∀ b o, b ≠ P → s1.heap.get? b = some o → h3.get? b = some o := fun b o hb e => hx3 b o hb (Heap.get?_push_of_some _ e)
  have nbP : ∀ b o, X.base.get? b = some o → b ≠ P := fun b o e z => by
    have z2 := (I1.bs b o e).2
    rw [z, hP] at z2
    cases z2
  have kb3 : ∀ b o, X.base.get? b = some o → h3.get? b = some o := fun b o e => k3 b o (nbP b o e) (I1.bk b o e)
  have M3 := M.keeps kb3
  rw [I.ok.glob]
  refine wpAny_builtinsFor M3.ns M3.name M3.ne M3.obj M3.cls M3.dict M3.data ?_
  have hsz : s1.heap.objs.size < h3.objs.size := Nat.lt_of_lt_of_le (by rw [Heap.size_push]; exact Nat.lt_succ_self _) hsz3
  have hit3 : ∀ o, (s1.heap.push { cls := .type "list_iterator", data := .fields #[.ref a, .int 0 0] }).get? s1.heap.objs.size = some o → h3.get? s1.heap.objs.size = some o := fun o e => hx3 _ o (Nat.ne_of_gt hPlt) e
  have haP : a ≠ P := fun z => by
    obtain ⟨o, ho, hcls, _⟩ := hl
    obtain ⟨_, e, _⟩ := tb1
    rw [z, e] at ho
    cases ho
    exact nomatch hcls
  have lim3 : h3.NoLimit := I.ok.mod.nolimit.keeps kb3
  refine ⟨s1.heap.objs.size, [s1.heap.objs.size, a], [s1.heap.objs.size], its.toArray.size, _, _, fun _ => true, fun i y => ∃ v, its.toArray[i]? = some v ∧ ∃ z, xs[i]? = some z ∧ y = .bool (q z), rfl, fun A' hA => Walks.list hA _ _ (Nat.ne_of_lt hlt) its.toArray, ?_, ?_, lim3, ?_, ?_, ?_⟩
  · exact ⟨⟨_, hit3 _ (Heap.get?_push_size _ rfl), rfl, rfl⟩, hl.at fun o e => k3 a o haP e⟩
  · intro b hb
    rcases List.mem_cons.mp hb with rfl | hb
    · exact hsz
    · rcases List.mem_cons.mp hb with rfl | hb
      · exact Nat.lt_trans hlt hsz
      · cases hb
  · intro hb
    have z : cStatics = s1.heap.objs.size := by simpa using hb
    obtain ⟨_, hn, _⟩ := I1.nolimit
    exact absurd (z ▸ hn.lt) (Nat.lt_irrefl _)
  · intro href hhref
    refine ⟨fun A' E' i v t m2 hA hD hU hPi hn hm2 hk => wpAny_pure ⟨rfl, t.heap, t.toks, rfl, fun _ _ e => e⟩, fun A' E' i v t m2 hA hD hU hPi _ hn hm2 hk => ?_⟩
    -- all that stood at s1 stands at t, but the table
    have kt : ∀ b o, b ≠ P → s1.heap.get? b = some o → t.heap.get? b = some o := fun b o hb e =>
      hk b (List.mem_range.mpr (Heap.lt_size (k3 b o hb e))) (fun z => by
        have z2 : b = s1.heap.objs.size := by simpa using z
        exact absurd (z2 ▸ Heap.lt_size e) (Nat.lt_irrefl _)) o (hhref b o (k3 b o hb e))
    have kbt : ∀ b o, X.base.get? b = some o → t.heap.get? b = some o := fun b o e => kt b o (nbP b o e) (I1.bk b o e)
    obtain ⟨z, hz1, hz2⟩ : ∃ z, xs[i]? = some z ∧ RelV z v := by
      have e : its[i]? = some v := by simpa using hPi
      cases q : xs[i]? with
      | none => rw [rv.none_of q] at e; cases e
      | some z =>
        obtain ⟨u, e1, e2⟩ := rv.get q
        rw [e] at e1
        cases e1
        exact ⟨z, rfl, e2⟩
    have KXt : X.K.In t.heap := I.ok.mod.kin.keeps kbt
    have Gt : GlobAt X.mg t.heap := ⟨I.ok.mod.glob.keeps kbt, let ⟨mb, a, b⟩ := I.ok.mod.blt; ⟨mb, a.keeps kbt, b⟩⟩
    refine wpAny_Call_Name_kw (Calls.Name_function_global hkind hw (Calls.loadGlobal_global (mg := X.mg) ?_ mf ?_) hd2)
    · show t.heap.Ns X.env.globals X.mg
      rw [I.ok.glob]
      exact Gt.g
    refine PySem.W.callWith_K (h₀ := X.base) I.ok.mod.kin kp (Calls.spliced_cons (load_here hkind hx hn hm2 (Calls.spliced_nil ⟨KXt, ?_⟩) hd)) rfl rfl
    have room : Room k A' := ⟨hA, by have := hr.dp; omega, by have := hr.un; omega, fun z => absurd z (by omega)⟩
    have szt : X.base.objs.size ≤ t.heap.objs.size := by
      have z1 : h3.objs.size < t.heap.objs.size := hn.lt
      have z2 := Nat.le_trans I1.ok.bsz I1.sz
      omega
    refine wpAny_call (codeAny_mono (quiet_call I1 hP F room kt kbt szt (hbi t v) hz2 (hT z (List.mem_of_getElem? hz1))) fun r s' ⟨er, kk⟩ => ?_)
    subst er
    exact ⟨⟨v, hPi, z, hz1, rfl⟩, kk⟩
  · intro a' h5 tk5 gs hgb hag hsz5 hk5 Wk hat
    have Wk := Wk.in4_1
    refine Calls.spliced_nil ?_
    have npass : ∀ n, (passing (fun _ => true) n 0) = List.range n := fun n => by simp [passing]
    refine call_all_walkS (Wk.self 0 _ _ _ hat ⟨a', _, _, _, _, _, _, ansAt xs q, rfl, Wk, hat, ?_, fun s' hm => ?_⟩)
    · rintro j v t Q' E' ⟨i, hi', v', hv', z, hz', rfl⟩ hQ'
      have ei : i = j := by
        rw [npass] at hi'
        have := (List.getElem?_eq_some_iff.mp hi').2
        simpa using this.symm
      subst ei
      simp only [ansAt, hz', Option.map_some, Option.getD_some] at hQ'
      exact wpAny_truthy_bool hQ'
    · have kk : ∀ b o, b ≠ P → s1.heap.get? b = some o → s'.heap.get? b = some o := fun b o hb e => hm.heap b o (fun z => by
        rcases List.mem_cons.mp z with z | z
        · exact absurd (z ▸ Heap.lt_size (k3 b o hb e)) (Nat.lt_irrefl _)
        · have z2 : b = s1.heap.objs.size := by simpa using z
          exact absurd (z2 ▸ Heap.lt_size e) (Nat.lt_irrefl _)) (hk5 b o (k3 b o hb e))
      have tb' : TbP P s'.heap := (tb3.stay fun o e => hk5 P o e).stay fun o e => hm.heap P o (fun z => by
        rcases List.mem_cons.mp z with z | z
        · exact absurd (Nat.lt_trans hPlt hsz) (z ▸ Nat.lt_irrefl _)
        · have z2 : P = s1.heap.objs.size := by simpa using z
          exact absurd hPlt (z2 ▸ Nat.lt_irrefl _)) e
      have J := Inv.grown I1 hqt hP kk tb' (fun hb => AllBare.movedS (hb.push hgb) hm) hm.os
      refine ⟨.bl (xs.all q), H1, J, ?_, hQ⟩
      have hlen : (passing (fun _ => true) its.toArray.size 0).length = xs.length := by
        rw [npass, List.length_range, List.size_toArray, rv.length]
      show Value.bool _ = Value.bool _
      rw [hlen]
      exact congrArg Value.bool (ansAt_all xs q)
end
end Ob

set_option maxHeartbeats 4000000
namespace Ob
open PySem PySem.Spec PyProof.Rows L2
section
variable {X : Cx} {P c : Addr} {x : Str} {iter : Expr} {ti : TE} {p1 p2 p3 p4 p5 p6 p7 : Pos} {scope : Scope} {k : Nat}
end
/-- the law's promise at the heap behind the top, where some code tables may grow -/
theorem law_callTs {Pg : Program} {w : World} {K : PySem.W.Frag} {mg mb : Str → Option Value} {k : Nat} {fa a bm : Addr} {cps : List (Addr × Addr)} {ob : Obj} {fd : FuncData} {x : Str} {sp : Sp} {s₁ : Shared} {vs : List Value} {ns : List Int}
    (KX : K.In s₁.heap) (hns : s₁.heap.Ns mainGlobals mg) (hb : s₁.heap.Ns builtinsNs mb) (hbb : ∀ x : Str, x ≠ "__name__" → mb x = bootBuiltins x) (hlim : s₁.heap.NoLimit) (hg : s₁.gens = #[])
    (ha : s₁.heap.get? a = some { cls := .type "list", data := .seq vs.toArray }) (hi : IntsAre vs ns) (hl : ns.length ≤ sizeLine) (hr : Room k callerA)
    (CB : ∀ e ∈ cps, CodeB s₁.heap e.1 e.2) (TA : ∀ e ∈ cps, s₁.heap.TableAt e.1 e.2 #[]) (BM : BMod s₁.heap mainGlobals mg bm ob) (KP : ∀ e ∈ cps, K.lookup e.2 = none)
    (F : ∀ base : Heap, K.In base → base.Ns mainGlobals mg → (∀ e ∈ cps, CodeB base e.1 e.2) → BMod base mainGlobals mg bm ob → FnOk Pg w K mg base CX0 k fa fd [x] sp) (hbind : ∀ (s : Shared) (u : Value), BindsTo s fd ⟨[u], []⟩ [(x, u)])
    (hsp : ∀ H : Hp, (∀ e ∈ cps, H e.2 = some (.ext (TbP e.2))) → SqL K H a (ns.map V.int) → sp [.ref a] H (fun v H' => v = .bl true ∧ ∀ e ∈ cps, H' e.2 = some (.ext (TbP e.2))) fun _ _ _ => False) :
    codeAny (model Pg w) callerA (.call (.ref fa) ⟨[.ref a], []⟩) (fun r s' => r = .ok (.ret (.bool true)) ∧ OldK s₁.heap s'.heap ∧ s'.os = s₁.os ∧ AllBare s'.gens) s₁ := by
  have rv := vals_ints hi
  have lenV := hi.length
  let Ps : Addr → Prop := fun b => ∃ e ∈ cps, e.2 = b
  have dPs : ∀ b, Decidable (Ps b) := fun b => Classical.propDecidable _
  have ePP : ∀ b, Ps b → s₁.heap.get? b = some { cls := .none, data := .fields #[] } := fun b ⟨e, he, eb⟩ => eb ▸ (TA e he).2
  have haP : ¬ Ps a := fun z => by
    rw [ePP _ z] at ha
    cases ha
  have core : ∀ H : Hp, (∀ b, Ps b → H b = some (.ext (TbP b))) → (∀ b, ¬ Ps b → H b = none ∨ ∃ o xs, H b = some (.frz o (.lst xs))) → SqL K H a (ns.map V.int) → HOk Pg w H s₁.heap → (∀ b, ¬ Ps b → H b ≠ none → b = a) → (H a ≠ none → K.lookup a = none) →
      codeAny (model Pg w) callerA (.call (.ref fa) ⟨[.ref a], []⟩) (fun r s' => r = .ok (.ret (.bool true)) ∧ OldK s₁.heap s'.heap ∧ s'.os = s₁.os ∧ AllBare s'.gens) s₁ := by
    intro H hHP hO hS hok hA hK
    have base_of : ∀ {b : Addr} {o : Obj}, s₁.heap.get? b = some o → H b = none → (hidT s₁.heap H).get? b = some o := fun e n => hidT_get e n
    have noA : ∀ {b : Addr} {o : Obj}, s₁.heap.get? b = some o → (∀ v n, o.data ≠ .seq v n) → (∀ v, o.data ≠ .fields v) → H b = none := fun {b o} e d1 d2 => by
      by_cases hbP : Ps b
      · rw [ePP _ hbP] at e
        cases e
        exact absurd rfl (d2 #[])
      · cases q : H b with
        | none => rfl
        | some u =>
          have e' : b = a := hA b hbP (by rw [q]; simp)
          subst e'
          rw [ha] at e
          cases e
          exact absurd rfl (d1 vs.toArray _)
    have nsK : ∀ {b : Addr} {m : Str → Option Value}, s₁.heap.Ns b m → (hidT s₁.heap H).Ns b m := fun {b m} ⟨o, es, ep, e, d, r⟩ => ⟨o, es, ep, base_of e (noA e (by rw [d]; intro _ _ z; cases z) (by rw [d]; intro _ z; cases z)), d, r⟩
    have hKb : K.In (hidT s₁.heap H) := fun b o e => base_of (KX b o e) (by
      by_cases hbP : Ps b
      · obtain ⟨y, hy, rfl⟩ := hbP
        rw [KP y hy] at e
        cases e
      · cases q : H b with
        | none => rfl
        | some u =>
          have e' : b = a := hA b hbP (by rw [q]; simp)
          subst e'
          rw [hK (by rw [q]; simp)] at e
          cases e)
    have hM : Mod K mg (hidT s₁.heap H) := ⟨hKb, nsK hns, ⟨mb, nsK hb, hbb⟩, let ⟨mc, h1, h2⟩ := hlim; ⟨mc, nsK h1, h2⟩⟩
    have hBM : BMod (hidT s₁.heap H) mainGlobals mg bm ob := ⟨nsK BM.ns, BM.name, BM.ne, base_of BM.obj (noA BM.obj (by rw [BM.data]; intro _ _ z; cases z) (by rw [BM.data]; intro _ z; cases z)), BM.cls, BM.dict, BM.data⟩
    have hCB : ∀ y ∈ cps, CodeB (hidT s₁.heap H) y.1 y.2 := by
      intro y hy
      obtain ⟨⟨o, us, file, tf, flags, tg, inF, text, tt, e, hc, hd, r⟩, ne⟩ := CB y hy
      refine ⟨⟨o, us, file, tf, flags, tg, inF, text, tt, base_of e ?_, hc, hd, r⟩, ne⟩
      have hn : ¬ Ps y.1 := fun z => by
        rw [ePP _ z] at e
        cases e
        exact nomatch hc
      cases q : H y.1 with
      | none => rfl
      | some u =>
        have e' : y.1 = a := hA y.1 hn (by rw [q]; simp)
        rw [e', ha] at e
        cases e
        have hc' : Value.type "list" = Value.type "code" := hc
        injection hc' with hc''
        exact absurd hc'' (by decide)
    have e0 : Env0 Pg w K mg (hidT s₁.heap H) callerA [] s₁ H := ⟨trivial, hM, fun b o e => of_hidT e, Nat.le_of_eq (hidT_size _ _), trivial, fun b hb => absurd (show b ∈ ([] : List Addr) from hb) (by simp), hok, trivial⟩
    refine codeAny_mono ((F _ hKb (nsK hns) hCB hBM).run callerA [] s₁ H ⟨[.ref a], []⟩ [.ref a] [.ref a] _ _ hr e0 (hbind s₁ (.ref a)) (.cons rfl .nil) (hsp H (fun y hy => hHP y.2 ⟨y, hy, rfl⟩) hS)) fun r s' h => ?_
    cases r with
    | error e => exact False.elim h
    | ok fl =>
      cases fl with
      | next => exact False.elim h
      | brk => exact False.elim h
      | cont => exact False.elim h
      | ret u =>
        obtain ⟨v, H', os, bare0, un, hok', r', q⟩ := h
        have bare := bare0 (.of_eq hg)
        obtain ⟨q', qP⟩ := q
        subst q'
        obtain rfl : u = Value.bool true := r'
        have keep : ∀ b o, ¬ Ps b → s₁.heap.get? b = some o → s'.heap.get? b = some o := fun b o hbP e => by
          cases q : H b with
          | none => exact un.keep b o e q (by intro z; exact absurd (show b ∈ ([] : List Addr) from z) (by simp)) (by simp)
          | some u =>
            rcases hO b hbP with z | ⟨ob, xs, z⟩
            · rw [q] at z; cases z
            · have z2 := un.frzs b ob _ z
              obtain ⟨e1, _⟩ := hok b _ z
              obtain ⟨e2, _⟩ := hok' b _ z2
              rw [e] at e1; cases e1
              exact e2
        refine ⟨rfl, ⟨fun b o e => ?_, fun b o e => ?_⟩, os, bare⟩
        · by_cases hbP : Ps b
          · obtain ⟨y, hy, rfl⟩ := hbP
            obtain ⟨ps, eP, _⟩ := (show ObjOk Pg w H' s'.heap y.2 (.ext (TbP y.2)) from hok' y.2 _ (qP y hy)).1
            rw [(TA y hy).2] at e
            cases e
            exact .inr (.inl ⟨(TA y hy).isCodeTable, rfl, #[], ps, rfl, by rw [eP]; simp⟩)
          · exact .inl (keep b o hbP e)
        · by_cases hbP : Ps b
          · obtain ⟨y, hy, rfl⟩ := hbP
            obtain ⟨ps, eP, _⟩ := (show ObjOk Pg w H' s'.heap y.2 (.ext (TbP y.2)) from hok' y.2 _ (qP y hy)).1
            exact ⟨_, eP⟩
          · exact ⟨o, keep b o hbP e⟩
  have okP : ∀ (H : Hp) b, Ps b → ObjOk Pg w H s₁.heap b (.ext (TbP b)) := fun H b hb => ⟨⟨#[], ePP b hb, trivial⟩, ⟨_, ePP b hb⟩, fun _ _ x k => TbP.stay x k⟩
  cases hk : K.lookup a with
  | some o =>
    have e := KX a o hk
    rw [ha] at e
    cases e
    refine core (fun b => @ite _ (Ps b) (dPs b) (some (.ext (TbP b))) none) (fun b hb => if_pos hb) (fun b hb => .inl (if_neg hb)) (.inr ⟨_, vs.toArray, _, hk, rfl, rfl, rfl, by rw [List.size_toArray, lenV]; exact hl, by simpa using rv⟩) (fun b u z => ?_) (fun b hb z => absurd (if_neg hb) z) fun z => absurd (if_neg haP) z
    by_cases hb : Ps b
    · have z' := (if_pos hb).symm.trans z
      cases z'
      exact okP _ b hb
    · have z' := (if_neg hb).symm.trans z
      cases z'
  | none =>
    refine core (fun b => @ite _ (Ps b) (dPs b) (some (.ext (TbP b))) (if b = a then some (.frz { cls := .type "list", data := .seq vs.toArray } (.lst (ns.map V.int))) else none)) (fun b hb => if_pos hb) (fun b hb => ?_) (.inl (.inr ⟨{ cls := .type "list", data := .seq vs.toArray }, (if_neg haP).trans (if_pos rfl)⟩)) (fun b u z => ?_) (fun b hb z => ?_) fun _ => hk
    · by_cases hba : b = a
      · exact .inr ⟨_, _, (if_neg hb).trans (if_pos hba)⟩
      · exact .inl ((if_neg hb).trans (if_neg hba))
    · by_cases hb : Ps b
      · have z' := (if_pos hb).symm.trans z
        cases z'
        exact okP _ b hb
      · have z1 := (if_neg hb).symm.trans z
        by_cases hba : b = a
        · have z' := (if_pos hba).symm.trans z1
          cases z'
          subst hba
          exact ⟨ha, by rw [List.length_map]; exact hl, vs, _, rv, ha⟩
        · have z' := (if_neg hba).symm.trans z1
          cases z'
    · by_cases hba : b = a
      · exact hba
      · exact absurd ((if_neg hb).trans (if_neg hba)) z
end Ob

set_option maxHeartbeats 4000000
namespace Ob
open PySem PySem.Spec PyProof.Rows L2
def Attained (B : Nat → Int) (n j : Nat) (u : Int × Int) : Prop := u = (B j, 1) ∨ ∃ i k : Nat, i < j ∧ j < k ∧ k < n ∧ u.1 * ((k : Int) - i) = ln B i k j * u.2
/-- what is at most the number and all lines is at most what is attained -/
theorem le_of {B : Nat → Int} {n j : Nat} {t u : Int × Int} (ht : 0 < t.2) (hu : 0 < u.2) (h1 : t.1 ≤ B j * t.2) (h2 : ∀ i k : Nat, i < j → j < k → k < n → t.1 * ((k : Int) - i) ≤ ln B i k j * t.2) (h3 : Attained B n j u) : t.1 * u.2 ≤ u.1 * t.2 := by
  rcases h3 with e | ⟨i, k, hi, hk, hkn, e⟩
  · rw [e]
    simpa using h1
  · have z := Int.mul_le_mul_of_nonneg_right (h2 i k hi hk hkn) (Int.le_of_lt hu)
    refine Int.le_of_mul_le_mul_right (a := (k : Int) - i) ?_ (by omega)
    calc t.1 * u.2 * ((k : Int) - i) = t.1 * ((k : Int) - i) * u.2 := by ac_rfl
      _ ≤ ln B i k j * t.2 * u.2 := z
      _ = (ln B i k j * u.2) * t.2 := by ac_rfl
      _ = u.1 * ((k : Int) - i) * t.2 := by rw [← e]
      _ = u.1 * t.2 * ((k : Int) - i) := by ac_rfl
theorem hull_small {A : Nat → Int} {n j : Nat} {t : Int × Int} (h : HullAt A n j t) (hn : n ≤ 12) : t.2 ≤ 12 := by
  rcases h.on with ⟨_, e⟩ | ⟨p, q, hpq, hqn, _, _, _, e⟩
  · rw [e]
    show (1 : Int) ≤ 12
    decide
  · have d : t.2 ∣ t.1 * ((q : Int) - p) := ⟨_, e⟩
    have := Int.le_of_dvd (by omega) (cop_dvd h.cop d)
    omega
/-- a bearing edge is nowhere above the greatest row below -/
theorem hull_bears {A : Nat → Int} {n p q i : Nat} {t : Int × Int} (hpq : p < q) (hi : i < n) (hs : ∀ u, u < n → Sup A p q u) (ht : HullAt A n i t) : ln A p q i * t.2 ≤ t.1 * ((q : Int) - p) := by
  obtain ⟨_, _, c3⟩ := hull_val ht hi
  have z := le_of (B := A) (n := n) (j := i) (t := (ln A p q i, (q : Int) - p)) (u := t) (show (0 : Int) < (q : Int) - p by omega) ht.pos (hs i hi) (fun x y hx hy hyn => bears hpq (Nat.le_of_lt hx) (Nat.le_of_lt hy) (hs x (by omega)) (hs y hyn)) c3
  exact z
end Ob

set_option maxHeartbeats 4000000
namespace Ob
open PySem PySem.Spec PyProof.Rows L2
/-- a fraction whose bottom is small -/
def Sm (t : Int × Int) : Prop := 0 < t.2 ∧ t.2 ≤ 1000000
theorem Sm.mul {t u : Int × Int} (h : Sm t) (g : Sm u) : 0 < t.2 * u.2 ∧ t.2 * u.2 ≤ 1000000 * 1000000 := ⟨Int.mul_pos h.1 g.1, Int.mul_le_mul h.2 g.2 (Int.le_of_lt g.1) (by decide)⟩
end Ob

set_option maxHeartbeats 4000000
namespace Ob
open PySem PySem.Spec PyProof.Rows L2
theorem boot_tuple2 : bootBuiltins "tuple" = some (.type "tuple") := by decide +kernel
/-- a fraction in least numbers with a small bottom -/
def Fr (t : Int × Int) : Prop := 0 < t.2 ∧ t.2 ≤ 12 ∧ Int.gcd t.1 t.2 = 1
def spWholeI : Sp := fun vs H Q _ => ∃ n : Int, vs = [.int n] ∧ Q (.bl true) H
def spIsFr : Sp := fun vs H Q _ => ∃ (r : Addr) (ob : Obj) (t b : Int), vs = [.ref r] ∧ H r = some (.frz ob (.tup [.int t, .int b])) ∧ 0 < b ∧ Int.gcd t b = 1 ∧ Q (.bl true) H
/-- a list of fractions at hand -/
structure FrL (H : Hp) (a : Addr) (rs : List Addr) (ts : List (Int × Int)) : Prop where
  l : H a = some (.lst (rs.map V.ref))
  f : FracsAt H rs ts
  fr : ∀ t ∈ ts, Fr t
  one : 1 ≤ ts.length
  most : ts.length ≤ 12
theorem FrL.same {H H' : Hp} {a : Addr} {rs : List Addr} {ts : List (Int × Int)} (s : Same H H') (h : FrL H a rs ts) : FrL H' a rs ts := ⟨s _ _ h.l, h.f.same s, h.fr, h.one, h.most⟩
theorem FrL.at {H : Hp} {a : Addr} {rs : List Addr} {ts : List (Int × Int)} {i : Nat} {x : V} (h : FrL H a rs ts) (hx : (rs.map V.ref)[i]? = some x) : ∃ (r : Addr) (t : Int × Int), x = .ref r ∧ ts[i]? = some t ∧ H r = some (.tup [.int t.1, .int t.2]) ∧ Fr t := by
  rw [List.getElem?_map] at hx
  cases e : rs[i]? with
  | none => rw [e] at hx; cases hx
  | some r =>
    rw [e] at hx
    obtain ⟨t, h1, h2⟩ := L2.paired_get h.f e
    exact ⟨r, t, (Option.some.inj hx).symm, h1, h2, h.fr t (List.mem_of_getElem? h1)⟩
def overT (L : Int) (t : Int × Int) : Int := t.1 * (L / t.2)
/-- s // gcd(s, b) * b is over both -/
theorem lcm_step {s b N : Int} (hs : 0 < s) (hb : 0 < b) (ds : s ∣ N) (db : b ∣ N) : 0 < s / (Int.gcd s b : Int) * b ∧ s / (Int.gcd s b : Int) * b ∣ N ∧ s ∣ s / (Int.gcd s b : Int) * b ∧ b ∣ s / (Int.gcd s b : Int) * b := by
  have g0 := gcd_pos (t := s) hb
  have e1 := Int.mul_ediv_cancel' (Int.gcd_dvd_left s b)
  have e2 := Int.mul_ediv_cancel' (Int.gcd_dvd_right s b)
  have cop : Int.gcd (s / (Int.gcd s b : Int)) (b / (Int.gcd s b : Int)) = 1 := Int.gcd_ediv_gcd_ediv_gcd (by omega)
  generalize s / (Int.gcd s b : Int) = x at *
  generalize b / (Int.gcd s b : Int) = y at *
  generalize (Int.gcd s b : Int) = g at *
  subst e1
  have hx : 0 < x := by
    rcases Int.lt_or_le 0 x with h | h
    · exact h
    · have := Int.mul_nonpos_of_nonneg_of_nonpos (Int.le_of_lt g0) h
      omega
  refine ⟨Int.mul_pos hx hb, ?_, ⟨y, by rw [← e2]; ac_rfl⟩, ⟨x, by ac_rfl⟩⟩
  obtain ⟨u, hu⟩ := ds
  obtain ⟨v, hv⟩ := db
  have e3 : x * u = y * v := by
    have : g * (x * u) = g * (y * v) := by
      rw [← Int.mul_assoc, ← hu, hv, ← e2, Int.mul_assoc]
    exact Int.eq_of_mul_eq_mul_left (by omega) this
  have d : x ∣ v := cop_dvd (a := y) (b := x) (by rw [Int.gcd_comm]; exact cop) ⟨u, e3.symm⟩
  obtain ⟨w, rfl⟩ := d
  exact ⟨w, by rw [hv]; ac_rfl⟩
end Ob

set_option maxHeartbeats 4000000
namespace Ob
open PySem PySem.Spec PyProof.Rows L2
theorem ints_at {ns : List Int} {i : Nat} {x : V} (h : (ns.map V.int)[i]? = some x) : ∃ u : Int, x = .int u ∧ ns[i]? = some u := by
  rw [List.getElem?_map] at h
  cases e : ns[i]? with
  | none => rw [e] at h; cases h
  | some u => rw [e] at h; exact ⟨u, (Option.some.inj h).symm, rfl⟩
theorem refs_at' {rs : List Addr} {ts : List (Int × Int)} {H : Hp} {i : Nat} {x : V} (f : FracsAt H rs ts) (h : (rs.map V.ref)[i]? = some x) : ∃ (r : Addr) (t : Int × Int), x = .ref r ∧ H r = some (.tup [.int t.1, .int t.2]) ∧ ts[i]? = some t := by
  rw [List.getElem?_map] at h
  cases e : rs[i]? with
  | none => rw [e] at h; cases h
  | some r =>
    rw [e] at h
    obtain ⟨t, h1, h2⟩ := L2.paired_get f e
    exact ⟨r, t, (Option.some.inj h).symm, h2, h1⟩
theorem idx_lt {α : Type} {xs : List α} {i : Nat} {x : α} (h : xs[i]? = some x) : i < xs.length := (List.getElem?_eq_some_iff.mp h).1
/-! rows that bend one way -/
def Conv (c : Nat → Int) (n : Nat) : Prop := ∀ j, j + 2 < n → 2 * c (j + 1) ≤ c j + c (j + 2)
end Ob

set_option maxHeartbeats 4000000
namespace Ob
open PySem PySem.Spec PyProof.Rows L2
/-! great numbers -/
def Bt (k : Nat) (z : Int) : Prop := z.natAbs < 2 ^ k
theorem Bt.mono {j k : Nat} {z : Int} (h : Bt j z) (hk : j ≤ k) : Bt k z := Nat.lt_of_lt_of_le h (Nat.pow_le_pow_right (by decide) hk)
theorem Bt.mul {j k : Nat} {x y : Int} (h : Bt j x) (g : Bt k y) : Bt (j + k) (x * y) := by
  unfold Bt at *
  rw [Int.natAbs_mul, Nat.pow_add]
  exact Nat.mul_lt_mul'' h g
theorem Bt.add {k : Nat} {x y : Int} (h : Bt k x) (g : Bt k y) : Bt (k + 1) (x + y) := by
  unfold Bt at *
  have := Int.natAbs_add_le x y
  rw [Nat.pow_succ]
  omega
theorem Bt.neg {k : Nat} {x : Int} (h : Bt k x) : Bt k (-x) := by
  unfold Bt at *
  rw [Int.natAbs_neg]
  exact h
theorem Bt.le {k : Nat} {x y : Int} (h : Bt k y) (hl : x.natAbs ≤ y.natAbs) : Bt k x := Nat.lt_of_le_of_lt hl h
theorem Bt.log {k : Nat} {x : Int} (h : Bt k x) (hk : 0 < k) : x.natAbs.log2 < k := by
  by_cases e : x.natAbs = 0
  · rw [e, Nat.log2_zero]
    exact hk
  · exact (Nat.log2_lt e).mpr h
theorem Bt.bits {k : Nat} {x : Int} (h : Bt k x) : Builtin.Int.intBits x ≤ k := by
  unfold Builtin.Int.intBits
  by_cases e : x = 0
  · subst e
    simp
  · have e' : (x == 0) = false := by simpa using e
    rw [e']
    have hn : x.natAbs ≠ 0 := by omega
    have := (Nat.log2_lt hn).mpr h
    show x.natAbs.log2 + 1 ≤ k
    omega
def CMulB (i j : Int) : Prop := ∃ a b : Nat, Bt a i ∧ Bt b j ∧ a + b ≤ 8000
def CDivB (_ j : Int) : Prop := 0 < j ∧ ∃ b : Nat, Bt b j ∧ b ≤ 8000
section
variable {X : Cx}
theorem op_mulB : OpR X (binaryOp .Mult) (rI CMulB fun i j => .int (i * j)) := opI fun i j _ _ _ _ _ hc q => mul_int q (by
  obtain ⟨a, b, h1, h2, h3⟩ := hc
  unfold IntMulOk
  have z1 := h1.bits
  have z2 := h2.bits
  intro z
  rw [Bool.and_eq_true] at z
  have z3 := z.2
  unfold Builtin.Int.intTooBig at z3
  have z4 := of_decide_eq_true z3
  have z5 : (bitsLine : Int) = 134217728 := by decide
  omega)
theorem op_fdivB : OpR X (binaryOp .FloorDiv) (rI CDivB fun i j => .int (i / j)) := opI fun i j _ _ _ _ _ hc q => by
  obtain ⟨h1, b, h2, h3⟩ := hc
  refine floordiv_int (by omega) (by rw [Int.fdiv_eq_ediv_of_nonneg i (by omega)]; exact q) (.inl (PyProof.noPylong_of_log2 ?_))
  have := (h2.mono (k := 8001) (by omega)).log (by decide)
  omega
end
/-! a dict of the top -/
def KDict (P : Program) (w : World) (K : PySem.W.Frag) (a : Addr) (vs : List (Key × Value)) : Prop := (a == sysModules) = false ∧ ∀ h : Heap, K.In h → h.DictOf (mixKind P w) a vs
section
variable {X : Cx} {a : Addr} {vs : List (Key × Value)} {nm : Str} {p pos : Pos} {i : Expr} {ty : TE}
def tKGet (vs : List (Key × Value)) (ty : TE) : TE := fun σ H Q => ty σ H fun y H2 => ∃ (k : Str) (f : Addr), y = .str k ∧ valueAt vs (Sum.inr k) = some (.ref f) ∧ Q (.ref f) H2
theorem pe_kget (kd : KDict X.prog X.w X.K a vs) (hg : Gl X nm) (hm : X.mg nm = some (.ref a)) (hi : PE X i ty) (hs : NoSl i) (hd : (nm == ("__debug__" : Str)) = false := by decide) : PE X (.Subscript (.Name nm p) i pos) (tKGet vs ty) := by
  intro pins s σ H Q I h
  refine subD_of PySem.F.slot_dict_getitem.lookup hs (ld_glob I hg hm (thn (hi pins s σ H _ I h) fun iv s2 ⟨y, H2, I2, ry, k, f, ey, ev, q2⟩ => ?_) hd)
  subst ey
  have dd := kd.2 s2.heap I2.kIn
  exact ⟨dd.typeIs, wpAny_getItem_of (kV_is (k := Sum.inr k) ry) dd.mapOf ev ⟨.ref f, H2, I2.tok _, rfl, q2⟩⟩
def tKNotIn (vs : List (Key × Value)) (ty : TE) : TE := fun σ H Q => ty σ H fun y H2 => ∃ (k : Str), y = .str k ∧ Q (.bl (!(valueAt vs (Sum.inr k)).isSome)) H2
theorem pc_knotin (kd : KDict X.prog X.w X.K a vs) (hg : Gl X nm) (hm : X.mg nm = some (.ref a)) (hi : PE X i ty) (hd : (nm == ("__debug__" : Str)) = false := by decide) : PC X .NotIn i (.Name nm p) (tKNotIn vs ty) := by
  intro pins s σ H Q I h
  refine thn (hi pins s σ H _ I h) fun iv s1 ⟨y, H1, I1, ry, k, ey, q⟩ => ld_glob I1 hg hm ?_ hd
  subst ey
  have dd := kd.2 s1.heap I1.kIn
  exact wpAny_notIn_of (kV_is (k := Sum.inr k) ry) kd.1 dd.mapOf ⟨.bl _, H1, I1.tok _, rfl, q⟩
end
/-! the call of what a name holds -/
section
variable {X : Cx} {x : Str} {p pos : Pos} {e : Expr} {es : List Expr} {tv : TE} {t : TA}
def tCallV (X : Cx) (tv : TE) (t : TA) : TE := fun σ H Q => tv σ H fun v H1 => ∃ (f : Addr) (fd : FuncData) (ps : List Str) (sp : Sp) (k : Nat), v = .ref f ∧ FnOk X.prog X.w X.K X.mg X.base CX0 k f fd ps sp ∧ Room k X.A ∧ PySem.W.keepIn X.K (.ref f) = true ∧ Binds X.K fd ps [] ∧ t σ H1 fun vs H2 => sp vs H2 Q E0
theorem pe_callV (hv : PE X (.Name x p) tv) (ha : PA X (e :: es) t) (hqt : X.qt = false := by rfl) (he : starEach (e :: es) X.env = (false, eval e X.env) :: starEach es X.env := by rfl) (hpl : (backTo pos (starEach es X.env)).any (·.1) = false := by rfl) :
    PE X (.Call (.Name x p) (e :: es) [] pos) (tCallV X tv t) := by
  intro pins s σ H Q I h
  refine wpAny_Call_Name_kw (thn (hv pins s σ H _ I h) fun u s1 ⟨v, H1, I1, r1, f, fd, ps, sp, k, ev, F, hr, hk, hb, q⟩ => ?_)
  subst ev
  cases r1
  refine PySem.W.callWith_K (h₀ := X.base) I1.ok.mod.kin hk (thn (ha pos pins s1 σ H1 _ I1 q) fun us s2 ⟨vs, H2, I2, r, q2⟩ => ⟨I2.kIn, ?_⟩) he hpl
  exact run_fn F hr hb .nil (pass0 hqt) I2 r (by rw [List.append_nil]; exact q2)
end
/-! sum(x * x for x in ..) -/
theorem boot_sum' : bootBuiltins "sum" = some (.builtin "sum") := by decide +kernel
def sqAt (ns : List Int) (j : Nat) : Int := (ns[j]?.map fun n => n * n).getD 0
theorem preSum_sq (ns : List Int) : preSum (sqAt ns) ns.length = (ns.map fun n => n * n).sum := by
  have key : ∀ i, i ≤ ns.length → preSum (sqAt ns) i = ((ns.take i).map fun n => n * n).sum := by
    intro i
    induction i with
    | zero => intro _; rfl
    | succ i ih =>
      intro hi
      have e : ns[i]? = some (ns[i]'(by omega)) := List.getElem?_eq_getElem _
      show preSum (sqAt ns) i + sqAt ns i = _
      rw [ih (by omega), List.take_add_one, e, List.map_append, List.sum_append]
      unfold sqAt
      rw [e]
      congr 1
      simp
  rw [key _ (Nat.le_refl _), List.take_of_length_le (Nat.le_refl _)]
def tSumSq (K : PySem.W.Frag) (P : Addr) (ti : TE) : TE := fun σ H Q => ti σ H fun v H1 => ∃ (a : Addr) (ns : List Int), v = .ref a ∧ SqL K H1 a (ns.map V.int) ∧ (∀ n ∈ ns, Bt 4000 n) ∧ H1 P = some (.ext (TbP P)) ∧ Q (.int (ns.map fun n => n * n).sum) H1
section
variable {X : Cx} {P c : Addr} {x : Str} {iter : Expr} {ti : TE} {p1 p2 p3 p4 p5 p6 p7 : Pos} {scope : Scope} {k : Nat}
theorem pe_sumSq (hcalm : X.calm = true) (B : GenB X c P) (hr : Room 1 X.A) (hg : Gl X "sum") (hm : X.mg "sum" = none) (hi : PE X iter ti)
    (hco : scope.isCoroutine = false) (hclos : closureFor scope X.env = pure []) (hcell : ∀ y ∈ scope.names, y.2 ≠ .cell) (h0 : scope.names.lookup (".0" : Str) = some NameKind.local) (hx : scope.names.lookup x = some .local)
    (hkind : scope.kind = .function) (hs : ∀ v, genFold iter X.env v = pure v) (hd : (x == ("__debug__" : Str)) = false := by decide) (hqt : X.qt = false := by rfl) :
    PE X (.Call (.Name "sum" p1) [.GeneratorExp (.BinOp (.Name x p2) .Mult (.Name x p3) p4) [⟨.Name x p5, iter, [], 0⟩] scope p6] [] p7) (tSumSq X.K P ti) := by
  intro pins s σ H Q I h
  have hh : X.A.handled = none := I.ok.hd hcalm
  refine wpAny_Call_Name_kw (ld_blt I hg hm boot_sum' ?_ (by decide) (by decide))
  refine PyProof.Rows.callWith_builtin1 ?_ rfl rfl
  refine Calls.spliced_cons ?_
  refine wpAny_GeneratorExp_walksQD hh hco hclos hcell h0 hx hkind hr.depth (thn (hi pins s σ H _ I h) fun u s1 ⟨v, H1, I1, r1, q1⟩ => ?_) hs
  obtain ⟨a, ns, rfl, hS, hB, hP, hQ⟩ := q1
  cases r1
  obtain ⟨its, rv, pl, hz⟩ := I1.list hS
  have hl := pl.isList
  have hlt : a < s1.heap.objs.size := by obtain ⟨_, e, _⟩ := hl; exact Heap.lt_size e
  have tb1 := Inv.tableAt I1 hP
  have hPlt : P < s1.heap.objs.size := let ⟨_, e, _⟩ := tb1; Heap.lt_size e
  refine wpAny_pyIter_list hl ⟨(I1.nolimit).push _, ?_⟩
  refine gen_code B.ec ((B.code.keeps I1.bk).keeps fun b o e => Heap.get?_push_of_some _ e) (tb1.stay fun o e => Heap.get?_push_of_some _ e) fun code h3 tk hx3 hsz3 tb3 => ?_
  obtain ⟨bm, ob, M⟩ := B.bm
  have k3 : ∀ b o, b ≠ P → s1.heap.get? b = some o → h3.get? b = some o := fun b o hb e => hx3 b o hb (Heap.get?_push_of_some _ e)
  have nbP : ∀ b o, X.base.get? b = some o → b ≠ P := fun b o e z => by
    have z2 := (I1.bs b o e).2
    rw [z, hP] at z2
    cases z2
  have kb3 : ∀ b o, X.base.get? b = some o → h3.get? b = some o := fun b o e => k3 b o (nbP b o e) (I1.bk b o e)
  have M3 := M.keeps kb3
  rw [I.ok.glob]
  refine wpAny_builtinsFor M3.ns M3.name M3.ne M3.obj M3.cls M3.dict M3.data ?_
  have hsz : s1.heap.objs.size < h3.objs.size := Nat.lt_of_lt_of_le (by rw [Heap.size_push]; exact Nat.lt_succ_self _) hsz3
  have hit3 : ∀ o, (s1.heap.push { cls := .type "list_iterator", data := .fields #[.ref a, .int 0 0] }).get? s1.heap.objs.size = some o → h3.get? s1.heap.objs.size = some o := fun o e => hx3 _ o (Nat.ne_of_gt hPlt) e
  have haP : a ≠ P := fun z => by
    obtain ⟨o, ho, hcls, _⟩ := hl
    obtain ⟨_, e, _⟩ := tb1
    rw [z, e] at ho
    cases ho
    exact nomatch hcls
  have lim3 : h3.NoLimit := I.ok.mod.nolimit.keeps kb3
  refine ⟨s1.heap.objs.size, [s1.heap.objs.size, a], [s1.heap.objs.size], its.toArray.size, _, _, fun _ => true, fun i y => ∃ v, its.toArray[i]? = some v ∧ ∃ z, (ns.map V.int)[i]? = some z ∧ ∃ n tk, z = .int n ∧ y = .int (n * n) tk, rfl, fun A' hA => Walks.list hA _ _ (Nat.ne_of_lt hlt) its.toArray, ?_, ?_, lim3, ?_, ?_, ?_⟩
  · exact ⟨⟨_, hit3 _ (Heap.get?_push_size _ rfl), rfl, rfl⟩, hl.at fun o e => k3 a o haP e⟩
  · intro b hb
    rcases List.mem_cons.mp hb with rfl | hb
    · exact hsz
    · rcases List.mem_cons.mp hb with rfl | hb
      · exact Nat.lt_trans hlt hsz
      · cases hb
  · intro hb
    have z : cStatics = s1.heap.objs.size := by simpa using hb
    obtain ⟨_, hn, _⟩ := I1.nolimit
    exact absurd (z ▸ hn.lt) (Nat.lt_irrefl _)
  · intro href hhref
    refine ⟨fun A' E' i v t m2 hA hD hU hPi hn hm2 hk => wpAny_pure ⟨rfl, t.heap, t.toks, rfl, fun _ _ e => e⟩, fun A' E' i v t m2 hA hD hU hPi _ hn hm2 hk => ?_⟩
    obtain ⟨n, hz1, tk', rfl⟩ : ∃ n : Int, (ns.map V.int)[i]? = some (.int n) ∧ ∃ tk', v = .int n tk' := by
      have e : its[i]? = some v := by simpa using hPi
      cases q : (ns.map V.int)[i]? with
      | none => rw [rv.none_of q] at e; cases e
      | some z =>
        obtain ⟨u, e1, e2⟩ := rv.get q
        rw [e] at e1
        cases e1
        rw [List.getElem?_map] at q
        cases q2 : ns[i]? with
        | none => rw [q2] at q; cases q
        | some n =>
          rw [q2] at q
          cases q
          exact ⟨n, rfl, e2⟩
    have hBn : Bt 4000 n := hB n (by
      rw [List.getElem?_map] at hz1
      cases q2 : ns[i]? with
      | none => rw [q2] at hz1; cases hz1
      | some z =>
        rw [q2] at hz1
        have e : z = n := by injection (Option.some.inj hz1)
        rw [← e]
        exact List.mem_of_getElem? q2)
    have mok : IntMulOk n n := by
      unfold IntMulOk
      have z1 := hBn.bits
      intro z
      rw [Bool.and_eq_true] at z
      have z3 := z.2
      unfold Builtin.Int.intTooBig at z3
      have z4 := of_decide_eq_true z3
      have z5 : (bitsLine : Int) = 134217728 := by decide
      omega
    refine wpAny_BinOp (load_here hkind hx hn hm2 (load_here hkind hx hn hm2 (mul_int ⟨⟨_, hPi, _, hz1, n, _, rfl, rfl⟩, t.heap, _, rfl, fun _ _ e => e⟩ mok) hd) hd)
  · intro a' h5 tk5 gs hgb hag hsz5 hk5 Wk hat
    have Wk := Wk.in4_1
    refine Calls.spliced_nil ?_
    have npass : ∀ n, (passing (fun _ => true) n 0) = List.range n := fun n => by simp [passing]
    refine call_sum_walkAnyS (Wk.self 0 _ _ _ hat ⟨a', _, _, _, _, _, _, sqAt ns, rfl, Wk, hat, ?F, ?_, fun s' t' hm => ?_⟩)
    case F =>
      intro b hb
      have hag' : h3.objs.size < a' := hag
      show b < h5.objs.size
      rw [hsz5]
      rcases List.mem_cons.mp hb with h | hb
      · rw [h]; exact Nat.lt_succ_self _
      rcases List.mem_cons.mp hb with h | hb
      · rw [h]; exact Nat.lt_succ_of_lt hag'
      have hb3 : b < h3.objs.size := List.mem_range.mp hb
      exact Nat.lt_succ_of_lt (Nat.lt_trans hb3 hag')
    · rintro j v ⟨i, hi', v', hv', z, hz', n, tk, rfl, rfl⟩
      have ei : i = j := by
        rw [npass] at hi'
        have := (List.getElem?_eq_some_iff.mp hi').2
        simpa using this.symm
      subst ei
      refine ⟨tk, ?_⟩
      rw [List.getElem?_map] at hz'
      cases q2 : ns[i]? with
      | none => rw [q2] at hz'; cases hz'
      | some u =>
        rw [q2] at hz'
        have e : u = n := by injection (Option.some.inj hz')
        unfold sqAt
        rw [q2, e]
        rfl
    · have kk : ∀ b o, b ≠ P → s1.heap.get? b = some o → s'.heap.get? b = some o := fun b o hb e => hm.heap b o (fun z => by
        rcases List.mem_cons.mp z with z | z
        · exact absurd (z ▸ Heap.lt_size (k3 b o hb e)) (Nat.lt_irrefl _)
        · have z2 : b = s1.heap.objs.size := by simpa using z
          exact absurd (z2 ▸ Heap.lt_size e) (Nat.lt_irrefl _)) (hk5 b o (k3 b o hb e))
      have tb' : TbP P s'.heap := (tb3.stay fun o e => hk5 P o e).stay fun o e => hm.heap P o (fun z => by
        rcases List.mem_cons.mp z with z | z
        · exact absurd (Nat.lt_trans hPlt hsz) (z ▸ Nat.lt_irrefl _)
        · have z2 : P = s1.heap.objs.size := by simpa using z
          exact absurd hPlt (z2 ▸ Nat.lt_irrefl _)) e
      have J := Inv.grown I1 hqt hP kk tb' (fun hb => AllBare.movedS (hb.push hgb) hm) hm.os
      refine ⟨.int (ns.map fun n => n * n).sum, H1, J, ?_, hQ⟩
      have hlen : (passing (fun _ => true) its.toArray.size 0).length = (ns.map V.int).length := by
        rw [npass, List.length_range, List.size_toArray, rv.length]
      rw [hlen, List.length_map, preSum_sq]
      exact ⟨_, rfl⟩
end
end Ob

set_option maxHeartbeats 4000000
namespace Ob
open PySem PySem.Spec PyProof.Rows L2
theorem red_eq {X Y X' Y' : Int} (hY : 0 < Y) (hY' : 0 < Y') (h : X * Y' = X' * Y) : (redT X Y, redB X Y) = (redT X' Y', redB X' Y') := by
  have m1 := red_mul (t := X) hY
  have m2 := red_mul (t := X') hY'
  have e : redT X Y * redB X' Y' = redT X' Y' * redB X Y := by
    refine Int.eq_of_mul_eq_mul_right (a := Y * Y') (by have := Int.mul_pos hY hY'; omega) ?_
    calc redT X Y * redB X' Y' * (Y * Y') = (redT X Y * Y) * (redB X' Y' * Y') := by ac_rfl
      _ = (redB X Y * X) * (redB X' Y' * Y') := by rw [m1]
      _ = redB X Y * redB X' Y' * (X * Y') := by ac_rfl
      _ = redB X Y * redB X' Y' * (X' * Y) := by rw [h]
      _ = (redB X' Y' * X') * (redB X Y * Y) := by ac_rfl
      _ = (redT X' Y' * Y') * (redB X Y * Y) := by rw [m2]
      _ = redT X' Y' * redB X Y * (Y * Y') := by ac_rfl
  obtain ⟨z1, z2⟩ := least_unique (redB_pos hY) (redB_pos hY') (red_gcd hY) (red_gcd hY') e
  exact Prod.ext z1 z2
def absI (z : Int) : Int := if z < 0 then -z else z
theorem absI_nonneg (z : Int) : 0 ≤ absI z := by unfold absI; split <;> omega
theorem absI_abs (z : Int) : (absI z).natAbs = z.natAbs := by unfold absI; split <;> omega
def gapF (L : Int) (p : Int × (Int × Int)) : Int := absI (p.1 * L - overT L p.2)
def gapsOf (ns : List Int) (ts : List (Int × Int)) (L : Int) : List Int := (ns.zip ts).map (gapF L)
def isGap (g : Int) : Bool := decide (g ≠ 0)
def MeasIs (mz : Str) (gs : List Int) (L : Int) (t : Int × Int) : Prop :=
  (mz = "greatest" ∧ ∃ m, m ∈ gs ∧ (∀ y ∈ gs, y ≤ m) ∧ t = (redT m L, redB m L)) ∨ (mz = "changed" ∧ t = (((gs.filter isGap).length : Int), 1)) ∨
  (mz = "sum" ∧ t = (redT gs.sum L, redB gs.sum L)) ∨ (mz = "squares" ∧ t = (redT (gs.map fun n => n * n).sum (L * L), redB (gs.map fun n => n * n).sum (L * L)))
section
variable {L B : Int} {ps : List (Int × (Int × Int))}
end
/-- a fraction of at most twelve figures and some more -/
structure Fq (t : Int × Int) : Prop where
  pos : 0 < t.2
  small : t.2 < 2 ^ 40
  cop : Int.gcd t.1 t.2 = 1
  top : t.1.natAbs < 2 ^ 62
structure FqL (H : Hp) (a : Addr) (rs : List Addr) (ts : List (Int × Int)) : Prop where
  l : H a = some (.lst (rs.map V.ref))
  f : FracsAt H rs ts
  fr : ∀ t ∈ ts, Fq t
  one : 1 ≤ ts.length
  most : ts.length ≤ 12
theorem FqL.same {H H' : Hp} {a : Addr} {rs : List Addr} {ts : List (Int × Int)} (s : Same H H') (h : FqL H a rs ts) : FqL H' a rs ts := ⟨s _ _ h.l, h.f.same s, h.fr, h.one, h.most⟩
theorem FqL.at {H : Hp} {a : Addr} {rs : List Addr} {ts : List (Int × Int)} {i : Nat} {x : V} (h : FqL H a rs ts) (hx : (rs.map V.ref)[i]? = some x) : ∃ (r : Addr) (t : Int × Int), x = .ref r ∧ ts[i]? = some t ∧ H r = some (.tup [.int t.1, .int t.2]) ∧ Fq t := by
  obtain ⟨r, t, e, h1, h2⟩ := refs_at' h.f hx
  exact ⟨r, t, e, h2, h1, h.fr t (List.mem_of_getElem? h2)⟩
structure Over2 (ts : List (Int × Int)) (L : Int) : Prop where
  pos : 0 < L
  dvd : ∀ t ∈ ts, t.2 ∣ L
  bt : Bt 500 L
def spIsRowF2 (P : Addr) : Sp := fun vs H Q _ => Tb P H ∧ ∃ (a : Addr) (rs : List Addr) (ts : List (Int × Int)), vs = [.ref a] ∧ FqL H a rs ts ∧ Q (.bl true) H
def spCheckF (P : Addr) : Sp := fun vs H Q _ => Tb P H ∧ ∃ (a : Addr) (rs : List Addr) (ts : List (Int × Int)), vs = [.ref a] ∧ FqL H a rs ts ∧ Q .non H
def spShB2 : Sp := fun vs H Q _ => ∃ (a : Addr) (rs : List Addr) (ts : List (Int × Int)), vs = [.ref a] ∧ FqL H a rs ts ∧ ∀ L, Over2 ts L → Q (.int L) H
def spTops2 : Sp := fun vs H Q _ => ∃ (a : Addr) (rs : List Addr) (ts : List (Int × Int)) (L : Int), vs = [.ref a, .int L] ∧ FqL H a rs ts ∧ Over2 ts L ∧ ∀ (r : Addr) (H' : Hp), Same H H' → H r = none → H' r = some (.lst ((ts.map (overT L)).map V.int)) → Q (.ref r) H'
def spLeastB : Sp := fun vs H Q _ => ∃ t b : Int, vs = [.int t, .int b] ∧ 0 < b ∧ Bt 4000 b ∧ ∀ r, H r = none → Q (.ref r) (upd H r (.tup [.int (redT t b), .int (redB t b)]))
def spMeas (mz : Str) : Sp := fun vs H Q _ => ∃ (a : Addr) (gs : List Int) (L : Int), vs = [.ref a, .int L] ∧ H a = some (.lst (gs.map V.int)) ∧ 1 ≤ gs.length ∧ gs.length ≤ 12 ∧ 0 < L ∧ Bt 500 L ∧ (∀ g ∈ gs, Bt 600 g) ∧
  ∀ (r : Addr) (H' : Hp) (t : Int × Int), MeasIs mz gs L t → Same H H' → H r = none → H' r = some (.tup [.int t.1, .int t.2]) → Q (.ref r) H'
def spMeasT (P : Addr) (mz : Str) : Sp := fun vs H Q E => Tb P H ∧ spMeas mz vs H Q E
def measNames : List Str := ["greatest", "changed", "sum", "squares"]
def spCheckM : Sp := fun vs H Q _ => ∃ mz : Str, vs = [.str mz] ∧ mz ∈ measNames ∧ Q .non H
def spHow (P1 P2 P3 : Addr) : Sp := fun vs H Q _ => Tb P1 H ∧ Tb P2 H ∧ Tb P3 H ∧ ∃ (mz : Str) (a D : Addr) (ns : List Int) (rs : List Addr) (ts : List (Int × Int)), vs = [.str mz, .ref a, .ref D] ∧ mz ∈ measNames ∧ H a = some (.lst (ns.map V.int)) ∧ FqL H D rs ts ∧ ts.length = ns.length ∧ (∀ z ∈ ns, Bt 42 z) ∧
  ∀ (r : Addr) (H' : Hp) (t : Int × Int) (L : Int), Over2 ts L → MeasIs mz (gapsOf ns ts L) L t → Same H H' → H r = none → H' r = some (.tup [.int t.1, .int t.2]) → Q (.ref r) H'
theorem Bt.of {k : Nat} {z : Int} (h : z.natAbs < 2 ^ k) : Bt k z := h
theorem gap_bt {L : Int} {p : Int × (Int × Int)} (hL : Bt 500 L) (hn : Bt 42 p.1) (ht : Fq p.2) : Bt 600 (gapF L p) := by
  unfold gapF
  refine Bt.le ?_ (Nat.le_of_eq (absI_abs _))
  have e1 := (hn.mul hL).mono (k := 570) (by decide)
  have e2 : Bt 500 (L / p.2.2) := hL.le (Int.natAbs_ediv_le_natAbs _ _)
  have e3 := ((Bt.of ht.top).mul e2).mono (k := 570) (by decide)
  have e4 := (e1.add e3.neg).mono (k := 600) (by decide)
  rw [show p.1 * L - overT L p.2 = p.1 * L + -(p.2.1 * (L / p.2.2)) by unfold overT; omega]
  exact e4
end Ob

set_option maxHeartbeats 4000000
namespace Ob
open PySem PySem.Spec PyProof.Rows L2
theorem nn {a b : Nat} (h : ¬ a = b) : @Ne Addr a b := h
section
variable {prog : Program} {w : World} {A : Around} {E : Value → Shared → Prop} {s : Shared}
end
section
variable {prog : Program} {w : World} {A : Around} {E : Value → Shared → Prop} {s : Shared}
end
end Ob

set_option maxHeartbeats 4000000
namespace Ob
open PySem PySem.Spec PyProof.Rows L2
section
variable {X : Cx} {P c : Addr} {x : Str} {elt iter : Expr} {ti : TE} {p1 p5 p6 p7 : Pos} {scope : Scope} {R : L2.St → Hp → V → Bool → Prop}
end
end Ob

set_option maxHeartbeats 4000000
namespace Ob
open PySem PySem.Spec PyProof.Rows L2
section
variable {prog : Program} {w : World} {A : Around} {E : Value → Shared → Prop} {s : Shared}
end
section
variable {prog : Program} {w : World} {A : Around} {E : Value → Shared → Prop} {s : Shared}
end
end Ob

set_option maxHeartbeats 4000000
namespace Ob
open PySem PySem.Spec PyProof.Rows L2
section
variable {X : Cx} {P c : Addr} {x : Str} {elt iter : Expr} {ti : TE} {p1 p5 p6 p7 : Pos} {scope : Scope} {R : L2.St → Hp → V → Bool → Prop}
end
end Ob

set_option maxHeartbeats 4000000
namespace L2
open PySem PySem.Spec PyProof.Rows
section
variable {prog : Program} {w : World} {A : Around} {R : Result → Shared → Prop} {s : Shared} {elt t0 i0 t1 i1 t2 i2 : Expr} {ifs0 ifs1 ifs2 : List Expr} {scope : Scope} {pos : Pos} {it acc : Value} {env : Env}
end
section
variable {X : Cx}
end
end L2

set_option maxHeartbeats 4000000
namespace Ob
open PySem PySem.Spec PyProof.Rows L2
/-- three places -/
abbrev Tri := Nat × Nat × Nat
abbrev triO (t : Tri) : HO := .tup [.int (t.1 : Int), .int (t.2.1 : Int), .int (t.2.2 : Int)]
/-- tuples of three places, each at its own address -/
def TrisAt (H : Hp) (rs : List Addr) (ts : List Tri) : Prop := Paired (fun r t => H r = some (triO t)) rs ts
theorem TrisAt.same {H H' : Hp} {rs : List Addr} {ts : List Tri} (s : Same H H') (h : TrisAt H rs ts) : TrisAt H' rs ts := Paired.mapP h fun _ _ e => s _ _ e
/-- what the amid number is above the line of the others, times how far these are -/
def topOf (ns : List Int) (t : Tri) : Int := An ns t.2.1 * ((t.2.2 : Int) - t.1) - ln (An ns) t.1 t.2.2 t.2.1
/-- what three places show -/
def shownP (ns : List Int) (t : Tri) : Int × Int := if topOf ns t ≤ 0 then (0, 1) else (redT (topOf ns t) (2 * ((t.2.2 : Int) - t.1)), redB (topOf ns t) (2 * ((t.2.2 : Int) - t.1)))
theorem redB_le {t b : Int} (h : 0 < b) : redB t b ≤ b := by
  have d : redB t b ∣ b := ⟨_, (Int.mul_ediv_cancel' (Int.gcd_dvd_right t b)).symm.trans (Int.mul_comm _ _)⟩
  exact Int.le_of_dvd h d
theorem shown_pos (ns : List Int) {t : Tri} (h : t.1 < t.2.2) : 0 < (shownP ns t).2 := by
  unfold shownP
  split
  · exact (show (0 : Int) < 1 by decide)
  · exact redB_pos (by omega)
theorem shown_sm (ns : List Int) {t : Tri} (h : t.1 < t.2.2) (h2 : t.2.2 ≤ 1000) : Sm (shownP ns t) := by
  refine ⟨shown_pos ns h, ?_⟩
  unfold shownP
  split
  · exact (show (1 : Int) ≤ 1000000 by decide)
  · have := redB_le (t := topOf ns t) (b := 2 * ((t.2.2 : Int) - t.1)) (by omega)
    show redB _ _ ≤ 1000000
    omega
theorem shown_cop (ns : List Int) {t : Tri} (h : t.1 < t.2.2) : Int.gcd (shownP ns t).1 (shownP ns t).2 = 1 := by
  unfold shownP
  split
  · rfl
  · exact red_gcd (by omega)
/-- the first that shows the most, as both go through them -/
abbrev Bs := (Int × Int) × Option Tri
def stepP (ns : List Int) (st : Bs) (t : Tri) : Bs := if st.1.1 * (shownP ns t).2 < (shownP ns t).1 * st.1.2 then (shownP ns t, some t) else st
/-- what is known of a best -/
structure BsOk (ns : List Int) (n : Nat) (st : Bs) : Prop where
  sm : Sm st.1
  cop : Int.gcd st.1.1 st.1.2 = 1
  is : st.1 = (match st.2 with | none => (0, 1) | some t => shownP ns t)
  tri : ∀ t, st.2 = some t → t.1 < t.2.1 ∧ t.2.1 < t.2.2 ∧ t.2.2 < n
theorem BsOk.start (ns : List Int) (n : Nat) : BsOk ns n ((0, 1), none) := ⟨⟨(show (0 : Int) < 1 by decide), (show (1 : Int) ≤ 1000000 by decide)⟩, rfl, rfl, fun _ e => by cases e⟩
theorem BsOk.step {ns : List Int} {n : Nat} {st : Bs} {t : Tri} (b : BsOk ns n st) (h : t.1 < t.2.1 ∧ t.2.1 < t.2.2 ∧ t.2.2 < n) (hn : n ≤ 1000) : BsOk ns n (stepP ns st t) := by
  unfold stepP
  split
  · exact ⟨shown_sm ns (by omega) (by omega), shown_cop ns (by omega), rfl, fun u e => by cases e; exact h⟩
  · exact b
/-- what is told: none, or the places -/
def ToldAt (H : Hp) (v : V) (o : Option Tri) : Prop := match o with
  | none => v = .non
  | some t => ∃ r, v = .ref r ∧ H r = some (triO t)
theorem ToldAt.same {H H' : Hp} {v : V} {o : Option Tri} (s : Same H H') (h : ToldAt H v o) : ToldAt H' v o := by
  cases o with
  | none => exact h
  | some t => obtain ⟨r, e, h⟩ := h; exact ⟨r, e, s _ _ h⟩
end Ob

set_option maxHeartbeats 4000000
namespace Ob
open PySem PySem.Spec PyProof.Rows L2
section
variable {prog : Program} {w : World} {A : Around} {E : Value → Shared → Prop} {s : Shared}
end
section
variable {X : Cx}
end
end Ob

set_option maxHeartbeats 4000000
namespace Ob
open PySem PySem.Spec PyProof.Rows L2
section
variable {X : Cx}
end
end Ob

set_option maxHeartbeats 4000000
namespace Ob
open PySem PySem.Spec PyProof.Rows L2
end Ob

set_option maxHeartbeats 4000000
namespace Ob
open PySem PySem.Spec PyProof.Rows L2
open PySem.SeqAt
open PySem.AutoSeq1 (wpAny_loadPart')
open PySem.MeetsSeq PySem.MeetsSeq2 PySem.MeetsSeq3
/-- one thing is less than another -/
def LtAt (A : Around) (s : Shared) (y x : Value) (b : Bool) : Prop :=
  ∀ (prog : Program) (w : World) (E : Value → Shared → Prop) (Q : Value → Shared → Prop), Q (.bool b) s → wpAny (model prog w) A (richCompare .Lt y x) Q E s
/-- the first places that differ tell -/
def firstLt (e lt : Nat → Bool) (d : Bool) : List Nat → Bool
  | [] => d
  | j :: r => if e j then firstLt e lt d r else lt j
theorem lt_loopAt (l b : Addr) (items items2 : Array Value) (n n2 : Nat) (dd dd2 : Option Addr) (sl sl2 : Array (Option Value)) (e lt : Nat → Bool) (k : Nat) :
    ∀ i : Nat, min items.size items2.size - i = k → i ≤ min items.size items2.size → Meets (Builtin.«list.__eq__.loop» ⟨[.ref l, .ref b, rawInt i, rawInt 0], []⟩)
      (fun A R s => s.heap.get? l = some { cls := .type "list", dict := dd, data := .seq items n, slots := sl } ∧ s.heap.get? b = some { cls := .type "list", dict := dd2, data := .seq items2 n2, slots := sl2 } ∧
        (∀ j (h1 : j < items.size) (h2 : j < items2.size), EqAt A.in1 s items[j] items2[j] (e j)) ∧ (∀ j (h1 : j < items.size) (h2 : j < items2.size), LtAt A.in1 s items[j] items2[j] (lt j)) ∧
        R (.ok (.ret (.bool (firstLt e lt (decide (items.size < items2.size)) ((List.range (min items.size items2.size)).drop i))))) s) := by
  induction k with
  | zero =>
    intro i hk hi prog w A R s h
    obtain ⟨hp, g, d, tk, os⟩ := s; obtain ⟨hl, hb, he, hlt, h⟩ := h
    wp_walk using wpAny_loadPart' hl, wpAny_loadPart' hb
    have hd : (List.range (min items.size items2.size)).drop i = [] := by simp; omega
    rw [hd] at h
    have hh : items[((i : Nat) : Int).toNat]? = none ∨ items2[((i : Nat) : Int).toNat]? = none := by
      rcases Nat.le_total items.size items2.size with q | q
      · exact .inl (by simp; omega)
      · exact .inr (by simp; omega)
    have hz : firstLt e lt (decide (items.size < items2.size)) [] = decide (items.size < items2.size) := rfl
    rw [hz] at h
    rcases hh with hh | hh
    · rw [hh]
      wp_walk using wpAny_loadPart' hl, wpAny_loadPart' hb
      exact h
    · rw [hh]
      cases items[((i : Nat) : Int).toNat]? with
      | none =>
        wp_walk using wpAny_loadPart' hl, wpAny_loadPart' hb
        exact h
      | some x =>
        wp_walk using wpAny_loadPart' hl, wpAny_loadPart' hb
        exact h
  | succ k ih =>
    intro i hk hi prog w A R s h
    obtain ⟨hp, g, d, tk, os⟩ := s; obtain ⟨hl, hb, he, hlt', h⟩ := h
    wp_walk using wpAny_loadPart' hl, wpAny_loadPart' hb
    have hlt : i < items.size := by omega
    have hlt2 : i < items2.size := by omega
    have hi1 : items[((i : Nat) : Int).toNat]? = some items[i] := by simp [hlt]
    have hi2 : items2[((i : Nat) : Int).toNat]? = some items2[i] := by simp [hlt2]
    have hd : (List.range (min items.size items2.size)).drop i = i :: (List.range (min items.size items2.size)).drop (i + 1) := by
      rw [List.drop_eq_getElem_cons (by simp; omega)]
      simp
    have hc : ((i : Int) + 1) = ((i + 1 : Nat) : Int) := by push_cast; rfl
    rw [hd] at h
    unfold firstLt at h
    rw [hi1, hi2]
    refine wpAny_bind (he i hlt hlt2 prog w _ _ ?_)
    cases hb' : e i with
    | true =>
      rw [hb'] at h
      wp_walk
      rw [hc]
      exact ⟨plainId_quiet plain_eq_loop _, codeAny_builtin entry_eq_loop (by
        rw [Around.under_plainId plain_eq_loop _]
        exact ih (i + 1) (by omega) (by omega) prog w A R _ ⟨hl, hb, he, hlt', by simpa using h⟩)⟩
    | false =>
      rw [hb'] at h
      wp_walk using wpAny_loadPart' hl, wpAny_loadPart' hb
      rw [hi1, hi2]
      have hri := hlt' i hlt hlt2 prog w
      wp_walk using hri
      simpa using h
theorem list_ltAt (l b : Addr) (items items2 : Array Value) (n n2 : Nat) (dd dd2 : Option Addr) (sl sl2 : Array (Option Value)) (e lt : Nat → Bool) :
    Meets (Builtin.«list.__lt__» ⟨[.ref l, .ref b], []⟩)
      (fun A R s => s.heap.get? l = some { cls := .type "list", dict := dd, data := .seq items n, slots := sl } ∧ s.heap.get? b = some { cls := .type "list", dict := dd2, data := .seq items2 n2, slots := sl2 } ∧
        (∀ j (h1 : j < items.size) (h2 : j < items2.size), EqAt A.in1 s items[j] items2[j] (e j)) ∧ (∀ j (h1 : j < items.size) (h2 : j < items2.size), LtAt A.in1 s items[j] items2[j] (lt j)) ∧
        R (.ok (.ret (.bool (firstLt e lt (decide (items.size < items2.size)) (List.range (min items.size items2.size)))))) s) := by
  intro prog w A R s h
  obtain ⟨hp, g, d, tk, os⟩ := s; obtain ⟨hl, hb, he, hlt, h⟩ := h
  have f3 := AutoSeq1.sub_list_list
  wp_walk using wpAny_loadPart' hl, wpAny_loadPart' hb
  exact ⟨plainId_quiet plain_eq_loop _, codeAny_builtin entry_eq_loop (by
    rw [Around.under_plainId plain_eq_loop _]
    exact lt_loopAt l b items items2 n n2 dd dd2 sl sl2 e lt _ 0 rfl (Nat.zero_le _) prog w A R _ ⟨hl, hb, he, hlt, by simpa using h⟩)⟩
theorem LtAt.lists {A : Around} {s : Shared} {l b : Addr} {items items2 : Array Value} {e lt : Nat → Bool} (hl : s.heap.IsList l items) (hb : s.heap.IsList b items2) (hu : A.units < cLine)
    (he : ∀ j (h1 : j < items.size) (h2 : j < items2.size), EqAt A.in1 s items[j] items2[j] (e j)) (hlt : ∀ j (h1 : j < items.size) (h2 : j < items2.size), LtAt A.in1 s items[j] items2[j] (lt j)) :
    LtAt A s (.ref l) (.ref b) (firstLt e lt (decide (items.size < items2.size)) (List.range (min items.size items2.size))) := fun prog w E Q h => by
  obtain ⟨⟨cls, dd, data, sl⟩, ho, hc, n, hd⟩ := id hl
  obtain ⟨⟨cls2, dd2, data2, sl2⟩, ho2, hc2, n2, hd2⟩ := id hb
  simp only at hc hd hc2 hd2
  subst hc hd hc2 hd2
  exact richCompare_meets_room (op := .Lt) ⟨_, ho, rfl⟩ ⟨_, ho2, rfl⟩ PySem.F.slot_list_lt PySem.F.entry_list_lt (PySem.F.args_list_lt_2 _ _) (list_ltAt l b items items2 n n2 dd dd2 sl sl2 e lt)
    ⟨ho, ho2, he, hlt, (fun x => nomatch x), h⟩ hu
theorem tuple_ltAt (l b : Addr) (items items2 : Array Value) (n n2 : Nat) (dd dd2 : Option Addr) (sl sl2 : Array (Option Value)) (e lt : Nat → Bool) :
    Meets (Builtin.«tuple.__lt__» ⟨[.ref l, .ref b], []⟩)
      (fun A R s => s.heap.get? l = some { cls := .type "tuple", dict := dd, data := .seq items n, slots := sl } ∧ s.heap.get? b = some { cls := .type "tuple", dict := dd2, data := .seq items2 n2, slots := sl2 } ∧
        (∀ j (h1 : j < items.size) (h2 : j < items2.size), EqAt A.in1 s items[j] items2[j] (e j)) ∧ (∀ j (h1 : j < items.size) (h2 : j < items2.size), LtAt A.in1 s items[j] items2[j] (lt j)) ∧
        R (.ok (.ret (.bool (firstLt e lt (decide (items.size < items2.size)) (List.range (min items.size items2.size)))))) s) :=
  .of_wp fun prog w A R s h => by
    obtain ⟨hp, g, d, tk, os⟩ := s; obtain ⟨hl, hb, he, hlt', h⟩ := h
    have f2 := AutoSeq1.sub_tuple_tuple
    have hZ : (items.toList.zip items2.toList).length = min items.size items2.size := by simp
    wp_walk using wpAny_loadPart' hl, wpAny_loadPart' hb, wpAny_forIn_list _ (fun rest b s' => b.1 = none ∧ s' = ⟨hp, g, d, tk, os⟩ ∧ ∃ i, rest = (items.toList.zip items2.toList).drop i ∧
      R (.ok (.ret (.bool (firstLt e lt (decide (items.size < items2.size)) ((List.range (min items.size items2.size)).drop i))))) ⟨hp, g, d, tk, os⟩) _
    case turn =>
      rintro ⟨y, x⟩ rest b s' ⟨hb', rfl, i, hz, hR⟩
      have hlt : i < (items.toList.zip items2.toList).length := by
        rcases Nat.lt_or_ge i (items.toList.zip items2.toList).length with h' | h'
        · exact h'
        · rw [List.drop_of_length_le h'] at hz; cases hz
      have hm : i < min items.size items2.size := hZ ▸ hlt
      have h1 : i < items.size := Nat.lt_of_lt_of_le hm (Nat.min_le_left _ _)
      have h2 : i < items2.size := Nat.lt_of_lt_of_le hm (Nat.min_le_right _ _)
      rw [List.drop_eq_getElem_cons hlt] at hz
      injection hz with hyx hrest
      have hy : y = items[i] := by have := congrArg Prod.fst hyx; simpa using this
      have hx : x = items2[i] := by have := congrArg Prod.snd hyx; simpa using this
      subst hy hx
      have hd : (List.range (min items.size items2.size)).drop i = i :: (List.range (min items.size items2.size)).drop (i + 1) := by
        rw [List.drop_eq_getElem_cons (by simp; omega)]
        simp
      rw [hd] at hR
      unfold firstLt at hR
      refine wpAny_bind (he i h1 h2 prog w _ _ ?_)
      cases hy : e i with
      | true =>
        rw [hy] at hR
        wp_walk
        exact ⟨rfl, rfl, i + 1, hrest, by simpa using hR⟩
      | false =>
        rw [hy] at hR
        have hri := hlt' i h1 h2 prog w
        wp_walk using hri
        exact ⟨_, rfl, by simpa using hR⟩
    case fin =>
      rintro ⟨b1, b2⟩ s' ⟨hb', rfl, i, hz, hR⟩
      simp only at hb'
      subst hb'
      have hge : min items.size items2.size ≤ i := by
        rcases Nat.lt_or_ge i (items.toList.zip items2.toList).length with h' | h'
        · rw [List.drop_eq_getElem_cons h'] at hz; cases hz
        · exact hZ ▸ h'
      rw [List.drop_of_length_le (by simpa using hge)] at hR
      wp_walk
      exact ⟨_, rfl, by simpa [Builtin.Tuple.tupleCompareSizes, firstLt] using hR⟩
    case h =>
      exact ⟨rfl, rfl, 0, rfl, by simpa using h⟩
theorem LtAt.tuples {A : Around} {s : Shared} {l b : Addr} {items items2 : Array Value} {e lt : Nat → Bool} (hl : IsTup s.heap l items) (hb : IsTup s.heap b items2) (hu : A.units < cLine)
    (he : ∀ j (h1 : j < items.size) (h2 : j < items2.size), EqAt A.in1 s items[j] items2[j] (e j)) (hlt : ∀ j (h1 : j < items.size) (h2 : j < items2.size), LtAt A.in1 s items[j] items2[j] (lt j)) :
    LtAt A s (.ref l) (.ref b) (firstLt e lt (decide (items.size < items2.size)) (List.range (min items.size items2.size))) := fun prog w E Q h => by
  obtain ⟨⟨cls, dd, data, sl⟩, ho, hc, n, hd⟩ := id hl
  obtain ⟨⟨cls2, dd2, data2, sl2⟩, ho2, hc2, n2, hd2⟩ := id hb
  simp only at hc hd hc2 hd2
  subst hc hd hc2 hd2
  exact richCompare_meets_room (op := .Lt) ⟨_, ho, rfl⟩ ⟨_, ho2, rfl⟩ PySem.F.slot_tuple_lt PySem.F.entry_tuple_lt (PySem.F.args_tuple_lt_2 _ _) (tuple_ltAt l b items items2 n n2 dd dd2 sl sl2 e lt)
    ⟨ho, ho2, he, hlt, (fun x => nomatch x), h⟩ hu
/-- a key: an int, then a list of ints -/
def keyLt (a : Int) (ns : List Int) (b : Int) (ms : List Int) : Bool := if a = b then HT.lexLt ns ms else decide (a < b)
end Ob

set_option maxHeartbeats 4000000
namespace Ob
open PySem PySem.Spec PyProof.Rows L2
/-- the table of a code, with what stands in it for a place of the text -/
def TbS (P : Addr) (pos : Pos) (G : Option Addr) : Heap → Prop := fun h => ∃ ps : Array Value, h.get? P = some { cls := .none, data := .fields ps } ∧ TriplesOk ps.toList ∧ codeAmong pos ps.toList = G.map Value.ref
theorem TbS.stay {P : Addr} {pos : Pos} {G : Option Addr} {h h' : Heap} (x : TbS P pos G h) (k : ∀ o, h.get? P = some o → h'.get? P = some o) : TbS P pos G h' := let ⟨ps, a, b⟩ := x; ⟨ps, k _ a, b⟩
/-- a code of a lambda -/
def CodeL (c : Addr) (q : Str) : Heap → Prop := fun h => ∃ o vs t, h.get? c = some o ∧ o.data = .fields vs ∧ vs[1]? = some (.str q t)
theorem CodeL.stay {c : Addr} {q : Str} {h h' : Heap} (x : CodeL c q h) (k : ∀ o, h.get? c = some o → h'.get? c = some o) : CodeL c q h' := let ⟨o, vs, t, a, b⟩ := x; ⟨o, vs, t, k _ a, b⟩
def LamAt (P : Addr) (pos : Pos) (q : Str) (H : Hp) : Prop := ∃ G : Option Addr, H P = some (.ext (TbS P pos G)) ∧ ∀ c, G = some c → H c = some (.ext (CodeL c q)) ∧ c ≠ P
/-- all but the table stays -/
def SameX (P : Addr) (H H' : Hp) : Prop := ∀ b o, b ≠ P → H b = some o → H' b = some o
theorem SameX.refl (P : Addr) (H : Hp) : SameX P H H := fun _ _ _ e => e
theorem SameX.trans {P : Addr} {H H1 H2 : Hp} (a : SameX P H H1) (b : SameX P H1 H2) : SameX P H H2 := fun c o n e => b c o n (a c o n e)
theorem Same.x {H H' : Hp} (P : Addr) (s : Same H H') : SameX P H H' := fun b o _ e => s b o e
theorem LamAt.same {P : Addr} {pos : Pos} {q : Str} {H H' : Hp} (h : LamAt P pos q H) (s : Same H H') : LamAt P pos q H' := let ⟨G, a, b⟩ := h; ⟨G, s _ _ a, fun c e => ⟨s _ _ (b c e).1, (b c e).2⟩⟩
section
variable {X : Cx} {pins pins' : List (Addr × Obj)} {σ : L2.St} {H : Hp} {s : Shared} {h' : Heap}
/-- a record of ours has turned, or is a new one -/
theorem Inv.recd {it : Addr} {o' : Obj} {t' : Nat} (I : Inv X pins σ H s) (k : ∀ b u, b ≠ it → s.heap.get? b = some u → h'.get? b = some u) (hnew : h'.get? it = some o') (hn : H it = none) (hL : it ≠ X.env.locals) (hfs : it ∉ X.fs)
    (h1 : X.s_0.heap.objs.size ≤ it) (h2 : ∀ x c, X.env.cells.lookup x = some c → c ≠ it) (hd : ∀ v, o'.data ≠ .cell v) (hpn : ∀ p ∈ X.pn, p.1 ≠ it)
    (hp : ∀ p ∈ pins', p = (it, o') ∨ (p ∈ pins ∧ p.1 ≠ it)) : Inv X pins' σ H { s with heap := h', toks := t' } := by
  have I0 : Inv X [] σ H s := I.pins_of (fun p hp => nomatch hp)
  have J := I0.turned (t' := t') k hn hL (.inr h1) h2 (fun p hp => by rw [List.append_nil] at hp; exact hpn p hp)
  refine J.pins_of fun p hp' => ?_
  rcases hp p hp' with rfl | ⟨hm, ne⟩
  · exact ⟨hnew, hn, hL, hfs, hd⟩
  · obtain ⟨e, n, a, b, c⟩ := I.pin p (List.mem_append_right _ hm)
    exact ⟨k _ _ ne e, n, a, b, c⟩
/-- .. one that was pinned -/
theorem Inv.pinned {it : Addr} {o o' : Obj} {t' : Nat} (I : Inv X pins σ H s) (hm : (it, o) ∈ pins) (k : ∀ b u, b ≠ it → s.heap.get? b = some u → h'.get? b = some u) (hnew : h'.get? it = some o')
    (h1 : X.s_0.heap.objs.size ≤ it) (hd : ∀ v, o'.data ≠ .cell v) (hpn : ∀ p ∈ X.pn, p.1 ≠ it)
    (hp : ∀ p ∈ pins', p = (it, o') ∨ (p ∈ pins ∧ p.1 ≠ it)) : Inv X pins' σ H { s with heap := h', toks := t' } := by
  obtain ⟨e, n, a, b, c⟩ := I.pin _ (List.mem_append_right _ hm)
  refine Inv.recd I k hnew n a b h1 (fun x c' hc z => ?_) hd hpn hp
  obtain ⟨v, oc, hoc, hod⟩ := I.cell x c' hc
  rw [z] at hoc
  have e' : s.heap.get? it = some o := e
  rw [e'] at hoc
  cases hoc
  exact c v hod
end
section
variable {X : Cx} {pins : List (Addr × Obj)} {σ : L2.St} {H : Hp} {s : Shared} {c P : Addr} {pos : Pos} {params : Arguments} {body : Expr} {scope : Scope} {Q : Value → Shared → Prop} {E : Value → Shared → Prop} {q : Str}
theorem CodeB.hd {h : Heap} {c P : Addr} (x : CodeB h c P) : PySem.W.CodeHd h c P := by
  obtain ⟨⟨o, vs, file, tf, flags, tg, inF, text, tt, a, hc, r1, r2, r3, r4, r5, r6, r7⟩, ne⟩ := x
  exact ⟨o, vs, file, tf, flags, tg, inF, text, tt, a, hc, r1, r3, r2, r4, r5, r6, r7, ne⟩
end
end Ob

set_option maxHeartbeats 4000000
namespace Ob
open PySem PySem.Spec PyProof.Rows L2
/-- a longer list, or of those as long a lesser one -/
def kl (m n : List Int) : Bool := keyLt (-(m.length : Int)) m (-(n.length : Int)) n
section
variable {X : Cx} {pins : List (Addr × Obj)} {σ : L2.St} {H0 : Hp} {f l I S : Addr} {fo : Obj} {as : List Addr} {nss : List (List Int)} {R : Result → Shared → Prop}
end
section
variable {X : Cx} {P c : Addr} {x : Str} {iter : Expr} {ti : TE} {p0 p1 p2 p3 p4 p5 p6 pos pc : Pos} {scope : Scope} {params : Arguments} {q : Str} {kp : Pos} {kt : Nat}
end
end Ob

set_option maxHeartbeats 4000000
namespace Ob
open PySem PySem.Spec PyProof.Rows L2
/-- a dict by its entries -/
def RawD (h : Heap) (d : Addr) (es : Array DictEntry) (ep : Nat) : Prop := ∃ o, h.get? d = some o ∧ o.ExactDict ∧ o.data = .dict es ep
theorem RawD.at' {h h' : Heap} {d : Addr} {es : Array DictEntry} {ep : Nat} (x : RawD h d es ep) (e : ∀ o, h.get? d = some o → h'.get? d = some o) : RawD h' d es ep := let ⟨o, a, b⟩ := x; ⟨o, e o a, b⟩
theorem RawD.typeIs {s : Shared} {d : Addr} {es : Array DictEntry} {ep : Nat} (x : RawD s.heap d es ep) : s.TypeIs (.ref d) "dict" := let ⟨o, a, b, _⟩ := x; ⟨o, a, b.1⟩
section
variable {prog : Program} {w : World} {A : Around} {E : Value → Shared → Prop} {s : Shared}
end
end Ob

set_option maxHeartbeats 4000000
namespace Ob
open PySem PySem.Spec PyProof.Rows L2
section
variable {prog : Program} {w : World} {A : Around} {E : Value → Shared → Prop} {s : Shared}
end
section
variable {X : Cx}
end
end Ob

set_option maxHeartbeats 4000000
namespace Ob
open PySem PySem.Spec PyProof.Rows L2
/-- places as whole numbers -/
def pz (ps : List Nat) : List Int := ps.map fun (j : Nat) => (j : Int)
theorem pz_len (ps : List Nat) : (pz ps).length = ps.length := List.length_map ..
/-- rising places of so many -/
structure Ris (ps : List Nat) (n : Nat) : Prop where
  lt : ∀ j ∈ ps, j < n
  up : ∀ l, l + 1 < ps.length → ps.getD l 0 < ps.getD (l + 1) 0
  len : ps.length ≤ 12
theorem getD_at {ps : List Nat} {l : Nat} (h : l < ps.length) : ps[l]? = some (ps.getD l 0) := by
  rw [List.getD_eq_getElem?_getD, List.getElem?_eq_getElem h]
  rfl
theorem Ris.at {ps : List Nat} {n l : Nat} (h : Ris ps n) (hl : l < ps.length) : ps.getD l 0 < n := h.lt _ (List.mem_of_getElem? (getD_at hl))
/-- the line to the middle one goes no more up than the one from it -/
def okT (A : Nat → Int) (i j k : Nat) : Bool := decide ((A j - A i) * ((k : Int) - j) ≤ (A k - A j) * ((j : Int) - i))
/-- can they all stay -/
def okAt (A : Nat → Int) (ps : List Nat) (l : Nat) : Bool := okT A (ps.getD l 0) (ps.getD (l + 1) 0) (ps.getD (l + 2) 0)
def canB (A : Nat → Int) (ps : List Nat) : Bool := (List.range (ps.length - 2)).all (okAt A ps)
end Ob

set_option maxHeartbeats 4000000
namespace Ob
open PySem PySem.Spec PyProof.Rows L2
theorem kl_total {a b : List Int} (h1 : kl a b = false) (h2 : kl b a = false) : a = b := by
  have lex : ∀ a b : List Int, a.length = b.length → HT.lexLt a b = false → HT.lexLt b a = false → a = b := by
    intro a
    induction a with
    | nil => intro b hl _ _; cases b with | nil => rfl | cons _ _ => cases hl
    | cons x xs ih =>
      intro b hl h1 h2
      cases b with
      | nil => cases hl
      | cons y ys =>
        rw [HT.lexLt_cons] at h1 h2
        by_cases e : x = y
        · rw [if_pos e] at h1
          rw [if_pos e.symm] at h2
          rw [e, ih ys (by simpa using hl) h1 h2]
        · rw [if_neg e] at h1
          rw [if_neg (fun z => e z.symm)] at h2
          have := of_decide_eq_false h1
          have := of_decide_eq_false h2
          omega
  unfold kl keyLt at h1 h2
  by_cases e : -(a.length : Int) = -(b.length : Int)
  · rw [if_pos e] at h1
    rw [if_pos e.symm] at h2
    exact lex a b (by omega) h1 h2
  · rw [if_neg e] at h1
    rw [if_neg (fun z => e z.symm)] at h2
    have := of_decide_eq_false h1
    have := of_decide_eq_false h2
    omega
theorem pz_inj {a b : List Nat} (h : pz a = pz b) : a = b := by
  have hl : a.length = b.length := by have := congrArg List.length h; rw [pz_len, pz_len] at this; exact this
  apply List.ext_getElem hl
  intro j h1 h2
  have e : (pz a)[j]'(by rw [pz_len]; exact h1) = (pz b)[j]'(by rw [pz_len]; exact h2) := by simp only [h]
  unfold pz at e
  rw [List.getElem_map, List.getElem_map] at e
  omega
/-- it can stay -/
structure Good (A : Nat → Int) (n : Nat) (ps : List Nat) : Prop where
  ne : ps ≠ []
  ris : Ris ps n
  can : canB A ps = true
/-- .. the best of those that begin so -/
structure BestB (A : Nat → Int) (n i j : Nat) (ps : List Nat) : Prop where
  beg : ∃ r, ps = i :: j :: r
  good : Good A n ps
  most : ∀ r, Good A n (i :: j :: r) → kl (pz (i :: j :: r)) (pz ps) = false
structure BestL (A : Nat → Int) (n : Nat) (ps : List Nat) : Prop where
  good : Good A n ps
  most : ∀ qs, Good A n qs → kl (pz qs) (pz ps) = false
theorem BestL.uniq {A : Nat → Int} {n : Nat} {a b : List Nat} (h1 : BestL A n a) (h2 : BestL A n b) : a = b := pz_inj (kl_total (h2.most a h1.good) (h1.most b h2.good))
/-- the candidates of two places, the third ones below t looked at -/
structure Cands (A : Nat → Int) (n i j t : Nat) (pss : List (List Nat)) : Prop where
  all : ∀ ps ∈ pss, (∃ r, ps = i :: j :: r) ∧ Good A n ps
  two : [i, j] ∈ pss
  each : ∀ k, j < k → k < t → okT A i j k = true → ∃ qs, BestB A n j k qs ∧ (i :: qs) ∈ pss
/-! the law's lists -/
def al (n : Nat) : Nat → List (List Nat)
  | 0 => []
  | d + 1 => [[n - (d + 1)]] ++ (al n d).map (fun r => (n - (d + 1)) :: r) ++ al n d
/-- the law's longest, behind the first so many -/
structure LBest (A : Nat → Int) (n k : Nat) (ps : List Nat) : Prop where
  ok : ps = [] ∨ (ps ∈ (al n n).take k ∧ canB A ps = true)
  most : ∀ qs ∈ (al n n).take k, canB A qs = true → ps ≠ [] ∧ kl (pz qs) (pz ps) = false
end Ob
namespace Ob
open PySem PySem.Spec PyProof.Rows L2
theorem valV_mem {κ : Type} [DecidableEq κ] {kvs : List (κ × V)} {k : κ} {v : V} (h : valV kvs k = some v) : (k, v) ∈ kvs := by
  unfold valV at h
  cases e : kvs.find? (fun kv => decide (kv.1 = k)) with
  | none => rw [e] at h; cases h
  | some p =>
    rw [e] at h
    have e1 := List.mem_of_find?_eq_some e
    have e2 := List.find?_some e
    have e3 : p.1 = k := of_decide_eq_true e2
    have e4 : p.2 = v := Option.some.inj h
    rw [← e3, ← e4]
    exact e1
abbrev key2 (i j : Nat) : List Key := [Sum.inl (i : Int), Sum.inl (j : Int)]
/-- the dict of the best lists, by their first two places -/
structure DInv (A : Nat → Int) (n : Nat) (Done : Nat → Nat → Prop) (kvs : List (List Key × V)) (H : Hp) : Prop where
  all : ∀ e ∈ kvs, ∃ (i j : Nat) (p : Addr) (ps : List Nat), i < j ∧ j < n ∧ Done i j ∧ e = (key2 i j, V.ref p) ∧ H p = some (.lst ((pz ps).map V.int)) ∧ BestB A n i j ps
  has : ∀ i j, i < j → j < n → Done i j → ∃ v, (key2 i j, v) ∈ kvs
theorem key2_inj {i j i' j' : Nat} (h : key2 i j = key2 i' j') : i = i' ∧ j = j' := by
  unfold key2 at h
  injection h with h1 h2
  injection h2 with h3 _
  injection h1 with h4
  injection h3 with h5
  omega
theorem DInv.get {A : Nat → Int} {n : Nat} {Done : Nat → Nat → Prop} {kvs : List (List Key × V)} {H : Hp} (h : DInv A n Done kvs H) {i j : Nat} (h1 : i < j) (h2 : j < n) (d : Done i j) :
    ∃ p ps, valV kvs (key2 i j) = some (.ref p) ∧ H p = some (.lst ((pz ps).map V.int)) ∧ BestB A n i j ps := by
  obtain ⟨v, hv⟩ := h.has i j h1 h2 d
  cases e : valV kvs (key2 i j) with
  | none => exact absurd (List.mem_map.mpr ⟨_, hv, rfl⟩) (valV_not e)
  | some v' =>
    obtain ⟨i', j', p, ps, _, _, _, e1, e2, e3⟩ := h.all _ (valV_mem e)
    injection e1 with e4 e5
    obtain ⟨rfl, rfl⟩ := key2_inj e4
    exact ⟨p, ps, by rw [e5], e2, e3⟩
theorem DInv.same {A : Nat → Int} {n : Nat} {Done : Nat → Nat → Prop} {kvs : List (List Key × V)} {H H' : Hp} (h : DInv A n Done kvs H) (k : ∀ b xs, H b = some (.lst xs) → H' b = some (.lst xs)) : DInv A n Done kvs H' :=
  ⟨fun e he => let ⟨i, j, p, ps, a, b, c, d, e1, f⟩ := h.all e he; ⟨i, j, p, ps, a, b, c, d, k _ _ e1, f⟩, h.has⟩
theorem DInv.put {A : Nat → Int} {n : Nat} {Done Done' : Nat → Nat → Prop} {kvs : List (List Key × V)} {H : Hp} (h : DInv A n Done kvs H) {i j : Nat} {p : Addr} {ps : List Nat} (h1 : i < j) (h2 : j < n) (nd : ¬ Done i j) (e : H p = some (.lst ((pz ps).map V.int))) (b : BestB A n i j ps)
    (hd : ∀ i' j', Done' i' j' ↔ (Done i' j' ∨ (i' = i ∧ j' = j))) : DInv A n Done' (putK kvs (key2 i j) (.ref p)) H ∧ (putK kvs (key2 i j) (.ref p)).length = kvs.length + 1 := by
  have no : valV kvs (key2 i j) = none := by
    cases q : valV kvs (key2 i j) with
    | none => rfl
    | some v =>
      obtain ⟨i', j', p', ps', _, _, d, e1, _⟩ := h.all _ (valV_mem q)
      injection e1 with e4 e5
      obtain ⟨rfl, rfl⟩ := key2_inj e4
      exact absurd d nd
  rw [putK_new _ no]
  refine ⟨⟨fun x hx => ?_, fun i' j' a b' d => ?_⟩, by rw [List.length_append]; rfl⟩
  · rcases List.mem_append.mp hx with hx | hx
    · obtain ⟨i', j', p', ps', a, b', c, r⟩ := h.all x hx
      exact ⟨i', j', p', ps', a, b', (hd _ _).mpr (.inl c), r⟩
    · rw [List.mem_singleton.mp hx]
      exact ⟨i, j, p, ps, h1, h2, (hd _ _).mpr (.inr ⟨rfl, rfl⟩), rfl, e, b⟩
  · rcases (hd _ _).mp d with d | ⟨rfl, rfl⟩
    · obtain ⟨v, hv⟩ := h.has i' j' a b' d
      exact ⟨v, List.mem_append_left _ hv⟩
    · exact ⟨_, List.mem_append_right _ (List.mem_singleton.mpr rfl)⟩
/-- lists of places at addresses -/
def PlsAt (H : Hp) (as : List Addr) (pss : List (List Nat)) : Prop := as.length = pss.length ∧ ∀ (i : Nat) p ps, as[i]? = some p → pss[i]? = some ps → H p = some (.lst ((pz ps).map V.int))
theorem PlsAt.same {H H' : Hp} {as : List Addr} {pss : List (List Nat)} (h : PlsAt H as pss) (k : ∀ b xs, b ∈ as → H b = some (.lst xs) → H' b = some (.lst xs)) : PlsAt H' as pss :=
  ⟨h.1, fun i p ps e1 e2 => k _ _ (List.mem_of_getElem? e1) (h.2 i p ps e1 e2)⟩
theorem PlsAt.snoc {H : Hp} {as : List Addr} {pss : List (List Nat)} {p : Addr} {ps : List Nat} (h : PlsAt H as pss) (e : H p = some (.lst ((pz ps).map V.int))) : PlsAt H (as ++ [p]) (pss ++ [ps]) := by
  refine ⟨by rw [List.length_append, List.length_append, h.1]; rfl, fun i q qs e1 e2 => ?_⟩
  by_cases hi : i < as.length
  · rw [List.getElem?_append_left hi] at e1
    rw [List.getElem?_append_left (by rw [← h.1]; exact hi)] at e2
    exact h.2 i q qs e1 e2
  · rw [List.getElem?_append_right (by omega)] at e1
    rw [List.getElem?_append_right (by have := h.1; omega)] at e2
    have hi0 : i - as.length = 0 := by
      have := (List.getElem?_eq_some_iff.mp e1).1
      simp at this
      omega
    rw [hi0] at e1
    have hi1 : i - pss.length = 0 := by have := h.1; omega
    rw [hi1] at e2
    cases e1
    cases e2
    exact e
end Ob

set_option maxHeartbeats 4000000
namespace Ob
open PySem PySem.Spec PyProof.Rows L2
/-- the table of a code -/
def tabOf (K : PySem.W.Frag) (cd : Value) : Option Addr := match cd with
  | .ref c => (match K.lookup c with
      | some ⟨_, _, .fields vs, _⟩ => (match (vs[11]? : Option Value) with | some (Value.ref p) => some p | _ => none)
      | _ => none)
  | _ => none
def tabApart (K : PySem.W.Frag) (cd1 cd2 : Value) : Bool := match tabOf K cd1, tabOf K cd2 with
  | some p, some q => p != q
  | _, _ => false
theorem tabOf_is {K : PySem.W.Frag} {h : Heap} {c P p : Addr} (X : K.In h) (B : CodeB h c P) (e : tabOf K (.ref c) = some p) : p = P := by
  unfold tabOf at e
  simp only at e
  obtain ⟨⟨o, vs, file, tf, flags, tg, inF, text, tt, a, hc, r1, r2, r3, r4⟩, ne⟩ := B
  cases q : K.lookup c with
  | none => rw [q] at e; cases e
  | some o' =>
    have z := X c o' q
    rw [a] at z
    cases z
    rw [q] at e
    obtain ⟨x1, x2, x3, x4⟩ := o
    have x3e : x3 = .fields vs := r1
    subst x3e
    simp only [r3] at e
    exact (Option.some.inj e).symm
theorem tab_apart {K : PySem.W.Frag} {h : Heap} {cd1 cd2 : Value} {c1 P1 c2 P2 : Addr} (X : K.In h) (hx : tabApart K cd1 cd2 = true) (e1 : cd1 = .ref c1) (B1 : CodeB h c1 P1) (e2 : cd2 = .ref c2) (B2 : CodeB h c2 P2) : P1 ≠ P2 := by
  subst e1 e2
  unfold tabApart at hx
  cases q1 : tabOf K (.ref c1) with
  | none => rw [q1] at hx; cases hx
  | some p1 =>
    cases q2 : tabOf K (.ref c2) with
    | none => rw [q1, q2] at hx; cases hx
    | some p2 =>
      rw [q1, q2] at hx
      have z1 := tabOf_is X B1 q1
      have z2 := tabOf_is X B2 q2
      subst z1 z2
      intro z
      subst z
      simp at hx
end Ob

set_option maxHeartbeats 4000000
namespace L2
open PySem PySem.Spec PyProof.Rows
section
variable {prog : Program} {w : World} {A : Around} {E : Value → Shared → Prop} {s : Shared}
end
theorem vals_rev : ∀ {xs : List V} {us : List Value}, Vals xs us → Vals xs.reverse us.reverse
  | _, _, .nil => .nil
  | _, _, .cons r t => by rw [List.reverse_cons, List.reverse_cons]; exact Vals.append (vals_rev t) (.cons r .nil)
section
variable {X : Cx}
end
end L2

set_option maxHeartbeats 4000000
namespace Ob
open PySem PySem.Spec PyProof.Rows L2
/-! what stands in the heap, as data, the empty dict too -/
mutual
inductive Dq (H : Hp) : V → PyData → Prop
  | non : Dq H .non .none
  | bl (b : Bool) : Dq H (.bl b) (.bool b)
  | int (i : Int) : Dq H (.int i) (.int i)
  | str (x : Str) : Dq H (.str x) (.str x)
  | lst {a : Addr} {xs : List V} {ds : List PyData} : H a = some (.lst xs) → DqAll H xs ds → Dq H (.ref a) (.list ds)
  | tup {a : Addr} {xs : List V} {ds : List PyData} : H a = some (.tup xs) → DqAll H xs ds → Dq H (.ref a) (.tuple ds)
  | dic {a : Addr} : H a = some (.dK []) → Dq H (.ref a) (.dict [])
inductive DqAll (H : Hp) : List V → List PyData → Prop
  | nil : DqAll H [] []
  | cons {v : V} {vs : List V} {d : PyData} {ds : List PyData} : Dq H v d → DqAll H vs ds → DqAll H (v :: vs) (d :: ds)
end
mutual
theorem Dq.same {H H' : Hp} (s : Same H H') : ∀ (d : PyData) (v : V), Dq H v d → Dq H' v d
  | .none, _, h => by cases h; exact .non
  | .bool b, _, h => by cases h; exact .bl b
  | .int i, _, h => by cases h; exact .int i
  | .str x, _, h => by cases h; exact .str x
  | .list ds, _, h => by
    cases h with
    | lst e a => exact .lst (s _ _ e) (DqAll.same s ds _ a)
  | .tuple ds, _, h => by
    cases h with
    | tup e a => exact .tup (s _ _ e) (DqAll.same s ds _ a)
  | .dict _, _, h => by
    cases h with
    | dic e => exact .dic (s _ _ e)
theorem DqAll.same {H H' : Hp} (s : Same H H') : ∀ (ds : List PyData) (vs : List V), DqAll H vs ds → DqAll H' vs ds
  | [], _, h => by cases h; exact .nil
  | d :: ds, _, h => by
    cases h with
    | cons a b => exact .cons (Dq.same s d _ a) (DqAll.same s ds _ b)
end
section
variable {X : Cx} {pins : List (Addr × Obj)} {σ : L2.St} {H : Hp} {s : Shared}
theorem not_sys (I : Inv X pins σ H s) (hS : ∃ o, X.base.get? sysModules = some o) {a : Addr} {o : HO} (e : H a = some o) : a ≠ sysModules := fun z => by
  obtain ⟨ob, hob⟩ := hS
  have := (I.bs _ _ hob).2
  rw [z, this] at e
  cases e
mutual
theorem Dq.reads (I : Inv X pins σ H s) (hS : ∃ o, X.base.get? sysModules = some o) : ∀ (d : PyData) (v : V) (u : Value), Dq H v d → RelV v u → ∃ as, Reads s.heap u d as ∧ sysModules ∉ as
  | .none, _, _, h, r => by
    cases h
    cases r
    exact ⟨_, Reads.none, List.not_mem_nil⟩
  | .bool b, _, _, h, r => by
    cases h
    cases r
    exact ⟨_, Reads.bool b, List.not_mem_nil⟩
  | .int i, _, _, h, r => by
    cases h
    obtain ⟨t, rfl⟩ := r
    exact ⟨_, Reads.int i t, List.not_mem_nil⟩
  | .str x, _, _, h, r => by
    cases h
    obtain ⟨t, rfl⟩ := r
    exact ⟨_, Reads.str x t, List.not_mem_nil⟩
  | .list ds, _, _, h, r => by
    cases h with
    | lst hs ha =>
      cases r
      obtain ⟨its, rv, ⟨o, n, ho, hc, _, hd⟩, _⟩ := I.list (SqL.of hs)
      obtain ⟨as, hr, hn⟩ := DqAll.reads I hS ds _ its ha rv
      exact ⟨_, Reads.list ho hc hd hr, fun z => by
        rcases List.mem_cons.mp z with z | z
        · exact not_sys I hS hs z.symm
        · exact hn z⟩
  | .tuple ds, _, _, h, r => by
    cases h with
    | tup hs ha =>
      cases r
      obtain ⟨its, rv, ⟨o, ho, hc, n, hd⟩, _⟩ := I.tuple (SqT.of hs)
      obtain ⟨as, hr, hn⟩ := DqAll.reads I hS ds _ its ha rv
      exact ⟨_, Reads.tuple ho hc hd hr, hn⟩
  | .dict _, _, _, h, r => by
    cases h with
    | dic hs =>
      cases r
      obtain ⟨_, _, vs, kv, m⟩ := dk_of I.hok hs
      cases kv
      obtain ⟨o, es, ep, e, hc, hd, _, pr, _⟩ := m
      have hsz : es.toList = [] := by
        generalize es.toList = l at pr
        cases pr
        rfl
      refine ⟨_, Reads.dict e hc.1 hd (as := []) (bs := []) ?_ ?_, fun z => ?_⟩
      · rw [hsz]; exact .nil
      · rw [hsz]; exact .nil
      · rcases List.mem_cons.mp z with z | z
        · exact not_sys I hS hs z.symm
        · cases z
theorem DqAll.reads (I : Inv X pins σ H s) (hS : ∃ o, X.base.get? sysModules = some o) : ∀ (ds : List PyData) (vs : List V) (us : List Value), DqAll H vs ds → Vals vs us → ∃ as, ReadsAll s.heap us ds as ∧ sysModules ∉ as
  | [], _, _, h, r => by
    cases h
    cases r
    exact ⟨_, ReadsAll.nil, List.not_mem_nil⟩
  | d :: ds, _, _, h, r => by
    cases h with
    | cons h1 h2 =>
      cases r with
      | cons r1 r2 =>
        obtain ⟨as, q1, n1⟩ := Dq.reads I hS d _ _ h1 r1
        obtain ⟨bs, q2, n2⟩ := DqAll.reads I hS ds _ _ h2 r2
        exact ⟨_, ReadsAll.cons q1 q2, fun z => (List.mem_append.mp z).elim n1 n2⟩
end
/-- repr of data: not too deep, not too long -/
structure Showy (d : PyData) : Prop where
  may : d.showable = true
  low : d.depth ≤ 60
  fits : d.shown.length ≤ sizeLine
end
end Ob

set_option maxHeartbeats 4000000
namespace Ob
open PySem PySem.Spec PyProof.Rows L2
/-- data of such a size -/
structure Sz (d : PyData) (k w : Nat) : Prop where
  may : d.showable = true
  low : d.depth ≤ k
  short : d.leavesShort 120 = true
  wt : d.weight ≤ w
theorem Sz.mono {d : PyData} {k w k' w' : Nat} (h : Sz d k w) (hk : k ≤ k') (hw : w ≤ w') : Sz d k' w' := ⟨h.may, Nat.le_trans h.low hk, h.short, Nat.le_trans h.wt hw⟩
/-! what kind it is -/
def tyN : PyData → String
  | .none => "NoneType"
  | .bool _ => "bool"
  | .int _ => "int"
  | .str _ => "str"
  | .list _ => "list"
  | .tuple _ => "tuple"
  | .dict _ => "dict"
def isWh : PyData → Bool
  | .int _ => true
  | _ => false
def isWhV : V → Bool
  | .int _ => true
  | _ => false
theorem Dq.ty (K : PySem.W.Frag) {H : Hp} {v : V} {d : PyData} (h : Dq H v d) : TyOf K H v (.type (tyN d)) := by
  cases h with
  | non => exact .non
  | bl b => exact .bl b
  | int i => exact .int i
  | str x => exact .str x
  | lst e _ => exact .lst e
  | tup e _ => exact .tup e
  | dic e => exact .dK e
theorem Dq.wh {H : Hp} {v : V} {d : PyData} (h : Dq H v d) : isWhV v = isWh d := by cases h <;> rfl
theorem DqAll.length {H : Hp} : ∀ {xs : List V} {ds : List PyData}, DqAll H xs ds → xs.length = ds.length
  | [], _, h => by cases h; rfl
  | x :: xs, _, h => by
    cases h with
    | cons a b => rw [List.length_cons, List.length_cons, DqAll.length b]
theorem DqAll.get {H : Hp} : ∀ {xs : List V} {ds : List PyData} {i : Nat} {x : V}, DqAll H xs ds → xs[i]? = some x → ∃ d, ds[i]? = some d ∧ Dq H x d
  | _ :: _, _, 0, _, h, e => by
    cases h with
    | cons a b => cases e; exact ⟨_, rfl, a⟩
  | _ :: _, _, i + 1, _, h, e => by
    cases h with
    | cons a b =>
      obtain ⟨d, e1, e2⟩ := DqAll.get (i := i) b (by simpa using e)
      exact ⟨d, by simpa using e1, e2⟩
theorem DqAll.append {H : Hp} : ∀ {xs ys : List V} {ds es : List PyData}, DqAll H xs ds → DqAll H ys es → DqAll H (xs ++ ys) (ds ++ es)
  | [], _, _, _, h, g => by cases h; exact g
  | _ :: _, _, _, _, h, g => by
    cases h with
    | cons a b => exact .cons a (DqAll.append b g)
end Ob

set_option maxHeartbeats 4000000
namespace Ob
open PySem PySem.Spec PyProof.Rows L2
/-- the lists and tuples of H stand in H0, frozen, and nothing else but what is frozen -/
structure FrzD (H H0 : Hp) : Prop where
  fz : ∀ c o, H0 c = some o → ∃ ob u, o = .frz ob u
  tp : ∀ c ys, H c = some (.tup ys) → ∃ ob, H0 c = some (.frz ob (.tup ys))
  ls : ∀ c ys, H c = some (.lst ys) → ∃ ob, H0 c = some (.frz ob (.lst ys))
  dk : ∀ c kvs, H c = some (.dK kvs) → ∃ ob, H0 c = some (.frz ob (.dK kvs))
section
variable {X : Cx} {pins : List (Addr × Obj)} {σ : L2.St} {H : Hp} {s : Shared} {P : Addr}
end
section
variable {X : Cx} {P c f : Addr} {x g y : Str} {iter : Expr} {ti : TE} {p1 p2 p3 p4 p5 p6 p7 : Pos} {scope : Scope} {k : Nat} {fd : FuncData} {sp : Sp}
end
/-- the type of a thing, a frozen dict's, too -/
inductive TyF (K : PySem.W.Frag) (H : Hp) : V → Value → Prop
  | of {v : V} {t : Value} (h : TyOf K H v t) : TyF K H v t
  | frd {a : Addr} {o : Obj} {kvs : List (Key × V)} (e : H a = some (.frz o (.dK kvs))) : TyF K H (.ref a) (.type "dict")
end Ob

set_option maxHeartbeats 4000000
namespace L2
open PySem PySem.Spec PyProof.Rows
/-! ### refusals that fly: behind a call the refusal ea of the class at C is under way -/
/-- what stays while it flies: B; all that is tracked, all that stood at the heap g but the frames -/
structure Fly (l : List Env) (H : Hp) (g h : Heap) (ea C : Addr) (B : Heap) (t : Addr) : Prop where
  fl : Heap.FlyingW B l ea (.ref C) (.ref t) h
  trk : ∀ b o, H b = some o → ∃ ob, B.get? b = some ob
  old : ∀ b ob, g.get? b = some ob → b ∉ frs l → ∃ ob', B.get? b = some ob'
/-- a def's promise where the frames that run are known -/
structure FnF (P : Program) (w : World) (K : PySem.W.Frag) (mg : Str → Option Value) (base : Heap) (CX : CXT) (k : Nat) (f : Addr) (fd : FuncData) (ps : List Str) (sp : Sp) : Prop where
  len : ∀ vs H Q E, sp vs H Q E → vs.length = ps.length
  run : ∀ (A : Around) (outer : List Env) (s : Shared) (H : Hp) (args : Args) (us : List Value) (vs : List V) (Q : VK) (E : XK), A.frames = some outer → Room k A → Env0 P w K mg base A outer s H → BindsTo s fd args (ps.zip us) → Vals vs us → sp vs H Q E →
    codeAny (model P w) A (.call (.ref f) args) (CR CX outer P w H s Q E) s
theorem FnOk.f {P : Program} {w : World} {K : PySem.W.Frag} {mg : Str → Option Value} {base : Heap} {CX : CXT} {k : Nat} {f : Addr} {fd : FuncData} {ps : List Str} {sp : Sp} (F : FnOk P w K mg base CX k f fd ps sp) : FnF P w K mg base CX k f fd ps sp :=
  ⟨F.len, fun A outer s H args us vs Q E _ => F.run A outer s H args us vs Q E⟩
theorem FnF.mono {P : Program} {w : World} {K : PySem.W.Frag} {mg : Str → Option Value} {base : Heap} {CX : CXT} {j k : Nat} {f : Addr} {fd : FuncData} {ps : List Str} {sp : Sp} (F : FnF P w K mg base CX j f fd ps sp) (h : j ≤ k) : FnF P w K mg base CX k f fd ps sp :=
  ⟨F.len, fun A outer s H args us vs Q E hf hr => F.run A outer s H args us vs Q E hf (hr.mono h)⟩
section
variable {P : Program} {w : World} {K : PySem.W.Frag} {mg : Str → Option Value} {base : Heap}
end

section
variable {X : Cx} {CX : CXT} {k : Nat} {f C : Addr} {fd : FuncData} {ps : List Str} {sp : Sp} {dvs : List V} {ds : List Value} {EF : St → XK} {x m : Str} {p pos apos : Pos} {e o : Expr} {es : List Expr} {ta : TE} {t : TA}
end

end L2

set_option maxHeartbeats 4000000
namespace L2
open PySem PySem.Spec PyProof.Rows
/-! ### try .. except -/
abbrev Cx.tr (X : Cx) (pn : List (Addr × Obj)) (E : Value → Shared → Prop) : Cx := { X with pn := pn, xe := E }
section
variable {X : Cx} {pins : List (Addr × Obj)} {σ : St} {H : Hp} {s : Shared}
theorem Inv.tr (I : Inv X pins σ H s) (E : Value → Shared → Prop) : Inv (X.tr (X.pn ++ pins) E) [] σ H s :=
  ⟨⟨I.ok.mod, I.ok.kind, I.ok.glob, I.ok.blt, I.ok.above, I.ok.inj, I.ok.has, I.ok.cab, I.ok.hd, I.ok.frames, I.ok.stk, I.ok.exf, I.ok.bs, I.ok.bsz, I.ok.noex, I.ok.exfs, I.ok.funs, I.ok.frf⟩,
    I.os, I.bare, I.base, I.loc, I.cell, I.free, I.freeC, fun p hp => I.pin p (by simpa using hp), I.hok, I.len⟩
end
/-- a refusal of the class at C is held in this body -/
def HeldE (X : Cx) (pins : List (Addr × Obj)) (σ : St) (H' : Hp) (ea C : Addr) (s' : Shared) : Prop :=
  ∃ H s B t, Inv X pins σ H s ∧ s'.os = s.os ∧ (AllBare s.gens → AllBare s'.gens) ∧ Un (frs X.stack) [] H H' s.heap s'.heap ∧ HOk X.prog X.w H' s'.heap ∧ Fly X.stack H' s.heap s'.heap ea C B t
section
variable {X : Cx} {pins : List (Addr × Obj)} {σ : St} {H : Hp} {s : Shared} {ea C : Addr}
/-- the refusal's own object is new -/
theorem Fly.new {X : Cx} {H1 : Hp} {s0 : Shared} {B : Heap} {t : Addr} {h : Heap} (I : Inv X pins σ H1 s0) (f : Fly X.stack H s0.heap h ea C B t) : s0.heap.get? ea = none := by
  cases q : s0.heap.get? ea with
  | none => rfl
  | some o =>
    exfalso
    by_cases hb : ea ∈ frs X.stack
    · obtain ⟨_, o2, e2, nf⟩ := f.fl.2.2.1.mem hb
      obtain ⟨oe, vs, he, _, hd, _⟩ := f.fl.first
      rw [he] at e2
      cases e2
      exact nf _ hd
    · obtain ⟨ob, z⟩ := f.old ea o q hb
      rw [f.fl.2.1] at z
      cases z
theorem HeldE.nil (h : HeldE X pins σ H ea C s) : H ea = none := by
  obtain ⟨H0, s0, B, t, I, ho, hb, un, hok, fly⟩ := h
  cases q : H ea with
  | none => rfl
  | some o =>
    obtain ⟨ob, z⟩ := fly.trk ea o q
    rw [fly.fl.2.1] at z
    cases z
theorem HeldE.ty (h : HeldE X pins σ H ea C s) {M : Model} : PySem.W.Looks M s.heap (typeOf (.ref ea)) (.ref C) := by
  obtain ⟨H0, s0, B, t, I, ho, hb, un, hok, fly⟩ := h
  obtain ⟨oe, vs, he, hc, _⟩ := fly.fl.first
  rw [← hc]
  exact (PySem.W.Looks.ld he).andThen .now
end

/-- what is wanted behind the handlers, by the class of the refusal -/
abbrev TH := Addr → TS
def Ends.off (D : Ends) (i : Nat) : Ends := { nx := fun σ H => D.nx (σ.set i none) H, rt := D.rt, bk := fun σ H => D.bk (σ.set i none) H, ct := fun σ H => D.ct (σ.set i none) H }
section
variable {X : Cx} {x n : Str} {c : Addr} {i : Nat} {np pos : Pos} {b0 : Stmt} {suite : List Stmt} {rest : List ExceptHandler} {tb : TS} {tr : TH}
end
end L2

set_option maxHeartbeats 4000000
namespace L2
open PySem PySem.Spec PyProof.Rows
section
variable {X : Cx}
end
end L2

set_option maxHeartbeats 4000000
namespace L2
open PySem PySem.Spec PyProof.Rows
section
variable {X : Cx} {a b c e o : Expr} {es : List Expr} {st : Stmt} {rest : List Stmt} {ta tb te to : TE} {tc : TT} {t u : TS} {ts : TA} {pos p : Pos}
end
end L2

set_option maxHeartbeats 4000000
namespace L2
open PySem PySem.Spec PyProof.Rows
section
variable {X : Cx}
/-- None, a number or a tuple -/
def ItemN (K : PySem.W.Frag) (H : Hp) (v : V) : Prop := v = .non ∨ (∃ i : Int, v = .int i) ∨ ∃ (a : Addr) (xs : List V), v = .ref a ∧ SqT K H a xs
def rInN (K : PySem.W.Frag) : R2 := fun x y H Q => x = .non ∧ ∃ p xs, y = .ref p ∧ SqL K H p xs ∧ (∀ v ∈ xs, ItemN K H v) ∧ Q (.bl (xs.any fun v => decide (v = .non))) H
def isN (u : Value) : Bool := match u with | .none => true | _ => false
theorem isN_any {K : PySem.W.Frag} {H : Hp} : ∀ {xs : List V} {us : List Value}, Vals xs us → (∀ v ∈ xs, ItemN K H v) → us.any isN = xs.any fun v => decide (v = .non)
  | _, _, .nil, _ => rfl
  | x :: xs, u :: us, .cons r t, h => by
    rw [List.any_cons, List.any_cons, isN_any t fun v hv => h v (List.mem_cons_of_mem _ hv)]
    congr 1
    rcases h x List.mem_cons_self with rfl | ⟨i, rfl⟩ | ⟨a, ys, rfl, _⟩
    · cases r; rfl
    · obtain ⟨t, rfl⟩ := r; rfl
    · cases r; rfl
theorem op_inN (hu : X.A.units + 64 < cLine) : OpR X (compareOp .In) (rInN X.K) := by
  intro pins s σ H x y v u Q I rx ry h
  obtain ⟨rfl, p, xs, rfl, hq, hi, q⟩ := h
  cases rx
  cases ry
  obtain ⟨its, r, pl, hz⟩ := I.list hq
  have at1 : ∀ {xs : List V} {us : List Value}, Vals xs us → (∀ v ∈ xs, ItemN X.K H v) → ∀ w ∈ us, SeqAt.EqAt X.A.in1 s w Value.none (isN w) := by
    intro xs us r
    induction r with
    | nil => intro _ w hw; cases hw
    | @cons x u xs us r t ih =>
      intro h w hw
      rcases List.mem_cons.mp hw with rfl | hw
      · rcases h x List.mem_cons_self with rfl | ⟨i, rfl⟩ | ⟨a, ys, rfl, ha⟩
        · cases r; exact SeqAt.EqAt.same _
        · obtain ⟨t, rfl⟩ := r; exact SeqAt.EqAt.int_none _ _
        · cases r
          obtain ⟨its2, _, pl2, _⟩ := I.tuple ha
          exact SeqAt.EqAt.tuple_none pl2 (by show X.A.units + 1 < cLine; omega)
      · exact ih (fun v hv => h v (List.mem_cons_of_mem _ hv)) w hw
  refine SeqAt.in_listAt isN pl.isList (fun w hw => at1 r hi w (by simpa using hw)) ⟨.bl _, H, I, rfl, ?_⟩
  rw [show its.toArray.any isN = its.any isN by simp, isN_any r hi]
  exact q
end
end L2

set_option maxHeartbeats 4000000
namespace Ob
open PySem PySem.Spec PyProof.Rows L2
def ansJ {α : Type} (xs : List α) (q : α → Int) (j : Nat) : Int := (xs[j]?.map q).getD 0
theorem preSum_ansJ {α : Type} (xs : List α) (q : α → Int) : preSum (ansJ xs q) xs.length = (xs.map q).sum := by
  have key : ∀ i, i ≤ xs.length → preSum (ansJ xs q) i = ((xs.take i).map q).sum := by
    intro i
    induction i with
    | zero => intro _; rfl
    | succ i ih =>
      intro hi
      have e : xs[i]? = some (xs[i]'(by omega)) := List.getElem?_eq_getElem _
      show preSum (ansJ xs q) i + ansJ xs q i = _
      rw [ih (by omega), List.take_add_one, e, List.map_append, List.sum_append]
      unfold ansJ
      rw [e]
      congr 1
      simp
  rw [key _ (Nat.le_refl _), List.take_of_length_le (Nat.le_refl _)]
abbrev TPr := L2.St → Hp → (List (V × V) → Hp → Prop) → Prop
/-- an expression that makes an iterator of pairs, the pairs as told -/
def PairSrc (X : Cx) (P : Addr) (iter : Expr) (ts : TPr) : Prop :=
  ∀ (pins : List (Addr × Obj)) (σ : L2.St) (H : Hp) (s : Shared) (Q : List (V × V) → Hp → Prop) (G : Value → Shared → Prop), Inv X pins σ H s → ts σ H Q →
    (∀ (s1 : Shared) (H1 : Hp) (zs : List (V × V)) (h' : Heap) (I : Addr) (fp wr : List Addr) (n : Nat) (Pt : Nat → Array Value → Prop) (St : Nat → Heap → Prop) (Mid : Nat → Addr → Heap → Prop),
      Inv X pins σ H1 s1 → H1 P = some (.ext (TbP P)) → Q zs H1 → (∀ b o, s1.heap.get? b = some o → h'.get? b = some o) → s1.heap.objs.size ≤ h'.objs.size → n = zs.length →
      (∀ A' : Around, A'.handled = none → WalksU X.prog X.w A' I fp wr n Pt St Mid) →
      (∀ i vals, Pt i vals → ∃ (va vb : Value) (z : V × V), vals = #[va, vb] ∧ zs[i]? = some z ∧ RelV z.1 va ∧ RelV z.2 vb) →
      (∀ h2 : Heap, (∀ b o, b ≠ P → h'.get? b = some o → h2.get? b = some o) → St 0 h2) → (∀ b ∈ fp, b < h'.objs.size) → (∀ b ∈ wr, s1.heap.objs.size ≤ b) →
      G (.ref I) { s1 with heap := h' }) →
    wpAny (model X.prog X.w) X.A (eval iter X.env) G X.xe s
/-- enumerate(xs), a list -/
def sEnum (K : PySem.W.Frag) (P : Addr) (ta : TA) : TPr := fun σ H Q => ta σ H fun vs H1 => ∃ (a : Addr) (xs : List V), vs = [.ref a] ∧ SqL K H1 a xs ∧ H1 P = some (.ext (TbP P)) ∧ Q (xs.zipIdx.map fun p => (V.int (p.2 : Nat), p.1)) H1
/-- zip(xs, ys), lists -/
def sZip (K : PySem.W.Frag) (P : Addr) (ta : TA) : TPr := fun σ H Q => ta σ H fun vs H1 => ∃ (a b : Addr) (xs ys : List V), vs = [.ref a, .ref b] ∧ SqL K H1 a xs ∧ SqL K H1 b ys ∧ H1 P = some (.ext (TbP P)) ∧ Q (xs.zip ys) H1
theorem up_ne {a n : Nat} (k : Nat) (h : a < n) : n + k ≠ a := by omega
theorem fp_enum {n m a : Nat} (h : m = n + 2) (ha : a < n) : ∀ c ∈ [n + 1, n, a], c < m := by
  intro c hc
  simp only [List.mem_cons, List.not_mem_nil, or_false] at hc
  omega
theorem wr_enum {n : Nat} : ∀ c ∈ [n + 1, n], n ≤ c := by
  intro c hc
  simp only [List.mem_cons, List.not_mem_nil, or_false] at hc
  omega
theorem fp_zip {n m a b : Nat} (h : m = n + 5) (ha : a < n) (hb : b < n) : ∀ c ∈ [n + 4, n + 2, n + 3, n, n + 1, a, b], c < m := by
  intro c hc
  simp only [List.mem_cons, List.not_mem_nil, or_false] at hc
  omega
theorem wr_zip {n : Nat} : ∀ c ∈ [n + 4, n + 3, n, n + 1], n ≤ c := by
  intro c hc
  simp only [List.mem_cons, List.not_mem_nil, or_false] at hc
  omega
theorem notTable {h : Heap} {a P : Addr} {its : Array Value} (hl : h.IsList a its) (tb : TbP P h) : a ≠ P := fun z => by
  obtain ⟨o, ho, hcls, _⟩ := hl
  obtain ⟨_, e, _⟩ := tb
  rw [z, e] at ho
  cases ho
  exact nomatch hcls
theorem src_enum {X : Cx} {P : Addr} {e : Expr} {ta : TA} {p pos : Pos} (hg : Gl X "enumerate") (hm : X.mg "enumerate" = none) (ha : PA X [e] ta) (hs : starEach [e] X.env = [(false, eval e X.env)] := by rfl) :
    PairSrc X P (.Call (.Name "enumerate" p) [e] [] pos) (sEnum X.K P ta) := by
  intro pins σ H s Q G I h hG
  refine Call_ (ld_blt I hg hm boot_enumerate (PyProof.Rows.callWith_type1 (thn (ha pos pins s σ H _ I h) fun us s1 ⟨vs, H1, I1, r1, q1⟩ => ?_) hs rfl))
  obtain ⟨a, xs, ex, hq, hP, q⟩ := q1
  subst ex
  cases r1 with
  | cons r rr =>
    cases rr
    cases r
    obtain ⟨its, rv, pl, hz⟩ := I1.list hq
    have hl := pl.isList
    have hlt : a < s1.heap.objs.size := by obtain ⟨_, e, _⟩ := hl; exact Heap.lt_size e
    have tb1 := Inv.tableAt I1 hP
    have hPlt : P < s1.heap.objs.size := let ⟨_, e, _⟩ := tb1; Heap.lt_size e
    have haP := notTable hl tb1
    refine call_enumerate_list hl fun h' he hit hsz hk => ?_
    refine hG s1 H1 _ h' (s1.heap.objs.size + 1) [s1.heap.objs.size + 1, s1.heap.objs.size, a] [s1.heap.objs.size + 1, s1.heap.objs.size] its.toArray.size _ _ _ I1 hP q hk (by omega) (by rw [List.size_toArray, List.length_map, List.length_zipIdx, rv.length])
      (fun A' hA => (WalksT.enumerate hA _ _ _ (Nat.succ_ne_self _) (Ne.symm (up_ne 1 hlt)) (Nat.ne_of_lt hlt) its.toArray).toU) (fun i vals hp => ?_) (fun h2 hk2 => ⟨⟨_, hk2 _ _ (up_ne 1 hPlt) he⟩, hit.at fun o e => hk2 _ o (Nat.ne_of_gt hPlt) e, (hl.at fun o e => hk a o e).at fun o e => hk2 a o haP e⟩) ?_ ?_
    · obtain ⟨t, x, hx, rfl⟩ := hp
      have e : its[i]? = some x := by simpa using hx
      cases w : xs[i]? with
      | none => rw [rv.none_of w] at e; cases e
      | some z =>
        obtain ⟨u, e1, e2⟩ := rv.get w
        rw [e] at e1
        cases e1
        refine ⟨_, _, (V.int (i : Nat), z), rfl, ?_, ⟨_, rfl⟩, e2⟩
        simp [w]
    · exact fp_enum hsz hlt
    · exact wr_enum
theorem src_zip {X : Cx} {P : Addr} {e e2 : Expr} {ta : TA} {p pos : Pos} (hg : Gl X "zip") (hm : X.mg "zip" = none) (ha : PA X [e, e2] ta)
    (hs : starEach [e, e2] X.env = (false, eval e X.env) :: starEach [e2] X.env := by rfl) (hpl : (backTo pos (starEach [e2] X.env)).any (·.1) = false := by rfl) :
    PairSrc X P (.Call (.Name "zip" p) [e, e2] [] pos) (sZip X.K P ta) := by
  intro pins σ H s Q G I h hG
  refine Call_ (ld_blt I hg hm boot_zip5 (PyProof.Rows.callWith_type1 (thn (ha pos pins s σ H _ I h) fun us s1 ⟨vs, H1, I1, r1, q1⟩ => ?_) hs hpl))
  obtain ⟨a, b, xs, ys, ex, hqx, hqy, hP, q⟩ := q1
  subst ex
  cases r1 with
  | cons r rr =>
    cases rr with
    | cons r' rr =>
      cases rr
      cases r
      cases r'
      obtain ⟨its, rv, p1, _⟩ := I1.list hqx
      obtain ⟨its2, rv2, p2, _⟩ := I1.list hqy
      have la : a < s1.heap.objs.size := p1.lt
      have lb : b < s1.heap.objs.size := p2.lt
      have tb1 := Inv.tableAt I1 hP
      have hPlt : P < s1.heap.objs.size := let ⟨_, e, _⟩ := tb1; Heap.lt_size e
      have haP := notTable p1.isList tb1
      have hbP := notTable p2.isList tb1
      refine call_zip_2 p1.isList p2.isList fun h' hz hTI hTO h1 h2 hsz hk => ?_
      refine hG s1 H1 _ h' (s1.heap.objs.size + 4) [s1.heap.objs.size + 4, s1.heap.objs.size + 2, s1.heap.objs.size + 3, s1.heap.objs.size, s1.heap.objs.size + 1, a, b] [s1.heap.objs.size + 4, s1.heap.objs.size + 3, s1.heap.objs.size, s1.heap.objs.size + 1] (min its.toArray.size its2.toArray.size) _ _ _ I1 hP q hk (by omega) (by rw [List.length_zip, List.size_toArray, List.size_toArray, rv.length, rv2.length])
        (fun A' hA => (WalksT.zip2 hA _ _ _ _ _ _ _ (PySem.W.ktu_apart s1.heap.objs.size a b la lb) its.toArray its2.toArray).toU) (fun i vals hp => ?_)
        (fun g hk2 => ⟨hk2 _ _ (up_ne 4 hPlt) hz, hk2 _ _ (up_ne 2 hPlt) hTI, ⟨_, _, hk2 _ _ (up_ne 3 hPlt) hTO⟩, h1.at fun o e => hk2 _ o (up_ne 0 hPlt) e, h2.at fun o e => hk2 _ o (up_ne 1 hPlt) e, (p1.isList.at fun o e => hk a o e).at fun o e => hk2 a o haP e, (p2.isList.at fun o e => hk b o e).at fun o e => hk2 b o hbP e⟩) ?_ ?_
      · obtain ⟨x, y, hx, hy, rfl⟩ := hp
        have e : its[i]? = some x := by simpa using hx
        have e' : its2[i]? = some y := by simpa using hy
        cases w : xs[i]? with
        | none => rw [rv.none_of w] at e; cases e
        | some z =>
          cases w' : ys[i]? with
          | none => rw [rv2.none_of w'] at e'; cases e'
          | some z' =>
            obtain ⟨u, e1, e2⟩ := rv.get w
            obtain ⟨u', e1', e2'⟩ := rv2.get w'
            rw [e] at e1
            cases e1
            rw [e'] at e1'
            cases e1'
            exact ⟨_, _, (z, z'), rfl, List.getElem?_zip_eq_some.mpr ⟨w, w'⟩, e2, e2'⟩
      · exact fp_zip hsz la lb
      · exact wr_zip
/-- sum(elt for x, y in ..); R: what elt answers of the two -/
def tSumT (P : Addr) (R : L2.St → Hp → V → V → Int → Prop) (ts : TPr) : TE := fun σ H Q => ts σ H fun zs H1 => ∃ q : V × V → Int, (∀ z ∈ zs, R σ H1 z.1 z.2 (q z)) ∧ Q (.int (zs.map q).sum) H1
/-- an element of a generator expression of two names, from a state in which all but the table stands -/
def EltT (X : Cx) (P : Addr) (scope : Scope) (x y : Str) (elt : Expr) (R : L2.St → Hp → V → V → Int → Prop) : Prop :=
  ∀ (pins : List (Addr × Obj)) (σ : L2.St) (H : Hp) (s t : Shared) (A' : Around) (E' : Value → Shared → Prop) (C : Addr) (code : Value) (m2 : Str → Option Value) (z z' : V) (v v' : Value) (b : Int), Inv X pins σ H s → H P = some (.ext (TbP P)) →
    A'.handled = none → A'.depth ≤ X.A.depth + 1 → A'.units ≤ X.A.units + 8 → (∀ b o, b ≠ P → s.heap.get? b = some o → t.heap.get? b = some o) → (∀ b o, X.base.get? b = some o → t.heap.get? b = some o) → X.base.objs.size ≤ t.heap.objs.size →
    t.heap.Ns C m2 → m2 x = some v → m2 y = some v' → RelV z v → RelV z' v' → R σ H z z' b →
    wpAny (model X.prog X.w) A' (eval elt (genEnv scope (cloFrom X.env.cells scope.names []) C code builtinsNs X.env)) (fun y s' => (∃ tk, y = .int b tk) ∧ Keeps t s') E' t
section
variable {X : Cx} {P c : Addr} {x y : Str} {elt iter : Expr} {ts : TPr} {p1 p3 p4 p5 p6 p7 : Pos} {kt : Nat} {scope : Scope} {R : L2.St → Hp → V → V → Int → Prop}
theorem pe_sumT (hcalm : X.calm = true) (B : GenB X c P) (hE : EltT X P scope x y elt R) (hr : Room 1 X.A) (hg : Gl X "sum") (hm : X.mg "sum" = none) (hi : PairSrc X P iter ts)
    (hco : scope.isCoroutine = false) (hfr : ∀ y ∈ scope.names, y.2 = .free → X.env.scope.names.lookup y.1 = some .cell ∨ X.env.scope.names.lookup y.1 = some .free) (hcell : ∀ y ∈ scope.names, y.2 ≠ .cell) (h0 : scope.names.lookup (".0" : Str) = some NameKind.local) (hx : scope.names.lookup x = some .local) (hy : scope.names.lookup y = some .local) (hxy : x ≠ y)
    (hkind : scope.kind = .function) (hs : ∀ v, genFold iter X.env v = pure v) (hqt : X.qt = false := by rfl) :
    PE X (.Call (.Name "sum" p1) [.GeneratorExp elt [⟨.Tuple [.Name x p3, .Name y p4] kt p5, iter, [], 0⟩] scope p6] [] p7) (tSumT P R ts) := by
  intro pins s σ H Q I h
  have hh : X.A.handled = none := I.ok.hd hcalm
  have hfree : ∀ y ∈ scope.names, y.2 = .free → ∃ c, X.env.cells.lookup y.1 = some c := fun y hy e => by
    rcases hfr y hy e with k | k
    · exact I.ok.has _ (.inl k)
    · exact I.ok.has _ (.inr k)
  refine wpAny_Call_Name_kw (ld_blt I hg hm boot_sum' ?_ (by decide) (by decide))
  refine PyProof.Rows.callWith_builtin1 ?_ rfl rfl
  refine Calls.spliced_cons ?_
  refine wpAny_GeneratorExp_walksQTD hh hco (closure_ok hfree) hcell h0 hx hy hxy hkind hr.depth (hi pins σ H s _ _ I h ?_) hs
  intro s1 H1 zs h' ia fp wr n Pt St Mid I1 hP q1 hk' hsz' hn W hPt hSt hfp hwr
  obtain ⟨q, hT, hQ⟩ := q1
  have tb1 := Inv.tableAt I1 hP
  have hPlt : P < s1.heap.objs.size := let ⟨_, e, _⟩ := tb1; Heap.lt_size e
  refine (W X.A hh).self 0 _ _ _ (hSt _ fun _ _ _ e => e) ⟨(I1.nolimit).keeps hk', ?_⟩
  refine gen_code B.ec ((B.code.keeps I1.bk).keeps fun b o e => hk' b o e) (tb1.stay fun o e => hk' P o e) fun code h3 tk hx3 hsz3 tb3 => ?_
  obtain ⟨bm, ob, M⟩ := B.bm
  have k3 : ∀ b o, b ≠ P → s1.heap.get? b = some o → h3.get? b = some o := fun b o hb e => hx3 b o hb (hk' b o e)
  have nbP : ∀ b o, X.base.get? b = some o → b ≠ P := fun b o e z => by
    have z2 := (I1.bs b o e).2
    rw [z, hP] at z2
    cases z2
  have kb3 : ∀ b o, X.base.get? b = some o → h3.get? b = some o := fun b o e => k3 b o (nbP b o e) (I1.bk b o e)
  have M3 := M.keeps kb3
  rw [I.ok.glob]
  refine wpAny_builtinsFor M3.ns M3.name M3.ne M3.obj M3.cls M3.dict M3.data ?_
  have hszL : h'.objs.size ≤ h3.objs.size := hsz3
  have nWr : ∀ b o, s1.heap.get? b = some o → b ∉ wr := fun b o e z => absurd (Heap.lt_size e) (Nat.not_lt.mpr (hwr b z))
  have lim3 : h3.NoLimit := I.ok.mod.nolimit.keeps kb3
  refine ⟨ia, fp, wr, n, Pt, St, Mid, fun _ => true, fun i y => ∃ z, zs[i]? = some z ∧ (∃ tk, y = .int (q z) tk), rfl, W, fun i vals hp => let ⟨va, vb, _, e, _⟩ := hPt i vals hp; ⟨va, vb, e⟩, hSt h3 hx3, fun b hb => Nat.lt_of_lt_of_le (hfp b hb) hszL, lim3, ?_, ?_, ?_⟩
  · intro hb
    obtain ⟨_, hn, _⟩ := I1.nolimit
    exact absurd hn.lt (Nat.not_lt.mpr (hwr _ hb))
  · intro href hhref
    refine ⟨fun A' E' i va vb t m2 hA hD hU hPi hn hm2 hm3 hk => wpAny_pure ⟨rfl, t.heap, t.toks, rfl, fun _ _ e => e⟩, fun A' E' i va vb t m2 hA hD hU hPi _ hn hm2 hm3 hk => ?_⟩
    have kt : ∀ b o, b ≠ P → s1.heap.get? b = some o → t.heap.get? b = some o := fun b o hb e =>
      hk b (List.mem_range.mpr (Heap.lt_size (k3 b o hb e))) (nWr b o e) o (hhref b o (k3 b o hb e))
    have kbt : ∀ b o, X.base.get? b = some o → t.heap.get? b = some o := fun b o e => kt b o (nbP b o e) (I1.bk b o e)
    obtain ⟨va', vb', z, ev, hz, r1, r2⟩ := hPt i _ hPi
    have e1 : va = va' := congrArg (fun a : Array Value => a.getD 0 .none) ev
    have e2 : vb = vb' := congrArg (fun a : Array Value => a.getD 1 .none) ev
    subst e1 e2
    have szt : X.base.objs.size ≤ t.heap.objs.size := by
      have z1 : h3.objs.size < t.heap.objs.size := hn.lt
      have z2 := Nat.le_trans I1.ok.bsz I1.sz
      omega
    refine wpAny_mono (hE pins σ H1 s1 t A' E' _ code m2 z.1 z.2 va vb (q z) I1 hP hA hD hU kt kbt szt hn hm2 hm3 r1 r2 (hT z (List.mem_of_getElem? hz))) (fun y s' ⟨e, kk⟩ => ?_) fun _ _ e => e
    exact ⟨⟨z, hz, e⟩, kk⟩
  · intro a' h5 tk5 gs hgb hag hsz5 hk5 Wk hat
    have Wk := Wk.in4_1
    refine Calls.spliced_nil ?_
    have npass : ∀ n, (passing (fun _ => true) n 0) = List.range n := fun n => by simp [passing]
    refine call_sum_walkAnyS (Wk.self 0 _ _ _ hat ⟨a', _, _, _, _, _, _, ansJ zs q, rfl, Wk, hat, ?F, ?_, fun s' t' hm => ?_⟩)
    case F =>
      intro b hb
      have hag' : h3.objs.size < a' := hag
      show b < h5.objs.size
      rw [hsz5]
      rcases List.mem_cons.mp hb with h | hb
      · rw [h]; exact Nat.lt_succ_self _
      rcases List.mem_cons.mp hb with h | hb
      · rw [h]; exact Nat.lt_succ_of_lt hag'
      have hb3 : b < h3.objs.size := List.mem_range.mp hb
      exact Nat.lt_succ_of_lt (Nat.lt_trans hb3 hag')
    · rintro j v ⟨i, hi', z, hz', tk, rfl⟩
      have ei : i = j := by
        rw [npass] at hi'
        have := (List.getElem?_eq_some_iff.mp hi').2
        simpa using this.symm
      subst ei
      refine ⟨tk, ?_⟩
      unfold ansJ
      rw [hz']
      rfl
    · have nin : ∀ b o, b ≠ P → s1.heap.get? b = some o → b ∉ h3.objs.size :: wr := fun b o hb e z => by
        rcases List.mem_cons.mp z with z | z
        · exact absurd (z ▸ Heap.lt_size (k3 b o hb e)) (Nat.lt_irrefl _)
        · exact nWr b o e z
      have kk : ∀ b o, b ≠ P → s1.heap.get? b = some o → s'.heap.get? b = some o := fun b o hb e => hm.heap b o (nin b o hb e) (hk5 b o (k3 b o hb e))
      have tb' : TbP P s'.heap := (tb3.stay fun o e => hk5 P o e).stay fun o e => hm.heap P o (fun z => by
        rcases List.mem_cons.mp z with z | z
        · exact absurd (Nat.lt_of_lt_of_le hPlt (Nat.le_trans hsz' hszL)) (z ▸ Nat.lt_irrefl _)
        · exact absurd hPlt (Nat.not_lt.mpr (hwr _ z))) e
      have J := Inv.grown I1 hqt hP kk tb' (fun hb => AllBare.movedS (hb.push hgb) hm) hm.os
      refine ⟨.int (zs.map q).sum, H1, J, ?_, hQ⟩
      have hlen : (passing (fun _ => true) n 0).length = zs.length := by
        rw [npass, List.length_range, hn]
      rw [hlen, preSum_ansJ]
      exact ⟨_, rfl⟩
end
end Ob

set_option maxHeartbeats 4000000
namespace Ob
open PySem PySem.Spec PyProof.Rows L2
/-! ### generators only get more -/
theorem runs_gens {M : Model} {Γ : PySem.Ctx} {p : Pos} {t : Sem Fin} {fs : List Frame} {s : Shared} {e : End} {s' : Shared} (h : Runs M Γ p t fs s e s') : s.gens.size ≤ s'.gens.size := by
  induction h <;> first | omega | (simp only [Shared.setGen, Array.size_push, Array.size_setIfInBounds, Array.size_set!] at *; omega)
theorem wakes_gens {M : Model} {Γ : PySem.Ctx} {p : Pos} {g : Nat} {r : Resume} {s : Shared} {res : GenResult} {s' : Shared} (h : Wakes M Γ p g r s res s') : s.gens.size ≤ s'.gens.size := by
  have up : ∀ (u : Shared) (x : GenState), (u.setGen g x).gens.size = u.gens.size := fun u x => by simp [Shared.setGen]
  unfold Wakes at h
  split at h
  · exact h.elim
  · split at h
    · obtain ⟨e1, s1, hr, _, _, rfl⟩ := h
      have z := runs_gens hr
      rw [up] at z ⊢
      exact z
    · obtain ⟨_, rfl⟩ := h
      first | exact Nat.le_refl _ | rw [up]
      try exact Nat.le_refl _
    · obtain ⟨_, rfl⟩ := h
      first | exact Nat.le_refl _ | rw [up]
      try exact Nat.le_refl _
  · obtain ⟨e1, s1, hr, _, _, rfl⟩ := h
    have z := runs_gens hr
    rw [up] at z ⊢
    exact z
  · obtain ⟨_, rfl⟩ := h
    exact Nat.le_refl _
  · obtain ⟨_, rfl⟩ := h
    exact Nat.le_refl _
theorem wp_gens {α : Type} {M : Model} {Γ : PySem.Ctx} (n : Nat) : ∀ (t : Sem α) {Q : α → Pos → Shared → Prop} {E : Value → Pos → Shared → Prop} {p : Pos} {s : Shared}, n ≤ s.gens.size → Sem.wp M Γ t Q E p s → Sem.wp M Γ t (fun a p' s' => Q a p' s' ∧ n ≤ s'.gens.size) (fun e p' s' => E e p' s' ∧ n ≤ s'.gens.size) p s := by
  intro t
  induction t with
  | pure a => intro Q E p s hn h; exact ⟨h, hn⟩
  | raise e => intro Q E p s hn h; exact ⟨h, hn⟩
  | unsupported w => intro Q E p s hn h; exact h
  | finish e => intro Q E p s hn h; exact h
  | rule tag k ih => intro Q E p s hn h; exact ih () hn h
  | «at» pos k ih => intro Q E p s hn h; exact ih () hn h
  | load a part k ih => intro Q E p s hn h; obtain ⟨o, e, h⟩ := h; exact ⟨o, e, ih o hn h⟩
  | update a part f k ih => intro Q E p s hn h; exact ⟨h.1, ih () hn h.2⟩
  | alloc o k ih => intro Q E p s hn h; exact ih _ hn h
  | loadIfAlive a k ih => intro Q E p s hn h; exact ih _ hn h
  | point live k ih => intro Q E p s hn h; exact ih () hn h
  | register a k ih => intro Q E p s hn h; exact h
  | fresh k ih => intro Q E p s hn h; exact ih _ hn h
  | ask k ih => intro Q E p s hn h; exact ih _ hn h
  | choose src m k ih => intro Q E p s hn h; exact ⟨h.1, ih _ hn h.2⟩
  | os req live k ih => intro Q E p s hn h; exact ih _ hn h
  | call c hd g live k ih => intro Q E p s hn h; obtain ⟨r, s1, hr, h⟩ := h; exact ⟨r, s1, hr, ih r (Nat.le_trans hn (runs_gens hr)) h⟩
  | handled own k ih => intro Q E p s hn h; exact ih _ hn h
  | newGen c k ih => intro Q E p s hn h; exact ih _ (Nat.le_trans hn (by show s.gens.size ≤ (s.gens.push _).size; rw [Array.size_push]; exact Nat.le_succ _)) h
  | genState g k ih => intro Q E p s hn h; obtain ⟨st, e, h⟩ := h; exact ⟨st, e, ih _ hn h⟩
  | resume g r live k ih => intro Q E p s hn h; obtain ⟨res, s1, hw, h⟩ := h; exact ⟨res, s1, hw, ih _ (Nat.le_trans hn (wakes_gens hw)) h⟩
  | yield v g live k ih => intro Q E p s hn h; exact h
  | stack k ih => intro Q E p s hn h; exact ih _ hn h
  | fork c k ih => intro Q E p s hn h; exact h
  | thread k ih => intro Q E p s hn h; exact ih _ hn h
  | await a take timed live k ih => intro Q E p s hn h; exact h
theorem gensN {α : Type} {M : Model} {A : Around} {t : Sem α} {Q : α → Shared → Prop} {E : Value → Shared → Prop} {s : Shared} (h : wpAny M A t Q E s) : wpAny M A t (fun a s' => Q a s' ∧ s.gens.size ≤ s'.gens.size) E s := fun Γ p hΓ => by
  refine Sem.wp_mono M Γ _ (fun _ _ _ x => x) ?_ p s (wp_gens s.gens.size t (Nat.le_refl _) (h Γ p hΓ))
  intro _ _ _ x
  exact x.1
end Ob

set_option maxHeartbeats 4000000
namespace Ob
open PySem PySem.Spec PyProof.Rows L2
/-! ### a generator expression whose element makes generators itself; the element's own table is at Pw -/
/-- all but what is at W stays, generators may be more -/
structure Sty (W : List Addr) (s t : Shared) : Prop where
  keep : ∀ b o, b ∉ W → s.heap.get? b = some o → t.heap.get? b = some o
  bare : AllBare s.gens → AllBare t.gens
  os : t.os = s.os
  more : s.gens.size ≤ t.gens.size
theorem Sty.refl (W : List Addr) (s : Shared) : Sty W s s := ⟨fun _ _ _ e => e, id, rfl, Nat.le_refl _⟩
theorem Sty.trans {W : List Addr} {a b c : Shared} (x : Sty W a b) (y : Sty W b c) : Sty W a c := ⟨fun k o h e => y.keep k o h (x.keep k o h e), fun z => y.bare (x.bare z), y.os.trans x.os, Nat.le_trans x.more y.more⟩
theorem Sty.mono {W W' : List Addr} {a b : Shared} (x : Sty W a b) (h : ∀ k ∈ W, k ∈ W') : Sty W' a b := ⟨fun k o n e => x.keep k o (fun z => n (h k z)) e, x.bare, x.os, x.more⟩
theorem Sty.heap {W : List Addr} {a b : Shared} (x : Sty W a b) {h' : Heap} {tk : Nat} (k : ∀ c o, c ∉ W → b.heap.get? c = some o → h'.get? c = some o) : Sty W a { b with heap := h', toks := tk } := ⟨fun c o n e => k c o n (x.keep c o n e), x.bare, x.os, x.more⟩
/-- what stood ahead of the walk stands, but for the iterator at I and the table at Pw, which is a table -/
structure Rdy (s0 : Shared) (I Pw : Addr) (s : Shared) : Prop where
  old : ∀ b o, b ≠ I → b ≠ Pw → s0.heap.get? b = some o → s.heap.get? b = some o
  tb : TbP Pw s.heap
  bare : AllBare s0.gens → AllBare s.gens
  os : s.os = s0.os
theorem Rdy.heap {s0 s : Shared} {I Pw C : Addr} (x : Rdy s0 I Pw s) (hC : s0.heap.get? C = none) (hCP : C ≠ Pw) (hIP : I ≠ Pw) {h' : Heap} {tk : Nat} (k : ∀ b o, b ≠ C → b ≠ I → s.heap.get? b = some o → h'.get? b = some o) : Rdy s0 I Pw { s with heap := h', toks := tk } :=
  ⟨fun b o h1 h2 e => k b o (fun z => by rw [z, hC] at e; cases e) h1 (x.old b o h1 h2 e), x.tb.stay fun o e => k Pw o hCP.symm hIP.symm e, x.bare, x.os⟩
theorem Rdy.same {s0 s t : Shared} {I Pw : Addr} (x : Rdy s0 I Pw s) (k : ∀ b o, s.heap.get? b = some o → t.heap.get? b = some o) (hb : AllBare s.gens → AllBare t.gens) (ho : t.os = s.os) : Rdy s0 I Pw t := ⟨fun b o h1 h2 e => k b o (x.old b o h1 h2 e), x.tb.stay fun o e => k Pw o e, fun z => hb (x.bare z), ho.trans x.os⟩
theorem Rdy.turn {s0 s t : Shared} {I Pw : Addr} (x : Rdy s0 I Pw s) (y : Sty [Pw] s t) (tb : TbP Pw t.heap) : Rdy s0 I Pw t := ⟨fun b o h1 h2 e => y.keep b o (by simpa using h2) (x.old b o h1 h2 e), tb, fun z => y.bare (x.bare z), y.os.trans x.os⟩
def EltG (prog : Program) (w : World) (cenv : Env) (x : Str) (elt : Expr) (Pt : Nat → Value → Prop) (I Pw : Addr) (F : Nat → Value → Prop) (s0 : Shared) (n D U : Nat) : Prop :=
  ∀ (A' : Around) (E' : Value → Shared → Prop) (i : Nat) (v : Value) (t : Shared) (m : Str → Option Value), A'.handled = none → A'.depth ≤ D → A'.units ≤ U → i < n → Pt i v → Rdy s0 I Pw t → t.heap.Ns cenv.locals m → m x = some v →
    wpAny (model prog w) A' (eval elt cenv) (fun y t' => F i y ∧ Sty [Pw] t t' ∧ TbP Pw t'.heap) E' t
def protG (C I Pw : Addr) (s0 : Shared) (n : Nat) (F : Nat → Value → Prop) : Protocol := fun m s₀ v s kap =>
  F (n - 1 - m) v ∧ Sty [C, I, Pw] s₀ s ∧ Rdy s0 I Pw s ∧ ∀ s'' : Shared, (∀ b o, s.heap.get? b = some o → s''.heap.get? b = some o) → (AllBare s.gens → AllBare s''.gens) → s''.os = s.os → kap (.send .none) s''
def endG (C I Pw : Addr) (s0 : Shared) : Nat → Shared → Shared → Prop := fun n s₀ s₁ => n = 0 ∧ Sty [C, I, Pw] s₀ s₁ ∧ Rdy s0 I Pw s₁
section
variable {prog : Program} {w : World} {A : Around} {elt iter : Expr} {x : Str} {px : Pos} {scope : Scope} {pos : Pos} {I Pw : Addr} {fp : List Addr} {n : Nat} {Pt : Nat → Value → Prop} {St : Nat → Heap → Prop} {cenv : Env} {s0 : Shared} {F : Nat → Value → Prop}
theorem seg_turns (hh : A.handled = none) (W0 : ∀ A' : Around, A'.handled = none → Walks prog w A' I fp [I] n Pt St)
    (hx : cenv.kindOf x = some .local) (hp : (cenv.scope.kind == .class || (cenv.scope.kind == .module && cenv.locals != cenv.globals)) = false) (hco : cenv.scope.isCoroutine = false)
    (hfp : ∀ b ∈ fp, b ≠ cenv.locals ∧ b ≠ Pw) (hIC : I ≠ cenv.locals) (hIP : I ≠ Pw) (hCP : cenv.locals ≠ Pw) (hC0 : s0.heap.get? cenv.locals = none)
    (hq : EltG prog w cenv x elt Pt I Pw F s0 n (A.depth + 1) (A.units + 3)) :
    ∀ (k i : Nat) (s₀ s : Shared) (m : Str → Option Value), n - i = k → i ≤ n → St i s.heap → s.heap.Ns cenv.locals m → Sty [cenv.locals, I, Pw] s₀ s → Rdy s0 I Pw s →
      Seg (model prog w) A (fun n s₀ r s₁ => r = .ok .next ∧ endG cenv.locals I Pw s0 n s₀ s₁) (protG cenv.locals I Pw s0 n F) k s₀
        (.compLoop (.GeneratorExp elt [⟨.Name x px, iter, [], 0⟩] scope pos) 0 (.ref I) .none cenv)
        ((model prog w).den (.compLoop (.GeneratorExp elt [⟨.Name x px, iter, [], 0⟩] scope pos) 0 (.ref I) .none cenv)) [] s := by
  have hA : (A.over (.compLoop (.GeneratorExp elt [⟨.Name x px, iter, [], 0⟩] scope pos) 0 (.ref I) .none cenv) []).handled = none := hh
  have hD : (A.over (.compLoop (.GeneratorExp elt [⟨.Name x px, iter, [], 0⟩] scope pos) 0 (.ref I) .none cenv) []).depth ≤ A.depth + 1 := Nat.le_of_eq rfl
  have hU : (A.over (.compLoop (.GeneratorExp elt [⟨.Name x px, iter, [], 0⟩] scope pos) 0 (.ref I) .none cenv) []).units ≤ A.units + 3 := Nat.le_of_eq rfl
  have nC : cenv.locals ∉ [I] := by simpa using hIC.symm
  intro k
  induction k with
  | zero =>
    intro i s₀ s m hk hi hst hn hs hr
    have hin : i = n := by omega
    subst hin
    show Seg _ A _ _ 0 s₀ _ ((compTurn (.GeneratorExp elt [⟨.Name x px, iter, [], 0⟩] scope pos) 0 (.ref I) .none cenv).onRaise (leaving cenv)) [] s
    rw [compTurn_gen, Sem.onRaise_eq_wrap]
    refine seg_bind_wrap (wpAny_standAt (seg_bind_wrap ((W0 _ hA).done s _ _ hst fun h1 tk k1 => ?_)))
    refine seg_end (.ok .next) ⟨rfl, rfl, hs.heap fun c o z e => k1 c o (fun y => z (by simp [List.mem_singleton.mp y])) e, hr.heap hC0 hCP hIP fun b o _ z e => k1 b o (by simpa using z) e⟩
  | succ k ih =>
    intro i s₀ s m hk hi hst hn hs hr
    have hlt : i < n := by omega
    have hidx : n - 1 - k = i := by omega
    show Seg _ A _ _ (k + 1) s₀ _ ((compTurn (.GeneratorExp elt [⟨.Name x px, iter, [], 0⟩] scope pos) 0 (.ref I) .none cenv).onRaise (leaving cenv)) [] s
    rw [compTurn_gen, Sem.onRaise_eq_wrap]
    refine seg_bind_wrap (wpAny_standAt (seg_bind_wrap ((W0 _ hA).item i s _ _ hlt hst fun v h1 tk1 hv st1 k1 => ?_)))
    refine seg_bind_wrap (wpAny_of_eq (rfl : letOwnedTupleGo (.Name x px) (.ref I) v = pure ()) (seg_bind_wrap (wpAny_assign_Name (wpAny_storeName_local hx (hn.at' fun o e => k1 _ o nC e) (fun h2 n2 b2 => ?_) hp))))
    have up : ∀ b o, b ≠ cenv.locals → b ≠ I → s.heap.get? b = some o → h2.get? b = some o := fun b o z1 z2 e => b2.extBut b o z1 (k1 b o (by simpa using z2) e)
    have st2 : St (i + 1) h2 := (W0 A hh).frame _ _ _ st1 fun b hb o e => b2.extBut b o (hfp b hb).1 e
    have s2 : Sty [cenv.locals, I, Pw] s₀ { s with heap := h2, toks := tk1 + 1 } := hs.heap fun c o z e => up c o (fun y => z (by simp [y])) (fun y => z (by simp [y])) e
    have r2 : Rdy s0 I Pw { s with heap := h2, toks := tk1 + 1 } := hr.heap hC0 hCP hIP up
    refine seg_bind_wrap (wpAny_pure ?_)
    simp only [if_true]
    have hy : ∀ v, yieldOut cenv v = yieldValue v := fun v => by simp only [yieldOut, hco, Bool.false_eq_true, if_false]
    simp only [hy]
    rw [Sem.bind_eq_wrap', Sem.bind_eq_wrap', Sem.wrap_wrap, Sem.wrap_wrap]
    refine seg_wrap (wpAny_mono (hq _ _ i v _ _ hA hD hU hlt hv r2 n2 (by simp)) (fun y t' z => ?_) fun _ _ e => e)
    obtain ⟨hF, y1, tb⟩ := z
    have r3 := r2.turn y1 tb
    refine seg_at (seg_yield rfl rfl rfl ⟨by rw [hidx]; exact hF, s2.trans (y1.mono (fun c hc => by simp [List.mem_singleton.mp hc])), r3, fun s'' hal hb ho => ?_⟩)
    refine seg_again rfl (ih (i + 1) s'' s'' _ (by omega) hlt ((W0 A hh).frame _ _ _ st2 fun b hb o e => hal b o (y1.keep b o (by simpa using (hfp b hb).2) e)) ((n2.at' fun o e => y1.keep _ o (by simpa using hCP) e).at' fun o e => hal _ o e) (Sty.refl _ _) (r3.same hal hb ho))
theorem seg_begin (hh : A.handled = none) (W0 : ∀ A' : Around, A'.handled = none → Walks prog w A' I fp [I] n Pt St)
    (hx : cenv.kindOf x = some .local) (hp : (cenv.scope.kind == .class || (cenv.scope.kind == .module && cenv.locals != cenv.globals)) = false) (hco : cenv.scope.isCoroutine = false)
    (hfp : ∀ b ∈ fp, b ≠ cenv.locals ∧ b ≠ Pw) (hIC : I ≠ cenv.locals) (hIP : I ≠ Pw) (hCP : cenv.locals ≠ Pw) (hC0 : s0.heap.get? cenv.locals = none)
    (hq : EltG prog w cenv x elt Pt I Pw F s0 n (A.depth + 1) (A.units + 3)) (s : Shared) (m : Str → Option Value) (hst : St 0 s.heap) (hn : s.heap.Ns cenv.locals m) (hr : Rdy s0 I Pw s) :
    Seg (model prog w) A (fun n s₀ r s₁ => r = .ok .next ∧ endG cenv.locals I Pw s0 n s₀ s₁) (protG cenv.locals I Pw s0 n F) n s
      (.compStart (.GeneratorExp elt [⟨.Name x px, iter, [], 0⟩] scope pos) 0 (.ref I) .none cenv)
      ((model prog w).den (.compStart (.GeneratorExp elt [⟨.Name x px, iter, [], 0⟩] scope pos) 0 (.ref I) .none cenv)) [] s := by
  have hA : (A.over (.compStart (.GeneratorExp elt [⟨.Name x px, iter, [], 0⟩] scope pos) 0 (.ref I) .none cenv) []).handled = none := hh
  have loop := seg_turns (iter := iter) (px := px) (scope := scope) (pos := pos) hh W0 hx hp hco hfp hIC hIP hCP hC0 hq n 0 s s m (Nat.sub_zero _) (Nat.zero_le _) hst hn (Sty.refl _ _) hr
  show Seg _ A _ _ n s _ ((compStart (.GeneratorExp elt [⟨.Name x px, iter, [], 0⟩] scope pos) 0 (.ref I) .none cenv).onRaise (leaving cenv)) [] s
  unfold compStart
  rw [Sem.onRaise_eq_wrap]
  show Seg _ A _ _ n s _ ((ask >>= _).wrap _ _ _ _) [] s
  refine seg_bind_wrap (wpAny_askSetting ?_)
  split
  · exact seg_again rfl loop
  · first
      | (refine seg_bind_wrap (wpAny_rule (seg_bind_wrap (wpAny_standAt (seg_bind_wrap ((W0 _ hA).self 0 s _ _ hst ?_))))); exact seg_again rfl loop)
      | (refine seg_bind_wrap (wpAny_rule ?_)
         show Seg _ A _ _ n s _ ((standAt iter.pos >>= _).wrap _ _ _ _) [] s
         refine seg_bind_wrap (wpAny_standAt (seg_bind_wrap ((W0 _ hA).self 0 s _ _ hst ?_)))
         exact seg_again rfl loop)
end
section
variable {prog : Program} {w : World} {A : Around} {I Pw C a : Addr} {g n : Nat} {s0 : Shared} {F : Nat → Value → Prop}
theorem setGen_bare {u : Shared} {g : Nat} {x y : GenState} (h : u.gens[g]? = some y) (hx : x.bare = true) (hb : AllBare u.gens) : AllBare (u.setGen g x).gens :=
  (GenOnlyQ.of (GenOnly.setGen u g x) (setGen_self h) hx).bare hb
/-- the generator at a stands ahead of its j-th item -/
def GenV (prog : Program) (w : World) (A : Around) (a : Addr) (g : Nat) (C I Pw : Addr) (s0 : Shared) (n : Nat) (F : Nat → Value → Prop) (j : Nat) (s : Shared) : Prop :=
  s.heap.IsGen a g ∧ Rdy s0 I Pw s ∧ ∃ gs, s.gens[g]? = some gs ∧ ∀ s'' : Shared, (∀ b o, s.heap.get? b = some o → s''.heap.get? b = some o) → (AllBare s.gens → AllBare s''.gens) → s''.os = s.os →
    gs.Goes (model prog w) A.in1 (fun n s₀ r s₁ => r = .ok .next ∧ endG C I Pw s0 n s₀ s₁) (protG C I Pw s0 n F) (n - j) (.send .none) s''
theorem GenV.next (hh : A.handled = none) (hroom : A.depth < recursionLimit) (l0 : s0.heap.NoLimit) (c1 : cStatics ≠ I) (c2 : cStatics ≠ Pw) (haC : a ≠ C) (haI : a ≠ I) (haP : a ≠ Pw) {j : Nat} {s : Shared} {E : Value → Shared → Prop} (st : GenV prog w A a g C I Pw s0 n F j s) (hj : j < n) :
    wpAny (model prog w) A (pyNext (.ref a)) (fun r t => ∃ v, r = some v ∧ F j v ∧ GenV prog w A a g C I Pw s0 n F (j + 1) t) E s := by
  obtain ⟨hg, rd, gs, hgs, hgo⟩ := st
  obtain ⟨m, hm⟩ : ∃ m, n - j = m + 1 := ⟨n - j - 1, by omega⟩
  rw [hm] at hgo
  have nl : s.heap.NoLimit := let ⟨mc, hns, hnn⟩ := l0; ⟨mc, hns.at' fun o e => rd.old _ o c1 c2 e, hnn⟩
  refine wpAny_pyNext_genexpQ (P := endG C I Pw s0) hh nl hroom hg hgs (hgo _ (fun _ _ e => e) (setGen_bare hgs rfl) rfl) (fun v s1 gs' hb hv => ?_) (fun s1 hp h' hk => ?_)
  · obtain ⟨hF, sty, rd1, hkap⟩ := hv
    have lt : g < s1.gens.size := by
      have z := sty.more
      have z2 : g < s.gens.size := (Array.getElem?_eq_some_iff.mp hgs).1
      have z3 : (s.setGen g .running).gens.size = s.gens.size := by simp [Shared.setGen]
      omega
    have hy : s1.gens[g]? = some _ := Array.getElem?_eq_getElem lt
    have idx : n - 1 - (m + 1 - 1) = j := by omega
    rw [idx] at hF
    refine ⟨v, rfl, hF, let ⟨o, nm, qn, ho, r⟩ := hg; ⟨o, nm, qn, sty.keep a o (by simp [haC, haI, haP]) ho, r⟩, rd1.same (t := s1.setGen g gs') (fun _ _ e => e) (setGen_bare hy hb) rfl, gs', setGen_self hy, fun s'' hal hb' ho => ?_⟩
    have e : n - (j + 1) = m := by omega
    rw [e]
    exact hkap s'' hal (fun z => hb' (setGen_bare hy hb z)) ho
  · exact absurd hp.1 (Nat.succ_ne_zero m)
theorem GenV.last (hh : A.handled = none) (hroom : A.depth < recursionLimit) (l0 : s0.heap.NoLimit) (c1 : cStatics ≠ I) (c2 : cStatics ≠ Pw) {s : Shared} {E : Value → Shared → Prop} (st : GenV prog w A a g C I Pw s0 n F n s) :
    wpAny (model prog w) A (pyNext (.ref a)) (fun r t => r = none ∧ Rdy s0 I Pw t) E s := by
  obtain ⟨hg, rd, gs, hgs, hgo⟩ := st
  rw [Nat.sub_self] at hgo
  have nl : s.heap.NoLimit := let ⟨mc, hns, hnn⟩ := l0; ⟨mc, hns.at' fun o e => rd.old _ o c1 c2 e, hnn⟩
  refine wpAny_pyNext_genexpQ (P := endG C I Pw s0) hh nl hroom hg hgs (hgo _ (fun _ _ e => e) (setGen_bare hgs rfl) rfl) (fun v s1 gs' hb hv => ?_) (fun s1 hp h' hk => ?_)
  · obtain ⟨_, _, _, hkap⟩ := hv
    exact False.elim (hkap s1 (fun _ _ e => e) id rfl)
  · obtain ⟨_, sty, rd1⟩ := hp
    have lt : g < s1.gens.size := by
      have z := sty.more
      have z2 : g < s.gens.size := (Array.getElem?_eq_some_iff.mp hgs).1
      have z3 : (s.setGen g .running).gens.size = s.gens.size := by simp [Shared.setGen]
      omega
    have hy : s1.gens[g]? = some _ := Array.getElem?_eq_getElem lt
    exact ⟨rfl, rd1.same (fun b o e => hk b o e) (setGen_bare (x := .finished) hy rfl) rfl⟩
end
section
variable {prog : Program} {w : World} {A : Around} {R : Result → Shared → Prop} {a : Addr} {n : Nat} {St : Nat → Shared → Prop} {Fin : Shared → Prop} {q : Nat → Bool}
/-- all(..) of what gives truths, some of the state kept -/
theorem all_turns (item : ∀ i s (E : Value → Shared → Prop), i < n → St i s → wpAny (model prog w) A.in1 (pyNext (.ref a)) (fun r t => r = some (.bool (q i)) ∧ St (i + 1) t) E s)
    (done : ∀ s (E : Value → Shared → Prop), St n s → wpAny (model prog w) A.in1 (pyNext (.ref a)) (fun r t => r = none ∧ Fin t) E s) (out : ∀ i s, St i s → Fin s) :
    ∀ (k i : Nat) (s : Shared), n - i = k → i ≤ n → St i s → (∀ t, Fin t → R (.ok (.ret (.bool (((List.range n).drop i).all q)))) t) → codeAny (model prog w) A (.builtin "all.loop" ⟨[.ref a], []⟩) R s := by
  intro k
  induction k with
  | zero =>
    intro i s hk hi st hR
    have hin : i = n := by omega
    subst hin
    refine codeAny_builtin (by exact F.entry_all_loop) ?_
    rw [(Around.under_plainId F.plain_all_loop _ : A.under _ = A.in1)]
    show wpAny (model prog w) A.in1 (pyNext (.ref a) >>= _) _ _ s
    refine wpAny_bind (thn (done s _ st) fun r t ⟨e, ft⟩ => ?_)
    subst e
    have z := hR t ft
    rw [List.drop_of_length_le (by simp)] at z
    exact wpAny_bind (wpAny_rule (wpAny_pure z))
  | succ k ih =>
    intro i s hk hi st hR
    have hlt : i < n := by omega
    refine codeAny_builtin (by exact F.entry_all_loop) ?_
    rw [(Around.under_plainId F.plain_all_loop _ : A.under _ = A.in1)]
    show wpAny (model prog w) A.in1 (pyNext (.ref a) >>= _) _ _ s
    refine wpAny_bind (thn (item i s _ hlt st) fun r t ⟨e, st'⟩ => ?_)
    subst e
    rw [range_drop hlt, List.all_cons] at hR
    refine wpAny_bind (wpAny_holding (wpAny_truthy_bool (wpAny_bind (wpAny_letGo ?_))))
    cases hb : q i with
    | true =>
      rw [hb, Bool.true_and] at hR
      simp only [if_true]
      exact wpAny_pure ⟨plainId_quiet F.plain_all_loop _, ih (i + 1) t (by omega) hlt st' hR⟩
    | false =>
      rw [hb, Bool.false_and] at hR
      simp only [Bool.false_eq_true, if_false]
      exact wpAny_bind (wpAny_rule (wpAny_pure (hR t (out _ _ st'))))
theorem call_allV {x : Value} {Q : Value → Shared → Prop} {E : Value → Shared → Prop} {s : Shared}
    (h : wpAny (model prog w) A.in1 (pyIter x) (fun it t => ∃ (a : Addr) (n : Nat) (St : Nat → Shared → Prop) (Fin : Shared → Prop) (q : Nat → Bool), it = .ref a ∧
      (∀ i s (E : Value → Shared → Prop), i < n → St i s → wpAny (model prog w) A.in1 (pyNext (.ref a)) (fun r t => r = some (.bool (q i)) ∧ St (i + 1) t) E s) ∧
      (∀ s (E : Value → Shared → Prop), St n s → wpAny (model prog w) A.in1 (pyNext (.ref a)) (fun r t => r = none ∧ Fin t) E s) ∧ (∀ i s, St i s → Fin s) ∧ St 0 t ∧ ∀ t', Fin t' → Q (.bool ((List.range n).all q)) t') E s) :
    wpAny (model prog w) A (call (.builtin "all") [x]) Q E s := by
  refine call_function_tree F.kind_all F.plain_all F.entry_all (F.args_all1 _) ?_
  unfold Builtin.«all»
  refine wpAny_bind (m := oneArg "all" _) (wpAny_pure (wpAny_bind (thn h fun it t z => ?_)))
  obtain ⟨a, n, St, Fin, q, rfl, h1, h2, h3, h4, h5⟩ := z
  exact wpAny_pure ⟨plainId_quiet F.plain_all_loop _, all_turns h1 h2 h3 n 0 t rfl (Nat.zero_le _) h4 fun t' f => by simpa using h5 t' f⟩
end
end Ob

set_option maxHeartbeats 4000000
namespace Ob
open PySem PySem.Spec PyProof.Rows L2
section
variable {X : Cx} {pins : List (Addr × Obj)} {σ : L2.St} {H : Hp} {s : Shared}
/-- some tables have grown, generators were made and have ended -/
theorem Inv.grownL {s' : Shared} {ch : List Addr} (I : Inv X pins σ H s) (hqt : X.qt = false) (hP : ∀ p ∈ ch, H p = some (.ext (TbP p)) ∧ TbP p s'.heap) (k : ∀ b o, b ∉ ch → s.heap.get? b = some o → s'.heap.get? b = some o) (hg : AllBare s.gens → AllBare s'.gens) (ho : s'.os = s.os) : Inv X pins σ H s' := by
  have hok : HOk X.prog X.w H s'.heap := fun b u q => by
    by_cases hb : b ∈ ch
    · obtain ⟨h1, h2⟩ := hP b hb
      rw [h1] at q
      cases q
      exact ⟨h2, let ⟨_, a, _⟩ := h2; ⟨_, a⟩, fun _ _ x k => x.stay k⟩
    · refine (I.hok b u q).stay (fun c v hc r => k c v ?_ r) (fun c r => r) fun c xs r => r
      rcases hc with rfl | hc
      · exact hb
      · intro z
        rw [(hP c z).1] at hc
        cases hc
  have nin : ∀ b, H b = none → b ∉ ch := fun b n z => by
    rw [(hP b z).1] at n
    cases n
  have un : Un (frs X.stack) [] H H s.heap s'.heap := ⟨fun b o e n _ _ => k b o (nin b n) e, fun b o e n _ _ => ⟨o.slots, k b o (nin b n) e⟩, fun b o _ n _ => n, fun b o e _ => by
    by_cases hb : b ∈ ch
    · obtain ⟨_, ps, a, _⟩ := hP b hb
      exact ⟨_, a⟩
    · exact ⟨o, k b o hb e⟩, fun _ _ e => e, fun _ _ _ e => e, fun b ps e => ⟨#[], by simpa using e⟩⟩
  have J := I.call (g' := s'.gens) (t' := s'.toks) (d' := s'.drawn) (ch := []) un hok ⟨fun z => hg (I.bare.1 z), fun z => by rw [hqt] at z; cases z⟩ (fun _ z => nomatch z)
  have e : ({ s with heap := s'.heap, gens := s'.gens, drawn := s'.drawn, toks := s'.toks } : Shared) = s' := by
    cases s'
    cases s
    simp only at ho
    subst ho
    rfl
  rw [e] at J
  exact J
end
/-- all(elt for x in range(n)), elt makes generators, its table at Pw; R: what elt answers of a place -/
def tAllR (P Pw : Addr) (R : L2.St → Hp → Nat → Bool → Prop) (ta : TA) : TE := fun σ H Q => ta σ H fun vs H1 => ∃ (j : Nat) (q : Nat → Bool), vs = [.int (j : Int)] ∧ j < 1000000 ∧ P ≠ Pw ∧ H1 P = some (.ext (TbP P)) ∧ H1 Pw = some (.ext (TbP Pw)) ∧
  (∀ i < j, R σ H1 i (q i)) ∧ Q (.bl ((List.range j).all q)) H1
/-- an element of such a generator expression, from a state in which all but the two tables stands -/
def EltW (X : Cx) (P Pw : Addr) (scope : Scope) (x : Str) (elt : Expr) (R : L2.St → Hp → Nat → Bool → Prop) : Prop :=
  ∀ (pins : List (Addr × Obj)) (σ : L2.St) (H : Hp) (s t : Shared) (A' : Around) (E' : Value → Shared → Prop) (C : Addr) (code : Value) (m2 : Str → Option Value) (i : Nat) (tk : Tok) (b : Bool), Inv X pins σ H s → P ≠ Pw → H P = some (.ext (TbP P)) → H Pw = some (.ext (TbP Pw)) →
    A'.handled = none → A'.depth ≤ X.A.depth + 1 → A'.units ≤ X.A.units + 8 → (∀ b o, b ≠ P → b ≠ Pw → s.heap.get? b = some o → t.heap.get? b = some o) → TbP Pw t.heap → X.base.objs.size ≤ t.heap.objs.size →
    t.heap.Ns C m2 → m2 x = some (.int (i : Int) tk) → R σ H i b →
    wpAny (model X.prog X.w) A' (eval elt (genEnv scope (cloFrom X.env.cells scope.names []) C code builtinsNs X.env)) (fun y t' => y = .bool b ∧ Sty [Pw] t t' ∧ TbP Pw t'.heap) E' t
section
variable {X : Cx} {P Pw c : Addr} {x : Str} {elt e : Expr} {ta : TA} {p1 p2 p5 p6 p7 p8 : Pos} {scope : Scope} {R : L2.St → Hp → Nat → Bool → Prop}
theorem pe_allR (hcalm : X.calm = true) (B : GenB X c P) (hE : EltW X P Pw scope x elt R) (hr : Room 1 X.A) (hg : Gl X "all") (hm : X.mg "all" = none) (hgr : Gl X "range") (hmr : X.mg "range" = none) (ha : PA X [e] ta)
    (hco : scope.isCoroutine = false) (hfr : ∀ y ∈ scope.names, y.2 = .free → X.env.scope.names.lookup y.1 = some .cell ∨ X.env.scope.names.lookup y.1 = some .free) (hcell : ∀ y ∈ scope.names, y.2 ≠ .cell) (h0 : scope.names.lookup (".0" : Str) = some NameKind.local) (hx : scope.names.lookup x = some .local)
    (hkind : scope.kind = .function) (hs : ∀ v, genFold (.Call (.Name "range" p2) [e] [] p8) X.env v = pure v) (hst : starEach [e] X.env = [(false, eval e X.env)] := by rfl) (hqt : X.qt = false := by rfl) :
    PE X (.Call (.Name "all" p1) [.GeneratorExp elt [⟨.Name x p5, .Call (.Name "range" p2) [e] [] p8, [], 0⟩] scope p6] [] p7) (tAllR P Pw R ta) := by
  intro pins s σ H Q I h
  have hh : X.A.handled = none := I.ok.hd hcalm
  have hfree : ∀ y ∈ scope.names, y.2 = .free → ∃ c, X.env.cells.lookup y.1 = some c := fun y hy e => by
    rcases hfr y hy e with k | k
    · exact I.ok.has _ (.inl k)
    · exact I.ok.has _ (.inr k)
  refine wpAny_Call_Name_kw (ld_blt I hg hm boot_all' ?_ (by decide) (by decide))
  refine PyProof.Rows.callWith_builtin1 (Calls.spliced_cons ?_) rfl rfl
  refine wpAny_GeneratorExp_make hco (closure_ok hfree) hcell h0 hkind hr.depth ?_ hs
  refine Call_ (ld_blt I hgr hmr boot_range (PyProof.Rows.callWith_type1 (thn (ha p8 pins s σ H _ I h) fun us s1 ⟨vs, H1, I1, r1, q1⟩ => ?_) hst rfl))
  obtain ⟨j, q, ex, hj, hne, hP, hPw, hT, hQ⟩ := q1
  subst ex
  cases r1 with
  | cons r rr =>
    cases rr
    obtain ⟨t0, rfl⟩ := r
    refine call_range_1 (wpAny_pyIter_range (IsRange.new ..) (small_one (by omega) (by omega) (by omega) (by omega)) ?_)
    have tb1 := Inv.tableAt I1 hP
    have tw1 := Inv.tableAt I1 hPw
    have hPlt : P < s1.heap.objs.size := let ⟨_, e, _⟩ := tb1; Heap.lt_size e
    have hWlt : Pw < s1.heap.objs.size := let ⟨_, e, _⟩ := tw1; Heap.lt_size e
    have I2 : Inv X pins σ H1 { s1 with heap := s1.heap.push { cls := .type "range", data := .fields #[.int 0 s1.toks, .int (j : Int) t0, .int 1 (s1.toks + 1)] }, toks := s1.toks + 1 + 1 } := I1.kept fun b o e => Heap.get?_push_of_some _ e
    generalize hs2 : ({ s1 with heap := s1.heap.push { cls := .type "range", data := .fields #[.int 0 s1.toks, .int (j : Int) t0, .int 1 (s1.toks + 1)] }, toks := s1.toks + 1 + 1 } : Shared) = s2 at I2 ⊢
    have hsz2 : s1.heap.objs.size < s2.heap.objs.size := by rw [← hs2]; show s1.heap.objs.size < (s1.heap.push _).objs.size; rw [Heap.size_push]; exact Nat.lt_succ_self _
    have hg2 : s2.gens = s1.gens := by rw [← hs2]
    have tb2 := Inv.tableAt I2 hP
    have tw2 := Inv.tableAt I2 hPw
    have hIP : s2.heap.objs.size ≠ P := Nat.ne_of_gt (Nat.lt_trans hPlt hsz2)
    have hIW : s2.heap.objs.size ≠ Pw := Nat.ne_of_gt (Nat.lt_trans hWlt hsz2)
    have hrs : Builtin.Range.rangeSize 0 (j : Int) 1 = (j : Int) := by rw [rangeSize_one]; split <;> omega
    refine ⟨(I2.nolimit).push _, ?_⟩
    refine gen_code B.ec ((B.code.keeps I2.bk).keeps fun b o e => Heap.get?_push_of_some _ e) (tb2.stay fun o e => Heap.get?_push_of_some _ e) fun code h3 tk hx3 hsz3 tb3 => ?_
    obtain ⟨bm, ob, M⟩ := B.bm
    have k3 : ∀ b o, b ≠ P → s2.heap.get? b = some o → h3.get? b = some o := fun b o hb e => hx3 b o hb (Heap.get?_push_of_some _ e)
    have k31 : ∀ b o, b ≠ P → s1.heap.get? b = some o → h3.get? b = some o := fun b o hb e => k3 b o hb (by rw [← hs2]; exact Heap.get?_push_of_some _ e)
    have nbP : ∀ b o, X.base.get? b = some o → b ≠ P := fun b o e z => by
      have z2 := (I2.bs b o e).2
      rw [z, hP] at z2
      cases z2
    have nbW : ∀ b o, X.base.get? b = some o → b ≠ Pw := fun b o e z => by
      have z2 := (I2.bs b o e).2
      rw [z, hPw] at z2
      cases z2
    have kb3 : ∀ b o, X.base.get? b = some o → h3.get? b = some o := fun b o e => k3 b o (nbP b o e) (I2.bk b o e)
    have M3 := M.keeps kb3
    rw [I.ok.glob]
    refine wpAny_builtinsFor M3.ns M3.name M3.ne M3.obj M3.cls M3.dict M3.data ?_
    intro h4 n4 b4
    have lim3 : h3.NoLimit := I.ok.mod.nolimit.keeps kb3
    have csB : ∃ o, X.base.get? cStatics = some o := by
      obtain ⟨_, ⟨o, _, _, e, _⟩, _⟩ := I.ok.mod.nolimit
      exact ⟨o, e⟩
    obtain ⟨oc, ecs⟩ := csB
    have hI3 : s2.heap.objs.size < h3.objs.size := Nat.lt_of_lt_of_le (by rw [Heap.size_push]; exact Nat.lt_succ_self _) hsz3
    have hsz4 : h4.objs.size = h3.objs.size + 1 := by rw [b4.1, Heap.size_push]
    have k4 : ∀ b o, h3.get? b = some o → h4.get? b = some o := fun b o e => b4.extBut b o (Nat.ne_of_lt (Heap.lt_size e)) (Heap.get?_push_of_some _ e)
    have itr : IsRangeIter h3 s2.heap.objs.size (0 + ((0 : Nat) : Int) * 1) (((j : Nat) : Int) - ((0 : Nat) : Int)) 1 := by
      have z : h3.get? s2.heap.objs.size = some { cls := .type "range_iterator", data := .fields #[rawInt 0, rawInt (Builtin.Range.rangeSize 0 (j : Int) 1), rawInt 1] } := hx3 _ _ hIP (Heap.get?_push_size _ rfl)
      rw [hrs] at z
      exact z
    refine Calls.spliced_nil ?_
    refine call_allV (wpAny_pyIter_gen ⟨_, _, _, Heap.get?_push_size _ rfl, rfl, rfl, rfl⟩ ⟨h4.objs.size, j, GenV X.prog X.w X.A.in1 h4.objs.size s2.gens.size h3.objs.size s2.heap.objs.size Pw { s2 with heap := h3, toks := tk } j (fun i y => y = .bool (q i)), Rdy { s2 with heap := h3, toks := tk } s2.heap.objs.size Pw, q, rfl, ?it, ?la, ?ou, ?ini, ?fin⟩)
    case it =>
      intro i s E hi st
      refine thn (GenV.next (A := X.A.in1) (s0 := { s2 with heap := h3, toks := tk }) hh hr.depth lim3 ?_ ?_ ?_ ?_ ?_ st hi) fun r t ⟨v, e1, e2, st'⟩ => ⟨by rw [e1, e2], st'⟩
      · exact fun z => absurd (Heap.lt_size (I2.bk _ _ ecs)) (by rw [z]; exact Nat.lt_irrefl _)
      · exact nbW _ _ ecs
      · rw [hsz4]; exact Nat.succ_ne_self _
      · exact Nat.ne_of_gt (Nat.lt_trans hI3 (by rw [hsz4]; exact Nat.lt_succ_self _))
      · exact Nat.ne_of_gt (Nat.lt_trans (Nat.lt_trans (Nat.lt_trans hWlt hsz2) hI3) (by rw [hsz4]; exact Nat.lt_succ_self _))
    case la =>
      intro s E st
      refine GenV.last (A := X.A.in1) (s0 := { s2 with heap := h3, toks := tk }) hh hr.depth lim3 ?_ ?_ st
      · exact fun z => absurd (Heap.lt_size (I2.bk _ _ ecs)) (by rw [z]; exact Nat.lt_irrefl _)
      · exact nbW _ _ ecs
    case ou => exact fun i s st => st.2.1
    case ini =>
      have hC0 : h3.get? h3.objs.size = none := by
        cases z : h3.get? h3.objs.size with
        | none => rfl
        | some o => exact absurd (Heap.lt_size z) (Nat.lt_irrefl _)
      refine ⟨⟨_, _, _, Heap.get?_push_size _ rfl, rfl, rfl, rfl⟩, ⟨fun b o _ _ e => Heap.get?_push_of_some _ (k4 b o e), ?tw, fun z => z.push rfl, rfl⟩, _, Array.getElem?_push_size .., fun s'' hal hb ho => ⟨rfl, ?go⟩⟩
      case tw => exact (tw2.stay fun o e => k3 Pw o (Ne.symm hne) e).stay fun o e => Heap.get?_push_of_some _ (k4 Pw o e)
      case go =>
        have rd : Rdy { s2 with heap := h3, toks := tk } s2.heap.objs.size Pw s'' := ⟨fun b o _ _ e => hal b o (Heap.get?_push_of_some _ (k4 b o e)), ((tw2.stay fun o e => k3 Pw o (Ne.symm hne) e).stay fun o e => Heap.get?_push_of_some _ (k4 Pw o e)).stay fun o e => hal Pw o e, fun z => hb (z.push rfl), ho⟩
        refine seg_begin (A := X.A.in1.in1) (cenv := genEnv scope (cloFrom X.env.cells scope.names []) h3.objs.size code builtinsNs X.env) (s0 := { s2 with heap := h3, toks := tk }) (m := fun y => if y = ".0" then some (.ref s2.heap.objs.size) else none) (n := j) (St := fun i h => IsRangeIter h s2.heap.objs.size (0 + (i : Nat) * 1) ((j : Int) - (i : Nat)) 1)
          hh (fun A' hA => Walks.range hA _ 0 1 j) hx (by simp [genEnv, hkind]) hco (fun b hb => ?_) (Nat.ne_of_lt hI3) hIW (Nat.ne_of_gt (Nat.lt_trans (Nat.lt_trans hWlt hsz2) hI3)) hC0 ?_ s'' ?_ ?_ rd
        · have z : b = s2.heap.objs.size := by simpa using hb
          rw [z]
          exact ⟨Nat.ne_of_lt hI3, hIW⟩
        · intro A' E' i v t m hA hD hU hi hv rt hn hm
          obtain ⟨tk', rfl⟩ := hv
          have kt : ∀ b o, b ≠ P → b ≠ Pw → s1.heap.get? b = some o → t.heap.get? b = some o := fun b o z1 z2 e => rt.old b o (Nat.ne_of_lt (Nat.lt_trans (Heap.lt_size e) hsz2)) z2 (k31 b o z1 e)
          have e0 : (0 : Int) + (i : Int) * 1 = (i : Int) := by omega
          rw [e0] at hm
          have szt : X.base.objs.size ≤ t.heap.objs.size := by
            have z1 : h3.objs.size < t.heap.objs.size := hn.lt
            have z2 := Nat.le_trans I1.ok.bsz I1.sz
            exact Nat.le_of_lt (Nat.lt_of_le_of_lt z2 (Nat.lt_trans (Nat.lt_trans hsz2 hI3) z1))
          exact hE pins σ H1 s1 t A' E' _ code m i tk' (q i) I1 hne hP hPw hA hD (Nat.le_trans hU (by show X.A.units + 2 + 3 ≤ X.A.units + 8; omega)) kt rt.tb szt hn hm (hT i hi)
        · exact hal _ _ (Heap.get?_push_of_some _ (k4 _ _ itr))
        · exact (n4.push _).at' fun o e => hal _ o e
    case fin =>
      intro t' rd
      have fromS : ∀ b o, b ≠ P → b ≠ Pw → s1.heap.get? b = some o → t'.heap.get? b = some o := fun b o z1 z2 e => rd.old b o (Nat.ne_of_lt (Nat.lt_trans (Heap.lt_size e) hsz2)) z2 (k31 b o z1 e)
      have tbP : TbP P t'.heap := tb3.stay fun o e => rd.old P o (Ne.symm hIP) hne e
      have J : Inv X pins σ H1 t' := Inv.grownL (ch := [P, Pw]) I1 hqt (fun p hp => by
          rcases List.mem_cons.mp hp with z | z
          · rw [z]; exact ⟨hP, tbP⟩
          · rw [List.mem_singleton.mp z]; exact ⟨hPw, rd.tb⟩) (fun b o z e => fromS b o (fun y => z (by simp [y])) (fun y => z (by simp [y])) e) (fun z => rd.bare (by show AllBare s2.gens; rw [hg2]; exact z)) (rd.os.trans (by show s2.os = s1.os; rw [← hs2]))
      exact ⟨.bl ((List.range j).all q), H1, J, rfl, hQ⟩
end
end Ob

set_option maxHeartbeats 4000000
namespace Ob
open PySem PySem.Spec PyProof.Rows L2
theorem mulOk {i j : Int} (hc : CMulB i j) : IntMulOk i j := by
  obtain ⟨a, b, h1, h2, h3⟩ := hc
  unfold IntMulOk
  have z1 := h1.bits
  have z2 := h2.bits
  intro z
  rw [Bool.and_eq_true] at z
  have z3 := z.2
  unfold Builtin.Int.intTooBig at z3
  have z4 := of_decide_eq_true z3
  have z5 : (bitsLine : Int) = 134217728 := by decide
  omega
section
variable {X : Cx} {P Pw : Addr} {x y : Str} {scope : Scope} {q1 q2 q3 q4 q5 q6 q7 q8 q9 : Pos}
/-- x * y, of ints -/
def RMul : L2.St → Hp → V → V → Int → Prop := fun _ _ z z' b => ∃ i j : Int, z = .int i ∧ z' = .int j ∧ CMulB i j ∧ b = i * j
theorem elt_mulXY (hx : scope.names.lookup x = some .local) (hy : scope.names.lookup y = some .local) (hkind : scope.kind = .function) (hd : (x == ("__debug__" : Str)) = false := by decide) (hd2 : (y == ("__debug__" : Str)) = false := by decide) :
    EltT X P scope x y (.BinOp (.Name x q1) .Mult (.Name y q2) q3) RMul := by
  intro pins σ H s t A' E' C code m2 z z' v v' b I hP hA hD hU kt kbt szt hn hm hm3 rz rz' hR
  obtain ⟨i, j, rfl, rfl, hc, rfl⟩ := hR
  obtain ⟨t1, rfl⟩ := (show ∃ tk', v = .int i tk' from rz)
  obtain ⟨t2, rfl⟩ := (show ∃ tk', v' = .int j tk' from rz')
  exact wpAny_BinOp (load_here hkind hx hn hm (load_here hkind hy hn hm3 (mul_int ⟨⟨_, rfl⟩, t.heap, _, rfl, fun _ _ e => e⟩ (mulOk hc)) hd2) hd)
/-- y * x, of ints -/
def RMulR : L2.St → Hp → V → V → Int → Prop := fun _ _ z z' b => ∃ i j : Int, z = .int i ∧ z' = .int j ∧ CMulB j i ∧ b = j * i
theorem elt_mulYX (hx : scope.names.lookup x = some .local) (hy : scope.names.lookup y = some .local) (hkind : scope.kind = .function) (hd : (x == ("__debug__" : Str)) = false := by decide) (hd2 : (y == ("__debug__" : Str)) = false := by decide) :
    EltT X P scope x y (.BinOp (.Name y q1) .Mult (.Name x q2) q3) RMulR := by
  intro pins σ H s t A' E' C code m2 z z' v v' b I hP hA hD hU kt kbt szt hn hm hm3 rz rz' hR
  obtain ⟨i, j, rfl, rfl, hc, rfl⟩ := hR
  obtain ⟨t1, rfl⟩ := (show ∃ tk', v = .int i tk' from rz)
  obtain ⟨t2, rfl⟩ := (show ∃ tk', v' = .int j tk' from rz')
  exact wpAny_BinOp (load_here hkind hy hn hm3 (load_here hkind hx hn hm (mul_int ⟨⟨_, rfl⟩, t.heap, _, rfl, fun _ _ e => e⟩ (mulOk hc)) hd) hd2)
/-- y * (p - x), of ints, p a name of the def -/
def RAhead (ip : Nat) : L2.St → Hp → V → V → Int → Prop := fun σ _ z z' b => ∃ i j p : Int, z = .int i ∧ z' = .int j ∧ σ[ip]? = some (some (.int p)) ∧ CMulB j (p - i) ∧ b = j * (p - i)
theorem elt_ahead {p : Str} {ip : Nat} (hx : scope.names.lookup x = some .local) (hy : scope.names.lookup y = some .local) (hp : scope.names.lookup p = some .free) (hcl : ∀ cells : List (Str × Addr), (cloFrom cells scope.names []).lookup p = some ((cells.lookup p).getD 0)) (hN : X.N[ip]? = some p) (hpc : X.env.scope.names.lookup p = some .cell) (hkind : scope.kind = .function)
    (hd : (x == ("__debug__" : Str)) = false := by decide) (hd2 : (y == ("__debug__" : Str)) = false := by decide) (hd3 : (p == ("__debug__" : Str)) = false := by decide) (hd4 : (p == ("__classdict__" : Str)) = false := by decide) :
    EltT X P scope x y (.BinOp (.Name y q1) .Mult (.BinOp (.Name p q2) .Sub (.Name x q3) q4) q5) (RAhead ip) := by
  intro pins σ H s t A' E' C code m2 z z' v v' b I hP hA hD hU kt kbt szt hn hm hm3 rz rz' hR
  obtain ⟨i, j, n, rfl, rfl, hσ, hc, rfl⟩ := hR
  obtain ⟨t1, rfl⟩ := (show ∃ tk', v = .int i tk' from rz)
  obtain ⟨t2, rfl⟩ := (show ∃ tk', v' = .int j tk' from rz')
  have tb1 := Inv.tableAt I hP
  obtain ⟨m, hnm, hlk⟩ := I.loc
  obtain ⟨u, ru, lk⟩ := hlk ip p (.int n) hN hσ (.inr (.inl hpc))
  obtain ⟨t3, rfl⟩ := (show ∃ tk', u = .int n tk' from ru)
  obtain ⟨cc, hcc, hic⟩ : ∃ cc, X.env.cells.lookup p = some cc ∧ s.heap.IsCell cc (some (.int n t3)) := by
    rcases lk with ⟨e, _⟩ | ⟨_, cc, h1, h2⟩
    · have e' : X.env.scope.names.lookup p = some .local := e
      rw [hpc] at e'
      cases e'
    · exact ⟨cc, h1, h2⟩
  have hcP : cc ≠ P := fun z => by
    obtain ⟨o, ho, hdat⟩ := hic
    obtain ⟨_, e, _⟩ := tb1
    rw [z, e] at ho
    cases ho
    exact nomatch hdat
  have hict : t.heap.IsCell cc (some (.int n t3)) := let ⟨o, ho, hdat⟩ := hic; ⟨o, kt cc o hcP ho, hdat⟩
  refine wpAny_BinOp (load_here hkind hy hn hm3 (wpAny_BinOp (wpAny_Name (wpAny_loadName_free hkind hp ((hcl _).trans (by rw [hcc]; rfl)) hict (load_here hkind hx hn hm (sub_int ?_) hd) hd4) hd3)) hd2)
  exact mul_int ⟨⟨_, rfl⟩, t.heap, _, rfl, fun _ _ e => e⟩ (mulOk hc)
/-- a row frozen and a table, nothing else -/
def twoH (a : Addr) (ob : Obj) (xs : List V) (Pw : Addr) : Hp := upd (one a (.frz ob (.lst xs))) Pw (.ext (TbP Pw))
/-- g(y, x) <= 0, y a row of the def -/
def RLe0 (sp : Sp) (iy : Nat) (Pw : Addr) : L2.St → Hp → Nat → Bool → Prop := fun σ H i b => ∃ (a : Addr) (xs : List V) (r : Int), σ[iy]? = some (some (.ref a)) ∧ Rd H a (.lst xs) ∧ b = decide (r ≤ 0) ∧ ∀ ob, sp [.ref a, .int (i : Int)] (twoH a ob xs Pw) (fun v H' => v = .int r ∧ H' Pw = some (.ext (TbP Pw))) E0
theorem elt_le0 {k iy : Nat} {f : Addr} {fd : FuncData} {g w1 w2 : Str} {sp : Sp} {j : Nat} (F : FnOk X.prog X.w X.K X.mg X.base CX0 k f fd [w1, w2] sp) (hbi : ∀ (s : Shared) (u u' : Value), BindsTo s fd ⟨[u, u'], []⟩ [(w1, u), (w2, u')]) (kp : PySem.W.keepIn X.K (.ref f) = true) (mf : X.mg g = some (.ref f)) (hr : Room (k + 1) X.A) (hk7 : k < 7)
    (hx : scope.names.lookup x = some .local) (hw : scope.names.lookup g = some .globalImplicit) (hy : scope.names.lookup y = some .free) (hcl : ∀ cells : List (Str × Addr), (cloFrom cells scope.names []).lookup y = some ((cells.lookup y).getD 0))
    (hN : X.N[iy]? = some y) (hyc : X.env.scope.names.lookup y = some .cell) (hkind : scope.kind = .function) (hd : (x == ("__debug__" : Str)) = false := by decide) (hd2 : (g == ("__debug__" : Str)) = false := by decide) (hd3 : (y == ("__debug__" : Str)) = false := by decide) (hd4 : (y == ("__classdict__" : Str)) = false := by decide) :
    EltW X P Pw scope x (.Compare (.Call (.Name g q1) [.Name y q2, .Name x q3] [] q4) [.LtE] [.Constant (.int 0) j q5] q6) (RLe0 sp iy Pw) := by
  intro pins σ H s t A' E' C code m2 i tk b I hne hP hPw hA hD hU kt tbw szt hn hm hR
  obtain ⟨a, xs, r, hσ, hS, rfl, hsp⟩ := hR
  have kbt : ∀ b o, X.base.get? b = some o → t.heap.get? b = some o := fun b o e => by
    obtain ⟨z1, z2⟩ := I.bs b o e
    exact kt b o (fun z => by rw [z, hP] at z2; cases z2) (fun z => by rw [z, hPw] at z2; cases z2) z1
  have KXt : X.K.In t.heap := I.ok.mod.kin.keeps kbt
  have Gt : GlobAt X.mg t.heap := ⟨I.ok.mod.glob.keeps kbt, let ⟨mb, a, b⟩ := I.ok.mod.blt; ⟨mb, a.keeps kbt, b⟩⟩
  have room : Room k A' := ⟨hA, by have := hr.dp; omega, by have := hr.un; omega, fun z => absurd z (by omega)⟩
  have tb1 := Inv.tableAt I hP
  have tw1 := Inv.tableAt I hPw
  obtain ⟨z, its, n, rv, pl⟩ := hS.ok I.hok
  have haP : a ≠ P := fun z => by
    obtain ⟨_, e, _⟩ := tb1
    rw [z, e] at pl
    cases pl
  have haW : a ≠ Pw := fun z => by
    obtain ⟨_, e, _⟩ := tw1
    rw [z, e] at pl
    cases pl
  have plt := kt a _ haP haW pl
  obtain ⟨m, hnm, hlk⟩ := I.loc
  obtain ⟨u, ru, lk⟩ := hlk iy y (.ref a) hN hσ (.inr (.inl hyc))
  cases (show u = Value.ref a from ru)
  obtain ⟨cc, hcc, hic⟩ : ∃ cc, X.env.cells.lookup y = some cc ∧ s.heap.IsCell cc (some (.ref a)) := by
    rcases lk with ⟨e, _⟩ | ⟨_, cc, h1, h2⟩
    · have e' : X.env.scope.names.lookup y = some .local := e
      rw [hyc] at e'
      cases e'
    · exact ⟨cc, h1, h2⟩
  have ncell : ∀ p, TbP p s.heap → cc ≠ p := fun p tb z => by
    obtain ⟨o, ho, hdat⟩ := hic
    obtain ⟨_, e, _⟩ := tb
    rw [z, e] at ho
    cases ho
    exact nomatch hdat
  have hict : t.heap.IsCell cc (some (.ref a)) := let ⟨o, ho, hdat⟩ := hic; ⟨o, kt cc o (ncell P tb1) (ncell Pw tw1) ho, hdat⟩
  have e0 : ∀ H0 : Hp, (∀ c o, H0 c = some o → H c ≠ none) → HOk X.prog X.w H0 t.heap → Env0 X.prog X.w X.K X.mg X.base A' [] t H0 := fun H0 h1 hok => ⟨trivial, I.ok.mod, fun c o e => ⟨kbt c o e, by
    cases e0' : H0 c with
    | none => rfl
    | some u => exact absurd (I.bs c o e).2 (h1 c u e0')⟩, szt, trivial, fun b hb => absurd (show b ∈ ([] : List Addr) from hb) (by simp), hok, trivial⟩
  have hHa : H a ≠ none := by
    rcases hS with h | ⟨_, h⟩ <;> (rw [h]; exact fun z => nomatch z)
  have hok0 : HOk X.prog X.w (twoH a { cls := .type "list", data := .seq its.toArray n } xs Pw) t.heap := fun c o e => by
    by_cases h1 : c = Pw
    · subst h1
      rw [show twoH a _ xs c c = some (.ext (TbP c)) from upd_same] at e
      cases e
      exact ⟨tbw, let ⟨_, a, _⟩ := tbw; ⟨_, a⟩, fun _ _ x k => x.stay k⟩
    · unfold twoH at e
      rw [upd_ne h1] at e
      by_cases h2 : c = a
      · subst h2
        rw [show one c _ c = some _ from upd_same] at e
        cases e
        exact ⟨plt, z, its, n, rv, plt⟩
      · unfold one at e
        rw [upd_ne h2] at e
        cases e
  have run := F.run A' [] t _ ⟨[.ref a, .int (i : Int) tk], []⟩ [.ref a, .int (i : Int) tk] [.ref a, .int (i : Int)] _ E0 room (e0 _ (fun c o e => by
    by_cases h1 : c = Pw
    · rw [h1, hPw]; exact fun z => nomatch z
    · unfold twoH at e
      rw [upd_ne h1] at e
      by_cases h2 : c = a
      · rw [h2]; exact hHa
      · unfold one at e
        rw [upd_ne h2] at e
        cases e) hok0) (hbi t _ _) (.cons rfl (.cons ⟨_, rfl⟩ .nil)) (hsp _)
  refine thn (gensN (Q := fun y t' => y = .bool (decide (r ≤ 0)) ∧ (∀ b o, b ∉ [Pw] → t.heap.get? b = some o → t'.heap.get? b = some o) ∧ (AllBare t.gens → AllBare t'.gens) ∧ t'.os = t.os ∧ TbP Pw t'.heap) ?_) fun y t' ⟨⟨h1, h2, h3, h4, h5⟩, h6⟩ => ⟨h1, ⟨h2, h3, h4, h6⟩, h5⟩
  refine wpAny_Compare1 (wpAny_Call_Name_kw (Calls.Name_function_global hkind hw (Calls.loadGlobal_global (mg := X.mg) ?_ mf ?_) hd2)) (nobehind _ (by decide) (by decide))
  · show t.heap.Ns X.env.globals X.mg
    rw [I.ok.glob]
    exact Gt.g
  refine PySem.W.callWith_K (h₀ := X.base) I.ok.mod.kin kp (Calls.spliced_cons (wpAny_Name (wpAny_loadName_free hkind hy ((hcl _).trans (by rw [hcc]; rfl)) hict (Calls.spliced_cons (load_here hkind hx hn hm (Calls.spliced_nil ⟨KXt, ?_⟩) hd)) hd4) hd3)) rfl rfl
  refine wpAny_call (codeAny_mono run fun rr s' hh => ?_)
  cases rr with
  | error e => exact False.elim hh
  | ok fl =>
    cases fl with
    | next => exact False.elim hh
    | brk => exact False.elim hh
    | cont => exact False.elim hh
    | ret u =>
      obtain ⟨v, H', os, bare, un, hok', r', q⟩ := hh
      obtain ⟨q1, q2⟩ := q
      subst q1
      obtain ⟨t3, rfl⟩ := (show ∃ t3, u = Value.int r t3 from r')
      have tb' : TbP Pw s'.heap := (show ObjOk X.prog X.w H' s'.heap Pw (.ext (TbP Pw)) from hok' Pw _ q2).1
      refine wpAny_Constant_int (le_int ⟨rfl, fun b o hb e => ?_, bare, os, ?_⟩)
      · have hb' : b ≠ Pw := by simpa using hb
        by_cases h2 : b = a
        · subst h2
          have e1 : twoH b { cls := .type "list", data := .seq its.toArray n } xs Pw b = some (.frz { cls := .type "list", data := .seq its.toArray n } (.lst xs)) := by
            unfold twoH
            rw [upd_ne hb']
            exact upd_same
          rw [plt] at e
          cases e
          exact (show ObjOk X.prog X.w H' s'.heap b (.frz _ _) from hok' b _ (un.frzs b _ _ e1)).1
        · exact un.keep b o e (by unfold twoH; rw [upd_ne hb']; unfold one; rw [upd_ne h2]) (by simp [frs]) (by simp)
      · exact tb'
end
end Ob

set_option maxHeartbeats 4000000
namespace Ob
open PySem PySem.Spec PyProof.Rows L2
/-- each number times how far its place is ahead of p -/
def aheadS (xs : List Int) (p : Int) : Int := (xs.zipIdx.map fun e => e.1 * (p - ((e.2 : Nat) : Int))).sum
/-- each number times its place -/
def wS (xs : List Int) : Int := (xs.zipIdx.map fun e => e.1 * ((e.2 : Nat) : Int)).sum
def showsB (xs : List Int) : Bool := decide (xs.sum = 0) && decide (wS xs = 0) && (List.range xs.length).all fun p => decide (aheadS (xs.take p) p ≤ 0)
/-- a fraction from -1 to 1 -/
structure Pq (t : Int × Int) : Prop where
  fq : Fq t
  one : t.1.natAbs ≤ t.2.natAbs
def spIsPr : Sp := fun vs H Q _ => ∃ (r : Addr) (ob : Obj) (t b : Int), vs = [.ref r] ∧ H r = some (.frz ob (.tup [.int t, .int b])) ∧ 0 < b ∧ Int.gcd t b = 1 ∧ t.natAbs ≤ b.natAbs ∧ Q (.bl true) H
def spArePr (P : Addr) : Sp := fun vs H Q _ => Tb P H ∧ ∃ (a b : Addr) (rs : List Addr) (ts : List (Int × Int)) (ns : List Int), vs = [.ref a, .ref b] ∧ FqL H a rs ts ∧ H b = some (.lst (ns.map V.int)) ∧ ns.length = ts.length ∧ (∀ t ∈ ts, Pq t) ∧ Q (.bl true) H
def spChPr (P : Addr) : Sp := fun vs H Q _ => Tb P H ∧ ∃ (a b : Addr) (rs : List Addr) (ts : List (Int × Int)) (ns : List Int), vs = [.ref b, .ref a] ∧ FqL H a rs ts ∧ H b = some (.lst (ns.map V.int)) ∧ ns.length = ts.length ∧ (∀ t ∈ ts, Pq t) ∧ Q .non H
def spAheadW (P : Addr) : Sp := fun vs H Q _ => Tb P H ∧ ∃ (a : Addr) (xs : List Int) (p : Nat), vs = [.ref a, .int (p : Int)] ∧ Rd H a (.lst (xs.map V.int)) ∧ p ≤ xs.length ∧ xs.length ≤ 12 ∧ (∀ x ∈ xs, Bt 600 x) ∧ ∀ H', Same H H' → Q (.int (aheadS (xs.take p) p)) H'
def spShows (P Pw : Addr) : Sp := fun vs H Q _ => Tb P H ∧ Tb Pw H ∧ P ≠ Pw ∧ ∃ (a : Addr) (xs : List Int), vs = [.ref a] ∧ H a = some (.lst (xs.map V.int)) ∧ xs.length ≤ 12 ∧ (∀ x ∈ xs, Bt 600 x) ∧ Q (.bl (showsB xs)) H
def dotS (ns xs : List Int) : Int := ((ns.zip xs).map fun e => e.1 * e.2).sum
def spWPS (P1 P2 P3 P4 P5 : Addr) : Sp := fun vs H Q _ => Tb P1 H ∧ Tb P2 H ∧ Tb P3 H ∧ Tb P4 H ∧ Tb P5 H ∧ P4 ≠ P3 ∧ ∃ (a b : Addr) (rs : List Addr) (ts : List (Int × Int)) (ns : List Int), vs = [.ref b, .ref a] ∧ FqL H a rs ts ∧ H b = some (.lst (ns.map V.int)) ∧ ns.length = ts.length ∧ (∀ t ∈ ts, Pq t) ∧ (∀ z ∈ ns, Bt 60 z) ∧
  ∀ (L : Int) (H' : Hp), Over2 ts L → Same H H' → (showsB (ts.map (overT L)) = false → Q .non H') ∧ (showsB (ts.map (overT L)) = true → ∀ r, H r = none → H' r = some (.tup [.int (redT (dotS ns (ts.map (overT L))) L), .int (redB (dotS ns (ts.map (overT L))) L)]) → Q (.ref r) H')
def qAh (p : Int) : V × V → Int
  | (.int i, .int x) => x * (p - i)
  | _ => 0
def qWt : V × V → Int
  | (.int i, .int x) => x * i
  | _ => 0
def qDot : V × V → Int
  | (.int n, .int x) => n * x
  | _ => 0
def enumV (xs : List Int) : List (V × V) := (xs.map V.int).zipIdx.map fun p => (V.int ((p.2 : Nat) : Int), p.1)
theorem enumV_eq (xs : List Int) : enumV xs = xs.zipIdx.map fun e => (V.int ((e.2 : Nat) : Int), V.int e.1) := by
  unfold enumV
  rw [List.zipIdx_map, List.map_map]
  rfl
theorem enumV_mem {xs : List Int} {z : V × V} (h : z ∈ enumV xs) : ∃ (i : Nat) (x : Int), z = (.int (i : Int), .int x) ∧ x ∈ xs ∧ i < xs.length := by
  rw [enumV_eq] at h
  obtain ⟨e, he, rfl⟩ := List.mem_map.mp h
  obtain ⟨x, i⟩ := e
  have z := List.mem_zipIdx he
  refine ⟨i, x, rfl, ?_, by have := z.2.1; omega⟩
  rw [z.2.2]
  exact List.getElem_mem _
theorem enumV_ahead (xs : List Int) (p : Int) : ((enumV xs).map (qAh p)).sum = aheadS xs p := by
  rw [enumV_eq, List.map_map]
  rfl
theorem enumV_w (xs : List Int) : ((enumV xs).map qWt).sum = wS xs := by
  rw [enumV_eq, List.map_map]
  rfl
theorem zipV_eq (ns xs : List Int) : (ns.map V.int).zip (xs.map V.int) = (ns.zip xs).map fun e => (V.int e.1, V.int e.2) := by
  rw [List.zip_map]
  rfl
theorem zipV_dot (ns xs : List Int) : (((ns.map V.int).zip (xs.map V.int)).map qDot).sum = dotS ns xs := by
  rw [zipV_eq, List.map_map]
  rfl
theorem zipV_mem {ns xs : List Int} {z : V × V} (h : z ∈ (ns.map V.int).zip (xs.map V.int)) : ∃ n x : Int, z = (.int n, .int x) ∧ n ∈ ns ∧ x ∈ xs := by
  rw [zipV_eq] at h
  obtain ⟨e, he, rfl⟩ := List.mem_map.mp h
  exact ⟨e.1, e.2, rfl, (List.of_mem_zip he).1, (List.of_mem_zip he).2⟩
theorem mulB_small {k : Nat} {x p : Int} (h : Bt k x) (hk : k ≤ 7900) (hp : p.natAbs < 2 ^ 60) : CMulB x p := ⟨k, 60, h, hp, by omega⟩
end Ob

set_option maxHeartbeats 4000000
namespace Ob
open PySem PySem.Spec PyProof.Rows L2
/-! ### the deck -/
/-- numbers that a deck may hold -/
def Dk (ds : List Int) : Prop := (∀ z ∈ ds, 0 ≤ z ∧ z < 2147483648) ∧ ds.length ≤ 1000
theorem Dk.nil : Dk [] := ⟨fun _ z => (nomatch z), by decide⟩
theorem Dk.cut {ds : List Int} (h : Dk ds) : Dk ds.dropLast := ⟨fun z hz => h.1 z ((List.dropLast_sublist _).subset hz), by rw [List.length_dropLast]; have := h.2; omega⟩
theorem Dk.rev {ds : List Int} (h : Dk ds) : Dk ds.reverse := ⟨fun z hz => h.1 z (List.mem_reverse.mp hz), by rw [List.length_reverse]; exact h.2⟩
def DkAt (d : Addr) (H : Hp) : Prop := ∃ ds, H d = some (.lst (ds.map V.int)) ∧ Dk ds
/-- the deck at d has been drawn from, all else stands -/
structure Drew (d : Addr) (H H' : Hp) : Prop where
  keep : ∀ b o, H b = some o → b ≠ d → H' b = some o
  here : DkAt d H'
theorem Drew.refl {d : Addr} {H : Hp} (h : DkAt d H) : Drew d H H := ⟨fun _ _ e _ => e, h⟩
theorem Drew.trans {d : Addr} {H H1 H2 : Hp} (a : Drew d H H1) (b : Drew d H1 H2) : Drew d H H2 := ⟨fun c o e n => b.keep c o (a.keep c o e n) n, b.here⟩
theorem Drew.same {d : Addr} {H H1 H2 : Hp} (a : Drew d H H1) (s : Same H1 H2) : Drew d H H2 := ⟨fun c o e n => s c o (a.keep c o e n), let ⟨ds, h, k⟩ := a.here; ⟨ds, s _ _ h, k⟩⟩
theorem Drew.of {d : Addr} {H H1 : Hp} (h : DkAt d H) (s : Same H H1) : Drew d H H1 := (Drew.refl h).same s
theorem Drew.new {d : Addr} {H H1 : Hp} (a : Drew d H H1) {l : Addr} (hl : H1 l = none) (o : HO) : Drew d H (upd H1 l o) := a.same (same_new hl o)
theorem Drew.free {d : Addr} {H H1 : Hp} (a : Drew d H H1) {l : Addr} (h : H1 l = none) : H l = none := by
  cases q : H l with
  | none => rfl
  | some o =>
    by_cases n : l = d
    · obtain ⟨ds, e, _⟩ := a.here
      rw [n, e] at h
      cases h
    · rw [a.keep l o q n] at h
      cases h
theorem DkAt.ne {d l : Addr} {H : Hp} (h : DkAt d H) (hl : H l = none) : l ≠ d := fun z => by
  obtain ⟨ds, e, _⟩ := h
  rw [z, e] at hl
  cases hl
/-- a new thing at l, made ahead of the drawing, may be written on -/
theorem Drew.put {d l : Addr} {H H1 : Hp} {o : HO} (a : Drew d H H1) (hl : H l = none) (n : l ≠ d) : Drew d H (upd H1 l o) := ⟨fun c u e k => by rw [upd_ne (ne_of_none e hl)]; exact a.keep c u e k, let ⟨ds, h, k⟩ := a.here; ⟨ds, by rw [upd_ne (Ne.symm n)]; exact h, k⟩⟩
def spCellAt (K : PySem.W.Frag) : Sp := fun vs H Q _ => ∃ (a : Addr) (ns : List Int) (k : Int), vs = [.ref a, .int k] ∧ SqL K H a (ns.map V.int) ∧ 0 ≤ k ∧ ∀ x, Q (.int x) H
def spStir : Sp := fun vs H Q _ => ∃ c k : Int, vs = [.int c, .int k] ∧ 0 ≤ k ∧ k ≤ 1000 ∧ ∀ n, 0 ≤ n → n < 2147483648 → Q (.int n) H
def spDeck : Sp := fun vs H Q _ => ∃ (c : Int) (m : Nat), vs = [.int c, .int (m : Int)] ∧ m ≤ 1000 ∧ ∀ r H', Same H H' → H r = none → DkAt r H' → Q (.ref r) H'
def spNext : Sp := fun vs H Q _ => ∃ d : Addr, vs = [.ref d] ∧ DkAt d H ∧ ∀ n H', 0 ≤ n → n < 2147483648 → Drew d H H' → Q (.int n) H'
def spFarD : Sp := fun vs H Q _ => ∃ d : Addr, vs = [.ref d] ∧ DkAt d H ∧ ∀ n H', 0 ≤ n → n < 1000000000000 → Drew d H H' → Q (.int n) H'
def Bw (k : Nat) (z : Int) : Prop := z.natAbs < 2 ^ k
def spBentD : Sp := fun vs H Q _ => ∃ (d : Addr) (m : Nat), vs = [.ref d, .int (m : Int)] ∧ DkAt d H ∧ m ≤ 12 ∧ ∀ (r : Addr) (ns : List Int) (H' : Hp), Drew d H H' → H r = none → H' r = some (.lst (ns.map V.int)) → ns.length = m → (∀ z ∈ ns, Bw 40 z) → Conv (An ns) ns.length → Q (.ref r) H'
def spRowD : Sp := fun vs H Q _ => ∃ (d : Addr) (m : Nat), vs = [.ref d, .int (m : Int)] ∧ DkAt d H ∧ 1 ≤ m ∧ m ≤ 12 ∧ ∀ (r : Addr) (ns : List Int) (H' : Hp), Drew d H H' → H r = none → H' r = some (.lst (ns.map V.int)) → 1 ≤ ns.length → ns.length ≤ m → (∀ z ∈ ns, Bw 42 z) → Q (.ref r) H'
theorem use_ws {X : Cx} {st : List Stmt} {t : TS} {D : Ends} {σ : L2.St} {H : Hp} (h : WSs X st t) (q : t D σ H) : ∃ t, PSs X st t ∧ t D σ H := ⟨t, h.get, q⟩
end Ob

set_option maxHeartbeats 4000000
namespace Ob
open PySem PySem.Spec PyProof.Rows L2
theorem lc_enum {K : PySem.W.Frag} {a : Addr} {xs : List V} {g : TG} {tt : TT} {te : TE} {vs : List Nat} {σ : L2.St} {H1 : Hp} {D : Addr} {Qd : Hp → Prop} (Pv : Nat → Hp → Prop) (h0 : Pv 0 (upd H1 D (.lst [])))
    (hl : ∀ i H, i ≤ xs.length → Pv i H → SqL K H a xs)
    (hs : ∀ i x T H, xs[i]? = some x → H T = none → Pv i H → g (.ref T) (wipe σ vs) (upd H T (.tup [.int (i : Nat), x])) fun σ2 H2 => wipe σ2 vs = wipe σ vs ∧ tt σ2 H2 fun b H3 =>
      if b = true then te σ2 H3 fun y H4 => ∃ acc, H4 D = some (.lst acc) ∧ acc.length < sizeLine ∧ Pv (i + 1) (upd H4 D (.lst (acc ++ [y]))) else Pv (i + 1) H3) (hd : ∀ H, Pv xs.length H → Qd H) :
    ∃ W : Nat → Nat → Hp → Prop, (∃ m, W 0 m (upd H1 D (.lst []))) ∧ ∀ i m H, W i m H →
      ((Ite K a).stop i H ∧ Qd H) ∨ ((Ite K a).go i H ∧ ∃ Nx : Hp → Prop, (∀ H', Nx H' → ∃ m', m' < m ∧ W (i + 1) m' H') ∧ ∀ x H', (Ite K a).yld i H x H' → g x (wipe σ vs) H' fun σ2 H2 => wipe σ2 vs = wipe σ vs ∧ tt σ2 H2 fun b H3 =>
        if b = true then te σ2 H3 fun y H4 => ∃ acc, H4 D = some (.lst acc) ∧ acc.length < sizeLine ∧ Nx (upd H4 D (.lst (acc ++ [y]))) else Nx H3) := by
  refine ⟨fun i m H => m = xs.length - i ∧ i ≤ xs.length ∧ Pv i H, ⟨xs.length, by simp, Nat.zero_le _, h0⟩, ?_⟩
  rintro i m H ⟨rfl, hi, p⟩
  have q := hl i H hi p
  by_cases hlt : i < xs.length
  · refine .inr ⟨⟨xs, xs[i], q, by simp [hlt]⟩, Pv (i + 1), fun H' p' => ⟨xs.length - (i + 1), by omega, rfl, hlt, p'⟩, fun x H' y => ?_⟩
    obtain ⟨T, u, rfl, hT, rfl, e1⟩ := y
    exact hs i u T H (e1 xs q) hT p
  · have e : i = xs.length := by omega
    subst e
    exact .inl ⟨⟨xs, q, Nat.le_refl _⟩, hd H p⟩
theorem gcd_turn' {one other : Int} (h2 : 0 < other) : Int.gcd other (one % other) = Int.gcd one other := by
  apply Nat.dvd_antisymm
  · refine Int.dvd_gcd ?_ (Int.gcd_dvd_left ..)
    have a := Int.gcd_dvd_left other (one % other)
    have b := Int.gcd_dvd_right other (one % other)
    have e : one = other * (one / other) + one % other := (Int.mul_ediv_add_emod one other).symm
    have z0 : ((Int.gcd other (one % other) : Nat) : Int) ∣ other * (one / other) := Int.dvd_mul_of_dvd_left a
    have z := Int.dvd_add z0 b
    rw [← e] at z
    exact z
  · refine Int.dvd_gcd (Int.gcd_dvd_right ..) ?_
    have a := Int.gcd_dvd_left one other
    have b := Int.gcd_dvd_right one other
    have e : one % other = one - other * (one / other) := Int.emod_def ..
    rw [e]
    exact Int.dvd_sub a (Int.dvd_mul_of_dvd_left b)
/-! promises -/
def spLDiv : Sp := fun vs H Q _ => ∃ i j : Int, vs = [.int i, .int j] ∧ 0 < j ∧ Q (.int (Int.gcd i j : Int)) H
end Ob

set_option maxHeartbeats 4000000
namespace Ob
open PySem PySem.Spec PyProof.Rows L2
def spLPricesB (B : Int) : Sp := fun vs H Q _ => ∃ (d : Addr) (m : Nat) (ei : Int), vs = [.ref d, .int (m : Int), .int ei] ∧ DkAt d H ∧ 1 ≤ m ∧ m ≤ 12 ∧ 0 ≤ ei ∧ ei ≤ 1 ∧
  ∀ (r : Addr) (rs : List Addr) (ts : List (Int × Int)) (H' : Hp), Drew d H H' → H r = none → FqL H' r rs ts → ts.length = m → (∀ t ∈ ts, Pq t) → (ei = 0 → (∀ t ∈ ts, t.2 ≤ 200000 + B) ∧ ∀ L, Over2 ts L → showsB (ts.map (overT L)) = true) → Q (.ref r) H'
theorem pq_red {t b : Int} (hb : 0 < b) (hs : b < 2 ^ 40) (h : t.natAbs ≤ b.natAbs) : Pq (redT t b, redB t b) := by
  have p := redB_pos (t := t) hb
  have g0 := gcd_pos (t := t) hb
  have e1 : (redB t b).natAbs ≤ b.natAbs := Int.natAbs_ediv_le_natAbs _ _
  have m := red_mul (t := t) hb
  have hT : (redT t b).natAbs * b.natAbs = (redB t b).natAbs * t.natAbs := by rw [← Int.natAbs_mul, m, Int.natAbs_mul]
  have le : (redT t b).natAbs ≤ (redB t b).natAbs := by
    have z : (redT t b).natAbs * b.natAbs ≤ (redB t b).natAbs * b.natAbs := by rw [hT]; exact Nat.mul_le_mul_left _ h
    exact Nat.le_of_mul_le_mul_right z (by omega)
  exact ⟨⟨p, by show redB t b < 2 ^ 40; omega, red_gcd hb, by show (redT t b).natAbs < 2 ^ 62; omega⟩, le⟩
theorem flat_zeros : ∀ n : Nat, (List.replicate n [V.int 0]).flatten = (List.replicate n (0 : Int)).map V.int
  | 0 => rfl
  | n + 1 => by
    rw [List.replicate_succ, List.flatten_cons, flat_zeros n, List.replicate_succ, List.map_cons]
    rfl
end Ob

set_option maxHeartbeats 4000000
namespace Ob
open PySem PySem.Spec PyProof.Rows L2
/-- a price at hand -/
def PqV (H : Hp) (v : V) : Prop := ∃ (r : Addr) (t : Int × Int), v = .ref r ∧ Pq t ∧ H r = some (.tup [.int t.1, .int t.2])
def PqL (H : Hp) (n : Nat) (xs : List V) : Prop := xs.length = n ∧ ∀ v ∈ xs, PqV H v
theorem PqV.same {H H' : Hp} {v : V} (h : PqV H v) (s : Same H H') : PqV H' v := let ⟨r, t, e, p, k⟩ := h; ⟨r, t, e, p, s _ _ k⟩
theorem PqV.drew {d : Addr} {H H' : Hp} {v : V} (h : PqV H v) (hd : DkAt d H) (w : Drew d H H') : PqV H' v := by
  obtain ⟨r, t, e, p, k⟩ := h
  refine ⟨r, t, e, p, w.keep r _ k fun z => ?_⟩
  obtain ⟨ds, e', _⟩ := hd
  rw [z, e'] at k
  cases k
theorem PqL.same {H H' : Hp} {n : Nat} {xs : List V} (h : PqL H n xs) (s : Same H H') : PqL H' n xs := ⟨h.1, fun v hv => (h.2 v hv).same s⟩
theorem PqL.drew {d : Addr} {H H' : Hp} {n : Nat} {xs : List V} (h : PqL H n xs) (hd : DkAt d H) (w : Drew d H H') : PqL H' n xs := ⟨h.1, fun v hv => (h.2 v hv).drew hd w⟩
/-- a list of prices may be written on -/
theorem PqV.put {H : Hp} {v : V} {l : Addr} {xs : List V} {o : HO} (h : PqV H v) (hl : H l = some (.lst xs)) : PqV (upd H l o) v := by
  obtain ⟨r, t, e, p, k⟩ := h
  refine ⟨r, t, e, p, ?_⟩
  rw [upd_ne fun z => by rw [z, hl] at k; cases k]
  exact k
theorem PqL.rev {H : Hp} {n : Nat} {xs : List V} (h : PqL H n xs) : PqL H n xs.reverse := ⟨by rw [List.length_reverse]; exact h.1, fun v hv => h.2 v (List.mem_reverse.mp hv)⟩
theorem PqL.rep {H : Hp} {v : V} (n : Nat) (h : PqV H v) : PqL H n (List.replicate n v) := ⟨List.length_replicate, fun u hu => by rw [(List.mem_replicate.mp hu).2]; exact h⟩
theorem PqL.set {H : Hp} {n : Nat} {xs : List V} (h : PqL H n xs) (i : Nat) {v : V} (hv : PqV H v) : PqL H n (xs.set i v) := ⟨by rw [List.length_set]; exact h.1, fun u hu => by
  rcases List.mem_or_eq_of_mem_set hu with q | q
  · exact h.2 u q
  · rw [q]; exact hv⟩
theorem PqL.of {H : Hp} {a : Addr} {rs : List Addr} {ts : List (Int × Int)} (L : FqL H a rs ts) (pq : ∀ t ∈ ts, Pq t) : PqL H ts.length (rs.map V.ref) := by
  refine ⟨by rw [List.length_map]; exact Paired.length L.f, fun v hv => ?_⟩
  obtain ⟨i, hi⟩ := List.mem_iff_getElem?.mp hv
  obtain ⟨r, t, rfl, ht, hrt, fr⟩ := L.at hi
  exact ⟨r, t, rfl, pq t (List.mem_of_getElem? ht), hrt⟩
theorem PqL.fracs {H : Hp} : ∀ {xs : List V}, (∀ v ∈ xs, PqV H v) → ∃ (rs : List Addr) (ts : List (Int × Int)), xs = rs.map V.ref ∧ FracsAt H rs ts ∧ ∀ t ∈ ts, Pq t
  | [], _ => ⟨[], [], rfl, .nil, fun _ z => (nomatch z)⟩
  | v :: xs, h => by
    obtain ⟨r, t, rfl, p, k⟩ := h v (List.mem_cons_self ..)
    obtain ⟨rs, ts, e, f, q⟩ := PqL.fracs (xs := xs) fun u hu => h u (List.mem_cons_of_mem _ hu)
    exact ⟨r :: rs, t :: ts, by rw [e]; rfl, .cons k f, fun u hu => by
      rcases List.mem_cons.mp hu with z | z
      · rw [z]; exact p
      · exact q u z⟩
theorem PqL.fq {H : Hp} {n : Nat} {xs : List V} {l : Addr} (h : PqL H n xs) (hl : H l = some (.lst xs)) (h1 : 1 ≤ n) (h2 : n ≤ 12) : ∃ (rs : List Addr) (ts : List (Int × Int)), FqL H l rs ts ∧ ts.length = n ∧ ∀ t ∈ ts, Pq t := by
  obtain ⟨rs, ts, e, f, q⟩ := PqL.fracs h.2
  have hl' : ts.length = n := by rw [← Paired.length f, ← h.1, e, List.length_map]
  exact ⟨rs, ts, ⟨by rw [hl, e], f, fun t ht => (q t ht).fq, by omega, by omega⟩, hl', q⟩
theorem pq_zero : Pq (0, 1) := ⟨⟨by decide, by decide, by decide, by decide⟩, by decide⟩
theorem flat_ones {α : Type} (v : α) : ∀ n : Nat, (List.replicate n [v]).flatten = List.replicate n v
  | 0 => rfl
  | n + 1 => by
    rw [List.replicate_succ, List.flatten_cons, flat_ones v n, List.replicate_succ]
    rfl
theorem PqL.ne {H : Hp} {n : Nat} {xs : List V} {c d : Addr} (h : PqL H n xs) (hc : H c = some (.lst xs)) (h1 : 1 ≤ n) (hd : DkAt d H) : c ≠ d := fun z => by
  obtain ⟨ds, e, _⟩ := hd
  rw [← z, hc] at e
  have e2 : xs = ds.map V.int := by injection e with e; injection e
  obtain ⟨k, r⟩ := h
  cases xs with
  | nil => simp at k; omega
  | cons x xs =>
    obtain ⟨a, t, e3, _⟩ := r x (List.mem_cons_self ..)
    cases ds with
    | nil => cases e2
    | cons y ys =>
      rw [List.map_cons] at e2
      injection e2 with e4 _
      rw [e3] at e4
      cases e4
theorem PqL.flat {H : Hp} {v : V} {n : Nat} {k : Int} (hk : k.toNat = n) (h : PqV H v) : PqL H n (List.replicate k.toNat [v]).flatten := by
  rw [flat_ones, hk]
  exact PqL.rep n h
end Ob

set_option maxHeartbeats 4000000
namespace Ob
open PySem PySem.Spec PyProof.Rows L2
/-! ### tops over one bottom and over another -/
theorem sum_mulR {α : Type} (f : α → Int) (b : Int) : ∀ l : List α, (l.map fun e => f e * b).sum = (l.map f).sum * b
  | [] => by simp
  | e :: l => by rw [List.map_cons, List.map_cons, List.sum_cons, List.sum_cons, sum_mulR f b l, Int.add_mul]
def mulB (b : Int) (xs : List Int) : List Int := xs.map (· * b)
theorem mulB_sum (b : Int) (xs : List Int) : (mulB b xs).sum = xs.sum * b := by
  have z := sum_mulR id b xs
  simpa [mulB] using z
theorem mulB_zip (b : Int) (xs : List Int) (s : Nat) : (mulB b xs).zipIdx s = (xs.zipIdx s).map fun e => (e.1 * b, e.2) := by
  unfold mulB
  rw [List.zipIdx_map]
  rfl
theorem mulB_w (b : Int) (xs : List Int) : wS (mulB b xs) = wS xs * b := by
  unfold wS
  rw [mulB_zip, List.map_map, ← sum_mulR]
  congr 1
  exact List.map_congr_left fun e _ => by show e.1 * b * _ = e.1 * _ * b; ac_rfl
theorem mulB_ahead (b : Int) (xs : List Int) (p : Int) : aheadS (mulB b xs) p = aheadS xs p * b := by
  unfold aheadS
  rw [mulB_zip, List.map_map, ← sum_mulR]
  congr 1
  exact List.map_congr_left fun e _ => by show e.1 * b * _ = e.1 * _ * b; ac_rfl
theorem mulB_take (b : Int) (xs : List Int) (p : Nat) : (mulB b xs).take p = mulB b (xs.take p) := List.map_take.symm
theorem mulB_dot (b : Int) (ns xs : List Int) : dotS ns (mulB b xs) = dotS ns xs * b := by
  unfold dotS mulB
  rw [List.zip_map_right, List.map_map, ← sum_mulR]
  congr 1
  exact List.map_congr_left fun e _ => by show e.1 * (e.2 * b) = e.1 * e.2 * b; ac_rfl
theorem zero_mul_iff {x b : Int} (hb : 0 < b) : decide (x * b = 0) = decide (x = 0) := by
  have : x * b = 0 ↔ x = 0 := by
    rw [Int.mul_eq_zero]
    constructor
    · rintro (h | h)
      · exact h
      · omega
    · exact .inl
  simp [this]
theorem le_mul_iff {x b : Int} (hb : 0 < b) : decide (x * b ≤ 0) = decide (x ≤ 0) := by
  have : x * b ≤ 0 ↔ x ≤ 0 := by
    constructor
    · intro h
      by_cases c : x ≤ 0
      · exact c
      · have := Int.mul_pos (show 0 < x by omega) hb
        omega
    · intro h
      exact Int.mul_nonpos_of_nonpos_of_nonneg h (Int.le_of_lt hb)
  simp [this]
theorem mulB_shows {b : Int} (hb : 0 < b) (xs : List Int) : showsB (mulB b xs) = showsB xs := by
  unfold showsB
  rw [mulB_sum, mulB_w, zero_mul_iff hb, zero_mul_iff hb]
  congr 1
  have e : (mulB b xs).length = xs.length := List.length_map ..
  rw [e]
  congr 1
  funext p
  rw [mulB_take, mulB_ahead, le_mul_iff hb]
theorem over_mul {ts : List (Int × Int)} {L M : Int} (h : Over2 ts L) (g : Over2 ts M) : mulB M (ts.map (overT L)) = mulB L (ts.map (overT M)) := by
  unfold mulB
  rw [List.map_map, List.map_map]
  refine List.map_congr_left fun t ht => ?_
  show t.1 * (L / t.2) * M = t.1 * (M / t.2) * L
  have e1 := Int.ediv_mul_cancel (h.dvd t ht)
  have e2 := Int.ediv_mul_cancel (g.dvd t ht)
  calc t.1 * (L / t.2) * M = t.1 * (L / t.2) * (M / t.2 * t.2) := by rw [e2]
    _ = t.1 * (M / t.2) * (L / t.2 * t.2) := by ac_rfl
    _ = t.1 * (M / t.2) * L := by rw [e1]
theorem shows_any {ts : List (Int × Int)} {L M : Int} (h : Over2 ts L) (g : Over2 ts M) : showsB (ts.map (overT L)) = showsB (ts.map (overT M)) := by
  rw [← mulB_shows g.pos, ← mulB_shows h.pos (ts.map (overT M)), over_mul h g]
theorem dot_any {ts : List (Int × Int)} {L M : Int} (ns : List Int) (h : Over2 ts L) (g : Over2 ts M) : (redT (dotS ns (ts.map (overT L))) L, redB (dotS ns (ts.map (overT L))) L) = (redT (dotS ns (ts.map (overT M))) M, redB (dotS ns (ts.map (overT M))) M) :=
  red_eq h.pos g.pos (by rw [← mulB_dot, ← mulB_dot, over_mul h g])
end Ob

set_option maxHeartbeats 4000000
namespace Ob
open PySem PySem.Spec PyProof.Rows L2
/-! ### sums over places -/
def sg (f : Nat → Int) : Nat → Int
  | 0 => 0
  | n + 1 => sg f n + f n
theorem sg_congr {f g : Nat → Int} : ∀ {n : Nat}, (∀ i, i < n → f i = g i) → sg f n = sg g n
  | 0, _ => rfl
  | n + 1, h => by rw [sg, sg, sg_congr fun i hi => h i (by omega), h n (by omega)]
theorem sg_add (f g : Nat → Int) : ∀ n, sg (fun i => f i + g i) n = sg f n + sg g n
  | 0 => rfl
  | n + 1 => by rw [sg, sg, sg, sg_add f g n]; omega
theorem sg_mul (f : Nat → Int) (c : Int) : ∀ n, sg (fun i => f i * c) n = sg f n * c
  | 0 => by simp [sg]
  | n + 1 => by rw [sg, sg, sg_mul f c n, Int.add_mul]
theorem sg_le {f g : Nat → Int} : ∀ {n : Nat}, (∀ i, i < n → f i ≤ g i) → sg f n ≤ sg g n
  | 0, _ => Int.le_refl _
  | n + 1, h => by
    have a := sg_le (n := n) fun i hi => h i (by omega)
    have b := h n (by omega)
    rw [sg, sg]
    omega
theorem sg_shift (f : Nat → Int) : ∀ n, sg f (n + 1) = f 0 + sg (fun i => f (i + 1)) n
  | 0 => by simp [sg]
  | n + 1 => by
    rw [sg, sg_shift f n, sg]
    omega
theorem sg_rev (f : Nat → Int) : ∀ n, sg (fun i => f (n - 1 - i)) n = sg f n
  | 0 => rfl
  | n + 1 => by
    rw [sg_shift]
    show f (n + 1 - 1 - 0) + _ = _
    rw [show n + 1 - 1 - 0 = n by omega, sg_congr (g := fun i => f (n - 1 - i)) (fun i hi => by show f (n + 1 - 1 - (i + 1)) = f (n - 1 - i); congr 1; omega), sg_rev f n, sg]
    omega
theorem sum_sg {α : Type} (g : α → Int) (f : Nat → Int) : ∀ (l : List α) (k : Nat), (∀ (i : Nat) (a : α), l[i]? = some a → g a = f (k + i)) → (l.map g).sum = sg (fun i => f (k + i)) l.length
  | [], _, _ => rfl
  | a :: l, k, h => by
    rw [List.map_cons, List.sum_cons, List.length_cons, sg_shift, h 0 a rfl, sum_sg g f l (k + 1) fun i b hb => by
      rw [h (i + 1) b (by simpa using hb)]
      congr 1
      omega]
    congr 1
    exact sg_congr fun i _ => by show f (k + 1 + i) = f (k + (i + 1)); congr 1; omega
theorem sum_sg0 {α : Type} (g : α → Int) (f : Nat → Int) (l : List α) (h : ∀ (i : Nat) (a : α), l[i]? = some a → g a = f i) : (l.map g).sum = sg f l.length := by
  rw [sum_sg g f l 0 fun i a ha => by rw [h i a ha]; congr 1; omega]
  exact sg_congr fun i _ => by show f (0 + i) = f i; congr 1; omega
/-- what stands ahead of a place, weighed -/
def ahF (x : Nat → Int) (p : Nat) : Int := sg (fun i => x i * ((p : Int) - (i : Int))) p
theorem ahF_next (x : Nat → Int) (p : Nat) : ahF x (p + 1) = ahF x p + sg x (p + 1) := by
  unfold ahF
  rw [sg, sg_congr (g := fun i => x i * ((p : Int) - (i : Int)) + x i) (fun i _ => by show x i * (((p + 1 : Nat) : Int) - (i : Int)) = _; rw [show ((p + 1 : Nat) : Int) - (i : Int) = ((p : Int) - (i : Int)) + 1 by omega, Int.mul_add, Int.mul_one]), sg_add, sg]
  rw [show ((p + 1 : Nat) : Int) - (p : Int) = 1 by omega]
  omega
theorem ahF_all (x : Nat → Int) : ∀ n : Nat, ahF x n = sg x n * (n : Int) - sg (fun i => x i * (i : Int)) n := by
  intro n
  unfold ahF
  have e : sg (fun i => x i * ((n : Int) - (i : Int))) n + sg (fun i => x i * (i : Int)) n = sg x n * (n : Int) := by
    rw [← sg_add, ← sg_mul]
    exact sg_congr fun i _ => by
      show x i * ((n : Int) - (i : Int)) + x i * (i : Int) = x i * (n : Int)
      rw [← Int.mul_add]
      congr 1
      omega
  omega
theorem parts (c x : Nat → Int) : ∀ n : Nat, sg (fun i => c i * x i) (n + 2) = c (n + 1) * sg x (n + 2) - (c (n + 1) - c n) * ahF x (n + 1) + sg (fun i => (c (i + 2) - 2 * c (i + 1) + c i) * ahF x (i + 1)) n
  | 0 => by
    simp [sg, ahF]
    grind
  | n + 1 => by
    have ih := parts c x n
    have s1 : sg (fun i => c i * x i) (n + 1 + 2) = sg (fun i => c i * x i) (n + 2) + c (n + 2) * x (n + 2) := rfl
    have s2 : sg x (n + 1 + 2) = sg x (n + 2) + x (n + 2) := rfl
    have s3 : sg (fun i => (c (i + 2) - 2 * c (i + 1) + c i) * ahF x (i + 1)) (n + 1) = sg (fun i => (c (i + 2) - 2 * c (i + 1) + c i) * ahF x (i + 1)) n + (c (n + 2) - 2 * c (n + 1) + c n) * ahF x (n + 1) := rfl
    have e1 : ahF x (n + 1 + 1) = ahF x (n + 1) + sg x (n + 2) := ahF_next x (n + 1)
    rw [s1, ih, s2, s3, e1]
    generalize sg x (n + 2) = S
    generalize ahF x (n + 1) = A
    generalize sg (fun i => (c (i + 2) - 2 * c (i + 1) + c i) * ahF x (i + 1)) n = Z
    rw [show n + 1 + 1 = n + 2 by omega]
    generalize c n = a
    generalize c (n + 1) = b
    generalize c (n + 2) = d
    generalize x (n + 2) = y
    grind
/-- prices that show something -/
structure ShowsF (x : Nat → Int) (n : Nat) : Prop where
  s : sg x n = 0
  w : sg (fun i => x i * (i : Int)) n = 0
  a : ∀ p, p < n → ahF x p ≤ 0
theorem ShowsF.end_ {x : Nat → Int} {n : Nat} (h : ShowsF x n) : ahF x n = 0 := by rw [ahF_all, h.s, h.w]; omega
/-- of a row that bends one way they show no more than 0 -/
theorem ShowsF.bent {c x : Nat → Int} {n : Nat} (h : ShowsF x n) (hc : Conv c n) : sg (fun i => c i * x i) n ≤ 0 := by
  match n, h, hc with
  | 0, _, _ => exact Int.le_refl _
  | 1, h, _ =>
    have s := h.s
    simp [sg] at s ⊢
    rw [s]
    simp
  | n + 2, h, hc =>
    have e1 := h.end_
    have e2 := ahF_next x (n + 1)
    have e3 := h.s
    rw [show n + 1 + 1 = n + 2 by omega] at e2
    have e4 : ahF x (n + 1) = 0 := by omega
    rw [parts, e3, e4]
    have z : sg (fun i => (c (i + 2) - 2 * c (i + 1) + c i) * ahF x (i + 1)) n ≤ sg (fun _ => 0) n := sg_le fun i hi => by
      have a := h.a (i + 1) (by omega)
      have b := hc i (by omega)
      exact Int.mul_nonpos_of_nonneg_of_nonpos (by omega) a
    have z0 : ∀ m, sg (fun _ => 0) m = 0 := fun m => by
      induction m with
      | zero => rfl
      | succ m ih => rw [sg, ih]; rfl
    rw [z0] at z
    omega
theorem ShowsF.congr {x y : Nat → Int} {n : Nat} (h : ShowsF x n) (e : ∀ i, i < n → y i = x i) : ShowsF y n :=
  ⟨by rw [sg_congr e]; exact h.s, by rw [sg_congr (g := fun i => x i * (i : Int)) fun i hi => by show y i * _ = x i * _; rw [e i hi]]; exact h.w, fun p hp => by
    unfold ahF
    rw [sg_congr (g := fun i => x i * ((p : Int) - (i : Int))) fun i hi => by show y i * _ = x i * _; rw [e i (by omega)]]
    exact h.a p hp⟩
theorem ShowsF.two {x y : Nat → Int} {n : Nat} {a b : Int} (h : ShowsF x n) (k : ShowsF y n) (ha : 0 ≤ a) (hb : 0 ≤ b) : ShowsF (fun i => x i * a + y i * b) n := by
  have m : ∀ (v : Nat → Int) (n : Nat), sg (fun i => (x i * a + y i * b) * v i) n = sg (fun i => x i * v i) n * a + sg (fun i => y i * v i) n * b := fun v n => by
    rw [← sg_mul, ← sg_mul, ← sg_add]
    exact sg_congr fun i _ => by
      show (x i * a + y i * b) * v i = x i * v i * a + y i * v i * b
      rw [Int.add_mul]
      congr 1 <;> ac_rfl
  refine ⟨?_, ?_, fun p hp => ?_⟩
  · rw [sg_add, sg_mul, sg_mul, h.s, k.s]
    simp
  · rw [m (fun i => (i : Int)) n, h.w, k.w]
    simp
  · have e : ahF (fun i => x i * a + y i * b) p = ahF x p * a + ahF y p * b := m (fun i => (p : Int) - (i : Int)) p
    rw [e]
    have z1 := Int.mul_nonpos_of_nonpos_of_nonneg (h.a p hp) ha
    have z2 := Int.mul_nonpos_of_nonpos_of_nonneg (k.a p hp) hb
    omega
theorem ShowsF.of_mul {x : Nat → Int} {n : Nat} {a : Int} (ha : 0 < a) (h : ShowsF (fun i => x i * a) n) : ShowsF x n := by
  have m : ∀ (v : Nat → Int) (n : Nat), sg (fun i => x i * a * v i) n = sg (fun i => x i * v i) n * a := fun v n => by
    rw [← sg_mul]
    exact sg_congr fun i _ => by show x i * a * v i = x i * v i * a; ac_rfl
  have z : ∀ {y : Int}, y * a = 0 → y = 0 := fun e => by
    rcases Int.mul_eq_zero.mp e with e | e
    · exact e
    · omega
  refine ⟨z (by rw [← sg_mul]; exact h.s), z (by rw [← m (fun i => (i : Int))]; exact h.w), fun p hp => ?_⟩
  have e : ahF (fun i => x i * a) p = ahF x p * a := m (fun i => (p : Int) - (i : Int)) p
  have k := h.a p hp
  rw [e] at k
  by_cases c : ahF x p ≤ 0
  · exact c
  · have := Int.mul_pos (show 0 < ahF x p by omega) ha
    omega
/-- with a line put to the numbers the same -/
theorem ShowsF.line {c x : Nat → Int} {n : Nat} (h : ShowsF x n) (u v : Int) : sg (fun i => (c i + (u + v * (i : Int))) * x i) n = sg (fun i => c i * x i) n := by
  have e : sg (fun i => (c i + (u + v * (i : Int))) * x i) n = sg (fun i => c i * x i) n + (sg x n * u + sg (fun i => x i * (i : Int)) n * v) := by
    rw [← sg_mul, ← sg_mul, ← sg_add, ← sg_add]
    exact sg_congr fun i _ => by
      show (c i + (u + v * (i : Int))) * x i = c i * x i + (x i * u + x i * (i : Int) * v)
      grind
  rw [e, h.s, h.w]
  simp
/-- by what stands for inner places, from 0 on -/
theorem shows_heights {h x : Nat → Int} {m : Nat} (hm : 1 ≤ m) (h0 : h 0 = 0) (h1 : h 1 = 0) (e0 : h m = 0) (e1 : h (m + 1) = 0) (pos : ∀ i, i ≤ m → 0 ≤ h i) (hx : ∀ i, i < m → x i = 2 * h (1 + i) - h i - h (2 + i)) : ShowsF x m := by
  have s : ∀ k, k ≤ m → sg x k = h k - h (k + 1) := fun k => by
    induction k with
    | zero => intro _; rw [h0, show (0 : Nat) + 1 = 1 from rfl, h1]; rfl
    | succ k ih =>
      intro hk
      rw [sg, ih (by omega), hx k (by omega), show 1 + k = k + 1 by omega, show 2 + k = k + 1 + 1 by omega]
      omega
  have a : ∀ k, k ≤ m → ahF x k = - h (k + 1) := fun k => by
    induction k with
    | zero => intro _; rw [show (0 : Nat) + 1 = 1 from rfl, h1]; rfl
    | succ k ih =>
      intro hk
      rw [ahF_next, ih (by omega), s (k + 1) hk]
      omega
  have sm := s m (Nat.le_refl _)
  have am := a m (Nat.le_refl _)
  rw [e0, e1] at sm
  rw [e1] at am
  have al := ahF_all x m
  refine ⟨by omega, ?_, fun p hp => ?_⟩
  · rw [am, show sg x m = 0 by omega] at al
    omega
  · rw [a p (by omega)]
    have := pos (p + 1) (by omega)
    omega
/-- from behind -/
theorem ShowsF.rev {x : Nat → Int} {n : Nat} (h : ShowsF x n) : ShowsF (fun i => x (n - 1 - i)) n := by
  refine ⟨by rw [sg_rev]; exact h.s, ?_, fun p hp => ?_⟩
  · have e : sg (fun i => x (n - 1 - i) * (i : Int)) n = sg (fun i => x i * (((n - 1 - i : Nat)) : Int)) n := by
      rw [← sg_rev (fun i => x i * (((n - 1 - i : Nat)) : Int))]
      exact sg_congr fun i hi => by
        show x (n - 1 - i) * (i : Int) = x (n - 1 - i) * (((n - 1 - (n - 1 - i) : Nat)) : Int)
        congr 2
        omega
    have e2 : sg (fun i => x i * (((n - 1 - i : Nat)) : Int)) n + sg (fun i => x i * (i : Int)) n = sg x n * ((n : Int) - 1) := by
      rw [← sg_add, ← sg_mul]
      exact sg_congr fun i hi => by
        show x i * (((n - 1 - i : Nat)) : Int) + x i * (i : Int) = x i * ((n : Int) - 1)
        rw [← Int.mul_add]
        congr 1
        omega
    rw [e]
    rw [h.s, h.w] at e2
    omega
  · -- a sum over all places: what is ahead counts, all else by 0
    have cut : ∀ (y : Nat → Int) (p m : Nat), p ≤ m → sg (fun i => y i * (((p - i : Nat)) : Int)) m = ahF y p := fun y p m => by
      induction m with
      | zero =>
        intro hm
        have : p = 0 := by omega
        subst this
        rfl
      | succ m ih =>
        intro hm
        by_cases c : p ≤ m
        · rw [sg, ih c, show p - m = 0 by omega]
          simp
        · have e : p = m + 1 := by omega
          subst e
          unfold ahF
          exact sg_congr fun i hi => by show y i * (((m + 1 - i : Nat)) : Int) = y i * (((m + 1 : Nat) : Int) - (i : Int)); congr 1; omega
    have e1 := cut (fun i => x (n - 1 - i)) p n (by omega)
    have e2 : sg (fun i => x (n - 1 - i) * (((p - i : Nat)) : Int)) n = sg (fun i => x i * (((p - (n - 1 - i) : Nat)) : Int)) n := by
      rw [← sg_rev (fun i => x i * (((p - (n - 1 - i) : Nat)) : Int))]
      exact sg_congr fun i hi => by
        show x (n - 1 - i) * (((p - i : Nat)) : Int) = x (n - 1 - i) * (((p - (n - 1 - (n - 1 - i)) : Nat)) : Int)
        congr 3
        omega
    have e3 := cut x (n - 1 - p) n (by omega)
    have e4 : sg (fun i => x i * (((p - (n - 1 - i) : Nat)) : Int)) n = sg (fun i => x i * (((n - 1 - p - i : Nat)) : Int)) n + (sg (fun i => x i * (i : Int)) n + sg x n * (-(((n - 1 - p : Nat)) : Int))) := by
      rw [← sg_mul, ← sg_add, ← sg_add]
      exact sg_congr fun i hi => by
        show x i * (((p - (n - 1 - i) : Nat)) : Int) = x i * (((n - 1 - p - i : Nat)) : Int) + (x i * (i : Int) + x i * (-(((n - 1 - p : Nat)) : Int)))
        rw [← Int.mul_add, ← Int.mul_add]
        congr 1
        omega
    rw [← e1, e2, e4, e3, h.s, h.w]
    have := h.a (n - 1 - p) (by omega)
    omega
/-! ### of lists -/
theorem an_val' {ns : List Int} {i : Nat} {u : Int} (h : ns[i]? = some u) : An ns i = u := by
  unfold An
  rw [List.getD_eq_getElem?_getD, h]
  rfl
theorem sum_an (xs : List Int) : xs.sum = sg (An xs) xs.length := by
  have z := sum_sg0 id (An xs) xs fun i a ha => (an_val' ha).symm
  simpa using z
theorem wS_an (xs : List Int) : wS xs = sg (fun i => An xs i * (i : Int)) xs.length := by
  unfold wS
  have z := sum_sg0 (fun e : Int × Nat => e.1 * ((e.2 : Nat) : Int)) (fun i => An xs i * (i : Int)) xs.zipIdx fun i a ha => by
    rw [List.getElem?_zipIdx] at ha
    cases q : xs[i]? with
    | none => rw [q] at ha; cases ha
    | some u =>
      rw [q] at ha
      have e : a = (u, 0 + i) := by injection ha with ha; exact ha.symm
      rw [e, an_val' q]
      simp
  rw [z, List.length_zipIdx]
theorem ahead_an (xs : List Int) (p : Nat) (hp : p ≤ xs.length) : aheadS (xs.take p) p = ahF (An xs) p := by
  unfold aheadS ahF
  have z := sum_sg0 (fun e : Int × Nat => e.1 * ((p : Int) - ((e.2 : Nat) : Int))) (fun i => An xs i * ((p : Int) - (i : Int))) (xs.take p).zipIdx fun i a ha => by
    rw [List.getElem?_zipIdx] at ha
    cases q : (xs.take p)[i]? with
    | none => rw [q] at ha; cases ha
    | some u =>
      rw [q] at ha
      have e : a = (u, 0 + i) := by injection ha with ha; exact ha.symm
      have q2 : xs[i]? = some u := by
        rw [List.getElem?_take] at q
        split at q
        · exact q
        · cases q
      rw [e, an_val' q2]
      simp
  rw [z, List.length_zipIdx, List.length_take, show min p xs.length = p by omega]
theorem dot_an {ns xs : List Int} (h : ns.length = xs.length) : dotS ns xs = sg (fun i => An ns i * An xs i) xs.length := by
  unfold dotS
  have z := sum_sg0 (fun e : Int × Int => e.1 * e.2) (fun i => An ns i * An xs i) (ns.zip xs) fun i a ha => by
    obtain ⟨h1, h2⟩ := List.getElem?_zip_eq_some.mp ha
    rw [an_val' h1, an_val' h2]
  rw [z, List.length_zip, show min ns.length xs.length = xs.length by omega]
theorem shows_f (xs : List Int) : showsB xs = true ↔ ShowsF (An xs) xs.length := by
  unfold showsB
  rw [Bool.and_eq_true, Bool.and_eq_true, decide_eq_true_eq, decide_eq_true_eq, List.all_eq_true, sum_an, wS_an]
  constructor
  · rintro ⟨⟨a, b⟩, c⟩
    exact ⟨a, b, fun p hp => by
      have z := of_decide_eq_true (c p (List.mem_range.mpr hp))
      rw [ahead_an xs p (by omega)] at z
      exact z⟩
  · rintro ⟨a, b, c⟩
    refine ⟨⟨a, b⟩, fun p hp => decide_eq_true ?_⟩
    have hp' := List.mem_range.mp hp
    rw [ahead_an xs p (by omega)]
    exact c p hp'
theorem an_rev' {ns : List Int} {i : Nat} (h : i < ns.length) : An ns.reverse i = An ns (ns.length - 1 - i) := an_val' (by rw [List.getElem?_reverse h]; exact an_at (by omega))
theorem shows_rev {xs : List Int} (h : showsB xs = true) : showsB xs.reverse = true := by
  rw [shows_f] at *
  rw [List.length_reverse]
  exact h.rev.congr fun i hi => an_rev' hi
theorem dot_rev {ns xs : List Int} (h : ns.length = xs.length) : dotS ns.reverse xs.reverse = dotS ns xs := by
  rw [dot_an h, dot_an (by rw [List.length_reverse, List.length_reverse]; exact h), List.length_reverse, ← sg_rev (fun i => An ns i * An xs i)]
  exact sg_congr fun i hi => by show An ns.reverse i * An xs.reverse i = An ns (xs.length - 1 - i) * An xs (xs.length - 1 - i); rw [an_rev' (by omega), an_rev' hi, h]
theorem dot_bent {ns xs : List Int} (h : ns.length = xs.length) (hs : showsB xs = true) (hc : Conv (An ns) ns.length) : dotS ns xs ≤ 0 := by
  rw [dot_an h]
  rw [shows_f] at hs
  exact hs.bent (h ▸ hc)
theorem dot_line {ns ms xs : List Int} {u v : Int} (h : ns.length = xs.length) (h2 : ms.length = xs.length) (hs : showsB xs = true) (e : ∀ i, i < xs.length → An ms i = An ns i + (u + v * (i : Int))) : dotS ms xs = dotS ns xs := by
  rw [dot_an h, dot_an h2, ← ((shows_f xs).mp hs).line (c := An ns) u v]
  exact sg_congr fun i hi => by show An ms i * An xs i = _; rw [e i hi]
end Ob

set_option maxHeartbeats 4000000
namespace Ob
open PySem PySem.Spec PyProof.Rows L2
theorem an_mapT {ts : List (Int × Int)} {g : Int × Int → Int} {i : Nat} {t : Int × Int} (h : ts[i]? = some t) : An (ts.map g) i = g t := an_val' (by rw [List.getElem?_map, h]; rfl)
theorem shows_cmp {xs ys : List Int} {a b : Int} (ha : 0 < a) (hb : 0 ≤ b) (hl : xs.length = ys.length) (h : ShowsF (An ys) ys.length) (e : ∀ i, i < xs.length → An xs i * a = An ys i * b) : showsB xs = true := by
  rw [shows_f]
  refine ShowsF.of_mul ha ?_
  refine (ShowsF.two h h hb (Int.le_refl 0)).congr (x := fun i => An ys i * b + An ys i * 0) (fun i hi => ?_) |> fun z => hl ▸ z
  show An xs i * a = An ys i * b + An ys i * 0
  rw [e i (by omega)]
  simp
theorem over_red {L b t : Int} (hb : 0 < b) (d : redB t b ∣ L) : overT L (redT t b, redB t b) * b = t * L := by
  show redT t b * (L / redB t b) * b = t * L
  have e1 := Int.ediv_mul_cancel d
  have m := red_mul (t := t) hb
  calc redT t b * (L / redB t b) * b = redT t b * b * (L / redB t b) := by ac_rfl
    _ = redB t b * t * (L / redB t b) := by rw [m]
    _ = t * (L / redB t b * redB t b) := by ac_rfl
    _ = t * L := by rw [e1]
theorem red_shows {gs : List Int} {b L : Int} (hb : 0 < b) (h : ShowsF (An gs) gs.length) (o : Over2 (gs.map fun t => (redT t b, redB t b)) L) : showsB ((gs.map fun t => (redT t b, redB t b)).map (overT L)) = true := by
  refine shows_cmp hb (Int.le_of_lt o.pos) (by rw [List.length_map, List.length_map]) h fun i hi => ?_
  rw [List.length_map, List.length_map] at hi
  have e : (gs.map fun t => (redT t b, redB t b))[i]? = some (redT (An gs i) b, redB (An gs i) b) := by rw [List.getElem?_map, an_at hi]; rfl
  rw [an_mapT e]
  exact over_red hb (o.dvd _ (List.mem_of_getElem? e))
/-! ### never above how far -/
theorem over_abs {t : Int × Int} {L : Int} (p : Pq t) (hL : 0 < L) (d : t.2 ∣ L) : -L ≤ overT L t ∧ overT L t ≤ L := by
  have e1 := Int.ediv_mul_cancel d
  have hp := p.fq.pos
  have h1 := p.one
  have hq : 0 < L / t.2 := Int.ediv_pos_of_pos_of_dvd hL (Int.le_of_lt hp) d
  have a : t.1 ≤ t.2 ∧ -t.2 ≤ t.1 := by omega
  unfold overT
  generalize L / t.2 = q at *
  constructor
  · have := Int.mul_le_mul_of_nonneg_right a.2 (Int.le_of_lt hq)
    rw [Int.neg_mul, Int.mul_comm t.2 q, e1] at this
    exact this
  · have := Int.mul_le_mul_of_nonneg_right a.1 (Int.le_of_lt hq)
    rw [Int.mul_comm t.2 q, e1] at this
    exact this
theorem abs_bound {z x L : Int} (hL : 0 ≤ L) (h : -L ≤ x ∧ x ≤ L) : z * x ≤ absI z * L := by
  unfold absI
  split
  · rename_i hz
    have := Int.mul_le_mul_of_nonneg_left h.1 (show 0 ≤ -z by omega)
    have e : -z * -L = z * L := by grind
    have e2 : -z * x = -(z * x) := by grind
    have e3 : -z * L = -(z * L) := by grind
    rw [e3]
    omega
  · rename_i hz
    exact Int.mul_le_mul_of_nonneg_left h.2 (by omega)
theorem gaps_an {ns : List Int} {fs : List (Int × Int)} {B : Int} (hl : fs.length = ns.length) : (gapsOf ns fs B).sum = sg (fun i => absI (An ns i * B - An (fs.map (overT B)) i)) ns.length := by
  unfold gapsOf
  have z := sum_sg0 (gapF B) (fun i => absI (An ns i * B - An (fs.map (overT B)) i)) (ns.zip fs) fun i a ha => by
    obtain ⟨h1, h2⟩ := List.getElem?_zip_eq_some.mp ha
    rw [an_val' h1, an_mapT h2]
    rfl
  rw [z, List.length_zip, show min ns.length fs.length = ns.length by omega]
theorem weak {ns : List Int} {ts fs : List (Int × Int)} {L B : Int} (hl : ts.length = ns.length) (hf : fs.length = ns.length) (oL : Over2 ts L) (oB : Over2 fs B) (pq : ∀ t ∈ ts, Pq t) (hs : showsB (ts.map (overT L)) = true) (hc : Conv (An (fs.map (overT B))) fs.length) :
    dotS ns (ts.map (overT L)) * B ≤ (gapsOf ns fs B).sum * L := by
  have lp : (ts.map (overT L)).length = ns.length := by rw [List.length_map]; exact hl
  have lo : (fs.map (overT B)).length = ns.length := by rw [List.length_map]; exact hf
  have d1 := dot_bent (ns := fs.map (overT B)) (xs := ts.map (overT L)) (by omega) hs (by rw [List.length_map]; exact hc)
  rw [dot_an (by omega), lp] at d1
  rw [gaps_an hf, dot_an (by omega), lp, ← sg_mul, ← sg_mul]
  have z : sg (fun i => An ns i * An (ts.map (overT L)) i * B) ns.length = sg (fun i => (An ns i * B - An (fs.map (overT B)) i) * An (ts.map (overT L)) i) ns.length + sg (fun i => An (fs.map (overT B)) i * An (ts.map (overT L)) i) ns.length := by
    rw [← sg_add]
    exact sg_congr fun i _ => by
      show An ns i * An (ts.map (overT L)) i * B = (An ns i * B - An (fs.map (overT B)) i) * An (ts.map (overT L)) i + An (fs.map (overT B)) i * An (ts.map (overT L)) i
      rw [Int.sub_mul]
      have e : An ns i * An (ts.map (overT L)) i * B = An ns i * B * An (ts.map (overT L)) i := by ac_rfl
      omega
  rw [z]
  have y : sg (fun i => (An ns i * B - An (fs.map (overT B)) i) * An (ts.map (overT L)) i) ns.length ≤ sg (fun i => absI (An ns i * B - An (fs.map (overT B)) i) * L) ns.length := sg_le fun i hi => by
    obtain ⟨t, ht⟩ : ∃ t, ts[i]? = some t := ⟨_, List.getElem?_eq_getElem (by omega)⟩
    refine abs_bound (Int.le_of_lt oL.pos) ?_
    rw [an_mapT ht]
    exact over_abs (pq t (List.mem_of_getElem? ht)) oL.pos (oL.dvd t (List.mem_of_getElem? ht))
  omega
theorem red_cmp {d L G B : Int} (hL : 0 < L) (hB : 0 < B) (h : d * B ≤ G * L) : redT d L * redB G B ≤ redT G B * redB d L := by
  have a1 := red_mul (t := d) hL
  have g1 := red_mul (t := G) hB
  have l0 := redB_pos (t := d) hL
  have b0 := redB_pos (t := G) hB
  generalize redT d L = a at *
  generalize redB d L = l at *
  generalize redT G B = g at *
  generalize redB G B = b at *
  have z := Int.mul_le_mul_of_nonneg_left h (Int.le_of_lt (Int.mul_pos l0 b0))
  have e1 : l * b * (d * B) = a * b * (L * B) := by
    calc l * b * (d * B) = (l * d) * (b * B) := by ac_rfl
      _ = a * L * (b * B) := by rw [a1]
      _ = _ := by ac_rfl
  have e2 : l * b * (G * L) = g * l * (L * B) := by
    calc l * b * (G * L) = (b * G) * (l * L) := by ac_rfl
      _ = g * B * (l * L) := by rw [g1]
      _ = _ := by ac_rfl
  rw [e1, e2] at z
  exact Int.le_of_mul_le_mul_right z (Int.mul_pos hL hB)
/-! ### half of two lots -/
def halfT (a b : Int × Int) : Int × Int := (redT (a.1 * b.2 + b.1 * a.2) (2 * a.2 * b.2), redB (a.1 * b.2 + b.1 * a.2) (2 * a.2 * b.2))
theorem half_pos {a b : Int × Int} (ha : 0 < a.2) (hb : 0 < b.2) : 0 < 2 * a.2 * b.2 := Int.mul_pos (Int.mul_pos (by decide) ha) hb
theorem half_pq {a b : Int × Int} (ha : Pq a) (hb : Pq b) (a7 : a.2 ≤ 700000) (b7 : b.2 ≤ 700000) : Pq (halfT a b) := by
  have a0 := ha.fq.pos
  have b0 := hb.fq.pos
  have a1 := ha.one
  have b1 := hb.one
  refine pq_red (half_pos a0 b0) ?_ ?_
  · have z : 2 * a.2 * b.2 ≤ 2 * 700000 * 700000 := Int.mul_le_mul (by omega) b7 (Int.le_of_lt b0) (by decide)
    have e : (2 : Int) ^ 40 = 1099511627776 := by decide
    omega
  · have p1 : (a.1 * b.2).natAbs ≤ (a.2 * b.2).natAbs := by rw [Int.natAbs_mul, Int.natAbs_mul]; exact Nat.mul_le_mul_right _ a1
    have p2 : (b.1 * a.2).natAbs ≤ (a.2 * b.2).natAbs := by rw [Int.natAbs_mul, Int.natAbs_mul, Nat.mul_comm a.2.natAbs]; exact Nat.mul_le_mul_right _ b1
    have e : 2 * a.2 * b.2 = a.2 * b.2 + a.2 * b.2 := by rw [Int.mul_assoc]; omega
    have q0 := Int.mul_pos a0 b0
    rw [e]
    omega
theorem half_over {a b : Int × Int} {A B M : Int} (ha : 0 < a.2) (hb : 0 < b.2) (dA : a.2 ∣ A) (dB : b.2 ∣ B) (dM : (halfT a b).2 ∣ M) : overT M (halfT a b) * (2 * A * B) = overT A a * (B * M) + overT B b * (A * M) := by
  have z := over_red (t := a.1 * b.2 + b.1 * a.2) (half_pos ha hb) dM
  have eA := Int.ediv_mul_cancel dA
  have eB := Int.ediv_mul_cancel dB
  have e0 : overT M (halfT a b) * (2 * a.2 * b.2) = (a.1 * b.2 + b.1 * a.2) * M := z
  generalize overT M (halfT a b) = Q at *
  unfold overT
  generalize A / a.2 = p at *
  generalize B / b.2 = q at *
  rw [← eA, ← eB]
  calc Q * (2 * (p * a.2) * (q * b.2)) = Q * (2 * a.2 * b.2) * (p * q) := by ac_rfl
    _ = (a.1 * b.2 + b.1 * a.2) * M * (p * q) := by rw [e0]
    _ = _ := by grind
theorem half_at {xs ys : List (Int × Int)} {i : Nat} {a b : Int × Int} (h1 : xs[i]? = some a) (h2 : ys[i]? = some b) : (List.zipWith halfT xs ys)[i]? = some (halfT a b) := by
  rw [List.getElem?_zipWith, h1, h2]
theorem half_all {xs ys : List (Int × Int)} {A B M : Int} (hl : xs.length = ys.length) (px : ∀ t ∈ xs, 0 < t.2) (py : ∀ t ∈ ys, 0 < t.2) (oA : Over2 xs A) (oB : Over2 ys B) (oM : Over2 (List.zipWith halfT xs ys) M) (i : Nat) (hi : i < xs.length) :
    An ((List.zipWith halfT xs ys).map (overT M)) i * (2 * A * B) = An (xs.map (overT A)) i * (B * M) + An (ys.map (overT B)) i * (A * M) := by
  obtain ⟨a, ha⟩ : ∃ a, xs[i]? = some a := ⟨_, List.getElem?_eq_getElem hi⟩
  obtain ⟨b, hb⟩ : ∃ b, ys[i]? = some b := ⟨_, List.getElem?_eq_getElem (by omega)⟩
  have hh := half_at ha hb
  have ma := List.mem_of_getElem? ha
  have mb := List.mem_of_getElem? hb
  rw [an_mapT ha, an_mapT hb, an_mapT hh]
  exact half_over (px a ma) (py b mb) (oA.dvd a ma) (oB.dvd b mb) (oM.dvd _ (List.mem_of_getElem? hh))
theorem half_len {xs ys : List (Int × Int)} (hl : xs.length = ys.length) : (List.zipWith halfT xs ys).length = xs.length := by rw [List.length_zipWith]; omega
theorem half_shows {xs ys : List (Int × Int)} {A B M : Int} (hl : xs.length = ys.length) (px : ∀ t ∈ xs, 0 < t.2) (py : ∀ t ∈ ys, 0 < t.2) (oA : Over2 xs A) (oB : Over2 ys B) (oM : Over2 (List.zipWith halfT xs ys) M) (h1 : showsB (xs.map (overT A)) = true) (h2 : showsB (ys.map (overT B)) = true) :
    showsB ((List.zipWith halfT xs ys).map (overT M)) = true := by
  rw [shows_f, List.length_map] at *
  rw [half_len hl]
  rw [← hl] at h2
  refine ShowsF.of_mul (a := 2 * A * B) (Int.mul_pos (Int.mul_pos (by decide) oA.pos) oB.pos) ?_
  exact (ShowsF.two h1 h2 (Int.le_of_lt (Int.mul_pos oB.pos oM.pos)) (Int.le_of_lt (Int.mul_pos oA.pos oM.pos))).congr fun i hi => half_all hl px py oA oB oM i hi
theorem half_dot {ns : List Int} {xs ys : List (Int × Int)} {A B M : Int} (hn : ns.length = xs.length) (hl : xs.length = ys.length) (px : ∀ t ∈ xs, 0 < t.2) (py : ∀ t ∈ ys, 0 < t.2) (oA : Over2 xs A) (oB : Over2 ys B) (oM : Over2 (List.zipWith halfT xs ys) M) :
    dotS ns ((List.zipWith halfT xs ys).map (overT M)) * (2 * A * B) = dotS ns (xs.map (overT A)) * (B * M) + dotS ns (ys.map (overT B)) * (A * M) := by
  have lh := half_len hl
  rw [dot_an (by rw [List.length_map]; omega), dot_an (by rw [List.length_map]; omega), dot_an (by rw [List.length_map]; omega), List.length_map, List.length_map, List.length_map, lh, ← hl, ← sg_mul, ← sg_mul, ← sg_mul, ← sg_add]
  exact sg_congr fun i hi => by
    show An ns i * _ * (2 * A * B) = An ns i * _ * (B * M) + An ns i * _ * (A * M)
    rw [Int.mul_assoc, half_all hl px py oA oB oM i hi, Int.mul_add, Int.mul_assoc (An ns i) _ (B * M), Int.mul_assoc (An ns i) _ (A * M)]
theorem half_told {ns : List Int} {xs ys : List (Int × Int)} {A B M : Int} (hn : ns.length = xs.length) (hl : xs.length = ys.length) (px : ∀ t ∈ xs, 0 < t.2) (py : ∀ t ∈ ys, 0 < t.2) (oA : Over2 xs A) (oB : Over2 ys B) (oM : Over2 (List.zipWith halfT xs ys) M) :
    (redT (dotS ns ((List.zipWith halfT xs ys).map (overT M))) M, redB (dotS ns ((List.zipWith halfT xs ys).map (overT M))) M) = halfT (redT (dotS ns (xs.map (overT A))) A, redB (dotS ns (xs.map (overT A))) A) (redT (dotS ns (ys.map (overT B))) B, redB (dotS ns (ys.map (overT B))) B) := by
  have hd := half_dot (M := M) hn hl px py oA oB oM
  generalize dotS ns ((List.zipWith halfT xs ys).map (overT M)) = D at *
  generalize dotS ns (xs.map (overT A)) = X at *
  generalize dotS ns (ys.map (overT B)) = Y at *
  have a0 := redB_pos (t := X) oA.pos
  have b0 := redB_pos (t := Y) oB.pos
  have ea := red_mul (t := X) oA.pos
  have eb := red_mul (t := Y) oB.pos
  unfold halfT
  refine red_eq oM.pos (half_pos (a := (redT X A, redB X A)) (b := (redT Y B, redB Y B)) a0 b0) ?_
  show D * (2 * redB X A * redB Y B) = (redT X A * redB Y B + redT Y B * redB X A) * M
  generalize redT X A = t at *
  generalize redB X A = u at *
  generalize redT Y B = v at *
  generalize redB Y B = w at *
  have hAB := Int.mul_pos oA.pos oB.pos
  refine Int.eq_of_mul_eq_mul_right (show A * B ≠ 0 by omega) ?_
  calc D * (2 * u * w) * (A * B) = D * (2 * A * B) * (u * w) := by ac_rfl
    _ = (X * (B * M) + Y * (A * M)) * (u * w) := by rw [hd]
    _ = (u * X) * (w * (B * M)) + (w * Y) * (u * (A * M)) := by grind
    _ = (t * A) * (w * (B * M)) + (v * B) * (u * (A * M)) := by rw [ea, eb]
    _ = _ := by grind
theorem zeros_over (n : Nat) : Over2 (List.replicate n ((0 : Int), (1 : Int))) 1 := ⟨by decide, fun t ht => by rw [(List.mem_replicate.mp ht).2]; exact ⟨1, rfl⟩, by unfold Bt; decide⟩
theorem zeros_tops (n : Nat) : (List.replicate n ((0 : Int), (1 : Int))).map (overT 1) = List.replicate n 0 := by
  rw [List.map_replicate]
  rfl
theorem an_zeros (n i : Nat) : An (List.replicate n (0 : Int)) i = 0 := by
  unfold An
  rw [List.getD_eq_getElem?_getD, List.getElem?_replicate]
  split <;> rfl
theorem sg_zero : ∀ m, sg (fun _ => 0) m = 0
  | 0 => rfl
  | m + 1 => by rw [sg, sg_zero m]; rfl
theorem zeros_shows (n : Nat) : showsB ((List.replicate n ((0 : Int), (1 : Int))).map (overT 1)) = true := by
  rw [zeros_tops, shows_f]
  have z : ∀ (v : Nat → Int) (m : Nat), sg (fun i => An (List.replicate n (0 : Int)) i * v i) m = 0 := fun v m => by
    rw [sg_congr (g := fun _ => 0) fun i _ => by show An _ i * _ = 0; rw [an_zeros]; simp]
    exact sg_zero m
  refine ⟨?_, z _ _, fun p hp => ?_⟩
  · rw [sg_congr (g := fun _ => 0) fun i _ => an_zeros n i]
    exact sg_zero _
  · have e : ahF (An (List.replicate n (0 : Int))) p = 0 := z _ p
    rw [e]
    exact Int.le_refl _
theorem zeros_dot (ns : List Int) (n : Nat) (h : ns.length = n) : dotS ns ((List.replicate n ((0 : Int), (1 : Int))).map (overT 1)) = 0 := by
  rw [zeros_tops, dot_an (by rw [List.length_replicate]; exact h), sg_congr (g := fun _ => 0) fun i _ => by show _ * An _ i = 0; rw [an_zeros]; simp]
  exact sg_zero _
theorem an_set' {ns : List Int} {k j : Nat} {y : Int} (hk : k < ns.length) : An (ns.set k y) j = if j = k then y else An ns j := by
  unfold An
  rw [List.getD_eq_getElem?_getD, List.getD_eq_getElem?_getD, List.getElem?_set]
  by_cases e : k = j
  · subst e
    simp [hk]
  · rw [if_neg e, if_neg (fun z => e z.symm)]
/-! ### rows that bend, step by step -/
theorem an_app {ns ms : List Int} {i : Nat} (h : i < ns.length) : An (ns ++ ms) i = An ns i := an_val' (by rw [List.getElem?_append_left h]; exact an_at h)
theorem an_last {ns : List Int} {b : Int} : An (ns ++ [b]) ns.length = b := an_val' (by simp)
theorem bent_step {ns : List Int} {a b : Int} (hc : Conv (An (ns ++ [b])) (ns.length + 1)) (h : 1 ≤ ns.length → b - An ns (ns.length - 1) ≤ a) : Conv (An (ns ++ [b] ++ [b + a])) (ns.length + 2) := by
  intro j hj
  have l1 : (ns ++ [b]).length = ns.length + 1 := by rw [List.length_append]; rfl
  have f : ∀ i, i < ns.length + 1 → An (ns ++ [b] ++ [b + a]) i = An (ns ++ [b]) i := fun i hi => an_app (by omega)
  have g : ∀ i, i < ns.length → An (ns ++ [b]) i = An ns i := fun i hi => an_app hi
  have k : An (ns ++ [b] ++ [b + a]) (ns.length + 1) = b + a := by rw [← l1]; exact an_last
  have k2 : An (ns ++ [b]) ns.length = b := an_last
  by_cases c : j + 2 < ns.length + 1
  · rw [f _ (by omega), f _ (by omega), f _ c]
    exact hc j c
  · have e : j + 2 = ns.length + 1 := by omega
    have e2 : j + 1 = ns.length := by omega
    rw [e, k, e2, f _ (by omega), k2, f _ (by omega), g _ (by omega)]
    have z := h (by omega)
    rw [show ns.length - 1 = j by omega] at z
    omega
theorem bent_end {ns : List Int} {b : Int} (hc : Conv (An (ns ++ [b])) (ns.length + 1)) : Conv (An ns) ns.length := by
  intro j hj
  have z := hc j (by omega)
  rw [an_app (by omega), an_app (by omega), an_app (by omega)] at z
  exact z
theorem conv_one (b : Int) : Conv (An ([] ++ [b])) 1 := fun j hj => by omega
end Ob
namespace Ob
open PySem PySem.Spec PyProof.Rows L2
theorem sum_bt {k : Nat} : ∀ (l : List Int), (∀ z ∈ l, Bt k z) → l.sum.natAbs ≤ l.length * 2 ^ k
  | [], _ => by simp
  | a :: l, h => by
    have ih := sum_bt l fun z hz => h z (List.mem_cons_of_mem _ hz)
    have ha : a.natAbs < 2 ^ k := h a (List.mem_cons_self ..)
    rw [List.sum_cons, List.length_cons, Nat.add_mul, Nat.one_mul]
    have := Int.natAbs_add_le a l.sum
    omega
theorem dot_bt {ns xs : List Int} (hn : ∀ z ∈ ns, Bt 60 z) (hx : ∀ z ∈ xs, Bt 600 z) (hl : xs.length ≤ 12) : Bt 664 (dotS ns xs) := by
  unfold dotS
  have z := sum_bt (k := 660) ((ns.zip xs).map fun e => e.1 * e.2) fun z hz => by
    obtain ⟨e, he, rfl⟩ := List.mem_map.mp hz
    have q := List.of_mem_zip he
    exact (hn _ q.1).mul (hx _ q.2)
  have l : ((ns.zip xs).map fun e => e.1 * e.2).length ≤ 12 := by
    rw [List.length_map, List.length_zip]
    omega
  refine Nat.lt_of_le_of_lt z (Nat.lt_of_le_of_lt (Nat.mul_le_mul_right _ l) ?_)
  rw [show 664 = 4 + 660 from rfl, Nat.pow_add]
  exact Nat.mul_lt_mul_of_pos_right (by decide) (Nat.pow_pos (by decide))
def TS (ns : List Int) (ts : List (Int × Int)) (M : Int) : Int × Int := (redT (dotS ns (ts.map (overT M))) M, redB (dotS ns (ts.map (overT M))) M)
theorem TS.any {ns : List Int} {ts : List (Int × Int)} {L M : Int} (h : Over2 ts L) (g : Over2 ts M) : TS ns ts L = TS ns ts M := dot_any ns h g
theorem TS.pos {ns : List Int} {ts : List (Int × Int)} {M : Int} (h : Over2 ts M) : 0 < (TS ns ts M).2 := redB_pos h.pos
theorem TS.bt {ns : List Int} {ts : List (Int × Int)} {M : Int} (h : Over2 ts M) (pq : ∀ t ∈ ts, Pq t) (hn : ∀ z ∈ ns, Bt 60 z) (hl : ts.length ≤ 12) : Bt 1000 (TS ns ts M).1 ∧ Bt 1000 (TS ns ts M).2 := by
  have d := dot_bt (ns := ns) (xs := ts.map (overT M)) hn (fun z hz => by
    obtain ⟨t, ht, rfl⟩ := List.mem_map.mp hz
    have z1 : Bt 62 t.1 := (pq t ht).fq.top
    have z2 : Bt 500 (M / t.2) := h.bt.le (Int.natAbs_ediv_le_natAbs _ _)
    exact (z1.mul z2).mono (by decide)) (by rw [List.length_map]; exact hl)
  exact ⟨(d.le (Int.natAbs_ediv_le_natAbs _ _)).mono (by decide), (h.bt.le (Int.natAbs_ediv_le_natAbs _ _)).mono (by decide)⟩
theorem redT_nonpos {t b : Int} (hb : 0 < b) (h : t ≤ 0) : redT t b ≤ 0 := by
  have m := red_mul (t := t) hb
  have p := redB_pos (t := t) hb
  have z := Int.mul_nonpos_of_nonneg_of_nonpos (Int.le_of_lt p) h
  rw [← m] at z
  by_cases c : redT t b ≤ 0
  · exact c
  · have := Int.mul_pos (show 0 < redT t b by omega) hb
    omega
/-- a told fraction -/
def TldAt (H : Hp) (v : V) (ns : List Int) (ts : List (Int × Int)) : Prop := ∃ (rv : Addr) (M : Int), v = .ref rv ∧ Over2 ts M ∧ H rv = some (.tup [.int (TS ns ts M).1, .int (TS ns ts M).2])
theorem TldAt.same {H H' : Hp} {v : V} {ns : List Int} {ts : List (Int × Int)} (h : TldAt H v ns ts) (s : Same H H') : TldAt H' v ns ts := let ⟨r, M, e, o, k⟩ := h; ⟨r, M, e, o, s _ _ k⟩
theorem tup_ne {H : Hp} {r d : Addr} {xs : List V} (h : H r = some (.tup xs)) (hd : DkAt d H) : r ≠ d := fun z => by
  obtain ⟨ds, e, _⟩ := hd
  rw [← z, h] at e
  cases e
theorem TldAt.drew {d : Addr} {H H' : Hp} {v : V} {ns : List Int} {ts : List (Int × Int)} (h : TldAt H v ns ts) (hd : DkAt d H) (w : Drew d H H') : TldAt H' v ns ts := let ⟨r, M, e, o, k⟩ := h; ⟨r, M, e, o, w.keep _ _ k (tup_ne k hd)⟩
theorem FqL.drew {d : Addr} {H H' : Hp} {a : Addr} {rs : List Addr} {ts : List (Int × Int)} (h : FqL H a rs ts) (hd : DkAt d H) (w : Drew d H H') : FqL H' a rs ts := by
  refine ⟨w.keep a _ h.l fun z => ?_, Paired.mapP h.f fun r t e => w.keep _ _ e (tup_ne e hd), h.fr, h.one, h.most⟩
  obtain ⟨ds, e, _⟩ := hd
  rw [← z, h.l] at e
  have l1 : rs.length = ts.length := Paired.length h.f
  have o := h.one
  cases rs <;> cases ds <;> simp at e
  simp at l1
  omega
/-- told of prices: what they show, or None -/
def TldO (H : Hp) (v : V) (ns : List Int) (ts : List (Int × Int)) : Prop := (v = .non ∧ ∀ M, Over2 ts M → showsB (ts.map (overT M)) = false) ∨ (TldAt H v ns ts ∧ ∀ M, Over2 ts M → showsB (ts.map (overT M)) = true)
theorem TldO.same {H H' : Hp} {v : V} {ns : List Int} {ts : List (Int × Int)} (h : TldO H v ns ts) (s : Same H H') : TldO H' v ns ts := by
  rcases h with h | ⟨h, k⟩
  · exact .inl h
  · exact .inr ⟨h.same s, k⟩
theorem TldO.drew {d : Addr} {H H' : Hp} {v : V} {ns : List Int} {ts : List (Int × Int)} (h : TldO H v ns ts) (hd : DkAt d H) (w : Drew d H H') : TldO H' v ns ts := by
  rcases h with h | ⟨h, k⟩
  · exact .inl h
  · exact .inr ⟨h.drew hd w, k⟩
theorem with_rest0 {G R : Prop} (use : R → G) (rest : R) : G := use rest
def spHalfF : Sp := fun vs H Q _ => ∃ (r1 r2 : Addr) (a b : Int × Int), vs = [.ref r1, .ref r2] ∧ H r1 = some (.tup [.int a.1, .int a.2]) ∧ H r2 = some (.tup [.int b.1, .int b.2]) ∧ 0 < a.2 ∧ 0 < b.2 ∧ (Bt 1000 a.1 ∧ Bt 1000 a.2) ∧ (Bt 1000 b.1 ∧ Bt 1000 b.2) ∧ ∀ r, H r = none → Q (.ref r) (upd H r (.tup [.int (halfT a b).1, .int (halfT a b).2]))
def spLaw50 (K : PySem.W.Frag) (P1 P2 P3 P4 P5 P6 P7 : Addr) : Sp := fun vs H Q _ => Tb P1 H ∧ Tb P2 H ∧ Tb P3 H ∧ Tb P4 H ∧ Tb P5 H ∧ Tb P6 H ∧ Tb P7 H ∧ ∃ (a : Addr) (ns : List Int), vs = [.ref a] ∧ SqL K H a (ns.map V.int) ∧ ns.length ≤ 63 ∧ ∀ H', Same H H' → Q (.bl true) H'
structure Tb7 (P1 P2 P3 P4 P5 P6 P7 : Addr) (H : Hp) : Prop where
  t1 : Tb P1 H
  t2 : Tb P2 H
  t3 : Tb P3 H
  t4 : Tb P4 H
  t5 : Tb P5 H
  t6 : Tb P6 H
  t7 : Tb P7 H
theorem Tb7.same {P1 P2 P3 P4 P5 P6 P7 : Addr} {H H' : Hp} (h : Tb7 P1 P2 P3 P4 P5 P6 P7 H) (s : Same H H') : Tb7 P1 P2 P3 P4 P5 P6 P7 H' := ⟨s _ _ h.t1, s _ _ h.t2, s _ _ h.t3, s _ _ h.t4, s _ _ h.t5, s _ _ h.t6, s _ _ h.t7⟩
def BendF (t u v : Int × Int) : Prop := 2 * u.1 * t.2 * v.2 ≤ (t.1 * v.2 + v.1 * t.2) * u.2
theorem hull_bendF {A : Nat → Int} {n j : Nat} {t u v : Int × Int} (hj : j + 2 < n) (ht : HullAt A n j t) (hu : HullAt A n (j + 1) u) (hv : HullAt A n (j + 2) v) : BendF t u v := by
  rcases hu.on with ⟨h1, _⟩ | ⟨p, q, hpq, hqn, hp, hq, hs, e⟩
  · omega
  · have b1 := hull_bears hpq (by omega) hs ht
    have b2 := hull_bears hpq (by omega) hs hv
    have hd : (0 : Int) < (q : Int) - p := by omega
    have el : ln A p q j + ln A p q (j + 2) = 2 * ln A p q (j + 1) := by
      unfold ln
      have c1 : ((j + 1 : Nat) : Int) = (j : Int) + 1 := by omega
      have c2 : ((j + 2 : Nat) : Int) = (j : Int) + 2 := by omega
      rw [c1, c2]
      grind
    have pt := ht.pos
    have pu := hu.pos
    have pv := hv.pos
    unfold BendF
    generalize ln A p q j = a at *
    generalize ln A p q (j + 1) = b at *
    generalize ln A p q (j + 2) = c at *
    generalize (q : Int) - p = d at *
    refine Int.le_of_mul_le_mul_right (a := d) ?_ hd
    have m1 := Int.mul_le_mul_of_nonneg_right b1 (Int.le_of_lt (Int.mul_pos pv pu))
    have m2 := Int.mul_le_mul_of_nonneg_right b2 (Int.le_of_lt (Int.mul_pos pt pu))
    have e2 : 2 * u.1 * t.2 * v.2 * d = (a + c) * u.2 * (t.2 * v.2) := by
      rw [el]
      calc 2 * u.1 * t.2 * v.2 * d = 2 * (u.1 * d) * (t.2 * v.2) := by ac_rfl
        _ = 2 * (u.2 * b) * (t.2 * v.2) := by rw [e]
        _ = 2 * b * u.2 * (t.2 * v.2) := by ac_rfl
    rw [e2]
    grind
/-- the fractions of a bent row -/
theorem bent_fr {bs : List Int} {B : Int} (hb : Conv (An bs) bs.length) (o : Over2 (bs.map fun n => (n, (1 : Int))) B) : Conv (An ((bs.map fun n => (n, (1 : Int))).map (overT B))) (bs.map fun n => (n, (1 : Int))).length := by
  intro j hj
  rw [List.length_map] at hj
  have e : ∀ i, i < bs.length → An ((bs.map fun n => (n, (1 : Int))).map (overT B)) i = An bs i * B := fun i hi => by
    rw [an_mapT (t := (An bs i, 1)) (by rw [List.getElem?_map, an_at hi]; rfl)]
    show An bs i * (B / 1) = _
    rw [Int.ediv_one]
  rw [e _ (by omega), e _ (by omega), e _ hj]
  have z := Int.mul_le_mul_of_nonneg_right (hb j hj) (Int.le_of_lt o.pos)
  rw [Int.add_mul, Int.mul_assoc] at z
  exact z
theorem bent_told {fs : List (Int × Int)} {B : Int} (o : Over2 fs B) (px : ∀ t ∈ fs, 0 < t.2) (h : ∀ (j : Nat) (t u v : Int × Int), fs[j]? = some t → fs[j + 1]? = some u → fs[j + 2]? = some v → 2 * u.1 * (t.2 * v.2) ≤ (t.1 * v.2 + v.1 * t.2) * u.2) : Conv (An (fs.map (overT B))) fs.length := by
  intro j hj
  obtain ⟨t, ht⟩ : ∃ t, fs[j]? = some t := ⟨_, List.getElem?_eq_getElem (by omega)⟩
  obtain ⟨u, hu⟩ : ∃ u, fs[j + 1]? = some u := ⟨_, List.getElem?_eq_getElem (by omega)⟩
  obtain ⟨v, hv⟩ : ∃ v, fs[j + 2]? = some v := ⟨_, List.getElem?_eq_getElem hj⟩
  rw [an_mapT ht, an_mapT hu, an_mapT hv]
  have z := h j t u v ht hu hv
  have pt := px t (List.mem_of_getElem? ht)
  have pu := px u (List.mem_of_getElem? hu)
  have pv := px v (List.mem_of_getElem? hv)
  have e1 := Int.ediv_mul_cancel (o.dvd t (List.mem_of_getElem? ht))
  have e2 := Int.ediv_mul_cancel (o.dvd u (List.mem_of_getElem? hu))
  have e3 := Int.ediv_mul_cancel (o.dvd v (List.mem_of_getElem? hv))
  unfold overT
  generalize B / t.2 = p at *
  generalize B / u.2 = q at *
  generalize B / v.2 = s at *
  have hB := o.pos
  refine Int.le_of_mul_le_mul_right (a := t.2 * u.2 * v.2) ?_ (Int.mul_pos (Int.mul_pos pt pu) pv)
  have k := Int.mul_le_mul_of_nonneg_right z (Int.le_of_lt hB)
  calc 2 * (u.1 * q) * (t.2 * u.2 * v.2) = 2 * u.1 * (t.2 * v.2) * (q * u.2) := by ac_rfl
    _ = 2 * u.1 * (t.2 * v.2) * B := by rw [e2]
    _ ≤ (t.1 * v.2 + v.1 * t.2) * u.2 * B := k
    _ = t.1 * v.2 * u.2 * B + v.1 * t.2 * u.2 * B := by grind
    _ = t.1 * v.2 * u.2 * (p * t.2) + v.1 * t.2 * u.2 * (s * v.2) := by rw [e1, e3]
    _ = _ := by grind
end Ob

set_option maxHeartbeats 4000000
namespace Pg
open PySem PySem.Spec PyProof.Rows L2 Ob
def top (i : Nat) : Stmt := PySem.Challenge.pw_onebend_k50_whole_prices_and_rows.main.body.getD i (.Pass ⟨0, 0, 0, 0⟩)
abbrev sWhole : Stmt := top 7
abbrev sGcd : Stmt := top 8
abbrev sIsFr : Stmt := top 9
abbrev sLeast : Stmt := top 10
abbrev sShB : Stmt := top 11
abbrev sTops : Stmt := top 12
abbrev sLen : Stmt := top 15
abbrev sIsRow : Stmt := top 16
abbrev sIsRowF : Stmt := top 17
abbrev sCheck : Stmt := top 18
abbrev sCheckF : Stmt := top 19
abbrev sGG : Stmt := top 20
abbrev sCP : Stmt := top 21
abbrev sSG : Stmt := top 22
abbrev sSS : Stmt := top 23
abbrev sCM : Stmt := top 25
abbrev sHow : Stmt := top 26
abbrev sIsPr : Stmt := top 28
abbrev sArePr : Stmt := top 29
abbrev sChPr : Stmt := top 30
abbrev sAheadW : Stmt := top 31
abbrev sShows : Stmt := top 32
abbrev sWPS : Stmt := top 33
abbrev sLine : Stmt := top 35
abbrev sAbove : Stmt := top 36
abbrev sUnder : Stmt := top 37
abbrev sCorners : Stmt := top 38
abbrev sBelow : Stmt := top 39
abbrev sCellAt : Stmt := top 41
abbrev sStir : Stmt := top 42
abbrev sDeck : Stmt := top 43
abbrev sLNext : Stmt := top 44
abbrev sFar : Stmt := top 45
abbrev sBent : Stmt := top 46
abbrev sRow : Stmt := top 47
abbrev sLDiv : Stmt := top 48
abbrev sFraction : Stmt := top 49
abbrev sLPrices : Stmt := top 50
abbrev sHalf : Stmt := top 51
abbrev sLaw : Stmt := top 52
end Pg

set_option maxHeartbeats 4000000
namespace Pg
open PySem PySem.Spec PyProof.Rows L2 Ob
section
variable {P : Program} {w : World} {K : PySem.W.Frag} {mg : Str → Option Value} {base : Heap} {f g h : Addr} {fd gd hd : FuncData} {Pt c : Addr}
theorem scWhole : FnScope ["thing"] ["thing"] (defScope sWhole) := ⟨rfl, rfl, rfl, by decide +kernel, rfl, by decide +kernel, by decide +kernel⟩
theorem q_whole (F : Fun K "is_whole" "is_whole" sWhole f fd) (T : Tx mg) : FnQ P w K mg base 1 f fd ["thing"] spWholeI := by
  refine F.okQ scWhole (fun vs H Q E h => ?_) (fun cdv A outer s H vs Q E hr h => ?_)
  · obtain ⟨n, rfl, _⟩ := h
    rfl
  obtain ⟨n, rfl, q⟩ := h
  refine ⟨_, pss_one (ps_ret (pe_and (pe_callB call_isi rfl T.isi boot_isi (pa_cons (pv 0) (pa_cons (pe_bltn (v := .ty "int") rfl T.int Ob.boot_int rfl) pa_nil)))
    (pe_one (L2.pe_not (pe_callB call_isi rfl T.isi boot_isi (pa_cons (pv 0) (pa_cons (pe_bltn (v := .ty "bool") rfl T.bool Ob.boot_bool rfl) pa_nil))))))), ?_⟩
  exact ⟨_, rfl, _, "int", "int", true, rfl, .int n, rfl, true, rfl, iteT ⟨_, rfl, _, "int", "bool", false, rfl, .int n, rfl, false, rfl, q⟩⟩
theorem scGcd : FnScope ["one", "other"] ["one", "other"] (defScope sGcd) := ⟨rfl, rfl, rfl, by decide +kernel, rfl, by decide +kernel, by decide +kernel⟩
theorem q_gcd (F : Fun K "greatest_divisor" "greatest_divisor" sGcd f fd) (zabs : mg "abs" = none) : FnQ P w K mg base 1 f fd ["one", "other"] spGcd := by
  refine F.okQ scGcd (fun vs H Q E h => ?_) (fun cdv A outer s H vs Q E hr h => ?_)
  · obtain ⟨i, j, rfl, _⟩ := h
    rfl
  obtain ⟨i, j, rfl, q⟩ := h
  refine ⟨_, pss_cons (ps_par (i := 0) (j := 1) (by rfl) scGcd.nd rfl rfl (by decide) rfl rfl (pa_cons (pe_callB call_abs rfl zabs boot_abs' (pa_cons (pv 0) pa_nil)) (pa_cons (pe_callB call_abs rfl zabs boot_abs' (pa_cons (pv 1) pa_nil)) pa_nil)) (by rfl))
    (pss_cons (ps_while PassesOwn.never (pt_cmpR op_ne (pv 1) pe_int (nomark _)) (pss_one (ps_par (i := 0) (j := 1) (by rfl) scGcd.nd rfl rfl (by decide) rfl rfl (pa_cons (pv 1) (pa_cons (pe_op op_mod (pv 0) (pv 1)) pa_nil)) (by rfl))))
    (pss_one (ps_ret (pv 0)))), ?_⟩
  refine ⟨_, rfl, _, rfl, _, rfl, _, rfl, _, _, rfl, ?_⟩
  refine while_by (fun σ H' => ∃ x y : Int, σ = [some (.int x), some (.int y)] ∧ 0 ≤ x ∧ 0 ≤ y ∧ Int.gcd x y = Int.gcd i j ∧ H' = H) (fun σ _ => match σ with | [_, some (.int y)] => y.toNat | _ => 0) ⟨_, _, rfl, by split <;> omega, by split <;> omega, ?_, rfl⟩ ?_ ?_
  · have e1 : Int.gcd (if i < 0 then -i else i) (if j < 0 then -j else j) = Int.gcd i j := by
      split <;> split <;> simp
    exact e1
  · rintro σ H' ⟨x, y, rfl, hx, hy, hg, rfl⟩
    refine ⟨_, rfl, rfl, _, rfl, ?_⟩
    by_cases e : y = 0
    · subst e
      rw [decide_eq_true (rfl : V.int 0 = V.int 0)]
      refine iteF ⟨_, rfl, ?_⟩
      have ex : x = (Int.gcd i j : Int) := by
        rw [← hg, Int.gcd_zero]
        omega
      rw [ex]
      exact q
    · rw [decide_eq_false (fun z => e (by injection z) : ¬ V.int y = V.int 0)]
      refine iteT ?_
      have hy0 : 0 < y := by omega
      refine ⟨_, rfl, _, rfl, _, rfl, _, _, rfl, rfl, hy0, _, _, rfl, ?_⟩
      refine ⟨⟨y, x % y, rfl, hy, Int.emod_nonneg _ e, (gcd_turn hx hy0).trans hg, rfl⟩, ?_⟩
      have h1 := Int.emod_lt_of_pos x hy0
      have h2 := Int.emod_nonneg x e
      show (x % y).toNat < y.toNat
      omega
  · rintro σ H' Q1 Q2 hQ ⟨v, e1, h2, k, e2, h3⟩
    exact ⟨v, e1, h2, k, e2, hQ _ _ h3⟩
theorem scIsFr : FnScope ["thing", "top", "bottom"] ["thing"] (defScope sIsFr) := ⟨rfl, rfl, rfl, by decide +kernel, rfl, by decide +kernel, by decide +kernel⟩
theorem q_isfr (F : Fun K "is_fraction" "is_fraction" sIsFr f fd) (T : Tx mg) (zt : mg "tuple" = none) (G : FnQ P w K mg base 1 g gd ["thing"] spWholeI) (bG : Binds K gd ["thing"] []) (kG : PySem.W.keepIn K (.ref g) = true) (mG : mg "is_whole" = some (.ref g))
    (GD : FnQ P w K mg base 1 h hd ["one", "other"] spGcd) (bD : Binds K hd ["one", "other"] []) (kD : PySem.W.keepIn K (.ref h) = true) (mD : mg "greatest_divisor" = some (.ref h)) : FnQ P w K mg base 2 f fd ["thing"] spIsFr := by
  refine F.okQ scIsFr (fun vs H Q E h => ?_) (fun cdv A outer s H vs Q E hr h => ?_)
  · obtain ⟨r, ob, t, b, rfl, _⟩ := h
    rfl
  obtain ⟨r, ob, t, b, rfl, hr', hb, hg, q⟩ := h
  refine ⟨_, pss_cons (ps_if (PW.pt (pw_or (pt_not (pt_val (pe_callB call_isi rfl T.isi boot_isi (pa_cons (pv 0) (pa_cons (pe_bltn (v := .ty "tuple") rfl zt boot_tuple2 rfl) pa_nil))))) (pw_or1 (pt_cmp (pc_neI (pe_callB call_len_seq rfl T.len PySem.boot_len (pa_cons (pv 0) pa_nil)) pe_int))))) (pss_one (ps_ret pe_bl)) pss_nil)
    (pss_cons (ps_asg (pv 0) (pg_tup (by rfl) (pgs_cons (pg_name (i := 1) scIsFr.nd rfl (Or.inl rfl)) (pgs_cons (pg_name (i := 2) scIsFr.nd rfl (Or.inl rfl)) pgs_nil))))
    (pss_cons (ps_if (PW.pt (pw_or (pt_not (pt_val (pe_callQ G hr rfl mG kG bG .nil (pa_cons (pv 1) pa_nil)))) (pw_or (pt_not (pt_val (pe_callQ G hr rfl mG kG bG .nil (pa_cons (pv 2) pa_nil)))) (pw_or1 (pt_cmp (pc_lt (pv 2) pe_int)))))) (pss_one (ps_ret pe_bl)) pss_nil)
    (pss_one (ps_ret (pe_cmp (pc_eqI (pe_callQ GD hr rfl mD kD bD .nil (pa_cons (pv 1) (pa_cons (pv 2) pa_nil))) pe_int)))))), ?_⟩
  have S : SqT K H r [.int t, .int b] := .inl (.inr ⟨ob, hr'⟩)
  refine ⟨_, rfl, _, "tuple", "tuple", true, rfl, .frt hr', rfl, true, rfl, iteF ⟨_, rfl, r, _, rfl, .inr S, _, _, rfl, rfl, _, rfl, iteF ?_⟩⟩
  refine ⟨_, rfl, r, _, rfl, S, rfl, _, _, rfl, _, _, rfl, rfl, ?_⟩
  refine ⟨_, rfl, _, rfl, true, rfl, iteF ⟨_, rfl, _, rfl, true, rfl, iteF ⟨_, rfl, _, _, rfl, rfl, _, rfl, ?_⟩⟩⟩
  refine ite2 (fun e => ?_) (fun e => ?_)
  · have z : b < 1 := of_decide_eq_true e
    omega
  refine ⟨_, rfl, _, rfl, _, _, rfl, _, _, rfl, rfl, ?_⟩
  show Q (.bl (decide ((Int.gcd t b : Int) = 1))) H
  rw [hg]
  exact q
end
end Pg

set_option maxHeartbeats 4000000
namespace Pg
open PySem PySem.Spec PyProof.Rows L2 Ob
section
variable {P : Program} {w : World} {K : PySem.W.Frag} {mg : Str → Option Value} {base : Heap} {f g : Addr} {fd gd : FuncData} {Pt c : Addr}
theorem scLen : FnScope ["thing"] ["thing"] (defScope sLen) := ⟨rfl, rfl, rfl, by decide +kernel, rfl, by decide +kernel, by decide +kernel⟩
theorem ok_len (F : Fun K "is_list_of_row_length" "is_list_of_row_length" sLen f fd) (T : Tx mg) : FnOk P w K mg base CX0 1 f fd ["thing"] (spLen K) := by
  refine F.ok scLen (fun vs H Q E h => ?_) (fun cdv A outer s H vs Q E hr h => ?_)
  · obtain ⟨v, rfl, _⟩ := h
    rfl
  obtain ⟨tm, hmost⟩ := T.most
  obtain ⟨v, rfl, h⟩ := h
  refine ⟨_, pss_one (ps_ret (pe_and (pe_callB call_isi rfl T.isi boot_isi (pa_cons (pv 0) (pa_cons (pe_bltn (v := .ty "list") rfl T.list boot_list rfl) pa_nil)))
    (pe_one (pe_chain op_le op_le pe_int (pe_callB call_len_seq rfl T.len PySem.boot_len (pa_cons (pv 0) pa_nil)) (pe_glob (v := .int 12) rfl hmost ⟨tm, rfl⟩))))), ?_⟩
  rcases h with ⟨a, xs, rfl, ha, q⟩ | ⟨T', ty, e, q⟩
  · refine ⟨_, rfl, _, "list", "list", true, rfl, .lst ha, rfl, true, rfl, iteT ?_⟩
    refine ⟨_, rfl, a, xs, rfl, .inl (SqL.of ha), _, _, rfl, rfl, _, rfl, ?_⟩
    by_cases h1 : 1 ≤ xs.length
    · have e1 : decide ((1 : Int) ≤ (xs.length : Int)) = true := decide_eq_true (by omega)
      rw [e1]
      refine iteT ⟨_, _, rfl, rfl, ?_⟩
      have e2 : decide ((xs.length : Int) ≤ 12) = decide (xs.length ≤ 12) := decide_eq_decide.mpr (by omega)
      show Q (.bl (decide ((xs.length : Int) ≤ 12))) H
      rw [e2]
      rw [decide_eq_true h1, Bool.true_and] at q
      exact q
    · have e1 : decide ((1 : Int) ≤ (xs.length : Int)) = false := decide_eq_false (by omega)
      rw [e1]
      rw [decide_eq_false h1, Bool.false_and] at q
      exact iteF q
  · exact ⟨_, rfl, _, T', "list", false, rfl, ty, e, false, rfl, iteF q⟩
theorem scIsRow : FnScope ["thing"] ["thing"] (defScope sIsRow) := ⟨rfl, rfl, rfl, by decide +kernel, rfl, by decide +kernel, by decide +kernel⟩
theorem ok_isrow (F : Fun K "is_row" "is_row" sIsRow f fd) (hc : fd.code = .ref c) (T : Tx mg) (CB : CodeB base c Pt) (BM : ∃ bm ob, BMod base mainGlobals mg bm ob) {fw : Addr} (W : WholeFn K mg fw)
    (G : FnOk P w K mg base CX0 1 g gd ["thing"] (spLen K)) (bG : Binds K gd ["thing"] []) (kG : PySem.W.keepIn K (.ref g) = true) (mG : mg "is_list_of_row_length" = some (.ref g)) : FnOk P w K mg base CX0 3 f fd ["thing"] (spIsRow K Pt) := by
  refine okC F hc scIsRow (fun vs H Q E h => ?_) (fun A outer s H vs Q E hr h => ?_)
  · obtain ⟨_, v, rfl, _⟩ := h
    rfl
  obtain ⟨hP, v, rfl, h⟩ := h
  have hr1 : Room 1 _ := hr.mono (by decide)
  refine ⟨_, pss_one (ps_ret (pe_and (pe_call G hr1 rfl mG kG bG .nil pass0 (pa_cons (pv 0) pa_nil))
    (pe_one (pe_allW (f := fw) (c := c) (P := Pt) rfl ⟨CB, BM, rfl⟩ W hr rfl T.all (pv 0) rfl rfl (by decide +kernel) (by decide +kernel) (by decide +kernel) (by decide +kernel) rfl (fun _ => rfl))))), ?_⟩
  rcases h with ⟨a, xs, q, rfl, ha, hj, hq⟩ | ⟨T', ty, e, hq⟩
  · refine ⟨_, rfl, _, rfl, .inl ⟨a, xs, rfl, ha, ?_⟩⟩
    refine ⟨_, rfl, ?_⟩
    cases hb : (decide (1 ≤ xs.length) && decide (xs.length ≤ 12)) with
    | true =>
      rw [hb, Bool.true_and] at hq
      exact iteT ⟨_, rfl, a, xs, q, rfl, SqL.of ha, hP, hj, hq⟩
    | false =>
      rw [hb, Bool.false_and] at hq
      exact iteF hq
  · exact ⟨_, rfl, _, rfl, .inr ⟨T', ty, e, _, rfl, iteF hq⟩⟩
end
end Pg


set_option maxHeartbeats 4000000
namespace Pg
open PySem PySem.Spec PyProof.Rows L2 Ob
section
variable {P : Program} {w : World} {K : PySem.W.Frag} {mg : Str → Option Value} {base : Heap} {f g h : Addr} {fd gd hd : FuncData} {Pt c : Addr}
theorem scCheck : FnScope ["numbers"] ["numbers"] (defScope sCheck) := ⟨rfl, rfl, rfl, by decide +kernel, rfl, by decide +kernel, by decide +kernel⟩
theorem ok_check (F : Fun K "check_row" "check_row" sCheck f fd)
    (G : FnOk P w K mg base CX0 3 g gd ["thing"] (spIsRow K Pt)) (bG : Binds K gd ["thing"] []) (kG : PySem.W.keepIn K (.ref g) = true) (mG : mg "is_row" = some (.ref g)) : FnOk P w K mg base CX0 4 f fd ["numbers"] (spCheck K Pt) := by
  refine F.ok scCheck (fun vs H Q E h => ?_) (fun cdv A outer s H vs Q E hr h => ?_)
  · obtain ⟨_, a, ns, rfl, _⟩ := h
    rfl
  obtain ⟨hP, a, ns, rfl, ha, h1, h2, q⟩ := h
  refine ⟨_, pss_one (ps_if (pt_not (pt_val (pe_call G hr rfl mG kG bG .nil pass0 (pa_cons (pv 0) pa_nil)))) pss_never pss_nil), ?_⟩
  refine ⟨_, rfl, hP, _, rfl, .inl ⟨a, _, _, rfl, ha, judged_ints K H ns, ?_⟩⟩
  have e : (decide (1 ≤ (ns.map V.int).length) && decide ((ns.map V.int).length ≤ 12) && (ns.map V.int).all fun _ => true) = true := by
    rw [List.length_map]
    simp [h1, h2]
  rw [e]
  exact ⟨_, rfl, iteF q⟩
end
end Pg

set_option maxHeartbeats 4000000
namespace Pg
open PySem PySem.Spec PyProof.Rows L2 Ob
section
variable {P : Program} {w : World} {K : PySem.W.Frag} {mg : Str → Option Value} {base : Heap} {f g h : Addr} {fd gd hd : FuncData} {Pt c : Addr}
theorem scIsRowF : FnScope ["thing"] ["thing"] (defScope sIsRowF) := ⟨rfl, rfl, rfl, by decide +kernel, rfl, by decide +kernel, by decide +kernel⟩
theorem ok_isrowF (F : Fun K "is_row_of_fractions" "is_row_of_fractions" sIsRowF f fd) (hc : fd.code = .ref c) (T : Tx mg) (CB : CodeB base c Pt) (BM : ∃ bm ob, BMod base mainGlobals mg bm ob)
    (GQ : FnQ P w K mg base 2 h hd ["thing"] spIsFr) (bQ : ∀ (s : Shared) (u : Value), BindsTo s hd ⟨[u], []⟩ [("thing", u)]) (kQ : PySem.W.keepIn K (.ref h) = true) (mQ : mg "is_fraction" = some (.ref h))
    (G : FnOk P w K mg base CX0 1 g gd ["thing"] (spLen K)) (bG : Binds K gd ["thing"] []) (kG : PySem.W.keepIn K (.ref g) = true) (mG : mg "is_list_of_row_length" = some (.ref g)) : FnOk P w K mg base CX0 4 f fd ["thing"] (spIsRowF2 Pt) := by
  refine okC F hc scIsRowF (fun vs H Q E h => ?_) (fun A outer s H vs Q E hr h => ?_)
  · obtain ⟨_, a, rs, ts, rfl, _⟩ := h
    rfl
  obtain ⟨hP, a, rs, ts, rfl, L, q⟩ := h
  have hr1 : Room 1 _ := hr.mono (by decide)
  refine ⟨_, pss_one (ps_ret (pe_and (pe_call G hr1 rfl mG kG bG .nil pass0 (pa_cons (pv 0) pa_nil))
    (pe_one (pe_allQ (c := c) (P := Pt) rfl ⟨CB, BM, rfl⟩ GQ bQ kQ mQ hr rfl T.all (pv 0) rfl rfl (by decide +kernel) (by decide +kernel) (by decide +kernel) (by decide +kernel) rfl (fun _ => rfl))))), ?_⟩
  have l1 : rs.length = ts.length := Paired.length L.f
  have o1 := L.one
  have o2 := L.most
  refine ⟨_, rfl, _, rfl, .inl ⟨a, _, rfl, L.l, ?_⟩⟩
  refine ⟨_, rfl, ?_⟩
  have hb : (decide (1 ≤ (rs.map V.ref).length) && decide ((rs.map V.ref).length ≤ 12)) = true := by
    rw [List.length_map, l1]
    simp [o1, o2]
  rw [hb]
  refine iteT ⟨_, rfl, a, _, fun _ => true, rfl, SqL.of L.l, hP, fun x hx => ?_, ?_⟩
  · obtain ⟨i, hi⟩ := List.mem_iff_getElem?.mp hx
    obtain ⟨r, t, rfl, ht, hrt, fr⟩ := L.at hi
    exact .inr ⟨r, _, rfl, .inl ⟨hrt, fun ob => ⟨r, ob, _, _, rfl, upd_same, fr.pos, fr.cop, rfl⟩⟩⟩
  · have e : ((rs.map V.ref).all fun _ => true) = true := by simp
    rw [e]
    exact q
abbrev nShB : List Str := ["fractions", "shared", "top", "bottom"]
theorem scShB : FnScope nShB ["fractions"] (defScope sShB) := ⟨rfl, rfl, rfl, by decide +kernel, rfl, by decide +kernel, by decide +kernel⟩
theorem ok_shb (F : Fun K "shared_bottom" "shared_bottom" sShB f fd) (G : FnOk P w K mg base CX0 1 g gd ["one", "other"] spGcd) (bG : Binds K gd ["one", "other"] []) (kG : PySem.W.keepIn K (.ref g) = true) (mG : mg "greatest_divisor" = some (.ref g)) : FnOk P w K mg base CX0 2 f fd ["fractions"] spShB2 := by
  refine F.ok scShB (fun vs H Q E h => ?_) (fun cdv A outer s H vs Q E hr h => ?_)
  · obtain ⟨a, rs, ts, rfl, _⟩ := h
    rfl
  obtain ⟨a, rs, ts, rfl, L, q⟩ := h
  refine ⟨_, pss_cons (ps_set (i := 1) scShB.nd rfl (Or.inl rfl) pe_int)
    (pss_cons (ps_for PassesOwn.never rfl (pi_list (pv 0)) (pg_tup rfl (pgs_cons (pg_name (i := 2) scShB.nd rfl (Or.inl rfl)) (pgs_cons (pg_name (i := 3) scShB.nd rfl (Or.inl rfl)) pgs_nil)))
      (pss_one (ps_set (i := 1) scShB.nd rfl (Or.inl rfl) (pe_op op_mul (pe_op op_fdivL (pv 1) (pe_call G hr rfl mG kG bG .nil pass0 (pa_cons (pv 1) (pa_cons (pv 3) pa_nil)))) (pv 3)))))
    (pss_one (ps_ret (pv 1)))), ?_⟩
  have l1 : rs.length = ts.length := Paired.length L.f
  refine ⟨_, rfl, a, rfl, ⟨_, SqL.of L.l⟩, ?_⟩
  refine for_list (K := K) (a := a) (xs := rs.map V.ref) (fun i σ H' => H' = H ∧ ∃ (v1 v2 : Option V) (S : Int), σ = [some (.ref a), some (.int S), v1, v2] ∧ 0 < S ∧ (∀ t ∈ ts.take i, t.2 ∣ S) ∧ Bt (40 * i + 1) S) ⟨rfl, _, _, _, rfl, by decide, fun t ht => by simp at ht, by unfold Bt; decide⟩ (fun i σ H' _ ⟨e, _⟩ => e ▸ SqL.of L.l) ?_ ?_
  · rintro i x σ H' hx ⟨rfl, v1, v2, S, rfl, hS0, hSd, hSb⟩
    obtain ⟨r, t, rfl, ht, hrt, fr⟩ := L.at hx
    have fp := fr.pos
    have fb := fr.small
    have st := lcm_step (N := S * t.2) hS0 fp ⟨t.2, rfl⟩ ⟨S, by rw [Int.mul_comm]⟩
    have g0 := gcd_pos (t := S) fp
    have g1 := gcd_le (t := S) fp
    refine ⟨r, _, rfl, SqT.of hrt, rfl, _, _, rfl, _, _, rfl, rfl, ?_⟩
    refine ⟨_, rfl, _, rfl, _, rfl, _, _, rfl, _, _, rfl, rfl, ⟨g0, by omega⟩, _, rfl, _, _, rfl, rfl, .inr ⟨by omega, by omega⟩, ?_⟩
    refine ⟨rfl, _, _, _, rfl, st.1, fun u hu => ?_, ?_⟩
    · rw [take_next ht, List.mem_append] at hu
      rcases hu with hu | hu
      · exact Int.dvd_trans (hSd u hu) st.2.2.1
      · rw [List.mem_singleton.mp hu]
        exact st.2.2.2
    · have e2 : Bt (40 * i + 1) (S / (Int.gcd S t.2 : Int)) := hSb.le (Int.natAbs_ediv_le_natAbs _ _)
      have e3 : Bt 40 t.2 := by unfold Bt; omega
      exact (e2.mul e3).mono (by omega)
  · rintro σ H' ⟨rfl, v1, v2, S, rfl, hS0, hSd, hSb⟩
    rw [List.length_map, l1] at hSd hSb
    rw [List.take_of_length_le (Nat.le_refl _)] at hSd
    have := L.most
    exact ⟨_, rfl, q S ⟨hS0, hSd, hSb.mono (by omega)⟩⟩
abbrev nTops : List Str := ["fractions", "shared", "top", "bottom"]
theorem scTops : FnScope nTops ["fractions", "shared"] (defScope sTops) := ⟨rfl, rfl, rfl, by decide +kernel, rfl, by decide +kernel, by decide +kernel⟩
theorem ok_tops (F : Fun K "tops_over" "tops_over" sTops f fd) : FnOk P w K mg base CX0 1 f fd ["fractions", "shared"] spTops2 := by
  refine F.ok scTops (fun vs H Q E h => ?_) (fun cdv A outer s H vs Q E hr h => ?_)
  · obtain ⟨a, rs, ts, L, rfl, _⟩ := h
    rfl
  obtain ⟨a, rs, ts, S, rfl, L, ⟨hS0, hSd, hSb⟩, q⟩ := h
  have l1 : rs.length = ts.length := Paired.length L.f
  refine ⟨_, pss_one (ps_ret (pe_lc (own := [("top", 2), ("bottom", 3)]) (g := gTup K 2 (gCons (gName 2) (gCons (gName 3) gNil))) (by rfl) scTops.nd (pi_list (pv 0))
    (blkOk_by (own := [("top", 2), ("bottom", 3)]) (N := nTops) (sc := defScope sTops) (by decide +kernel))
    (fun _ _ _ _ _ => pg_tup rfl (pgs_cons (pg_name (i := 2) scTops.nd rfl (Or.inl rfl)) (pgs_cons (pg_name (i := 3) scTops.nd rfl (Or.inl rfl)) pgs_nil)))
    (fun _ _ _ _ _ => pts_nil) (fun _ _ _ _ _ => pe_op op_mul (pv 2) (pe_op op_fdivL (pv 1) (pv 3))))), ?_⟩
  refine ⟨_, rfl, a, rfl, ⟨_, SqL.of L.l⟩, fun D hD => ?_⟩
  refine lc_list (K := K) (a := a) (xs := rs.map V.ref) (fun i H' => Same H H' ∧ H' D = some (.lst (((ts.take i).map (overT S)).map V.int))) ⟨same_new hD _, by rw [upd_same]; rfl⟩ (fun i H' _ ⟨s', _⟩ => s'.seq (SqL.of L.l)) ?_ ?_
  · rintro i x H' hx ⟨s', e'⟩
    obtain ⟨r, t, rfl, ht, hrt, fr⟩ := L.at hx
    have fb := fr.small
    have fp := fr.pos
    have ft := fr.top
    refine ⟨r, _, rfl, SqT.of (s' _ _ hrt), rfl, _, _, rfl, _, _, rfl, rfl, rfl, ?_⟩
    refine ⟨_, rfl, _, rfl, _, rfl, _, _, rfl, rfl, ⟨fp, by omega⟩, _, _, rfl, rfl, .inl ⟨by omega, by omega⟩, _, e', ?_, ?_, ?_⟩
    · refine Nat.lt_of_le_of_lt ?_ (small1000 (n := 12) (by decide))
      rw [List.length_map, List.length_map, List.length_take]
      have := L.most
      omega
    · intro b o e
      rw [upd_ne (ne_of_none e hD)]
      exact s' b o e
    · rw [upd_same, take_next ht, List.map_append, List.map_append]
      rfl
  · rintro H' ⟨s', e'⟩
    rw [List.length_map, l1, List.take_of_length_le (Nat.le_refl _)] at e'
    exact q D H' s' hD e'
theorem scCheckF : FnScope ["fractions"] ["fractions"] (defScope sCheckF) := ⟨rfl, rfl, rfl, by decide +kernel, rfl, by decide +kernel, by decide +kernel⟩
theorem ok_checkF (F : Fun K "check_row_of_fractions" "check_row_of_fractions" sCheckF f fd)
    (G : FnOk P w K mg base CX0 4 g gd ["thing"] (spIsRowF2 Pt)) (bG : Binds K gd ["thing"] []) (kG : PySem.W.keepIn K (.ref g) = true) (mG : mg "is_row_of_fractions" = some (.ref g)) : FnOk P w K mg base CX0 5 f fd ["fractions"] (spCheckF Pt) := by
  refine F.ok scCheckF (fun vs H Q E h => ?_) (fun cdv A outer s H vs Q E hr h => ?_)
  · obtain ⟨_, a, rs, ts, rfl, _⟩ := h
    rfl
  obtain ⟨hP, a, rs, ts, rfl, L, q⟩ := h
  refine ⟨_, pss_one (ps_if (pt_not (pt_val (pe_call G hr rfl mG kG bG .nil pass0 (pa_cons (pv 0) pa_nil)))) pss_never pss_nil), ?_⟩
  exact ⟨_, rfl, hP, a, rs, ts, rfl, L, _, rfl, iteF q⟩
theorem scLeast : FnScope ["top", "bottom", "divisor"] ["top", "bottom"] (defScope sLeast) := ⟨rfl, rfl, rfl, by decide +kernel, rfl, by decide +kernel, by decide +kernel⟩
theorem ok_leastB (F : Fun K "in_least_numbers" "in_least_numbers" sLeast f fd) (G : FnOk P w K mg base CX0 1 g gd ["one", "other"] spGcd) (bG : Binds K gd ["one", "other"] []) (kG : PySem.W.keepIn K (.ref g) = true) (mG : mg "greatest_divisor" = some (.ref g)) : FnOk P w K mg base CX0 2 f fd ["top", "bottom"] spLeastB := by
  refine F.ok scLeast (fun vs H Q E h => ?_) (fun cdv A outer s H vs Q E hr h => ?_)
  · obtain ⟨t, b, rfl, _⟩ := h
    rfl
  obtain ⟨t, b, rfl, hb, hb2, q⟩ := h
  refine ⟨_, pss_cons (ps_set (i := 2) scLeast.nd rfl (Or.inl rfl) (pe_call G hr rfl mG kG bG .nil pass0 (pa_cons (pv 0) (pa_cons (pv 1) pa_nil))))
    (pss_one (ps_ret (pe_tup (pa_cons (pe_op op_fdivB (pv 0) (pv 2)) (pa_cons (pe_op op_fdivB (pv 1) (pv 2)) pa_nil))))), ?_⟩
  have g0 := gcd_pos (t := t) hb
  have g1 := gcd_le (t := t) hb
  have g2 : Bt 4000 (Int.gcd t b : Int) := hb2.le (by omega)
  refine ⟨_, rfl, _, rfl, t, b, rfl, ?_⟩
  exact ⟨_, rfl, _, rfl, _, _, rfl, rfl, ⟨g0, 4000, g2, by decide⟩, _, rfl, _, rfl, _, _, rfl, rfl, ⟨g0, 4000, g2, by decide⟩, (by show 2 ≤ sizeLine; decide), fun r hr' => q r hr'⟩
theorem scGG : FnScope ["gaps", "bottom"] ["gaps", "bottom"] (defScope sGG) := ⟨rfl, rfl, rfl, by decide +kernel, rfl, by decide +kernel, by decide +kernel⟩
theorem ok_gg (F : Fun K "greatest_gap" "greatest_gap" sGG f fd) (T : Tx mg) (G : FnOk P w K mg base CX0 2 g gd ["top", "bottom"] spLeastB) (bG : Binds K gd ["top", "bottom"] []) (kG : PySem.W.keepIn K (.ref g) = true) (mG : mg "in_least_numbers" = some (.ref g)) : FnOk P w K mg base CX0 3 f fd ["gaps", "bottom"] (spMeas "greatest") := by
  refine F.ok scGG (fun vs H Q E h => ?_) (fun cdv A outer s H vs Q E hr h => ?_)
  · obtain ⟨a, gs, L, rfl, _⟩ := h
    rfl
  obtain ⟨a, gs, L, rfl, ha, h1, h2, hL, hB, hg, q⟩ := h
  refine ⟨_, pss_one (ps_ret (pe_call G hr rfl mG kG bG .nil pass0 (pa_cons (pe_callB (cr_max rfl) rfl T.max PyProof.Rows.boot_max (pa_cons (pv 0) pa_nil)) (pa_cons (pv 1) pa_nil)))), ?_⟩
  refine ⟨_, rfl, a, gs, rfl, SqL.of ha, by omega, fun m hm hle => ?_⟩
  refine ⟨_, rfl, m, L, rfl, hL, hB.mono (by decide), fun r hr' => ?_⟩
  exact q r _ (redT m L, redB m L) (.inl ⟨rfl, m, hm, hle, rfl⟩) (same_new hr' _) hr' upd_same
theorem scCP : FnScope ["gaps", "bottom", "gap"] ["gaps", "bottom"] (defScope sCP) := ⟨rfl, rfl, rfl, by decide +kernel, rfl, by decide +kernel, by decide +kernel⟩
theorem ok_cp (F : Fun K "changed_places" "changed_places" sCP f fd) (T : Tx mg) : FnOk P w K mg base CX0 1 f fd ["gaps", "bottom"] (spMeas "changed") := by
  refine F.ok scCP (fun vs H Q E h => ?_) (fun cdv A outer s H vs Q E hr h => ?_)
  · obtain ⟨a, gs, L, rfl, _⟩ := h
    rfl
  obtain ⟨a, gs, L, rfl, ha, h1, h2, hL, hB, hg, q⟩ := h
  refine ⟨_, pss_one (ps_ret (pe_tup (pa_cons (pe_callB call_len_seq rfl T.len PySem.boot_len (pa_cons (pe_lc (own := [("gap", 2)]) (g := gName 2) (by rfl) scCP.nd (pi_list (pv 0)) (blkOk_by (own := [("gap", 2)]) (N := ["gaps", "bottom", "gap"]) (sc := defScope sCP) (by decide +kernel)) (fun _ _ _ _ _ => pg_name (i := 2) scCP.nd rfl (Or.inl rfl))
      (fun _ _ _ _ _ => pts_one (pt_cmp (pc_neI (pv 2) pe_int))) (fun _ _ _ _ _ => pv 2)) pa_nil)) (pa_cons pe_int pa_nil)))), ?_⟩
  refine ⟨_, rfl, a, rfl, ⟨_, SqL.of ha⟩, fun D hD => ?_⟩
  refine lc_list (K := K) (a := a) (xs := gs.map V.int) (fun i H' => Same H H' ∧ H' D = some (.lst (((gs.take i).filter isGap).map V.int))) ⟨same_new hD _, upd_same⟩ (fun i H' _ ⟨s', _⟩ => s'.seq (SqL.of ha)) ?_ ?_
  · rintro i y H' hi ⟨s', e'⟩
    obtain ⟨u, rfl, hu⟩ := ints_at hi
    refine ⟨rfl, ?_⟩
    refine ⟨_, rfl, _, _, rfl, rfl, _, rfl, ?_⟩
    refine ite2 (fun e => ?_) (fun e => ?_)
    · have eg : isGap u = true := by
        have e' : (!decide (u = 0)) = true := e
        unfold isGap
        simpa using e'
      refine ⟨_, rfl, _, e', ?_, put_new s' hD, ?_⟩
      · refine fill_len (k := 12) ?_ (by decide)
        have := List.length_filter_le isGap (gs.take i)
        rw [List.length_take] at this
        omega
      · rw [upd_same, take_next hu, List.filter_append, List.map_append, List.filter_cons_of_pos eg]
        rfl
    · have eg : ¬ isGap u = true := fun z => e (by
        show (!decide (u = 0)) = true
        unfold isGap at z
        simpa using z)
      refine ⟨s', ?_⟩
      rw [take_next hu, List.filter_append, List.filter_cons_of_neg eg]
      simpa using e'
  rintro H1 ⟨s1, e1⟩
  rw [List.length_map, List.take_of_length_le (Nat.le_refl _)] at e1
  refine ⟨D, _, rfl, .inl (SqL.of e1), (by show 2 ≤ sizeLine; decide), fun r hr' => ?_⟩
  rw [List.length_map]
  exact q r _ (((gs.filter isGap).length : Int), 1) (.inr (.inl ⟨rfl, rfl⟩)) (s1.trans (same_new hr' _)) (s1.free hr') upd_same
theorem scSG : FnScope ["gaps", "bottom"] ["gaps", "bottom"] (defScope sSG) := ⟨rfl, rfl, rfl, by decide +kernel, rfl, by decide +kernel, by decide +kernel⟩
theorem ok_sg (F : Fun K "sum_of_gaps" "sum_of_gaps" sSG f fd) (zsum : mg "sum" = none) (G : FnOk P w K mg base CX0 2 g gd ["top", "bottom"] spLeastB) (bG : Binds K gd ["top", "bottom"] []) (kG : PySem.W.keepIn K (.ref g) = true) (mG : mg "in_least_numbers" = some (.ref g)) : FnOk P w K mg base CX0 3 f fd ["gaps", "bottom"] (spMeas "sum") := by
  refine F.ok scSG (fun vs H Q E h => ?_) (fun cdv A outer s H vs Q E hr h => ?_)
  · obtain ⟨a, gs, L, rfl, _⟩ := h
    rfl
  obtain ⟨a, gs, L, rfl, ha, h1, h2, hL, hB, hg, q⟩ := h
  refine ⟨_, pss_one (ps_ret (pe_call G hr rfl mG kG bG .nil pass0 (pa_cons (pe_callB (cr_sum rfl) rfl zsum Ob.boot_sum' (pa_cons (pv 0) pa_nil)) (pa_cons (pv 1) pa_nil)))), ?_⟩
  refine ⟨_, rfl, a, gs, rfl, SqL.of ha, ?_⟩
  refine ⟨_, rfl, gs.sum, L, rfl, hL, hB.mono (by decide), fun r hr' => ?_⟩
  exact q r _ (redT gs.sum L, redB gs.sum L) (.inr (.inr (.inl ⟨rfl, rfl⟩))) (same_new hr' _) hr' upd_same
theorem scSS : FnScope ["gaps", "bottom"] ["gaps", "bottom"] (defScope sSS) := ⟨rfl, rfl, rfl, by decide +kernel, rfl, by decide +kernel, by decide +kernel⟩
theorem ok_ss (F : Fun K "sum_of_squares" "sum_of_squares" sSS f fd) (hc : fd.code = .ref c) (CB : CodeB base c Pt) (BM : ∃ bm ob, BMod base mainGlobals mg bm ob) (zsum : mg "sum" = none) (G : FnOk P w K mg base CX0 2 g gd ["top", "bottom"] spLeastB) (bG : Binds K gd ["top", "bottom"] []) (kG : PySem.W.keepIn K (.ref g) = true) (mG : mg "in_least_numbers" = some (.ref g)) : FnOk P w K mg base CX0 3 f fd ["gaps", "bottom"] (spMeasT Pt "squares") := by
  refine okC F hc scSS (fun vs H Q E h => ?_) (fun A outer s H vs Q E hr h => ?_)
  · obtain ⟨_, a, gs, L, rfl, _⟩ := h
    rfl
  obtain ⟨hP, a, gs, L, rfl, ha, h1, h2, hL, hB, hg, q⟩ := h
  have hr1 : Room 1 _ := hr.mono (by decide)
  refine ⟨_, pss_one (ps_ret (pe_call G hr rfl mG kG bG .nil pass0 (pa_cons (pe_sumSq (c := c) (P := Pt) rfl ⟨CB, BM, rfl⟩ hr1 rfl zsum (pv 0) rfl rfl (by decide +kernel) (by decide +kernel) (by decide +kernel) rfl (fun _ => rfl)) (pa_cons (pe_op op_mulB (pv 1) (pv 1)) pa_nil)))), ?_⟩
  refine ⟨_, rfl, a, gs, rfl, SqL.of ha, fun n hn => (hg n hn).mono (by decide), hP, ?_⟩
  refine ⟨_, rfl, _, rfl, _, _, rfl, rfl, ⟨500, 500, hB, hB, by decide⟩, ?_⟩
  refine ⟨_, L * L, rfl, Int.mul_pos hL hL, (hB.mul hB).mono (by decide), fun r hr' => ?_⟩
  exact q r _ (redT (gs.map fun n => n * n).sum (L * L), redB (gs.map fun n => n * n).sum (L * L)) (.inr (.inr (.inr ⟨rfl, rfl⟩))) (same_new hr' _) hr' upd_same
end
end Pg

set_option maxHeartbeats 4000000
namespace Pg
open PySem PySem.Spec PyProof.Rows L2 Ob
section
variable {P : Program} {w : World} {K : PySem.W.Frag} {mg : Str → Option Value} {base : Heap} {f g h : Addr} {fd gd hd : FuncData} {Pt c : Addr}
theorem fn_imp {CX : CXT} {k : Nat} {ps : List Str} {sp sp' : Sp} (F : FnOk P w K mg base CX k f fd ps sp) (h : ∀ vs H Q E, sp' vs H Q E → sp vs H Q E) : FnOk P w K mg base CX k f fd ps sp' :=
  ⟨fun vs H Q E z => F.len vs H Q E (h _ _ _ _ z), fun A outer s H args us vs Q E hr he hb hv hs => F.run A outer s H args us vs Q E hr he hb hv (h _ _ _ _ hs)⟩
theorem boot_str'' : bootBuiltins "str" = some (.type "str") := by decide +kernel
/-- what the dict of measures holds -/
structure Meas (P : Program) (w : World) (K : PySem.W.Frag) (mg : Str → Option Value) (base : Heap) (P3 : Addr) (a : Addr) (vs : List (Key × Value)) : Prop where
  kd : KDict P w K a vs
  gl : mg "MEASURES" = some (.ref a)
  fns : ∀ mz ∈ measNames, ∃ (f : Addr) (fd : FuncData), valueAt vs (Sum.inr mz) = some (.ref f) ∧ FnOk P w K mg base CX0 3 f fd ["gaps", "bottom"] (spMeasT P3 mz) ∧ PySem.W.keepIn K (.ref f) = true ∧ Binds K fd ["gaps", "bottom"] []
theorem scCM : FnScope ["measure"] ["measure"] (defScope sCM) := ⟨rfl, rfl, rfl, by decide +kernel, rfl, by decide +kernel, by decide +kernel⟩
theorem ok_cm {a P3 : Addr} {vs : List (Key × Value)} (F : Fun K "check_measure" "check_measure" sCM f fd) (T : Tx mg) (zstr : mg "str" = none) (M : Meas P w K mg base P3 a vs) : FnOk P w K mg base CX0 1 f fd ["measure"] spCheckM := by
  refine F.ok scCM (fun vs H Q E h => ?_) (fun cdv A outer s H vs Q E hr h => ?_)
  · obtain ⟨mz, rfl, _⟩ := h
    rfl
  obtain ⟨mz, rfl, hmz, q⟩ := h
  refine ⟨_, pss_one (ps_if (PW.pt (pw_or (pt_not (pt_val (pe_callB call_isi rfl T.isi boot_isi (pa_cons (pv 0) (pa_cons (pe_bltn (v := .ty "str") rfl zstr boot_str'' rfl) pa_nil))))) (pw_or1 (pt_cmp (pc_knotin M.kd rfl M.gl (pv 0)) (by with_unfolding_all rfl))))) pss_never pss_nil), ?_⟩
  obtain ⟨f', fd', hv, _⟩ := M.fns mz hmz
  refine ⟨_, rfl, _, "str", "str", true, rfl, .str mz, rfl, true, rfl, iteF ⟨_, rfl, mz, rfl, _, rfl, ?_⟩⟩
  rw [hv]
  exact iteF q
abbrev nHow : List Str := ["measure", "numbers", "fractions", "bottom", "tops", "gaps", "measured", "number", "top"]
theorem scHow : FnScope nHow ["measure", "numbers", "fractions"] (defScope sHow) := ⟨rfl, rfl, rfl, by decide +kernel, rfl, by decide +kernel, by decide +kernel⟩
theorem ok_how {a0 P1 P2 P3 : Addr} {vs0 : List (Key × Value)} {f1 f2 f3 f4 f5 : Addr} {d1 d2 d3 d4 d5 : FuncData} (F : Fun K "how_far" "how_far" sHow f fd) (T : Tx mg) (zabs : mg "abs" = none) (M : Meas P w K mg base P3 a0 vs0)
    (G1 : FnOk P w K mg base CX0 4 f1 d1 ["numbers"] (spCheck K P1)) (b1 : Binds K d1 ["numbers"] []) (k1 : PySem.W.keepIn K (.ref f1) = true) (m1 : mg "check_row" = some (.ref f1))
    (G2 : FnOk P w K mg base CX0 5 f2 d2 ["fractions"] (spCheckF P2)) (b2 : Binds K d2 ["fractions"] []) (k2 : PySem.W.keepIn K (.ref f2) = true) (m2 : mg "check_row_of_fractions" = some (.ref f2))
    (G3 : FnOk P w K mg base CX0 1 f3 d3 ["measure"] spCheckM) (b3 : Binds K d3 ["measure"] []) (k3 : PySem.W.keepIn K (.ref f3) = true) (m3 : mg "check_measure" = some (.ref f3))
    (G4 : FnOk P w K mg base CX0 2 f4 d4 ["fractions"] spShB2) (b4 : Binds K d4 ["fractions"] []) (k4 : PySem.W.keepIn K (.ref f4) = true) (m4 : mg "shared_bottom" = some (.ref f4))
    (G5 : FnOk P w K mg base CX0 1 f5 d5 ["fractions", "shared"] spTops2) (b5 : Binds K d5 ["fractions", "shared"] []) (k5 : PySem.W.keepIn K (.ref f5) = true) (m5 : mg "tops_over" = some (.ref f5)) : FnOk P w K mg base CX0 6 f fd ["measure", "numbers", "fractions"] (spHow P1 P2 P3) := by
  refine F.ok scHow (fun vs H Q E h => ?_) (fun cdv A outer s H vs Q E hr h => ?_)
  · obtain ⟨_, _, _, mz, a, D, ns, rs, ts, rfl, _⟩ := h
    rfl
  obtain ⟨hP1, hP2, hP3, mz, a, D, ns, rs, ts, rfl, hmz, ha, L, hl, hB, q⟩ := h
  have hr1 : Room 1 _ := hr.mono (by decide)
  have hr2 : Room 2 _ := hr.mono (by decide)
  have hr3 : Room 3 _ := hr.mono (by decide)
  have hr4 : Room 4 _ := hr.mono (by decide)
  have o1 := L.one
  have o2 := L.most
  have hrl : rs.length = ts.length := Paired.length L.f
  refine ⟨_, pss_cons (ps_expr (pe_call G1 hr4 rfl m1 k1 b1 .nil pass0 (pa_cons (pv 1) pa_nil)))
    (pss_cons (ps_expr (pe_call G2 hr rfl m2 k2 b2 .nil pass0 (pa_cons (pv 2) pa_nil)))
    (pss_cons (ps_expr (pe_call G3 hr1 rfl m3 k3 b3 .nil pass0 (pa_cons (pv 0) pa_nil)))
    (pss_cons (ps_if (pt_cmp (pc_neI (pe_callB call_len_seq rfl T.len PySem.boot_len (pa_cons (pv 1) pa_nil)) (pe_callB call_len_seq rfl T.len PySem.boot_len (pa_cons (pv 2) pa_nil)))) pss_never pss_nil)
    (pss_cons (ps_set (i := 3) scHow.nd rfl (Or.inr rfl) (pe_call G4 hr2 rfl m4 k4 b4 .nil pass0 (pa_cons (pv 2) pa_nil)))
    (pss_cons (ps_set (i := 4) scHow.nd rfl (Or.inl rfl) (pe_call G5 hr1 rfl m5 k5 b5 .nil pass0 (pa_cons (pv 2) (pa_cons (pv 3) pa_nil))))
    (pss_cons (ps_setLc (i := 5) (own := [("number", 7), ("top", 8)]) (g := gTup K 2 (gCons (gName 7) (gCons (gName 8) gNil))) (by rfl) scHow.nd rfl rfl (sw_true rfl rfl rfl (by decide +kernel)) (pi_zip rfl T.zip (pa_cons (pv 1) (pa_cons (pv 4) pa_nil)))
      (blkOk_by (own := [("number", 7), ("top", 8)]) (N := nHow) (sc := defScope sHow) (by decide +kernel)) (fun _ _ _ _ _ => pg_tup rfl (pgs_cons (pg_name (i := 7) scHow.nd rfl (Or.inl rfl)) (pgs_cons (pg_name (i := 8) scHow.nd rfl (Or.inl rfl)) pgs_nil))) (fun _ _ _ _ _ => pts_nil)
      (fun _ _ _ _ _ => pe_callB call_abs rfl zabs boot_abs' (pa_cons (pe_op op_sub (pe_op op_mul (pv 7) (pv 3)) (pv 8)) pa_nil)))
    (pss_cons (ps_set (i := 6) scHow.nd rfl (Or.inl rfl) (pe_kget M.kd rfl M.gl (pv 0) (fun _ _ => rfl)))
    (pss_one (ps_ret (pe_callV (pv 6) (pa_cons (pv 5) (pa_cons (pv 3) pa_nil)))))))))))), ?_⟩
  refine ⟨_, rfl, hP1, a, ns, rfl, ha, by omega, by omega, ?_⟩
  refine ⟨_, rfl, hP2, D, rs, ts, rfl, L, ?_⟩
  refine ⟨_, rfl, mz, rfl, hmz, ?_⟩
  refine ⟨_, rfl, a, _, rfl, .inl (SqL.of ha), _, rfl, D, _, rfl, .inl (SqL.of L.l), _, _, rfl, rfl, _, rfl, ?_⟩
  refine ite2 (fun e => ?_) (fun _ => ?_)
  · have e' : (!decide ((((ns.map V.int).length : Nat) : Int) = (((rs.map V.ref).length : Nat) : Int))) = true := e
    rw [decide_eq_true (by rw [List.length_map, List.length_map]; omega)] at e'
    cases e'
  refine ⟨_, rfl, D, rs, ts, rfl, L, fun S hS => ?_⟩
  refine ⟨_, rfl, _, rfl, D, rs, ts, S, rfl, L, hS, fun r1 H1 s1 n1 e1 => ?_⟩
  have ea1 := s1 _ _ ha
  refine ⟨_, rfl, _, rfl, a, r1, _, _, rfl, SqL.of ea1, SqL.of e1, fun G hG => ?_⟩
  have hzl : (ns.zip ts).length = ns.length := by rw [List.length_zip]; omega
  have hgl : (gapsOf ns ts S).length = ns.length := by unfold gapsOf; rw [List.length_map]; exact hzl
  have gat : ∀ i n t, ns[i]? = some n → ts[i]? = some t → (gapsOf ns ts S)[i]? = some (gapF S (n, t)) := fun i n t h1 h2 => by
    unfold gapsOf
    rw [List.getElem?_map, (List.getElem?_zip_eq_some (z := (n, t))).mpr ⟨h1, h2⟩]
    rfl
  refine lc_zip (xs := ns.map V.int) (ys := (ts.map (overT S)).map V.int) (fun i H' => Same H1 H' ∧ H' G = some (.lst (((gapsOf ns ts S).take i).map V.int))) ns.length (by rw [List.length_map, List.length_map, List.length_map]; omega) ⟨same_new hG _, upd_same⟩ (fun i H' _ ⟨s', _⟩ => ⟨s'.seq (SqL.of ea1), s'.seq (SqL.of e1)⟩) ?_ ?_
  · rintro i x y T' H' hx hy hT ⟨s', e'⟩
    obtain ⟨n, rfl, hn⟩ := ints_at hx
    obtain ⟨o, rfl, ho⟩ := ints_at hy
    have hi := idx_lt hn
    obtain ⟨t, ht, rfl⟩ : ∃ t, ts[i]? = some t ∧ o = overT S t := by
      rw [List.getElem?_map] at ho
      cases e : ts[i]? with
      | none => rw [e] at ho; cases ho
      | some t => rw [e] at ho; exact ⟨t, rfl, (Option.some.inj ho).symm⟩
    have tT := same_new hT (.tup [.int n, .int (overT S t)])
    have bn : Bt 42 n := hB n (List.mem_of_getElem? hn)
    have bn' : n.natAbs < 2 ^ 42 := bn
    refine ⟨T', _, rfl, SqT.of upd_same, rfl, _, _, rfl, _, _, rfl, rfl, rfl, ?_⟩
    refine ⟨_, rfl, _, rfl, _, _, rfl, rfl, .inl ⟨by omega, by omega⟩, _, rfl, _, _, rfl, rfl, _, rfl, _, tT _ _ e', fill_len (k := 12) (by rw [List.length_take]; omega) (by decide), put_new (s'.trans tT) hG, ?_⟩
    rw [upd_same, take_next (gat i n t hn ht), List.map_append]
    rfl
  rintro H2 ⟨s2, e2⟩
  rw [List.take_of_length_le (by omega)] at e2
  obtain ⟨fm, fdm, hv, FM, km, bm⟩ := M.fns mz hmz
  refine ⟨_, rfl, mz, fm, rfl, hv, ?_⟩
  refine ⟨_, rfl, fm, fdm, _, _, 3, rfl, FM, hr3, km, bm, _, rfl, _, rfl, ?_⟩
  have S2 := s1.trans s2
  refine ⟨S2 _ _ hP3, G, gapsOf ns ts S, S, rfl, e2, by omega, by omega, hS.pos, hS.bt, fun g hg => ?_, fun r H' t hm s' n' e' => ?_⟩
  · unfold gapsOf at hg
    obtain ⟨p, hp, rfl⟩ := List.mem_map.mp hg
    obtain ⟨p1, p2⟩ := p
    have z := List.of_mem_zip hp
    exact gap_bt hS.bt (hB _ z.1) (L.fr _ z.2)
  · exact q r H' t S hS hm (S2.trans s') (S2.free n') e'
end
end Pg

set_option maxHeartbeats 4000000
namespace Pg
open PySem PySem.Spec PyProof.Rows L2 Ob
section
variable {P : Program} {w : World} {K : PySem.W.Frag} {mg : Str → Option Value} {base : Heap} {f g h : Addr} {fd gd hd : FuncData} {Pt c : Addr}
theorem ok_least (F : Fun K "in_least_numbers" "in_least_numbers" sLeast f fd) (G : FnOk P w K mg base CX0 1 g gd ["one", "other"] spGcd) (bG : Binds K gd ["one", "other"] []) (kG : PySem.W.keepIn K (.ref g) = true) (mG : mg "greatest_divisor" = some (.ref g)) : FnOk P w K mg base CX0 2 f fd ["top", "bottom"] spLeast := by
  refine F.ok scLeast (fun vs H Q E h => ?_) (fun cdv A outer s H vs Q E hr h => ?_)
  · obtain ⟨t, b, rfl, _⟩ := h
    rfl
  obtain ⟨t, b, rfl, hb, hb2, q⟩ := h
  refine ⟨_, pss_cons (ps_set (i := 2) scLeast.nd rfl (Or.inl rfl) (pe_call G hr rfl mG kG bG .nil pass0 (pa_cons (pv 0) (pa_cons (pv 1) pa_nil))))
    (pss_one (ps_ret (pe_tup (pa_cons (pe_op op_fdivL (pv 0) (pv 2)) (pa_cons (pe_op op_fdivL (pv 1) (pv 2)) pa_nil))))), ?_⟩
  have g0 := gcd_pos (t := t) hb
  have g1 := gcd_le (t := t) hb
  have g2 : (Int.gcd t b : Int) < 2 ^ 64 := by omega
  refine ⟨_, rfl, _, rfl, t, b, rfl, ?_⟩
  exact ⟨_, rfl, _, rfl, _, _, rfl, rfl, ⟨g0, g2⟩, _, rfl, _, rfl, _, _, rfl, rfl, ⟨g0, g2⟩, (by show 2 ≤ sizeLine; decide), fun r hr' => q r hr'⟩
theorem scLine : FnScope ["numbers", "first", "last", "place", "top"] ["numbers", "first", "last", "place"] (defScope sLine) := ⟨rfl, rfl, rfl, by decide +kernel, rfl, by decide +kernel, by decide +kernel⟩
theorem ok_line (F : Fun K "line_at" "line_at" sLine f fd) : FnOk P w K mg base CX0 1 f fd ["numbers", "first", "last", "place"] spLine := by
  refine F.ok scLine (fun vs H Q E h => ?_) (fun cdv A outer s H vs Q E hr h => ?_)
  · obtain ⟨a, ns, i, k, t, rfl, _⟩ := h
    rfl
  obtain ⟨a, ns, i, k, t, rfl, ha, hi, hk, hl, ht, q⟩ := h
  refine ⟨_, pss_cons (ps_set (i := 4) scLine.nd rfl (Or.inl rfl) (pe_op op_add (pe_op op_mul (pe_ix ix_list (pv 0) (pv 1) (fun _ _ => rfl)) (pe_op op_sub (pv 2) (pv 3))) (pe_op op_mul (pe_ix ix_list (pv 0) (pv 2) (fun _ _ => rfl)) (pe_op op_sub (pv 3) (pv 1)))))
    (pss_one (ps_ret (pe_tup (pa_cons (pv 4) (pa_cons (pe_op op_sub (pv 2) (pv 1)) pa_nil))))), ?_⟩
  refine ⟨_, rfl, _, rfl, a, _, _, _, rfl, rfl, SqL.of ha, at_an rfl hi, _, rfl, _, rfl, _, _, rfl, rfl, _, _, rfl, rfl, .inr ⟨by omega, by omega⟩, _, rfl, _, rfl, a, _, _, _, rfl, rfl, SqL.of ha, at_an rfl hk, _, rfl, _, rfl, _, _, rfl, rfl, _, _, rfl, rfl, .inr ⟨by omega, by omega⟩, _, _, rfl, rfl, ?_⟩
  exact ⟨_, rfl, _, rfl, _, rfl, _, _, rfl, rfl, (by show 2 ≤ sizeLine; decide), fun r hr' => q r hr'⟩
def spAbove : Sp := fun vs H Q _ => ∃ (a : Addr) (ns : List Int) (i k t : Nat), vs = [.ref a, .int i, .int k, .int t] ∧ H a = some (.lst (ns.map V.int)) ∧ i < ns.length ∧ k < ns.length ∧ t < ns.length ∧ ns.length ≤ 1000 ∧
  ∀ (r : Addr) (H' : Hp), Same H H' → H r = none → H' r = some (.tup [.int (An ns t * ((k : Int) - i) - ln (An ns) i k t), .int ((k : Int) - i)]) → Q (.ref r) H'
theorem scAbove : FnScope ["numbers", "first", "last", "place", "top", "bottom"] ["numbers", "first", "last", "place"] (defScope sAbove) := ⟨rfl, rfl, rfl, by decide +kernel, rfl, by decide +kernel, by decide +kernel⟩
theorem ok_above (F : Fun K "above_line" "above_line" sAbove f fd) (G : FnOk P w K mg base CX0 1 g gd ["numbers", "first", "last", "place"] spLine) (bG : Binds K gd ["numbers", "first", "last", "place"] []) (kG : PySem.W.keepIn K (.ref g) = true) (mG : mg "line_at" = some (.ref g)) : FnOk P w K mg base CX0 2 f fd ["numbers", "first", "last", "place"] spAbove := by
  refine F.ok scAbove (fun vs H Q E h => ?_) (fun cdv A outer s H vs Q E hr h => ?_)
  · obtain ⟨a, ns, i, k, t, rfl, _⟩ := h
    rfl
  obtain ⟨a, ns, i, k, t, rfl, ha, hi, hk, ht, hl, q⟩ := h
  refine ⟨_, pss_cons (ps_asg (pe_call G hr rfl mG kG bG .nil pass0 (pa_cons (pv 0) (pa_cons (pv 1) (pa_cons (pv 2) (pa_cons (pv 3) pa_nil))))) (pg_tup (by rfl) (pgs_cons (pg_name (i := 4) scAbove.nd rfl (Or.inl rfl)) (pgs_cons (pg_name (i := 5) scAbove.nd rfl (Or.inl rfl)) pgs_nil))))
    (pss_one (ps_ret (pe_tup (pa_cons (pe_op op_sub (pe_op op_mul (pe_ix ix_list (pv 0) (pv 3) (fun _ _ => rfl)) (pv 5)) (pv 4)) (pa_cons (pv 5) pa_nil))))), ?_⟩
  refine ⟨_, rfl, _, rfl, _, rfl, _, rfl, a, ns, i, k, t, rfl, ha, hi, hk, hl, by omega, fun r hr' => ?_⟩
  have s1 := same_new hr' (.tup [.int (ln (An ns) i k t), .int ((k : Int) - i)])
  refine ⟨r, _, rfl, SqT.of upd_same, rfl, _, _, rfl, _, _, rfl, rfl, ?_⟩
  refine ⟨_, rfl, _, rfl, a, _, _, _, rfl, rfl, SqL.of (s1 _ _ ha), at_an rfl ht, _, rfl, _, _, rfl, rfl, .inr ⟨by omega, by omega⟩, _, rfl, _, _, rfl, rfl, _, rfl, (by show 2 ≤ sizeLine; decide), fun r2 hr2 => ?_⟩
  exact q r2 _ (s1.trans (same_new hr2 _)) (s1.free hr2) upd_same
theorem scUnder : FnScope ["numbers", "first", "last", "place", "top", "bottom"] ["numbers", "first", "last", "place"] (defScope sUnder) := ⟨rfl, rfl, rfl, by decide +kernel, rfl, by decide +kernel, by decide +kernel⟩
theorem ok_under (F : Fun K "is_under_line" "is_under_line" sUnder f fd) (G : FnOk P w K mg base CX0 2 g gd ["numbers", "first", "last", "place"] spAbove) (bG : Binds K gd ["numbers", "first", "last", "place"] []) (kG : PySem.W.keepIn K (.ref g) = true) (mG : mg "above_line" = some (.ref g)) : FnOk P w K mg base CX0 3 f fd ["numbers", "first", "last", "place"] spUnder := by
  refine F.ok scUnder (fun vs H Q E h => ?_) (fun cdv A outer s H vs Q E hr h => ?_)
  · obtain ⟨a, ns, i, k, t, rfl, _⟩ := h
    rfl
  obtain ⟨a, ns, i, k, t, rfl, ha, hi, hk, ht, hl, q⟩ := h
  refine ⟨_, pss_cons (ps_asg (pe_call G hr rfl mG kG bG .nil pass0 (pa_cons (pv 0) (pa_cons (pv 1) (pa_cons (pv 2) (pa_cons (pv 3) pa_nil))))) (pg_tup (by rfl) (pgs_cons (pg_name (i := 4) scUnder.nd rfl (Or.inl rfl)) (pgs_cons (pg_name (i := 5) scUnder.nd rfl (Or.inl rfl)) pgs_nil))))
    (pss_one (ps_ret (pe_cmpR op_lt (pv 4) pe_int (nomark _)))), ?_⟩
  refine ⟨_, rfl, _, rfl, _, rfl, _, rfl, a, ns, i, k, t, rfl, ha, hi, hk, ht, hl, fun r H1 s1 _ e1 => ?_⟩
  refine ⟨r, _, rfl, SqT.of e1, rfl, _, _, rfl, _, _, rfl, rfl, ?_⟩
  refine ⟨_, rfl, _, _, rfl, rfl, ?_⟩
  have e : decide (An ns t * ((k : Int) - i) - ln (An ns) i k t < 0) = decide (An ns t * ((k : Int) - i) < ln (An ns) i k t) := decide_eq_decide.mpr (by omega)
  show Q (.bl (decide (An ns t * ((k : Int) - i) - ln (An ns) i k t < 0))) H1
  rw [e]
  exact q _ s1
end
end Pg

set_option maxHeartbeats 4000000
namespace Pg
open PySem PySem.Spec PyProof.Rows L2 Ob
section
variable {P : Program} {w : World} {K : PySem.W.Frag} {mg : Str → Option Value} {base : Heap} {f g h : Addr} {fd gd hd : FuncData} {Pt c : Addr}
theorem scCorners : FnScope ["numbers", "corners", "place"] ["numbers"] (defScope sCorners) := ⟨rfl, rfl, rfl, by decide +kernel, rfl, by decide +kernel, by decide +kernel⟩
theorem ok_corners (F : Fun K "corner_places" "corner_places" sCorners f fd) (T : Tx mg) (G : FnOk P w K mg base CX0 3 g gd ["numbers", "first", "last", "place"] spUnder) (bG : Binds K gd ["numbers", "first", "last", "place"] []) (kG : PySem.W.keepIn K (.ref g) = true) (mG : mg "is_under_line" = some (.ref g)) : FnOk P w K mg base CX0 4 f fd ["numbers"] spCorners := by
  refine F.ok scCorners (fun vs H Q E h => ?_) (fun cdv A outer s H vs Q E hr h => ?_)
  · obtain ⟨a, ns, rfl, _⟩ := h
    rfl
  obtain ⟨a, ns, rfl, ha, h1, h2, q⟩ := h
  refine ⟨_, pss_cons (ps_set (i := 1) scCorners.nd rfl (Or.inl rfl) (pe_lst pa_nil))
    (pss_cons (ps_for PassesOwn.never rfl (pi_range1 rfl T.range (pa_cons (pe_callB call_len_seq rfl T.len PySem.boot_len (pa_cons (pv 0) pa_nil)) pa_nil)) (pg_name (i := 2) scCorners.nd rfl (Or.inl rfl))
      (pss_cons (ps_while PassesOwn.never (PW.pt (pw_and (pt_cmpR op_gt (pe_callB call_len_seq rfl T.len PySem.boot_len (pa_cons (pv 1) pa_nil)) pe_int (nomark _))
          (pw_and1 (pt_not (pt_val (pe_call G hr rfl mG kG bG .nil pass0 (pa_cons (pv 0) (pa_cons (pe_ix ix_list (pv 1) (pe_un un_neg pe_int) (fun _ _ => rfl)) (pa_cons (pv 2) (pa_cons (pe_ix ix_list (pv 1) (pe_un un_neg pe_int) (fun _ _ => rfl)) pa_nil))))))))))
          (pss_one (ps_expr (pe_bm0 PySem.F.plainAttrs_list PySem.F.slot_list_pop PySem.F.type_list_pop mt_pop (pv 1)))))
      (pss_one (ps_expr (pe_bm PySem.F.plainAttrs_list PySem.F.slot_list_append PySem.F.type_list_append mt_append (pv 1) (pa_cons (pv 2) pa_nil))))))
    (pss_one (ps_ret (pv 1)))), ?_⟩
  refine ⟨(by show 0 ≤ sizeLine; decide), fun C hC => ?_⟩
  have naC : a ≠ C := ne_of_none ha hC
  refine ⟨_, rfl, a, _, rfl, .inl (SqL.of ((upd_ne naC).trans ha)), _, rfl, ?_⟩
  have el : (((ns.map V.int).length : Nat) : Int) = (ns.length : Int) := by rw [List.length_map]
  rw [el]
  refine ⟨by omega, by omega, ?_⟩
  refine for_range (lo := 0) (n := (ns.length : Int).toNat) (fun m σ H' => ∃ (v2 : Option V) (st : List Nat), σ = [some (.ref a), some (.ref C), v2] ∧ Same H H' ∧ H' C = some (.lst (st.reverse.map natV)) ∧ ((m = 0 ∧ st = []) ∨ (Chain (An ns) m st ∧ st.head? = some (m - 1) ∧ 0 < m ∧ st.length ≤ m))) ⟨_, [], rfl, same_new hC _, upd_same, .inl ⟨rfl, rfl⟩⟩ ?_ ?_
  · rintro m σ H1 hm ⟨v2, st, rfl, s1, e1, hst⟩
    have hml : m < ns.length := by omega
    refine while_by (fun σ' H' => σ' = [some (.ref a), some (.ref C), some (.int (0 + (m : Int)))] ∧ ∃ st : List Nat, Same H H' ∧ H' C = some (.lst (st.reverse.map natV)) ∧ ((m = 0 ∧ st = []) ∨ (0 < m ∧ st.length ≤ m ∧ Chain (An ns) m st ∧ ∃ q, st.head? = some q ∧ q < m ∧ ∀ t, q ≤ t → t ≤ m → Sup (An ns) q m t)))
      (fun _ H' => match H' C with | some (.lst xs) => xs.length | _ => 0) ⟨rfl, st, s1, e1, ?_⟩ ?_ ?_
    · rcases hst with ⟨e, e2⟩ | ⟨c1, c2, c3, c4⟩
      · exact .inl ⟨e, e2⟩
      · refine .inr ⟨c3, c4, c1, m - 1, c2, by omega, ?_⟩
        have z := top_start (An ns) (m - 1)
        have e : m - 1 + 1 = m := by omega
        rw [e] at z
        exact z
    · rintro σ' H2 ⟨rfl, st, s2, e2, hst⟩
      refine ⟨_, rfl, C, _, rfl, .inl (SqL.of e2), _, _, rfl, rfl, _, rfl, ?_⟩
      refine ite2 (fun e => ?_) (fun e => ?_)
      · have hlen : 1 < st.length := by
          have z : (1 : Int) < (((st.reverse.map natV).length : Nat) : Int) := of_decide_eq_true e
          rw [List.length_map, List.length_reverse] at z
          omega
        match st, hlen, e2, hst with
        | q :: p :: r, hlen, e2, hst =>
          obtain ⟨h0, hl, ch, hqm, top⟩ : 0 < m ∧ (q :: p :: r).length ≤ m ∧ Chain (An ns) m (q :: p :: r) ∧ q < m ∧ ∀ t, q ≤ t → t ≤ m → Sup (An ns) q m t := by
            rcases hst with ⟨_, z⟩ | ⟨z0, z1, z2, q', z3, z4, z5⟩
            · cases z
            · have eq : q = q' := Option.some.inj z3
              subst eq
              exact ⟨z0, z1, z2, z4, z5⟩
          have hpq := ch.1
          refine ⟨_, rfl, _, rfl, _, rfl, C, _, _, _, rfl, rfl, SqL.of e2, at_two, _, rfl, _, rfl, _, rfl, C, _, _, _, rfl, rfl, SqL.of e2, at_one, a, ns, p, m, q, by rw [Int.zero_add]; rfl, s2 _ _ ha, by omega, hml, by omega, by omega, fun H3 s3 => ?_⟩
          refine ⟨_, rfl, ?_⟩
          have e3 := s3 _ _ e2
          by_cases hu : An ns q * ((m : Int) - p) < ln (An ns) p m q
          · rw [decide_eq_true hu]
            refine iteF ?_
            obtain ⟨c1, c2⟩ := leave_chain hst (fun q' p' r' e => by cases e; exact hu)
            refine ⟨_, rfl, .inl ⟨rfl, _, SqL.of e3⟩, _, rfl, C, _, _, rfl, rfl, e3, ?_, ?_⟩
            · rw [List.length_map, List.length_reverse]
              exact small1000 (by omega)
            · refine ⟨_, m :: q :: p :: r, rfl, put_new (s2.trans s3) hC, ?_, .inr ⟨c1, rfl, by omega, c2⟩⟩
              rw [upd_same, Int.zero_add]
              simp [natV]
          · rw [decide_eq_false hu]
            refine iteT ?_
            obtain ⟨pl1, pl2⟩ := pop_last (q := q) (r := p :: r)
            obtain ⟨c1, c2, c3⟩ := chain_pop ch hqm top hu
            refine ⟨_, rfl, .inl ⟨rfl, _, SqL.of e3⟩, C, _, _, rfl, rfl, e3, pl1, ?_⟩
            rw [pl2]
            refine ⟨⟨rfl, p :: r, put_new (s2.trans s3) hC, upd_same, .inr ⟨h0, by simp at hl ⊢; omega, c1, p, rfl, c2, c3⟩⟩, ?_⟩
            show (match (upd H3 C (.lst ((p :: r).reverse.map natV))) C with | some (.lst xs) => xs.length | _ => 0) < (match H2 C with | some (.lst xs) => xs.length | _ => 0)
            rw [upd_same, e2]
            simp
      · have hlen : ¬ 1 < st.length := fun z => e (decide_eq_true (by
          show (1 : Int) < (((st.reverse.map natV).length : Nat) : Int)
          rw [List.length_map, List.length_reverse]
          omega))
        refine iteF ?_
        obtain ⟨c1, c2⟩ := leave_chain hst (fun q' p' r' e => by rw [e] at hlen; simp at hlen)
        refine ⟨_, rfl, .inl ⟨rfl, _, SqL.of e2⟩, _, rfl, C, _, _, rfl, rfl, e2, ?_, ?_⟩
        · rw [List.length_map, List.length_reverse]
          exact small1000 (by omega)
        · refine ⟨_, m :: st, rfl, put_new s2 hC, ?_, .inr ⟨c1, rfl, by omega, c2⟩⟩
          rw [upd_same, Int.zero_add]
          simp [natV]
    · rintro σ' H' Q1 Q2 hQ ⟨v1, e1, p, ys, e2, h3, i, j, e4, e5, k, e6, h7⟩
      refine ⟨v1, e1, p, ys, e2, h3, i, j, e4, e5, k, e6, ?_⟩
      cases k with
      | false =>
        rw [if_neg Bool.false_ne_true] at h7
        exact iteF (hQ _ _ h7)
      | true =>
        rw [if_pos rfl] at h7
        obtain ⟨u1, f1, u2, f2, i2, f3, p2, xs2, i3, v3, g1, g2, g3, g4, u4, f4, u5, f5, i5, f6, p5, xs5, i6, v6, g5, g6, g7, g8, aa, nn, ii, kk, tt, d1, d2, d3, d4, d5, d6, d7⟩ := h7
        refine iteT ⟨u1, f1, u2, f2, i2, f3, p2, xs2, i3, v3, g1, g2, g3, g4, u4, f4, u5, f5, i5, f6, p5, xs5, i6, v6, g5, g6, g7, g8, aa, nn, ii, kk, tt, d1, d2, d3, d4, d5, d6, fun H'' s'' => ?_⟩
        obtain ⟨k', e', q'⟩ := d7 H'' s''
        exact ⟨k', e', hQ _ _ q'⟩
  · rintro σ H1 ⟨v2, st, rfl, s1, e1, hst⟩
    have e0 : (ns.length : Int).toNat = ns.length := by omega
    rw [e0] at hst
    rcases hst with ⟨e, _⟩ | ⟨c1, c2, _, _⟩
    · omega
    · exact ⟨_, rfl, q C H1 st s1 hC e1 c1 c2⟩
end
end Pg

set_option maxHeartbeats 4000000
namespace Pg
open PySem PySem.Spec PyProof.Rows L2 Ob
abbrev nBelow : List Str := ["numbers", "corners", "told", "first", "last", "place", "top", "bottom"]
section
variable {P : Program} {w : World} {K : PySem.W.Frag} {mg : Str → Option Value} {base : Heap} {f g1 g2 g3 g4 : Addr} {fd d1 d2 d3 d4 : FuncData} {Pt c : Addr}
theorem scBelow : FnScope nBelow ["numbers"] (defScope sBelow) := ⟨rfl, rfl, rfl, by decide +kernel, rfl, by decide +kernel, by decide +kernel⟩
theorem ok_below (F : Fun K "greatest_below" "greatest_below" sBelow f fd) (T : Tx mg) (G1 : FnOk P w K mg base CX0 4 g1 d1 ["numbers"] (spCheck K Pt)) (b1 : Binds K d1 ["numbers"] []) (k1 : PySem.W.keepIn K (.ref g1) = true) (m1 : mg "check_row" = some (.ref g1))
    (G2 : FnOk P w K mg base CX0 4 g2 d2 ["numbers"] spCorners) (b2 : Binds K d2 ["numbers"] []) (k2 : PySem.W.keepIn K (.ref g2) = true) (m2 : mg "corner_places" = some (.ref g2))
    (G3 : FnOk P w K mg base CX0 1 g3 d3 ["numbers", "first", "last", "place"] spLine) (b3 : Binds K d3 ["numbers", "first", "last", "place"] []) (k3 : PySem.W.keepIn K (.ref g3) = true) (m3 : mg "line_at" = some (.ref g3))
    (G4 : FnOk P w K mg base CX0 2 g4 d4 ["top", "bottom"] spLeast) (b4 : Binds K d4 ["top", "bottom"] []) (k4 : PySem.W.keepIn K (.ref g4) = true) (m4 : mg "in_least_numbers" = some (.ref g4)) : FnOk P w K mg base CX0 5 f fd ["numbers"] (spBelow Pt) := by
  refine F.ok scBelow (fun vs H Q E h => ?_) (fun cdv A outer s H vs Q E hr h => ?_)
  · obtain ⟨_, a, ns, rfl, _⟩ := h
    rfl
  obtain ⟨hP, a, ns, rfl, ha, h1, h2, q⟩ := h
  have hr1 : Room 1 _ := hr.mono (by decide)
  have hr2 : Room 2 _ := hr.mono (by decide)
  have hr3 : Room 3 _ := hr.mono (by decide)
  refine ⟨_, pss_cons (ps_expr (pe_call G1 hr rfl m1 k1 b1 .nil pass0 (pa_cons (pv 0) pa_nil)))
    (pss_cons (ps_set (i := 1) scBelow.nd rfl (Or.inl rfl) (pe_call G2 hr rfl m2 k2 b2 .nil pass0 (pa_cons (pv 0) pa_nil)))
    (pss_cons (ps_set (i := 2) scBelow.nd rfl (Or.inl rfl) (pe_lst (pa_cons (pe_tup (pa_cons (pe_ix ix_list (pv 0) pe_int (fun _ _ => rfl)) (pa_cons pe_int pa_nil))) pa_nil)))
    (pss_cons (ps_for PassesOwn.never rfl (pi_zip rfl T.zip (pa_cons (pv 1) (pa_cons (pe_slice sl_list (pv 1) (po_some pe_int) po_none) pa_nil))) (pg_tup (by rfl) (pgs_cons (pg_name (i := 3) scBelow.nd rfl (Or.inl rfl)) (pgs_cons (pg_name (i := 4) scBelow.nd rfl (Or.inl rfl)) pgs_nil)))
      (pss_one (ps_for PassesOwn.never rfl (pi_range2 rfl T.range (pa_cons (pe_op op_add (pv 3) pe_int) (pa_cons (pe_op op_add (pv 4) pe_int) pa_nil))) (pg_name (i := 5) scBelow.nd rfl (Or.inl rfl))
        (pss_cons (ps_asg (pe_call G3 hr1 rfl m3 k3 b3 .nil pass0 (pa_cons (pv 0) (pa_cons (pv 3) (pa_cons (pv 4) (pa_cons (pv 5) pa_nil))))) (pg_tup (by rfl) (pgs_cons (pg_name (i := 6) scBelow.nd rfl (Or.inl rfl)) (pgs_cons (pg_name (i := 7) scBelow.nd rfl (Or.inl rfl)) pgs_nil))))
        (pss_one (ps_expr (pe_bm PySem.F.plainAttrs_list PySem.F.slot_list_append PySem.F.type_list_append mt_append (pv 2) (pa_cons (pe_call G4 hr2 rfl m4 k4 b4 .nil pass0 (pa_cons (pv 6) (pa_cons (pv 7) pa_nil))) pa_nil))))))))
    (pss_one (ps_ret (pv 2)))))), ?_⟩
  refine ⟨_, rfl, hP, a, ns, rfl, ha, h1, h2, ?_⟩
  refine ⟨_, rfl, a, ns, rfl, ha, h1, h2, fun C H1 st s1 nC eC ch hdd => ?_⟩
  refine ⟨_, rfl, a, _, _, _, rfl, rfl, SqL.of (s1 _ _ ha), at_an (j := 0) rfl (by omega), (by show 2 ≤ sizeLine; decide), fun r0 hr0 => ?_⟩
  have t0 := same_new hr0 (.tup [.int (An ns 0), .int 1])
  refine ⟨(by show 1 ≤ sizeLine; decide), fun D hD => ?_⟩
  have tD := same_new hD (.lst [.ref r0])
  have nD : H D = none := s1.free (t0.free hD)
  refine ⟨_, rfl, _, rfl, _, rfl, C, _, rfl, SqL.of (tD _ _ (t0 _ _ eC)), fun S hS => ?_⟩
  have ec : cutV (st.reverse.map natV) (some 1) none = (st.reverse.drop 1).map natV := (cut_from (k := 1)).trans List.map_drop.symm
  rw [ec]
  have tS := same_new hS (.lst ((st.reverse.drop 1).map natV))
  generalize hH3 : upd (upd (upd H1 r0 (.tup [.int (An ns 0), .int 1])) D (.lst [.ref r0])) S (.lst ((st.reverse.drop 1).map natV)) = H3
  have S3 : Same H1 H3 := hH3 ▸ (t0.trans (tD.trans tS))
  have eD3 : H3 D = some (.lst [.ref r0]) := hH3 ▸ tS _ _ upd_same
  have eS3 : H3 S = some (.lst ((st.reverse.drop 1).map natV)) := hH3 ▸ upd_same
  have e03 : H3 r0 = some (.tup [.int (An ns 0), .int 1]) := hH3 ▸ tS _ _ (tD _ _ upd_same)
  have eC3 := S3 _ _ eC
  have ea3 := S3 _ _ (s1 _ _ ha)
  have nCD : C ≠ D := ne_of_none (t0 _ _ eC) hD
  have nSD : S ≠ D := fun z => by rw [z, upd_same] at hS; cases hS
  have naD : a ≠ D := ne_of_none (t0 _ _ (s1 _ _ ha)) hD
  refine ⟨C, S, _, _, rfl, SqL.of eC3, SqL.of eS3, ?_⟩
  have hlen : 0 < st.length := by
    cases st with
    | nil => cases hdd
    | cons x r => simp
  refine for_zip (K := K) (a := C) (b := S) (xs := st.reverse.map natV) (ys := (st.reverse.drop 1).map natV) (fun i σ H' => ∃ (v3 v4 v5 v6 v7 : Option V) (rs : List Addr) (ts : List (Int × Int)), σ = [some (.ref a), some (.ref C), some (.ref D), v3, v4, v5, v6, v7] ∧ But D H3 H' ∧ H' D = some (.lst (rs.map V.ref)) ∧ FracsAt H' rs ts ∧ st.reverse[i]? = some (ts.length - 1) ∧ 0 < ts.length ∧ (∀ j t, ts[j]? = some t → HullAt (An ns) ns.length j t)) (st.length - 1) ?_
    ⟨_, _, _, _, _, [r0], [(An ns 0, 1)], rfl, But.refl _ _, eD3, .cons e03 .nil, chain_zero ch, Nat.one_pos, ?_⟩ (fun i σ H' _ ⟨_, _, _, _, _, _, _, _, bt, _⟩ => ⟨SqL.of (bt _ _ eC3 nCD), SqL.of (bt _ _ eS3 nSD)⟩) ?_ ?_
  · simp only [List.length_map, List.length_drop, List.length_reverse]
    omega
  · intro j t ht
    have e : j = 0 ∧ t = (An ns 0, 1) := by
      cases j with
      | zero => exact ⟨rfl, (Option.some.inj ht).symm⟩
      | succ j => simp at ht
    obtain ⟨rfl, rfl⟩ := e
    by_cases hn : ns.length = 1
    · exact ⟨(show (0 : Int) < 1 by decide), by simp, .inl ⟨hn, rfl⟩⟩
    · have hl2 : 1 < st.length := by
        rcases Nat.lt_or_ge 1 st.length with z | z
        · exact z
        · have e1 : st.length = 1 := by omega
          have z1 := asc_last hdd
          have z2 := chain_zero ch
          rw [e1] at z1
          rw [z2] at z1
          have := Option.some.inj z1
          omega
      have hq : st.reverse[0 + 1]? = some (st.reverse[1]'(by rw [List.length_reverse]; exact hl2)) := List.getElem?_eq_getElem _
      obtain ⟨z1, z2⟩ := chain_asc ch (chain_zero ch) hq
      exact hull_first 0 _ rfl z1 (asc_lt ch hdd h1 hq) z2
  · rintro i x y T' σ H4 hx hy hT ⟨v3, v4, v5, v6, v7, rs, ts, rfl, bt, eD, fr, hcs, htl, hh⟩
    have hx' : x = natV (ts.length - 1) := by
      rw [List.getElem?_map, hcs] at hx
      exact (Option.some.inj hx).symm
    subst hx'
    obtain ⟨p', rfl, hq⟩ : ∃ q' : Nat, y = natV q' ∧ st.reverse[i + 1]? = some q' := by
      rw [List.getElem?_map, List.getElem?_drop, Nat.add_comm 1 i] at hy
      cases e : st.reverse[i + 1]? with
      | none => rw [e] at hy; cases hy
      | some q' => rw [e] at hy; exact ⟨q', (Option.some.inj hy).symm, rfl⟩
    obtain ⟨hpq, hsup⟩ := chain_asc ch hcs hq
    have hqn := asc_lt ch hdd h1 hq
    generalize hp : ts.length - 1 = p at *
    have tT := same_new hT (.tup [natV p, natV p'])
    refine ⟨T', _, rfl, SqT.of upd_same, rfl, _, _, rfl, _, _, rfl, rfl, ?_⟩
    refine ⟨_, rfl, _, _, rfl, rfl, _, rfl, _, _, rfl, rfl, _, _, rfl, ⟨by omega, by omega, by omega, by omega⟩, ?_⟩
    refine for_range (lo := (p : Int) + 1) (n := ((p' : Int) + 1 - ((p : Int) + 1)).toNat) (fun k σ H' => ∃ (v5 v6 v7 : Option V) (rs : List Addr) (ts : List (Int × Int)), σ = [some (.ref a), some (.ref C), some (.ref D), some (natV p), some (natV p'), v5, v6, v7] ∧ But D H3 H' ∧ H' D = some (.lst (rs.map V.ref)) ∧ FracsAt H' rs ts ∧ ts.length = p + 1 + k ∧ (∀ j t, ts[j]? = some t → HullAt (An ns) ns.length j t))
      ⟨_, _, _, rs, ts, rfl, bt.same tT, tT _ _ eD, fr.same tT, by omega, hh⟩ ?_ ?_
    · rintro k σ H5 hk ⟨u5, u6, u7, rs, ts, rfl, bt, eD, fr, htl, hh⟩
      have ej : (p : Int) + 1 + (k : Int) = ((p + 1 + k : Nat) : Int) := by omega
      rw [ej]
      refine ⟨_, rfl, _, rfl, _, rfl, _, rfl, a, ns, p, p', p + 1 + k, rfl, bt _ _ ea3 naD, by omega, by omega, by omega, by omega, fun r1 hr1' => ?_⟩
      have t1 := same_new hr1' (.tup [.int (ln (An ns) p p' (p + 1 + k)), .int ((p' : Int) - p)])
      refine ⟨r1, _, rfl, SqT.of upd_same, rfl, _, _, rfl, _, _, rfl, rfl, ?_⟩
      refine ⟨_, rfl, .inl ⟨rfl, _, SqL.of (t1 _ _ eD)⟩, _, rfl, _, rfl, _, _, rfl, by omega, by omega, fun r2 hr2' => ?_⟩
      have t2 := same_new hr2' (.tup [.int (redT (ln (An ns) p p' (p + 1 + k)) ((p' : Int) - p)), .int (redB (ln (An ns) p p' (p + 1 + k)) ((p' : Int) - p))])
      have eD2 := t2 _ _ (t1 _ _ eD)
      have hrl : rs.length = ts.length := Paired.length fr
      refine ⟨D, _, _, rfl, rfl, eD2, ?_, ?_⟩
      · rw [List.length_map]
        exact small1000 (by omega)
      · refine ⟨_, _, _, rs ++ [r2], ts ++ [(redT (ln (An ns) p p' (p + 1 + k)) ((p' : Int) - p), redB (ln (An ns) p p' (p + 1 + k)) ((p' : Int) - p))], rfl, (bt.same (t1.trans t2)).put, ?_, fracs_put eD2 (fracs_snoc upd_same (fr.same (t1.trans t2))), by rw [List.length_append, htl]; rfl, ?_⟩
        · rw [upd_same, List.map_append]
          rfl
        · intro j t hj
          rcases Nat.lt_or_ge j ts.length with hl | hl
          · rw [List.getElem?_append_left hl] at hj
            exact hh j t hj
          · rw [List.getElem?_append_right hl] at hj
            have e0 : j - ts.length = 0 := by
              rcases Nat.eq_zero_or_pos (j - ts.length) with z | z
              · exact z
              · rw [List.getElem?_eq_none (by simp; omega)] at hj
                cases hj
            rw [e0] at hj
            have et : _ = t := Option.some.inj hj
            subst et
            have e1 : j = p + 1 + k := by omega
            subst e1
            exact hull_edge hpq hqn (by omega) (by omega) hsup
    · rintro σ H5 ⟨u5, u6, u7, rs, ts, rfl, bt, eD, fr, htl, hh⟩
      refine ⟨_, _, _, _, _, rs, ts, rfl, bt, eD, fr, ?_, by omega, hh⟩
      rw [hq]
      congr 1
      omega
  · rintro σ H4 ⟨v3, v4, v5, v6, v7, rs, ts, rfl, bt, eD, fr, hcs, htl, hh⟩
    have z := asc_last hdd
    rw [hcs] at z
    have z2 := Option.some.inj z
    exact ⟨_, rfl, q D H4 rs ts (But.toSame (s1.trans S3) nD bt) nD eD fr (by omega) hh⟩
end
end Pg

set_option maxHeartbeats 4000000
namespace Pg
open PySem PySem.Spec PyProof.Rows L2 Ob
section
variable {P : Program} {w : World} {K : PySem.W.Frag} {mg : Str → Option Value} {base : Heap} {f g h h2 h3 h4 : Addr} {fd gd hd hd2 hd3 hd4 : FuncData} {Pt Pw c : Addr}
theorem scIsPr : FnScope ["thing"] ["thing"] (defScope sIsPr) := ⟨rfl, rfl, rfl, by decide +kernel, rfl, by decide +kernel, by decide +kernel⟩
theorem q_ispr (F : Fun K "is_price" "is_price" sIsPr f fd) (zabs : mg "abs" = none) (G : FnQ P w K mg base 2 g gd ["thing"] spIsFr) (bG : Binds K gd ["thing"] []) (kG : PySem.W.keepIn K (.ref g) = true) (mG : mg "is_fraction" = some (.ref g)) : FnQ P w K mg base 3 f fd ["thing"] spIsPr := by
  refine F.okQ scIsPr (fun vs H Q E h => ?_) (fun cdv A outer s H vs Q E hr h => ?_)
  · obtain ⟨r, ob, t, b, rfl, _⟩ := h
    rfl
  obtain ⟨r, ob, t, b, rfl, hr', hb, hg, h1, q⟩ := h
  refine ⟨_, pss_one (ps_ret (pe_and (pe_callQ G hr rfl mG kG bG .nil (pa_cons (pv 0) pa_nil)) (pe_one (pe_cmp (pc_le (pe_callB call_abs rfl zabs boot_abs' (pa_cons (pe_ix ix_seq (pv 0) pe_int (fun _ _ => rfl)) pa_nil)) (pe_ix ix_seq (pv 0) pe_int (fun _ _ => rfl))))))), ?_⟩
  have S : SqT K H r [.int t, .int b] := .inl (.inr ⟨ob, hr'⟩)
  refine ⟨_, rfl, r, ob, t, b, rfl, hr', hb, hg, _, rfl, iteT ?_⟩
  refine ⟨_, rfl, .inr (.inl ⟨r, _, 0, _, rfl, rfl, S, rfl, ?_⟩)⟩
  refine ⟨_, rfl, _, rfl, .inr (.inl ⟨r, _, 1, _, rfl, rfl, S, rfl, ?_⟩)⟩
  refine ⟨_, _, rfl, rfl, ?_⟩
  have e : decide ((if t < 0 then -t else t) ≤ b) = true := decide_eq_true (by split <;> omega)
  show Q (.bl (decide ((if t < 0 then -t else t) ≤ b))) H
  rw [e]
  exact q
abbrev nAPr : List Str := ["thing", "numbers"]
theorem scArePr : FnScope nAPr ["thing", "numbers"] (defScope sArePr) := ⟨rfl, rfl, rfl, by decide +kernel, rfl, by decide +kernel, by decide +kernel⟩
theorem ok_arepr (F : Fun K "are_prices" "are_prices" sArePr f fd) (hc : fd.code = .ref c) (T : Tx mg) (CB : CodeB base c Pt) (BM : ∃ bm ob, BMod base mainGlobals mg bm ob)
    (GQ : FnQ P w K mg base 3 h hd ["thing"] spIsPr) (bQ : ∀ (s : Shared) (u : Value), BindsTo s hd ⟨[u], []⟩ [("thing", u)]) (kQ : PySem.W.keepIn K (.ref h) = true) (mQ : mg "is_price" = some (.ref h)) : FnOk P w K mg base CX0 5 f fd ["thing", "numbers"] (spArePr Pt) := by
  refine okC F hc scArePr (fun vs H Q E h => ?_) (fun A outer s H vs Q E hr h => ?_)
  · obtain ⟨_, a, b, rs, ts, ns, rfl, _⟩ := h
    rfl
  obtain ⟨hP, a, b, rs, ts, ns, rfl, L, hb, hl, pq, q⟩ := h
  have hr1 : Room 1 _ := hr.mono (by decide)
  refine ⟨_, pss_cons (ps_if (PW.pt (pw_or (pt_not (pt_val (pe_callB call_isi rfl T.isi boot_isi (pa_cons (pv 0) (pa_cons (pe_bltn (v := .ty "list") rfl T.list PyProof.Rows.boot_list rfl) pa_nil))))) (pw_or1 (pt_cmp (pc_neI (pe_callB call_len_seq rfl T.len PySem.boot_len (pa_cons (pv 0) pa_nil)) (pe_callB call_len_seq rfl T.len PySem.boot_len (pa_cons (pv 1) pa_nil))))))) (pss_one (ps_ret pe_bl)) pss_nil)
    (pss_one (ps_ret (pe_allQ (c := c) (P := Pt) rfl ⟨CB, BM, rfl⟩ GQ bQ kQ mQ hr rfl T.all (pv 0) rfl rfl (by decide +kernel) (by decide +kernel) (by decide +kernel) (by decide +kernel) rfl (fun _ => rfl)))), ?_⟩
  have l1 : rs.length = ts.length := Paired.length L.f
  have len1 : ((rs.map V.ref).length : Nat) = ts.length := by rw [List.length_map, l1]
  have len2 : ((ns.map V.int).length : Nat) = ts.length := by rw [List.length_map, hl]
  refine ⟨_, rfl, _, "list", "list", true, rfl, .lst L.l, rfl, _, rfl, iteF ⟨_, rfl, a, _, rfl, .inl (SqL.of L.l), _, rfl, b, _, rfl, .inl (SqL.of hb), _, _, rfl, rfl, _, rfl, ?_⟩⟩
  rw [len1, len2]
  refine ite2 (fun e => absurd (show (!decide (((ts.length : Nat) : Int) = ((ts.length : Nat) : Int))) = true from e) (by simp)) (fun _ => ?_)
  refine ⟨_, rfl, a, _, fun _ => true, rfl, SqL.of L.l, hP, fun x hx => ?_, ?_⟩
  · obtain ⟨i, hi⟩ := List.mem_iff_getElem?.mp hx
    obtain ⟨r, t, rfl, ht, hrt, fr⟩ := L.at hi
    exact .inr ⟨r, _, rfl, .inl ⟨hrt, fun ob => ⟨r, ob, _, _, rfl, upd_same, fr.pos, fr.cop, (pq t (List.mem_of_getElem? ht)).one, rfl⟩⟩⟩
  · have e : ((rs.map V.ref).all fun _ => true) = true := by simp
    rw [e]
    exact q
theorem scChPr : FnScope ["numbers", "prices"] ["numbers", "prices"] (defScope sChPr) := ⟨rfl, rfl, rfl, by decide +kernel, rfl, by decide +kernel, by decide +kernel⟩
theorem ok_chpr (F : Fun K "check_prices" "check_prices" sChPr f fd) (G : FnOk P w K mg base CX0 5 g gd ["thing", "numbers"] (spArePr Pt)) (bG : Binds K gd ["thing", "numbers"] []) (kG : PySem.W.keepIn K (.ref g) = true) (mG : mg "are_prices" = some (.ref g)) : FnOk P w K mg base CX0 6 f fd ["numbers", "prices"] (spChPr Pt) := by
  refine F.ok scChPr (fun vs H Q E h => ?_) (fun cdv A outer s H vs Q E hr h => ?_)
  · obtain ⟨_, a, b, rs, ts, ns, rfl, _⟩ := h
    rfl
  obtain ⟨hP, a, b, rs, ts, ns, rfl, L, hb, hl, pq, q⟩ := h
  refine ⟨_, pss_one (ps_if (pt_not (pt_val (pe_call G hr rfl mG kG bG .nil pass0 (pa_cons (pv 1) (pa_cons (pv 0) pa_nil))))) pss_never pss_nil), ?_⟩
  exact ⟨_, rfl, _, rfl, hP, a, b, rs, ts, ns, rfl, L, hb, hl, pq, _, rfl, iteF q⟩
abbrev nAhW : List Str := ["prices", "place"]
theorem scAheadW : FnScope nAhW ["prices", "place"] (defScope sAheadW) := ⟨rfl, rfl, rfl, by decide +kernel, rfl, by decide +kernel, by decide +kernel⟩
theorem ok_aheadw (F : Fun K "weighed_ahead" "weighed_ahead" sAheadW f fd) (hc : fd.code = .ref c) (T : Tx mg) (CB : CodeB base c Pt) (BM : ∃ bm ob, BMod base mainGlobals mg bm ob) (zsum : mg "sum" = none) (zen : mg "enumerate" = none) : FnOk P w K mg base CX0 3 f fd ["prices", "place"] (spAheadW Pt) := by
  refine okC F hc scAheadW (fun vs H Q E h => ?_) (fun A outer s H vs Q E hr h => ?_)
  · obtain ⟨_, a, xs, p, rfl, _⟩ := h
    rfl
  obtain ⟨hP, a, xs, p, rfl, ha, hp, hl, hx, q⟩ := h
  have hr1 : Room 1 _ := hr.mono (by decide)
  refine ⟨_, pss_one (ps_ret (pe_sumT (P := Pt) (c := c) rfl ⟨CB, BM, rfl⟩ (elt_ahead (ip := 1) (p := "place") (by decide +kernel) (by decide +kernel) (by decide +kernel) (fun _ => rfl) rfl (by show List.lookup _ (defScope sAheadW).names = some .cell; decide +kernel) rfl) hr1 rfl zsum (src_enum rfl zen (pa_cons (pe_slice sl_list (pv 0) po_none (po_some (pv 1))) pa_nil)) rfl (by show ∀ y : Str × NameKind, y ∈ _ → y.2 = NameKind.free → (defScope sAheadW).names.lookup y.1 = some .cell ∨ (defScope sAheadW).names.lookup y.1 = some .free; decide +kernel) (by decide +kernel) (by decide +kernel) (by decide +kernel) (by decide +kernel) (by decide) rfl (fun _ => rfl))), ?_⟩
  refine ⟨_, rfl, _, rfl, _, rfl, a, xs.map V.int, rfl, .inl ha, fun r hr => ?_⟩
  have ec : cutV (xs.map V.int) none (some (p : Int)) = (xs.take p).map V.int := (cut_to (by rw [List.length_map]; exact hp)).trans List.map_take.symm
  rw [ec]
  have hP' : upd H r (.lst ((xs.take p).map V.int)) Pt = some (.ext (TbP Pt)) := by rw [upd_ne (ne_of_none hP hr)]; exact hP
  refine ⟨r, _, rfl, SqL.of upd_same, hP', qAh p, fun z hz => ?_, ?_⟩
  · obtain ⟨i, x, rfl, hxm, hi⟩ := enumV_mem hz
    rw [List.length_take] at hi
    exact ⟨_, _, _, rfl, rfl, rfl, mulB_small (hx x (List.mem_of_mem_take hxm)) (by decide) (by omega), rfl⟩
  · rw [show ((((xs.take p).map V.int).zipIdx.map fun q => (V.int ((q.2 : Nat) : Int), q.1)).map (qAh p)).sum = aheadS (xs.take p) p from enumV_ahead _ _]
    exact q _ (same_new hr _)
abbrev nSh : List Str := ["prices"]
theorem scShows : FnScope nSh ["prices"] (defScope sShows) := ⟨rfl, rfl, rfl, by decide +kernel, rfl, by decide +kernel, by decide +kernel⟩
theorem ok_shows (F : Fun K "show_something" "show_something" sShows f fd) (hc : fd.code = .ref c) (T : Tx mg) (CB : CodeB base c Pt) (BM : ∃ bm ob, BMod base mainGlobals mg bm ob) (zsum : mg "sum" = none) (zen : mg "enumerate" = none) (zra : mg "range" = none)
    (G : FnOk P w K mg base CX0 3 g gd ["prices", "place"] (spAheadW Pw)) (hbi : ∀ (s : Shared) (u u' : Value), BindsTo s gd ⟨[u, u'], []⟩ [("prices", u), ("place", u')]) (kG : PySem.W.keepIn K (.ref g) = true) (mG : mg "weighed_ahead" = some (.ref g)) : FnOk P w K mg base CX0 5 f fd ["prices"] (spShows Pt Pw) := by
  refine okC F hc scShows (fun vs H Q E h => ?_) (fun A outer s H vs Q E hr h => ?_)
  · obtain ⟨_, _, _, a, xs, rfl, _⟩ := h
    rfl
  obtain ⟨hP, hW, hne, a, xs, rfl, ha, hl, hx, q⟩ := h
  have hr1 : Room 1 _ := hr.mono (by decide)
  refine ⟨_, pss_cons (ps_if (PW.pt (pw_or (pt_cmp (pc_neI (pe_callB (cr_sum rfl) rfl zsum Ob.boot_sum' (pa_cons (pv 0) pa_nil)) pe_int)) (pw_or1 (pt_cmp (pc_neI (pe_sumT (P := Pt) (c := c) rfl ⟨CB, BM, rfl⟩ (elt_mulYX (by decide +kernel) (by decide +kernel) rfl) hr1 rfl zsum (src_enum rfl zen (pa_cons (pv 0) pa_nil)) rfl (by show ∀ y : Str × NameKind, y ∈ _ → y.2 = NameKind.free → (defScope sShows).names.lookup y.1 = some .cell ∨ (defScope sShows).names.lookup y.1 = some .free; decide +kernel) (by decide +kernel) (by decide +kernel) (by decide +kernel) (by decide +kernel) (by decide) rfl (fun _ => rfl)) pe_int))))) (pss_one (ps_ret pe_bl)) pss_nil)
    (pss_one (ps_ret (pe_allR (P := Pt) (Pw := Pw) (c := c) rfl ⟨CB, BM, rfl⟩ (elt_le0 (iy := 0) (y := "prices") G hbi kG mG hr (by decide) (by decide +kernel) (by decide +kernel) (by decide +kernel) (fun _ => rfl) rfl (by show List.lookup _ (defScope sShows).names = some .cell; decide +kernel) rfl) hr1 rfl T.all rfl zra (pa_cons (pe_callB call_len_seq rfl T.len PySem.boot_len (pa_cons (pv 0) pa_nil)) pa_nil) rfl (by show ∀ y : Str × NameKind, y ∈ _ → y.2 = NameKind.free → (defScope sShows).names.lookup y.1 = some .cell ∨ (defScope sShows).names.lookup y.1 = some .free; decide +kernel) (by decide +kernel) (by decide +kernel) (by decide +kernel) rfl (fun _ => rfl)))), ?_⟩
  have haW : a ≠ Pw := fun z => by
    rw [z, hW] at ha
    cases ha
  refine ⟨_, rfl, a, xs, rfl, SqL.of ha, _, _, rfl, rfl, _, rfl, ite2 (fun e => ?_) (fun e => ?_)⟩
  · have e1 : decide (xs.sum = 0) = false := by simpa using e
    have e2 : showsB xs = false := by
      unfold showsB
      rw [e1]
      rfl
    rw [e2] at q
    exact iteT q
  have e1 : decide (xs.sum = 0) = true := by simpa using e
  refine ⟨_, rfl, a, _, rfl, SqL.of ha, hP, qWt, fun z hz => ?_, ?_⟩
  · obtain ⟨i, x, rfl, hxm, hi⟩ := enumV_mem hz
    exact ⟨_, _, rfl, rfl, mulB_small (hx x hxm) (by decide) (by omega), rfl⟩
  rw [show (((xs.map V.int).zipIdx.map fun q => (V.int ((q.2 : Nat) : Int), q.1)).map qWt).sum = wS xs from enumV_w _]
  refine ⟨_, _, rfl, rfl, _, rfl, ite2 (fun e => ?_) (fun e => ?_)⟩
  · have e2 : decide (wS xs = 0) = false := by simpa using e
    have e3 : showsB xs = false := by
      unfold showsB
      rw [e1, e2]
      rfl
    rw [e3] at q
    exact q
  have e2 : decide (wS xs = 0) = true := by simpa using e
  refine ⟨_, rfl, a, _, rfl, .inl (SqL.of ha), xs.length, fun i => decide (aheadS (xs.take i) i ≤ 0), by rw [List.length_map], by omega, hne, hP, hW, fun i hi => ⟨a, xs.map V.int, aheadS (xs.take i) i, rfl, .inl ha, rfl, fun ob => ?_⟩, ?_⟩
  · refine ⟨upd_same, a, xs, i, rfl, .inr ⟨ob, ?_⟩, by omega, hl, hx, fun H' s' => ⟨rfl, s' _ _ upd_same⟩⟩
    unfold twoH
    rw [upd_ne haW]
    exact upd_same
  · have e3 : showsB xs = (List.range xs.length).all fun i => decide (aheadS (xs.take i) i ≤ 0) := by
      unfold showsB
      rw [e1, e2]
      rfl
    rw [e3] at q
    exact q
abbrev nWPS : List Str := ["numbers", "prices", "bottom", "tops"]
theorem scWPS : FnScope nWPS ["numbers", "prices"] (defScope sWPS) := ⟨rfl, rfl, rfl, by decide +kernel, rfl, by decide +kernel, by decide +kernel⟩
theorem ok_wps {P1 P2 P3 P4 k1 k2 k3 k4 k5 k6 : Addr} {d1 d2 d3 d4 d5 d6 : FuncData} (F : Fun K "what_prices_show" "what_prices_show" sWPS f fd) (hc : fd.code = .ref c) (T : Tx mg) (CB : CodeB base c Pt) (BM : ∃ bm ob, BMod base mainGlobals mg bm ob) (zsum : mg "sum" = none)
    (G1 : FnOk P w K mg base CX0 4 k1 d1 ["numbers"] (spCheck K P1)) (b1 : Binds K d1 ["numbers"] []) (e1 : PySem.W.keepIn K (.ref k1) = true) (m1 : mg "check_row" = some (.ref k1))
    (G2 : FnOk P w K mg base CX0 6 k2 d2 ["numbers", "prices"] (spChPr P2)) (b2 : Binds K d2 ["numbers", "prices"] []) (e2 : PySem.W.keepIn K (.ref k2) = true) (m2 : mg "check_prices" = some (.ref k2))
    (G3 : FnOk P w K mg base CX0 2 k3 d3 ["fractions"] spShB2) (b3 : Binds K d3 ["fractions"] []) (e3 : PySem.W.keepIn K (.ref k3) = true) (m3 : mg "shared_bottom" = some (.ref k3))
    (G4 : FnOk P w K mg base CX0 1 k4 d4 ["fractions", "shared"] spTops2) (b4 : Binds K d4 ["fractions", "shared"] []) (e4 : PySem.W.keepIn K (.ref k4) = true) (m4 : mg "tops_over" = some (.ref k4))
    (G5 : FnOk P w K mg base CX0 5 k5 d5 ["prices"] (spShows P4 P3)) (b5 : Binds K d5 ["prices"] []) (e5 : PySem.W.keepIn K (.ref k5) = true) (m5 : mg "show_something" = some (.ref k5))
    (G6 : FnOk P w K mg base CX0 2 k6 d6 ["top", "bottom"] spLeastB) (b6 : Binds K d6 ["top", "bottom"] []) (e6 : PySem.W.keepIn K (.ref k6) = true) (m6 : mg "in_least_numbers" = some (.ref k6)) : FnOk P w K mg base CX0 7 f fd ["numbers", "prices"] (spWPS P1 P2 P3 P4 Pt) := by
  refine okC F hc scWPS (fun vs H Q E h => ?_) (fun A outer s H vs Q E hr h => ?_)
  · obtain ⟨_, _, _, _, _, _, a, b, rs, ts, ns, rfl, _⟩ := h
    rfl
  obtain ⟨h1, h2, h3, h4, hP, hne, a, b, rs, ts, ns, rfl, L, hb, hl, pq, hn, q⟩ := h
  have hr1 : Room 1 _ := hr.mono (by decide)
  have hr2 : Room 2 _ := hr.mono (by decide)
  have hr4 : Room 4 _ := hr.mono (by decide)
  have hr5 : Room 5 _ := hr.mono (by decide)
  refine ⟨_, pss_cons (ps_expr (pe_call G1 hr4 rfl m1 e1 b1 .nil pass0 (pa_cons (pv 0) pa_nil)))
    (pss_cons (ps_expr (pe_call G2 hr rfl m2 e2 b2 .nil pass0 (pa_cons (pv 0) (pa_cons (pv 1) pa_nil))))
    (pss_cons (ps_set (i := 2) scWPS.nd rfl (Or.inl rfl) (pe_call G3 hr2 rfl m3 e3 b3 .nil pass0 (pa_cons (pv 1) pa_nil)))
    (pss_cons (ps_set (i := 3) scWPS.nd rfl (Or.inl rfl) (pe_call G4 hr1 rfl m4 e4 b4 .nil pass0 (pa_cons (pv 1) (pa_cons (pv 2) pa_nil))))
    (pss_cons (ps_if (pt_not (pt_val (pe_call G5 hr5 rfl m5 e5 b5 .nil pass0 (pa_cons (pv 3) pa_nil)))) (pss_one (ps_ret pe_non)) pss_nil)
    (pss_one (ps_ret (pe_call G6 hr2 rfl m6 e6 b6 .nil pass0 (pa_cons (pe_sumT (P := Pt) (c := c) rfl ⟨CB, BM, rfl⟩ (elt_mulXY (by decide +kernel) (by decide +kernel) rfl) hr1 rfl zsum (src_zip rfl T.zip (pa_cons (pv 0) (pa_cons (pv 3) pa_nil))) rfl (by show ∀ y : Str × NameKind, y ∈ _ → y.2 = NameKind.free → (defScope sWPS).names.lookup y.1 = some .cell ∨ (defScope sWPS).names.lookup y.1 = some .free; decide +kernel) (by decide +kernel) (by decide +kernel) (by decide +kernel) (by decide +kernel) (by decide) rfl (fun _ => rfl)) (pa_cons (pv 2) pa_nil))))))))), ?_⟩
  have o1 := L.one
  have o2 := L.most
  refine ⟨_, rfl, h1, b, ns, rfl, hb, by omega, by omega, ?_⟩
  refine ⟨_, rfl, _, rfl, h2, a, b, rs, ts, ns, rfl, L, hb, hl, pq, ?_⟩
  refine ⟨_, rfl, a, rs, ts, rfl, L, fun S hS => ?_⟩
  refine ⟨_, rfl, _, rfl, a, rs, ts, S, rfl, L, hS, fun r1 H1 s1 n1 e1 => ?_⟩
  have dB : ∀ x ∈ ts.map (overT S), Bt 600 x := fun x hx => by
    obtain ⟨t, ht, rfl⟩ := List.mem_map.mp hx
    have z1 : Bt 62 t.1 := (L.fr t ht).top
    have z2 : Bt 500 (S / t.2) := hS.bt.le (Int.natAbs_ediv_le_natAbs _ _)
    exact (z1.mul z2).mono (by decide)
  refine ⟨_, rfl, s1 _ _ h4, s1 _ _ h3, hne, r1, _, rfl, e1, by rw [List.length_map]; omega, dB, ?_⟩
  cases hsb : showsB (ts.map (overT S)) with
  | false => exact ⟨_, rfl, iteT ((q S H1 hS s1).1 hsb)⟩
  | true =>
    refine ⟨_, rfl, iteF ?_⟩
    refine ⟨_, rfl, _, rfl, b, r1, _, _, rfl, SqL.of (s1 _ _ hb), SqL.of e1, s1 _ _ hP, qDot, fun z hz => ?_, ?_⟩
    · obtain ⟨n, x, rfl, hn', hx'⟩ := zipV_mem hz
      exact ⟨_, _, rfl, rfl, ⟨60, 600, hn n hn', dB x hx', by decide⟩, rfl⟩
    rw [zipV_dot]
    refine ⟨_, rfl, _, S, rfl, hS.pos, hS.bt.mono (by decide), fun r hr' => ?_⟩
    exact (q S _ hS (s1.trans (same_new hr' _))).2 hsb r (by
      cases w : H r with
      | none => rfl
      | some u => rw [s1 _ _ w] at hr'; cases hr') upd_same
end
end Pg

set_option maxHeartbeats 4000000
namespace Pg
open PySem PySem.Spec PyProof.Rows L2 Ob
section
variable {P : Program} {w : World} {K : PySem.W.Frag} {mg : Str → Option Value} {base : Heap} {f g h : Addr} {fd gd hd : FuncData} {Pt c : Addr}
theorem scCellAt : FnScope ["script", "k"] ["script", "k"] (defScope sCellAt) := ⟨rfl, rfl, rfl, by decide +kernel, rfl, by decide +kernel, by decide +kernel⟩
theorem ok_cellat (F : Fun K "_law_cell_at" "_law_cell_at" sCellAt f fd) (T : Tx mg) : FnOk P w K mg base CX0 1 f fd ["script", "k"] (spCellAt K) := by
  refine F.ok scCellAt (fun vs H Q E h => ?_) (fun cdv A outer s H vs Q E hr h => ?_)
  · obtain ⟨a, ns, k, rfl, _⟩ := h
    rfl
  obtain ⟨a, ns, k, rfl, hS, h0, q⟩ := h
  refine ⟨_, pss_cons (ps_if (pt_cmpR op_lt (pv 1) (pe_callB call_len_seq rfl T.len PySem.boot_len (pa_cons (pv 0) pa_nil)) (nomark _)) (pss_one (ps_ret (pe_ix ix_list (pv 0) (pv 1) (fun _ _ => rfl)))) pss_nil)
    (pss_one (ps_ret pe_int)), ?_⟩
  refine ⟨_, rfl, _, rfl, a, _, rfl, .inl hS, _, _, rfl, rfl, _, rfl, ?_⟩
  refine ite2 (fun e => ?_) (fun e => ?_)
  · have hk : k < ((ns.map V.int).length : Nat) := of_decide_eq_true e
    rw [List.length_map] at hk
    have hkn : k.toNat < ns.length := by omega
    have ek : k = (k.toNat : Int) := by omega
    have hix : atI (ns.map V.int) k = some (.int ns[k.toNat]) := by
      have z := ix_int (ns := ns) (k := k.toNat) (List.getElem?_eq_getElem hkn)
      rw [← ek] at z
      exact z
    exact ⟨_, rfl, _, rfl, a, _, _, _, rfl, rfl, hS, hix, q _⟩
  · exact q _
theorem scStir : FnScope ["cell", "k", "one"] ["cell", "k"] (defScope sStir) := ⟨rfl, rfl, rfl, by decide +kernel, rfl, by decide +kernel, by decide +kernel⟩
theorem ok_stir (F : Fun K "_law_stir" "_law_stir" sStir f fd) : FnOk P w K mg base CX0 1 f fd ["cell", "k"] spStir := by
  refine F.ok scStir (fun vs H Q E h => ?_) (fun cdv A outer s H vs Q E hr h => ?_)
  · obtain ⟨x, k, rfl, _⟩ := h
    rfl
  obtain ⟨x, k, rfl, h0, h1, q⟩ := h
  refine ⟨_, pss_cons (ps_set (i := 2) scStir.nd rfl (Or.inl rfl) (pe_op op_mod (pe_op op_mul (pe_op op_add (pe_op op_add (pe_op op_mod (pv 0) pe_int) (pe_op op_mul pe_int (pv 1))) pe_int) pe_int) pe_int))
    (pss_cons (ps_set (i := 2) scStir.nd rfl (Or.inl rfl) (pe_op op_mod (pe_op op_mul (pv 2) (pv 2)) pe_int))
    (pss_one (ps_ret (pe_op op_fdivL (pe_op op_mod (pe_op op_mul (pe_op op_add (pv 2) (pe_op op_mul pe_int (pv 1))) pe_int) pe_int) pe_int)))), ?_⟩
  refine ⟨_, rfl, _, _, rfl, rfl, (by show (0 : Int) < 2147483629; decide), _, rfl, _, _, rfl, rfl, .inl ⟨by decide, by decide⟩, _, _, rfl, rfl, _, _, rfl, rfl, _, _, rfl, rfl, .inr ⟨by decide, by decide⟩, _, _, rfl, rfl, (by show (0 : Int) < 2147483647; decide), ?_⟩
  generalize (x % 2147483629 + 9973 * k + 5) * 48271 = y
  have b0 := Int.emod_nonneg y (show (2147483647 : Int) ≠ 0 by decide)
  have b1 := Int.emod_lt_of_pos y (show (0 : Int) < 2147483647 by decide)
  refine ⟨_, rfl, _, rfl, _, _, rfl, rfl, .inl ⟨by omega, by omega⟩, _, _, rfl, rfl, (by show (0 : Int) < 2147483587; decide), ?_⟩
  generalize y % 2147483647 * (y % 2147483647) = u
  refine ⟨_, rfl, _, rfl, _, _, rfl, rfl, .inl ⟨by decide, by decide⟩, _, _, rfl, rfl, _, _, rfl, rfl, .inr ⟨by decide, by decide⟩, _, _, rfl, rfl, (by show (0 : Int) < 2147483563; decide), _, _, rfl, rfl, ⟨by decide, by decide⟩, ?_⟩
  generalize (u % 2147483587 + 7919 * k) * 16807 = t
  exact q _ (by show 0 ≤ t % 2147483563 / 8; omega) (by show t % 2147483563 / 8 < 2147483648; omega)
abbrev nDeck : List Str := ["cell", "many", "found", "digits", "k", "number"]
theorem scDeck : FnScope nDeck ["cell", "many"] (defScope sDeck) := ⟨rfl, rfl, rfl, by decide +kernel, rfl, by decide +kernel, by decide +kernel⟩
theorem ok_deck (F : Fun K "_law_deck" "_law_deck" sDeck f fd) (T : Tx mg) (G : FnOk P w K mg base CX0 1 g gd ["cell", "k"] spStir) (bG : Binds K gd ["cell", "k"] []) (kG : PySem.W.keepIn K (.ref g) = true) (mG : mg "_law_stir" = some (.ref g)) : FnOk P w K mg base CX0 2 f fd ["cell", "many"] spDeck := by
  refine F.ok scDeck (fun vs H Q E h => ?_) (fun cdv A outer s H vs Q E hr h => ?_)
  · obtain ⟨x, m, rfl, _⟩ := h
    rfl
  obtain ⟨x, m, rfl, hm, q⟩ := h
  refine ⟨_, pss_cons (ps_set (i := 2) scDeck.nd rfl (Or.inl rfl) (pe_lst pa_nil))
    (pss_cons (ps_set (i := 3) scDeck.nd rfl (Or.inl rfl) (pv 0))
    (pss_cons (ps_for PassesOwn.never rfl (pi_range1 rfl T.range (pa_cons (pv 1) pa_nil)) (pg_name (i := 4) scDeck.nd rfl (Or.inl rfl))
      (pss_cons (ps_set (i := 5) scDeck.nd rfl (Or.inl rfl) (pe_call G hr rfl mG kG bG .nil pass0 (pa_cons (pv 0) (pa_cons (pv 4) pa_nil))))
      (pss_cons (ps_if (pt_cmpR op_ge (pv 0) (pe_op op_pow pe_int pe_int) (nomark _)) (pss_one (ps_set (i := 5) scDeck.nd rfl (Or.inl rfl) (pe_op op_mod (pv 3) pe_int))) pss_nil)
      (pss_cons (ps_set (i := 3) scDeck.nd rfl (Or.inl rfl) (pe_op op_fdivL (pv 3) pe_int))
      (pss_one (ps_expr (pe_bm PySem.F.plainAttrs_list PySem.F.slot_list_append PySem.F.type_list_append mt_append (pv 2) (pa_cons (pv 5) pa_nil))))))))
    (pss_one (ps_ret (pe_rev (pv 2) (pe_un un_neg pe_int)))))), ?_⟩
  refine ⟨(by show 0 ≤ sizeLine; decide), fun l hl => ?_⟩
  refine ⟨_, rfl, ?_⟩
  refine ⟨_, rfl, (m : Int), rfl, by omega, by omega, ?_⟩
  refine for_range (lo := 0) (n := m) (fun i σ H' => ∃ (v4 v5 : Option V) (dg : Int) (ds : List Int), σ = [some (.int x), some (.int (m : Int)), some (.ref l), some (.int dg), v4, v5] ∧ Same H H' ∧ H' l = some (.lst (ds.map V.int)) ∧ ds.length = i ∧ ∀ z ∈ ds, 0 ≤ z ∧ z < 2147483648) ⟨_, _, _, [], rfl, same_new hl _, upd_same, rfl, fun _ z => (nomatch z)⟩ ?_ ?_
  · rintro i σ H' hi ⟨v4, v5, dg, ds, rfl, s', e', rfl, hb⟩
    refine ⟨_, rfl, _, rfl, x, ((0 : Int) + (ds.length : Nat)), rfl, by omega, by omega, fun n n0 n1 => ?_⟩
    refine ⟨_, rfl, _, _, rfl, rfl, ⟨by decide, by decide, by decide⟩, _, _, rfl, rfl, _, rfl, ?_⟩
    refine ite2 (fun e => ?_) (fun e => ?_)
    · refine ⟨_, rfl, _, _, rfl, rfl, (by show (0 : Int) < 720720; decide), ?_⟩
      have b0 := Int.emod_nonneg dg (show (720720 : Int) ≠ 0 by decide)
      have b1 := Int.emod_lt_of_pos dg (show (0 : Int) < 720720 by decide)
      refine ⟨_, rfl, _, _, rfl, rfl, ⟨by decide, by decide⟩, ?_⟩
      exact ⟨_, rfl, .inl ⟨rfl, _, SqL.of e'⟩, _, rfl, l, _, _, rfl, rfl, e', fill_len (k := 1000) (by omega) (by decide), _, _, _, ds ++ [dg % 720720], rfl, put_new s' hl, by rw [upd_same, List.map_append]; rfl, by rw [List.length_append]; rfl, fun z hz => by
        rcases List.mem_append.mp hz with h | h
        · exact hb z h
        · rw [List.mem_singleton.mp h]; omega⟩
    · refine ⟨_, rfl, _, _, rfl, rfl, ⟨by decide, by decide⟩, ?_⟩
      exact ⟨_, rfl, .inl ⟨rfl, _, SqL.of e'⟩, _, rfl, l, _, _, rfl, rfl, e', fill_len (k := 1000) (by omega) (by decide), _, _, _, ds ++ [n], rfl, put_new s' hl, by rw [upd_same, List.map_append]; rfl, by rw [List.length_append]; rfl, fun z hz => by
        rcases List.mem_append.mp hz with h | h
        · exact hb z h
        · rw [List.mem_singleton.mp h]; omega⟩
  · rintro σ H' ⟨v4, v5, dg, ds, rfl, s', e', hl', hb⟩
    refine ⟨_, rfl, _, rfl, rfl, l, _, rfl, SqL.of e', fun r hr => ?_⟩
    refine q r _ (s'.trans (same_new hr _)) ?_ ⟨ds.reverse, ?_, Dk.rev ⟨hb, by omega⟩⟩
    · cases w : H r with
      | none => rfl
      | some u => rw [s' _ _ w] at hr; cases hr
    · rw [upd_same, List.map_reverse]
theorem scLNext : FnScope ["deck"] ["deck"] (defScope sLNext) := ⟨rfl, rfl, rfl, by decide +kernel, rfl, by decide +kernel, by decide +kernel⟩
theorem ok_next (F : Fun K "_law_next" "_law_next" sLNext f fd) : FnOk P w K mg base CX0 1 f fd ["deck"] spNext := by
  refine F.ok scLNext (fun vs H Q E h => ?_) (fun cdv A outer s H vs Q E hr h => ?_)
  · obtain ⟨d, rfl, _⟩ := h
    rfl
  obtain ⟨d, rfl, ⟨ds, hd, dk⟩, q⟩ := h
  refine ⟨_, pss_cons (ps_if (pt_cmpR (op_eqD hr.units) (pv 0) (pe_lst pa_nil) (nomark _)) (pss_one (ps_ret pe_int)) pss_nil)
    (pss_one (ps_ret (pe_bm0 PySem.F.plainAttrs_list PySem.F.slot_list_pop PySem.F.type_list_pop mt_pop (pv 0)))), ?_⟩
  refine ⟨_, rfl, (by show 0 ≤ sizeLine; decide), fun p hp => ?_⟩
  have s1 := same_new hp (.lst [])
  have e1 := s1 _ _ hd
  refine ⟨_, _, dp_ints e1, dp_ints (ns := []) upd_same, shaped_ints _, shaped_ints _, ?_⟩
  rw [eqv_nil]
  refine ⟨_, rfl, ?_⟩
  cases ds with
  | nil =>
    refine iteT ?_
    exact q 0 _ (by decide) (by decide) ((Drew.refl ⟨[], hd, Dk.nil⟩).new hp _)
  | cons z zs =>
    refine iteF ?_
    have hl : ((z :: zs).map V.int)[((z :: zs).map V.int).length - 1]? = some (.int ((z :: zs)[zs.length]'(by simp))) := by
      rw [List.getElem?_map, List.length_map]
      simp
    refine ⟨_, rfl, .inl ⟨rfl, _, SqL.of e1⟩, d, _, _, rfl, rfl, e1, hl, ?_⟩
    have zb := dk.1 _ (List.getElem_mem (l := z :: zs) (n := zs.length) (by simp))
    refine q _ _ zb.1 zb.2 ⟨fun b o e n => by rw [upd_ne n]; exact s1 _ _ e, (z :: zs).dropLast, ?_, dk.cut⟩
    rw [upd_same, List.map_dropLast]
theorem scFar : FnScope ["deck", "found", "turn"] ["deck"] (defScope sFar) := ⟨rfl, rfl, rfl, by decide +kernel, rfl, by decide +kernel, by decide +kernel⟩
theorem ok_far (F : Fun K "_law_far" "_law_far" sFar f fd) (T : Tx mg) (G : FnOk P w K mg base CX0 1 g gd ["deck"] spNext) (bG : Binds K gd ["deck"] []) (kG : PySem.W.keepIn K (.ref g) = true) (mG : mg "_law_next" = some (.ref g)) : FnOk P w K mg base CX0 2 f fd ["deck"] spFarD := by
  refine F.ok scFar (fun vs H Q E h => ?_) (fun cdv A outer s H vs Q E hr h => ?_)
  · obtain ⟨d, rfl, _⟩ := h
    rfl
  obtain ⟨d, rfl, hd, q⟩ := h
  refine ⟨_, pss_cons (ps_set (i := 1) scFar.nd rfl (Or.inl rfl) pe_int)
    (pss_cons (ps_for PassesOwn.never rfl (pi_range1 rfl T.range (pa_cons pe_int pa_nil)) (pg_name (i := 2) scFar.nd rfl (Or.inl rfl))
      (pss_one (ps_set (i := 1) scFar.nd rfl (Or.inl rfl) (pe_op op_add (pe_op op_mul (pv 1) (pe_op op_pow pe_int pe_int)) (pe_op op_mod (pe_call G hr rfl mG kG bG .nil pass0 (pa_cons (pv 0) pa_nil)) (pe_op op_pow pe_int pe_int))))))
    (pss_one (ps_ret (pv 1)))), ?_⟩
  refine ⟨_, rfl, ?_⟩
  refine ⟨by decide, by decide, ?_⟩
  refine for_range (lo := 0) (n := 2) (fun i σ H' => ∃ (v2 : Option V) (x : Int), σ = [some (.ref d), some (.int x), v2] ∧ Drew d H H' ∧ 0 ≤ x ∧ (i = 0 → x < 1) ∧ (i = 1 → x < 1000000) ∧ x < 1000000000000) ⟨_, 0, rfl, Drew.refl hd, by decide, fun _ => by decide, fun _ => by decide, by decide⟩ ?_ ?_
  · rintro i σ H' hi ⟨v2, x, rfl, w, x0, x1, x2, x3⟩
    refine ⟨_, rfl, _, _, rfl, rfl, ⟨by decide, by decide, by decide⟩, _, _, rfl, rfl, .inr ⟨by decide, by decide⟩, ?_⟩
    refine ⟨_, rfl, d, rfl, w.here, fun n H2 n0 n1 w2 => ?_⟩
    refine ⟨_, _, rfl, rfl, ⟨by decide, by decide, by decide⟩, _, _, rfl, rfl, (by show (0 : Int) < 10 ^ Int.toNat 6; decide), _, _, rfl, rfl, ?_⟩
    have e6 : (10 : Int) ^ Int.toNat 6 = 1000000 := by decide
    have b0 := Int.emod_nonneg n (show (1000000 : Int) ≠ 0 by decide)
    have b1 := Int.emod_lt_of_pos n (show (0 : Int) < 1000000 by decide)
    rw [e6]
    refine ⟨_, x * 1000000 + n % 1000000, rfl, w.trans w2, by omega, by omega, fun z => ?_, ?_⟩
    · have := x1 (by omega); omega
    · by_cases z : i = 0
      · have := x1 z; omega
      · have := x2 (by omega); omega
  · rintro σ H' ⟨v2, x, rfl, w, x0, x1, x2, x3⟩
    exact ⟨_, rfl, q x H' x0 x3 w⟩
end
end Pg

set_option maxHeartbeats 4000000
namespace Pg
open PySem PySem.Spec PyProof.Rows L2 Ob
section
variable {P : Program} {w : World} {K : PySem.W.Frag} {mg : Str → Option Value} {base : Heap} {f g h : Addr} {fd gd hd : FuncData} {Pt c : Addr}
abbrev nBent : List Str := ["deck", "many", "wide", "step", "number", "found", "place"]
theorem scBent : FnScope nBent ["deck", "many"] (defScope sBent) := ⟨rfl, rfl, rfl, by decide +kernel, rfl, by decide +kernel, by decide +kernel⟩
noncomputable def bentD (T : Tx mg) (G : FnOk P w K mg base CX0 1 g gd ["deck"] spNext) (bG : Binds K gd ["deck"] []) (kG : PySem.W.keepIn K (.ref g) = true) (mG : mg "_law_next" = some (.ref g)) (f : Addr) (cdv : Value) (A : Around) (outer : List Env) (s : Shared) (H : Hp) (E : XK)
    (hr : Room 1 (A.deeper (envOfC "_law_bent" (defScope sBent) s.heap.objs.size f cdv))) : { t : TS // WSs (cxOf CX0 P w K mg base nBent "_law_bent" (defScope sBent) f cdv A outer s H E).nox (defBody sBent) t } :=
  ⟨_, (wss_cons (ws_set (i := 2) scBent.nd rfl (Or.inl rfl) (we_ix ix_list (we_lst (wa_cons ⟨pe_int⟩ (wa_cons ⟨pe_int⟩ (wa_cons ⟨pe_int⟩ (wa_cons ⟨pe_int⟩ (wa_cons ⟨pe_op op_pow pe_int pe_int⟩ wa_nil rfl) rfl) rfl) rfl) rfl)) ⟨pe_op op_mod (pe_call G hr rfl mG kG bG .nil pass0 (pa_cons (pv 0) pa_nil)) pe_int⟩ (fun _ _ => rfl)) rfl (Or.inl rfl))
    (wss_cons ⟨ps_set (i := 3) scBent.nd rfl (Or.inl rfl) (pe_op op_sub (pe_op op_mod (pe_call G hr rfl mG kG bG .nil pass0 (pa_cons (pv 0) pa_nil)) (pe_op op_add (pe_op op_mul pe_int (pv 2)) pe_int)) (pe_op op_mul pe_int (pv 2)))⟩
    (wss_cons ⟨ps_set (i := 4) scBent.nd rfl (Or.inl rfl) (pe_op op_sub (pe_op op_mod (pe_call G hr rfl mG kG bG .nil pass0 (pa_cons (pv 0) pa_nil)) (pe_op op_add (pe_op op_mul pe_int (pv 2)) pe_int)) (pv 2))⟩
    (wss_cons ⟨ps_set (i := 5) scBent.nd rfl (Or.inl rfl) (pe_lst pa_nil)⟩
    (wss_cons ⟨ps_for PassesOwn.never rfl (pi_range1 rfl T.range (pa_cons (pv 1) pa_nil)) (pg_name (i := 6) scBent.nd rfl (Or.inl rfl))
      (pss_cons (ps_expr (pe_bm PySem.F.plainAttrs_list PySem.F.slot_list_append PySem.F.type_list_append mt_append (pv 5) (pa_cons (pv 4) pa_nil)))
      (pss_cons (ps_set (i := 4) scBent.nd rfl (Or.inl rfl) (pe_op op_add (pv 4) (pv 3)))
      (pss_one (ps_if (pt_cmpR op_eq (pe_op op_mod (pe_call G hr rfl mG kG bG .nil pass0 (pa_cons (pv 0) pa_nil)) pe_int) pe_int (nomark _)) (pss_one (ps_set (i := 3) scBent.nd rfl (Or.inl rfl) (pe_op op_add (pv 3) (pe_op op_mod (pe_call G hr rfl mG kG bG .nil pass0 (pa_cons (pv 0) pa_nil)) (pe_op op_add (pv 2) pe_int))))) pss_nil))))⟩
    (wss_one ⟨ps_ret (pv 5)⟩))))))⟩
end
end Pg

set_option maxHeartbeats 4000000
namespace Pg
open PySem PySem.Spec PyProof.Rows L2 Ob
section
variable {P : Program} {w : World} {K : PySem.W.Frag} {mg : Str → Option Value} {base : Heap} {f g h : Addr} {fd gd hd : FuncData} {Pt c : Addr}
theorem ok_bent (F : Fun K "_law_bent" "_law_bent" sBent f fd) (T : Tx mg) (G : FnOk P w K mg base CX0 1 g gd ["deck"] spNext) (bG : Binds K gd ["deck"] []) (kG : PySem.W.keepIn K (.ref g) = true) (mG : mg "_law_next" = some (.ref g)) : FnOk P w K mg base CX0 2 f fd ["deck", "many"] spBentD := by
  refine F.ok scBent (fun vs H Q E h => ?_) (fun cdv A outer s H vs Q E hr h => ?_)
  · obtain ⟨d, m, rfl, _⟩ := h
    rfl
  obtain ⟨d, m, rfl, hd, hm, q⟩ := h
  refine use_ws (bentD T G bG kG mG f cdv A outer s H E hr).2 ?_
  refine ⟨_, _, rfl, rfl, ⟨by decide, by decide, by decide⟩, (by show 5 ≤ sizeLine; decide), fun l hl => ?_⟩
  have g1 := Drew.of hd (same_new hl (.lst [.int 1, .int 2, .int 4, .int 40, .int ((10 : Int) ^ Int.toNat 6)]))
  have nl := hd.ne hl
  refine ⟨_, rfl, d, rfl, g1.here, fun n1 H1 a0 a1 w1 => ?_⟩
  have b0 := Int.emod_nonneg n1 (show (5 : Int) ≠ 0 by decide)
  have b1 := Int.emod_lt_of_pos n1 (show (0 : Int) < 5 by decide)
  have el : H1 l = some (.lst [.int 1, .int 2, .int 4, .int 40, .int ((10 : Int) ^ Int.toNat 6)]) := w1.keep l _ upd_same nl
  have e6 : (10 : Int) ^ Int.toNat 6 = 1000000 := by decide
  rw [e6] at el
  obtain ⟨wd, hwd, w0, w9⟩ : ∃ wd : Int, atI [V.int 1, V.int 2, V.int 4, V.int 40, V.int 1000000] (n1 % 5) = some (.int wd) ∧ 1 ≤ wd ∧ wd ≤ 1000000 := by
    generalize n1 % 5 = k at b0 b1
    have : k = 0 ∨ k = 1 ∨ k = 2 ∨ k = 3 ∨ k = 4 := by omega
    rcases this with rfl | rfl | rfl | rfl | rfl
    · exact ⟨1, rfl, by decide, by decide⟩
    · exact ⟨2, rfl, by decide, by decide⟩
    · exact ⟨4, rfl, by decide, by decide⟩
    · exact ⟨40, rfl, by decide, by decide⟩
    · exact ⟨1000000, rfl, by decide, by decide⟩
  have W1 := g1.trans w1
  refine ⟨_, _, rfl, rfl, (by show (0 : Int) < 5; decide), l, _, _, _, rfl, rfl, SqL.of el, hwd, ?_⟩
  refine ⟨_, rfl, d, rfl, W1.here, fun n2 H2 c0 c1 w2 => ?_⟩
  refine ⟨_, rfl, _, _, rfl, rfl, .inl ⟨by decide, by decide⟩, _, _, rfl, rfl, _, _, rfl, rfl, (by show 0 < 8 * wd + 1; omega), ?_⟩
  refine ⟨_, rfl, _, _, rfl, rfl, .inl ⟨by decide, by decide⟩, _, _, rfl, rfl, ?_⟩
  have d0 := Int.emod_nonneg n2 (show (8 * wd + 1 : Int) ≠ 0 by omega)
  have d1 := Int.emod_lt_of_pos n2 (show (0 : Int) < 8 * wd + 1 by omega)
  obtain ⟨st, hst, t0, t1⟩ : ∃ st : Int, n2 % (8 * wd + 1) - 6 * wd = st ∧ -8000000 ≤ st ∧ st ≤ 8000000 := ⟨_, rfl, by omega, by omega⟩
  have W2 := W1.trans w2
  refine ⟨_, rfl, d, rfl, W2.here, fun n3 H3 f0 f1 w3 => ?_⟩
  refine ⟨_, rfl, _, _, rfl, rfl, .inl ⟨by decide, by decide⟩, _, _, rfl, rfl, _, _, rfl, rfl, (by show 0 < 2 * wd + 1; omega), ?_⟩
  refine ⟨_, rfl, _, _, rfl, rfl, ?_⟩
  have h0 := Int.emod_nonneg n3 (show (2 * wd + 1 : Int) ≠ 0 by omega)
  have h1 := Int.emod_lt_of_pos n3 (show (0 : Int) < 2 * wd + 1 by omega)
  obtain ⟨nu, hnu, u0, u1⟩ : ∃ nu : Int, n3 % (2 * wd + 1) - wd = nu ∧ -1000000 ≤ nu ∧ nu ≤ 1000000 := ⟨_, rfl, by omega, by omega⟩
  have W3 := W2.trans w3
  refine ⟨(by show 0 ≤ sizeLine; decide), fun D hD => ?_⟩
  have nD : D ≠ d := W3.here.ne hD
  have HD : H D = none := W3.free hD
  refine ⟨_, rfl, (m : Int), rfl, by omega, by omega, ?_⟩
  refine for_range (lo := 0) (n := m) (fun i σ H' => ∃ (v6 : Option V) (a b : Int) (ns : List Int), σ = [some (.ref d), some (.int (m : Int)), some (.int wd), some (.int a), some (.int b), some (.ref D), v6] ∧ Drew d H H' ∧ H' D = some (.lst (ns.map V.int)) ∧ ns.length = i ∧ (∀ z ∈ ns, Bw 40 z) ∧ a.natAbs ≤ 8000000 + 1000001 * i ∧ b.natAbs ≤ 1000000 + 30000000 * i ∧ Conv (An (ns ++ [b])) (ns.length + 1) ∧ (1 ≤ ns.length → b - An ns (ns.length - 1) ≤ a)) ⟨_, st, nu, [], by rw [← hst, ← hnu]; rfl, W3.new hD _, upd_same, rfl, fun _ z => (nomatch z), by omega, by omega, conv_one nu, fun z => absurd z (by decide)⟩ ?_ ?_
  · rintro i σ H' hi ⟨v6, a, b, ns, rfl, w, eD, rfl, hb, ha, hbb, hcv, hst'⟩
    refine ⟨_, rfl, .inl ⟨rfl, _, SqL.of eD⟩, _, rfl, D, _, _, rfl, rfl, eD, fill_len (k := 12) (by omega) (by decide), ?_⟩
    refine ⟨_, rfl, _, rfl, _, _, rfl, rfl, ?_⟩
    have w4 := w.put (o := .lst (ns.map V.int ++ [.int b])) HD nD
    refine ⟨_, rfl, d, rfl, w4.here, fun n4 H4 k0 k1 w5 => ?_⟩
    have eD4 : H4 D = some (.lst ((ns ++ [b]).map V.int)) := by rw [List.map_append]; exact w5.keep D _ upd_same nD
    have hb4 : ∀ z ∈ ns ++ [b], Bw 40 z := fun z hz => by
      rcases List.mem_append.mp hz with h | h
      · exact hb z h
      · rw [List.mem_singleton.mp h]
        unfold Bw
        omega
    refine ⟨_, _, rfl, rfl, (by show (0 : Int) < 2; decide), rfl, _, rfl, ?_⟩
    have cv := bent_step hcv hst'
    have ll : (ns ++ [b]).length = ns.length + 1 := by rw [List.length_append]; rfl
    have la : An (ns ++ [b]) ns.length = b := an_last
    refine ite2 (fun e => ?_) (fun e => ?_)
    · refine ⟨_, rfl, _, rfl, d, rfl, w5.here, fun n5 H5 m0 m1 w6 => ?_⟩
      refine ⟨_, rfl, _, _, rfl, rfl, _, _, rfl, rfl, (by show 0 < wd + 1; omega), _, _, rfl, rfl, ?_⟩
      have y0 := Int.emod_nonneg n5 (show (wd + 1 : Int) ≠ 0 by omega)
      have y1 := Int.emod_lt_of_pos n5 (show (0 : Int) < wd + 1 by omega)
      exact ⟨_, a + n5 % (wd + 1), b + a, ns ++ [b], rfl, (w4.trans w5).trans w6, w6.keep D _ eD4 nD, by rw [List.length_append]; rfl, hb4, by omega, by omega, by rw [ll]; exact cv, fun _ => by rw [ll, show ns.length + 1 - 1 = ns.length by omega, la]; omega⟩
    · exact ⟨_, a, b + a, ns ++ [b], rfl, w4.trans w5, eD4, by rw [List.length_append]; rfl, hb4, by omega, by omega, by rw [ll]; exact cv, fun _ => by rw [ll, show ns.length + 1 - 1 = ns.length by omega, la]; omega⟩
  · rintro σ H' ⟨v6, a, b, ns, rfl, w, eD, hl', hb, ha, hbb, hcv, _⟩
    exact ⟨_, rfl, q D ns H' w HD eD hl' hb (bent_end hcv)⟩
end
end Pg

set_option maxHeartbeats 4000000
namespace Pg
open PySem PySem.Spec PyProof.Rows L2 Ob
section
variable {P : Program} {w : World} {K : PySem.W.Frag} {mg : Str → Option Value} {base : Heap} {f g h g3 : Addr} {fd gd hd d3 : FuncData} {Pt c : Addr}
abbrev nRw : List Str := ["deck", "most", "many", "way", "found", "small", "place", "more", "at", "number"]
theorem scRow : FnScope nRw ["deck", "most"] (defScope sRow) := ⟨rfl, rfl, rfl, by decide +kernel, rfl, by decide +kernel, by decide +kernel⟩
noncomputable def rowD (T : Tx mg) (G : FnOk P w K mg base CX0 1 g gd ["deck"] spNext) (bG : Binds K gd ["deck"] []) (kG : PySem.W.keepIn K (.ref g) = true) (mG : mg "_law_next" = some (.ref g))
    (GF : FnOk P w K mg base CX0 2 h hd ["deck"] spFarD) (bF : Binds K hd ["deck"] []) (kF : PySem.W.keepIn K (.ref h) = true) (mF : mg "_law_far" = some (.ref h))
    (GB : FnOk P w K mg base CX0 2 g3 d3 ["deck", "many"] spBentD) (bB : Binds K d3 ["deck", "many"] []) (kB : PySem.W.keepIn K (.ref g3) = true) (mB : mg "_law_bent" = some (.ref g3)) (f : Addr) (cdv : Value) (A : Around) (outer : List Env) (s : Shared) (H : Hp) (E : XK)
    (hr : Room 2 (A.deeper (envOfC "_law_row" (defScope sRow) s.heap.objs.size f cdv))) (hr1 : Room 1 (A.deeper (envOfC "_law_row" (defScope sRow) s.heap.objs.size f cdv))) : { t : TS // WSs (cxOf CX0 P w K mg base nRw "_law_row" (defScope sRow) f cdv A outer s H E).nox (defBody sRow) t } :=
  ⟨_, (wss_cons (ws_set (i := 2) scRow.nd rfl (Or.inl rfl) (we_ix ix_list (we_lst (wa_cons ⟨pe_op op_add pe_int (pe_op op_mod (pe_call G hr1 rfl mG kG bG .nil pass0 (pa_cons (pv 0) pa_nil)) (pv 1))⟩ (wa_cons ⟨pv 1⟩ (wa_cons ⟨pe_op op_add pe_int (pe_op op_mod (pe_call G hr1 rfl mG kG bG .nil pass0 (pa_cons (pv 0) pa_nil)) (pe_callB (call_min2 rfl) rfl T.min boot_min (pa_cons (pv 1) (pa_cons pe_int pa_nil))))⟩ wa_nil rfl) rfl) rfl)) ⟨pe_op op_mod (pe_call G hr1 rfl mG kG bG .nil pass0 (pa_cons (pv 0) pa_nil)) pe_int⟩ (fun _ _ => rfl)) rfl (Or.inl rfl))
    (wss_cons ⟨ps_set (i := 3) scRow.nd rfl (Or.inl rfl) (pe_op op_mod (pe_call G hr1 rfl mG kG bG .nil pass0 (pa_cons (pv 0) pa_nil)) pe_int)⟩
    (wss_cons ⟨ps_set (i := 4) scRow.nd rfl (Or.inl rfl) (pe_call GB hr rfl mB kB bB .nil pass0 (pa_cons (pv 0) (pa_cons (pv 2) pa_nil)))⟩
    (wss_cons (ws_set (i := 5) scRow.nd rfl (Or.inl rfl) (we_ix ix_list (we_lst (wa_cons ⟨pe_int⟩ (wa_cons ⟨pe_int⟩ (wa_cons ⟨pe_int⟩ (wa_cons ⟨pe_int⟩ wa_nil rfl) rfl) rfl) rfl)) ⟨pe_op op_mod (pe_call G hr1 rfl mG kG bG .nil pass0 (pa_cons (pv 0) pa_nil)) pe_int⟩ (fun _ _ => rfl)) rfl (Or.inl rfl))
    (wss_cons ⟨ps_for PassesOwn.never rfl (pi_range1 rfl T.range (pa_cons (pv 2) pa_nil)) (pg_name (i := 6) scRow.nd rfl (Or.inl rfl))
      (pss_cons (ps_set (i := 7) scRow.nd rfl (Or.inl rfl) (pe_op op_mod (pe_call G hr1 rfl mG kG bG .nil pass0 (pa_cons (pv 0) pa_nil)) (pv 5))) (pss_cons (ps_if (pt_cmpR op_eq (pv 3) pe_int (nomark _)) (pss_one (ps_asg (pe_op op_sub (pe_op op_add (pe_ix ix_list (pv 4) (pv 6) (fun _ _ => rfl)) (pv 7)) (pe_op op_fdivL (pv 5) pe_int)) (pg_sub (pv 4) (pv 6) set_list))) pss_nil) (pss_cons (ps_if (pt_cmpR op_eq (pv 3) pe_int (nomark _)) (pss_one (ps_asg (pe_op op_sub (pv 7) (pe_op op_fdivL (pv 5) pe_int)) (pg_sub (pv 4) (pv 6) set_list))) pss_nil) (pss_cons (ps_if (pt_cmpR op_eq (pv 3) pe_int (nomark _)) (pss_one (ps_asg (pe_ix ix_list (pe_lst (pa_cons (pv 7) (pa_cons (pe_op op_sub pe_int (pv 7)) pa_nil))) (pe_op op_mod (pv 6) pe_int) (fun _ _ => rfl)) (pg_sub (pv 4) (pv 6) set_list))) pss_nil) (pss_one (ps_if (pt_cmpR op_eq (pv 3) pe_int (nomark _)) (pss_one (ps_asg (pe_op op_mul (pe_call GF hr rfl mF kF bF .nil pass0 (pa_cons (pv 0) pa_nil)) (pe_ix ix_list (pe_lst (pa_cons pe_int (pa_cons (pe_un un_neg pe_int) pa_nil))) (pe_op op_mod (pe_call G hr1 rfl mG kG bG .nil pass0 (pa_cons (pv 0) pa_nil)) pe_int) (fun _ _ => rfl))) (pg_sub (pv 4) (pv 6) set_list))) pss_nil))))))⟩
    (wss_cons ⟨ps_if (pt_cmpR op_eq (pv 3) pe_int (nomark _)) (pss_cons (ps_set (i := 8) scRow.nd rfl (Or.inl rfl) (pe_op op_mod (pe_call G hr1 rfl mG kG bG .nil pass0 (pa_cons (pv 0) pa_nil)) (pv 2))) (pss_cons (ps_set (i := 7) scRow.nd rfl (Or.inl rfl) (pe_lst (pa_cons (pe_op op_mod (pe_call G hr1 rfl mG kG bG .nil pass0 (pa_cons (pv 0) pa_nil)) (pv 5)) (pa_cons (pe_op op_sub pe_int (pe_op op_mod (pe_call G hr1 rfl mG kG bG .nil pass0 (pa_cons (pv 0) pa_nil)) (pv 5))) (pa_cons (pe_op op_fdivL (pe_call GF hr rfl mF kF bF .nil pass0 (pa_cons (pv 0) pa_nil)) pe_int) pa_nil))))) (pss_one (ps_asg (pe_op op_add (pe_ix ix_list (pv 4) (pv 8) (fun _ _ => rfl)) (pe_ix ix_list (pv 7) (pe_op op_mod (pe_call G hr1 rfl mG kG bG .nil pass0 (pa_cons (pv 0) pa_nil)) pe_int) (fun _ _ => rfl))) (pg_sub (pv 4) (pv 8) set_list))))) pss_nil⟩
    (wss_cons ⟨ps_if (pt_cmpR op_eq (pv 3) pe_int (nomark _)) (pss_one (ps_setLc (i := 4) (own := [("number", 9)]) (g := gName 9) (by rfl) scRow.nd rfl rfl (sw_true rfl rfl rfl (by decide +kernel)) (pi_list (pv 4)) (blkOk_by (own := [("number", 9)]) (N := nRw) (sc := defScope sRow) (by decide +kernel)) (fun _ _ _ _ _ => pg_name (i := 9) scRow.nd rfl (Or.inl rfl)) (fun _ _ _ _ _ => pts_nil) (fun _ _ _ _ _ => pe_op op_sub pe_int (pv 9)))) pss_nil⟩
    (wss_one ⟨ps_ret (pv 4)⟩))))))))⟩
end
end Pg

set_option maxHeartbeats 4000000
namespace Pg
open PySem PySem.Spec PyProof.Rows L2 Ob
section
variable {P : Program} {w : World} {K : PySem.W.Frag} {mg : Str → Option Value} {base : Heap} {f g h g3 : Addr} {fd gd hd d3 : FuncData} {Pt c : Addr}
theorem ok_row (F : Fun K "_law_row" "_law_row" sRow f fd) (T : Tx mg) (G : FnOk P w K mg base CX0 1 g gd ["deck"] spNext) (bG : Binds K gd ["deck"] []) (kG : PySem.W.keepIn K (.ref g) = true) (mG : mg "_law_next" = some (.ref g))
    (GF : FnOk P w K mg base CX0 2 h hd ["deck"] spFarD) (bF : Binds K hd ["deck"] []) (kF : PySem.W.keepIn K (.ref h) = true) (mF : mg "_law_far" = some (.ref h))
    (GB : FnOk P w K mg base CX0 2 g3 d3 ["deck", "many"] spBentD) (bB : Binds K d3 ["deck", "many"] []) (kB : PySem.W.keepIn K (.ref g3) = true) (mB : mg "_law_bent" = some (.ref g3)) : FnOk P w K mg base CX0 3 f fd ["deck", "most"] spRowD := by
  refine F.ok scRow (fun vs H Q E h => ?_) (fun cdv A outer s H vs Q E hr h => ?_)
  · obtain ⟨d, m, rfl, _⟩ := h
    rfl
  obtain ⟨d, m, rfl, hd, hm1, hm, q⟩ := h
  have hr1 : Room 1 _ := hr.mono (by decide)
  refine use_ws (rowD T G bG kG mG GF bF kF mF GB bB kB mB f cdv A outer s H E hr hr1).2 ?_
  have hmin : 0 < (if (4 : Int) < (m : Int) then (4 : Int) else (m : Int)) ∧ (if (4 : Int) < (m : Int) then (4 : Int) else (m : Int)) ≤ m := by
    split <;> omega
  refine ⟨_, rfl, d, rfl, hd, fun n1 H1 a0 a1 w1 => ?_⟩
  have p0 := Int.emod_nonneg n1 (show (m : Int) ≠ 0 by omega)
  have p1 := Int.emod_lt_of_pos n1 (show (0 : Int) < m by omega)
  refine ⟨_, rfl, _, _, rfl, rfl, (by show (0 : Int) < m; omega), _, _, rfl, rfl, _, rfl, _, rfl, d, rfl, w1.here, fun n2 H2 b0 b1 w2 => ?_⟩
  have p2 := Int.emod_nonneg n2 (show (if (4 : Int) < (m : Int) then (4 : Int) else (m : Int)) ≠ 0 by omega)
  have p3 := Int.emod_lt_of_pos n2 hmin.1
  refine ⟨_, rfl, _, _, rfl, _, _, rfl, rfl, hmin.1, _, _, rfl, rfl, (by show 3 ≤ sizeLine; decide), fun l hl => ?_⟩
  have W2 := w1.trans w2
  have nl := W2.here.ne hl
  have g2 := W2.same (same_new hl (.lst [.int (1 + n1 % m), .int m, .int (1 + n2 % (if (4 : Int) < (m : Int) then (4 : Int) else (m : Int)))]))
  refine ⟨_, rfl, d, rfl, g2.here, fun n3 H3 c0 c1 w3 => ?_⟩
  have el : H3 l = some (.lst [.int (1 + n1 % m), .int m, .int (1 + n2 % (if (4 : Int) < (m : Int) then (4 : Int) else (m : Int)))]) := w3.keep l _ upd_same nl
  have c2 := Int.emod_nonneg n3 (show (3 : Int) ≠ 0 by decide)
  have c3 := Int.emod_lt_of_pos n3 (show (0 : Int) < 3 by decide)
  obtain ⟨v, hv, v1, v2⟩ : ∃ v : Nat, atI [V.int (1 + n1 % m), V.int m, V.int (1 + n2 % (if (4 : Int) < (m : Int) then (4 : Int) else (m : Int)))] (n3 % 3) = some (.int (v : Int)) ∧ 1 ≤ v ∧ v ≤ m := by
    have pick : ∀ z : Int, 1 ≤ z → z ≤ m → ∃ v : Nat, z = (v : Int) ∧ 1 ≤ v ∧ v ≤ m := fun z h1 h2 => ⟨z.toNat, by omega, by omega, by omega⟩
    generalize n3 % 3 = k at c2 c3
    have z : k = 0 ∨ k = 1 ∨ k = 2 := by omega
    rcases z with rfl | rfl | rfl
    · obtain ⟨v, e, h1, h2⟩ := pick (1 + n1 % m) (by omega) (by omega)
      exact ⟨v, by rw [← e]; rfl, h1, h2⟩
    · exact ⟨m, rfl, by omega, by omega⟩
    · obtain ⟨v, e, h1, h2⟩ := pick (1 + n2 % (if (4 : Int) < (m : Int) then (4 : Int) else (m : Int))) (by omega) (by omega)
      exact ⟨v, by rw [← e]; rfl, h1, h2⟩
  have W3 := g2.trans w3
  refine ⟨_, _, rfl, rfl, (by show (0 : Int) < 3; decide), l, _, _, _, rfl, rfl, SqL.of el, hv, ?_⟩
  refine ⟨_, rfl, d, rfl, W3.here, fun n4 H4 e0 e1 w4 => ?_⟩
  refine ⟨_, _, rfl, rfl, (by show (0 : Int) < 6; decide), ?_⟩
  obtain ⟨way, hway⟩ : ∃ way : Int, n4 % 6 = way := ⟨_, rfl⟩
  have W4 := W3.trans w4
  refine ⟨_, rfl, _, rfl, d, v, rfl, W4.here, by omega, fun D ns H5 w5 hD eD hlen hb _ => ?_⟩
  have W5 := W4.trans w5
  have HD : H D = none := W4.free hD
  have nD : D ≠ d := W4.here.ne hD
  refine ⟨(by show 4 ≤ sizeLine; decide), fun l2 hl2 => ?_⟩
  have g5 := W5.new hl2 (.lst [.int 2, .int 3, .int 7, .int 21])
  have eD5 := same_new hl2 (.lst [.int 2, .int 3, .int 7, .int 21]) _ _ eD
  have nl2 := W5.here.ne hl2
  refine ⟨_, rfl, d, rfl, g5.here, fun n6 H6 f0 f1 w6 => ?_⟩
  have el2 : H6 l2 = some (.lst [.int 2, .int 3, .int 7, .int 21]) := w6.keep l2 _ upd_same nl2
  have f2 := Int.emod_nonneg n6 (show (4 : Int) ≠ 0 by decide)
  have f3 := Int.emod_lt_of_pos n6 (show (0 : Int) < 4 by decide)
  obtain ⟨sm, hsm, s0, s1⟩ : ∃ sm : Int, atI [V.int 2, V.int 3, V.int 7, V.int 21] (n6 % 4) = some (.int sm) ∧ 2 ≤ sm ∧ sm ≤ 21 := by
    generalize n6 % 4 = k at f2 f3
    have z : k = 0 ∨ k = 1 ∨ k = 2 ∨ k = 3 := by omega
    rcases z with rfl | rfl | rfl | rfl
    · exact ⟨2, rfl, by decide, by decide⟩
    · exact ⟨3, rfl, by decide, by decide⟩
    · exact ⟨7, rfl, by decide, by decide⟩
    · exact ⟨21, rfl, by decide, by decide⟩
  refine ⟨_, _, rfl, rfl, (by show (0 : Int) < 4; decide), l2, _, _, _, rfl, rfl, SqL.of el2, hsm, ?_⟩
  have W6 := g5.trans w6
  have eD6 := w6.keep D _ eD5 nD
  refine ⟨_, rfl, (v : Int), rfl, by omega, by omega, ?_⟩
  refine for_range (lo := 0) (n := v) (fun i σ H' => ∃ (v6 v7 v8 v9 : Option V) (ns : List Int), σ = [some (.ref d), some (.int (m : Int)), some (.int (v : Int)), some (.int way), some (.ref D), some (.int sm), v6, v7, v8, v9] ∧ Drew d H H' ∧ H' D = some (.lst (ns.map V.int)) ∧ ns.length = v ∧ ∀ z ∈ ns, z.natAbs ≤ 1099511627776 + 64 * i)
    ⟨_, _, _, _, ns, by rw [← hway]; rfl, W6, eD6, hlen, fun z hz => by have h : z.natAbs < 2 ^ 40 := hb z hz; omega⟩ ?_ ?_
  · rintro i σ H' hi ⟨v6, v7, v8, v9, ns, rfl, w, eD, hl, hb⟩
    have hix : ∀ ns : List Int, ns.length = v → atI (ns.map V.int) (0 + (i : Int)) = some (.int (An ns i)) := fun ns h => at_an (by omega) (by omega)
    have hput : ∀ ns : List Int, ns.length = v → ixN (ns.map V.int).length (0 + (i : Int)) = some i := fun ns h => by
      rw [ixN_nat (by omega) (by rw [List.length_map]; omega)]
      congr 1
      omega
    have hAn : ∀ (ns : List Int) (B : Nat), ns.length = v → (∀ z ∈ ns, z.natAbs ≤ B) → (An ns i).natAbs ≤ B := fun ns B h hz => by
      unfold An
      rw [List.getD_eq_getElem?_getD, List.getElem?_eq_getElem (by omega)]
      exact hz _ (List.getElem_mem _)
    have hset : ∀ (ns : List Int) (x : Int) (B : Nat), (∀ z ∈ ns, z.natAbs ≤ B) → x.natAbs ≤ B → ∀ z ∈ ns.set i x, z.natAbs ≤ B := fun ns x B h hx z hz => by
      rcases List.mem_or_eq_of_mem_set hz with q | q
      · exact h z q
      · rw [q]
        exact hx
    refine ⟨_, rfl, d, rfl, w.here, fun n7 H7 a0 a1 w7 => ?_⟩
    refine ⟨_, rfl, _, _, rfl, rfl, (by show 0 < sm; omega), ?_⟩
    have m0 := Int.emod_nonneg n7 (show sm ≠ 0 by omega)
    have m1 := Int.emod_lt_of_pos n7 (show 0 < sm by omega)
    obtain ⟨more, hmore⟩ : ∃ more : Int, n7 % sm = more := ⟨_, rfl⟩
    rw [hmore] at m0 m1
    refine ⟨_, rfl, rfl, _, rfl, ?_⟩
    refine if_join (fun σ H' => ∃ ns : List Int, σ = [some (.ref d), some (.int (m : Int)), some (.int (v : Int)), some (.int way), some (.ref D), some (.int sm), some (.int (0 + (i : Int))), some (.int more), v8, v9] ∧ Drew d H H' ∧ H' D = some (.lst (ns.map V.int)) ∧ ns.length = v ∧ ∀ z ∈ ns, z.natAbs ≤ 1099511627776 + 64 * (i + 1))
      (fun _ => ⟨ns, by rw [← hmore]; rfl, w.trans w7, w7.keep D _ eD nD, hl, fun z hz => by have := hb z hz; omega⟩) (fun _ k => ?_) ?_
    · have eD7 := w7.keep D _ eD nD
      have := hAn ns _ hl hb
      refine ⟨_, rfl, _, rfl, D, _, _, _, rfl, rfl, SqL.of eD7, hix ns hl, _, rfl, _, _, rfl, rfl, _, rfl, _, _, rfl, rfl, ⟨by decide, by decide⟩, _, _, rfl, rfl, _, rfl, _, rfl, D, _, _, i, rfl, rfl, eD7, hput ns hl, ?_⟩
      refine k _ _ ⟨ns.set i (An ns i + more - sm / 2), by rw [← hmore]; rfl, (w.trans w7).put HD nD, by rw [upd_same, List.map_set, ← hmore], by rw [List.length_set]; exact hl, hset ns _ _ (fun z hz => by have := hb z hz; omega) (by omega)⟩
    rintro σ H8 ⟨ns8, rfl, w8, eD8, hl8, hb8⟩
    refine ⟨_, rfl, rfl, _, rfl, ?_⟩
    refine if_join (fun σ H' => ∃ ns : List Int, σ = [some (.ref d), some (.int (m : Int)), some (.int (v : Int)), some (.int way), some (.ref D), some (.int sm), some (.int (0 + (i : Int))), some (.int more), v8, v9] ∧ Drew d H H' ∧ H' D = some (.lst (ns.map V.int)) ∧ ns.length = v ∧ ∀ z ∈ ns, z.natAbs ≤ 1099511627776 + 64 * (i + 1))
      (fun _ => ⟨ns8, rfl, w8, eD8, hl8, hb8⟩) (fun _ k => ?_) ?_
    · refine ⟨_, rfl, _, rfl, _, _, rfl, rfl, ⟨by decide, by decide⟩, _, _, rfl, rfl, _, rfl, _, rfl, D, _, _, i, rfl, rfl, eD8, hput ns8 hl8, ?_⟩
      exact k _ _ ⟨ns8.set i (more - sm / 2), rfl, w8.put HD nD, by rw [upd_same, List.map_set], by rw [List.length_set]; exact hl8, hset ns8 _ _ hb8 (by omega)⟩
    rintro σ H9 ⟨ns9, rfl, w9, eD9, hl9, hb9⟩
    refine ⟨_, rfl, rfl, _, rfl, ?_⟩
    refine if_join (fun σ H' => ∃ ns : List Int, σ = [some (.ref d), some (.int (m : Int)), some (.int (v : Int)), some (.int way), some (.ref D), some (.int sm), some (.int (0 + (i : Int))), some (.int more), v8, v9] ∧ Drew d H H' ∧ H' D = some (.lst (ns.map V.int)) ∧ ns.length = v ∧ ∀ z ∈ ns, z.natAbs ≤ 1099511627776 + 64 * (i + 1))
      (fun _ => ⟨ns9, rfl, w9, eD9, hl9, hb9⟩) (fun _ k => ?_) ?_
    · refine ⟨_, rfl, _, rfl, _, _, rfl, rfl, (by show 2 ≤ sizeLine; decide), fun p hp => ?_⟩
      obtain ⟨x, hx, hx2⟩ : ∃ x : Int, atI [V.int more, V.int (0 - more)] ((0 + (i : Int)) % 2) = some (.int x) ∧ x.natAbs ≤ 1099511627776 := by
        have y0 := Int.emod_nonneg (0 + (i : Int)) (show (2 : Int) ≠ 0 by decide)
        have y1 := Int.emod_lt_of_pos (0 + (i : Int)) (show (0 : Int) < 2 by decide)
        generalize (0 + (i : Int)) % 2 = r at y0 y1
        have z : r = 0 ∨ r = 1 := by omega
        rcases z with rfl | rfl
        · exact ⟨more, rfl, by omega⟩
        · exact ⟨0 - more, rfl, by omega⟩
      have g9 := same_new hp (.lst [.int more, .int (0 - more)])
      refine ⟨_, rfl, _, _, rfl, rfl, (by show (0 : Int) < 2; decide), p, _, _, _, rfl, rfl, SqL.of upd_same, hx, _, rfl, _, rfl, D, _, _, i, rfl, rfl, g9 _ _ eD9, hput ns9 hl9, ?_⟩
      exact k _ _ ⟨ns9.set i x, rfl, (w9.same g9).put HD nD, by rw [upd_same, List.map_set], by rw [List.length_set]; exact hl9, hset ns9 _ _ hb9 (by omega)⟩
    rintro σ Ha ⟨nsa, rfl, wa, eDa, hla, hba⟩
    refine ⟨_, rfl, rfl, _, rfl, ?_⟩
    refine if_join (fun σ H' => ∃ ns : List Int, σ = [some (.ref d), some (.int (m : Int)), some (.int (v : Int)), some (.int way), some (.ref D), some (.int sm), some (.int (0 + (i : Int))), some (.int more), v8, v9] ∧ Drew d H H' ∧ H' D = some (.lst (ns.map V.int)) ∧ ns.length = v ∧ ∀ z ∈ ns, z.natAbs ≤ 1099511627776 + 64 * (i + 1))
      (fun _ => ⟨nsa, rfl, wa, eDa, hla, hba⟩) (fun _ k => ?_) ?_
    · refine ⟨_, rfl, d, rfl, wa.here, fun nb Hb b0 b1 wb => ?_⟩
      refine ⟨_, rfl, (by show 2 ≤ sizeLine; decide), fun p hp => ?_⟩
      have Wb := wa.trans wb
      have np := Wb.here.ne hp
      have gb := Wb.same (same_new hp (.lst [.int 1, .int (-1)]))
      have eDb := same_new hp (.lst [.int 1, .int (-1)]) _ _ (wb.keep D _ eDa nD)
      refine ⟨_, rfl, d, rfl, gb.here, fun nc Hc c0 c1 wc => ?_⟩
      have ep : Hc p = some (.lst [.int 1, .int (-1)]) := wc.keep p _ upd_same np
      obtain ⟨x, hx, hx2⟩ : ∃ x : Int, atI [V.int 1, V.int (-1)] (nc % 2) = some (.int x) ∧ (x = 1 ∨ x = -1) := by
        have y0 := Int.emod_nonneg nc (show (2 : Int) ≠ 0 by decide)
        have y1 := Int.emod_lt_of_pos nc (show (0 : Int) < 2 by decide)
        generalize nc % 2 = r at y0 y1
        have z : r = 0 ∨ r = 1 := by omega
        rcases z with rfl | rfl
        · exact ⟨1, rfl, .inl rfl⟩
        · exact ⟨-1, rfl, .inr rfl⟩
      have eDc := wc.keep D _ eDb nD
      refine ⟨_, _, rfl, rfl, (by show (0 : Int) < 2; decide), p, _, _, _, rfl, rfl, SqL.of ep, hx, _, _, rfl, rfl, .inr (by rcases hx2 with rfl | rfl <;> constructor <;> decide), _, rfl, _, rfl, D, _, _, i, rfl, rfl, eDc, hput nsa hla, ?_⟩
      exact k _ _ ⟨nsa.set i (nb * x), rfl, (gb.trans wc).put HD nD, by rw [upd_same, List.map_set], by rw [List.length_set]; exact hla, hset nsa _ _ hba (by rcases hx2 with rfl | rfl <;> omega)⟩
    rintro σ Hd ⟨nsd, rfl, wd, eDd, hld, hbd⟩
    exact ⟨_, _, _, _, nsd, rfl, wd, eDd, hld, hbd⟩
  · rintro σ H' ⟨v6, v7, v8, v9, ns, rfl, w, eD, hl, hb⟩
    have hb2 : ∀ z ∈ ns, z.natAbs ≤ 2199023255552 := fun z hz => by have := hb z hz; omega
    refine ⟨_, rfl, rfl, _, rfl, ?_⟩
    refine if_join (fun σ H' => ∃ (v6 v7 v8 v9 : Option V) (ns : List Int), σ = [some (.ref d), some (.int (m : Int)), some (.int (v : Int)), some (.int way), some (.ref D), some (.int sm), v6, v7, v8, v9] ∧ Drew d H H' ∧ H' D = some (.lst (ns.map V.int)) ∧ ns.length = v ∧ ∀ z ∈ ns, z.natAbs ≤ 4398046511103)
      (fun _ => ⟨_, _, _, _, ns, rfl, w, eD, hl, fun z hz => by have := hb2 z hz; omega⟩) (fun _ k => ?_) ?_
    · refine ⟨_, rfl, d, rfl, w.here, fun nb Hb b0 b1 wb => ?_⟩
      refine ⟨_, rfl, _, _, rfl, rfl, (by show (0 : Int) < v; omega), ?_⟩
      have y0 := Int.emod_nonneg nb (show (v : Int) ≠ 0 by omega)
      have y1 := Int.emod_lt_of_pos nb (show (0 : Int) < v by omega)
      obtain ⟨j, hj⟩ : ∃ j : Nat, nb % (v : Int) = (j : Int) := ⟨(nb % (v : Int)).toNat, by omega⟩
      have hjv : j < v := by omega
      have hixj : ∀ ns : List Int, ns.length = v → atI (ns.map V.int) (j : Int) = some (.int (An ns j)) := fun ns h => at_an rfl (by omega)
      have hputj : ∀ ns : List Int, ns.length = v → ixN (ns.map V.int).length (j : Int) = some j := fun ns h => by
        rw [ixN_nat (by omega) (by rw [List.length_map]; omega)]
        rfl
      refine ⟨_, rfl, d, rfl, wb.here, fun nc Hc c0 c1 wc => ?_⟩
      have z0 := Int.emod_nonneg nc (show sm ≠ 0 by omega)
      have z1 := Int.emod_lt_of_pos nc (show 0 < sm by omega)
      refine ⟨_, rfl, _, _, rfl, rfl, (by show 0 < sm; omega), _, rfl, d, rfl, wc.here, fun nd Hd d0 d1 wd => ?_⟩
      have z2 := Int.emod_nonneg nd (show sm ≠ 0 by omega)
      have z3 := Int.emod_lt_of_pos nd (show 0 < sm by omega)
      refine ⟨_, rfl, _, _, rfl, rfl, (by show 0 < sm; omega), _, _, rfl, rfl, _, rfl, d, rfl, wd.here, fun ne He e0 e1 we => ?_⟩
      refine ⟨_, _, rfl, rfl, ⟨by decide, by decide⟩, (by show 3 ≤ sizeLine; decide), fun p hp => ?_⟩
      have We := ((w.trans wb).trans wc).trans (wd.trans we)
      have np := We.here.ne hp
      have ge := We.same (same_new hp (.lst [.int (nc % sm), .int (0 - nd % sm), .int (ne / 2)]))
      have eDe := same_new hp (.lst [.int (nc % sm), .int (0 - nd % sm), .int (ne / 2)]) _ _ (we.keep D _ (wd.keep D _ (wc.keep D _ (wb.keep D _ eD nD) nD) nD) nD)
      refine ⟨_, rfl, _, by rw [← hj]; rfl, D, _, _, _, rfl, rfl, SqL.of eDe, hixj ns hl, _, rfl, _, rfl, d, rfl, ge.here, fun nf Hf f0 f1 wf => ?_⟩
      have ep : Hf p = some (.lst [.int (nc % sm), .int (0 - nd % sm), .int (ne / 2)]) := wf.keep p _ upd_same np
      obtain ⟨x, hx, hx2⟩ : ∃ x : Int, atI [V.int (nc % sm), V.int (0 - nd % sm), V.int (ne / 2)] (nf % 3) = some (.int x) ∧ x.natAbs ≤ 1099511627776 := by
        have y0 := Int.emod_nonneg nf (show (3 : Int) ≠ 0 by decide)
        have y1 := Int.emod_lt_of_pos nf (show (0 : Int) < 3 by decide)
        generalize nf % 3 = r at y0 y1
        have z : r = 0 ∨ r = 1 ∨ r = 2 := by omega
        rcases z with rfl | rfl | rfl
        · exact ⟨_, rfl, by omega⟩
        · exact ⟨_, rfl, by omega⟩
        · exact ⟨_, rfl, by omega⟩
      have eDf := wf.keep D _ eDe nD
      have hAn : (An ns j).natAbs ≤ 2199023255552 := by
        unfold An
        rw [List.getD_eq_getElem?_getD, List.getElem?_eq_getElem (by omega)]
        exact hb2 _ (List.getElem_mem _)
      refine ⟨_, _, rfl, rfl, (by show (0 : Int) < 3; decide), p, _, _, _, rfl, rfl, SqL.of ep, hx, _, _, rfl, rfl, _, rfl, _, by rw [← hj]; rfl, D, _, _, j, rfl, rfl, eDf, hputj ns hl, ?_⟩
      refine k _ _ ⟨_, _, _, _, ns.set j (An ns j + x), rfl, (ge.trans wf).put HD nD, by rw [upd_same, List.map_set], by rw [List.length_set]; exact hl, fun z hz => ?_⟩
      rcases List.mem_or_eq_of_mem_set hz with q | q
      · have := hb2 z q
        omega
      · rw [q]
        omega
    rintro σ Ha ⟨u6, u7, u8, u9, nsa, rfl, wa, eDa, hla, hba⟩
    have fin : ∀ (D : Addr) (ns : List Int) (H' : Hp), Drew d H H' → H D = none → H' D = some (.lst (ns.map V.int)) → ns.length = v → (∀ z ∈ ns, z.natAbs ≤ 4398046511103) → Q (.ref D) H' := fun D ns H' w h e hl hb =>
      q D ns H' w h e (by omega) (by omega) (fun z hz => by have := hb z hz; unfold Bw; omega)
    refine ⟨_, rfl, rfl, _, rfl, ?_⟩
    refine ite2 (fun e => ?_) (fun e => ?_)
    · refine ⟨_, rfl, D, rfl, ⟨_, SqL.of eDa⟩, fun R hR => ?_⟩
      have nR := wa.here.ne hR
      have DR : D ≠ R := fun z => by rw [← z, eDa] at hR; cases hR
      refine lc_list (K := K) (a := D) (xs := nsa.map V.int) (fun i H' => Same Ha H' ∧ H' R = some (.lst (((nsa.take i).map fun z => 0 - z).map V.int))) ⟨same_new hR _, by rw [upd_same]; rfl⟩ (fun i H' _ ⟨s', _⟩ => s'.seq (SqL.of eDa)) ?_ ?_
      · rintro i x H' hx ⟨s', e'⟩
        obtain ⟨n, rfl, hn⟩ := ints_at hx
        have hi := idx_lt hn
        refine ⟨rfl, ?_⟩
        refine ⟨_, rfl, _, _, rfl, rfl, _, e', fill_len (k := 12) (by rw [List.length_map, List.length_take]; omega) (by decide), ?_, ?_⟩
        · intro b o e
          rw [upd_ne (ne_of_none e hR)]
          exact s' b o e
        · rw [upd_same, take_next hn, List.map_append, List.map_append]
          rfl
      · rintro H' ⟨s', e'⟩
        rw [List.length_map, List.take_of_length_le (Nat.le_refl _)] at e'
        exact ⟨_, rfl, fin R _ H' (wa.same s') (wa.free hR) e' (by rw [List.length_map]; exact hla) (fun z hz => by
          obtain ⟨y, hy, rfl⟩ := List.mem_map.mp hz
          have := hba y hy
          omega)⟩
    · exact ⟨_, rfl, fin D nsa Ha wa HD eDa hla hba⟩
end
end Pg

set_option maxHeartbeats 4000000
namespace Pg
open PySem PySem.Spec PyProof.Rows L2 Ob
section
variable {P : Program} {w : World} {K : PySem.W.Frag} {mg : Str → Option Value} {base : Heap} {f g h : Addr} {fd gd hd : FuncData} {Pt c : Addr}
theorem scLDiv : FnScope ["one", "other"] ["one", "other"] (defScope sLDiv) := ⟨rfl, rfl, rfl, by decide +kernel, rfl, by decide +kernel, by decide +kernel⟩
theorem ok_ldiv (F : Fun K "_law_divisor" "_law_divisor" sLDiv f fd) (zabs : mg "abs" = none) : FnOk P w K mg base CX0 1 f fd ["one", "other"] spLDiv := by
  refine F.ok scLDiv (fun vs H Q E h => ?_) (fun cdv A outer s H vs Q E hr h => ?_)
  · obtain ⟨i, j, rfl, _⟩ := h
    rfl
  obtain ⟨i, j, rfl, hj, q⟩ := h
  refine ⟨_, pss_cons (ps_while PassesOwn.never (pt_cmpR op_ne (pv 1) pe_int (nomark _)) (pss_one (ps_par (i := 0) (j := 1) (by rfl) scLDiv.nd rfl rfl (by decide) rfl rfl (pa_cons (pv 1) (pa_cons (pe_op op_mod (pv 0) (pv 1)) pa_nil)) (by rfl))))
    (pss_one (ps_ret (pe_callB call_abs rfl zabs boot_abs' (pa_cons (pv 0) pa_nil)))), ?_⟩
  refine while_by (fun σ H' => ∃ x y : Int, σ = [some (.int x), some (.int y)] ∧ 0 ≤ y ∧ Int.gcd x y = Int.gcd i j ∧ H' = H) (fun σ _ => match σ with | [_, some (.int y)] => y.toNat | _ => 0) ⟨_, _, rfl, by omega, rfl, rfl⟩ ?_ ?_
  · rintro σ H' ⟨x, y, rfl, hy, hg, rfl⟩
    refine ⟨_, rfl, rfl, _, rfl, ?_⟩
    by_cases e : y = 0
    · subst e
      rw [decide_eq_true (rfl : V.int 0 = V.int 0)]
      refine iteF ⟨_, rfl, _, rfl, ?_⟩
      have ex : (if x < 0 then -x else x) = (Int.gcd i j : Int) := by
        rw [← hg, Int.gcd_zero]
        split <;> omega
      show Q (.int (if x < 0 then -x else x)) H'
      rw [ex]
      exact q
    · rw [decide_eq_false (fun z => e (by injection z) : ¬ V.int y = V.int 0)]
      refine iteT ?_
      have hy0 : 0 < y := by omega
      refine ⟨_, rfl, _, rfl, _, rfl, _, _, rfl, rfl, hy0, _, _, rfl, ?_⟩
      refine ⟨⟨y, x % y, rfl, Int.emod_nonneg _ e, (gcd_turn' hy0).trans hg, rfl⟩, ?_⟩
      have h1 := Int.emod_lt_of_pos x hy0
      have h2 := Int.emod_nonneg x e
      show (x % y).toNat < y.toNat
      omega
  · rintro σ H' Q1 Q2 hQ ⟨v, e1, h2, k, e2, h3⟩
    exact ⟨v, e1, h2, k, e2, hQ _ _ h3⟩
theorem scFraction : FnScope ["top", "bottom", "part"] ["top", "bottom"] (defScope sFraction) := ⟨rfl, rfl, rfl, by decide +kernel, rfl, by decide +kernel, by decide +kernel⟩
theorem ok_lfrac (F : Fun K "_law_fraction" "_law_fraction" sFraction f fd) (G : FnOk P w K mg base CX0 1 g gd ["one", "other"] spLDiv) (bG : Binds K gd ["one", "other"] []) (kG : PySem.W.keepIn K (.ref g) = true) (mG : mg "_law_divisor" = some (.ref g)) : FnOk P w K mg base CX0 2 f fd ["top", "bottom"] spLeastB := by
  refine F.ok scFraction (fun vs H Q E h => ?_) (fun cdv A outer s H vs Q E hr h => ?_)
  · obtain ⟨t, b, rfl, _⟩ := h
    rfl
  obtain ⟨t, b, rfl, hb, hb2, q⟩ := h
  refine ⟨_, pss_cons (ps_set (i := 2) scFraction.nd rfl (Or.inl rfl) (pe_call G hr rfl mG kG bG .nil pass0 (pa_cons (pv 0) (pa_cons (pv 1) pa_nil))))
    (pss_one (ps_ret (pe_tup (pa_cons (pe_op op_fdivB (pv 0) (pv 2)) (pa_cons (pe_op op_fdivB (pv 1) (pv 2)) pa_nil))))), ?_⟩
  have g0 := gcd_pos (t := t) hb
  have g1 := gcd_le (t := t) hb
  have g2 : Bt 4000 (Int.gcd t b : Int) := hb2.le (by omega)
  refine ⟨_, rfl, _, rfl, t, b, rfl, hb, ?_⟩
  exact ⟨_, rfl, _, rfl, _, _, rfl, rfl, ⟨g0, 4000, g2, by decide⟩, _, rfl, _, rfl, _, _, rfl, rfl, ⟨g0, 4000, g2, by decide⟩, (by show 2 ≤ sizeLine; decide), fun r hr' => q r hr'⟩
end
end Pg

set_option maxHeartbeats 4000000
namespace Pg
open PySem PySem.Spec PyProof.Rows L2 Ob
section
variable {P : Program} {w : World} {K : PySem.W.Frag} {mg : Str → Option Value} {base : Heap} {f g h g3 : Addr} {fd gd hd d3 : FuncData} {Pt c : Addr}
abbrev nLPr : List Str := ["deck", "many", "either", "wide", "heights", "place", "number", "tops", "more", "bottom", "k", "top"]
theorem scLPrices : FnScope nLPr ["deck", "many", "either"] (defScope sLPrices) := ⟨rfl, rfl, rfl, by decide +kernel, rfl, by decide +kernel, by decide +kernel⟩
noncomputable def pricesD (T : Tx mg) (zabs : mg "abs" = none) (G : FnOk P w K mg base CX0 1 g gd ["deck"] spNext) (bG : Binds K gd ["deck"] []) (kG : PySem.W.keepIn K (.ref g) = true) (mG : mg "_law_next" = some (.ref g))
    (GF : FnOk P w K mg base CX0 2 h hd ["top", "bottom"] spLeastB) (bF : Binds K hd ["top", "bottom"] []) (kF : PySem.W.keepIn K (.ref h) = true) (mF : mg "_law_fraction" = some (.ref h)) (f : Addr) (cdv : Value) (A : Around) (outer : List Env) (s : Shared) (H : Hp) (E : XK)
    (hr : Room 2 (A.deeper (envOfC "_law_prices" (defScope sLPrices) s.heap.objs.size f cdv))) (hr1 : Room 1 (A.deeper (envOfC "_law_prices" (defScope sLPrices) s.heap.objs.size f cdv))) : { t : TS // WSs (cxOf CX0 P w K mg base nLPr "_law_prices" (defScope sLPrices) f cdv A outer s H E).nox (defBody sLPrices) t } :=
  ⟨_, (wss_cons (ws_set (i := 3) scLPrices.nd rfl (Or.inl rfl) (we_ix ix_list (we_lst (wa_cons ⟨pe_int⟩ (wa_cons ⟨pe_int⟩ (wa_cons ⟨pe_int⟩ (wa_cons ⟨pe_int⟩ (wa_cons ⟨pe_op op_pow pe_int pe_int⟩ wa_nil rfl) rfl) rfl) rfl) rfl)) ⟨pe_op op_mod (pe_call G hr1 rfl mG kG bG .nil pass0 (pa_cons (pv 0) pa_nil)) pe_int⟩ (fun _ _ => rfl)) rfl (Or.inl rfl))
    (wss_cons ⟨ps_set (i := 4) scLPrices.nd rfl (Or.inr rfl) (pe_op op_rep (pe_lst (pa_cons pe_int pa_nil)) (pe_op op_add (pv 1) pe_int))⟩
    (wss_cons ⟨ps_for PassesOwn.never rfl (pi_range2 rfl T.range (pa_cons pe_int (pa_cons (pv 1) pa_nil))) (pg_name (i := 5) scLPrices.nd rfl (Or.inl rfl))
      (pss_cons (ps_set (i := 6) scLPrices.nd rfl (Or.inl rfl) (pe_op op_mod (pe_call G hr1 rfl mG kG bG .nil pass0 (pa_cons (pv 0) pa_nil)) (pe_op op_add (pe_op op_mul (pe_op op_add pe_int (pv 2)) (pv 3)) pe_int))) (pss_one (ps_asg (pe_ix ix_list (pe_lst (pa_cons (pe_op op_sub (pv 6) (pe_op op_mul (pv 2) (pv 3))) (pa_cons pe_int pa_nil))) (pe_callTy call_int1 rfl T.int Ob.boot_int (pa_cons (pe_cmpR op_eq (pe_op op_mod (pe_call G hr1 rfl mG kG bG .nil pass0 (pa_cons (pv 0) pa_nil)) pe_int) pe_int (nomark _)) pa_nil)) (fun _ _ => rfl)) (pg_sub (pv 4) (pv 5) set_list))))⟩
    (wss_cons ⟨ps_setLc (i := 7) (own := [("k", 10)]) (g := gName 10) (by rfl) scLPrices.nd rfl rfl (sw_true rfl rfl rfl (by decide +kernel)) (pi_range2 rfl T.range (pa_cons pe_int (pa_cons (pe_op op_add (pv 1) pe_int) pa_nil))) (blkOk_by (own := [("k", 10)]) (N := nLPr) (sc := defScope sLPrices) (by decide +kernel)) (fun _ _ _ _ _ => pg_name (i := 10) scLPrices.nd rfl (Or.inl rfl)) (fun _ _ _ _ _ => pts_nil) (fun _ _ _ _ _ => (pe_op op_sub (pe_op op_sub (pe_op op_mul pe_int (pe_ix (r := rIxL K) ix_list (pv 4) (pv 10) (fun _ _ => rfl))) (pe_ix (r := rIxL K) ix_list (pv 4) (pe_op op_sub (pv 10) pe_int) (fun _ _ => rfl))) (pe_ix (r := rIxL K) ix_list (pv 4) (pe_op op_add (pv 10) pe_int) (fun _ _ => rfl))))⟩
    (wss_cons (ws_set (i := 8) scLPrices.nd rfl (Or.inl rfl) (we_ix ix_list (we_lst (wa_cons ⟨pe_int⟩ (wa_cons ⟨pe_int⟩ (wa_cons ⟨pe_op op_mod (pe_call G hr1 rfl mG kG bG .nil pass0 (pa_cons (pv 0) pa_nil)) pe_int⟩ (wa_cons ⟨pe_op op_mod (pe_call G hr1 rfl mG kG bG .nil pass0 (pa_cons (pv 0) pa_nil)) pe_int⟩ wa_nil rfl) rfl) rfl) rfl)) ⟨pe_op op_mod (pe_call G hr1 rfl mG kG bG .nil pass0 (pa_cons (pv 0) pa_nil)) pe_int⟩ (fun _ _ => rfl)) rfl (Or.inl rfl))
    (wss_cons ⟨ps_set (i := 9) scLPrices.nd rfl (Or.inr rfl) (pe_op op_add (pe_callB (cr_max rfl) rfl T.max PyProof.Rows.boot_max (pa_cons (pe_op op_cat (pe_lc (own := [("top", 11)]) (g := gName 11) (by rfl) scLPrices.nd (pi_list (pv 7)) (blkOk_by (own := [("top", 11)]) (N := nLPr) (sc := defScope sLPrices) (by decide +kernel)) (fun _ _ _ _ _ => pg_name (i := 11) scLPrices.nd rfl (Or.inl rfl)) (fun _ _ _ _ _ => pts_nil) (fun _ _ _ _ _ => pe_callB call_abs rfl zabs boot_abs' (pa_cons (pv 11) pa_nil))) (pe_lst (pa_cons pe_int pa_nil))) pa_nil)) (pv 8))⟩
    (wss_one ⟨ps_ret (pe_lc (own := [("top", 11)]) (g := gName 11) (by rfl) scLPrices.nd (pi_list (pv 7)) (blkOk_by (own := [("top", 11)]) (N := nLPr) (sc := defScope sLPrices) (by decide +kernel)) (fun _ _ _ _ _ => pg_name (i := 11) scLPrices.nd rfl (Or.inl rfl)) (fun _ _ _ _ _ => pts_nil) (fun _ _ _ _ _ => pe_call GF hr rfl mF kF bF .nil pass0 (pa_cons (pv 11) (pa_cons (pv 9) pa_nil))))⟩)))))))⟩
end
end Pg

set_option maxHeartbeats 4000000
namespace Pg
open PySem PySem.Spec PyProof.Rows L2 Ob
section
variable {P : Program} {w : World} {K : PySem.W.Frag} {mg : Str → Option Value} {base : Heap} {f g h g3 : Addr} {fd gd hd d3 : FuncData} {Pt c : Addr}
theorem ok_lprices (F : Fun K "_law_prices" "_law_prices" sLPrices f fd) (T : Tx mg) (zabs : mg "abs" = none) (G : FnOk P w K mg base CX0 1 g gd ["deck"] spNext) (bG : Binds K gd ["deck"] []) (kG : PySem.W.keepIn K (.ref g) = true) (mG : mg "_law_next" = some (.ref g))
    (GF : FnOk P w K mg base CX0 2 h hd ["top", "bottom"] spLeastB) (bF : Binds K hd ["top", "bottom"] []) (kF : PySem.W.keepIn K (.ref h) = true) (mF : mg "_law_fraction" = some (.ref h)) : FnOk P w K mg base CX0 3 f fd ["deck", "many", "either"] (spLPricesB 500000) := by
  refine F.ok scLPrices (fun vs H Q E h => ?_) (fun cdv A outer s H vs Q E hr h => ?_)
  · obtain ⟨d, m, ei, rfl, _⟩ := h
    rfl
  obtain ⟨d, m, ei, rfl, hd, hm1, hm, ei0, ei1, q⟩ := h
  have hr1 : Room 1 _ := hr.mono (by decide)
  refine use_ws (pricesD T zabs G bG kG mG GF bF kF mF f cdv A outer s H E hr hr1).2 ?_
  refine ⟨_, _, rfl, rfl, ⟨by decide, by decide, by decide⟩, (by show 5 ≤ sizeLine; decide), fun l hl => ?_⟩
  have e5 : (10 : Int) ^ Int.toNat 5 = 100000 := by decide
  rw [e5] at *
  have g1 := Drew.of hd (same_new hl (.lst [.int 1, .int 2, .int 5, .int 60, .int 100000]))
  have nl := hd.ne hl
  refine ⟨_, rfl, d, rfl, g1.here, fun n1 H1 a0 a1 w1 => ?_⟩
  have b0 := Int.emod_nonneg n1 (show (5 : Int) ≠ 0 by decide)
  have b1 := Int.emod_lt_of_pos n1 (show (0 : Int) < 5 by decide)
  have el : H1 l = some (.lst [.int 1, .int 2, .int 5, .int 60, .int 100000]) := w1.keep l _ upd_same nl
  obtain ⟨wd, hwd, x0, x9⟩ : ∃ wd : Int, atI [V.int 1, V.int 2, V.int 5, V.int 60, V.int 100000] (n1 % 5) = some (.int wd) ∧ 1 ≤ wd ∧ wd ≤ 100000 := by
    generalize n1 % 5 = k at b0 b1
    have : k = 0 ∨ k = 1 ∨ k = 2 ∨ k = 3 ∨ k = 4 := by omega
    rcases this with rfl | rfl | rfl | rfl | rfl
    · exact ⟨1, rfl, by decide, by decide⟩
    · exact ⟨2, rfl, by decide, by decide⟩
    · exact ⟨5, rfl, by decide, by decide⟩
    · exact ⟨60, rfl, by decide, by decide⟩
    · exact ⟨100000, rfl, by decide, by decide⟩
  have W1 := g1.trans w1
  refine ⟨_, _, rfl, rfl, (by show (0 : Int) < 5; decide), l, _, _, _, rfl, rfl, SqL.of el, hwd, ?_⟩
  refine ⟨(by show 1 ≤ sizeLine; decide), fun p hp => ?_⟩
  refine ⟨_, rfl, _, _, rfl, rfl, p, _, _, rfl, rfl, upd_same, by omega, by omega, ?_, fun hs hhs => ?_⟩
  · refine Nat.le_trans (?_ : 1 * ((m : Int) + 2).toNat ≤ 1000) (by decide)
    omega
  have g2 := W1.new hp (.lst [.int 0])
  have Hhs := g2.free hhs
  have nhs := g2.here.ne hhs
  have g3 := g2.new hhs (.lst (List.replicate ((m : Int) + 2).toNat [V.int 0]).flatten)
  have ez : (List.replicate ((m : Int) + 2).toNat [V.int 0]).flatten = (List.replicate (m + 2) (0 : Int)).map V.int := by
    rw [show ((m : Int) + 2).toNat = m + 2 by omega]
    exact flat_zeros _
  obtain ⟨KK, hKK, K0, K1⟩ : ∃ KK : Int, (1 + ei) * wd = KK ∧ 1 ≤ KK ∧ KK ≤ 200000 := by
    have z : ei = 0 ∨ ei = 1 := by omega
    rcases z with rfl | rfl
    · exact ⟨_, rfl, by omega, by omega⟩
    · exact ⟨_, rfl, by omega, by omega⟩
  obtain ⟨EE, hEE, E0', E1'⟩ : ∃ EE : Int, ei * wd = EE ∧ 0 ≤ EE ∧ EE ≤ 100000 := by
    have z : ei = 0 ∨ ei = 1 := by omega
    rcases z with rfl | rfl
    · exact ⟨_, rfl, by omega, by omega⟩
    · exact ⟨_, rfl, by omega, by omega⟩
  refine ⟨_, rfl, _, _, rfl, ⟨by decide, by decide, by omega, by omega⟩, ?_⟩
  rw [show ((m : Int) - 2).toNat = m - 2 by omega]
  refine for_range (lo := 2) (n := m - 2) (fun i σ H' => ∃ (v5 v6 : Option V) (hv : List Int), σ = [some (.ref d), some (.int (m : Int)), some (.int ei), some (.int wd), some (.ref hs), v5, v6, none, none, none, none, none] ∧ Drew d H H' ∧ H' hs = some (.lst (hv.map V.int)) ∧ hv.length = m + 2 ∧ (∀ z ∈ hv, z.natAbs ≤ 200000) ∧ (∀ j, (j < 2 ∨ m ≤ j) → An hv j = 0) ∧ (ei = 0 → ∀ j, 0 ≤ An hv j ∧ An hv j ≤ 100000))
    ⟨_, _, List.replicate (m + 2) 0, rfl, g3, by rw [upd_same, ez], List.length_replicate, fun z hz => by rw [(List.mem_replicate.mp hz).2]; decide, fun j _ => an_zeros _ _, fun _ j => by rw [an_zeros]; decide⟩ ?_ ?_
  · rintro i σ H' hi ⟨v5, v6, hv, rfl, w, eH, hl', hb, hz0, hp0⟩
    refine ⟨_, rfl, d, rfl, w.here, fun n2 H2 c0 c1 w2 => ?_⟩
    refine ⟨_, rfl, _, _, rfl, rfl, _, rfl, _, _, rfl, rfl, .inl ⟨by omega, by omega⟩, _, _, rfl, rfl, _, _, rfl, rfl, (by show 0 < (1 + ei) * wd + 1; omega), ?_⟩
    have y0 := Int.emod_nonneg n2 (show (1 + ei) * wd + 1 ≠ 0 by omega)
    have y1 := Int.emod_lt_of_pos n2 (show 0 < (1 + ei) * wd + 1 by omega)
    have eH2 := w2.keep hs _ eH nhs
    refine ⟨_, rfl, _, rfl, _, rfl, _, _, rfl, rfl, .inl ⟨by omega, by omega⟩, _, _, rfl, rfl, (by show 2 ≤ sizeLine; decide), fun p2 hp2 => ?_⟩
    have W2 := w.trans w2
    have np2 := W2.here.ne hp2
    have g4 := W2.new hp2 (.lst [.int (n2 % ((1 + ei) * wd + 1) - ei * wd), .int 0])
    have eH4 := same_new hp2 (.lst [.int (n2 % ((1 + ei) * wd + 1) - ei * wd), .int 0]) _ _ eH2
    refine ⟨_, rfl, d, rfl, g4.here, fun n3 H3 d0 d1 w3 => ?_⟩
    have ep2 : H3 p2 = some (.lst [.int (n2 % ((1 + ei) * wd + 1) - ei * wd), .int 0]) := w3.keep p2 _ upd_same np2
    have eH5 := w3.keep hs _ eH4 nhs
    obtain ⟨x, hx, hx2, hx3⟩ : ∃ x : Int, atI [V.int (n2 % ((1 + ei) * wd + 1) - ei * wd), V.int 0] (if (decide (V.int (n3 % 4) = V.int 0)) = true then 1 else 0) = some (.int x) ∧ x.natAbs ≤ 200000 ∧ (ei = 0 → 0 ≤ x ∧ x ≤ 100000) := by
      by_cases z : decide (V.int (n3 % 4) = V.int 0) = true
      · rw [if_pos z]
        exact ⟨0, rfl, by decide, fun _ => by decide⟩
      · rw [if_neg z]
        refine ⟨_, rfl, by omega, fun he => ?_⟩
        subst he
        rw [show (0 : Int) * wd = 0 by omega] at *
        rw [show ((1 : Int) + 0) * wd = wd by omega] at *
        omega
    refine ⟨_, _, rfl, rfl, (by show (0 : Int) < 4; decide), rfl, .inr ⟨_, rfl, p2, _, _, _, rfl, rfl, SqL.of ep2, hx, _, rfl, _, rfl, hs, _, _, i + 2, rfl, rfl, eH5, by rw [ixN_nat (by omega) (by rw [List.length_map]; omega)]; congr 1; omega, ?_⟩⟩
    refine ⟨_, _, hv.set (i + 2) x, rfl, (g4.trans w3).put Hhs nhs, by rw [upd_same, List.map_set], by rw [List.length_set]; exact hl', fun z hz => ?_, fun j hj => ?_, fun he j => ?_⟩
    · rcases List.mem_or_eq_of_mem_set hz with q | q
      · exact hb z q
      · rw [q]
        exact hx2
    · rw [an_set' (by omega), if_neg (by omega)]
      exact hz0 j hj
    · rw [an_set' (by omega)]
      split
      · exact hx3 he
      · exact hp0 he j
  rintro σ H' ⟨v5, v6, hv, rfl, w, eH, hl', hb, hz0, hp0⟩
  have hAn : ∀ j : Nat, j < m + 2 → (An hv j).natAbs ≤ 200000 := fun j hj => by
    unfold An
    rw [List.getD_eq_getElem?_getD, List.getElem?_eq_getElem (by omega)]
    exact hb _ (List.getElem_mem _)
  refine ⟨_, rfl, _, _, rfl, rfl, _, _, rfl, ⟨by decide, by decide, by omega, by omega⟩, fun D hD => ?_⟩
  have nD := w.here.ne hD
  have HD := w.free hD
  rw [show ((m : Int) + 1 - 1).toNat = m by omega]
  refine lc_range (lo := 1) (n := m) (fun i H2 => Same H' H2 ∧ ∃ gs : List Int, gs.length = i ∧ (∀ z ∈ gs, z.natAbs ≤ 800000) ∧ (∀ j, j < i → An gs j = 2 * An hv (1 + j) - An hv j - An hv (2 + j)) ∧ H2 D = some (.lst (gs.map V.int))) ⟨same_new hD _, [], rfl, fun _ z => (nomatch z), fun j hj => absurd hj (by omega), by rw [upd_same]; rfl⟩ ?_ ?_
  · rintro i H2 hi ⟨s', gs, hgl, hgb, hgf, eD⟩
    have z1 := hAn (1 + i) (by omega)
    have z2 := hAn i (by omega)
    have z3 := hAn (2 + i) (by omega)
    refine ⟨rfl, ?_⟩
    refine ⟨_, rfl, _, rfl, hs, _, _, _, rfl, rfl, SqL.of (s' _ _ eH), at_an (j := 1 + i) (by omega) (by omega), _, _, rfl, rfl, .inl ⟨by decide, by decide⟩, _, rfl, _, rfl, _, _, rfl, rfl, hs, _, _, _, rfl, rfl, SqL.of (s' _ _ eH), at_an (j := i) (by omega) (by omega), _, _, rfl, rfl, _, rfl, _, rfl, _, _, rfl, rfl, hs, _, _, _, rfl, rfl, SqL.of (s' _ _ eH), at_an (j := 2 + i) (by omega) (by omega), _, _, rfl, rfl, _, eD, fill_len (k := 12) (by omega) (by decide), put_new s' hD, gs ++ [2 * An hv (1 + i) - An hv i - An hv (2 + i)], by rw [List.length_append, hgl]; rfl, fun z hz => ?_, fun j hj => ?_, by rw [upd_same, List.map_append]; rfl⟩
    · rcases List.mem_append.mp hz with q | q
      · exact hgb z q
      · rw [List.mem_singleton.mp q]
        omega
    · by_cases c : j < i
      · rw [an_app (by omega)]
        exact hgf j c
      · have e : j = gs.length := by omega
        rw [e, an_last, hgl]
  rintro H2 ⟨s2, gs, hgl, hgb, hgf, eD⟩
  have gsm : ei = 0 → ∀ z ∈ gs, z.natAbs ≤ 200000 := fun he z hz => by
    obtain ⟨j, hj⟩ := List.mem_iff_getElem?.mp hz
    have hjl := (List.getElem?_eq_some_iff.mp hj).1
    have e := hgf j (by omega)
    rw [an_val' hj] at e
    have p1 := hp0 he (1 + j)
    have p2 := hp0 he j
    have p3 := hp0 he (2 + j)
    omega
  have gsh : ei = 0 → ShowsF (An gs) gs.length := fun he => by
    rw [hgl]
    exact shows_heights hm1 (hz0 0 (by omega)) (hz0 1 (by omega)) (hz0 m (by omega)) (hz0 (m + 1) (by omega)) (fun i _ => (hp0 he i).1) fun i hi => hgf i hi
  have w2 := w.same s2
  refine ⟨_, rfl, d, rfl, w2.here, fun n4 H4 c0 c1 w4 => ?_⟩
  refine ⟨_, _, rfl, rfl, (by show (0 : Int) < 9; decide), _, rfl, d, rfl, w4.here, fun n5 H5 d0 d1 w5 => ?_⟩
  refine ⟨_, _, rfl, rfl, (by show (0 : Int) < 500000; decide), (by show 4 ≤ sizeLine; decide), fun l3 hl3 => ?_⟩
  have W5 := (w2.trans w4).trans w5
  have nl3 := W5.here.ne hl3
  have g5 := W5.new hl3 (.lst [.int 0, .int 0, .int (n4 % 9), .int (n5 % 500000)])
  refine ⟨_, rfl, d, rfl, g5.here, fun n6 H6 f0 f1 w6 => ?_⟩
  have el3 : H6 l3 = some (.lst [.int 0, .int 0, .int (n4 % 9), .int (n5 % 500000)]) := w6.keep l3 _ upd_same nl3
  have eD6 := w6.keep D _ (same_new hl3 (.lst [.int 0, .int 0, .int (n4 % 9), .int (n5 % 500000)]) _ _ (w5.keep D _ (w4.keep D _ eD nD) nD)) nD
  have W6 := g5.trans w6
  obtain ⟨mr, hmr, r0, r1⟩ : ∃ mr : Int, atI [V.int 0, V.int 0, V.int (n4 % 9), V.int (n5 % 500000)] (n6 % 4) = some (.int mr) ∧ 0 ≤ mr ∧ mr < 500000 := by
    have y0 := Int.emod_nonneg n6 (show (4 : Int) ≠ 0 by decide)
    have y1 := Int.emod_lt_of_pos n6 (show (0 : Int) < 4 by decide)
    generalize n6 % 4 = k at y0 y1
    have z : k = 0 ∨ k = 1 ∨ k = 2 ∨ k = 3 := by omega
    rcases z with rfl | rfl | rfl | rfl
    · exact ⟨0, rfl, by decide, by decide⟩
    · exact ⟨0, rfl, by decide, by decide⟩
    · exact ⟨n4 % 9, rfl, by omega, by omega⟩
    · exact ⟨n5 % 500000, rfl, by omega, by omega⟩
  refine ⟨_, _, rfl, rfl, (by show (0 : Int) < 4; decide), l3, _, _, _, rfl, rfl, SqL.of el3, hmr, ?_⟩
  refine ⟨_, rfl, D, rfl, ⟨_, SqL.of eD6⟩, fun D2 hD2 => ?_⟩
  refine lc_list (K := K) (a := D) (xs := gs.map V.int) (fun i H7 => Same H6 H7 ∧ H7 D2 = some (.lst (((gs.take i).map absI).map V.int))) ⟨same_new hD2 _, by rw [upd_same]; rfl⟩ (fun i H7 _ ⟨s', _⟩ => s'.seq (SqL.of eD6)) ?_ ?_
  · rintro i x H7 hx ⟨s', e'⟩
    obtain ⟨n, rfl, hn⟩ := ints_at hx
    have hi := idx_lt hn
    refine ⟨rfl, ?_⟩
    refine ⟨_, rfl, _, rfl, _, e', fill_len (k := 12) (by rw [List.length_map, List.length_take]; omega) (by decide), put_new s' hD2, ?_⟩
    rw [upd_same, take_next hn, List.map_append, List.map_append]
    rfl
  rintro H7 ⟨s7, e7⟩
  rw [List.length_map, List.take_of_length_le (Nat.le_refl _)] at e7
  refine ⟨(by show 1 ≤ sizeLine; decide), fun p3 hp3 => ?_⟩
  have s8 := s7.trans (same_new hp3 (.lst [.int 1]))
  refine ⟨D2, p3, _, _, rfl, rfl, same_new hp3 (.lst [.int 1]) _ _ e7, upd_same, ?_, fun p4 hp4 => ?_⟩
  · refine Nat.le_trans (?_ : _ ≤ 100) (by decide)
    rw [List.length_map, List.length_map]
    show gs.length + 1 ≤ 100
    omega
  have s9 := s8.trans (same_new hp4 (.lst ((gs.map absI).map V.int ++ [.int 1])))
  refine ⟨p4, gs.map absI ++ [1], rfl, SqL.of (by rw [upd_same, List.map_append]; rfl), by rw [List.length_append]; show 0 < _ + 1; omega, fun mx hmx hle => ?_⟩
  have mx1 : 1 ≤ mx := hle 1 (by simp)
  have mx2 : mx ≤ 800000 := by
    rcases List.mem_append.mp hmx with q | q
    · obtain ⟨z, hz, rfl⟩ := List.mem_map.mp q
      have := hgb z hz
      have := absI_abs z
      have := absI_nonneg z
      omega
    · rw [List.mem_singleton.mp q]
      decide
  have mx3 : ei = 0 → mx ≤ 200000 := fun he => by
    rcases List.mem_append.mp hmx with q | q
    · obtain ⟨z, hz, rfl⟩ := List.mem_map.mp q
      have := gsm he z hz
      have := absI_abs z
      have := absI_nonneg z
      omega
    · rw [List.mem_singleton.mp q]
      decide
  have gle : ∀ z ∈ gs, z.natAbs ≤ (mx + mr).natAbs := fun z hz => by
    have h1 := hle (absI z) (List.mem_append.mpr (.inl (List.mem_map.mpr ⟨z, hz, rfl⟩)))
    have := absI_abs z
    have := absI_nonneg z
    omega
  refine ⟨_, rfl, _, _, rfl, rfl, ?_⟩
  have eD9 := s9 _ _ eD6
  refine ⟨_, rfl, D, rfl, ⟨_, SqL.of eD9⟩, fun D3 hD3 => ?_⟩
  refine lc_list (K := K) (a := D) (xs := gs.map V.int) (fun i HA => Same (upd (upd H7 p3 (.lst [.int 1])) p4 (.lst ((gs.map absI).map V.int ++ [.int 1]))) HA ∧ ∃ rs : List Addr, FracsAt HA rs ((gs.take i).map fun t => (redT t (mx + mr), redB t (mx + mr))) ∧ HA D3 = some (.lst (rs.map V.ref))) ⟨same_new hD3 _, [], .nil, by rw [upd_same]; rfl⟩ (fun i HA _ ⟨s', _⟩ => s'.seq (SqL.of eD9)) ?_ ?_
  · rintro i x HA hx ⟨s', rs, fr, e'⟩
    obtain ⟨n, rfl, hn⟩ := ints_at hx
    have hi := idx_lt hn
    have hrl : rs.length = _ := Paired.length fr
    rw [List.length_map, List.length_take] at hrl
    refine ⟨rfl, ?_⟩
    refine ⟨_, rfl, _, rfl, n, mx + mr, rfl, by omega, by unfold Bt; exact Nat.lt_of_lt_of_le (show (mx + mr).natAbs < 2 ^ 40 by omega) (Nat.pow_le_pow_right (by decide) (by decide)), fun r hr' => ?_⟩
    have t1 := same_new hr' (.tup [.int (redT n (mx + mr)), .int (redB n (mx + mr))])
    refine ⟨_, t1 _ _ e', ?_, put_new (s'.trans t1) hD3, rs ++ [r], ?_, ?_⟩
    · refine Nat.lt_of_le_of_lt ?_ (small1000 (n := 12) (by decide))
      rw [List.length_map]
      omega
    · rw [take_next hn, List.map_append]
      exact fracs_put (t1 _ _ e') (fracs_snoc upd_same (fr.same t1))
    · rw [upd_same, List.map_append]
      rfl
  rintro HA ⟨s', rs, fr, e'⟩
  rw [List.length_map, List.take_of_length_le (Nat.le_refl _)] at fr
  have pq : ∀ t ∈ gs.map (fun t => (redT t (mx + mr), redB t (mx + mr))), Pq t := fun t ht => by
    obtain ⟨z, hz, rfl⟩ := List.mem_map.mp ht
    exact pq_red (by omega) (by omega) (gle z hz)
  have gl : (gs.map (fun t => (redT t (mx + mr), redB t (mx + mr)))).length = m := by rw [List.length_map]; exact hgl
  exact q D3 rs _ HA (W6.same (s9.trans s')) ((W6.same s9).free hD3) ⟨e', fr, fun t ht => (pq t ht).fq, by omega, by omega⟩ gl pq fun he => ⟨fun t ht => by
    obtain ⟨z, hz, rfl⟩ := List.mem_map.mp ht
    have := mx3 he
    have e : (redB z (mx + mr)).natAbs ≤ (mx + mr).natAbs := Int.natAbs_ediv_le_natAbs _ _
    have p := redB_pos (t := z) (show 0 < mx + mr by omega)
    show redB z (mx + mr) ≤ _
    omega, fun L oL => red_shows (by omega) (gsh he) oL⟩
end
end Pg

set_option maxHeartbeats 4000000
namespace Pg
open PySem PySem.Spec PyProof.Rows L2 Ob
section
variable {P : Program} {w : World} {K : PySem.W.Frag} {mg : Str → Option Value} {base : Heap} {f g : Addr} {fd gd : FuncData}
theorem scHalf : FnScope ["one", "other"] ["one", "other"] (defScope sHalf) := ⟨rfl, rfl, rfl, by decide +kernel, rfl, by decide +kernel, by decide +kernel⟩
theorem ok_half (F : Fun K "_law_half" "_law_half" sHalf f fd) (G : FnOk P w K mg base CX0 2 g gd ["top", "bottom"] spLeastB) (bG : Binds K gd ["top", "bottom"] []) (kG : PySem.W.keepIn K (.ref g) = true) (mG : mg "_law_fraction" = some (.ref g)) : FnOk P w K mg base CX0 3 f fd ["one", "other"] spHalfF := by
  refine F.ok scHalf (fun vs H Q E h => ?_) (fun cdv A outer s H vs Q E hr h => ?_)
  · obtain ⟨r1, r2, a, b, rfl, _⟩ := h
    rfl
  obtain ⟨r1, r2, a, b, rfl, e1, e2, a0, b0, ab, bb, q⟩ := h
  refine ⟨_, pss_one (ps_ret (pe_call G hr rfl mG kG bG .nil pass0 (pa_cons (pe_op op_add (pe_op op_mulB (pe_ix ix_tup (pv 0) pe_int (fun _ _ => rfl)) (pe_ix ix_tup (pv 1) pe_int (fun _ _ => rfl))) (pe_op op_mulB (pe_ix ix_tup (pv 1) pe_int (fun _ _ => rfl)) (pe_ix ix_tup (pv 0) pe_int (fun _ _ => rfl)))) (pa_cons (pe_op op_mulB (pe_op op_mulB pe_int (pe_ix ix_tup (pv 0) pe_int (fun _ _ => rfl))) (pe_ix ix_tup (pv 1) pe_int (fun _ _ => rfl))) pa_nil)))), ?_⟩
  refine ⟨_, rfl, r1, _, _, _, rfl, rfl, SqT.of e1, rfl, _, rfl, r2, _, _, _, rfl, rfl, SqT.of e2, rfl, _, _, rfl, rfl, ⟨1000, 1000, ab.1, bb.2, by decide⟩, _, rfl, r2, _, _, _, rfl, rfl, SqT.of e2, rfl, _, rfl, r1, _, _, _, rfl, rfl, SqT.of e1, rfl, _, _, rfl, rfl, ⟨1000, 1000, bb.1, ab.2, by decide⟩, _, _, rfl, rfl, ?_⟩
  have b2 : Bt 2 2 := by unfold Bt; decide
  refine ⟨_, rfl, r1, _, _, _, rfl, rfl, SqT.of e1, rfl, _, _, rfl, rfl, ⟨2, 1000, b2, ab.2, by decide⟩, _, rfl, r2, _, _, _, rfl, rfl, SqT.of e2, rfl, _, _, rfl, rfl, ⟨1002, 1000, b2.mul ab.2, bb.2, by decide⟩, ?_⟩
  exact ⟨_, _, rfl, half_pos a0 b0, ((b2.mul ab.2).mul bb.2).mono (by decide), fun r hr' => q r hr'⟩
end
end Pg

set_option maxHeartbeats 4000000
namespace Ob
open PySem PySem.Spec PyProof.Rows L2
theorem hull_fq2 {A : Nat → Int} {n j : Nat} {t : Int × Int} (hn : n ≤ 12) (hA : ∀ i, i < n → Bt 42 (A i)) (hj : j < n) (h : HullAt A n j t) : Fq t := by
  have s := hull_small h hn
  have p0 := h.pos
  refine ⟨p0, Int.lt_of_le_of_lt s (by decide), h.cop, ?_⟩
  rcases h.on with ⟨e, rfl⟩ | ⟨p, q, hpq, hq, hp, hjq, _, e⟩
  · exact (hA 0 (by omega)).mono (k := 62) (by decide)
  · have b1 : Bt 4 ((q : Int) - (j : Int)) := by show Int.natAbs _ < 2 ^ 4; omega
    have b2 : Bt 4 ((j : Int) - (p : Int)) := by show Int.natAbs _ < 2 ^ 4; omega
    have b : Bt 50 (ln A p q j) := (((hA _ (by omega)).mul b1).add ((hA _ hq).mul b2)).mono (by decide)
    have b3 : Bt 4 t.2 := by show Int.natAbs _ < 2 ^ 4; omega
    have b4 := b3.mul b
    rw [← e] at b4
    have l : t.1.natAbs ≤ (t.1 * ((q : Int) - p)).natAbs := by
      rw [Int.natAbs_mul]
      exact Nat.le_mul_of_pos_right _ (by omega)
    exact Nat.lt_of_le_of_lt l (b4.mono (k := 62) (by decide))
/-- a row of fractions that bends one way -/
structure BtL (H : Hp) (o : Addr) (n : Nat) : Prop where
  ex : ∃ (os : List Addr) (fs : List (Int × Int)), FqL H o os fs ∧ fs.length = n ∧ ∀ B, Over2 fs B → Conv (An (fs.map (overT B))) fs.length
theorem BtL.same {H H' : Hp} {o : Addr} {n : Nat} (h : BtL H o n) (s : Same H H') : BtL H' o n := let ⟨os, fs, a, b, c⟩ := h.ex; ⟨os, fs, a.same s, b, c⟩
theorem fq_one {n : Int} (h : Bt 42 n) : Fq (n, 1) := ⟨(show (0 : Int) < 1 by decide), (show (1 : Int) < 2 ^ 40 by decide), by show Int.gcd n 1 = 1; exact Int.gcd_one, h.mono (k := 62) (by decide)⟩
theorem BtL.whole {H : Hp} {o : Addr} {rs : List Addr} {bs : List Int} (e : H o = some (.lst (rs.map V.ref))) (f : FracsAt H rs (bs.map fun n => (n, (1 : Int)))) (l1 : 1 ≤ bs.length) (l2 : bs.length ≤ 12) (hb : ∀ z ∈ bs, Bt 42 z) (hc : Conv (An bs) bs.length) : BtL H o bs.length :=
  ⟨⟨rs, _, ⟨e, f, fun t ht => by obtain ⟨n, hn, rfl⟩ := List.mem_map.mp ht; exact fq_one (hb n hn), by rw [List.length_map]; exact l1, by rw [List.length_map]; exact l2⟩, by rw [List.length_map], fun B o => bent_fr hc o⟩⟩
theorem BtL.below {H : Hp} {o : Addr} {rs : List Addr} {ns : List Int} {ts : List (Int × Int)} (e : H o = some (.lst (rs.map V.ref))) (f : FracsAt H rs ts) (hl : ts.length = ns.length) (l1 : 1 ≤ ns.length) (l2 : ns.length ≤ 12) (hb : ∀ z ∈ ns, Bt 42 z) (hh : ∀ j t, ts[j]? = some t → HullAt (An ns) ns.length j t) : BtL H o ns.length := by
  have hB : ∀ i, i < ns.length → Bt 42 (An ns i) := fun i hi => hb _ (List.mem_of_getElem? (an_at hi))
  have fq : ∀ t ∈ ts, Fq t := fun t ht => by
    obtain ⟨i, hi⟩ := List.mem_iff_getElem?.mp ht
    exact hull_fq2 l2 hB (by have := (List.getElem?_eq_some_iff.mp hi).1; omega) (hh i t hi)
  refine ⟨⟨rs, ts, ⟨e, f, fq, by omega, by omega⟩, hl, fun B oB => bent_told oB (fun t ht => (fq t ht).pos) fun j t u v ht hu hv => ?_⟩⟩
  have z := hull_bendF (by have := (List.getElem?_eq_some_iff.mp hv).1; omega) (hh _ _ ht) (hh _ _ hu) (hh _ _ hv)
  unfold BendF at z
  rw [Int.mul_assoc] at z
  exact z
theorem meas_sum {gs : List Int} {L : Int} {t : Int × Int} (h : MeasIs "sum" gs L t) : t = (redT gs.sum L, redB gs.sum L) := by
  rcases h with ⟨e, _⟩ | ⟨e, _⟩ | ⟨_, e⟩ | ⟨e, _⟩
  · exact absurd e (by decide)
  · exact absurd e (by decide)
  · exact e
  · exact absurd e (by decide)
theorem fracs_revF {H : Hp} : ∀ {rs : List Addr} {ts : List (Int × Int)}, FracsAt H rs ts → FracsAt H rs.reverse ts.reverse
  | _, _, .nil => .nil
  | _, _, .cons h t => by
    rw [List.reverse_cons, List.reverse_cons]
    exact fracs_snoc h (fracs_revF t)
theorem far_bt {ns : List Int} {fs : List (Int × Int)} {L : Int} (oL : Over2 fs L) (hn : ∀ z ∈ ns, Bt 42 z) (hf : ∀ t ∈ fs, Fq t) (hl : fs.length ≤ 12) : Bt 1000 (redT (gapsOf ns fs L).sum L) ∧ Bt 1000 (redB (gapsOf ns fs L).sum L) := by
  have z := sum_bt (k := 600) (gapsOf ns fs L) fun g hg => by
    obtain ⟨p, hp, rfl⟩ := List.mem_map.mp hg
    have q := List.of_mem_zip hp
    exact gap_bt oL.bt (hn _ q.1) (hf _ q.2)
  have l : (gapsOf ns fs L).length ≤ 12 := by
    unfold gapsOf
    rw [List.length_map, List.length_zip]
    omega
  have b : Bt 604 (gapsOf ns fs L).sum := by
    refine Nat.lt_of_le_of_lt z (Nat.lt_of_le_of_lt (Nat.mul_le_mul_right _ l) ?_)
    rw [show 604 = 4 + 600 from rfl, Nat.pow_add]
    exact Nat.mul_lt_mul_of_pos_right (by decide) (Nat.pow_pos (by decide))
  exact ⟨(b.le (Int.natAbs_ediv_le_natAbs _ _)).mono (by decide), (oL.bt.le (Int.natAbs_ediv_le_natAbs _ _)).mono (by decide)⟩
theorem over2_rev {ts : List (Int × Int)} {M : Int} (h : Over2 ts.reverse M) : Over2 ts M := ⟨h.pos, fun t ht => h.dvd t (List.mem_reverse.mpr ht), h.bt⟩
theorem TS.rev {ns : List Int} {ts : List (Int × Int)} {M : Int} (hl : ns.length = ts.length) : TS ns.reverse ts.reverse M = TS ns ts M := by
  unfold TS
  rw [List.map_reverse, dot_rev (by rw [List.length_map]; exact hl)]
theorem TS.line {ns ms : List Int} {ts : List (Int × Int)} {M : Int} {u v : Int} (hl : ns.length = ts.length) (hm : ms.length = ts.length) (hs : showsB (ts.map (overT M)) = true) (e : ∀ i, i < ts.length → An ms i = An ns i + (u + v * (i : Int))) : TS ms ts M = TS ns ts M := by
  unfold TS
  rw [dot_line (ns := ns) (by rw [List.length_map]; exact hl) (by rw [List.length_map]; exact hm) hs (by rw [List.length_map]; exact e)]
theorem TS.half {ns : List Int} {xs ys : List (Int × Int)} {A B M : Int} (hn : ns.length = xs.length) (hl : xs.length = ys.length) (px : ∀ t ∈ xs, Pq t) (py : ∀ t ∈ ys, Pq t) (oA : Over2 xs A) (oB : Over2 ys B) (oM : Over2 (List.zipWith halfT xs ys) M) : TS ns (List.zipWith halfT xs ys) M = halfT (TS ns xs A) (TS ns ys B) :=
  half_told hn hl (fun t ht => (px t ht).fq.pos) (fun t ht => (py t ht).fq.pos) oA oB oM
theorem TS.zeros (ns : List Int) : TS ns (List.replicate ns.length ((0 : Int), (1 : Int))) 1 = (0, 1) := by
  unfold TS
  rw [zeros_dot ns _ rfl]
  decide
theorem half_fq {H : Hp} {a : Addr} {rs : List Addr} {xs ys : List (Int × Int)} (e : H a = some (.lst (rs.map V.ref))) (f : FracsAt H rs (List.zipWith halfT xs ys)) (hl : xs.length = ys.length) (l1 : 1 ≤ xs.length) (l2 : xs.length ≤ 12) (px : ∀ t ∈ xs, Pq t) (py : ∀ t ∈ ys, Pq t) (sx : ∀ t ∈ xs, t.2 ≤ 700000) (sy : ∀ t ∈ ys, t.2 ≤ 700000) : FqL H a rs (List.zipWith halfT xs ys) ∧ ∀ t ∈ List.zipWith halfT xs ys, Pq t := by
  have pq : ∀ t ∈ List.zipWith halfT xs ys, Pq t := fun t ht => by
    obtain ⟨i, hi⟩ := List.mem_iff_getElem?.mp ht
    rw [List.getElem?_zipWith] at hi
    cases hx : xs[i]? with
    | none => rw [hx] at hi; cases hi
    | some a =>
      cases hy : ys[i]? with
      | none => rw [hx, hy] at hi; cases hi
      | some b =>
        rw [hx, hy] at hi
        have e : t = halfT a b := by injection hi with hi; exact hi.symm
        rw [e]
        have ma := List.mem_of_getElem? hx
        have mb := List.mem_of_getElem? hy
        exact half_pq (px a ma) (py b mb) (sx a ma) (sy b mb)
  exact ⟨⟨e, f, fun t ht => (pq t ht).fq, by rw [half_len hl]; exact l1, by rw [half_len hl]; exact l2⟩, pq⟩
theorem fq_bt {t : Int × Int} (h : Fq t) : Bt 1000 t.1 ∧ Bt 1000 t.2 := by
  have a : Bt 62 t.1 := h.top
  have b := h.small
  have c := h.pos
  have e : (2 : Int) ^ 40 = 1099511627776 := by decide
  rw [e] at b
  have d : Bt 41 t.2 := by
    show t.2.natAbs < 2 ^ 41
    have e2 : (2 : Nat) ^ 41 = 2199023255552 := by decide
    omega
  exact ⟨a.mono (by decide), d.mono (by decide)⟩
theorem eqv_pairs {a b : Int × Int} (h : a = b) : PyData.eqv (.tuple [.int a.1, .int a.2]) (.tuple [.int b.1, .int b.2]) = true := by
  rw [h]
  exact SeqAt.eqv_refl _ (SeqAt.canLay_of_shaped (shaped_pair _ _))
theorem items_two {K : PySem.W.Frag} {H : Hp} {r0 r1 : Addr} {a b : List V} (h0 : H r0 = some (.tup a)) (h1 : H r1 = some (.tup b)) : ∀ v ∈ [V.ref r0, V.ref r1], ItemN K H v := fun v hv => by
  have z : v = .ref r0 ∨ v = .ref r1 := by simpa using hv
  rcases z with rfl | rfl
  · exact .inr (.inr ⟨r0, a, rfl, SqT.of h0⟩)
  · exact .inr (.inr ⟨r1, b, rfl, SqT.of h1⟩)
end Ob
namespace Pg
open PySem PySem.Spec PyProof.Rows L2 Ob
section
variable {P : Program} {w : World} {K : PySem.W.Frag} {mg : Str → Option Value} {base : Heap} {f fc fd0 fn fp fb fx0 fh fw ff fe : Addr} {fd dc dd dn dp db dx dh dw df de : FuncData} {P1 P2 P3 P4 P5 P6 P7 c : Addr}
abbrev nLaw : List Str := ["script", "k", "deck", "numbers", "many", "lots", "shown", "bent", "either", "told", "other", "far", "both", "step", "prices", "row", "number", "one", "place"]
theorem scLaw : FnScope nLaw ["script"] (defScope sLaw) := ⟨rfl, rfl, rfl, by decide +kernel, rfl, by decide +kernel, by decide +kernel⟩
noncomputable def lawD (T : Tx mg) (zabs : mg "abs" = none)
    (GC : FnOk P w K mg base CX0 1 fc dc ["script", "k"] (spCellAt K)) (bC : Binds K dc ["script", "k"] []) (kC : PySem.W.keepIn K (.ref fc) = true) (mC : mg "_law_cell_at" = some (.ref fc))
    (GD : FnOk P w K mg base CX0 2 fd0 dd ["cell", "many"] spDeck) (bD : Binds K dd ["cell", "many"] []) (kD : PySem.W.keepIn K (.ref fd0) = true) (mD : mg "_law_deck" = some (.ref fd0))
    (GN : FnOk P w K mg base CX0 3 fn dn ["deck", "most"] spRowD) (bN : Binds K dn ["deck", "most"] []) (kN : PySem.W.keepIn K (.ref fn) = true) (mN : mg "_law_row" = some (.ref fn))
    (GP : FnOk P w K mg base CX0 3 fp dp ["deck", "many", "either"] (spLPricesB 500000)) (bP : Binds K dp ["deck", "many", "either"] []) (kP : PySem.W.keepIn K (.ref fp) = true) (mP : mg "_law_prices" = some (.ref fp))
    (GB : FnOk P w K mg base CX0 2 fb db ["deck", "many"] spBentD) (bB : Binds K db ["deck", "many"] []) (kB : PySem.W.keepIn K (.ref fb) = true) (mB : mg "_law_bent" = some (.ref fb))
    (GX : FnOk P w K mg base CX0 1 fx0 dx ["deck"] spNext) (bX : Binds K dx ["deck"] []) (kX : PySem.W.keepIn K (.ref fx0) = true) (mX : mg "_law_next" = some (.ref fx0))
    (GH : FnOk P w K mg base CX0 3 fh dh ["one", "other"] spHalfF) (bH : Binds K dh ["one", "other"] []) (kH : PySem.W.keepIn K (.ref fh) = true) (mH : mg "_law_half" = some (.ref fh))
    (GW : FnOk P w K mg base CX0 7 fw dw ["numbers", "prices"] (spWPS P1 P4 P5 P6 P7)) (bW : Binds K dw ["numbers", "prices"] []) (kW : PySem.W.keepIn K (.ref fw) = true) (mW : mg "what_prices_show" = some (.ref fw))
    (GF : FnOk P w K mg base CX0 6 ff df ["measure", "numbers", "fractions"] (spHow P1 P2 P3)) (bF : Binds K df ["measure", "numbers", "fractions"] []) (kF : PySem.W.keepIn K (.ref ff) = true) (mF : mg "how_far" = some (.ref ff))
    (GE : FnOk P w K mg base CX0 5 fe de ["numbers"] (spBelow P1)) (bE : Binds K de ["numbers"] []) (kE : PySem.W.keepIn K (.ref fe) = true) (mE : mg "greatest_below" = some (.ref fe))
    (f : Addr) (cdv : Value) (A : Around) (outer : List Env) (s : Shared) (H : Hp) (E : XK)
    (hr : Room 8 (A.deeper (envOfC "law" (defScope sLaw) s.heap.objs.size f cdv))) (hr1 : Room 1 (A.deeper (envOfC "law" (defScope sLaw) s.heap.objs.size f cdv))) (hr2 : Room 2 (A.deeper (envOfC "law" (defScope sLaw) s.heap.objs.size f cdv))) (hr3 : Room 3 (A.deeper (envOfC "law" (defScope sLaw) s.heap.objs.size f cdv))) (hr5 : Room 5 (A.deeper (envOfC "law" (defScope sLaw) s.heap.objs.size f cdv))) (hr6 : Room 6 (A.deeper (envOfC "law" (defScope sLaw) s.heap.objs.size f cdv))) (hr7 : Room 7 (A.deeper (envOfC "law" (defScope sLaw) s.heap.objs.size f cdv))) :
    { t : TS // WSs (cxOf CX0 P w K mg base nLaw "law" (defScope sLaw) f cdv A outer s H E).nox (defBody sLaw) t } :=
  ⟨_, (wss_cons (ws_for PassesOwn.never rfl ⟨pi_range1 rfl T.range (pa_cons (pe_callB (call_max2 rfl) rfl T.max PyProof.Rows.boot_max (pa_cons pe_int (pa_cons (pe_callB (call_min2 rfl) rfl T.min PyProof.Rows.boot_min (pa_cons (pe_callB call_len_seq rfl T.len PySem.boot_len (pa_cons (pv 0) pa_nil)) (pa_cons pe_int pa_nil))) pa_nil))) pa_nil)⟩ ⟨(pg_name (i := 1) scLaw.nd rfl (Or.inl rfl))⟩
    (wss_cons ⟨ps_set (i := 2) scLaw.nd rfl (Or.inl rfl) (pe_call GD hr2 rfl mD kD bD .nil pass0 (pa_cons (pe_call GC hr1 rfl mC kC bC .nil pass0 (pa_cons (pv 0) (pa_cons (pv 1) pa_nil))) (pa_cons pe_int pa_nil)))⟩
    (wss_cons ⟨ps_set (i := 3) scLaw.nd rfl (Or.inr rfl) (pe_call GN hr3 rfl mN kN bN .nil pass0 (pa_cons (pv 2) (pa_cons pe_int pa_nil)))⟩
    (wss_cons ⟨ps_set (i := 4) scLaw.nd rfl (Or.inl rfl) (pe_callB call_len_seq rfl T.len PySem.boot_len (pa_cons (pv 3) pa_nil))⟩
    (wss_cons ⟨ps_set (i := 5) scLaw.nd rfl (Or.inl rfl) (pe_lst (pa_cons (pe_call GP hr3 rfl mP kP bP .nil pass0 (pa_cons (pv 2) (pa_cons (pv 4) (pa_cons pe_int pa_nil)))) (pa_cons (pe_call GP hr3 rfl mP kP bP .nil pass0 (pa_cons (pv 2) (pa_cons (pv 4) (pa_cons pe_int pa_nil)))) pa_nil)))⟩
    (wss_cons ⟨ps_setLc (i := 6) (own := [("prices", 14)]) (g := gName 14) (by rfl) scLaw.nd rfl rfl (sw_true rfl rfl rfl (by decide +kernel)) (pi_list (pv 5)) (blkOk_by (own := [("prices", 14)]) (N := nLaw) (sc := defScope sLaw) (by decide +kernel)) (fun _ _ _ _ _ => (pg_name (i := 14) scLaw.nd rfl (Or.inl rfl))) (fun _ _ _ _ _ => pts_nil) (fun _ _ _ _ _ => pe_call GW hr7 rfl mW kW bW .nil pass0 (pa_cons (pv 3) (pa_cons (pv 14) pa_nil)))⟩
    (wss_cons (ws_if ⟨pt_cmpR (op_inN hr.units) pe_non (pv 6) (by with_unfolding_all rfl)⟩ (wss_one ⟨ps_ret pe_bl⟩) wss_nil)
    (wss_cons ⟨ps_set (i := 7) scLaw.nd rfl (Or.inl rfl) (pe_call GB hr2 rfl mB kB bB .nil pass0 (pa_cons (pv 2) (pa_cons (pv 4) pa_nil)))⟩
    (wss_cons ⟨ps_set (i := 8) scLaw.nd rfl (Or.inr rfl) (pe_call GP hr3 rfl mP kP bP .nil pass0 (pa_cons (pv 2) (pa_cons (pv 4) (pa_cons pe_int pa_nil))))⟩
    (wss_cons ⟨ps_setLc (i := 9) (own := [("row", 15)]) (g := gName 15) (by rfl) scLaw.nd rfl rfl (sw_true rfl rfl rfl (by decide +kernel)) (pi_tup (pe_tup (pa_cons (pv 3) (pa_cons (pv 7) pa_nil)))) (blkOk_by (own := [("row", 15)]) (N := nLaw) (sc := defScope sLaw) (by decide +kernel)) (fun _ _ _ _ _ => (pg_name (i := 15) scLaw.nd rfl (Or.inl rfl))) (fun _ _ _ _ _ => pts_nil) (fun _ _ _ _ _ => pe_call GW hr7 rfl mW kW bW .nil pass0 (pa_cons (pv 15) (pa_cons (pv 8) pa_nil)))⟩
    (wss_cons (ws_if ⟨PW.pt (pw_or (pt_cmpR op_ne (pe_cmp (pc_isN (pe_ix ix_list (pv 9) pe_int (fun _ _ => rfl)))) (pe_cmp (pc_isN (pe_ix ix_list (pv 9) pe_int (fun _ _ => rfl)))) (nomark _)) (pw_or1 (PW.pt (pw_and (pt_cmp (pc_notN (pe_ix ix_list (pv 9) pe_int (fun _ _ => rfl)))) (pw_and1 (pt_cmp (pc_gt (pe_ix (r := rIxT K) ix_tup (pe_ix ix_list (pv 9) pe_int (fun _ _ => rfl)) pe_int (fun _ _ => rfl)) pe_int)))))))⟩ (wss_one ⟨ps_ret pe_bl⟩) wss_nil)
    (wss_cons (ws_for PassesOwn.never rfl ⟨pi_list (pe_lst (pa_cons (pe_lc (own := [("number", 16)]) (g := gName 16) (by rfl) scLaw.nd (pi_list (pv 7)) (blkOk_by (own := [("number", 16)]) (N := nLaw) (sc := defScope sLaw) (by decide +kernel)) (fun _ _ _ _ _ => (pg_name (i := 16) scLaw.nd rfl (Or.inl rfl))) (fun _ _ _ _ _ => pts_nil) (fun _ _ _ _ _ => pe_tup (pa_cons (pv 16) (pa_cons pe_int pa_nil)))) (pa_cons (pe_call GE hr5 rfl mE kE bE .nil pass0 (pa_cons (pv 3) pa_nil)) pa_nil)))⟩ ⟨(pg_name (i := 10) scLaw.nd rfl (Or.inl rfl))⟩
    (wss_cons ⟨ps_set (i := 11) scLaw.nd rfl (Or.inr rfl) (pe_call GF hr6 rfl mF kF bF .nil pass0 (pa_cons pe_str (pa_cons (pv 3) (pa_cons (pv 10) pa_nil))))⟩
    (wss_one (ws_if ⟨(pt_cmpR (op_neD hr.units) (pe_lc (own := [("one", 17)]) (g := gName 17) (by rfl) scLaw.nd (pi_list (pe_op op_cat (pv 6) (pe_slice sl_list (pv 9) po_none (po_some pe_int)))) (blkOk_by (own := [("one", 17)]) (N := nLaw) (sc := defScope sLaw) (by decide +kernel)) (fun _ _ _ _ _ => (pg_name (i := 17) scLaw.nd rfl (Or.inl rfl))) (fun _ _ _ _ _ => (pts_one (PW.pt (pw_and (pt_cmp (pc_notN (pv 17))) (pw_and1 (pt_cmp (pc_gt (pe_op op_mulB (pe_ix (r := rIxT K) ix_tup (pv 17) pe_int (fun _ _ => rfl)) (pe_ix (r := rIxT K) ix_tup (pv 11) pe_int (fun _ _ => rfl))) (pe_op op_mulB (pe_ix (r := rIxT K) ix_tup (pv 11) pe_int (fun _ _ => rfl)) (pe_ix (r := rIxT K) ix_tup (pv 17) pe_int (fun _ _ => rfl)))))))))) (fun _ _ _ _ _ => pv 17)) (pe_lst pa_nil) (nomark _))⟩ (wss_one ⟨ps_ret pe_bl⟩) wss_nil))) (fun _ => rfl))
    (wss_cons ⟨ps_setLc (i := 12) (own := [("one", 17), ("other", 10)]) (g := gTup K 2 (gCons (gName 17) (gCons (gName 10) gNil))) (by rfl) scLaw.nd rfl rfl (sw_true rfl rfl rfl (by decide +kernel)) (pi_zip rfl T.zip (pa_cons (pe_ix ix_list (pv 5) pe_int (fun _ _ => rfl)) (pa_cons (pe_ix ix_list (pv 5) pe_int (fun _ _ => rfl)) pa_nil))) (blkOk_by (own := [("one", 17), ("other", 10)]) (N := nLaw) (sc := defScope sLaw) (by decide +kernel)) (fun _ _ _ _ _ => (pg_tup rfl (pgs_cons (pg_name (i := 17) scLaw.nd rfl (Or.inl rfl)) (pgs_cons (pg_name (i := 10) scLaw.nd rfl (Or.inl rfl)) pgs_nil)))) (fun _ _ _ _ _ => pts_nil) (fun _ _ _ _ _ => pe_call GH hr3 rfl mH kH bH .nil pass0 (pa_cons (pv 17) (pa_cons (pv 10) pa_nil)))⟩
    (wss_cons (ws_if ⟨(pt_cmpR (op_neD hr.units) (pe_call GW hr7 rfl mW kW bW .nil pass0 (pa_cons (pv 3) (pa_cons (pv 12) pa_nil))) (pe_call GH hr3 rfl mH kH bH .nil pass0 (pa_cons (pe_ix ix_list (pv 6) pe_int (fun _ _ => rfl)) (pa_cons (pe_ix ix_list (pv 6) pe_int (fun _ _ => rfl)) pa_nil))) (nomark _))⟩ (wss_one ⟨ps_ret pe_bl⟩) wss_nil)
    (wss_cons (ws_if ⟨(pt_cmpR (op_neD hr.units) (pe_call GW hr7 rfl mW kW bW .nil pass0 (pa_cons (pv 3) (pa_cons (pe_lc (own := [("one", 17)]) (g := gName 17) (by rfl) scLaw.nd (pi_list (pe_ix ix_list (pv 5) pe_int (fun _ _ => rfl))) (blkOk_by (own := [("one", 17)]) (N := nLaw) (sc := defScope sLaw) (by decide +kernel)) (fun _ _ _ _ _ => (pg_name (i := 17) scLaw.nd rfl (Or.inl rfl))) (fun _ _ _ _ _ => pts_nil) (fun _ _ _ _ _ => pe_call GH hr3 rfl mH kH bH .nil pass0 (pa_cons (pv 17) (pa_cons (pe_tup (pa_cons pe_int (pa_cons pe_int pa_nil))) pa_nil)))) pa_nil))) (pe_call GH hr3 rfl mH kH bH .nil pass0 (pa_cons (pe_ix ix_list (pv 6) pe_int (fun _ _ => rfl)) (pa_cons (pe_tup (pa_cons pe_int (pa_cons pe_int pa_nil))) pa_nil))) (nomark _))⟩ (wss_one ⟨ps_ret pe_bl⟩) wss_nil)
    (wss_cons (ws_if ⟨PW.pt (pw_or (pt_cmp (pc_gt (pe_ix (r := rIxT K) ix_tup (pe_call GW hr7 rfl mW kW bW .nil pass0 (pa_cons (pv 7) (pa_cons (pe_ix ix_list (pv 5) pe_int (fun _ _ => rfl)) pa_nil))) pe_int (fun _ _ => rfl)) pe_int)) (pw_or1 (pt_cmpR (op_neD hr.units) (pe_call GW hr7 rfl mW kW bW .nil pass0 (pa_cons (pe_rev (pv 3) (pe_un un_neg pe_int)) (pa_cons (pe_rev (pe_ix ix_list (pv 5) pe_int (fun _ _ => rfl)) (pe_un un_neg pe_int)) pa_nil))) (pe_ix ix_list (pv 6) pe_int (fun _ _ => rfl)) (nomark _))))⟩ (wss_one ⟨ps_ret pe_bl⟩) wss_nil)
    (wss_cons ⟨ps_set (i := 13) scLaw.nd rfl (Or.inr rfl) (pe_op op_sub (pe_op op_mod (pe_call GX hr1 rfl mX kX bX .nil pass0 (pa_cons (pv 2) pa_nil)) pe_int) pe_int)⟩
    (wss_cons (ws_if ⟨pt_cmp (pc_isN (pe_call GW hr7 rfl mW kW bW .nil pass0 (pa_cons (pe_lc (own := [("k", 1), ("number", 16)]) (g := gTup K 2 (gCons (gName 1) (gCons (gName 16) gNil))) (by rfl) scLaw.nd (pi_enum rfl T.enum (pa_cons (pv 7) pa_nil)) (blkOk_by (own := [("k", 1), ("number", 16)]) (N := nLaw) (sc := defScope sLaw) (by decide +kernel)) (fun _ _ _ _ _ => (pg_tup rfl (pgs_cons (pg_name (i := 1) scLaw.nd rfl (Or.inl rfl)) (pgs_cons (pg_name (i := 16) scLaw.nd rfl (Or.inl rfl)) pgs_nil)))) (fun _ _ _ _ _ => pts_nil) (fun _ _ _ _ _ => pe_op op_add (pe_op op_fdivL (pv 16) pe_int) (pe_op op_mulB (pv 13) (pv 1)))) (pa_cons (pe_ix ix_list (pv 5) pe_int (fun _ _ => rfl)) pa_nil))))⟩ (wss_one ⟨ps_ret pe_bl⟩) wss_nil)
    (wss_one (ws_if ⟨pt_cmp (pc_lt (pe_callB (cr_max rfl) rfl T.max PyProof.Rows.boot_max (pa_cons (pe_lc (own := [("number", 16)]) (g := gName 16) (by rfl) scLaw.nd (pi_list (pv 3)) (blkOk_by (own := [("number", 16)]) (N := nLaw) (sc := defScope sLaw) (by decide +kernel)) (fun _ _ _ _ _ => (pg_name (i := 16) scLaw.nd rfl (Or.inl rfl))) (fun _ _ _ _ _ => pts_nil) (fun _ _ _ _ _ => pe_callB call_abs rfl zabs boot_abs' (pa_cons (pv 16) pa_nil))) pa_nil)) (pe_op op_pow pe_int pe_int))⟩
    (wss_cons ⟨ps_setLc (i := 10) (own := [("place", 18), ("number", 16)]) (g := gTup K 2 (gCons (gName 18) (gCons (gName 16) gNil))) (by rfl) scLaw.nd rfl rfl (sw_true rfl rfl rfl (by decide +kernel)) (pi_enum rfl T.enum (pa_cons (pv 3) pa_nil)) (blkOk_by (own := [("place", 18), ("number", 16)]) (N := nLaw) (sc := defScope sLaw) (by decide +kernel)) (fun _ _ _ _ _ => (pg_tup rfl (pgs_cons (pg_name (i := 18) scLaw.nd rfl (Or.inl rfl)) (pgs_cons (pg_name (i := 16) scLaw.nd rfl (Or.inl rfl)) pgs_nil)))) (fun _ _ _ _ _ => pts_nil) (fun _ _ _ _ _ => pe_op op_add (pe_op op_add (pv 16) pe_int) (pe_op op_mulB (pv 13) (pv 18)))⟩
    (wss_one (ws_if ⟨(pt_cmpR (op_neD hr.units) (pe_call GW hr7 rfl mW kW bW .nil pass0 (pa_cons (pv 10) (pa_cons (pe_ix ix_list (pv 5) pe_int (fun _ _ => rfl)) pa_nil))) (pe_ix ix_list (pv 6) pe_int (fun _ _ => rfl)) (nomark _))⟩ (wss_one ⟨ps_ret pe_bl⟩) wss_nil))) wss_nil))))))))))))))))))) (fun _ => rfl))
    (wss_one ⟨ps_ret pe_bl⟩))⟩
theorem ok_law (F : Fun K "law" "law" sLaw f fd) (T : Tx mg) (zabs : mg "abs" = none) (n65 : P6 ≠ P5)
    (GC : FnOk P w K mg base CX0 1 fc dc ["script", "k"] (spCellAt K)) (bC : Binds K dc ["script", "k"] []) (kC : PySem.W.keepIn K (.ref fc) = true) (mC : mg "_law_cell_at" = some (.ref fc))
    (GD : FnOk P w K mg base CX0 2 fd0 dd ["cell", "many"] spDeck) (bD : Binds K dd ["cell", "many"] []) (kD : PySem.W.keepIn K (.ref fd0) = true) (mD : mg "_law_deck" = some (.ref fd0))
    (GN : FnOk P w K mg base CX0 3 fn dn ["deck", "most"] spRowD) (bN : Binds K dn ["deck", "most"] []) (kN : PySem.W.keepIn K (.ref fn) = true) (mN : mg "_law_row" = some (.ref fn))
    (GP : FnOk P w K mg base CX0 3 fp dp ["deck", "many", "either"] (spLPricesB 500000)) (bP : Binds K dp ["deck", "many", "either"] []) (kP : PySem.W.keepIn K (.ref fp) = true) (mP : mg "_law_prices" = some (.ref fp))
    (GB : FnOk P w K mg base CX0 2 fb db ["deck", "many"] spBentD) (bB : Binds K db ["deck", "many"] []) (kB : PySem.W.keepIn K (.ref fb) = true) (mB : mg "_law_bent" = some (.ref fb))
    (GX : FnOk P w K mg base CX0 1 fx0 dx ["deck"] spNext) (bX : Binds K dx ["deck"] []) (kX : PySem.W.keepIn K (.ref fx0) = true) (mX : mg "_law_next" = some (.ref fx0))
    (GH : FnOk P w K mg base CX0 3 fh dh ["one", "other"] spHalfF) (bH : Binds K dh ["one", "other"] []) (kH : PySem.W.keepIn K (.ref fh) = true) (mH : mg "_law_half" = some (.ref fh))
    (GW : FnOk P w K mg base CX0 7 fw dw ["numbers", "prices"] (spWPS P1 P4 P5 P6 P7)) (bW : Binds K dw ["numbers", "prices"] []) (kW : PySem.W.keepIn K (.ref fw) = true) (mW : mg "what_prices_show" = some (.ref fw))
    (GF : FnOk P w K mg base CX0 6 ff df ["measure", "numbers", "fractions"] (spHow P1 P2 P3)) (bF : Binds K df ["measure", "numbers", "fractions"] []) (kF : PySem.W.keepIn K (.ref ff) = true) (mF : mg "how_far" = some (.ref ff))
    (GE : FnOk P w K mg base CX0 5 fe de ["numbers"] (spBelow P1)) (bE : Binds K de ["numbers"] []) (kE : PySem.W.keepIn K (.ref fe) = true) (mE : mg "greatest_below" = some (.ref fe)) : FnOk P w K mg base CX0 9 f fd ["script"] (spLaw50 K P1 P2 P3 P4 P5 P6 P7) := by
  refine F.ok scLaw (fun vs H Q E h => ?_) (fun cdv A outer s H vs Q E hr h => ?_)
  · obtain ⟨_, _, _, _, _, _, _, a, sc, rfl, _⟩ := h
    rfl
  obtain ⟨t1, t2, t3, t4, t5, t6, t7, a, sc, rfl, hS, h63, q⟩ := h
  have tb : Tb7 P1 P2 P3 P4 P5 P6 P7 H := ⟨t1, t2, t3, t4, t5, t6, t7⟩
  have hr1 : Room 1 _ := hr.mono (by decide)
  have hr2 : Room 2 _ := hr.mono (by decide)
  have hr3 : Room 3 _ := hr.mono (by decide)
  have hr5 : Room 5 _ := hr.mono (by decide)
  have hr6 : Room 6 _ := hr.mono (by decide)
  have hr7 : Room 7 _ := hr.mono (by decide)
  refine use_ws (lawD T zabs GC bC kC mC GD bD kD mD GN bN kN mN GP bP kP mP GB bB kB mB GX bX kX mX GH bH kH mH GW bW kW mW GF bF kF mF GE bE kE mE f cdv A outer s H E hr hr1 hr2 hr3 hr5 hr6 hr7).2 ?_
  refine ⟨_, rfl, a, _, rfl, .inl hS, _, _, rfl, _, _, rfl, _, rfl, ?_⟩
  generalize hN : (if (if 4 < (((sc.map V.int).length : Nat) : Int) then 4 else (((sc.map V.int).length : Nat) : Int)) > 1 then (if 4 < (((sc.map V.int).length : Nat) : Int) then 4 else (((sc.map V.int).length : Nat) : Int)) else 1) = N
  have hN1 : 1 ≤ N ∧ N ≤ 4 := by
    subst hN
    split <;> split <;> omega
  refine ⟨by omega, by omega, ?_⟩
  refine for_range (lo := 0) (n := N.toNat) (fun i σ H' => ∃ v1 v2 v3 v4 v5 v6 v7 v8 v9 v10 v11 v12 v13 : Option V, σ = [some (.ref a), v1, v2, v3, v4, v5, v6, v7, v8, v9, v10, v11, v12, v13, none, none, none, none, none] ∧ Same H H') ⟨_, _, _, _, _, _, _, _, _, _, _, _, _, rfl, Same.refl _⟩ ?_ ?_
  · rintro i0 σ H1 hi ⟨v1, v2, v3, v4, v5, v6, v7, v8, v9, v10, v11, v12, v13, rfl, s1⟩
    refine ⟨_, rfl, _, rfl, a, sc, _, rfl, s1.seq hS, by omega, fun x => ⟨x, 260, rfl, by decide, fun d H2 s2 hd dk => ?_⟩⟩
    refine ⟨_, rfl, d, 12, rfl, dk, by decide, by decide, fun r ns H3 w3 nr er l1 l2 nb => ?_⟩
    have nrd : r ≠ d := dk.ne nr
    have nb60 : ∀ z ∈ ns, Bt 60 z := fun z hz => (show Bt 42 z from nb z hz).mono (by decide)
    have len : (ns.map V.int).length = ns.length := List.length_map ..
    refine ⟨_, rfl, r, _, rfl, .inl (SqL.of er), ?_⟩
    refine ⟨_, rfl, _, rfl, d, (ns.map V.int).length, 0, rfl, w3.here, by omega, by omega, by decide, by decide, fun g gs gt H4 w4 ng L4 gl gp gz => ?_⟩
    refine ⟨_, rfl, _, rfl, d, (ns.map V.int).length, 0, rfl, w4.here, by omega, by omega, by decide, by decide, fun e es et H5 w5 ne L5 el ep ez => ⟨(by show 2 ≤ sizeLine; decide), fun L hL => ?_⟩⟩
    rw [len] at gl el
    have gz' := gz rfl
    have ez' := ez rfl
    have sL := same_new hL (.lst [.ref g, .ref e])
    have WL : Drew d H2 _ := ((w3.trans w4).trans w5).same sL
    have Lg := (L4.drew w4.here w5).same sL
    have Le := L5.same sL
    have erL := sL _ _ (w5.keep r _ (w4.keep r _ er nrd) nrd)
    have eL : (upd H5 L (.lst [.ref g, .ref e])) L = some (.lst [.ref g, .ref e]) := upd_same
    generalize upd H5 L (.lst [.ref g, .ref e]) = HL at WL Lg Le erL eL
    have sHL : Same H HL := Same.trans s1 fun b o hb => WL.keep b o (s2 b o hb) (ne_of_none hb hd)
    have tbL := tb.same sHL
    clear sL w3 w4 w5 L4 L5
    -- shown
    refine ⟨_, rfl, L, rfl, ⟨_, SqL.of eL⟩, fun D hD => ?_⟩
    refine lc_list (K := K) (a := L) (xs := [.ref g, .ref e]) (fun i H' => Same HL H' ∧ ∃ vs : List V, vs.length = i ∧ H' D = some (.lst vs) ∧ ∀ j v, vs[j]? = some v → TldAt H' v ns (if j = 0 then gt else et)) ⟨same_new hD _, [], rfl, upd_same, fun j v h => by simp at h⟩ (fun i H' _ ⟨s', _⟩ => SqL.of (s' _ _ eL)) ?_ ?_
    · rintro i v H' hv ⟨s', vs, hvl, e', ht⟩
      obtain ⟨q0, qs, qt, rfl, Fq0, ql, qp, qz, qe⟩ : ∃ (q0 : Addr) (qs : List Addr) (qt : List (Int × Int)), v = .ref q0 ∧ FqL HL q0 qs qt ∧ qt.length = ns.length ∧ (∀ t ∈ qt, Pq t) ∧ (∀ L, Over2 qt L → showsB (qt.map (overT L)) = true) ∧ qt = (if i = 0 then gt else et) := by
        match i, hv with
        | 0, hv => cases hv; exact ⟨g, gs, gt, rfl, Lg, gl, gp, gz'.2, rfl⟩
        | 1, hv => cases hv; exact ⟨e, es, et, rfl, Le, el, ep, ez'.2, rfl⟩
        | i + 2, hv => cases hv
      have tb' := tbL.same s'
      have hi2 : i < 2 := by have := (List.getElem?_eq_some_iff.mp hv).1; simpa using this
      refine ⟨rfl, ?_⟩
      refine ⟨_, rfl, _, rfl, tb'.t1, tb'.t4, tb'.t5, tb'.t6, tb'.t7, n65, q0, r, qs, qt, ns, rfl, Fq0.same s', s' _ _ erL, ql.symm, qp, nb60, fun M H9 hM s9 => ⟨fun z => absurd (z.symm.trans (qz M hM)) (by decide), fun _ r0 _ er0 => ?_⟩⟩
      have e9 := s9 _ _ e'
      have hr0 : TldAt H9 (.ref r0) ns qt := ⟨r0, M, rfl, hM, er0⟩
      have put : ∀ u T, TldAt H9 u ns T → TldAt (upd H9 D (.lst (vs ++ [.ref r0]))) u ns T := fun u T ⟨ru, Mu, eu, ou, ku⟩ => ⟨ru, Mu, eu, ou, by rw [upd_ne fun z => by rw [z, e9] at ku; cases ku]; exact ku⟩
      refine ⟨_, e9, by rw [hvl]; exact Nat.lt_of_lt_of_le (show i < 100 by omega) (by decide), put_new (s'.trans s9) hD, vs ++ [.ref r0], by rw [List.length_append, hvl]; rfl, upd_same, fun j v hj => ?_⟩
      by_cases c : j < vs.length
      · rw [List.getElem?_append_left c] at hj
        exact put _ _ ((ht j v hj).same s9)
      · have c2 : j = i := by
          have := (List.getElem?_eq_some_iff.mp hj).1
          simp at this
          omega
        subst c2
        rw [← hvl, List.getElem?_append_right (Nat.le_refl _), Nat.sub_self] at hj
        have ev : v = .ref r0 := by injection hj with hj; exact hj.symm
        rw [ev, ← qe]
        exact put _ _ hr0
    rintro H6 ⟨s6, vs, hvl, eD, ht⟩
    obtain ⟨x0, x1, rfl⟩ : ∃ x0 x1, vs = [x0, x1] := by
      match vs, hvl with
      | [x0, x1], _ => exact ⟨_, _, rfl⟩
    obtain ⟨r0, M0, rfl, o0, k0⟩ := ht 0 x0 rfl
    obtain ⟨r1, M1, rfl, o1, k1⟩ := ht 1 x1 rfl
    rw [if_pos rfl] at o0 k0
    rw [if_neg (by decide)] at o1 k1
    refine ⟨_, rfl, rfl, D, _, rfl, SqL.of eD, items_two k0 k1, _, rfl, ?_⟩
    rw [show ([V.ref r0, V.ref r1].any fun v => decide (v = V.non)) = false by simp]
    refine iteF ?_
    -- bent, either
    have W6 := WL.same s6
    refine ⟨_, rfl, _, rfl, d, (ns.map V.int).length, rfl, W6.here, by omega, fun b bs H7 w7 nb7 eb bl bb bc => ?_⟩
    rw [len] at bl
    have nbd : b ≠ d := W6.here.ne nb7
    refine ⟨_, rfl, _, rfl, d, (ns.map V.int).length, 1, rfl, w7.here, by omega, by omega, by decide, by decide, fun t ts tt H8 w8 nt8 L8 tl tp _ => ?_⟩
    rw [len] at tl
    have W8 := (W6.trans w7).trans w8
    have w78 := w7.trans w8
    have mv : ∀ b o, HL b = some o → b ≠ d → H8 b = some o := fun b o hb n => w78.keep b o (s6 b o hb) n
    have er8 := mv r _ erL nrd
    have eb8 := w8.keep b _ eb nbd
    have nLd : L ≠ d := fun z => by
      obtain ⟨ds, ed, _⟩ := WL.here
      rw [← z, eL] at ed
      cases ds <;> simp at ed
    have nDd : D ≠ d := WL.here.ne hD
    have eL8 := mv L _ eL nLd
    have eD8 := w78.keep D _ eD nDd
    have k08 := w78.keep r0 _ k0 (tup_ne k0 W6.here)
    have k18 := w78.keep r1 _ k1 (tup_ne k1 W6.here)
    have Lg8 := (Lg.same s6).drew W6.here w78
    have Le8 := (Le.same s6).drew W6.here w78
    have sH8 : Same H H8 := Same.trans s1 fun b o hb => W8.keep b o (s2 b o hb) (ne_of_none hb hd)
    have tb8 := tb.same sH8
    have bb42 : ∀ z ∈ bs, Bt 42 z := fun z hz => (show Bt 40 z from bb z hz).mono (by decide)
    have bb60 : ∀ z ∈ bs, Bt 60 z := fun z hz => (show Bt 40 z from bb z hz).mono (by decide)
    -- told
    refine ⟨_, rfl, _, rfl, (by show 2 ≤ sizeLine; decide), fun p hp => ?_⟩
    have sp := same_new hp (.tup [.ref r, .ref b])
    refine ⟨p, rfl, ⟨_, SqT.of upd_same⟩, fun D2 hD2 => ?_⟩
    have epp : (upd H8 p (.tup [.ref r, .ref b])) p = some (.tup [.ref r, .ref b]) := upd_same
    generalize upd H8 p (.tup [.ref r, .ref b]) = HP at sp hD2 epp ⊢
    have nD2d : D2 ≠ d := (w8.here.elim fun ds h => by exact fun z => by rw [z, sp _ _ h.1] at hD2; cases hD2)
    refine lc_tup (K := K) (a := p) (xs := [.ref r, .ref b]) (fun i H' => Same HP H' ∧ ∃ vs : List V, vs.length = i ∧ H' D2 = some (.lst vs) ∧ ∀ j v, vs[j]? = some v → TldO H' v (if j = 0 then ns else bs) tt) ⟨same_new hD2 _, [], rfl, upd_same, fun j v h => by simp at h⟩ (fun i H' _ ⟨s', _⟩ => SqT.of (s' _ _ epp)) ?_ ?_
    · rintro i v H' hv ⟨s', vs, hvl, e', ht⟩
      obtain ⟨q0, ms, rfl, eq0, ml, mb, me⟩ : ∃ (q0 : Addr) (ms : List Int), v = .ref q0 ∧ HP q0 = some (.lst (ms.map V.int)) ∧ ms.length = tt.length ∧ (∀ z ∈ ms, Bt 60 z) ∧ ms = (if i = 0 then ns else bs) := by
        match i, hv with
        | 0, hv => cases hv; exact ⟨r, ns, rfl, sp _ _ er8, tl.symm, nb60, rfl⟩
        | 1, hv => cases hv; exact ⟨b, bs, rfl, sp _ _ eb8, by omega, bb60, rfl⟩
        | i + 2, hv => cases hv
      have tb' := (tb8.same sp).same s'
      have hi2 : i < 2 := by have := (List.getElem?_eq_some_iff.mp hv).1; simpa using this
      refine ⟨rfl, ?_⟩
      refine ⟨_, rfl, _, rfl, tb'.t1, tb'.t4, tb'.t5, tb'.t6, tb'.t7, n65, t, q0, ts, tt, ms, rfl, L8.same (sp.trans s'), s' _ _ eq0, ml, tp, mb, fun M H9 hM s9 => ?_⟩
      have e9 := s9 _ _ e'
      have fin : ∀ u, TldO H9 u ms tt → ∃ acc, H9 D2 = some (.lst acc) ∧ acc.length < sizeLine ∧ (Same HP (upd H9 D2 (.lst (acc ++ [u]))) ∧ ∃ vs : List V, vs.length = i + 1 ∧ (upd H9 D2 (.lst (acc ++ [u]))) D2 = some (.lst vs) ∧ ∀ j v, vs[j]? = some v → TldO (upd H9 D2 (.lst (acc ++ [u]))) v (if j = 0 then ns else bs) tt) := fun u hu => by
        have put : ∀ u' T, TldO H9 u' T tt → TldO (upd H9 D2 (.lst (vs ++ [u]))) u' T tt := fun u' T hT => by
          rcases hT with hT | ⟨⟨ru, Mu, eu, ou, ku⟩, hk⟩
          · exact .inl hT
          · exact .inr ⟨⟨ru, Mu, eu, ou, by rw [upd_ne fun z => by rw [z, e9] at ku; cases ku]; exact ku⟩, hk⟩
        refine ⟨vs, e9, by rw [hvl]; exact Nat.lt_of_lt_of_le (show i < 100 by omega) (by decide), put_new (s'.trans s9) hD2, vs ++ [u], by rw [List.length_append, hvl]; rfl, upd_same, fun j v hj => ?_⟩
        by_cases c : j < vs.length
        · rw [List.getElem?_append_left c] at hj
          exact put _ _ ((ht j v hj).same s9)
        · have c2 : j = i := by
            have := (List.getElem?_eq_some_iff.mp hj).1
            simp at this
            omega
          subst c2
          rw [← hvl, List.getElem?_append_right (Nat.le_refl _), Nat.sub_self] at hj
          have ev : v = u := by injection hj with hj; exact hj.symm
          rw [ev, ← me]
          exact put _ _ hu
      exact ⟨fun z => fin .non (.inl ⟨rfl, fun M' hM' => (shows_any hM' hM).trans z⟩), fun z rr _ err => fin (.ref rr) (.inr ⟨⟨rr, M, rfl, hM, err⟩, fun M' hM' => (shows_any hM' hM).trans z⟩)⟩
    rintro H9 ⟨s9, vs, hvl, eD2, ht⟩
    obtain ⟨y0, y1, rfl⟩ : ∃ y0 y1, vs = [y0, y1] := by
      match vs, hvl with
      | [y0, y1], _ => exact ⟨_, _, rfl⟩
    have hy0 := ht 0 y0 rfl
    have hy1 := ht 1 y1 rfl
    rw [if_pos rfl] at hy0
    rw [if_neg (by decide)] at hy1
    clear ht
    have er9 := s9 _ _ (sp _ _ er8)
    have eb9 := s9 _ _ (sp _ _ eb8)
    have eL9 := s9 _ _ (sp _ _ eL8)
    have eD9 := s9 _ _ (sp _ _ eD8)
    have k09 := s9 _ _ (sp _ _ k08)
    have k19 := s9 _ _ (sp _ _ k18)
    have Lg9 := (Lg8.same sp).same s9
    have Le9 := (Le8.same sp).same s9
    have tb9 := (tb8.same sp).same s9
    have W9 := (W8.same sp).same s9
    have bb60 := bb60
    have lbt : bs.length = tt.length := by omega
    apply with_rest0
    case use =>
      intro rest
      have nn : decide (y0 = V.non) = decide (y1 = V.non) := by
        rcases hy0 with ⟨h0, f0⟩ | ⟨⟨ru, Mu, h0, ou, ku⟩, f0⟩
        · rcases hy1 with ⟨h1, f1⟩ | ⟨⟨rw', Mw, h1, ow, kw⟩, f1⟩
          · rw [h0, h1]
          · have z := f0 Mw ow
            rw [f1 Mw ow] at z
            cases z
        · rcases hy1 with ⟨h1, f1⟩ | ⟨⟨rw', Mw, h1, ow, kw⟩, f1⟩
          · have z := f0 Mu ou
            rw [f1 Mu ou] at z
            cases z
          · rw [h0, h1]
            simp
      refine ⟨_, rfl, D2, _, _, _, rfl, rfl, SqL.of eD2, rfl, _, rfl, D2, _, _, _, rfl, rfl, SqL.of eD2, rfl, ?_⟩
      rw [nn]
      refine ⟨rfl, _, rfl, ?_⟩
      rw [decide_eq_true (rfl : V.bl (decide (y1 = V.non)) = V.bl (decide (y1 = V.non)))]
      refine iteF ⟨_, rfl, D2, _, _, _, rfl, rfl, SqL.of eD2, rfl, _, rfl, ?_⟩
      rcases hy1 with ⟨h1, f1⟩ | ⟨⟨rv, Mv, h1, ov, kv⟩, f1⟩
      · rw [show (!decide (y1 = V.non)) = false by rw [h1]; simp]
        exact iteF (iteF rest)
      · rw [show (!decide (y1 = V.non)) = true by rw [h1]; simp]
        refine iteT ⟨_, rfl, D2, _, _, _, rfl, rfl, SqL.of eD2, rfl, rv, _, _, _, h1, rfl, SqT.of kv, rfl, _, _, rfl, rfl, _, rfl, ?_⟩
        have neg : (TS bs tt Mv).1 ≤ 0 := redT_nonpos ov.pos (dot_bent (by rw [List.length_map]; exact lbt) (f1 Mv ov) bc)
        exact ite2 (fun e => absurd (of_decide_eq_true e) (by omega)) (fun _ => rest)
    case rest =>
    -- never above how far
    refine ⟨_, rfl, b, rfl, ⟨_, SqL.of eb9⟩, fun D3 hD3 => ?_⟩
    refine lc_list (K := K) (a := b) (xs := bs.map V.int) (fun i H' => Same H9 H' ∧ ∃ rs : List Addr, H' D3 = some (.lst (rs.map V.ref)) ∧ FracsAt H' rs ((bs.take i).map fun n => (n, (1 : Int)))) ⟨same_new hD3 _, [], upd_same, .nil⟩ (fun i H' _ ⟨s', _⟩ => SqL.of (s' _ _ eb9)) ?_ ?_
    · rintro i v H' hv ⟨s', rs, e', f'⟩
      obtain ⟨n, rfl, hn⟩ := ints_at hv
      have hil := (List.getElem?_eq_some_iff.mp hn).1
      refine ⟨rfl, ?_⟩
      refine ⟨_, rfl, (by show 2 ≤ sizeLine; decide), fun rn hrn => ?_⟩
      have sr := same_new hrn (.tup [.int n, .int 1])
      have lr : rs.length ≤ 12 := by
        rw [Paired.length f', List.length_map, List.length_take]
        omega
      refine ⟨_, sr _ _ e', by rw [List.length_map]; exact Nat.lt_of_le_of_lt lr (by decide), put_new (s'.trans sr) hD3, rs ++ [rn], by rw [upd_same, List.map_append]; rfl, ?_⟩
      rw [take_next hn, List.map_append]
      exact fracs_put (sr _ _ e') (fracs_snoc (t := (n, 1)) upd_same (f'.same sr))
    rintro HA ⟨sA, rs3, eD3, f3⟩
    rw [List.length_map, List.take_of_length_le (Nat.le_refl _)] at f3
    have nb42 : ∀ z ∈ ns, Bt 42 z := nb
    have lbn : bs.length = ns.length := by omega
    have B3 : BtL HA D3 ns.length := by
      rw [← lbn]
      exact BtL.whole eD3 f3 (by omega) (by omega) bb42 bc
    refine ⟨_, rfl, (tb9.same sA).t1, r, ns, rfl, sA _ _ er9, l1, l2, fun rb HB rbs rts sB hrb erb frb hlb hhb => ⟨(by show 2 ≤ sizeLine; decide), fun LL hLL => ?_⟩⟩
    have Bb := BtL.below erb frb hlb l1 l2 nb42 hhb
    have sLL := same_new hLL (.lst [.ref D3, .ref rb])
    have sC := (sA.trans sB).trans sLL
    have B3' := (B3.same sB).same sLL
    have Bb' := Bb.same sLL
    have eLL : (upd HB LL (.lst [.ref D3, .ref rb])) LL = some (.lst [.ref D3, .ref rb]) := upd_same
    generalize upd HB LL (.lst [.ref D3, .ref rb]) = HC at sC B3' Bb' eLL
    refine ⟨LL, rfl, ⟨_, SqL.of eLL⟩, ?_⟩
    have erC := sC _ _ er9
    have tbC := tb9.same sC
    refine for_list (K := K) (a := LL) (xs := [.ref D3, .ref rb]) (fun j σ H' => ∃ w10 w11 : Option V, σ = [some (.ref a), some (.int (0 + (i0 : Int))), some (.ref d), some (.ref r), some (.int (((ns.map V.int).length : Nat) : Int)), some (.ref L), some (.ref D), some (.ref b), some (.ref t), some (.ref D2), w10, w11, v12, v13, none, none, none, none, none] ∧ Same HC H') ⟨_, _, rfl, Same.refl _⟩ (fun j σ H' _ ⟨_, _, _, s'⟩ => SqL.of (s' _ _ eLL)) ?_ ?_
    · rintro j v σ H' hv ⟨w10, w11, rfl, s'⟩
      obtain ⟨q0, rfl, Bq⟩ : ∃ q0, v = .ref q0 ∧ BtL HC q0 ns.length := by
        match j, hv with
        | 0, hv => cases hv; exact ⟨_, rfl, B3'⟩
        | 1, hv => cases hv; exact ⟨_, rfl, Bb'⟩
        | j + 2, hv => cases hv
      obtain ⟨os, fs, Fo, fl, cv⟩ := (Bq.same s').ex
      have tb' := tbC.same s'
      refine ⟨_, rfl, _, rfl, tb'.t1, tb'.t2, tb'.t3, "sum", r, q0, ns, os, fs, rfl, by decide, s' _ _ erC, Fo, fl, nb42, fun rf HF tf Lf oF mf sF nf ef => ?_⟩
      have tfe := meas_sum mf
      have fb := far_bt oF nb42 Fo.fr (by omega)
      rw [tfe] at ef
      have sF9 := (sC.trans s').trans sF
      refine ⟨_, rfl, _, rfl, _, rfl, D2, _, rfl, SqL.of (sF9 _ _ eD2), fun Q2 hQ2 => ?_⟩
      have x1 := same_new hQ2 (.lst (cutV [y0, y1] none (some 1)))
      refine ⟨D, Q2, _, _, rfl, rfl, x1 _ _ (sF9 _ _ eD9), upd_same, Nat.le_trans (show _ ≤ 100 by have c1 : _ ≤ 2 := cutV_length [y0, y1] none (some 1); show 2 + _ ≤ 100; omega) (by decide), fun Q3 hQ3 => ?_⟩
      have x2 := same_new hQ3 (.lst ([V.ref r0, V.ref r1] ++ cutV [y0, y1] none (some 1)))
      have eQ3 : (upd (upd HF Q2 (.lst (cutV [y0, y1] none (some 1)))) Q3 (.lst ([V.ref r0, V.ref r1] ++ cutV [y0, y1] none (some 1)))) Q3 = some (.lst ([V.ref r0, V.ref r1] ++ cutV [y0, y1] none (some 1))) := upd_same
      have ec : cutV [y0, y1] none (some 1) = [y0] := cut_to (k := 1) (by simp)
      have sX := x1.trans x2
      generalize upd (upd HF Q2 (.lst (cutV [y0, y1] none (some 1)))) Q3 (.lst ([V.ref r0, V.ref r1] ++ cutV [y0, y1] none (some 1))) = HX at sX eQ3
      rw [ec] at eQ3
      have sX9 := sF9.trans sX
      have it : ∀ v ∈ ([V.ref r0, V.ref r1] ++ [y0]), v = .non ∨ ∃ (rv : Addr) (T : List (Int × Int)) (M : Int), v = .ref rv ∧ Over2 T M ∧ HX rv = some (.tup [.int (TS ns T M).1, .int (TS ns T M).2]) ∧ T.length = ns.length ∧ (∀ t ∈ T, Pq t) ∧ showsB (T.map (overT M)) = true := fun v hv => by
        have z : v = .ref r0 ∨ v = .ref r1 ∨ v = y0 := by simpa using hv
        rcases z with rfl | rfl | rfl
        · exact .inr ⟨r0, gt, M0, rfl, o0, sX9 _ _ k09, gl, gp, gz'.2 _ o0⟩
        · exact .inr ⟨r1, et, M1, rfl, o1, sX9 _ _ k19, el, ep, ez'.2 _ o1⟩
        · rcases hy0 with ⟨h0, f0⟩ | ⟨⟨ru, Mu, h0, ou, ku⟩, f0⟩
          · exact .inl h0
          · exact .inr ⟨ru, tt, Mu, h0, ou, sX9 _ _ ku, tl, tp, f0 _ ou⟩
      refine ⟨Q3, rfl, ⟨_, SqL.of eQ3⟩, fun D4 hD4 => ?_⟩
      refine lc_list (K := K) (a := Q3) (xs := [V.ref r0, V.ref r1] ++ [y0]) (fun i H' => Same HX H' ∧ H' D4 = some (.lst [])) ⟨same_new hD4 _, upd_same⟩ (fun i H' _ ⟨s', _⟩ => SqL.of (s' _ _ eQ3)) ?_ ?_
      · rintro i v H4 hv ⟨s4, e4⟩
        refine ⟨rfl, ?_⟩
        rcases it v (List.mem_of_getElem? hv) with rfl | ⟨rv, TT, M, rfl, oM, ev, hTl, hTp, hTs⟩
        · exact ⟨_, rfl, _, rfl, iteF (iteF ⟨s4, e4⟩)⟩
        · have ev4 := s4 _ _ ev
          have ef4 := s4 _ _ (sX _ _ ef)
          have tb1 := TS.bt (ns := ns) oM hTp nb60 (by omega)
          refine ⟨_, rfl, _, rfl, iteT ⟨_, rfl, rv, _, _, _, rfl, rfl, SqT.of ev4, rfl, _, rfl, rf, _, _, _, rfl, rfl, SqT.of ef4, rfl, _, _, rfl, rfl, ⟨1000, 1000, tb1.1, fb.2, by decide⟩, _, rfl, rf, _, _, _, rfl, rfl, SqT.of ef4, rfl, _, rfl, rv, _, _, _, rfl, rfl, SqT.of ev4, rfl, _, _, rfl, rfl, ⟨1000, 1000, fb.1, tb1.2, by decide⟩, _, _, rfl, rfl, _, rfl, ?_⟩⟩
          have le := red_cmp oM.pos oF.pos (weak hTl fl oM oF hTp hTs (cv Lf oF))
          exact ite2 (fun e => absurd (of_decide_eq_true e) (by show ¬ _ > _; exact Int.not_lt.mpr le)) (fun _ => ⟨s4, e4⟩)
      rintro H4 ⟨s4, e4⟩
      refine ⟨(by show 0 ≤ sizeLine; decide), fun l hl => ?_⟩
      have tl' := same_new hl (.lst [])
      refine ⟨_, _, dp_ints (ns := []) (tl' _ _ e4), dp_ints (ns := []) upd_same, shaped_ints [], shaped_ints [], _, rfl, ?_⟩
      rw [SeqAt.eqv_refl _ (SeqAt.canLay_of_shaped (shaped_ints []))]
      exact iteF ⟨_, _, rfl, ((s'.trans sF).trans (sX.trans s4)).trans tl'⟩
    rintro σ H10 ⟨w10, w11, rfl, s10⟩
    have sX := sC.trans s10
    have er := sX _ _ er9
    have eb' := sX _ _ eb9
    have eLx := sX _ _ eL9
    have eDx := sX _ _ eD9
    have k0x := sX _ _ k09
    have k1x := sX _ _ k19
    have Lgx := Lg9.same sX
    have Lex := Le9.same sX
    have tbx := tb9.same sX
    have Wx := W9.same sX
    clear er9 eb9 eL9 eD9 k09 k19 Lg9 Le9 tb9 W9 er8 eb8 eL8 eD8 k08 k18 Lg8 Le8 tb8 W8 sX
    -- both
    refine ⟨_, rfl, L, _, _, _, rfl, rfl, SqL.of eLx, rfl, _, rfl, L, _, _, _, rfl, rfl, SqL.of eLx, rfl, g, e, _, _, rfl, SqL.of Lgx.l, SqL.of Lex.l, fun D5 hD5 => ?_⟩
    have lgs : gs.length = ns.length := (Paired.length Lgx.f).trans gl
    have les : es.length = ns.length := (Paired.length Lex.f).trans el
    refine lc_zip (K := K) (a := g) (b := e) (xs := gs.map V.ref) (ys := es.map V.ref) (fun i H' => Same H10 H' ∧ ∃ rs : List Addr, H' D5 = some (.lst (rs.map V.ref)) ∧ FracsAt H' rs ((List.zipWith halfT gt et).take i)) ns.length (by rw [List.length_map, List.length_map]; omega) ⟨same_new hD5 _, [], upd_same, .nil⟩ (fun i H' _ ⟨s', _⟩ => ⟨s'.seq (SqL.of Lgx.l), s'.seq (SqL.of Lex.l)⟩) ?_ ?_
    · rintro i x y T' H' hx hy hT ⟨s', rs, e', f'⟩
      obtain ⟨ra, ta, rfl, hta, era, fra⟩ := Lgx.at hx
      obtain ⟨rb', tb', rfl, htb, erb', frb'⟩ := Lex.at hy
      have hi' := (List.getElem?_eq_some_iff.mp hta).1
      have tT := same_new hT (.tup [.ref ra, .ref rb'])
      have sT := s'.trans tT
      refine ⟨T', _, rfl, SqT.of upd_same, rfl, _, _, rfl, _, _, rfl, rfl, rfl, ?_⟩
      refine ⟨_, rfl, _, rfl, ra, rb', ta, tb', rfl, sT _ _ era, sT _ _ erb', fra.pos, frb'.pos, fq_bt fra, fq_bt frb', fun rn hrn => ?_⟩
      have sr := same_new hrn (.tup [.int (halfT ta tb').1, .int (halfT ta tb').2])
      have lr : rs.length ≤ 12 := by
        rw [Paired.length f', List.length_take]
        omega
      refine ⟨_, sr _ _ (tT _ _ e'), by rw [List.length_map]; exact Nat.lt_of_le_of_lt lr (by decide), put_new (sT.trans sr) hD5, rs ++ [rn], by rw [upd_same, List.map_append]; rfl, ?_⟩
      rw [take_next (half_at hta htb)]
      exact fracs_put (sr _ _ (tT _ _ e')) (fracs_snoc upd_same ((f'.same tT).same sr))
    rintro H11 ⟨s11, rs5, e5, f5⟩
    have lge : gt.length = et.length := by omega
    rw [List.take_of_length_le (by rw [half_len lge]; omega)] at f5
    obtain ⟨Fh, hpq⟩ := half_fq e5 f5 lge (by omega) (by omega) gp ep gz'.1 ez'.1
    have hhl : (List.zipWith halfT gt et).length = ns.length := by rw [half_len lge]; omega
    have tb11 := tbx.same s11
    have pb0 := TS.bt (ns := ns) o0 gp nb60 (by omega)
    have pb1 := TS.bt (ns := ns) o1 ep nb60 (by omega)
    refine ⟨_, rfl, _, rfl, tb11.t1, tb11.t4, tb11.t5, tb11.t6, tb11.t7, n65, D5, r, rs5, _, ns, rfl, Fh, s11 _ _ er, hhl.symm, hpq, nb60, fun M H12 oM s12 => ⟨fun z => absurd (z.symm.trans (half_shows lge (fun t ht => (gp t ht).fq.pos) (fun t ht => (ep t ht).fq.pos) o0 o1 oM (gz'.2 _ o0) (ez'.2 _ o1))) (by decide), fun _ q6 _ eq6 => ?_⟩⟩
    have s12' := s11.trans s12
    refine ⟨_, rfl, D, _, _, _, rfl, rfl, SqL.of (s12' _ _ eDx), rfl, _, rfl, D, _, _, _, rfl, rfl, SqL.of (s12' _ _ eDx), rfl, r0, r1, TS ns gt M0, TS ns et M1, rfl, s12' _ _ k0x, s12' _ _ k1x, TS.pos o0, TS.pos o1, pb0, pb1, fun q7 hq7 => ?_⟩
    have s7' := same_new hq7 (.tup [.int (halfT (TS ns gt M0) (TS ns et M1)).1, .int (halfT (TS ns gt M0) (TS ns et M1)).2])
    refine ⟨_, _, dp_pair (a := (TS ns (List.zipWith halfT gt et) M).1) (b := (TS ns (List.zipWith halfT gt et) M).2) (s7' _ _ eq6), dp_pair (a := (halfT (TS ns gt M0) (TS ns et M1)).1) (b := (halfT (TS ns gt M0) (TS ns et M1)).2) upd_same, shaped_pair _ _, shaped_pair _ _, _, rfl, ?_⟩
    rw [eqv_pairs (TS.half (ns := ns) (by omega) lge gp ep o0 o1 oM)]
    refine iteF ?_
    have sY := s12'.trans s7'
    generalize upd H12 q7 (.tup [.int (halfT (TS ns gt M0) (TS ns et M1)).1, .int (halfT (TS ns gt M0) (TS ns et M1)).2]) = HY at sY
    have er := sY _ _ er
    have eb' := sY _ _ eb'
    have eLx := sY _ _ eLx
    have eDx := sY _ _ eDx
    have k0x := sY _ _ k0x
    have k1x := sY _ _ k1x
    have Lgx := Lgx.same sY
    have Lex := Lex.same sY
    have tbx := tbx.same sY
    have Wx := Wx.same sY
    -- half of the first
    have zl : (List.replicate ns.length ((0 : Int), (1 : Int))).length = ns.length := List.length_replicate
    have zp : ∀ t ∈ List.replicate ns.length ((0 : Int), (1 : Int)), Pq t := fun t ht => by rw [(List.mem_replicate.mp ht).2]; exact pq_zero
    have lgz : gt.length = (List.replicate ns.length ((0 : Int), (1 : Int))).length := by omega
    have oz := zeros_over ns.length
    have pz := fq_bt pq_zero.fq
    refine ⟨_, rfl, _, rfl, L, _, _, _, rfl, rfl, SqL.of eLx, rfl, g, rfl, ⟨_, SqL.of Lgx.l⟩, fun D6 hD6 => ?_⟩
    refine lc_list (K := K) (a := g) (xs := gs.map V.ref) (fun i H' => Same HY H' ∧ ∃ rs : List Addr, H' D6 = some (.lst (rs.map V.ref)) ∧ FracsAt H' rs ((List.zipWith halfT gt (List.replicate ns.length ((0 : Int), (1 : Int)))).take i)) ⟨same_new hD6 _, [], upd_same, .nil⟩ (fun i H' _ ⟨s', _⟩ => s'.seq (SqL.of Lgx.l)) ?_ ?_
    · rintro i x H' hx ⟨s', rs, e', f'⟩
      obtain ⟨ra, ta, rfl, hta, era, fra⟩ := Lgx.at hx
      have hi' := (List.getElem?_eq_some_iff.mp hta).1
      have hz : (List.replicate ns.length ((0 : Int), (1 : Int)))[i]? = some (0, 1) := by rw [List.getElem?_replicate, if_pos (by omega)]
      refine ⟨rfl, ?_⟩
      refine ⟨_, rfl, (by show 2 ≤ sizeLine; decide), fun z hz0 => ?_⟩
      have sz := same_new hz0 (.tup [.int 0, .int 1])
      refine ⟨ra, z, ta, (0, 1), rfl, sz _ _ (s' _ _ era), upd_same, fra.pos, (by decide), fq_bt fra, pz, fun rn hrn => ?_⟩
      have sr := same_new hrn (.tup [.int (halfT ta (0, 1)).1, .int (halfT ta (0, 1)).2])
      have szr := sz.trans sr
      have lr : rs.length ≤ 12 := by
        rw [Paired.length f', List.length_take]
        omega
      refine ⟨_, szr _ _ e', by rw [List.length_map]; exact Nat.lt_of_le_of_lt lr (by decide), put_new (s'.trans szr) hD6, rs ++ [rn], by rw [upd_same, List.map_append]; rfl, ?_⟩
      rw [take_next (half_at hta hz)]
      exact fracs_put (szr _ _ e') (fracs_snoc upd_same (f'.same szr))
    rintro H13 ⟨s13, rs6, e6, f6⟩
    rw [List.take_of_length_le (by rw [half_len lgz, List.length_map]; omega)] at f6
    obtain ⟨Fz, zpq⟩ := half_fq e6 f6 lgz (by omega) (by omega) gp zp gz'.1 (fun t ht => by rw [(List.mem_replicate.mp ht).2]; decide)
    have hzl : (List.zipWith halfT gt (List.replicate ns.length ((0 : Int), (1 : Int)))).length = ns.length := by rw [half_len lgz]; omega
    have tb13 := tbx.same s13
    refine ⟨tb13.t1, tb13.t4, tb13.t5, tb13.t6, tb13.t7, n65, D6, r, rs6, _, ns, rfl, Fz, s13 _ _ er, hzl.symm, zpq, nb60, fun M H14 oM s14 => ⟨fun z => absurd (z.symm.trans (half_shows lgz (fun t ht => (gp t ht).fq.pos) (fun t ht => (zp t ht).fq.pos) o0 oz oM (gz'.2 _ o0) (zeros_shows _))) (by decide), fun _ q6 _ eq6 => ?_⟩⟩
    have s14' := s13.trans s14
    refine ⟨_, rfl, D, _, _, _, rfl, rfl, SqL.of (s14' _ _ eDx), rfl, (by show 2 ≤ sizeLine; decide), fun z hz0 => ?_⟩
    have sz := same_new hz0 (.tup [.int 0, .int 1])
    refine ⟨r0, z, TS ns gt M0, (0, 1), rfl, sz _ _ (s14' _ _ k0x), upd_same, TS.pos o0, (by decide), pb0, pz, fun q7 hq7 => ?_⟩
    have s7' := same_new hq7 (.tup [.int (halfT (TS ns gt M0) (0, 1)).1, .int (halfT (TS ns gt M0) (0, 1)).2])
    refine ⟨_, _, dp_pair (a := (TS ns (List.zipWith halfT gt (List.replicate ns.length ((0 : Int), (1 : Int)))) M).1) (b := (TS ns (List.zipWith halfT gt (List.replicate ns.length ((0 : Int), (1 : Int)))) M).2) (s7' _ _ (sz _ _ eq6)), dp_pair (a := (halfT (TS ns gt M0) (0, 1)).1) (b := (halfT (TS ns gt M0) (0, 1)).2) upd_same, shaped_pair _ _, shaped_pair _ _, _, rfl, ?_⟩
    rw [eqv_pairs ((TS.half (ns := ns) (by omega) lgz gp zp o0 oz oM).trans (by rw [TS.zeros]))]
    refine iteF ?_
    have sW := (s14'.trans sz).trans s7'
    generalize upd (upd H14 z (.tup [.int 0, .int 1])) q7 (.tup [.int (halfT (TS ns gt M0) (0, 1)).1, .int (halfT (TS ns gt M0) (0, 1)).2]) = HW at sW
    have er := sW _ _ er
    have eb' := sW _ _ eb'
    have eLx := sW _ _ eLx
    have eDx := sW _ _ eDx
    have k0x := sW _ _ k0x
    have k1x := sW _ _ k1x
    have Lgx := Lgx.same sW
    have Lex := Lex.same sW
    have tbx := tbx.same sW
    have Wx := Wx.same sW
    -- of the bent row; from behind
    refine ⟨_, rfl, _, rfl, L, _, _, _, rfl, rfl, SqL.of eLx, rfl, tbx.t1, tbx.t4, tbx.t5, tbx.t6, tbx.t7, n65, g, b, gs, gt, bs, rfl, Lgx, eb', by omega, gp, bb60, fun M H15 oM s15 => ⟨fun z => absurd (z.symm.trans (gz'.2 _ oM)) (by decide), fun _ q6 _ eq6 => ?_⟩⟩
    have neg : (TS bs gt M).1 ≤ 0 := redT_nonpos oM.pos (dot_bent (by rw [List.length_map]; omega) (gz'.2 M oM) bc)
    refine ⟨q6, _, _, _, rfl, rfl, SqT.of eq6, rfl, _, _, rfl, rfl, _, rfl, ?_⟩
    refine ite2 (fun e => absurd (of_decide_eq_true e) (by show ¬ (TS bs gt M).1 > 0; omega)) (fun _ => ?_)
    refine ⟨_, rfl, _, rfl, rfl, r, _, rfl, SqL.of (s15 _ _ er), fun R1 hR1 => ?_⟩
    have x1 := same_new hR1 (.lst (ns.map V.int).reverse)
    refine ⟨_, rfl, L, _, _, _, rfl, rfl, SqL.of (x1 _ _ (s15 _ _ eLx)), rfl, _, rfl, rfl, e, _, rfl, SqL.of (x1 _ _ (s15 _ _ Lex.l)), fun R2 hR2 => ?_⟩
    have x2 := same_new hR2 (.lst (es.map V.ref).reverse)
    have x12 := (s15.trans x1).trans x2
    have FR : FqL (upd (upd H15 R1 (.lst (ns.map V.int).reverse)) R2 (.lst (es.map V.ref).reverse)) R2 es.reverse et.reverse := ⟨by rw [upd_same, List.map_reverse], fracs_revF (Lex.f.same x12), fun t ht => Lex.fr t (List.mem_reverse.mp ht), by rw [List.length_reverse]; exact Lex.one, by rw [List.length_reverse]; exact Lex.most⟩
    have eR1 : (upd (upd H15 R1 (.lst (ns.map V.int).reverse)) R2 (.lst (es.map V.ref).reverse)) R1 = some (.lst (ns.reverse.map V.int)) := by rw [List.map_reverse]; exact x2 _ _ upd_same
    have tb12 := tbx.same x12
    refine ⟨tb12.t1, tb12.t4, tb12.t5, tb12.t6, tb12.t7, n65, R2, R1, es.reverse, et.reverse, ns.reverse, rfl, FR, eR1, by rw [List.length_reverse, List.length_reverse]; omega, fun t ht => ep t (List.mem_reverse.mp ht), fun z hz => nb60 z (List.mem_reverse.mp hz), fun M' H16 oM' s16 => ⟨fun z => absurd (z.symm.trans (show showsB (et.reverse.map (overT M')) = true by rw [List.map_reverse]; exact shows_rev (ez'.2 _ (over2_rev oM')))) (by decide), fun _ q8 _ eq8 => ?_⟩⟩
    have x16 := x12.trans s16
    refine ⟨_, rfl, D, _, _, _, rfl, rfl, SqL.of (x16 _ _ eDx), rfl, ?_⟩
    refine ⟨_, _, dp_pair (a := (TS ns.reverse et.reverse M').1) (b := (TS ns.reverse et.reverse M').2) eq8, dp_pair (a := (TS ns et M1).1) (b := (TS ns et M1).2) (x16 _ _ k1x), shaped_pair _ _, shaped_pair _ _, _, rfl, ?_⟩
    rw [eqv_pairs ((TS.rev (by omega)).trans (TS.any (over2_rev oM') o1))]
    refine iteF ?_
    have er := x16 _ _ er
    have eb' := x16 _ _ eb'
    have eLx := x16 _ _ eLx
    have eDx := x16 _ _ eDx
    have k0x := x16 _ _ k0x
    have Lgx := Lgx.same x16
    have tbx := tbx.same x16
    have Wx := Wx.same x16
    -- a line
    refine ⟨_, rfl, d, rfl, Wx.here, fun n5 H17 c0 c1 w17 => ?_⟩
    have y0' := Int.emod_nonneg n5 (show (2001 : Int) ≠ 0 by decide)
    have y1' := Int.emod_lt_of_pos n5 (show (0 : Int) < 2001 by decide)
    refine ⟨_, _, rfl, rfl, (by show (0 : Int) < 2001; decide), _, _, rfl, rfl, ?_⟩
    have bst : Bt 12 (n5 % 2001 - 1000) := by unfold Bt; omega
    have er := w17.keep r _ er nrd
    have eb' := w17.keep b _ eb' nbd
    have eLx := w17.keep L _ eLx nLd
    have eDx := w17.keep D _ eDx nDd
    have k0x := w17.keep r0 _ k0x (tup_ne k0x Wx.here)
    have Lgx := Lgx.drew Wx.here w17
    have W17 := Wx.trans w17
    have s17 : Same H H17 := Same.trans s1 fun b o hb => W17.keep b o (s2 b o hb) (ne_of_none hb hd)
    have tbx := tb.same s17
    have bplace : ∀ i : Nat, i < 12 → Bt 4 (i : Int) := fun i hi => by unfold Bt; omega
    refine ⟨_, rfl, b, _, rfl, SqL.of eb', fun D7 hD7 => ?_⟩
    refine lc_enum (K := K) (a := b) (xs := bs.map V.int) (fun i H' => Same H17 H' ∧ ∃ ms : List Int, H' D7 = some (.lst (ms.map V.int)) ∧ ms.length = i ∧ ∀ z ∈ ms, Bt 60 z) ⟨same_new hD7 _, [], upd_same, rfl, fun _ z => nomatch z⟩ (fun i H' _ ⟨s', _⟩ => s'.seq (SqL.of eb')) ?_ ?_
    · rintro i x T' H' hx hT ⟨s', ms, e', hml, hmb⟩
      obtain ⟨n, rfl, hn⟩ := ints_at hx
      have hi' := (List.getElem?_eq_some_iff.mp hn).1
      have tT := same_new hT (.tup [.int (i : Nat), .int n])
      have bn : Bt 42 n := bb42 n (List.mem_of_getElem? hn)
      refine ⟨T', _, rfl, SqT.of upd_same, rfl, _, _, rfl, _, _, rfl, rfl, rfl, ?_⟩
      refine ⟨_, rfl, _, _, rfl, rfl, ⟨by decide, by decide⟩, _, rfl, _, rfl, _, _, rfl, rfl, ⟨12, 4, bst, bplace i (by omega), by decide⟩, _, _, rfl, rfl, _, tT _ _ e', fill_len (k := 12) (by omega) (by decide), put_new (s'.trans tT) hD7, ms ++ [n / 2 + (n5 % 2001 - 1000) * (i : Nat)], by rw [upd_same, List.map_append]; rfl, by rw [List.length_append, hml]; rfl, fun z hz => ?_⟩
      rcases List.mem_append.mp hz with q | q
      · exact hmb z q
      · rw [List.mem_singleton.mp q]
        exact ((bn.le (Int.natAbs_ediv_le_natAbs _ _)).add ((bst.mul (bplace i (by omega))).mono (k := 42) (by decide))).mono (by decide)
    rintro H18 ⟨s18, ms, e18, hml, hmb⟩
    rw [List.length_map] at hml
    have tb18 := tbx.same s18
    refine ⟨_, rfl, L, _, _, _, rfl, rfl, SqL.of (s18 _ _ eLx), rfl, tb18.t1, tb18.t4, tb18.t5, tb18.t6, tb18.t7, n65, g, D7, gs, gt, ms, rfl, Lgx.same s18, e18, by omega, gp, hmb, fun M H19 oM s19 => ⟨fun z => absurd (z.symm.trans (gz'.2 _ oM)) (by decide), fun _ q6 _ eq6 => ?_⟩⟩
    refine ⟨_, rfl, ?_⟩
    refine ite2 (fun e => absurd (of_decide_eq_true e) (fun z => nomatch z)) (fun _ => ?_)
    have s89 := s18.trans s19
    have er := s89 _ _ er
    have eLx := s89 _ _ eLx
    have eDx := s89 _ _ eDx
    have k0x := s89 _ _ k0x
    have Lgx := Lgx.same s89
    have tbx := tbx.same s89
    have sH19 := s17.trans s89
    refine ⟨_, rfl, r, rfl, ⟨_, SqL.of er⟩, fun D8 hD8 => ?_⟩
    refine lc_list (K := K) (a := r) (xs := ns.map V.int) (fun i H' => Same H19 H' ∧ ∃ ms : List Int, H' D8 = some (.lst (ms.map V.int)) ∧ ms.length = i) ⟨same_new hD8 _, [], upd_same, rfl⟩ (fun i H' _ ⟨s', _⟩ => s'.seq (SqL.of er)) ?_ ?_
    · rintro i x H' hx ⟨s', ms, e', hml⟩
      obtain ⟨n, rfl, hn⟩ := ints_at hx
      have hi' := (List.getElem?_eq_some_iff.mp hn).1
      refine ⟨rfl, ?_⟩
      exact ⟨_, rfl, _, rfl, _, e', fill_len (k := 12) (by omega) (by decide), put_new s' hD8, ms ++ [if n < 0 then -n else n], by rw [upd_same, List.map_append]; rfl, by rw [List.length_append, hml]; rfl⟩
    rintro H20 ⟨s20, as, e20, hal⟩
    rw [List.length_map] at hal
    refine ⟨D8, as, rfl, SqL.of e20, by omega, fun mx hmx hle => ?_⟩
    refine ⟨_, _, rfl, rfl, ⟨by decide, by decide, by decide⟩, _, _, rfl, rfl, _, rfl, ?_⟩
    have sH20 := sH19.trans s20
    refine ite2 (fun _ => ?_) (fun _ => ⟨_, _, _, _, _, _, _, _, _, _, _, _, _, rfl, sH20⟩)
    refine ⟨_, rfl, r, _, rfl, SqL.of (s20 _ _ er), fun D9 hD9 => ?_⟩
    refine lc_enum (K := K) (a := r) (xs := ns.map V.int) (fun i H' => Same H20 H' ∧ ∃ ms : List Int, H' D9 = some (.lst (ms.map V.int)) ∧ ms.length = i ∧ (∀ z ∈ ms, Bt 60 z) ∧ ∀ j, j < i → An ms j = An ns j + (7 + (n5 % 2001 - 1000) * (j : Int))) ⟨same_new hD9 _, [], upd_same, rfl, (fun _ z => nomatch z), fun j hj => absurd hj (by omega)⟩ (fun i H' _ ⟨s', _⟩ => s'.seq (SqL.of (s20 _ _ er))) ?_ ?_
    · rintro i x T' H' hx hT ⟨s', ms, e', hml, hmb, hmf⟩
      obtain ⟨n, rfl, hn⟩ := ints_at hx
      have hi' := (List.getElem?_eq_some_iff.mp hn).1
      have tT := same_new hT (.tup [.int (i : Nat), .int n])
      have bn : Bt 42 n := nb42 n (List.mem_of_getElem? hn)
      have b7 : Bt 42 7 := by unfold Bt; decide
      refine ⟨T', _, rfl, SqT.of upd_same, rfl, _, _, rfl, _, _, rfl, rfl, rfl, ?_⟩
      refine ⟨_, rfl, _, _, rfl, rfl, _, rfl, _, rfl, _, _, rfl, rfl, ⟨12, 4, bst, bplace i (by omega), by decide⟩, _, _, rfl, rfl, _, tT _ _ e', fill_len (k := 12) (by omega) (by decide), put_new (s'.trans tT) hD9, ms ++ [n + 7 + (n5 % 2001 - 1000) * (i : Nat)], by rw [upd_same, List.map_append]; rfl, by rw [List.length_append, hml]; rfl, fun z hz => ?_, fun j hj => ?_⟩
      · rcases List.mem_append.mp hz with q | q
        · exact hmb z q
        · rw [List.mem_singleton.mp q]
          exact ((bn.add b7).add ((bst.mul (bplace i (by omega))).mono (k := 43) (by decide))).mono (by decide)
      · by_cases c : j < i
        · rw [an_app (by omega)]
          exact hmf j c
        · have e : j = ms.length := by omega
          rw [e, an_last, hml, an_val' hn]
          omega
    rintro H21 ⟨s21, ms', e21, hml', hmb', hmf'⟩
    rw [List.length_map] at hml' hmf'
    have s201 := s20.trans s21
    have tb21 := tbx.same s201
    refine ⟨_, rfl, _, rfl, L, _, _, _, rfl, rfl, SqL.of (s201 _ _ eLx), rfl, tb21.t1, tb21.t4, tb21.t5, tb21.t6, tb21.t7, n65, g, D9, gs, gt, ms', rfl, Lgx.same s201, e21, by omega, gp, hmb', fun M H22 oM s22 => ⟨fun z => absurd (z.symm.trans (gz'.2 _ oM)) (by decide), fun _ q6 _ eq6 => ?_⟩⟩
    have s202 := s201.trans s22
    refine ⟨_, rfl, D, _, _, _, rfl, rfl, SqL.of (s202 _ _ eDx), rfl, ?_⟩
    refine ⟨_, _, dp_pair (a := (TS ms' gt M).1) (b := (TS ms' gt M).2) eq6, dp_pair (a := (TS ns gt M0).1) (b := (TS ns gt M0).2) (s202 _ _ k0x), shaped_pair _ _, shaped_pair _ _, _, rfl, ?_⟩
    rw [eqv_pairs ((TS.line (ns := ns) (by omega) (by omega) (gz'.2 M oM) (fun i hi => hmf' i (by omega))).trans (TS.any oM o0))]
    exact iteF ⟨_, _, _, _, _, _, _, _, _, _, _, _, _, rfl, sH19.trans s202⟩
  · rintro σ H1 ⟨v1, v2, v3, v4, v5, v6, v7, v8, v9, v10, v11, v12, v13, rfl, s1⟩
    exact q _ s1
end
end Pg

set_option maxHeartbeats 4000000
namespace Ob
open PySem PySem.Spec PyProof.Rows L2
/-- the goal that k_head leaves, where seven defs bear a generator expression -/
theorem walk_gen7 {l : PySem.W.OpenLaw} {k : Nat} {q : Program} {loose : List Str} {XP : (Str → Option Value) → Heap → Prop} {YP : World → Heap → Prop} {d d1 d2 d3 d4 d5 d6 d7 : DefRec} {K : Params → PySem.W.Frag} {sp : World → Addr → Addr → Addr → Addr → Addr → Addr → Addr → Sp} {g1 g2 g3 g4 g5 g6 g7 x : Str}
    (hn : l.most = some 63) (hdf : d.params.defaults = []) (hr : Room k callerA)
    (hY : ∀ (w : World) (h : Heap), YP w h → (K w.params).In h)
    (hf1 : (recsOf q).find? (fun e => e.name == g1) = some d1) (hf2 : (recsOf q).find? (fun e => e.name == g2) = some d2) (hf3 : (recsOf q).find? (fun e => e.name == g3) = some d3) (hf4 : (recsOf q).find? (fun e => e.name == g4) = some d4) (hf5 : (recsOf q).find? (fun e => e.name == g5) = some d5) (hf6 : (recsOf q).find? (fun e => e.name == g6) = some d6) (hf7 : (recsOf q).find? (fun e => e.name == g7) = some d7)
    (hcls : ∀ w : World, PySem.W.kb_classed (K w.params) = true)
    (F : ∀ (w : World) (mg : Str → Option Value) (fa : Addr) (h : Heap), (K w.params).In h → h.Ns mainGlobals mg → mg d.name = some (.ref fa) →
      ∃ (e1 e2 e3 e4 e5 e6 e7 : Addr) (o1 o2 o3 o4 o5 o6 o7 : Obj) (fd1 fd2 fd3 fd4 fd5 fd6 fd7 fd : FuncData), mg g1 = some (.ref e1) ∧ (K w.params).lookup e1 = some o1 ∧ o1.data = .func fd1 ∧ mg g2 = some (.ref e2) ∧ (K w.params).lookup e2 = some o2 ∧ o2.data = .func fd2 ∧ mg g3 = some (.ref e3) ∧ (K w.params).lookup e3 = some o3 ∧ o3.data = .func fd3 ∧ mg g4 = some (.ref e4) ∧ (K w.params).lookup e4 = some o4 ∧ o4.data = .func fd4 ∧ mg g5 = some (.ref e5) ∧ (K w.params).lookup e5 = some o5 ∧ o5.data = .func fd5 ∧ mg g6 = some (.ref e6) ∧ (K w.params).lookup e6 = some o6 ∧ o6.data = .func fd6 ∧ mg g7 = some (.ref e7) ∧ (K w.params).lookup e7 = some o7 ∧ o7.data = .func fd7 ∧
        (∀ (s : Shared) (u : Value), BindsTo s fd ⟨[u], []⟩ [(x, u)]) ∧
        ∀ (base : Heap) (c1 P1 c2 P2 c3 P3 c4 P4 c5 P5 c6 P6 c7 P7 bm : Addr) (ob : Obj), (K w.params).In base → base.Ns mainGlobals mg → fd1.code = .ref c1 → CodeB base c1 P1 → fd2.code = .ref c2 → CodeB base c2 P2 → fd3.code = .ref c3 → CodeB base c3 P3 → fd4.code = .ref c4 → CodeB base c4 P4 → fd5.code = .ref c5 → CodeB base c5 P5 → fd6.code = .ref c6 → CodeB base c6 P6 → fd7.code = .ref c7 → CodeB base c7 P7 → BMod base mainGlobals mg bm ob → FnOk l.prog w (K w.params) mg base CX0 k fa fd [x] (sp w P1 P2 P3 P4 P5 P6 P7))
    (hsp : ∀ (w : World) (H : Hp) (P1 P2 P3 P4 P5 P6 P7 a : Addr) (ns : List Int), ns.length ≤ 63 → H P1 = some (.ext (TbP P1)) → H P2 = some (.ext (TbP P2)) → H P3 = some (.ext (TbP P3)) → H P4 = some (.ext (TbP P4)) → H P5 = some (.ext (TbP P5)) → H P6 = some (.ext (TbP P6)) → H P7 = some (.ext (TbP P7)) → SqL (K w.params) H a (ns.map V.int) →
      sp w P1 P2 P3 P4 P5 P6 P7 [.ref a] H (fun v H' => v = .bl true ∧ H' P1 = some (.ext (TbP P1)) ∧ H' P2 = some (.ext (TbP P2)) ∧ H' P3 = some (.ext (TbP P3)) ∧ H' P4 = some (.ext (TbP P4)) ∧ H' P5 = some (.ext (TbP P5)) ∧ H' P6 = some (.ext (TbP P6)) ∧ H' P7 = some (.ext (TbP P7))) fun _ _ _ => False)
    (hmono : ∀ (w : World) (H : Hp) (P1 P2 P3 P4 P5 P6 P7 : Addr) (vs : List V) (Q Q' : VK) (E : XK), (∀ v H', Q v H' → Q' v H') → sp w P1 P2 P3 P4 P5 P6 P7 vs H Q E → sp w P1 P2 P3 P4 P5 P6 P7 vs H Q' E) :
    PySem.W.WalkO q loose XP YP l.row.toRowW d [] (fun f vs => PySem.call f vs) := by
  refine Att.attach_call hn hdf fun w s₀ s₁ mg mb fa o pm cd doc a vs ns G Y ho hd hcd hmg hobj hints hlen hg => ?_
  have KX := hY w _ Y
  obtain ⟨e1, e2, e3, e4, e5, e6, e7, o1, o2, o3, o4, o5, o6, o7, fd1, fd2, fd3, fd4, fd5, fd6, fd7, fd, m1, l1, t1, m2, l2, t2, m3, l3, t3, m4, l4, t4, m5, l5, t5, m6, l6, t6, m7, l7, t7, hb, hF⟩ := F w mg fa _ KX G.T.g hmg
  obtain ⟨bm, ob, M⟩ := PySem.W.bmod_of_top G.T
  have one : ∀ {g : Str} {dg : DefRec} {e : Addr} {og : Obj} {fdg : FuncData}, (recsOf q).find? (fun e => e.name == g) = some dg → mg g = some (.ref e) → (K w.params).lookup e = some og → og.data = .func fdg →
      ∃ c P, fdg.code = .ref c ∧ CodeB s₁.heap c P ∧ s₁.heap.TableAt c P #[] ∧ (K w.params).lookup P = none := by
    intro g dg e og fdg hfind mg1 lk hdat
    obtain ⟨c, P, ec, B⟩ := PySem.W.based_of_top G.T hfind mg1 (KX _ _ lk) hdat
    have TA : s₁.heap.TableAt c P #[] := B.tab
    refine ⟨c, P, ec, ?_, TA, ?_⟩
    · obtain ⟨o', us, file, tf, flags, tg, inF, text, tt, op, e, r1, r2, r3, r4, r5, r6, _, _, _, ne⟩ := B.code
      obtain ⟨⟨o2, us2, e2, hc2, hd2, h112⟩, _⟩ := B.tab
      rw [e] at e2
      cases e2
      rw [r1] at hd2
      cases hd2
      exact ⟨⟨o', us, file, tf, flags, tg, inF, text, tt, e, hc2, r1, r2, h112, r3, r4, r5, r6⟩, ne⟩
    · cases q : (K w.params).lookup P with
      | none => rfl
      | some o' =>
        have e := KX P o' q
        have z := List.all_eq_true.mp (hcls w) (P, o') (PySem.W.kb_mem q)
        rw [TA.2] at e
        cases e
        simp only [Bool.or_eq_true, decide_eq_true_eq, beq_iff_eq] at z
        rcases z with (z | z) | z
        · exact absurd rfl z
        · exact absurd z B.notStatics
        · exact absurd z.symm (B.ne_of_ns G.T.g)
  obtain ⟨c1, P1, ec1, CB1, TA1, KP1⟩ := one hf1 m1 l1 t1
  obtain ⟨c2, P2, ec2, CB2, TA2, KP2⟩ := one hf2 m2 l2 t2
  obtain ⟨c3, P3, ec3, CB3, TA3, KP3⟩ := one hf3 m3 l3 t3
  obtain ⟨c4, P4, ec4, CB4, TA4, KP4⟩ := one hf4 m4 l4 t4
  obtain ⟨c5, P5, ec5, CB5, TA5, KP5⟩ := one hf5 m5 l5 t5
  obtain ⟨c6, P6, ec6, CB6, TA6, KP6⟩ := one hf6 m6 l6 t6
  obtain ⟨c7, P7, ec7, CB7, TA7, KP7⟩ := one hf7 m7 l7 t7
  have each : ∀ {R : Addr × Addr → Prop}, R (c1, P1) → R (c2, P2) → R (c3, P3) → R (c4, P4) → R (c5, P5) → R (c6, P6) → R (c7, P7) → ∀ e ∈ [(c1, P1), (c2, P2), (c3, P3), (c4, P4), (c5, P5), (c6, P6), (c7, P7)], R e := by
    intro R r1 r2 r3 r4 r5 r6 r7 e he
    rcases List.mem_cons.mp he with rfl | he
    · exact r1
    rcases List.mem_cons.mp he with rfl | he
    · exact r2
    rcases List.mem_cons.mp he with rfl | he
    · exact r3
    rcases List.mem_cons.mp he with rfl | he
    · exact r4
    rcases List.mem_cons.mp he with rfl | he
    · exact r5
    rcases List.mem_cons.mp he with rfl | he
    · exact r6
    rcases List.mem_cons.mp he with rfl | he
    · exact r7
    cases he
  refine law_callTs (cps := [(c1, P1), (c2, P2), (c3, P3), (c4, P4), (c5, P5), (c6, P6), (c7, P7)]) KX G.T.g G.T.b G.T.builtins G.T.nolimit hg hobj hints (Nat.le_trans hlen (by decide)) hr (each CB1 CB2 CB3 CB4 CB5 CB6 CB7) (each TA1 TA2 TA3 TA4 TA5 TA6 TA7) M (each KP1 KP2 KP3 KP4 KP5 KP6 KP7)
    (fun base k1 k2 k3 k4 => hF base c1 P1 c2 P2 c3 P3 c4 P4 c5 P5 c6 P6 c7 P7 bm ob k1 k2 ec1 (k3 (c1, P1) (by simp)) ec2 (k3 (c2, P2) (by simp)) ec3 (k3 (c3, P3) (by simp)) ec4 (k3 (c4, P4) (by simp)) ec5 (k3 (c5, P5) (by simp)) ec6 (k3 (c6, P6) (by simp)) ec7 (k3 (c7, P7) (by simp)) k4) hb (fun H hP hS => ?_)
  exact hmono _ _ _ _ _ _ _ _ _ _ _ _ _ (fun v H' ⟨a, b1, b2, b3, b4, b5, b6, b7⟩ => ⟨a, each b1 b2 b3 b4 b5 b6 b7⟩) (hsp w H P1 P2 P3 P4 P5 P6 P7 a ns hlen (hP (c1, P1) (by simp)) (hP (c2, P2) (by simp)) (hP (c3, P3) (by simp)) (hP (c4, P4) (by simp)) (hP (c5, P5) (by simp)) (hP (c6, P6) (by simp)) (hP (c7, P7) (by simp)) hS)
end Ob

set_option maxHeartbeats 4000000
namespace Pg
open PySem PySem.Spec PyProof.Rows L2 Ob
abbrev lawK : Nat := 9
theorem all_mk {l : PySem.W.OpenLaw} {w : World} {K : PySem.W.Frag} {h : Heap} {mg : Str → Option Value} {fa f1 f2 f3 f4 f5 f6 f7 f8 f9 f10 f11 f12 f13 f14 f15 f16 f17 f18 f19 f20 f21 f22 f23 f24 f25 f26 f27 f28 f29 f30 f31 f32 f33 f34 f35 f36 f37 f38 f39 f40 : Addr} (X : K.In h) (G : h.Ns mainGlobals mg) (hfa : mg "law" = some (.ref fa))
    {od1 an1 od2 an2 od3 an3 od4 an4 od5 an5 od6 an6 od7 an7 od8 an8 od9 an9 od10 an10 od11 an11 od12 an12 od13 an13 od14 an14 od15 an15 od16 an16 od17 an17 od18 an18 od19 an19 od20 an20 od21 an21 od22 an22 od23 an23 od24 an24 od25 an25 od26 an26 od27 an27 od28 an28 od29 an29 od30 an30 od31 an31 od32 an32 od33 an33 od34 an34 od35 an35 od36 an36 od37 an37 od38 an38 od39 an39 od40 an40 : Option Addr} {sl1 sl2 sl3 sl4 sl5 sl6 sl7 sl8 sl9 sl10 sl11 sl12 sl13 sl14 sl15 sl16 sl17 sl18 sl19 sl20 sl21 sl22 sl23 sl24 sl25 sl26 sl27 sl28 sl29 sl30 sl31 sl32 sl33 sl34 sl35 sl36 sl37 sl38 sl39 sl40 : Array (Option Value)} {oc1 kV1 dc1 pm1 cd1 ct1 oc2 kV2 dc2 pm2 cd2 ct2 oc3 kV3 dc3 pm3 cd3 ct3 oc4 kV4 dc4 pm4 cd4 ct4 oc5 kV5 dc5 pm5 cd5 ct5 oc6 kV6 dc6 pm6 cd6 ct6 oc7 kV7 dc7 pm7 cd7 ct7 oc8 kV8 dc8 pm8 cd8 ct8 oc9 kV9 dc9 pm9 cd9 ct9 oc10 kV10 dc10 pm10 cd10 ct10 oc11 kV11 dc11 pm11 cd11 ct11 oc12 kV12 dc12 pm12 cd12 ct12 oc13 kV13 dc13 pm13 cd13 ct13 oc14 kV14 dc14 pm14 cd14 ct14 oc15 kV15 dc15 pm15 cd15 ct15 oc16 kV16 dc16 pm16 cd16 ct16 oc17 kV17 dc17 pm17 cd17 ct17 oc18 kV18 dc18 pm18 cd18 ct18 oc19 kV19 dc19 pm19 cd19 ct19 oc20 kV20 dc20 pm20 cd20 ct20 oc21 kV21 dc21 pm21 cd21 ct21 oc22 kV22 dc22 pm22 cd22 ct22 oc23 kV23 dc23 pm23 cd23 ct23 oc24 kV24 dc24 pm24 cd24 ct24 oc25 kV25 dc25 pm25 cd25 ct25 oc26 kV26 dc26 pm26 cd26 ct26 oc27 kV27 dc27 pm27 cd27 ct27 oc28 kV28 dc28 pm28 cd28 ct28 oc29 kV29 dc29 pm29 cd29 ct29 oc30 kV30 dc30 pm30 cd30 ct30 oc31 kV31 dc31 pm31 cd31 ct31 oc32 kV32 dc32 pm32 cd32 ct32 oc33 kV33 dc33 pm33 cd33 ct33 oc34 kV34 dc34 pm34 cd34 ct34 oc35 kV35 dc35 pm35 cd35 ct35 oc36 kV36 dc36 pm36 cd36 ct36 oc37 kV37 dc37 pm37 cd37 ct37 oc38 kV38 dc38 pm38 cd38 ct38 oc39 kV39 dc39 pm39 cd39 ct39 oc40 kV40 dc40 pm40 cd40 ct40 : Value} {tm : Tok}
    (a1 : PySem.W.nsIn K mainGlobals "is_whole" = some (some (.ref f1))) (l1 : K.lookup f1 = some ⟨oc1, od1, .func (PySem.W.fnOf "is_whole" "is_whole" (defArgs sWhole) (defBody sWhole) (defScope sWhole) .none kV1 dc1 pm1 an1 cd1 ct1), sl1⟩) (c1 : PySem.W.codeIn K cd1 "is_whole" = true) (k1 : PySem.W.keepIn K (.ref f1) = true)
    (a2 : PySem.W.nsIn K mainGlobals "greatest_divisor" = some (some (.ref f2))) (l2 : K.lookup f2 = some ⟨oc2, od2, .func (PySem.W.fnOf "greatest_divisor" "greatest_divisor" (defArgs sGcd) (defBody sGcd) (defScope sGcd) .none kV2 dc2 pm2 an2 cd2 ct2), sl2⟩) (c2 : PySem.W.codeIn K cd2 "greatest_divisor" = true) (k2 : PySem.W.keepIn K (.ref f2) = true)
    (a3 : PySem.W.nsIn K mainGlobals "is_fraction" = some (some (.ref f3))) (l3 : K.lookup f3 = some ⟨oc3, od3, .func (PySem.W.fnOf "is_fraction" "is_fraction" (defArgs sIsFr) (defBody sIsFr) (defScope sIsFr) .none kV3 dc3 pm3 an3 cd3 ct3), sl3⟩) (c3 : PySem.W.codeIn K cd3 "is_fraction" = true) (k3 : PySem.W.keepIn K (.ref f3) = true)
    (a4 : PySem.W.nsIn K mainGlobals "in_least_numbers" = some (some (.ref f4))) (l4 : K.lookup f4 = some ⟨oc4, od4, .func (PySem.W.fnOf "in_least_numbers" "in_least_numbers" (defArgs sLeast) (defBody sLeast) (defScope sLeast) .none kV4 dc4 pm4 an4 cd4 ct4), sl4⟩) (c4 : PySem.W.codeIn K cd4 "in_least_numbers" = true) (k4 : PySem.W.keepIn K (.ref f4) = true)
    (a5 : PySem.W.nsIn K mainGlobals "shared_bottom" = some (some (.ref f5))) (l5 : K.lookup f5 = some ⟨oc5, od5, .func (PySem.W.fnOf "shared_bottom" "shared_bottom" (defArgs sShB) (defBody sShB) (defScope sShB) .none kV5 dc5 pm5 an5 cd5 ct5), sl5⟩) (c5 : PySem.W.codeIn K cd5 "shared_bottom" = true) (k5 : PySem.W.keepIn K (.ref f5) = true)
    (a6 : PySem.W.nsIn K mainGlobals "tops_over" = some (some (.ref f6))) (l6 : K.lookup f6 = some ⟨oc6, od6, .func (PySem.W.fnOf "tops_over" "tops_over" (defArgs sTops) (defBody sTops) (defScope sTops) .none kV6 dc6 pm6 an6 cd6 ct6), sl6⟩) (c6 : PySem.W.codeIn K cd6 "tops_over" = true) (k6 : PySem.W.keepIn K (.ref f6) = true)
    (a7 : PySem.W.nsIn K mainGlobals "is_list_of_row_length" = some (some (.ref f7))) (l7 : K.lookup f7 = some ⟨oc7, od7, .func (PySem.W.fnOf "is_list_of_row_length" "is_list_of_row_length" (defArgs sLen) (defBody sLen) (defScope sLen) .none kV7 dc7 pm7 an7 cd7 ct7), sl7⟩) (c7 : PySem.W.codeIn K cd7 "is_list_of_row_length" = true) (k7 : PySem.W.keepIn K (.ref f7) = true)
    (a8 : PySem.W.nsIn K mainGlobals "is_row" = some (some (.ref f8))) (l8 : K.lookup f8 = some ⟨oc8, od8, .func (PySem.W.fnOf "is_row" "is_row" (defArgs sIsRow) (defBody sIsRow) (defScope sIsRow) .none kV8 dc8 pm8 an8 cd8 ct8), sl8⟩) (c8 : PySem.W.codeIn K cd8 "is_row" = true) (k8 : PySem.W.keepIn K (.ref f8) = true)
    (a9 : PySem.W.nsIn K mainGlobals "is_row_of_fractions" = some (some (.ref f9))) (l9 : K.lookup f9 = some ⟨oc9, od9, .func (PySem.W.fnOf "is_row_of_fractions" "is_row_of_fractions" (defArgs sIsRowF) (defBody sIsRowF) (defScope sIsRowF) .none kV9 dc9 pm9 an9 cd9 ct9), sl9⟩) (c9 : PySem.W.codeIn K cd9 "is_row_of_fractions" = true) (k9 : PySem.W.keepIn K (.ref f9) = true)
    (a10 : PySem.W.nsIn K mainGlobals "check_row" = some (some (.ref f10))) (l10 : K.lookup f10 = some ⟨oc10, od10, .func (PySem.W.fnOf "check_row" "check_row" (defArgs sCheck) (defBody sCheck) (defScope sCheck) .none kV10 dc10 pm10 an10 cd10 ct10), sl10⟩) (c10 : PySem.W.codeIn K cd10 "check_row" = true) (k10 : PySem.W.keepIn K (.ref f10) = true)
    (a11 : PySem.W.nsIn K mainGlobals "check_row_of_fractions" = some (some (.ref f11))) (l11 : K.lookup f11 = some ⟨oc11, od11, .func (PySem.W.fnOf "check_row_of_fractions" "check_row_of_fractions" (defArgs sCheckF) (defBody sCheckF) (defScope sCheckF) .none kV11 dc11 pm11 an11 cd11 ct11), sl11⟩) (c11 : PySem.W.codeIn K cd11 "check_row_of_fractions" = true) (k11 : PySem.W.keepIn K (.ref f11) = true)
    (a12 : PySem.W.nsIn K mainGlobals "greatest_gap" = some (some (.ref f12))) (l12 : K.lookup f12 = some ⟨oc12, od12, .func (PySem.W.fnOf "greatest_gap" "greatest_gap" (defArgs sGG) (defBody sGG) (defScope sGG) .none kV12 dc12 pm12 an12 cd12 ct12), sl12⟩) (c12 : PySem.W.codeIn K cd12 "greatest_gap" = true) (k12 : PySem.W.keepIn K (.ref f12) = true)
    (a13 : PySem.W.nsIn K mainGlobals "changed_places" = some (some (.ref f13))) (l13 : K.lookup f13 = some ⟨oc13, od13, .func (PySem.W.fnOf "changed_places" "changed_places" (defArgs sCP) (defBody sCP) (defScope sCP) .none kV13 dc13 pm13 an13 cd13 ct13), sl13⟩) (c13 : PySem.W.codeIn K cd13 "changed_places" = true) (k13 : PySem.W.keepIn K (.ref f13) = true)
    (a14 : PySem.W.nsIn K mainGlobals "sum_of_gaps" = some (some (.ref f14))) (l14 : K.lookup f14 = some ⟨oc14, od14, .func (PySem.W.fnOf "sum_of_gaps" "sum_of_gaps" (defArgs sSG) (defBody sSG) (defScope sSG) .none kV14 dc14 pm14 an14 cd14 ct14), sl14⟩) (c14 : PySem.W.codeIn K cd14 "sum_of_gaps" = true) (k14 : PySem.W.keepIn K (.ref f14) = true)
    (a15 : PySem.W.nsIn K mainGlobals "sum_of_squares" = some (some (.ref f15))) (l15 : K.lookup f15 = some ⟨oc15, od15, .func (PySem.W.fnOf "sum_of_squares" "sum_of_squares" (defArgs sSS) (defBody sSS) (defScope sSS) .none kV15 dc15 pm15 an15 cd15 ct15), sl15⟩) (c15 : PySem.W.codeIn K cd15 "sum_of_squares" = true) (k15 : PySem.W.keepIn K (.ref f15) = true)
    (a16 : PySem.W.nsIn K mainGlobals "check_measure" = some (some (.ref f16))) (l16 : K.lookup f16 = some ⟨oc16, od16, .func (PySem.W.fnOf "check_measure" "check_measure" (defArgs sCM) (defBody sCM) (defScope sCM) .none kV16 dc16 pm16 an16 cd16 ct16), sl16⟩) (c16 : PySem.W.codeIn K cd16 "check_measure" = true) (k16 : PySem.W.keepIn K (.ref f16) = true)
    (a17 : PySem.W.nsIn K mainGlobals "how_far" = some (some (.ref f17))) (l17 : K.lookup f17 = some ⟨oc17, od17, .func (PySem.W.fnOf "how_far" "how_far" (defArgs sHow) (defBody sHow) (defScope sHow) .none kV17 dc17 pm17 an17 cd17 ct17), sl17⟩) (c17 : PySem.W.codeIn K cd17 "how_far" = true) (k17 : PySem.W.keepIn K (.ref f17) = true)
    (a18 : PySem.W.nsIn K mainGlobals "is_price" = some (some (.ref f18))) (l18 : K.lookup f18 = some ⟨oc18, od18, .func (PySem.W.fnOf "is_price" "is_price" (defArgs sIsPr) (defBody sIsPr) (defScope sIsPr) .none kV18 dc18 pm18 an18 cd18 ct18), sl18⟩) (c18 : PySem.W.codeIn K cd18 "is_price" = true) (k18 : PySem.W.keepIn K (.ref f18) = true)
    (a19 : PySem.W.nsIn K mainGlobals "are_prices" = some (some (.ref f19))) (l19 : K.lookup f19 = some ⟨oc19, od19, .func (PySem.W.fnOf "are_prices" "are_prices" (defArgs sArePr) (defBody sArePr) (defScope sArePr) .none kV19 dc19 pm19 an19 cd19 ct19), sl19⟩) (c19 : PySem.W.codeIn K cd19 "are_prices" = true) (k19 : PySem.W.keepIn K (.ref f19) = true)
    (a20 : PySem.W.nsIn K mainGlobals "check_prices" = some (some (.ref f20))) (l20 : K.lookup f20 = some ⟨oc20, od20, .func (PySem.W.fnOf "check_prices" "check_prices" (defArgs sChPr) (defBody sChPr) (defScope sChPr) .none kV20 dc20 pm20 an20 cd20 ct20), sl20⟩) (c20 : PySem.W.codeIn K cd20 "check_prices" = true) (k20 : PySem.W.keepIn K (.ref f20) = true)
    (a21 : PySem.W.nsIn K mainGlobals "weighed_ahead" = some (some (.ref f21))) (l21 : K.lookup f21 = some ⟨oc21, od21, .func (PySem.W.fnOf "weighed_ahead" "weighed_ahead" (defArgs sAheadW) (defBody sAheadW) (defScope sAheadW) .none kV21 dc21 pm21 an21 cd21 ct21), sl21⟩) (c21 : PySem.W.codeIn K cd21 "weighed_ahead" = true) (k21 : PySem.W.keepIn K (.ref f21) = true)
    (a22 : PySem.W.nsIn K mainGlobals "show_something" = some (some (.ref f22))) (l22 : K.lookup f22 = some ⟨oc22, od22, .func (PySem.W.fnOf "show_something" "show_something" (defArgs sShows) (defBody sShows) (defScope sShows) .none kV22 dc22 pm22 an22 cd22 ct22), sl22⟩) (c22 : PySem.W.codeIn K cd22 "show_something" = true) (k22 : PySem.W.keepIn K (.ref f22) = true)
    (a23 : PySem.W.nsIn K mainGlobals "what_prices_show" = some (some (.ref f23))) (l23 : K.lookup f23 = some ⟨oc23, od23, .func (PySem.W.fnOf "what_prices_show" "what_prices_show" (defArgs sWPS) (defBody sWPS) (defScope sWPS) .none kV23 dc23 pm23 an23 cd23 ct23), sl23⟩) (c23 : PySem.W.codeIn K cd23 "what_prices_show" = true) (k23 : PySem.W.keepIn K (.ref f23) = true)
    (a24 : PySem.W.nsIn K mainGlobals "line_at" = some (some (.ref f24))) (l24 : K.lookup f24 = some ⟨oc24, od24, .func (PySem.W.fnOf "line_at" "line_at" (defArgs sLine) (defBody sLine) (defScope sLine) .none kV24 dc24 pm24 an24 cd24 ct24), sl24⟩) (c24 : PySem.W.codeIn K cd24 "line_at" = true) (k24 : PySem.W.keepIn K (.ref f24) = true)
    (a25 : PySem.W.nsIn K mainGlobals "above_line" = some (some (.ref f25))) (l25 : K.lookup f25 = some ⟨oc25, od25, .func (PySem.W.fnOf "above_line" "above_line" (defArgs sAbove) (defBody sAbove) (defScope sAbove) .none kV25 dc25 pm25 an25 cd25 ct25), sl25⟩) (c25 : PySem.W.codeIn K cd25 "above_line" = true) (k25 : PySem.W.keepIn K (.ref f25) = true)
    (a26 : PySem.W.nsIn K mainGlobals "is_under_line" = some (some (.ref f26))) (l26 : K.lookup f26 = some ⟨oc26, od26, .func (PySem.W.fnOf "is_under_line" "is_under_line" (defArgs sUnder) (defBody sUnder) (defScope sUnder) .none kV26 dc26 pm26 an26 cd26 ct26), sl26⟩) (c26 : PySem.W.codeIn K cd26 "is_under_line" = true) (k26 : PySem.W.keepIn K (.ref f26) = true)
    (a27 : PySem.W.nsIn K mainGlobals "corner_places" = some (some (.ref f27))) (l27 : K.lookup f27 = some ⟨oc27, od27, .func (PySem.W.fnOf "corner_places" "corner_places" (defArgs sCorners) (defBody sCorners) (defScope sCorners) .none kV27 dc27 pm27 an27 cd27 ct27), sl27⟩) (c27 : PySem.W.codeIn K cd27 "corner_places" = true) (k27 : PySem.W.keepIn K (.ref f27) = true)
    (a28 : PySem.W.nsIn K mainGlobals "greatest_below" = some (some (.ref f28))) (l28 : K.lookup f28 = some ⟨oc28, od28, .func (PySem.W.fnOf "greatest_below" "greatest_below" (defArgs sBelow) (defBody sBelow) (defScope sBelow) .none kV28 dc28 pm28 an28 cd28 ct28), sl28⟩) (c28 : PySem.W.codeIn K cd28 "greatest_below" = true) (k28 : PySem.W.keepIn K (.ref f28) = true)
    (a29 : PySem.W.nsIn K mainGlobals "_law_cell_at" = some (some (.ref f29))) (l29 : K.lookup f29 = some ⟨oc29, od29, .func (PySem.W.fnOf "_law_cell_at" "_law_cell_at" (defArgs sCellAt) (defBody sCellAt) (defScope sCellAt) .none kV29 dc29 pm29 an29 cd29 ct29), sl29⟩) (c29 : PySem.W.codeIn K cd29 "_law_cell_at" = true) (k29 : PySem.W.keepIn K (.ref f29) = true)
    (a30 : PySem.W.nsIn K mainGlobals "_law_stir" = some (some (.ref f30))) (l30 : K.lookup f30 = some ⟨oc30, od30, .func (PySem.W.fnOf "_law_stir" "_law_stir" (defArgs sStir) (defBody sStir) (defScope sStir) .none kV30 dc30 pm30 an30 cd30 ct30), sl30⟩) (c30 : PySem.W.codeIn K cd30 "_law_stir" = true) (k30 : PySem.W.keepIn K (.ref f30) = true)
    (a31 : PySem.W.nsIn K mainGlobals "_law_deck" = some (some (.ref f31))) (l31 : K.lookup f31 = some ⟨oc31, od31, .func (PySem.W.fnOf "_law_deck" "_law_deck" (defArgs sDeck) (defBody sDeck) (defScope sDeck) .none kV31 dc31 pm31 an31 cd31 ct31), sl31⟩) (c31 : PySem.W.codeIn K cd31 "_law_deck" = true) (k31 : PySem.W.keepIn K (.ref f31) = true)
    (a32 : PySem.W.nsIn K mainGlobals "_law_next" = some (some (.ref f32))) (l32 : K.lookup f32 = some ⟨oc32, od32, .func (PySem.W.fnOf "_law_next" "_law_next" (defArgs sLNext) (defBody sLNext) (defScope sLNext) .none kV32 dc32 pm32 an32 cd32 ct32), sl32⟩) (c32 : PySem.W.codeIn K cd32 "_law_next" = true) (k32 : PySem.W.keepIn K (.ref f32) = true)
    (a33 : PySem.W.nsIn K mainGlobals "_law_far" = some (some (.ref f33))) (l33 : K.lookup f33 = some ⟨oc33, od33, .func (PySem.W.fnOf "_law_far" "_law_far" (defArgs sFar) (defBody sFar) (defScope sFar) .none kV33 dc33 pm33 an33 cd33 ct33), sl33⟩) (c33 : PySem.W.codeIn K cd33 "_law_far" = true) (k33 : PySem.W.keepIn K (.ref f33) = true)
    (a34 : PySem.W.nsIn K mainGlobals "_law_bent" = some (some (.ref f34))) (l34 : K.lookup f34 = some ⟨oc34, od34, .func (PySem.W.fnOf "_law_bent" "_law_bent" (defArgs sBent) (defBody sBent) (defScope sBent) .none kV34 dc34 pm34 an34 cd34 ct34), sl34⟩) (c34 : PySem.W.codeIn K cd34 "_law_bent" = true) (k34 : PySem.W.keepIn K (.ref f34) = true)
    (a35 : PySem.W.nsIn K mainGlobals "_law_row" = some (some (.ref f35))) (l35 : K.lookup f35 = some ⟨oc35, od35, .func (PySem.W.fnOf "_law_row" "_law_row" (defArgs sRow) (defBody sRow) (defScope sRow) .none kV35 dc35 pm35 an35 cd35 ct35), sl35⟩) (c35 : PySem.W.codeIn K cd35 "_law_row" = true) (k35 : PySem.W.keepIn K (.ref f35) = true)
    (a36 : PySem.W.nsIn K mainGlobals "_law_divisor" = some (some (.ref f36))) (l36 : K.lookup f36 = some ⟨oc36, od36, .func (PySem.W.fnOf "_law_divisor" "_law_divisor" (defArgs sLDiv) (defBody sLDiv) (defScope sLDiv) .none kV36 dc36 pm36 an36 cd36 ct36), sl36⟩) (c36 : PySem.W.codeIn K cd36 "_law_divisor" = true) (k36 : PySem.W.keepIn K (.ref f36) = true)
    (a37 : PySem.W.nsIn K mainGlobals "_law_fraction" = some (some (.ref f37))) (l37 : K.lookup f37 = some ⟨oc37, od37, .func (PySem.W.fnOf "_law_fraction" "_law_fraction" (defArgs sFraction) (defBody sFraction) (defScope sFraction) .none kV37 dc37 pm37 an37 cd37 ct37), sl37⟩) (c37 : PySem.W.codeIn K cd37 "_law_fraction" = true) (k37 : PySem.W.keepIn K (.ref f37) = true)
    (a38 : PySem.W.nsIn K mainGlobals "_law_prices" = some (some (.ref f38))) (l38 : K.lookup f38 = some ⟨oc38, od38, .func (PySem.W.fnOf "_law_prices" "_law_prices" (defArgs sLPrices) (defBody sLPrices) (defScope sLPrices) .none kV38 dc38 pm38 an38 cd38 ct38), sl38⟩) (c38 : PySem.W.codeIn K cd38 "_law_prices" = true) (k38 : PySem.W.keepIn K (.ref f38) = true)
    (a39 : PySem.W.nsIn K mainGlobals "_law_half" = some (some (.ref f39))) (l39 : K.lookup f39 = some ⟨oc39, od39, .func (PySem.W.fnOf "_law_half" "_law_half" (defArgs sHalf) (defBody sHalf) (defScope sHalf) .none kV39 dc39 pm39 an39 cd39 ct39), sl39⟩) (c39 : PySem.W.codeIn K cd39 "_law_half" = true) (k39 : PySem.W.keepIn K (.ref f39) = true)
    (a40 : PySem.W.nsIn K mainGlobals "law" = some (some (.ref f40))) (l40 : K.lookup f40 = some ⟨oc40, od40, .func (PySem.W.fnOf "law" "law" (defArgs sLaw) (defBody sLaw) (defScope sLaw) .none kV40 dc40 pm40 an40 cd40 ct40), sl40⟩) (c40 : PySem.W.codeIn K cd40 "law" = true) (k40 : PySem.W.keepIn K (.ref f40) = true)
    (z1 : PySem.W.nsIn K mainGlobals "isinstance" = some none)
    (z2 : PySem.W.nsIn K mainGlobals "int" = some none)
    (z3 : PySem.W.nsIn K mainGlobals "bool" = some none)
    (z4 : PySem.W.nsIn K mainGlobals "list" = some none)
    (z5 : PySem.W.nsIn K mainGlobals "len" = some none)
    (z6 : PySem.W.nsIn K mainGlobals "all" = some none)
    (z7 : PySem.W.nsIn K mainGlobals "range" = some none)
    (z8 : PySem.W.nsIn K mainGlobals "min" = some none)
    (z9 : PySem.W.nsIn K mainGlobals "max" = some none)
    (z10 : PySem.W.nsIn K mainGlobals "sorted" = some none)
    (z11 : PySem.W.nsIn K mainGlobals "zip" = some none)
    (z12 : PySem.W.nsIn K mainGlobals "enumerate" = some none)
    (z13 : PySem.W.nsIn K mainGlobals "abs" = some none)
    (z14 : PySem.W.nsIn K mainGlobals "tuple" = some none)
    (z15 : PySem.W.nsIn K mainGlobals "sum" = some none)
    (z16 : PySem.W.nsIn K mainGlobals "str" = some none)
    {fM : Addr} {hhGG hhCP hhSG hhSS : Int} {thGG thCP thSG thSS : Tok} {epM : Nat}
    (aM : PySem.W.nsIn K mainGlobals "MEASURES" = some (some (.ref fM)))
    (lM : K.lookup fM = some { cls := .type "dict", data := .dict #[⟨hhGG, .str "greatest" thGG, .ref f12⟩, ⟨hhCP, .str "changed" thCP, .ref f13⟩, ⟨hhSG, .str "sum" thSG, .ref f14⟩, ⟨hhSS, .str "squares" thSS, .ref f15⟩] epM })
    (yM : (fM == sysModules) = false)
    (yGG : hhGG = (mixKind l.prog w).hash (Sum.inr "greatest"))
    (yCP : hhCP = (mixKind l.prog w).hash (Sum.inr "changed"))
    (ySG : hhSG = (mixKind l.prog w).hash (Sum.inr "sum"))
    (ySS : hhSS = (mixKind l.prog w).hash (Sum.inr "squares"))
    (xa : tabApart K cd22 cd21 = true)
    (zm : PySem.W.nsIn K mainGlobals "MOST_NUMBERS" = some (some (.int 12 tm))) :
    ∃ (e1 e2 e3 e4 e5 e6 e7 : Addr) (o1 o2 o3 o4 o5 o6 o7 : Obj) (fd1 fd2 fd3 fd4 fd5 fd6 fd7 fd : FuncData), mg "is_row" = some (.ref e1) ∧ K.lookup e1 = some o1 ∧ o1.data = .func fd1 ∧ mg "is_row_of_fractions" = some (.ref e2) ∧ K.lookup e2 = some o2 ∧ o2.data = .func fd2 ∧ mg "sum_of_squares" = some (.ref e3) ∧ K.lookup e3 = some o3 ∧ o3.data = .func fd3 ∧ mg "are_prices" = some (.ref e4) ∧ K.lookup e4 = some o4 ∧ o4.data = .func fd4 ∧ mg "weighed_ahead" = some (.ref e5) ∧ K.lookup e5 = some o5 ∧ o5.data = .func fd5 ∧ mg "show_something" = some (.ref e6) ∧ K.lookup e6 = some o6 ∧ o6.data = .func fd6 ∧ mg "what_prices_show" = some (.ref e7) ∧ K.lookup e7 = some o7 ∧ o7.data = .func fd7 ∧ (∀ (s : Shared) (v : Value), BindsTo s fd ⟨[v], []⟩ [("script", v)]) ∧
      ∀ (base : Heap) (q1 P1 q2 P2 q3 P3 q4 P4 q5 P5 q6 P6 q7 P7 bm : Addr) (ob : Obj), K.In base → base.Ns mainGlobals mg → fd1.code = .ref q1 → CodeB base q1 P1 → fd2.code = .ref q2 → CodeB base q2 P2 → fd3.code = .ref q3 → CodeB base q3 P3 → fd4.code = .ref q4 → CodeB base q4 P4 → fd5.code = .ref q5 → CodeB base q5 P5 → fd6.code = .ref q6 → CodeB base q6 P6 → fd7.code = .ref q7 → CodeB base q7 P7 → BMod base mainGlobals mg bm ob → FnOk l.prog w K mg base CX0 9 fa fd ["script"] (spLaw50 K P1 P2 P3 P4 P5 P6 P7) := by
  have e := hfa.symm.trans (PySem.W.mg_of X G a40)
  cases e
  have T : Tx mg := ⟨PySem.W.mg_none_of X G z1, PySem.W.mg_none_of X G z2, PySem.W.mg_none_of X G z3, PySem.W.mg_none_of X G z4, PySem.W.mg_none_of X G z5, PySem.W.mg_none_of X G z6, PySem.W.mg_none_of X G z7, PySem.W.mg_none_of X G z8, PySem.W.mg_none_of X G z9, PySem.W.mg_none_of X G z10, PySem.W.mg_none_of X G z11, PySem.W.mg_none_of X G z12, tm, PySem.W.mg_of X G zm⟩
  have F1 := fun_mk (st := sWhole) l1 c1 k1
  have b1 := F1.binds (ps := ["thing"]) fun _ _ _ _ _ _ us hl => match us, hl with | [_], _ => rfl
  have M1 := PySem.W.mg_of X G a1
  have F2 := fun_mk (st := sGcd) l2 c2 k2
  have b2 := F2.binds (ps := ["one", "other"]) fun _ _ _ _ _ _ us hl => match us, hl with | [_, _], _ => rfl
  have M2 := PySem.W.mg_of X G a2
  have F3 := fun_mk (st := sIsFr) l3 c3 k3
  have b3 := F3.binds (ps := ["thing"]) fun _ _ _ _ _ _ us hl => match us, hl with | [_], _ => rfl
  have M3 := PySem.W.mg_of X G a3
  have F4 := fun_mk (st := sLeast) l4 c4 k4
  have b4 := F4.binds (ps := ["top", "bottom"]) fun _ _ _ _ _ _ us hl => match us, hl with | [_, _], _ => rfl
  have M4 := PySem.W.mg_of X G a4
  have F5 := fun_mk (st := sShB) l5 c5 k5
  have b5 := F5.binds (ps := ["fractions"]) fun _ _ _ _ _ _ us hl => match us, hl with | [_], _ => rfl
  have M5 := PySem.W.mg_of X G a5
  have F6 := fun_mk (st := sTops) l6 c6 k6
  have b6 := F6.binds (ps := ["fractions", "shared"]) fun _ _ _ _ _ _ us hl => match us, hl with | [_, _], _ => rfl
  have M6 := PySem.W.mg_of X G a6
  have F7 := fun_mk (st := sLen) l7 c7 k7
  have b7 := F7.binds (ps := ["thing"]) fun _ _ _ _ _ _ us hl => match us, hl with | [_], _ => rfl
  have M7 := PySem.W.mg_of X G a7
  have F8 := fun_mk (st := sIsRow) l8 c8 k8
  have b8 := F8.binds (ps := ["thing"]) fun _ _ _ _ _ _ us hl => match us, hl with | [_], _ => rfl
  have M8 := PySem.W.mg_of X G a8
  have F9 := fun_mk (st := sIsRowF) l9 c9 k9
  have b9 := F9.binds (ps := ["thing"]) fun _ _ _ _ _ _ us hl => match us, hl with | [_], _ => rfl
  have M9 := PySem.W.mg_of X G a9
  have F10 := fun_mk (st := sCheck) l10 c10 k10
  have b10 := F10.binds (ps := ["numbers"]) fun _ _ _ _ _ _ us hl => match us, hl with | [_], _ => rfl
  have M10 := PySem.W.mg_of X G a10
  have F11 := fun_mk (st := sCheckF) l11 c11 k11
  have b11 := F11.binds (ps := ["fractions"]) fun _ _ _ _ _ _ us hl => match us, hl with | [_], _ => rfl
  have M11 := PySem.W.mg_of X G a11
  have F12 := fun_mk (st := sGG) l12 c12 k12
  have b12 := F12.binds (ps := ["gaps", "bottom"]) fun _ _ _ _ _ _ us hl => match us, hl with | [_, _], _ => rfl
  have M12 := PySem.W.mg_of X G a12
  have F13 := fun_mk (st := sCP) l13 c13 k13
  have b13 := F13.binds (ps := ["gaps", "bottom"]) fun _ _ _ _ _ _ us hl => match us, hl with | [_, _], _ => rfl
  have M13 := PySem.W.mg_of X G a13
  have F14 := fun_mk (st := sSG) l14 c14 k14
  have b14 := F14.binds (ps := ["gaps", "bottom"]) fun _ _ _ _ _ _ us hl => match us, hl with | [_, _], _ => rfl
  have M14 := PySem.W.mg_of X G a14
  have F15 := fun_mk (st := sSS) l15 c15 k15
  have b15 := F15.binds (ps := ["gaps", "bottom"]) fun _ _ _ _ _ _ us hl => match us, hl with | [_, _], _ => rfl
  have M15 := PySem.W.mg_of X G a15
  have F16 := fun_mk (st := sCM) l16 c16 k16
  have b16 := F16.binds (ps := ["measure"]) fun _ _ _ _ _ _ us hl => match us, hl with | [_], _ => rfl
  have M16 := PySem.W.mg_of X G a16
  have F17 := fun_mk (st := sHow) l17 c17 k17
  have b17 := F17.binds (ps := ["measure", "numbers", "fractions"]) fun _ _ _ _ _ _ us hl => match us, hl with | [_, _, _], _ => rfl
  have M17 := PySem.W.mg_of X G a17
  have F18 := fun_mk (st := sIsPr) l18 c18 k18
  have b18 := F18.binds (ps := ["thing"]) fun _ _ _ _ _ _ us hl => match us, hl with | [_], _ => rfl
  have M18 := PySem.W.mg_of X G a18
  have F19 := fun_mk (st := sArePr) l19 c19 k19
  have b19 := F19.binds (ps := ["thing", "numbers"]) fun _ _ _ _ _ _ us hl => match us, hl with | [_, _], _ => rfl
  have M19 := PySem.W.mg_of X G a19
  have F20 := fun_mk (st := sChPr) l20 c20 k20
  have b20 := F20.binds (ps := ["numbers", "prices"]) fun _ _ _ _ _ _ us hl => match us, hl with | [_, _], _ => rfl
  have M20 := PySem.W.mg_of X G a20
  have F21 := fun_mk (st := sAheadW) l21 c21 k21
  have b21 := F21.binds (ps := ["prices", "place"]) fun _ _ _ _ _ _ us hl => match us, hl with | [_, _], _ => rfl
  have M21 := PySem.W.mg_of X G a21
  have F22 := fun_mk (st := sShows) l22 c22 k22
  have b22 := F22.binds (ps := ["prices"]) fun _ _ _ _ _ _ us hl => match us, hl with | [_], _ => rfl
  have M22 := PySem.W.mg_of X G a22
  have F23 := fun_mk (st := sWPS) l23 c23 k23
  have b23 := F23.binds (ps := ["numbers", "prices"]) fun _ _ _ _ _ _ us hl => match us, hl with | [_, _], _ => rfl
  have M23 := PySem.W.mg_of X G a23
  have F24 := fun_mk (st := sLine) l24 c24 k24
  have b24 := F24.binds (ps := ["numbers", "first", "last", "place"]) fun _ _ _ _ _ _ us hl => match us, hl with | [_, _, _, _], _ => rfl
  have M24 := PySem.W.mg_of X G a24
  have F25 := fun_mk (st := sAbove) l25 c25 k25
  have b25 := F25.binds (ps := ["numbers", "first", "last", "place"]) fun _ _ _ _ _ _ us hl => match us, hl with | [_, _, _, _], _ => rfl
  have M25 := PySem.W.mg_of X G a25
  have F26 := fun_mk (st := sUnder) l26 c26 k26
  have b26 := F26.binds (ps := ["numbers", "first", "last", "place"]) fun _ _ _ _ _ _ us hl => match us, hl with | [_, _, _, _], _ => rfl
  have M26 := PySem.W.mg_of X G a26
  have F27 := fun_mk (st := sCorners) l27 c27 k27
  have b27 := F27.binds (ps := ["numbers"]) fun _ _ _ _ _ _ us hl => match us, hl with | [_], _ => rfl
  have M27 := PySem.W.mg_of X G a27
  have F28 := fun_mk (st := sBelow) l28 c28 k28
  have b28 := F28.binds (ps := ["numbers"]) fun _ _ _ _ _ _ us hl => match us, hl with | [_], _ => rfl
  have M28 := PySem.W.mg_of X G a28
  have F29 := fun_mk (st := sCellAt) l29 c29 k29
  have b29 := F29.binds (ps := ["script", "k"]) fun _ _ _ _ _ _ us hl => match us, hl with | [_, _], _ => rfl
  have M29 := PySem.W.mg_of X G a29
  have F30 := fun_mk (st := sStir) l30 c30 k30
  have b30 := F30.binds (ps := ["cell", "k"]) fun _ _ _ _ _ _ us hl => match us, hl with | [_, _], _ => rfl
  have M30 := PySem.W.mg_of X G a30
  have F31 := fun_mk (st := sDeck) l31 c31 k31
  have b31 := F31.binds (ps := ["cell", "many"]) fun _ _ _ _ _ _ us hl => match us, hl with | [_, _], _ => rfl
  have M31 := PySem.W.mg_of X G a31
  have F32 := fun_mk (st := sLNext) l32 c32 k32
  have b32 := F32.binds (ps := ["deck"]) fun _ _ _ _ _ _ us hl => match us, hl with | [_], _ => rfl
  have M32 := PySem.W.mg_of X G a32
  have F33 := fun_mk (st := sFar) l33 c33 k33
  have b33 := F33.binds (ps := ["deck"]) fun _ _ _ _ _ _ us hl => match us, hl with | [_], _ => rfl
  have M33 := PySem.W.mg_of X G a33
  have F34 := fun_mk (st := sBent) l34 c34 k34
  have b34 := F34.binds (ps := ["deck", "many"]) fun _ _ _ _ _ _ us hl => match us, hl with | [_, _], _ => rfl
  have M34 := PySem.W.mg_of X G a34
  have F35 := fun_mk (st := sRow) l35 c35 k35
  have b35 := F35.binds (ps := ["deck", "most"]) fun _ _ _ _ _ _ us hl => match us, hl with | [_, _], _ => rfl
  have M35 := PySem.W.mg_of X G a35
  have F36 := fun_mk (st := sLDiv) l36 c36 k36
  have b36 := F36.binds (ps := ["one", "other"]) fun _ _ _ _ _ _ us hl => match us, hl with | [_, _], _ => rfl
  have M36 := PySem.W.mg_of X G a36
  have F37 := fun_mk (st := sFraction) l37 c37 k37
  have b37 := F37.binds (ps := ["top", "bottom"]) fun _ _ _ _ _ _ us hl => match us, hl with | [_, _], _ => rfl
  have M37 := PySem.W.mg_of X G a37
  have F38 := fun_mk (st := sLPrices) l38 c38 k38
  have b38 := F38.binds (ps := ["deck", "many", "either"]) fun _ _ _ _ _ _ us hl => match us, hl with | [_, _, _], _ => rfl
  have M38 := PySem.W.mg_of X G a38
  have F39 := fun_mk (st := sHalf) l39 c39 k39
  have b39 := F39.binds (ps := ["one", "other"]) fun _ _ _ _ _ _ us hl => match us, hl with | [_, _], _ => rfl
  have M39 := PySem.W.mg_of X G a39
  have F40 := fun_mk (st := sLaw) l40 c40 k40
  have M40 := PySem.W.mg_of X G a40
  have W : WholeFn K mg f1 := ⟨⟨_, _, _, _, _, _, _, _, _, _, _, _, _, _, _, _, _, _, _, _, _, _, l1, c1, fun s u => .of_eq rfl, rfl, rfl, rfl, by decide +kernel, by decide +kernel, by decide +kernel, by decide +kernel⟩, k1, M1, T.isi, T.int, T.bool⟩
  refine ⟨f8, f9, f15, f19, f21, f22, f23, _, _, _, _, _, _, _, _, _, _, _, _, _, _, PySem.W.fnOf "law" "law" (defArgs sLaw) (defBody sLaw) (defScope sLaw) .none kV40 dc40 pm40 an40 cd40 ct40, M8, l8, rfl, M9, l9, rfl, M15, l15, rfl, M19, l19, rfl, M21, l21, rfl, M22, l22, rfl, M23, l23, rfl, fun s v => .of_eq rfl, fun base q1 P1 q2 P2 q3 P3 q4 P4 q5 P5 q6 P6 q7 P7 bm ob KB _ hc1 CB1 hc2 CB2 hc3 CB3 hc4 CB4 hc5 CB5 hc6 CB6 hc7 CB7 BM => ?_⟩
  have bmx : ∃ bm ob, BMod base mainGlobals mg bm ob := ⟨bm, ob, BM⟩
  have zabs := PySem.W.mg_none_of X G z13
  have zsum := PySem.W.mg_none_of X G z15
  have ztup := PySem.W.mg_none_of X G z14
  have n65 : P6 ≠ P5 := tab_apart KB xa hc6 CB6 hc5 CB5
  have QW := q_whole (P := l.prog) (w := w) (base := base) F1 T
  have QG := q_gcd (P := l.prog) (w := w) (base := base) F2 zabs
  have QF := q_isfr F3 T ztup QW b1 k1 M1 QG b2 k2 M2
  have GG := QG.fn
  have GL := ok_len (P := l.prog) (w := w) (base := base) F7 T
  have GI := ok_isrow F8 hc1 T CB1 bmx W GL b7 k7 M7
  have GC := ok_check F10 GI b8 k8 M8
  have GRF := ok_isrowF F9 hc2 T CB2 bmx QF (fun s u => .of_eq rfl) k3 M3 GL b7 k7 M7
  have GCF := ok_checkF F11 GRF b9 k9 M9
  have GSb := ok_shb F5 GG b2 k2 M2
  have GTo := ok_tops (P := l.prog) (w := w) (mg := mg) (base := base) F6
  have GE := ok_leastB F4 GG b2 k2 M2
  have GEs := ok_least F4 GG b2 k2 M2
  have N1 := ok_gg F12 T GE b4 k4 M4
  have N2 := ok_cp (P := l.prog) (w := w) (base := base) F13 T
  have N3 := ok_sg F14 zsum GE b4 k4 M4
  have N4 := ok_ss F15 hc3 CB3 bmx zsum GE b4 k4 M4
  have KD : KDict l.prog w K fM [((Sum.inr "greatest" : Key), Value.ref f12), ((Sum.inr "changed" : Key), Value.ref f13), ((Sum.inr "sum" : Key), Value.ref f14), ((Sum.inr "squares" : Key), Value.ref f15)] := by
    refine ⟨yM, fun h hK => ⟨_, _, _, hK _ _ lM, ⟨rfl, rfl, rfl⟩, rfl, ?_, ?_, ?_⟩⟩
    · intro e he
      simp only [List.mem_toArray, List.mem_cons, List.not_mem_nil, or_false] at he
      rcases he with rfl | rfl | rfl | rfl
      · exact ⟨Sum.inr "greatest", mixKind_str _ _ _ _, yGG⟩
      · exact ⟨Sum.inr "changed", mixKind_str _ _ _ _, yCP⟩
      · exact ⟨Sum.inr "sum", mixKind_str _ _ _ _, ySG⟩
      · exact ⟨Sum.inr "squares", mixKind_str _ _ _ _, ySS⟩
    · exact .cons (mixKind_str _ _ _ _) rfl (.cons (mixKind_str _ _ _ _) rfl (.cons (mixKind_str _ _ _ _) rfl (.cons (mixKind_str _ _ _ _) rfl .nil)))
    · show ([(Sum.inr "greatest" : Key), Sum.inr "changed", Sum.inr "sum", Sum.inr "squares"]).Nodup
      decide
  have MM : Meas l.prog w K mg base P3 fM [((Sum.inr "greatest" : Key), Value.ref f12), ((Sum.inr "changed" : Key), Value.ref f13), ((Sum.inr "sum" : Key), Value.ref f14), ((Sum.inr "squares" : Key), Value.ref f15)] := by
    refine ⟨KD, PySem.W.mg_of X G aM, fun mz hmz => ?_⟩
    rcases List.mem_cons.mp hmz with rfl | hmz
    · exact ⟨f12, _, rfl, fn_imp N1 (fun _ _ _ _ z => z.2), k12, b12⟩
    rcases List.mem_cons.mp hmz with rfl | hmz
    · exact ⟨f13, _, rfl, fn_imp (N2.mono (by decide)) (fun _ _ _ _ z => z.2), k13, b13⟩
    rcases List.mem_cons.mp hmz with rfl | hmz
    · exact ⟨f14, _, rfl, fn_imp N3 (fun _ _ _ _ z => z.2), k14, b14⟩
    rw [List.mem_singleton.mp hmz]
    exact ⟨f15, _, rfl, N4, k15, b15⟩
  have GCM := ok_cm F16 T (PySem.W.mg_none_of X G z16) MM
  have GHw := ok_how F17 T zabs MM GC b10 k10 M10 GCF b11 k11 M11 GCM b16 k16 M16 GSb b5 k5 M5 GTo b6 k6 M6
  have QPr := q_ispr F18 zabs QF b3 k3 M3
  have GAP := ok_arepr F19 hc4 T CB4 bmx QPr (fun s u => .of_eq rfl) k18 M18
  have GCP := ok_chpr F20 GAP b19 k19 M19
  have GAW := ok_aheadw (P := l.prog) (w := w) F21 hc5 T CB5 bmx zsum T.enum
  have GSh := ok_shows F22 hc6 T CB6 bmx zsum T.enum T.range GAW (fun s u u' => .of_eq rfl) k21 M21
  have GW := ok_wps F23 hc7 T CB7 bmx zsum GC b10 k10 M10 GCP b20 k20 M20 GSb b5 k5 M5 GTo b6 k6 M6 GSh b22 k22 M22 GE b4 k4 M4
  have GN := ok_line (P := l.prog) (w := w) (mg := mg) (base := base) F24
  have GAb := ok_above F25 GN b24 k24 M24
  have GU := ok_under F26 GAb b25 k25 M25
  have GCo := ok_corners F27 T GU b26 k26 M26
  have GBl := ok_below F28 T GC b10 k10 M10 GCo b27 k27 M27 GN b24 k24 M24 GEs b4 k4 M4
  have GCA := ok_cellat (P := l.prog) (w := w) (base := base) F29 T
  have GSt := ok_stir (P := l.prog) (w := w) (mg := mg) (base := base) F30
  have GDk := ok_deck F31 T GSt b30 k30 M30
  have GNx := ok_next (P := l.prog) (w := w) (mg := mg) (base := base) F32
  have GFr := ok_far F33 T GNx b32 k32 M32
  have GBt := ok_bent F34 T GNx b32 k32 M32
  have GRw := ok_row F35 T GNx b32 k32 M32 GFr b33 k33 M33 GBt b34 k34 M34
  have GLD := ok_ldiv (P := l.prog) (w := w) (base := base) F36 zabs
  have GFc := ok_lfrac F37 GLD b36 k36 M36
  have GLP := ok_lprices F38 T zabs GNx b32 k32 M32 GFc b37 k37 M37
  have GHf := ok_half F39 GFc b37 k37 M37
  exact ok_law F40 T zabs n65 GCA b29 k29 M29 GDk b31 k31 M31 GRw b35 k35 M35 GLP b38 k38 M38 GBt b34 k34 M34 GNx b32 k32 M32 GHf b39 k39 M39 GW b23 k23 M23 GHw b17 k17 M17 GBl b28 k28 M28
theorem walk {l : PySem.W.OpenLaw} {q : Program} {loose : List Str} {XP : (Str → Option Value) → Heap → Prop} {YP : World → Heap → Prop} {d d1 d2 d3 d4 d5 d6 d7 : DefRec} {K : Params → PySem.W.Frag} (hn : l.most = some 63) (hdf : d.params.defaults = [])
    (hY : ∀ (w : World) (h : Heap), YP w h → (K w.params).In h) (hf1 : (recsOf q).find? (fun e => e.name == ("is_row" : Str)) = some d1) (hf2 : (recsOf q).find? (fun e => e.name == ("is_row_of_fractions" : Str)) = some d2) (hf3 : (recsOf q).find? (fun e => e.name == ("sum_of_squares" : Str)) = some d3) (hf4 : (recsOf q).find? (fun e => e.name == ("are_prices" : Str)) = some d4) (hf5 : (recsOf q).find? (fun e => e.name == ("weighed_ahead" : Str)) = some d5) (hf6 : (recsOf q).find? (fun e => e.name == ("show_something" : Str)) = some d6) (hf7 : (recsOf q).find? (fun e => e.name == ("what_prices_show" : Str)) = some d7) (hcls : ∀ w : World, PySem.W.kb_classed (K w.params) = true)
    (F : ∀ (w : World) (mg : Str → Option Value) (fa : Addr) (h : Heap), (K w.params).In h → h.Ns mainGlobals mg → mg d.name = some (.ref fa) →
      ∃ (e1 e2 e3 e4 e5 e6 e7 : Addr) (o1 o2 o3 o4 o5 o6 o7 : Obj) (fd1 fd2 fd3 fd4 fd5 fd6 fd7 fd : FuncData), mg "is_row" = some (.ref e1) ∧ (K w.params).lookup e1 = some o1 ∧ o1.data = .func fd1 ∧ mg "is_row_of_fractions" = some (.ref e2) ∧ (K w.params).lookup e2 = some o2 ∧ o2.data = .func fd2 ∧ mg "sum_of_squares" = some (.ref e3) ∧ (K w.params).lookup e3 = some o3 ∧ o3.data = .func fd3 ∧ mg "are_prices" = some (.ref e4) ∧ (K w.params).lookup e4 = some o4 ∧ o4.data = .func fd4 ∧ mg "weighed_ahead" = some (.ref e5) ∧ (K w.params).lookup e5 = some o5 ∧ o5.data = .func fd5 ∧ mg "show_something" = some (.ref e6) ∧ (K w.params).lookup e6 = some o6 ∧ o6.data = .func fd6 ∧ mg "what_prices_show" = some (.ref e7) ∧ (K w.params).lookup e7 = some o7 ∧ o7.data = .func fd7 ∧ (∀ (s : Shared) (u : Value), BindsTo s fd ⟨[u], []⟩ [("script", u)]) ∧
        ∀ (base : Heap) (q1 P1 q2 P2 q3 P3 q4 P4 q5 P5 q6 P6 q7 P7 bm : Addr) (ob : Obj), (K w.params).In base → base.Ns mainGlobals mg → fd1.code = .ref q1 → CodeB base q1 P1 → fd2.code = .ref q2 → CodeB base q2 P2 → fd3.code = .ref q3 → CodeB base q3 P3 → fd4.code = .ref q4 → CodeB base q4 P4 → fd5.code = .ref q5 → CodeB base q5 P5 → fd6.code = .ref q6 → CodeB base q6 P6 → fd7.code = .ref q7 → CodeB base q7 P7 → BMod base mainGlobals mg bm ob → FnOk l.prog w (K w.params) mg base CX0 lawK fa fd ["script"] (spLaw50 (K w.params) P1 P2 P3 P4 P5 P6 P7)) :
    PySem.W.WalkO q loose XP YP l.row.toRowW d [] (fun f vs => PySem.call f vs) :=
  Ob.walk_gen7 (k := lawK) (g1 := "is_row") (g2 := "is_row_of_fractions") (g3 := "sum_of_squares") (g4 := "are_prices") (g5 := "weighed_ahead") (g6 := "show_something") (g7 := "what_prices_show") (x := "script") (sp := fun w P1 P2 P3 P4 P5 P6 P7 => spLaw50 (K w.params) P1 P2 P3 P4 P5 P6 P7) hn hdf ⟨rfl, by decide, by decide, fun _ => rfl⟩ hY hf1 hf2 hf3 hf4 hf5 hf6 hf7 hcls F
    (fun w H P1 P2 P3 P4 P5 P6 P7 a ns hl h1 h2 h3 h4 h5 h6 h7 hS => ⟨h1, h2, h3, h4, h5, h6, h7, a, ns, rfl, hS, hl, fun H' s => ⟨rfl, s _ _ h1, s _ _ h2, s _ _ h3, s _ _ h4, s _ _ h5, s _ _ h6, s _ _ h7⟩⟩)
    (fun w H P1 P2 P3 P4 P5 P6 P7 vs Q Q' E hQ ⟨h1, h2, h3, h4, h5, h6, h7, a, ns, e, hS, hl, q⟩ => ⟨h1, h2, h3, h4, h5, h6, h7, a, ns, e, hS, hl, fun H' s => hQ _ _ (q H' s)⟩)
end Pg
open PySem PySem.W PyProof.Rows
set_option maxRecDepth 100000 in
set_option maxHeartbeats 0 in
theorem PySem.Challenge.cw_onebend_k50_whole_prices_and_rows_holds : PySem.Challenge.rw_onebend_k50_whole_prices_and_rows.Holds := by
  w_on; o_law; k_head; (case hw => w_witness2)
  k_fill
  refine Pg.walk (l := PySem.Challenge.rw_onebend_k50_whole_prices_and_rows) rfl rfl (fun w h Y => PySem.W.kIn_of Y) rfl rfl rfl rfl rfl rfl rfl ?C ?F
  case C => exact fun w => by rfl
  case F =>
    intro w mg fa h KX G hmg
    refine' Pg.all_mk KX G hmg ?a1 ?l1 ?c1 ?k1 ?a2 ?l2 ?c2 ?k2 ?a3 ?l3 ?c3 ?k3 ?a4 ?l4 ?c4 ?k4 ?a5 ?l5 ?c5 ?k5 ?a6 ?l6 ?c6 ?k6 ?a7 ?l7 ?c7 ?k7 ?a8 ?l8 ?c8 ?k8 ?a9 ?l9 ?c9 ?k9 ?a10 ?l10 ?c10 ?k10 ?a11 ?l11 ?c11 ?k11 ?a12 ?l12 ?c12 ?k12 ?a13 ?l13 ?c13 ?k13 ?a14 ?l14 ?c14 ?k14 ?a15 ?l15 ?c15 ?k15 ?a16 ?l16 ?c16 ?k16 ?a17 ?l17 ?c17 ?k17 ?a18 ?l18 ?c18 ?k18 ?a19 ?l19 ?c19 ?k19 ?a20 ?l20 ?c20 ?k20 ?a21 ?l21 ?c21 ?k21 ?a22 ?l22 ?c22 ?k22 ?a23 ?l23 ?c23 ?k23 ?a24 ?l24 ?c24 ?k24 ?a25 ?l25 ?c25 ?k25 ?a26 ?l26 ?c26 ?k26 ?a27 ?l27 ?c27 ?k27 ?a28 ?l28 ?c28 ?k28 ?a29 ?l29 ?c29 ?k29 ?a30 ?l30 ?c30 ?k30 ?a31 ?l31 ?c31 ?k31 ?a32 ?l32 ?c32 ?k32 ?a33 ?l33 ?c33 ?k33 ?a34 ?l34 ?c34 ?k34 ?a35 ?l35 ?c35 ?k35 ?a36 ?l36 ?c36 ?k36 ?a37 ?l37 ?c37 ?k37 ?a38 ?l38 ?c38 ?k38 ?a39 ?l39 ?c39 ?k39 ?a40 ?l40 ?c40 ?k40 ?z1 ?z2 ?z3 ?z4 ?z5 ?z6 ?z7 ?z8 ?z9 ?z10 ?z11 ?z12 ?z13 ?z14 ?z15 ?z16 ?aM ?lM ?yM ?yGG ?yCP ?ySG ?ySS ?xa ?zm
    (case a1 => k_is); (case l1 => k_is); (case c1 => k_is); (case k1 => k_is); (case a2 => k_is); (case l2 => k_is)
    (case c2 => k_is); (case k2 => k_is); (case a3 => k_is); (case l3 => k_is); (case c3 => k_is); (case k3 => k_is)
    (case a4 => k_is); (case l4 => k_is); (case c4 => k_is); (case k4 => k_is); (case a5 => k_is); (case l5 => k_is)
    (case c5 => k_is); (case k5 => k_is); (case a6 => k_is); (case l6 => k_is); (case c6 => k_is); (case k6 => k_is)
    (case a7 => k_is); (case l7 => k_is); (case c7 => k_is); (case k7 => k_is); (case a8 => k_is); (case l8 => k_is)
    (case c8 => k_is); (case k8 => k_is); (case a9 => k_is); (case l9 => k_is); (case c9 => k_is); (case k9 => k_is)
    (case a10 => k_is); (case l10 => k_is); (case c10 => k_is); (case k10 => k_is); (case a11 => k_is); (case l11 => k_is)
    (case c11 => k_is); (case k11 => k_is); (case a12 => k_is); (case l12 => k_is); (case c12 => k_is); (case k12 => k_is)
    (case a13 => k_is); (case l13 => k_is); (case c13 => k_is); (case k13 => k_is); (case a14 => k_is); (case l14 => k_is)
    (case c14 => k_is); (case k14 => k_is); (case a15 => k_is); (case l15 => k_is); (case c15 => k_is); (case k15 => k_is)
    (case a16 => k_is); (case l16 => k_is); (case c16 => k_is); (case k16 => k_is); (case a17 => k_is); (case l17 => k_is)
    (case c17 => k_is); (case k17 => k_is); (case a18 => k_is); (case l18 => k_is); (case c18 => k_is); (case k18 => k_is)
    (case a19 => k_is); (case l19 => k_is); (case c19 => k_is); (case k19 => k_is); (case a20 => k_is); (case l20 => k_is)
    (case c20 => k_is); (case k20 => k_is); (case a21 => k_is); (case l21 => k_is); (case c21 => k_is); (case k21 => k_is)
    (case a22 => k_is); (case l22 => k_is); (case c22 => k_is); (case k22 => k_is); (case a23 => k_is); (case l23 => k_is)
    (case c23 => k_is); (case k23 => k_is); (case a24 => k_is); (case l24 => k_is); (case c24 => k_is); (case k24 => k_is)
    (case a25 => k_is); (case l25 => k_is); (case c25 => k_is); (case k25 => k_is); (case a26 => k_is); (case l26 => k_is)
    (case c26 => k_is); (case k26 => k_is); (case a27 => k_is); (case l27 => k_is); (case c27 => k_is); (case k27 => k_is)
    (case a28 => k_is); (case l28 => k_is); (case c28 => k_is); (case k28 => k_is); (case a29 => k_is); (case l29 => k_is)
    (case c29 => k_is); (case k29 => k_is); (case a30 => k_is); (case l30 => k_is); (case c30 => k_is); (case k30 => k_is)
    (case a31 => k_is); (case l31 => k_is); (case c31 => k_is); (case k31 => k_is); (case a32 => k_is); (case l32 => k_is)
    (case c32 => k_is); (case k32 => k_is); (case a33 => k_is); (case l33 => k_is); (case c33 => k_is); (case k33 => k_is)
    (case a34 => k_is); (case l34 => k_is); (case c34 => k_is); (case k34 => k_is); (case a35 => k_is); (case l35 => k_is)
    (case c35 => k_is); (case k35 => k_is); (case a36 => k_is); (case l36 => k_is); (case c36 => k_is); (case k36 => k_is)
    (case a37 => k_is); (case l37 => k_is); (case c37 => k_is); (case k37 => k_is); (case a38 => k_is); (case l38 => k_is)
    (case c38 => k_is); (case k38 => k_is); (case a39 => k_is); (case l39 => k_is); (case c39 => k_is); (case k39 => k_is)
    (case a40 => k_is); (case l40 => k_is); (case c40 => k_is); (case k40 => k_is); (case z1 => k_is); (case z2 => k_is)
    (case z3 => k_is); (case z4 => k_is); (case z5 => k_is); (case z6 => k_is); (case z7 => k_is); (case z8 => k_is)
    (case z9 => k_is); (case z10 => k_is); (case z11 => k_is); (case z12 => k_is); (case z13 => k_is); (case z14 => k_is)
    (case z15 => k_is); (case z16 => k_is); (case aM => k_is); (case lM => k_is); (case yM => rfl); (case yGG => rfl)
    (case yCP => rfl); (case ySG => rfl); (case ySS => rfl); (case xa => first | kernel_rfl | rfl); (case zm => k_is)

