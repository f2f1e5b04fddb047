import PyProof.Rows.All
import Wide.All
import OpenK.AllK
import Wide.FinOn
import Lean
import PyProof.EqAt
import PyProof.EqKinds
import PyProof.TupleCall
import PyProof.ConsumeWalk
import KE.KDictList
import KE.KDictSum
import KE.KTryMore
import PyProof.ExcAttrAll.ValueError
import KE.RegKIsAll
import KE.RegKTryMore
import KE.KSortTup
import KE.KSortKey
import PyProof.Rows.CallKwBuiltin
import KE.KSort
import PyProof.Rows.SeqMore2
import PyProof.StrLawsTight
import PyProof.StrLawsChain
import PyProof.StrLawsJoin
import KE.KIntText
import PyProof.StrWalks
import PyProof.WalkInts
import PyProof.AutoListH
import PyProof.Rows.StrStep
import PyProof.StrLawsIn
import PyProof.StrLawsNeg
import PySem.Challenge.RW_meetjoin_k14_orders_read_or_refused
set_option Elab.async false
set_option linter.all false
set_option maxRecDepth 100000
/-! THE HAND LAYER, for ints, bools, texts, own classes, LISTS and tuples (index, slices, in, append, pop ..), calls, loops. Paste it whole ahead of your own text; what your proof does not reach may be deleted. -/
namespace L2
open PySem PySem.Spec PyProof.Rows

/-- a key: an int or a str -/
abbrev Key := Sum Int Str
def keyIs : Key → Value → Bool
  | .inl k, v => Value.isInt k v
  | .inr x, v => Value.isStrOf x v
def keyH (w : World) : Key → Int
  | .inl k => hashInt k
  | .inr x => hashStr w x
theorem keyIs_shape : ∀ {k : Key} {v : Value}, keyIs k v = true → (∃ i t, k = Sum.inl i ∧ v = Value.int i t) ∨ (∃ x t, k = Sum.inr x ∧ v = Value.str x t)
  | .inl i, v, h => by
    obtain ⟨t, e⟩ := Value.isInt_shape (k := i) (v := v) h
    exact .inl ⟨i, t, rfl, e⟩
  | .inr x, v, h => by
    obtain ⟨t, e⟩ := Value.isStrOf_shape (x := x) (v := v) h
    exact .inr ⟨x, t, rfl, e⟩
theorem keyIs_int (i : Int) (t : Tok) : keyIs (.inl i) (.int i t) = true := by simp [keyIs, Value.isInt]
theorem keyIs_str (x : Str) (t : Tok) : keyIs (.inr x) (.str x t) = true := by simp [keyIs, Value.isStrOf]
theorem key_ll (a b : Int) : decide ((Sum.inl a : Key) = Sum.inl b) = (a == b) := by
  by_cases e : a = b
  · subst e; simp
  · have h : ¬ (Sum.inl a : Key) = Sum.inl b := fun q => e (Sum.inl.inj q)
    rw [decide_eq_false h]
    exact (beq_eq_false_iff_ne.mpr e).symm
theorem key_rr (a b : Str) : decide ((Sum.inr a : Key) = Sum.inr b) = decide (a = b) := by
  by_cases e : a = b
  · subst e; simp
  · have h : ¬ (Sum.inr a : Key) = Sum.inr b := fun q => e (Sum.inr.inj q)
    rw [decide_eq_false h, decide_eq_false e]
theorem key_lr (a : Int) (b : Str) : decide ((Sum.inl a : Key) = Sum.inr b) = false := decide_eq_false (fun q => nomatch q)
theorem key_rl (a : Str) (b : Int) : decide ((Sum.inr a : Key) = Sum.inl b) = false := decide_eq_false (fun q => nomatch q)

def mixKind (prog : Program) (w : World) : PySem.KeyKind prog w Key where
  is := keyIs
  hash := keyH w
  inj := fun v a b ha hb => by
    rcases keyIs_shape ha with ⟨i, t, rfl, rfl⟩ | ⟨x, t, rfl, rfl⟩
    · rcases keyIs_shape hb with ⟨j, u, rfl, e⟩ | ⟨y, u, rfl, e⟩
      · injection e with e1 _; rw [e1]
      · exact nomatch e
    · rcases keyIs_shape hb with ⟨j, u, rfl, e⟩ | ⟨y, u, rfl, e⟩
      · exact nomatch e
      · injection e with e1 _; rw [e1]
  byValue := fun k v h => by
    rcases keyIs_shape h with ⟨i, t, rfl, rfl⟩ | ⟨x, t, rfl, rfl⟩ <;> rfl
  pyHash := fun hv h => by
    rcases keyIs_shape hv with ⟨i, t, rfl, rfl⟩ | ⟨x, t, rfl, rfl⟩
    · exact wpAny_pyHash_int h
    · exact wpAny_pyHash_str h
  eqBool := fun hu hv h => by
    rcases keyIs_shape hu with ⟨i, t, rfl, rfl⟩ | ⟨x, t, rfl, rfl⟩
    · rcases keyIs_shape hv with ⟨j, u, rfl, rfl⟩ | ⟨y, u, rfl, rfl⟩
      · rw [key_ll] at h; exact wpAny_eqBool_int h
      · rw [key_lr] at h; exact SeqAt.EqAt.int_str i t y u _ _ _ _ h
    · rcases keyIs_shape hv with ⟨j, u, rfl, rfl⟩ | ⟨y, u, rfl, rfl⟩
      · rw [key_rl] at h; exact SeqAt.EqAt.str_int x t j u _ _ _ _ h
      · rw [key_rr] at h; exact wpAny_eqBool_str h
  «strs» := fun k x t v h => by
    rcases keyIs_shape h with ⟨i, u, rfl, e⟩ | ⟨y, u, rfl, e⟩
    · exact nomatch e
    · injection e with e1 _
      subst e1
      cases v <;> rfl

theorem mixKind_int (prog : Program) (w : World) (i : Int) (t : Tok) : (mixKind prog w).is (.inl i) (.int i t) = true := keyIs_int i t
theorem mixKind_str (prog : Program) (w : World) (x : Str) (t : Tok) : (mixKind prog w).is (.inr x) (.str x t) = true := keyIs_str x t
end L2

namespace L2
open PySem PySem.Spec PyProof.Rows

/-- a value, without the heap -/
inductive V where
  | non | bl (b : Bool) | int (i : Int) | str (x : Str) | byt (b : Array UInt8) | flt (b : UInt64) | ref (a : Addr) | ty (n : String)
  deriving DecidableEq

def RelV : V → Value → Prop
  | .non, u => u = Value.none
  | .bl b, u => u = Value.bool b
  | .int i, u => ∃ t, u = Value.int i t
  | .str x, u => ∃ t, u = Value.str x t
  | .byt b, u => ∃ t, u = Value.bytes b t
  | .flt b, u => ∃ t, u = Value.float b t
  | .ref a, u => u = Value.ref a
  | .ty n, u => u = Value.type n

abbrev Vals : List V → List Value → Prop := Paired RelV
theorem Vals.length {xs : List V} {us : List Value} (r : Vals xs us) : xs.length = us.length := Paired.length r
theorem Vals.get : ∀ {xs : List V} {us : List Value} {i : Nat} {x : V}, Vals xs us → xs[i]? = some x → ∃ u, us[i]? = some u ∧ RelV x u
  | _, _, _, _, .nil, e => by simp at e
  | _, _, 0, _, .cons r _, e => by simp at e; subst e; exact ⟨_, rfl, r⟩
  | _, _, i + 1, x, .cons _ t, e => by
    obtain ⟨u, h1, h2⟩ := Vals.get (i := i) (x := x) t (by simpa using e)
    exact ⟨u, by simpa using h1, h2⟩
theorem Vals.set {x : V} {u : Value} (r : RelV x u) : ∀ {xs : List V} {us : List Value} (i : Nat), Vals xs us → Vals (xs.set i x) (us.set i u)
  | _, _, _, .nil => .nil
  | _, _, 0, .cons _ t => .cons r t
  | _, _, i + 1, .cons q t => .cons q (Vals.set r i t)
theorem Vals.append : ∀ {xs ys : List V} {us ws : List Value}, Vals xs us → Vals ys ws → Vals (xs ++ ys) (us ++ ws)
  | _, _, _, _, .nil, s => s
  | _, _, _, _, .cons r t, s => .cons r (Vals.append t s)
theorem Vals.take : ∀ {xs : List V} {us : List Value} (n : Nat), Vals xs us → Vals (xs.take n) (us.take n)
  | _, _, 0, _ => .nil
  | _, _, _ + 1, .nil => .nil
  | _, _, n + 1, .cons r t => .cons r (Vals.take n t)
theorem Vals.drop : ∀ {xs : List V} {us : List Value} (n : Nat), Vals xs us → Vals (xs.drop n) (us.drop n)
  | _, _, 0, r => r
  | _, _, _ + 1, .nil => .nil
  | _, _, n + 1, .cons _ t => Vals.drop n t
theorem Vals.none_of : ∀ {xs : List V} {us : List Value} {i : Nat}, Vals xs us → xs[i]? = none → us[i]? = none := fun {xs us i} r e => by
  have h1 := r.length
  have h2 : xs.length ≤ i := List.getElem?_eq_none_iff.mp e
  exact List.getElem?_eq_none_iff.mpr (by omega)

def RelO : Option V → Option Value → Prop
  | some v, some u => RelV v u
  | none, none => True
  | _, _ => False
def KV {κ : Type} : List (κ × V) → List (κ × Value) → Prop := Paired fun (p : κ × V) (q : κ × Value) => p.1 = q.1 ∧ RelV p.2 q.2

/-- a key of a dict (00_mix): an int or a text -/
def kV : Key → V
  | .inl i => .int i
  | .inr x => .str x

/-- what stands at a tracked address -/
inductive HO where
  /-- a list -/
  | lst (xs : List V)
  /-- a tuple (never changes) -/
  | tup (xs : List V)
  /-- a dict whose keys are ints and texts; one whose keys are tuples of ints and texts (the empty one is both) -/
  | dK (kvs : List (Key × V)) | dT (kvs : List (List Key × V))
  /-- a set of ints: its members, its size -/
  | set (S : Int → Bool) (n : Nat)
  /-- an instance of the class at C, its dict at dx, its attributes -/
  | ins (C dx : Addr) (fs : List (Str × V))
  /-- the dict of the instance at x -/
  | own (x : Addr)
  /-- the dict of an exception -/
  | xd (fs : List (Str × V))
  /-- a bound method, f of x -/
  | met (f x : Addr)
  /-- a range object lo, lo + 1, .. below hi -/
  | rng (lo hi : Int)
  /-- a thing that is known to the object (the script; a dict while a loop walks it): read, never written while it is so -/
  | frz (o : Obj) (u : HO)
  /-- a code object's table -/
  | tbl (ps : Array Value)
  /-- any other thing, by what is true of its one object (a def of one's own: SetO a S n := HO.ext fun h => ..) -/
  | ext (φ : Heap → Prop)

abbrev Hp := Addr → Option HO
def upd (H : Hp) (a : Addr) (o : HO) : Hp := fun b => if b = a then some o else H b
theorem upd_same {H : Hp} {a : Addr} {o : HO} : upd H a o a = some o := by unfold upd; rw [if_pos rfl]
theorem upd_ne {H : Hp} {a b : Addr} {o : HO} (h : b ≠ a) : upd H a o b = H b := by unfold upd; rw [if_neg h]
theorem upd_upd {H : Hp} {a : Addr} {o u : HO} : upd (upd H a o) a u = upd H a u := by
  funext b; unfold upd; split <;> rfl
/-- two objects of different content stand apart -/
theorem ne_of {H : Hp} {a b : Addr} {o u : HO} (h : H a = some o) (h' : H b = some u) (d : o ≠ u) : a ≠ b := by
  intro e; subst e; rw [h] at h'; exact d (Option.some.inj h')
theorem ne_of_none {H : Hp} {a b : Addr} {o : HO} (h : H a = some o) (h' : H b = none) : a ≠ b := by
  intro e; subst e; rw [h] at h'; cases h'

section
variable (P : Program) (w : World)
def ObjOk (H : Hp) (h : Heap) (a : Addr) : HO → Prop
  | .lst xs => xs.length ≤ sizeLine ∧ ∃ (its : List Value) (n : Nat), Vals xs its ∧ h.get? a = some { cls := .type "list", data := .seq its.toArray n }
  | .tup xs => xs.length ≤ sizeLine ∧ ∃ its : List Value, Vals xs its ∧ IsTup h a its.toArray
  | .dK kvs => kvs.length ≤ sizeLine ∧ (a == sysModules) = false ∧ ∃ vs, KV kvs vs ∧ h.DictOf (mixKind P w) a vs
  | .dT kvs => kvs.length ≤ sizeLine ∧ (a == sysModules) = false ∧ ∃ xs : List (List Key × Addr × Value),
      Paired (fun (p : List Key × V) (q : List Key × Addr × Value) => p.1 = q.1 ∧ H q.2.1 = some (.tup (p.1.map kV)) ∧ RelV p.2 q.2.2) kvs xs ∧
      ∃ o es ep, h.get? a = some o ∧ o.ExactDict ∧ o.data = .dict es ep ∧ es.toList = xs.map (entryOfKey (tupleKind (mixKind P w))) ∧ (xs.map (·.1)).Nodup
  | .set S n => h.SetOf (intKind P w) a S n
  | .ins C dx fs => H dx = some (.own a) ∧ fs.length ≤ 1000 ∧ dx ≠ a ∧ h.get? a = some (PySem.W.instObj C dx) ∧
      ∃ mA, h.Ns1 dx mA ∧ (∀ f, RelO (fs.lookup f) (mA f)) ∧ PySem.Within mA (fs.map (·.1))
  | .own _ => ∃ o, h.get? a = some o
  | .xd fs => ∃ mA, h.Ns1 a mA ∧ ∀ f, RelO (fs.lookup f) (mA f)
  | .rng lo hi => ∃ t u v, h.get? a = some { cls := .type "range", data := .fields #[.int lo t, .int hi u, .int 1 v] }
  | .frz o u => h.get? a = some o ∧ ObjOk H h a u
  | .tbl ps => h.get? a = some { cls := .none, data := .fields ps }
  | .met f x => h.get? a = some (PySem.W.methodObj (.ref f) (.ref x))
  | .ext φ => φ h ∧ (∃ o, h.get? a = some o) ∧ ∀ h1 h2 : Heap, φ h1 → (∀ o, h1.get? a = some o → h2.get? a = some o) → φ h2
/-- the abstract heap is held -/
def HOk (H : Hp) (h : Heap) : Prop := ∀ a o, H a = some o → ObjOk P w H h a o
end

section
variable {P : Program} {w : World} {H H' : Hp} {h h' : Heap} {a : Addr} {o : HO}
theorem ObjOk.lt (x : ObjOk P w H h a o) : a < h.objs.size := by
  cases o with
  | lst xs => obtain ⟨_, _, _, _, e⟩ := x; exact Heap.lt_size e
  | tup xs => obtain ⟨_, _, _, p⟩ := x; exact p.lt
  | dK kvs => obtain ⟨_, _, _, _, o, _, _, e, _⟩ := x; exact Heap.lt_size e
  | dT kvs => obtain ⟨_, _, _, _, o, _, _, e, _⟩ := x; exact Heap.lt_size e
  | set S n => obtain ⟨o, _, _, _, e, _⟩ := x; exact Heap.lt_size e
  | ins C dx fs => obtain ⟨_, _, _, e, _⟩ := x; exact Heap.lt_size e
  | own y => obtain ⟨_, e⟩ := x; exact Heap.lt_size e
  | xd fs => obtain ⟨_, ⟨_, _, _, e, _⟩, _⟩ := x; exact Heap.lt_size e
  | rng lo hi => obtain ⟨_, _, _, e⟩ := x; exact Heap.lt_size e
  | frz ob u => obtain ⟨e, _⟩ := x; exact Heap.lt_size e
  | tbl ps => exact Heap.lt_size (show h.get? a = some _ from x)
  | met f y => exact Heap.lt_size (show h.get? a = some _ from x)
  | ext φ => obtain ⟨_, ⟨_, e⟩, _⟩ := x; exact Heap.lt_size e
theorem Paired.mapP {α β : Type} {F G : α → β → Prop} : ∀ {l₁ : List α} {l₂ : List β}, Paired F l₁ l₂ → (∀ a b, F a b → G a b) → Paired G l₁ l₂
  | _, _, .nil, _ => .nil
  | _, _, .cons r t, f => .cons (f _ _ r) (Paired.mapP t f)
/-- what an object's description leans on: its own object, its own dict, the tuples -/
theorem ObjOk.stay (x : ObjOk P w H h a o) (k : ∀ b u, (b = a ∨ H b = some (.own a)) → h.get? b = some u → h'.get? b = some u)
    (ho : ∀ b, H b = some (.own a) → H' b = some (.own a)) (ht : ∀ b xs, H b = some (.tup xs) → H' b = some (.tup xs)) : ObjOk P w H' h' a o := by
  induction o with
  | lst xs => obtain ⟨z, its, n, r, e⟩ := x; exact ⟨z, its, n, r, k _ _ (.inl rfl) e⟩
  | tup xs => obtain ⟨z, its, r, ob, e, c⟩ := x; exact ⟨z, its, r, ob, k _ _ (.inl rfl) e, c⟩
  | dK kvs => obtain ⟨z, y, vs, r, ob, es, ep, e, c⟩ := x; exact ⟨z, y, vs, r, ob, es, ep, k _ _ (.inl rfl) e, c⟩
  | dT kvs =>
    obtain ⟨z, y, xs, r, ob, es, ep, e, c⟩ := x
    exact ⟨z, y, xs, Paired.mapP r fun p q z => ⟨z.1, ht _ _ z.2.1, z.2.2⟩, ob, es, ep, k _ _ (.inl rfl) e, c⟩
  | set S n => obtain ⟨ob, es, ep, t, e, c⟩ := x; exact ⟨ob, es, ep, t, k _ _ (.inl rfl) e, c⟩
  | ins C dx fs =>
    obtain ⟨d, z, ne, e, mA, ⟨od, es, ep, e2, c⟩, r⟩ := x
    exact ⟨ho _ d, z, ne, k _ _ (.inl rfl) e, mA, ⟨od, es, ep, k _ _ (.inr d) e2, c⟩, r⟩
  | own y => obtain ⟨ob, e⟩ := x; exact ⟨ob, k _ _ (.inl rfl) e⟩
  | xd fs => obtain ⟨mA, ⟨od, es, ep, e, c⟩, r⟩ := x; exact ⟨mA, ⟨od, es, ep, k _ _ (.inl rfl) e, c⟩, r⟩
  | rng lo hi => obtain ⟨t, u, v, e⟩ := x; exact ⟨t, u, v, k _ _ (.inl rfl) e⟩
  | frz ob u ih => obtain ⟨e, q⟩ := x; exact ⟨k _ _ (.inl rfl) e, ih q⟩
  | tbl ps =>
    have e : h.get? a = some { cls := .none, data := .fields ps } := x
    show h'.get? a = some { cls := .none, data := .fields ps }
    exact k a _ (.inl rfl) e
  | met f y =>
    have e : h.get? a = some (PySem.W.methodObj (.ref f) (.ref y)) := x
    show h'.get? a = some (PySem.W.methodObj (.ref f) (.ref y))
    exact k a _ (.inl rfl) e
  | ext φ => obtain ⟨p, ⟨o, e⟩, st⟩ := x; exact ⟨st _ _ p fun o q => k _ _ (.inl rfl) q, ⟨o, k _ _ (.inl rfl) e⟩, st⟩
theorem HOk.lt (x : HOk P w H h) (e : H a = some o) : a < h.objs.size := (x a o e).lt
theorem HOk.fresh (x : HOk P w H h) (e : h.objs.size ≤ a) : H a = none := by
  cases q : H a with
  | none => rfl
  | some u => exact absurd (Nat.lt_of_lt_of_le (x.lt q) e) (Nat.lt_irrefl _)
/-- every object of the heap is kept -/
theorem HOk.kept (x : HOk P w H h) (k : ∀ b u, h.get? b = some u → h'.get? b = some u) : HOk P w H h' := fun a o e =>
  (x a o e).stay (fun b u _ q => k b u q) (fun _ q => q) fun _ _ q => q
/-- a new object is laid and tracked -/
theorem HOk.laid (x : HOk P w H h) (k : ∀ b u, h.get? b = some u → h'.get? b = some u) (hp : h.objs.size ≤ a) (new : ObjOk P w (upd H a o) h' a o) : HOk P w (upd H a o) h' := fun b u e => by
  have hn := x.fresh hp
  by_cases hb : b = a
  · subst hb; rw [upd_same] at e; cases e; exact new
  · rw [upd_ne hb] at e
    exact (x b u e).stay (fun c v _ q => k c v q) (fun c q => by rw [upd_ne (ne_of_none q hn)]; exact q) fun c xs q => by rw [upd_ne (ne_of_none q hn)]; exact q
end

/-- what may be read as u: it is u, or a known u -/
def Rd (H : Hp) (a : Addr) (u : HO) : Prop := H a = some u ∨ ∃ o, H a = some (.frz o u)
theorem Rd.ok {P : Program} {w : World} {H : Hp} {h : Heap} {a : Addr} {u : HO} (r : Rd H a u) (x : HOk P w H h) : ObjOk P w H h a u := by
  rcases r with r | ⟨o, r⟩
  · exact x a u r
  · obtain ⟨_, q⟩ := x a _ r
    exact q
/-- what may be written -/
def Mut : Option HO → Prop
  | some (.lst _) => True
  | some (.dK _) => True
  | some (.dT _) => True
  | some (.set _ _) => True
  | some (.ins _ _ _) => True
  | some (.ext _) => True
  | _ => False
section
variable {P : Program} {w : World} {H : Hp} {h h' : Heap} {x e : Addr} {o' : HO}
/-- the object at e is changed: x itself, or the dict of the instance x -/
theorem HOk.write (ok : HOk P w H h) (mu : Mut (H x)) (he : e = x ∨ H e = some (.own x)) (k : ∀ b u, b ≠ e → h.get? b = some u → h'.get? b = some u) (heo : ∃ u, h'.get? e = some u)
    (new : ObjOk P w (upd H x o') h' x o') : HOk P w (upd H x o') h' := fun b u q => by
  have nown : ∀ c y, H c = some (.own y) → c ≠ x := fun c y r z => by subst z; rw [r] at mu; exact mu
  have ntup : ∀ c xs, H c = some (.tup xs) → c ≠ x := fun c xs r z => by subst z; rw [r] at mu; exact mu
  by_cases hb : b = x
  · subst hb; rw [upd_same] at q; cases q; exact new
  · rw [upd_ne hb] at q
    by_cases hbe : b = e
    · have q' : H b = some (.own x) := by
        rcases he with z | z
        · exact absurd (hbe.trans z) hb
        · rw [hbe]; exact z
      rw [q] at q'; cases q'
      obtain ⟨v, hv⟩ := heo
      exact ⟨v, by rw [hbe]; exact hv⟩
    · refine (ok b u q).stay (fun c v hc r => k c v ?_ r) (fun c r => by rw [upd_ne (nown c b r)]; exact r) fun c xs r => by rw [upd_ne (ntup c xs r)]; exact r
      rcases hc with rfl | hc
      · exact hbe
      · rintro rfl
        rcases he with z | z
        · exact nown c b hc z
        · rw [hc] at z; cases z; exact hb rfl
end

/-! ### kept unless tracked; of the frames at fs (the callers') the slots may change (an exception that passes writes there); of the records at ex (iterators) nothing is said -/
structure Un (fs ex : List Addr) (H H' : Hp) (h h' : Heap) : Prop where
  keep : ∀ b o, h.get? b = some o → H b = none → b ∉ fs → b ∉ ex → h'.get? b = some o
  slot : ∀ b o, h.get? b = some o → H b = none → b ∈ fs → b ∉ ex → ∃ sl, h'.get? b = some { o with slots := sl }
  free : ∀ b o, h.get? b = some o → H b = none → b ∉ ex → H' b = none
  there : ∀ b o, h.get? b = some o → b ∉ ex → ∃ o', h'.get? b = some o'
  tups : ∀ b xs, H b = some (.tup xs) → H' b = some (.tup xs)
  frzs : ∀ b o u, H b = some (.frz o u) → H' b = some (.frz o u)
  tbls : ∀ b ps, H b = some (.tbl ps) → ∃ more, H' b = some (.tbl (ps ++ more))
section
variable {fs fs' ex ex' : List Addr} {H H1 H2 : Hp} {h h1 h2 h' : Heap} {a x e : Addr} {o : HO}
theorem Un.any (u : Un fs ex H H1 h h1) {b : Addr} {ob : Obj} (q : h.get? b = some ob) (n : H b = none) (hx : b ∉ ex) : ∃ sl, h1.get? b = some { ob with slots := sl } := by
  by_cases hb : b ∈ fs
  · exact u.slot b ob q n hb hx
  · exact ⟨ob.slots, u.keep b ob q n hb hx⟩
theorem Un.kept (k : ∀ b u, h.get? b = some u → h'.get? b = some u) : Un fs ex H H h h' :=
  ⟨fun b ob q _ _ _ => k b ob q, fun b ob q _ _ _ => ⟨ob.slots, k b ob q⟩, fun _ _ _ n _ => n, fun b ob q _ => ⟨ob, k b ob q⟩, fun _ _ q => q, fun _ _ _ q => q, fun _ ps q => ⟨#[], by rw [q]; simp⟩⟩
theorem Un.refl : Un fs ex H H h h := Un.kept fun _ _ q => q
theorem Un.laid (k : ∀ b u, h.get? b = some u → h'.get? b = some u) (hp : h.objs.size ≤ a) (hn : H a = none) : Un fs ex H (upd H a o) h h' where
  keep := fun b u q _ _ _ => k b u q
  slot := fun b u q _ _ _ => ⟨u.slots, k b u q⟩
  free := fun b u q n _ => by rw [upd_ne (Nat.ne_of_lt (Nat.lt_of_lt_of_le (Heap.lt_size q) hp))]; exact n
  there := fun b u q _ => ⟨u, k b u q⟩
  tups := fun b xs q => by rw [upd_ne (ne_of_none q hn)]; exact q
  frzs := fun b u xs q => by rw [upd_ne (ne_of_none q hn)]; exact q
  tbls := fun b ps q => ⟨#[], by rw [upd_ne (ne_of_none q hn), q]; simp⟩
theorem Un.write (mu : Mut (H x)) (he : e = x ∨ H e = some (.own x)) (k : ∀ b u, b ≠ e → h.get? b = some u → h'.get? b = some u) (heo : ∃ u, h'.get? e = some u) : Un fs ex H (upd H x o) h h' := by
  have hx : ∀ b, H b = none → b ≠ x := fun b n z => by subst z; rw [n] at mu; exact mu
  have hb : ∀ b, H b = none → b ≠ e := fun b n z => by
    subst z
    rcases he with r | r
    · exact hx b n r
    · rw [n] at r; cases r
  have hm : ∀ b u, H b = some u → ¬ Mut (some u) → b ≠ x := fun b u q nm z => by subst z; rw [q] at mu; exact nm mu
  refine ⟨fun b u q n _ _ => k b u (hb b n) q, fun b u q n _ _ => ⟨u.slots, k b u (hb b n) q⟩, fun b u q n _ => by rw [upd_ne (hx b n)]; exact n, fun b u q _ => ?_,
    fun b xs q => by rw [upd_ne (hm b _ q fun z => z)]; exact q, fun b u xs q => by rw [upd_ne (hm b _ q fun z => z)]; exact q, fun b ps q => ⟨#[], by rw [upd_ne (hm b _ q fun z => z), q]; simp⟩⟩
  by_cases hbe : b = e
  · subst hbe; exact heo
  · exact ⟨u, k b u hbe q⟩
end

/-! ### the heap without what is tracked -/
def trk (h : Heap) (H : Hp) : List Addr := (List.range h.objs.size).filter fun a => (H a).isSome
def hidT (h : Heap) (H : Hp) : Heap := PySem.W.hideAll h (trk h H)
theorem hidT_size (h : Heap) (H : Hp) : (hidT h H).objs.size = h.objs.size := PySem.W.hideAll_size _ _
theorem hidT_get {h : Heap} {H : Hp} {b : Addr} {o : Obj} (e : h.get? b = some o) (n : H b = none) : (hidT h H).get? b = some o :=
  PySem.W.hideAll_get _ e fun hm => by
    have q : (H b).isSome = true := (List.mem_filter.mp hm).2
    rw [n] at q; simp at q
theorem of_hidT {h : Heap} {H : Hp} {b : Addr} {o : Obj} (e : (hidT h H).get? b = some o) : h.get? b = some o ∧ H b = none := by
  have e' : h.get? b = some o := PySem.W.of_hideAll (trk h H) e
  refine ⟨e', ?_⟩
  cases q : H b with
  | none => rfl
  | some x =>
    have hm : b ∈ trk h H := List.mem_filter.mpr ⟨List.mem_range.mpr (Heap.lt_size e'), by simp [q]⟩
    have z : (hidT h H).get? b = none := PySem.W.hideAll_none (trk h H) hm
    rw [z] at e; cases e

/-! ### OpenK's ledger, filled with every new object but one -/
def allNews (g h : Heap) (L : Addr) : List (Addr × Obj) := (List.range h.objs.size).filterMap fun a => if a = L ∨ (g.get? a).isSome = true then none else (h.get? a).map fun o => (a, o)
def rest (g h : Heap) (L d : Addr) : List (Addr × Obj) := (allNews g h L).filter fun p => decide (p.1 ≠ d)
end L2

namespace L2
open PySem PySem.Spec PyProof.Rows

/-- the module's facts, over the base: the heap at the law's entry without what is tracked there -/
structure Mod (K : PySem.W.Frag) (mg : Str → Option Value) (base : Heap) : Prop where
  kin : K.In base
  glob : base.Ns mainGlobals mg
  blt : ∃ mb, base.Ns builtinsNs mb ∧ ∀ x : Str, x ≠ "__name__" → mb x = bootBuiltins x
  nolimit : base.NoLimit

/-- the context: a def's body (or a comprehension's block) running. base: fixed through the whole law; s₀, H₀: the entry; outer: the frames whose slots others may change (a def's callers); stack: all frames that run;
   ex: iterators that were made ahead of the entry and are walked here (a comprehension's); fn: the names whose cells were made at the entry (a def: all; a comprehension's block: its own); calm: not within an except suite; pn: pins that every state bears; xe: what is wanted of an exception that leaves the code -/
structure Cx where
  prog : Program
  w : World
  K : PySem.W.Frag
  mg : Str → Option Value
  base : Heap
  A : Around
  N : List Str
  s₀ : Shared
  H₀ : Hp
  env : Env
  outer : List Env
  stack : List Env
  ex : List Addr
  fn : Str → Bool
  calm : Bool
  pn : List (Addr × Obj)
  xe : Value → Shared → Prop
/-- the callers' frames -/
def frs (l : List Env) : List Addr := l.filterMap (·.frame)
abbrev Cx.fs (X : Cx) : List Addr := frs X.outer

def Vis (sc : Scope) (x : Str) : Prop := sc.names.lookup x = some .local ∨ sc.names.lookup x = some .cell ∨ sc.names.lookup x = some .free
def Loc (sc : Scope) (x : Str) : Prop := sc.names.lookup x = some .local ∨ sc.names.lookup x = some .cell
def Look (env : Env) (h : Heap) (m : Str → Option Value) (x : Str) (u : Value) : Prop :=
  (env.kindOf x = some .local ∧ m x = some u) ∨ ((env.kindOf x = some .cell ∨ env.kindOf x = some .free) ∧ ∃ c, env.cells.lookup x = some c ∧ h.IsCell c (some u))

structure Cx.Ok (X : Cx) : Prop where
  mod : Mod X.K X.mg X.base
  kind : X.env.scope.kind = .function
  glob : X.env.globals = mainGlobals
  blt : X.env.builtins = builtinsNs
  above : X.s₀.heap.objs.size ≤ X.env.locals
  inj : ∀ x y c, X.env.cells.lookup x = some c → X.env.cells.lookup y = some c → x = y
  has : ∀ x, (X.env.kindOf x = some .cell ∨ X.env.kindOf x = some .free) → ∃ c, X.env.cells.lookup x = some c
  cab : ∀ x c, X.fn x = true → X.env.cells.lookup x = some c → X.s₀.heap.objs.size ≤ c
  hd : X.calm = true → X.A.handled = none
  frames : X.A.frames = some X.stack
  stk : X.stack = X.outer ∨ (X.stack = X.env :: X.outer ∧ X.env.frame = some X.env.locals)
  exf : ∀ b ∈ X.ex, b ≠ X.env.locals ∧ ∀ x c, X.env.cells.lookup x = some c → c ≠ b
  bs : ∀ b o, X.base.get? b = some o → X.s₀.heap.get? b = some o ∧ X.H₀ b = none
  bsz : X.base.objs.size ≤ X.s₀.heap.objs.size
  noex : ∀ b o, X.base.get? b = some o → b ∉ X.ex
  exfs : ∀ b ∈ X.ex, b ∉ X.fs
  funs : X.s₀.heap.FunFrames X.base X.outer
  frf : ∀ b ∈ X.fs, X.H₀ b = none

structure Inv (X : Cx) (pins : List (Addr × Obj)) (σ : List (Option V)) (H : Hp) (s : Shared) : Prop where
  ok : X.Ok
  os : s.os = X.s₀.os
  bare : AllBare s.gens
  base : Un X.fs X.ex X.H₀ H X.s₀.heap s.heap
  loc : ∃ m, s.heap.Ns X.env.locals m ∧ ∀ (i : Nat) (x : Str) (v : V), X.N[i]? = some x → σ[i]? = some (some v) → Vis X.env.scope x → ∃ u, RelV v u ∧ Look X.env s.heap m x u
  cell : ∀ x c, X.env.cells.lookup x = some c → ∃ v, s.heap.IsCell c v
  free : H X.env.locals = none
  freeC : ∀ x c, X.env.cells.lookup x = some c → H c = none
  pin : ∀ p ∈ X.pn ++ pins, s.heap.get? p.1 = some p.2 ∧ H p.1 = none ∧ p.1 ≠ X.env.locals ∧ p.1 ∉ X.fs ∧ ∀ v, p.2.data ≠ .cell v
  hok : HOk X.prog X.w H s.heap
  len : σ.length = X.N.length

section
variable {X : Cx} {pins : List (Addr × Obj)} {σ : List (Option V)} {H H' : Hp} {s : Shared} {h' : Heap}

theorem Cx.Ok.nofr (ok : X.Ok) {b : Addr} {o : Obj} (e : X.base.get? b = some o) : b ∉ X.fs := fun hb => by
  have := (ok.funs.mem hb).1
  rw [e] at this; cases this
theorem Inv.bs (I : Inv X pins σ H s) : ∀ b o, X.base.get? b = some o → s.heap.get? b = some o ∧ H b = none := fun b o e =>
  ⟨I.base.keep b o (I.ok.bs b o e).1 (I.ok.bs b o e).2 (I.ok.nofr e) (I.ok.noex b o e), I.base.free b o (I.ok.bs b o e).1 (I.ok.bs b o e).2 (I.ok.noex b o e)⟩
theorem Inv.bk (I : Inv X pins σ H s) : ∀ b o, X.base.get? b = some o → s.heap.get? b = some o := fun b o e => (I.bs b o e).1
theorem Inv.mod (I : Inv X pins σ H s) : Mod X.K X.mg X.base := I.ok.mod
theorem Inv.kIn (I : Inv X pins σ H s) : X.K.In s.heap := I.ok.mod.kin.keeps I.bk
theorem Inv.lt (I : Inv X pins σ H s) : X.env.locals < s.heap.objs.size := let ⟨_, hn, _⟩ := I.loc; hn.lt
theorem Inv.sz (I : Inv X pins σ H s) : X.s₀.heap.objs.size ≤ s.heap.objs.size := Nat.le_trans I.ok.above (Nat.le_of_lt I.lt)
theorem Inv.nofs (I : Inv X pins σ H s) {a : Addr} (h : s.heap.objs.size ≤ a) : a ∉ X.fs := fun hb => by
  obtain ⟨_, o, ho, _⟩ := I.ok.funs.mem hb
  exact absurd (Nat.lt_of_lt_of_le (Heap.lt_size ho) (Nat.le_trans I.sz h)) (Nat.lt_irrefl _)
theorem Inv.cne (I : Inv X pins σ H s) : ∀ x c, X.env.cells.lookup x = some c → c ≠ X.env.locals := fun x c e z => by
  obtain ⟨v, o, ho, hd⟩ := I.cell x c e
  obtain ⟨m, ⟨o', es, ep, ho', hd', _⟩, _⟩ := I.loc
  rw [z, ho'] at ho; cases ho; rw [hd'] at hd; cases hd
theorem Inv.funs (I : Inv X pins σ H s) : s.heap.FunFrames X.base X.outer := by
  have all : ∀ (l : List Env), (∀ b ∈ frs l, b ∈ X.fs) → X.s₀.heap.FunFrames X.base l → s.heap.FunFrames X.base l := by
    intro l
    induction l with
    | nil => intro _ _; trivial
    | cons env r ih =>
      intro hs hl
      obtain ⟨hk, ⟨L, o, hf, hn, ho, hd⟩, hr⟩ := hl
      have hL : L ∈ X.fs := hs L (by unfold frs; rw [List.filterMap_cons, hf]; exact List.mem_cons_self)
      obtain ⟨sl, e⟩ := I.base.slot L o ho (I.ok.frf L hL) hL fun z => I.ok.exfs L z hL
      exact ⟨hk, ⟨L, _, hf, hn, e, hd⟩, ih (fun b hb => hs b (by unfold frs; rw [List.filterMap_cons, hf]; exact List.mem_cons_of_mem _ hb)) hr⟩
  exact all X.outer (fun _ hb => hb) I.ok.funs

/-- the frames that run, for a call -/
theorem Inv.stack (I : Inv X pins σ H s) : s.heap.FunFrames X.base X.stack := by
  rcases I.ok.stk with e | ⟨e, hf⟩
  · rw [e]; exact I.funs
  · rw [e]
    obtain ⟨m, hn, _⟩ := I.loc
    refine .cons (by rw [I.ok.kind]; decide) hf hn ?_ I.funs
    exact Heap.get?_none_of_le (Nat.le_trans I.ok.bsz I.ok.above)
theorem Inv.stkSub (I : Inv X pins σ H s) : ∀ b ∈ frs X.stack, b ∈ X.env.locals :: X.fs := fun b hb => by
  rcases I.ok.stk with e | ⟨e, hf⟩
  · rw [e] at hb; exact List.mem_cons_of_mem _ hb
  · rw [e] at hb
    unfold frs at hb
    rw [List.filterMap_cons, hf] at hb
    exact hb
theorem Inv.stkFree (I : Inv X pins σ H s) : ∀ b ∈ frs X.stack, H b = none := fun b hb => by
  rcases List.mem_cons.mp (I.stkSub b hb) with e | hb
  · rw [e]; exact I.free
  · obtain ⟨_, o, ho, _⟩ := I.ok.funs.mem hb
    exact I.base.free b o ho (I.ok.frf b hb) fun z => I.ok.exfs b z hb

/-- THE STEP: the untracked objects but the frame and the records at ch are kept (the callers' frames up to slots), the frame's map is kept, the new abstract heap is held -/
theorem Inv.step {g' : Array GenState} {t' : Nat} {d' : Drawn} {ch : List Addr} (I : Inv X pins σ H s)
    (hch : ∀ b ∈ ch, (b ∈ X.ex ∨ X.s₀.heap.objs.size ≤ b) ∧ b ≠ X.env.locals ∧ (∀ x c, X.env.cells.lookup x = some c → c ≠ b) ∧ ∀ p ∈ X.pn ++ pins, p.1 ≠ b)
    (keep : ∀ b o, b ≠ X.env.locals → b ∉ X.fs → b ∉ ch → s.heap.get? b = some o → H b = none → h'.get? b = some o)
    (slot : ∀ b o, b ≠ X.env.locals → b ∈ X.fs → b ∉ ch → s.heap.get? b = some o → H b = none → ∃ sl, h'.get? b = some { o with slots := sl }) (free : ∀ b o, b ∉ ch → s.heap.get? b = some o → H b = none → H' b = none)
    (there : ∀ b o, b ∉ ch → s.heap.get? b = some o → ∃ o', h'.get? b = some o')
    (tups : ∀ b xs, H b = some (.tup xs) → H' b = some (.tup xs)) (frzs : ∀ b o u, H b = some (.frz o u) → H' b = some (.frz o u)) (tbls : ∀ b ps, H b = some (.tbl ps) → ∃ more, H' b = some (.tbl (ps ++ more)))
    (ns : ∀ m, s.heap.Ns X.env.locals m → h'.Ns X.env.locals m) (hok : HOk X.prog X.w H' h') (hg : AllBare g') :
    Inv X pins σ H' { s with heap := h', gens := g', drawn := d', toks := t' } := by
  have neL : ∀ b o, X.s₀.heap.get? b = some o → b ≠ X.env.locals := fun b o e => Nat.ne_of_lt (Nat.lt_of_lt_of_le (Heap.lt_size e) I.ok.above)
  have neC : ∀ b o, X.s₀.heap.get? b = some o → b ∉ X.ex → b ∉ ch := fun b o e hx hb => by
    rcases (hch b hb).1 with z | z
    · exact hx z
    · exact absurd (Nat.lt_of_lt_of_le (Heap.lt_size e) z) (Nat.lt_irrefl _)
  have cellK : ∀ x c, X.env.cells.lookup x = some c → ∀ v, s.heap.IsCell c v → h'.IsCell c v := fun x c e v ⟨o, ho, hd⟩ => by
    have nch : c ∉ ch := fun z => (hch c z).2.2.1 x c e rfl
    by_cases hc : c ∈ X.fs
    · obtain ⟨sl, q⟩ := slot c o (I.cne x c e) hc nch ho (I.freeC x c e)
      exact ⟨_, q, hd⟩
    · exact ⟨o, keep c o (I.cne x c e) hc nch ho (I.freeC x c e), hd⟩
  refine ⟨I.ok, I.os, hg, ⟨fun b o e n hb hx => ?_, fun b o e n hb hx => ?_, fun b o e n hx => ?_, fun b o e hx => ?_, fun b xs e => tups b xs (I.base.tups b xs e), fun b o xs e => frzs b o xs (I.base.frzs b o xs e), fun b ps e => ?_⟩, ?_, fun x c e => ?_, ?_, fun x c e => ?_, fun p hp => ?_, hok, I.len⟩
  · exact keep b o (neL b o e) hb (neC b o e hx) (I.base.keep b o e n hb hx) (I.base.free b o e n hx)
  · obtain ⟨sl, e1⟩ := I.base.slot b o e n hb hx
    obtain ⟨sl', e2⟩ := slot b _ (neL b o e) hb (neC b o e hx) e1 (I.base.free b o e n hx)
    exact ⟨sl', e2⟩
  · obtain ⟨o', e1⟩ := I.base.there b o e hx
    exact free b o' (neC b o e hx) e1 (I.base.free b o e n hx)
  · obtain ⟨o', e1⟩ := I.base.there b o e hx
    exact there b o' (neC b o e hx) e1
  · obtain ⟨m1, e1⟩ := I.base.tbls b ps e
    obtain ⟨m2, e2⟩ := tbls b _ e1
    exact ⟨m1 ++ m2, by rw [e2, Array.append_assoc]⟩
  · obtain ⟨m, hn, hl⟩ := I.loc
    refine ⟨m, ns m hn, fun i x v e1 e2 e3 => ?_⟩
    obtain ⟨u, r, l⟩ := hl i x v e1 e2 e3
    refine ⟨u, r, ?_⟩
    rcases l with l | ⟨k, c, e, z⟩
    · exact .inl l
    · exact .inr ⟨k, c, e, cellK x c e _ z⟩
  · obtain ⟨v, z⟩ := I.cell x c e
    exact ⟨v, cellK x c e v z⟩
  · obtain ⟨m, ⟨o, _, _, ho, _⟩, _⟩ := I.loc
    exact free _ o (fun z => (hch _ z).2.1 rfl) ho I.free
  · obtain ⟨v, o, ho, hd⟩ := I.cell x c e
    exact free c o (fun z => (hch c z).2.2.1 x c e rfl) ho (I.freeC x c e)
  · obtain ⟨e, n, ne, nf, d⟩ := I.pin p hp
    have nch : p.1 ∉ ch := fun z => (hch p.1 z).2.2.2 p hp rfl
    exact ⟨keep p.1 p.2 ne nf nch e n, free p.1 p.2 nch e n, ne, nf, d⟩
/-- .. where the frame's own object is kept too -/
theorem Inv.un {t' : Nat} (I : Inv X pins σ H s) (u : Un X.fs [] H H' s.heap h') (hok : HOk X.prog X.w H' h') : Inv X pins σ H' { s with heap := h', toks := t' } := by
  obtain ⟨m, ⟨o, es, ep, ho, r⟩, _⟩ := id I.loc
  obtain ⟨sl, hL⟩ := u.any ho I.free (by simp)
  exact I.step (g' := s.gens) (d' := s.drawn) (ch := []) (fun _ z => nomatch z) (fun b o _ hb _ e n => u.keep b o e n hb (by simp)) (fun b o _ hb _ e n => u.slot b o e n hb (by simp)) (fun b o _ e n => u.free b o e n (by simp)) (fun b o _ e => u.there b o e (by simp)) u.tups u.frzs u.tbls (fun m' hm => by
    obtain ⟨o', es', ep', ho', r'⟩ := hm
    rw [ho] at ho'; cases ho'
    exact ⟨_, es', ep', hL, r'⟩) hok I.bare
/-- behind a call (or a comprehension's block): the slots of this frame may have changed too, the records at ch may have turned -/
theorem Inv.call {g' : Array GenState} {t' : Nat} {d' : Drawn} {ch : List Addr} (I : Inv X pins σ H s) (u : Un (frs X.stack) ch H H' s.heap h') (hok : HOk X.prog X.w H' h') (hg : AllBare g')
    (hch : ∀ b ∈ ch, (b ∈ X.ex ∨ X.s₀.heap.objs.size ≤ b) ∧ b ≠ X.env.locals ∧ (∀ x c, X.env.cells.lookup x = some c → c ≠ b) ∧ ∀ p ∈ X.pn ++ pins, p.1 ≠ b) :
    Inv X pins σ H' { s with heap := h', gens := g', drawn := d', toks := t' } := by
  obtain ⟨m, ⟨o, es, ep, ho, r⟩, _⟩ := id I.loc
  obtain ⟨sl, hL⟩ := u.any ho I.free fun z => (hch _ z).2.1 rfl
  exact I.step (ch := ch) hch (fun b o hL hb hc e n => u.keep b o e n (fun z => (List.mem_cons.mp (I.stkSub b z)).elim hL hb) hc) (fun b o _ _ hc e n => u.any e n hc) (fun b o hc e n => u.free b o e n hc) (fun b o hc e => u.there b o e hc) u.tups u.frzs u.tbls (fun m' hm => by
    obtain ⟨o', es', ep', ho', r'⟩ := hm
    rw [ho] at ho'; cases ho'
    exact ⟨_, es', ep', hL, r'⟩) hok hg
/-- an untracked record of ours (an iterator) has turned -/
theorem Inv.turned {t' : Nat} {it : Addr} (I : Inv X pins σ H s) (k : ∀ b o, b ≠ it → s.heap.get? b = some o → h'.get? b = some o) (hn : H it = none) (hL : it ≠ X.env.locals)
    (h1 : it ∈ X.ex ∨ X.s₀.heap.objs.size ≤ it) (h2 : ∀ x c, X.env.cells.lookup x = some c → c ≠ it) (h3 : ∀ p ∈ X.pn ++ pins, p.1 ≠ it) : Inv X pins σ H { s with heap := h', toks := t' } := by
  have nit : ∀ b u, H b = some u → b ≠ it := fun b u e z => by rw [z, hn] at e; cases e
  refine I.step (g' := s.gens) (d' := s.drawn) (ch := [it]) (fun b hb => ?_) (fun b o _ _ hc e _ => k b o (fun z => hc (by simp [z])) e) (fun b o _ _ hc e _ => ⟨o.slots, k b o (fun z => hc (by simp [z])) e⟩) (fun _ _ _ _ n => n)
    (fun b o hc e => ⟨o, k b o (fun z => hc (by simp [z])) e⟩) (fun _ _ e => e) (fun _ _ _ e => e) (fun b ps e => ⟨#[], by rw [e]; simp⟩) (fun m hm => ?_) (fun b u e => ?_) I.bare
  · have e : b = it := by simpa using hb
    subst e
    exact ⟨h1, hL, h2, h3⟩
  · obtain ⟨o, es, ep, ho, r⟩ := hm
    exact ⟨o, es, ep, k _ o (Ne.symm hL) ho, r⟩
  · refine (I.hok b u e).stay (fun c v hc q => k c v ?_ q) (fun _ q => q) fun _ _ q => q
    rcases hc with z | z
    · rw [z]; exact nit b u e
    · exact nit c _ z
theorem Inv.tok (I : Inv X pins σ H s) (t : Nat) : Inv X pins σ H { s with toks := t } := I.un (h' := s.heap) (t' := t) Un.refl I.hok
/-- all objects kept -/
theorem Inv.kept {t' : Nat} (I : Inv X pins σ H s) (k : ∀ b u, s.heap.get? b = some u → h'.get? b = some u) : Inv X pins σ H { s with heap := h', toks := t' } := I.un (Un.kept k) (I.hok.kept k)
/-- a new object laid and tracked -/
theorem Inv.laid {a : Addr} {o : HO} {t' : Nat} (I : Inv X pins σ H s) (k : ∀ b u, s.heap.get? b = some u → h'.get? b = some u) (hp : s.heap.objs.size ≤ a) (new : ObjOk X.prog X.w (upd H a o) h' a o) :
    Inv X pins σ (upd H a o) { s with heap := h', toks := t' } := I.un (Un.laid k hp (I.hok.fresh hp)) (I.hok.laid k hp new)
/-- an object written -/
theorem Inv.write {x e : Addr} {o : HO} {t' : Nat} (I : Inv X pins σ H s) (mu : Mut (H x)) (he : e = x ∨ H e = some (.own x)) (k : ∀ b u, b ≠ e → s.heap.get? b = some u → h'.get? b = some u) (heo : ∃ u, h'.get? e = some u)
    (new : ObjOk X.prog X.w (upd H x o) h' x o) : Inv X pins σ (upd H x o) { s with heap := h', toks := t' } := I.un (Un.write mu he k heo) (I.hok.write mu he k heo new)
theorem Inv.pins_of {pins' : List (Addr × Obj)} (I : Inv X pins σ H s) (h : ∀ p ∈ pins', s.heap.get? p.1 = some p.2 ∧ H p.1 = none ∧ p.1 ≠ X.env.locals ∧ p.1 ∉ X.fs ∧ ∀ v, p.2.data ≠ .cell v) : Inv X pins' σ H s :=
  ⟨I.ok, I.os, I.bare, I.base, I.loc, I.cell, I.free, I.freeC, fun p hp => (List.mem_append.mp hp).elim (fun z => I.pin p (List.mem_append_left _ z)) (h p), I.hok, I.len⟩

theorem nodup_ix {N : List Str} (hN : N.Nodup) {i j : Nat} {x : Str} (a : N[i]? = some x) (b : N[j]? = some x) : i = j := by
  obtain ⟨h1, e1⟩ := List.getElem?_eq_some_iff.mp a
  obtain ⟨h2, e2⟩ := List.getElem?_eq_some_iff.mp b
  exact (List.getElem_inj hN).mp (e1.trans e2.symm)

/-- a name is stored; what changed -/
theorem store_ok2 {M : Model} {A : Around} {E : Value → Shared → Prop} {i : Nat} {x : Str} {v : V} {u : Value} {Q : Unit → Shared → Prop} (I : Inv X pins σ H s) (hN : X.N.Nodup) (hi : X.N[i]? = some x) (hx : Loc X.env.scope x) (r : RelV v u)
    (h : ∀ s', Inv X pins (σ.set i (some v)) H s' → (∃ a, Heap.SameBut a s.heap s'.heap ∧ (a = X.env.locals ∨ X.env.cells.lookup x = some a)) → Q () s') (hf : X.fn x = true ∨ X.env.scope.names.lookup x = some .local := by first | exact .inl rfl | exact .inr rfl | assumption) : wpAny M A (storeName X.env x u) Q E s := by
  obtain ⟨m, hn, hl⟩ := id I.loc
  have hcls : (X.env.scope.kind == .class || (X.env.scope.kind == .module && X.env.locals != X.env.globals)) = false := by rw [I.ok.kind]; rfl
  have hiσ : i < σ.length := by rw [I.len]; exact (List.getElem?_eq_some_iff.mp hi).1
  have cne := I.cne
  have tracked : ∀ {a : Addr} {h' : Heap}, (∃ o, s.heap.get? a = some o ∧ H a = none) → Heap.SameBut a s.heap h' → HOk X.prog X.w H h' := fun {a h'} ha hs b ob e => by
    obtain ⟨_, _, hfree⟩ := ha
    refine (I.hok b ob e).stay (fun c w' hc q => (hs.2 c ?_).trans q) (fun _ q => q) fun _ _ q => q
    rintro rfl
    rcases hc with rfl | hc
    · rw [hfree] at e; cases e
    · rw [hfree] at hc; cases hc
  rcases hx with hk | hk
  · refine wpAny_storeName_local hk hn (fun h' hn' hs => ?_) hcls
    obtain ⟨oL, _, _, hoL, _⟩ := id hn
    refine h _ ⟨I.ok, I.os, I.bare, ⟨fun b o e n hb hx => ?_, fun b o e n hb hx => ?_, I.base.free, fun b o e hx => ?_, I.base.tups, I.base.frzs, I.base.tbls⟩, ⟨_, hn', fun j y v' e1 e2 e3 => ?_⟩, fun y c e => ?_, I.free, I.freeC, fun p hp => ?_, tracked ⟨oL, hoL, I.free⟩ hs, by simpa using I.len⟩ ⟨_, hs, .inl rfl⟩
    · exact (hs.2 b (Nat.ne_of_lt (Nat.lt_of_lt_of_le (Heap.lt_size e) I.ok.above))).trans (I.base.keep b o e n hb hx)
    · obtain ⟨sl, e1⟩ := I.base.slot b o e n hb hx
      exact ⟨sl, (hs.2 b (Nat.ne_of_lt (Nat.lt_of_lt_of_le (Heap.lt_size e) I.ok.above))).trans e1⟩
    · obtain ⟨o', e1⟩ := I.base.there b o e hx
      exact ⟨o', (hs.2 b (Nat.ne_of_lt (Nat.lt_of_lt_of_le (Heap.lt_size e) I.ok.above))).trans e1⟩
    · by_cases hj : j = i
      · subst hj
        rw [hi] at e1; cases e1
        rw [List.getElem?_set_self hiσ] at e2
        cases e2
        exact ⟨u, r, .inl ⟨hk, by simp⟩⟩
      · rw [List.getElem?_set_ne (Ne.symm hj)] at e2
        obtain ⟨u', r', q⟩ := hl j y v' e1 e2 e3
        refine ⟨u', r', ?_⟩
        rcases q with ⟨k, e⟩ | ⟨k, c, e, z⟩
        · refine .inl ⟨k, ?_⟩
          have : y ≠ x := fun e => hj (nodup_ix hN e1 (e ▸ hi))
          simp [this, e]
        · exact .inr ⟨k, c, e, z.sameBut hs (cne y c e)⟩
    · obtain ⟨w', z⟩ := I.cell y c e
      exact ⟨w', z.sameBut hs (cne y c e)⟩
    · obtain ⟨e, n, ne, nf, d⟩ := I.pin p hp
      exact ⟨(hs.2 p.1 ne).trans e, n, ne, nf, d⟩
  · have hfn : X.fn x = true := by
      rcases hf with z | z
      · exact z
      · rw [z] at hk; cases hk
    obtain ⟨c, hc⟩ := I.ok.has x (.inl hk)
    obtain ⟨w', z⟩ := I.cell x c hc
    refine wpAny_storeName_cell I.ok.kind hk hc z (fun h' hc' hs => ?_)
    obtain ⟨oc, hoc, hocd⟩ := id z
    refine h { s with heap := h' } ⟨I.ok, I.os, I.bare, ⟨fun b o e n hb hx => ?_, fun b o e n hb hx => ?_, I.base.free, fun b o e hx => ?_, I.base.tups, I.base.frzs, I.base.tbls⟩, ⟨m, hn.sameBut hs (Ne.symm (cne x c hc)), fun j y v' e1 e2 e3 => ?_⟩, fun y c' e => ?_, I.free, I.freeC, fun p hp => ?_, tracked ⟨oc, hoc, I.freeC x c hc⟩ hs, by simpa using I.len⟩ ⟨c, hs, .inr hc⟩
    · exact (hs.2 b (Nat.ne_of_lt (Nat.lt_of_lt_of_le (Heap.lt_size e) (I.ok.cab x c hfn hc)))).trans (I.base.keep b o e n hb hx)
    · obtain ⟨sl, e1⟩ := I.base.slot b o e n hb hx
      exact ⟨sl, (hs.2 b (Nat.ne_of_lt (Nat.lt_of_lt_of_le (Heap.lt_size e) (I.ok.cab x c hfn hc)))).trans e1⟩
    · obtain ⟨o', e1⟩ := I.base.there b o e hx
      exact ⟨o', (hs.2 b (Nat.ne_of_lt (Nat.lt_of_lt_of_le (Heap.lt_size e) (I.ok.cab x c hfn hc)))).trans e1⟩
    · by_cases hj : j = i
      · subst hj
        rw [hi] at e1; cases e1
        rw [List.getElem?_set_self hiσ] at e2
        cases e2
        exact ⟨u, r, .inr ⟨.inl hk, c, hc, hc'⟩⟩
      · rw [List.getElem?_set_ne (Ne.symm hj)] at e2
        obtain ⟨u', r', q⟩ := hl j y v' e1 e2 e3
        refine ⟨u', r', ?_⟩
        rcases q with q | ⟨k, c', e, z'⟩
        · exact .inl q
        · refine .inr ⟨k, c', e, z'.sameBut hs ?_⟩
          rintro rfl
          exact hj (nodup_ix hN e1 (I.ok.inj _ _ _ e hc ▸ hi))
    · by_cases hcc : c' = c
      · subst hcc; exact ⟨_, hc'⟩
      · obtain ⟨w2, z2⟩ := I.cell y c' e
        exact ⟨w2, z2.sameBut hs hcc⟩
    · obtain ⟨e, n, ne, nf, d⟩ := I.pin p hp
      refine ⟨(hs.2 p.1 ?_).trans e, n, ne, nf, d⟩
      intro q
      rw [q, hoc] at e
      have q' : oc = p.2 := Option.some.inj e
      exact d w' (by rw [← q']; exact hocd)
theorem store_ok {M : Model} {A : Around} {E : Value → Shared → Prop} {i : Nat} {x : Str} {v : V} {u : Value} {Q : Unit → Shared → Prop} (I : Inv X pins σ H s) (hN : X.N.Nodup) (hi : X.N[i]? = some x) (hx : Loc X.env.scope x) (r : RelV v u)
    (h : ∀ s', Inv X pins (σ.set i (some v)) H s' → Q () s') (hf : X.fn x = true ∨ X.env.scope.names.lookup x = some .local := by first | exact .inl rfl | exact .inr rfl | assumption) : wpAny M A (storeName X.env x u) Q E s :=
  store_ok2 I hN hi hx r (fun s' I' _ => h s' I') hf
/-- behind a call or a block, the state as it is -/
theorem Inv.call' {s' : Shared} {ch : List Addr} (I : Inv X pins σ H s) (ho : s'.os = s.os) (u : Un (frs X.stack) ch H H' s.heap s'.heap) (hok : HOk X.prog X.w H' s'.heap) (hg : AllBare s'.gens)
    (hch : ∀ b ∈ ch, (b ∈ X.ex ∨ X.s₀.heap.objs.size ≤ b) ∧ b ≠ X.env.locals ∧ (∀ x c, X.env.cells.lookup x = some c → c ≠ b) ∧ ∀ p ∈ X.pn ++ pins, p.1 ≠ b) : Inv X pins σ H' s' := by
  obtain ⟨h', g', d', t', o'⟩ := s'
  have e : o' = s.os := ho
  subst e
  exact I.call (g' := g') (t' := t') (d' := d') u hok hg hch
end

/-! ### the judgements -/
/-- an exception: its class, its own dict's address (where it has one), the abstract heap behind it -/
abbrev XK := Value → Option Addr → Hp → Prop
abbrev St := List (Option V)
abbrev VK := V → Hp → Prop
/-- an expression's reading; a test's; an argument list's -/
abbrev TE := St → Hp → VK → Prop
abbrev TT := St → Hp → (Bool → Hp → Prop) → Prop
abbrev TA := St → Hp → (List V → Hp → Prop) → Prop
/-- what is wanted behind a statement -/
structure Ends where
  nx : St → Hp → Prop
  rt : VK
  bk : St → Hp → Prop := fun _ _ => False
  ct : St → Hp → Prop := fun _ _ => False
abbrev TS := Ends → St → Hp → Prop

def EP (X : Cx) (pins : List (Addr × Obj)) (σ : St) (Q : VK) (u : Value) (s' : Shared) : Prop := ∃ v H', Inv X pins σ H' s' ∧ RelV v u ∧ Q v H'
def TP (X : Cx) (pins : List (Addr × Obj)) (σ : St) (Q : Bool → Hp → Prop) (b : Bool) (s' : Shared) : Prop := ∃ H', Inv X pins σ H' s' ∧ Q b H'
def AP (X : Cx) (pins : List (Addr × Obj)) (σ : St) (Q : List V → Hp → Prop) (us : List Value) (s' : Shared) : Prop := ∃ vs H', Inv X pins σ H' s' ∧ Vals vs us ∧ Q vs H'
def SP (X : Cx) (pins : List (Addr × Obj)) (D : Ends) (f : Flow) (s' : Shared) : Prop :=
  match f with
  | .next => ∃ σ' H', Inv X pins σ' H' s' ∧ D.nx σ' H'
  | .brk => ∃ σ' H', Inv X pins σ' H' s' ∧ D.bk σ' H'
  | .cont => ∃ σ' H', Inv X pins σ' H' s' ∧ D.ct σ' H'
  | .ret u => ∃ v σ' H', Inv X pins σ' H' s' ∧ RelV v u ∧ D.rt v H'

def PE (X : Cx) (e : Expr) (t : TE) : Prop :=
  ∀ (pins : List (Addr × Obj)) (s : Shared) (σ : St) (H : Hp) (Q : VK), Inv X pins σ H s → t σ H Q → wpAny (model X.prog X.w) X.A (eval e X.env) (EP X pins σ Q) X.xe s
def PT (X : Cx) (e : Expr) (t : TT) : Prop :=
  ∀ (pins : List (Addr × Obj)) (s : Shared) (σ : St) (H : Hp) (Q : Bool → Hp → Prop), Inv X pins σ H s → t σ H Q → wpAny (model X.prog X.w) X.A (isTrue e X.env (eval e X.env)) (TP X pins σ Q) X.xe s
/-- a test whatever its 'whole' is (and, or) -/
def PW (X : Cx) (e : Expr) (t : TT) : Prop :=
  ∀ (whole : Sem Value) (pins : List (Addr × Obj)) (s : Shared) (σ : St) (H : Hp) (Q : Bool → Hp → Prop), Inv X pins σ H s → t σ H Q → wpAny (model X.prog X.w) X.A (isTrue e X.env whole) (TP X pins σ Q) X.xe s
theorem PW.pt {X : Cx} {e : Expr} {t : TT} (h : PW X e t) : PT X e t := h _
/-- an argument list (no star), from the left -/
def PA (X : Cx) (es : List Expr) (t : TA) : Prop :=
  ∀ (pos : Pos) (pins : List (Addr × Obj)) (s : Shared) (σ : St) (H : Hp) (Q : List V → Hp → Prop), Inv X pins σ H s → t σ H Q → wpAny (model X.prog X.w) X.A (spliced (backTo pos (starEach es X.env))) (AP X pins σ Q) X.xe s
def PS (X : Cx) (st : Stmt) (t : TS) : Prop :=
  ∀ (pins : List (Addr × Obj)) (s : Shared) (σ : St) (H : Hp) (D : Ends), Inv X pins σ H s → t D σ H → wpAny (model X.prog X.w) X.A (exec st X.env) (SP X pins D) X.xe s
def PSs (X : Cx) (st : List Stmt) (t : TS) : Prop :=
  ∀ (pins : List (Addr × Obj)) (s : Shared) (σ : St) (H : Hp) (D : Ends), Inv X pins σ H s → t D σ H → wpAny (model X.prog X.w) X.A (execs st X.env) (SP X pins D) X.xe s
/-- weaken the end -/
theorem thn {α : Type} {t : Sem α} {Q Q' : α → Shared → Prop} {M : Model} {A : Around} {E : Value → Shared → Prop} {s : Shared} (h : wpAny M A t Q E s) (hQ : ∀ a s, Q a s → Q' a s) : wpAny M A t Q' E s := wpAny_mono h hQ fun _ _ x => x
end L2

namespace L2
open PySem PySem.Spec PyProof.Rows
section
variable {X : Cx}

/-! ### names and constants -/
inductive RVar (i : Nat) (σ : St) (H : Hp) (Q : VK) : Prop where | mk (v : V) (e : σ[i]? = some (some v)) (q : Q v H) : RVar i σ H Q
def tVar (i : Nat) : TE := fun σ H Q => RVar i σ H Q
inductive RBl (x : V) (Q : Bool → Prop) : Prop where | mk (c : Bool) (e : x = .bl c) (q : Q c) : RBl x Q
def tC (v : V) : TE := fun _ H Q => Q v H
theorem pe_var {i : Nat} {x : Str} {pos : Pos} (hN : X.N[i]? = some x) (hv : Vis X.env.scope x) (hd : (x == ("__debug__" : Str)) = false := by decide) (hcd : (x == ("__classdict__" : Str)) = false := by decide) : PE X (.Name x pos) (tVar i) := by
  intro pins s σ H Q I h
  obtain ⟨v, e, h⟩ := h
  obtain ⟨m, hn, hl⟩ := I.loc
  obtain ⟨u, r, l⟩ := hl i x v hN e hv
  have fin : EP X pins σ Q u s := ⟨v, H, I, r, h⟩
  rcases l with ⟨hk, hm⟩ | ⟨hk, c, hc, hcell⟩
  · exact wpAny_Name (wpAny_loadName_local I.ok.kind hk hn hm fin) hd
  · rcases hk with hk | hk
    · exact wpAny_Name (wpAny_loadName_cell I.ok.kind hk hc hcell fin) hd
    · exact wpAny_Name (wpAny_loadName_free I.ok.kind hk hc hcell fin hcd) hd
theorem pe_int {i j pos} : PE X (.Constant (.int i) j pos) (tC (.int i)) := fun _ _ _ H _ I h => wpAny_Constant_int ⟨.int i, H, I.tok _, ⟨_, rfl⟩, h⟩
theorem pe_bl {b j pos} : PE X (.Constant (.bool b) j pos) (tC (.bl b)) := fun _ _ _ H _ I h => Constant_bool ⟨.bl b, H, I, rfl, h⟩
theorem pe_non {j pos} : PE X (.Constant .none j pos) (tC .non) := fun _ _ _ H _ I h => Constant_none ⟨.non, H, I, rfl, h⟩
theorem pe_str {x j pos} : PE X (.Constant (.str x) j pos) (tC (.str x)) := fun _ _ _ H _ I h => Calls.Constant_str ⟨.str x, H, I.tok _, ⟨_, rfl⟩, h⟩

/-- a global name of the def -/
def Gl (X : Cx) (x : Str) : Prop := X.env.kindOf x = some .globalImplicit
theorem ld_glob {E : Value → Shared → Prop} {pins : List (Addr × Obj)} {s : Shared} {σ : St} {H : Hp} {x : Str} {u : Value} {pos : Pos} {Q : Value → Shared → Prop} (I : Inv X pins σ H s) (hg : Gl X x) (hm : X.mg x = some u) (h : Q u s)
    (hd : (x == ("__debug__" : Str)) = false := by decide) : wpAny (model X.prog X.w) X.A (eval (.Name x pos) X.env) Q E s :=
  Calls.Name_function_global I.ok.kind hg (Calls.loadGlobal_global (by rw [I.ok.glob]; exact I.mod.glob.keeps I.bk) hm h) hd
theorem ld_blt {E : Value → Shared → Prop} {pins : List (Addr × Obj)} {s : Shared} {σ : St} {H : Hp} {x : Str} {u : Value} {pos : Pos} {Q : Value → Shared → Prop} (I : Inv X pins σ H s) (hg : Gl X x) (hm : X.mg x = none) (hv : bootBuiltins x = some u) (h : Q u s)
    (hn : x ≠ "__name__" := by decide) (hd : (x == ("__debug__" : Str)) = false := by decide) : wpAny (model X.prog X.w) X.A (eval (.Name x pos) X.env) Q E s := by
  obtain ⟨mb, h1, h2⟩ := I.mod.blt
  exact Calls.Name_function_global I.ok.kind hg (Calls.loadGlobal_builtin (by rw [I.ok.glob]; exact I.mod.glob.keeps I.bk) hm (by rw [I.ok.blt]; exact h1.keeps I.bk) ((h2 x hn).trans hv) h) hd
/-- a module's constant, a class, a function, as a value -/
theorem pe_glob {x : Str} {v : V} {u : Value} {pos : Pos} (hg : Gl X x) (hm : X.mg x = some u) (r : RelV v u) (hd : (x == ("__debug__" : Str)) = false := by decide) : PE X (.Name x pos) (tC v) :=
  fun _ _ _ H _ I h => ld_glob I hg hm ⟨v, H, I, r, h⟩ hd
theorem pe_bltn {x : Str} {v : V} {u : Value} {pos : Pos} (hg : Gl X x) (hm : X.mg x = none) (hv : bootBuiltins x = some u) (r : RelV v u) (hn : x ≠ "__name__" := by decide) (hd : (x == ("__debug__" : Str)) = false := by decide) : PE X (.Name x pos) (tC v) :=
  fun _ _ _ H _ I h => ld_blt I hg hm hv ⟨v, H, I, r, h⟩ hn hd

/-! ### arithmetic -/
/-- two ints -/
def t2I (ta tb : TE) (k : Int → Int → Hp → Prop) : St → Hp → Prop := fun σ H => ta σ H fun x H1 => tb σ H1 fun y H2 => ∃ i j, x = .int i ∧ y = .int j ∧ k i j H2
def tAdd (ta tb : TE) : TE := fun σ H Q => t2I ta tb (fun i j H2 => Q (.int (i + j)) H2) σ H
def tSub (ta tb : TE) : TE := fun σ H Q => t2I ta tb (fun i j H2 => Q (.int (i - j)) H2) σ H
/-- the left factor below 2^64 -/
def tMul (ta tb : TE) : TE := fun σ H Q => t2I ta tb (fun i j H2 => (-(2 ^ 64) < i ∧ i < 2 ^ 64) ∧ Q (.int (i * j)) H2) σ H
variable {a b : Expr} {ta tb : TE} {pos : Pos}
/-! ### comparisons -/
def PC (X : Cx) (op : CmpOp) (a b : Expr) (t : TE) : Prop :=
  ∀ (pins : List (Addr × Obj)) (s : Shared) (σ : St) (H : Hp) (Q : VK), Inv X pins σ H s → t σ H Q →
    wpAny (model X.prog X.w) X.A (eval a X.env) (fun v s₁ => wpAny (model X.prog X.w) X.A (eval b X.env) (fun u s₂ => wpAny (model X.prog X.w) X.A (compareOp op v u) (EP X pins σ Q) X.xe s₂) X.xe s₁) X.xe s
theorem nobehind (b : Expr) {op : CmpOp} (h : op ≠ .In) (h2 : op ≠ .NotIn) : behindInMarks op b = false := by
  have e1 : (op == CmpOp.In) = false := by cases op <;> first | rfl | exact absurd rfl h
  have e2 : (op == CmpOp.NotIn) = false := by cases op <;> first | rfl | exact absurd rfl h2
  cases b <;> simp [behindInMarks, e1, e2]
def tCmp (p : Int → Int → Bool) (ta tb : TE) : TE := fun σ H Q => t2I ta tb (fun i j H2 => Q (.bl (p i j)) H2) σ H
abbrev tLt : TE → TE → TE := tCmp fun i j => decide (i < j)
abbrev tLe : TE → TE → TE := tCmp fun i j => decide (i ≤ j)
abbrev tGt : TE → TE → TE := tCmp fun i j => decide (j < i)
abbrev tGe : TE → TE → TE := tCmp fun i j => decide (j ≤ i)
abbrev tEqI : TE → TE → TE := tCmp fun i j => decide (i = j)
abbrev tNeI : TE → TE → TE := tCmp fun i j => !decide (i = j)
/-- is None -/
def tIsN (ta : TE) : TE := fun σ H Q => ta σ H fun x H1 => Q (.bl (decide (x = .non))) H1
def tNotN (ta : TE) : TE := fun σ H Q => ta σ H fun x H1 => Q (.bl (!decide (x = .non))) H1
theorem RelV.none_iff {x : V} {v : Value} (r : RelV x v) : (v == Value.none) = decide (x = .non) := by
  cases x with
  | non => cases r; rfl
  | bl _ => cases r; rfl
  | int _ => obtain ⟨t, rfl⟩ := r; rfl
  | str _ => obtain ⟨t, rfl⟩ := r; rfl
  | byt _ => obtain ⟨t, rfl⟩ := r; rfl
  | flt _ => obtain ⟨t, rfl⟩ := r; rfl
  | ref _ => cases r; rfl
  | ty _ => cases r; rfl
theorem pc_isN {j pos'} (ha : PE X a ta) : PC X .Is a (.Constant .none j pos') (tIsN ta) := by
  intro pins s σ H Q I h
  refine thn (ha pins s σ H _ I h) fun v s1 ⟨x, H1, I1, r1, q1⟩ => ?_
  exact Constant_none (is_none_gen ⟨.bl _, H1, I1, by rw [r1.none_iff]; rfl, q1⟩)
/-- a comparison as a value, as a test -/
def tB (t : TE) : TT := fun σ H Q => t σ H fun x H1 => RBl x fun c => Q c H1
theorem pe_cmp {op : CmpOp} {t : TE} (h : PC X op a b t) (h1 : behindInMarks op b = false := by first | exact nobehind _ (by decide) (by decide) | rfl) : PE X (.Compare a [op] [b] pos) t := fun pins s σ H Q I hw => wpAny_Compare1 (h pins s σ H Q I hw) h1
theorem pt_cmp {op : CmpOp} {t : TE} (h : PC X op a b t) (h1 : behindInMarks op b = false := by first | exact nobehind _ (by decide) (by decide) | rfl) : PT X (.Compare a [op] [b] pos) (tB t) := by
  intro pins s σ H Q I hw
  refine wpAny_isTrue_Compare1 (thn (h pins s σ H _ I hw) fun v s1 h1 => thn h1 fun u s2 h2 => thn h2 fun c s3 ⟨x, H1, I1, r1, q1⟩ => ?_) h1
  obtain ⟨d, rfl, q⟩ := q1
  cases r1
  exact wpAny_truthy_bool ⟨H1, I1, q⟩
/-- an expression whose value is a bool, as a test -/
theorem pt_val {e : Expr} {t : TE} (h : PE X e t) (he : ∀ whole, isTrue e X.env whole = (do let v ← whole; standAt e.pos; holding [v] (truthy v)) := by intro _; rfl) : PT X e (tB t) := by
  intro pins s σ H Q I hw
  refine isTrue_plain (thn (h pins s σ H _ I hw) fun v s1 ⟨x, H1, I1, r1, q1⟩ => ?_) (he _)
  obtain ⟨d, rfl, q⟩ := q1
  cases r1
  exact wpAny_truthy_bool ⟨H1, I1, q⟩

/-! ### and, or, not -/
variable {tA tB' : TT} {rest : List Expr}
def tAnd (t u : TT) : TT := fun σ H Q => t σ H fun c H1 => if c = true then u σ H1 Q else Q false H1
def tOr (t u : TT) : TT := fun σ H Q => t σ H fun c H1 => if c = true then Q true H1 else u σ H1 Q
def tNot (t : TT) : TT := fun σ H Q => t σ H fun c H1 => Q (!c) H1
theorem pw_and1 (ha : PT X a tA) : PW X (.BoolOp .And [a] pos) tA := by
  intro wh pins s σ H Q I h
  refine isTrue_and (thn (ha pins s σ H Q I h) fun c s1 e => ?_)
  cases c with
  | true => exact isTrue_and_nil e
  | false => exact e
theorem pw_or1 (ha : PT X a tA) : PW X (.BoolOp .Or [a] pos) tA := by
  intro wh pins s σ H Q I h
  refine isTrue_or (thn (ha pins s σ H Q I h) fun c s1 e => ?_)
  cases c with
  | false => exact isTrue_or_nil e
  | true => exact e
theorem pw_and (ha : PT X a tA) (hb : PW X (.BoolOp .And (b :: rest) pos) tB') : PW X (.BoolOp .And (a :: b :: rest) pos) (tAnd tA tB') := by
  intro wh pins s σ H Q I h
  refine isTrue_and (thn (ha pins s σ H _ I h) fun c s1 ⟨H1, I1, q1⟩ => ?_)
  cases c with
  | true => exact hb wh pins s1 σ H1 Q I1 q1
  | false => exact ⟨H1, I1, q1⟩
theorem pw_or (ha : PT X a tA) (hb : PW X (.BoolOp .Or (b :: rest) pos) tB') : PW X (.BoolOp .Or (a :: b :: rest) pos) (tOr tA tB') := by
  intro wh pins s σ H Q I h
  refine isTrue_or (thn (ha pins s σ H _ I h) fun c s1 ⟨H1, I1, q1⟩ => ?_)
  cases c with
  | true => exact ⟨H1, I1, q1⟩
  | false => exact hb wh pins s1 σ H1 Q I1 q1
theorem pt_not (ha : PT X a tA) : PT X (.UnaryOp .Not a pos) (tNot tA) := by
  intro pins s σ H Q I h
  exact isTrue_not (ha pins s σ H (fun c H1 => Q (!c) H1) I h)
/-- .. as values (bools) -/
def tAndV (ta tb : TE) : TE := fun σ H Q => ta σ H fun x H1 => RBl x fun c => if c = true then tb σ H1 Q else Q (.bl false) H1
def tOrV (ta tb : TE) : TE := fun σ H Q => ta σ H fun x H1 => RBl x fun c => if c = true then Q (.bl true) H1 else tb σ H1 Q
def tNotV (ta : TE) : TE := fun σ H Q => ta σ H fun x H1 => RBl x fun c => Q (.bl (!c)) H1
theorem pe_one {op} {t : TE} (h : PE X a t) : PE X (.BoolOp op [a] pos) t := fun pins s σ H Q I hw => BoolOp_one (h pins s σ H Q I hw)
theorem pe_and (ha : PE X a ta) (hb : PE X (.BoolOp .And (b :: rest) pos) tb) : PE X (.BoolOp .And (a :: b :: rest) pos) (tAndV ta tb) := by
  intro pins s σ H Q I h
  refine BoolOp_and (thn (ha pins s σ H _ I h) fun v s1 ⟨x, H1, I1, r1, q1⟩ => ?_)
  obtain ⟨c, rfl, q1⟩ := q1
  cases r1
  refine wpAny_truthy_bool ?_
  cases c with
  | true => exact hb pins s1 σ H1 Q I1 q1
  | false => exact ⟨.bl false, H1, I1, rfl, q1⟩
theorem pe_or (ha : PE X a ta) (hb : PE X (.BoolOp .Or (b :: rest) pos) tb) : PE X (.BoolOp .Or (a :: b :: rest) pos) (tOrV ta tb) := by
  intro pins s σ H Q I h
  refine BoolOp_or (thn (ha pins s σ H _ I h) fun v s1 ⟨x, H1, I1, r1, q1⟩ => ?_)
  obtain ⟨c, rfl, q1⟩ := q1
  cases r1
  refine wpAny_truthy_bool ?_
  cases c with
  | false => exact hb pins s1 σ H1 Q I1 q1
  | true => exact ⟨.bl true, H1, I1, rfl, q1⟩
theorem pe_not (ha : PE X a ta) : PE X (.UnaryOp .Not a pos) (tNotV ta) := by
  intro pins s σ H Q I h
  refine UnaryOp_ (thn (ha pins s σ H _ I h) fun v s1 ⟨x, H1, I1, r1, q1⟩ => ?_)
  obtain ⟨c, rfl, q1⟩ := q1
  cases r1
  exact not_of (wpAny_truthy_bool ⟨.bl (!c), H1, I1, rfl, q1⟩)
/-- a if t else b -/
def tIf (t : TT) (ta tb : TE) : TE := fun σ H Q => t σ H fun c H1 => if c = true then ta σ H1 Q else tb σ H1 Q
end
end L2

namespace L2
open PySem PySem.Spec PyProof.Rows

/-! ### a list, a tuple that is read: tracked, frozen, or an object of the module -/
def SqL (K : PySem.W.Frag) (H : Hp) (a : Addr) (xs : List V) : Prop :=
  Rd H a (.lst xs) ∨
    ∃ (o : Obj) (its : Array Value) (n : Nat), K.lookup a = some o ∧ o.cls = .type "list" ∧ o.dict = none ∧ o.data = .seq its n ∧ its.size ≤ sizeLine ∧ Vals xs its.toList
def SqT (K : PySem.W.Frag) (H : Hp) (a : Addr) (xs : List V) : Prop :=
  Rd H a (.tup xs) ∨
    ∃ (o : Obj) (its : Array Value) (n : Nat), K.lookup a = some o ∧ o.cls = .type "tuple" ∧ o.data = .seq its n ∧ its.size ≤ sizeLine ∧ Vals xs its.toList
def absV : Value → Option V
  | .none => some .non
  | .bool b => some (.bl b)
  | .int i _ => some (.int i)
  | .str x _ => some (.str x)
  | .bytes b _ => some (.byt b)
  | .float b _ => some (.flt b)
  | .ref a => some (.ref a)
  | .type n => some (.ty n)
  | _ => none
theorem RelV.abs {x : V} {u : Value} (r : RelV x u) : absV u = some x := by
  cases x with
  | non => cases r; rfl
  | bl _ => cases r; rfl
  | int _ => obtain ⟨t, rfl⟩ := r; rfl
  | str _ => obtain ⟨t, rfl⟩ := r; rfl
  | byt _ => obtain ⟨t, rfl⟩ := r; rfl
  | flt _ => obtain ⟨t, rfl⟩ := r; rfl
  | ref _ => cases r; rfl
  | ty _ => cases r; rfl
theorem RelV.inj {x y : V} {u : Value} (r : RelV x u) (q : RelV y u) : x = y := Option.some.inj (r.abs.symm.trans q.abs)
theorem Vals.inj : ∀ {xs ys : List V} {us : List Value}, Vals xs us → Vals ys us → xs = ys
  | _, _, _, .nil, .nil => rfl
  | _, _, _, .cons r t, .cons r' t' => by rw [r.inj r', Vals.inj t t']
section
variable {X : Cx} {pins : List (Addr × Obj)} {σ : St} {H : Hp} {s : Shared} {a : Addr} {xs ys : List V}
theorem SqL.of {K : PySem.W.Frag} (h : H a = some (.lst xs)) : SqL K H a xs := .inl (.inl h)
theorem SqT.of {K : PySem.W.Frag} (h : H a = some (.tup xs)) : SqT K H a xs := .inl (.inl h)
theorem Inv.list (I : Inv X pins σ H s) (h : SqL X.K H a xs) : ∃ its : List Value, Vals xs its ∧ PlainL s.heap a its.toArray ∧ xs.length ≤ sizeLine := by
  rcases h with h | ⟨o, its, n, hk, hc, hd, hs, hz, r⟩
  · obtain ⟨z, its, n, r, e⟩ := h.ok I.hok
    exact ⟨its, r, ⟨_, n, e, rfl, rfl, rfl⟩, z⟩
  · refine ⟨its.toList, r, ⟨o, n, I.kIn a o hk, hc, hd, by simpa using hs⟩, ?_⟩
    have e := r.length
    simp only [Array.length_toList] at e
    omega
theorem Inv.tuple (I : Inv X pins σ H s) (h : SqT X.K H a xs) : ∃ its : List Value, Vals xs its ∧ IsTup s.heap a its.toArray ∧ xs.length ≤ sizeLine := by
  rcases h with h | ⟨o, its, n, hk, hc, hs, hz, r⟩
  · obtain ⟨z, its, r, p⟩ := h.ok I.hok
    exact ⟨its, r, p, z⟩
  · refine ⟨its.toList, r, ⟨o, I.kIn a o hk, hc, n, by simpa using hs⟩, ?_⟩
    have e := r.length
    simp only [Array.length_toList] at e
    omega
theorem Inv.list_inj (I : Inv X pins σ H s) (h : SqL X.K H a xs) (h' : SqL X.K H a ys) : xs = ys := by
  obtain ⟨its, r, ⟨o, n, e, _, _, d⟩, _⟩ := I.list h
  obtain ⟨its', r', ⟨o', n', e', _, _, d'⟩, _⟩ := I.list h'
  rw [e] at e'; cases e'
  rw [d] at d'
  injection d' with d1 _
  have : its = its' := by simpa using congrArg Array.toList d1
  subst this
  exact r.inj r'
end

/-! ### another wish about exceptions -/
abbrev Cx.wish (X : Cx) (E : Value → Shared → Prop) : Cx := { X with xe := E }
/-- no exception leaves -/
abbrev Cx.nox (X : Cx) : Cx := X.wish fun _ _ => False
theorem Cx.Ok.wish {X : Cx} (ok : X.Ok) (E : Value → Shared → Prop) : (X.wish E).Ok :=
  ⟨ok.mod, ok.kind, ok.glob, ok.blt, ok.above, ok.inj, ok.has, ok.cab, ok.hd, ok.frames, ok.stk, ok.exf, ok.bs, ok.bsz, ok.noex, ok.exfs, ok.funs, ok.frf⟩
theorem Cx.Ok.unwish {X : Cx} {E : Value → Shared → Prop} (ok : (X.wish E).Ok) : X.Ok :=
  ⟨ok.mod, ok.kind, ok.glob, ok.blt, ok.above, ok.inj, ok.has, ok.cab, ok.hd, ok.frames, ok.stk, ok.exf, ok.bs, ok.bsz, ok.noex, ok.exfs, ok.funs, ok.frf⟩
section
variable {X : Cx} {pins : List (Addr × Obj)} {σ : St} {H : Hp} {s : Shared} {E : Value → Shared → Prop}
theorem Inv.wish (I : Inv X pins σ H s) (E : Value → Shared → Prop) : Inv (X.wish E) pins σ H s := ⟨I.ok.wish E, I.os, I.bare, I.base, I.loc, I.cell, I.free, I.freeC, I.pin, I.hok, I.len⟩
theorem Inv.unwish (I : Inv (X.wish E) pins σ H s) : Inv X pins σ H s := ⟨I.ok.unwish, I.os, I.bare, I.base, I.loc, I.cell, I.free, I.freeC, I.pin, I.hok, I.len⟩
theorem SP.unwish {D : Ends} {f : Flow} {s' : Shared} (h : SP (X.wish E) pins D f s') : SP X pins D f s' := by
  cases f with
  | next => obtain ⟨σ', H', I, q⟩ := h; exact ⟨σ', H', I.unwish, q⟩
  | brk => obtain ⟨σ', H', I, q⟩ := h; exact ⟨σ', H', I.unwish, q⟩
  | cont => obtain ⟨σ', H', I, q⟩ := h; exact ⟨σ', H', I.unwish, q⟩
  | ret u => obtain ⟨v, σ', H', I, r, q⟩ := h; exact ⟨v, σ', H', I.unwish, r, q⟩
theorem PSs.nox {st : List Stmt} {t : TS} (h : PSs X.nox st t) : PSs X st t := fun pins s σ H D I hw =>
  wpAny_mono (h pins s σ H D (I.wish _) hw) (fun _ _ q => q.unwish) fun _ _ z => False.elim z
end

/-! ### blocks and small statements -/
section
variable {X : Cx} {st : Stmt} {rest : List Stmt} {t u : TS} {e : Expr} {te : TE} {pos : Pos}
def tNext : TS := fun D σ H => D.nx σ H
def tSeq (t u : TS) : TS := fun D σ H => t { D with nx := u D } σ H
theorem pss_nil : PSs X [] tNext := fun _ _ σ H _ I h => wpAny_execs_nil ⟨σ, H, I, h⟩
theorem pss_cons (h1 : PS X st t) (h2 : PSs X rest u) : PSs X (st :: rest) (tSeq t u) := by
  intro pins s σ H D I h
  refine wpAny_execs_cons (thn (h1 pins s σ H { D with nx := u D } I h) fun f s1 q => ?_)
  cases f with
  | next =>
    obtain ⟨σ', H', I', q⟩ := q
    exact h2 pins s1 σ' H' D I' q
  | ret v => exact q
  | brk => exact q
  | cont => exact q
theorem pss_one (h1 : PS X st t) : PSs X [st] t := by
  intro pins s σ H D I h
  refine wpAny_execs_cons (thn (h1 pins s σ H D I h) fun f s1 q => ?_)
  cases f with
  | next => exact wpAny_execs_nil q
  | ret v => exact q
  | brk => exact q
  | cont => exact q
def tBreak : TS := fun D σ H => D.bk σ H
def tCont : TS := fun D σ H => D.ct σ H
/-- in a def's body nothing is shown -/
theorem Inv.quiet {pins : List (Addr × Obj)} {σ : St} {H : Hp} {s : Shared} (I : Inv X pins σ H s) : interactive X.env = false := by simp [interactive, I.ok.kind]
/-- an expression whose value is dropped -/
def tDrop (te : TE) : TS := fun D σ H => te σ H fun _ H1 => D.nx σ H1
theorem ps_expr (he : PE X e te) (hs : swapsWith e none pos.line X.env = pure false := by rfl) : PS X (.Expr e pos) (tDrop te) := by
  intro pins s σ H D I h
  exact wpAny_Expr_any (thn (he pins s σ H _ I h) fun v s1 ⟨x, H1, I1, r1, q1⟩ => ⟨σ, H1, I1, q1⟩) I.quiet hs
def tRet (te : TE) : TS := fun D σ H => te σ H D.rt
theorem ps_ret (he : PE X e te) : PS X (.Return (some e) pos) (tRet te) := by
  intro pins s σ H D I h
  exact wpAny_Return_some (thn (he pins s σ H _ I h) fun v s1 ⟨x, H1, I1, r1, q1⟩ => ⟨x, σ, H1, I1, r1, q1⟩)
def tRetN : TS := fun D _ H => D.rt .non H
def tIfS (c : TT) (t u : TS) : TS := fun D σ H => c σ H fun b H1 => if b = true then t D σ H1 else u D σ H1
theorem ps_if {c : Expr} {a b : List Stmt} {tc : TT} (hc : PT X c tc) (ha : PSs X a t) (hb : PSs X b u) : PS X (.If c a b pos) (tIfS tc t u) := by
  intro pins s σ H D I h
  refine wpAny_If (thn (hc pins s σ H _ I h) fun d s1 ⟨H1, I1, q1⟩ => ?_)
  cases d with
  | true => exact ha pins s1 σ H1 D I1 q1
  | false => exact hb pins s1 σ H1 D I1 q1
/-- code that the proof never comes to -/
def tNever : TS := fun _ _ _ => False
theorem ps_never : PS X st tNever := fun _ _ _ _ _ _ h => h.elim
end

/-! ### targets -/
abbrev TG := V → St → Hp → (St → Hp → Prop) → Prop
abbrev TGs := List V → St → Hp → (St → Hp → Prop) → Prop
def PG (X : Cx) (target : Expr) (t : TG) : Prop :=
  ∀ (pins : List (Addr × Obj)) (s : Shared) (σ : St) (H : Hp) (v : V) (u : Value) (Q : St → Hp → Prop), Inv X pins σ H s → RelV v u → t v σ H Q →
    wpAny (model X.prog X.w) X.A (assign target X.env u) (fun _ s' => ∃ σ' H', Inv X pins σ' H' s' ∧ Q σ' H') X.xe s
/-- several targets, one after another -/
def PGs (X : Cx) (ts : List Expr) (t : TGs) : Prop :=
  ∀ (pins : List (Addr × Obj)) (s : Shared) (σ : St) (H : Hp) (vs : List V) (us : List Value) (Q : St → Hp → Prop), Inv X pins σ H s → Vals vs us → t vs σ H Q →
    wpAny (model X.prog X.w) X.A (assignInOrder ((assignEach ts X.env).map (·.2)) us) (fun _ s' => ∃ σ' H', Inv X pins σ' H' s' ∧ Q σ' H') X.xe s
/-- o[i] = v, by values -/
abbrev TSet := V → V → V → Hp → (Hp → Prop) → Prop
def PSet (X : Cx) (t : TSet) : Prop :=
  ∀ (pins : List (Addr × Obj)) (s : Shared) (σ : St) (H : Hp) (o i v : V) (ov iv u : Value) (Q : Hp → Prop), Inv X pins σ H s → RelV o ov → RelV i iv → RelV v u → t o i v H Q →
    wpAny (model X.prog X.w) X.A (setItem ov iv u) (fun _ s' => ∃ H', Inv X pins σ H' s' ∧ Q H') X.xe s
/-- a op= b, by values -/
abbrev TIp := V → V → Hp → VK → Prop
def PIp (X : Cx) (op : Operator) (t : TIp) : Prop :=
  ∀ (pins : List (Addr × Obj)) (s : Shared) (σ : St) (H : Hp) (x y : V) (v u : Value) (Q : VK), Inv X pins σ H s → RelV x v → RelV y u → t x y H Q →
    wpAny (model X.prog X.w) X.A (inplaceOp op v u) (EP X pins σ Q) X.xe s
section
variable {X : Cx} {pos : Pos}
def gName (i : Nat) : TG := fun v σ H Q => Q (σ.set i (some v)) H
theorem pg_name {i : Nat} {x : Str} (hN : X.N.Nodup) (hi : X.N[i]? = some x) (hx : Loc X.env.scope x) (hf : X.fn x = true ∨ X.env.scope.names.lookup x = some .local := by first | exact .inl rfl | exact .inr rfl | assumption) : PG X (.Name x pos) (gName i) := by
  intro pins s σ H v u Q I r h
  exact wpAny_assign_Name (store_ok I hN hi hx r (fun s' I' => ⟨_, H, I', h⟩) hf)
def gNil : TGs := fun vs σ H Q => vs = [] ∧ Q σ H
inductive RCons (t : TG) (u : TGs) (vs : List V) (σ : St) (H : Hp) (Q : St → Hp → Prop) : Prop where | mk (v : V) (r : List V) (e : vs = v :: r) (q : t v σ H fun σ' H' => u r σ' H' Q) : RCons t u vs σ H Q
def gCons (t : TG) (u : TGs) : TGs := fun vs σ H Q => RCons t u vs σ H Q
theorem pgs_nil : PGs X [] gNil := by
  intro pins s σ H vs us Q I r h
  obtain ⟨e, h⟩ := h
  subst e
  cases r
  exact assignInOrder_nil ⟨σ, H, I, h⟩
theorem pgs_cons {e : Expr} {es : List Expr} {t : TG} {u : TGs} (h1 : PG X e t) (h2 : PGs X es u)
    (hs : (assignEach (e :: es) X.env).map (·.2) = assign e X.env :: (assignEach es X.env).map (·.2) := by rfl) : PGs X (e :: es) (gCons t u) := by
  intro pins s σ H vs us Q I r h
  obtain ⟨v, vr, e1, h⟩ := h
  subst e1
  cases r with
  | cons r rr =>
    rw [hs]
    refine assignInOrder_cons (thn (h1 pins s σ H _ _ _ I r h) fun _ s1 ⟨σ1, H1, I1, q1⟩ => ?_)
    exact h2 pins s1 σ1 H1 _ _ Q I1 rr q1
/-- (a, b, ..) = a tuple of that length -/
inductive RTup (K : PySem.W.Frag) (n : Nat) (t : TGs) (v : V) (σ : St) (H : Hp) (Q : St → Hp → Prop) : Prop where | mk (a : Addr) (xs : List V) (e : v = .ref a) (h : SqT K H a xs) (l : xs.length = n) (q : t xs σ H Q) : RTup K n t v σ H Q
def gTup (K : PySem.W.Frag) (n : Nat) (t : TGs) : TG := fun v σ H Q => RTup K n t v σ H Q
theorem pg_tup {es : List Expr} {k : Nat} {t : TGs} {n : Nat} (hc : X.calm = true) (h : PGs X es t)
    (hn : (assignEach es X.env).length = n := by rfl) (hst : (assignEach es X.env).findIdx? (·.1) = none := by rfl) : PG X (.Tuple es k pos) (gTup X.K n t) := by
  intro pins s σ H v u Q I r hw
  obtain ⟨a, xs, e1, hq, hl, hw⟩ := hw
  subst e1
  cases r
  obtain ⟨its, rv, ht, hz⟩ := I.tuple hq
  refine assign_Tuple_tuple (I.ok.hd hc) ht (by simp [hn, ← hl, rv.length]) hst fun h' hx => ?_
  have I1 : Inv X pins σ H { s with heap := h' } := I.kept (t' := s.toks) fun b o e => hx b o (Nat.ne_of_lt (Heap.lt_size e)) e
  exact h pins _ σ H xs _ Q I1 (by simpa using rv) hw
/-- o[i] = .. -/
def gSub (to ti : TE) (t : TSet) : TG := fun v σ H Q => to σ H fun o H1 => ti σ H1 fun i H2 => t o i v H2 fun H3 => Q σ H3
theorem pg_sub {o i : Expr} {to ti : TE} {t : TSet} (ho : PE X o to) (hi : PE X i ti) (hs : PSet X t)
    (ha : ∀ v, assign (.Subscript o i pos) X.env v = (do
      let ov ← holding [v] (eval o X.env)
      let iv ← holding [v, ov] (eval i X.env)
      standAt pos
      holding [v, ov, iv] (setItem ov iv v)
      release [v, ov, iv] []) := by intro _; rfl) : PG X (.Subscript o i pos) (gSub to ti t) := by
  intro pins s σ H v u Q I r h
  rw [ha]
  refine wpAny_bind (wpAny_holding (thn (ho pins s σ H _ I h) fun ov s1 ⟨x, H1, I1, r1, q1⟩ => ?_))
  refine wpAny_bind (wpAny_holding (thn (hi pins s1 σ H1 _ I1 q1) fun iv s2 ⟨y, H2, I2, r2, q2⟩ => ?_))
  refine wpAny_bind (wpAny_standAt (wpAny_bind (wpAny_holding (thn (hs pins s2 σ H2 x y v ov iv u _ I2 r1 r2 r q2) fun _ s3 ⟨H3, I3, q3⟩ => ?_))))
  exact wpAny_release ⟨σ, H3, I3, q3⟩
/-- target = value -/
def tAsg (te : TE) (g : TG) : TS := fun D σ H => te σ H fun x H1 => g x σ H1 D.nx
theorem ps_asg {tg e : Expr} {te : TE} {g : TG} (he : PE X e te) (hg : PG X tg g) (hs : swapsWithSole [tg] e pos.line X.env = pure false := by rfl) (hw : swappedStores [tg] e X.env = pure none := by rfl)
    (h1 : (assignEach [tg] X.env).map (·.2) = [assign tg X.env] := by rfl) : PS X (.Assign [tg] e pos) (tAsg te g) := by
  intro pins s σ H D I h
  refine wpAny_Assign_stores (thn (he pins s σ H _ I h) fun v s1 ⟨x, H1, I1, r1, q1⟩ => ?_) hs hw
  rw [h1]
  exact thn (hg pins s1 σ H1 x v _ I1 r1 q1) fun _ s2 q => q
/-- name = value -/
theorem ps_set {i : Nat} {x : Str} {e : Expr} {te : TE} {pos' : Pos} (hN : X.N.Nodup) (hi : X.N[i]? = some x) (hx : Loc X.env.scope x) (he : PE X e te) (hs : swapsWith e (some (.Name x pos')) pos.line X.env = pure false := by rfl) (hf : X.fn x = true ∨ X.env.scope.names.lookup x = some .local := by first | exact .inl rfl | exact .inr rfl | assumption) :
    PS X (.Assign [.Name x pos'] e pos) (tAsg te (gName i)) := by
  intro pins s σ H D I h
  refine wpAny_Assign_Name (thn (he pins s σ H _ I h) fun v s1 ⟨y, H1, I1, r1, q1⟩ => ?_) hs
  exact store_ok I1 hN hi hx r1 (fun s2 I2 => ⟨_, H1, I2, q1⟩) hf
/-- a, b = x, y with plain local names: stored from the right; the pair itself is not tracked (the opening rows as in PyProof/Rows/TupAssign.lean:23) -/
def tPar (i j : Nat) (ta : TA) : TS := fun D σ H => ta σ H fun vs H1 => ∃ v w, vs = [v, w] ∧ D.nx ((σ.set i (some v)).set j (some w)) H1
/-- name op= e -/
def tAug (i : Nat) (te : TE) (ti : TIp) : TS := fun D σ H => ∃ x, σ[i]? = some (some x) ∧ te σ H fun y H1 => ti x y H1 fun z H2 => D.nx (σ.set i (some z)) H2
/-- o[i] op= e -/
def tAugS (to ti te : TE) (tget : V → V → Hp → VK → Prop) (tip : TIp) (tset : TSet) : TS := fun D σ H => to σ H fun o H1 => ti σ H1 fun i H2 => tget o i H2 fun x H3 => te σ H3 fun y H4 => tip x y H4 fun z H5 => tset o i z H5 fun H6 => D.nx σ H6
/-- o[i], by values -/
def PGet (X : Cx) (t : V → V → Hp → VK → Prop) : Prop :=
  ∀ (pins : List (Addr × Obj)) (s : Shared) (σ : St) (H : Hp) (o i : V) (ov iv : Value) (Q : VK), Inv X pins σ H s → RelV o ov → RelV i iv → t o i H Q →
    wpAny (model X.prog X.w) X.A (getItem ov iv) (EP X pins σ Q) X.xe s
/-- ints -/
def ipI (f : Int → Int → Int) : TIp := fun x y H Q => ∃ i j, x = .int i ∧ y = .int j ∧ Q (.int (f i j)) H
end

/-! ### while -/
section
variable {X : Cx} {pos : Pos}
/-- the invariant W with its measure -/
def tWhile (c : TT) (tb : TS) : TS := fun D σ H => ∃ W : Nat → St → Hp → Prop, (∃ m, W m σ H) ∧ ∀ m σ H, W m σ H →
  c σ H fun b H1 => if b = true then ∃ N : St → Hp → Prop, (∀ σ' H', N σ' H' → ∃ m', m' < m ∧ W m' σ' H') ∧ tb { D with nx := N, ct := N, bk := D.nx } σ H1 else D.nx σ H1
theorem ps_while {c : Expr} {body : List Stmt} {tc : TT} {tb : TS} (hp : PassesOwn (model X.prog X.w) X.A X.env X.xe) (hc : PT X c tc) (hb : PSs X body tb) : PS X (.While c body [] pos) (tWhile tc tb) := by
  intro pins s σ H D I h
  obtain ⟨W, ⟨m0, w0⟩, turn⟩ := h
  refine wpAny_While (codeAny_whileLoop (fun n s' => ∃ σ' H', Inv X pins σ' H' s' ∧ W n σ' H') ?_ m0 ⟨σ, H, I, w0⟩)
  rintro n s1 ⟨σ1, H1, I1, w1⟩
  refine wpAny_passesOwn hp (thn (hc pins s1 σ1 H1 _ I1 (turn n σ1 H1 w1)) fun b s2 ⟨H2, I2, q2⟩ => ?_)
  cases b with
  | true =>
    obtain ⟨N, hN, q2⟩ := q2
    rw [if_pos rfl]
    refine wpAny_passesOwn hp (thn (hb pins s2 σ1 H2 _ I2 q2) fun f s3 q3 => ?_)
    cases f with
    | next =>
      obtain ⟨σ3, H3, I3, n3⟩ := q3
      obtain ⟨m', hm, w3⟩ := hN σ3 H3 n3
      exact ⟨m', hm, σ3, H3, I3, w3⟩
    | cont =>
      obtain ⟨σ3, H3, I3, n3⟩ := q3
      obtain ⟨m', hm, w3⟩ := hN σ3 H3 n3
      exact ⟨m', hm, σ3, H3, I3, w3⟩
    | brk => exact q3
    | ret v => exact q3
  | false =>
    rw [if_neg Bool.false_ne_true]
    exact wpAny_execs_nil ⟨σ1, H2, I2, q2⟩
end

/-! ### what a loop or a comprehension walks -/
/-- at turn i: it yields x (the heap may grow), or it stops -/
structure It where
  go : Nat → Hp → Prop
  yld : Nat → Hp → V → Hp → Prop
  stop : Nat → Hp → Prop
/-- the iterator's own objects may turn: they are not the frame's, not pinned, younger than the entry (or a comprehension's own) -/
def FpOk (X : Cx) (pins : List (Addr × Obj)) (H : Hp) (b : Addr) : Prop :=
  H b = none ∧ b ≠ X.env.locals ∧ b ∉ X.fs ∧ (b ∈ X.ex ∨ X.s₀.heap.objs.size ≤ b) ∧ (∀ x c, X.env.cells.lookup x = some c → c ≠ b) ∧ ∀ p ∈ X.pn ++ pins, p.1 ≠ b
theorem Inv.fpOk {X : Cx} {pins : List (Addr × Obj)} {σ : St} {H H' : Hp} {s : Shared} {b : Addr} (I : Inv X pins σ H s) (hb : s.heap.objs.size ≤ b) (hn : H' b = none) : FpOk X pins H' b := by
  refine ⟨hn, Nat.ne_of_gt (Nat.lt_of_lt_of_le I.lt hb), I.nofs hb, .inr (Nat.le_trans I.sz hb), fun x c e z => ?_, fun p hp z => ?_⟩
  · obtain ⟨v, q⟩ := I.cell x c e
    exact absurd (Nat.lt_of_lt_of_le q.lt (by rw [z]; exact hb)) (Nat.lt_irrefl _)
  · exact absurd (Nat.lt_of_lt_of_le (Heap.lt_size (I.pin p hp).1) (by rw [z]; exact hb)) (Nat.lt_irrefl _)
structure Turn (P : Program) (w : World) (K : PySem.W.Frag) (tg : Expr) (J : It) (fp : List Addr) (it : Addr) (tn : Nat → Heap → Prop) : Prop where
  mem : it ∈ fp
  obj : ∀ i h, tn i h → ∀ b ∈ fp, ∃ o, h.get? b = some o ∧ ∀ v, o.data ≠ .cell v
  keep : ∀ i h h', tn i h → (∀ b ∈ fp, ∀ o, h.get? b = some o → h'.get? b = some o) → tn i h'
  item : ∀ (X : Cx), X.prog = P → X.w = w → X.K = K → X.calm = true → ∀ (i : Nat) (pins : List (Addr × Obj)) (s : Shared) (σ : St) (H : Hp) (E : Value → Shared → Prop), Inv X pins σ H s → (∀ b ∈ fp, FpOk X pins H b) → tn i s.heap → J.go i H →
    wpAny (model P w) X.A (pyNext (.ref it)) (fun r s1 => ∃ u, r = some u ∧
      wpAny (model P w) X.A (letOwnedTupleGo tg (.ref it) u) (fun _ s2 => ∃ x H', Inv X pins σ H' s2 ∧ RelV x u ∧ J.yld i H x H' ∧ tn (i + 1) s2.heap ∧ ∀ b ∈ fp, H' b = none) E s1) E s
  done : ∀ (X : Cx), X.prog = P → X.w = w → X.K = K → X.calm = true → ∀ (i : Nat) (pins : List (Addr × Obj)) (s : Shared) (σ : St) (H : Hp) (E : Value → Shared → Prop), Inv X pins σ H s → (∀ b ∈ fp, FpOk X pins H b) → tn i s.heap → J.stop i H →
    wpAny (model P w) X.A (pyNext (.ref it)) (fun r s1 => r = none ∧ Inv X pins σ H s1) E s
  self : ∀ (A : Around) (i : Nat) (s : Shared) (Q : Value → Shared → Prop) (E : Value → Shared → Prop), tn i s.heap → Q (.ref it) s → wpAny (model P w) A (pyIter (.ref it)) Q E s
abbrev TI := St → Hp → (It → Hp → Prop) → Prop
/-- an iterator has come -/
def PIE (X : Cx) (pins : List (Addr × Obj)) (σ : St) (tg : Expr) (R : It → Hp → Prop) (itv : Value) (s2 : Shared) : Prop :=
  ∃ (it : Addr) (fp : List Addr) (tn : Nat → Heap → Prop) (J : It) (H' : Hp), itv = .ref it ∧ Inv X pins σ H' s2 ∧ Turn X.prog X.w X.K tg J fp it tn ∧ tn 0 s2.heap ∧ (∀ b ∈ fp, FpOk X pins H' b) ∧ R J H'
def PI (X : Cx) (tg iter : Expr) (wi : TI) : Prop :=
  ∀ (pins : List (Addr × Obj)) (s : Shared) (σ : St) (H : Hp) (R : It → Hp → Prop), Inv X pins σ H s → wi σ H R →
    wpAny (model X.prog X.w) X.A (eval iter X.env) (fun v s1 => wpAny (model X.prog X.w) X.A (pyIter v) (PIE X pins σ tg R) X.xe s1) X.xe s

/-- the step ahead of the store is nothing for an iterator that keeps no tuple -/
theorem go_of {M : Model} {A : Around} {E : Value → Shared → Prop} {s : Shared} {tg : Expr} {it : Addr} {u : Value} {o : Obj} {n : String} {vs : Array Value} {Q : Unit → Shared → Prop} (ho : s.heap.get? it = some o) (hc : o.cls = .type n) (hd : o.data = .fields vs)
    (hn : ["enumerate", "zip", "dict_itemiterator", "dict_reverseitemiterator", "odict_iterator", "itertools.zip_longest", "itertools.pairwise"].contains n = false) (hQ : Q () s) : wpAny M A (letOwnedTupleGo tg (.ref it) u) Q E s := by
  unfold letOwnedTupleGo
  cases tg <;> first
    | exact wpAny_pure hQ
    | (cases u <;> first
        | exact wpAny_pure hQ
        | (refine wpAny_bind (wpAny_load ho ?_)
           rw [hc, hd]
           show wpAny M A (if (["enumerate", "zip", "dict_itemiterator", "dict_reverseitemiterator", "odict_iterator", "itertools.zip_longest", "itertools.pairwise"].contains n && vs[0]? == some (rawInt _)) = true then _ else _) Q E s
           rw [if_neg (by intro h; rw [hn, Bool.false_and] at h; cases h)]
           exact wpAny_pure hQ))

/-- the list at a, as it stands at each turn (a loop may append to it) -/
def Itl (K : PySem.W.Frag) (a : Addr) : It :=
  ⟨fun i H => ∃ xs x, SqL K H a xs ∧ xs[i]? = some x, fun i H x H' => H' = H ∧ ∀ xs, SqL K H a xs → xs[i]? = some x, fun i H => ∃ xs, SqL K H a xs ∧ xs.length ≤ i⟩
def Itt (K : PySem.W.Frag) (a : Addr) : It :=
  ⟨fun i H => ∃ xs x, SqT K H a xs ∧ xs[i]? = some x, fun i H x H' => H' = H ∧ ∀ xs, SqT K H a xs → xs[i]? = some x, fun i H => ∃ xs, SqT K H a xs ∧ xs.length ≤ i⟩
/-- lo, lo + 1, .. (n of them) -/
def Itr (lo : Int) (n : Nat) : It := ⟨fun i _ => i < n, fun i H x H' => H' = H ∧ x = .int (lo + i), fun i _ => n ≤ i⟩
theorem turn_list {P : Program} {w : World} {K : PySem.W.Frag} {tg : Expr} (a it : Addr) : Turn P w K tg (Itl K a) [it] it (fun i h => h.IsListIter it a i) where
  mem := by simp
  obj := fun i h st b hb => by
    have e : b = it := by simpa using hb
    subst e
    obtain ⟨o, e, c, d⟩ := st
    exact ⟨o, e, fun v z => by rw [d] at z; cases z⟩
  keep := fun i h h' st k => st.at fun o e => k it (by simp) o e
  item := by
    intro X hP hw hK hc i pins s σ H E I hf st hg
    subst hP hw hK
    obtain ⟨xs, x, hq, hx⟩ := hg
    obtain ⟨its, rv, p, hz⟩ := I.list hq
    obtain ⟨u, hu, ru⟩ := rv.get hx
    obtain ⟨f0, f1, f2, f3, f4, f5⟩ := hf it (by simp)
    refine wpAny_pyNext_list_item st p.isList (x := u) (by simpa using hu) fun h' st' sb => ?_
    have I1 : Inv X pins σ H { s with heap := h' } := I.turned (t' := s.toks) (fun b o hb e => (sb.2 b hb).trans e) f0 f1 f3 f4 f5
    obtain ⟨o, e, c, d⟩ := id st'
    exact ⟨u, rfl, go_of (s := { s with heap := h' }) e c d (by decide) ⟨x, H, I1, ru, ⟨rfl, fun ys hy => by rw [I.list_inj hy hq]; exact hx⟩, st', fun b hb => (hf b hb).1⟩⟩
  done := by
    intro X hP hw hK hc i pins s σ H E I hf st hg
    subst hP hw hK
    obtain ⟨xs, hq, hx⟩ := hg
    obtain ⟨its, rv, p, hz⟩ := I.list hq
    obtain ⟨f0, f1, f2, f3, f4, f5⟩ := hf it (by simp)
    have hl := rv.length
    exact wpAny_pyNext_list_end (I.ok.hd hc) st p.isList (by simp; omega) fun h' eb => ⟨rfl, I.turned (t' := s.toks) (fun b o hb e => eb b o hb e) f0 f1 f3 f4 f5⟩
  self := fun _ _ _ _ _ st h => wpAny_pyIter_listiter st h
theorem turn_range {P : Program} {w : World} {K : PySem.W.Frag} {tg : Expr} (it : Addr) (lo : Int) (n : Nat) : Turn P w K tg (Itr lo n) [it] it (fun i h => IsRangeIter h it (lo + (i : Nat) * 1) ((n : Int) - (i : Nat)) 1) where
  mem := by simp
  obj := fun i h st b hb => by
    have e : b = it := by simpa using hb
    subst e
    exact ⟨_, st, fun v z => by
      have z' : Data.fields _ = Data.cell v := z
      cases z'⟩
  keep := fun i h h' st k => k it (by simp) _ st
  item := by
    intro X hP hw hK hc i pins s σ H E I hf st hg
    subst hP hw hK
    obtain ⟨f0, f1, f2, f3, f4, f5⟩ := hf it (by simp)
    have W := Walks.range (prog := X.prog) (w := X.w) (I.ok.hd hc) it lo 1 n
    refine W.item i s _ _ hg st fun v h' tk hv st' kk => ?_
    obtain ⟨t, rfl⟩ := hv
    have I1 : Inv X pins σ H { s with heap := h', toks := tk } := I.turned (fun b o hb e => kk b o (by simpa using hb) e) f0 f1 f3 f4 f5
    refine ⟨_, rfl, go_of (s := { s with heap := h', toks := tk }) (n := "range_iterator") st' rfl rfl (by decide) ⟨.int (lo + i), H, I1, ⟨t, ?_⟩, ⟨rfl, rfl⟩, st', fun b hb => (hf b hb).1⟩⟩
    rw [Int.mul_one]
  done := by
    intro X hP hw hK hc i pins s σ H E I hf st hg
    subst hP hw hK
    obtain ⟨f0, f1, f2, f3, f4, f5⟩ := hf it (by simp)
    exact wpAny_pyNext_range_end (I.ok.hd hc) st (by have : n ≤ i := hg; omega) fun h' eb => ⟨rfl, I.turned (t' := s.toks) (fun b o hb e => eb b o hb e) f0 f1 f3 f4 f5⟩
  self := fun _ _ _ _ _ st h => wpAny_pyIter_rangeiter st h
end L2

namespace L2
open PySem PySem.Spec PyProof.Rows
section
variable {X : Cx} {tg : Expr}
def iList (K : PySem.W.Frag) (tl : TE) : TI := fun σ H R => tl σ H fun x H1 => ∃ a, x = .ref a ∧ (∃ xs, SqL K H1 a xs) ∧ R (Itl K a) H1
def iTup (K : PySem.W.Frag) (tl : TE) : TI := fun σ H R => tl σ H fun x H1 => ∃ a, x = .ref a ∧ (∃ xs, SqT K H1 a xs) ∧ R (Itt K a) H1
theorem pi_list {l : Expr} {tl : TE} (hl : PE X l tl) : PI X tg l (iList X.K tl) := by
  intro pins s σ H R I h
  refine thn (hl pins s σ H _ I h) fun v s1 ⟨x, H1, I1, r1, q1⟩ => ?_
  obtain ⟨a, e, ⟨xs, hq⟩, q⟩ := q1
  subst e
  cases r1
  obtain ⟨its, rv, p, hz⟩ := I1.list hq
  refine wpAny_pyIter_list p.isList ?_
  refine ⟨s1.heap.objs.size, [s1.heap.objs.size], _, _, H1, rfl, I1.kept (t' := s1.toks) fun b o e => Heap.get?_push_of_some _ e, turn_list a _, ⟨_, Heap.get?_push_size _ rfl, rfl, rfl⟩, fun b hb => ?_, q⟩
  have e : b = s1.heap.objs.size := by simpa using hb
  subst e
  exact I1.fpOk (Nat.le_refl _) (I1.hok.fresh (Nat.le_refl _))
/-- a range object just made, walked -/
theorem range_it {pins : List (Addr × Obj)} {σ : St} {H : Hp} {s : Shared} {R : It → Hp → Prop} {E : Value → Shared → Prop} {lo hi : Int} {t u v : Tok} {tk : Nat} (I : Inv X pins σ H s) (h1 : -(2 ^ 62) ≤ lo) (h2 : lo < 2 ^ 62) (h3 : -(2 ^ 62) ≤ hi) (h4 : hi < 2 ^ 62)
    (q : R (Itr lo (hi - lo).toNat) H) : wpAny (model X.prog X.w) X.A (pyIter (.ref s.heap.objs.size)) (PIE X pins σ tg R) E { s with heap := s.heap.push { cls := .type "range", data := .fields #[.int lo t, .int hi u, .int 1 v] }, toks := tk } := by
  refine wpAny_pyIter_range (IsRange.new ..) (small_one h1 h2 h3 h4) ?_
  have I1 : Inv X pins σ H { s with heap := s.heap.push { cls := .type "range", data := .fields #[.int lo t, .int hi u, .int 1 v] }, toks := tk } := I.kept fun b o e => Heap.get?_push_of_some _ e
  refine ⟨(s.heap.push { cls := .type "range", data := .fields #[.int lo t, .int hi u, .int 1 v] }).objs.size, [(s.heap.push { cls := .type "range", data := .fields #[.int lo t, .int hi u, .int 1 v] }).objs.size], _, _, H, rfl,
    I1.kept (t' := tk) fun b o e => Heap.get?_push_of_some _ e, turn_range _ lo (hi - lo).toNat, ?_, fun b hb => ?_, q⟩
  · have e1 : lo + ((0 : Nat) : Int) * 1 = lo := by simp
    have e2 : (((hi - lo).toNat : Nat) : Int) - ((0 : Nat) : Int) = Builtin.Range.rangeSize lo hi 1 := by rw [rangeSize_one]; split <;> omega
    show IsRangeIter _ _ (lo + ((0 : Nat) : Int) * 1) ((((hi - lo).toNat : Nat) : Int) - ((0 : Nat) : Int)) 1
    rw [e1, e2]
    exact Heap.get?_push_size _ rfl
  · have e : b = (s.heap.push { cls := .type "range", data := .fields #[.int lo t, .int hi u, .int 1 v] }).objs.size := by simpa using hb
    subst e
    exact I1.fpOk (Nat.le_refl _) (I1.hok.fresh (Nat.le_refl _))
inductive RRng1 (vs : List V) (Q : Int → Prop) : Prop where | mk (j : Int) (e : vs = [.int j]) (h : -(2 ^ 62) ≤ j) (h' : j < 2 ^ 62) (q : Q j) : RRng1 vs Q
inductive RRng2 (vs : List V) (Q : Int → Int → Prop) : Prop where | mk (i j : Int) (e : vs = [.int i, .int j]) (h : -(2 ^ 62) ≤ i ∧ i < 2 ^ 62 ∧ -(2 ^ 62) ≤ j ∧ j < 2 ^ 62) (q : Q i j) : RRng2 vs Q
def iRng1 (ta : TA) : TI := fun σ H R => ta σ H fun vs H1 => RRng1 vs fun j => R (Itr 0 j.toNat) H1
def iRng2 (ta : TA) : TI := fun σ H R => ta σ H fun vs H1 => RRng2 vs fun i j => R (Itr i (j - i).toNat) H1
theorem pi_range1 {a : Expr} {ta : TA} {p pos : Pos} (hg : Gl X "range") (hm : X.mg "range" = none) (ha : PA X [a] ta) (hs : starEach [a] X.env = [(false, eval a X.env)] := by rfl) : PI X tg (.Call (.Name "range" p) [a] [] pos) (iRng1 ta) := by
  intro pins s σ H R I h
  refine Call_ (ld_blt I hg hm boot_range (PyProof.Rows.callWith_type1 (thn (ha pos pins s σ H _ I h) fun us s1 ⟨vs, H1, I1, r1, q1⟩ => ?_) hs rfl))
  obtain ⟨j, e, q1, q2, q⟩ := q1
  subst e
  cases r1 with
  | cons r rr =>
    cases rr
    obtain ⟨t, rfl⟩ := r
    exact call_range_1 (range_it I1 (by omega) (by omega) q1 q2 (by simpa using q))
theorem pi_range2 {a b : Expr} {ta : TA} {p pos : Pos} (hg : Gl X "range") (hm : X.mg "range" = none) (ha : PA X [a, b] ta) (hs : starEach [a, b] X.env = [(false, eval a X.env), (false, eval b X.env)] := by rfl) (hs2 : starEach [b] X.env = [(false, eval b X.env)] := by rfl) :
    PI X tg (.Call (.Name "range" p) [a, b] [] pos) (iRng2 ta) := by
  intro pins s σ H R I h
  refine Call_ (ld_blt I hg hm boot_range (PyProof.Rows.callWith_type1 (thn (ha pos pins s σ H _ I h) fun us s1 ⟨vs, H1, I1, r1, q1⟩ => ?_) (by rw [hs, hs2]) (by rw [hs2]; rfl)))
  obtain ⟨i, j, e, ⟨q1, q2, q3, q4⟩, q⟩ := q1
  subst e
  cases r1 with
  | cons r rr =>
    cases rr with
    | cons r' rr =>
      cases rr
      obtain ⟨t, rfl⟩ := r
      obtain ⟨t', rfl⟩ := r'
      exact call_range_2 (range_it I1 q1 q2 q3 q4 q)

/-! ### for -/
/-- W: the invariant by the turn and a measure; N: what the body is to reach -/
def tFor (wi : TI) (g : TG) (tb : TS) : TS := fun D σ H => wi σ H fun J H1 => ∃ W : Nat → Nat → St → Hp → Prop, (∃ m, W 0 m σ H1) ∧ ∀ i m σ H, W i m σ H →
  (J.stop i H ∧ D.nx σ H) ∨ (J.go i H ∧ ∃ N : St → Hp → Prop, (∀ σ' H', N σ' H' → ∃ m', m' < m ∧ W (i + 1) m' σ' H') ∧ ∀ x H', J.yld i H x H' → g x σ H' fun σ2 H2 => tb { D with nx := N, ct := N, bk := D.nx } σ2 H2)
/-- the records at fp as they stand -/
def pinsAt (fp : List Addr) (h : Heap) : List (Addr × Obj) := fp.filterMap fun b => (h.get? b).map fun o => (b, o)
theorem mem_pinsAt {fp : List Addr} {h : Heap} {b : Addr} {o : Obj} (hb : b ∈ fp) (e : h.get? b = some o) : (b, o) ∈ pinsAt fp h := List.mem_filterMap.mpr ⟨b, hb, by rw [e]; rfl⟩
theorem of_pinsAt {fp : List Addr} {h : Heap} {p : Addr × Obj} (hp : p ∈ pinsAt fp h) : p.1 ∈ fp ∧ h.get? p.1 = some p.2 := by
  obtain ⟨b, hb, e⟩ := List.mem_filterMap.mp hp
  cases q : h.get? b with
  | none => rw [q] at e; cases e
  | some o =>
    rw [q] at e
    have e' : (b, o) = p := Option.some.inj e
    subst e'
    exact ⟨hb, q⟩
theorem Inv.pinned {pins : List (Addr × Obj)} {σ : St} {H : Hp} {s : Shared} {fp : List Addr} (I : Inv X pins σ H s) (hf : ∀ b ∈ fp, FpOk X pins H b) (ho : ∀ b ∈ fp, ∃ o, s.heap.get? b = some o ∧ ∀ v, o.data ≠ .cell v) : Inv X (pins ++ pinsAt fp s.heap) σ H s :=
  I.pins_of fun p hp => (List.mem_append.mp hp).elim (fun z => I.pin p (List.mem_append_right _ z)) fun z => by
    obtain ⟨hb, e⟩ := of_pinsAt z
    obtain ⟨f0, f1, f2, _⟩ := hf p.1 hb
    obtain ⟨o, e', d⟩ := ho p.1 hb
    rw [e] at e'; cases e'
    exact ⟨e, f0, f1, f2, d⟩
theorem Inv.unpinned {pins pl : List (Addr × Obj)} {σ : St} {H : Hp} {s : Shared} (I : Inv X (pins ++ pl) σ H s) : Inv X pins σ H s := I.pins_of fun p hp => I.pin p (List.mem_append_right _ (List.mem_append_left _ hp))
theorem ps_for {iter : Expr} {body : List Stmt} {wi : TI} {g : TG} {tb : TS} {pos : Pos} (hp : PassesOwn (model X.prog X.w) X.A X.env X.xe) (hc : X.calm = true) (hi : PI X tg iter wi) (hg : PG X tg g) (hb : PSs X body tb)
    (hs : ∀ x, foldedSetIterable iter X.env x = pure x := by intro _; rfl) : PS X (.For tg iter body [] pos) (tFor wi g tb) := by
  intro pins s σ H D I h
  refine wpAny_For (thn (hi pins s σ H _ I h) fun v s1 h1 => thn h1 fun itv s2 h2 => ?_) hs
  obtain ⟨it, fp, tn, J, H2, e, I2, T, st2, f2, W, ⟨m0, w0⟩, turn⟩ := h2
  subst e
  -- what stays true of the iterator's objects through the loop
  have stat : ∀ {H' : Hp}, (∀ b ∈ fp, H' b = none) → ∀ b ∈ fp, FpOk X pins H' b := fun hn b hb => ⟨hn b hb, (f2 b hb).2⟩
  refine codeAny_forLoop_any (fun n s' => ∃ i σ' H', Inv X pins σ' H' s' ∧ tn i s'.heap ∧ (∀ b ∈ fp, H' b = none) ∧ W i n σ' H') ?_ m0 ⟨0, σ, H2, I2, st2, fun b hb => (f2 b hb).1, w0⟩
  rintro n s3 ⟨i, σ3, H3, I3, st3, fr3, w3⟩
  rcases turn i n σ3 H3 w3 with ⟨stop, qn⟩ | ⟨go, N, hN, step⟩
  · refine wpAny_passesOwn hp (thn (T.done X rfl rfl rfl hc i pins s3 σ3 H3 X.xe I3 (stat fr3) st3 stop) fun r s4 ⟨hr, I4⟩ => ?_)
    subst hr
    exact wpAny_execs_nil ⟨σ3, H3, I4, qn⟩
  · refine wpAny_passesOwn hp (thn (T.item X rfl rfl rfl hc i pins s3 σ3 H3 X.xe I3 (stat fr3) st3 go) fun r s4 ⟨u, hr, h4⟩ => ?_)
    subst hr
    refine wpAny_passesOwn hp (thn h4 fun _ s5 ⟨x, H5, I5, r5, y5, st5, fr5⟩ => ?_)
    have I5' := I5.pinned (stat fr5) (T.obj _ _ st5)
    refine wpAny_passesOwn hp (thn (hg _ s5 σ3 H5 x u _ I5' r5 (step x H5 y5)) fun _ s6 ⟨σ6, H6, I6, q6⟩ => ?_)
    refine wpAny_passesOwn hp (thn (hb _ s6 σ6 H6 _ I6 q6) fun f s7 q7 => ?_)
    have again : ∀ {σ7 : St} {H7 : Hp}, Inv X (pins ++ pinsAt fp s5.heap) σ7 H7 s7 → N σ7 H7 → ∃ m, m < n ∧ ∃ i σ' H', Inv X pins σ' H' s7 ∧ tn i s7.heap ∧ (∀ b ∈ fp, H' b = none) ∧ W i m σ' H' := fun {σ7 H7} I7 n7 => by
      obtain ⟨m', hm, w7⟩ := hN σ7 H7 n7
      refine ⟨m', hm, i + 1, σ7, H7, I7.unpinned, T.keep _ _ _ st5 fun b hb o e => (I7.pin (b, o) (List.mem_append_right _ (List.mem_append_right _ (mem_pinsAt hb e)))).1, fun b hb => ?_, w7⟩
      obtain ⟨o, e, d⟩ := T.obj _ _ st5 b hb
      exact (I7.pin (b, o) (List.mem_append_right _ (List.mem_append_right _ (mem_pinsAt hb e)))).2.1
    cases f with
    | next => obtain ⟨σ7, H7, I7, n7⟩ := q7; exact again I7 n7
    | cont => obtain ⟨σ7, H7, I7, n7⟩ := q7; exact again I7 n7
    | brk => obtain ⟨σ7, H7, I7, q7⟩ := q7; exact ⟨σ7, H7, I7.unpinned, q7⟩
    | ret v => obtain ⟨x7, σ7, H7, I7, r7, q7⟩ := q7; exact ⟨x7, σ7, H7, I7.unpinned, r7, q7⟩
end

/-! ### the forms one uses -/
/-- over a list that the body leaves as it is -/
theorem for_list {K : PySem.W.Frag} {a : Addr} {xs : List V} {g : TG} {tb : TS} {D : Ends} {σ : St} {H : Hp} (Pv : Nat → St → Hp → Prop) (h0 : Pv 0 σ H) (hl : ∀ i σ H, i ≤ xs.length → Pv i σ H → SqL K H a xs)
    (hs : ∀ i x σ H, xs[i]? = some x → Pv i σ H → g x σ H fun σ2 H2 => tb { D with nx := Pv (i + 1), ct := Pv (i + 1), bk := D.nx } σ2 H2) (hd : ∀ σ H, Pv xs.length σ H → D.nx σ H) :
    ∃ W : Nat → Nat → St → Hp → Prop, (∃ m, W 0 m σ H) ∧ ∀ i m σ H, W i m σ H →
      ((Itl K a).stop i H ∧ D.nx σ H) ∨ ((Itl K a).go i H ∧ ∃ N : St → Hp → Prop, (∀ σ' H', N σ' H' → ∃ m', m' < m ∧ W (i + 1) m' σ' H') ∧ ∀ x H', (Itl K a).yld i H x H' → g x σ H' fun σ2 H2 => tb { D with nx := N, ct := N, bk := D.nx } σ2 H2) := by
  refine ⟨fun i m σ H => m = xs.length - i ∧ i ≤ xs.length ∧ Pv i σ H, ⟨xs.length, by simp, Nat.zero_le _, h0⟩, ?_⟩
  rintro i m σ H ⟨rfl, hi, p⟩
  have q := hl i σ H hi p
  by_cases hlt : i < xs.length
  · refine .inr ⟨⟨xs, xs[i], q, by simp [hlt]⟩, Pv (i + 1), fun σ' H' p' => ⟨xs.length - (i + 1), by omega, rfl, hlt, p'⟩, fun x H' y => ?_⟩
    obtain ⟨e, y⟩ := y
    subst e
    exact hs i x σ _ (y xs q) p
  · have e : i = xs.length := by omega
    subst e
    exact .inl ⟨⟨xs, q, Nat.le_refl _⟩, hd σ H p⟩
theorem for_range {lo : Int} {n : Nat} {g : TG} {tb : TS} {D : Ends} {σ : St} {H : Hp} (Pv : Nat → St → Hp → Prop) (h0 : Pv 0 σ H)
    (hs : ∀ i σ H, i < n → Pv i σ H → g (.int (lo + i)) σ H fun σ2 H2 => tb { D with nx := Pv (i + 1), ct := Pv (i + 1), bk := D.nx } σ2 H2) (hd : ∀ σ H, Pv n σ H → D.nx σ H) :
    ∃ W : Nat → Nat → St → Hp → Prop, (∃ m, W 0 m σ H) ∧ ∀ i m σ H, W i m σ H →
      ((Itr lo n).stop i H ∧ D.nx σ H) ∨ ((Itr lo n).go i H ∧ ∃ N : St → Hp → Prop, (∀ σ' H', N σ' H' → ∃ m', m' < m ∧ W (i + 1) m' σ' H') ∧ ∀ x H', (Itr lo n).yld i H x H' → g x σ H' fun σ2 H2 => tb { D with nx := N, ct := N, bk := D.nx } σ2 H2) := by
  refine ⟨fun i m σ H => m = n - i ∧ i ≤ n ∧ Pv i σ H, ⟨n, by simp, Nat.zero_le _, h0⟩, ?_⟩
  rintro i m σ H ⟨rfl, hi, p⟩
  by_cases hlt : i < n
  · refine .inr ⟨hlt, Pv (i + 1), fun σ' H' p' => ⟨n - (i + 1), by omega, rfl, hlt, p'⟩, fun x H' y => ?_⟩
    obtain ⟨e, y⟩ := y
    subst e y
    exact hs i σ _ hlt p
  · have e : i = n := by omega
    subst e
    exact .inl ⟨Nat.le_refl _, hd σ H p⟩
end L2

namespace L2
open PySem PySem.Spec PyProof.Rows

abbrev R2 := V → V → Hp → VK → Prop
/-- a two-place operation on values: f is binaryOp op, inplaceOp op or compareOp op -/
def OpR (X : Cx) (f : Value → Value → Sem Value) (r : R2) : Prop :=
  ∀ (pins : List (Addr × Obj)) (s : Shared) (σ : St) (H : Hp) (x y : V) (v u : Value) (Q : VK), Inv X pins σ H s → RelV x v → RelV y u → r x y H Q →
    wpAny (model X.prog X.w) X.A (f v u) (EP X pins σ Q) X.xe s
/-- a one-place operation -/
def UnR (X : Cx) (f : Value → Sem Value) (r : V → Hp → VK → Prop) : Prop :=
  ∀ (pins : List (Addr × Obj)) (s : Shared) (σ : St) (H : Hp) (x : V) (v : Value) (Q : VK), Inv X pins σ H s → RelV x v → r x H Q →
    wpAny (model X.prog X.w) X.A (f v) (EP X pins σ Q) X.xe s
/-- a call of a value that is known (a builtin, a type) with values -/
def CallR (X : Cx) (f : Value) (r : List V → Hp → VK → Prop) : Prop :=
  ∀ (pins : List (Addr × Obj)) (s : Shared) (σ : St) (H : Hp) (xs : List V) (us : List Value) (Q : VK), Inv X pins σ H s → Vals xs us → r xs H Q →
    wpAny (model X.prog X.w) X.A (call f us) (EP X pins σ Q) X.xe s
/-- a value's truth -/
def TruR (X : Cx) (r : V → Hp → (Bool → Hp → Prop) → Prop) : Prop :=
  ∀ (pins : List (Addr × Obj)) (s : Shared) (σ : St) (H : Hp) (x : V) (v : Value) (Q : Bool → Hp → Prop), Inv X pins σ H s → RelV x v → r x H Q →
    wpAny (model X.prog X.w) X.A (truthy v) (TP X pins σ Q) X.xe s

def tOp (r : R2) (ta tb : TE) : TE := fun σ H Q => ta σ H fun x H1 => tb σ H1 fun y H2 => r x y H2 Q
def tUn (r : V → Hp → VK → Prop) (ta : TE) : TE := fun σ H Q => ta σ H fun x H1 => r x H1 Q
/-- ints in, under C, and a value out -/
inductive RI2 (C : Int → Int → Prop) (g : Int → Int → V) (x y : V) (H : Hp) (Q : VK) : Prop where | mk (i j : Int) (e : x = .int i) (e' : y = .int j) (c : C i j) (q : Q (g i j) H) : RI2 C g x y H Q
def rI (C : Int → Int → Prop) (g : Int → Int → V) : R2 := fun x y H Q => RI2 C g x y H Q
inductive RI3 (g : Int → Int → V) (x y : V) (H : Hp) (Q : VK) : Prop where | mk (i j : Int) (e : x = .int i) (e' : y = .int j) (q : Q (g i j) H) : RI3 g x y H Q
def rI0 (g : Int → Int → V) : R2 := fun x y H Q => RI3 g x y H Q
def rU (g : Int → V) : V → Hp → VK → Prop := fun x H Q => ∃ i, x = .int i ∧ Q (g i) H

section
variable {X : Cx} {a b c : Expr} {ta tb tc : TE} {pos : Pos}

theorem binT (ha : PE X a ta) (hb : PE X b tb) {pins : List (Addr × Obj)} {s : Shared} {σ : St} {H : Hp} {R : V → V → Hp → Prop} (I : Inv X pins σ H s)
    (h : ta σ H fun x H1 => tb σ H1 fun y H2 => R x y H2) {Q : Value → Shared → Prop} {f : Value → Value → Sem Value}
    (hf : ∀ v u s2 x y H2, Inv X pins σ H2 s2 → RelV x v → RelV y u → R x y H2 → wpAny (model X.prog X.w) X.A (f v u) Q X.xe s2) :
    wpAny (model X.prog X.w) X.A (eval a X.env) (fun v s₁ => wpAny (model X.prog X.w) X.A (eval b X.env) (fun u s₂ => wpAny (model X.prog X.w) X.A (f v u) Q X.xe s₂) X.xe s₁) X.xe s := by
  refine thn (ha pins s σ H _ I h) fun v s1 ⟨x, H1, I1, r1, q1⟩ => ?_
  refine thn (hb pins s1 σ H1 _ I1 q1) fun u s2 ⟨y, H2, I2, r2, q2⟩ => ?_
  exact hf v u s2 x y H2 I2 r1 r2 q2

theorem pe_op {op : Operator} {r : R2} (ho : OpR X (binaryOp op) r) (ha : PE X a ta) (hb : PE X b tb) : PE X (.BinOp a op b pos) (tOp r ta tb) := by
  intro pins s σ H Q I h
  exact wpAny_BinOp (binT ha hb I h fun v u s2 x y H2 I2 rx ry q => ho pins s2 σ H2 x y v u Q I2 rx ry q)
theorem pe_un {op : UnaryOp} {r : V → Hp → VK → Prop} (ho : UnR X (unaryOp op) r) (ha : PE X a ta) : PE X (.UnaryOp op a pos) (tUn r ta) := by
  intro pins s σ H Q I h
  exact UnaryOp_ (thn (ha pins s σ H _ I h) fun v s1 ⟨x, H1, I1, r1, q1⟩ => ho pins s1 σ H1 x v Q I1 r1 q1)
/-! ### ints -/
theorem opI {f : Value → Value → Sem Value} {C : Int → Int → Prop} {g : Int → Int → Int}
    (rule : ∀ (i j : Int) (t u : Tok) (s : Shared) (Q : Value → Shared → Prop) (E : Value → Shared → Prop), C i j → Q (.int (g i j) s.toks) { s with toks := s.toks + 1 } → wpAny (model X.prog X.w) X.A (f (.int i t) (.int j u)) Q E s) :
    OpR X f (rI C fun i j => .int (g i j)) := by
  intro pins s σ H x y v u Q I rx ry h
  obtain ⟨i, j, rfl, rfl, hc, q⟩ := h
  obtain ⟨t, rfl⟩ := rx
  obtain ⟨t', rfl⟩ := ry
  exact rule i j t t' s _ _ hc ⟨.int (g i j), H, I.tok _, ⟨_, rfl⟩, q⟩
theorem opI0 {f : Value → Value → Sem Value} {g : Int → Int → Int}
    (rule : ∀ (i j : Int) (t u : Tok) (s : Shared) (Q : Value → Shared → Prop) (E : Value → Shared → Prop), Q (.int (g i j) s.toks) { s with toks := s.toks + 1 } → wpAny (model X.prog X.w) X.A (f (.int i t) (.int j u)) Q E s) :
    OpR X f (rI0 fun i j => .int (g i j)) := by
  intro pins s σ H x y v u Q I rx ry h
  obtain ⟨i, j, rfl, rfl, q⟩ := h
  obtain ⟨t, rfl⟩ := rx
  obtain ⟨t', rfl⟩ := ry
  exact rule i j t t' s _ _ ⟨.int (g i j), H, I.tok _, ⟨_, rfl⟩, q⟩
theorem opB0 {f : Value → Value → Sem Value} {g : Int → Int → Bool}
    (rule : ∀ (i j : Int) (t u : Tok) (s : Shared) (Q : Value → Shared → Prop) (E : Value → Shared → Prop), Q (.bool (g i j)) s → wpAny (model X.prog X.w) X.A (f (.int i t) (.int j u)) Q E s) :
    OpR X f (rI0 fun i j => .bl (g i j)) := by
  intro pins s σ H x y v u Q I rx ry h
  obtain ⟨i, j, rfl, rfl, q⟩ := h
  obtain ⟨t, rfl⟩ := rx
  obtain ⟨t', rfl⟩ := ry
  exact rule i j t t' s _ _ ⟨.bl (g i j), H, I, rfl, q⟩

def CDiv (i j : Int) : Prop := 0 < j ∧ j < 1073741824
def CDivN (i j : Int) : Prop := j ≠ 0 ∧ j.natAbs < 1073741824
def CPow (i j : Int) : Prop := 0 ≤ j ∧ j ≤ 1000000 ∧ i.natAbs < 2 ^ 64
def CMul (i j : Int) : Prop := (-(2 ^ 64) < i ∧ i < 2 ^ 64) ∨ (-(2 ^ 64) < j ∧ j < 2 ^ 64)
theorem CMul.ok {i j : Int} (h : CMul i j) : IntMulOk i j := by
  rcases h with ⟨h1, h2⟩ | ⟨h1, h2⟩
  · exact .of_left (intBits_le_64 h1 h2)
  · exact .of_right (intBits_le_64 h1 h2)
theorem op_add : OpR X (binaryOp .Add) (rI0 fun i j => .int (i + j)) := opI0 fun _ _ _ _ _ _ _ q => add_int q
theorem op_sub : OpR X (binaryOp .Sub) (rI0 fun i j => .int (i - j)) := opI0 fun _ _ _ _ _ _ _ q => sub_int q
theorem op_mul : OpR X (binaryOp .Mult) (rI CMul fun i j => .int (i * j)) := opI fun _ _ _ _ _ _ _ hc q => mul_int q hc.ok
/-- // by a positive divisor -/
theorem op_fdiv : OpR X (binaryOp .FloorDiv) (rI CDiv fun i j => .int (i / j)) := opI fun i j _ _ _ _ _ hc q => by
  have h1 : (0 : Int) < j := hc.1
  have h2 : j < 1073741824 := hc.2
  exact floordiv_int (by omega) (by rw [Int.fdiv_eq_ediv_of_nonneg i (by omega)]; exact q) (.inl (PyProof.noPylong_small (by omega)))
/-- % by a positive divisor of any size -/
theorem op_mod : OpR X (binaryOp .Mod) (rI (fun _ j => 0 < j) fun i j => .int (i % j)) := opI fun i j _ _ _ _ _ hc q => by
  have h1 : (0 : Int) < j := hc
  exact mod_int' (by omega) (by rw [Int.fmod_eq_emod_of_nonneg i (by omega)]; exact q)
theorem op_pow : OpR X (binaryOp .Pow) (rI CPow fun i j => .int (i ^ j.toNat)) := opI fun _ _ _ _ _ _ _ hc q => pow_int_small hc.1 hc.2.1 hc.2.2 q
theorem unI {f : Value → Sem Value} {g : Int → Int}
    (rule : ∀ (i : Int) (t : Tok) (s : Shared) (Q : Value → Shared → Prop) (E : Value → Shared → Prop), Q (.int (g i) s.toks) { s with toks := s.toks + 1 } → wpAny (model X.prog X.w) X.A (f (.int i t)) Q E s) :
    UnR X f (rU fun i => .int (g i)) := by
  intro pins s σ H x v Q I rx h
  obtain ⟨i, rfl, q⟩ := h
  obtain ⟨t, rfl⟩ := rx
  exact rule i t s _ _ ⟨.int (g i), H, I.tok _, ⟨_, rfl⟩, q⟩
theorem un_neg : UnR X (unaryOp .USub) (rU fun i => .int (-i)) := unI fun _ _ _ _ _ q => neg_int q
/-! ### bools among ints: n += (a < b) -/
end

/-! ### comparisons -/
/-- the scalars that == tells apart as data does -/
def scal : V → V → Bool
  | .non, .non => true | .non, .int _ => true | .int _, .non => true | .non, .bl _ => true | .bl _, .non => true | .non, .str _ => true | .str _, .non => true
  | .int _, .int _ => true | .bl _, .bl _ => true | .str _, .str _ => true | .byt _, .byt _ => true
  | .int _, .str _ => true | .str _, .int _ => true | .bl _, .str _ => true | .str _, .bl _ => true
  | _, _ => false
inductive REq (x y : V) (H : Hp) (Q : VK) : Prop where | mk (e : scal x y = true) (q : Q (.bl (decide (x = y))) H) : REq x y H Q
def rEq : R2 := fun x y H Q => REq x y H Q
inductive RNe (x y : V) (H : Hp) (Q : VK) : Prop where | mk (e : scal x y = true) (q : Q (.bl (!decide (x = y))) H) : RNe x y H Q
def rNe : R2 := fun x y H Q => RNe x y H Q

theorem dec_int {i j : Int} : decide (V.int i = V.int j) = (i == j) := by
  rw [Bool.eq_iff_iff]
  simp
theorem dec_bl {i j : Bool} : decide (V.bl i = V.bl j) = (i == j) := by
  rw [Bool.eq_iff_iff]
  simp
theorem dec_str {i j : Str} : decide (V.str i = V.str j) = (i == j) := by
  rw [Bool.eq_iff_iff]
  simp
theorem dec_byt {i j : Array UInt8} : decide (V.byt i = V.byt j) = (i.toList == j.toList) := by
  rw [Bool.eq_iff_iff]
  cases i
  cases j
  simp

section
variable {X : Cx} {a b c : Expr} {ta tb tc : TE} {pos : Pos}
theorem fin_bl {pins : List (Addr × Obj)} {σ : St} {H : Hp} {s : Shared} {Q : VK} {k k' : Bool} (I : Inv X pins σ H s) (q : Q (.bl k) H) (e : k = k') : EP X pins σ Q (.bool k') s := by
  subst e
  exact ⟨.bl k, H, I, rfl, q⟩
theorem op_eq : OpR X (compareOp .Eq) rEq := by
  intro pins s σ H x y v u Q I rx ry h
  obtain ⟨hs, q⟩ := h
  cases x with
  | non =>
    cases rx
    cases y with
    | non => cases ry; exact PySem.EqNone.eq_none_none (fin_bl I q (by simp))
    | bl j => cases ry; exact PySem.EqNone.eq_none_bool (fin_bl I q (by simp))
    | int j => obtain ⟨t', rfl⟩ := ry; exact PySem.EqNone.eq_none_int (fin_bl I q (by simp))
    | str j => obtain ⟨t', rfl⟩ := ry; exact PySem.EqNone.eq_none_str (fin_bl I q (by simp))
    | _ => exact absurd (show false = true from hs) Bool.false_ne_true
  | bl i =>
    cases rx
    cases y with
    | non => cases ry; exact PySem.EqNone.eq_bool_none (fin_bl I q (by simp))
    | bl j => cases ry; exact eq_bool (fin_bl I q dec_bl)
    | str j => obtain ⟨t', rfl⟩ := ry; exact PySem.EqMixed.eq_bool_str (fin_bl I q (by simp))
    | _ => exact absurd (show false = true from hs) Bool.false_ne_true
  | int i =>
    obtain ⟨t, rfl⟩ := rx
    cases y with
    | non => cases ry; exact PySem.EqNone.eq_int_none (fin_bl I q (by simp))
    | int j => obtain ⟨t', rfl⟩ := ry; exact eq_int (fin_bl I q dec_int)
    | str j => obtain ⟨t', rfl⟩ := ry; exact PySem.EqMixed.eq_int_str (fin_bl I q (by simp))
    | _ => exact absurd (show false = true from hs) Bool.false_ne_true
  | str i =>
    obtain ⟨t, rfl⟩ := rx
    cases y with
    | non => cases ry; exact PySem.EqNone.eq_str_none (fin_bl I q (by simp))
    | bl j => cases ry; exact PySem.EqMixed.eq_str_bool (fin_bl I q (by simp))
    | int j => obtain ⟨t', rfl⟩ := ry; exact PySem.EqMixed.eq_str_int (fin_bl I q (by simp))
    | str j => obtain ⟨t', rfl⟩ := ry; exact eq_str (fin_bl I q dec_str)
    | _ => exact absurd (show false = true from hs) Bool.false_ne_true
  | byt i =>
    obtain ⟨t, rfl⟩ := rx
    cases y with
    | byt j => obtain ⟨t', rfl⟩ := ry; exact PySem.W.eq_bytes (fin_bl I q dec_byt)
    | _ => exact absurd (show false = true from hs) Bool.false_ne_true
  | _ => cases y <;> exact absurd (show false = true from hs) Bool.false_ne_true
theorem op_ne : OpR X (compareOp .NotEq) rNe := by
  intro pins s σ H x y v u Q I rx ry h
  obtain ⟨hs, q⟩ := h
  cases x with
  | non =>
    cases rx
    cases y with
    | non => cases ry; exact PySem.EqNone.ne_none_none (fin_bl I q (by simp))
    | bl j => cases ry; exact PySem.EqNone.ne_none_bool (fin_bl I q (by simp))
    | int j => obtain ⟨t', rfl⟩ := ry; exact PySem.EqNone.ne_none_int (fin_bl I q (by simp))
    | str j => obtain ⟨t', rfl⟩ := ry; exact PySem.EqNone.ne_none_str (fin_bl I q (by simp))
    | _ => exact absurd (show false = true from hs) Bool.false_ne_true
  | bl i =>
    cases rx
    cases y with
    | non => cases ry; exact PySem.EqNone.ne_bool_none (fin_bl I q (by simp))
    | bl j => cases ry; exact ne_bool (fin_bl I q (congrArg not dec_bl))
    | str j => obtain ⟨t', rfl⟩ := ry; exact PySem.EqMixed.ne_bool_str (fin_bl I q (by simp))
    | _ => exact absurd (show false = true from hs) Bool.false_ne_true
  | int i =>
    obtain ⟨t, rfl⟩ := rx
    cases y with
    | non => cases ry; exact PySem.EqNone.ne_int_none (fin_bl I q (by simp))
    | int j => obtain ⟨t', rfl⟩ := ry; exact ne_int (fin_bl I q (congrArg not dec_int))
    | str j => obtain ⟨t', rfl⟩ := ry; exact PySem.EqMixed.ne_int_str (fin_bl I q (by simp))
    | _ => exact absurd (show false = true from hs) Bool.false_ne_true
  | str i =>
    obtain ⟨t, rfl⟩ := rx
    cases y with
    | non => cases ry; exact PySem.EqNone.ne_str_none (fin_bl I q (by simp))
    | bl j => cases ry; exact PySem.EqMixed.ne_str_bool (fin_bl I q (by simp))
    | int j => obtain ⟨t', rfl⟩ := ry; exact PySem.EqMixed.ne_str_int (fin_bl I q (by simp))
    | str j => obtain ⟨t', rfl⟩ := ry; exact ne_str (fin_bl I q (congrArg not dec_str))
    | _ => exact absurd (show false = true from hs) Bool.false_ne_true
  | byt i =>
    obtain ⟨t, rfl⟩ := rx
    cases y with
    | byt j => obtain ⟨t', rfl⟩ := ry; exact PySem.W.ne_bytes (fin_bl I q (congrArg not dec_byt))
    | _ => exact absurd (show false = true from hs) Bool.false_ne_true
  | _ => cases y <;> exact absurd (show false = true from hs) Bool.false_ne_true

theorem op_lt : OpR X (compareOp .Lt) (rI0 fun i j => .bl (decide (i < j))) := opB0 fun _ _ _ _ _ _ _ q => lt_int q
theorem op_le : OpR X (compareOp .LtE) (rI0 fun i j => .bl (decide (i ≤ j))) := opB0 fun _ _ _ _ _ _ _ q => le_int q
theorem op_gt : OpR X (compareOp .Gt) (rI0 fun i j => .bl (decide (j < i))) := opB0 fun _ _ _ _ _ _ _ q => gt_int q
theorem op_ge : OpR X (compareOp .GtE) (rI0 fun i j => .bl (decide (j ≤ i))) := opB0 fun _ _ _ _ _ _ _ q => ge_int q
/-- is, is not of two objects that are tracked lists or instances -/
def isObj : HO → Bool
  | .lst _ => true
  | .ins _ _ _ => true
  | _ => false
theorem nomark (b : Expr) {op : CmpOp} (h : op ≠ .In := by decide) (h2 : op ≠ .NotIn := by decide) : behindInMarks op b = false := by
  have e1 : (op == CmpOp.In) = false := by cases op <;> first | rfl | exact absurd rfl h
  have e2 : (op == CmpOp.NotIn) = false := by cases op <;> first | rfl | exact absurd rfl h2
  cases b <;> simp [behindInMarks, e1, e2]
/-- a comparison as a value; hm: nomark b, or (for in, not in) by with_unfolding_all rfl -/
theorem pe_cmpR {op : CmpOp} {r : R2} (ho : OpR X (compareOp op) r) (ha : PE X a ta) (hb : PE X b tb) (hm : behindInMarks op b = false) : PE X (.Compare a [op] [b] pos) (tOp r ta tb) := by
  intro pins s σ H Q I h
  exact wpAny_Compare1 (binT ha hb I h fun v u s2 x y H2 I2 rx ry q => ho pins s2 σ H2 x y v u Q I2 rx ry q) hm
/-- a reading of a value as a test -/
def tTest (t : TE) : TT := fun σ H Q => t σ H fun x H' => RBl x fun k => Q k H'
theorem pt_cmpR {op : CmpOp} {r : R2} (ho : OpR X (compareOp op) r) (ha : PE X a ta) (hb : PE X b tb) (hm : behindInMarks op b = false) : PT X (.Compare a [op] [b] pos) (tTest (tOp r ta tb)) := by
  intro pins s σ H Q I h
  refine wpAny_isTrue_Compare1 (thn (ha pins s σ H _ I h) fun v s1 ⟨x, H1, I1, r1, q1⟩ => thn (hb pins s1 σ H1 _ I1 q1) fun u s2 ⟨y, H2, I2, r2, q2⟩ =>
    thn (ho pins s2 σ H2 x y v u _ I2 r1 r2 q2) fun c s3 ⟨z, H3, I3, r3, k, e, q3⟩ => ?_) hm
  subst e
  cases r3
  exact wpAny_truthy_bool ⟨H3, I3, q3⟩
/-- a op1 b op2 c -/
def tChain (r r' : R2) (ta tb tc : TE) : TE := fun σ H Q => ta σ H fun x H1 => tb σ H1 fun y H2 => r x y H2 fun z H3 => ∃ k, z = .bl k ∧
  (if k = true then tc σ H3 fun w' H4 => r' y w' H4 Q else Q (.bl false) H3)
theorem pe_chain {op op' : CmpOp} {r r' : R2} (ho : OpR X (compareOp op) r) (ho' : OpR X (compareOp op') r') (ha : PE X a ta) (hb : PE X b tb) (hc : PE X c tc)
    (hm : lastMarks [op, op'] [b, c] = false := by with_unfolding_all rfl) : PE X (.Compare a [op, op'] [b, c] pos) (tChain r r' ta tb tc) := by
  intro pins s σ H Q I h
  refine Compare_chain (thn (ha pins s σ H _ I h) fun v s1 ⟨x, H1, I1, r1, q1⟩ => chain_link (thn (hb pins s1 σ H1 _ I1 q1) fun u s2 ⟨y, H2, I2, r2, q2⟩ =>
    thn (ho pins s2 σ H2 x y v u _ I2 r1 r2 q2) fun d s3 ⟨z, H3, I3, r3, k, e, q3⟩ => ?_)) hm
  subst e
  cases r3
  refine wpAny_truthy_bool ?_
  cases k with
  | false => exact ite_ff ⟨.bl false, H3, I3, rfl, q3⟩
  | true => exact ite_tt (chain_last (thn (hc pins s3 σ H3 _ I3 q3) fun w' s4 ⟨z', H4, I4, r4, q4⟩ => ho' pins s4 σ H4 y z' u w' Q I4 r2 r4 q4))
/-! ### truth -/
/-- a value's truth by the abstract heap -/
def TruV (K : PySem.W.Frag) (x : V) (H : Hp) (k : Bool) : Prop :=
  match x with
  | .non => k = false
  | .bl b => k = b
  | .int i => k = (i != 0)
  | .str y => y.length ≤ sizeLine ∧ k = ((y.length : Int) != 0)
  | .byt y => y.size ≤ sizeLine ∧ k = ((y.size : Int) != 0)
  | .ref p => (∃ xs, SqL K H p xs ∧ k = !xs.isEmpty) ∨ (∃ xs, SqT K H p xs ∧ k = !xs.isEmpty) ∨ ∃ kvs, H p = some (.dK kvs) ∧ k = !kvs.isEmpty
  | _ => False
theorem line63 : (sizeLine : Nat) < 2 ^ 63 := by rw [sizeLine_eq]; decide
/-! ### strs and bytes -/
theorem op_add_str : OpR X (binaryOp .Add) (fun x y H Q => ∃ i j, x = .str i ∧ y = .str j ∧ i.length + j.length ≤ sizeLine ∧ Q (.str (i ++ j)) H) := by
  intro pins s σ H x y v u Q I rx ry h
  obtain ⟨i, j, rfl, rfl, hz, q⟩ := h
  obtain ⟨t, rfl⟩ := rx
  obtain ⟨t', rfl⟩ := ry
  exact add_str (fun t' tk => ⟨.str (i ++ j), H, I.tok _, ⟨_, rfl⟩, q⟩) hz
def PlainIxT (b : Expr) : Prop := ∀ o i, subscripted b false o i = operate [o, i] (getItem o i)
/-! ### scalar builtins, by CallR -/
theorem vals1 {x : V} {us : List Value} (r : Vals [x] us) : ∃ u, us = [u] ∧ RelV x u := by
  cases r with
  | cons r1 r2 => cases r2; exact ⟨_, rfl, r1⟩
theorem vals2 {x y : V} {us : List Value} (r : Vals [x, y] us) : ∃ u w', us = [u, w'] ∧ RelV x u ∧ RelV y w' := by
  cases r with
  | cons r1 r2 =>
    cases r2 with
    | cons r3 r4 => cases r4; exact ⟨_, _, rfl, r1, r3⟩
theorem call_str_int : CallR X (.type "str") (fun xs H Q => ∃ i, xs = [.int i] ∧ i.natAbs.log2 < 1920 ∧ Q (.str (toString i)) H) := by
  intro pins s σ H xs us Q I r h
  obtain ⟨i, rfl, hz, q⟩ := h
  obtain ⟨u, rfl, t, rfl⟩ := vals1 r
  exact PySem.P.str_of_int hz ⟨.str _, H, I.tok _, ⟨_, rfl⟩, q⟩
/-- len of a str, a bytes, a list, a tuple -/
def LenV (K : PySem.W.Frag) (x : V) (H : Hp) (n : Nat) : Prop :=
  match x with
  | .str y => y.length ≤ sizeLine ∧ n = y.length
  | .byt y => y.size ≤ sizeLine ∧ n = y.size
  | .ref p => (∃ xs, SqL K H p xs ∧ n = xs.length) ∨ ∃ xs, SqT K H p xs ∧ n = xs.length
  | _ => False
end
end L2

namespace L2
open PySem PySem.Spec PyProof.Rows

/-! ### an instance, its attributes a map -/
structure ObjM (h : Heap) (x dx C : Addr) (mA : Str → Option Value) : Prop where
  obj : h.get? x = some (PySem.W.instObj C dx)
  ns : h.Ns1 dx mA
  ne : dx ≠ x

theorem lookIn_ns {h : Heap} {dx : Addr} {mA : Str → Option Value} (n : h.Ns1 dx mA) : ∃ od, h.get? dx = some od ∧ ∀ name, PySem.W.lookIn name od = some (mA name) := by
  obtain ⟨o, es, ep, ho, hd, hk, _, hm⟩ := n
  refine ⟨o, ho, fun name => ?_⟩
  have e := hm name
  unfold nsFind findBy at e
  rw [← Array.find?_toList] at e
  unfold PySem.W.lookIn
  rw [hd]
  dsimp only
  split
  · rename_i y q
    rw [q] at e
    exact congrArg some e
  · rename_i q
    rw [q] at e
    have a : es.toList.any (·.refKey) = false := by
      rw [List.any_eq_false]
      intro y hy
      obtain ⟨z, t, hkey⟩ := hk y (Array.mem_toList_iff.mp hy)
      simp [DictEntry.refKey, hkey]
    have a' : ¬ es.toList.any (·.refKey) = true := by rw [a]; exact Bool.false_ne_true
    rw [if_neg a']
    exact congrArg some e

theorem ObjM.look {h : Heap} {x dx C : Addr} {mA : Str → Option Value} (I : ObjM h x dx C mA) : ∃ od, PySem.W.InstAt h x (PySem.W.instObj C dx) C (some od) ∧ ∀ name, PySem.W.lookIn name od = some (mA name) :=
  let ⟨od, ho, hl⟩ := lookIn_ns I.ns
  ⟨od, ⟨I.obj, rfl, rfl, ho⟩, hl⟩

section
variable {prog : Program} {w : World} {A : Around} {E : Value → Shared → Prop} {s : Shared} {K : PySem.W.Frag} {x dx C f : Addr} {mA : Str → Option Value} {name : Str} {v : Value}

theorem get_map {expr : Bool} {Q : Value → Shared → Prop} (X : K.In s.heap) (I : ObjM s.heap x dx C mA) (hg : PySem.W.plainGet K C name = true) (hh : PySem.W.hasDictIn K C = true)
    (ha : PySem.W.findIn K (.ref C) name = some none) (hv : mA name = some v) (hv' : PySem.W.handedIn v = true) (h : Q v { s with toks := s.toks + 1 }) :
    wpAny (model prog w) A (getAttr (.ref x) name expr) Q E s := by
  obtain ⟨od, J, hl⟩ := I.look
  exact PySem.W.get_value X J (PySem.W.plainGet_of hg).1 (PySem.W.findObj_own hh ha rfl (by rw [hl, hv])) hv' h

theorem get_meth {pl : Sem Bool} {Q : Value × List Value → Shared → Prop} (X : K.In s.heap) (I : ObjM s.heap x dx C mA) (hg : PySem.W.plainGet K C name = true)
    (hf : PySem.W.findIn K (.ref C) name = some (some (.ref f))) (ht : PySem.W.isFn K (.ref f) = true) (hv : mA name = none) (h : Q (.ref f, [.ref x]) s) :
    wpAny (model prog w) A (getMethod (.ref x) name pl) Q E s := by
  obtain ⟨od, J, hl⟩ := I.look
  exact PySem.W.method_fn X J (PySem.W.plainGet_of hg).1 (PySem.W.plainGet_of hg).2 hf (beq_iff_eq.mp ht) (by show (PySem.W.lookIn name od).map (·.isSome) = some false; rw [hl, hv]; rfl) h

theorem set_map {ns : List Str} {Q : Unit → Shared → Prop} (X : K.In s.heap) (I : ObjM s.heap x dx C mA)
    (hs : PySem.W.findIn K (.ref C) "__setattr__" = some (some (.builtin "object.__setattr__"))) (hp : PySem.W.plainOver K C = true) (ht : PySem.W.takerIn K C name = some none) (hh : PySem.W.hasDictIn K C = true)
    (hw : PySem.Within mA ns) (hsz : ns.length ≤ sizeLine)
    (h : ∀ h', ObjM h' x dx C (fun y => if y = name then some v else mA y) → Heap.SameBut dx s.heap h' → Q () { s with heap := h', toks := s.toks + 2 }) :
    wpAny (model prog w) A (setAttr (.ref x) name v) Q E s := by
  obtain ⟨od, J, hl⟩ := I.look
  refine PySem.W.set_plain X J hs (PySem.W.osa_open (s := { s with toks := s.toks + 1 }) (r := none) X J hp ht fun b => ?_)
  obtain ⟨cd, hc, hd'⟩ := PySem.W.any_some hh
  have hx : s.heap.get? x = some ⟨.ref C, some dx, .plain, #[]⟩ := I.obj
  refine wpAny_bind (wpAny_pure (wpAny_bind (wpAny_bind (wpAny_loadPart hx (wpAny_bind (PySem.W.Looks.here (s := { s with toks := s.toks + 1 }) (PySem.W.looks_clsIn X hc) ?_))))))
  rw [hd']
  refine wpAny_pure (a := some dx) (wpAny_bind (wpAny_pure (wpAny_bind ?_)))
  refine wpAny_nsSet1 (s := { s with toks := s.toks + 1 }) I.ns fun h' hn2 hs2 => ?_
  obtain ⟨oD, esD, epD, hoD, hdD, hcD⟩ := hn2.count (PySem.Within.cons name v hw)
  refine wpAny_bind (wpAny_lookBehind hoD (by rw [hdD]; exact pastItsLine_dict (Nat.le_trans hcD (by rw [List.length_cons]; omega))) ?_)
  exact wpAny_pure (h _ ⟨(hs2.2 _ (Ne.symm I.ne)).trans I.obj, hn2, I.ne⟩ hs2)

/-- C(..): the dict at the heap's end, the instance behind it; then its __init__ -/
theorem make_map {R : Result → Shared → Prop} {vs : List Value} {kw : List (Str × Value)} (X : K.In s.heap) (hm : PySem.W.makesIn K C = true)
    (hi : PySem.W.findIn K (.ref C) "__init__" = some (some (.ref f))) (hf : PySem.W.typeIn K (.ref f) = some (.type "function"))
    (h : codeAny (model prog w) (A.under (.builtin "type.__call__" ⟨.ref C :: vs, kw⟩)) (.call (.ref f) ⟨.ref (s.heap.objs.size + 1) :: vs, kw⟩) (PySem.W.InitBack (s.heap.objs.size + 1) R)
      { s with heap := (s.heap.push PySem.W.emptyDict).push (PySem.W.instObj C s.heap.objs.size) }) :
    codeAny (model prog w) A (.call (.ref C) ⟨vs, kw⟩) R s := by
  obtain ⟨hh, g, d, t, os⟩ := s
  exact PySem.W.make_core (PySem.W.makes_of X hm) (PySem.W.looks_findIn X hi) (fun self => PySem.W.bind_fn X self hf) (.inl rfl) h
end

/-! ### the attributes as a list of pairs -/
def putF (f : Str) (v : V) : List (Str × V) → List (Str × V)
  | [] => [(f, v)]
  | (g, x) :: r => if g = f then (g, v) :: r else (g, x) :: putF f v r
theorem lookup_putF (f g : Str) (v : V) : ∀ fs : List (Str × V), (putF f v fs).lookup g = if g = f then some v else fs.lookup g
  | [] => by
    show List.lookup g [(f, v)] = _
    by_cases h : g = f
    · have hb : (g == f) = true := beq_iff_eq.mpr h
      simp only [List.lookup, hb, if_pos h]
    · have hb : (g == f) = false := beq_eq_false_iff_ne.mpr h
      simp only [List.lookup, hb, if_neg h]
  | (k, x) :: r => by
    have ih := lookup_putF f g v r
    rw [show putF f v ((k, x) :: r) = (if k = f then (k, v) :: r else (k, x) :: putF f v r) from rfl]
    by_cases hk : k = f
    · rw [if_pos hk]
      by_cases h : g = k
      · have hb : (g == k) = true := beq_iff_eq.mpr h
        simp only [List.lookup, hb, if_pos (h.trans hk)]
      · have hb : (g == k) = false := beq_eq_false_iff_ne.mpr h
        simp only [List.lookup, hb, if_neg (fun e : g = f => h (e.trans hk.symm))]
    · rw [if_neg hk]
      by_cases h : g = k
      · have hb : (g == k) = true := beq_iff_eq.mpr h
        simp only [List.lookup, hb, if_neg (fun e : g = f => hk (h.symm.trans e))]
      · have hb : (g == k) = false := beq_eq_false_iff_ne.mpr h
        simp only [List.lookup, hb]
        exact ih
theorem keys_putF (f : Str) (v : V) : ∀ fs : List (Str × V), f ∈ (putF f v fs).map (·.1) ∧ ∀ g, g ∈ fs.map (·.1) → g ∈ (putF f v fs).map (·.1)
  | [] => ⟨by simp [putF], fun g h => by simp at h⟩
  | (k, x) :: r => by
    obtain ⟨i1, i2⟩ := keys_putF f v r
    rw [show putF f v ((k, x) :: r) = (if k = f then (k, v) :: r else (k, x) :: putF f v r) from rfl]
    by_cases hk : k = f
    · rw [if_pos hk]
      subst hk
      exact ⟨by simp, fun g h => by simpa using h⟩
    · rw [if_neg hk]
      refine ⟨?_, fun g h => ?_⟩
      · rw [List.map_cons]
        exact List.mem_cons_of_mem _ i1
      · rw [List.map_cons] at h ⊢
        rcases List.mem_cons.mp h with e | e
        · exact List.mem_cons.mpr (.inl e)
        · exact List.mem_cons_of_mem _ (i2 g e)
theorem length_putF (f : Str) (v : V) : ∀ fs : List (Str × V), (putF f v fs).length ≤ fs.length + 1
  | [] => by simp [putF]
  | (k, x) :: r => by
    have ih := length_putF f v r
    rw [show putF f v ((k, x) :: r) = (if k = f then (k, v) :: r else (k, x) :: putF f v r) from rfl]
    by_cases hk : k = f
    · rw [if_pos hk, List.length_cons, List.length_cons]; omega
    · rw [if_neg hk, List.length_cons, List.length_cons]; omega

theorem RelO.some_of {v : V} {o : Option Value} (r : RelO (some v) o) : ∃ u, o = some u ∧ RelV v u := by
  cases o with
  | none => exact (show False from r).elim
  | some u => exact ⟨u, rfl, r⟩
theorem RelO.none_of {o : Option Value} (r : RelO none o) : o = none := by
  cases o with
  | none => rfl
  | some u => exact (show False from r).elim
theorem handed_of {v : V} {u : Value} (r : RelV v u) : PySem.W.handedIn u = true := by
  cases v with
  | non => cases (show u = Value.none from r); rfl
  | bl b => cases (show u = Value.bool b from r); rfl
  | int i => obtain ⟨t, e⟩ := (show ∃ t, u = Value.int i t from r); cases e; rfl
  | str x => obtain ⟨t, e⟩ := (show ∃ t, u = Value.str x t from r); cases e; rfl
  | byt b => obtain ⟨t, e⟩ := (show ∃ t, u = Value.bytes b t from r); cases e; rfl
  | flt b => obtain ⟨t, e⟩ := (show ∃ t, u = Value.float b t from r); cases e; rfl
  | ref a => cases (show u = Value.ref a from r); rfl
  | ty n => cases (show u = Value.type n from r); rfl

section
variable {P : Program} {w : World} {H H' : Hp} {h h' : Heap} {a C dx : Addr} {fs fs' : List (Str × V)}
theorem ins_get (hok : HOk P w H h) (e : H a = some (.ins C dx fs)) : ∃ mA, ObjM h a dx C mA ∧ (∀ f, RelO (fs.lookup f) (mA f)) ∧ PySem.Within mA (fs.map (·.1)) ∧ fs.length ≤ 1000 ∧ H dx = some (.own a) := by
  obtain ⟨d, z, ne, ob, mA, n, r, q⟩ := (show ObjOk P w H h a (.ins C dx fs) from hok a _ e)
  exact ⟨mA, ⟨ob, n, ne⟩, r, q, z, d⟩
end

/-! ### what of the text a class must have -/
structure Cls (K : PySem.W.Frag) (C : Addr) : Prop where
  pg : PySem.W.plainGet K C Str.empty = true
  hd : PySem.W.hasDictIn K C = true
  po : PySem.W.plainOver K C = true
  sa : PySem.W.findIn K (.ref C) "__setattr__" = some (some (.builtin "object.__setattr__"))
theorem Cls.get {K : PySem.W.Frag} {C : Addr} (c : Cls K C) (f : Str) : PySem.W.plainGet K C f = true := c.pg
/-- no class of it has the name -/
def NoAttr (K : PySem.W.Frag) (C : Addr) (f : Str) : Prop := PySem.W.findIn K (.ref C) f = some none
theorem NoAttr.taker {K : PySem.W.Frag} {C : Addr} {f : Str} (n : NoAttr K C f) : PySem.W.takerIn K C f = some none := by
  unfold PySem.W.takerIn
  rw [show PySem.W.findIn K (.ref C) f = some none from n]
  rfl
/-- a constant of the class -/
structure Con (K : PySem.W.Frag) (C : Addr) (f : Str) (v : V) (u : Value) : Prop where
  at_ : PySem.W.findIn K (.ref C) f = some (some u)
  rel : RelV v u
  get : PySem.W.specialIn K u "__get__" = some none
  cp : PySem.W.copiedNames.contains f = false
/-- a method: a plain def of the class or of one above it -/
structure Meth (K : PySem.W.Frag) (C : Addr) (m : Str) (f : Addr) : Prop where
  at_ : PySem.W.findIn K (.ref C) m = some (some (.ref f))
  fn : PySem.W.isFn K (.ref f) = true
  kp : PySem.W.keepIn K (.ref f) = true

section
variable {X : Cx} {pins : List (Addr × Obj)} {σ : St} {H : Hp} {s : Shared} {a C dx : Addr} {fs : List (Str × V)} {f : Str} {v : V} {A : Around} {E : Value → Shared → Prop}

theorem getattr_ok {b : Bool} {Q : Value → Shared → Prop} (I : Inv X pins σ H s) (e : H a = some (.ins C dx fs)) (c : Cls X.K C) (n : NoAttr X.K C f) (l : fs.lookup f = some v)
    (h : ∀ u s', Inv X pins σ H s' → RelV v u → Q u s') : wpAny (model X.prog X.w) A (getAttr (.ref a) f b) Q E s := by
  obtain ⟨mA, O, r, _, _, _⟩ := ins_get I.hok e
  obtain ⟨u, hu, ru⟩ := RelO.some_of (v := v) (o := mA f) (by rw [← l]; exact r f)
  exact get_map I.kIn O (c.get f) c.hd n hu (handed_of ru) (h u _ (I.tok _) ru)

theorem getmeth_ok {m : Str} {g : Addr} {pl : Sem Bool} {Q : Value × List Value → Shared → Prop} (I : Inv X pins σ H s) (e : H a = some (.ins C dx fs)) (c : Cls X.K C) (k : Meth X.K C m g) (l : fs.lookup m = none)
    (h : Q (.ref g, [.ref a]) s) : wpAny (model X.prog X.w) A (getMethod (.ref a) m pl) Q E s := by
  obtain ⟨mA, O, r, _, _, _⟩ := ins_get I.hok e
  have hn : mA m = none := RelO.none_of (by rw [← l]; exact r m)
  exact get_meth I.kIn O (c.get m) k.at_ k.fn hn h

theorem setattr_ok {y : V} {u : Value} {Q : Unit → Shared → Prop} (I : Inv X pins σ H s) (e : H a = some (.ins C dx fs)) (c : Cls X.K C) (n : NoAttr X.K C f) (hl : fs.length < 1000) (ry : RelV y u)
    (h : ∀ s', Inv X pins σ (upd H a (.ins C dx (putF f y fs))) s' → Q () s') : wpAny (model X.prog X.w) A (setAttr (.ref a) f u) Q E s := by
  obtain ⟨mA, O, r, wi, _, ho⟩ := ins_get I.hok e
  have hz : (fs.map (·.1)).length ≤ sizeLine := by rw [List.length_map, sizeLine_eq]; omega
  refine set_map I.kIn O c.sa c.po n.taker c.hd wi hz fun h' O' sb => h _ ?_
  have hd : ∃ o, h'.get? dx = some o := let ⟨o, _, _, e', _⟩ := O'.ns; ⟨o, e'⟩
  refine I.write (x := a) (e := dx) (by rw [e]; exact True.intro) (.inr ho) (fun b q hb z => (sb.2 b hb).trans z) hd ?_
  refine ⟨by rw [upd_ne O.ne]; exact ho, ?_, O.ne, O'.obj, _, O'.ns, fun g => ?_, fun g hg => ?_⟩
  · have := length_putF f y fs; omega
  · show RelO ((putF f y fs).lookup g) (if g = f then some u else mA g)
    rw [lookup_putF]
    by_cases q : g = f
    · rw [if_pos q, if_pos q]; exact ry
    · rw [if_neg q, if_neg q]; exact r g
  · by_cases q : g = f
    · rw [q]; exact (keys_putF f y fs).1
    · refine (keys_putF f y fs).2 g (wi g fun z => hg ?_)
      show (if g = f then some u else mA g) = none
      rw [if_neg q]; exact z

/-- a new instance, tracked, without attributes -/
theorem Inv.made (I : Inv X pins σ H s) : Inv X pins σ (upd (upd H s.heap.objs.size (.own (s.heap.objs.size + 1))) (s.heap.objs.size + 1) (.ins C s.heap.objs.size []))
    { s with heap := (s.heap.push PySem.W.emptyDict).push (PySem.W.instObj C s.heap.objs.size) } := by
  have e1 : (s.heap.push PySem.W.emptyDict).get? s.heap.objs.size = some PySem.W.emptyDict := Heap.get?_push_size s.heap rfl
  have e2 : ((s.heap.push PySem.W.emptyDict).push (PySem.W.instObj C s.heap.objs.size)).get? (s.heap.objs.size + 1) = some (PySem.W.instObj C s.heap.objs.size) := by
    have := Heap.get?_push_size (s.heap.push PySem.W.emptyDict) (o := PySem.W.instObj C s.heap.objs.size) rfl
    rwa [Heap.size_push] at this
  have e3 : (s.heap.push PySem.W.emptyDict).Ns s.heap.objs.size (fun _ => none) := ⟨PySem.W.emptyDict, #[], _, e1, rfl, (fun e he => absurd he (by simp)), fun _ => rfl⟩
  have I1 := I.laid (a := s.heap.objs.size) (o := .own (s.heap.objs.size + 1)) (h' := s.heap.push PySem.W.emptyDict) (t' := s.toks) (fun b u q => Heap.get?_push_of_some _ q) (Nat.le_refl _) ⟨_, e1⟩
  refine I1.laid (a := s.heap.objs.size + 1) (o := .ins C s.heap.objs.size []) (t' := s.toks) (fun b u q => Heap.get?_push_of_some _ q) (Nat.le_of_eq (Heap.size_push _ _)) ?_
  have ne : s.heap.objs.size ≠ s.heap.objs.size + 1 := Nat.ne_of_lt (Nat.lt_succ_self _)
  refine ⟨by rw [upd_ne ne, upd_same], Nat.zero_le _, ne, e2, fun _ => none, (Heap.Ns1.of_empty e3).at fun o q => Heap.get?_push_of_some _ q, fun _ => True.intro, fun y hy => absurd rfl hy⟩

/-- e.f where nothing but the object is asked: through attributeBase (super) and the last hold -/
theorem attr_of {prog : Program} {w : World} {env : Env} {e : Expr} {f : Str} {pos : Pos} {s : Shared} {Q : Value → Shared → Prop} (hb : attributeBase e f env (eval e env) = eval e env)
    (h : wpAny (model prog w) A (eval e env) (fun o s₁ => wpAny (model prog w) A (getAttr o f true) Q E s₁) E s) : wpAny (model prog w) A (eval (.Attribute e f pos) env) Q E s :=
  Attribute_any_ h (by rw [arm_eval_Attribute, hb])
end

/-! ### readings and rules -/
/-- e.f, an attribute of the instance -/
inductive RFld (K : PySem.W.Frag) (f : Str) (x : V) (H : Hp) (Q : VK) : Prop where | mk (a C dx : Addr) (fs : List (Str × V)) (v : V) (e : x = .ref a) (h : H a = some (.ins C dx fs)) (hC : Cls K C) (hN : NoAttr K C f) (l : fs.lookup f = some v) (q : Q v H) : RFld K f x H Q
def tFld (K : PySem.W.Frag) (ta : TE) (f : Str) : TE := fun σ H Q => ta σ H fun x H1 => RFld K f x H1 Q
/-- e.f, a constant of the class -/
def tCon (K : PySem.W.Frag) (ta : TE) (f : Str) : TE := fun σ H Q => ta σ H fun x H1 => ∃ a C dx fs v u, x = .ref a ∧ H1 a = some (.ins C dx fs) ∧ Cls K C ∧ Con K C f v u ∧ fs.lookup f = none ∧ Q v H1
/-- e.f = value -/
def sFld (K : PySem.W.Frag) (ta tv : TE) (f : Str) : TS := fun D σ H => tv σ H fun y H1 => ta σ H1 fun x H2 => ∃ a C dx fs, x = .ref a ∧ H2 a = some (.ins C dx fs) ∧ Cls K C ∧ NoAttr K C f ∧ fs.length < 1000 ∧
  D.nx σ (upd H2 a (.ins C dx (putF f y fs)))
/-- an augmented operator on two values -/
def InOp (X : Cx) (op : Operator) (rd : V → V → Hp → VK → Prop) : Prop :=
  ∀ (pins : List (Addr × Obj)) (s : Shared) (σ : St) (H : Hp) (x y : V) (u v : Value) (Q : VK), Inv X pins σ H s → RelV x u → RelV y v → rd x y H Q → wpAny (model X.prog X.w) X.A (inplaceOp op u v) (EP X pins σ Q) X.xe s
/-- e.f op= value -/
def sFldAug (K : PySem.W.Frag) (ta tv : TE) (rd : V → V → Hp → VK → Prop) (f : Str) : TS := fun D σ H => ta σ H fun x H1 => ∃ a C dx fs v, x = .ref a ∧ H1 a = some (.ins C dx fs) ∧ Cls K C ∧ NoAttr K C f ∧ fs.lookup f = some v ∧
  tv σ H1 fun y H2 => rd v y H2 fun z H3 => ∃ dx' fs', H3 a = some (.ins C dx' fs') ∧ fs'.length < 1000 ∧ D.nx σ (upd H3 a (.ins C dx' (putF f z fs')))

section
variable {X : Cx} {o e value : Expr} {f : Str} {pos pos' tpos : Pos} {ta tv : TE}
theorem pe_fld (he : PE X e ta) (hb : attributeBase e f X.env (eval e X.env) = eval e X.env) : PE X (.Attribute e f pos) (tFld X.K ta f) := by
  intro pins s σ H Q I h
  refine attr_of hb (thn (he pins s σ H _ I h) fun u s1 ⟨x, H1, I1, rx, a, C, dx, fs, v, ex, ea, c, n, l, q⟩ => ?_)
  subst ex
  obtain rfl : u = Value.ref a := rx
  exact getattr_ok I1 ea c n l fun u' s2 I2 ru => ⟨v, H1, I2, ru, q⟩
theorem ps_fld (ha : PE X o ta) (hv : PE X value tv) (hs : swapsWith value (some (.Attribute o f pos')) pos.line X.env = pure false) : PS X (.Assign [.Attribute o f pos'] value pos) (sFld X.K ta tv f) := by
  intro pins s σ H D I h
  refine plainObj_wpAny_Assign_Attribute (thn (hv pins s σ H _ I h) fun u s1 ⟨y, H1, I1, ry, q⟩ => thn (ha pins s1 σ H1 _ I1 q) fun ov s2 ⟨x, H2, I2, rx, a, C, dx, fs, ex, ea, c, n, l, q2⟩ => ?_) hs
  subst ex
  obtain rfl : ov = Value.ref a := rx
  exact setattr_ok I2 ea c n l ry fun s3 I3 => ⟨σ, _, I3, q2⟩
def rAdd : V → V → Hp → VK → Prop := fun x y H Q => ∃ i j, x = .int i ∧ y = .int j ∧ Q (.int (i + j)) H
def rSub : V → V → Hp → VK → Prop := fun x y H Q => ∃ i j, x = .int i ∧ y = .int j ∧ Q (.int (i - j)) H
end

/-! ### isinstance -/
section
variable {X : Cx} {pins : List (Addr × Obj)} {σ : St} {H : Hp} {s : Shared} {A : Around} {E : Value → Shared → Prop} {Q : Value → Shared → Prop} {c : Value} {b : Bool}
/-- the type of a value, as the fragment's deciders take it; for an instance its class -/
inductive TyOf (K : PySem.W.Frag) (H : Hp) : V → Value → Prop where
  | non : TyOf K H .non (.type "NoneType")
  | bl (x : Bool) : TyOf K H (.bl x) (.type "bool")
  | int (i : Int) : TyOf K H (.int i) (.type "int")
  | str (x : Str) : TyOf K H (.str x) (.type "str")
  | flt (x : UInt64) : TyOf K H (.flt x) (.type "float")
  | lst {a : Addr} {xs : List V} (e : H a = some (.lst xs)) : TyOf K H (.ref a) (.type "list")
  | frz {a : Addr} {o : Obj} {xs : List V} (e : H a = some (.frz o (.lst xs))) : TyOf K H (.ref a) (.type "list")
  | tup {a : Addr} {xs : List V} (e : H a = some (.tup xs)) : TyOf K H (.ref a) (.type "tuple")
  | dK {a : Addr} {kvs : List (Key × V)} (e : H a = some (.dK kvs)) : TyOf K H (.ref a) (.type "dict")
  | dT {a : Addr} {kvs : List (List Key × V)} (e : H a = some (.dT kvs)) : TyOf K H (.ref a) (.type "dict")
  | ins {a C dx : Addr} {fs : List (Str × V)} (e : H a = some (.ins C dx fs)) (cl : Cls K C) (ha : PySem.W.findIn K (.ref C) "__class__" = some (some (.builtin "object.__class__")))
      (hn : PySem.W.specialIn K (.builtin "object.__class__") "__get__" = some (some (.builtin "getset_descriptor.__get__"))) (htk : PySem.W.takesIn K (.builtin "object.__class__") = some true)
      (hm : PySem.W.mroIn K C (.type "object") = some true) : TyOf K H (.ref a) (.ref C)
/-- isinstance(x, c) for one class c, a built-in or an own one: kitOne's answer -/
theorem isinst_ok {x : V} {u t : Value} (I : Inv X pins σ H s) (rx : RelV x u) (ty : TyOf X.K H x t) (e : PySem.W.kitOne X.K t c = some b) (h : ∀ tk, Q (.bool b) { s with toks := tk }) :
    wpAny (model X.prog X.w) A (call (.builtin "isinstance") [u, c]) Q E s := by
  cases ty with
  | non => cases (show u = Value.none from rx); exact PySem.W.kia_one PySem.W.kitx_none I.kIn True.intro e (fun z => nomatch z) h
  | bl y => cases (show u = Value.bool y from rx); exact PySem.W.kia_one PySem.W.kitx_bool I.kIn True.intro e (fun z => nomatch z) h
  | int i => obtain ⟨t, q⟩ := (show ∃ t, u = Value.int i t from rx); cases q; exact PySem.W.kia_one PySem.W.kitx_int I.kIn True.intro e (fun z => nomatch z) h
  | str y => obtain ⟨t, q⟩ := (show ∃ t, u = Value.str y t from rx); cases q; exact PySem.W.kia_one PySem.W.kitx_str I.kIn True.intro e (fun z => nomatch z) h
  | flt y => obtain ⟨t, q⟩ := (show ∃ t, u = Value.float y t from rx); cases q; exact PySem.W.kia_one PySem.W.kitx_float I.kIn True.intro e (fun z => nomatch z) h
  | @lst a xs ea =>
    cases (show u = Value.ref a from rx)
    obtain ⟨_, _, n, _, h1⟩ := (show ObjOk X.prog X.w H s.heap a (.lst xs) from I.hok a _ ea)
    exact PySem.W.kia_one PySem.W.kitx_list I.kIn ⟨_, h1, rfl⟩ e (fun z => nomatch z) h
  | @frz a ob xs ea =>
    cases (show u = Value.ref a from rx)
    obtain ⟨_, _, _, n, _, h1⟩ := (show ObjOk X.prog X.w H s.heap a (.frz ob (.lst xs)) from I.hok a _ ea)
    exact PySem.W.kia_one PySem.W.kitx_list I.kIn ⟨_, h1, rfl⟩ e (fun z => nomatch z) h
  | @tup a xs ea =>
    cases (show u = Value.ref a from rx)
    obtain ⟨_, _, _, p⟩ := (show ObjOk X.prog X.w H s.heap a (.tup xs) from I.hok a _ ea)
    obtain ⟨o, h1, h2, _⟩ := p
    exact PySem.W.kia_one PySem.W.kitx_tuple I.kIn ⟨o, h1, h2⟩ e (fun z => nomatch z) h
  | @dK a kvs ea =>
    cases (show u = Value.ref a from rx)
    obtain ⟨_, _, vs, _, p⟩ := (show ObjOk X.prog X.w H s.heap a (.dK kvs) from I.hok a _ ea)
    obtain ⟨o, es, ep, h1, h2, _⟩ := p
    exact PySem.W.kia_one PySem.W.kitx_dict I.kIn ⟨o, h1, h2.1⟩ e (fun z => nomatch z) h
  | @dT a kvs ea =>
    cases (show u = Value.ref a from rx)
    obtain ⟨_, _, xs, _, o, es, ep, h1, h2, _⟩ := (show ObjOk X.prog X.w H s.heap a (.dT kvs) from I.hok a _ ea)
    exact PySem.W.kia_one PySem.W.kitx_dict I.kIn ⟨o, h1, h2.1⟩ e (fun z => nomatch z) h
  | @ins a C dx fs ea cl ha hn htk hm =>
    cases (show u = Value.ref a from rx)
    obtain ⟨mA, O, _⟩ := ins_get I.hok ea
    obtain ⟨od, J, _⟩ := O.look
    exact PySem.W.kia_one (PySem.W.kitx_own (cl.get _) cl.hd ha hn htk hm) I.kIn J e (fun z => nomatch z) h
end
end L2

namespace L2
open PySem PySem.Spec PyProof.Rows

/-! ### room -/
structure Room (k : Nat) (A : Around) : Prop where
  hd : A.handled = none
  dp : A.depth + 3 * k + 5 < recursionLimit
  un : A.units + 16 * k + 200 < cLine
theorem Room.mono {j k : Nat} {A : Around} (r : Room k A) (h : j ≤ k) : Room j A := ⟨r.hd, by have := r.dp; omega, by have := r.un; omega⟩
theorem Room.deeper {k : Nat} {A : Around} (r : Room (k + 1) A) (env : Env) : Room k (A.deeper env) :=
  ⟨r.hd, by have := r.dp; show A.depth + 1 + 3 * k + 5 < _; omega, by have := r.un; show A.units + 3 + 16 * k + 200 < _; omega⟩
theorem make_depth {A : Around} {C : Addr} {us : List Value} {kw : List (Str × Value)} : (A.under (.builtin "type.__call__" ⟨.ref C :: us, kw⟩)).depth = A.depth + 1 := by
  first | rfl | simp [Around.under, Code.weight, Code.isCreation, Code.isGuard, Code.isCaller, Code.frames, Code.isFrame, guardIds]
theorem make_units {A : Around} {C : Addr} {us : List Value} {kw : List (Str × Value)} : (A.under (.builtin "type.__call__" ⟨.ref C :: us, kw⟩)).units = A.units + 1 := by
  first | rfl | simp [Around.under, Code.cUnits, Code.frames, Code.isFrame]
theorem Room.make {k : Nat} {A : Around} (r : Room (k + 1) A) (C : Addr) (us : List Value) (kw : List (Str × Value)) : Room k (A.under (.builtin "type.__call__" ⟨.ref C :: us, kw⟩)) :=
  ⟨r.hd, by have := r.dp; rw [make_depth]; omega, by have := r.un; rw [make_units]; omega⟩
theorem Room.depth {k : Nat} {A : Around} (r : Room k A) : A.depth < recursionLimit := by have := r.dp; omega
theorem Room.units {k : Nat} {A : Around} (r : Room k A) : A.units + 64 < cLine := by have := r.un; omega
/-! ### argument lists and displays -/
def tNil : TA := fun _ H Q => Q [] H
def tCons (ta : TE) (tr : TA) : TA := fun σ H Q => ta σ H fun x H1 => tr σ H1 fun xs H2 => Q (x :: xs) H2
section
variable {X : Cx} {e : Expr} {es : List Expr} {te : TE} {t : TA} {pos : Pos}
theorem pa_nil : PA X [] tNil := fun _ _ _ _ H Q I h => Calls.spliced_nil ⟨[], H, I, .nil, h⟩
theorem pa_cons (ha : PE X e te) (hr : PA X es t) (hs : starEach (e :: es) X.env = (false, eval e X.env) :: starEach es X.env := by rfl) : PA X (e :: es) (tCons te t) := by
  intro pos pins s σ H Q I h
  rw [hs]
  show wpAny _ _ (spliced ((false, eval e X.env) :: backTo pos (starEach es X.env))) _ _ s
  refine Calls.spliced_cons (thn (ha pins s σ H _ I h) fun u s1 ⟨x, H1, I1, r1, q1⟩ => ?_)
  exact thn (hr pos pins s1 σ H1 _ I1 q1) fun us s2 ⟨xs, H2, I2, r2, q2⟩ => ⟨x :: xs, H2, I2, .cons r1 r2, q2⟩

/-- a tuple, a list of written items -/
def tTup (t : TA) : TE := fun σ H Q => t σ H fun xs H1 => xs.length ≤ sizeLine ∧ ∀ p, H1 p = none → Q (.ref p) (upd H1 p (.tup xs))
def tLst (t : TA) : TE := fun σ H Q => t σ H fun xs H1 => xs.length ≤ sizeLine ∧ ∀ p, H1 p = none → Q (.ref p) (upd H1 p (.lst xs))
theorem pe_tup {x1} (h : PA X es t) : PE X (.Tuple es x1 pos) (tTup t) := by
  intro pins s σ H Q I hq
  refine wpAny_Tuple_spliced (thn (h pos pins s σ H _ I hq) fun us s1 ⟨xs, H1, I1, r, z, q⟩ => ⟨by rw [← r.length]; exact z, ?_⟩)
  have hf : H1 s1.heap.objs.size = none := I1.hok.fresh (Nat.le_refl _)
  refine ⟨.ref s1.heap.objs.size, upd H1 s1.heap.objs.size (.tup xs), I1.laid (t' := s1.toks) (fun b u e => Heap.get?_push_of_some _ e) (Nat.le_refl _) ?_, rfl, q _ hf⟩
  exact ⟨z, us, r, ⟨_, Heap.get?_push_size _ rfl, rfl, _, rfl⟩⟩
theorem pe_lst (h : PA X es t) : PE X (.List es pos) (tLst t) := by
  intro pins s σ H Q I hq
  refine wpAny_List_spliced (thn (h pos pins s σ H _ I hq) fun us s1 ⟨xs, H1, I1, r, z, q⟩ => ⟨by rw [← r.length]; exact z, ?_⟩)
  have hf : H1 s1.heap.objs.size = none := I1.hok.fresh (Nat.le_refl _)
  refine ⟨.ref s1.heap.objs.size, upd H1 s1.heap.objs.size (.lst xs), I1.laid (t' := s1.toks) (fun b u e => Heap.get?_push_of_some _ e) (Nat.le_refl _) ?_, rfl, q _ hf⟩
  exact ⟨z, us, 0, r, Heap.get?_push_size _ rfl⟩
end

/-! ### what a def promises -/
/-- a def's promise: the bound arguments in the parameters' order, the heap, the wanted end, the wanted exception -/
abbrev Sp := List V → Hp → VK → XK → Prop
/-- how an exception lies behind a call (file 08 gives it): the callers' frames, abstract heap and state ahead of the call, the wish, the exception, the state -/
abbrev CXT := List Env → Hp → Shared → XK → Value → Shared → Prop

/-- the state at a call -/
structure Env0 (P : Program) (w : World) (K : PySem.W.Frag) (mg : Str → Option Value) (base : Heap) (A : Around) (outer : List Env) (s : Shared) (H : Hp) : Prop where
  frames : A.frames = some outer
  mod : Mod K mg base
  bs : ∀ b o, base.get? b = some o → s.heap.get? b = some o ∧ H b = none
  bsz : base.objs.size ≤ s.heap.objs.size
  funs : s.heap.FunFrames base outer
  frf : ∀ b ∈ frs outer, H b = none
  hok : HOk P w H s.heap
  bare : AllBare s.gens
/-- a call's end -/
def CE (outer : List Env) (P : Program) (w : World) (H : Hp) (s : Shared) (Q : VK) (u : Value) (s' : Shared) : Prop :=
  ∃ v H', s'.os = s.os ∧ AllBare s'.gens ∧ Un (frs outer) [] H H' s.heap s'.heap ∧ HOk P w H' s'.heap ∧ RelV v u ∧ Q v H'
def CR (CX : CXT) (outer : List Env) (P : Program) (w : World) (H : Hp) (s : Shared) (Q : VK) (E : XK) (r : Result) (s' : Shared) : Prop :=
  match r with
  | .ok (.ret u) => CE outer P w H s Q u s'
  | .ok _ => False
  | .error e => CX outer H s E e s'
structure FnOk (P : Program) (w : World) (K : PySem.W.Frag) (mg : Str → Option Value) (base : Heap) (CX : CXT) (k : Nat) (f : Addr) (fd : FuncData) (ps : List Str) (sp : Sp) : Prop where
  len : ∀ vs H Q E, sp vs H Q E → vs.length = ps.length
  run : ∀ (A : Around) (outer : List Env) (s : Shared) (H : Hp) (args : Args) (us : List Value) (vs : List V) (Q : VK) (E : XK), Room k A → Env0 P w K mg base A outer s H → BindsTo s fd args (ps.zip us) → Vals vs us → sp vs H Q E →
    codeAny (model P w) A (.call (.ref f) args) (CR CX outer P w H s Q E) s
theorem Env0.make {P : Program} {w : World} {K : PySem.W.Frag} {mg : Str → Option Value} {base : Heap} {A : Around} {outer : List Env} {s : Shared} {H : Hp} (e : Env0 P w K mg base A outer s H) (C : Addr) (us : List Value) (kw : List (Str × Value)) :
    Env0 P w K mg base (A.under (.builtin "type.__call__" ⟨.ref C :: us, kw⟩)) outer s H := ⟨by first | exact e.frames | (simpa [Around.under, Code.envs, Code.isFrame, pushEnvs] using e.frames), e.mod, e.bs, e.bsz, e.funs, e.frf, e.hok, e.bare⟩
section
variable {X : Cx} {pins : List (Addr × Obj)} {σ : St} {H : Hp} {s s' : Shared}
/-- from a body: what a callee wants -/
theorem Inv.env0 (I : Inv X pins σ H s) : Env0 X.prog X.w X.K X.mg X.base X.A X.stack s H :=
  ⟨I.ok.frames, I.ok.mod, I.bs, Nat.le_trans I.ok.bsz I.sz, I.stack, I.stkFree, I.hok, I.bare⟩
/-- behind a call -/
theorem Inv.after {Q : VK} {u : Value} (I : Inv X pins σ H s) (h : CE X.stack X.prog X.w H s Q u s') : EP X pins σ Q u s' := by
  obtain ⟨v, H', os, bare, un, hok, r, q⟩ := h
  obtain ⟨hh, g, d, t, os'⟩ := s'
  obtain rfl : os' = s.os := os
  exact ⟨v, H', I.call (h' := hh) (g' := g) (d' := d) (t' := t) (ch := []) un hok bare (fun b z => absurd z (by simp)), r, q⟩
end

/-! ### calls -/
/-- f(..): the written arguments, then the defaults dvs; E: what is wanted of an exception -/
def tCall (sp : Sp) (dvs : List V) (E : XK) (t : TA) : TE := fun σ H Q => t σ H fun vs H1 => sp (vs ++ dvs) H1 Q E
/-- o.m(..) of an instance of the class at C -/
inductive RMeth (C : Addr) (m : Str) (x : V) (H : Hp) (R : Prop) : Prop where | mk (a dx : Addr) (fs : List (Str × V)) (e : x = .ref a) (h : H a = some (.ins C dx fs)) (l : fs.lookup m = none) (q : R) : RMeth C m x H R
def tMeth (C : Addr) (m : Str) (sp : Sp) (dvs : List V) (E : XK) (ta : TE) (t : TA) : TE := fun σ H Q => ta σ H fun x H1 => RMeth C m x H1 (t σ H1 fun vs H2 => sp (x :: (vs ++ dvs)) H2 Q E)
/-- C(..): a new instance and its dict, then __init__ -/
def tMake (C : Addr) (sp : Sp) (dvs : List V) (E : XK) (t : TA) : TE := fun σ H Q => t σ H fun vs H1 => ∀ x dx, H1 x = none → H1 dx = none → dx ≠ x →
  sp (.ref x :: (vs ++ dvs)) (upd (upd H1 dx (.own x)) x (.ins C dx [])) (fun v H2 => v = .non ∧ Q (.ref x) H2) E

/-- how the parameters are bound: us the positional arguments, kw the keywords' values by name, ds the defaults that fill up -/
def Binds (K : PySem.W.Frag) (fd : FuncData) (ps : List Str) (ds : List Value) : Prop :=
  ∀ (s : Shared) (us : List Value), K.In s.heap → (us ++ ds).length = ps.length → BindsTo s fd ⟨us, []⟩ (ps.zip (us ++ ds))
/-- every parameter is given -/
theorem Binds.all {K : PySem.W.Frag} {fd : FuncData} {ps : List Str} (h : ∀ us : List Value, us.length = ps.length → bindArgs fd ⟨us, []⟩ = pure (ps.zip us)) : Binds K fd ps [] := fun s us _ hl => by
  rw [List.append_nil] at hl ⊢
  exact .of_eq (h us hl)

/-- an exception of a callee reaches what this body wants of exceptions -/
def Passes (CX : CXT) (X : Cx) (E : XK) : Prop := ∀ (pins : List (Addr × Obj)) (σ : St) (H : Hp) (s : Shared) (e : Value) (s' : Shared), Inv X pins σ H s → CX X.stack H s E e s' → X.xe e s'

section
variable {X : Cx} {CX : CXT} {k : Nat} {f C : Addr} {fd : FuncData} {ps : List Str} {sp : Sp} {dvs : List V} {ds : List Value} {E : XK} {x m : Str} {p pos apos : Pos} {e o : Expr} {es : List Expr} {ta : TE} {t : TA}

/-- the callee runs -/
theorem run_fn {pins : List (Addr × Obj)} {σ : St} {H : Hp} {s : Shared} {Q : VK} {us : List Value} {vs : List V} (F : FnOk X.prog X.w X.K X.mg X.base CX k f fd ps sp) (hr : Room k X.A) (hb : Binds X.K fd ps ds) (hd : Vals dvs ds) (hx : Passes CX X E)
    (I : Inv X pins σ H s) (r : Vals vs us) (h : sp (vs ++ dvs) H Q E) : wpAny (model X.prog X.w) X.A (call (.ref f) us) (EP X pins σ Q) X.xe s := by
  have r2 : Vals (vs ++ dvs) (us ++ ds) := r.append hd
  have hl : (us ++ ds).length = ps.length := by rw [← r2.length]; exact F.len _ _ _ _ h
  refine wpAny_call (codeAny_mono (F.run X.A X.stack s H ⟨us, []⟩ (us ++ ds) (vs ++ dvs) Q E hr I.env0 (hb s us I.kIn hl) r2 h) fun r s' hq => ?_)
  cases r with
  | error e => exact hx pins σ H s e s' I hq
  | ok fl =>
    cases fl with
    | ret u => exact I.after hq
    | next => exact False.elim hq
    | brk => exact False.elim hq
    | cont => exact False.elim hq

theorem pe_call (F : FnOk X.prog X.w X.K X.mg X.base CX k f fd ps sp) (hr : Room k X.A) (hg : Gl X x) (hm : X.mg x = some (.ref f)) (hk : PySem.W.keepIn X.K (.ref f) = true) (hb : Binds X.K fd ps ds) (hd : Vals dvs ds) (hx : Passes CX X E)
    (ha : PA X (e :: es) t) (hdb : (x == ("__debug__" : Str)) = false := by decide) (he : starEach (e :: es) X.env = (false, eval e X.env) :: starEach es X.env := by rfl) (hpl : (backTo pos (starEach es X.env)).any (·.1) = false := by rfl) :
    PE X (.Call (.Name x p) (e :: es) [] pos) (tCall sp dvs E t) := by
  intro pins s σ H Q I h
  refine wpAny_Call_Name_kw (ld_glob I hg hm ?_ hdb)
  refine PySem.W.callWith_K (h₀ := X.base) I.ok.mod.kin hk (thn (ha pos pins s σ H _ I h) fun us s1 ⟨vs, H1, I1, r, q⟩ => ⟨I1.kIn, ?_⟩) he hpl
  exact run_fn F hr hb hd hx I1 r q
/-- o.m(e, ..) -/
theorem pe_meth {pl : Sem Bool} (he : PE X o ta) (c : Cls X.K C) (hm : Meth X.K C m f) (F : FnOk X.prog X.w X.K X.mg X.base CX k f fd ps sp) (hr : Room k X.A) (hb : Binds X.K fd ps ds) (hd : Vals dvs ds) (hx : Passes CX X E) (ha : PA X (e :: es) t)
    (hst : starEach (e :: es) X.env = (false, eval e X.env) :: starEach es X.env := by rfl) (hpl : (backTo pos (starEach es X.env)).any (·.1) = false := by rfl)
    (ht : eval (.Call (.Attribute o m apos) (e :: es) [] pos) X.env = (do
      let ov ← eval o X.env
      standAt apos.atName
      let (f, first) ← holding [ov] (getMethod ov m pl)
      callWith pos f first (backTo pos (starEach (e :: es) X.env)) (backToKw pos (keywordEach [] X.env))) := by rfl) :
    PE X (.Call (.Attribute o m apos) (e :: es) [] pos) (tMeth C m sp dvs E ta t) := by
  intro pins s σ H Q I h
  refine PySem.W.methodCall_KW (pl := pl) (thn (he pins s σ H _ I h) fun u s1 ⟨x, H1, I1, rx, a, dx, fs, ex, ea, l, q⟩ => ?_) ht
  subst ex
  obtain rfl : u = Value.ref a := rx
  refine getmeth_ok I1 ea c hm l ?_
  refine PySem.W.callWith_K (first := [.ref a]) (h₀ := X.base) I.ok.mod.kin hm.kp (thn (ha pos pins s1 σ H1 _ I1 q) fun us s2 ⟨vs, H2, I2, r, q2⟩ => ⟨I2.kIn, ?_⟩) hst hpl
  exact run_fn (us := .ref a :: us) (vs := .ref a :: vs) F hr hb hd hx I2 (.cons rfl r) q2
/-- o.m() -/
theorem pe_meth0 {pl : Sem Bool} (he : PE X o ta) (c : Cls X.K C) (hm : Meth X.K C m f) (F : FnOk X.prog X.w X.K X.mg X.base CX k f fd ps sp) (hr : Room k X.A) (hb : Binds X.K fd ps ds) (hd : Vals dvs ds) (hx : Passes CX X E)
    (ht : eval (.Call (.Attribute o m apos) [] [] pos) X.env = (do
      let ov ← eval o X.env
      standAt apos.atName
      let (f, first) ← holding [ov] (getMethod ov m pl)
      callWith pos f first (backTo pos (starEach [] X.env)) (backToKw pos (keywordEach [] X.env))) := by rfl) :
    PE X (.Call (.Attribute o m apos) [] [] pos) (tMeth C m sp dvs E ta tNil) := by
  intro pins s σ H Q I h
  refine PySem.W.methodCall_KW (pl := pl) (thn (he pins s σ H _ I h) fun u s1 ⟨x, H1, I1, rx, a, dx, fs, ex, ea, l, q⟩ => ?_) ht
  subst ex
  obtain rfl : u = Value.ref a := rx
  refine getmeth_ok I1 ea c hm l ?_
  exact PySem.W.callWith_K0 (first := [.ref a]) I1.kIn hm.kp (run_fn (us := [.ref a]) (vs := [.ref a]) F hr hb hd hx I1 (.cons rfl .nil) q)

/-- what a class must have to be made -/
structure Mk (K : PySem.W.Frag) (C f : Addr) : Prop where
  makes : PySem.W.makesIn K C = true
  init : PySem.W.findIn K (.ref C) "__init__" = some (some (.ref f))
  fn : PySem.W.isFn K (.ref f) = true
  kp : PySem.W.keepIn K (.ref C) = true

theorem run_make {pins : List (Addr × Obj)} {σ : St} {H : Hp} {s : Shared} {Q : VK} {us : List Value} {vs : List V} (M : Mk X.K C f) (F : FnOk X.prog X.w X.K X.mg X.base CX k f fd ps sp) (hr : Room (k + 1) X.A) (hb : Binds X.K fd ps ds) (hd : Vals dvs ds)
    (hx : Passes CX X E) (I : Inv X pins σ H s) (r : Vals vs us)
    (h : ∀ x dx, H x = none → H dx = none → dx ≠ x → sp (.ref x :: (vs ++ dvs)) (upd (upd H dx (.own x)) x (.ins C dx [])) (fun v H2 => v = .non ∧ Q (.ref x) H2) E) :
    wpAny (model X.prog X.w) X.A (call (.ref C) us) (EP X pins σ Q) X.xe s := by
  have hq := h (s.heap.objs.size + 1) s.heap.objs.size (I.hok.fresh (Nat.le_succ _)) (I.hok.fresh (Nat.le_refl _)) (Nat.ne_of_lt (Nat.lt_succ_self _))
  have I2 := Inv.made (C := C) I
  have r2 : Vals (V.ref (s.heap.objs.size + 1) :: (vs ++ dvs)) (Value.ref (s.heap.objs.size + 1) :: (us ++ ds)) := .cons rfl (r.append hd)
  have hl : (Value.ref (s.heap.objs.size + 1) :: us ++ ds).length = ps.length := by
    have e := r2.length
    rw [F.len _ _ _ _ hq] at e
    exact e.symm
  refine wpAny_call (make_map (f := f) I.kIn M.makes M.init (beq_iff_eq.mp M.fn) (codeAny_mono (F.run _ X.stack _ _ ⟨Value.ref (s.heap.objs.size + 1) :: us, []⟩ (Value.ref (s.heap.objs.size + 1) :: (us ++ ds)) _ _ E (hr.make C us [])
    (I2.env0.make C us []) (hb _ (Value.ref (s.heap.objs.size + 1) :: us) I2.kIn hl) r2 hq) fun r s' hq' => ?_))
  cases r with
  | error e => exact hx pins σ _ _ e s' I2 hq'
  | ok fl =>
    cases fl with
    | ret u =>
      obtain ⟨v, H', I3, rv, ev, q3⟩ := I2.after hq'
      subst ev
      exact ⟨rv, ⟨V.ref (s.heap.objs.size + 1), H', I3, rfl, q3⟩⟩
    | next => exact False.elim hq'
    | brk => exact False.elim hq'
    | cont => exact False.elim hq'
theorem pe_make (M : Mk X.K C f) (F : FnOk X.prog X.w X.K X.mg X.base CX k f fd ps sp) (hr : Room (k + 1) X.A) (hg : Gl X x) (hm : X.mg x = some (.ref C)) (hb : Binds X.K fd ps ds) (hd : Vals dvs ds) (hx : Passes CX X E)
    (ha : PA X (e :: es) t) (hdb : (x == ("__debug__" : Str)) = false := by decide) (he : starEach (e :: es) X.env = (false, eval e X.env) :: starEach es X.env := by rfl) (hpl : (backTo pos (starEach es X.env)).any (·.1) = false := by rfl) :
    PE X (.Call (.Name x p) (e :: es) [] pos) (tMake C sp dvs E t) := by
  intro pins s σ H Q I h
  refine wpAny_Call_Name_kw (ld_glob I hg hm ?_ hdb)
  refine PySem.W.callWith_K (h₀ := X.base) I.ok.mod.kin M.kp (thn (ha pos pins s σ H _ I h) fun us s1 ⟨vs, H1, I1, r, q⟩ => ⟨I1.kIn, ?_⟩) he hpl
  exact run_make M F hr hb hd hx I1 r q
end

/-! ### keywords -/
/-- the values of the keywords, from the left -/
def PK (X : Cx) (kws : List Keyword) (t : TA) : Prop :=
  ∀ (pos : Pos) (pins : List (Addr × Obj)) (s : Shared) (σ : St) (H : Hp) (Q : List V → Hp → Prop), Inv X pins σ H s → t σ H Q → wpAny (model X.prog X.w) X.A (evalAll ((backToKw pos (keywordEach kws X.env)).map (·.2))) (AP X pins σ Q) X.xe s
section
variable {X : Cx} {CX : CXT} {k : Nat} {f C : Addr} {fd : FuncData} {ps ks : List Str} {sp : Sp} {E : XK} {x m : Str} {p pos apos kpos : Pos} {e o : Expr} {es : List Expr} {kws : List Keyword} {te ta : TE} {t tk : TA} {nm : Option Str}
/-- how a call with keywords binds: g puts the positional values us and the keywords' values ws (names ks) in the parameters' order, defaults among them -/
structure KBinds (K : PySem.W.Frag) (fd : FuncData) (ps ks : List Str) (g : List Value → List Value → List Value) (gV : List V → List V → List V) : Prop where
  to : ∀ (s : Shared) (us ws : List Value), K.In s.heap → (g us ws).length = ps.length → BindsTo s fd ⟨us, ks.zip ws⟩ (ps.zip (g us ws))
  rel : ∀ {vs : List V} {us : List Value} {zs : List V} {ws : List Value}, Vals vs us → Vals zs ws → Vals (gV vs zs) (g us ws)
def tCallK (sp : Sp) (gV : List V → List V → List V) (E : XK) (t tk : TA) : TE := fun σ H Q => t σ H fun vs H1 => tk σ H1 fun zs H2 => sp (gV vs zs) H2 Q E
variable {g : List Value → List Value → List Value} {gV : List V → List V → List V}
end

/-! ### a def's body keeps its promise -/
/-- names: the parameters first -/
structure FnScope (N P : List Str) (sc : Scope) : Prop where
  kind : sc.kind = .function
  co : sc.isCoroutine = false
  gen : sc.isGenerator = false
  nd : N.Nodup
  pre : N.take P.length = P
  par : ∀ x ∈ P, sc.names.lookup x = some .local ∨ sc.names.lookup x = some .cell
  nofree : ∀ y ∈ sc.names, y.2 ≠ .free

theorem bindL_out {kindOf : Str → Option NameKind} {x : Str} : ∀ {binds : List (Str × Value)} {m : Str → Option Value}, (∀ v, (x, v) ∉ binds) → bindL kindOf binds m x = m x
  | [], _, _ => rfl
  | (n, v) :: r, m, h => by
    unfold bindL
    rw [bindL_out fun w hw => h w (List.mem_cons_of_mem _ hw)]
    split
    · have : x ≠ n := by rintro rfl; exact h v List.mem_cons_self
      simp [this]
    · rfl
theorem bindC_out {kindOf : Str → Option NameKind} {x : Str} : ∀ {binds : List (Str × Value)} {m : Str → Option Value}, (∀ v, (x, v) ∉ binds) → bindC kindOf binds m x = m x
  | [], _, _ => rfl
  | (n, v) :: r, m, h => by
    unfold bindC
    rw [bindC_out fun w hw => h w (List.mem_cons_of_mem _ hw)]
    split
    · rfl
    · have : x ≠ n := by rintro rfl; exact h v List.mem_cons_self
      simp [this]
theorem bindL_get {kindOf : Str → Option NameKind} {x : Str} {v : Value} : ∀ {P : List Str} {vs : List Value} {i : Nat} {m : Str → Option Value}, P.Nodup → P[i]? = some x → vs[i]? = some v → kindOf x = some .local →
    bindL kindOf (P.zip vs) m x = some v
  | [], _, _, _, _, h, _, _ => by simp at h
  | _ :: _, [], _, _, _, _, h, _ => by simp at h
  | p :: P, w :: vs, 0, m, nd, h1, h2, hk => by
    simp at h1 h2; subst h1; subst h2
    show bindL kindOf ((p, w) :: P.zip vs) m p = _
    unfold bindL
    rw [bindL_out fun v hv => (List.nodup_cons.mp nd).1 (List.of_mem_zip hv).1, if_pos hk]
    simp
  | p :: P, w :: vs, i + 1, m, nd, h1, h2, hk => by
    show bindL kindOf ((p, w) :: P.zip vs) m x = _
    unfold bindL
    exact bindL_get (i := i) (List.nodup_cons.mp nd).2 (by simpa using h1) (by simpa using h2) hk
theorem bindC_get {kindOf : Str → Option NameKind} {x : Str} {v : Value} : ∀ {P : List Str} {vs : List Value} {i : Nat} {m : Str → Option Value}, P.Nodup → P[i]? = some x → vs[i]? = some v → kindOf x ≠ some .local →
    bindC kindOf (P.zip vs) m x = some v
  | [], _, _, _, _, h, _, _ => by simp at h
  | _ :: _, [], _, _, _, _, h, _ => by simp at h
  | p :: P, w :: vs, 0, m, nd, h1, h2, hk => by
    simp at h1 h2; subst h1; subst h2
    show bindC kindOf ((p, w) :: P.zip vs) m p = _
    unfold bindC
    rw [bindC_out fun v hv => (List.nodup_cons.mp nd).1 (List.of_mem_zip hv).1, if_neg hk]
    simp
  | p :: P, w :: vs, i + 1, m, nd, h1, h2, hk => by
    show bindC kindOf ((p, w) :: P.zip vs) m x = _
    unfold bindC
    exact bindC_get (i := i) (List.nodup_cons.mp nd).2 (by simpa using h1) (by simpa using h2) hk

/-- the names' values at the entry -/
def start (N : List Str) (vs : List V) : St := vs.map some ++ List.replicate (N.length - vs.length) none

/-- the context of a def's body, at its entry; an exception leaves the frame, then lies as CX says -/
def cxOf (CX : CXT) (P : Program) (w : World) (K : PySem.W.Frag) (mg : Str → Option Value) (base : Heap) (N : List Str) (qual : Str) (scope : Scope) (f : Addr) (cd : Value) (A : Around) (outer : List Env) (s : Shared) (H : Hp) (E : XK) : Cx where
  prog := P
  w := w
  K := K
  mg := mg
  base := base
  A := A.deeper (envOfC qual scope s.heap.objs.size f cd)
  N := N
  s₀ := s
  H₀ := H
  env := envOfC qual scope s.heap.objs.size f cd
  outer := outer
  stack := envOfC qual scope s.heap.objs.size f cd :: outer
  ex := []
  calm := true
  fn := fun _ => true
  pn := []
  xe := fun e s' => wpAny (model P w) (A.deeper (envOfC qual scope s.heap.objs.size f cd)) (leaving (envOfC qual scope s.heap.objs.size f cd) e) (fun _ s'' => CX outer H s E e s'') (fun e' s'' => CX outer H s E e' s'') s'

theorem cell_has {sc : Scope} {n : Nat} {x : Str} (h : sc.names.lookup x = some .cell) : ∃ c, (cellsFrom n sc.names []).lookup x = some c := by
  have q := PySem.W.cellsFrom_some sc.names n [] (.inl h)
  exact Option.isSome_iff_exists.mp q

theorem inv_start {CX : CXT} {P : Program} {w : World} {K : PySem.W.Frag} {mg : Str → Option Value} {base : Heap} {N ps : List Str} {qual : Str} {scope : Scope} {f : Addr} {cd : Value} {A : Around} {outer : List Env} {s s1 : Shared} {H : Hp} {E : XK} {us : List Value} {vs : List V}
    (S : FnScope N ps scope) (hd : A.handled = none) (e0 : Env0 P w K mg base A outer s H) (hl : vs.length = ps.length) (r : Vals vs us)
    (x : InCallC s s.heap.objs.size (bindL (envOfC qual scope s.heap.objs.size f cd).kindOf (ps.zip us) fun _ => none) (cellsFrom (s.heap.objs.size + 1) scope.names []) (bindC (envOfC qual scope s.heap.objs.size f cd).kindOf (ps.zip us) fun _ => none) s1) :
    Inv (cxOf CX P w K mg base N qual scope f cd A outer s H E) [] (start N vs) H s1 := by
  have hpl : ps.length ≤ N.length := by have := congrArg List.length S.pre; rw [List.length_take] at this; omega
  obtain ⟨h1, tk, rfl, hk⟩ := x.done
  have noA : ∀ b : Addr, b ∉ (cxOf CX P w K mg base N qual scope f cd A outer s H E).ex := fun b z => absurd (show b ∈ ([] : List Addr) from z) (by simp)
  refine ⟨⟨e0.mod, S.kind, rfl, rfl, Nat.le_refl _, fun y z c h1 h2 => ?_, fun y hy => ?_, fun y c _ h => ?_, fun _ => hd, Around.frames_deeper e0.frames, .inr ⟨rfl, rfl⟩, fun b z => absurd z (noA b), e0.bs, e0.bsz, fun b _ _ => noA b, fun b z => absurd z (noA b), e0.funs, e0.frf⟩,
    rfl, e0.bare, Un.kept hk, ⟨_, x.toInCall.ns, fun i y v h1 h2 h3 => ?_⟩, fun y c h => ⟨_, x.cell y c h⟩, e0.hok.fresh (Nat.le_refl _), fun y c h => ?_, fun p hp => absurd (show p ∈ ([] : List (Addr × Obj)) from hp) (by simp), e0.hok.kept hk, ?_⟩
  · exact name_of_addr x.apart (PySem.mem_of_lookup h1) (PySem.mem_of_lookup h2)
  · have hy : scope.names.lookup y = some .cell ∨ scope.names.lookup y = some .free := hy
    rcases hy with hy | hy
    · exact cell_has hy
    · exact absurd rfl (S.nofree _ (PySem.mem_of_lookup hy))
  · exact Nat.le_of_lt (x.above y c (PySem.mem_of_lookup h))
  · have hi : i < vs.length := by
      unfold start at h2
      by_cases hi : i < vs.length
      · exact hi
      · rw [List.getElem?_append_right (by simpa using hi)] at h2
        rw [List.getElem?_replicate] at h2
        split at h2 <;> cases h2
    have ha : vs[i]? = some v := by
      unfold start at h2
      rw [List.getElem?_append_left (by simpa using hi), List.getElem?_map] at h2
      cases e : vs[i]? with
      | none => rw [e] at h2; cases h2
      | some a => rw [e] at h2; cases h2; rfl
    obtain ⟨u, hu, rv⟩ := r.get ha
    have hp : ps[i]? = some y := by
      rw [← S.pre, List.getElem?_take_of_lt (by omega)]; exact h1
    have ndP : ps.Nodup := by rw [← S.pre]; exact S.nd.sublist (List.take_sublist _ _)
    refine ⟨u, rv, ?_⟩
    rcases S.par y (List.mem_of_getElem? hp) with k | k
    · exact .inl ⟨k, bindL_get ndP hp hu k⟩
    · obtain ⟨c, e⟩ := cell_has (n := s.heap.objs.size + 1) k
      refine .inr ⟨.inl k, c, e, ?_⟩
      have q := x.cell y c e
      rw [bindC_get ndP hp hu (by show scope.names.lookup y ≠ _; rw [k]; decide)] at q
      exact q
  · exact e0.hok.fresh (Nat.le_of_lt (x.above y c (PySem.mem_of_lookup h)))
  · unfold start
    show _ = N.length
    rw [List.length_append, List.length_map, List.length_replicate]
    omega

/-- THE RULE: a def (or a method) of the text, by its body. The body's reading t is chosen for each entry; it is run at the parameters' values -/
theorem fn_of {CX : CXT} {P : Program} {w : World} {K : PySem.W.Frag} {mg : Str → Option Value} {base : Heap} {k : Nat} {f : Addr} {name qual : Str} {params : Arguments} {body : List Stmt} {scope : Scope} {dV kV doc pm cdv ct oc : Value} {an od : Option Addr}
    {osl : Array (Option Value)} {N ps : List Str} {sp : Sp} (lk : K.lookup f = some ⟨oc, od, .func (PySem.W.fnOf name qual params body scope dV kV doc pm an cdv ct), osl⟩) (hcd : PySem.W.codeIn K cdv qual = true) (S : FnScope N ps scope)
    (len : ∀ vs H Q E, sp vs H Q E → vs.length = ps.length)
    (hbody : ∀ (A : Around) (outer : List Env) (s : Shared) (H : Hp) (vs : List V) (Q : VK) (E : XK), Room k (A.deeper (envOfC qual scope s.heap.objs.size f cdv)) → sp vs H Q E →
      ∃ t, PSs (cxOf CX P w K mg base N qual scope f cdv A outer s H E) body t ∧ t { nx := fun _ H' => Q .non H', rt := Q } (start N vs) H) :
    FnOk P w K mg base CX (k + 1) f (PySem.W.fnOf name qual params body scope dV kV doc pm an cdv ct) ps sp := by
  refine ⟨len, fun A outer s H args us vs Q E hr e0 hb r hsp => ?_⟩
  have hl := len _ _ _ _ hsp
  have KX : K.In s.heap := e0.mod.kin.keeps fun b o e => (e0.bs b o e).1
  have lim : s.heap.NoLimit := e0.mod.nolimit.keeps fun b o e => (e0.bs b o e).1
  have hkind : ∀ y ∈ ps.zip us, scope.names.lookup y.1 = some .local ∨ (scope.names.lookup y.1 = some .cell ∧ ((cellsFrom (s.heap.objs.size + 1) scope.names []).lookup y.1).isSome = true) := fun ⟨n, v⟩ hy => by
    rcases S.par n (List.of_mem_zip hy).1 with q | q
    · exact .inl q
    · exact .inr ⟨q, PySem.W.cellsFrom_some _ _ _ (.inl q)⟩
  refine codeAny_call_function hr.depth (KX _ _ lk) rfl S.co S.gen rfl (PySem.W.codeRec_of KX hcd) (hb _ _ _ _ ?_)
  refine wpAny_newFunctionEnv_cells S.kind hkind fun env he s1 x => ?_
  subst he
  refine ⟨lim.keeps x.toInCall.keep, codeAny_func ?_⟩
  obtain ⟨t, ht, hq⟩ := hbody A outer s H vs Q E (hr.deeper _) hsp
  have I : Inv (cxOf CX P w K mg base N qual scope f cdv A outer s H E) [] (start N vs) H s1 := inv_start S hr.hd e0 hl r x
  refine wpAny_mono (ht [] s1 (start N vs) H _ I hq) (fun fl s' hs => ?_) fun e s' hs => hs
  have fin : ∀ {σ' : St} {H' : Hp} {v : V} {u : Value}, Inv (cxOf CX P w K mg base N qual scope f cdv A outer s H E) [] σ' H' s' → RelV v u → Q v H' → CE outer P w H s Q u s' :=
    fun {σ' H' v u} J rv q => ⟨v, H', J.os, J.bare, J.base, J.hok, rv, q⟩
  cases fl with
  | ret u =>
    obtain ⟨v, σ', H', J, rv, q⟩ := hs
    exact fin J rv q
  | next =>
    obtain ⟨σ', H', J, q⟩ := hs
    exact fin (v := V.non) (u := Value.none) J rfl q
  | brk =>
    obtain ⟨_, _, _, q⟩ := hs
    exact False.elim q
  | cont =>
    obtain ⟨_, _, _, q⟩ := hs
    exact False.elim q
end L2

namespace L2
open PySem PySem.Spec PyProof.Rows
section
variable {X : Cx} {x : Str} {p pos : Pos} {e : Expr} {es : List Expr} {t : TA} {id T : String} {r : List V → Hp → VK → Prop}

def tCB (r : List V → Hp → VK → Prop) (t : TA) : TE := fun σ H Q => t σ H fun vs H1 => r vs H1 Q
/-- f(e, ..), f a built-in function -/
theorem pe_callB (hc : CallR X (.builtin id) r) (hg : Gl X x) (hm : X.mg x = none) (hv : bootBuiltins x = some (.builtin id)) (ha : PA X (e :: es) t) (hn : x ≠ "__name__" := by decide) (hdb : (x == ("__debug__" : Str)) = false := by decide)
    (he : starEach (e :: es) X.env = (false, eval e X.env) :: starEach es X.env := by rfl) (hpl : (backTo pos (starEach es X.env)).any (·.1) = false := by rfl) : PE X (.Call (.Name x p) (e :: es) [] pos) (tCB r t) := by
  intro pins s σ H Q I h
  refine wpAny_Call_Name_kw (ld_blt I hg hm hv ?_ hn hdb)
  exact PyProof.Rows.callWith_builtin1 (thn (ha pos pins s σ H _ I h) fun us s1 ⟨vs, H1, I1, r1, q1⟩ => hc pins s1 σ H1 vs us Q I1 r1 q1) he hpl
/-- T(e, ..), T a built-in type -/
theorem pe_callTy (hc : CallR X (.type T) r) (hg : Gl X x) (hm : X.mg x = none) (hv : bootBuiltins x = some (.type T)) (ha : PA X (e :: es) t) (hn : x ≠ "__name__" := by decide) (hdb : (x == ("__debug__" : Str)) = false := by decide)
    (he : starEach (e :: es) X.env = (false, eval e X.env) :: starEach es X.env := by rfl) (hpl : (backTo pos (starEach es X.env)).any (·.1) = false := by rfl) : PE X (.Call (.Name x p) (e :: es) [] pos) (tCB r t) := by
  intro pins s σ H Q I h
  refine wpAny_Call_Name_kw (ld_blt I hg hm hv ?_ hn hdb)
  exact PyProof.Rows.callWith_type1 (thn (ha pos pins s σ H _ I h) fun us s1 ⟨vs, H1, I1, r1, q1⟩ => hc pins s1 σ H1 vs us Q I1 r1 q1) he hpl
end
end L2

namespace HT
open PySem PyProof.Rows

/-- t < u of tuples of ints -/
def lexLt : List Int → List Int → Bool
  | [], [] => false
  | [], _ :: _ => true
  | _ :: _, [] => false
  | x :: xs, y :: ys => if x = y then lexLt xs ys else decide (x < y)
section
open PySem.SeqAt
open PySem.AutoSeq1 (wpAny_loadPart')
open PySem.MeetsSeq PySem.MeetsSeq2 PySem.MeetsSeq3

end

section
variable {prog : Program} {w : World} {A : Around} {E : Value → Shared → Prop} {s : Shared}

/-! ### t[a:b], not the whole -/
/-- a slice's bound as a place among n (d where it is left out) -/
def sIx (n d : Nat) : Option Int → Nat
  | none => d
  | some v => if v < 0 then (v + (n : Int)).toNat else min v.toNat n
end
end HT

namespace L2
open PySem PySem.Spec PyProof.Rows

/-! ### the parts of a slice -/
abbrev TO := St → Hp → (Option Int → Hp → Prop) → Prop
/-- a slice's part (left out, or an int) -/
def PO (X : Cx) (e : Option Expr) (t : TO) : Prop :=
  ∀ (pins : List (Addr × Obj)) (s : Shared) (σ : St) (H : Hp) (Q : Option Int → Hp → Prop), Inv X pins σ H s → t σ H Q →
    wpAny (model X.prog X.w) X.A (evalPart e X.env) (fun u s' => ∃ o H', Inv X pins σ H' s' ∧ IsPart u o ∧ Q o H') X.xe s
def tNoPart : TO := fun _ H Q => Q none H
def tPart (t : TE) : TO := fun σ H Q => t σ H fun x H1 => ∃ i, x = .int i ∧ Q (some i) H1

section
variable {X : Cx} {e : Expr} {te : TE} {lo hi : Option Expr} {tl th : TO} {pos p2 : Pos}

theorem po_none : PO X none tNoPart := by
  intro pins s σ H Q I h
  rw [evalPart_none]
  exact wpAny_pure ⟨none, H, I, .none, h⟩
theorem po_some (h : PE X e te) : PO X (some e) (tPart te) := by
  intro pins s σ H Q I hw
  rw [evalPart_some]
  refine thn (h pins s σ H _ I hw) fun u s1 ⟨x, H1, I1, r1, q1⟩ => ?_
  obtain ⟨i, rfl, q⟩ := q1
  obtain ⟨t, rfl⟩ := r1
  exact ⟨some i, H1, I1, .int i t, q⟩

/-- what a slice of a value is, by values: the slice object stands at sl -/
def SlR (X : Cx) (r : V → Option Int → Option Int → Hp → VK → Prop) : Prop :=
  ∀ (pins : List (Addr × Obj)) (s : Shared) (σ : St) (H : Hp) (x : V) (v vl vu : Value) (lo hi : Option Int) (sl : Addr) (Q : VK), Inv X pins σ H s → RelV x v → s.heap.IsSliceOf sl vl vu .none → IsPart vl lo → IsPart vu hi → r x lo hi H Q →
    ∃ T id, typeLookup (.type T) "__getitem__" = pure (some (.builtin id)) ∧ s.TypeIs v T ∧ wpAny (model X.prog X.w) X.A (getItem v (.ref sl)) (EP X pins σ Q) X.xe s
def tSl (r : V → Option Int → Option Int → Hp → VK → Prop) (te : TE) (tl th : TO) : TE := fun σ H Q => te σ H fun x H1 => tl σ H1 fun l H2 => th σ H2 fun u H3 => r x l u H3 Q
/-- a[lo:hi], any a -/
theorem pe_slice {r : V → Option Int → Option Int → Hp → VK → Prop} (hr : SlR X r) (he : PE X e te) (hl : PO X lo tl) (hu : PO X hi th) : PE X (.Subscript e (.Slice lo hi none p2) pos) (tSl r te tl th) := by
  intro pins s σ H Q I h
  refine Subscript_ (thn (he pins s σ H _ I h) fun v s1 ⟨x, H1, I1, r1, q1⟩ => ?_)
  refine wpAny_Slice (thn (hl pins s1 σ H1 _ I1 q1) fun vl s2 ⟨l, H2, I2, pl, q2⟩ => thn (hu pins s2 σ H2 _ I2 q2) fun vu s3 ⟨u, H3, I3, pu, q3⟩ => ?_)
  rw [evalPart_none]
  refine wpAny_pure ?_
  have I4 : Inv X pins σ H3 { s3 with heap := s3.heap.push { cls := .type "slice", data := .fields #[vl, vu, .none] } } := I3.kept (t' := s3.toks) fun b ob q => Heap.get?_push_of_some _ q
  obtain ⟨T, id, hT, ht, hg⟩ := hr pins { s3 with heap := s3.heap.push { cls := .type "slice", data := .fields #[vl, vu, .none] } } σ H3 x v vl vu l u s3.heap.objs.size Q I4 r1 (Heap.IsSliceOf.new ..) pl pu q3
  show wpAny (model X.prog X.w) X.A (subscriptTail e (.Slice lo hi none p2) v (.ref s3.heap.objs.size)) (EP X pins σ Q) X.xe { s3 with heap := s3.heap.push { cls := .type "slice", data := .fields #[vl, vu, .none] } }
  exact tail_any (ops := [.ref s3.heap.objs.size, v]) ht hT hg (by with_unfolding_all rfl)

/-- the items of xs[lo:hi] -/
def cutV (xs : List V) (lo hi : Option Int) : List V := (xs.drop (HT.sIx xs.length 0 lo)).take (HT.sIx xs.length xs.length hi - HT.sIx xs.length 0 lo)
theorem cutV_length (xs : List V) (lo hi : Option Int) : (cutV xs lo hi).length ≤ xs.length := by
  unfold cutV
  rw [List.length_take, List.length_drop]
  omega
/-- t[lo:hi], not the whole of it (the whole would be t itself) -/
def rSlT (K : PySem.W.Frag) : V → Option Int → Option Int → Hp → VK → Prop := fun x lo hi H Q => ∃ a xs, x = .ref a ∧ SqT K H a xs ∧
  ¬ (HT.sIx xs.length 0 lo = 0 ∧ HT.sIx xs.length xs.length hi = xs.length) ∧ ∀ p, H p = none → Q (.ref p) (upd H p (.tup (cutV xs lo hi)))
/-! ### t < u, t + u -/
def rLtT (K : PySem.W.Frag) : R2 := fun x y H Q => ∃ a b ns ms, x = .ref a ∧ y = .ref b ∧ SqT K H a (ns.map V.int) ∧ SqT K H b (ms.map V.int) ∧ Q (.bl (HT.lexLt ns ms)) H
/-- t + u, t not empty: u empty gives t itself -/
def rCatT (K : PySem.W.Frag) : R2 := fun x y H Q => ∃ a b xs ys, x = .ref a ∧ y = .ref b ∧ SqT K H a xs ∧ SqT K H b ys ∧ xs ≠ [] ∧ xs.length + ys.length ≤ sizeLine ∧
  (ys = [] → Q (.ref a) H) ∧ (ys ≠ [] → ∀ p, H p = none → Q (.ref p) (upd H p (.tup (xs ++ ys))))
end
end L2

namespace L2
open PySem PySem.Spec PyProof.Rows

/-! ### places -/
/-- the place that an index of any sign means -/
def ixN (n : Nat) (i : Int) : Option Nat := if 0 ≤ i then (if i < n then some i.toNat else none) else if -(n : Int) ≤ i then some (i + n).toNat else none
def atI {α : Type} (xs : List α) (i : Int) : Option α := (ixN xs.length i).bind fun j => xs[j]?
theorem ixN_seq {n : Nat} {i : Int} {j : Nat} (h : ixN n i = some j) : seqIndex? i n = some j ∧ j < n ∧ -(n : Int) ≤ i ∧ i < n := by
  unfold ixN at h
  by_cases h0 : 0 ≤ i
  · rw [if_pos h0] at h
    by_cases h1 : i < n
    · rw [if_pos h1] at h
      have e : i.toNat = j := Option.some.inj h
      exact ⟨by rw [seqIndex_of h0 h1, e], by omega, by omega, h1⟩
    · rw [if_neg h1] at h; cases h
  · rw [if_neg h0] at h
    by_cases h1 : -(n : Int) ≤ i
    · rw [if_pos h1] at h
      have e : (i + n).toNat = j := Option.some.inj h
      exact ⟨by rw [seqIndex_neg (by omega) h1, e], by omega, h1, by omega⟩
    · rw [if_neg h1] at h; cases h
theorem atI_get {α : Type} {xs : List α} {i : Int} {v : α} (h : atI xs i = some v) : ∃ j, seqIndex? i xs.length = some j ∧ xs[j]? = some v ∧ j < xs.length ∧ -(xs.length : Int) ≤ i ∧ i < xs.length := by
  unfold atI at h
  cases e : ixN xs.length i with
  | none => rw [e] at h; cases h
  | some j =>
    rw [e] at h
    obtain ⟨h1, h2, h3, h4⟩ := ixN_seq e
    exact ⟨j, h1, h, h2, h3, h4⟩
theorem atI_nat {α : Type} {xs : List α} {j : Nat} {v : α} (h : xs[j]? = some v) : atI xs (j : Int) = some v := by
  have hj : j < xs.length := (List.getElem?_eq_some_iff.mp h).1
  have e : ixN xs.length (j : Int) = some j := by
    unfold ixN
    rw [if_pos (by omega), if_pos (by omega)]; simp
  unfold atI; rw [e]; exact h
/-! ### what may be subscripted -/
/-- what stands as an index of a plain subscript -/
def PlainIx (b : Expr) : Prop := ∀ o i, subscripted b false o i = operate [o, i] (getItem o i)
/-- a subscript by values -/
def IxR (X : Cx) (r : R2) : Prop :=
  ∀ (value slice : Expr) (pins : List (Addr × Obj)) (s : Shared) (σ : St) (H : Hp) (x y : V) (v u : Value) (Q : VK), Inv X pins σ H s → RelV x v → RelV y u → r x y H Q →
    subscripted slice false v u = operate [v, u] (getItem v u) → wpAny (model X.prog X.w) X.A (subscriptTail value slice v u) (EP X pins σ Q) X.xe s
/-- a call of a builtin's method by values: the receiver, the arguments -/
def MtR (X : Cx) (id : String) (r : V → List V → Hp → VK → Prop) : Prop :=
  ∀ (pins : List (Addr × Obj)) (s : Shared) (σ : St) (H : Hp) (x : V) (xs : List V) (v : Value) (us : List Value) (Q : VK), Inv X pins σ H s → RelV x v → Vals xs us → r x xs H Q →
    wpAny (model X.prog X.w) X.A (call (.builtin id) (v :: us)) (EP X pins σ Q) X.xe s
section
variable {X : Cx} {a b : Expr} {ta tb : TE} {pos : Pos}
/-- a[b] -/
theorem pe_ix {r : R2} (hr : IxR X r) (ha : PE X a ta) (hb : PE X b tb) (hs : PlainIx b) : PE X (.Subscript a b pos) (tOp r ta tb) := by
  intro pins s σ H Q I h
  exact Subscript_ (binT ha hb I h fun v u s2 x y H2 I2 rx ry q => hr a b pins s2 σ H2 x y v u Q I2 rx ry q (hs _ _))

inductive RIxL (K : PySem.W.Frag) (x y : V) (H : Hp) (Q : VK) : Prop where | mk (p : Addr) (xs : List V) (i : Int) (v : V) (e : x = .ref p) (e' : y = .int i) (h : SqL K H p xs) (h' : atI xs i = some v) (q : Q v H) : RIxL K x y H Q
def rIxL (K : PySem.W.Frag) : R2 := fun x y H Q => RIxL K x y H Q
inductive RIxT (K : PySem.W.Frag) (x y : V) (H : Hp) (Q : VK) : Prop where | mk (p : Addr) (xs : List V) (i : Int) (v : V) (e : x = .ref p) (e' : y = .int i) (h : SqT K H p xs) (h' : atI xs i = some v) (q : Q v H) : RIxT K x y H Q
def rIxT (K : PySem.W.Frag) : R2 := fun x y H Q => RIxT K x y H Q
def rIxS : R2 := fun x y H Q => ∃ z i c, x = .str z ∧ y = .int i ∧ z.length ≤ sizeLine ∧ atI z.cps.toList i = some c ∧ Q (.str ⟨#[c]⟩) H
theorem ix_list : IxR X (rIxL X.K) := by
  intro value slice pins s σ H x y v u Q I rx ry h hs
  obtain ⟨p, xs, i, z, rfl, rfl, hq, he, q⟩ := h
  cases rx
  obtain ⟨t, rfl⟩ := ry
  obtain ⟨its, r, pl, hz⟩ := I.list hq
  obtain ⟨j, h1, h2, h3, h4, h5⟩ := atI_get he
  obtain ⟨w, ew, rw'⟩ := r.get h2
  have hl := r.length
  have hn := line63
  have fin : EP X pins σ Q w s := ⟨z, H, I, rw', q⟩
  by_cases h0 : 0 ≤ i
  · have hj : i.toNat = j := by
      rw [seqIndex_of h0 h5] at h1
      exact Option.some.inj h1
    exact item_listR pl.isList h0 (by omega) (by rw [hj]; simpa using ew) fin hs
  · have hj : (i + (its.toArray.size : Int)).toNat = j := by
      rw [seqIndex_neg (by omega) h4] at h1
      rw [List.size_toArray, ← hl]
      exact Option.some.inj h1
    exact subscriptTail_builtinR (x := w) pl.isList.typeIs slot_list_getitem.lookup
      (wpAny_getItem_list_neg (Q := fun r s' => r = w ∧ EP X pins σ Q r s') pl.isList (by omega) (by rw [List.size_toArray] <;> omega) (by omega) (by rw [hj]; simpa using ew) ⟨rfl, fin⟩) hs
theorem ix_tup : IxR X (rIxT X.K) := by
  intro value slice pins s σ H x y v u Q I rx ry h hs
  obtain ⟨p, xs, i, z, rfl, rfl, hq, he, q⟩ := h
  cases rx
  obtain ⟨t, rfl⟩ := ry
  obtain ⟨its, r, pl, hz⟩ := I.tuple hq
  obtain ⟨j, h1, h2, h3, h4, h5⟩ := atI_get he
  obtain ⟨w, ew, rw'⟩ := r.get h2
  have hl := r.length
  have hn := line63
  have fin : EP X pins σ Q w s := ⟨z, H, I, rw', q⟩
  exact subscriptTail_builtinR (x := w) pl.typeIs slot_tuple_getitem.lookup
    (getItem_tuple (j := j) (Q := fun r s' => r = w ∧ EP X pins σ Q r s') pl (by omega) (by omega) (by rw [List.size_toArray, ← hl]; exact h1) (by simpa using ew) ⟨rfl, fin⟩) hs
theorem ix_str : IxR X rIxS := by
  intro value slice pins s σ H x y v u Q I rx ry h hs
  obtain ⟨z, i, c, rfl, rfl, hz, he, q⟩ := h
  obtain ⟨t, rfl⟩ := rx
  obtain ⟨t', rfl⟩ := ry
  obtain ⟨j, h1, h2, h3, h4, h5⟩ := atI_get he
  have hl : z.cps.toList.length = z.length := by simp [Str.length]
  rw [hl] at h1 h4 h5
  have hn := line63
  exact tail_any (typeIs_str s z t) slot_str_getitem.lookup (getItem_str (c := c) (by
    have e1 : decide (i < -(2 ^ 63 : Int)) = false := decide_eq_false (by omega)
    have e2 : decide (i ≥ 2 ^ 63) = false := decide_eq_false (by omega)
    rw [e1, e2, Bool.or_false]) (by rw [h1]; simpa using h2) ⟨.str ⟨#[c]⟩, H, I.tok _, ⟨_, rfl⟩, q⟩) hs
/-- list, tuple or str -/
def rIx (K : PySem.W.Frag) : R2 := fun x y H Q => rIxL K x y H Q ∨ rIxT K x y H Q ∨ rIxS x y H Q
/-! ### xs[i] = v, any sign -/
/-- the list's object behind a store -/
theorem mapSeq_set (its : List Value) (n j : Nat) (u : Value) : Obj.mapSeq (·.setIfInBounds j u) { cls := .type "list", data := .seq its.toArray n } = { cls := .type "list", data := .seq (its.set j u).toArray n } := by
  simp [Obj.mapSeq]
theorem Inv.lst {pins : List (Addr × Obj)} {σ : St} {H : Hp} {s : Shared} {p : Addr} {xs : List V} (I : Inv X pins σ H s) (h : H p = some (.lst xs)) :
    ∃ (its : List Value) (n : Nat), Vals xs its ∧ s.heap.get? p = some { cls := .type "list", data := .seq its.toArray n } ∧ xs.length ≤ sizeLine := by
  obtain ⟨z, its, n, r, e⟩ := I.hok p _ h
  exact ⟨its, n, r, e, z⟩
/-- the list at p is written by an update of its object -/
theorem Inv.lstUpd {pins : List (Addr × Obj)} {σ : St} {H : Hp} {s : Shared} {p : Addr} {xs ys : List V} {its its' : List Value} {n n' : Nat} {f : Obj → Obj} (I : Inv X pins σ H s) (h : H p = some (.lst xs))
    (ho : s.heap.get? p = some { cls := .type "list", data := .seq its.toArray n }) (hf : f { cls := .type "list", data := .seq its.toArray n } = { cls := .type "list", data := .seq its'.toArray n' }) (r : Vals ys its') (hz : ys.length ≤ sizeLine) (t : Nat) :
    Inv X pins σ (upd H p (.lst ys)) { s with heap := s.heap.update p f, toks := t } := by
  have e : (s.heap.update p f).get? p = some { cls := .type "list", data := .seq its'.toArray n' } := by
    rw [Heap.get?_update_self f ho (by rw [hf] <;> rfl), hf]
  refine I.write (x := p) (e := p) (by rw [h]; trivial) (.inl rfl) (fun b u hb q => (Heap.get?_update_other _ _ (Ne.symm hb)).trans q) ⟨_, e⟩ ?_
  exact ⟨hz, its', n', r, e⟩
def rSetL : V → V → V → Hp → (Hp → Prop) → Prop := fun o i v H Q => ∃ p xs k j, o = .ref p ∧ i = .int k ∧ H p = some (.lst xs) ∧ ixN xs.length k = some j ∧ Q (upd H p (.lst (xs.set j v)))
theorem set_list : PSet X rSetL := by
  intro pins s σ H o i v ov iv u Q I ro ri rv h
  obtain ⟨p, xs, k, j, rfl, rfl, hp, hj, q⟩ := h
  cases ro
  obtain ⟨t, rfl⟩ := ri
  obtain ⟨its, n, r, ho, hz⟩ := I.lst hp
  obtain ⟨h1, h2, h3, h4⟩ := ixN_seq hj
  have hl := r.length
  have hn := line63
  have I' : Inv X pins σ (upd H p (.lst (xs.set j v))) { s with heap := s.heap.update p (Obj.mapSeq (·.setIfInBounds j u)) } :=
    I.lstUpd hp ho (mapSeq_set its n j u) (r.set rv j) (by rw [List.length_set]; exact hz) s.toks
  by_cases h0 : 0 ≤ k
  · have hk : k.toNat = j := by
      rw [seqIndex_of h0 h4] at h1
      exact Option.some.inj h1
    exact PySem.W.ki_setAt ho h0 (by omega) (by rw [List.size_toArray, ← hl]; exact h4) (by rw [hk]; exact ⟨_, I', q⟩)
  · have hk : (k + (its.toArray.size : Int)).toNat = j := by
      rw [seqIndex_neg (by omega) h3] at h1
      rw [List.size_toArray, ← hl]
      exact Option.some.inj h1
    exact PySem.W.ki_setBack ho (by omega) (by rw [List.size_toArray, ← hl]; exact h3) (by omega) (by rw [hk]; exact ⟨_, I', q⟩)

/-! ### slices -/
theorem slice_bounds (lo hi : Option Int) (n : Nat) : (sliceBounds lo hi none n).1 = ((HT.sIx n 0 lo : Nat) : Int) ∧ (sliceBounds lo hi none n).2.1 = ((HT.sIx n n hi : Nat) : Int) ∧ (sliceBounds lo hi none n).2.2 = 1 := by
  refine ⟨?_, ?_, rfl⟩
  · cases lo with
    | none => simp [sliceBounds, HT.sIx]
    | some i =>
      simp only [sliceBounds, HT.sIx, Option.getD_none, show (1 : Int) > 0 by decide, if_true]
      by_cases h : i < 0
      · simp only [h, if_true] <;> omega
      · simp only [h, if_false] <;> omega
  · cases hi with
    | none => simp [sliceBounds, HT.sIx]
    | some i =>
      simp only [sliceBounds, HT.sIx, Option.getD_none, show (1 : Int) > 0 by decide, if_true]
      by_cases h : i < 0
      · simp only [h, if_true] <;> omega
      · simp only [h, if_false] <;> omega
theorem slicePick_cut (its : List Value) (lo hi : Option Int) : slicePick its.toArray lo hi none = ((its.drop (HT.sIx its.length 0 lo)).take (HT.sIx its.length its.length hi - HT.sIx its.length 0 lo)).toArray := by
  obtain ⟨h1, h2, h3⟩ := slice_bounds lo hi its.toArray.size
  unfold slicePick
  rw [h1, h2, h3]
  simp only [sliceRange_one, pick_run, List.size_toArray] <;> rfl
/-- xs[lo:hi] of a list: a new list -/
def rSlL (K : PySem.W.Frag) : V → Option Int → Option Int → Hp → VK → Prop := fun x lo hi H Q => ∃ a xs, x = .ref a ∧ SqL K H a xs ∧ ∀ p, H p = none → Q (.ref p) (upd H p (.lst (cutV xs lo hi)))
theorem sl_list : SlR X (rSlL X.K) := by
  intro pins s σ H x v vl vu lo hi sl Q I rx hs pl pu h
  obtain ⟨a, xs, rfl, hx, q⟩ := h
  cases rx
  obtain ⟨its, r, ht, hz⟩ := I.list hx
  have hlen := r.length
  refine ⟨"list", _, slot_list_getitem.lookup, ht.isList.typeIs, ?_⟩
  refine wpAny_getItem_list_slice ht.isList hs pl pu .none (by simp) ?_ (by rw [List.size_toArray] <;> omega)
  rw [slicePick_cut, ← hlen]
  refine ⟨.ref s.heap.objs.size, _, I.laid (t' := s.toks) (o := .lst (cutV xs lo hi)) (fun b ob q => Heap.get?_push_of_some _ q) (Nat.le_refl _) ?_, rfl, q _ (I.hok.fresh (Nat.le_refl _))⟩
  exact ⟨Nat.le_trans (cutV_length xs lo hi) hz, _, 0, (r.drop (HT.sIx xs.length 0 lo)).take (HT.sIx xs.length xs.length hi - HT.sIx xs.length 0 lo), Heap.get?_push_size _ rfl⟩

/-! ### in, not in: flat items -/
def flatV : V → Bool
  | .non => true
  | .bl _ => true
  | .int _ => true
  | .str _ => true
  | _ => false
/-- == of flat values -/
def eqV : V → V → Bool
  | .non, .non => true
  | .bl a, .bl b => a == b
  | .bl a, .int b => (if a then 1 else 0) == b
  | .int a, .bl b => a == (if b then 1 else 0)
  | .int a, .int b => a == b
  | .str a, .str b => a == b
  | _, _ => false
theorem eqAt_V {A : Around} {s : Shared} {y x : V} {u v : Value} (ry : RelV y u) (rx : RelV x v) (fy : flatV y = true) (fx : flatV x = true) : SeqAt.EqAt A s u v (eqV y x) := by
  cases y with
  | non =>
    cases ry
    cases x with
    | non => cases rx; exact SeqAt.EqAt.same _
    | bl b => cases rx; exact SeqAt.EqAt.none_bool b
    | int b => obtain ⟨t, rfl⟩ := rx; exact SeqAt.EqAt.none_int b t
    | str b => obtain ⟨t, rfl⟩ := rx; exact SeqAt.EqAt.none_str b t
    | _ => exact absurd (show false = true from fx) Bool.false_ne_true
  | bl a =>
    cases ry
    cases x with
    | non => cases rx; exact SeqAt.EqAt.bool_none a
    | bl b => cases rx; exact SeqAt.EqAt.bool_bool a b
    | int b => obtain ⟨t, rfl⟩ := rx; exact SeqAt.EqAt.bool_int a b t
    | str b => obtain ⟨t, rfl⟩ := rx; exact SeqAt.EqAt.bool_str a b t
    | _ => exact absurd (show false = true from fx) Bool.false_ne_true
  | int a =>
    obtain ⟨t', rfl⟩ := ry
    cases x with
    | non => cases rx; exact SeqAt.EqAt.int_none a t'
    | bl b => cases rx; exact SeqAt.EqAt.int_bool a t' b
    | int b => obtain ⟨t, rfl⟩ := rx; exact SeqAt.EqAt.int_int a t' b t
    | str b => obtain ⟨t, rfl⟩ := rx; exact SeqAt.EqAt.int_str a t' b t
    | _ => exact absurd (show false = true from fx) Bool.false_ne_true
  | str a =>
    obtain ⟨t', rfl⟩ := ry
    cases x with
    | non => cases rx; exact SeqAt.EqAt.str_none a t'
    | bl b => cases rx; exact SeqAt.EqAt.str_bool a t' b
    | int b => obtain ⟨t, rfl⟩ := rx; exact SeqAt.EqAt.str_int a t' b t
    | str b => obtain ⟨t, rfl⟩ := rx; exact SeqAt.EqAt.str_str a t' b t
    | _ => exact absurd (show false = true from fx) Bool.false_ne_true
  | _ => exact absurd (show false = true from fy) Bool.false_ne_true
/-- the items' answers, read off the values (a value's own answer does not lean on its token) -/
def eqU (x : V) (u : Value) : Bool := match u with
  | .none => eqV .non x
  | .bool b => eqV (.bl b) x
  | .int i _ => eqV (.int i) x
  | .str z _ => eqV (.str z) x
  | _ => false
def inV (x : V) (xs : List V) : Bool := xs.any fun y => eqV y x
/-- x in a list or tuple of flat items -/
def rIn (K : PySem.W.Frag) (neg : Bool) : R2 := fun x y H Q => ∃ p xs, y = .ref p ∧ (SqL K H p xs ∨ SqT K H p xs) ∧ flatV x = true ∧ xs.all flatV = true ∧ Q (.bl (if neg then !inV x xs else inV x xs)) H
theorem op_notIn_str : OpR X (compareOp .NotIn) (fun x y H Q => ∃ i j, x = .str i ∧ y = .str j ∧ Q (.bl (!(!(Builtin.Str.occurrences j i 0 j.length 1).isEmpty))) H) := by
  intro pins s σ H x y v u Q I rx ry h
  obtain ⟨i, j, rfl, rfl, q⟩ := h
  obtain ⟨t, rfl⟩ := rx
  obtain ⟨t', rfl⟩ := ry
  exact notIn_str ⟨.bl _, H, I, rfl, q⟩

/-! ### len, list(x), tuple(x) of any list or tuple that is read -/
theorem call_len_seq : CallR X (.builtin "len") (fun xs H Q => ∃ p ys, xs = [.ref p] ∧ (SqL X.K H p ys ∨ SqT X.K H p ys) ∧ Q (.int ys.length) H) := by
  intro pins s σ H xs us Q I r h
  obtain ⟨p, ys, rfl, hq, q⟩ := h
  obtain ⟨u, rfl, rx⟩ := vals1 r
  cases rx
  have hn := line63
  rcases hq with hq | hq
  · obtain ⟨its, r', pl, hz⟩ := I.list hq
    have hlen := r'.length
    exact Calls.call_len_list pl.isList (by simp only [List.size_toArray] <;> omega) ⟨.int ys.length, H, I.tok _, ⟨s.toks + 1, by rw [List.size_toArray, hlen]⟩, q⟩
  · obtain ⟨its, r', pl, hz⟩ := I.tuple hq
    have hlen := r'.length
    exact len_tuple pl (by simp only [List.size_toArray] <;> omega) ⟨.int ys.length, H, I.tok _, ⟨s.toks + 1, by rw [List.size_toArray, hlen]⟩, q⟩
theorem call_len_str : CallR X (.builtin "len") (fun xs H Q => ∃ z, xs = [.str z] ∧ z.length ≤ sizeLine ∧ Q (.int z.length) H) := by
  intro pins s σ H xs us Q I r h
  obtain ⟨z, rfl, hz, q⟩ := h
  obtain ⟨u, rfl, t, rfl⟩ := vals1 r
  have hn := line63
  exact len_str (by omega) ⟨.int z.length, H, I.tok _, ⟨_, rfl⟩, q⟩
theorem call_tuple_of : CallR X (.type "tuple") (fun xs H Q => ∃ p ys, xs = [.ref p] ∧ ((SqL X.K H p ys ∧ ∀ l, H l = none → Q (.ref l) (upd H l (.tup ys))) ∨ (SqT X.K H p ys ∧ Q (.ref p) H))) := by
  intro pins s σ H xs us Q I r h
  obtain ⟨p, ys, rfl, h⟩ := h
  obtain ⟨u, rfl, rx⟩ := vals1 r
  cases rx
  rcases h with ⟨hq, q⟩ | ⟨hq, q⟩
  · obtain ⟨its, r', pl, hz⟩ := I.list hq
    have hlen := r'.length
    refine call_tuple_list pl.isList (fun h' kp => ?_) (by simp only [List.size_toArray] <;> omega)
    have I1 : Inv X pins σ H { s with heap := h' } := I.kept (t' := s.toks) kp
    have I2 : Inv X pins σ (upd H h'.objs.size (.tup ys)) { s with heap := h'.push { cls := .type "tuple", data := .seq its.toArray } } :=
      I1.laid (t' := s.toks) (fun b o e => Heap.get?_push_of_some _ e) (Nat.le_refl _) (show ObjOk X.prog X.w _ _ _ (.tup ys) from ⟨hz, its, r', IsTup.new _ _⟩)
    exact ⟨.ref h'.objs.size, _, I2, rfl, q _ (I1.hok.fresh (Nat.le_refl _))⟩
  · obtain ⟨its, r', pl, hz⟩ := I.tuple hq
    exact call_tuple_same pl ⟨.ref p, H, I, rfl, q⟩

/-! ### the call of a builtin's method: o.m(..) -/
/-- the value is of that builtin type -/
def tyV (K : PySem.W.Frag) (T : String) (x : V) (H : Hp) : Prop := match x with
  | .str _ => T = "str"
  | .int _ => T = "int"
  | .ref p => (T = "list" ∧ ∃ xs, SqL K H p xs) ∨ (T = "tuple" ∧ ∃ o, K.lookup p = some o ∧ o.cls = .type "tuple" ∧ o.dict = none) ∨
      (T = "dict" ∧ ((∃ kvs, H p = some (.dK kvs)) ∨ ∃ kvs, H p = some (.dT kvs))) ∨ (T = "set" ∧ ∃ S n, H p = some (.set S n))
  | _ => False
theorem tyV_is {pins : List (Addr × Obj)} {σ : St} {H : Hp} {s : Shared} {T : String} {x : V} {v : Value} (I : Inv X pins σ H s) (r : RelV x v) (ty : tyV X.K T x H) :
    s.TypeIs v T ∧ ∀ a, v = .ref a → ∃ ob, s.heap.get? a = some ob ∧ ob.dict = none := by
  cases x with
  | str z =>
    obtain ⟨t, rfl⟩ := r
    cases (show T = "str" from ty)
    exact ⟨typeIs_str s z t, fun _ e => nomatch e⟩
  | int i =>
    obtain ⟨t, rfl⟩ := r
    cases (show T = "int" from ty)
    exact ⟨typeIs_int s i t, fun _ e => nomatch e⟩
  | ref p =>
    cases r
    rcases ty with ⟨rfl, xs, hq⟩ | ⟨rfl, o, hk, hc, hd⟩ | ⟨rfl, hk⟩ | ⟨rfl, S, n, hk⟩
    · obtain ⟨its, _, pl, _⟩ := I.list hq
      refine ⟨pl.isList.typeIs, fun a e => ?_⟩
      cases e
      obtain ⟨o, n, e, c, hd, _⟩ := pl
      exact ⟨o, e, hd⟩
    · refine ⟨⟨o, I.kIn p o hk, hc⟩, fun a e => ?_⟩
      cases e
      exact ⟨o, I.kIn _ o hk, hd⟩
    · have z : ∃ o, s.heap.get? p = some o ∧ o.ExactDict := by
        rcases hk with ⟨kvs, hk⟩ | ⟨kvs, hk⟩
        · obtain ⟨_, _, _, _, o, _, _, e, ex, _⟩ := I.hok p _ hk
          exact ⟨o, e, ex⟩
        · obtain ⟨_, _, _, _, o, _, _, e, ex, _⟩ := I.hok p _ hk
          exact ⟨o, e, ex⟩
      obtain ⟨o, e, ex⟩ := z
      refine ⟨⟨o, e, ex.1⟩, fun a e2 => ?_⟩
      cases e2
      exact ⟨o, e, ex.2.1⟩
    · obtain ⟨o, _, _, _, e, ex, _⟩ := I.hok p _ hk
      refine ⟨⟨o, e, ex.1⟩, fun a e2 => ?_⟩
      cases e2
      exact ⟨o, e, ex.2.1⟩
  | _ => exact False.elim ty
def tBM0 (K : PySem.W.Frag) (T : String) (r : V → List V → Hp → VK → Prop) (to : TE) : TE := fun σ H Q => to σ H fun x H1 => tyV K T x H1 ∧ r x [] H1 Q
def tBM (K : PySem.W.Frag) (T : String) (r : V → List V → Hp → VK → Prop) (to : TE) (t : TA) : TE := fun σ H Q => to σ H fun x H1 => tyV K T x H1 ∧ t σ H1 fun xs H2 => r x xs H2 Q
variable {o e : Expr} {es : List Expr} {to : TE} {t : TA} {name : Str} {apos cpos : Pos} {T id : String} {r : V → List V → Hp → VK → Prop}
theorem pe_bm0 (pa : PlainAttrs T) (slot : Slot T name id) (hty : typeOf (.builtin id) = pure (.type "method_descriptor")) (hm : MtR X id r) (ho : PE X o to)
    (hbase : attributeBase o name X.env (eval o X.env) = eval o X.env := by rfl) (hline : (apos.endLine == cpos.line) = true := by rfl) : PE X (.Call (.Attribute o name apos) [] [] cpos) (tBM0 X.K T r to) := by
  intro pins s σ H Q I h
  refine wpAny_Call_method0_late hbase hline (thn (ho pins s σ H _ I h) fun v s1 ⟨x, H1, I1, r1, ty, q1⟩ => ?_)
  obtain ⟨h1, h2⟩ := tyV_is I1 r1 ty
  exact ⟨T, id, pa, slot, hty, h1, h2, Calls.callWith_builtin rfl (PySem.evalArgs_none (hm pins s1 σ H1 x [] v [] Q I1 r1 .nil q1))⟩
theorem pe_bm (pa : PlainAttrs T) (slot : Slot T name id) (hty : typeOf (.builtin id) = pure (.type "method_descriptor")) (hm : MtR X id r) (ho : PE X o to) (ha : PA X (e :: es) t)
    (hbase : attributeBase o name X.env (eval o X.env) = eval o X.env := by rfl)
    (hfew : ((backTo cpos (starEach (e :: es) X.env)).all (fun x => !x.1) && (backToKw cpos (keywordEach [] X.env)).all (fun x => x.1.isSome)
      && decide ((e :: es).length + ([] : List Keyword).length + (if ([] : List Keyword).isEmpty then 0 else 1) < 30)) = true := by rfl)
    (hline : (apos.endLine == cpos.line) = true := by rfl) (hs : starEach (e :: es) X.env = (false, eval e X.env) :: starEach es X.env := by rfl) (hplain : (backTo cpos (starEach es X.env)).any (·.1) = false := by rfl) :
    PE X (.Call (.Attribute o name apos) (e :: es) [] cpos) (tBM X.K T r to t) := by
  intro pins s σ H Q I h
  refine wpAny_Call_method_late hbase hfew hline rfl (thn (ho pins s σ H _ I h) fun v s1 ⟨x, H1, I1, r1, ty, q1⟩ => ?_)
  obtain ⟨h1, h2⟩ := tyV_is I1 r1 ty
  refine ⟨T, id, pa, slot, hty, h1, h2, ?_⟩
  have hA := ha cpos pins s1 σ H1 _ I1 q1
  rw [hs] at hA ⊢
  refine Calls.callWith_builtin (by show (false || (backTo cpos (starEach es X.env)).any (·.1)) = false; rw [hplain] <;> rfl) (Calls.evalArgs_plain ?_)
  exact thn hA fun us s2 ⟨vs, H2, I2, r2, q2⟩ => hm pins s2 σ H2 x vs v us Q I2 r1 r2 q2
/- xs.append(e), list.index on a module's tuple .. are MtR facts of 06m -/
end
end L2

namespace L2
open PySem PySem.Spec PyProof.Rows

def MtM (X : Cx) (id : String) (r : V → List V → Hp → VK → Prop) : Prop :=
  ∀ (pins : List (Addr × Obj)) (s : Shared) (σ : St) (H : Hp) (x : V) (xs : List V) (v : Value) (us : List Value) (Q : VK), Inv X pins σ H s → RelV x v → Vals xs us → r x xs H Q →
    wpAny (model X.prog X.w) X.A (call (.builtin id) (v :: us)) (EP X pins σ Q) X.xe s

/-! ### lists of values -/
theorem Vals.one : ∀ {x : V} {us : List Value}, Vals [x] us → ∃ u, us = [u] ∧ RelV x u
  | _, _, .cons r .nil => ⟨_, rfl, r⟩
theorem Vals.zero : ∀ {us : List Value}, Vals [] us → us = []
  | _, .nil => rfl
theorem Vals.eraseIdx : ∀ {xs : List V} {us : List Value} (i : Nat), Vals xs us → Vals (xs.eraseIdx i) (us.eraseIdx i)
  | _, _, _, .nil => .nil
  | _, _, 0, .cons _ t => t
  | _, _, i + 1, .cons r t => .cons r (Vals.eraseIdx i t)
theorem len_erase {α : Type} : ∀ (l : List α) (i : Nat), (l.eraseIdx i).length ≤ l.length
  | [], _ => Nat.le_refl _
  | _ :: _, 0 => Nat.le_succ _
  | _ :: r, i + 1 => Nat.succ_le_succ (len_erase r i)
section
variable {X : Cx} {pins : List (Addr × Obj)} {σ : St} {H : Hp} {s : Shared} {l b : Addr} {xs ys zs : List V}

/-! ### the two steps: a tracked list is rewritten, a new list is laid -/
theorem Inv.lset {its its' : List Value} {n : Nat} {f : Array Value → Array Value} {t' : Nat} (I : Inv X pins σ H s) (hH : H l = some (.lst xs))
    (e : s.heap.get? l = some { cls := .type "list", data := .seq its.toArray n }) (hf : f its.toArray = its'.toArray) (hv : Vals ys its') (hz : ys.length ≤ sizeLine) :
    Inv X pins σ (upd H l (.lst ys)) { s with heap := s.heap.update l (Obj.mapSeq f), toks := t' } := by
  have q := PySem.IsL.update e f
  rw [hf] at q
  refine I.write (x := l) (e := l) (by rw [hH]; exact trivial) (.inl rfl) (fun b' u hb hu => (Heap.get?_update_other s.heap (Obj.mapSeq f) (Ne.symm hb)).trans hu) ⟨_, q⟩ ?_
  exact ⟨hz, its', _, hv, q⟩
theorem Inv.lnew {its : List Value} {t' : Nat} (I : Inv X pins σ H s) (hv : Vals ys its) (hz : ys.length ≤ sizeLine) :
    Inv X pins σ (upd H s.heap.objs.size (.lst ys)) { s with heap := s.heap.push { cls := .type "list", data := .seq its.toArray }, toks := t' } :=
  I.laid (fun _ _ q => Heap.get?_push_of_some _ q) (Nat.le_refl _) ⟨hz, its, 0, hv, Heap.get?_push_size _ rfl⟩
theorem Inv.fresh (I : Inv X pins σ H s) : H s.heap.objs.size = none := I.hok.fresh (Nat.le_refl _)
theorem Inv.lstM (I : Inv X pins σ H s) (hH : H l = some (.lst xs)) : xs.length ≤ sizeLine ∧ ∃ (its : List Value) (n : Nat), Vals xs its ∧ xs.length = its.length ∧ s.heap.get? l = some { cls := .type "list", data := .seq its.toArray n } := by
  obtain ⟨z, its, n, r, e⟩ := I.hok l _ hH
  exact ⟨z, its, n, r, r.length, e⟩

end

section
variable {X : Cx}

/-! ### methods -/
inductive RApp (x : V) (vs : List V) (H : Hp) (Q : VK) : Prop where | mk (l : Addr) (xs : List V) (y : V) (e : x = .ref l) (e' : vs = [y]) (h : H l = some (.lst xs)) (h' : xs.length < sizeLine) (q : Q .non (upd H l (.lst (xs ++ [y])))) : RApp x vs H Q
def rAppend : V → List V → Hp → VK → Prop := fun x vs H Q => RApp x vs H Q
theorem mt_append : MtM X "list.append" rAppend := by
  intro pins s σ H x vs v us Q I rx rv h
  obtain ⟨l, xs, y, rfl, rfl, hH, hz, q⟩ := h
  cases rx
  obtain ⟨u, rfl, ru⟩ := rv.one
  obtain ⟨z, its, n, r, hl, e⟩ := I.lstM hH
  refine call_meets F.slot_list_append ⟨_, e, rfl⟩ F.entry_list_append (F.args_list_append_2 _ _) (PySem.list_append l its.toArray n u (by rw [List.size_toArray]; omega)) ⟨e, ?_⟩
  refine ⟨.non, _, I.lset (its' := its ++ [u]) hH e (by simp) (r.append (.cons ru .nil)) ?_, rfl, q⟩
  rw [List.length_append, List.length_singleton]
  omega

def rExtend : V → List V → Hp → VK → Prop := fun x vs H Q => ∃ l b xs zs, x = .ref l ∧ vs = [.ref b] ∧ H l = some (.lst xs) ∧ H b = some (.lst zs) ∧ xs.length + zs.length ≤ sizeLine ∧ Q .non (upd H l (.lst (xs ++ zs)))
def rPop : V → List V → Hp → VK → Prop := fun x vs H Q => ∃ l xs y, x = .ref l ∧ vs = [] ∧ H l = some (.lst xs) ∧ xs[xs.length - 1]? = some y ∧ Q y (upd H l (.lst xs.dropLast))
def rPopAt : V → List V → Hp → VK → Prop := fun x vs H Q => ∃ l xs i k y, x = .ref l ∧ vs = [.int i] ∧ H l = some (.lst xs) ∧ -(2 ^ 63) ≤ i ∧ i < 2 ^ 63 ∧ seqIndex? i xs.length = some k ∧ xs[k]? = some y ∧ Q y (upd H l (.lst (xs.eraseIdx k)))
theorem mt_popAt : MtM X "list.pop" rPopAt := by
  intro pins s σ H x vs v us Q I rx rv h
  obtain ⟨l, xs, i, k, y, rfl, rfl, hH, h1, h2, hk, hy, q⟩ := h
  cases rx
  obtain ⟨u, rfl, ru⟩ := rv.one
  obtain ⟨t, rfl⟩ := ru
  obtain ⟨z, its, n, r, hl, e⟩ := I.lstM hH
  obtain ⟨w, hw, rw'⟩ := r.get hy
  refine call_meets F.slot_list_pop ⟨_, e, rfl⟩ F.entry_list_pop (F.args_list_pop_2 _ _)
    (MeetsSeq.list_pop_at l its.toArray n i t k w (fitsIndex_both h1 h2) (by rw [List.size_toArray, ← hl]; exact hk) (by rw [← Array.getElem?_toList]; exact hw) (by rw [List.size_toArray]; omega)) ⟨e, ?_⟩
  refine ⟨y, _, I.lset (its' := its.eraseIdx k) hH e ?_ (r.eraseIdx k) ?_, rw', q⟩
  · show its.toArray.eraseIdxIfInBounds k = (its.eraseIdx k).toArray
    rw [List.eraseIdxIfInBounds_toArray]
  · have := len_erase xs k
    omega

def rReverse : V → List V → Hp → VK → Prop := fun x vs H Q => ∃ l xs, x = .ref l ∧ vs = [] ∧ H l = some (.lst xs) ∧ Q .non (upd H l (.lst xs.reverse))
def rClear : V → List V → Hp → VK → Prop := fun x vs H Q => ∃ l xs, x = .ref l ∧ vs = [] ∧ H l = some (.lst xs) ∧ Q .non (upd H l (.lst []))
theorem mt_clear : MtM X "list.clear" rClear := by
  intro pins s σ H x vs v us Q I rx rv h
  obtain ⟨l, xs, rfl, rfl, hH, q⟩ := h
  cases rx
  have hus := rv.zero
  subst hus
  obtain ⟨z, its, n, r, hl, e⟩ := I.lstM hH
  refine call_meets F.slot_list_clear ⟨_, e, rfl⟩ F.entry_list_clear (F.args_list_clear_1 _) (AutoSeq1.list_clear_list_0 l its.toArray n (by rw [List.size_toArray]; omega)) ⟨e, ?_⟩
  exact ⟨.non, _, I.lset (its' := []) (ys := []) hH e rfl .nil (Nat.zero_le _), rfl, q⟩

/-! ### list + list, list += list, list * int -/
def rCat : R2 := fun x y H Q => ∃ l b xs zs, x = .ref l ∧ y = .ref b ∧ H l = some (.lst xs) ∧ H b = some (.lst zs) ∧ xs.length + zs.length ≤ sizeLine ∧ ∀ p, H p = none → Q (.ref p) (upd H p (.lst (xs ++ zs)))
theorem op_cat : OpR X (binaryOp .Add) rCat := by
  intro pins s σ H x y v u Q I rx ry h
  obtain ⟨l, b, xs, zs, rfl, rfl, hH, hB, hz, q⟩ := h
  cases rx
  cases ry
  obtain ⟨z, its, n, r, hl, e⟩ := I.lstM hH
  obtain ⟨z2, its2, n2, r2, hl2, e2⟩ := I.lstM hB
  refine PySem.P.add_list e e2 ?_ (by rw [List.size_toArray, List.size_toArray]; omega)
  have ea : its.toArray ++ its2.toArray = (its ++ its2).toArray := by simp
  rw [ea]
  exact ⟨.ref _, _, I.lnew (t' := s.toks) (r.append r2) (by rw [List.length_append]; omega), rfl, q _ I.fresh⟩
/-- a list times an int (a negative one is nothing) -/
def rRep : R2 := fun x y H Q => ∃ l k xs, x = .ref l ∧ y = .int k ∧ H l = some (.lst xs) ∧ -(2 ^ 63) ≤ k ∧ k < 2 ^ 63 ∧ xs.length * k.toNat ≤ sizeLine ∧
  ∀ p, H p = none → Q (.ref p) (upd H p (.lst (List.replicate k.toNat xs).flatten))
/-! ### del xs[i] -/
end

/-! ### xs[a:b] = ys -/
section
variable {prog : Program} {w : World} {A : Around} {E : Value → Shared → Prop} {s : Shared}
end

section
variable {X : Cx}
end
end L2
namespace L2
open PySem PySem.Spec PyProof.Rows

/-! ### lists of pairs as tables -/
section
variable {κ : Type} [DecidableEq κ]
def valV (kvs : List (κ × V)) (k : κ) : Option V := (kvs.find? fun kv => decide (kv.1 = k)).map (·.2)
/-- in its place, or at the end -/
def putK (kvs : List (κ × V)) (k : κ) (v : V) : List (κ × V) :=
  if (kvs.any fun kv => decide (kv.1 = k)) = true then kvs.map (fun kv => if kv.1 = k then (kv.1, v) else kv) else kvs ++ [(k, v)]
def dropK (kvs : List (κ × V)) (k : κ) : List (κ × V) := kvs.filter fun kv => decide (kv.1 ≠ k)

theorem valV_pos {p : κ × V} {r : List (κ × V)} {k : κ} (e : p.1 = k) : valV (p :: r) k = some p.2 := by simp [valV, List.find?_cons, e]
theorem valV_neg {p : κ × V} {r : List (κ × V)} {k : κ} (e : ¬ p.1 = k) : valV (p :: r) k = valV r k := by simp [valV, List.find?_cons, e]
theorem valV_any (k : κ) : ∀ kvs : List (κ × V), (kvs.any fun kv => decide (kv.1 = k)) = (valV kvs k).isSome
  | [] => rfl
  | p :: r => by
    rw [List.any_cons]
    by_cases e : p.1 = k
    · simp only [valV_pos e, decide_eq_true e, Bool.true_or, Option.isSome_some]
    · rw [valV_neg e, decide_eq_false e, Bool.false_or]; exact valV_any k r
theorem length_putK (kvs : List (κ × V)) (k : κ) (v : V) : (putK kvs k v).length ≤ kvs.length + 1 := by
  unfold putK
  split
  · rw [List.length_map]; omega
  · rw [List.length_append, List.length_cons, List.length_nil]; omega
theorem putK_new {kvs : List (κ × V)} {k : κ} (v : V) (h : valV kvs k = none) : putK kvs k v = kvs ++ [(k, v)] := by
  unfold putK
  rw [valV_any, h]
  exact if_neg (by decide)

theorem RelO.isSome_eq {o : Option V} {u : Option Value} (r : RelO o u) : o.isSome = u.isSome := by
  cases o with
  | none => cases u with
    | none => rfl
    | some _ => exact (show False from r).elim
  | some _ => cases u with
    | none => exact (show False from r).elim
    | some _ => rfl
/-- raw tables of the same keys -/
theorem KV.val {kvs : List (κ × V)} {vs : List (κ × Value)} (r : KV kvs vs) (k : κ) : RelO (valV kvs k) (valueAt vs k) := by
  unfold KV at r
  induction r with
  | nil => exact True.intro
  | @cons p q ps qs h t ih =>
    obtain ⟨h1, h2⟩ := h
    by_cases e : p.1 = k
    · have e' : q.1 = k := h1.symm.trans e
      have b : valueAt (q :: qs) k = some q.2 := by simp [valueAt, List.find?_cons, e']
      rw [valV_pos e, b]; exact h2
    · have e' : ¬ q.1 = k := fun z => e (h1.trans z)
      have b : valueAt (q :: qs) k = valueAt qs k := by simp [valueAt, List.find?_cons, e']
      rw [valV_neg e, b]; exact ih
theorem KV.any {kvs : List (κ × V)} {vs : List (κ × Value)} (r : KV kvs vs) (k : κ) : (kvs.any fun kv => decide (kv.1 = k)) = vs.any fun kv => decide (kv.1 = k) := by
  unfold KV at r
  induction r with
  | nil => rfl
  | cons h t ih => rw [List.any_cons, List.any_cons, ih, h.1]
theorem KV.repl {kvs : List (κ × V)} {vs : List (κ × Value)} (r : KV kvs vs) (k : κ) {y : V} {u : Value} (ry : RelV y u) :
    KV (kvs.map fun kv => if kv.1 = k then (kv.1, y) else kv) (vs.map fun kv => if kv.1 = k then (kv.1, u) else kv) := by
  unfold KV at r ⊢
  induction r with
  | nil => exact .nil
  | @cons p q ps qs h t ih =>
    rw [List.map_cons, List.map_cons]
    refine .cons ?_ ih
    obtain ⟨h1, h2⟩ := h
    by_cases e : p.1 = k
    · rw [if_pos e, if_pos (h1.symm.trans e)]; exact ⟨h1, ry⟩
    · rw [if_neg e, if_neg (fun z => e (h1.trans z))]; exact ⟨h1, h2⟩
theorem KV.put {kvs : List (κ × V)} {vs : List (κ × Value)} (r : KV kvs vs) (k : κ) {y : V} {u : Value} (ry : RelV y u) : KV (putK kvs k y) (stored vs k u) := by
  unfold putK stored
  rw [r.any k]
  by_cases e : (vs.any fun kv => decide (kv.1 = k)) = true
  · rw [if_pos e, if_pos e]; exact r.repl k ry
  · rw [if_neg e, if_neg e]; exact Paired.snoc r ⟨rfl, ry⟩
theorem KV.length {kvs : List (κ × V)} {vs : List (κ × Value)} (r : KV kvs vs) : kvs.length = vs.length := Paired.length r
end


/-! ### a tracked dict, its keys ints and texts or tuples of these -/
theorem kV_is {P : Program} {w : World} {k : Key} {u : Value} (r : RelV (kV k) u) : (mixKind P w).is k u = true := by
  cases k with
  | inl i => obtain ⟨t, e⟩ := (show ∃ t, u = Value.int i t from r); subst e; exact mixKind_int P w i t
  | inr x => obtain ⟨t, e⟩ := (show ∃ t, u = Value.str x t from r); subst e; exact mixKind_str P w x t
theorem items_are {P : Program} {w : World} : ∀ {ks : List Key} {us : List Value}, Vals (ks.map kV) us → ItemsAre (mixKind P w) ks us
  | [], _, r => by rw [List.map_nil] at r; cases r; exact .nil
  | k :: ks, _, r => by
    rw [List.map_cons] at r
    cases r with
    | cons h t => exact .cons (kV_is h) (items_are t)

/-- raw entries of a dict with tuple keys -/
abbrev KT (H : Hp) : List (List Key × V) → List (List Key × Addr × Value) → Prop := Paired fun p q => p.1 = q.1 ∧ H q.2.1 = some (.tup (p.1.map kV)) ∧ RelV p.2 q.2.2
theorem KT.val {H : Hp} {kvs : List (List Key × V)} {xs : List (List Key × Addr × Value)} (r : KT H kvs xs) (k : List Key) : RelO (valV kvs k) ((atKey xs k).map (·.2)) := by
  induction r with
  | nil => exact True.intro
  | @cons p q ps qs h t ih =>
    obtain ⟨h1, _, h2⟩ := h
    by_cases e : p.1 = k
    · have e' : q.1 = k := h1.symm.trans e
      have b : atKey (q :: qs) k = some q.2 := by simp [atKey, List.find?_cons, e']
      rw [valV_pos e, b]; exact h2
    · have e' : ¬ q.1 = k := fun z => e (h1.trans z)
      have b : atKey (q :: qs) k = atKey qs k := by simp [atKey, List.find?_cons, e']
      rw [valV_neg e, b]; exact ih
theorem KT.repl {H : Hp} {kvs : List (List Key × V)} {xs : List (List Key × Addr × Value)} (r : KT H kvs xs) (k : List Key) {y : V} {u : Value} (ry : RelV y u) :
    KT H (kvs.map fun kv => if kv.1 = k then (kv.1, y) else kv) (xs.map (putAt k u)) := by
  induction r with
  | nil => exact .nil
  | @cons p q ps qs h t ih =>
    rw [List.map_cons, List.map_cons]
    refine .cons ?_ ih
    obtain ⟨h1, h2, h3⟩ := h
    unfold putAt
    by_cases e : p.1 = k
    · rw [if_pos e, if_pos (h1.symm.trans e)]; exact ⟨h1, h2, ry⟩
    · rw [if_neg e, if_neg (fun z => e (h1.trans z))]; exact ⟨h1, h2, h3⟩
theorem KT.put {H : Hp} {kvs : List (List Key × V)} {xs : List (List Key × Addr × Value)} (r : KT H kvs xs) (k : List Key) {b : Addr} {y : V} {u : Value} (hb : H b = some (.tup (k.map kV))) (ry : RelV y u) :
    KT H (putK kvs k y) (storedH xs k b u) := by
  have e : (kvs.any fun kv => decide (kv.1 = k)) = (atKey xs k).isSome := by
    rw [valV_any, (r.val k).isSome_eq, Option.isSome_map]
  unfold putK storedH
  rw [e]
  by_cases q : (atKey xs k).isSome = true
  · rw [if_pos q, if_pos q]; exact r.repl k ry
  · rw [if_neg q, if_neg q]; exact Paired.snoc r ⟨rfl, hb, ry⟩
theorem KT.keeps {H H' : Hp} {kvs : List (List Key × V)} {xs : List (List Key × Addr × Value)} (r : KT H kvs xs) (ht : ∀ b ys, H b = some (.tup ys) → H' b = some (.tup ys)) : KT H' kvs xs :=
  Paired.mapP r fun _ _ z => ⟨z.1, ht _ _ z.2.1, z.2.2⟩

section
variable {P : Program} {w : World} {H : Hp} {h : Heap} {a : Addr}
theorem rd_of {u : HO} (ok : HOk P w H h) (e : Rd H a u) : ObjOk P w H h a u := e.ok ok
theorem dk_rd {kvs : List (Key × V)} (ok : HOk P w H h) (e : Rd H a (.dK kvs)) : kvs.length ≤ sizeLine ∧ (a == sysModules) = false ∧ ∃ vs, KV kvs vs ∧ h.DictOf (mixKind P w) a vs :=
  show ObjOk P w H h a (.dK kvs) from rd_of ok e
theorem dk_of {kvs : List (Key × V)} (ok : HOk P w H h) (e : H a = some (.dK kvs)) : kvs.length ≤ sizeLine ∧ (a == sysModules) = false ∧ ∃ vs, KV kvs vs ∧ h.DictOf (mixKind P w) a vs := dk_rd ok (.inl e)
/-- a tracked tuple of ints and texts is a key -/
theorem key_of {ks : List Key} (ok : HOk P w H h) (e : H a = some (.tup (ks.map kV))) : (tupleKind (mixKind P w)).is h ks a := by
  obtain ⟨_, its, r, o, h1, h2, n, h3⟩ := (show ObjOk P w H h a (.tup (ks.map kV)) from ok a _ e)
  exact ⟨o, its.toArray, n, h1, h2, h3, by simpa using items_are r⟩
theorem dt_rd {kvs : List (List Key × V)} (ok : HOk P w H h) (e : Rd H a (.dT kvs)) : kvs.length ≤ sizeLine ∧ (a == sysModules) = false ∧
    ∃ xs, KT H kvs xs ∧ h.DictOfH (tupleKind (mixKind P w)) a xs := by
  obtain ⟨z, y, xs, r, o, es, ep, h1, h2, h3, h4, h5⟩ := (show ObjOk P w H h a (.dT kvs) from rd_of ok e)
  refine ⟨z, y, xs, r, o, es, ep, h1, h2, h3, h4, fun x hx => ?_, h5⟩
  have all : ∀ {l : List (List Key × V)} {m : List (List Key × Addr × Value)}, KT H l m → ∀ x ∈ m, (tupleKind (mixKind P w)).is h x.1 x.2.1 := by
    intro l m q
    induction q with
    | nil => intro x hx; exact nomatch hx
    | @cons p q ps qs hq t ih =>
      intro x hx
      rcases List.mem_cons.mp hx with e | hx
      · subst e
        exact key_of ok (by rw [← hq.1]; exact hq.2.1)
      · exact ih x hx
  exact all r x hx
theorem dt_of {kvs : List (List Key × V)} (ok : HOk P w H h) (e : H a = some (.dT kvs)) : kvs.length ≤ sizeLine ∧ (a == sysModules) = false ∧
    ∃ xs, KT H kvs xs ∧ h.DictOfH (tupleKind (mixKind P w)) a xs := dt_rd ok (.inl e)
end

/-- what the dict at a holds at the key y -/
def DGet (H : Hp) (a : Addr) (y : V) (r : Option V) : Prop :=
  (∃ kvs k, Rd H a (.dK kvs) ∧ y = kV k ∧ r = valV kvs k) ∨ ∃ kvs k b, Rd H a (.dT kvs) ∧ y = .ref b ∧ H b = some (.tup (k.map kV)) ∧ r = valV kvs k
/-- the heap behind a[y] = v -/
def DPut (H : Hp) (a : Addr) (y v : V) (H' : Hp) : Prop :=
  (∃ kvs k, H a = some (.dK kvs) ∧ y = kV k ∧ kvs.length < sizeLine ∧ H' = upd H a (.dK (putK kvs k v))) ∨
  ∃ kvs k b, H a = some (.dT kvs) ∧ y = .ref b ∧ H b = some (.tup (k.map kV)) ∧ kvs.length < sizeLine ∧ H' = upd H a (.dT (putK kvs k v))
theorem DGet.k {H : Hp} {a : Addr} {kvs : List (Key × V)} {k : Key} (e : H a = some (.dK kvs)) : DGet H a (kV k) (valV kvs k) := .inl ⟨kvs, k, .inl e, rfl, rfl⟩
theorem DPut.k {H : Hp} {a : Addr} {kvs : List (Key × V)} {k : Key} {v : V} (e : H a = some (.dK kvs)) (hl : kvs.length < sizeLine) : DPut H a (kV k) v (upd H a (.dK (putK kvs k v))) := .inl ⟨kvs, k, e, rfl, hl, rfl⟩
section
variable {X : Cx} {pins : List (Addr × Obj)} {σ : St} {H : Hp} {s : Shared} {a : Addr} {y v : V} {u r : Value} {o : Option V} {A : Around} {E : Value → Shared → Prop}

theorem Inv.big (I : Inv X pins σ H s) : sysModules < s.heap.objs.size := by
  have h : mainGlobals < s.heap.objs.size := (I.mod.glob.keeps I.bk).lt
  exact Nat.lt_trans (by decide) h

/-- y in d -/
theorem d_in {Q : Value → Shared → Prop} (hu : A.units + 1 < cLine) (I : Inv X pins σ H s) (g : DGet H a y o) (ry : RelV y u) (h : ∀ s', Inv X pins σ H s' → Q (.bool o.isSome) s') :
    wpAny (model X.prog X.w) A (compareOp .In u (.ref a)) Q E s := by
  rcases g with ⟨kvs, k, e, ey, l⟩ | ⟨kvs, k, b, e, ey, eb, l⟩
  · subst ey
    obtain ⟨z, hd, vs, rel, dd⟩ := dk_rd I.hok e
    refine wpAny_in_of (kV_is ry) hd dd.mapOf ?_
    rw [← (rel.val k).isSome_eq, ← l]
    exact h _ (I.tok _)
  · subst ey
    cases (show u = Value.ref b from ry)
    obtain ⟨z, hd, xs, rel, dd⟩ := dt_rd I.hok e
    refine wpAny_in_heap (tupleKind_room_in1 hu) (key_of I.hok eb) hd dd ?_
    have q := (rel.val k).isSome_eq
    rw [Option.isSome_map] at q
    rw [← q, ← l]
    exact h _ (I.tok _)
theorem d_notIn {Q : Value → Shared → Prop} (hu : A.units + 1 < cLine) (I : Inv X pins σ H s) (g : DGet H a y o) (ry : RelV y u) (h : ∀ s', Inv X pins σ H s' → Q (.bool (!o.isSome)) s') :
    wpAny (model X.prog X.w) A (compareOp .NotIn u (.ref a)) Q E s := by
  rcases g with ⟨kvs, k, e, ey, l⟩ | ⟨kvs, k, b, e, ey, eb, l⟩
  · subst ey
    obtain ⟨z, hd, vs, rel, dd⟩ := dk_rd I.hok e
    refine wpAny_notIn_of (kV_is ry) hd dd.mapOf ?_
    rw [← (rel.val k).isSome_eq, ← l]
    exact h _ (I.tok _)
  · subst ey
    cases (show u = Value.ref b from ry)
    obtain ⟨z, hd, xs, rel, dd⟩ := dt_rd I.hok e
    refine wpAny_notIn_heap (tupleKind_room_in1 hu) (key_of I.hok eb) hd dd ?_
    have q := (rel.val k).isSome_eq
    rw [Option.isSome_map] at q
    rw [← q, ← l]
    exact h _ (I.tok _)
/-- a dict's object is replaced -/
theorem d_write {h' : Heap} {t' : Nat} {ob : HO} (I : Inv X pins σ H s) (mu : Mut (H a)) (hs : Heap.SameBut a s.heap h') (he : ∃ q, h'.get? a = some q) (new : ObjOk X.prog X.w (upd H a ob) h' a ob) :
    Inv X pins σ (upd H a ob) { s with heap := h', toks := t' } :=
  I.write (x := a) (e := a) mu (.inl rfl) (fun b q hb z => (hs.2 b hb).trans z) he new
theorem dk_new {P : Program} {w : World} {H' : Hp} {h' : Heap} {kvs : List (Key × V)} {vs : List (Key × Value)} (z : kvs.length ≤ sizeLine) (hd : (a == sysModules) = false) (rel : KV kvs vs) (dd : h'.DictOf (mixKind P w) a vs) :
    ObjOk P w H' h' a (.dK kvs) := ⟨z, hd, vs, rel, dd⟩
/-- d[y] = v -/
theorem d_setItem {H' : Hp} {Q : Unit → Shared → Prop} (hu : A.units + 1 < cLine) (I : Inv X pins σ H s) (g : DPut H a y v H') (ry : RelV y u) (rv : RelV v r) (h : ∀ s', Inv X pins σ H' s' → Q () s') :
    wpAny (model X.prog X.w) A (setItem (.ref a) u r) Q E s := by
  rcases g with ⟨kvs, k, e, ey, l, eH⟩ | ⟨kvs, k, b, e, ey, eb, l, eH⟩
  · subst ey eH
    obtain ⟨z, hd, vs, rel, dd⟩ := dk_of I.hok e
    have hz : vs.length ≤ sizeLine := by rw [← rel.length]; exact z
    have hl : (putK kvs k v).length ≤ sizeLine := by have := length_putK kvs k v; omega
    refine wpAny_setItem_pairs (hsz := hz) (kV_is ry) dd fun h' dd' hs => h _ ?_
    have he : ∃ q, h'.get? a = some q := let ⟨q, _, _, hq, _⟩ := dd'; ⟨q, hq⟩
    exact d_write I (by rw [e]; exact True.intro) hs he (dk_new hl hd (rel.put k rv) dd')
  · subst ey eH
    cases (show u = Value.ref b from ry)
    obtain ⟨z, hd, xs, rel, dd⟩ := dt_of I.hok e
    have hz : xs.length ≤ sizeLine := by rw [← Paired.length rel]; exact z
    have hl : (putK kvs k v).length ≤ sizeLine := by have := length_putK kvs k v; omega
    refine wpAny_setItem_heap (hsz := hz) (tupleKind_room_in1 hu) (key_of I.hok eb) dd fun h' dd' hs => h _ ?_
    obtain ⟨q, es, ep, hq, h2, h3, h4, _, h5⟩ := dd'
    refine d_write I (by rw [e]; exact True.intro) hs ⟨q, hq⟩ ⟨hl, hd, _, (rel.put k eb rv).keeps fun c ys ec => ?_, q, es, ep, hq, h2, h3, h4, h5⟩
    rw [upd_ne (ne_of ec e (fun z => nomatch z))]
    exact ec
end

section
variable {X : Cx} {pins : List (Addr × Obj)} {σ : St} {H : Hp} {s : Shared} {a : Addr} {kvs : List (Key × V)} {k : Key} {u : Value} {A : Around} {E : Value → Shared → Prop}
end


/-! ### readings and rules -/
/-- the element of a subscription, not a slice -/
def NoSl (i : Expr) : Prop := ∀ ov iv, subscripted i false ov iv = operate [ov, iv] (getItem ov iv)
/-- d[y] -/
inductive RDGet (x y : V) (H : Hp) (Q : VK) : Prop where | mk (a : Addr) (v : V) (e : x = .ref a) (h : DGet H a y (some v)) (q : Q v H) : RDGet x y H Q
inductive RDIn (x y : V) (H : Hp) (Q : Option V → Prop) : Prop where | mk (a : Addr) (o : Option V) (e : x = .ref a) (h : DGet H a y o) (q : Q o) : RDIn x y H Q
def tDGet (td ty : TE) : TE := fun σ H Q => td σ H fun x H1 => ty σ H1 fun y H2 => RDGet x y H2 Q
/-- y in d, y not in d -/
def tDIn (ty td : TE) : TE := fun σ H Q => ty σ H fun y H1 => td σ H1 fun x H2 => RDIn x y H2 fun o => Q (.bl o.isSome) H2
def tDNotIn (ty td : TE) : TE := fun σ H Q => ty σ H fun y H1 => td σ H1 fun x H2 => RDIn x y H2 fun o => Q (.bl (!o.isSome)) H2
/-- d[y] = v -/
def sDPut (td ty tv : TE) : TS := fun D σ H => tv σ H fun v H1 => td σ H1 fun x H2 => ty σ H2 fun y H3 => ∃ a H4, x = .ref a ∧ DPut H3 a y v H4 ∧ D.nx σ H4
/-- d[y] op= v -/
def sDAug (td ty tv : TE) (rd : V → V → Hp → VK → Prop) : TS := fun D σ H => td σ H fun x H1 => ty σ H1 fun y H2 => ∃ a v, x = .ref a ∧ DGet H2 a y (some v) ∧
  tv σ H2 fun y2 H3 => rd v y2 H3 fun z H4 => ∃ H5, DPut H4 a y z H5 ∧ D.nx σ H5
/-- del d[y] -/
def sDDel (td ty : TE) : TS := fun D σ H => td σ H fun x H1 => ty σ H1 fun y H2 => ∃ a kvs k, x = .ref a ∧ H2 a = some (.dK kvs) ∧ y = kV k ∧ (valV kvs k).isSome = true ∧ D.nx σ (upd H2 a (.dK (dropK kvs k)))

section
variable {X : Cx} {o i e value : Expr} {pos pos' tpos : Pos} {td ty tv : TE}
theorem pc_din (hu : X.A.units + 1 < cLine) (hi : PE X i ty) (ho : PE X o td) : PC X .In i o (tDIn ty td) := by
  intro pins s σ H Q I h
  refine thn (hi pins s σ H _ I h) fun iv s1 ⟨y, H1, I1, ry, q1⟩ => thn (ho pins s1 σ H1 _ I1 q1) fun u s2 ⟨x, H2, I2, rx, a, ov, ex, g, q2⟩ => ?_
  subst ex
  obtain rfl : u = Value.ref a := rx
  exact d_in hu I2 g ry fun s3 I3 => ⟨.bl ov.isSome, H2, I3, rfl, q2⟩
theorem pc_dnotin (hu : X.A.units + 1 < cLine) (hi : PE X i ty) (ho : PE X o td) : PC X .NotIn i o (tDNotIn ty td) := by
  intro pins s σ H Q I h
  refine thn (hi pins s σ H _ I h) fun iv s1 ⟨y, H1, I1, ry, q1⟩ => thn (ho pins s1 σ H1 _ I1 q1) fun u s2 ⟨x, H2, I2, rx, a, ov, ex, g, q2⟩ => ?_
  subst ex
  obtain rfl : u = Value.ref a := rx
  exact d_notIn hu I2 g ry fun s3 I3 => ⟨.bl (!ov.isSome), H2, I3, rfl, q2⟩
theorem ps_dput (hu : X.A.units + 1 < cLine) (ho : PE X o td) (hi : PE X i ty) (hv : PE X value tv) (hs : swapsWith value (some (.Subscript o i pos')) pos.line X.env = pure false) :
    PS X (.Assign [.Subscript o i pos'] value pos) (sDPut td ty tv) := by
  intro pins s σ H D I h
  refine wpAny_Assign_Subscript (thn (hv pins s σ H _ I h) fun r s1 ⟨v, H1, I1, rv, q1⟩ => thn (ho pins s1 σ H1 _ I1 q1) fun u s2 ⟨x, H2, I2, rx, q2⟩ => thn (hi pins s2 σ H2 _ I2 q2) fun iv s3 ⟨y, H3, I3, ry, a, H4, ex, g, q3⟩ => ?_) hs
  subst ex
  obtain rfl : u = Value.ref a := rx
  exact d_setItem hu I3 g ry rv fun s4 I4 => ⟨σ, H4, I4, q3⟩
end


/-! ### displays -/
theorem dk_empty {P : Program} {w : World} {H : Hp} (h : Heap) (hb : sysModules < h.objs.size) : ObjOk P w H (h.push { cls := .type "dict", data := .dict #[] }) h.objs.size (.dK []) :=
  ⟨Nat.zero_le _, beq_eq_false_iff_ne.mpr (Ne.symm (Nat.ne_of_lt hb)), [], .nil, Heap.DictOf.new h⟩
/-- {}, to be a dict of the kind that is wanted -/
def tDNewK : TE := fun _ H Q => ∀ p, H p = none → Q (.ref p) (upd H p (.dK []))
def tDNewT : TE := fun _ H Q => ∀ p, H p = none → Q (.ref p) (upd H p (.dT []))
section
variable {X : Cx} {pos : Pos}
end

/-- the pairs of a display, from the left -/
def tPairs : List (TE × TE) → St → Hp → (List (V × V) → Hp → Prop) → Prop
  | [], _, H, Q => Q [] H
  | (tk, tv) :: r, σ, H, Q => tk σ H fun x H1 => tv σ H1 fun y H2 => tPairs r σ H2 fun ps H3 => Q ((x, y) :: ps) H3
abbrev VV : List (V × V) → List (Value × Value) → Prop := Paired fun p q => RelV p.1 q.1 ∧ RelV p.2 q.2
def PPs (X : Cx) (pos : Pos) (keys : List (Option Expr)) (values : List Expr) (trs : List (TE × TE)) : Prop :=
  ∀ (pins : List (Addr × Obj)) (s : Shared) (σ : St) (H : Hp) (Q : List (V × V) → Hp → Prop), Inv X pins σ H s → tPairs trs σ H Q →
    wpAny (model X.prog X.w) X.A (evalPairs (pairTrees keys values X.env pos)) (fun vs s' => ∃ ps H', Inv X pins σ H' s' ∧ VV ps vs ∧ Q ps H') X.xe s
theorem pps_nil {X : Cx} {pos : Pos} : PPs X pos [] [] [] := fun pins s σ H Q I h => pairTrees_nil_walk ⟨[], H, I, .nil, h⟩
theorem pps_cons {X : Cx} {pos : Pos} {k v : Expr} {ks : List (Option Expr)} {vs : List Expr} {tk tv : TE} {trs : List (TE × TE)} (hk : PE X k tk) (hv : PE X v tv) (hr : PPs X pos ks vs trs) :
    PPs X pos (some k :: ks) (v :: vs) ((tk, tv) :: trs) := fun pins s σ H Q I h =>
  pairTrees_cons_walk (thn (hk pins s σ H _ I h) fun u s1 ⟨x, H1, I1, rx, q1⟩ => thn (hv pins s1 σ H1 _ I1 q1) fun w2 s2 ⟨y, H2, I2, ry, q2⟩ =>
    thn (hr pins s2 σ H2 _ I2 q2) fun ws s3 ⟨ps, H3, I3, rel, q3⟩ => ⟨(x, y) :: ps, H3, I3, .cons ⟨rx, ry⟩ rel, q3⟩)

def mergeK (kvs more : List (Key × V)) : List (Key × V) := more.foldl (fun acc kv => putK acc kv.1 kv.2) kvs
theorem KV.merge : ∀ {more : List (Key × V)} {rs : List (Key × Value)} {kvs : List (Key × V)} {vs : List (Key × Value)}, KV more rs → KV kvs vs → KV (mergeK kvs more) (merged vs rs) := by
  intro more rs kvs vs r
  unfold KV at r
  induction r generalizing kvs vs with
  | nil => intro q; exact q
  | @cons p q ps qs h t ih =>
    intro r0
    have e : KV (putK kvs p.1 p.2) (stored vs q.1 q.2) := by
      have := r0.put p.1 h.2
      rw [← h.1]; exact this
    exact ih e
theorem length_mergeK : ∀ (more kvs : List (Key × V)), (mergeK kvs more).length ≤ kvs.length + more.length
  | [], kvs => by show kvs.length ≤ kvs.length + 0; omega
  | p :: r, kvs => by
    have h1 := length_mergeK r (putK kvs p.1 p.2)
    have h2 := length_putK kvs p.1 p.2
    show (mergeK (putK kvs p.1 p.2) r).length ≤ _
    rw [List.length_cons]; omega
theorem carries_of {P : Program} {w : World} : ∀ {kvs : List (Key × V)} {ws : List (Value × Value)}, VV (kvs.map fun kv => (kV kv.1, kv.2)) ws → ∃ rs, Carries (mixKind P w) ws rs ∧ KV kvs rs
  | [], _, r => by rw [List.map_nil] at r; cases r; exact ⟨[], True.intro, .nil⟩
  | p :: kvs, _, r => by
    rw [List.map_cons] at r
    cases r with
    | @cons a b as bs h t =>
      obtain ⟨rs, c, q⟩ := carries_of (P := P) (w := w) t
      obtain ⟨b1, b2⟩ := b
      exact ⟨(p.1, b2) :: rs, ⟨kV_is h.1, rfl, c⟩, .cons ⟨rfl, h.2⟩ q⟩
/-- {k: v, ..} with keys ints and texts; the new dict stands empty while the pairs are made -/
def tDisp (trs : List (TE × TE)) : TE := fun σ H Q => ∀ p, H p = none → tPairs trs σ (upd H p (.dK [])) fun ps H2 => H2 p = some (.dK []) ∧ ∃ kvs : List (Key × V), ps = kvs.map (fun kv => (kV kv.1, kv.2)) ∧ kvs.length ≤ 15 ∧ Q (.ref p) (upd H2 p (.dK (mergeK [] kvs)))
theorem pe_disp {X : Cx} {pos : Pos} {keys : List (Option Expr)} {values : List Expr} {trs : List (TE × TE)} (h : PPs X pos keys values trs) (hall : keys.all (·.isSome) = true) (hl : keys.length = values.length) (h0 : keys ≠ [])
    (h15 : keys.length ≤ 15) : PE X (.Dict keys values pos) (tDisp trs) := by
  intro pins s σ H Q I q
  have hn := I.hok.fresh (Nat.le_refl s.heap.objs.size)
  have I1 := I.laid (a := s.heap.objs.size) (o := .dK []) (h' := s.heap.push { cls := .type "dict", data := .dict #[] }) (t' := s.toks) (fun _ _ q => Heap.get?_push_of_some _ q) (Nat.le_refl _) (dk_empty s.heap I.big)
  refine wpAny_Dict_walk (knd := mixKind X.prog X.w) hall hl h0 h15 (thn (h pins _ σ _ _ I1 (q _ hn)) fun ws s2 ⟨ps, H2, I2, rel, e, kvs, ep, lk, q2⟩ => ?_)
  subst ep
  obtain ⟨rs, c, rk⟩ := carries_of (P := X.prog) (w := X.w) rel
  obtain ⟨z, hd, vs0, r0, dd⟩ := dk_of I2.hok e
  cases r0
  refine ⟨rs, c, dd, fun h' dd' hs => ⟨.ref s.heap.objs.size, _, ?_, rfl, q2⟩⟩
  have hz : (mergeK [] kvs).length ≤ sizeLine := by
    have h1 := length_mergeK kvs []
    rw [List.length_nil] at h1
    rw [sizeLine_eq]; omega
  have he : ∃ q, h'.get? s.heap.objs.size = some q := let ⟨q, _, _, hq, _⟩ := dd'; ⟨q, hq⟩
  exact d_write I2 (by rw [e]; exact True.intro) hs he (dk_new hz hd (rk.merge .nil) dd')


/-! ### methods -/
/-- a method call o.m(e) of a built-in, with one argument: what must be seen of the text -/
structure M1 (X : Cx) (o : Expr) (m : Str) (apos : Pos) (e : Expr) (cpos : Pos) : Prop where
  base : attributeBase o m X.env (eval o X.env) = eval o X.env
  few : ((backTo cpos (starEach [e] X.env)).all (fun x => !x.1) && (backToKw cpos (keywordEach [] X.env)).all (fun x => x.1.isSome)
    && decide (([e] : List Expr).length + ([] : List Keyword).length + (if ([] : List Keyword).isEmpty then 0 else 1) < 30)) = true
  line : (apos.endLine == cpos.line) = true
  trees : backTo cpos (starEach [e] X.env) = [(false, eval e X.env)]
structure M2 (X : Cx) (o : Expr) (m : Str) (apos : Pos) (e f : Expr) (cpos : Pos) : Prop where
  base : attributeBase o m X.env (eval o X.env) = eval o X.env
  few : ((backTo cpos (starEach [e, f] X.env)).all (fun x => !x.1) && (backToKw cpos (keywordEach [] X.env)).all (fun x => x.1.isSome)
    && decide (([e, f] : List Expr).length + ([] : List Keyword).length + (if ([] : List Keyword).isEmpty then 0 else 1) < 30)) = true
  line : (apos.endLine == cpos.line) = true
  trees : backTo cpos (starEach [e, f] X.env) = [(false, eval e X.env), (false, eval f X.env)]

/-- a is a dict, whatever its keys -/
def IsD (H : Hp) (a : Addr) : Prop := (∃ kvs, Rd H a (.dK kvs)) ∨ ∃ kvs, Rd H a (.dT kvs)
section
variable {X : Cx} {pins : List (Addr × Obj)} {σ : St} {H : Hp} {s : Shared} {a : Addr} {y d : V} {u r : Value} {o : Option V} {A : Around} {E : Value → Shared → Prop}
end

def tDGet1 (td ty : TE) : TE := fun σ H Q => td σ H fun x H1 => ∃ a, x = .ref a ∧ IsD H1 a ∧ ty σ H1 fun y H2 => ∃ o, DGet H2 a y o ∧ Q (o.getD .non) H2
def tDGet2 (td ty tx : TE) : TE := fun σ H Q => td σ H fun x H1 => ∃ a, x = .ref a ∧ IsD H1 a ∧ ty σ H1 fun y H2 => tx σ H2 fun z H3 => ∃ o, DGet H3 a y o ∧ Q (o.getD z) H3
/-- d.pop(k): there; d.pop(k, x): there or not -/
def tDPop1 (td ty : TE) : TE := fun σ H Q => td σ H fun x H1 => ∃ a, x = .ref a ∧ IsD H1 a ∧ ty σ H1 fun y H2 => ∃ kvs k v, H2 a = some (.dK kvs) ∧ y = kV k ∧ valV kvs k = some v ∧ Q v (upd H2 a (.dK (dropK kvs k)))
def tDPop2 (td ty tx : TE) : TE := fun σ H Q => td σ H fun x H1 => ∃ a, x = .ref a ∧ IsD H1 a ∧ ty σ H1 fun y H2 => tx σ H2 fun z H3 => ∃ kvs k, H3 a = some (.dK kvs) ∧ y = kV k ∧
  (∀ v, valV kvs k = some v → Q v (upd H3 a (.dK (dropK kvs k)))) ∧ (valV kvs k = none → Q z H3)
section
variable {X : Cx} {o e f : Expr} {apos cpos : Pos} {td ty tx : TE}
end

/-! ### dict(d): a copy -/
section
variable {X : Cx} {pins : List (Addr × Obj)} {σ : St} {H : Hp} {s : Shared} {a : Addr} {kvs : List (Key × V)} {A : Around} {E : Value → Shared → Prop}
end


section
variable {X : Cx} {pins : List (Addr × Obj)} {σ : St} {H : Hp} {s : Shared} {a : Addr} {y : V} {u : Value} {A : Around} {E : Value → Shared → Prop}
end
end L2

namespace Att
open PySem PySem.W PySem.Calls PyProof.Rows

/-! ### the script -/
theorem ints_of_wellAll {P : Params} {h : Heap} : ∀ (ns : List Int) (vs : List Value), WellAll P h vs (ns.map WData.int) → IntsAre vs ns := by
  intro ns
  induction ns with
  | nil =>
    intro vs w
    rw [List.map_nil] at w
    cases w
    exact .nil
  | cons n ns ih =>
    intro vs w
    rw [List.map_cons] at w
    cases w with
    | cons a b =>
      cases a
      exact .cons _ _ (ih _ b)

theorem script_of {l : OpenLaw} {n : Nat} (hn : l.most = some n) {P : Params} {h : Heap} {args : List WData} {vals : List Value}
    (hpre : l.row.toRowW.claim.pre args = true) (hwl : WellAll P h vals args) :
    ∃ a vs ns, vals = [Value.ref a] ∧ args = [WData.list (ns.map WData.int)] ∧ h.get? a = some { cls := .type "list", data := .seq vs.toArray } ∧ IntsAre vs ns ∧ ns.length ≤ n := by
  have hsh : WShape.hasAll [] args [.list .int] = true := (pre_splitW hpre).1
  have hc : l.pre.holds [] { args := args } = true := (pre_splitW hpre).2
  obtain ⟨d, r, rfl, h1, h2⟩ := hasAllW_cons hsh
  obtain rfl := hasAllW_nil h2
  obtain ⟨xs, rfl, h3⟩ := hasW_list h1
  obtain ⟨ns, rfl⟩ := items_int h3
  have hlen : ns.length ≤ n := by
    unfold OpenLaw.pre at hc
    have h4 : (WTm.not (.lt (.lit (.int (n : Int))) (.len (.arg 0)))).holds [] { args := [.list (ns.map .int)] } = true := by
      have h4 := (holds_andW hc).1
      rw [hn] at h4
      exact h4
    have h5 := condW_of h4 (w_not (w_lt w_lit (w_len_list (w_arg rfl))))
    rw [List.length_map] at h5
    refine Nat.le_of_not_lt fun q => ?_
    have q' : (n : Int) < ((ns.length : Nat) : Int) := by omega
    first
      | (rw [decide_eq_true q'] at h5; exact absurd h5 (by decide))
      | (simp at h5; omega)
  cases hwl with
  | cons w1 w2 =>
    cases w2
    cases w1 with
    | list ho hall => exact ⟨_, _, ns, rfl, rfl, ho, ints_of_wellAll ns _ hall, hlen⟩

theorem post_true (l : OpenLaw) (args : List WData) : l.row.toRowW.claim.post args (.bool true) args = true :=
  postW_of (r := l.row.toRowW) (X := (true == true))
    (show WShape.has [] (.bool true) .bool = true by first | rfl | decide | simp [WShape.has, WShape.arms, WShape.armsAll])
    (show (WTm.eq .res (.lit (.bool true))).value [] { args := args, res := some (.bool true), after := args } = some (.bool (true == true)) from w_eq_bool (w_res rfl) w_lit) rfl

/-! ### the attachment: holds_open's last premise (the goal 'hc' behind k_head) from a wpAny of the law's body -/
/-- the same from a codeAny of the CALL (for a layer whose function contracts speak of calls) -/
theorem attach_call {l : OpenLaw} {n : Nat} {q : Program} {loose : List Str} {XP : (Str → Option Value) → Heap → Prop} {YP : World → Heap → Prop} {d : DefRec}
    (hn : l.most = some n) (hdf : d.params.defaults = [])
    (call : ∀ (w : World) (s₀ s₁ : Shared) (mg mb : Str → Option Value) (fa : Addr) (o : Obj) (pm cd doc : Value) (a : Addr) (vs : List Value) (ns : List Int),
      Ground q loose [] XP w s₀ mg mb s₁.heap → YP w s₁.heap →
      s₁.heap.get? fa = some o → o.data = .func (docDef d.name d.params d.body d.scope pm cd doc) → s₁.heap.CodeRec cd d.name → mg d.name = some (.ref fa) →
      s₁.heap.get? a = some { cls := .type "list", data := .seq vs.toArray } → IntsAre vs ns → ns.length ≤ n → s₁.gens = #[] →
      codeAny (model l.prog w) callerA (.call (.ref fa) ⟨[.ref a], []⟩) (fun r s' => r = .ok (.ret (.bool true)) ∧ OldK s₁.heap s'.heap ∧ s'.os = s₁.os ∧ AllBare s'.gens) s₁) :
    WalkO q loose XP YP l.row.toRowW d [] (fun f vs => PySem.call f vs) := by
  intro w s₀ s₁ mg mb G Y fa o pm cd doc dV kV ho hd hcd hD hmg hg args vals as hpre hlay hrd hwl hlo
  obtain rfl : dV = .none := Dflts.none hD hdf
  obtain rfl : kV = .none := Dflts.noKw hD
  obtain ⟨a, vs, ns, rfl, rfl, hobj, hints, hlen⟩ := script_of hn hpre hwl
  refine enter_call (codeAny_mono (call w s₀ s₁ mg mb fa o pm cd doc a vs ns G Y ho (fd_plain hd) hcd hmg hobj hints hlen hg) fun r s' hq => ?_)
  obtain ⟨rfl, h2, h3, h4⟩ := hq
  exact ⟨.inl ⟨.bool true, .bool true, [], rfl, fun _ => rfl, .bool true, post_true l _, fun _ => ⟨List.Pairwise.nil, fun _ hm => (nomatch hm)⟩⟩, h2, h3, h4⟩

/-! ### rules over ANY heap (no ledger) from facts about the written part K: the library's own take a ledger (News) for what they write -/
section
variable {prog : Program} {w : World} {A : Around} {E : Value → Shared → Prop} {s : Shared} {K : Frag}

/-! the whole heap as the ledger: makes every rule that writes through a ledger a rule over any heap -/
def noObjs (h : Heap) : Heap := { h with objs := #[] }
def ledger (h : Heap) (L d : Addr) : List (Addr × Obj) := (List.range h.objs.size).filterMap fun a => if a = L ∨ a = d then none else (h.get? a).map fun o => (a, o)
end
end Att

namespace L2
open PySem PySem.Spec PyProof.Rows

theorem vals_ints : ∀ {vs : List Value} {ns : List Int}, IntsAre vs ns → Vals (ns.map V.int) vs
  | _, _, .nil => .nil
  | _, _, .cons n t h => .cons ⟨t, rfl⟩ (vals_ints h)

/-- nothing is tracked but the script, known to the object (or it is an object of the module) -/
def Only (H : Hp) : Prop := ∀ b, H b = none ∨ ∃ o xs, H b = some (.frz o (.lst xs))

/-- THE HEAD: the law's promise, at the heap behind the top. F, the promise of the law's def, may use that base is part of the heap (so K.In base, base.Ns mainGlobals mg stand in Mod) -/
theorem law_call {P : Program} {w : World} {K : PySem.W.Frag} {mg mb : Str → Option Value} {CX : CXT} {k : Nat} {fa a : Addr} {fd : FuncData} {x : Str} {sp : Sp} {s₁ : Shared} {vs : List Value} {ns : List Int}
    (KX : K.In s₁.heap) (hns : s₁.heap.Ns mainGlobals mg) (hb : s₁.heap.Ns builtinsNs mb) (hbb : ∀ x : Str, x ≠ "__name__" → mb x = bootBuiltins x) (hlim : s₁.heap.NoLimit) (hg : s₁.gens = #[])
    (ha : s₁.heap.get? a = some { cls := .type "list", data := .seq vs.toArray }) (hi : IntsAre vs ns) (hl : ns.length ≤ sizeLine) (hr : Room k callerA)
    (F : ∀ base : Heap, K.In base → base.Ns mainGlobals mg → FnOk P w K mg base CX k fa fd [x] sp) (hbind : ∀ (s : Shared) (u : Value), BindsTo s fd ⟨[u], []⟩ [(x, u)])
    (hsp : ∀ H : Hp, Only H → SqL K H a (ns.map V.int) → sp [.ref a] H (fun v _ => v = .bl true) fun _ _ _ => False)
    (hCX : ∀ H e s', CX [] H s₁ (fun _ _ _ => False) e s' → False) :
    codeAny (model P w) callerA (.call (.ref fa) ⟨[.ref a], []⟩) (fun r s' => r = .ok (.ret (.bool true)) ∧ OldK s₁.heap s'.heap ∧ s'.os = s₁.os ∧ AllBare s'.gens) s₁ := by
  have rv := vals_ints hi
  have lenV := hi.length
  -- from an abstract heap in which nothing but the script may be tracked
  have core : ∀ H : Hp, Only H → SqL K H a (ns.map V.int) → HOk P w H s₁.heap → (∀ b, H b ≠ none → b = a) → (H a ≠ none → K.lookup a = none) →
      codeAny (model P w) callerA (.call (.ref fa) ⟨[.ref a], []⟩) (fun r s' => r = .ok (.ret (.bool true)) ∧ OldK s₁.heap s'.heap ∧ s'.os = s₁.os ∧ AllBare s'.gens) s₁ := by
    intro H hO hS hok hA hK
    have base_of : ∀ {b : Addr} {o : Obj}, s₁.heap.get? b = some o → H b = none → (hidT s₁.heap H).get? b = some o := fun e n => hidT_get e n
    have noA : ∀ {b : Addr} {o : Obj} {es : Array DictEntry} {ep : Nat}, s₁.heap.get? b = some o → o.data = .dict es ep → H b = none := fun {b o es ep} e d => by
      cases q : H b with
      | none => rfl
      | some u =>
        have e' : b = a := hA b (by rw [q]; simp)
        subst e'
        rw [ha] at e; cases e
        have d' : Data.seq vs.toArray _ = Data.dict es ep := d
        cases d'
    have nsK : ∀ {b : Addr} {m : Str → Option Value}, s₁.heap.Ns b m → (hidT s₁.heap H).Ns b m := fun {b m} ⟨o, es, ep, e, d, r⟩ => ⟨o, es, ep, base_of e (noA e d), d, r⟩
    have hKb : K.In (hidT s₁.heap H) := fun b o e => base_of (KX b o e) (by
      cases q : H b with
      | none => rfl
      | some u =>
        have e' : b = a := hA b (by rw [q]; simp)
        subst e'
        rw [hK (by rw [q]; simp)] at e; cases e)
    have hM : Mod K mg (hidT s₁.heap H) := ⟨hKb, nsK hns, ⟨mb, nsK hb, hbb⟩, let ⟨mc, h1, h2⟩ := hlim; ⟨mc, nsK h1, h2⟩⟩
    have e0 : Env0 P w K mg (hidT s₁.heap H) callerA [] s₁ H := ⟨rfl, hM, fun b o e => of_hidT e, Nat.le_of_eq (hidT_size _ _), trivial, fun b hb => absurd (show b ∈ ([] : List Addr) from hb) (by simp), hok, .of_eq hg⟩
    refine codeAny_mono ((F _ hKb (nsK hns)).run callerA [] s₁ H ⟨[.ref a], []⟩ [.ref a] [.ref a] _ _ hr e0 (hbind s₁ (.ref a)) (.cons rfl .nil) (hsp H hO hS)) fun r s' h => ?_
    cases r with
    | error e => exact (hCX H e s' h).elim
    | ok fl =>
      cases fl with
      | next => exact False.elim h
      | brk => exact False.elim h
      | cont => exact False.elim h
      | ret u =>
        obtain ⟨v, H', os, bare, un, hok', r', q⟩ := h
        have q' : v = .bl true := q
        subst q'
        obtain rfl : u = Value.bool true := r'
        refine ⟨rfl, OldK.of_keep fun b o e => ?_, os, bare⟩
        cases q : H b with
        | none => exact un.keep b o e q (by intro z; exact absurd (show b ∈ ([] : List Addr) from z) (by simp)) (by simp)
        | some u =>
          rcases hO b with z | ⟨ob, xs, z⟩
          · rw [q] at z; cases z
          · have z2 := un.frzs b ob _ z
            obtain ⟨e1, _⟩ := hok b _ z
            obtain ⟨e2, _⟩ := hok' b _ z2
            rw [e] at e1; cases e1
            exact e2
  cases hk : K.lookup a with
  | some o =>
    -- the script is one of the module's own objects
    have e := KX a o hk
    rw [ha] at e
    cases e
    refine core (fun _ => none) (fun _ => .inl rfl) (.inr ⟨_, vs.toArray, _, hk, rfl, rfl, rfl, by rw [List.size_toArray, lenV]; exact hl, by simpa using rv⟩) (fun b u z => by have z' : (none : Option HO) = some u := z; cases z') (fun b z => absurd rfl z) fun z => absurd rfl z
  | none =>
    refine core (fun b => if b = a then some (.frz { cls := .type "list", data := .seq vs.toArray } (.lst (ns.map V.int))) else none) (fun b => ?_) (.inl (.inr ⟨{ cls := .type "list", data := .seq vs.toArray }, if_pos rfl⟩)) (fun b u z => ?_) (fun b z => ?_) fun _ => hk
    · by_cases hb : b = a
      · exact .inr ⟨_, _, if_pos hb⟩
      · exact .inl (if_neg hb)
    · by_cases hb : b = a
      · have z' := (if_pos hb).symm.trans z
        cases z'
        subst hb
        exact ⟨ha, by rw [List.length_map]; exact hl, vs, _, rv, ha⟩
      · have z' := (if_neg hb).symm.trans z
        cases z'
    · by_cases hb : b = a
      · exact hb
      · exact absurd (if_neg hb) z
end L2

namespace L2
open PySem PySem.Spec PyProof.Rows

abbrev KOf {K : PySem.W.Frag} {h : Heap} (_ : K.In h) : PySem.W.Frag := K

/-- the goal that k_head leaves (case hc), from the law's promise. F gives the function object fd (K's own) once, then the promise over every base -/
theorem walk_of {l : PySem.W.OpenLaw} {n k : Nat} {q : Program} {loose : List Str} {XP : (Str → Option Value) → Heap → Prop} {YP : World → Heap → Prop} {d : DefRec} {K : Params → PySem.W.Frag} {CX : World → CXT} {sp : World → Sp} {x : Str}
    (hn : l.most = some n) (hn2 : n ≤ sizeLine) (hdf : d.params.defaults = []) (hr : Room k callerA)
    (hY : ∀ (w : World) (h : Heap), YP w h → (K w.params).In h)
    (F : ∀ (w : World) (mg : Str → Option Value) (fa : Addr) (h : Heap), (K w.params).In h → h.Ns mainGlobals mg → mg d.name = some (.ref fa) →
      ∃ fd : FuncData, (∀ (s : Shared) (u : Value), BindsTo s fd ⟨[u], []⟩ [(x, u)]) ∧
        ∀ base : Heap, (K w.params).In base → base.Ns mainGlobals mg → FnOk l.prog w (K w.params) mg base (CX w) k fa fd [x] (sp w))
    (hsp : ∀ (w : World) (H : Hp) (a : Addr) (ns : List Int), ns.length ≤ n → Only H → SqL (K w.params) H a (ns.map V.int) → sp w [.ref a] H (fun v _ => v = .bl true) fun _ _ _ => False)
    (hCX : ∀ (w : World) (H : Hp) (s : Shared) (e : Value) (s' : Shared), CX w [] H s (fun _ _ _ => False) e s' → False) :
    PySem.W.WalkO q loose XP YP l.row.toRowW d [] (fun f vs => PySem.call f vs) := by
  refine Att.attach_call hn hdf fun w s₀ s₁ mg mb fa o pm cd doc a vs ns G Y ho hd hcd hmg hobj hints hlen hg => ?_
  have KX := hY w _ Y
  obtain ⟨fd, hb, hF⟩ := F w mg fa _ KX G.T.g hmg
  exact law_call KX G.T.g G.T.b G.T.builtins G.T.nolimit hg hobj hints (Nat.le_trans hlen hn2) hr hF hb (fun H hO hS => hsp w H a ns hlen hO hS) fun H e s' => hCX w H s₁ e s'
end L2

/- THE LAST THEOREM (shape; LID, My.* are yours):
   My.Adr: a structure of the addresses that your layer names (classes, functions); My.Txt K t: a structure (Prop) of the equations over K;
   My.txt_mk : {K} {implicit addresses ..} (e1 : nsIn K mainGlobals "law" = some (some (.ref f))) (e2 : K.lookup f = some ⟨oc, od, .func (fnOf "law" "law" params body scope dV kV doc pm an cdv ct), sl⟩) (e3 : codeIn K cdv "law" = true) .. : ∃ t, My.Txt K t

set_option maxRecDepth 100000 in
set_option maxHeartbeats 0 in
theorem PySem.Challenge.cw_LID_holds : PySem.Challenge.rw_LID.Holds := by
  w_on; o_law; k_head; (case hw => w_witness2)
  k_fill
  refine L2.walk_of (l := PySem.Challenge.rw_LID) (n := 63) (k := 40) (x := "script") (CX := fun w => ..) (sp := fun _ => My.sp_law) rfl (by decide) rfl ⟨rfl, by decide, by decide⟩ (fun w h Y => PySem.W.kIn_of Y) ?F ?S ?C
  case F =>
    intro w mg fa h KX G hmg
    have T : ∃ t, My.Txt (L2.KOf KX) t := by
      dsimp only [L2.KOf]                          -- K must stand as «<heap const> w.params» for k_is
      refine' My.txt_mk ?e1 ?e2 ?e3 ..
      (case e1 => PySem.W.k_is)                    -- in the order: a name -> its address -> its object -> its parts
      (case e2 => PySem.W.k_is)
      ..
    obtain ⟨t, T⟩ := T
    have e0 := hmg.symm.trans (PySem.W.mg_of KX G T.law)
    cases e0                                       -- fa is the law's own address
    exact ⟨_, fun s u => .of_eq rfl, fun base kb nb => My.law_fn T kb nb⟩     -- if «.of_eq rfl» comes too early: refine' ⟨_, ?b, fun base kb nb => My.law_fn T kb nb⟩; exact fun s u => .of_eq rfl
  case S => exact fun w H a ns hl hO hS => ..
  case C => exact ..
(the tactic k_is has no namespace: write k_is) -/

/-! SHORT WORDS over the layer: a def of the text, its body, what a loop and a test want. -/
namespace L2
open PySem PySem.Spec PyProof.Rows

/-! ### the text by places -/
/-- the j-th statement of a class's body -/
def inClass (s : Stmt) (j : Nat) : Stmt := match s with
  | .ClassDef _ _ _ body _ _ _ _ _ _ _ => body.getD j (.Pass ⟨0, 0, 0, 0⟩)
  | _ => .Pass ⟨0, 0, 0, 0⟩
def defArgs (s : Stmt) : Arguments := match s with
  | .FunctionDef _ a _ _ _ _ _ _ _ _ => a
  | _ => { posonlyargs := [], args := [], vararg := none, kwonlyargs := [], kw_defaults := [], kwarg := none, defaults := [] }
def defBody (s : Stmt) : List Stmt := match s with
  | .FunctionDef _ _ b _ _ _ _ _ _ _ => b
  | _ => []
def defScope (s : Stmt) : Scope := match s with
  | .FunctionDef _ _ _ _ _ _ sc _ _ _ => sc
  | _ => { kind := .function, names := [], isGenerator := false, isCoroutine := false }

/-! ### no exception leaves a def -/
abbrev CX0 : CXT := fun _ _ _ _ _ _ => False
abbrev E0 : XK := fun _ _ _ => False
theorem pass0 {X : Cx} : Passes CX0 X E0 := fun _ _ _ _ _ _ _ h => h.elim

/-! ### a def (or method) of the text as it stands behind the top -/
structure Fun (K : PySem.W.Frag) (x qual : Str) (st : Stmt) (f : Addr) (fd : FuncData) : Prop where
  ex : ∃ (oc : Value) (od : Option Addr) (kV doc pm : Value) (an : Option Addr) (cdv ct : Value) (osl : Array (Option Value)),
    fd = PySem.W.fnOf x qual (defArgs st) (defBody st) (defScope st) .none kV doc pm an cdv ct ∧ K.lookup f = some ⟨oc, od, .func fd, osl⟩ ∧ PySem.W.codeIn K cdv qual = true
  kp : PySem.W.keepIn K (.ref f) = true
section
variable {P : Program} {w : World} {K : PySem.W.Frag} {mg : Str → Option Value} {base : Heap}
/-- THE RULE for a def: its body as a term of rules, and the reading of that term -/
theorem Fun.ok {x qual : Str} {st : Stmt} {f : Addr} {fd : FuncData} {N ps : List Str} {k : Nat} {sp : Sp} (F : Fun K x qual st f fd) (S : FnScope N ps (defScope st)) (len : ∀ vs H Q E, sp vs H Q E → vs.length = ps.length)
    (hbody : ∀ (cdv : Value) (A : Around) (outer : List Env) (s : Shared) (H : Hp) (vs : List V) (Q : VK) (E : XK), Room k (A.deeper (envOfC qual (defScope st) s.heap.objs.size f cdv)) → sp vs H Q E →
      ∃ t, PSs (cxOf CX0 P w K mg base N qual (defScope st) f cdv A outer s H E).nox (defBody st) t ∧ t { nx := fun _ H' => Q .non H', rt := Q } (start N vs) H) : FnOk P w K mg base CX0 (k + 1) f fd ps sp := by
  obtain ⟨oc, od, kV, doc, pm, an, cdv, ct, osl, rfl, lk, hcd⟩ := F.ex
  refine fn_of lk hcd S len fun A outer s H vs Q E hr hsp => ?_
  obtain ⟨t, h, q⟩ := hbody cdv A outer s H vs Q E hr hsp
  exact ⟨t, h.nox, q⟩
/-- how its arguments bind (no defaults): h is «fun _ _ _ _ _ _ us hl => match us, hl with | [_, _], _ => rfl», one _ a parameter -/
theorem Fun.binds {x qual : Str} {st : Stmt} {f : Addr} {fd : FuncData} {ps : List Str} (F : Fun K x qual st f fd)
    (h : ∀ (kV doc pm : Value) (an : Option Addr) (cdv ct : Value) (us : List Value), us.length = ps.length → bindArgs (PySem.W.fnOf x qual (defArgs st) (defBody st) (defScope st) .none kV doc pm an cdv ct) ⟨us, []⟩ = pure (ps.zip us)) : Binds K fd ps [] := by
  obtain ⟨oc, od, kV, doc, pm, an, cdv, ct, osl, rfl, lk, hcd⟩ := F.ex
  exact .all (h kV doc pm an cdv ct)
theorem fun_mk {x qual : Str} {st : Stmt} {f : Addr} {oc : Value} {od an : Option Addr} {osl : Array (Option Value)} {kV doc pm cdv ct : Value} (l : K.lookup f = some ⟨oc, od, .func (PySem.W.fnOf x qual (defArgs st) (defBody st) (defScope st) .none kV doc pm an cdv ct), osl⟩)
    (c : PySem.W.codeIn K cdv qual = true) (k : PySem.W.keepIn K (.ref f) = true) : Fun K x qual st f (PySem.W.fnOf x qual (defArgs st) (defBody st) (defScope st) .none kV doc pm an cdv ct) := ⟨⟨oc, od, kV, doc, pm, an, cdv, ct, osl, rfl, l, c⟩, k⟩
end
theorem hu_of {A : Around} {k : Nat} (hr : Room k A) : A.units + 1 < cLine := Nat.lt_of_le_of_lt (Nat.add_le_add_left (by decide : 1 ≤ 64) _) hr.units
theorem small1000 {n : Nat} (h : n ≤ 1000) : n < sizeLine := Nat.lt_of_le_of_lt h (by decide)

/-! ### expressions in short: the name that stands in the i-th slot -/
section
variable {X : Cx}
theorem pv (i : Nat) {x : Str} {pos : Pos} (hN : X.N[i]? = some x := by rfl) (hv : Vis X.env.scope x := by first | exact Or.inl rfl | exact Or.inr (Or.inl rfl) | exact Or.inr (Or.inr rfl)) (hd : (x == ("__debug__" : Str)) = false := by decide)
    (hcd : (x == ("__classdict__" : Str)) = false := by decide) : PE X (.Name x pos) (tVar i) := pe_var hN hv hd hcd
end

/-! ### tests -/
theorem iteF {A B : Prop} (h : B) : if false = true then A else B := by
  rw [if_neg Bool.false_ne_true]
  exact h
theorem ite2 {c A B : Prop} [Decidable c] (h1 : c → A) (h2 : ¬ c → B) : if c then A else B := by
  by_cases h : c
  · rw [if_pos h]
    exact h1 h
  · rw [if_neg h]
    exact h2 h
theorem iteNS {c A B : Prop} [Decidable c] (hc : c) (h : B) : if (!decide c) = true then A else B := by
  rw [decide_eq_true hc]
  exact iteF h

/-! ### heaps -/
/-- all that was tracked is as it was -/
def Same (H H' : Hp) : Prop := ∀ b o, H b = some o → H' b = some o
theorem Same.refl (H : Hp) : Same H H := fun _ _ h => h
theorem Same.trans {H H1 H2 : Hp} (a : Same H H1) (b : Same H1 H2) : Same H H2 := fun c o h => b c o (a c o h)
theorem Same.free {H H' : Hp} (e : Same H H') {l : Addr} (h : H' l = Option.none) : H l = Option.none := by
  cases q : H l with
  | none => rfl
  | some o =>
    rw [e l o q] at h
    cases h
theorem Same.seq {K : PySem.W.Frag} {H H' : Hp} {a : Addr} {xs : List V} (e : Same H H') (h : SqL K H a xs) : SqL K H' a xs := by
  rcases h with (h | ⟨o, h⟩) | h
  · exact .inl (.inl (e _ _ h))
  · exact .inl (.inr ⟨o, e _ _ h⟩)
  · exact .inr h

/-! ### a dict's pairs: keys that differ -/
section
variable {κ : Type} [DecidableEq κ]
end
end L2
set_option Elab.async false
set_option linter.all false
set_option maxRecDepth 100000
namespace PySem
def cloL (cells : List (Str × Addr)) : List (Str × NameKind) → List (Str × Addr) → List (Str × Addr)
  | [], acc => acc
  | x :: r, acc => cloL cells r (if (x.2 == NameKind.free) = true then (match cells.lookup x.1 with | some c => (x.1, c) :: acc | none => acc) else acc)
theorem closureFor_cells {scope : Scope} {env : Env} (h : ∀ x ∈ scope.names, x.2 = .free → ∃ c, env.cells.lookup x.1 = some c) : closureFor scope env = pure (cloL env.cells scope.names []) := by
  simp only [closureFor]
  have key : ∀ (names : List (Str × NameKind)) (acc : List (Str × Addr)), (∀ x ∈ names, x.2 = .free → ∃ c, env.cells.lookup x.1 = some c) →
      ((forIn names acc fun x r => if (x.snd == NameKind.free) = true then do
              let c ← cellOf env x.fst
              pure (ForInStep.yield ((x.fst, c) :: r))
            else pure (ForInStep.yield r)) : Sem (List (Str × Addr))) = pure (cloL env.cells names acc) := by
    intro names
    induction names with
    | nil => intro acc _; rfl
    | cons x r ih =>
      intro acc hx
      have hr : ∀ y ∈ r, y.2 = .free → ∃ c, env.cells.lookup y.1 = some c := fun y hy => hx y (List.mem_cons_of_mem _ hy)
      rw [List.forIn_cons]
      by_cases hk : (x.2 == NameKind.free) = true
      · obtain ⟨c, hc⟩ := hx x List.mem_cons_self (by simpa using hk)
        rw [if_pos hk]
        have e : cellOf env x.1 = pure c := by unfold cellOf; rw [hc]
        rw [e]
        simp only [pure_bind]
        rw [ih _ hr]
        show _ = pure (cloL env.cells r _)
        rw [if_pos hk, hc]
      · rw [if_neg hk]
        simp only [pure_bind]
        rw [ih _ hr]
        show _ = pure (cloL env.cells r _)
        rw [if_neg hk]
  rw [key scope.names [] h]
  simp only [pure_bind]
theorem cloL_sound (cells : List (Str × Addr)) : ∀ (names : List (Str × NameKind)) (acc : List (Str × Addr)) (x : Str) (c : Addr), (∀ y d, acc.lookup y = some d → cells.lookup y = some d) → (cloL cells names acc).lookup x = some c → cells.lookup x = some c
  | [], acc, x, c, ha, h => ha x c h
  | n :: r, acc, x, c, ha, h => by
    refine cloL_sound cells r _ x c ?_ h
    intro y d hy
    by_cases hk : (n.2 == NameKind.free) = true
    · rw [if_pos hk] at hy
      cases hc : cells.lookup n.1 with
      | none => rw [hc] at hy; exact ha y d hy
      | some e =>
        rw [hc] at hy
        by_cases hyn : (y == n.1) = true
        · have e1 : y = n.1 := by simpa using hyn
          subst e1
          simp only [List.lookup_cons_self] at hy
          rw [hc]; exact hy
        · have : (y == n.1) = false := by simpa using hyn
          simp only [List.lookup_cons, this] at hy
          exact ha y d hy
    · rw [if_neg hk] at hy
      exact ha y d hy
theorem cloL_acc (cells : List (Str × Addr)) : ∀ (names : List (Str × NameKind)) (acc : List (Str × Addr)) (x : Str), (∃ c, acc.lookup x = some c) → ∃ c, (cloL cells names acc).lookup x = some c
  | [], acc, x, h => h
  | n :: r, acc, x, h => by
    refine cloL_acc cells r _ x ?_
    by_cases hk : (n.2 == NameKind.free) = true
    · rw [if_pos hk]
      cases hc : cells.lookup n.1 with
      | none => exact h
      | some e =>
        by_cases hyn : (x == n.1) = true
        · have e1 : x = n.1 := by simpa using hyn
          subst e1
          exact ⟨e, by simp⟩
        · have : (x == n.1) = false := by simpa using hyn
          obtain ⟨c, h⟩ := h
          exact ⟨c, by simp only [List.lookup_cons, this]; exact h⟩
    · rw [if_neg hk]; exact h
theorem cloL_has (cells : List (Str × Addr)) : ∀ (names : List (Str × NameKind)) (acc : List (Str × Addr)) (x : Str), (x, NameKind.free) ∈ names → (∃ c, cells.lookup x = some c) → ∃ c, (cloL cells names acc).lookup x = some c
  | [], acc, x, h, _ => nomatch h
  | n :: r, acc, x, h, hc => by
    rcases List.mem_cons.mp h with e | h
    · subst e
      refine cloL_acc cells r _ x ?_
      obtain ⟨c, hc⟩ := hc
      have : ((x, NameKind.free).2 == NameKind.free) = true := by simp
      rw [if_pos this, hc]
      exact ⟨c, by simp⟩
    · exact cloL_has cells r _ x h hc
theorem lookup_hit {names : List (Str × NameKind)} {x n : Str} {k : NameKind} (h : (x == n) = true) : List.lookup x ((n, k) :: names) = some k := by simp only [List.lookup_cons, h]
theorem lookup_miss {names : List (Str × NameKind)} {x n : Str} {k : NameKind} (h : (x == n) = false) : List.lookup x ((n, k) :: names) = names.lookup x := by simp only [List.lookup_cons, h]
theorem lookup_mem {x : Str} {k : NameKind} : ∀ {names : List (Str × NameKind)}, names.lookup x = some k → (x, k) ∈ names
  | [], h => by simp at h
  | (n, j) :: r, h => by
    cases hyn : (x == n) with
    | true =>
      rw [lookup_hit hyn] at h
      have e1 : x = n := by simpa using hyn
      have e2 : j = k := Option.some.inj h
      subst e1; subst e2
      exact List.mem_cons_self
    | false =>
      rw [lookup_miss hyn] at h
      exact List.mem_cons_of_mem _ (lookup_mem h)
/-- what relabelling does to a name -/
theorem lookup_relabel_aux {env : Env} {x : Str} {k : NameKind} : ∀ {names : List (Str × NameKind)},
    (names.map fun (n, k) => if (k == NameKind.free && env.scope.kind == .function && env.kindOf n == some .cell) then (n, NameKind.cell) else (n, k)).lookup x = some k →
    names.lookup x = some k ∨ (k = .cell ∧ names.lookup x = some .free)
  | [], h => by simp at h
  | (n, j) :: r, h => by
    rw [List.map_cons] at h
    have ih := @lookup_relabel_aux env x k r
    dsimp only at h
    by_cases hc : (j == NameKind.free && env.scope.kind == .function && env.kindOf n == some .cell) = true
    · rw [if_pos hc] at h
      cases hyn : (x == n) with
      | true =>
        rw [lookup_hit hyn] at h ⊢
        have : j = .free := by
          have := (Bool.and_eq_true_iff.mp (Bool.and_eq_true_iff.mp hc).1).1
          simpa using this
        exact .inr ⟨(Option.some.inj h).symm, by rw [this]⟩
      | false =>
        rw [lookup_miss hyn] at h ⊢
        exact ih h
    · rw [if_neg hc] at h
      cases hyn : (x == n) with
      | true => rw [lookup_hit hyn] at h ⊢; exact .inl h
      | false =>
        rw [lookup_miss hyn] at h ⊢
        exact ih h
theorem lookup_relabel {scope : Scope} {env : Env} {x : Str} {k : NameKind} (h : (relabel scope env).names.lookup x = some k) : scope.names.lookup x = some k ∨ (k = .cell ∧ scope.names.lookup x = some .free) := lookup_relabel_aux h
section
variable {prog : Program} {w : World} {A : Around} {R : Result → Shared → Prop} {s : Shared}
/-- a comprehension's loop, whatever it walks, whatever its target: nothing of it raises -/
theorem comp_loop {elt target iter : Expr} {ifs : List Expr} {scope : Scope} {pos : Pos} {it acc : Value} {env : Env} (I : Nat → Shared → Prop)
    (turn : ∀ n s, I n s → wpAny (model prog w) A (pyNext it) (fun r s₁ => match r with
      | none => R (.ok .next) s₁
      | some v => wpAny (model prog w) A (letOwnedTupleGo target it v) (fun _ s₁' => wpAny (model prog w) A (assign target env v) (fun _ s₂ =>
          wpAny (model prog w) A (forIn ifs true fun c r => if r = true then do let ok ← isTrue c env (eval c env); pure (ForInStep.yield ok) else pure (ForInStep.yield r)) (fun ok s₃ =>
            if ok = true then wpAny (model prog w) A (eval elt env) (fun x s₄ =>
              wpAny (model prog w) A (call (.builtin "list.append") [acc, x]) (fun _ s₅ => ∃ m, m < n ∧ I m s₅) (fun _ _ => False) s₄) (fun _ _ => False) s₃
            else ∃ m, m < n ∧ I m s₃) (fun _ _ => False) s₂) (fun _ _ => False) s₁') (fun _ _ => False) s₁) (fun _ _ => False) s)
    (n : Nat) (h : I n s) :
    codeAny (model prog w) A (.compLoop (.ListComp elt [⟨target, iter, ifs, 0⟩] scope pos) 0 it acc env) R s := by
  refine codeAny_loop rfl I (fun n s hI => ?_) n h
  show wpAny _ A ((compTurn (.ListComp elt [⟨target, iter, ifs, 0⟩] scope pos) 0 it acc env).onRaise (fun x => do noteFrame x env; theTreesLotGoes x)) _ _ s
  refine wpAny_noted ?_
  rw [compTurn_list]
  refine wpAny_bind (wpAny_standAt (wpAny_bind (wpAny_mono (turn n s hI) (fun r s₁ h₁ => ?_) fun _ _ h' => h'.elim)))
  cases r with
  | none => exact wpAny_pure h₁
  | some v =>
    refine wpAny_bind (wpAny_mono h₁ (fun _ s₁' h₁' => ?_) fun _ _ h' => h'.elim)
    refine wpAny_bind (wpAny_mono h₁' (fun _ s₂ h₂ => wpAny_bind (wpAny_mono h₂ (fun ok s₃ h₃ => ?_) fun _ _ h' => h'.elim)) fun _ _ h' => h'.elim)
    cases ok with
    | true =>
      simp only [if_true] at h₃ ⊢
      exact wpAny_bind (wpAny_bind (wpAny_mono h₃ (fun x s₄ h₄ => wpAny_bind (wpAny_mono h₄ (fun _ s₅ h₅ => wpAny_pure (wpAny_pure ⟨rfl, h₅⟩)) fun _ _ h' => h'.elim)) fun _ _ h' => h'.elim))
    | false =>
      simp only [Bool.false_eq_true, if_false] at h₃ ⊢
      exact wpAny_pure ⟨rfl, h₃⟩
end
end PySem
namespace L2
open PySem PySem.Spec PyProof.Rows

/-! ### list comprehensions -/
/-- the context of a comprehension's block -/
def compCx (X : Cx) (N' : List Str) (scope : Scope) (cl : List (Str × Addr)) (C : Addr) (s₀ : Shared) (H₀ : Hp) (ex : List Addr) (pn : List (Addr × Obj)) : Cx where
  prog := X.prog
  w := X.w
  K := X.K
  mg := X.mg
  base := X.base
  A := X.A
  N := N'
  s₀ := s₀
  H₀ := H₀
  env := compEnvC scope cl C X.env
  outer := X.stack
  stack := X.stack
  ex := ex
  calm := X.calm
  fn := fun _ => false
  pn := pn
  xe := fun _ _ => False
/-- the block's names: the targets unknown, the others taken over -/
def capSt (cap : List (Option Nat)) (σ : St) : St := cap.map fun o => o.bind fun j => (σ[j]?).join
def compOkB (sc scope : Scope) (N N' : List Str) (cap : List (Option Nat)) : Bool :=
  scope.kind == .function && scope.names.all (fun x => x.2 != .cell && (x.2 != .local || scope.names.lookup x.1 == some .local) && (x.2 != .free || (sc.names.lookup x.1 == some .cell || sc.names.lookup x.1 == some .free)))
    && cap.length == N'.length && (cap.zip N').all (fun p => match p.1 with | none => true | some j => N[j]? == some p.2 && scope.names.lookup p.2 == some .free)
structure CompOk (sc scope : Scope) (N N' : List Str) (cap : List (Option Nat)) : Prop where
  kind : scope.kind = .function
  nocell : ∀ x ∈ scope.names, x.2 ≠ .cell
  loc : ∀ x ∈ scope.names, x.2 = .local → scope.names.lookup x.1 = some .local
  free : ∀ x ∈ scope.names, x.2 = .free → sc.names.lookup x.1 = some .cell ∨ sc.names.lookup x.1 = some .free
  len : cap.length = N'.length
  cap : ∀ (i j : Nat), cap[i]? = some (some j) → ∃ x, N'[i]? = some x ∧ N[j]? = some x ∧ scope.names.lookup x = some .free
theorem compOk_of {sc scope : Scope} {N N' : List Str} {cap : List (Option Nat)} (h : compOkB sc scope N N' cap = true) : CompOk sc scope N N' cap := by
  unfold compOkB at h
  rw [Bool.and_eq_true_iff, Bool.and_eq_true_iff, Bool.and_eq_true_iff] at h
  obtain ⟨⟨⟨h1, h2⟩, h3⟩, h4⟩ := h
  have h3' : cap.length = N'.length := by simpa using h3
  have q : ∀ x ∈ scope.names, (x.2 != .cell) = true ∧ (x.2 != .local || scope.names.lookup x.1 == some .local) = true ∧ (x.2 != .free || (sc.names.lookup x.1 == some .cell || sc.names.lookup x.1 == some .free)) = true := fun x hx => by
    have := List.all_eq_true.mp h2 x hx
    rw [Bool.and_eq_true_iff, Bool.and_eq_true_iff] at this
    exact ⟨this.1.1, this.1.2, this.2⟩
  refine ⟨by simpa using h1, fun x hx => by simpa using (q x hx).1, fun x hx e => ?_, fun x hx e => ?_, h3', fun i j e => ?_⟩
  · have := (q x hx).2.1
    rw [e] at this
    simpa using this
  · have := (q x hx).2.2
    rw [e] at this
    simpa using this
  · obtain ⟨hi, _⟩ := List.getElem?_eq_some_iff.mp e
    have hi' : i < N'.length := h3' ▸ hi
    have hz : (cap.zip N')[i]? = some (some j, N'[i]) := List.getElem?_zip_eq_some.mpr ⟨e, by simp [hi']⟩
    have := List.all_eq_true.mp h4 _ (List.mem_of_getElem? hz)
    dsimp only at this
    rw [Bool.and_eq_true_iff] at this
    exact ⟨N'[i], by simp [hi'], by simpa using this.1, by simpa using this.2⟩

theorem relabel_free {scope : Scope} {env : Env} {x : Str} (h : scope.names.lookup x = some .free) : (relabel scope env).names.lookup x = some .cell ∨ (relabel scope env).names.lookup x = some .free := by
  have key : ∀ {names : List (Str × NameKind)}, names.lookup x = some .free →
      (names.map fun (n, k) => if (k == NameKind.free && env.scope.kind == .function && env.kindOf n == some .cell) then (n, NameKind.cell) else (n, k)).lookup x = some .cell ∨
      (names.map fun (n, k) => if (k == NameKind.free && env.scope.kind == .function && env.kindOf n == some .cell) then (n, NameKind.cell) else (n, k)).lookup x = some .free := by
    intro names
    induction names with
    | nil => intro h; simp at h
    | cons y r ih =>
      obtain ⟨n, j⟩ := y
      intro h
      rw [List.map_cons]
      dsimp only
      by_cases hc : (j == NameKind.free && env.scope.kind == .function && env.kindOf n == some .cell) = true
      · rw [if_pos hc]
        cases hyn : (x == n) with
        | true => exact .inl (lookup_hit hyn)
        | false =>
          rw [lookup_miss hyn] at h
          rw [lookup_miss hyn]
          exact ih h
      · rw [if_neg hc]
        cases hyn : (x == n) with
        | true =>
          rw [lookup_hit hyn] at h
          exact .inr (by rw [lookup_hit hyn]; exact h)
        | false =>
          rw [lookup_miss hyn] at h
          rw [lookup_miss hyn]
          exact ih h
  exact key h

section
variable {X : Cx} {pins : List (Addr × Obj)} {σ : St} {H H' : Hp} {s : Shared}
theorem Inv.comp {sc scope : Scope} {Nm N' : List Str} {cap : List (Option Nat)} {fp : List Addr} {h' : Heap} {m : Str → Option Value} (I : Inv X pins σ H s) (hsc : X.env.scope = sc) (hN : X.N = Nm) (ok : CompOk sc scope Nm N' cap)
    (hf : ∀ b ∈ fp, FpOk X pins H b) (hfo : ∀ b ∈ fp, ∃ o, s.heap.get? b = some o) (hm : h'.Ns s.heap.objs.size m) (hs : ∀ b o, s.heap.get? b = some o → h'.get? b = some o) (t : Nat) :
    Inv (compCx X N' scope (cloL X.env.cells scope.names []) s.heap.objs.size s H fp (X.pn ++ pins)) [] (capSt cap σ) H { s with heap := h', toks := t } := by
  have sub : ∀ x c, (cloL X.env.cells scope.names []).lookup x = some c → X.env.cells.lookup x = some c := fun x c e => cloL_sound _ _ [] x c (fun y d z => by simp at z) e
  have hasx : ∀ x, scope.names.lookup x = some .free → ∃ c, (cloL X.env.cells scope.names []).lookup x = some c := fun x e => by
    refine cloL_has _ _ [] x (lookup_mem e) (I.ok.has x ?_)
    have := ok.free _ (lookup_mem e) rfl
    rw [← hsc] at this
    exact this
  have szC : ∀ x c, X.env.cells.lookup x = some c → c < s.heap.objs.size := fun x c e => by
    obtain ⟨v, o, ho, _⟩ := I.cell x c e
    exact Heap.lt_size ho
  refine ⟨⟨I.ok.mod, ?_, I.ok.glob, I.ok.blt, Nat.le_refl _, fun x y c e1 e2 => I.ok.inj x y c (sub x c e1) (sub y c e2), fun x hx => ?_, (fun x c hx => by cases hx), I.ok.hd, I.ok.frames, .inl rfl, fun b hb => ⟨?_, fun x c e => ?_⟩, I.bs, ?_, fun b o e hb => ?_, fun b hb => ?_, I.stack, I.stkFree⟩,
    rfl, I.bare, Un.kept hs, ⟨m, hm, fun i x v e1 e2 e3 => ?_⟩, fun x c e => ?_, I.hok.fresh (Nat.le_refl _), fun x c e => I.freeC x c (sub x c e), fun p hp => ?_, I.hok.kept hs, ?_⟩
  · exact ok.kind
  · -- has
    have : scope.names.lookup x = some .free := by
      rcases hx with hx | hx
      · rcases lookup_relabel hx with z | ⟨_, z⟩
        · exact absurd rfl (ok.nocell _ (lookup_mem z))
        · exact z
      · rcases lookup_relabel hx with z | ⟨z, _⟩
        · exact z
        · cases z
    exact hasx x this
  · obtain ⟨o, e⟩ := hfo b hb
    exact Nat.ne_of_lt (Heap.lt_size e)
  · exact (hf b hb).2.2.2.2.1 x c (sub x c e)
  · obtain ⟨m0, hn0, _⟩ := I.loc
    exact Nat.le_trans I.ok.bsz I.sz
  · rcases (hf b hb).2.2.2.1 with z | z
    · exact I.ok.noex b o e z
    · exact absurd (Nat.lt_of_lt_of_le (Heap.lt_size (I.ok.bs b o e).1) z) (Nat.lt_irrefl _)
  · intro z
    rcases List.mem_cons.mp (I.stkSub b z) with q | q
    · exact (hf b hb).2.1 q
    · exact (hf b hb).2.2.1 q
  · -- loc
    unfold capSt at e2
    rw [List.getElem?_map] at e2
    cases hc : cap[i]? with
    | none => rw [hc] at e2; cases e2
    | some o =>
      rw [hc] at e2
      cases o with
      | none => cases e2
      | some j =>
        obtain ⟨x', n1, n2, n3⟩ := ok.cap i j hc
        have ex : x' = x := by
          have e1' : N'[i]? = some x := e1
          rw [n1] at e1'
          exact Option.some.inj e1'
        subst ex
        have e2' : (σ[j]?).join = some v := Option.some.inj e2
        have e2'' : σ[j]? = some (some v) := by
          cases hj : σ[j]? with
          | none => rw [hj] at e2'; cases e2'
          | some y =>
            rw [hj] at e2'
            have : y = some v := e2'
            rw [this]
        obtain ⟨m0, hn0, hl0⟩ := I.loc
        have kf := ok.free _ (lookup_mem n3) rfl
        rw [← hsc] at kf
        obtain ⟨u, r, l⟩ := hl0 j x' v (by rw [hN]; exact n2) e2'' (.inr kf)
        refine ⟨u, r, .inr ⟨relabel_free n3, ?_⟩⟩
        obtain ⟨c', hc'⟩ := hasx x' n3
        refine ⟨c', hc', ?_⟩
        rcases l with ⟨l, _⟩ | ⟨_, c, l1, l2⟩
        · exfalso
          have l' : X.env.scope.names.lookup x' = some .local := l
          rcases kf with z | z
          · rw [z] at l'; cases l'
          · rw [z] at l'; cases l'
        · have := sub x' c' hc'
          rw [l1] at this
          cases this
          exact l2.keeps hs
  · obtain ⟨v, z⟩ := I.cell x c (sub x c e)
    exact ⟨v, z.keeps hs⟩
  · have hp' : p ∈ X.pn ++ pins := by
      have : p ∈ (X.pn ++ pins) ++ [] := hp
      simpa using this
    obtain ⟨e, n, ne, nf, d⟩ := I.pin p hp'
    refine ⟨hs _ _ e, n, Nat.ne_of_lt (Heap.lt_size e), fun z => ?_, d⟩
    rcases List.mem_cons.mp (I.stkSub p.1 z) with q | q
    · exact ne q
    · exact nf q
  · show (capSt cap σ).length = N'.length
    unfold capSt
    rw [List.length_map]
    exact ok.len
/-- behind the block, in the def again -/
theorem Inv.uncomp {scope : Scope} {N' : List Str} {cl : List (Str × Addr)} {C : Addr} {fp : List Addr} {σ' : St} {s' : Shared} (I : Inv X pins σ H s) (hf : ∀ b ∈ fp, FpOk X pins H b)
    (I' : Inv (compCx X N' scope cl C s H fp (X.pn ++ pins)) [] σ' H' s') : Inv X pins σ H' s' :=
  I.call' I'.os I'.base I'.hok I'.bare fun b hb => ⟨(hf b hb).2.2.2.1, (hf b hb).2.1, (hf b hb).2.2.2.2.1, (hf b hb).2.2.2.2.2⟩
/-- an object that came later and is of no concern has changed -/
theorem Inv.aside {C : Addr} {h' : Heap} {s' : Shared} {σ₀ : St} (I : Inv X pins σ₀ H s) (I' : Inv X pins σ H' s') (hC : s.heap.objs.size ≤ C) (hn : H' C = none) (hs : Heap.SameBut C s'.heap h') : Inv X pins σ H' { s' with heap := h' } := by
  have lt : ∀ a o, s.heap.get? a = some o → a ≠ C := fun a o e => Nat.ne_of_lt (Nat.lt_of_lt_of_le (Heap.lt_size e) hC)
  refine I'.turned (t' := s'.toks) (it := C) (fun b o hb e => (hs.2 b hb).trans e) hn ?_ (.inr (Nat.le_trans I.sz hC)) (fun x c e => ?_) fun p hp => ?_
  · exact Nat.ne_of_gt (Nat.lt_of_lt_of_le I.lt hC)
  · obtain ⟨v, o, ho, _⟩ := I.cell x c e
    exact lt c o ho
  · exact lt _ _ (I.pin p hp).1
end

/-- the tests of a comprehension -/
def PIfs (X : Cx) (ifs : List Expr) (t : TT) : Prop :=
  ∀ (pins : List (Addr × Obj)) (s : Shared) (σ : St) (H : Hp) (Q : Bool → Hp → Prop), Inv X pins σ H s → t σ H Q →
    wpAny (model X.prog X.w) X.A (forIn ifs true fun c r => if r = true then do let ok ← isTrue c X.env (eval c X.env); pure (ForInStep.yield ok) else pure (ForInStep.yield r)) (TP X pins σ Q) X.xe s
def tTrue : TT := fun _ H Q => Q true H
theorem pifs_nil {X : Cx} : PIfs X [] tTrue := fun pins s σ H Q I h => wpAny_tests_nil ⟨H, I, h⟩
theorem pifs_one {X : Cx} {c : Expr} {t : TT} (h : PT X c t) : PIfs X [c] t := fun pins s σ H Q I q => wpAny_tests_one (h pins s σ H Q I q)

/-- what a comprehension walks, fills and gives: W by the turn, a measure, the items so far -/
def CompGoes (p : Addr) (σ' : St) (g : TG) (tt : TT) (te : TE) (Q : VK) (J : It) (H1 : Hp) : Prop :=
  ∃ W : Nat → Nat → St → List V → Hp → Prop, (∃ m, W 0 m σ' [] (upd H1 p (.lst []))) ∧ ∀ i m σ ys H, W i m σ ys H → H p = some (.lst ys) ∧ ys.length < sizeLine ∧
    ((J.stop i H ∧ Q (.ref p) H) ∨ (J.go i H ∧ ∃ N : St → List V → Hp → Prop, (∀ σ' ys' H', N σ' ys' H' → ∃ m', m' < m ∧ W (i + 1) m' σ' ys' H') ∧ ∀ x H', J.yld i H x H' → g x σ H' fun σ2 H2 =>
      tt σ2 H2 fun b H3 => if b = true then te σ2 H3 fun v H4 => H4 p = some (.lst ys) ∧ N σ2 (ys ++ [v]) (upd H4 p (.lst (ys ++ [v]))) else N σ2 ys H3))
def tComp (cap : List (Option Nat)) (wi : TI) (g : TG) (tt : TT) (te : TE) : TE := fun σ H Q => wi σ H fun J H1 => ∀ p, H1 p = none → CompGoes p (capSt cap σ) g tt te Q J H1

section
variable {X : Cx} {tg elt iter : Expr} {ifs : List Expr} {scope sc : Scope} {Nm N' : List Str} {cap : List (Option Nat)} {pos : Pos} {wi : TI} {g : TG} {tt : TT} {te : TE}
/-- the block itself: RR is what is wanted behind it, of the list and the block's own frame -/
theorem comp_block {pins : List (Addr × Obj)} {s : Shared} {σ : St} {H : Hp} {Q : VK} {E : Value → Shared → Prop} {it : Addr} {fp : List Addr} {tn : Nat → Heap → Prop} {J : It} {RR : Value → Addr → Result → Shared → Prop} (hc : X.calm = true)
    (hsc : X.env.scope = sc) (hN : X.N = Nm) (ok : CompOk sc scope Nm N' cap)
    (hg : ∀ cl C s₀ H₀ ex pn, PG (compCx X N' scope cl C s₀ H₀ ex pn) tg g) (ht : ∀ cl C s₀ H₀ ex pn, PIfs (compCx X N' scope cl C s₀ H₀ ex pn) ifs tt) (he : ∀ cl C s₀ H₀ ex pn, PE (compCx X N' scope cl C s₀ H₀ ex pn) elt te)
    (I : Inv X pins σ H s) (T : Turn X.prog X.w X.K tg J fp it tn) (st : tn 0 s.heap) (hf : ∀ b ∈ fp, FpOk X pins H b) (h : ∀ p, H p = none → CompGoes p (capSt cap σ) g tt te Q J H)
    (hRR : ∀ (p C : Addr) (H' : Hp) (s' : Shared) (m : Str → Option Value), s.heap.objs.size ≤ C → s'.heap.Ns C m → H' C = none → Inv X pins σ H' s' → Q (.ref p) H' → RR (.ref p) C (.ok .next) s') :
    wpAny (model X.prog X.w) X.A (newList []) (fun acc s₃ => wpAny (model X.prog X.w) X.A (newFunctionEnv scope X.env.globals (cloL X.env.cells scope.names []) [] X.env.qual none .none (some X.env)) (fun cenv s₄ =>
      codeAny (model X.prog X.w) X.A (.compStart (.ListComp elt [⟨tg, iter, ifs, 0⟩] scope pos) 0 (.ref it) acc { cenv with scope := relabel scope X.env }) (RR acc cenv.locals) s₄) E s₃) E s := by
  have fr : H s.heap.objs.size = none := I.hok.fresh (Nat.le_refl _)
  obtain ⟨W, ⟨m0, w0⟩, turn⟩ := h _ fr
  refine wpAny_newObj_type (wpAny_newFunctionEnv ok.nocell (by intro y hy; simp at hy) (fun h₁ hns₁ hsb₁ => ?_) ok.kind)
  dsimp only at hns₁ hsb₁ ⊢
  -- the list is laid
  have I1 : Inv X pins σ (upd H s.heap.objs.size (.lst [])) { s with heap := s.heap.push { cls := .type "list", data := .seq ([] : List Value).toArray } } := by
    have := I.lnew (its := []) (t' := s.toks) .nil (Nat.zero_le _)
    exact this
  have hf1 : ∀ b ∈ fp, FpOk X pins (upd H s.heap.objs.size (.lst [])) b := fun b hb => by
    obtain ⟨o, e, _⟩ := T.obj _ _ st b hb
    refine ⟨?_, (hf b hb).2⟩
    rw [upd_ne (Nat.ne_of_lt (Heap.lt_size e))]
    exact (hf b hb).1
  have hfo1 : ∀ b ∈ fp, ∃ o, (s.heap.push { cls := .type "list", data := .seq ([] : List Value).toArray }).get? b = some o := fun b hb => by
    obtain ⟨o, e, _⟩ := T.obj _ _ st b hb
    exact ⟨o, Heap.get?_push_of_some _ e⟩
  have keep1 : ∀ b o, (s.heap.push { cls := .type "list", data := .seq ([] : List Value).toArray }).get? b = some o → h₁.get? b = some o := fun b o e =>
    hsb₁.extBut b o (Nat.ne_of_lt (Heap.lt_size e)) (Heap.get?_push_of_some _ e)
  have I2 := I1.comp (h' := h₁) (t := s.toks + ([] : List (Str × Value)).length) hsc hN ok hf1 hfo1 hns₁ keep1
  have st1 : tn 0 h₁ := T.keep _ _ _ st fun b hb o e => keep1 b o (Heap.get?_push_of_some _ e)
  have hCsz : s.heap.objs.size ≤ (s.heap.push { cls := .type "list", data := .seq ([] : List Value).toArray }).objs.size := by rw [Heap.size_push]; exact Nat.le_succ _
  -- what stays true of the iterator's objects
  have stat : ∀ {H' : Hp}, (∀ b ∈ fp, H' b = none) → ∀ b ∈ fp, FpOk (compCx X N' scope (cloL X.env.cells scope.names []) (s.heap.push { cls := .type "list", data := .seq ([] : List Value).toArray }).objs.size { s with heap := s.heap.push { cls := .type "list", data := .seq ([] : List Value).toArray } } (upd H s.heap.objs.size (.lst [])) fp (X.pn ++ pins)) [] H' b := fun hn b hb => by
    obtain ⟨o, e⟩ := hfo1 b hb
    refine ⟨hn b hb, Nat.ne_of_lt (Heap.lt_size e), fun z => ?_, .inl hb, fun x c e' => (hf b hb).2.2.2.2.1 x c (cloL_sound _ _ [] x c (fun y d z => by simp at z) e'), fun p hp => ?_⟩
    · rcases List.mem_cons.mp (I.stkSub b z) with q | q
      · exact (hf b hb).2.1 q
      · exact (hf b hb).2.2.1 q
    · have hp' : p ∈ (X.pn ++ pins) ++ [] := hp
      rw [List.append_nil] at hp'
      exact (hf b hb).2.2.2.2.2 p hp'
  have loop : ∀ s₃ : Shared, s₃ = { s with heap := h₁, toks := s.toks + ([] : List (Str × Value)).length } →
      codeAny (model X.prog X.w) X.A (.compLoop (.ListComp elt [⟨tg, iter, ifs, 0⟩] scope pos) 0 (.ref it) (.ref s.heap.objs.size) (compEnvC scope (cloL X.env.cells scope.names []) (s.heap.push { cls := .type "list", data := .seq ([] : List Value).toArray }).objs.size X.env))
        (RR (.ref s.heap.objs.size) (s.heap.push { cls := .type "list", data := .seq ([] : List Value).toArray }).objs.size) s₃ := by
    rintro s₃ rfl
    generalize hX' : compCx X N' scope (cloL X.env.cells scope.names []) (s.heap.push { cls := .type "list", data := .seq ([] : List Value).toArray }).objs.size { s with heap := s.heap.push { cls := .type "list", data := .seq ([] : List Value).toArray } } (upd H s.heap.objs.size (.lst [])) fp (X.pn ++ pins) = X' at I2 stat
    have eP : X'.prog = X.prog := by rw [← hX']; rfl
    have ew : X'.w = X.w := by rw [← hX']; rfl
    have eK : X'.K = X.K := by rw [← hX']; rfl
    have eA : X'.A = X.A := by rw [← hX']; rfl
    have ec : X'.calm = true := by rw [← hX']; exact hc
    have exe : X'.xe = fun _ _ => False := by rw [← hX']; rfl
    have een : X'.env = compEnvC scope (cloL X.env.cells scope.names []) (s.heap.push { cls := .type "list", data := .seq ([] : List Value).toArray }).objs.size X.env := by rw [← hX']; rfl
    have hg' : PG X' tg g := hX' ▸ hg _ _ _ _ _ _
    have ht' : PIfs X' ifs tt := hX' ▸ ht _ _ _ _ _ _
    have he' : PE X' elt te := hX' ▸ he _ _ _ _ _ _
    have ha' : MtM X' "list.append" rAppend := mt_append
    unfold PG at hg'
    unfold PIfs at ht'
    unfold PE at he'
    unfold MtM at ha'
    rw [eP, ew, eA, exe, een] at hg' ht' he'
    rw [eP, ew, eA, exe] at ha'
    refine comp_loop (fun n s' => ∃ i σ' ys H', Inv X' [] σ' H' s' ∧ tn i s'.heap ∧ (∀ b ∈ fp, H' b = none) ∧ W i n σ' ys H') ?_ m0 ⟨0, capSt cap σ, [], _, I2, st1, fun b hb => (hf1 b hb).1, w0⟩
    rintro n s3 ⟨i, σ3, ys, H3, I3, st3, fr3, w3⟩
    obtain ⟨hp, hz, step⟩ := turn i n σ3 ys H3 w3
    rcases step with ⟨stop, qn⟩ | ⟨go, N, hNn, step⟩
    · have := T.done X' eP ew eK ec i [] s3 σ3 H3 (fun _ _ => False) I3 (stat fr3) st3 stop
      rw [eA] at this
      refine thn this fun r s4 ⟨hr, I4⟩ => ?_
      subst hr
      obtain ⟨m4, hm4, _⟩ := I4.loc
      have hC4 : H3 X'.env.locals = none := I4.free
      rw [een] at hm4 hC4
      have I4' : Inv X pins σ H3 s4 := by
        rw [← hX'] at I4
        exact I1.uncomp hf1 I4
      exact hRR _ _ _ _ m4 hCsz hm4 hC4 I4' qn
    · have := T.item X' eP ew eK ec i [] s3 σ3 H3 (fun _ _ => False) I3 (stat fr3) st3 go
      rw [eA] at this
      refine thn this fun r s4 ⟨u, hr, h4⟩ => ?_
      subst hr
      refine thn h4 fun _ s5 ⟨x, H5, I5, r5, y5, st5, fr5⟩ => ?_
      have I5' := I5.pinned (stat fr5) (T.obj _ _ st5)
      refine thn (hg' _ s5 σ3 H5 x u _ I5' r5 (step x H5 y5)) fun _ s6 ⟨σ6, H6, I6, q6⟩ => ?_
      refine thn (ht' _ s6 σ6 H6 _ I6 q6) fun b s7 ⟨H7, I7, q7⟩ => ?_
      have again : ∀ {σ8 : St} {H8 : Hp} {s8 : Shared} {ys' : List V}, Inv X' ([] ++ pinsAt fp s5.heap) σ8 H8 s8 → N σ8 ys' H8 → ∃ m, m < n ∧ ∃ i σ' ys H', Inv X' [] σ' H' s8 ∧ tn i s8.heap ∧ (∀ b ∈ fp, H' b = none) ∧ W i m σ' ys H' := fun {σ8 H8 s8 ys'} I8 n8 => by
        obtain ⟨m', hm, w8⟩ := hNn σ8 ys' H8 n8
        refine ⟨m', hm, i + 1, σ8, ys', H8, I8.unpinned, T.keep _ _ _ st5 fun b hb o e => (I8.pin (b, o) (List.mem_append_right _ (List.mem_append_right _ (mem_pinsAt hb e)))).1, fun b hb => ?_, w8⟩
        obtain ⟨o, e, d⟩ := T.obj _ _ st5 b hb
        exact (I8.pin (b, o) (List.mem_append_right _ (List.mem_append_right _ (mem_pinsAt hb e)))).2.1
      cases b with
      | true =>
        simp only [if_true] at q7 ⊢
        refine thn (he' _ s7 σ6 H7 _ I7 q7) fun y s8 ⟨v, H8, I8, r8, q8, n8⟩ => ?_
        refine thn (ha' _ s8 σ6 H8 (.ref s.heap.objs.size) [v] (.ref s.heap.objs.size) [y] (fun _ H9 => N σ6 (ys ++ [v]) H9) I8 rfl (.cons r8 .nil) ⟨_, ys, v, rfl, rfl, q8, hz, n8⟩) fun _ s9 ⟨_, H9, I9, _, n9⟩ => ?_
        exact again I9 n9
      | false =>
        simp only [Bool.false_eq_true, if_false] at q7 ⊢
        exact again I7 q7
  exact codeAny_compStart_list (loop _ rfl) (T.self _ 0 _ _ _ st1 (loop _ rfl))
/-- [e for x in ..], [e for x in .. if t] -/
theorem pe_comp (cap : List (Option Nat)) (N' : List Str) (sc : Scope) (Nm : List Str) (hok : compOkB sc scope Nm N' cap = true) (hc : X.calm = true) (hi : PI X tg iter wi)
    (hg : ∀ cl C s₀ H₀ ex pn, PG (compCx X N' scope cl C s₀ H₀ ex pn) tg g) (ht : ∀ cl C s₀ H₀ ex pn, PIfs (compCx X N' scope cl C s₀ H₀ ex pn) ifs tt) (he : ∀ cl C s₀ H₀ ex pn, PE (compCx X N' scope cl C s₀ H₀ ex pn) elt te)
    (hsc : X.env.scope = sc := by rfl) (hN : X.N = Nm := by rfl) (hs : ∀ x, foldedSetIterable iter X.env x = pure x := by intro _; rfl) : PE X (.ListComp elt [⟨tg, iter, ifs, 0⟩] scope pos) (tComp cap wi g tt te) := by
  intro pins s σ H Q I h
  have ok := compOk_of hok
  rw [eval_ListComp]
  refine wpAny_comprehension_free (use := none) (cl := cloL X.env.cells scope.names []) rfl hs (closureFor_cells fun x hx e => I.ok.has x.1 ?_) ok.kind ok.loc (thn (hi pins s σ H _ I h) fun v s1 h1 => thn h1 fun itv s2 h2 => ?_)
  · have := ok.free x hx e
    rw [← hsc] at this
    exact this
  · obtain ⟨it, fp, tn, J, H2, e, I2, T, st2, f2, q2⟩ := h2
    subst e
    refine comp_block (RR := fun acc C => compPost (model X.prog X.w) X.A X.xe none (EP X pins σ Q) acc C) hc hsc hN ok hg ht he I2 T st2 f2 q2 ?_
    intro p C H' s' m hC hm hCn I' q
    exact ⟨m, hm, fun h' hs' => ⟨.ref p, H', I2.aside I' hC hCn hs', rfl, q⟩⟩
/-- y = [e for x in ..] with a plain local y, on one line -/
theorem ps_comp {i : Nat} {y : Str} {py spos : Pos} (cap : List (Option Nat)) (N' : List Str) (sc : Scope) (Nm : List Str) (hok : compOkB sc scope Nm N' cap = true) (hc : X.calm = true) (hi : PI X tg iter wi)
    (hg : ∀ cl C s₀ H₀ ex pn, PG (compCx X N' scope cl C s₀ H₀ ex pn) tg g) (ht : ∀ cl C s₀ H₀ ex pn, PIfs (compCx X N' scope cl C s₀ H₀ ex pn) ifs tt) (he : ∀ cl C s₀ H₀ ex pn, PE (compCx X N' scope cl C s₀ H₀ ex pn) elt te)
    (hNd : X.N.Nodup) (hy : X.N[i]? = some y) (hx : Loc X.env.scope y) (hsw : swapsWith (.ListComp elt [⟨tg, iter, ifs, 0⟩] scope pos) (some (.Name y py)) spos.line X.env = pure true)
    (hsc : X.env.scope = sc := by rfl) (hN : X.N = Nm := by rfl) (hs : ∀ x, foldedSetIterable iter X.env x = pure x := by intro _; rfl)
    (hf : X.fn y = true ∨ X.env.scope.names.lookup y = some .local := by first | exact .inl rfl | exact .inr rfl | assumption) :
    PS X (.Assign [.Name y py] (.ListComp elt [⟨tg, iter, ifs, 0⟩] scope pos) spos) (tAsg (tComp cap wi g tt te) (gName i)) := by
  intro pins s σ H D I h
  have ok := compOk_of hok
  rw [exec_Assign_Name_used _ _ _ _ hsw]
  refine wpAny_bind (wpAny_standAt (wpAny_bind ?_))
  show wpAny _ X.A (do let _ ← comprehension (.ListComp elt [⟨tg, iter, ifs, 0⟩] scope pos) scope X.env _ (newList []) false (eval iter X.env) (some (assign (.Name y py) X.env))) _ _ s
  refine wpAny_bind (wpAny_mono (wpAny_comprehension_free (use := some (assign (.Name y py) X.env)) (Q := fun _ s' => SP X pins D .next s') (cl := cloL X.env.cells scope.names []) rfl hs (closureFor_cells fun x hx e => I.ok.has x.1 ?_) ok.kind ok.loc
    (thn (hi pins s σ H _ I h) fun v s1 h1 => thn h1 fun itv s2 h2 => ?_)) (fun _ s' hq => wpAny_pure (wpAny_pure hq)) fun _ _ e => e)
  · have := ok.free x hx e
    rw [← hsc] at this
    exact this
  · obtain ⟨it, fp, tn, J, H2, e, I2, T, st2, f2, q2⟩ := h2
    subst e
    refine comp_block (Q := fun v H' => D.nx (σ.set i (some v)) H') (RR := fun acc C => compPost (model X.prog X.w) X.A X.xe (some (assign (.Name y py) X.env)) (fun _ s' => SP X pins D .next s') acc C) hc hsc hN ok hg ht he I2 T st2 f2 q2 ?_
    intro p C H' s' m hC hm hCn I' q
    show wpAny _ X.A (assign (.Name y py) X.env (.ref p)) _ _ _
    refine wpAny_assign_Name (store_ok2 (v := .ref p) I' hNd hy hx rfl (fun s'' I'' hsb => ?_) hf)
    obtain ⟨a, hsb, ha⟩ := hsb
    have hCa : C ≠ a := by
      rcases ha with rfl | ha
      · exact Nat.ne_of_gt (Nat.lt_of_lt_of_le I2.lt hC)
      · obtain ⟨v, o, ho, _⟩ := I2.cell y a ha
        exact Nat.ne_of_gt (Nat.lt_of_lt_of_le (Heap.lt_size ho) hC)
    exact ⟨m, hm.sameBut hsb hCa, fun h' hs' => ⟨_, H', I2.aside I'' hC hCn hs', q⟩⟩
/-- over lo, lo + 1, .. -/
theorem comp_range {p : Addr} {σ' : St} {g : TG} {tt : TT} {te : TE} {Q : VK} {lo : Int} {n : Nat} {H1 : Hp} (Sh : St → Prop) (Pv : Nat → List V → Hp → Prop) (s0 : Sh σ') (h0 : Pv 0 [] (upd H1 p (.lst []))) (hn : n < sizeLine)
    (hl : ∀ i ys H, i ≤ n → Pv i ys H → H p = some (.lst ys) ∧ ys.length ≤ i)
    (hs : ∀ i σ ys H, i < n → Sh σ → Pv i ys H → g (.int (lo + i)) σ H fun σ2 H2 => tt σ2 H2 fun b H3 => if b = true then te σ2 H3 fun v H4 => H4 p = some (.lst ys) ∧ Sh σ2 ∧ Pv (i + 1) (ys ++ [v]) (upd H4 p (.lst (ys ++ [v]))) else Sh σ2 ∧ Pv (i + 1) ys H3)
    (hd : ∀ ys H, Pv n ys H → Q (.ref p) H) : CompGoes p σ' g tt te Q (Itr lo n) H1 := by
  refine ⟨fun i m σ ys H => m = n - i ∧ i ≤ n ∧ Sh σ ∧ Pv i ys H, ⟨n, by simp, Nat.zero_le _, s0, h0⟩, ?_⟩
  rintro i m σ ys H ⟨rfl, hi, sh, pv⟩
  obtain ⟨h1, h2⟩ := hl i ys H hi pv
  refine ⟨h1, by omega, ?_⟩
  by_cases hlt : i < n
  · refine .inr ⟨hlt, fun σ ys H => Sh σ ∧ Pv (i + 1) ys H, fun σ' ys' H' q => ⟨n - (i + 1), by omega, rfl, hlt, q.1, q.2⟩, fun x H' y => ?_⟩
    obtain ⟨e, y⟩ := y
    subst e y
    exact hs i σ ys _ hlt sh pv
  · have e : i = n := by omega
    subst e
    exact .inl ⟨Nat.le_refl _, hd ys H pv⟩
/-- over a list that stays -/
theorem comp_list {K : PySem.W.Frag} {a p : Addr} {σ' : St} {g : TG} {tt : TT} {te : TE} {Q : VK} {xs : List V} {H1 : Hp} (Sh : St → Prop) (Pv : Nat → List V → Hp → Prop) (s0 : Sh σ') (h0 : Pv 0 [] (upd H1 p (.lst []))) (hn : xs.length < sizeLine)
    (hl : ∀ i ys H, i ≤ xs.length → Pv i ys H → H p = some (.lst ys) ∧ ys.length ≤ i ∧ SqL K H a xs)
    (hs : ∀ i x σ ys H, xs[i]? = some x → Sh σ → Pv i ys H → g x σ H fun σ2 H2 => tt σ2 H2 fun b H3 => if b = true then te σ2 H3 fun v H4 => H4 p = some (.lst ys) ∧ Sh σ2 ∧ Pv (i + 1) (ys ++ [v]) (upd H4 p (.lst (ys ++ [v]))) else Sh σ2 ∧ Pv (i + 1) ys H3)
    (hd : ∀ ys H, Pv xs.length ys H → Q (.ref p) H) : CompGoes p σ' g tt te Q (Itl K a) H1 := by
  refine ⟨fun i m σ ys H => m = xs.length - i ∧ i ≤ xs.length ∧ Sh σ ∧ Pv i ys H, ⟨xs.length, by simp, Nat.zero_le _, s0, h0⟩, ?_⟩
  rintro i m σ ys H ⟨rfl, hi, sh, pv⟩
  obtain ⟨h1, h2, h3⟩ := hl i ys H hi pv
  refine ⟨h1, by omega, ?_⟩
  by_cases hlt : i < xs.length
  · refine .inr ⟨⟨xs, xs[i], h3, by simp [hlt]⟩, fun σ ys H => Sh σ ∧ Pv (i + 1) ys H, fun σ' ys' H' q => ⟨xs.length - (i + 1), by omega, rfl, hlt, q.1, q.2⟩, fun x H' y => ?_⟩
    obtain ⟨e, y⟩ := y
    subst e
    exact hs i x σ ys _ (y xs h3) sh pv
  · have e : i = xs.length := by omega
    subst e
    exact .inl ⟨⟨xs, h3, Nat.le_refl _⟩, hd ys H pv⟩
end
end L2
namespace L2
open PySem PySem.Spec PyProof.Rows

/-! ### zip of two lists -/
def Itz (K : PySem.W.Frag) (a b : Addr) : It :=
  ⟨fun i H => ∃ xs ys x y, SqL K H a xs ∧ SqL K H b ys ∧ xs[i]? = some x ∧ ys[i]? = some y,
   fun i H v H' => ∃ t, H t = none ∧ v = .ref t ∧ ∀ xs ys x y, SqL K H a xs → SqL K H b ys → xs[i]? = some x → ys[i]? = some y → H' = upd H t (.tup [x, y]),
   fun i H => ∃ xs ys, SqL K H a xs ∧ SqL K H b ys ∧ (xs[i]? = none ∨ ys[i]? = none)⟩
theorem turn_zip {P : Program} {w : World} {K : PySem.W.Frag} {es : List Expr} {k : Nat} {pos : Pos} (l1 l2 z TI TO i1 i2 : Addr) (D : ZipApart z TI TO i1 i2 l1 l2) :
    Turn P w K (.Tuple es k pos) (Itz K l1 l2) [z, TI, TO, i1, i2] z (fun i h => IsZip h z TI TO .none ∧ IsPair h TI (.ref i1) (.ref i2) ∧ (∃ a b, IsPair h TO a b) ∧ h.IsListIter i1 l1 i ∧ h.IsListIter i2 l2 i) where
  mem := by simp
  obj := fun i h st b hb => by
    obtain ⟨hz, hTI, ⟨x, y, hTO⟩, ⟨o1, e1, c1, d1⟩, ⟨o2, e2, c2, d2⟩⟩ := st
    simp only [List.mem_cons, List.not_mem_nil, or_false] at hb
    rcases hb with rfl | rfl | rfl | rfl | rfl
    · exact ⟨_, hz, fun v q => by cases q⟩
    · exact ⟨_, hTI, fun v q => by cases q⟩
    · exact ⟨_, hTO, fun v q => by cases q⟩
    · exact ⟨_, e1, fun v q => by rw [d1] at q; cases q⟩
    · exact ⟨_, e2, fun v q => by rw [d2] at q; cases q⟩
  keep := fun i h h' st kp => by
    obtain ⟨hz, hTI, ⟨x, y, hTO⟩, h1, h2⟩ := st
    exact ⟨kp z (by simp) _ hz, kp TI (by simp) _ hTI, ⟨x, y, kp TO (by simp) _ hTO⟩, h1.at fun o e => kp i1 (by simp) o e, h2.at fun o e => kp i2 (by simp) o e⟩
  item := by
    intro X hP hw hK hc i pins s σ H E I hf st hg
    subst hP hw hK
    obtain ⟨xs, ys, x, y, hq1, hq2, hx, hy⟩ := hg
    obtain ⟨its1, r1, p1, hz1⟩ := I.list hq1
    obtain ⟨its2, r2, p2, hz2⟩ := I.list hq2
    obtain ⟨u1, hu1, ru1⟩ := r1.get hx
    obtain ⟨u2, hu2, ru2⟩ := r2.get hy
    have W := WalksT.zip2 (prog := X.prog) (w := X.w) (A := X.A) (I.ok.hd hc) z TI TO i1 i2 l1 l2 D its1.toArray its2.toArray
    have l1 := r1.length
    have l2 := r2.length
    have b1 := (List.getElem?_eq_some_iff.mp hu1).1
    have b2 := (List.getElem?_eq_some_iff.mp hu2).1
    obtain ⟨hz, hTI, hTO, h1, h2⟩ := st
    refine W.item i s _ _ (by simp only [List.size_toArray]; omega) ⟨hz, hTI, hTO, h1, h2, p1.isList, p2.isList⟩ fun T vals h' tk hv hT ht hM kp => ⟨_, rfl, ?_⟩
    refine W.go es k pos i T { s with heap := h', toks := tk } _ _ hM fun h'' hS kp2 => ?_
    obtain ⟨v1, v2, e1, e2, rfl⟩ := hv
    have e1' : v1 = u1 := by
      have : its1[i]? = some v1 := by simpa using e1
      rw [hu1] at this; exact (Option.some.inj this).symm
    have e2' : v2 = u2 := by
      have : its2[i]? = some v2 := by simpa using e2
      rw [hu2] at this; exact (Option.some.inj this).symm
    subst e1' e2'
    have fp : ∀ b ∈ [z, TO, i1, i2], FpOk X pins H b := fun b hb => hf b (by
      simp only [List.mem_cons, List.not_mem_nil, or_false] at hb ⊢
      rcases hb with h | h | h | h <;> simp [h])
    have kk : ∀ b o, b ∉ [z, TO, i1, i2] → s.heap.get? b = some o → h''.get? b = some o := fun b o hb e => kp2 b o hb (kp b o hb e)
    have nt : ∀ b o, H b = some o → b ∉ [z, TO, i1, i2] := fun b o e hb => by rw [(fp b hb).1] at e; cases e
    have lt : ∀ b o, s.heap.get? b = some o → b ≠ T := fun b o e => Nat.ne_of_lt (Nat.lt_of_lt_of_le (Heap.lt_size e) hT)
    have ltH : ∀ b o, H b = some o → b ≠ T := fun b o e => Nat.ne_of_lt (Nat.lt_of_lt_of_le (I.hok.lt e) hT)
    have tT : IsTup h'' T #[v1, v2] := by
      obtain ⟨o, ho, hc', hd⟩ := ht
      exact ⟨o, kp2 T o (W.apart i T _ hM) ho, hc', hd⟩
    have I1 : Inv X pins σ (upd H T (.tup [x, y])) { s with heap := h'', gens := s.gens, drawn := s.drawn, toks := tk } := by
      refine I.step (ch := [z, TO, i1, i2]) (fun b hb => ⟨(fp b hb).2.2.2.1, (fp b hb).2.1, (fp b hb).2.2.2.2.1, (fp b hb).2.2.2.2.2⟩) (fun b o _ _ hb e _ => kk b o hb e) (fun b o _ _ hb e _ => ⟨o.slots, kk b o hb e⟩) (fun b o hb e n => by rw [upd_ne (lt b o e)]; exact n)
        (fun b o hb e => ⟨o, kk b o hb e⟩) (fun b q e => by rw [upd_ne (ltH b _ e)]; exact e) (fun b o u e => by rw [upd_ne (ltH b _ e)]; exact e) (fun b q e => ⟨#[], by rw [upd_ne (ltH b _ e), e]; simp⟩) (fun m hm => ?_) (fun b u e => ?_) I.bare
      · obtain ⟨o, es', ep, ho, r⟩ := hm
        exact ⟨o, es', ep, kk _ o (fun hb => (fp _ hb).2.1 rfl) ho, r⟩
      · by_cases hbT : b = T
        · subst hbT
          rw [upd_same] at e
          cases e
          exact ⟨by show 2 ≤ sizeLine; decide, [v1, v2], .cons ru1 (.cons ru2 .nil), tT⟩
        · rw [upd_ne hbT] at e
          refine (I.hok b u e).stay (fun c o hc' q => kk c o ?_ q) (fun c q => by rw [upd_ne (ltH c _ q)]; exact q) fun c q' q => by rw [upd_ne (ltH c _ q)]; exact q
          rcases hc' with rfl | hc'
          · exact nt _ _ e
          · exact nt _ _ hc'
    obtain ⟨hz', hTI', hTO', h1', h2', _, _⟩ := hS
    refine ⟨.ref T, upd H T (.tup [x, y]), I1, rfl, ⟨T, I.hok.fresh hT, rfl, fun xs' ys' x' y' q1 q2 hx' hy' => ?_⟩, ⟨hz', hTI', hTO', h1', h2'⟩, fun b hb => ?_⟩
    · rw [I.list_inj q1 hq1, hx] at hx'
      rw [I.list_inj q2 hq2, hy] at hy'
      cases hx'
      cases hy'
      rfl
    · have hb0 : ∃ o, s.heap.get? b = some o := by
        obtain ⟨xx, yy, hTO⟩ := hTO
        obtain ⟨o1, e1, _⟩ := h1
        obtain ⟨o2, e2, _⟩ := h2
        simp only [List.mem_cons, List.not_mem_nil, or_false] at hb
        rcases hb with rfl | rfl | rfl | rfl | rfl
        · exact ⟨_, hz⟩
        · exact ⟨_, hTI⟩
        · exact ⟨_, hTO⟩
        · exact ⟨_, e1⟩
        · exact ⟨_, e2⟩
      obtain ⟨o, e⟩ := hb0
      rw [upd_ne (lt b o e)]
      exact (hf b hb).1
  done := by
    intro X hP hw hK hc i pins s σ H E I hf st hg
    subst hP hw hK
    obtain ⟨xs, ys, hq1, hq2, hend⟩ := hg
    obtain ⟨its1, r1, p1, hz1⟩ := I.list hq1
    obtain ⟨its2, r2, p2, hz2⟩ := I.list hq2
    have hend' : its1.toArray[i]? = none ∨ its2.toArray[i]? = none := by
      rcases hend with e | e
      · exact .inl (by have := r1.none_of e; simpa using this)
      · exact .inr (by have := r2.none_of e; simpa using this)
    obtain ⟨hz, hTI, ⟨a, b, hTO⟩, h1, h2⟩ := st
    have fp : ∀ b ∈ [z, TO, i1, i2], FpOk X pins H b := fun b hb => hf b (by
      simp only [List.mem_cons, List.not_mem_nil, or_false] at hb ⊢
      rcases hb with h | h | h | h <;> simp [h])
    refine wpAny_pyNext_zip_end (I.ok.hd hc) D hz hTI hTO h1 h2 p1.isList p2.isList hend' fun h' hk => ⟨rfl, ?_⟩
    have kk : ∀ b o, b ∉ [z, TO, i1, i2] → s.heap.get? b = some o → h'.get? b = some o := fun b o hb e => hk b o (fun q => hb (by simp [q])) (fun q => hb (by simp [q])) (fun q => hb (by simp [q])) (fun q => hb (by simp [q])) e
    have nt : ∀ b o, H b = some o → b ∉ [z, TO, i1, i2] := fun b o e hb => by rw [(fp b hb).1] at e; cases e
    refine I.step (g' := s.gens) (d' := s.drawn) (t' := s.toks) (ch := [z, TO, i1, i2]) (fun b hb => ⟨(fp b hb).2.2.2.1, (fp b hb).2.1, (fp b hb).2.2.2.2.1, (fp b hb).2.2.2.2.2⟩) (fun b o _ _ hb e _ => kk b o hb e) (fun b o _ _ hb e _ => ⟨o.slots, kk b o hb e⟩) (fun b o hb e n => n)
        (fun b o hb e => ⟨o, kk b o hb e⟩) (fun b q e => e) (fun b o u e => e) (fun b q e => ⟨#[], by rw [e]; simp⟩) (fun m hm => ?_) (fun b u e => ?_) I.bare
    · obtain ⟨o, es', ep, ho, r⟩ := hm
      exact ⟨o, es', ep, kk _ o (fun hb => (fp _ hb).2.1 rfl) ho, r⟩
    · refine (I.hok b u e).stay (fun c o hc' q => kk c o ?_ q) (fun c q => q) fun c q' q => q
      rcases hc' with rfl | hc'
      · exact nt _ _ e
      · exact nt _ _ hc'
  self := fun _ _ _ _ _ st h => wpAny_pyIter_zip st.1 h
def iZip (K : PySem.W.Frag) (ta : TA) : TI := fun σ H R => ta σ H fun vs H1 => ∃ a b, vs = [.ref a, .ref b] ∧ (∃ xs, SqL K H1 a xs) ∧ (∃ ys, SqL K H1 b ys) ∧ R (Itz K a b) H1
theorem pi_zip {X : Cx} {a b : Expr} {ta : TA} {p pos tpos : Pos} {es : List Expr} {k : Nat} (hg : Gl X "zip") (hm : X.mg "zip" = none) (ha : PA X [a, b] ta)
    (hs : starEach [a, b] X.env = [(false, eval a X.env), (false, eval b X.env)] := by rfl) (hs2 : starEach [b] X.env = [(false, eval b X.env)] := by rfl) : PI X (.Tuple es k tpos) (.Call (.Name "zip" p) [a, b] [] pos) (iZip X.K ta) := by
  intro pins s σ H R I h
  refine Call_ (ld_blt I hg hm boot_zip (PyProof.Rows.callWith_type1 (thn (ha pos pins s σ H _ I h) fun us s1 ⟨vs, H1, I1, r1, q1⟩ => ?_) (by rw [hs, hs2]) (by rw [hs2]; rfl)))
  obtain ⟨l1, l2, e, ⟨xs, hx⟩, ⟨ys, hy⟩, q⟩ := q1
  subst e
  cases r1 with
  | cons r rr =>
    cases rr with
    | cons r' rr =>
      cases rr
      cases r
      cases r'
      obtain ⟨its1, v1, p1, z1⟩ := I1.list hx
      obtain ⟨its2, v2, p2, z2⟩ := I1.list hy
      have b1 : l1 < s1.heap.objs.size := by obtain ⟨_, e, _⟩ := p1.isList; exact Heap.lt_size e
      have b2 : l2 < s1.heap.objs.size := by obtain ⟨_, e, _⟩ := p2.isList; exact Heap.lt_size e
      refine call_zip_2 p1.isList p2.isList fun h' hz hTI hTO hi1 hi2 hsz hk => ?_
      have I2 : Inv X pins σ H1 { s1 with heap := h' } := I1.kept (t' := s1.toks) hk
      refine wpAny_pyIter_zip (s := { s1 with heap := h' }) hz ⟨_, _, _, _, H1, rfl, I2, turn_zip l1 l2 _ _ _ _ _ (zipApart_new b1 b2), ⟨hz, hTI, ⟨_, _, hTO⟩, hi1, hi2⟩, fun b hb => ?_, q⟩
      have hb' : s1.heap.objs.size ≤ b := by
        simp only [List.mem_cons, List.not_mem_nil, or_false] at hb
        rcases hb with rfl | rfl | rfl | rfl | rfl
        · exact Nat.le_add_right _ _
        · exact Nat.le_add_right _ _
        · exact Nat.le_add_right _ _
        · exact Nat.le_refl _
        · exact Nat.le_add_right _ _
      exact I1.fpOk hb' (I1.hok.fresh hb')

/-- a comprehension over zip of two lists that stay, of the same length -/
theorem comp_zip {K : PySem.W.Frag} {a b p : Addr} {σ' : St} {g : TG} {tt : TT} {te : TE} {Q : VK} {xs ys : List V} {H1 : Hp} (Sh : St → Prop) (Pv : Nat → List V → Hp → Prop) (s0 : Sh σ') (h0 : Pv 0 [] (upd H1 p (.lst []))) (hlen : xs.length = ys.length) (hn : xs.length < sizeLine)
    (hl : ∀ i zs H, i ≤ xs.length → Pv i zs H → H p = some (.lst zs) ∧ zs.length ≤ i ∧ SqL K H a xs ∧ SqL K H b ys)
    (hs : ∀ i x y t σ zs H, xs[i]? = some x → ys[i]? = some y → Sh σ → Pv i zs H → H t = none → g (.ref t) σ (upd H t (.tup [x, y])) fun σ2 H2 => tt σ2 H2 fun b H3 => if b = true then te σ2 H3 fun v H4 => H4 p = some (.lst zs) ∧ Sh σ2 ∧ Pv (i + 1) (zs ++ [v]) (upd H4 p (.lst (zs ++ [v]))) else Sh σ2 ∧ Pv (i + 1) zs H3)
    (hd : ∀ zs H, Pv xs.length zs H → Q (.ref p) H) : CompGoes p σ' g tt te Q (Itz K a b) H1 := by
  refine ⟨fun i m σ zs H => m = xs.length - i ∧ i ≤ xs.length ∧ Sh σ ∧ Pv i zs H, ⟨xs.length, by simp, Nat.zero_le _, s0, h0⟩, ?_⟩
  rintro i m σ zs H ⟨rfl, hi, sh, pv⟩
  obtain ⟨h1, h2, h3, h4⟩ := hl i zs H hi pv
  refine ⟨h1, by omega, ?_⟩
  by_cases hlt : i < xs.length
  · refine .inr ⟨⟨xs, ys, xs[i], ys[i]'(hlen ▸ hlt), h3, h4, by simp [hlt], by simp [hlen ▸ hlt]⟩, fun σ zs H => Sh σ ∧ Pv (i + 1) zs H, fun σ' zs' H' q => ⟨xs.length - (i + 1), by omega, rfl, hlt, q.1, q.2⟩, fun v H' y => ?_⟩
    obtain ⟨t, ht, rfl, e⟩ := y
    have hx : xs[i]? = some xs[i] := by simp [hlt]
    have hy : ys[i]? = some (ys[i]'(hlen ▸ hlt)) := by simp [hlen ▸ hlt]
    rw [e xs ys _ _ h3 h4 hx hy]
    exact hs i _ _ t σ zs _ hx hy sh pv ht
  · have e : i = xs.length := by omega
    subst e
    exact .inl ⟨⟨xs, ys, h3, h4, .inl (by simp)⟩, hd zs H pv⟩

/-! ### == of lists and tuples of lists and tuples -/
inductive DEq (K : PySem.W.Frag) (H : Hp) : Nat → V → V → Bool → Prop where
  | flat {n : Nat} {x y : V} (hx : flatV x = true) (hy : flatV y = true) : DEq K H n x y (eqV x y)
  | same {n : Nat} (a : Addr) : DEq K H n (.ref a) (.ref a) true
  | tup {n : Nat} {a b : Addr} {xs ys : List V} {e : Nat → Bool} (hab : a ≠ b) (ha : SqT K H a xs) (hb : SqT K H b ys) (he : ∀ j x y, xs[j]? = some x → ys[j]? = some y → DEq K H n x y (e j)) :
      DEq K H (n + 1) (.ref a) (.ref b) ((List.range (min xs.length ys.length)).all e && xs.length == ys.length)
  | lst {n : Nat} {a b : Addr} {xs ys : List V} {e : Nat → Bool} (hab : a ≠ b) (ha : SqL K H a xs) (hb : SqL K H b ys) (hl : xs.length = ys.length) (he : ∀ j x y, xs[j]? = some x → ys[j]? = some y → DEq K H n x y (e j)) :
      DEq K H (n + 1) (.ref a) (.ref b) ((List.range xs.length).all e)
  | lne {n : Nat} {a b : Addr} {xs ys : List V} (hab : a ≠ b) (ha : SqL K H a xs) (hb : SqL K H b ys) (hl : xs.length ≠ ys.length) : DEq K H (n + 1) (.ref a) (.ref b) false
section
variable {X : Cx} {pins : List (Addr × Obj)} {σ : St} {H : Hp} {s : Shared}
theorem in1_units (A : Around) : A.in1.units = A.units + 1 := rfl
theorem DEq.at {n : Nat} {x y : V} {c : Bool} (d : DEq X.K H n x y c) (I : Inv X pins σ H s) : ∀ {A : Around} {u v : Value}, A.units + n < cLine → RelV x u → RelV y v → SeqAt.EqAt A s u v c := by
  induction d with
  | flat hx hy => exact fun _ rx ry => eqAt_V rx ry hx hy
  | same a => intro A u v _ rx ry; cases rx; cases ry; exact SeqAt.EqAt.same _
  | @tup n a b xs ys e hab ha hb he ih =>
    intro A u v hu rx ry
    cases rx
    cases ry
    obtain ⟨its1, r1, p1, z1⟩ := I.tuple ha
    obtain ⟨its2, r2, p2, z2⟩ := I.tuple hb
    have l1 := r1.length
    have l2 := r2.length
    have := SeqAt.RcAt.tuples (A := A) (s := s) (e := e) p1 p2 (by omega) (fun j h1 h2 => ?_)
    · rw [List.size_toArray, List.size_toArray, ← l1, ← l2] at this
      exact SeqAt.EqAt.of_refs hab this
    · have h1' : j < its1.length := by simpa using h1
      have h2' : j < its2.length := by simpa using h2
      obtain ⟨x', hx'⟩ : ∃ x', xs[j]? = some x' := ⟨_, List.getElem?_eq_getElem (l1 ▸ h1')⟩
      obtain ⟨y', hy'⟩ : ∃ y', ys[j]? = some y' := ⟨_, List.getElem?_eq_getElem (l2 ▸ h2')⟩
      obtain ⟨u1, hu1, ru1⟩ := r1.get hx'
      obtain ⟨u2, hu2, ru2⟩ := r2.get hy'
      have g1 : its1.toArray[j] = u1 := by simpa [List.getElem?_eq_getElem h1'] using hu1
      have g2 : its2.toArray[j] = u2 := by simpa [List.getElem?_eq_getElem h2'] using hu2
      rw [g1, g2]
      exact ih j x' y' hx' hy' (by rw [in1_units]; omega) ru1 ru2
  | @lst n a b xs ys e hab ha hb hl he ih =>
    intro A u v hu rx ry
    cases rx
    cases ry
    obtain ⟨its1, r1, p1, z1⟩ := I.list ha
    obtain ⟨its2, r2, p2, z2⟩ := I.list hb
    have l1 := r1.length
    have l2 := r2.length
    have := SeqAt.RcAt.lists (A := A) (s := s) (e := e) p1.isList p2.isList (by rw [List.size_toArray, List.size_toArray]; omega) (by omega) (fun j h1 h2 => ?_)
    · rw [List.size_toArray, ← l1] at this
      exact SeqAt.EqAt.of_refs hab this
    · have h1' : j < its1.length := by simpa using h1
      have h2' : j < its2.length := by simpa using h2
      obtain ⟨x', hx'⟩ : ∃ x', xs[j]? = some x' := ⟨_, List.getElem?_eq_getElem (l1 ▸ h1')⟩
      obtain ⟨y', hy'⟩ : ∃ y', ys[j]? = some y' := ⟨_, List.getElem?_eq_getElem (l2 ▸ h2')⟩
      obtain ⟨u1, hu1, ru1⟩ := r1.get hx'
      obtain ⟨u2, hu2, ru2⟩ := r2.get hy'
      have g1 : its1.toArray[j] = u1 := by simpa [List.getElem?_eq_getElem h1'] using hu1
      have g2 : its2.toArray[j] = u2 := by simpa [List.getElem?_eq_getElem h2'] using hu2
      rw [g1, g2]
      exact ih j x' y' hx' hy' (by rw [in1_units]; omega) ru1 ru2
  | lne hab ha hb hl =>
    intro A u v hu rx ry
    cases rx
    cases ry
    obtain ⟨its1, r1, p1, z1⟩ := I.list ha
    obtain ⟨its2, r2, p2, z2⟩ := I.list hb
    have l1 := r1.length
    have l2 := r2.length
    exact SeqAt.EqAt.of_refs hab (SeqAt.RcAt.lists_lengths p1.isList p2.isList (by rw [List.size_toArray, List.size_toArray, ← l1, ← l2]; simpa using hl) (by omega))
end
/-- a == b, a != b of two lists whose items are told apart by e -/
def rEqL (K : PySem.W.Frag) (neg : Bool) : R2 := fun x y H Q => ∃ a b xs ys e, x = .ref a ∧ y = .ref b ∧ SqL K H a xs ∧ SqL K H b ys ∧ (∀ j x y, xs[j]? = some x → ys[j]? = some y → DEq K H 3 x y (e j)) ∧
  Q (.bl (neg ^^ (xs.length == ys.length && (List.range xs.length).all e))) H
theorem op_eqL {X : Cx} (hu : X.A.units + 64 < cLine) : OpR X (compareOp .Eq) (rEqL X.K false) := by
  intro pins s σ H x y v u Q I rx ry h
  obtain ⟨a, b, xs, ys, e, rfl, rfl, ha, hb, he, q⟩ := h
  cases rx
  cases ry
  obtain ⟨its1, r1, p1, z1⟩ := I.list ha
  obtain ⟨its2, r2, p2, z2⟩ := I.list hb
  have l1 := r1.length
  have l2 := r2.length
  rw [Bool.false_xor] at q
  by_cases hl : xs.length = ys.length
  · have hb : (xs.length == ys.length) = true := by simpa using hl
    rw [hb, Bool.true_and] at q
    refine SeqAt.eq_listAt (e := e) p1.isList p2.isList (by rw [List.size_toArray, List.size_toArray]; omega) (by omega) (fun j h1 h2 => ?_) ⟨.bl _, H, I, rfl, ?_⟩
    · have h1' : j < its1.length := by simpa using h1
      have h2' : j < its2.length := by simpa using h2
      obtain ⟨x', hx'⟩ : ∃ x', xs[j]? = some x' := ⟨_, List.getElem?_eq_getElem (l1 ▸ h1')⟩
      obtain ⟨y', hy'⟩ : ∃ y', ys[j]? = some y' := ⟨_, List.getElem?_eq_getElem (l2 ▸ h2')⟩
      obtain ⟨u1, hu1, ru1⟩ := r1.get hx'
      obtain ⟨u2, hu2, ru2⟩ := r2.get hy'
      have g1 : its1.toArray[j] = u1 := by simpa [List.getElem?_eq_getElem h1'] using hu1
      have g2 : its2.toArray[j] = u2 := by simpa [List.getElem?_eq_getElem h2'] using hu2
      rw [g1, g2]
      exact (he j x' y' hx' hy').at I (by rw [in1_units]; omega) ru1 ru2
    · rw [List.size_toArray, ← l1]; exact q
  · have hb : (xs.length == ys.length) = false := by simpa using hl
    rw [hb, Bool.false_and] at q
    exact SeqAt.eq_list_lengthsAt p1.isList p2.isList (by rw [List.size_toArray, List.size_toArray, ← l1, ← l2]; simpa using hl) (by omega) ⟨.bl _, H, I, rfl, q⟩
theorem op_neL {X : Cx} (hu : X.A.units + 64 < cLine) : OpR X (compareOp .NotEq) (rEqL X.K true) := by
  intro pins s σ H x y v u Q I rx ry h
  obtain ⟨a, b, xs, ys, e, rfl, rfl, ha, hb, he, q⟩ := h
  cases rx
  cases ry
  obtain ⟨its1, r1, p1, z1⟩ := I.list ha
  obtain ⟨its2, r2, p2, z2⟩ := I.list hb
  have l1 := r1.length
  have l2 := r2.length
  rw [Bool.true_xor] at q
  by_cases hl : xs.length = ys.length
  · have hb : (xs.length == ys.length) = true := by simpa using hl
    rw [hb, Bool.true_and] at q
    refine SeqAt.RcNeAt.lists (A := X.A) (s := s) (e := e) p1.isList p2.isList (by rw [List.size_toArray, List.size_toArray]; omega) (by omega) (fun j h1 h2 => ?_) X.prog X.w X.xe _ ⟨.bl _, H, I, rfl, ?_⟩
    · have h1' : j < its1.length := by simpa using h1
      have h2' : j < its2.length := by simpa using h2
      obtain ⟨x', hx'⟩ : ∃ x', xs[j]? = some x' := ⟨_, List.getElem?_eq_getElem (l1 ▸ h1')⟩
      obtain ⟨y', hy'⟩ : ∃ y', ys[j]? = some y' := ⟨_, List.getElem?_eq_getElem (l2 ▸ h2')⟩
      obtain ⟨u1, hu1, ru1⟩ := r1.get hx'
      obtain ⟨u2, hu2, ru2⟩ := r2.get hy'
      have g1 : its1.toArray[j] = u1 := by simpa [List.getElem?_eq_getElem h1'] using hu1
      have g2 : its2.toArray[j] = u2 := by simpa [List.getElem?_eq_getElem h2'] using hu2
      rw [g1, g2]
      exact (he j x' y' hx' hy').at I (by rw [in1_units]; omega) ru1 ru2
    · rw [List.size_toArray, ← l1]; exact q
  · have hb : (xs.length == ys.length) = false := by simpa using hl
    rw [hb, Bool.false_and] at q
    exact SeqAt.RcNeAt.lists_lengths (A := X.A) (s := s) p1.isList p2.isList (by rw [List.size_toArray, List.size_toArray, ← l1, ← l2]; simpa using hl) (by omega) X.prog X.w X.xe _ ⟨.bl _, H, I, rfl, q⟩
/-- x in, not in a list whose items are told apart from x by e -/
def rInD (K : PySem.W.Frag) (neg : Bool) : R2 := fun x y H Q => ∃ p xs, ∃ e : V → Bool, y = .ref p ∧ SqL K H p xs ∧ (∀ z ∈ xs, DEq K H 3 z x (e z)) ∧ Q (.bl (neg ^^ xs.any e)) H
def absE (e : V → Bool) (u : Value) : Bool := match absV u with
  | some z => e z
  | none => false
theorem absE_of {e : V → Bool} {z : V} {u : Value} (r : RelV z u) : absE e u = e z := by
  unfold absE
  rw [r.abs]
theorem any_absE {e : V → Bool} : ∀ {xs : List V} {us : List Value}, Vals xs us → us.any (absE e) = xs.any e
  | _, _, .nil => rfl
  | y :: xs, u :: us, .cons r t => by rw [List.any_cons, List.any_cons, absE_of r, any_absE t]
theorem Vals.back : ∀ {xs : List V} {us : List Value}, Vals xs us → ∀ u ∈ us, ∃ z ∈ xs, RelV z u
  | _, _, .nil, u, hu => nomatch hu
  | y :: xs, w :: us, .cons r t, u, hu => by
    rcases List.mem_cons.mp hu with rfl | hu
    · exact ⟨y, by simp, r⟩
    · obtain ⟨z, hz, q⟩ := Vals.back t u hu
      exact ⟨z, by simp [hz], q⟩
theorem op_notInD {X : Cx} (hu : X.A.units + 64 < cLine) : OpR X (compareOp .NotIn) (rInD X.K true) := by
  intro pins s σ H x y v u Q I rx ry h
  obtain ⟨p, xs, e, rfl, hp, he, q⟩ := h
  cases ry
  obtain ⟨its, r, pl, z⟩ := I.list hp
  rw [Bool.true_xor] at q
  refine SeqAt.notIn_listAt (absE e) pl.isList (fun w hw => ?_) ⟨.bl _, H, I, rfl, ?_⟩
  · obtain ⟨z, hz, rz⟩ := r.back w (by simpa using hw)
    rw [absE_of rz]
    exact (he z hz).at I (by rw [in1_units]; omega) rz rx
  · rw [show its.toArray.any (absE e) = its.any (absE e) by simp, any_absE r]
    exact q

/-! ### list(d): the keys -/
theorem keys_vals {P : Program} {w : World} {kvs : List (Key × V)} {vs : List (Key × Value)} (c : KV kvs vs) : ∀ {us : List Value}, us.length = vs.length → (∀ (j : Nat) (v : Value), us[j]? = some v → ∃ k x, vs[j]? = some (k, x) ∧ (mixKind P w).is k v = true) → Vals (kvs.map fun kv => kV kv.1) us := by
  induction c with
  | nil =>
    intro us hl h
    cases us with
    | nil => exact .nil
    | cons u us => simp at hl
  | cons r t ih =>
    rename_i kx kx' _ _
    intro us hl h
    cases us with
    | nil => simp at hl
    | cons u us =>
      refine .cons ?_ (ih (by simpa using hl) fun j v hj => by simpa using h (j + 1) v (by simpa using hj))
      obtain ⟨k2, x2, e, hk⟩ := h 0 u rfl
      have e' : kx' = (k2, x2) := by simpa using e
      have : kx.1 = kx'.1 := r.1
      rw [e'] at this
      show RelV (kV kx.1) u
      rw [this]
      rcases keyIs_shape hk with ⟨i, t, e1, rfl⟩ | ⟨y, t, e1, rfl⟩
      · show RelV (kV k2) _
        rw [e1]
        exact ⟨t, rfl⟩
      · show RelV (kV k2) _
        rw [e1]
        exact ⟨t, rfl⟩
theorem call_list_dict {X : Cx} (hc : X.calm = true) : CallR X (.type "list") (fun xs H Q => ∃ d kvs, xs = [.ref d] ∧ H d = some (.dK kvs) ∧ ∀ l, H l = none → Q (.ref l) (upd H l (.lst (kvs.map fun kv => kV kv.1)))) := by
  intro pins s σ H xs us Q I r h
  obtain ⟨d, kvs, rfl, hd, q⟩ := h
  obtain ⟨u, rfl, rx⟩ := vals1 r
  cases rx
  obtain ⟨hz, hlo, vs, rel, hD⟩ := dk_of I.hok hd
  obtain ⟨ep, hat⟩ := hD.dictAt
  have hlen := rel.length
  refine PySem.W.kdl_call (PySem.W.kdl_dict (knd := mixKind X.prog X.w) (kvs := vs) (ep := ep) hlo) (I.ok.hd hc) hat (by omega) fun h' tk acc' c' hk hS hacc => ?_
  have hvals : Vals (kvs.map fun kv => kV kv.1) acc'.toList := by
    obtain ⟨ha1, ha2⟩ := hacc
    exact keys_vals rel (by rw [Array.length_toList]; exact ha1) fun j v hj => ha2 j v (by rw [← Array.getElem?_toList]; exact hj)
  exact ⟨.ref s.heap.objs.size, _, I.laid (t' := tk) hk (Nat.le_refl _) (show ObjOk X.prog X.w _ h' _ (.lst _) from ⟨by rw [List.length_map]; exact hz, acc'.toList, c', hvals, by simpa using hS⟩), rfl, q _ (I.hok.fresh (Nat.le_refl _))⟩

/-! ### isinstance -/
/-- the class that is asked of -/
def clsV : V → Option Value
  | .ty n => some (.type n)
  | .ref C => some (.ref C)
  | _ => none
theorem clsV_of {c : V} {u t : Value} (h : clsV c = some t) (r : RelV c u) : u = t := by
  cases c with
  | ty n => cases h; exact r
  | ref C => cases h; exact r
  | _ => cases h
theorem call_isinst {X : Cx} : CallR X (.builtin "isinstance") (fun xs H Q => ∃ x cV t c b, xs = [x, cV] ∧ TyOf X.K H x t ∧ clsV cV = some c ∧ PySem.W.kitOne X.K t c = some b ∧ Q (.bl b) H) := by
  intro pins s σ H xs us Q I r h
  obtain ⟨x, cV, t, c, b, rfl, ty, rc, hk, q⟩ := h
  obtain ⟨u, w', rfl, ru, rw'⟩ := vals2 r
  have : w' = c := clsV_of rc rw'
  subst this
  exact isinst_ok I ru ty hk fun tk => ⟨.bl b, H, I.tok tk, rfl, q⟩
end L2
namespace L2
open PySem PySem.Spec PyProof.Rows
theorem bt_int : bootBuiltins "int" = some (.type "int") := by decide +kernel
theorem bt_bool : bootBuiltins "bool" = some (.type "bool") := by decide +kernel
theorem bt_str : bootBuiltins "str" = some (.type "str") := by decide +kernel
theorem bt_list : bootBuiltins "list" = some (.type "list") := by decide +kernel
theorem bt_tuple : bootBuiltins "tuple" = some (.type "tuple") := by decide +kernel
theorem bt_ValueError : bootBuiltins "ValueError" = some (.type "ValueError") := by decide +kernel
theorem bt_isinstance : bootBuiltins "isinstance" = some (.builtin "isinstance") := by decide +kernel
/-! ### a def, a method, a class of the text, with its promise -/
structure FnG (P : Program) (w : World) (K : PySem.W.Frag) (mg : Str → Option Value) (base : Heap) (x : Str) (k : Nat) (ps : List Str) (sp : Sp) : Prop where
  ex : ∃ f fd, mg x = some (.ref f) ∧ PySem.W.keepIn K (.ref f) = true ∧ Binds K fd ps [] ∧ FnOk P w K mg base CX0 k f fd ps sp
structure MtG (P : Program) (w : World) (K : PySem.W.Frag) (mg : Str → Option Value) (base : Heap) (C : Addr) (m : Str) (k : Nat) (ps : List Str) (sp : Sp) : Prop where
  ex : ∃ f fd, Meth K C m f ∧ Binds K fd ps [] ∧ FnOk P w K mg base CX0 k f fd ps sp
structure MkG (P : Program) (w : World) (K : PySem.W.Frag) (mg : Str → Option Value) (base : Heap) (x : Str) (C : Addr) (k : Nat) (ps : List Str) (sp : Sp) : Prop where
  ex : ∃ f fd, mg x = some (.ref C) ∧ Mk K C f ∧ Binds K fd ps [] ∧ FnOk P w K mg base CX0 k f fd ps sp
section
variable {X : Cx} {x m : Str} {k : Nat} {ps : List Str} {sp : Sp} {C : Addr} {p pos apos : Pos} {e o : Expr} {es : List Expr} {ta : TE} {t : TA}
theorem pe_callG (c : FnG X.prog X.w X.K X.mg X.base x k ps sp) (hr : Room k X.A) (hg : Gl X x) (ha : PA X (e :: es) t) (hdb : (x == ("__debug__" : Str)) = false := by decide)
    (he : starEach (e :: es) X.env = (false, eval e X.env) :: starEach es X.env := by rfl) (hpl : (backTo pos (starEach es X.env)).any (·.1) = false := by rfl) : PE X (.Call (.Name x p) (e :: es) [] pos) (tCall sp [] E0 t) := by
  obtain ⟨f, fd, g, kp, b, G⟩ := c.ex
  exact pe_call G hr hg g kp b .nil pass0 ha hdb he hpl
theorem pe_methG {pl : Sem Bool} (he : PE X o ta) (cl : Cls X.K C) (c : MtG X.prog X.w X.K X.mg X.base C m k ps sp) (hr : Room k X.A) (ha : PA X (e :: es) t)
    (hst : starEach (e :: es) X.env = (false, eval e X.env) :: starEach es X.env := by rfl) (hpl : (backTo pos (starEach es X.env)).any (·.1) = false := by rfl)
    (ht : eval (.Call (.Attribute o m apos) (e :: es) [] pos) X.env = (do
      let ov ← eval o X.env
      standAt apos.atName
      let (f, first) ← holding [ov] (getMethod ov m pl)
      callWith pos f first (backTo pos (starEach (e :: es) X.env)) (backToKw pos (keywordEach [] X.env))) := by rfl) : PE X (.Call (.Attribute o m apos) (e :: es) [] pos) (tMeth C m sp [] E0 ta t) := by
  obtain ⟨f, fd, mt, b, G⟩ := c.ex
  exact pe_meth he cl mt G hr b .nil pass0 ha hst hpl ht
theorem pe_methG0 {pl : Sem Bool} (he : PE X o ta) (cl : Cls X.K C) (c : MtG X.prog X.w X.K X.mg X.base C m k ps sp) (hr : Room k X.A)
    (ht : eval (.Call (.Attribute o m apos) [] [] pos) X.env = (do
      let ov ← eval o X.env
      standAt apos.atName
      let (f, first) ← holding [ov] (getMethod ov m pl)
      callWith pos f first (backTo pos (starEach [] X.env)) (backToKw pos (keywordEach [] X.env))) := by rfl) : PE X (.Call (.Attribute o m apos) [] [] pos) (tMeth C m sp [] E0 ta tNil) := by
  obtain ⟨f, fd, mt, b, G⟩ := c.ex
  exact pe_meth0 he cl mt G hr b .nil pass0 ht
theorem pe_makeG (c : MkG X.prog X.w X.K X.mg X.base x C k ps sp) (hr : Room (k + 1) X.A) (hg : Gl X x) (ha : PA X (e :: es) t) (hdb : (x == ("__debug__" : Str)) = false := by decide)
    (he : starEach (e :: es) X.env = (false, eval e X.env) :: starEach es X.env := by rfl) (hpl : (backTo pos (starEach es X.env)).any (·.1) = false := by rfl) : PE X (.Call (.Name x p) (e :: es) [] pos) (tMake C sp [] E0 t) := by
  obtain ⟨f, fd, g, M, b, G⟩ := c.ex
  exact pe_make M G hr hg g b .nil pass0 ha hdb he hpl
theorem pe_globI {i : Int} (hg : Gl X x) (h : ∃ t, X.mg x = some (.int i t)) (hd : (x == ("__debug__" : Str)) = false := by decide) : PE X (.Name x pos) (tC (.int i)) := by
  obtain ⟨t, h⟩ := h
  exact pe_glob hg h ⟨t, rfl⟩ hd
/-! ### the rules with the text's facts named: for a comprehension's block -/
theorem pg_tupK {K : PySem.W.Frag} {tgs : List Expr} {kk : Nat} {tt : TGs} {n : Nat} (hK : X.K = K) (hc : X.calm = true) (h : PGs X tgs tt) (hn : (assignEach tgs X.env).length = n := by rfl) (hst : (assignEach tgs X.env).findIdx? (·.1) = none := by rfl) : PG X (.Tuple tgs kk pos) (gTup K n tt) := by
  subst hK
  exact pg_tup hc h hn hst
theorem ix_listK {K : PySem.W.Frag} (hK : X.K = K) : IxR X (rIxL K) := by
  subst hK
  exact ix_list
theorem call_tuple_ofK {K : PySem.W.Frag} (hK : X.K = K) : CallR X (.type "tuple") (fun xs H Q => ∃ p ys, xs = [.ref p] ∧ ((SqL K H p ys ∧ ∀ l, H l = none → Q (.ref l) (upd H l (.tup ys))) ∨ (SqT K H p ys ∧ Q (.ref p) H))) := by
  subst hK
  exact call_tuple_of
/-! ### a word between two statements -/
def tMid (t : TS) : TS := fun D σ H => ∃ I : St → Hp → Prop, t { D with nx := I } σ H ∧ ∀ σ' H', I σ' H' → D.nx σ' H'
theorem ps_mid {st : Stmt} {t : TS} (h : PS X st t) : PS X st (tMid t) := by
  rintro pins s σ H D I ⟨J, q, hJ⟩
  refine thn (h pins s σ H _ I q) fun f s' z => ?_
  cases f with
  | next => obtain ⟨σ', H', I', n⟩ := z; exact ⟨σ', H', I', hJ _ _ n⟩
  | brk => exact z
  | cont => exact z
  | ret v => exact z
end
end L2
namespace PySem.W
open PySem PySem.Spec PySem.Calls PyProof.Rows PySem.Builtin PySem.Builtin.ObjectAttr PySem.Builtin.Getset_descriptor
section
variable {prog : Program} {w : World} {A : Around} {E : Value → Shared → Prop} {s : Shared} {K : Frag} {x D : Addr}
/-- x is an object of the class at D -/
def OfCls (h : Heap) (x D : Addr) : Prop := ∃ o, h.get? x = some o ∧ o.cls = .ref D
theorem OfCls.type {M : Model} {h : Heap} (I : OfCls h x D) : Looks M h (typeOf (.ref x)) (.ref D) := by
  obtain ⟨o, e, c⟩ := I
  rw [← c]
  exact (Looks.ld e).andThen .now
/-- what of an own exception class e.__class__ leans on -/
structure ExcK (K : Frag) (D : Addr) : Prop where
  ga : findIn K (.ref D) "__getattribute__" = some (some (.builtin "BaseException.__getattribute__"))
  gn : findIn K (.ref D) "__getattr__" = some none
  cl : findIn K (.ref D) "__class__" = some (some (.builtin "object.__class__"))
  gt : specialIn K (.builtin "object.__class__") "__get__" = some (some (.builtin "getset_descriptor.__get__"))
  tk : takesIn K (.builtin "object.__class__") = some true
  ob : mroIn K D (.type "object") = some true
  be : mroIn K D (.type "BaseException") = some true
  is : (clsIn K D).isSome = true
theorem exc_find {M : Model} {h : Heap} (X : K.In h) (C : ExcK K D) : Looks M h (find (.ref x) (.ref D) "__class__") (.bind (.builtin "getset_descriptor.__get__") (.builtin "object.__class__")) := by
  have z1 := looks_findIn (M := M) X C.cl
  have z2 : Looks M h (getOf (some (.builtin "object.__class__"))) (some (.builtin "getset_descriptor.__get__")) := looks_specialIn X C.gt
  have z3 := looks_takesIn (M := M) X C.tk
  have z4 : Looks M h (dataDescriptor? (some (.builtin "object.__class__")) (some (.builtin "getset_descriptor.__get__"))) (some (.builtin "getset_descriptor.__get__", .builtin "object.__class__")) := z3.andThen .now
  exact z1.andThen (z2.andThen (z4.andThen (Looks.tag .now)))
theorem exc_get {R : Result → Shared → Prop} (X : K.In s.heap) (I : OfCls s.heap x D) (C : ExcK K D) (h : R (.ok (.ret (.ref D))) s) :
    codeAny (model prog w) A (.call (.builtin "getset_descriptor.__get__") ⟨[.builtin "object.__class__", .ref x, .ref D], []⟩) R s := by
  obtain ⟨h0, g0, d0, t0, o0⟩ := s
  have z0 := I.type (M := model prog w); have z1 := looks_mroIn (M := model prog w) X C.ob
  refine codeAny_call_builtin KF.slot_gs.plain KF.entry_gs ?_
  refine KF.slot_gs.check _ _ _ _ _ _ _ _ KF.type_class (KF.args_gs _ _ _) ?_
  unfold Builtin.«getset_descriptor.__get__» descrGet; rw [dga_obj]
  refine wpAny_bind (wpAny_pure ?_); unfold descrGetter descrCheckInstance descrNameAndClass isInstance
  simp only [KF.owner_class]; (repeat lk)
  refine ⟨Code.quiet_builtin _ (by decide +kernel), ?_⟩
  refine codeAny_builtin KF.entry_class ?_
  unfold Builtin.«object.__class__» shownTypeOf; (repeat lk)
  exact h
theorem exc_entry {tk : Tok} {Q : Fin → Shared → Prop} (X : K.In s.heap) (I : OfCls s.heap x D) (C : ExcK K D) (hq : Q (.done (.ret (.ref D))) s) :
    wpAny (model prog w) A (Builtin.«object.__getattribute__» ⟨[.ref x, .str "__class__" tk], []⟩) Q E s := by
  obtain ⟨h0, g0, d0, t0, o0⟩ := s
  have z0 := I.type (M := model prog w)
  have z1 := exc_find (M := model prog w) (x := x) X C
  refine wpAny_bind (wpAny_pure (wpAny_bind (wpAny_pure (wpAny_bind (z0.at (wpAny_bind (z1.at ?_)))))))
  show wpAny _ _ (holding [_] (call (.builtin "getset_descriptor.__get__") [.builtin "object.__class__", .ref x, .ref D]) >>= ret) _ _ _
  exact wpAny_bind (wpAny_holding (wpAny_call (exc_get X I C (wpAny_pure hq))))
theorem exc_check {nameV : Value} {Q : Unit → Shared → Prop} (X : K.In s.heap) (I : OfCls s.heap x D) (C : ExcK K D) (hq : Q () s) : wpAny (model prog w) A (checkBuiltinCall "BaseException.__getattribute__" ⟨[.ref x, nameV], []⟩) Q E s := by
  have y1 : builtinKind "BaseException.__getattribute__" = some .slot := by decide +kernel
  have y2 : splitId "BaseException.__getattribute__" = some ("BaseException", "__getattribute__") := by decide +kernel
  have y3 := F.args_bexc_ga (.ref x) nameV
  obtain ⟨h0, g0, d0, t0, o0⟩ := s
  have z2 : Looks (model prog w) h0 (isInstance (.ref x) (.type "BaseException")) true := (I.type (M := model prog w)).andThen (looks_mroIn X C.be)
  simp only [checkBuiltinCall, y1, y2]
  refine wpAny_bind (z2.at ?_)
  repeat wp_step
  exact hq
theorem exc_call {tk : Tok} {R : Result → Shared → Prop} (X : K.In s.heap) (I : OfCls s.heap x D) (C : ExcK K D) (hq : R (.ok (.ret (.ref D))) s) :
    codeAny (model prog w) A (.call (.builtin "BaseException.__getattribute__") ⟨[.ref x, .str "__class__" tk], []⟩) R s :=
  codeAny_call_builtin (by decide +kernel) F.entry_bexc_ga (exc_check X I C (exc_entry X I C hq))
theorem exc_by {tk : Tok} {Q : Value → Shared → Prop} (X : K.In s.heap) (I : OfCls s.heap x D) (C : ExcK K D) (hq : Q (.ref D) s) : wpAny (model prog w) A (getAttrBy (.ref x) (.str "__class__" tk) false) Q E s := by
  obtain ⟨h0, g0, d0, t0, o0⟩ := s
  have z0 := I.type (M := model prog w)
  have z1 := looks_findIn (M := model prog w) X C.ga
  have z2 := looks_findIn (M := model prog w) X C.gn
  have y2 : (Value.builtin "BaseException.__getattribute__" == Value.builtin "object.__getattribute__") = false := by decide +kernel
  have y1 : (onTheHeap (Value.ref D) && Value.builtin "BaseException.__getattribute__" == Value.builtin "object.__getattribute__") = false := by rw [y2]; rfl
  have y3 := F.attr_ValueError.ga.bind (.ref x)
  unfold getAttrBy
  refine wpAny_holding (wpAny_bind (z0.at (wpAny_bind (z1.at ?_))))
  dsimp only
  rw [y1, if_neg Bool.false_ne_true]
  unfold getAttrByItsOwn hookBefore
  refine wpAny_bind (z2.at (wpAny_bind (wpAny_attempt (wpAny_holding ?_))))
  show wpAny _ _ (boundAndCalled _ _ _) _ _ _
  unfold boundAndCalled
  exact wpAny_bind (wpAny_of_eq y3 (wpAny_call (exc_call X I C (wpAny_pure hq))))
theorem exc_class {Q : Option Value → Shared → Prop} (X : K.In s.heap) (I : OfCls s.heap x D) (C : ExcK K D) (h : Q (some (.ref D)) { s with toks := s.toks + 1 }) : wpAny (model prog w) A (getAttr? (.ref x) "__class__") Q E s := by
  unfold getAttr? getAttrBy?
  refine wpAny_bind (wpAny_mkText (wpAny_bind (wpAny_attempt ?_)))
  exact exc_by (s := { s with toks := s.toks + 1 }) X I C (wpAny_pure h)
/-- the class's own object -/
theorem cls_obj (C : ExcK K D) : ∃ c0 d0 e0 f0, K.lookup D = some ⟨c0, d0, .cls e0, f0⟩ := by
  obtain ⟨cd, h⟩ := Option.isSome_iff_exists.mp C.is
  unfold clsIn at h
  split at h
  · rename_i q0
    exact ⟨_, _, _, _, q0⟩
  · cases h
theorem kitx_exc (C : ExcK K D) : KitX K (.ref x) (.ref D) (fun h => OfCls h x D) where
  ty := fun _ _ _ I => I.type
  it := fun M h X _ => by
    obtain ⟨_, _, _, _, q0⟩ := cls_obj C
    intro A' Q' E' s' k0 q1
    unfold isType loadHead
    refine wpAny_bind (wpAny_loadPart (k0 D _ (X D _ q0)) ?_)
    exact wpAny_pure q1
  ne := fun h tp dd its n sl X htp => by
    obtain ⟨_, _, _, _, q0⟩ := cls_obj C
    cases q1 : (Value.ref D == Value.ref tp) with
    | false => rfl
    | true =>
      have q2 : D = tp := by simpa using q1
      subst q2
      rw [X D _ q0] at htp
      cases htp
  ca := fun X I k => exc_class X I C k
end
end PySem.W
namespace L2
open PySem PySem.Spec PyProof.Rows
/-! ### an exception that is known by its class -/
def excO (a C : Addr) : HO := .ext fun h => PySem.W.OfCls h a C
theorem excO_ok {P : Program} {w : World} {H : Hp} {h : Heap} {a C : Addr} (h0 : PySem.W.OfCls h a C) : ObjOk P w H h a (excO a C) :=
  ⟨h0, ⟨_, h0.choose_spec.1⟩, fun h1 h2 ⟨o, e, c⟩ k => ⟨o, k o e, c⟩⟩
theorem call_isinstE {X : Cx} : CallR X (.builtin "isinstance") (fun xs H Q => ∃ a D cV c b, xs = [.ref a, cV] ∧ H a = some (excO a D) ∧ PySem.W.ExcK X.K D ∧ clsV cV = some c ∧ PySem.W.kitOne X.K (.ref D) c = some b ∧ Q (.bl b) H) := by
  intro pins s σ H xs us Q I r h
  obtain ⟨a, D, cV, c, b, rfl, ha, ck, rc, hk, q⟩ := h
  obtain ⟨u, w', rfl, ru, rw'⟩ := vals2 r
  have : w' = c := clsV_of rc rw'
  subst this
  cases ru
  have ok : ObjOk X.prog X.w H s.heap a (excO a D) := I.hok a _ ha
  exact PySem.W.kia_one (PySem.W.kitx_exc ck) I.kIn ok.1 hk (fun z => nomatch z) fun tk => ⟨.bl b, H, I.tok tk, rfl, q⟩
theorem ObjOk.ex {P : Program} {w : World} {H : Hp} {h : Heap} {a : Addr} {o : HO} (x : ObjOk P w H h a o) : ∃ ob, h.get? a = some ob := by
  cases o with
  | lst xs => obtain ⟨_, _, _, _, e⟩ := x; exact ⟨_, e⟩
  | tup xs => obtain ⟨_, _, _, o, e, _⟩ := x; exact ⟨_, e⟩
  | dK kvs => obtain ⟨_, _, _, _, o, _, _, e, _⟩ := x; exact ⟨_, e⟩
  | dT kvs => obtain ⟨_, _, _, _, o, _, _, e, _⟩ := x; exact ⟨_, e⟩
  | set S n => obtain ⟨o, _, _, _, e, _⟩ := x; exact ⟨_, e⟩
  | ins C dx fs => obtain ⟨_, _, _, e, _⟩ := x; exact ⟨_, e⟩
  | own y => exact x
  | xd fs => obtain ⟨_, ⟨_, _, _, e, _⟩, _⟩ := x; exact ⟨_, e⟩
  | rng lo hi => obtain ⟨_, _, _, e⟩ := x; exact ⟨_, e⟩
  | frz ob u => obtain ⟨e, _⟩ := x; exact ⟨_, e⟩
  | tbl ps => exact ⟨_, show h.get? a = some _ from x⟩
  | met f y => exact ⟨_, show h.get? a = some _ from x⟩
  | ext φ => exact x.2.1
/-- how an exception of the text's own class lies behind a call -/
def CX1 (P : Program) (w : World) : CXT := fun outer H s E e s' => ∃ (a C : Addr) (a0 : Value) (B : Heap) (H' : Hp), e = .ref a ∧ s.heap.get? a = none ∧ s'.os = s.os ∧ AllBare s'.gens ∧ Heap.FlyingW B outer a (.ref C) a0 s'.heap ∧
  Un (frs outer) [] H H' s.heap s'.heap ∧ HOk P w H' s'.heap ∧ (∀ b o, H' b = some o → ∃ ob, B.get? b = some ob) ∧ (∀ b o, s.heap.get? b = some o → b ∉ frs outer → ∃ ob, B.get? b = some ob) ∧ E (.ref C) none H'
theorem mem_frs {l : List Env} {env : Env} {a : Addr} (he : env ∈ l) (hf : env.frame = some a) : a ∈ frs l := List.mem_filterMap.mpr ⟨env, he, hf⟩
section
variable {P : Program} {w : World} {K : PySem.W.Frag} {mg : Str → Option Value} {base : Heap} {N : List Str} {qual : Str} {scope : Scope} {f : Addr} {cd : Value} {A : Around} {outer : List Env} {s : Shared} {H : Hp} {E : XK}
/-- what is left when a frame is left: the state in the def, the heap behind it -/
theorem left_frame {CX : CXT} {pins : List (Addr × Obj)} {σ : St} {H1 H2 : Hp} {s1 : Shared} {h1 h2 B : Heap} (I : Inv (cxOf CX P w K mg base N qual scope f cd A outer s H E) pins σ H1 s1)
    (un : Un (frs (envOfC qual scope s.heap.objs.size f cd :: outer)) [] H1 H2 s1.heap h1) (ok : HOk P w H2 h1) (hB : B.StaysIn h2) (hB1 : B.StaysIn h1) (tr : ∀ b o, H2 b = some o → ∃ ob, B.get? b = some ob)
    (old : ∀ b o, s1.heap.get? b = some o → b ∉ frs (envOfC qual scope s.heap.objs.size f cd :: outer) → ∃ ob, B.get? b = some ob)
    (up : ∀ b o, h1.get? b = some o → (∀ vs, o.data ≠ .fields vs) → ∃ sl, h2.get? b = some { o with slots := sl }) :
    Un (frs outer) [] H H2 s.heap h2 ∧ HOk P w H2 h2 ∧ ∀ b o, s.heap.get? b = some o → b ∉ frs outer → ∃ ob, B.get? b = some ob := by
  have hst := I.stack
  have nin : ∀ b o, s.heap.get? b = some o → b ∉ frs outer → b ∉ frs (envOfC qual scope s.heap.objs.size f cd :: outer) := fun b o e nm z => by
    rcases List.mem_cons.mp (I.stkSub b z) with q | q
    · exact Nat.lt_irrefl _ (by have := Heap.lt_size e; rw [q] at this; exact this)
    · exact nm q
  have kB : ∀ b o, s.heap.get? b = some o → H b = none → b ∉ frs outer → B.get? b = some o := fun b o e n nm => by
    have e1 := I.base.keep b o e n nm (by show b ∉ []; simp)
    have n1 := I.base.free b o e n (by show b ∉ []; simp)
    obtain ⟨ob, q⟩ := old b o e1 (nin b o e nm)
    have q1 := hB1 b ob q
    rw [un.keep b o e1 n1 (nin b o e nm) (by simp)] at q1
    cases q1
    exact q
  have sub : ∀ b, b ∈ frs outer → b ∈ frs (envOfC qual scope s.heap.objs.size f cd :: outer) := fun b hb => by
    obtain ⟨env, he, hf⟩ := List.mem_filterMap.mp hb
    exact mem_frs (List.mem_cons_of_mem _ he) hf
  have fr : ∀ b o, s1.heap.get? b = some o → b ∈ frs (envOfC qual scope s.heap.objs.size f cd :: outer) → ∃ sl, h2.get? b = some { o with slots := sl } := fun b o e hb => by
    obtain ⟨_, o', e', d'⟩ := hst.mem hb
    rw [e] at e'; cases e'
    obtain ⟨sl, e2⟩ := un.slot b o e (I.stkFree b hb) hb (by simp)
    obtain ⟨sl', e3⟩ := up b _ e2 d'
    exact ⟨sl', e3⟩
  refine ⟨⟨fun b o e n nm _ => hB b o (kB b o e n nm), fun b o e n hb _ => ?_, fun b o e n _ => ?_, fun b o e _ => ?_, fun b xs e => un.tups b xs (I.base.tups b xs e), fun b o u e => un.frzs b o u (I.base.frzs b o u e), fun b ps e => ?_⟩, fun b u e => ?_, fun b o e nm => ?_⟩
  · obtain ⟨sl, e1⟩ := I.base.slot b o e n hb (by show b ∉ []; simp)
    obtain ⟨sl', e2⟩ := fr b _ e1 (sub b hb)
    exact ⟨sl', e2⟩
  · obtain ⟨o', e1⟩ := I.base.there b o e (by show b ∉ []; simp)
    exact un.free b o' e1 (I.base.free b o e n (by show b ∉ []; simp)) (by simp)
  · by_cases hb : b ∈ frs (envOfC qual scope s.heap.objs.size f cd :: outer)
    · obtain ⟨o', e1⟩ := I.base.there b o e (by show b ∉ []; simp)
      obtain ⟨sl, e2⟩ := fr b o' e1 hb
      exact ⟨_, e2⟩
    · obtain ⟨o', e1⟩ := I.base.there b o e (by show b ∉ []; simp)
      obtain ⟨ob, q⟩ := old b o' e1 hb
      exact ⟨ob, hB b ob q⟩
  · obtain ⟨m1, e1⟩ := I.base.tbls b ps e
    obtain ⟨m2, e2⟩ := un.tbls b _ e1
    exact ⟨m1 ++ m2, by rw [e2, Array.append_assoc]⟩
  · have kt : ∀ c v, H2 c = some v → ∀ o, h1.get? c = some o → h2.get? c = some o := fun c v e o q => by
      obtain ⟨ob, z⟩ := tr c v e
      have := hB1 c ob z
      rw [q] at this; cases this
      exact hB c o z
    refine (ok b u e).stay (fun c v hc q => ?_) (fun _ q => q) fun _ _ q => q
    rcases hc with rfl | hc
    · exact kt _ _ e v q
    · exact kt _ _ hc v q
  · obtain ⟨o', e1⟩ := I.base.there b o e (by show b ∉ []; simp)
    exact old b o' e1 (nin b o e nm)
theorem thrown {pins : List (Addr × Obj)} {σ : St} {H1 : Hp} {s1 : Shared} {h' : Heap} {e C : Addr} {vs : List Value} (I : Inv (cxOf (CX1 P w) P w K mg base N qual scope f cd A outer s H E) pins σ H1 s1) (hx : Heap.MadeExcOf s1.heap h' e (.ref C) vs) (q : E (.ref C) none H1) :
    (cxOf (CX1 P w) P w K mg base N qual scope f cd A outer s H E).xe (.ref e) { s1 with heap := h' } := by
  show wpAny (model P w) (A.deeper (envOfC qual scope s.heap.objs.size f cd)) (leaving (envOfC qual scope s.heap.objs.size f cd) (.ref e)) _ _ _
  have hst : s1.heap.FunFrames base (envOfC qual scope s.heap.objs.size f cd :: outer) := I.stack
  refine wpAny_leaves_madeW (base := PySem.W.hideAll s1.heap (frs (envOfC qual scope s.heap.objs.size f cd :: outer))) (h := s1.heap) (outer := outer) (L := s.heap.objs.size) I.ok.frames rfl (fun b o z => PySem.W.of_hideAll _ z) (PySem.W.funFrames_hide hst fun env he b hb => mem_frs he hb) hx fun h2 t x1 x2 x3 x4 => ?_
  have hs : (PySem.W.hideAll s1.heap (frs (envOfC qual scope s.heap.objs.size f cd :: outer))).StaysIn s1.heap := fun b o z => PySem.W.of_hideAll _ z
  have tr : ∀ b o, H1 b = some o → ∃ ob, (PySem.W.hideAll s1.heap (frs (envOfC qual scope s.heap.objs.size f cd :: outer))).get? b = some ob := fun b o z => by
    obtain ⟨ob, z1⟩ := (I.hok b o z).ex
    refine ⟨ob, PySem.W.hideAll_get _ z1 fun hb => ?_⟩
    rw [I.stkFree b hb] at z
    cases z
  obtain ⟨u1, u2, u3⟩ := left_frame (h1 := s1.heap) (h2 := h2) I Un.refl I.hok x1.1 hs tr (fun b o z nm => ⟨o, PySem.W.hideAll_get _ z nm⟩) (fun b o z d => x4 b o (hx.keeps b o z) d)
  refine ⟨e, C, .ref t, _, H1, rfl, ?_, I.os, I.bare, x1, u1, u2, tr, u3, q⟩
  cases z : s.heap.get? e with
  | none => rfl
  | some o =>
    obtain ⟨o', z1⟩ := I.base.there e o z (by show e ∉ []; simp)
    rw [hx.new] at z1
    cases z1
theorem pass1 : Passes (CX1 P w) (cxOf (CX1 P w) P w K mg base N qual scope f cd A outer s H E) E := by
  rintro pins σ H1 s1 e s2 I ⟨a, C, a0, B, H2, rfl, na, os, bare, fl, un, ok, tr, old, q⟩
  show wpAny (model P w) (A.deeper (envOfC qual scope s.heap.objs.size f cd)) (leaving (envOfC qual scope s.heap.objs.size f cd) (.ref a)) _ _ _
  refine wpAny_leaves_onW (outer := outer) (L := s.heap.objs.size) I.ok.frames rfl fl fun h2 x1 x2 => ?_
  obtain ⟨u1, u2, u3⟩ := left_frame (h1 := s2.heap) (h2 := h2) I un ok x1.1 fl.1 tr old x2
  refine ⟨a, C, a0, B, H2, rfl, ?_, os.trans I.os, bare, x1, u1, u2, tr, u3, q⟩
  cases z : s.heap.get? a with
  | none => rfl
  | some o =>
    obtain ⟨o', z1⟩ := I.base.there a o z (by show a ∉ []; simp)
    rw [na] at z1
    cases z1
end
end L2
namespace PySem.W
open PySem PySem.Spec PySem.Calls PyProof.Rows
/-- the mro behind ValueError -/
abbrev veMro : List Value := [.type "ValueError", .type "Exception", .type "BaseException", .type "object"]
theorem exc_obj {K : Frag} {h : Heap} {C : Addr} {bl : List Value} {nid : String} (X : K.In h) (q : excIn K C bl nid = true) :
    ∃ bm N nm qn bs hdct sn sub ab col dd k0 k1 k2 k3 k5 mN, h.get? C = some (excClassObj nm qn C N bs bm hdct sn sub ab col dd k0 k1 k2 k3 k5 nid) ∧ h.Ns N mN ∧ mN "__init__" = none ∧ OwnTail h bl bm := by
  unfold excIn at q
  split at q
  · rename_i d1 c1 s1 l1
    split at q
    · rename_i C' bm k0 k1 k2 k3 n k5 e1 e2
      simp only [Bool.and_eq_true, beq_iff_eq, Bool.not_eq_true'] at q
      obtain ⟨⟨⟨⟨⟨r1, r2⟩, r3⟩, r4⟩, r5⟩, r6⟩ := q
      subst r1 r2
      obtain ⟨nm, bs, mro, ns, qn, hd, sn, sub, ab, col, del⟩ := c1
      dsimp only at e1 r3 r5 r6
      subst e1 r3
      have e3 : s1 = #[k0, k1, k2, k3, some (.builtin n), k5] := by
        cases s1 with
        | mk ll =>
          have : ll = [k0, k1, k2, k3, some (.builtin n), k5] := e2
          rw [this]
      subst e3
      exact ⟨bm, ns, nm, qn, bs, hd, sn, sub, ab, col, d1, k0, k1, k2, k3, k5, _, X _ _ l1, .of_isNs (isNs_of_in X r5), nsMap_none_of_in X r5 r6, tail_of_in X r4⟩
    · cases q
  · cases q
theorem cls_of_exc {K : Frag} {C : Addr} {bl : List Value} {nid : String} (q : excIn K C bl nid = true) : (clsIn K C).isSome = true := by
  unfold excIn at q
  split at q
  · rename_i d1 c1 s1 l1
    unfold clsIn
    rw [l1]
    rfl
  · cases q
end PySem.W
namespace L2
open PySem PySem.Spec PyProof.Rows
/-- an exception class of the text, under ValueError -/
structure ExcC (K : PySem.W.Frag) (C : Addr) : Prop where
  k : PySem.W.ExcK K C
  ex : PySem.W.excIn K C PySem.W.veMro "ValueError.__new__" = true
/-! ### raise C(e) -/
def Thrown (X : Cx) (E : XK) : Prop := ∀ (pins : List (Addr × Obj)) (σ : St) (H : Hp) (s : Shared) (h' : Heap) (e C : Addr) (vs : List Value), Inv X pins σ H s → Heap.MadeExcOf s.heap h' e (.ref C) vs → E (.ref C) none H → X.xe (.ref e) { s with heap := h' }
def tRaise (E : XK) (C : Addr) (t : TA) : TS := fun _ σ H => t σ H fun vs H1 => vs.length ≤ sizeLine ∧ E (.ref C) none H1
theorem ps_raise {X : Cx} {E : XK} {x : Str} {C : Addr} {e₀ : Expr} {rest : List Expr} {t : TA} {np cpos pos : Pos} (th : Thrown X E) (hc : X.calm = true) (hg : Gl X x) (hm : X.mg x = some (.ref C)) (ec : ExcC X.K C) (ha : PA X (e₀ :: rest) t)
    (hd : (x == ("__debug__" : Str)) = false := by decide) (he : starEach (e₀ :: rest) X.env = (false, eval e₀ X.env) :: starEach rest X.env := by rfl) (hpl : (backTo cpos (starEach rest X.env)).any (·.1) = false := by rfl) :
    PS X (.Raise (some (.Call (.Name x np) (e₀ :: rest) [] cpos)) none pos) (tRaise E C t) := by
  intro pins s σ H D I h
  obtain ⟨bm, Nn, nm, qn, bs, hdct, sn, sub, ab, col, dd, k0, k1, k2, k3, k5, mN, hC, hN, hni, TL⟩ := PySem.W.exc_obj I.mod.kin ec.ex
  refine wpAny_Raise_call_subT (C := C) (nm := nm) (q := qn) (N := Nn) (bs := bs) (bm := bm) (hdct := hdct) (sn := sn) (sub := sub) (ab := ab) (col := col) (dd := dd) (k0 := k0) (k1 := k1) (k2 := k2) (k3 := k3) (k5 := k5)
    PySem.F.excBase_ValueError (mN := mN) (TL.hasType PySem.F.excBase_ValueError.hasBase) (I.ok.hd hc) (by rw [he]; show (false || (backTo cpos (starEach rest X.env)).any (·.1)) = false; rw [hpl]; rfl) hni (ld_glob I hg hm ⟨rfl, ?_⟩ hd)
  have ha' := ha cpos pins s σ H _ I h
  rw [he] at ha' ⊢
  refine Calls.evalArgs_plain (wpAny_mono ha' (fun us s2 z => ?_) fun _ _ y => y)
  obtain ⟨vs, H2, I2, r2, hl, q2⟩ := z
  have kk : ∀ b o, X.base.get? b = some o → s2.heap.get? b = some o := I2.bk
  exact ⟨rfl, by show us.length ≤ sizeLine; rw [← r2.length]; exact hl, kk _ _ hC, hN.keeps kk, TL.keeps kk, fun h' e z => th pins σ H2 s2 h' e C us I2 z q2⟩
theorem thrown1 {P : Program} {w : World} {K : PySem.W.Frag} {mg : Str → Option Value} {base : Heap} {N : List Str} {qual : Str} {scope : Scope} {f : Addr} {cd : Value} {A : Around} {outer : List Env} {s : Shared} {H : Hp} {E : XK} :
    Thrown (cxOf (CX1 P w) P w K mg base N qual scope f cd A outer s H E) E := fun pins σ H1 s1 h' e C vs I hx q => thrown I hx q
/-- a def that may raise -/
theorem Fun.okX {P : Program} {w : World} {K : PySem.W.Frag} {mg : Str → Option Value} {base : Heap} {CX : CXT} {x qual : Str} {st : Stmt} {f : Addr} {fd : FuncData} {N ps : List Str} {k : Nat} {sp : Sp} (F : Fun K x qual st f fd) (S : FnScope N ps (defScope st))
    (len : ∀ vs H Q E, sp vs H Q E → vs.length = ps.length)
    (hbody : ∀ (cdv : Value) (A : Around) (outer : List Env) (s : Shared) (H : Hp) (vs : List V) (Q : VK) (E : XK), Room k (A.deeper (envOfC qual (defScope st) s.heap.objs.size f cdv)) → sp vs H Q E →
      ∃ t, PSs (cxOf CX P w K mg base N qual (defScope st) f cdv A outer s H E) (defBody st) t ∧ t { nx := fun _ H' => Q .non H', rt := Q } (start N vs) H) : FnOk P w K mg base CX (k + 1) f fd ps sp := by
  obtain ⟨oc, od, kV, doc, pm, an, cdv, ct, osl, rfl, lk, hcd⟩ := F.ex
  exact fn_of lk hcd S len fun A outer s H vs Q E hr hsp => hbody cdv A outer s H vs Q E hr hsp
structure MtX (P : Program) (w : World) (K : PySem.W.Frag) (mg : Str → Option Value) (base : Heap) (C : Addr) (m : Str) (k : Nat) (ps : List Str) (sp : Sp) : Prop where
  ex : ∃ f fd, Meth K C m f ∧ Binds K fd ps [] ∧ FnOk P w K mg base (CX1 P w) k f fd ps sp
structure FnX (P : Program) (w : World) (K : PySem.W.Frag) (mg : Str → Option Value) (base : Heap) (x : Str) (k : Nat) (ps : List Str) (sp : Sp) : Prop where
  ex : ∃ f fd, mg x = some (.ref f) ∧ PySem.W.keepIn K (.ref f) = true ∧ Binds K fd ps [] ∧ FnOk P w K mg base (CX1 P w) k f fd ps sp
structure MkX (P : Program) (w : World) (K : PySem.W.Frag) (mg : Str → Option Value) (base : Heap) (x : Str) (C : Addr) (k : Nat) (ps : List Str) (sp : Sp) : Prop where
  ex : ∃ f fd, mg x = some (.ref C) ∧ Mk K C f ∧ Binds K fd ps [] ∧ FnOk P w K mg base (CX1 P w) k f fd ps sp
section
variable {X : Cx} {x m : Str} {k : Nat} {ps : List Str} {sp : Sp} {C : Addr} {p pos apos : Pos} {e o : Expr} {es : List Expr} {ta : TE} {t : TA} {E : XK}
theorem pe_callX (c : FnX X.prog X.w X.K X.mg X.base x k ps sp) (hp : Passes (CX1 X.prog X.w) X E) (hr : Room k X.A) (hg : Gl X x) (ha : PA X (e :: es) t) (hdb : (x == ("__debug__" : Str)) = false := by decide)
    (he : starEach (e :: es) X.env = (false, eval e X.env) :: starEach es X.env := by rfl) (hpl : (backTo pos (starEach es X.env)).any (·.1) = false := by rfl) : PE X (.Call (.Name x p) (e :: es) [] pos) (tCall sp [] E t) := by
  obtain ⟨f, fd, g, kp, b, G⟩ := c.ex
  exact pe_call G hr hg g kp b .nil hp ha hdb he hpl
end
/-! ### a def called in an except suite: no exception leaves it -/
structure RoomM (k : Nat) (A : Around) : Prop where
  dp : A.depth + 3 * k + 5 < recursionLimit
  un : A.units + 16 * k + 200 < cLine
structure FnM (P : Program) (w : World) (K : PySem.W.Frag) (mg : Str → Option Value) (base : Heap) (x : Str) (k : Nat) (ps : List Str) (sp : Sp) : Prop where
  ex : ∃ (f : Addr) (fd : FuncData), mg x = some (.ref f) ∧ PySem.W.keepIn K (.ref f) = true ∧ Binds K fd ps [] ∧ (∀ vs H Q E, sp vs H Q E → vs.length = ps.length) ∧
    ∀ (A : Around) (outer : List Env) (s : Shared) (H : Hp) (args : Args) (us : List Value) (vs : List V) (Q : VK), RoomM k A → Env0 P w K mg base A outer s H → BindsTo s fd args (ps.zip us) → Vals vs us → sp vs H Q E0 →
      codeAny (model P w) A (.call (.ref f) args) (CR CX0 outer P w H s Q E0) s
/-- the context of a body that runs in an except suite -/
def cxOfM (P : Program) (w : World) (K : PySem.W.Frag) (mg : Str → Option Value) (base : Heap) (N : List Str) (qual : Str) (scope : Scope) (f : Addr) (cd : Value) (A : Around) (outer : List Env) (s : Shared) (H : Hp) : Cx :=
  { cxOf CX0 P w K mg base N qual scope f cd A outer s H E0 with calm := false, xe := fun _ _ => False }
theorem fn_ofM {P : Program} {w : World} {K : PySem.W.Frag} {mg : Str → Option Value} {base : Heap} {k : Nat} {x qual : Str} {st : Stmt} {f : Addr} {fd : FuncData} {N ps : List Str} {sp : Sp} (F : Fun K x qual st f fd) (S : FnScope N ps (defScope st)) (hg : mg x = some (.ref f)) (hb : Binds K fd ps [])
    (len : ∀ vs H Q E, sp vs H Q E → vs.length = ps.length)
    (hbody : ∀ (cdv : Value) (A : Around) (outer : List Env) (s : Shared) (H : Hp) (vs : List V) (Q : VK), RoomM k (A.deeper (envOfC qual (defScope st) s.heap.objs.size f cdv)) → sp vs H Q E0 →
      ∃ t, PSs (cxOfM P w K mg base N qual (defScope st) f cdv A outer s H) (defBody st) t ∧ t { nx := fun _ H' => Q .non H', rt := Q } (start N vs) H) : FnM P w K mg base x (k + 1) ps sp := by
  obtain ⟨oc, od, kV, doc, pm, an, cdv, ct, osl, e1, lk, hcd⟩ := F.ex
  subst e1
  refine ⟨f, _, hg, F.kp, hb, len, fun A outer s H args us vs Q hr e0 hbd r hsp => ?_⟩
  have hl := len _ _ _ _ hsp
  have KX : K.In s.heap := e0.mod.kin.keeps fun b o e => (e0.bs b o e).1
  have lim : s.heap.NoLimit := e0.mod.nolimit.keeps fun b o e => (e0.bs b o e).1
  have hkind : ∀ y ∈ ps.zip us, (defScope st).names.lookup y.1 = some .local ∨ ((defScope st).names.lookup y.1 = some .cell ∧ ((cellsFrom (s.heap.objs.size + 1) (defScope st).names []).lookup y.1).isSome = true) := fun ⟨n, v⟩ hy => by
    rcases S.par n (List.of_mem_zip hy).1 with q | q
    · exact .inl q
    · exact .inr ⟨q, PySem.W.cellsFrom_some _ _ _ (.inl q)⟩
  have hdep : A.depth < recursionLimit := by have := hr.dp; omega
  refine codeAny_call_function hdep (KX _ _ lk) rfl S.co S.gen rfl (PySem.W.codeRec_of KX hcd) (hbd _ _ _ _ ?_)
  refine wpAny_newFunctionEnv_cells S.kind hkind fun env he s1 x1 => ?_
  subst he
  refine ⟨lim.keeps x1.toInCall.keep, codeAny_func ?_⟩
  obtain ⟨t, ht, hq⟩ := hbody cdv A outer s H vs Q ⟨by have := hr.dp; show A.depth + 1 + 3 * k + 5 < _; omega, by have := hr.un; show A.units + 3 + 16 * k + 200 < _; omega⟩ hsp
  have I0 : Inv (cxOf CX0 P w K mg base N qual (defScope st) f cdv { A with handled := none } outer s H E0) [] (start N vs) H s1 := inv_start S rfl ⟨e0.frames, e0.mod, e0.bs, e0.bsz, e0.funs, e0.frf, e0.hok, e0.bare⟩ hl r x1
  have I : Inv (cxOfM P w K mg base N qual (defScope st) f cdv A outer s H) [] (start N vs) H s1 :=
    ⟨⟨I0.ok.mod, I0.ok.kind, I0.ok.glob, I0.ok.blt, I0.ok.above, I0.ok.inj, I0.ok.has, I0.ok.cab, (fun z => by cases z), I0.ok.frames, I0.ok.stk, I0.ok.exf, I0.ok.bs, I0.ok.bsz, I0.ok.noex, I0.ok.exfs, I0.ok.funs, I0.ok.frf⟩, I0.os, I0.bare, I0.base, I0.loc, I0.cell, I0.free, I0.freeC, I0.pin, I0.hok, I0.len⟩
  refine wpAny_mono (ht [] s1 (start N vs) H _ I hq) (fun fl s' hs => ?_) fun e s' hs => hs.elim
  have fin : ∀ {σ' : St} {H' : Hp} {v : V} {u : Value}, Inv (cxOfM P w K mg base N qual (defScope st) f cdv A outer s H) [] σ' H' s' → RelV v u → Q v H' → CE outer P w H s Q u s' :=
    fun {σ' H' v u} J rv q => ⟨v, H', J.os, J.bare, J.base, J.hok, rv, q⟩
  cases fl with
  | ret u =>
    obtain ⟨v, σ', H', J, rv, q⟩ := hs
    exact fin J rv q
  | next =>
    obtain ⟨σ', H', J, q⟩ := hs
    exact fin (v := V.non) (u := Value.none) J rfl q
  | brk =>
    obtain ⟨_, _, _, q⟩ := hs
    exact False.elim q
  | cont =>
    obtain ⟨_, _, _, q⟩ := hs
    exact False.elim q
/-! ### try: .. except C as e: .. -/
def markCx (X : Cx) (a : Addr) : Cx := { X with A := X.A.mark (some (.ref a)), calm := false, xe := fun _ _ => False }
def tryCx (X : Cx) (pn : List (Addr × Obj)) (E1 : Value → Shared → Prop) : Cx := { X with pn := pn, xe := E1 }
section
variable {X : Cx} {pins : List (Addr × Obj)} {σ : St} {H : Hp} {s : Shared}
theorem Inv.mark (I : Inv X pins σ H s) (a : Addr) : Inv (markCx X a) pins σ H s :=
  ⟨⟨I.ok.mod, I.ok.kind, I.ok.glob, I.ok.blt, I.ok.above, I.ok.inj, I.ok.has, I.ok.cab, (fun z => by cases z), I.ok.frames, I.ok.stk, I.ok.exf, I.ok.bs, I.ok.bsz, I.ok.noex, I.ok.exfs, I.ok.funs, I.ok.frf⟩, I.os, I.bare, I.base, I.loc, I.cell, I.free, I.freeC, I.pin, I.hok, I.len⟩
theorem Inv.unmark {a : Addr} (I : Inv (markCx X a) pins σ H s) (ok : X.Ok) : Inv X pins σ H s := ⟨ok, I.os, I.bare, I.base, I.loc, I.cell, I.free, I.freeC, I.pin, I.hok, I.len⟩
theorem Inv.try1 (I : Inv X pins σ H s) (E1 : Value → Shared → Prop) : Inv (tryCx X (X.pn ++ pins) E1) [] σ H s :=
  ⟨⟨I.ok.mod, I.ok.kind, I.ok.glob, I.ok.blt, I.ok.above, I.ok.inj, I.ok.has, I.ok.cab, I.ok.hd, I.ok.frames, I.ok.stk, I.ok.exf, I.ok.bs, I.ok.bsz, I.ok.noex, I.ok.exfs, I.ok.funs, I.ok.frf⟩, I.os, I.bare, I.base, I.loc, I.cell, I.free, I.freeC,
    fun p hp => I.pin p (by have : p ∈ (X.pn ++ pins) ++ [] := hp; rwa [List.append_nil] at this), I.hok, I.len⟩
theorem Inv.untry {E1 : Value → Shared → Prop} {pins' : List (Addr × Obj)} (I : Inv (tryCx X (X.pn ++ pins) E1) pins' σ H s) (ok : X.Ok) : Inv X pins σ H s :=
  ⟨ok, I.os, I.bare, I.base, I.loc, I.cell, I.free, I.freeC, fun p hp => I.pin p (List.mem_append_left _ hp), I.hok, I.len⟩
/-- a plain local name goes -/
theorem unbind_ok {M : Model} {A : Around} {E : Value → Shared → Prop} {i : Nat} {x : Str} {v : V} {pos : Pos} {Q : Unit → Shared → Prop} (I : Inv X pins σ H s) (hN : X.N.Nodup) (hi : X.N[i]? = some x) (hx : X.env.scope.names.lookup x = some .local) (hv : σ[i]? = some (some v))
    (h : ∀ s', Inv X pins (σ.set i none) H s' → Q () s') : wpAny M A (unbindBehindTheSuite X.env x pos) Q E s := by
  obtain ⟨m, hn, hl⟩ := id I.loc
  have hcls : (X.env.scope.kind == .class || (X.env.scope.kind == .module && X.env.locals != X.env.globals)) = false := by rw [I.ok.kind]; rfl
  obtain ⟨u, r, l⟩ := hl i x v hi hv (.inl hx)
  have hmx : m x = some u := by
    rcases l with ⟨_, l⟩ | ⟨k, _⟩
    · exact l
    · exfalso
      have hx' : X.env.kindOf x = some .local := hx
      rcases k with k | k <;> rw [hx'] at k <;> cases k
  unfold unbindBehindTheSuite
  refine wpAny_onRaise (wpAny_unbindName_local hx hn hmx hcls fun h' u' hn' hs => ?_)
  obtain ⟨oL, _, _, hoL, _⟩ := id hn
  have ltL : ∀ b o, X.s₀.heap.get? b = some o → b ≠ X.env.locals := fun b o e => Nat.ne_of_lt (Nat.lt_of_lt_of_le (Heap.lt_size e) I.ok.above)
  refine h { s with heap := h' } ⟨I.ok, I.os, I.bare, ⟨fun b o e n hb hx => ?_, fun b o e n hb hx => ?_, I.base.free, fun b o e hx => ?_, I.base.tups, I.base.frzs, I.base.tbls⟩, ⟨_, hn', fun j y v' e1 e2 e3 => ?_⟩, fun y c e => ?_, I.free, I.freeC, fun p hp => ?_, fun b ob e => ?_, by simpa using I.len⟩
  · exact (hs.2 b (ltL b o e)).trans (I.base.keep b o e n hb hx)
  · obtain ⟨sl, e1⟩ := I.base.slot b o e n hb hx
    exact ⟨sl, (hs.2 b (ltL b o e)).trans e1⟩
  · obtain ⟨o', e1⟩ := I.base.there b o e hx
    exact ⟨o', (hs.2 b (ltL b o e)).trans e1⟩
  · by_cases hj : j = i
    · subst hj
      have hjl : j < σ.length := (List.getElem?_eq_some_iff.mp hv).1
      rw [List.getElem?_set_self hjl] at e2
      cases e2
    · rw [List.getElem?_set_ne (Ne.symm hj)] at e2
      obtain ⟨u2, r2, q2⟩ := hl j y v' e1 e2 e3
      refine ⟨u2, r2, ?_⟩
      rcases q2 with ⟨k, e⟩ | ⟨k, c, e, z⟩
      · refine .inl ⟨k, ?_⟩
        have : y ≠ x := fun e => hj (nodup_ix hN e1 (e ▸ hi))
        simp [this, e]
      · exact .inr ⟨k, c, e, z.sameBut hs (I.cne y c e)⟩
  · obtain ⟨w', z⟩ := I.cell y c e
    exact ⟨w', z.sameBut hs (I.cne y c e)⟩
  · obtain ⟨e, n, ne, nf, d⟩ := I.pin p hp
    exact ⟨(hs.2 p.1 ne).trans e, n, ne, nf, d⟩
  · refine (I.hok b ob e).stay (fun c w' hc q => (hs.2 c ?_).trans q) (fun _ q => q) fun _ _ q => q
    rintro rfl
    rcases hc with rfl | hc
    · rw [I.free] at e; cases e
    · rw [I.free] at hc; cases hc
end
def tTry (Ek : XK) (i : Nat) (tb th : TS) : TS := fun D σ H => tb D σ H ∧ ∀ (σ' : St) (C a : Addr) (H' : Hp), σ'.length = σ.length → Ek (.ref C) none H' → H' a = none →
  th { nx := fun σ2 H2 => ∃ v, σ2[i]? = some (some v) ∧ D.nx ((σ2.set i (some .non)).set i none) H2, rt := fun _ _ => False } (σ'.set i (some (.ref a))) (upd H' a (excO a C))
/-! ### a call in an except suite -/
theorem pe_callM {X : Cx} {x : Str} {k : Nat} {ps : List Str} {sp : Sp} {p pos : Pos} {e : Expr} {es : List Expr} {t : TA} (c : FnM X.prog X.w X.K X.mg X.base x k ps sp) (hr : RoomM k X.A) (hg : Gl X x) (ha : PA X (e :: es) t) (hdb : (x == ("__debug__" : Str)) = false := by decide)
    (he : starEach (e :: es) X.env = (false, eval e X.env) :: starEach es X.env := by rfl) (hpl : (backTo pos (starEach es X.env)).any (·.1) = false := by rfl) : PE X (.Call (.Name x p) (e :: es) [] pos) (tCall sp [] E0 t) := by
  obtain ⟨f, fd, g, kp, b, len, run⟩ := c.ex
  intro pins s σ H Q I h
  refine wpAny_Call_Name_kw (ld_glob I hg g ?_ hdb)
  refine PySem.W.callWith_K (h₀ := X.base) I.ok.mod.kin kp (thn (ha pos pins s σ H _ I h) fun us s1 ⟨vs, H1, I1, r, q⟩ => ⟨I1.kIn, ?_⟩) he hpl
  have q' : sp vs H1 Q E0 := by
    have q0 : sp (vs ++ []) H1 Q E0 := q
    rwa [List.append_nil] at q0
  have hl : us.length = ps.length := by rw [← r.length]; exact len _ _ _ _ q'
  have bd : BindsTo s1 fd ⟨us, []⟩ (ps.zip us) := by have := b s1 us I1.kIn (by rw [List.append_nil]; exact hl); rwa [List.append_nil] at this
  refine wpAny_call (codeAny_mono (run X.A X.stack s1 H1 ⟨us, []⟩ us vs Q hr I1.env0 bd r q') fun rr s' hq => ?_)
  cases rr with
  | error e => exact hq.elim
  | ok fl =>
    cases fl with
    | ret u => exact I1.after hq
    | next => exact False.elim hq
    | brk => exact False.elim hq
    | cont => exact False.elim hq
end L2
namespace L2
open PySem PySem.Spec PyProof.Rows
/-! ### sorted(d): the int keys, rising -/
/-! ### f'..{i}..' -/
theorem pe_fstr3 {X : Cx} {a b : Str} {ka kb : _} {pa pb pf pos : Pos} {e : Expr} {te : TE} (he : PE X e te) (ha : (Str.empty ++ a).length ≤ sizeLine := by decide) :
    PE X (.JoinedStr [.Constant (.str a) ka pa, .FormattedValue e (-1) none pf, .Constant (.str b) kb pb] pos) (fun σ H Q => te σ H fun x H1 => ∃ i : Int, x = .int i ∧ i.natAbs.log2 < 1920 ∧ (Str.empty ++ a ++ (toString i : String)).length ≤ sizeLine ∧ (Str.empty ++ a ++ (toString i : String) ++ b).length ≤ sizeLine ∧ Q (.str (Str.empty ++ a ++ (toString i : String) ++ b)) H1) := by
  intro pins s σ H Q I h
  refine wpAny_JoinedStr ?_
  refine Calls.Constant_str ⟨a, _, rfl, ha, ?_⟩
  refine wpAny_FormattedValue_plain ?_
  refine wpAny_mono (he pins _ σ H _ (I.tok _) h) (fun u s1 z => ?_) fun _ _ y => y
  obtain ⟨v, H1, I1, r, i, rfl, hlog, l2, l3, q⟩ := z
  obtain ⟨t, rfl⟩ := r
  refine wpAny_formatField_int hlog ⟨_, _, rfl, l2, ?_⟩
  refine Calls.Constant_str ⟨b, _, rfl, l3, l3, ?_⟩
  exact ⟨.str _, H1, I1.tok _, ⟨_, rfl⟩, q⟩
end L2
namespace L2
open PySem PySem.Spec PyProof.Rows

/-! ### comprehensions whose own names an inner one takes over -/
/-- the cells that are laid at the entry of a block -/
structure Laid (h h' : Heap) (acc cs : List (Str × Addr)) (names : List (Str × NameKind)) : Prop where
  old : ∀ x c, cs.lookup x = some c → acc.lookup x = some c ∨ (h.objs.size ≤ c ∧ h'.IsCell c none ∧ (x, NameKind.cell) ∈ names)
  inj : ∀ x y c, cs.lookup x = some c → cs.lookup y = some c → x = y
  has : ∀ x, ((∃ c, acc.lookup x = some c) ∨ (x, NameKind.cell) ∈ names) → ∃ c, cs.lookup x = some c
  keep : ∀ b o, h.get? b = some o → h'.get? b = some o
/-- the context of such a block -/
def compCxC (X : Cx) (N' : List Str) (scope : Scope) (cl : List (Str × Addr)) (C : Addr) (s₀ : Shared) (H₀ : Hp) (ex : List Addr) (pn : List (Addr × Obj)) : Cx :=
  { compCx X N' scope cl C s₀ H₀ ex pn with fn := fun x => scope.names.lookup x == some .cell }
def compOkCB (sc scope : Scope) (N N' : List Str) (cap : List (Option Nat)) : Bool :=
  scope.kind == .function && scope.names.all (fun x => scope.names.lookup x.1 == some x.2 && (x.2 != .free || (sc.names.lookup x.1 == some .cell || sc.names.lookup x.1 == some .free)))
    && cap.length == N'.length && (cap.zip N').all (fun p => match p.1 with | none => true | some j => N[j]? == some p.2 && scope.names.lookup p.2 == some .free)
structure CompOkC (sc scope : Scope) (N N' : List Str) (cap : List (Option Nat)) : Prop where
  kind : scope.kind = .function
  own : ∀ x ∈ scope.names, scope.names.lookup x.1 = some x.2
  free : ∀ x ∈ scope.names, x.2 = .free → sc.names.lookup x.1 = some .cell ∨ sc.names.lookup x.1 = some .free
  len : cap.length = N'.length
  cap : ∀ (i j : Nat), cap[i]? = some (some j) → ∃ x, N'[i]? = some x ∧ N[j]? = some x ∧ scope.names.lookup x = some .free
section
variable {X : Cx} {pins : List (Addr × Obj)} {σ : St} {H H' : Hp} {s : Shared}
end
section
variable {X : Cx} {tg elt iter : Expr} {ifs : List Expr} {scope sc : Scope} {Nm N' : List Str} {cap : List (Option Nat)} {pos : Pos} {wi : TI} {g : TG} {tt : TT} {te : TE}
end
/-! ### where a comprehension stands in the text: for the scope of an inner one -/
def relS (scope sc : Scope) : Scope := { scope with names := scope.names.map fun (n, k) => if (k == .free && sc.kind == .function && sc.names.lookup n == some .cell) then (n, .cell) else (n, k) }
def noE : Expr := .Name "" ⟨0, 0, 0, 0⟩
def sVal : Stmt → Expr
  | .Assign _ v _ => v
  | .Return (some v) _ => v
  | .Expr v _ => v
  | _ => noE
def xScope : Expr → Scope
  | .ListComp _ _ sc _ => sc
  | _ => default
def xElt : Expr → Expr
  | .ListComp e _ _ _ => e
  | _ => noE
def xTup (i : Nat) : Expr → Expr
  | .Tuple es _ _ => es.getD i noE
  | _ => noE
def sBody : Stmt → List Stmt
  | .For _ _ b _ _ => b
  | .While _ b _ _ => b
  | .If _ b _ _ => b
  | _ => []
def sElse : Stmt → List Stmt
  | .If _ _ b _ => b
  | _ => []
/-! ### all(l) of truth values -/
section
variable {X : Cx}
end
end L2
namespace L2
open PySem PySem.Spec PyProof.Rows PySem.W
/-! ### t + u, t empty or not, u not empty -/
section
variable {X : Cx}
def rCatB (K : PySem.W.Frag) : R2 := fun x y H Q => ∃ a b xs ys, x = .ref a ∧ y = .ref b ∧ SqT K H a xs ∧ SqT K H b ys ∧ ys ≠ [] ∧ xs.length + ys.length ≤ sizeLine ∧ (xs = [] → Q (.ref b) H) ∧ (xs ≠ [] → ∀ p, H p = none → Q (.ref p) (upd H p (.tup (xs ++ ys))))
end
/-! ### what a sort's questions lead to: the same items, in some order -/
def Leaves (n : Nat) {α : Type} : KasT α → (α → Prop) → Prop
  | .ret a, P => P a
  | .ask i j k, P => i < n ∧ j < n ∧ ∀ b, Leaves n (k b) P
def PermN (n : Nat) (p : Array Nat) : Prop := p.toList.Perm (List.range n)
section
variable {prog : Program} {w : World} {A : Around} {E : Value → Shared → Prop} {s : Shared}
end
end L2
namespace L2
open PySem PySem.Spec PyProof.Rows PySem.W
/-! ### sorted(l), l of tuples (a number, a tuple of numbers): the same items, in some order -/
section
variable {X : Cx} {pins : List (Addr × Obj)} {σ : St} {H : Hp} {s : Shared}
def rSortT (K : PySem.W.Frag) : List V → Hp → VK → Prop := fun xs H Q => ∃ (p : Addr) (ts : List Addr), xs = [.ref p] ∧ SqL K H p (ts.map V.ref) ∧ ts.length < 64 ∧ (∀ t ∈ ts, ∃ (k : Int) (r : Addr) (ns : List Int), SqT K H t [.int k, .ref r] ∧ SqT K H r (ns.map V.int)) ∧
  ∀ (l : Addr) (ys : List Addr), H l = none → ys.Perm ts → Q (.ref l) (upd H l (.lst (ys.map V.ref)))
end
end L2
namespace L2
open PySem PySem.Spec PyProof.Rows
/-! ### sets of numbers, unseen by the heap of the readings -/
def ISetO (prog : Program) (w : World) (o : Obj) : Prop := ∃ S n, o.SetObjOf (intKind prog w) S n ∧ n < 1000
end L2
namespace L2
open PySem PySem.Spec PyProof.Rows
section
variable {prog : Program} {w : World} {A : Around} {E : Value → Shared → Prop} {s : Shared}
end
end L2
namespace L2
open PySem PySem.Spec PyProof.Rows
section
variable {prog : Program} {w : World} {A : Around} {E : Value → Shared → Prop} {s : Shared}
/-- the set at a: its entries, all numbers -/
structure ISet (prog : Program) (w : World) (h : Heap) (a : Addr) (o : Obj) (es : Array (Int × Value)) (ep : Nat) (t : SetTable) : Prop where
  at_ : h.get? a = some o
  ex : o.ExactSet
  data : o.data = .set es ep t
  els : ElemsOf (intKind prog w) es.toList
  small : es.size < 1000
  fits : t.fits es.size = true
end
end L2
namespace L2
open PySem PySem.Spec PyProof.Rows
section
variable {prog : Program} {w : World} {A : Around} {E : Value → Shared → Prop} {s : Shared}
/-- numbers with their hashes -/
def Nums (prog : Program) (w : World) (W : List (Int × Value)) : Prop := ∀ e ∈ W, ∃ k t, e = ((intKind prog w).hash k, Value.int k t)
end
end L2
namespace L2
open PySem PySem.Spec PyProof.Rows
section
variable {prog : Program} {w : World} {A : Around} {E : Value → Shared → Prop} {s : Shared}
end
end L2
namespace L2
open PySem PySem.Spec PyProof.Rows
section
variable {prog : Program} {w : World} {A : Around} {E : Value → Shared → Prop} {s : Shared}
end
end L2
namespace L2
open PySem PySem.Spec PyProof.Rows
/-! ### set(t), a & b, a == b: read with what is made pinned -/
def PZ (X : Cx) (e : Expr) (t : St → Hp → (Hp → Prop) → Prop) : Prop :=
  ∀ (pins : List (Addr × Obj)) (s : Shared) (σ : St) (H : Hp) (R : Hp → Prop), Inv X pins σ H s → t σ H R →
    wpAny (model X.prog X.w) X.A (eval e X.env) (fun v s' => ∃ a o H', v = .ref a ∧ Inv X (pins ++ [(a, o)]) σ H' s' ∧ ISetO X.prog X.w o ∧ (∀ p ∈ pins, p.1 ≠ a) ∧ R H') X.xe s
section
variable {X : Cx} {pins : List (Addr × Obj)} {σ : St} {H : Hp} {s : Shared}
end
end L2
namespace L2
open PySem PySem.Spec PyProof.Rows
/-! ### a list of pairs of numbers, written out -/
def litPair : Expr → Option (Int × Int)
  | .Tuple [.Constant (.int a) _ _, .Constant (.int b) _ _] _ _ => some (a, b)
  | _ => none
def litPairs : List Expr → Option (List (Int × Int))
  | [] => some []
  | e :: es => match litPair e with
    | some q => match litPairs es with
      | some qs => some (q :: qs)
      | none => none
    | none => none
structure LitT (H : Hp) (ts : List Addr) (qs : List (Int × Int)) : Prop where
  len : ts.length = qs.length
  at_ : ∀ (i : Nat) (t : Addr) (q : Int × Int), ts[i]? = some t → qs[i]? = some q → H t = some (.tup [.int q.1, .int q.2])
def tLits (qs : List (Int × Int)) : TA := fun _ H Q => ∀ (ts : List Addr) (H' : Hp), Same H H' → LitT H' ts qs → Q (ts.map V.ref) H'
section
variable {X : Cx}
def tLitP (qs : List (Int × Int)) : TE := fun _ H Q => qs.length ≤ sizeLine ∧ ∀ (ts : List Addr) (l : Addr) (H' : Hp), Same H H' → H l = none → H' l = some (.lst (ts.map V.ref)) → LitT H' ts qs → Q (.ref l) H'
end
end L2
namespace L2
open PySem PySem.Spec PyProof.Rows
/-! ### list(range(n)) -/
section
variable {X : Cx}
end
end L2
namespace L2
open PySem PySem.Spec PyProof.Rows
/-! ### tuples: ==, != -/
def rEqT (K : PySem.W.Frag) (neg : Bool) : R2 := fun x y H Q => ∃ (a b : Addr) (xs ys : List V) (e : Nat → Bool), x = .ref a ∧ y = .ref b ∧ SqT K H a xs ∧ SqT K H b ys ∧ (∀ j x y, xs[j]? = some x → ys[j]? = some y → DEq K H 3 x y (e j)) ∧
  Q (.bl (neg ^^ ((List.range (min xs.length ys.length)).all e && xs.length == ys.length))) H
end L2
namespace L2
open PySem PySem.Spec PyProof.Rows
end L2
namespace L2
open PySem PySem.Spec PyProof.Rows
section
variable {X : Cx}
/-- xs.count(k), a list of ints -/
inductive RCount (x : V) (vs : List V) (H : Hp) (Q : VK) : Prop where | mk (l : Addr) (ns : List Int) (k : Int) (e : x = .ref l) (e' : vs = [.int k]) (h : H l = some (.lst (ns.map V.int))) (q : Q (.int (ns.count k : Nat)) H) : RCount x vs H Q
def rCount : V → List V → Hp → VK → Prop := fun x vs H Q => RCount x vs H Q
end
end L2
namespace L2
open PySem PySem.Spec PyProof.Rows
/-- what is raised is passed on where the names stand so -/
def PassesAt (CX : CXT) (X : Cx) (E : XK) (σ : St) : Prop := ∀ (pins : List (Addr × Obj)) (H : Hp) (s : Shared) (e : Value) (s' : Shared), Inv X pins σ H s → CX X.stack H s E e s' → X.xe e s'
section
variable {X : Cx} {x y : Str} {i k : Nat} {ps : List Str} {sp : Sp} {p pos pos' apos : Pos} {e : Expr} {es : List Expr} {t : TA} {E : XK} {σ : St}
/-- y = x(e, ..), which may raise: the names then stand as before -/
theorem set_callAt (c : FnX X.prog X.w X.K X.mg X.base x k ps sp) (hr : Room k X.A) (hg : Gl X x) (ha : PA X (e :: es) t) (hN : X.N.Nodup) (hi : X.N[i]? = some y) (hy : Loc X.env.scope y) (hp : PassesAt (CX1 X.prog X.w) X E σ) (hdb : (x == ("__debug__" : Str)) = false := by decide)
    (he : starEach (e :: es) X.env = (false, eval e X.env) :: starEach es X.env := by rfl) (hpl : (backTo pos (starEach es X.env)).any (·.1) = false := by rfl) (hs : swapsWith (.Call (.Name x p) (e :: es) [] pos) (some (.Name y pos')) apos.line X.env = pure false := by rfl)
    (hf : X.fn y = true ∨ X.env.scope.names.lookup y = some .local := by first | exact .inl rfl | exact .inr rfl | assumption) :
    ∀ (pins : List (Addr × Obj)) (s : Shared) (H : Hp) (D : Ends), Inv X pins σ H s → tAsg (tCall sp [] E t) (gName i) D σ H → wpAny (model X.prog X.w) X.A (execs [.Assign [.Name y pos'] (.Call (.Name x p) (e :: es) [] pos) apos] X.env) (SP X pins D) X.xe s := by
  obtain ⟨f, fd, g, kp, b, G⟩ := c.ex
  intro pins s H D I h
  refine wpAny_execs_cons (wpAny_Assign_Name (Q := fun fl s1 => _) ?_ hs)
  refine wpAny_Call_Name_kw (ld_glob I hg g ?_ hdb)
  refine PySem.W.callWith_K (h₀ := X.base) I.ok.mod.kin kp (thn (ha pos pins s σ H _ I h) fun us s1 ⟨vs, H1, I1, r, q⟩ => ⟨I1.kIn, ?_⟩) he hpl
  have r2 : Vals (vs ++ []) (us ++ []) := r.append .nil
  have hl : (us ++ []).length = ps.length := by rw [← r2.length]; exact G.len _ _ _ _ q
  refine wpAny_call (codeAny_mono (G.run X.A X.stack s1 H1 ⟨us, []⟩ (us ++ []) (vs ++ []) _ E hr I1.env0 (b s1 us I1.kIn hl) r2 q) fun rr s' hq => ?_)
  cases rr with
  | error e => exact hp pins H1 s1 e s' I1 hq
  | ok fl =>
    cases fl with
    | next => exact False.elim hq
    | brk => exact False.elim hq
    | cont => exact False.elim hq
    | ret u =>
      obtain ⟨v, H2, I2, r3, q2⟩ := I1.after hq
      exact store_ok I2 hN hi hy r3 (fun s3 I3 => wpAny_execs_nil ⟨_, H2, I3, q2⟩) hf
end
def tTry1 (Ek : XK) (i : Nat) (tb th : TS) : TS := fun D σ H => tb D σ H ∧ ∀ (C a : Addr) (H' : Hp), Ek (.ref C) none H' → H' a = none →
  th { nx := fun σ2 H2 => ∃ v, σ2[i]? = some (some v) ∧ D.nx ((σ2.set i (some .non)).set i none) H2, rt := fun _ _ => False } (σ.set i (some (.ref a))) (upd H' a (excO a C))
end L2
namespace L2
open PySem PySem.Spec PyProof.Rows PySem.W
/-! ### a sort, told exactly: the same questions, the same answers -/
def runT (c : Nat → Nat → Bool) {α : Type} : KasT α → α
  | .ret a => a
  | .ask i j k => runT c (k (c i j))
/-- the places of n items behind the sort -/
def sortIx (c : Nat → Nat → Bool) (n : Nat) : List Nat := if n < 2 then List.range n else (runT c (kas_sort n)).toList
section
variable {prog : Program} {w : World} {A : Around} {E : Value → Shared → Prop} {s : Shared}
end
/-! ### tuples of a number and a tuple of numbers, compared -/
def ltK (k1 : Int) (ns : List Int) (k2 : Int) (ms : List Int) : Bool := if k1 = k2 then (if ns = ms then false else HT.lexLt ns ms) else decide (k1 < k2)
section
variable {X : Cx} {pins : List (Addr × Obj)} {σ : St} {H : Hp} {s : Shared}
end
end L2
namespace L2
open PySem PySem.Spec PyProof.Rows PySem.W
section
variable {X : Cx} {pins : List (Addr × Obj)} {σ : St} {H : Hp} {s : Shared} {h' : Heap}
end
/-- how two rows of numbers stand: by their lengths, then sign by sign -/
def cI (rows : List (List Int)) (i j : Nat) : Bool := ltK ((rows.getD i []).length : Nat) (rows.getD i []) ((rows.getD j []).length : Nat) (rows.getD j [])
section
variable {X : Cx} {pins : List (Addr × Obj)} {σ : St} {H : Hp} {s : Shared} {Q : VK}
/-! ### sorted(l), l of tuples (a length, a tuple of numbers), told exactly -/
inductive RSortE (x : V) (H : Hp) (Q : VK) : Prop where | mk (p : Addr) (ts : List Addr) (rows : List (List Int)) (e : x = .ref p) (h : H p = some (.lst (ts.map V.ref))) (hl : ts.length = rows.length) (h64 : rows.length < 64)
    (hrow : ∀ (i : Nat) (t : Addr) (r : List Int), ts[i]? = some t → rows[i]? = some r → ∃ rt, H t = some (.tup [.int (r.length : Nat), .ref rt]) ∧ H rt = some (.tup (r.map V.int)))
    (q : ∀ l, H l = none → Q (.ref l) (upd H l (.lst (((sortIx (cI rows) rows.length).map fun i => ts.getD i 0).map V.ref)))) : RSortE x H Q
def rSortE : List V → Hp → VK → Prop := fun xs H Q => ∃ x, xs = [x] ∧ RSortE x H Q
end
end L2
namespace L2
open PySem PySem.Spec PyProof.Rows PySem.W
section
variable {X : Cx} {pins : List (Addr × Obj)} {σ : St} {H : Hp} {s : Shared} {Q : VK}
/-! ### sorted(l, key = f), f an own def that tells (a length, the row) -/
inductive RSortK (sp : Sp) (x : V) (H : Hp) (Q : VK) : Prop where | mk (p : Addr) (ts : List Addr) (rows : List (List Int)) (e : x = .ref p) (h : H p = some (.lst (ts.map V.ref))) (hl : ts.length = rows.length) (h64 : rows.length < 64)
    (hrow : ∀ (i : Nat) (t : Addr) (r : List Int), ts[i]? = some t → rows[i]? = some r → H t = some (.tup (r.map V.int)))
    (hsp : ∀ (t : Addr) (r : List Int) (H' : Hp) (Q' : VK), H' t = some (.tup (r.map V.int)) → r ∈ rows → (∀ u H'', Same H' H'' → H' u = none → H'' u = some (.tup [.int (r.length : Nat), .ref t]) → Q' (.ref u) H'') → sp [.ref t] H' Q' E0)
    (q : ∀ (l : Addr) (H' : Hp), Same H H' → H l = none → H' l = some (.lst (((sortIx (cI rows) rows.length).map fun i => ts.getD i 0).map V.ref)) → Q (.ref l) H') : RSortK sp x H Q
/-- the keys made so far -/
structure KeyJ (X : Cx) (pins : List (Addr × Obj)) (σ : St) (H : Hp) (kS : Addr) (ts : List Addr) (rows : List (List Int)) (i : Nat) (s : Shared) (Hi : Hp) (us : List Addr) : Prop where
  inv : Inv X pins σ Hi s
  sm : Same H Hi
  lst : Hi kS = some (.lst (us.map V.ref))
  len : us.length = i
  at_ : ∀ (j : Nat) (u t : Addr) (r : List Int), us[j]? = some u → ts[j]? = some t → rows[j]? = some r → Hi u = some (.tup [.int (r.length : Nat), .ref t])
end
end L2
namespace L2
open PySem PySem.Spec PyProof.Rows PySem.W
section
variable {X : Cx}
def tSortK (sp : Sp) (te : TE) : TE := fun σ H Q => tCons te tNil σ H fun xs H1 => ∃ x, xs = [x] ∧ RSortK sp x H1 Q
end
/-- nothing is raised -/
def EF : XK := fun _ _ _ => False
end L2
namespace L2
open PySem PySem.Spec PyProof.Rows PySem.W
section
variable {X : Cx}
/-! ### texts -/
inductive REnds (x : V) (vs : List V) (H : Hp) (Q : VK) : Prop where | mk (a b : Str) (e1 : x = .str a) (e2 : vs = [.str b]) (q : Q (.bl (Txt.endswith a b)) H) : REnds x vs H Q
theorem mt_ends : MtM X "str.endswith" REnds := by
  intro pins s σ H x vs v us Q I rx rv h
  obtain ⟨a, b, rfl, rfl, q⟩ := h
  obtain ⟨t, rfl⟩ := rx
  obtain ⟨u, rfl, t2, rfl⟩ := rv.one
  exact SC.endswith ⟨.bl _, H, I, rfl, q⟩
theorem vals_strsFrom : ∀ (l : List Str) (k : Nat), Vals (l.map V.str) (strsFrom k l)
  | [], _ => .nil
  | a :: l, k => .cons ⟨k, rfl⟩ (vals_strsFrom l (k + 1))
inductive RSplit (x : V) (vs : List V) (H : Hp) (Q : VK) : Prop where | mk (a b : Str) (e1 : x = .str a) (e2 : vs = [.str b]) (h1 : b.length ≠ 0) (h2 : a.length ≤ 100000) (h3 : (Txt.split a b).length ≤ 100001) (q : ∀ l, H l = none → Q (.ref l) (upd H l (.lst ((Txt.split a b).map V.str)))) : RSplit x vs H Q
theorem mt_split : MtM X "str.split" RSplit := by
  intro pins s σ H x vs v us Q I rx rv h
  obtain ⟨a, b, rfl, rfl, h1, h2, h3, q⟩ := h
  obtain ⟨t, rfl⟩ := rx
  obtain ⟨u, rfl, t2, rfl⟩ := rv.one
  have hb : (b.length == 0) = false := by simpa using h1
  have hf : H s.heap.objs.size = none := I.hok.fresh (Nat.le_refl _)
  have hz : ((Txt.split a b).map V.str).length ≤ sizeLine := by rw [List.length_map, sizeLine_eq]; omega
  have fin : ∀ (its : List Value) (k : Nat), Vals ((Txt.split a b).map V.str) its → EP X pins σ Q (.ref s.heap.objs.size) { s with toks := k, heap := s.heap.push { cls := .type "list", data := .seq its.toArray } } := fun its k r =>
    ⟨.ref s.heap.objs.size, _, I.laid (t' := k) (o := .lst ((Txt.split a b).map V.str)) (fun c u e => Heap.get?_push_of_some _ e) (Nat.le_refl _) ⟨hz, its, 0, r, Heap.get?_push_size _ rfl⟩, rfl, q _ hf⟩
  by_cases c1 : (decide (a.length < b.length) || decide (Builtin.Str.strKind a < Builtin.Str.strKind b)) = true
  · have es : Txt.split a b = [a] := by unfold Txt.split; rw [if_pos c1]
    refine call_meets PySem.F.slot_str_split (typeIs_str _ _ _) PySem.F.entry_str_split (PySem.F.args_str_split_2 _ _) (meets_str_split_cannot_occur a b t t2 c1) ?_
    exact fin [.str a t] s.toks (by rw [es]; exact .cons ⟨t, rfl⟩ .nil)
  · have c1' := eq_false_of_ne_true c1
    by_cases c2 : (Builtin.Str.occurrences a b 0 a.length (a.length + 1)).isEmpty = true
    · have es : Txt.split a b = [a] := by unfold Txt.split; rw [if_neg c1, if_pos c2]
      refine call_meets PySem.F.slot_str_split (typeIs_str _ _ _) PySem.F.entry_str_split (PySem.F.args_str_split_2 _ _) (meets_str_split_not_found a b t t2 c1' hb c2) ?_
      exact fin [.str a t] s.toks (by rw [es]; exact .cons ⟨t, rfl⟩ .nil)
    · have es : Txt.split a b = Builtin.Str.partsBetween a (Builtin.Str.occurrences a b 0 a.length (a.length + 1)) b.length := by unfold Txt.split; rw [if_neg c1, if_neg c2]
      refine call_meets PySem.F.slot_str_split (typeIs_str _ _ _) PySem.F.entry_str_split (PySem.F.args_str_split_2 _ _) (meets_str_split_sep a b t t2 c1' hb (eq_false_of_ne_true c2) (by rw [sizeLine_eq]; omega) (by rw [← es, sizeLine_eq]; omega)) ?_
      exact fin _ _ (by rw [← es]; exact vals_strsFrom _ _)
theorem vals_strs : ∀ {ws : List Str} {its : List Value}, Vals (ws.map V.str) its → ∃ l : List (Str × Tok), its = strValues l ∧ l.map (·.1) = ws
  | [], _, .nil => ⟨[], rfl, rfl⟩
  | w :: ws, _, .cons ⟨t, e⟩ r => by
    obtain ⟨l, e1, e2⟩ := vals_strs (ws := ws) r
    exact ⟨(w, t) :: l, by rw [e, e1]; rfl, by rw [List.map_cons, e2]⟩
inductive RJoin (K : PySem.W.Frag) (x : V) (vs : List V) (H : Hp) (Q : VK) : Prop where | mk (a : Str) (p : Addr) (ws : List Str) (e1 : x = .str a) (e2 : vs = [.ref p]) (h : SqL K H p (ws.map V.str)) (h1 : (ws.map (·.length)).sum + ws.length * a.length ≤ 1000000) (q : Q (.str (Str.join a ws)) H) : RJoin K x vs H Q
theorem mt_join : MtM X "str.join" (RJoin X.K) := by
  intro pins s σ H x vs v us Q I rx rv h
  obtain ⟨a, p, ws, rfl, rfl, hp, h1, q⟩ := h
  obtain ⟨t, rfl⟩ := rx
  obtain ⟨u, rfl, ru⟩ := rv.one
  cases ru
  obtain ⟨its, r, pl, hz⟩ := I.list hp
  obtain ⟨l, rfl, el⟩ := vals_strs r
  have hl : Builtin.Str.tooLong ((l.map (·.1)).toArray.foldl (fun (k : Nat) (y : Str) => k + y.length + a.length) 0) = false := by
    rw [StrLaws.joinTotal, el]
    unfold Builtin.Str.tooLong
    rw [sizeLine_eq]
    exact decide_eq_false (by omega)
  refine call_meets PySem.F.slot_str_join (typeIs_str _ _ _) PySem.F.entry_str_join (PySem.F.args_str_join_2 _ _) (meets_str_join_list a t p l hl) ⟨pl.isList, ?_⟩
  have eg := StrLaws.glued_eq_join a (l.map (·.1))
  rw [el] at eg
  have len : (Builtin.Str.glued a (l.map (·.1))).length ≤ sizeLine := by
    rw [sizeLine_eq, el, eg]
    have key : ∀ ws : List Str, (Str.join a ws).length ≤ (ws.map (·.length)).sum + ws.length * a.length := by
      intro ws
      induction ws with
      | nil => simp [Str.join, Str.empty, Str.length]
      | cons w ws ih =>
        cases ws with
        | nil => simp [Str.join]
        | cons w2 ws =>
          show (w ++ a ++ Str.join a (w2 :: ws)).length ≤ _
          rw [Str.length_append, Str.length_append]
          simp only [List.map_cons, List.sum_cons, List.length_cons] at ih ⊢
          rw [Nat.succ_mul]
          omega
    have := key ws
    omega
  match l, el, len with
  | [], el, len =>
    exact ⟨len, .str (Str.join a ws), H, I.tok _, ⟨s.toks, by rw [← eg, ← el]⟩, q⟩
  | [pp], el, _ =>
    have : ws = [pp.1] := el.symm
    subst this
    exact ⟨.str pp.1, H, I, ⟨pp.2, rfl⟩, q⟩
  | p1 :: p2 :: r, el, len =>
    exact ⟨len, .str (Str.join a ws), H, I.tok _, ⟨s.toks, by rw [← eg, ← el]⟩, q⟩
/-- x[lo:hi] of a text -/
inductive RSlS (x : V) (lo hi : Option Int) (H : Hp) (Q : VK) : Prop where | mk (a : Str) (e : x = .str a) (h : a.length ≤ 100000) (q : Q (.str (Txt.slice a lo hi)) H) : RSlS x lo hi H Q
theorem part_of {v : Value} {o : Option Int} (p : IsPart v o) : ∃ l : Option (Int × Tok), v = partValue l ∧ l.map (·.1) = o := by
  cases p with
  | none => exact ⟨none, rfl, rfl⟩
  | int i t => exact ⟨some (i, t), rfl, rfl⟩
theorem sl_str : SlR X RSlS := by
  intro pins s σ H x v vl vu lo hi sl Q I rx hs pl pu h
  obtain ⟨a, rfl, hl, q⟩ := h
  obtain ⟨t, rfl⟩ := rx
  obtain ⟨l, rfl, rfl⟩ := part_of pl
  obtain ⟨u, rfl, rfl⟩ := part_of pu
  refine ⟨"str", _, PySem.F.slot_str_getitem.lookup, typeIs_str _ _ _, wpAny_getItem_str_slice (l := l) (u := u) (st := none) hs rfl ?_⟩
  refine post_val_or_str ⟨Nat.le_trans (Txt.slice_le a _ _) (by rw [sizeLine_eq]; omega), fun t' k => ?_⟩
  exact ⟨.str (Txt.slice a (l.map (·.1)) (u.map (·.1))), H, I.tok k, ⟨t', rfl⟩, q⟩
/-! ### f'{i}..', f'{i}..{j}' -/
theorem pe_fstr2 {b : Str} {kb : _} {pb pf pos : Pos} {e : Expr} {te : TE} (he : PE X e te) :
    PE X (.JoinedStr [.FormattedValue e (-1) none pf, .Constant (.str b) kb pb] pos) (fun σ H Q => te σ H fun x H1 => ∃ i : Int, x = .int i ∧ i.natAbs.log2 < 1920 ∧ (Str.empty ++ (toString i : String)).length ≤ sizeLine ∧ (Str.empty ++ (toString i : String) ++ b).length ≤ sizeLine ∧ Q (.str (Str.empty ++ (toString i : String) ++ b)) H1) := by
  intro pins s σ H Q I h
  refine wpAny_JoinedStr ?_
  refine wpAny_FormattedValue_plain ?_
  refine wpAny_mono (he pins _ σ H _ I h) (fun u s1 z => ?_) fun _ _ y => y
  obtain ⟨v, H1, I1, r, i, rfl, hlog, l2, l3, q⟩ := z
  obtain ⟨t, rfl⟩ := r
  refine wpAny_formatField_int hlog ⟨_, _, rfl, l2, ?_⟩
  refine Calls.Constant_str ⟨b, _, rfl, l3, l3, ?_⟩
  exact ⟨.str _, H1, I1.tok _, ⟨_, rfl⟩, q⟩
theorem pe_fstrP {b : Str} {kb : _} {pb pf pf2 pos : Pos} {e e2 : Expr} {te te2 : TE} (he : PE X e te) (he2 : PE X e2 te2) :
    PE X (.JoinedStr [.FormattedValue e (-1) none pf, .Constant (.str b) kb pb, .FormattedValue e2 (-1) none pf2] pos) (fun σ H Q => te σ H fun x H1 => ∃ i : Int, x = .int i ∧ i.natAbs.log2 < 1920 ∧ (Str.empty ++ (toString i : String)).length ≤ sizeLine ∧ (Str.empty ++ (toString i : String) ++ b).length ≤ sizeLine ∧
      te2 σ H1 fun y H2 => ∃ j : Int, y = .int j ∧ j.natAbs.log2 < 1920 ∧ (Str.empty ++ (toString i : String) ++ b ++ (toString j : String)).length ≤ sizeLine ∧ Q (.str (Str.empty ++ (toString i : String) ++ b ++ (toString j : String))) H2) := by
  intro pins s σ H Q I h
  refine wpAny_JoinedStr ?_
  refine wpAny_FormattedValue_plain ?_
  refine wpAny_mono (he pins _ σ H _ I h) (fun u s1 z => ?_) fun _ _ y => y
  obtain ⟨v, H1, I1, r, i, rfl, hlog, l2, l3, q⟩ := z
  obtain ⟨t, rfl⟩ := r
  refine wpAny_formatField_int hlog ⟨_, _, rfl, l2, ?_⟩
  refine Calls.Constant_str ⟨b, _, rfl, l3, ?_⟩
  refine wpAny_FormattedValue_plain ?_
  refine wpAny_mono (he2 pins _ σ H1 _ (I1.tok _) q) (fun u s1 z => ?_) fun _ _ y => y
  obtain ⟨v, H2, I2, r, j, rfl, hlog2, l4, q2⟩ := z
  obtain ⟨t, rfl⟩ := r
  refine wpAny_formatField_int hlog2 ⟨_, _, rfl, l4, l4, ?_⟩
  exact ⟨.str _, H2, I2.tok _, ⟨_, rfl⟩, q2⟩
end
end L2
namespace L2
open PySem PySem.Spec PyProof.Rows
/-! ### an exception that leaves a comprehension -/
theorem note_same {x : Value} {e1 e2 : Env} (h : e1.frame = e2.frame) : noteFrame x e1 = noteFrame x e2 := by
  unfold noteFrame PySem.frameOf
  rw [h]
def flV (fl : Option Addr) : Value := fl.elim .none fun f => rawInt f
/-- traced, whatever its last entry's mark -/
def HeldAny (base : Heap) (l : List Env) (e : Addr) (cls a0 : Value) (h : Heap) : Prop := base.StaysIn h ∧ base.get? e = none ∧ h.FunFrames base l ∧ ∃ fl, h.TracedAtW base e cls a0 (flV fl)
section
variable {M : Model} {A : Around} {E : Value → Shared → Prop} {s : Shared}
theorem leaves_any {base : Heap} {env : Env} {outer : List Env} {L e : Addr} {cls a0 : Value} {Q : Unit → Shared → Prop} (hfr : A.frames = some (env :: outer)) (hf : env.frame = some L) (hh : HeldAny base (env :: outer) e cls a0 s.heap)
    (hQ : ∀ h', Heap.FlyingW base outer e cls a0 h' → s.heap.UpToSlots h' → Q () { s with heap := h' }) : wpAny M A (leaving env (.ref e)) Q E s := by
  obtain ⟨f1, f2, f3, fl, f4⟩ := hh
  cases fl with
  | none => exact wpAny_leaves_onW hfr hf ⟨f1, f2, f3, f4⟩ hQ
  | some g =>
    by_cases hg : g = L
    · subst hg
      unfold leaving
      refine wpAny_bind (wpAny_noteFrame_againW hf f4 ?_)
      refine wpAny_landsW (L := g) ⟨f1, f2, f3, f4⟩ fun h' hfl up => ?_
      obtain ⟨k1, k2, ⟨_, _, k3⟩, k4⟩ := hfl
      exact hQ h' ⟨k1, k2, k3, k4⟩ up
    · obtain ⟨oe, vs, T, oT, ts, he, ⟨hcls, h0⟩, hd, h1, hnT, hTe, hT, hdT, h3⟩ := f4
      subst hcls
      unfold leaving noteFrame
      simp only [hf]
      refine wpAny_bind (wpAny_bind (wpAny_field he hd h1 ?_))
      rw [if_pos (show (Value.ref T != Value.none) = true from by simp)]
      refine wpAny_bind (wpAny_field hT hdT h3 ?_)
      rw [if_neg (show ¬ ((flV (some g) == rawInt L) = true) from fun z => hg (by
        have : rawInt g = rawInt L := eq_of_beq z
        unfold rawInt at this
        injection this with this
        exact Int.ofNat.inj this))]
      refine wpAny_bind (wpAny_setField hT hdT (Array.getElem?_eq_some_iff.mp h3).1 ?_)
      have other : ∀ b, b ≠ T → (s.heap.update T (Obj.mapFields (·.setIfInBounds 3 Value.none))).get? b = s.heap.get? b := fun b hb => Heap.get?_update_other _ _ (Ne.symm hb)
      have plain : ∀ b o, s.heap.get? b = some o → (∀ vs, o.data ≠ .fields vs) → b ≠ T := fun b o hb hnf q => by
        rw [q, hT] at hb; injection hb with hb; subst hb; exact hnf ts hdT
      refine wpAny_newEntryW hfr (f3.of_keeps fun b o hb hnf => ⟨o, (other b (plain b o hb hnf)).trans hb, rfl⟩) hf ((other e (Ne.symm hTe)).trans he)
        (fun b o hbo => (other b fun q => by rw [q, hnT] at hbo; cases hbo).trans (f1 b o hbo)) f2 hd (Array.getElem?_eq_some_iff.mp h1).1 h0 fun h' ⟨x1, ⟨_, _, x2⟩, x3, x4⟩ => ?_
      exact hQ h' ⟨x1, f2, x2, x3⟩ fun b o hb hnf => x4 b o ((other b (plain b o hb hnf)).trans hb) hnf
theorem setFlight_any {base : Heap} {l : List Env} {e : Addr} {cls a0 : Value} {fl : Option Addr} {Q : Unit → Shared → Prop} (R : HeldAny base l e cls a0 s.heap)
    (h : ∀ h', HeldAny base l e cls a0 h' → s.heap.UpToSlots h' → Q () { s with heap := h' }) : wpAny M A (setFlight (.ref e) fl) Q E s := by
  obtain ⟨hkb, hen, hl, fl0, oe, vs, T, oT, ts, he, hcls, hd, h1, hnT, hTe, hT, hdT, h3⟩ := R
  have hsz3 : 3 < ts.size := (Array.getElem?_eq_some_iff.mp h3).1
  have other : ∀ b, b ≠ T → (s.heap.update T (Obj.mapFields (·.setIfInBounds 3 (fl.elim Value.none fun f => rawInt f)))).get? b = s.heap.get? b := fun b hb => Heap.get?_update_other _ _ (Ne.symm hb)
  have plain : ∀ b o, s.heap.get? b = some o → (∀ vs, o.data ≠ .fields vs) → b ≠ T := fun b o hb hnf q => by
    rw [q, hT] at hb; injection hb with hb; subst hb; exact hnf ts hdT
  unfold setFlight
  refine wpAny_bind (wpAny_field he hd h1 ?_)
  rw [if_pos (show (Value.ref T != Value.none) = true from by simp)]
  refine wpAny_setField hT hdT hsz3 (h _ ⟨fun b o hbo => (other b fun q => by rw [q, hnT] at hbo; cases hbo).trans (hkb b o hbo), hen,
    hl.of_keeps fun b o hb hnf => ⟨o, (other b (plain b o hb hnf)).trans hb, rfl⟩, fl, ?_⟩ fun b o hb hnf => ⟨o.slots, (other b (plain b o hb hnf)).trans hb⟩)
  exact ⟨oe, vs, T, _, _, (other e (Ne.symm hTe)).trans he, hcls, hd, h1, hnT, hTe, Heap.get?_update_self _ hT (Obj.isFreed_of_fields (Obj.data_mapFields hdT _)), Obj.data_mapFields hdT _, by simp [hsz3, flV]⟩
end
/-- how an exception lies that comes out of a comprehension, whose own objects may be gone -/
def CX1x (ex : List Addr) (P : Program) (w : World) : CXT := fun outer H s E e s' => ∃ (a C : Addr) (a0 : Value) (B : Heap) (H' : Hp), e = .ref a ∧ s.heap.get? a = none ∧ s'.os = s.os ∧ AllBare s'.gens ∧ HeldAny B outer a (.ref C) a0 s'.heap ∧
  Un (frs outer) ex H H' s.heap s'.heap ∧ HOk P w H' s'.heap ∧ (∀ b o, H' b = some o → ∃ ob, B.get? b = some ob) ∧ (∀ b o, s.heap.get? b = some o → b ∉ frs outer → b ∉ ex → ∃ ob, B.get? b = some ob) ∧ E (.ref C) none H'
def PassesX (X : Cx) (E : XK) : Prop := ∀ (ex : List Addr) (pins : List (Addr × Obj)) (σ : St) (H : Hp) (s : Shared) (e : Value) (s' : Shared), Inv X pins σ H s → (∀ b ∈ ex, X.s₀.heap.objs.size ≤ b ∧ b ∉ frs X.stack) → CX1x ex X.prog X.w X.stack H s E e s' → X.xe e s'
section
variable {P : Program} {w : World} {K : PySem.W.Frag} {mg : Str → Option Value} {base : Heap} {N : List Str} {qual : Str} {scope : Scope} {f : Addr} {cd : Value} {A : Around} {outer : List Env} {s : Shared} {H : Hp} {E : XK}
theorem left_frameX {CX : CXT} {ex : List Addr} {pins : List (Addr × Obj)} {σ : St} {H1 H2 : Hp} {s1 : Shared} {h1 h2 B : Heap} (I : Inv (cxOf CX P w K mg base N qual scope f cd A outer s H E) pins σ H1 s1) (hex : ∀ b ∈ ex, s.heap.objs.size ≤ b ∧ b ∉ frs (envOfC qual scope s.heap.objs.size f cd :: outer))
    (un : Un (frs (envOfC qual scope s.heap.objs.size f cd :: outer)) ex H1 H2 s1.heap h1) (ok : HOk P w H2 h1) (hB : B.StaysIn h2) (hB1 : B.StaysIn h1) (tr : ∀ b o, H2 b = some o → ∃ ob, B.get? b = some ob)
    (old : ∀ b o, s1.heap.get? b = some o → b ∉ frs (envOfC qual scope s.heap.objs.size f cd :: outer) → b ∉ ex → ∃ ob, B.get? b = some ob)
    (up : ∀ b o, h1.get? b = some o → (∀ vs, o.data ≠ .fields vs) → ∃ sl, h2.get? b = some { o with slots := sl }) :
    Un (frs outer) [] H H2 s.heap h2 ∧ HOk P w H2 h2 ∧ ∀ b o, s.heap.get? b = some o → b ∉ frs outer → ∃ ob, B.get? b = some ob := by
  have hst := I.stack
  have nex : ∀ b o, s.heap.get? b = some o → b ∉ ex := fun b o e z => absurd (Heap.lt_size e) (Nat.not_lt.mpr (hex b z).1)
  have nexf : ∀ b, b ∈ frs (envOfC qual scope s.heap.objs.size f cd :: outer) → b ∉ ex := fun b hb z => (hex b z).2 hb
  have nin : ∀ b o, s.heap.get? b = some o → b ∉ frs outer → b ∉ frs (envOfC qual scope s.heap.objs.size f cd :: outer) := fun b o e nm z => by
    rcases List.mem_cons.mp (I.stkSub b z) with q | q
    · exact Nat.lt_irrefl _ (by have := Heap.lt_size e; rw [q] at this; exact this)
    · exact nm q
  have kB : ∀ b o, s.heap.get? b = some o → H b = none → b ∉ frs outer → B.get? b = some o := fun b o e n nm => by
    have e1 := I.base.keep b o e n nm (by show b ∉ []; simp)
    have n1 := I.base.free b o e n (by show b ∉ []; simp)
    obtain ⟨ob, q⟩ := old b o e1 (nin b o e nm) (nex b o e)
    have q1 := hB1 b ob q
    rw [un.keep b o e1 n1 (nin b o e nm) (nex b o e)] at q1
    cases q1
    exact q
  have sub : ∀ b, b ∈ frs outer → b ∈ frs (envOfC qual scope s.heap.objs.size f cd :: outer) := fun b hb => by
    obtain ⟨env, he, hf⟩ := List.mem_filterMap.mp hb
    exact mem_frs (List.mem_cons_of_mem _ he) hf
  have fr : ∀ b o, s1.heap.get? b = some o → b ∈ frs (envOfC qual scope s.heap.objs.size f cd :: outer) → ∃ sl, h2.get? b = some { o with slots := sl } := fun b o e hb => by
    obtain ⟨_, o', e', d'⟩ := hst.mem hb
    rw [e] at e'; cases e'
    obtain ⟨sl, e2⟩ := un.slot b o e (I.stkFree b hb) hb (nexf b hb)
    obtain ⟨sl', e3⟩ := up b _ e2 d'
    exact ⟨sl', e3⟩
  refine ⟨⟨fun b o e n nm _ => hB b o (kB b o e n nm), fun b o e n hb _ => ?_, fun b o e n _ => ?_, fun b o e _ => ?_, fun b xs e => un.tups b xs (I.base.tups b xs e), fun b o u e => un.frzs b o u (I.base.frzs b o u e), fun b ps e => ?_⟩, fun b u e => ?_, fun b o e nm => ?_⟩
  · obtain ⟨sl, e1⟩ := I.base.slot b o e n hb (by show b ∉ []; simp)
    obtain ⟨sl', e2⟩ := fr b _ e1 (sub b hb)
    exact ⟨sl', e2⟩
  · obtain ⟨o', e1⟩ := I.base.there b o e (by show b ∉ []; simp)
    exact un.free b o' e1 (I.base.free b o e n (by show b ∉ []; simp)) (nex b o e)
  · by_cases hb : b ∈ frs (envOfC qual scope s.heap.objs.size f cd :: outer)
    · obtain ⟨o', e1⟩ := I.base.there b o e (by show b ∉ []; simp)
      obtain ⟨sl, e2⟩ := fr b o' e1 hb
      exact ⟨_, e2⟩
    · obtain ⟨o', e1⟩ := I.base.there b o e (by show b ∉ []; simp)
      obtain ⟨ob, q⟩ := old b o' e1 hb (nex b o e)
      exact ⟨ob, hB b ob q⟩
  · obtain ⟨m1, e1⟩ := I.base.tbls b ps e
    obtain ⟨m2, e2⟩ := un.tbls b _ e1
    exact ⟨m1 ++ m2, by rw [e2, Array.append_assoc]⟩
  · have kt : ∀ c v, H2 c = some v → ∀ o, h1.get? c = some o → h2.get? c = some o := fun c v e o q => by
      obtain ⟨ob, z⟩ := tr c v e
      have := hB1 c ob z
      rw [q] at this; cases this
      exact hB c o z
    refine (ok b u e).stay (fun c v hc q => ?_) (fun _ q => q) fun _ _ q => q
    rcases hc with rfl | hc
    · exact kt _ _ e v q
    · exact kt _ _ hc v q
  · obtain ⟨o', e1⟩ := I.base.there b o e (by show b ∉ []; simp)
    exact old b o' e1 (nin b o e nm) (nex b o e)
theorem pass1x : PassesX (cxOf (CX1 P w) P w K mg base N qual scope f cd A outer s H E) E := by
  rintro ex pins σ H1 s1 e s2 I hex ⟨a, C, a0, B, H2, rfl, na, os, bare, fl, un, ok, tr, old, q⟩
  show wpAny (model P w) (A.deeper (envOfC qual scope s.heap.objs.size f cd)) (leaving (envOfC qual scope s.heap.objs.size f cd) (.ref a)) _ _ _
  refine leaves_any (outer := outer) (L := s.heap.objs.size) I.ok.frames rfl fl fun h2 x1 x2 => ?_
  obtain ⟨u1, u2, u3⟩ := left_frameX (h1 := s2.heap) (h2 := h2) I hex un ok x1.1 fl.1 tr old x2
  refine ⟨a, C, a0, B, H2, rfl, ?_, os.trans I.os, bare, x1, u1, u2, tr, u3, q⟩
  cases z : s.heap.get? a with
  | none => rfl
  | some o =>
    obtain ⟨o', z1⟩ := I.base.there a o z (by show a ∉ []; simp)
    rw [na] at z1
    cases z1
end
end L2
namespace PySem
open PySem.Spec PyProof.Rows
section
variable {prog : Program} {w : World} {A : Around} {R : Result → Shared → Prop} {s : Shared}
theorem comp_loopX {elt target iter : Expr} {ifs : List Expr} {scope : Scope} {pos : Pos} {it acc : Value} {env : Env} (I : Nat → Shared → Prop)
    (turn : ∀ n s, I n s → wpAny (model prog w) A (pyNext it) (fun r s₁ => match r with
      | none => R (.ok .next) s₁
      | some v => wpAny (model prog w) A (letOwnedTupleGo target it v) (fun _ s₁' => wpAny (model prog w) A (assign target env v) (fun _ s₂ =>
          wpAny (model prog w) A (forIn ifs true fun c r => if r = true then do let ok ← isTrue c env (eval c env); pure (ForInStep.yield ok) else pure (ForInStep.yield r)) (fun ok s₃ =>
            if ok = true then wpAny (model prog w) A (eval elt env) (fun x s₄ =>
              wpAny (model prog w) A (call (.builtin "list.append") [acc, x]) (fun _ s₅ => ∃ m, m < n ∧ I m s₅) (fun _ _ => False) s₄) (notedBy (model prog w) A env fun e s' => R (.error e) s') s₃
            else ∃ m, m < n ∧ I m s₃) (fun _ _ => False) s₂) (fun _ _ => False) s₁') (fun _ _ => False) s₁) (fun _ _ => False) s)
    (n : Nat) (h : I n s) :
    codeAny (model prog w) A (.compLoop (.ListComp elt [⟨target, iter, ifs, 0⟩] scope pos) 0 it acc env) R s := by
  refine codeAny_loop rfl I (fun n s hI => ?_) n h
  show wpAny _ A ((compTurn (.ListComp elt [⟨target, iter, ifs, 0⟩] scope pos) 0 it acc env).onRaise (fun x => do noteFrame x env; theTreesLotGoes x)) _ _ s
  refine wpAny_noted ?_
  rw [compTurn_list]
  refine wpAny_bind (wpAny_standAt (wpAny_bind (wpAny_mono (turn n s hI) (fun r s₁ h₁ => ?_) fun _ _ h' => h'.elim)))
  cases r with
  | none => exact wpAny_pure h₁
  | some v =>
    refine wpAny_bind (wpAny_mono h₁ (fun _ s₁' h₁' => ?_) fun _ _ h' => h'.elim)
    refine wpAny_bind (wpAny_mono h₁' (fun _ s₂ h₂ => wpAny_bind (wpAny_mono h₂ (fun ok s₃ h₃ => ?_) fun _ _ h' => h'.elim)) fun _ _ h' => h'.elim)
    cases ok with
    | true =>
      simp only [if_true] at h₃ ⊢
      exact wpAny_bind (wpAny_bind (wpAny_mono h₃ (fun x s₄ h₄ => wpAny_bind (wpAny_mono h₄ (fun _ s₅ h₅ => wpAny_pure (wpAny_pure ⟨rfl, h₅⟩)) fun _ _ h' => h'.elim)) fun _ _ h' => h'))
    | false =>
      simp only [Bool.false_eq_true, if_false] at h₃ ⊢
      exact wpAny_pure ⟨rfl, h₃⟩
end
end PySem
namespace L2
open PySem PySem.Spec PyProof.Rows
section
variable {X : Cx} {tg elt iter : Expr} {ifs : List Expr} {scope sc : Scope} {Nm N' : List Str} {cap : List (Option Nat)} {pos : Pos} {wi : TI} {g : TG} {tt : TT} {te : TE}
theorem comp_blockX {pins : List (Addr × Obj)} {s : Shared} {σ : St} {H : Hp} {Q : VK} {E : Value → Shared → Prop} {Ek : XK} {it : Addr} {fp : List Addr} {tn : Nat → Heap → Prop} {J : It} {RR : Value → Addr → Result → Shared → Prop} (hc : X.calm = true)
    (hsc : X.env.scope = sc) (hN : X.N = Nm) (ok : CompOk sc scope Nm N' cap)
    (hg : ∀ cl C s₀ H₀ ex pn, PG (compCx X N' scope cl C s₀ H₀ ex pn) tg g) (ht : ∀ cl C s₀ H₀ ex pn, PIfs (compCx X N' scope cl C s₀ H₀ ex pn) ifs tt) (he : ∀ cl C s₀ H₀ ex pn E1, Passes (CX1 X.prog X.w) ((compCx X N' scope cl C s₀ H₀ ex pn).wish E1) Ek → PE ((compCx X N' scope cl C s₀ H₀ ex pn).wish E1) elt te)
    (I : Inv X pins σ H s) (T : Turn X.prog X.w X.K tg J fp it tn) (st : tn 0 s.heap) (hf : ∀ b ∈ fp, FpOk X pins H b) (h : ∀ p, H p = none → CompGoes p (capSt cap σ) g tt te Q J H)
    (hRR : ∀ (p C : Addr) (H' : Hp) (s' : Shared) (m : Str → Option Value), s.heap.objs.size ≤ C → s'.heap.Ns C m → H' C = none → Inv X pins σ H' s' → Q (.ref p) H' → RR (.ref p) C (.ok .next) s')
    (hRE : ∀ (p C : Addr) (H' : Hp) (s' : Shared) (m : Str → Option Value) (e : Value) (s2 : Shared), s.heap.objs.size ≤ C → C ∉ frs X.stack → s'.heap.Ns C m → H' C = none → Inv X pins σ H' s' → CX1 X.prog X.w X.stack H' s' Ek e s2 → ∀ cenv : Env, cenv.frame = X.env.frame → notedBy (model X.prog X.w) X.A cenv (fun e s3 => RR (.ref p) C (.error e) s3) e s2) :
    wpAny (model X.prog X.w) X.A (newList []) (fun acc s₃ => wpAny (model X.prog X.w) X.A (newFunctionEnv scope X.env.globals (cloL X.env.cells scope.names []) [] X.env.qual none .none (some X.env)) (fun cenv s₄ =>
      codeAny (model X.prog X.w) X.A (.compStart (.ListComp elt [⟨tg, iter, ifs, 0⟩] scope pos) 0 (.ref it) acc { cenv with scope := relabel scope X.env }) (RR acc cenv.locals) s₄) E s₃) E s := by
  have fr : H s.heap.objs.size = none := I.hok.fresh (Nat.le_refl _)
  obtain ⟨W, ⟨m0, w0⟩, turn⟩ := h _ fr
  refine wpAny_newObj_type (wpAny_newFunctionEnv ok.nocell (by intro y hy; simp at hy) (fun h₁ hns₁ hsb₁ => ?_) ok.kind)
  dsimp only at hns₁ hsb₁ ⊢
  -- the list is laid
  have I1 : Inv X pins σ (upd H s.heap.objs.size (.lst [])) { s with heap := s.heap.push { cls := .type "list", data := .seq ([] : List Value).toArray } } := by
    have := I.lnew (its := []) (t' := s.toks) .nil (Nat.zero_le _)
    exact this
  have hf1 : ∀ b ∈ fp, FpOk X pins (upd H s.heap.objs.size (.lst [])) b := fun b hb => by
    obtain ⟨o, e, _⟩ := T.obj _ _ st b hb
    refine ⟨?_, (hf b hb).2⟩
    rw [upd_ne (Nat.ne_of_lt (Heap.lt_size e))]
    exact (hf b hb).1
  have hfo1 : ∀ b ∈ fp, ∃ o, (s.heap.push { cls := .type "list", data := .seq ([] : List Value).toArray }).get? b = some o := fun b hb => by
    obtain ⟨o, e, _⟩ := T.obj _ _ st b hb
    exact ⟨o, Heap.get?_push_of_some _ e⟩
  have keep1 : ∀ b o, (s.heap.push { cls := .type "list", data := .seq ([] : List Value).toArray }).get? b = some o → h₁.get? b = some o := fun b o e =>
    hsb₁.extBut b o (Nat.ne_of_lt (Heap.lt_size e)) (Heap.get?_push_of_some _ e)
  have I2 := I1.comp (h' := h₁) (t := s.toks + ([] : List (Str × Value)).length) hsc hN ok hf1 hfo1 hns₁ keep1
  have st1 : tn 0 h₁ := T.keep _ _ _ st fun b hb o e => keep1 b o (Heap.get?_push_of_some _ e)
  have hCsz : s.heap.objs.size ≤ (s.heap.push { cls := .type "list", data := .seq ([] : List Value).toArray }).objs.size := by rw [Heap.size_push]; exact Nat.le_succ _
  -- what stays true of the iterator's objects
  have stat : ∀ {H' : Hp}, (∀ b ∈ fp, H' b = none) → ∀ b ∈ fp, FpOk (compCx X N' scope (cloL X.env.cells scope.names []) (s.heap.push { cls := .type "list", data := .seq ([] : List Value).toArray }).objs.size { s with heap := s.heap.push { cls := .type "list", data := .seq ([] : List Value).toArray } } (upd H s.heap.objs.size (.lst [])) fp (X.pn ++ pins)) [] H' b := fun hn b hb => by
    obtain ⟨o, e⟩ := hfo1 b hb
    refine ⟨hn b hb, Nat.ne_of_lt (Heap.lt_size e), fun z => ?_, .inl hb, fun x c e' => (hf b hb).2.2.2.2.1 x c (cloL_sound _ _ [] x c (fun y d z => by simp at z) e'), fun p hp => ?_⟩
    · rcases List.mem_cons.mp (I.stkSub b z) with q | q
      · exact (hf b hb).2.1 q
      · exact (hf b hb).2.2.1 q
    · have hp' : p ∈ (X.pn ++ pins) ++ [] := hp
      rw [List.append_nil] at hp'
      exact (hf b hb).2.2.2.2.2 p hp'
  have loop : ∀ s₃ : Shared, s₃ = { s with heap := h₁, toks := s.toks + ([] : List (Str × Value)).length } →
      codeAny (model X.prog X.w) X.A (.compLoop (.ListComp elt [⟨tg, iter, ifs, 0⟩] scope pos) 0 (.ref it) (.ref s.heap.objs.size) (compEnvC scope (cloL X.env.cells scope.names []) (s.heap.push { cls := .type "list", data := .seq ([] : List Value).toArray }).objs.size X.env))
        (RR (.ref s.heap.objs.size) (s.heap.push { cls := .type "list", data := .seq ([] : List Value).toArray }).objs.size) s₃ := by
    rintro s₃ rfl
    generalize hX' : compCx X N' scope (cloL X.env.cells scope.names []) (s.heap.push { cls := .type "list", data := .seq ([] : List Value).toArray }).objs.size { s with heap := s.heap.push { cls := .type "list", data := .seq ([] : List Value).toArray } } (upd H s.heap.objs.size (.lst [])) fp (X.pn ++ pins) = X' at I2 stat
    have eP : X'.prog = X.prog := by rw [← hX']; rfl
    have ew : X'.w = X.w := by rw [← hX']; rfl
    have eK : X'.K = X.K := by rw [← hX']; rfl
    have eA : X'.A = X.A := by rw [← hX']; rfl
    have ec : X'.calm = true := by rw [← hX']; exact hc
    have exe : X'.xe = fun _ _ => False := by rw [← hX']; rfl
    have een : X'.env = compEnvC scope (cloL X.env.cells scope.names []) (s.heap.push { cls := .type "list", data := .seq ([] : List Value).toArray }).objs.size X.env := by rw [← hX']; rfl
    have hg' : PG X' tg g := hX' ▸ hg _ _ _ _ _ _
    have ht' : PIfs X' ifs tt := hX' ▸ ht _ _ _ _ _ _
    have eS : X'.stack = X.stack := by rw [← hX']; rfl
    have he0 : ∀ E1, Passes (CX1 X.prog X.w) (X'.wish E1) Ek → PE (X'.wish E1) elt te := hX' ▸ he _ _ _ _ _ _
    have he1 := he0 (fun e s2 => ∃ pins' σ' H' s', Inv X' pins' σ' H' s' ∧ CX1 X.prog X.w X.stack H' s' Ek e s2) (fun pins' σ' H' s' e s2 I' cx => ⟨pins', σ', H', s', I'.unwish, by rw [← eS]; exact cx⟩)
    have he' : ∀ (pins : List (Addr × Obj)) (s : Shared) (σ : St) (H : Hp) (Q : VK), Inv X' pins σ H s → te σ H Q → wpAny (model X'.prog X'.w) X'.A (eval elt X'.env) (EP X' pins σ Q) (fun e s2 => ∃ pins' σ' H' s', Inv X' pins' σ' H' s' ∧ CX1 X.prog X.w X.stack H' s' Ek e s2) s := fun pins s σ H Q I q =>
      wpAny_mono (he1 pins s σ H Q (I.wish _) q) (fun _ _ ⟨v, H', I', r, q⟩ => ⟨v, H', I'.unwish, r, q⟩) fun _ _ z => z
    have ha' : MtM X' "list.append" rAppend := mt_append
    unfold PG at hg'
    unfold PIfs at ht'
    unfold MtM at ha'
    rw [eP, ew, eA, exe, een] at hg' ht'
    rw [eP, ew, eA, een] at he'
    rw [eP, ew, eA, exe] at ha'
    refine comp_loopX (fun n s' => ∃ i σ' ys H', Inv X' [] σ' H' s' ∧ tn i s'.heap ∧ (∀ b ∈ fp, H' b = none) ∧ W i n σ' ys H') ?_ m0 ⟨0, capSt cap σ, [], _, I2, st1, fun b hb => (hf1 b hb).1, w0⟩
    rintro n s3 ⟨i, σ3, ys, H3, I3, st3, fr3, w3⟩
    obtain ⟨hp, hz, step⟩ := turn i n σ3 ys H3 w3
    rcases step with ⟨stop, qn⟩ | ⟨go, N, hNn, step⟩
    · have := T.done X' eP ew eK ec i [] s3 σ3 H3 (fun _ _ => False) I3 (stat fr3) st3 stop
      rw [eA] at this
      refine thn this fun r s4 ⟨hr, I4⟩ => ?_
      subst hr
      obtain ⟨m4, hm4, _⟩ := I4.loc
      have hC4 : H3 X'.env.locals = none := I4.free
      rw [een] at hm4 hC4
      have I4' : Inv X pins σ H3 s4 := by
        rw [← hX'] at I4
        exact I1.uncomp hf1 I4
      exact hRR _ _ _ _ m4 hCsz hm4 hC4 I4' qn
    · have := T.item X' eP ew eK ec i [] s3 σ3 H3 (fun _ _ => False) I3 (stat fr3) st3 go
      rw [eA] at this
      refine thn this fun r s4 ⟨u, hr, h4⟩ => ?_
      subst hr
      refine thn h4 fun _ s5 ⟨x, H5, I5, r5, y5, st5, fr5⟩ => ?_
      have I5' := I5.pinned (stat fr5) (T.obj _ _ st5)
      refine thn (hg' _ s5 σ3 H5 x u _ I5' r5 (step x H5 y5)) fun _ s6 ⟨σ6, H6, I6, q6⟩ => ?_
      refine thn (ht' _ s6 σ6 H6 _ I6 q6) fun b s7 ⟨H7, I7, q7⟩ => ?_
      have again : ∀ {σ8 : St} {H8 : Hp} {s8 : Shared} {ys' : List V}, Inv X' ([] ++ pinsAt fp s5.heap) σ8 H8 s8 → N σ8 ys' H8 → ∃ m, m < n ∧ ∃ i σ' ys H', Inv X' [] σ' H' s8 ∧ tn i s8.heap ∧ (∀ b ∈ fp, H' b = none) ∧ W i m σ' ys H' := fun {σ8 H8 s8 ys'} I8 n8 => by
        obtain ⟨m', hm, w8⟩ := hNn σ8 ys' H8 n8
        refine ⟨m', hm, i + 1, σ8, ys', H8, I8.unpinned, T.keep _ _ _ st5 fun b hb o e => (I8.pin (b, o) (List.mem_append_right _ (List.mem_append_right _ (mem_pinsAt hb e)))).1, fun b hb => ?_, w8⟩
        obtain ⟨o, e, d⟩ := T.obj _ _ st5 b hb
        exact (I8.pin (b, o) (List.mem_append_right _ (List.mem_append_right _ (mem_pinsAt hb e)))).2.1
      cases b with
      | true =>
        simp only [if_true] at q7 ⊢
        refine wpAny_mono (he' _ s7 σ6 H7 _ I7 q7) (fun y s8 ⟨v, H8, I8, r8, q8, n8⟩ => ?_) fun e s8 ⟨pins', σ', H', s', I', cx⟩ => ?_
        rotate_left
        · obtain ⟨m4, hm4, _⟩ := I'.loc
          have hC4 : H' X'.env.locals = none := I'.free
          rw [een] at hm4 hC4
          have Iu : Inv X' [] σ' H' s' := Inv.unpinned (pins := []) (pl := pins') I'
          have I4' : Inv X pins σ H' s' := by
            rw [← hX'] at Iu
            exact I1.uncomp hf1 Iu
          refine hRE _ _ H' s' m4 e s8 hCsz (fun z => ?_) hm4 hC4 I4' cx _ rfl
          obtain ⟨_, o, eo, _⟩ := I1.stack.mem z
          exact Nat.lt_irrefl _ (Heap.lt_size eo)
        refine thn (ha' _ s8 σ6 H8 (.ref s.heap.objs.size) [v] (.ref s.heap.objs.size) [y] (fun _ H9 => N σ6 (ys ++ [v]) H9) I8 rfl (.cons r8 .nil) ⟨_, ys, v, rfl, rfl, q8, hz, n8⟩) fun _ s9 ⟨_, H9, I9, _, n9⟩ => ?_
        exact again I9 n9
      | false =>
        simp only [Bool.false_eq_true, if_false] at q7 ⊢
        exact again I7 q7
  exact codeAny_compStart_list (loop _ rfl) (T.self _ 0 _ _ _ st1 (loop _ rfl))
/-- [e for x in ..] where e may raise -/
theorem pe_compX {Ek : XK} (cap : List (Option Nat)) (N' : List Str) (sc : Scope) (Nm : List Str) (hok : compOkB sc scope Nm N' cap = true) (hc : X.calm = true) (hst : X.stack = X.env :: X.outer) (hfr : X.env.frame = some X.env.locals) (hpx : PassesX X Ek) (hs0 : ∀ pins σ H s, Inv X pins σ H s → X.s₀.heap.objs.size ≤ s.heap.objs.size) (hi : PI X tg iter wi)
    (hg : ∀ cl C s₀ H₀ ex pn, PG (compCx X N' scope cl C s₀ H₀ ex pn) tg g) (ht : ∀ cl C s₀ H₀ ex pn, PIfs (compCx X N' scope cl C s₀ H₀ ex pn) ifs tt) (he : ∀ cl C s₀ H₀ ex pn E1, Passes (CX1 X.prog X.w) ((compCx X N' scope cl C s₀ H₀ ex pn).wish E1) Ek → PE ((compCx X N' scope cl C s₀ H₀ ex pn).wish E1) elt te)
    (hsc : X.env.scope = sc := by rfl) (hN : X.N = Nm := by rfl) (hs : ∀ x, foldedSetIterable iter X.env x = pure x := by intro _; rfl) : PE X (.ListComp elt [⟨tg, iter, ifs, 0⟩] scope pos) (tComp cap wi g tt te) := by
  intro pins s σ H Q I h
  have ok := compOk_of hok
  rw [eval_ListComp]
  refine wpAny_comprehension_free (use := none) (cl := cloL X.env.cells scope.names []) rfl hs (closureFor_cells fun x hx e => I.ok.has x.1 ?_) ok.kind ok.loc (thn (hi pins s σ H _ I h) fun v s1 h1 => thn h1 fun itv s2 h2 => ?_)
  · have := ok.free x hx e
    rw [← hsc] at this
    exact this
  · obtain ⟨it, fp, tn, J, H2, e, I2, T, st2, f2, q2⟩ := h2
    subst e
    refine comp_blockX (Ek := Ek) (RR := fun acc C => compPost (model X.prog X.w) X.A X.xe none (EP X pins σ Q) acc C) hc hsc hN ok hg ht he I2 T st2 f2 q2 ?_ ?_
    · intro p C H' s' m hC hm hCn I' q
      exact ⟨m, hm, fun h' hs' => ⟨.ref p, H', I2.aside I' hC hCn hs', rfl, q⟩⟩
    · intro p C H' s' m e s3 hC hCf hm hCn I' cx cenv hce
      obtain ⟨a, D, a0, B, H1, rfl, na, os, bare, fl, un, okk, tr, old, ek⟩ := cx
      have fl0 : Heap.FlyingW B (X.env :: X.outer) a (.ref D) a0 s3.heap := hst ▸ fl
      show wpAny _ X.A (noteFrame (.ref a) cenv) _ _ s3
      rw [note_same hce]
      refine wpAny_looks_onW (outer := X.outer) (L := X.env.locals) (by rw [← hst]; exact I.ok.frames) hfr fl0 fun h4 held4 up4 => ?_
      -- the block's own names are still there
      obtain ⟨oC, esC, epC, hoC, hdC, hrC⟩ := id hm
      have BC : B.get? C = some oC := by
        obtain ⟨ob, z⟩ := old C oC hoC hCf
        have z1 := fl0.1 C ob z
        rw [un.keep C oC hoC hCn hCf (by simp)] at z1
        cases z1
        exact z
      refine ⟨m, ⟨oC, esC, epC, held4.1 C oC BC, hdC, hrC⟩, fun h5 sb5 cenv' hcl => ?_⟩
      obtain ⟨g1, g2, g3, oe, vs, Tt, oT, ts, ge, gc, gd, gv1, gT, gTe, goT, gdT, gts⟩ := held4
      have aC : a ≠ C := fun z => by rw [z, BC] at g2; cases g2
      have TC : Tt ≠ C := fun z => by rw [z, BC] at gT; cases gT
      have held5 : HeldAny (PySem.W.hideAll B [C]) X.stack a (.ref D) a0 h5 := by
        refine ⟨fun b o z => ?_, ?_, ?_, some X.env.locals, oe, vs, Tt, oT, ts, (sb5.2 a aC).trans ge, gc, gd, gv1, ?_, gTe, (sb5.2 Tt TC).trans goT, gdT, gts⟩
        · have zb := PySem.W.of_hideAll _ z
          have nb : b ≠ C := fun q => by
            rw [q, PySem.W.hideAll_none _ (List.mem_cons_self)] at z
            cases z
          exact (sb5.2 b nb).trans (g1 b o zb)
        · cases z : (PySem.W.hideAll B [C]).get? a with
          | none => rfl
          | some o => rw [PySem.W.of_hideAll _ z] at g2; cases g2
        · rw [hst]
          have key : ∀ l : List Env, (∀ b ∈ l.filterMap (·.frame), b ≠ C) → h4.FunFrames B l → h5.FunFrames (PySem.W.hideAll B [C]) l := by
            intro l
            induction l with
            | nil => intro _ _; trivial
            | cons env rest ih =>
              intro hne hl
              obtain ⟨hk, ⟨L, o, hf, hn, ho, hd⟩, hr⟩ := hl
              have hL : L ≠ C := hne L (List.mem_filterMap.mpr ⟨env, List.mem_cons_self, hf⟩)
              refine ⟨hk, ⟨L, o, hf, ?_, (sb5.2 L hL).trans ho, hd⟩, ih (fun b hb => hne b ?_) hr⟩
              · cases z : (PySem.W.hideAll B [C]).get? L with
                | none => rfl
                | some o => rw [PySem.W.of_hideAll _ z] at hn; cases hn
              · obtain ⟨en, he, hfe⟩ := List.mem_filterMap.mp hb
                exact List.mem_filterMap.mpr ⟨en, List.mem_cons_of_mem _ he, hfe⟩
          exact key _ (fun b hb z => hCf (by rw [hst]; rw [← z]; exact hb)) g3
        · cases z : (PySem.W.hideAll B [C]).get? Tt with
          | none => rfl
          | some o => rw [PySem.W.of_hideAll _ z] at gT; cases gT
      unfold PySem.passOn
      refine wpAny_bind (wpAny_field ((sb5.2 a aC).trans ge) gd gv1 ?_)
      rw [if_neg (show ¬ ((Value.ref Tt == Value.none) = true) from by simp)]
      refine wpAny_bind (setFlight_any held5 fun h6 held6 up6 => wpAny_throw ?_)
      have H1C : H1 C = none := un.free C oC hoC hCn (by simp)
      have trC : ∀ b o, H1 b = some o → b ≠ C := fun b o z q => by rw [q, H1C] at z; cases z
      have upB : ∀ b ob, B.get? b = some ob → b ≠ C → h6.get? b = some ob := fun b ob z nb => held6.1 b ob (PySem.W.hideAll_get _ z (by simpa using nb))
      have upF : ∀ b o, s3.heap.get? b = some o → (∀ vs, o.data ≠ .fields vs) → b ≠ C → ∃ sl, h6.get? b = some { o with slots := sl } := fun b o z d nb => by
        obtain ⟨sl, z1⟩ := up4 b o z d
        have z2 := (sb5.2 b nb).trans z1
        obtain ⟨sl', z3⟩ := up6 b _ z2 d
        exact ⟨sl', z3⟩
      refine hpx [C] pins σ H' s' (.ref a) _ I' (fun b hb => ?_) ⟨a, D, a0, PySem.W.hideAll B [C], H1, rfl, na, os, bare, held6, ?_, ?_, ?_, ?_, ek⟩
      · have : b = C := by simpa using hb
        subst this
        exact ⟨Nat.le_trans (hs0 _ _ _ _ I2) hC, hCf⟩
      · -- Un
        refine ⟨fun b o e n nm nx => ?_, fun b o e n hb nx => ?_, fun b o e n nx => un.free b o e n (by simp), fun b o e nx => ?_, un.tups, un.frzs, un.tbls⟩
        · have nb : b ≠ C := by simpa using nx
          obtain ⟨ob, z⟩ := old b o e nm
          have z1 := fl0.1 b ob z
          rw [un.keep b o e n nm (by simp)] at z1
          cases z1
          exact upB b o z nb
        · have nb : b ≠ C := by simpa using nx
          obtain ⟨_, o', e', d'⟩ := I'.stack.mem hb
          rw [e] at e'
          cases e'
          obtain ⟨sl, e2⟩ := un.slot b o e n hb (by simp)
          obtain ⟨sl', e3⟩ := upF b _ e2 d' nb
          exact ⟨sl', e3⟩
        · have nb : b ≠ C := by simpa using nx
          by_cases hb : b ∈ frs X.stack
          · obtain ⟨_, o', e', d'⟩ := I'.stack.mem hb
            rw [e] at e'
            cases e'
            obtain ⟨sl, e2⟩ := un.slot b o e (I'.stkFree b hb) hb (by simp)
            obtain ⟨sl', e3⟩ := upF b _ e2 d' nb
            exact ⟨_, e3⟩
          · obtain ⟨ob, z⟩ := old b o e hb
            exact ⟨ob, upB b ob z nb⟩
      · -- HOk
        intro b u e
        have kt : ∀ c v, H1 c = some v → ∀ o, s3.heap.get? c = some o → h6.get? c = some o := fun c v e o q => by
          obtain ⟨ob, z⟩ := tr c v e
          have := fl0.1 c ob z
          rw [q] at this; cases this
          exact upB c o z (trC c v e)
        refine (okk b u e).stay (fun c v hcc q => ?_) (fun _ q => q) fun _ _ q => q
        rcases hcc with rfl | hcc
        · exact kt _ _ e v q
        · exact kt _ _ hcc v q
      · intro b o e
        obtain ⟨ob, z⟩ := tr b o e
        exact ⟨ob, PySem.W.hideAll_get _ z (by simpa using trC b o e)⟩
      · intro b o e nm nx
        obtain ⟨ob, z⟩ := old b o e nm
        exact ⟨ob, PySem.W.hideAll_get _ z nx⟩
end
end L2
namespace L2
open PySem PySem.Spec PyProof.Rows
/-! ### an exception that was raised where none was in hand -/
def Ctx0 (e : Addr) (h : Heap) : Prop := ∃ oe vs, h.get? e = some oe ∧ oe.data = .fields vs ∧ vs[2]? = some .none
section
variable {M : Model} {A : Around} {E : Value → Shared → Prop} {s : Shared}
theorem entry_ctx {base : Heap} {env : Env} {outer : List Env} {L e : Addr} {oe : Obj} {vs : Array Value} {head a0 : Value} {hadNext : Bool} {Q : Unit → Shared → Prop}
    (hfr : A.frames = some (env :: outer)) (hl : s.heap.FunFrames base (env :: outer)) (hf : env.frame = some L)
    (he : s.heap.get? e = some oe) (hkb : base.StaysIn s.heap) (hen : base.get? e = none) (hd : oe.data = .fields vs) (hsz : 1 < vs.size) (h0 : vs[0]? = some a0)
    (h : ∀ h', Heap.NotedW base (env :: outer) e oe.cls a0 (rawInt L) s.heap h' → (vs[2]? = some .none → Ctx0 e h') → Q () { s with heap := h' }) :
    wpAny M A (do let a ← PySem.frameOf env; let pl ← entryPlaceOf L hadNext; let b ← EntryCells.newEntry head a .none (rawInt L) .none pl; setField (.ref e) 1 b) Q E s := by
  have nf : e ∉ (env :: outer).filterMap (·.frame) := fun hm => by
    obtain ⟨_, o, ho, hnf⟩ := hl.mem hm
    rw [he] at ho; injection ho with ho; subst ho; exact hnf vs hd
  refine wpAny_bind (wpAny_frameOf_fun hfr hl hf fun h₁ hs₁ => ?_)
  refine wpAny_bind (wpAny_entryPlaceOf fun pl hpl => ?_)
  unfold EntryCells.newEntry newFields
  refine wpAny_bind (wpAny_newObj_type ?_ (hpl.sizeOk5 _ _ _ _ _))
  have he₁ : h₁.get? e = some oe := (hs₁.2.1 e nf).trans he
  have kb₁ : base.StaysIn h₁ := fun b o hbo => (hs₁.2.1 b fun hm => by rw [(hl.mem hm).1] at hbo; cases hbo).trans (hkb b o hbo)
  generalize hO : ({ cls := .type "traceback", dict := none, data := .fields ([head, .ref L, .none, rawInt L, .none] ++ (if pl.isEmpty then List.replicate 6 Value.none else pl)).toArray } : Obj) = O
  have hOf : O.isFreed = false := by rw [← hO]; rfl
  have he₂ := Heap.get?_push_of_some (h := h₁) O he₁
  refine wpAny_setField he₂ hd hsz (h _ ?_ ?_)
  · have ne : h₁.objs.size ≠ e := Nat.ne_of_gt (Heap.lt_size he₁)
    have hd₃ := Obj.data_mapFields hd (·.setIfInBounds 1 (Value.ref h₁.objs.size))
    have he₃ := Heap.get?_update_self (Obj.mapFields (·.setIfInBounds 1 (Value.ref h₁.objs.size))) he₂ (Obj.isFreed_of_fields hd₃)
    have hT₃ := (Heap.get?_update_other (h₁.push O) (Obj.mapFields (·.setIfInBounds 1 (Value.ref h₁.objs.size))) (Ne.symm ne)).trans (Heap.get?_push_size h₁ hOf)
    have keep : ∀ b o, b ≠ e → h₁.get? b = some o → ((h₁.push O).update e (Obj.mapFields (·.setIfInBounds 1 (Value.ref h₁.objs.size)))).get? b = some o := fun b o hbe hb => by
      rw [Heap.get?_update_other _ _ (Ne.symm hbe)]
      exact Heap.get?_push_of_some _ hb
    have plain : ∀ b o, s.heap.get? b = some o → (∀ vs, o.data ≠ .fields vs) → b ≠ e := fun b o hb hnf q => by
      rw [q, he] at hb; injection hb with hb; subst hb; exact hnf vs hd
    refine ⟨fun b o hbo => keep b o (fun q => by rw [q, hen] at hbo; cases hbo) (kb₁ b o hbo), hl.of_keeps fun b o hb hnf => ?_, ?_, fun b o hb hnf => ?_⟩
    · obtain ⟨sl, hs⟩ := hs₁.2.2 b o hb
      exact ⟨_, keep b _ (plain b o hb hnf) hs, rfl⟩
    · refine ⟨_, _, h₁.objs.size, O, _, he₃, ⟨Obj.cls_mapFields _ _, by rw [Array.getElem?_setIfInBounds_ne (by decide)]; exact h0⟩, hd₃, by simp [hsz], kb₁.fresh, ne, hT₃, by rw [← hO], ?_⟩
      first | (simp; done) | (rcases hpl with rfl | ⟨_, _, _, _, _, _, _, rfl⟩ <;> simp)
    · obtain ⟨sl, hs⟩ := hs₁.2.2 b o hb
      exact ⟨sl, keep b _ (plain b o hb hnf) hs⟩
  · intro hv2
    have hd₃ := Obj.data_mapFields hd (·.setIfInBounds 1 (Value.ref h₁.objs.size))
    exact ⟨_, _, Heap.get?_update_self (Obj.mapFields (·.setIfInBounds 1 (Value.ref h₁.objs.size))) he₂ (Obj.isFreed_of_fields hd₃), hd₃, by rw [Array.getElem?_setIfInBounds_ne (by decide)]; exact hv2⟩
theorem setFlight_ctx {base : Heap} {l : List Env} {e : Addr} {cls a0 : Value} {fl : Option Addr} {Q : Unit → Shared → Prop} (R : HeldAny base l e cls a0 s.heap)
    (h : ∀ h', base.StaysIn h' → h'.FunFrames base l → h'.TracedAtW base e cls a0 (flV fl) → s.heap.UpToSlots h' → (Ctx0 e s.heap → Ctx0 e h') → Q () { s with heap := h' }) : wpAny M A (setFlight (.ref e) fl) Q E s := by
  obtain ⟨hkb, hen, hl, fl0, oe, vs, T, oT, ts, he, hcls, hd, h1, hnT, hTe, hT, hdT, h3⟩ := R
  have hsz3 : 3 < ts.size := (Array.getElem?_eq_some_iff.mp h3).1
  have other : ∀ b, b ≠ T → (s.heap.update T (Obj.mapFields (·.setIfInBounds 3 (fl.elim Value.none fun f => rawInt f)))).get? b = s.heap.get? b := fun b hb => Heap.get?_update_other _ _ (Ne.symm hb)
  have plain : ∀ b o, s.heap.get? b = some o → (∀ vs, o.data ≠ .fields vs) → b ≠ T := fun b o hb hnf q => by
    rw [q, hT] at hb; injection hb with hb; subst hb; exact hnf ts hdT
  unfold setFlight
  refine wpAny_bind (wpAny_field he hd h1 ?_)
  rw [if_pos (show (Value.ref T != Value.none) = true from by simp)]
  refine wpAny_setField hT hdT hsz3 (h _ (fun b o hbo => (other b fun q => by rw [q, hnT] at hbo; cases hbo).trans (hkb b o hbo))
    (hl.of_keeps fun b o hb hnf => ⟨o, (other b (plain b o hb hnf)).trans hb, rfl⟩) ?_ (fun b o hb hnf => ⟨o.slots, (other b (plain b o hb hnf)).trans hb⟩) fun ⟨o2, vs2, z1, z2, z3⟩ => ⟨o2, vs2, (other e (Ne.symm hTe)).trans z1, z2, z3⟩)
  exact ⟨oe, vs, T, _, _, (other e (Ne.symm hTe)).trans he, hcls, hd, h1, hnT, hTe, Heap.get?_update_self _ hT (Obj.isFreed_of_fields (Obj.data_mapFields hdT _)), Obj.data_mapFields hdT _, by simp [hsz3, flV]⟩
/-- leaving, the first frame -/
theorem leaves_ctx0 {base : Heap} {env : Env} {outer : List Env} {L e : Addr} {oe : Obj} {vs : Array Value} {a0 : Value} {Q : Unit → Shared → Prop}
    (hfr : A.frames = some (env :: outer)) (hl : s.heap.FunFrames base (env :: outer)) (hf : env.frame = some L)
    (he : s.heap.get? e = some oe) (hkb : base.StaysIn s.heap) (hen : base.get? e = none) (hd : oe.data = .fields vs) (h1 : vs[1]? = some .none) (h0 : vs[0]? = some a0) (h2 : vs[2]? = some .none)
    (hQ : ∀ h', Heap.FlyingW base outer e oe.cls a0 h' → s.heap.UpToSlots h' → Ctx0 e h' → Q () { s with heap := h' }) : wpAny M A (leaving env (.ref e)) Q E s := by
  unfold leaving noteFrame
  simp only [hf]
  refine wpAny_bind (wpAny_bind (wpAny_field he hd h1 ?_))
  rw [if_neg (by decide)]
  refine entry_ctx hfr hl hf he hkb hen hd (Array.getElem?_eq_some_iff.mp h1).1 h0 fun h' ⟨x1, x2, x3, x4⟩ c => ?_
  refine setFlight_ctx (s := { s with heap := h' }) (fl := none) ⟨x1, hen, x2, some L, x3⟩ fun h'' y1 y2 y3 y4 y5 => ?_
  obtain ⟨_, _, y2'⟩ := y2
  exact hQ h'' ⟨y1, hen, y2', y3⟩ (fun b o hb hnf => by
    obtain ⟨sl, z⟩ := x4 b o hb hnf
    obtain ⟨sl', z'⟩ := y4 b _ z hnf
    exact ⟨sl', z'⟩) (y5 (c h2))
/-- leaving, a further frame -/
theorem leaves_ctx1 {base : Heap} {env : Env} {outer : List Env} {L e : Addr} {cls a0 : Value} {Q : Unit → Shared → Prop} (hfr : A.frames = some (env :: outer)) (hf : env.frame = some L) (hfl : Heap.FlyingW base (env :: outer) e cls a0 s.heap) (hc : Ctx0 e s.heap)
    (hQ : ∀ h', Heap.FlyingW base outer e cls a0 h' → s.heap.UpToSlots h' → Ctx0 e h' → Q () { s with heap := h' }) : wpAny M A (leaving env (.ref e)) Q E s := by
  obtain ⟨f1, f2, f3, oe, vs, T, oT, ts, he, ⟨hcls, h0⟩, hd, h1, hnT, hTe, hT, hdT, h3⟩ := hfl
  subst hcls
  unfold leaving noteFrame
  simp only [hf]
  refine wpAny_bind (wpAny_bind (wpAny_field he hd h1 ?_))
  rw [if_pos (show (Value.ref T != Value.none) = true from by simp)]
  refine wpAny_bind (wpAny_field hT hdT h3 ?_)
  rw [if_neg (show ¬ ((Value.none == rawInt L) = true) from by simp [rawInt])]
  refine wpAny_bind (wpAny_setField hT hdT (Array.getElem?_eq_some_iff.mp h3).1 ?_)
  have other : ∀ b, b ≠ T → (s.heap.update T (Obj.mapFields (·.setIfInBounds 3 Value.none))).get? b = s.heap.get? b := fun b hb => Heap.get?_update_other _ _ (Ne.symm hb)
  have plain : ∀ b o, s.heap.get? b = some o → (∀ vs, o.data ≠ .fields vs) → b ≠ T := fun b o hb hnf q => by
    rw [q, hT] at hb; injection hb with hb; subst hb; exact hnf ts hdT
  obtain ⟨o2, vs2, c1, c2, c3⟩ := hc
  rw [he] at c1
  cases c1
  rw [hd] at c2
  cases c2
  refine entry_ctx (s := { s with heap := s.heap.update T (Obj.mapFields (·.setIfInBounds 3 Value.none)) }) hfr (f3.of_keeps fun b o hb hnf => ⟨o, (other b (plain b o hb hnf)).trans hb, rfl⟩) hf ((other e (Ne.symm hTe)).trans he)
    (fun b o hbo => (other b fun q => by rw [q, hnT] at hbo; cases hbo).trans (f1 b o hbo)) f2 hd (Array.getElem?_eq_some_iff.mp h1).1 h0 fun h' ⟨x1, x2, x3, x4⟩ c => ?_
  refine setFlight_ctx (s := { s with heap := h' }) (fl := none) ⟨x1, f2, x2, some L, x3⟩ fun h'' y1 y2 y3 y4 y5 => ?_
  obtain ⟨_, _, y2'⟩ := y2
  exact hQ h'' ⟨y1, f2, y2', y3⟩ (fun b o hb hnf => by
    obtain ⟨sl, z⟩ := x4 b o ((other b (plain b o hb hnf)).trans hb) hnf
    obtain ⟨sl', z'⟩ := y4 b _ z hnf
    exact ⟨sl', z'⟩) (y5 (c c3))
end
/-- as CX1, and raised where none was in hand -/
def CX2 (P : Program) (w : World) : CXT := fun outer H s E e s' => CX1 P w outer H s E e s' ∧ ∀ a, e = .ref a → Ctx0 a s'.heap
section
variable {P : Program} {w : World} {K : PySem.W.Frag} {mg : Str → Option Value} {base : Heap} {N : List Str} {qual : Str} {scope : Scope} {f : Addr} {cd : Value} {A : Around} {outer : List Env} {s : Shared} {H : Hp} {E : XK}
theorem thrown2 : Thrown (cxOf (CX2 P w) P w K mg base N qual scope f cd A outer s H E) E := by
  intro pins σ H1 s1 h' e C vs I hx q
  show wpAny (model P w) (A.deeper (envOfC qual scope s.heap.objs.size f cd)) (leaving (envOfC qual scope s.heap.objs.size f cd) (.ref e)) _ _ _
  have hst : s1.heap.FunFrames base (envOfC qual scope s.heap.objs.size f cd :: outer) := I.stack
  have hs : (PySem.W.hideAll s1.heap (frs (envOfC qual scope s.heap.objs.size f cd :: outer))).StaysIn s1.heap := fun b o z => PySem.W.of_hideAll _ z
  obtain ⟨t, he, htn, ht⟩ := hx.there
  have fresh : ∀ b, s1.heap.get? b = none → (PySem.W.hideAll s1.heap (frs (envOfC qual scope s.heap.objs.size f cd :: outer))).get? b = none := fun b hb => by
    cases hq : (PySem.W.hideAll s1.heap (frs (envOfC qual scope s.heap.objs.size f cd :: outer))).get? b with
    | none => rfl
    | some o' => have := hs b o' hq; rw [hb] at this; cases this
  have hst2 := PySem.W.funFrames_hide hst fun env he b hb => mem_frs he hb
  refine leaves_ctx0 (s := { s1 with heap := h' }) (base := PySem.W.hideAll s1.heap (frs (envOfC qual scope s.heap.objs.size f cd :: outer))) (outer := outer) (L := s.heap.objs.size) (a0 := .ref t) I.ok.frames (hst2.of_keeps fun b o hb _ => ⟨o, hx.keeps b o hb, rfl⟩) rfl he (fun b o hb => hx.keeps b o (hs b o hb)) (fresh e hx.new) rfl rfl rfl rfl fun h2 x1 x4 cc => ?_
  have tr : ∀ b o, H1 b = some o → ∃ ob, (PySem.W.hideAll s1.heap (frs (envOfC qual scope s.heap.objs.size f cd :: outer))).get? b = some ob := fun b o z => by
    obtain ⟨ob, z1⟩ := (I.hok b o z).ex
    refine ⟨ob, PySem.W.hideAll_get _ z1 fun hb => ?_⟩
    rw [I.stkFree b hb] at z
    cases z
  obtain ⟨u1, u2, u3⟩ := left_frame (h1 := s1.heap) (h2 := h2) I Un.refl I.hok x1.1 hs tr (fun b o z nm => ⟨o, PySem.W.hideAll_get _ z nm⟩) (fun b o z d => x4 b o (hx.keeps b o z) d)
  refine ⟨⟨e, C, .ref t, _, H1, rfl, ?_, I.os, I.bare, x1, u1, u2, tr, u3, q⟩, fun a ea => ?_⟩
  · cases z : s.heap.get? e with
    | none => rfl
    | some o =>
      obtain ⟨o', z1⟩ := I.base.there e o z (by show e ∉ []; simp)
      rw [hx.new] at z1
      cases z1
  · cases ea
    exact cc
theorem pass2 : Passes (CX2 P w) (cxOf (CX2 P w) P w K mg base N qual scope f cd A outer s H E) E := by
  rintro pins σ H1 s1 e s2 I ⟨⟨a, C, a0, B, H2, rfl, na, os, bare, fl, un, ok, tr, old, q⟩, cc⟩
  show wpAny (model P w) (A.deeper (envOfC qual scope s.heap.objs.size f cd)) (leaving (envOfC qual scope s.heap.objs.size f cd) (.ref a)) _ _ _
  refine leaves_ctx1 (outer := outer) (L := s.heap.objs.size) I.ok.frames rfl fl (cc a rfl) fun h2 x1 x2 cc2 => ?_
  obtain ⟨u1, u2, u3⟩ := left_frame (h1 := s2.heap) (h2 := h2) I un ok x1.1 fl.1 tr old x2
  refine ⟨⟨a, C, a0, B, H2, rfl, ?_, os.trans I.os, bare, x1, u1, u2, tr, u3, q⟩, fun b eb => by cases eb; exact cc2⟩
  cases z : s.heap.get? a with
  | none => rfl
  | some o =>
    obtain ⟨o', z1⟩ := I.base.there a o z (by show a ∉ []; simp)
    rw [na] at z1
    cases z1
end
structure FnY (P : Program) (w : World) (K : PySem.W.Frag) (mg : Str → Option Value) (base : Heap) (x : Str) (k : Nat) (ps : List Str) (sp : Sp) : Prop where
  ex : ∃ f fd, mg x = some (.ref f) ∧ PySem.W.keepIn K (.ref f) = true ∧ Binds K fd ps [] ∧ FnOk P w K mg base (CX2 P w) k f fd ps sp
structure MkY (P : Program) (w : World) (K : PySem.W.Frag) (mg : Str → Option Value) (base : Heap) (x : Str) (C : Addr) (k : Nat) (ps : List Str) (sp : Sp) : Prop where
  ex : ∃ f fd, mg x = some (.ref C) ∧ Mk K C f ∧ Binds K fd ps [] ∧ FnOk P w K mg base (CX2 P w) k f fd ps sp
section
variable {X : Cx} {x m : Str} {k : Nat} {ps : List Str} {sp : Sp} {C : Addr} {p pos apos : Pos} {e o : Expr} {es : List Expr} {ta : TE} {t : TA} {E : XK}
theorem pe_callY (c : FnY X.prog X.w X.K X.mg X.base x k ps sp) (hp : Passes (CX2 X.prog X.w) X E) (hr : Room k X.A) (hg : Gl X x) (ha : PA X (e :: es) t) (hdb : (x == ("__debug__" : Str)) = false := by decide)
    (he : starEach (e :: es) X.env = (false, eval e X.env) :: starEach es X.env := by rfl) (hpl : (backTo pos (starEach es X.env)).any (·.1) = false := by rfl) : PE X (.Call (.Name x p) (e :: es) [] pos) (tCall sp [] E t) := by
  obtain ⟨f, fd, g, kp, b, G⟩ := c.ex
  exact pe_call G hr hg g kp b .nil hp ha hdb he hpl
theorem pe_makeY (c : MkY X.prog X.w X.K X.mg X.base x C k ps sp) (hp : Passes (CX2 X.prog X.w) X E) (hr : Room (k + 1) X.A) (hg : Gl X x) (ha : PA X (e :: es) t) (hdb : (x == ("__debug__" : Str)) = false := by decide)
    (he : starEach (e :: es) X.env = (false, eval e X.env) :: starEach es X.env := by rfl) (hpl : (backTo pos (starEach es X.env)).any (·.1) = false := by rfl) : PE X (.Call (.Name x p) (e :: es) [] pos) (tMake C sp [] E t) := by
  obtain ⟨f, fd, g, M, b, G⟩ := c.ex
  exact pe_make M G hr hg g b .nil hp ha hdb he hpl
end
end L2
namespace L2
open PySem PySem.Spec PyProof.Rows
/-! ### raise C(..) from None, with another exception in hand -/
section
variable {M : Model} {A : Around} {E : Value → Shared → Prop} {s : Shared}
theorem note_ctx1 {base : Heap} {env : Env} {outer : List Env} {L e : Addr} {cls a0 : Value} {Q : Unit → Shared → Prop} (hfr : A.frames = some (env :: outer)) (hf : env.frame = some L) (hfl : Heap.FlyingW base (env :: outer) e cls a0 s.heap) (hc : Ctx0 e s.heap)
    (hQ : ∀ h', Heap.HeldW base (env :: outer) e cls a0 L h' → s.heap.UpToSlots h' → Ctx0 e h' → Q () { s with heap := h' }) : wpAny M A (noteFrame (.ref e) env) Q E s := by
  obtain ⟨f1, f2, f3, oe, vs, T, oT, ts, he, ⟨hcls, h0⟩, hd, h1, hnT, hTe, hT, hdT, h3⟩ := hfl
  subst hcls
  unfold noteFrame
  simp only [hf]
  refine wpAny_bind (wpAny_field he hd h1 ?_)
  rw [if_pos (show (Value.ref T != Value.none) = true from by simp)]
  refine wpAny_bind (wpAny_field hT hdT h3 ?_)
  rw [if_neg (show ¬ ((Value.none == rawInt L) = true) from by simp [rawInt])]
  refine wpAny_bind (wpAny_setField hT hdT (Array.getElem?_eq_some_iff.mp h3).1 ?_)
  have other : ∀ b, b ≠ T → (s.heap.update T (Obj.mapFields (·.setIfInBounds 3 Value.none))).get? b = s.heap.get? b := fun b hb => Heap.get?_update_other _ _ (Ne.symm hb)
  have plain : ∀ b o, s.heap.get? b = some o → (∀ vs, o.data ≠ .fields vs) → b ≠ T := fun b o hb hnf q => by
    rw [q, hT] at hb; injection hb with hb; subst hb; exact hnf ts hdT
  obtain ⟨o2, vs2, c1, c2, c3⟩ := hc
  rw [he] at c1
  cases c1
  rw [hd] at c2
  cases c2
  refine entry_ctx (s := { s with heap := s.heap.update T (Obj.mapFields (·.setIfInBounds 3 Value.none)) }) hfr (f3.of_keeps fun b o hb hnf => ⟨o, (other b (plain b o hb hnf)).trans hb, rfl⟩) hf ((other e (Ne.symm hTe)).trans he)
    (fun b o hbo => (other b fun q => by rw [q, hnT] at hbo; cases hbo).trans (f1 b o hbo)) f2 hd (Array.getElem?_eq_some_iff.mp h1).1 h0 fun h' ⟨x1, x2, x3, x4⟩ c => ?_
  exact hQ h' ⟨x1, f2, x2, x3⟩ (fun b o hb hnf => x4 b o ((other b (plain b o hb hnf)).trans hb) hnf) (c c3)
/-- the first entry, the mark left -/
theorem note_first {base : Heap} {env : Env} {outer : List Env} {L e : Addr} {oe : Obj} {vs : Array Value} {a0 : Value} {Q : Unit → Shared → Prop}
    (hfr : A.frames = some (env :: outer)) (hl : s.heap.FunFrames base (env :: outer)) (hf : env.frame = some L)
    (he : s.heap.get? e = some oe) (hkb : base.StaysIn s.heap) (hen : base.get? e = none) (hd : oe.data = .fields vs) (h1 : vs[1]? = some .none) (h0 : vs[0]? = some a0)
    (hQ : ∀ h', Heap.HeldW base (env :: outer) e oe.cls a0 L h' → s.heap.UpToSlots h' → Q () { s with heap := h' }) : wpAny M A (noteFrame (.ref e) env) Q E s := by
  unfold noteFrame
  simp only [hf]
  refine wpAny_bind (wpAny_field he hd h1 ?_)
  rw [if_neg (by decide)]
  refine entry_ctx hfr hl hf he hkb hen hd (Array.getElem?_eq_some_iff.mp h1).1 h0 fun h' ⟨x1, x2, x3, x4⟩ _ => ?_
  exact hQ h' ⟨x1, hen, x2, x3⟩ x4
theorem entry_unchain : entryFor table "proto.unchain" = some Builtin.«proto.unchain» := entryFor_of_tree (by kernel_rfl)
theorem raiseNew_from {prog : Program} {w : World} {α : Type} {a e : Addr} {oe : Obj} {vs : Array Value} {Q : α → Shared → Prop} (hh : A.handled = some (.ref a)) (hae : a ≠ e) (hc : Ctx0 a s.heap) (he : s.heap.get? e = some oe) (hd : oe.data = .fields vs) (h2 : 2 < vs.size)
    (hQ : E (.ref e) { s with heap := s.heap.update e (Obj.mapFields (·.setIfInBounds 2 (.ref a))) }) : wpAny (model prog w) A (raiseNew (.ref e) : Sem α) Q E s := by
  obtain ⟨o2, vs2, c1, c2, c3⟩ := hc
  unfold raiseNew
  refine wpAny_bind (wpAny_handled ?_)
  rw [hh]
  dsimp only
  have ne : (Value.ref a != Value.ref e) = true := by
    rw [bne_iff_ne]
    intro z
    injection z with z
    exact hae z
  rw [ne]
  simp only [if_true]
  refine wpAny_bind (wpAny_holding (wpAny_runValue (codeAny_builtin entry_unchain ?_)))
  unfold Builtin.«proto.unchain»
  refine wpAny_bind (wpAny_field c1 c2 c3 ?_)
  rw [if_pos (by decide)]
  refine wpAny_bind (wpAny_pure (wpAny_pure ?_))
  unfold updateField
  refine wpAny_bind (wpAny_bind (wpAny_load he ?_))
  rw [hd]
  dsimp only
  rw [if_pos h2]
  exact wpAny_update he (wpAny_throw hQ)
end
section
variable {prog : Program} {w : World} {A : Around} {E : Value → Shared → Prop} {s : Shared} {env : Env}
variable {nm q : Str} {C N : Addr} {bs bm bmB : List Value} {hdct : Bool} {sn : List Str} {sub : List Value} {ab : Bool} {col : Option Bool} {dd : Option Addr} {k0 k1 k2 k3 k5 : Option Value} {B newId initId : String}
theorem raise_from (F : ExcBaseFacts B newId initId bmB) {mN : Str → Option Value} {x : Str} {np cpos pos npos : Pos} {nk : Nat} {args : List Expr} {a : Addr} {Q : Flow → Shared → Prop}
    (hbase : bm.contains (.type "BaseException") = true) (hh : A.handled = some (.ref a)) (hplain : (backTo cpos (starEach args env)).any (·.1) = false) (hni : mN "__init__" = none)
    (h : wpAny (model prog w) A (eval (.Name x np) env) (fun f s₁ => f = .ref C ∧ wpAny (model prog w) A (evalArgs (.ref C) true (backTo cpos (starEach args env)) [])
      (fun ar s₂ => ar.kw = [] ∧ ar.pos.length ≤ sizeLine ∧ s₂.heap.get? C = some (excClassObj nm q C N bs bm hdct sn sub ab col dd k0 k1 k2 k3 k5 newId) ∧ s₂.heap.Ns N mN ∧ OwnTail s₂.heap bmB bm ∧ Ctx0 a s₂.heap ∧
        ∀ h' e t, s₂.heap.get? e = none → s₂.heap.get? t = none → (∀ b o, s₂.heap.get? b = some o → h'.get? b = some o) → h'.get? e = some { cls := .ref C, data := .fields #[.ref t, .none, .ref a, .none, .bool true, .none] } → E (.ref e) { s₂ with heap := h' }) E s₁) E s) :
    wpAny (model prog w) A (exec (.Raise (some (.Call (.Name x np) args [] cpos)) (some (.Constant .none nk npos)) pos) env) Q E s := by
  have hcB : (Value.ref C :: bm).contains (.type "BaseException") = true := by rw [List.contains_cons, hbase, Bool.or_true]
  rw [arm_exec_Raise]
  show wpAny (model prog w) A (do standAt pos; raiseStmt env (some (do let v ← eval (.Call (.Name x np) args [] cpos) env; standAt pos; pure v)) (some (do let v ← eval (.Constant .none nk npos) env; standAt pos; pure v))) Q E s
  refine wpAny_bind (wpAny_standAt ?_)
  unfold raiseStmt
  refine wpAny_bind (wpAny_bind (wpAny_Call_ofName (wpAny_mono h (fun f s₁ h₁ => ?_) fun _ _ x => x)))
  obtain ⟨rfl, h₁⟩ := h₁
  unfold callWith
  refine wpAny_bind (wpAny_holding (wpAny_mono h₁ (fun ar s₂ h₂ => wpAny_bind (wpAny_standAt ?_)) fun _ _ x => x))
  obtain ⟨apos, akw⟩ := ar
  obtain ⟨hkw, hlen, hC, hn, T, hc0, h₂⟩ := h₂
  obtain rfl : akw = [] := hkw
  obtain ⟨hp, g, d, tk, os⟩ := s₂
  simp only [hplain]
  refine wpAny_bind (wpAny_keeperOf_exc hC ?_)
  refine wpAny_bind (wpAny_call_exc_subT (hrest := hlen) F T hC hn hni fun h' e hm => wpAny_bind (wpAny_holding (wpAny_point (wpAny_pure ?_))))
  obtain ⟨t, ht, htn, _⟩ := hm.there
  have hC' := hm.keeps _ _ hC
  refine wpAny_bind (wpAny_standAt (wpAny_pure ?_))
  refine wpAny_bind (wpAny_holding (wpAny_bind (wpAny_Constant_none (wpAny_bind (wpAny_standAt (wpAny_pure (wpAny_bind (wpAny_pure ?_))))))))
  dsimp only
  refine wpAny_bind (wpAny_holding ?_)
  unfold excFromValue isExcClass isInstance
  repeat (first | with_reducible refine wpAny_loadPart_at ht ?_ | with_reducible refine wpAny_loadPart_at hC' ?_ | (with_reducible refine wpAny_isSubtype_exc hC' ?_; rw [hcB]) | wp_step)
  have eC : e ≠ C := fun z => by
    have := hm.new
    rw [z, hC] at this
    cases this
  have ea : a ≠ e := fun z => by
    obtain ⟨o2, vs2, c1, _⟩ := hc0
    have := hm.new
    rw [← z, c1] at this
    cases this
  have hC3 : ((h'.update e (Obj.mapFields fun x => x.setIfInBounds 3 Value.none)).update e (Obj.mapFields fun x => x.setIfInBounds 4 (Value.bool true))).get? C = some (excClassObj nm q C N bs bm hdct sn sub ab col dd k0 k1 k2 k3 k5 newId) := by
    rw [Heap.get?_update_other _ _ eC, Heap.get?_update_other _ _ eC]
    exact hC'
  have he1 := Heap.get?_update_self (Obj.mapFields fun x => x.setIfInBounds 3 Value.none) ht rfl
  have he3 : ((h'.update e (Obj.mapFields fun x => x.setIfInBounds 3 Value.none)).update e (Obj.mapFields fun x => x.setIfInBounds 4 (Value.bool true))).get? e = some { cls := .ref C, data := .fields #[.ref t, .none, .none, .none, .bool true, .none] } := Heap.get?_update_self (Obj.mapFields fun x => x.setIfInBounds 4 (Value.bool true)) he1 rfl
  have keep3 : ∀ b o, hp.get? b = some o → ((h'.update e (Obj.mapFields fun x => x.setIfInBounds 3 Value.none)).update e (Obj.mapFields fun x => x.setIfInBounds 4 (Value.bool true))).get? b = some o := fun b o z => by
    have nb : e ≠ b := fun q => by
      have := hm.new
      rw [q] at this
      have z' : hp.get? b = none := this
      rw [z] at z'
      cases z'
    rw [Heap.get?_update_other _ _ nb, Heap.get?_update_other _ _ nb]
    exact hm.keeps b o z
  generalize (h'.update e (Obj.mapFields fun x => x.setIfInBounds 3 Value.none)).update e (Obj.mapFields fun x => x.setIfInBounds 4 (Value.bool true)) = h3 at hC3 he3 keep3
  refine wpAny_loadPart_at hC3 (wpAny_pure ?_)
  rw [if_pos (show ((excClassObj nm q C N bs bm hdct sn sub ab col dd k0 k1 k2 k3 k5 newId).cls == Value.type "type") = true from rfl)]
  refine wpAny_pure ?_
  refine wpAny_bind ?_
  unfold setFlight
  refine wpAny_bind (wpAny_field he3 rfl (x := .none) rfl ?_)
  rw [if_neg (by decide)]
  refine wpAny_pure ?_
  have hc3 : Ctx0 a h3 := by
    obtain ⟨o2, vs2, c1, c2, c3⟩ := hc0
    exact ⟨o2, vs2, keep3 a o2 c1, c2, c3⟩
  refine raiseNew_from hh ea hc3 he3 rfl (by show 2 < 6; decide) ?_
  refine h₂ _ e t hm.new htn (fun b o z => ?_) (Heap.get?_update_self _ he3 rfl)
  have nb : e ≠ b := fun q => by
    have := hm.new
    rw [q] at this
    have z' : hp.get? b = none := this
    have z2 : hp.get? b = some o := z
    rw [z2] at z'
    cases z'
  rw [Heap.get?_update_other _ _ nb]
  exact keep3 b o z
end
end L2
namespace L2
open PySem PySem.Spec PyProof.Rows
/-! ### try: .. except C: raise D(..) from None -/
def tTryR (Ek E : XK) (C8 : Addr) (tb : TS) : TS := fun D σ H => tb D σ H ∧ ∀ (C a : Addr) (H' : Hp), Ek (.ref C) none H' → H' a = none → E (.ref C8) none (upd H' a (excO a C))
theorem ps_tryR {X : Cx} {Ek E : XK} {x y : Str} {CH C8 : Addr} {body : List Stmt} {tb : TS} {c : Str} {ck : _} {nk : Nat} {np yp cp cpos npos rpos hpos pos : Pos} (hc : X.calm = true) (hst : X.stack = X.env :: X.outer) (hfr : X.env.frame = some X.env.locals) (hpx : PassesX X E)
    (hg : Gl X x) (hm : X.mg x = some (.ref CH)) (hmat : ∀ (C : Addr) (H' : Hp), Ek (.ref C) none H' → PySem.W.exmOne X.K (.ref C) (.ref CH) = some true) (hg8 : Gl X y) (hm8 : X.mg y = some (.ref C8)) (ec : ExcC X.K C8) (hlen : c.length ≤ sizeLine)
    (hb : ∀ pn E1, Passes (CX2 X.prog X.w) (tryCx X pn E1) Ek → PSs (tryCx X pn E1) body tb) (hd : (x == ("__debug__" : Str)) = false := by decide) (hd8 : (y == ("__debug__" : Str)) = false := by decide) :
    PS X (.Try body [.ExceptHandler (some (.Name x np)) none [.Raise (some (.Call (.Name y yp) [.Constant (.str c) ck cp] [] cpos)) (some (.Constant .none nk npos)) rpos] hpos] [] [] pos) (tTryR Ek E C8 tb) := by
  rintro pins s σ H D I ⟨qb, qh⟩
  refine wpAny_Try_except ?_
  -- the body
  refine wpAny_mono (hb (X.pn ++ pins) _ (fun pins' σ' H' s' e s1 I' cx => ?_) [] s σ H D (I.try1 _) qb) (fun f s1 z => ?_) fun e s1 z => z
  · -- the handler
    have I0 : Inv X pins σ' H' s' := I'.untry I.ok
    obtain ⟨⟨a, C, a0, B, H1, rfl, na, os, bare, fl, un, ok, tr, old, ek⟩, cc⟩ := cx
    have cc := cc a rfl
    have fl0 : Heap.FlyingW B (X.env :: X.outer) a (.ref C) a0 s1.heap := hst ▸ fl
    show wpAny _ X.A (noteFrame (.ref a) X.env) _ _ s1
    refine note_ctx1 (outer := X.outer) (L := X.env.locals) (by rw [← hst]; exact I.ok.frames) hfr fl0 cc fun h4 held4 up4 cc4 => ?_
    refine setFlight_ctx (s := { s1 with heap := h4 }) (fl := none) ⟨held4.1, held4.2.1, held4.2.2.1, some X.env.locals, held4.2.2.2⟩ fun h5 y1 y2 y3 up5 cc5 => ?_
    have fl5 : Heap.FlyingW B (X.env :: X.outer) a (.ref C) a0 h5 := ⟨y1, held4.2.1, y2, y3⟩
    have cc5 := cc5 cc4
    have nH1 : H1 a = none := by
      cases z : H1 a with
      | none => rfl
      | some o =>
        obtain ⟨ob, z1⟩ := tr a o z
        rw [fl0.2.1] at z1
        cases z1
    -- the state with the exception known
    have build : ∀ h6 : Heap, Heap.FlyingW B (X.env :: X.outer) a (.ref C) a0 h6 → s1.heap.UpToSlots h6 → Inv X pins σ' (upd H1 a (excO a C)) { s1 with heap := h6 } := fun h6 fl6 up6 => by
      have kB : ∀ b o, s'.heap.get? b = some o → H' b = none → b ∉ frs X.stack → h6.get? b = some o := fun b o e n0 nm => by
        obtain ⟨ob, z⟩ := old b o e nm
        have z1 := fl0.1 b ob z
        rw [un.keep b o e n0 nm (by simp)] at z1
        cases z1
        exact fl6.1 b o z
      have na' : ∀ b o, s'.heap.get? b = some o → b ≠ a := fun b o e z => by rw [z, na] at e; cases e
      have nt : ∀ b o, H1 b = some o → b ≠ a := fun b o e z => by rw [z, nH1] at e; cases e
      have frm : ∀ b o, s'.heap.get? b = some o → b ∈ frs X.stack → ∃ sl, h6.get? b = some { o with slots := sl } := fun b o e hbm => by
        obtain ⟨_, o', e', d'⟩ := I0.stack.mem hbm
        rw [e] at e'; cases e'
        obtain ⟨sl, e2⟩ := un.slot b o e (I0.stkFree b hbm) hbm (by simp)
        obtain ⟨sl', e3⟩ := up6 b _ e2 d'
        exact ⟨sl', e3⟩
      refine I0.call' (ch := []) os ⟨fun b o e n0 nm _ => kB b o e n0 nm, fun b o e n0 hbm _ => frm b o e hbm, fun b o e n0 _ => ?_, fun b o e _ => ?_, fun b xs e => ?_, fun b o u e => ?_, fun b ps e => ?_⟩ (fun b u e => ?_) bare (fun _ z => nomatch z)
      · rw [upd_ne (na' b o e)]
        exact un.free b o e n0 (by simp)
      · by_cases hbm : b ∈ frs X.stack
        · obtain ⟨sl, e2⟩ := frm b o e hbm
          exact ⟨_, e2⟩
        · obtain ⟨ob, z⟩ := old b o e hbm
          exact ⟨ob, fl6.1 b ob z⟩
      · have := un.tups b xs e
        rw [upd_ne (nt b _ this)]
        exact this
      · have := un.frzs b o u e
        rw [upd_ne (nt b _ this)]
        exact this
      · obtain ⟨more, this⟩ := un.tbls b ps e
        exact ⟨more, by rw [upd_ne (nt b _ this)]; exact this⟩
      · by_cases hba : b = a
        · subst hba
          rw [upd_same] at e
          cases e
          obtain ⟨ob, z1, z2⟩ := fl6.there
          exact excO_ok ⟨ob, z1, z2⟩
        · rw [upd_ne hba] at e
          have kt : ∀ c v, H1 c = some v → ∀ o, s1.heap.get? c = some o → h6.get? c = some o := fun c v e o q => by
            obtain ⟨ob, z⟩ := tr c v e
            have := fl0.1 c ob z
            rw [q] at this; cases this
            exact fl6.1 c o z
          refine (ok b u e).stay (fun c v hcc q => ?_) (fun c q => by rw [upd_ne (nt c _ q)]; exact q) fun c xs q => by rw [upd_ne (nt c _ q)]; exact q
          rcases hcc with rfl | hcc
          · exact kt _ _ e v q
          · exact kt _ _ hcc v q
    have I5 := build h5 fl5 (up4.trans up5)
    -- the class is looked at
    refine wpAny_handleBy_cons (codeAny_handlers_test ?_) (by intro z; cases z)
    have Im := I5.mark a
    refine ld_glob (X := markCx X a) Im hg hm ?_ hd
    have K5 : X.K.In h5 := I5.kIn
    have O5 : PySem.W.OfCls h5 a C := by obtain ⟨ob, z1, z2⟩ := fl5.there; exact ⟨ob, z1, z2⟩
    have LM := PySem.W.exm_one (M := model X.prog X.w) K5 O5.type (hmat C H1 ek)
    refine LM _ _ _ _ (fun _ _ z => z) ?_
    refine codeAny_handlers_suite ?_
    refine setFlight_ctx (s := { s1 with heap := h5 }) (fl := none) ⟨fl5.1, fl5.2.1, fl5.2.2.1, none, fl5.2.2.2⟩ fun h6 y1 y2 y3 up6 cc6 => ?_
    have fl6 : Heap.FlyingW B (X.env :: X.outer) a (.ref C) a0 h6 := ⟨y1, fl5.2.1, y2, y3⟩
    have cc6 := cc6 cc5
    have I6 := build h6 fl6 ((up4.trans up5).trans up6)
    have I6m := I6.mark a
    have q6 := qh C a H1 ek nH1
    -- raise D(..) from None
    obtain ⟨bm, Nn, nm, qn, bs, hdct, sn, sub, ab, col, dd, k0, k1, k2, k3, k5, mN, hC8, hN8, hni, TL⟩ := PySem.W.exc_obj I6.mod.kin ec.ex
    refine wpAny_execs_cons (raise_from (C := C8) (nm := nm) (q := qn) (N := Nn) (bs := bs) (bm := bm) (hdct := hdct) (sn := sn) (sub := sub) (ab := ab) (col := col) (dd := dd) (k0 := k0) (k1 := k1) (k2 := k2) (k3 := k3) (k5 := k5)
      PySem.F.excBase_ValueError (mN := mN) (TL.hasType PySem.F.excBase_ValueError.hasBase) (a := a) rfl rfl hni (ld_glob (X := markCx X a) I6m hg8 hm8 ⟨rfl, ?_⟩ hd8))
    have kk : ∀ b o, X.base.get? b = some o → h6.get? b = some o := I6.bk
    show wpAny _ _ (evalArgs (.ref C8) true ((false, eval (.Constant (.str c) ck cp) X.env) :: backTo cpos (starEach [] X.env)) []) _ _ _
    refine Calls.evalArgs_plain (Calls.spliced_cons (Calls.Constant_str (Calls.spliced_nil ?_)))
    refine ⟨rfl, by show 1 ≤ sizeLine; decide, kk _ _ hC8, hN8.keeps kk, TL.keeps kk, cc6, fun h7 e t en tn keep7 he7 => ?_⟩
    have hst6 : h6.FunFrames X.base X.stack := I6.stack
    have hs8 : (PySem.W.hideAll h6 (frs X.stack)).StaysIn h6 := fun b o z => PySem.W.of_hideAll _ z
    have fresh : ∀ b, h6.get? b = none → (PySem.W.hideAll h6 (frs X.stack)).get? b = none := fun b hb => by
      cases hq : (PySem.W.hideAll h6 (frs X.stack)).get? b with
      | none => rfl
      | some o' => have := hs8 b o' hq; rw [hb] at this; cases this
    have hst8 : h6.FunFrames (PySem.W.hideAll h6 (frs X.stack)) X.stack := PySem.W.funFrames_hide hst6 fun env he b hb => mem_frs he hb
    have hst7 : h7.FunFrames (PySem.W.hideAll h6 (frs X.stack)) (X.env :: X.outer) := by
      rw [← hst]
      exact hst8.of_keeps fun b o hb _ => ⟨o, keep7 b o hb, rfl⟩
    show wpAny _ (X.A.mark (some (.ref a))) (noteFrame (.ref e) X.env) _ _ _
    refine note_first (base := PySem.W.hideAll h6 (frs X.stack)) (outer := X.outer) (L := X.env.locals) (a0 := .ref t) (by show X.A.frames = _; rw [← hst]; exact I.ok.frames) hst7 hfr he7 (fun b o hb => keep7 b o (hs8 b o hb)) (fresh e en) rfl rfl rfl fun h8 held8 up8 => ?_
    show cameBackBy (model X.prog X.w) X.A X.env X.xe (.ref e) _
    unfold cameBackBy
    obtain ⟨g1, g2, g3, oe, vs, Tt, oT, ts, ge, gc, gd, gv1, gT, gTe, goT, gdT, gts⟩ := held8
    refine wpAny_bind (wpAny_field ge gd gv1 ?_)
    rw [if_neg (show ¬ ((Value.ref Tt == Value.none) = true) from by simp)]
    refine setFlight_any (base := PySem.W.hideAll h6 (frs X.stack)) (l := X.env :: X.outer) (cls := .ref C8) (a0 := .ref t) ⟨g1, g2, g3, some X.env.locals, oe, vs, Tt, oT, ts, ge, gc, gd, gv1, gT, gTe, goT, gdT, gts⟩ fun h9 held9 up9 => ?_
    have tr6 : ∀ b o, upd H1 a (excO a C) b = some o → ∃ ob, (PySem.W.hideAll h6 (frs X.stack)).get? b = some ob := fun b o z => by
      obtain ⟨ob, z1⟩ := (I6.hok b o z).ex
      refine ⟨ob, PySem.W.hideAll_get _ z1 fun hb => ?_⟩
      rw [I6.stkFree b hb] at z
      cases z
    have upF : ∀ b o, h6.get? b = some o → b ∈ frs X.stack → ∃ sl, h9.get? b = some { o with slots := sl } := fun b o z hb => by
      obtain ⟨_, o', e', d'⟩ := hst6.mem hb
      rw [z] at e'
      cases e'
      obtain ⟨sl, z1⟩ := up8 b o (keep7 b o z) d'
      obtain ⟨sl', z2⟩ := up9 b _ z1 d'
      exact ⟨sl', z2⟩
    have held9' : HeldAny (PySem.W.hideAll h6 (frs X.stack)) X.stack e (.ref C8) (.ref t) h9 := ⟨held9.1, held9.2.1, by have := held9.2.2.1; rwa [← hst] at this, held9.2.2.2⟩
    refine hpx [] pins σ' _ _ (.ref e) _ (I6.tok _) (fun b hb => nomatch hb) ⟨e, C8, .ref t, PySem.W.hideAll h6 (frs X.stack), _, rfl, en, rfl, bare, held9', ?_, ?_, tr6, fun b o z nm _ => ⟨o, PySem.W.hideAll_get _ z nm⟩, q6⟩
    · refine ⟨fun b o z n nm _ => held9.1 b o (PySem.W.hideAll_get _ z nm), fun b o z n hb _ => upF b o z hb, fun b o z n _ => n, fun b o z _ => ?_, fun _ _ z => z, fun _ _ _ z => z, fun b ps z => ⟨#[], by rw [z]; simp⟩⟩
      by_cases hb : b ∈ frs X.stack
      · obtain ⟨sl, z1⟩ := upF b o z hb
        exact ⟨_, z1⟩
      · exact ⟨o, held9.1 b o (PySem.W.hideAll_get _ z hb)⟩
    · intro b u z
      have kt : ∀ c v, upd H1 a (excO a C) c = some v → ∀ o, h6.get? c = some o → h9.get? c = some o := fun c v z o q => by
        obtain ⟨ob, z1⟩ := tr6 c v z
        have := hs8 c ob z1
        rw [q] at this
        cases this
        exact held9.1 c o z1
      refine (I6.hok b u z).stay (fun c v hcc q => ?_) (fun _ q => q) fun _ _ q => q
      rcases hcc with rfl | hcc
      · exact kt _ _ z v q
      · exact kt _ _ hcc v q
  · cases f with
    | next =>
      obtain ⟨σ1, H1, I1, q1⟩ := z
      exact wpAny_execs_nil ⟨σ1, H1, I1.untry I.ok, q1⟩
    | brk => obtain ⟨σ1, H1, I1, q1⟩ := z; exact ⟨σ1, H1, I1.untry I.ok, q1⟩
    | cont => obtain ⟨σ1, H1, I1, q1⟩ := z; exact ⟨σ1, H1, I1.untry I.ok, q1⟩
    | ret v => obtain ⟨u, σ1, H1, I1, r1, q1⟩ := z; exact ⟨u, σ1, H1, I1.untry I.ok, r1, q1⟩
end L2
namespace L2
open PySem PySem.Spec PyProof.Rows
/-! ### a text is walked -/
def Its (x : Str) : It := ⟨fun i _ => i < x.cps.size, fun i H v H' => H' = H ∧ ∃ c, x.cps[i]? = some c ∧ v = .str ⟨#[c]⟩, fun i _ => x.cps.size ≤ i⟩
theorem turn_strA {P : Program} {w : World} {K : PySem.W.Frag} {tg : Expr} {x : Str} {t : Tok} (it : Addr) : Turn P w K tg (Its x) [it] it (fun i h => h.IsStrIter it "str_ascii_iterator" x t i) where
  mem := by simp
  obj := fun i h st b hb => by
    have e : b = it := by simpa using hb
    subst e
    obtain ⟨o, e, c, d⟩ := st
    exact ⟨o, e, fun v z => by rw [d] at z; cases z⟩
  keep := fun i h h' st k => by
    obtain ⟨o, e, r⟩ := st
    exact ⟨o, k it (by simp) o e, r⟩
  item := by
    intro X hP hw hK hc i pins s σ H E I hf st hg
    subst hP hw hK
    obtain ⟨f0, f1, f2, f3, f4, f5⟩ := hf it (by simp)
    have hg' : i < x.cps.size := hg
    refine wpAny_pyNext_ascii_item st (c := x.cps[i]) (Array.getElem?_eq_getElem hg') fun h' st' sb => ?_
    have I1 : Inv X pins σ H { s with heap := h', toks := s.toks + 1 } := I.turned (t' := s.toks + 1) (fun b o hb e => (sb.2 b hb).trans e) f0 f1 f3 f4 f5
    obtain ⟨o, e, c, d⟩ := id st'
    exact ⟨_, rfl, go_of (s := { s with heap := h', toks := s.toks + 1 }) e c d (by decide) ⟨.str ⟨#[x.cps[i]]⟩, H, I1, ⟨_, rfl⟩, ⟨rfl, _, Array.getElem?_eq_getElem hg', rfl⟩, st', fun b hb => (hf b hb).1⟩⟩
  done := by
    intro X hP hw hK hc i pins s σ H E I hf st hg
    subst hP hw hK
    obtain ⟨f0, f1, f2, f3, f4, f5⟩ := hf it (by simp)
    exact wpAny_pyNext_ascii_end (I.ok.hd hc) st (Array.getElem?_eq_none hg) fun h' eb => ⟨rfl, I.turned (t' := s.toks) (fun b o hb e => eb b o hb e) f0 f1 f3 f4 f5⟩
  self := fun _ _ _ _ _ st h => wpAny_pyIter_striter_ascii st h
theorem turn_strW {P : Program} {w : World} {K : PySem.W.Frag} {tg : Expr} {x : Str} {t : Tok} (it : Addr) : Turn P w K tg (Its x) [it] it (fun i h => h.IsStrIter it "str_iterator" x t i) where
  mem := by simp
  obj := fun i h st b hb => by
    have e : b = it := by simpa using hb
    subst e
    obtain ⟨o, e, c, d⟩ := st
    exact ⟨o, e, fun v z => by rw [d] at z; cases z⟩
  keep := fun i h h' st k => by
    obtain ⟨o, e, r⟩ := st
    exact ⟨o, k it (by simp) o e, r⟩
  item := by
    intro X hP hw hK hc i pins s σ H E I hf st hg
    subst hP hw hK
    obtain ⟨f0, f1, f2, f3, f4, f5⟩ := hf it (by simp)
    have hg' : i < x.cps.size := hg
    refine wpAny_pyNext_wide_item st (c := x.cps[i]) (Array.getElem?_eq_getElem hg') fun h' st' sb => ?_
    have I1 : Inv X pins σ H { s with heap := h', toks := s.toks + 1 } := I.turned (t' := s.toks + 1) (fun b o hb e => (sb.2 b hb).trans e) f0 f1 f3 f4 f5
    obtain ⟨o, e, c, d⟩ := id st'
    exact ⟨_, rfl, go_of (s := { s with heap := h', toks := s.toks + 1 }) e c d (by decide) ⟨.str ⟨#[x.cps[i]]⟩, H, I1, ⟨_, rfl⟩, ⟨rfl, _, Array.getElem?_eq_getElem hg', rfl⟩, st', fun b hb => (hf b hb).1⟩⟩
  done := by
    intro X hP hw hK hc i pins s σ H E I hf st hg
    subst hP hw hK
    obtain ⟨f0, f1, f2, f3, f4, f5⟩ := hf it (by simp)
    exact wpAny_pyNext_wide_end (I.ok.hd hc) st (Array.getElem?_eq_none hg) fun h' eb => ⟨rfl, I.turned (t' := s.toks) (fun b o hb e => eb b o hb e) f0 f1 f3 f4 f5⟩
  self := fun _ _ _ _ _ st h => wpAny_pyIter_striter_wide st h
def iStr (tl : TE) : TI := fun σ H R => tl σ H fun v H1 => ∃ x, v = .str x ∧ R (Its x) H1
section
variable {X : Cx} {tg : Expr}
theorem pi_str {l : Expr} {tl : TE} (hl : PE X l tl) : PI X tg l (iStr tl) := by
  intro pins s σ H R I h
  refine thn (hl pins s σ H _ I h) fun v s1 ⟨y, H1, I1, r1, q1⟩ => ?_
  obtain ⟨x, e, q⟩ := q1
  subst e
  obtain ⟨t, rfl⟩ := r1
  have fp : ∀ b ∈ [s1.heap.objs.size], FpOk X pins H1 b := fun b hb => by
    have e : b = s1.heap.objs.size := by simpa using hb
    subst e
    exact I1.fpOk (Nat.le_refl _) (I1.hok.fresh (Nat.le_refl _))
  cases ha : x.cps.all (· < 128) with
  | true =>
    refine wpAny_pyIter_ascii ha ?_
    exact ⟨s1.heap.objs.size, [s1.heap.objs.size], _, _, H1, rfl, I1.kept (t' := s1.toks) fun b o e => Heap.get?_push_of_some _ e, turn_strA (t := t) _, ⟨_, Heap.get?_push_size _ rfl, rfl, rfl⟩, fp, q⟩
  | false =>
    refine wpAny_pyIter_wide ha ?_
    exact ⟨s1.heap.objs.size, [s1.heap.objs.size], _, _, H1, rfl, I1.kept (t' := s1.toks) fun b o e => Heap.get?_push_of_some _ e, turn_strW (t := t) _, ⟨_, Heap.get?_push_size _ rfl, rfl, rfl⟩, fp, q⟩
theorem for_str {x : Str} {g : TG} {tb : TS} {D : Ends} {σ : St} {H : Hp} (Pv : Nat → St → Hp → Prop) (h0 : Pv 0 σ H)
    (hs : ∀ i c σ H, x.cps[i]? = some c → Pv i σ H → g (.str ⟨#[c]⟩) σ H fun σ2 H2 => tb { D with nx := Pv (i + 1), ct := Pv (i + 1), bk := D.nx } σ2 H2) (hd : ∀ σ H, Pv x.cps.size σ H → D.nx σ H) :
    ∃ W : Nat → Nat → St → Hp → Prop, (∃ m, W 0 m σ H) ∧ ∀ i m σ H, W i m σ H →
      ((Its x).stop i H ∧ D.nx σ H) ∨ ((Its x).go i H ∧ ∃ N : St → Hp → Prop, (∀ σ' H', N σ' H' → ∃ m', m' < m ∧ W (i + 1) m' σ' H') ∧ ∀ v H', (Its x).yld i H v H' → g v σ H' fun σ2 H2 => tb { D with nx := N, ct := N, bk := D.nx } σ2 H2) := by
  refine ⟨fun i m σ H => m = x.cps.size - i ∧ i ≤ x.cps.size ∧ Pv i σ H, ⟨x.cps.size, by simp, Nat.zero_le _, h0⟩, ?_⟩
  rintro i m σ H ⟨rfl, hi, hp⟩
  by_cases hlt : i < x.cps.size
  · refine .inr ⟨hlt, Pv (i + 1), fun σ' H' hN => ⟨x.cps.size - (i + 1), by omega, rfl, hlt, hN⟩, ?_⟩
    rintro v H' ⟨rfl, c, hc, rfl⟩
    exact hs i c σ H' hc hp
  · have : i = x.cps.size := by omega
    subst this
    exact .inl ⟨Nat.le_refl _, hd σ H hp⟩
/-! ### int of a number's own text; min, max of two; xs.insert(i, y); x[::-1] -/
theorem call_intNum : CallR X (.type "int") (fun xs H Q => ∃ k : Nat, xs = [.str (Str.ofString (toString (k : Int)))] ∧ k < 1000 ∧ Q (.int k) H) := by
  intro pins s σ H xs us Q I r h
  obtain ⟨k, rfl, hk, q⟩ := h
  obtain ⟨u, rfl, t, rfl⟩ := vals1 r
  exact PySem.W.KIN.call_num (by omega) (by omega) ⟨.int k, H, I.tok _, ⟨_, rfl⟩, q⟩
inductive RTwo (K : PySem.W.Frag) (f : Int → Int → Int) (xs : List V) (H : Hp) (Q : VK) : Prop where | mk (l : Addr) (i j : Int) (e : xs = [.ref l]) (h : SqL K H l [.int i, .int j]) (q : Q (.int (f i j)) H) : RTwo K f xs H Q
theorem call_maxT (hc : X.calm = true) : CallR X (.builtin "max") (RTwo X.K fun i j => if j > i then j else i) := by
  intro pins s σ H xs us Q I r h
  obtain ⟨l, i, j, rfl, hl, q⟩ := h
  obtain ⟨u, rfl, rx⟩ := vals1 r
  cases rx
  obtain ⟨its, r', pl, _⟩ := I.list hl
  obtain ⟨u1, u2, rfl, ⟨t1, rfl⟩, ⟨t2, rfl⟩⟩ := vals2 r'
  have ei : intItems #[(i, t1), (j, t2)] = #[.int i t1, .int j t2] := by simp [intItems]
  refine max_intList (xs := #[(i, t1), (j, t2)]) (I.ok.hd hc) (by rw [ei]; exact pl.isList) (by show 0 < 2; decide) fun v h' tk hv hk => ?_
  refine ⟨_, H, I.kept hk, ?_, q⟩
  by_cases hj : j > i
  · have e : argBest (fun a b => decide (numAt #[(i, t1), (j, t2)] a > numAt #[(i, t1), (j, t2)] b)) 1 = 1 := by
      show (if decide (j > i) = true then 1 else 0) = 1
      rw [if_pos (decide_eq_true hj)]
    have hv' : (intItems #[(i, t1), (j, t2)])[argBest (fun a b => decide (numAt #[(i, t1), (j, t2)] a > numAt #[(i, t1), (j, t2)] b)) 1]? = some v := hv
    rw [e, ei] at hv'
    have : some (Value.int j t2) = some v := hv'
    cases this
    rw [if_pos hj]
    exact ⟨_, rfl⟩
  · have e : argBest (fun a b => decide (numAt #[(i, t1), (j, t2)] a > numAt #[(i, t1), (j, t2)] b)) 1 = 0 := by
      show (if decide (j > i) = true then 1 else 0) = 0
      rw [if_neg (by simpa using hj)]
    have hv' : (intItems #[(i, t1), (j, t2)])[argBest (fun a b => decide (numAt #[(i, t1), (j, t2)] a > numAt #[(i, t1), (j, t2)] b)) 1]? = some v := hv
    rw [e, ei] at hv'
    have : some (Value.int i t1) = some v := hv'
    cases this
    rw [if_neg hj]
    exact ⟨_, rfl⟩
theorem call_minT (hc : X.calm = true) : CallR X (.builtin "min") (RTwo X.K fun i j => if j < i then j else i) := by
  intro pins s σ H xs us Q I r h
  obtain ⟨l, i, j, rfl, hl, q⟩ := h
  obtain ⟨u, rfl, rx⟩ := vals1 r
  cases rx
  obtain ⟨its, r', pl, _⟩ := I.list hl
  obtain ⟨u1, u2, rfl, ⟨t1, rfl⟩, ⟨t2, rfl⟩⟩ := vals2 r'
  have ei : intItems #[(i, t1), (j, t2)] = #[.int i t1, .int j t2] := by simp [intItems]
  refine min_intList (xs := #[(i, t1), (j, t2)]) (I.ok.hd hc) (by rw [ei]; exact pl.isList) (by show 0 < 2; decide) fun v h' tk hv hk => ?_
  refine ⟨_, H, I.kept hk, ?_, q⟩
  by_cases hj : j < i
  · have e : argBest (fun a b => decide (numAt #[(i, t1), (j, t2)] a < numAt #[(i, t1), (j, t2)] b)) 1 = 1 := by
      show (if decide (j < i) = true then 1 else 0) = 1
      rw [if_pos (decide_eq_true hj)]
    have hv' : (intItems #[(i, t1), (j, t2)])[argBest (fun a b => decide (numAt #[(i, t1), (j, t2)] a < numAt #[(i, t1), (j, t2)] b)) 1]? = some v := hv
    rw [e, ei] at hv'
    have : some (Value.int j t2) = some v := hv'
    cases this
    rw [if_pos hj]
    exact ⟨_, rfl⟩
  · have e : argBest (fun a b => decide (numAt #[(i, t1), (j, t2)] a < numAt #[(i, t1), (j, t2)] b)) 1 = 0 := by
      show (if decide (j < i) = true then 1 else 0) = 0
      rw [if_neg (by simpa using hj)]
    have hv' : (intItems #[(i, t1), (j, t2)])[argBest (fun a b => decide (numAt #[(i, t1), (j, t2)] a < numAt #[(i, t1), (j, t2)] b)) 1]? = some v := hv
    rw [e, ei] at hv'
    have : some (Value.int i t1) = some v := hv'
    cases this
    rw [if_neg hj]
    exact ⟨_, rfl⟩
inductive RIns (x : V) (vs : List V) (H : Hp) (Q : VK) : Prop where | mk (l : Addr) (xs : List V) (i : Nat) (y : V) (e1 : x = .ref l) (e2 : vs = [.int i, y]) (h : H l = some (.lst xs)) (hi : i ≤ xs.length) (hz : xs.length ≤ 100000) (q : Q .non (upd H l (.lst (xs.take i ++ y :: xs.drop i)))) : RIns x vs H Q
theorem mt_insert : MtM X "list.insert" RIns := by
  intro pins s σ H x vs v us Q I rx rv h
  obtain ⟨l, xs, i, y, rfl, rfl, hH, hi, hz, q⟩ := h
  cases rx
  obtain ⟨u1, u2, rfl, ⟨t, rfl⟩, ru⟩ := vals2 rv
  obtain ⟨z, its, n, r, hl, e⟩ := I.lstM hH
  have hsz : its.toArray.size ≤ sizeLine := by rw [List.size_toArray, ← hl, sizeLine_eq]; omega
  obtain ⟨z0, hz0⟩ : ∃ z : Int, z = (i : Int) := ⟨_, rfl⟩
  have fit0 : Builtin.List.listFitsIndex z0 = true := fitsIndex_both (k := z0) (by omega) (by omega)
  have fit : ¬ (!Builtin.List.listFitsIndex z0) = true := by rw [fit0]; decide
  have mt := AutoListH.list_insert_list_int_val_1 l its.toArray n z0 t u2 fit hsz
  rw [← hz0]
  refine call_meets PySem.F.slot_list_insert ⟨_, e, rfl⟩ PySem.F.entry_list_insert (PySem.F.args_list_insert_3 _ _ _) mt ⟨e, ?_⟩
  have ri : Vals (xs.take i ++ y :: xs.drop i) (its.take i ++ u2 :: its.drop i) := (r.take i).append (.cons ru (r.drop i))
  refine ⟨.non, _, I.lset (its' := its.take i ++ u2 :: its.drop i) hH e ?_ ri ?_, rfl, q⟩
  · have ek : (if z0 < 0 then (z0 + ((its.toArray.size : Nat) : Int)).toNat else min z0.toNat its.toArray.size) = i := by
      rw [if_neg (by omega), List.size_toArray]
      omega
    dsimp only
    rw [ek]
    apply Array.toList_inj.mp
    simp only [Array.toList_append, Array.toList_push, Array.toList_extract, List.extract_eq_take_drop, List.drop_zero, Nat.sub_zero, List.append_assoc, List.singleton_append, List.size_toArray]
    rw [List.take_of_length_le (l := its.drop i) (by rw [List.length_drop]; omega)]
  · rw [List.length_append, List.length_cons, List.length_take, List.length_drop, sizeLine_eq]
    omega
/-- x[::k] of a text: some text, no longer -/
inductive RRev (x : V) (H : Hp) (Q : VK) : Prop where | mk (a : Str) (e : x = .str a) (h : a.length ≤ 100000) (q : ∀ b : Str, b.length ≤ a.length → Q (.str b) H) : RRev x H Q
def tRev (te tp : TE) : TE := fun σ H Q => te σ H fun x H1 => tp σ H1 fun z H2 => ∃ k : Int, z = .int k ∧ k ≠ 0 ∧ RRev x H2 Q
theorem pe_rev {e st : Expr} {te tp : TE} {p2 pos : Pos} (he : PE X e te) (hp : PE X st tp) : PE X (.Subscript e (.Slice none none (some st) p2) pos) (tRev te tp) := by
  intro pins s σ H Q I h
  refine Subscript_ (thn (he pins s σ H _ I h) fun v s1 ⟨x, H1, I1, r1, q1⟩ => ?_)
  refine wpAny_Slice ?_
  rw [evalPart_none]
  refine wpAny_pure ?_
  refine wpAny_pure ?_
  show wpAny _ X.A (eval st X.env) _ _ _
  refine thn (hp pins s1 σ H1 _ I1 q1) fun u s2 ⟨z, H2, I2, r2, k, ez, hk, q2⟩ => ?_
  subst ez
  obtain ⟨t, rfl⟩ := r2
  obtain ⟨a, rfl, ha, q⟩ := q2
  obtain ⟨ta, rfl⟩ := r1
  have I4 : Inv X pins σ H2 { s2 with heap := s2.heap.push { cls := .type "slice", data := .fields #[.none, .none, .int k t] } } := I2.kept (t' := s2.toks) fun b ob q => Heap.get?_push_of_some _ q
  show wpAny (model X.prog X.w) X.A (subscriptTail e (.Slice none none (some st) p2) (.str a ta) (.ref s2.heap.objs.size)) (EP X pins σ Q) X.xe { s2 with heap := s2.heap.push { cls := .type "slice", data := .fields #[.none, .none, .int k t] } }
  refine tail_any (ops := [.ref s2.heap.objs.size, .str a ta]) (typeIs_str _ _ _) PySem.F.slot_str_getitem.lookup (wpAny_getItem_str_slice (l := none) (u := none) (st := some (k, t)) ⟨_, Heap.get?_push_size _ rfl, rfl, rfl⟩ (by simpa using hk) ?_) (by with_unfolding_all rfl)
  have hle := Txt.sliceBy_le a none none (k, t) hk
  refine post_val_or_str ⟨Nat.le_trans hle (by rw [sizeLine_eq]; omega), fun t' c => ?_⟩
  exact ⟨.str (Txt.sliceBy a none none (k, t)), H2, I4.tok c, ⟨t', rfl⟩, q _ hle⟩
end
end L2
namespace L2
open PySem PySem.Spec PyProof.Rows
/-! ### a list of texts, written out -/
def litStr : Expr → Option Str
  | .Constant (.str a) _ _ => some a
  | _ => none
def litStrs : List Expr → Option (List Str)
  | [] => some []
  | e :: es => match litStr e with
    | some q => match litStrs es with
      | some qs => some (q :: qs)
      | none => none
    | none => none
section
variable {X : Cx}
theorem pa_litS : ∀ (es : List Expr) (qs : List Str), litStrs es = some qs → PA X es (fun _ H Q => Q (qs.map V.str) H)
  | [], qs, h => by
    cases h
    intro pos pins s σ H Q I hq
    exact pa_nil pos pins s σ H Q I hq
  | e :: es, qs, h => by
    unfold litStrs at h
    cases he : litStr e with
    | none => rw [he] at h; cases h
    | some q =>
      rw [he] at h
      cases hes : litStrs es with
      | none => rw [hes] at h; cases h
      | some qs' =>
        rw [hes] at h
        have : q :: qs' = qs := Option.some.inj h
        subst this
        have hform : ∃ j p, e = .Constant (.str q) j p := by
          unfold litStr at he
          split at he
          · exact ⟨_, _, by rw [Option.some.inj he]⟩
          · cases he
        obtain ⟨j, p, rfl⟩ := hform
        intro pos pins s σ H Q I hq
        exact pa_cons pe_str (pa_litS es qs' hes) rfl pos pins s σ H Q I hq
theorem pe_litStrs {es : List Expr} {pos : Pos} (qs : List Str) (h : litStrs es = some qs) : PE X (.List es pos) (fun _ H Q => qs.length ≤ sizeLine ∧ ∀ l, H l = none → Q (.ref l) (upd H l (.lst (qs.map V.str)))) := by
  intro pins s σ H Q I hq
  refine pe_lst (pa_litS es qs h) pins s σ H Q I ?_
  refine ⟨by rw [List.length_map]; exact hq.1, fun l hl => hq.2 l hl⟩
end
end L2
namespace L2
open PySem PySem.Spec PyProof.Rows
/-! ### try: y = f(..), what is raised told by the names as they stand -/
def tTry2 (Ek : St → XK) (i : Nat) (tb th : TS) : TS := fun D σ H => tb D σ H ∧ ∀ (C a : Addr) (H' : Hp), Ek σ (.ref C) none H' → H' a = none →
  th { nx := fun σ2 H2 => ∃ v, σ2[i]? = some (some v) ∧ D.nx ((σ2.set i (some .non)).set i none) H2, rt := fun _ _ => False } (σ.set i (some (.ref a))) (upd H' a (excO a C))
theorem ps_try2 {X : Cx} {Ek : St → XK} {x n : Str} {i : Nat} {CH : Addr} {body suite : List Stmt} {b₀ : Stmt} {tb th : TS} {np hpos pos : Pos} (hc : X.calm = true) (hst : X.stack = X.env :: X.outer) (hfr : X.env.frame = some X.env.locals) (hN : X.N.Nodup) (hi : X.N[i]? = some n) (hn : X.env.scope.names.lookup n = some .local)
    (hg : Gl X x) (hm : X.mg x = some (.ref CH)) (hmat : ∀ (σ : St) (C : Addr) (H' : Hp), Ek σ (.ref C) none H' → PySem.W.exmOne X.K (.ref C) (.ref CH) = some true)
    (hb : ∀ pn E1 σ, PassesAt (CX1 X.prog X.w) (tryCx X pn E1) (Ek σ) σ → ∀ (pins : List (Addr × Obj)) (s : Shared) (H : Hp) (D : Ends), Inv (tryCx X pn E1) pins σ H s → tb D σ H → wpAny (model X.prog X.w) X.A (execs body X.env) (SP (tryCx X pn E1) pins D) E1 s) (hh : ∀ a, PSs (markCx X a) (b₀ :: suite) th) (hd : (x == ("__debug__" : Str)) = false := by decide) :
    PS X (.Try body [.ExceptHandler (some (.Name x np)) (some n) (b₀ :: suite) hpos] [] [] pos) (tTry2 Ek i tb th) := by
  rintro pins s σ H D I ⟨qb, qh⟩
  refine wpAny_Try_except ?_
  -- the body
  refine wpAny_mono (hb (X.pn ++ pins) _ σ (fun pins' H' s' e s1 I' cx => ?_) [] s H D (I.try1 _) qb) (fun f s1 z => ?_) fun e s1 z => z
  · -- the handler
    have I0 : Inv X pins σ H' s' := I'.untry I.ok
    obtain ⟨a, C, a0, B, H1, rfl, na, os, bare, fl, un, ok, tr, old, ek⟩ := cx
    have fl0 : Heap.FlyingW B (X.env :: X.outer) a (.ref C) a0 s1.heap := hst ▸ fl
    show wpAny _ X.A (noteFrame (.ref a) X.env) _ _ s1
    refine wpAny_looks_onW (outer := X.outer) (L := X.env.locals) (by rw [← hst]; exact I.ok.frames) hfr fl0 fun h4 held4 up4 => ?_
    refine wpAny_landsW held4 fun h5 fl5 up5 => ?_
    have nH1 : H1 a = none := by
      cases z : H1 a with
      | none => rfl
      | some o =>
        obtain ⟨ob, z1⟩ := tr a o z
        rw [fl0.2.1] at z1
        cases z1
    -- the state with the exception known
    have build : ∀ h6 : Heap, Heap.FlyingW B (X.env :: X.outer) a (.ref C) a0 h6 → s1.heap.UpToSlots h6 → Inv X pins σ (upd H1 a (excO a C)) { s1 with heap := h6 } := fun h6 fl6 up6 => by
      have kB : ∀ b o, s'.heap.get? b = some o → H' b = none → b ∉ frs X.stack → h6.get? b = some o := fun b o e n0 nm => by
        obtain ⟨ob, z⟩ := old b o e nm
        have z1 := fl0.1 b ob z
        rw [un.keep b o e n0 nm (by simp)] at z1
        cases z1
        exact fl6.1 b o z
      have na' : ∀ b o, s'.heap.get? b = some o → b ≠ a := fun b o e z => by rw [z, na] at e; cases e
      have nt : ∀ b o, H1 b = some o → b ≠ a := fun b o e z => by rw [z, nH1] at e; cases e
      have frm : ∀ b o, s'.heap.get? b = some o → b ∈ frs X.stack → ∃ sl, h6.get? b = some { o with slots := sl } := fun b o e hbm => by
        obtain ⟨_, o', e', d'⟩ := I0.stack.mem hbm
        rw [e] at e'; cases e'
        obtain ⟨sl, e2⟩ := un.slot b o e (I0.stkFree b hbm) hbm (by simp)
        obtain ⟨sl', e3⟩ := up6 b _ e2 d'
        exact ⟨sl', e3⟩
      refine I0.call' (ch := []) os ⟨fun b o e n0 nm _ => kB b o e n0 nm, fun b o e n0 hbm _ => frm b o e hbm, fun b o e n0 _ => ?_, fun b o e _ => ?_, fun b xs e => ?_, fun b o u e => ?_, fun b ps e => ?_⟩ (fun b u e => ?_) bare (fun _ z => nomatch z)
      · rw [upd_ne (na' b o e)]
        exact un.free b o e n0 (by simp)
      · by_cases hbm : b ∈ frs X.stack
        · obtain ⟨sl, e2⟩ := frm b o e hbm
          exact ⟨_, e2⟩
        · obtain ⟨ob, z⟩ := old b o e hbm
          exact ⟨ob, fl6.1 b ob z⟩
      · have := un.tups b xs e
        rw [upd_ne (nt b _ this)]
        exact this
      · have := un.frzs b o u e
        rw [upd_ne (nt b _ this)]
        exact this
      · obtain ⟨more, this⟩ := un.tbls b ps e
        exact ⟨more, by rw [upd_ne (nt b _ this)]; exact this⟩
      · by_cases hba : b = a
        · subst hba
          rw [upd_same] at e
          cases e
          obtain ⟨ob, z1, z2⟩ := fl6.there
          exact excO_ok ⟨ob, z1, z2⟩
        · rw [upd_ne hba] at e
          have kt : ∀ c v, H1 c = some v → ∀ o, s1.heap.get? c = some o → h6.get? c = some o := fun c v e o q => by
            obtain ⟨ob, z⟩ := tr c v e
            have := fl0.1 c ob z
            rw [q] at this; cases this
            exact fl6.1 c o z
          refine (ok b u e).stay (fun c v hcc q => ?_) (fun c q => by rw [upd_ne (nt c _ q)]; exact q) fun c xs q => by rw [upd_ne (nt c _ q)]; exact q
          rcases hcc with rfl | hcc
          · exact kt _ _ e v q
          · exact kt _ _ hcc v q
    have I5 := build h5 fl5 (up4.trans up5)
    -- the class is looked at
    refine wpAny_handleBy_cons (codeAny_handlers_test ?_) (by intro z; cases z)
    have Im := I5.mark a
    refine ld_glob (X := markCx X a) Im hg hm ?_ hd
    have K5 : X.K.In h5 := I5.kIn
    have O5 : PySem.W.OfCls h5 a C := by obtain ⟨ob, z1, z2⟩ := fl5.there; exact ⟨ob, z1, z2⟩
    have LM := PySem.W.exm_one (M := model X.prog X.w) K5 O5.type (hmat σ C H1 ek)
    refine LM _ _ _ _ (fun _ _ z => z) ?_
    refine codeAny_handlers_suite_as ?_
    refine lands_againW fl5 fun h6 fl6 up6 => ?_
    have I6 := (build h6 fl6 ((up4.trans up5).trans up6)).mark a
    refine store_ok (X := markCx X a) (i := i) (v := .ref a) I6 hN hi (.inl hn) rfl (fun s7 I7 => ?_) (.inr hn)
    have red := qh C a H1 ek nH1
    refine wpAny_mono (hh a pins s7 _ _ _ I7 red) (fun f s8 z => ?_) fun e s8 z => z.elim
    cases f with
    | next =>
      obtain ⟨σ8, H8, I8, v, hv, q8⟩ := z
      have I8' : Inv X pins σ8 H8 s8 := I8.unmark I.ok
      show wpAny _ X.A (do bindName X.env n .none; unbindBehindTheSuite X.env n hpos) _ _ s8
      have hil : i < σ8.length := (List.getElem?_eq_some_iff.mp hv).1
      refine wpAny_bind (wpAny_bindName (store_ok (i := i) (v := .non) I8' hN hi (.inl hn) rfl (fun s9 I9 => ?_) (.inr hn)))
      exact unbind_ok I9 hN hi hn (List.getElem?_set_self hil) fun s10 I10 => ⟨_, _, I10, q8⟩
    | brk => obtain ⟨_, _, _, q⟩ := z; exact q.elim
    | cont => obtain ⟨_, _, _, q⟩ := z; exact q.elim
    | ret v => obtain ⟨_, _, _, _, _, q⟩ := z; exact q.elim
  · cases f with
    | next =>
      obtain ⟨σ1, H1, I1, q1⟩ := z
      exact wpAny_execs_nil ⟨σ1, H1, I1.untry I.ok, q1⟩
    | brk => obtain ⟨σ1, H1, I1, q1⟩ := z; exact ⟨σ1, H1, I1.untry I.ok, q1⟩
    | cont => obtain ⟨σ1, H1, I1, q1⟩ := z; exact ⟨σ1, H1, I1.untry I.ok, q1⟩
    | ret v => obtain ⟨u, σ1, H1, I1, r1, q1⟩ := z; exact ⟨u, σ1, H1, I1.untry I.ok, r1, q1⟩
end L2
/-! Orders of few things: what of the mathematics the program and its promises share. -/
set_option linter.all false
namespace MJ
/-- a comes below c by the pairs -/
inductive Rch (ps : List (Nat × Nat)) : Nat → Nat → Prop
  | refl (a : Nat) : Rch ps a a
  | step {a b c : Nat} : (a, b) ∈ ps → Rch ps b c → Rch ps a c
theorem Rch.one {ps : List (Nat × Nat)} {a b : Nat} (h : (a, b) ∈ ps) : Rch ps a b := .step h (.refl b)
theorem Rch.trans {ps : List (Nat × Nat)} {a b c : Nat} (h : Rch ps a b) (k : Rch ps b c) : Rch ps a c := by
  induction h with
  | refl => exact k
  | step m _ ih => exact .step m (ih k)
/-- the pairs name things below n and never come round -/
def Acy (n : Nat) (ps : List (Nat × Nat)) : Prop := ∃ rk : Nat → Nat, ∀ p ∈ ps, p.1 < n ∧ p.2 < n ∧ (p.1 = p.2 ∨ rk p.1 < rk p.2)
theorem Acy.lt {n : Nat} {ps : List (Nat × Nat)} (h : Acy n ps) : ∀ p ∈ ps, p.1 < n ∧ p.2 < n := fun p hp => by
  obtain ⟨rk, h⟩ := h
  exact ⟨(h p hp).1, (h p hp).2.1⟩
theorem Rch.rank {ps : List (Nat × Nat)} {rk : Nat → Nat} (h : ∀ p ∈ ps, p.1 = p.2 ∨ rk p.1 < rk p.2) {a b : Nat} (r : Rch ps a b) : a = b ∨ rk a < rk b := by
  induction r with
  | refl => exact .inl rfl
  | step m _ ih =>
    rcases h _ m with z | z
    · have z' := z
      dsimp only at z'
      rw [z']
      exact ih
    · rcases ih with e | e
      · subst e; exact .inr z
      · exact .inr (Nat.lt_trans z e)
theorem Acy.anti {n : Nat} {ps : List (Nat × Nat)} (h : Acy n ps) {a b : Nat} (r : Rch ps a b) (q : Rch ps b a) : a = b := by
  obtain ⟨rk, h⟩ := h
  rcases r.rank fun p hp => (h p hp).2.2 with e | e
  · exact e
  · rcases q.rank fun p hp => (h p hp).2.2 with f | f
    · exact f.symm
    · omega
/-! ### the square table, closed thing by thing -/
abbrev Tab := Nat → Nat → Bool
def told (ps : List (Nat × Nat)) : Tab := fun a b => a == b || ps.contains (a, b)
def wrow (m : Tab) (c : Nat) : Tab := fun a b => if m a c then m a b || m c b else m a b
def wk (m : Tab) : Nat → Tab
  | 0 => m
  | k + 1 => wrow (wk m k) k
theorem wrow_iff (m : Tab) (c a b : Nat) : wrow m c a b = true ↔ m a b = true ∨ (m a c = true ∧ m c b = true) := by
  unfold wrow
  cases m a c <;> simp
theorem wrow_self (m : Tab) (c b : Nat) : wrow m c c b = m c b := by
  unfold wrow
  cases m c c <;> simp
theorem wk_keep (m : Tab) (k a b : Nat) (h : m a b = true) : wk m k a b = true := by
  induction k with
  | zero => exact h
  | succ k ih => exact (wrow_iff ..).mpr (.inl ih)
theorem wk_through (m : Tab) (k : Nat) : ∀ c, c < k → ∀ a b, wk m k a c = true → wk m k c b = true → wk m k a b = true := by
  induction k with
  | zero => intro c hc; omega
  | succ k ih =>
    intro c hc a b h1 h2
    rw [show wk m (k + 1) = wrow (wk m k) k from rfl, wrow_iff] at h1 h2 ⊢
    by_cases e : c = k
    · subst e
      have h1' : wk m c a c = true := h1.elim id (·.1)
      have h2' : wk m c c b = true := h2.elim id (·.2)
      exact .inr ⟨h1', h2'⟩
    · have hc' : c < k := by omega
      rcases h1 with h1 | ⟨h1, h1'⟩ <;> rcases h2 with h2 | ⟨h2, h2'⟩
      · exact .inl (ih c hc' a b h1 h2)
      · exact .inr ⟨ih c hc' a k h1 h2, h2'⟩
      · exact .inr ⟨h1, ih c hc' k b h1' h2⟩
      · exact .inr ⟨h1, h2'⟩
theorem wk_sound {ps : List (Nat × Nat)} {m : Tab} (h : ∀ a b, m a b = true → Rch ps a b) (k : Nat) : ∀ a b, wk m k a b = true → Rch ps a b := by
  induction k with
  | zero => exact h
  | succ k ih =>
    intro a b q
    rcases (wrow_iff ..).mp q with q | ⟨q, q'⟩
    · exact ih a b q
    · exact (ih a k q).trans (ih k b q')
/-- the closed table -/
def clo (n : Nat) (ps : List (Nat × Nat)) : Tab := wk (told ps) n
theorem told_sound {ps : List (Nat × Nat)} {a b : Nat} (h : told ps a b = true) : Rch ps a b := by
  unfold told at h
  rcases Bool.or_eq_true_iff.mp h with h | h
  · have : a = b := by simpa using h
    subst this; exact .refl _
  · exact .one (by simpa using h)
theorem clo_iff {n : Nat} {ps : List (Nat × Nat)} (h : ∀ p ∈ ps, p.1 < n ∧ p.2 < n) {a b : Nat} : clo n ps a b = true ↔ Rch ps a b := by
  constructor
  · exact wk_sound (fun a b => told_sound) n a b
  · intro r
    induction r with
    | refl a => exact wk_keep _ _ _ _ (by simp [told])
    | step m _ ih => exact wk_through _ _ _ (h _ m).2 _ _ (wk_keep _ _ _ _ (by simp [told, m])) ih

/-! ### the rounds, row by row -/
def addRow (m : Tab) (a c : Nat) : Tab := fun x y => if x = a then m a y || m c y else m x y
def midRow (m : Tab) (i j : Nat) : Tab := fun x y => if x < j then wrow (wk m i) i x y else wk m i x y
theorem mid_row (m : Tab) (i j y : Nat) : midRow m i j i y = wk m i i y := by
  unfold midRow
  by_cases h : i < j
  · rw [if_pos h, wrow_self]
  · rw [if_neg h]
theorem mid_at (m : Tab) (i j y : Nat) : midRow m i j j y = wk m i j y := by
  unfold midRow
  rw [if_neg (Nat.lt_irrefl _)]
theorem mid_true {m : Tab} {i j : Nat} (h : wk m i j i = true) (x y : Nat) : addRow (midRow m i j) j i x y = midRow m i (j + 1) x y := by
  unfold addRow
  rw [mid_row, mid_at]
  by_cases hx : x = j
  · subst hx
    rw [if_pos rfl]
    unfold midRow
    rw [if_pos (Nat.lt_succ_self _)]
    unfold wrow
    rw [h]
    rfl
  · rw [if_neg hx]
    unfold midRow
    by_cases hxj : x < j
    · rw [if_pos hxj, if_pos (by omega)]
    · rw [if_neg hxj, if_neg (by omega)]
theorem mid_false {m : Tab} {i j : Nat} (h : ¬ wk m i j i = true) (x y : Nat) : midRow m i j x y = midRow m i (j + 1) x y := by
  unfold midRow
  by_cases hx : x = j
  · subst hx
    rw [if_neg (Nat.lt_irrefl _), if_pos (Nat.lt_succ_self _)]
    unfold wrow
    rw [if_neg h]
  · by_cases hxj : x < j
    · rw [if_pos hxj, if_pos (by omega)]
    · rw [if_neg hxj, if_neg (by omega)]
theorem mid_zero (m : Tab) (i x y : Nat) : wk m i x y = midRow m i 0 x y := by
  unfold midRow
  rw [if_neg (Nat.not_lt_zero _)]
theorem mid_all {m : Tab} {i n : Nat} {x : Nat} (h : x < n) (y : Nat) : midRow m i n x y = wk m (i + 1) x y := by
  unfold midRow
  rw [if_pos h]
  rfl

/-! ### right below -/
def third (n : Nat) (m : Tab) (a b : Nat) : Bool := (List.range n).any fun c => c != a && (c != b && (m a c && m c b))
def isCov (n : Nat) (m : Tab) (a b : Nat) : Bool := a != b && (m a b && !third n m a b)
def covRow (n : Nat) (m : Tab) (a : Nat) (j : Nat) : List (Nat × Nat) := ((List.range j).filter (isCov n m a)).map fun b => (a, b)
def covTo (n : Nat) (m : Tab) (i : Nat) : List (Nat × Nat) := (List.range i).flatMap fun a => covRow n m a n
def cov (n : Nat) (m : Tab) : List (Nat × Nat) := covTo n m n
theorem covRow_succ (n : Nat) (m : Tab) (a j : Nat) : covRow n m a (j + 1) = covRow n m a j ++ (if isCov n m a j then [(a, j)] else []) := by
  unfold covRow
  rw [List.range_succ, List.filter_append, List.map_append]
  by_cases h : isCov n m a j = true
  · simp [h]
  · simp [h]
theorem covTo_succ (n : Nat) (m : Tab) (i : Nat) : covTo n m (i + 1) = covTo n m i ++ covRow n m i n := by
  unfold covTo
  rw [List.range_succ, List.flatMap_append]
  simp
theorem mem_cov {n : Nat} {m : Tab} {p : Nat × Nat} : p ∈ cov n m ↔ p.1 < n ∧ p.2 < n ∧ isCov n m p.1 p.2 = true := by
  obtain ⟨a, b⟩ := p
  unfold cov covTo covRow
  simp only [List.mem_flatMap, List.mem_range, List.mem_map, List.mem_filter, Prod.mk.injEq]
  constructor
  · rintro ⟨a', ha, b', ⟨hb, q⟩, rfl, rfl⟩
    exact ⟨ha, hb, q⟩
  · rintro ⟨ha, hb, q⟩
    exact ⟨a, ha, b, ⟨hb, q⟩, rfl, rfl⟩
theorem covRow_length (n : Nat) (m : Tab) (a j : Nat) : (covRow n m a j).length ≤ j := by
  unfold covRow
  rw [List.length_map]
  exact Nat.le_trans (List.length_filter_le ..) (by simp)
theorem covTo_length (n : Nat) (m : Tab) (i : Nat) : (covTo n m i).length ≤ i * n := by
  induction i with
  | zero => simp [covTo]
  | succ i ih =>
    rw [covTo_succ, List.length_append, Nat.succ_mul]
    exact Nat.add_le_add ih (covRow_length ..)

/-! ### what the law's own walk keeps: for each thing the list of what is above it -/
theorem nodup_le : ∀ {n : Nat} {l : List Nat}, l.Nodup → (∀ x ∈ l, x < n) → l.length ≤ n
  | 0, [], _, _ => Nat.le_refl _
  | 0, x :: r, _, h => absurd (h x (by simp)) (Nat.not_lt_zero _)
  | n + 1, l, hn, h => by
    by_cases hm : n ∈ l
    · have h1 : (l.erase n).Nodup := hn.erase n
      have h2 : ∀ x ∈ l.erase n, x < n := fun x hx => by
        have a := (List.Nodup.mem_erase_iff hn).mp hx
        have b := h x a.2
        omega
      have := nodup_le h1 h2
      rw [List.length_erase_of_mem hm] at this
      omega
    · have := nodup_le (n := n) hn fun x hx => by
        have a := h x hx
        have : x ≠ n := fun e => hm (e ▸ hx)
        omega
      omega
structure Und (n : Nat) (ps : List (Nat × Nat)) (ks : List (List Nat)) : Prop where
  len : ks.length = n
  ok : ∀ a k, ks[a]? = some k → k.Nodup ∧ (∀ c ∈ k, c < n ∧ Rch ps a c) ∧ a ∈ k
def total (ks : List (List Nat)) : Nat := (ks.map List.length).sum
theorem total_set {ks : List (List Nat)} {a : Nat} {k : List Nat} (h : ks[a]? = some k) (c : Nat) : total (ks.set a (k ++ [c])) = total ks + 1 := by
  unfold total
  induction ks generalizing a with
  | nil => simp at h
  | cons x r ih =>
    cases a with
    | zero =>
      have e : x = k := by simpa using h
      subst e
      simp
      omega
    | succ a =>
      have h' : r[a]? = some k := by simpa using h
      have := ih h'
      simp [List.set_cons_succ] at this ⊢
      omega
theorem total_le {n : Nat} : ∀ {ks : List (List Nat)}, (∀ k ∈ ks, k.length ≤ n) → total ks ≤ ks.length * n
  | [], _ => by simp [total]
  | k :: r, h => by
    have h1 := h k (by simp)
    have h2 := total_le (ks := r) fun x hx => h x (by simp [hx])
    unfold total at h2 ⊢
    rw [List.map_cons, List.sum_cons, List.length_cons, Nat.succ_mul]
    omega
theorem Und.total {n : Nat} {ps : List (Nat × Nat)} {ks : List (List Nat)} (u : Und n ps ks) : total ks ≤ n * n := by
  have := total_le (n := n) (ks := ks) fun k hk => by
    obtain ⟨a, ha, e⟩ := List.mem_iff_getElem.mp hk
    have := u.ok a k (by rw [List.getElem?_eq_getElem ha, e])
    exact nodup_le this.1 fun x hx => (this.2.1 x hx).1
  rw [u.len] at this
  exact this
theorem Und.start (n : Nat) (ps : List (Nat × Nat)) : Und n ps ((List.range n).map fun a => [a]) := by
  refine ⟨by simp, fun a k h => ?_⟩
  rw [List.getElem?_map] at h
  cases e : (List.range n)[a]? with
  | none => rw [e] at h; cases h
  | some b =>
    rw [e] at h
    obtain ⟨ha, q⟩ := List.getElem?_eq_some_iff.mp e
    have : b = a := by simpa using q.symm
    subst this
    have : k = [b] := (Option.some.inj h).symm
    subst this
    have hb : b < n := by simpa using ha
    refine ⟨by simp, fun c hc => ?_, by simp⟩
    have : c = b := by simpa using hc
    subst this
    exact ⟨hb, .refl _⟩
theorem Und.add {n : Nat} {ps : List (Nat × Nat)} {ks : List (List Nat)} (u : Und n ps ks) {a b c : Nat} {k : List Nat} (hp : (a, b) ∈ ps) (hk : ks[a]? = some k) (hc : c < n) (r : Rch ps b c) (hn : c ∉ k) : Und n ps (ks.set a (k ++ [c])) := by
  refine ⟨by rw [List.length_set]; exact u.len, fun a' k' h => ?_⟩
  by_cases e : a' = a
  · subst e
    have hlt : a' < ks.length := (List.getElem?_eq_some_iff.mp hk).1
    rw [List.getElem?_set_self hlt] at h
    have : k' = k ++ [c] := (Option.some.inj h).symm
    subst this
    obtain ⟨h1, h2, h3⟩ := u.ok a' k hk
    refine ⟨?_, fun x hx => ?_, by simp [h3]⟩
    · rw [List.nodup_append]
      refine ⟨h1, by simp, fun x hx y hy => ?_⟩
      have : y = c := by simpa using hy
      subst this
      exact fun e => hn (e ▸ hx)
    · rcases List.mem_append.mp hx with hx | hx
      · exact h2 x hx
      · have : x = c := by simpa using hx
        subst this
        exact ⟨hc, .step hp r⟩
  · rw [List.getElem?_set_ne (Ne.symm e)] at h
    exact u.ok a' k' h
/-- nothing more to add -/
def Closed (ps : List (Nat × Nat)) (ks : List (List Nat)) : Prop := ∀ a b, (a, b) ∈ ps → ∀ ka kb, ks[a]? = some ka → ks[b]? = some kb → ∀ c ∈ kb, c ∈ ka
theorem Und.done {n : Nat} {ps : List (Nat × Nat)} {ks : List (List Nat)} (u : Und n ps ks) (h : ∀ p ∈ ps, p.1 < n ∧ p.2 < n) (cl : Closed ps ks) {a : Nat} {k : List Nat} (hk : ks[a]? = some k) {c : Nat} : c ∈ k ↔ Rch ps a c := by
  constructor
  · exact fun hc => ((u.ok a k hk).2.1 c hc).2
  · intro r
    induction r generalizing k with
    | refl a => exact (u.ok _ k hk).2.2
    | step m _ ih =>
      have hb := (h _ m).2
      rw [← u.len] at hb
      exact cl _ _ m k _ hk (List.getElem?_eq_getElem hb) _ (ih (List.getElem?_eq_getElem hb))
end MJ
namespace MJ
open PySem L2
/-! ### what stays -/
theorem same_new {H : Hp} {p : Addr} {o : HO} (h : H p = none) : Same H (upd H p o) := fun b u e => by rw [upd_ne (ne_of_none e h)]; exact e
theorem _root_.L2.Same.step {H H1 : Hp} (s : Same H H1) {p : Addr} {o : HO} (h : H1 p = none) : Same H (upd H1 p o) := s.trans (same_new h)
/-- an object that came after H is written -/
theorem _root_.L2.Same.put {H H1 : Hp} (s : Same H H1) {p : Addr} {o : HO} (h : H p = none) : Same H (upd H1 p o) := fun b u e => by
  rw [upd_ne (ne_of_none e h)]
  exact s b u e
/-- all but l stays -/
def But (l : Addr) (H H' : Hp) : Prop := ∀ b o, b ≠ l → H b = some o → H' b = some o
theorem But.refl (l : Addr) (H : Hp) : But l H H := fun _ _ _ e => e
theorem But.of {l : Addr} {H H' : Hp} (s : Same H H') : But l H H' := fun b o _ e => s b o e
theorem But.trans {l : Addr} {H H1 H2 : Hp} (a : But l H H1) (b : But l H1 H2) : But l H H2 := fun c o n e => b c o n (a c o n e)
theorem But.put {l : Addr} {H H1 : Hp} (a : But l H H1) (o : HO) : But l H (upd H1 l o) := fun c u n e => by rw [upd_ne n]; exact a c u n e
theorem But.same {l : Addr} {H H1 H2 : Hp} (a : But l H1 H2) (s : Same H H1) (h : H l = none) : Same H H2 := fun b o e => a b o (ne_of_none e h) (s b o e)

/-! ### lists of things -/
abbrev vI (n : Nat) : V := .int (n : Int)
/-- the tuple (a, b) at t -/
abbrev Tup2 (H : Hp) (t : Addr) (p : Nat × Nat) : Prop := H t = some (.tup [vI p.1, vI p.2])
structure Tups (H : Hp) (ts : List Addr) (ps : List (Nat × Nat)) : Prop where
  len : ts.length = ps.length
  at_ : ∀ (i : Nat) (t : Addr) (p : Nat × Nat), ts[i]? = some t → ps[i]? = some p → Tup2 H t p
theorem Tups.nil {H : Hp} : Tups H [] [] := ⟨rfl, fun i t p h => by simp at h⟩
theorem Tups.mono {H H' : Hp} {ts : List Addr} {ps : List (Nat × Nat)} (T : Tups H ts ps) (s : Same H H') : Tups H' ts ps := ⟨T.len, fun i t p a b => s _ _ (T.at_ i t p a b)⟩
theorem Tups.snoc {H : Hp} {ts : List Addr} {ps : List (Nat × Nat)} (T : Tups H ts ps) {t : Addr} {p : Nat × Nat} (h : Tup2 H t p) : Tups H (ts ++ [t]) (ps ++ [p]) := by
  refine ⟨by simp [T.len], fun i t' p' a b => ?_⟩
  by_cases hi : i < ts.length
  · rw [List.getElem?_append_left hi] at a
    rw [List.getElem?_append_left (T.len ▸ hi)] at b
    exact T.at_ i t' p' a b
  · rw [List.getElem?_append_right (by omega)] at a
    rw [List.getElem?_append_right (by have := T.len; omega)] at b
    rw [T.len] at a
    cases hk : i - ps.length with
    | zero =>
      rw [hk] at a b
      have e1 : t = t' := by simpa using a
      have e2 : p = p' := by simpa using b
      subst e1; subst e2
      exact h
    | succ k => rw [hk] at a; simp at a
theorem Tups.append {H : Hp} {ts us : List Addr} {ps qs : List (Nat × Nat)} (T : Tups H ts ps) (U : Tups H us qs) : Tups H (ts ++ us) (ps ++ qs) := by
  refine ⟨by simp [T.len, U.len], fun i t' p' a b => ?_⟩
  by_cases hi : i < ts.length
  · rw [List.getElem?_append_left hi] at a
    rw [List.getElem?_append_left (T.len ▸ hi)] at b
    exact T.at_ i t' p' a b
  · rw [List.getElem?_append_right (by omega)] at a
    rw [List.getElem?_append_right (by have := T.len; omega)] at b
    rw [T.len] at a
    exact U.at_ _ t' p' a b
theorem Tups.get {H : Hp} {ts : List Addr} {ps : List (Nat × Nat)} (T : Tups H ts ps) {i : Nat} {x : V} (h : (ts.map V.ref)[i]? = some x) : ∃ t p, x = .ref t ∧ ts[i]? = some t ∧ ps[i]? = some p ∧ Tup2 H t p := by
  rw [List.getElem?_map] at h
  cases e : ts[i]? with
  | none => rw [e] at h; cases h
  | some t =>
    rw [e] at h
    have hi : i < ps.length := T.len ▸ (List.getElem?_eq_some_iff.mp e).1
    refine ⟨t, ps[i], (Option.some.inj h).symm, rfl, List.getElem?_eq_getElem hi, T.at_ i t _ e (List.getElem?_eq_getElem hi)⟩
/-- a list of pairs -/
def PairsAt (H : Hp) (l : Addr) (ps : List (Nat × Nat)) : Prop := ∃ ts, H l = some (.lst (ts.map V.ref)) ∧ Tups H ts ps
theorem PairsAt.mono {H H' : Hp} {l : Addr} {ps : List (Nat × Nat)} (T : PairsAt H l ps) (s : Same H H') : PairsAt H' l ps := by
  obtain ⟨ts, h, t⟩ := T
  exact ⟨ts, s _ _ h, t.mono s⟩

/-! ### a list of rows, a tuple of rows -/
abbrev rowV (n : Nat) (m : Tab) (a : Nat) : List V := (List.range n).map fun b => V.bl (m a b)
structure RowsAt (H : Hp) (l : Addr) (n : Nat) (m : Tab) (rs : List Addr) : Prop where
  lst : H l = some (.lst (rs.map V.ref))
  len : rs.length = n
  nd : rs.Nodup
  nl : l ∉ rs
  row : ∀ (a : Nat) (r : Addr), rs[a]? = some r → H r = some (.lst (rowV n m a))
structure OrdAt (C : Addr) (H : Hp) (p : Addr) (n : Nat) (m : Tab) : Prop where
  ex : ∃ (dx t : Addr) (ts : List Addr), H p = some (.ins C dx [("table", V.ref t)]) ∧ H t = some (.tup (ts.map V.ref)) ∧ ts.length = n ∧ ∀ (a : Nat) (r : Addr), ts[a]? = some r → H r = some (.tup (rowV n m a))
theorem OrdAt.mono {C : Addr} {H H' : Hp} {p : Addr} {n : Nat} {m : Tab} (o : OrdAt C H p n m) (s : Same H H') : OrdAt C H' p n m := by
  obtain ⟨dx, t, ts, h1, h2, h3, h4⟩ := o.ex
  exact ⟨dx, t, ts, s _ _ h1, s _ _ h2, h3, fun a r e => s _ _ (h4 a r e)⟩
theorem rowV_at {n : Nat} {m : Tab} {a b : Nat} (h : b < n) : (rowV n m a)[b]? = some (.bl (m a b)) := by
  unfold rowV
  rw [List.getElem?_map, List.getElem?_range h]
  rfl
theorem map_at {ts : List Addr} {a : Nat} (h : a < ts.length) : (ts.map V.ref)[a]? = some (.ref ts[a]) := by
  rw [List.getElem?_map, List.getElem?_eq_getElem h]
  rfl

/-! ### a list of dicts -/
abbrev keysV (k : List Nat) : List (Key × V) := k.map fun (c : Nat) => (Sum.inl (c : Int), V.bl true)
structure AbvAt (H : Hp) (l : Addr) (ks : List (List Nat)) (ds : List Addr) : Prop where
  lst : H l = some (.lst (ds.map V.ref))
  len : ds.length = ks.length
  nd : ds.Nodup
  nl : l ∉ ds
  dic : ∀ (a : Nat) (d : Addr) (k : List Nat), ds[a]? = some d → ks[a]? = some k → H d = some (.dK (keysV k))
theorem AbvAt.mono {H H' : Hp} {l : Addr} {ks : List (List Nat)} {ds : List Addr} (T : AbvAt H l ks ds) (s : Same H H') : AbvAt H' l ks ds := ⟨s _ _ T.lst, T.len, T.nd, T.nl, fun a d k x y => s _ _ (T.dic a d k x y)⟩
theorem keysV_get (k : List Nat) (c : Nat) : (valV (keysV k) (Sum.inl (c : Int) : Key)).isSome = k.contains c := by
  unfold valV keysV
  rw [Option.isSome_map]
  induction k with
  | nil => rfl
  | cons x r ih =>
    rw [List.map_cons, List.find?_cons]
    by_cases e : x = c
    · subst e
      simp
    · have : decide ((Sum.inl (x : Int) : Key) = Sum.inl (c : Int)) = false := by
        rw [key_ll]
        simp
        omega
      rw [this]
      have e2 : (x :: r).contains c = r.contains c := by
        rw [List.contains_cons]
        have : (c == x) = false := by simpa using fun h => e h.symm
        rw [this, Bool.false_or]
      rw [e2]
      exact ih
theorem keysV_put {k : List Nat} {c : Nat} (h : c ∉ k) : putK (keysV k) (Sum.inl (c : Int) : Key) (V.bl true) = keysV (k ++ [c]) := by
  have e : valV (keysV k) (Sum.inl (c : Int) : Key) = none := by
    have := keysV_get k c
    have h' : k.contains c = false := by simpa using h
    rw [h'] at this
    cases q : valV (keysV k) (Sum.inl (c : Int) : Key) with
    | none => rfl
    | some v => rw [q] at this; cases this
  rw [putK_new _ e]
  simp [keysV]
/-! ### rows written -/
theorem rowV_congr {n : Nat} {m m' : Tab} {a : Nat} (h : ∀ b, b < n → m a b = m' a b) : rowV n m a = rowV n m' a := by
  unfold rowV
  refine List.map_congr_left fun b hb => ?_
  rw [h b (List.mem_range.mp hb)]
theorem RowsAt.congr {H : Hp} {l : Addr} {n : Nat} {m m' : Tab} {rs : List Addr} (R : RowsAt H l n m rs) (h : ∀ a b, a < n → b < n → m a b = m' a b) : RowsAt H l n m' rs :=
  ⟨R.lst, R.len, R.nd, R.nl, fun a r e => by
    have ha : a < n := R.len ▸ (List.getElem?_eq_some_iff.mp e).1
    rw [← rowV_congr (fun b hb => h a b ha hb)]
    exact R.row a r e⟩
theorem RowsAt.at_ {H : Hp} {l : Addr} {n : Nat} {m : Tab} {rs : List Addr} (R : RowsAt H l n m rs) {a : Nat} (ha : a < n) : ∃ r, rs[a]? = some r ∧ (rs.map V.ref)[a]? = some (.ref r) ∧ H r = some (.lst (rowV n m a)) := by
  have h := R.len.symm ▸ ha
  exact ⟨rs[a], List.getElem?_eq_getElem h, map_at h, R.row a _ (List.getElem?_eq_getElem h)⟩
theorem rowV_set {n : Nat} {m : Tab} {a b : Nat} : (rowV n m a).set b (.bl true) = rowV n (fun x y => m x y || (x == a && y == b)) a := by
  apply List.ext_getElem?
  intro i
  by_cases hi : i < n
  · rw [rowV_at hi]
    by_cases e : i = b
    · subst e
      rw [List.getElem?_set_self (by simpa using hi)]
      simp
    · rw [List.getElem?_set_ne (Ne.symm e), rowV_at hi]
      have : (i == b) = false := by simpa using e
      rw [this, Bool.and_false, Bool.or_false]
  · rw [List.getElem?_eq_none (by simp; omega), List.getElem?_eq_none (by simp; omega)]
theorem nodup_at {rs : List Addr} (h : rs.Nodup) {a b : Nat} {r : Addr} (ea : rs[a]? = some r) (eb : rs[b]? = some r) : a = b := by
  obtain ⟨h1, e1⟩ := List.getElem?_eq_some_iff.mp ea
  obtain ⟨h2, e2⟩ := List.getElem?_eq_some_iff.mp eb
  exact (List.getElem_inj h).mp (e1.trans e2.symm)
theorem RowsAt.cell {H : Hp} {l : Addr} {n : Nat} {m : Tab} {rs : List Addr} (R : RowsAt H l n m rs) {a b : Nat} {r : Addr} (hr : rs[a]? = some r) :
    RowsAt (upd H r (.lst ((rowV n m a).set b (.bl true)))) l n (fun x y => m x y || (x == a && y == b)) rs := by
  have hm : r ∈ rs := List.mem_of_getElem? hr
  refine ⟨?_, R.len, R.nd, R.nl, fun x r' e => ?_⟩
  · rw [upd_ne (fun q : l = r => R.nl (q ▸ hm))]
    exact R.lst
  · by_cases q : r' = r
    · subst q
      have : x = a := nodup_at R.nd e hr
      subst this
      rw [upd_same, rowV_set]
    · rw [upd_ne q, R.row x r' e]
      have : x ≠ a := fun z => q (by rw [z, hr] at e; exact (Option.some.inj e).symm)
      rw [rowV_congr (m' := fun x y => m x y || (x == a && y == b))]
      intro y _
      have : (x == a) = false := by simpa using this
      rw [this, Bool.false_and, Bool.or_false]
theorem map_set {rs : List Addr} {a : Nat} {r : Addr} : (rs.map V.ref).set a (.ref r) = (rs.set a r).map V.ref := by rw [List.map_set]
theorem RowsAt.put {H : Hp} {l r' : Addr} {n : Nat} {m m' : Tab} {rs : List Addr} (R : RowsAt H l n m rs) {a : Nat} (hr : H r' = some (.lst (rowV n m' a))) (hn : r' ∉ rs) (hl : l ≠ r') (hm : ∀ x, x ≠ a → ∀ y, y < n → m' x y = m x y) :
    RowsAt (upd H l (.lst ((rs.set a r').map V.ref))) l n m' (rs.set a r') := by
  refine ⟨upd_same, by rw [List.length_set]; exact R.len, ?_, fun q => ?_, fun x r e => ?_⟩
  · rw [List.nodup_iff_pairwise_ne, List.pairwise_iff_getElem]
    intro i j hi hj hij e
    have hj' : j < rs.length := by simpa using hj
    have hi' : i < rs.length := by simpa using hi
    rw [List.getElem_set, List.getElem_set] at e
    by_cases ei : a = i
    · have ej : ¬ a = j := by omega
      rw [if_pos ei, if_neg ej] at e
      exact hn (e ▸ List.getElem_mem hj')
    · by_cases ej : a = j
      · rw [if_neg ei, if_pos ej] at e
        exact hn (e ▸ List.getElem_mem hi')
      · rw [if_neg ei, if_neg ej] at e
        have := (List.getElem_inj R.nd).mp e
        omega
  · rcases List.mem_or_eq_of_mem_set q with z | z
    · exact R.nl z
    · exact hl z
  · by_cases ex : x = a
    · subst ex
      have hx : x < rs.length := by
        have := (List.getElem?_eq_some_iff.mp e).1
        simpa using this
      rw [List.getElem?_set_self hx] at e
      have : r' = r := Option.some.inj e
      subst this
      rw [upd_ne (Ne.symm hl)]
      exact hr
    · rw [List.getElem?_set_ne (Ne.symm ex)] at e
      have hm' : r ∈ rs := List.mem_of_getElem? e
      rw [upd_ne (fun q : r = l => R.nl (q ▸ hm')), R.row x r e, rowV_congr (m' := m')]
      intro y hy
      exact (hm x ex y hy).symm
/-! ### small facts -/
theorem dec_vI (i j : Nat) : decide (vI i = vI j) = (i == j) := by
  rw [Bool.eq_iff_iff]
  simp
  omega
theorem ixN_nat {n j : Nat} (h : j < n) : ixN n (j : Int) = some j := by
  unfold ixN
  rw [if_pos (by omega), if_pos (by omega)]
  rfl
theorem take_snoc {α : Type} {l : List α} {i : Nat} {x : α} (h : l[i]? = some x) : l.take (i + 1) = l.take i ++ [x] := by
  rw [List.take_add_one, h]
  rfl
theorem told_snoc (ps : List (Nat × Nat)) (p : Nat × Nat) (a b : Nat) : (told ps a b || (a == p.1 && b == p.2)) = told (ps ++ [p]) a b := by
  unfold told
  rw [Bool.or_assoc]
  congr 1
  rw [Bool.eq_iff_iff]
  simp [Prod.ext_iff]
section
variable {K : PySem.W.Frag}
theorem deq_same {H : Hp} {t u : Addr} {p : Nat × Nat} (ht : Tup2 H t p) (hu : Tup2 H u p) : DEq K H 3 (.ref t) (.ref u) true := by
  by_cases e : t = u
  · subst e
    exact .same t
  · have := DEq.tup (K := K) (n := 2) (e := fun _ => true) e (SqT.of ht) (SqT.of hu) fun j x y hx hy => by
      have hj' : j < 2 := (List.getElem?_eq_some_iff.mp hx).1
      match j, hj' with
      | 0, _ => cases hx; cases hy; have := DEq.flat (K := K) (H := H) (n := 2) (x := vI p.1) (y := vI p.1) rfl rfl; simpa [eqV] using this
      | 1, _ => cases hx; cases hy; have := DEq.flat (K := K) (H := H) (n := 2) (x := vI p.2) (y := vI p.2) rfl rfl; simpa [eqV] using this
    exact this
theorem pairs_eq {H : Hp} {ps : List (Nat × Nat)} {ts us : List Addr} (hT : Tups H ts ps) (hU : Tups H us ps) : ∀ (j : Nat) (x y : V), (ts.map V.ref)[j]? = some x → (us.map V.ref)[j]? = some y → DEq K H 3 x y true := fun j x y hx hy => by
  obtain ⟨t, p, rfl, e1, e2, ht⟩ := hT.get hx
  obtain ⟨u, p', rfl, e1', e2', hu⟩ := hU.get hy
  rw [e2] at e2'
  cases e2'
  exact deq_same ht hu
end
end MJ
namespace MJ
open PySem L2
def top (i : Nat) : Stmt := PySem.Challenge.pw_meetjoin_k14_orders_read_or_refused.main.body.getD i (.Pass ⟨0, 0, 0, 0⟩)
abbrev s_is_thing : Stmt := top 13
abbrev s_check_many : Stmt := top 14
abbrev s_check_pairs : Stmt := top 15
abbrev s_told_rows : Stmt := top 16
abbrev s_add_row : Stmt := top 17
abbrev s_close_rows : Stmt := top 18
abbrev s_check_rings : Stmt := top 19
abbrev s_has_between : Stmt := top 20
abbrev s_right_pairs : Stmt := top 21
abbrev s_Order___init__ : Stmt := inClass (top 22) 0
abbrev s_Order_many : Stmt := inClass (top 22) 1
abbrev s_Order_check_thing : Stmt := inClass (top 22) 2
abbrev s_Order_below : Stmt := inClass (top 22) 3
abbrev s_Order_right_below : Stmt := inClass (top 22) 4
abbrev s_pair_text : Stmt := top 24
abbrev s_shown : Stmt := top 25
abbrev s_read_number : Stmt := top 26
abbrev s_read_many : Stmt := top 27
abbrev s_read_pair : Stmt := top 28
abbrev s_told_order : Stmt := top 29
abbrev s_read : Stmt := top 30
abbrev s__law_cell_at : Stmt := top 32
abbrev s__law_whole : Stmt := top 33
abbrev s__law_order_of : Stmt := top 34
abbrev s__law_pairs_by : Stmt := top 35
abbrev s__law_under : Stmt := top 36
abbrev s__law_right_below : Stmt := top 37
abbrev s__law_drawn : Stmt := top 38
abbrev s__law_same : Stmt := top 39
abbrev s__law_marks_of : Stmt := top 40
abbrev s__law_sign_by : Stmt := top 41
abbrev s__law_odd : Stmt := top 42
abbrev s__law_spoiled : Stmt := top 43
abbrev s__law_number : Stmt := top 44
abbrev s__law_due : Stmt := top 45
abbrev s_law : Stmt := top 46
/-! ### what the walk asks of the text -/
structure Txt (K : PySem.W.Frag) (mg : Str → Option Value) (C : Addr) : Prop where
  len : mg "len" = none
  range : mg "range" = none
  zip : mg "zip" = none
  list : mg "list" = none
  tuple : mg "tuple" = none
  isinstance : mg "isinstance" = none
  int : mg "int" = none
  bool : mg "bool" = none
  all : mg "all" = none
  set : mg "set" = none
  str : mg "str" = none
  sorted : mg "sorted" = none
  MOST_THINGS : ∃ t, mg "MOST_THINGS" = some (.int 16 t)
  MOST_PAIRS : ∃ t, mg "MOST_PAIRS" = some (.int 60 t)
  cOrder : Cls K C
  i_ii : PySem.W.kitOne K (.type "int") (.type "int") = some true
  i_ib : PySem.W.kitOne K (.type "int") (.type "bool") = some false
  i_bb : PySem.W.kitOne K (.type "bool") (.type "bool") = some true
  i_ll : PySem.W.kitOne K (.type "list") (.type "list") = some true
  i_tt : PySem.W.kitOne K (.type "tuple") (.type "tuple") = some true
  nT : NoAttr K C "table"
section
variable {P : Program} {w : World} {K : PySem.W.Frag} {mg : Str → Option Value} {base : Heap} {C : Addr}
/-! ### is_thing -/
inductive Sp_is_thing (vs : List V) (H : Hp) (Q : VK) (E : XK) : Prop where | mk (n a : Int) (h0 : vs = [.int n, .int a]) (h1 : Q (.bl (decide (0 ≤ a ∧ a < n))) H) : Sp_is_thing  vs H Q E
def sp_is_thing : Sp := fun vs H Q E => Sp_is_thing  vs H Q E
theorem sc_is_thing : FnScope ["many", "a"] ["many", "a"] (defScope s_is_thing) := ⟨rfl, rfl, rfl, by decide +kernel, rfl, by decide +kernel, by decide +kernel⟩
theorem ok_is_thing {f : Addr} {fd : FuncData} (F : Fun K "is_thing" "is_thing" s_is_thing f fd) : FnOk P w K mg base CX0 1 f fd ["many", "a"] sp_is_thing := by
  refine F.ok sc_is_thing (fun vs H Q E h => ?_) (fun cdv A outer s H vs Q E hr h => ?_)
  · obtain ⟨n, a, rfl, _⟩ := h
    rfl
  · obtain ⟨n, a, rfl, k⟩ := h
    refine ⟨_, (pss_one (ps_ret (pe_chain op_le op_lt pe_int (pv 1) (pv 0)))), ?_⟩
    refine ⟨_, rfl, _, _, rfl, rfl, _, rfl, ?_⟩
    refine ite2 (fun h => ?_) (fun h => ?_)
    · refine ⟨_, rfl, _, _, rfl, rfl, ?_⟩
      have h' : (0 : Int) ≤ a := by simpa using h
      simpa [h'] using k
    · have h' : ¬ (0 : Int) ≤ a := by simpa using h
      simpa [h'] using k
/-! ### check_many -/
inductive Sp_check_many (vs : List V) (H : Hp) (Q : VK) (E : XK) : Prop where | mk (n : Nat) (h0 : vs = [vI n]) (h1 : 1 ≤ n) (h2 : n ≤ 16) (h3 : Q .non H) : Sp_check_many  vs H Q E
def sp_check_many : Sp := fun vs H Q E => Sp_check_many  vs H Q E
theorem sc_check_many : FnScope ["many"] ["many"] (defScope s_check_many) := ⟨rfl, rfl, rfl, by decide +kernel, rfl, by decide +kernel, by decide +kernel⟩
theorem ok_check_many {f : Addr} {fd : FuncData} (F : Fun K "check_many" "check_many" s_check_many f fd) (T : Txt K mg C) : FnOk P w K mg base CX0 1 f fd ["many"] sp_check_many := by
  refine F.ok sc_check_many (fun vs H Q E h => ?_) (fun cdv A outer s H vs Q E hr h => ?_)
  · obtain ⟨n, rfl, _⟩ := h
    rfl
  · obtain ⟨n, rfl, h1, h16, k⟩ := h
    refine ⟨_, (pss_one (ps_if (PW.pt (pw_or (pt_cmpR op_lt (pv 0) pe_int (nomark _)) (pw_or1 (pt_cmpR op_gt (pv 0) (pe_globI rfl T.MOST_THINGS) (nomark _))))) (pss_one ps_never) pss_nil)), ?_⟩
    refine ⟨_, rfl, _, _, rfl, rfl, _, rfl, ?_⟩
    refine ite2 (fun h => ?_) (fun h => ?_)
    · exfalso
      have h' : (n : Int) < 1 := by simpa using h
      omega
    · refine ⟨_, rfl, _, _, rfl, rfl, _, rfl, ?_⟩
      refine ite2 (fun h => ?_) (fun h => ?_)
      · exfalso
        have h' : (16 : Int) < n := by simpa using h
        omega
      · exact k
/-! ### check_pairs -/
inductive Sp_check_pairs (vs : List V) (H : Hp) (Q : VK) (E : XK) : Prop where | mk (n : Nat) (l : Addr) (ps : List (Nat × Nat)) (h0 : vs = [vI n, .ref l]) (h1 : PairsAt H l ps) (h2 : ps.length ≤ 60) (h3 : (∀ p ∈ ps, p.1 < n ∧ p.2 < n)) (h4 : Q .non H) : Sp_check_pairs  vs H Q E
def sp_check_pairs : Sp := fun vs H Q E => Sp_check_pairs  vs H Q E
theorem sc_check_pairs : FnScope ["many", "pairs", "a", "b"] ["many", "pairs"] (defScope s_check_pairs) := ⟨rfl, rfl, rfl, by decide +kernel, rfl, by decide +kernel, by decide +kernel⟩
theorem ok_check_pairs {f : Addr} {fd : FuncData} (F : Fun K "check_pairs" "check_pairs" s_check_pairs f fd) (T : Txt K mg C) (c_is_thing : FnG P w K mg base "is_thing" 1 ["many", "a"] sp_is_thing) :
    FnOk P w K mg base CX0 2 f fd ["many", "pairs"] sp_check_pairs := by
  refine F.ok sc_check_pairs (fun vs H Q E h => ?_) (fun cdv A outer s H vs Q E hr h => ?_)
  · obtain ⟨n, l, ps, rfl, _⟩ := h
    rfl
  · obtain ⟨n, l, ps, rfl, ⟨ts, hl, hT⟩, h60, hps, k⟩ := h
    have nd := sc_check_pairs.nd
    refine ⟨_, (pss_cons (ps_if (pt_cmpR op_gt (pe_callB call_len_seq (by rfl) T.len PySem.boot_len (pa_cons (pv 1) pa_nil)) (pe_globI rfl T.MOST_PAIRS) (nomark _)) (pss_one ps_never) pss_nil)
  (pss_one (ps_for PassesOwn.never rfl (pi_list (pv 1)) (pg_tup rfl (pgs_cons (pg_name (i := 2) nd rfl (Or.inl rfl)) (pgs_cons (pg_name (i := 3) nd rfl (Or.inl rfl)) pgs_nil))) (pss_one (ps_if (PW.pt (pw_or (pt_not (pt_val (pe_callG c_is_thing (hr.mono (by decide)) rfl (pa_cons (pv 0) (pa_cons (pv 2) pa_nil))))) (pw_or1 (pt_not (pt_val (pe_callG c_is_thing (hr.mono (by decide)) rfl (pa_cons (pv 0) (pa_cons (pv 3) pa_nil)))))))) (pss_one ps_never) pss_nil))))), ?_⟩
    refine ⟨_, rfl, l, _, rfl, .inl (SqL.of hl), _, _, rfl, rfl, _, rfl, ?_⟩
    refine ite2 (fun h => ?_) (fun h => ?_)
    · exfalso
      have h' : (60 : Int) < ((ts.map V.ref).length : Nat) := by simpa using h
      rw [List.length_map, hT.len] at h'
      omega
    · refine ⟨_, rfl, l, rfl, ⟨_, SqL.of hl⟩, for_list (K := K) (a := l) (xs := ts.map V.ref) (fun i σ H' => H' = H ∧ ∃ x y, σ = [some (vI n), some (.ref l), x, y]) ⟨rfl, _, _, rfl⟩ (fun i σ H' _ ⟨e, _⟩ => e ▸ SqL.of hl) ?_ ?_⟩
      · rintro i y σ H' hi ⟨rfl, x0, y0, rfl⟩
        obtain ⟨t, p, rfl, e1, e2, ht⟩ := hT.get hi
        obtain ⟨hp1, hp2⟩ := hps p (List.mem_of_getElem? e2)
        refine ⟨t, _, rfl, SqT.of ht, rfl, _, _, rfl, _, _, rfl, rfl, ?_⟩
        refine ⟨_, rfl, _, rfl, _, _, rfl, _, rfl, ?_⟩
        refine iteNS (by omega) ?_
        refine ⟨_, rfl, _, rfl, _, _, rfl, _, rfl, ?_⟩
        refine iteNS (by omega) ?_
        exact ⟨rfl, _, _, rfl⟩
      · rintro σ H' ⟨rfl, _⟩
        exact k
/-! ### told_rows -/
inductive Sp_told_rows (vs : List V) (H : Hp) (Q : VK) (E : XK) : Prop where | mk (n : Nat) (l : Addr) (ps : List (Nat × Nat)) (h0 : vs = [vI n, .ref l]) (h1 : PairsAt H l ps) (h2 : n ≤ 16) (h3 : (∀ p ∈ ps, p.1 < n ∧ p.2 < n)) (h4 : ∀ (r : Addr) (rs : List Addr) (H' : Hp), Same H H' → H r = none → RowsAt H' r n (told ps) rs → Q (.ref r) H') : Sp_told_rows  vs H Q E
def sp_told_rows : Sp := fun vs H Q E => Sp_told_rows  vs H Q E
/-- the rows made so far -/
structure Rows0 (H H' : Hp) (r : Addr) (n i : Nat) (rs : List Addr) : Prop where
  sm : Same H H'
  nr : H r = none
  lst : H' r = some (.lst (rs.map V.ref))
  len : rs.length = i
  nd : rs.Nodup
  nl : r ∉ rs
  fr : ∀ x ∈ rs, H x = none
  row : ∀ (a : Nat) (t : Addr), rs[a]? = some t → H' t = some (.lst (rowV n (fun a b => a == b) a))
theorem Rows0.snoc {H H1 : Hp} {r q : Addr} {n i : Nat} {rs : List Addr} {ys : List V} (R : Rows0 H H1 r n i rs) (hq : H1 q = none) (e : ys = (List.range n).map (fun b => V.bl (i == b))) :
    Rows0 H (upd (upd H1 q (.lst ys)) r (.lst (rs.map V.ref ++ [.ref q]))) r n (i + 1) (rs ++ [q]) := by
  have nrq : r ≠ q := ne_of_none R.lst hq
  have nrs : q ∉ rs := fun h => by
    obtain ⟨a, ha, e⟩ := List.mem_iff_getElem.mp h
    have := R.row a q (by rw [List.getElem?_eq_getElem ha, e])
    rw [hq] at this
    cases this
  refine ⟨(R.sm.put (R.sm.free hq)).put R.nr, R.nr, by rw [upd_same, List.map_append]; rfl, by simp [R.len], ?_, ?_, ?_, ?_⟩
  · rw [List.nodup_append]
    refine ⟨R.nd, by simp, fun x hx y hy z => ?_⟩
    have : y = q := by simpa using hy
    exact nrs (this ▸ z ▸ hx)
  · intro h
    rcases List.mem_append.mp h with h | h
    · exact R.nl h
    · exact nrq (by simpa using h)
  · intro x hx
    rcases List.mem_append.mp hx with h | h
    · exact R.fr x h
    · have : x = q := by simpa using h
      rw [this]
      exact R.sm.free hq
  · intro a t e'
    by_cases ha : a < rs.length
    · rw [List.getElem?_append_left ha] at e'
      have hm := List.mem_of_getElem? e'
      rw [upd_ne (fun z : t = r => R.nl (z ▸ hm)), upd_ne (fun z : t = q => nrs (z ▸ hm))]
      exact R.row a t e'
    · rw [List.getElem?_append_right (by omega)] at e'
      cases hk : a - rs.length with
      | zero =>
        rw [hk] at e'
        have e2 : q = t := by simpa using e'
        have e3 : a = i := by have := R.len; omega
        subst e2; subst e3
        rw [upd_ne (Ne.symm nrq), upd_same, e]
      | succ k => rw [hk] at e'; simp at e'
theorem Rows0.rows {H H1 : Hp} {r : Addr} {n : Nat} {rs : List Addr} {ps : List (Nat × Nat)} (R : Rows0 H H1 r n n rs) : RowsAt H1 r n (told (ps.take 0)) rs :=
  RowsAt.congr ⟨R.lst, R.len, R.nd, R.nl, R.row⟩ fun a b _ _ => by simp [told]
theorem sc_told_rows : FnScope ["many", "pairs", "rows", "a", "b"] ["many", "pairs"] (defScope s_told_rows) := ⟨rfl, rfl, rfl, by decide +kernel, rfl, by decide +kernel, by decide +kernel⟩
theorem ok_told_rows {f : Addr} {fd : FuncData} (F : Fun K "told_rows" "told_rows" s_told_rows f fd) (T : Txt K mg C) : FnOk P w K mg base CX0 1 f fd ["many", "pairs"] sp_told_rows := by
  refine F.ok sc_told_rows (fun vs H Q E h => ?_) (fun cdv A outer s H vs Q E hr h => ?_)
  · obtain ⟨n, l, ps, rfl, _⟩ := h
    rfl
  · obtain ⟨n, l, ps, rfl, ⟨ts, hl, hT⟩, h16, hps, k⟩ := h
    have nd := sc_told_rows.nd
    refine ⟨_, (pss_cons (ps_set (i := 2) nd rfl (Or.inl rfl) (pe_lst pa_nil))
  (pss_cons (ps_for PassesOwn.never rfl (pi_range1 rfl T.range (pa_cons (pv 0) pa_nil)) (pg_name (i := 3) nd rfl (Or.inr rfl)) (pss_one (ps_expr (pe_bm PySem.F.plainAttrs_list PySem.F.slot_list_append PySem.F.type_list_append mt_append (pv 2) (pa_cons (pe_comp [none, some 3] ["b", "a"] (defScope s_told_rows) ["many", "pairs", "rows", "a", "b"] (by decide +kernel) rfl (pi_range1 rfl T.range (pa_cons (pv 0) pa_nil)) (fun _ _ _ _ _ _ => pg_name (i := 0) (show List.Nodup (["b", "a"] : List Str) by decide +kernel) rfl (Or.inl rfl)) (fun _ _ _ _ _ _ => pifs_nil) (fun _ _ _ _ _ _ => pe_cmpR op_eq (pv 1) (pv 0) (nomark _))) pa_nil)))))
  (pss_cons (ps_for PassesOwn.never rfl (pi_list (pv 1)) (pg_tup rfl (pgs_cons (pg_name (i := 3) nd rfl (Or.inr rfl)) (pgs_cons (pg_name (i := 4) nd rfl (Or.inl rfl)) pgs_nil))) (pss_one (ps_asg pe_bl (pg_sub (pe_ix ix_list (pv 2) (pv 3) (fun _ _ => rfl)) (pv 4) set_list))))
  (pss_one (ps_ret (pv 2)))))), ?_⟩
    -- rows = []
    refine ⟨Nat.zero_le _, fun r hr0 => ?_⟩
    -- for a in range(many)
    refine ⟨_, rfl, (n : Int), rfl, by omega, by omega, for_range (lo := 0) (n := n) (fun i σ H' => ∃ rs x y, σ = [some (vI n), some (.ref l), some (.ref r), x, y] ∧ Rows0 H H' r n i rs) ?_ ?_ ?_⟩
    · exact ⟨[], none, none, rfl, ⟨same_new hr0, hr0, upd_same, rfl, List.nodup_nil, by simp, by simp, fun a t e => by simp at e⟩⟩
    · rintro i σ H1 hi ⟨rs, x, y, rfl, R⟩
      rw [Int.zero_add]
      refine ⟨_, rfl, .inl ⟨rfl, _, SqL.of R.lst⟩, ?_⟩
      -- the row
      refine ⟨_, rfl, (n : Int), rfl, by omega, by omega, fun q hq => ?_⟩
      refine comp_range (lo := 0) (n := n) (fun σ => ∃ x, σ = [x, some (vI i)]) (fun j ys H' => ys = (List.range j).map (fun b => V.bl (i == b)) ∧ H' = upd H1 q (.lst ys)) ⟨none, rfl⟩ ⟨rfl, rfl⟩ (by show n < sizeLine; exact small1000 (by omega)) ?_ ?_ ?_
      · rintro j ys H' _ ⟨e1, rfl⟩
        exact ⟨upd_same, by rw [e1]; simp⟩
      · rintro j σ' ys H' hj ⟨x', rfl⟩ ⟨e1, rfl⟩
        rw [Int.zero_add]
        refine ⟨_, rfl, _, rfl, rfl, upd_same, ⟨_, rfl⟩, ?_, ?_⟩
        · rw [e1, List.range_succ, List.map_append, dec_vI]
          rfl
        · rw [upd_upd]
      · rintro ys H' ⟨e1, rfl⟩
        have nrq : r ≠ q := ne_of_none R.lst hq
        refine ⟨r, _, _, rfl, rfl, by rw [upd_ne nrq]; exact R.lst, ?_, ?_⟩
        · rw [List.length_map, R.len]
          exact small1000 (by omega)
        · exact ⟨rs ++ [q], _, _, rfl, R.snoc hq e1⟩
    · rintro σ H1 ⟨rs, x, y, rfl, R⟩
      -- for a, b in pairs
      have hl1 : H1 l = some (.lst (ts.map V.ref)) := R.sm _ _ hl
      refine ⟨_, rfl, l, rfl, ⟨_, SqL.of hl1⟩, for_list (K := K) (a := l) (xs := ts.map V.ref) (fun i σ H' => ∃ x y, σ = [some (vI n), some (.ref l), some (.ref r), x, y] ∧ Same H H' ∧ RowsAt H' r n (told (ps.take i)) rs) ⟨_, _, rfl, R.sm, R.rows⟩ (fun i σ H' _ ⟨_, _, _, sm, _⟩ => SqL.of (sm _ _ hl)) ?_ ?_⟩
      · rintro i y σ H2 hi ⟨x0, y0, rfl, sm, R2⟩
        obtain ⟨t, p, rfl, e1, e2, ht⟩ := (hT.mono sm).get hi
        obtain ⟨hp1, hp2⟩ := hps p (List.mem_of_getElem? e2)
        refine ⟨t, _, rfl, SqT.of ht, rfl, _, _, rfl, _, _, rfl, rfl, ?_⟩
        -- rows[a][b] = True
        obtain ⟨ra, ea, em, hra⟩ := R2.at_ hp1
        refine ⟨_, rfl, _, rfl, r, _, _, _, rfl, rfl, SqL.of R2.lst, atI_nat em, _, rfl, ra, _, _, p.2, rfl, rfl, hra, ?_, ?_⟩
        · rw [ixN_nat (by rw [List.length_map, List.length_range]; exact hp2)]
        · refine ⟨_, _, rfl, ?_, ?_⟩
          · exact sm.put (R.fr ra (List.mem_of_getElem? ea))
          · refine (R2.cell ea).congr fun a b _ _ => ?_
            rw [take_snoc e2, told_snoc]
      · rintro σ H2 ⟨x0, y0, rfl, sm, R2⟩
        refine ⟨_, rfl, ?_⟩
        refine k r rs H2 sm hr0 ?_
        rw [List.length_map, hT.len, List.take_length] at R2
        exact R2
end
end MJ
namespace MJ
open PySem L2
section
variable {P : Program} {w : World} {K : PySem.W.Frag} {mg : Str → Option Value} {base : Heap} {C : Addr}
/-! ### add_row -/
inductive Sp_add_row (vs : List V) (H : Hp) (Q : VK) (E : XK) : Prop where | mk (l : Addr) (n a c : Nat) (m : Tab) (rs : List Addr) (h0 : vs = [.ref l, vI a, vI c]) (h1 : RowsAt H l n m rs) (h2 : a < n) (h3 : c < n) (h4 : n ≤ 16) (h5 : ∀ (r : Addr) (H' : Hp), But l H H' → H r = none → RowsAt H' l n (addRow m a c) (rs.set a r) → Q .non H') : Sp_add_row  vs H Q E
def sp_add_row : Sp := fun vs H Q E => Sp_add_row  vs H Q E
theorem sc_add_row : FnScope ["rows", "a", "c"] ["rows", "a", "c"] (defScope s_add_row) := ⟨rfl, rfl, rfl, by decide +kernel, rfl, by decide +kernel, by decide +kernel⟩
theorem ok_add_row {f : Addr} {fd : FuncData} (F : Fun K "add_row" "add_row" s_add_row f fd) (T : Txt K mg C) : FnOk P w K mg base CX0 1 f fd ["rows", "a", "c"] sp_add_row := by
  refine F.ok sc_add_row (fun vs H Q E h => ?_) (fun cdv A outer s H vs Q E hr h => ?_)
  · obtain ⟨l, n, a, c, m, rs, rfl, _⟩ := h
    rfl
  · obtain ⟨l, n, a, c, m, rs, rfl, R, ha, hc, h16, k⟩ := h
    have nd := sc_add_row.nd
    obtain ⟨ra, ea, ma, hra⟩ := R.at_ ha
    obtain ⟨rc, ec, mc, hrc⟩ := R.at_ hc
    refine ⟨_, (pss_one (ps_asg (pe_comp [none, none] ["here", "there"] (defScope s_add_row) ["rows", "a", "c"] (by decide +kernel) rfl (pi_zip rfl T.zip (pa_cons (pe_ix ix_list (pv 0) (pv 1) (fun _ _ => rfl)) (pa_cons (pe_ix ix_list (pv 0) (pv 2) (fun _ _ => rfl)) pa_nil))) (fun _ _ _ _ _ _ => pg_tupK (K := K) (n := 2) rfl rfl (pgs_cons (pg_name (i := 0) (show List.Nodup (["here", "there"] : List Str) by decide +kernel) rfl (Or.inl rfl)) (pgs_cons (pg_name (i := 1) (show List.Nodup (["here", "there"] : List Str) by decide +kernel) rfl (Or.inl rfl)) pgs_nil))) (fun _ _ _ _ _ _ => pifs_nil) (fun _ _ _ _ _ _ => pe_or (pv 0) (pe_one (pv 1)))) (pg_sub (pv 0) (pv 1) set_list))), ?_⟩
    -- zip(rows[a], rows[c])
    refine ⟨_, rfl, _, rfl, l, _, _, _, rfl, rfl, SqL.of R.lst, atI_nat ma, _, rfl, _, rfl, l, _, _, _, rfl, rfl, SqL.of R.lst, atI_nat mc, ra, rc, rfl, ⟨_, SqL.of hra⟩, ⟨_, SqL.of hrc⟩, fun q hq => ?_⟩
    have nra : ra ≠ q := ne_of_none hra hq
    have nrc : rc ≠ q := ne_of_none hrc hq
    refine comp_zip (K := K) (a := ra) (b := rc) (xs := rowV n m a) (ys := rowV n m c) (fun σ => ∃ x y, σ = [x, y]) (fun j zs H' => zs = (List.range j).map (fun b => V.bl (m a b || m c b)) ∧ But q H H' ∧ H' q = some (.lst zs)) ⟨_, _, rfl⟩ ⟨rfl, (But.refl q H).put _, upd_same⟩ (by simp) ?_ ?_ ?_ ?_
    · simp only [List.length_map, List.length_range]
      exact small1000 (by omega)
    · rintro j zs H' _ ⟨e, b, hz⟩
      exact ⟨hz, by rw [e]; simp, SqL.of (b _ _ nra hra), SqL.of (b _ _ nrc hrc)⟩
    · rintro j x y t σ zs H' hx hy ⟨x0, y0, rfl⟩ ⟨e, b, hz⟩ ht
      have hj : j < n := by
        have := (List.getElem?_eq_some_iff.mp hx).1
        simpa using this
      rw [rowV_at hj] at hx hy
      cases hx
      cases hy
      refine ⟨t, _, rfl, SqT.of upd_same, rfl, _, _, rfl, _, _, rfl, rfl, ?_⟩
      refine ⟨_, rfl, _, rfl, ?_⟩
      have nqt : q ≠ t := ne_of_none hz ht
      have b' : But q H (upd H' t (.tup [V.bl (m a j), V.bl (m c j)])) := fun c' o n' e' => by
        rw [upd_ne (ne_of_none (b c' o n' e') ht)]
        exact b c' o n' e'
      have fin : ∀ z, z = V.bl (m a j || m c j) → (upd H' t (.tup [V.bl (m a j), V.bl (m c j)])) q = some (.lst zs) ∧ (∃ x y, [some (V.bl (m a j)), some (V.bl (m c j))] = [x, y]) ∧
          (zs ++ [z] = (List.range (j + 1)).map (fun b => V.bl (m a b || m c b)) ∧ But q H (upd (upd H' t (.tup [V.bl (m a j), V.bl (m c j)])) q (.lst (zs ++ [z]))) ∧ (upd (upd H' t (.tup [V.bl (m a j), V.bl (m c j)])) q (.lst (zs ++ [z]))) q = some (.lst (zs ++ [z]))) := by
        rintro z rfl
        refine ⟨by rw [upd_ne nqt]; exact hz, ⟨_, _, rfl⟩, ?_, b'.put _, upd_same⟩
        rw [e, List.range_succ, List.map_append]
        rfl
      cases hm : m a j with
      | true =>
        rw [hm] at fin
        exact fin _ (by simp)
      | false =>
        rw [hm] at fin
        exact ⟨_, rfl, fin _ (by simp)⟩
    · rintro zs H' ⟨e, b, hz⟩
      -- rows[a] = ..
      have hq0 : H q = none := hq
      have nlq : l ≠ q := ne_of_none R.lst hq
      have e' : zs = rowV n (addRow m a c) a := by
        rw [e]
        simp only [List.length_map, List.length_range, Nat.min_self]
        refine List.map_congr_left fun y _ => ?_
        simp [addRow]
      have R' : RowsAt H' l n m rs := ⟨b _ _ nlq R.lst, R.len, R.nd, R.nl, fun x r' e1 => b _ _ (ne_of_none (R.row x r' e1) hq) (R.row x r' e1)⟩
      have nqr : q ∉ rs := fun h => by
        obtain ⟨x, hx, e1⟩ := List.mem_iff_getElem.mp h
        have := R.row x q (by rw [List.getElem?_eq_getElem hx, e1])
        rw [hq] at this
        cases this
      refine ⟨_, rfl, _, rfl, l, _, _, a, rfl, rfl, R'.lst, ?_, ?_⟩
      · rw [ixN_nat (by rw [List.length_map, R.len]; exact ha)]
      · rw [map_set]
        refine k q _ (fun b' o n' e1 => ?_) hq0 (R'.put (m' := addRow m a c) (e' ▸ hz) nqr nlq (fun x hx y _ => by simp [addRow, hx]))
        rw [upd_ne n']
        exact b b' o (ne_of_none e1 hq) e1
end
end MJ
namespace MJ
open PySem L2
section
variable {P : Program} {w : World} {K : PySem.W.Frag} {mg : Str → Option Value} {base : Heap} {C : Addr}
/-! ### close_rows -/
inductive Sp_close_rows (vs : List V) (H : Hp) (Q : VK) (E : XK) : Prop where | mk (l : Addr) (n : Nat) (m : Tab) (rs : List Addr) (h0 : vs = [vI n, .ref l]) (h1 : RowsAt H l n m rs) (h2 : n ≤ 16) (h3 : ∀ (rs' : List Addr) (H' : Hp), But l H H' → RowsAt H' l n (wk m n) rs' → Q .non H') : Sp_close_rows  vs H Q E
def sp_close_rows : Sp := fun vs H Q E => Sp_close_rows  vs H Q E
theorem sc_close_rows : FnScope ["many", "rows", "c", "a"] ["many", "rows"] (defScope s_close_rows) := ⟨rfl, rfl, rfl, by decide +kernel, rfl, by decide +kernel, by decide +kernel⟩
theorem ok_close_rows {f : Addr} {fd : FuncData} (F : Fun K "close_rows" "close_rows" s_close_rows f fd) (T : Txt K mg C) (c_add_row : FnG P w K mg base "add_row" 1 ["rows", "a", "c"] sp_add_row) : FnOk P w K mg base CX0 2 f fd ["many", "rows"] sp_close_rows := by
  refine F.ok sc_close_rows (fun vs H Q E h => ?_) (fun cdv A outer s H vs Q E hr h => ?_)
  · obtain ⟨l, n, m, rs, rfl, _⟩ := h
    rfl
  · obtain ⟨l, n, m, rs, rfl, R, h16, k⟩ := h
    have nd := sc_close_rows.nd
    refine ⟨_, (pss_one (ps_for PassesOwn.never rfl (pi_range1 rfl T.range (pa_cons (pv 0) pa_nil)) (pg_name (i := 2) nd rfl (Or.inl rfl)) (pss_one (ps_for PassesOwn.never rfl (pi_range1 rfl T.range (pa_cons (pv 0) pa_nil)) (pg_name (i := 3) nd rfl (Or.inl rfl)) (pss_one (ps_if (pt_val (pe_ix ix_list (pe_ix ix_list (pv 1) (pv 3) (fun _ _ => rfl)) (pv 2) (fun _ _ => rfl))) (pss_one (ps_expr (pe_callG c_add_row (hr.mono (by decide)) rfl (pa_cons (pv 1) (pa_cons (pv 3) (pa_cons (pv 2) pa_nil)))))) pss_nil)))))), ?_⟩
    refine ⟨_, rfl, (n : Int), rfl, by omega, by omega, for_range (lo := 0) (n := n) (fun i σ H' => ∃ rs' x y, σ = [some (vI n), some (.ref l), x, y] ∧ But l H H' ∧ RowsAt H' l n (wk m i) rs') ⟨rs, none, none, rfl, But.refl l H, R⟩ ?_ ?_⟩
    · rintro i σ H1 hi ⟨rs1, x, y, rfl, b1, R1⟩
      rw [Int.zero_add]
      refine ⟨_, rfl, (n : Int), rfl, by omega, by omega, for_range (lo := 0) (n := n) (fun j σ H' => ∃ rs' y, σ = [some (vI n), some (.ref l), some (vI i), y] ∧ But l H H' ∧ RowsAt H' l n (midRow m i j) rs') ⟨rs1, y, rfl, b1, R1.congr fun a b _ _ => mid_zero m i a b⟩ ?_ ?_⟩
      · rintro j σ H2 hj ⟨rs2, y2, rfl, b2, R2⟩
        rw [Int.zero_add]
        obtain ⟨r, er, mr, hr'⟩ := R2.at_ hj
        refine ⟨_, rfl, _, rfl, l, _, _, _, rfl, rfl, SqL.of R2.lst, atI_nat mr, _, rfl, r, _, _, _, rfl, rfl, SqL.of hr', atI_nat (rowV_at hi), _, rfl, ?_⟩
        rw [mid_at]
        refine ite2 (fun h => ?_) (fun h => ?_)
        · refine ⟨_, rfl, _, rfl, _, rfl, l, n, j, i, _, rs2, rfl, R2, hj, hi, h16, fun r' H3 b3 hr0 R3 => ?_⟩
          exact ⟨_, _, rfl, b2.trans b3, R3.congr fun x y _ _ => mid_true h x y⟩
        · exact ⟨_, _, rfl, b2, R2.congr fun x y _ _ => mid_false h x y⟩
      · rintro σ H2 ⟨rs2, y2, rfl, b2, R2⟩
        exact ⟨rs2, _, _, rfl, b2, R2.congr fun x y hx _ => mid_all hx y⟩
    · rintro σ H1 ⟨rs1, x, y, rfl, b1, R1⟩
      exact k rs1 H1 b1 R1
/-! ### check_rings -/
inductive Sp_check_rings (vs : List V) (H : Hp) (Q : VK) (E : XK) : Prop where | mk (l : Addr) (n : Nat) (m : Tab) (rs : List Addr) (h0 : vs = [vI n, .ref l]) (h1 : RowsAt H l n m rs) (h2 : n ≤ 16) (h3 : (∀ a b, a < n → b < a → m a b = true → m b a = true → False)) (h4 : Q .non H) : Sp_check_rings  vs H Q E
def sp_check_rings : Sp := fun vs H Q E => Sp_check_rings  vs H Q E
theorem sc_check_rings : FnScope ["many", "rows", "a", "b"] ["many", "rows"] (defScope s_check_rings) := ⟨rfl, rfl, rfl, by decide +kernel, rfl, by decide +kernel, by decide +kernel⟩
theorem ok_check_rings {f : Addr} {fd : FuncData} (F : Fun K "check_rings" "check_rings" s_check_rings f fd) (T : Txt K mg C) : FnOk P w K mg base CX0 1 f fd ["many", "rows"] sp_check_rings := by
  refine F.ok sc_check_rings (fun vs H Q E h => ?_) (fun cdv A outer s H vs Q E hr h => ?_)
  · obtain ⟨l, n, m, rs, rfl, _⟩ := h
    rfl
  · obtain ⟨l, n, m, rs, rfl, R, h16, hm, k⟩ := h
    have nd := sc_check_rings.nd
    refine ⟨_, (pss_one (ps_for PassesOwn.never rfl (pi_range1 rfl T.range (pa_cons (pv 0) pa_nil)) (pg_name (i := 2) nd rfl (Or.inl rfl)) (pss_one (ps_for PassesOwn.never rfl (pi_range1 rfl T.range (pa_cons (pv 2) pa_nil)) (pg_name (i := 3) nd rfl (Or.inl rfl)) (pss_one (ps_if (PW.pt (pw_and (pt_val (pe_ix ix_list (pe_ix ix_list (pv 1) (pv 2) (fun _ _ => rfl)) (pv 3) (fun _ _ => rfl))) (pw_and1 (pt_val (pe_ix ix_list (pe_ix ix_list (pv 1) (pv 3) (fun _ _ => rfl)) (pv 2) (fun _ _ => rfl)))))) (pss_one ps_never) pss_nil)))))), ?_⟩
    refine ⟨_, rfl, (n : Int), rfl, by omega, by omega, for_range (lo := 0) (n := n) (fun i σ H' => ∃ x y, σ = [some (vI n), some (.ref l), x, y] ∧ H' = H) ⟨none, none, rfl, rfl⟩ ?_ ?_⟩
    · rintro i σ H1 hi ⟨x, y, rfl, rfl⟩
      rw [Int.zero_add]
      refine ⟨_, rfl, (i : Int), rfl, by omega, by omega, for_range (lo := 0) (n := i) (fun j σ H' => ∃ y, σ = [some (vI n), some (.ref l), some (vI i), y] ∧ H' = H1) ⟨y, rfl, rfl⟩ ?_ ?_⟩
      · rintro j σ H2 hj ⟨y2, rfl, rfl⟩
        rw [Int.zero_add]
        have hjn : j < n := by omega
        obtain ⟨ri, ei, mi, hri⟩ := R.at_ hi
        obtain ⟨rj, ej, mj, hrj⟩ := R.at_ hjn
        refine ⟨_, rfl, _, rfl, l, _, _, _, rfl, rfl, SqL.of R.lst, atI_nat mi, _, rfl, ri, _, _, _, rfl, rfl, SqL.of hri, atI_nat (rowV_at hjn), _, rfl, ?_⟩
        refine ite2 (fun h => ?_) (fun h => ?_)
        · refine ⟨_, rfl, _, rfl, l, _, _, _, rfl, rfl, SqL.of R.lst, atI_nat mj, _, rfl, rj, _, _, _, rfl, rfl, SqL.of hrj, atI_nat (rowV_at hi), _, rfl, ?_⟩
          refine ite2 (fun h' => ?_) (fun h' => ?_)
          · exact (hm i j hi hj h h').elim
          · exact ⟨_, rfl, rfl⟩
        · exact ⟨_, rfl, rfl⟩
      · rintro σ H2 ⟨y2, rfl, rfl⟩
        exact ⟨_, _, rfl, rfl⟩
    · rintro σ H1 ⟨x, y, rfl, rfl⟩
      exact k
end
end MJ
namespace MJ
open PySem L2
theorem tab_look (t : Addr) : ([("table", V.ref t)] : List (Str × V)).lookup ("table" : Str) = some (V.ref t) := by simp
theorem tab_no (t : Addr) {m : Str} (h : (m == ("table" : Str)) = false) : ([("table", V.ref t)] : List (Str × V)).lookup m = none := by
  simp only [List.lookup_cons, h, List.lookup_nil]
section
variable {P : Program} {w : World} {K : PySem.W.Frag} {mg : Str → Option Value} {base : Heap} {C : Addr}
/-! ### Order.many -/
inductive Sp_many (C : Addr) (vs : List V) (H : Hp) (Q : VK) (E : XK) : Prop where | mk (p : Addr) (n : Nat) (m : Tab) (h0 : vs = [.ref p]) (h1 : OrdAt C H p n m) (h2 : Q (vI n) H) : Sp_many C vs H Q E
def sp_many (C : Addr) : Sp := fun vs H Q E => Sp_many C vs H Q E
theorem sc_Order_many : FnScope ["self"] ["self"] (defScope s_Order_many) := ⟨rfl, rfl, rfl, by decide +kernel, rfl, by decide +kernel, by decide +kernel⟩
theorem ok_many {f : Addr} {fd : FuncData} (F : Fun K "many" "Order.many" s_Order_many f fd) (T : Txt K mg C) : FnOk P w K mg base CX0 1 f fd ["self"] (sp_many C) := by
  refine F.ok sc_Order_many (fun vs H Q E h => ?_) (fun cdv A outer s H vs Q E hr h => ?_)
  · obtain ⟨p, n, m, rfl, _⟩ := h
    rfl
  · obtain ⟨p, n, m, rfl, O, k⟩ := h
    obtain ⟨dx, t, ts, h1, h2, h3, h4⟩ := O.ex
    refine ⟨_, (pss_one (ps_ret (pe_callB call_len_seq (by rfl) T.len PySem.boot_len (pa_cons (pe_fld (pv 0) rfl) pa_nil)))), ?_⟩
    refine ⟨_, rfl, p, C, dx, _, _, rfl, h1, T.cOrder, T.nT, tab_look t, t, _, rfl, .inr (SqT.of h2), ?_⟩
    rw [List.length_map, h3]
    exact k
/-! ### Order.check_thing -/
inductive Sp_check_thing (C : Addr) (vs : List V) (H : Hp) (Q : VK) (E : XK) : Prop where | mk (p : Addr) (n a : Nat) (m : Tab) (h0 : vs = [.ref p, vI a]) (h1 : OrdAt C H p n m) (h2 : a < n) (h3 : Q .non H) : Sp_check_thing C vs H Q E
def sp_check_thing (C : Addr) : Sp := fun vs H Q E => Sp_check_thing C vs H Q E
theorem sc_Order_check_thing : FnScope ["self", "a"] ["self", "a"] (defScope s_Order_check_thing) := ⟨rfl, rfl, rfl, by decide +kernel, rfl, by decide +kernel, by decide +kernel⟩
theorem ok_check_thing {f : Addr} {fd : FuncData} (F : Fun K "check_thing" "Order.check_thing" s_Order_check_thing f fd) (T : Txt K mg C) (c_is_thing : FnG P w K mg base "is_thing" 1 ["many", "a"] sp_is_thing) (c_many : MtG P w K mg base C "many" 1 ["self"] (sp_many C)) :
    FnOk P w K mg base CX0 2 f fd ["self", "a"] (sp_check_thing C) := by
  refine F.ok sc_Order_check_thing (fun vs H Q E h => ?_) (fun cdv A outer s H vs Q E hr h => ?_)
  · obtain ⟨p, n, a, m, rfl, _⟩ := h
    rfl
  · obtain ⟨p, n, a, m, rfl, O, ha, k⟩ := h
    obtain ⟨dx, t, ts, h1, h2, h3, h4⟩ := id O.ex
    refine ⟨_, (pss_one (ps_if (pt_not (pt_val (pe_callG c_is_thing (hr.mono (by decide)) rfl (pa_cons (pe_methG0 (pv 0) T.cOrder c_many (hr.mono (by decide))) (pa_cons (pv 1) pa_nil))))) (pss_one ps_never) pss_nil)), ?_⟩
    refine ⟨_, rfl, p, dx, _, rfl, h1, tab_no t (by decide +kernel), p, n, m, rfl, O, _, rfl, _, _, rfl, _, rfl, ?_⟩
    exact iteNS (by omega) k
/-! ### Order.below -/
inductive Sp_below (C : Addr) (vs : List V) (H : Hp) (Q : VK) (E : XK) : Prop where | mk (p : Addr) (n a b : Nat) (m : Tab) (h0 : vs = [.ref p, vI a, vI b]) (h1 : OrdAt C H p n m) (h2 : a < n) (h3 : b < n) (h4 : Q (.bl (m a b)) H) : Sp_below C vs H Q E
def sp_below (C : Addr) : Sp := fun vs H Q E => Sp_below C vs H Q E
theorem OrdAt.row {H : Hp} {p : Addr} {n : Nat} {m : Tab} (O : OrdAt C H p n m) : ∃ (dx t : Addr) (ts : List Addr), H p = some (.ins C dx [("table", V.ref t)]) ∧ H t = some (.tup (ts.map V.ref)) ∧ ∀ a, a < n → ∃ r, (ts.map V.ref)[a]? = some (.ref r) ∧ H r = some (.tup (rowV n m a)) := by
  obtain ⟨dx, t, ts, h1, h2, h3, h4⟩ := O.ex
  refine ⟨dx, t, ts, h1, h2, fun a ha => ?_⟩
  have ha' := h3.symm ▸ ha
  exact ⟨ts[a], map_at ha', h4 a _ (List.getElem?_eq_getElem ha')⟩
theorem sc_Order_below : FnScope ["self", "a", "b"] ["self", "a", "b"] (defScope s_Order_below) := ⟨rfl, rfl, rfl, by decide +kernel, rfl, by decide +kernel, by decide +kernel⟩
theorem ok_below {f : Addr} {fd : FuncData} (F : Fun K "below" "Order.below" s_Order_below f fd) (T : Txt K mg C) (c_check_thing : MtG P w K mg base C "check_thing" 2 ["self", "a"] (sp_check_thing C)) :
    FnOk P w K mg base CX0 3 f fd ["self", "a", "b"] (sp_below C) := by
  refine F.ok sc_Order_below (fun vs H Q E h => ?_) (fun cdv A outer s H vs Q E hr h => ?_)
  · obtain ⟨p, n, a, b, m, rfl, _⟩ := h
    rfl
  · obtain ⟨p, n, a, b, m, rfl, O, ha, hb, k⟩ := h
    obtain ⟨dx, t, ts, h1, h2, h3⟩ := O.row
    obtain ⟨r, e, hr'⟩ := h3 a ha
    refine ⟨_, (pss_cons (ps_expr (pe_methG (pv 0) T.cOrder c_check_thing (hr.mono (by decide)) (pa_cons (pv 1) pa_nil)))
  (pss_cons (ps_expr (pe_methG (pv 0) T.cOrder c_check_thing (hr.mono (by decide)) (pa_cons (pv 2) pa_nil)))
  (pss_one (ps_ret (pe_ix ix_tup (pe_ix ix_tup (pe_fld (pv 0) rfl) (pv 1) (fun _ _ => rfl)) (pv 2) (fun _ _ => rfl)))))), ?_⟩
    refine ⟨_, rfl, p, dx, _, rfl, h1, tab_no t (by decide +kernel), _, rfl, p, n, a, m, rfl, O, ha, ?_⟩
    refine ⟨_, rfl, p, dx, _, rfl, h1, tab_no t (by decide +kernel), _, rfl, p, n, b, m, rfl, O, hb, ?_⟩
    refine ⟨_, rfl, p, C, dx, _, _, rfl, h1, T.cOrder, T.nT, tab_look t, _, rfl, t, _, _, _, rfl, rfl, SqT.of h2, atI_nat e, _, rfl, r, _, _, _, rfl, rfl, SqT.of hr', atI_nat (rowV_at hb), ?_⟩
    exact k
end
end MJ
namespace L2
open PySem PySem.Spec PyProof.Rows
section
variable {X : Cx}
def rIxB (K : PySem.W.Frag) : R2 := fun x y H Q => ∃ p xs i v, x = .ref p ∧ y = .int i ∧ (SqL K H p xs ∨ SqT K H p xs) ∧ atI xs i = some v ∧ Q v H
theorem ix_both : IxR X (rIxB X.K) := by
  intro value slice pins s σ H x y v u Q I rx ry h hs
  obtain ⟨p, xs, i, z, e1, e2, hq, he, q⟩ := h
  rcases hq with hq | hq
  · exact ix_list value slice pins s σ H x y v u Q I rx ry ⟨p, xs, i, z, e1, e2, hq, he, q⟩ hs
  · exact ix_tup value slice pins s σ H x y v u Q I rx ry ⟨p, xs, i, z, e1, e2, hq, he, q⟩ hs
end
end L2
namespace MJ
open PySem L2
/-- a list or a tuple -/
def HSq (H : Hp) (a : Addr) (xs : List V) : Prop := H a = some (.lst xs) ∨ H a = some (.tup xs)
theorem HSq.mono {H H' : Hp} {a : Addr} {xs : List V} (h : HSq H a xs) (s : Same H H') : HSq H' a xs := h.imp (s _ _) (s _ _)
theorem HSq.sq {K : PySem.W.Frag} {H : Hp} {a : Addr} {xs : List V} (h : HSq H a xs) : SqL K H a xs ∨ SqT K H a xs := h.imp SqL.of SqT.of
/-- rows, lists or tuples of them -/
structure GridAt (H : Hp) (r : Addr) (n : Nat) (m : Tab) : Prop where
  ex : ∃ ts : List Addr, HSq H r (ts.map V.ref) ∧ ts.length = n ∧ ∀ (a : Nat) (t : Addr), ts[a]? = some t → HSq H t (rowV n m a)
theorem GridAt.mono {H H' : Hp} {r : Addr} {n : Nat} {m : Tab} (G : GridAt H r n m) (s : Same H H') : GridAt H' r n m := by
  obtain ⟨ts, h1, h2, h3⟩ := G.ex
  exact ⟨ts, h1.mono s, h2, fun a t e => (h3 a t e).mono s⟩
theorem GridAt.row {H : Hp} {r : Addr} {n : Nat} {m : Tab} (G : GridAt H r n m) : ∃ ts : List Addr, HSq H r (ts.map V.ref) ∧ (ts.map V.ref).length = n ∧ ∀ a, a < n → ∃ t, (ts.map V.ref)[a]? = some (.ref t) ∧ HSq H t (rowV n m a) := by
  obtain ⟨ts, h1, h2, h3⟩ := G.ex
  refine ⟨ts, h1, by rw [List.length_map, h2], fun a ha => ?_⟩
  have ha' := h2.symm ▸ ha
  exact ⟨ts[a], map_at ha', h3 a _ (List.getElem?_eq_getElem ha')⟩
section
variable {P : Program} {w : World} {K : PySem.W.Frag} {mg : Str → Option Value} {base : Heap} {C : Addr}
/-! ### has_between -/
inductive Sp_has_between (vs : List V) (H : Hp) (Q : VK) (E : XK) : Prop where | mk (r : Addr) (n a b : Nat) (m : Tab) (h0 : vs = [.ref r, vI a, vI b]) (h1 : GridAt H r n m) (h2 : a < n) (h3 : b < n) (h4 : n ≤ 16) (h5 : Q (.bl (third n m a b)) H) : Sp_has_between  vs H Q E
def sp_has_between : Sp := fun vs H Q E => Sp_has_between  vs H Q E
theorem third_to (n : Nat) (m : Tab) (a b c : Nat) (hc : c < n) (h : (c != a && (c != b && (m a c && m c b))) = true) : third n m a b = true := by
  unfold third
  exact List.any_eq_true.mpr ⟨c, List.mem_range.mpr hc, h⟩
theorem third_no {n : Nat} {m : Tab} {a b : Nat} (h : ∀ c, c < n → (c != a && (c != b && (m a c && m c b))) = false) : third n m a b = false := by
  unfold third
  rw [List.any_eq_false]
  intro c hc
  rw [h c (List.mem_range.mp hc)]
  exact Bool.false_ne_true
theorem ne_dec (c a : Nat) : (!decide (vI c = vI a)) = (c != a) := by rw [dec_vI]; rfl
theorem sc_has_between : FnScope ["rows", "a", "b", "c"] ["rows", "a", "b"] (defScope s_has_between) := ⟨rfl, rfl, rfl, by decide +kernel, rfl, by decide +kernel, by decide +kernel⟩
theorem ok_has_between {f : Addr} {fd : FuncData} (F : Fun K "has_between" "has_between" s_has_between f fd) (T : Txt K mg C) :
    FnOk P w K mg base CX0 1 f fd ["rows", "a", "b"] sp_has_between := by
  refine F.ok sc_has_between (fun vs H Q E h => ?_) (fun cdv A outer s H vs Q E hr h => ?_)
  · obtain ⟨p, n, a, b, m, rfl, _⟩ := h
    rfl
  · obtain ⟨p, n, a, b, m, rfl, O, ha, hb, h16, k⟩ := h
    have nd := sc_has_between.nd
    obtain ⟨ts, h1, h2, h3⟩ := O.row
    obtain ⟨ra, ea, hra⟩ := h3 a ha
    refine ⟨_, (pss_cons (ps_for PassesOwn.never rfl (pi_range1 rfl T.range (pa_cons (pe_callB call_len_seq (by rfl) T.len PySem.boot_len (pa_cons (pv 0) pa_nil)) pa_nil)) (pg_name (i := 3) nd rfl (Or.inl rfl)) (pss_one (ps_if (PW.pt (pw_and (pt_cmpR op_ne (pv 3) (pv 1) (nomark _)) (pw_and (pt_cmpR op_ne (pv 3) (pv 2) (nomark _)) (pw_and (pt_val (pe_ix ix_both (pe_ix ix_both (pv 0) (pv 1) (fun _ _ => rfl)) (pv 3) (fun _ _ => rfl))) (pw_and1 (pt_val (pe_ix ix_both (pe_ix ix_both (pv 0) (pv 3) (fun _ _ => rfl)) (pv 2) (fun _ _ => rfl)))))))) (pss_one (ps_ret pe_bl)) pss_nil)))
  (pss_one (ps_ret pe_bl))), ?_⟩
    refine ⟨_, rfl, p, _, rfl, h1.sq, (n : Int), by rw [h2], by omega, by omega, ?_⟩
    refine for_range (lo := 0) (n := n) (fun i σ H' => ∃ x, σ = [some (.ref p), some (vI a), some (vI b), x] ∧ H' = H ∧ ∀ c, c < i → (c != a && (c != b && (m a c && m c b))) = false) ⟨none, rfl, rfl, fun c hc => absurd hc (Nat.not_lt_zero _)⟩ ?_ ?_
    · rintro i σ H' hi ⟨x, rfl, rfl, hno⟩
      rw [Int.zero_add]
      obtain ⟨ri, ei, hri⟩ := h3 i hi
      have next : (i != a && (i != b && (m a i && m i b))) = false → ∃ x, [some (V.ref p), some (vI a), some (vI b), some (vI i)] = [some (V.ref p), some (vI a), some (vI b), x] ∧ H' = H' ∧ ∀ c, c < i + 1 → (c != a && (c != b && (m a c && m c b))) = false := fun hz => ⟨_, rfl, rfl, fun c hc => by
        by_cases e : c = i
        · subst e; exact hz
        · exact hno c (by omega)⟩
      refine ⟨_, rfl, _, rfl, rfl, _, rfl, ?_⟩
      rw [ne_dec]
      refine ite2 (fun z1 => ?_) (fun z1 => ?_)
      · refine ⟨_, rfl, _, rfl, rfl, _, rfl, ?_⟩
        rw [ne_dec]
        refine ite2 (fun z2 => ?_) (fun z2 => ?_)
        · refine ⟨_, rfl, _, rfl, p, _, _, _, rfl, rfl, h1.sq, atI_nat ea, _, rfl, ra, _, _, _, rfl, rfl, hra.sq, atI_nat (rowV_at hi), _, rfl, ?_⟩
          refine ite2 (fun z3 => ?_) (fun z3 => ?_)
          · refine ⟨_, rfl, _, rfl, p, _, _, _, rfl, rfl, h1.sq, atI_nat ei, _, rfl, ri, _, _, _, rfl, rfl, hri.sq, atI_nat (rowV_at hb), _, rfl, ?_⟩
            refine ite2 (fun z4 => ?_) (fun z4 => ?_)
            · have := third_to n m a b i hi (by rw [z1, z2, z3, z4]; rfl)
              rw [this] at k
              exact k
            · exact next (by rw [eq_false_of_ne_true z4]; simp)
          · exact next (by rw [eq_false_of_ne_true z3]; simp)
        · exact next (by rw [eq_false_of_ne_true z2]; simp)
      · exact next (by rw [eq_false_of_ne_true z1]; simp)
    · rintro σ H' ⟨x, rfl, rfl, hno⟩
      rw [third_no hno] at k
      exact k
/-! ### right_pairs -/
inductive Sp_right_pairs (vs : List V) (H : Hp) (Q : VK) (E : XK) : Prop where | mk (r : Addr) (n : Nat) (m : Tab) (h0 : vs = [.ref r]) (h1 : GridAt H r n m) (h2 : n ≤ 16) (h3 : ∀ (l : Addr) (H' : Hp), Same H H' → H l = none → PairsAt H' l (cov n m) → Q (.ref l) H') : Sp_right_pairs  vs H Q E
def sp_right_pairs : Sp := fun vs H Q E => Sp_right_pairs  vs H Q E
theorem sc_right_pairs : FnScope ["rows", "pairs", "a", "b"] ["rows"] (defScope s_right_pairs) := ⟨rfl, rfl, rfl, by decide +kernel, rfl, by decide +kernel, by decide +kernel⟩
theorem ok_right_pairs {f : Addr} {fd : FuncData} (F : Fun K "right_pairs" "right_pairs" s_right_pairs f fd) (T : Txt K mg C)
    (c_has_between : FnG P w K mg base "has_between" 1 ["rows", "a", "b"] sp_has_between) : FnOk P w K mg base CX0 2 f fd ["rows"] sp_right_pairs := by
  refine F.ok sc_right_pairs (fun vs H Q E h => ?_) (fun cdv A outer s H vs Q E hr h => ?_)
  · obtain ⟨p, n, m, rfl, _⟩ := h
    rfl
  · obtain ⟨p, n, m, rfl, O, h16, k⟩ := h
    have nd := sc_right_pairs.nd
    refine ⟨_, (pss_cons (ps_set (i := 1) nd rfl (Or.inl rfl) (pe_lst pa_nil))
  (pss_cons (ps_for PassesOwn.never rfl (pi_range1 rfl T.range (pa_cons (pe_callB call_len_seq (by rfl) T.len PySem.boot_len (pa_cons (pv 0) pa_nil)) pa_nil)) (pg_name (i := 2) nd rfl (Or.inl rfl)) (pss_one (ps_for PassesOwn.never rfl (pi_range1 rfl T.range (pa_cons (pe_callB call_len_seq (by rfl) T.len PySem.boot_len (pa_cons (pv 0) pa_nil)) pa_nil)) (pg_name (i := 3) nd rfl (Or.inl rfl)) (pss_one (ps_if (PW.pt (pw_and (pt_cmpR op_ne (pv 2) (pv 3) (nomark _)) (pw_and (pt_val (pe_ix ix_both (pe_ix ix_both (pv 0) (pv 2) (fun _ _ => rfl)) (pv 3) (fun _ _ => rfl))) (pw_and1 (pt_not (pt_val (pe_callG c_has_between (hr.mono (by decide)) rfl (pa_cons (pv 0) (pa_cons (pv 2) (pa_cons (pv 3) pa_nil)))))))))) (pss_one (ps_expr (pe_bm PySem.F.plainAttrs_list PySem.F.slot_list_append PySem.F.type_list_append mt_append (pv 1) (pa_cons (pe_tup (pa_cons (pv 2) (pa_cons (pv 3) pa_nil))) pa_nil)))) pss_nil)))))
  (pss_one (ps_ret (pv 1))))), ?_⟩
    refine ⟨Nat.zero_le _, fun l hl => ?_⟩
    have s0 : Same H (upd H l (.lst [])) := same_new hl
    obtain ⟨ts, h1, h2, h3⟩ := O.row
    refine ⟨_, rfl, p, _, rfl, (h1.mono s0).sq, (n : Int), by rw [h2], by omega, by omega, ?_⟩
    refine for_range (lo := 0) (n := n) (fun i σ H' => ∃ x y, σ = [some (.ref p), some (.ref l), x, y] ∧ Same H H' ∧ PairsAt H' l (covTo n m i)) ⟨none, none, rfl, s0, [], upd_same, Tups.nil⟩ ?_ ?_
    · rintro i σ H1 hi ⟨x, y, rfl, s1, P1⟩
      rw [Int.zero_add]
      refine ⟨_, rfl, p, _, rfl, (h1.mono s1).sq, (n : Int), by rw [h2], by omega, by omega, ?_⟩
      refine for_range (lo := 0) (n := n) (fun j σ H' => ∃ y, σ = [some (.ref p), some (.ref l), some (vI i), y] ∧ Same H H' ∧ PairsAt H' l (covTo n m i ++ covRow n m i j)) ⟨y, rfl, s1, by simpa [covRow] using P1⟩ ?_ ?_
      · rintro j σ H2 hj ⟨y2, rfl, s2, P2⟩
        rw [Int.zero_add]
        have next : isCov n m i j = false → ∃ y, [some (V.ref p), some (V.ref l), some (vI i), some (vI j)] = [some (V.ref p), some (V.ref l), some (vI i), y] ∧ Same H H2 ∧ PairsAt H2 l (covTo n m i ++ covRow n m i (j + 1)) := fun hz => ⟨_, rfl, s2, by rw [covRow_succ, hz]; simpa using P2⟩
        obtain ⟨ri, ei, hri⟩ := h3 i hi
        refine ⟨_, rfl, _, rfl, rfl, _, rfl, ?_⟩
        rw [ne_dec]
        refine ite2 (fun z1 => ?_) (fun z1 => ?_)
        · refine ⟨_, rfl, _, rfl, p, _, _, _, rfl, rfl, (h1.mono s2).sq, atI_nat ei, _, rfl, ri, _, _, _, rfl, rfl, (hri.mono s2).sq, atI_nat (rowV_at hj), _, rfl, ?_⟩
          refine ite2 (fun z2 => ?_) (fun z2 => ?_)
          · refine ⟨_, rfl, _, rfl, _, rfl, p, n, i, j, m, rfl, O.mono s2, hi, hj, h16, _, rfl, ?_⟩
            refine ite2 (fun z3 => ?_) (fun z3 => ?_)
            · have hc : isCov n m i j = true := by unfold isCov; rw [z1, z2, z3]; rfl
              obtain ⟨us, hu, hU⟩ := P2
              refine ⟨_, rfl, .inl ⟨rfl, _, SqL.of hu⟩, _, rfl, _, rfl, by show 2 ≤ sizeLine; decide, fun q hq => ?_⟩
              have nlq : l ≠ q := ne_of_none hu hq
              refine ⟨l, _, _, rfl, rfl, by rw [upd_ne nlq]; exact hu, ?_, ?_⟩
              · rw [List.length_map, hU.len, List.length_append]
                have a1 := covTo_length n m i
                have a2 := covRow_length n m i j
                have a3 : i * n ≤ 16 * 16 := Nat.mul_le_mul (by omega) h16
                exact small1000 (by omega)
              · have s3 : Same H2 (upd H2 q (.tup [vI i, vI j])) := same_new hq
                refine ⟨_, rfl, (s2.put (s2.free hq)).put hl, us ++ [q], by rw [upd_same, List.map_append]; rfl, ?_⟩
                rw [covRow_succ, hc, if_pos rfl, ← List.append_assoc]
                have hU3 : Tups (upd (upd H2 q (.tup [vI i, vI j])) l (.lst (us.map V.ref ++ [.ref q]))) us (covTo n m i ++ covRow n m i j) := ⟨hU.len, fun x t' p' e1 e2 => by
                  have := hU.at_ x t' p' e1 e2
                  show _ = _
                  rw [upd_ne (ne_of this hu (by intro z; cases z)), upd_ne (ne_of_none this hq)]
                  exact this⟩
                exact hU3.snoc (p := (i, j)) (by show _ = _; rw [upd_ne (Ne.symm nlq), upd_same])
            · exact next (by unfold isCov; rw [eq_false_of_ne_true z3]; simp)
          · exact next (by unfold isCov; rw [eq_false_of_ne_true z2]; simp)
        · exact next (by unfold isCov; rw [eq_false_of_ne_true z1]; simp)
      · rintro σ H2 ⟨y2, rfl, s2, P2⟩
        exact ⟨_, _, rfl, s2, by rw [covTo_succ]; exact P2⟩
    · rintro σ H1 ⟨x, y, rfl, s1, P1⟩
      exact ⟨_, rfl, k l H1 s1 hl P1⟩
/-! ### Order.right_below -/
inductive Sp_right_below (C : Addr) (vs : List V) (H : Hp) (Q : VK) (E : XK) : Prop where | mk (p : Addr) (n : Nat) (m : Tab) (h0 : vs = [.ref p]) (h1 : OrdAt C H p n m) (h2 : n ≤ 16) (h3 : ∀ (l : Addr) (H' : Hp), Same H H' → H l = none → PairsAt H' l (cov n m) → Q (.ref l) H') : Sp_right_below C vs H Q E
def sp_right_below (C : Addr) : Sp := fun vs H Q E => Sp_right_below C vs H Q E
theorem OrdAt.grid {H : Hp} {p : Addr} {n : Nat} {m : Tab} (O : OrdAt C H p n m) : ∃ (dx t : Addr), H p = some (.ins C dx [("table", V.ref t)]) ∧ GridAt H t n m := by
  obtain ⟨dx, t, ts, h1, h2, h3, h4⟩ := O.ex
  exact ⟨dx, t, h1, ts, .inr h2, h3, fun a t' e => .inr (h4 a t' e)⟩
theorem sc_Order_right_below : FnScope ["self"] ["self"] (defScope s_Order_right_below) := ⟨rfl, rfl, rfl, by decide +kernel, rfl, by decide +kernel, by decide +kernel⟩
theorem ok_right_below {f : Addr} {fd : FuncData} (F : Fun K "right_below" "Order.right_below" s_Order_right_below f fd) (T : Txt K mg C)
    (c_right_pairs : FnG P w K mg base "right_pairs" 2 ["rows"] sp_right_pairs) : FnOk P w K mg base CX0 3 f fd ["self"] (sp_right_below C) := by
  refine F.ok sc_Order_right_below (fun vs H Q E h => ?_) (fun cdv A outer s H vs Q E hr h => ?_)
  · obtain ⟨p, n, m, rfl, _⟩ := h
    rfl
  · obtain ⟨p, n, m, rfl, O, h16, k⟩ := h
    obtain ⟨dx, t, h1, G⟩ := O.grid
    refine ⟨_, (pss_one (ps_ret (pe_callG c_right_pairs (hr.mono (by decide)) rfl (pa_cons (pe_fld (pv 0) rfl) pa_nil)))), ?_⟩
    exact ⟨_, rfl, p, C, dx, _, _, rfl, h1, T.cOrder, T.nT, tab_look t, t, n, m, rfl, G, h16, k⟩
end
end MJ
namespace MJ
open PySem L2
section
variable {P : Program} {w : World} {K : PySem.W.Frag} {mg : Str → Option Value} {base : Heap} {C : Addr}
/-! ### Order.__init__ -/
inductive Sp_init (C : Addr) (vs : List V) (H : Hp) (Q : VK) (E : XK) : Prop where | mk (p dx l : Addr) (n : Nat) (ps : List (Nat × Nat)) (h0 : vs = [.ref p, vI n, .ref l]) (h1 : H p = some (.ins C dx [])) (h2 : PairsAt H l ps) (h3 : 1 ≤ n) (h4 : n ≤ 16) (h5 : ps.length ≤ 60) (h6 : Acy n ps) (h7 : ∀ H' : Hp, But p H H' → OrdAt C H' p n (clo n ps) → Q .non H') : Sp_init C vs H Q E
def sp_init (C : Addr) : Sp := fun vs H Q E => Sp_init C vs H Q E
/-- the rows turned to tuples so far -/
structure Tup0 (H H' : Hp) (q : Addr) (n i : Nat) (m : Tab) (ys : List V) (ts : List Addr) : Prop where
  bt : But q H H'
  lst : H' q = some (.lst ys)
  ys : ys = ts.map V.ref
  len : ts.length = i
  row : ∀ (a : Nat) (t : Addr), ts[a]? = some t → H' t = some (.tup (rowV n m a))
theorem Tup0.snoc {H H' : Hp} {q t : Addr} {n i : Nat} {m : Tab} {ys : List V} {ts : List Addr} (R : Tup0 H H' q n i m ys ts) (ht : H' t = none) : Tup0 H (upd (upd H' t (.tup (rowV n m i))) q (.lst (ys ++ [.ref t]))) q n (i + 1) m (ys ++ [.ref t]) (ts ++ [t]) := by
  have nqt : q ≠ t := ne_of_none R.lst ht
  have nts : t ∉ ts := fun h => by
    obtain ⟨a, ha, e⟩ := List.mem_iff_getElem.mp h
    have := R.row a t (by rw [List.getElem?_eq_getElem ha, e])
    rw [ht] at this
    cases this
  have nqs : q ∉ ts := fun h => by
    obtain ⟨a, ha, e⟩ := List.mem_iff_getElem.mp h
    have := R.row a q (by rw [List.getElem?_eq_getElem ha, e])
    rw [R.lst] at this
    cases this
  refine ⟨fun b o n' e => ?_, upd_same, by rw [R.ys, List.map_append]; rfl, by simp [R.len], fun a t' e => ?_⟩
  · rw [upd_ne n', upd_ne (ne_of_none (R.bt b o n' e) ht)]
    exact R.bt b o n' e
  · by_cases ha : a < ts.length
    · rw [List.getElem?_append_left ha] at e
      have hm := List.mem_of_getElem? e
      rw [upd_ne (fun z : t' = q => nqs (z ▸ hm)), upd_ne (fun z : t' = t => nts (z ▸ hm))]
      exact R.row a t' e
    · rw [List.getElem?_append_right (by omega)] at e
      cases hk : a - ts.length with
      | zero =>
        rw [hk] at e
        have e2 : t = t' := by simpa using e
        have e3 : a = i := by have := R.len; omega
        subst e2; subst e3
        rw [upd_ne (Ne.symm nqt), upd_same]
      | succ k => rw [hk] at e; simp at e
theorem sc_Order___init__ : FnScope ["self", "many", "pairs", "rows"] ["self", "many", "pairs"] (defScope s_Order___init__) := ⟨rfl, rfl, rfl, by decide +kernel, rfl, by decide +kernel, by decide +kernel⟩
theorem ok_init {f : Addr} {fd : FuncData} (F : Fun K "__init__" "Order.__init__" s_Order___init__ f fd) (T : Txt K mg C) (c_check_many : FnG P w K mg base "check_many" 1 ["many"] sp_check_many) (c_check_pairs : FnG P w K mg base "check_pairs" 2 ["many", "pairs"] sp_check_pairs)
    (c_told_rows : FnG P w K mg base "told_rows" 1 ["many", "pairs"] sp_told_rows) (c_close_rows : FnG P w K mg base "close_rows" 2 ["many", "rows"] sp_close_rows) (c_check_rings : FnG P w K mg base "check_rings" 1 ["many", "rows"] sp_check_rings) :
    FnOk P w K mg base CX0 3 f fd ["self", "many", "pairs"] (sp_init C) := by
  refine F.ok sc_Order___init__ (fun vs H Q E h => ?_) (fun cdv A outer s H vs Q E hr h => ?_)
  · obtain ⟨p, dx, l, n, ps, rfl, _⟩ := h
    rfl
  · obtain ⟨p, dx, l, n, ps, rfl, hp, hP, h1, h16, h60, acy, k⟩ := h
    have nd := sc_Order___init__.nd
    refine ⟨_, (pss_cons (ps_expr (pe_callG c_check_many (hr.mono (by decide)) rfl (pa_cons (pv 1) pa_nil)))
  (pss_cons (ps_expr (pe_callG c_check_pairs (hr.mono (by decide)) rfl (pa_cons (pv 1) (pa_cons (pv 2) pa_nil))))
  (pss_cons (ps_set (i := 3) nd rfl (Or.inl rfl) (pe_callG c_told_rows (hr.mono (by decide)) rfl (pa_cons (pv 1) (pa_cons (pv 2) pa_nil))))
  (pss_cons (ps_expr (pe_callG c_close_rows (hr.mono (by decide)) rfl (pa_cons (pv 1) (pa_cons (pv 3) pa_nil))))
  (pss_cons (ps_expr (pe_callG c_check_rings (hr.mono (by decide)) rfl (pa_cons (pv 1) (pa_cons (pv 3) pa_nil))))
  (pss_one (ps_fld (pv 0) (pe_callTy call_tuple_of (by rfl) T.tuple bt_tuple (pa_cons (pe_comp [none] ["row"] (defScope s_Order___init__) ["self", "many", "pairs", "rows"] (by decide +kernel) rfl (pi_list (pv 3)) (fun _ _ _ _ _ _ => pg_name (i := 0) (show List.Nodup (["row"] : List Str) by decide +kernel) rfl (Or.inl rfl)) (fun _ _ _ _ _ _ => pifs_nil) (fun _ _ _ _ _ _ => pe_callTy (call_tuple_ofK (K := K) rfl) (by rfl) T.tuple bt_tuple (pa_cons (pv 0) pa_nil))) pa_nil)) rfl))))))), ?_⟩
    refine ⟨_, rfl, n, rfl, h1, h16, ?_⟩
    refine ⟨_, rfl, _, rfl, n, l, ps, rfl, hP, h60, acy.lt, ?_⟩
    refine ⟨_, rfl, _, rfl, n, l, ps, rfl, hP, h16, acy.lt, fun r rs H1 s1 hr0 R1 => ?_⟩
    refine ⟨_, rfl, _, rfl, r, n, _, rs, rfl, R1, h16, fun rs2 H2 b2 R2 => ?_⟩
    have s2 : Same H H2 := b2.same s1 hr0
    refine ⟨_, rfl, _, rfl, r, n, _, rs2, rfl, R2, h16, fun a b ha hb e1 e2 => ?_, ?_⟩
    · have := acy.anti ((clo_iff acy.lt).mp e1) ((clo_iff acy.lt).mp e2)
      omega
    · -- self.table = tuple([tuple(row) for row in rows])
      refine ⟨_, rfl, r, rfl, ⟨_, SqL.of R2.lst⟩, fun q hq => ?_⟩
      have nrq : r ≠ q := ne_of_none R2.lst hq
      refine comp_list (K := K) (a := r) (xs := rs2.map V.ref) (fun σ => ∃ x, σ = [x]) (fun i ys H' => ∃ ts, Tup0 H2 H' q n i (wk (told ps) n) ys ts) ⟨none, rfl⟩ ⟨[], (But.refl q H2).put _, upd_same, rfl, rfl, fun a t e => by simp at e⟩ ?_ ?_ ?_ ?_
      · rw [List.length_map, R2.len]
        exact small1000 (by omega)
      · rintro i ys H' _ ⟨ts, R⟩
        refine ⟨R.lst, by rw [R.ys, List.length_map, R.len]; exact Nat.le_refl _, SqL.of (R.bt _ _ nrq R2.lst)⟩
      · rintro i x σ ys H' hx ⟨x0, rfl⟩ ⟨ts, R⟩
        rw [List.getElem?_map] at hx
        cases er : rs2[i]? with
        | none => rw [er] at hx; cases hx
        | some ri =>
          rw [er] at hx
          have ex : x = .ref ri := (Option.some.inj hx).symm
          subst ex
          have hri := R2.row i ri er
          refine ⟨_, rfl, ri, _, rfl, .inl ⟨SqL.of (R.bt _ _ (ne_of_none hri hq) hri), fun t ht => ?_⟩⟩
          refine ⟨by rw [upd_ne (ne_of_none R.lst ht)]; exact R.lst, ⟨_, rfl⟩, ts ++ [t], R.snoc ht⟩
      · rintro ys H' ⟨ts, R⟩
        have hlen : ts.length = n := by rw [R.len, List.length_map, R2.len]
        refine ⟨q, _, rfl, .inl ⟨SqL.of R.lst, fun t ht => ?_⟩⟩
        have hp' : (upd H' t (.tup ys)) p = some (.ins C dx []) := by
          have a1 := s2 _ _ hp
          have a2 := R.bt _ _ (ne_of_none a1 hq) a1
          rw [upd_ne (ne_of_none a2 ht)]
          exact a2
        refine ⟨_, rfl, p, C, dx, [], rfl, hp', T.cOrder, T.nT, by show 0 < 1000; decide, ?_⟩
        have npt : p ≠ t := by
          intro z
          rw [z, upd_same] at hp'
          cases hp'
        refine k _ (fun b o nb e => ?_) ⟨dx, t, ts, upd_same, ?_, hlen, fun a r' e => ?_⟩
        · have a1 := s2 _ _ e
          have a2 := R.bt _ _ (ne_of_none a1 hq) a1
          rw [upd_ne nb, upd_ne (ne_of_none a2 ht)]
          exact a2
        · rw [upd_ne (Ne.symm npt), upd_same, R.ys]
        · have := R.row a r' e
          have nt : r' ≠ t := ne_of_none this ht
          have np : r' ≠ p := by
            intro z
            rw [upd_ne npt] at hp'
            rw [z, hp'] at this
            cases this
          rw [upd_ne np, upd_ne nt]
          exact this
end
end MJ
namespace MJ
open PySem L2
section
variable {P : Program} {w : World} {K : PySem.W.Frag} {mg : Str → Option Value} {base : Heap} {C : Addr}
/-! ### _law_cell_at -/
inductive Sp_cell_at (K : PySem.W.Frag) (vs : List V) (H : Hp) (Q : VK) (E : XK) : Prop where | mk (a : Addr) (ns : List Int) (k : Int) (h0 : vs = [.ref a, .int k]) (h1 : SqL K H a (ns.map V.int)) (h2 : 0 ≤ k) (h3 : ∀ z, Q (.int z) H) : Sp_cell_at K vs H Q E
def sp_cell_at (K : PySem.W.Frag) : Sp := fun vs H Q E => Sp_cell_at K vs H Q E
theorem sc__law_cell_at : FnScope ["script", "k"] ["script", "k"] (defScope s__law_cell_at) := ⟨rfl, rfl, rfl, by decide +kernel, rfl, by decide +kernel, by decide +kernel⟩
theorem ok_cell_at {f : Addr} {fd : FuncData} (F : Fun K "_law_cell_at" "_law_cell_at" s__law_cell_at f fd) (T : Txt K mg C) : FnOk P w K mg base CX0 1 f fd ["script", "k"] (sp_cell_at K) := by
  refine F.ok sc__law_cell_at (fun vs H Q E h => ?_) (fun cdv A outer s H vs Q E hr h => ?_)
  · obtain ⟨a, ns, k, rfl, _⟩ := h
    rfl
  · obtain ⟨a, ns, k, rfl, hS, h0, q⟩ := h
    refine ⟨_, (pss_cons (ps_if (pt_cmpR op_lt (pv 1) (pe_callB call_len_seq (by rfl) T.len PySem.boot_len (pa_cons (pv 0) pa_nil)) (nomark _)) (pss_one (ps_ret (pe_ix ix_list (pv 0) (pv 1) (fun _ _ => rfl)))) pss_nil)
  (pss_one (ps_ret pe_int))), ?_⟩
    refine ⟨_, rfl, _, rfl, a, _, rfl, .inl hS, _, _, rfl, rfl, _, rfl, ?_⟩
    refine ite2 (fun h => ?_) (fun h => ?_)
    · obtain ⟨j, rfl⟩ := Int.eq_ofNat_of_zero_le h0
      have hj : j < ns.length := by
        have h' : (j : Int) < ((ns.map V.int).length : Nat) := by simpa using h
        rw [List.length_map] at h'
        omega
      refine ⟨_, rfl, _, rfl, a, _, _, .int ns[j], rfl, rfl, hS, atI_nat ?_, q _⟩
      rw [List.getElem?_map, List.getElem?_eq_getElem hj]
      rfl
    · exact q _
/-! ### _law_whole -/
inductive Sp_whole (vs : List V) (H : Hp) (Q : VK) (E : XK) : Prop where | mk (i : Int) (h0 : vs = [.int i]) (h1 : Q (.bl true) H) : Sp_whole  vs H Q E
def sp_whole : Sp := fun vs H Q E => Sp_whole  vs H Q E
theorem sc__law_whole : FnScope ["found"] ["found"] (defScope s__law_whole) := ⟨rfl, rfl, rfl, by decide +kernel, rfl, by decide +kernel, by decide +kernel⟩
theorem ok_whole {f : Addr} {fd : FuncData} (F : Fun K "_law_whole" "_law_whole" s__law_whole f fd) (T : Txt K mg C) : FnOk P w K mg base CX0 1 f fd ["found"] sp_whole := by
  refine F.ok sc__law_whole (fun vs H Q E h => ?_) (fun cdv A outer s H vs Q E hr h => ?_)
  · obtain ⟨i, rfl, _⟩ := h
    rfl
  · obtain ⟨i, rfl, q⟩ := h
    refine ⟨_, (pss_one (ps_ret (pe_and (pe_callB call_isinst (by rfl) T.isinstance bt_isinstance (pa_cons (pv 0) (pa_cons (pe_bltn (v := .ty "int") rfl T.int bt_int rfl) pa_nil))) (pe_one (pe_not (pe_callB call_isinst (by rfl) T.isinstance bt_isinstance (pa_cons (pv 0) (pa_cons (pe_bltn (v := .ty "bool") rfl T.bool bt_bool rfl) pa_nil)))))))), ?_⟩
    refine ⟨_, rfl, _, _, _, _, true, rfl, .int i, rfl, T.i_ii, _, rfl, ?_⟩
    refine ⟨_, rfl, _, _, _, _, false, rfl, .int i, rfl, T.i_ib, _, rfl, ?_⟩
    exact q
/-! ### _law_order_of -/
inductive Sp_order_of (vs : List V) (H : Hp) (Q : VK) (E : XK) : Prop where | mk (c : Int) (n : Nat) (h0 : vs = [.int c, vI n]) (h1 : n ≤ 16) (h2 : ∀ (l : Addr) (nm : List Nat) (H' : Hp), Same H H' → H l = none → H' l = some (.lst (nm.map vI)) → nm.Perm (List.range n) → Q (.ref l) H') : Sp_order_of  vs H Q E
def sp_order_of : Sp := fun vs H Q E => Sp_order_of  vs H Q E
structure Ord0 (H H' : Hp) (q l : Addr) (n : Nat) (rs nm : List Nat) : Prop where
  sm : Same H H'
  hq : H q = none
  hl : H l = none
  ne : q ≠ l
  hrs : H' q = some (.lst (rs.map vI))
  hnm : H' l = some (.lst (nm.map vI))
  pm : (nm ++ rs).Perm (List.range n)
theorem erase_map (rs : List Nat) (k : Nat) : (rs.map vI).eraseIdx k = (rs.eraseIdx k).map vI := by
  induction rs generalizing k with
  | nil => rfl
  | cons x r ih =>
    cases k with
    | zero => rfl
    | succ k =>
      show _ :: (r.map vI).eraseIdx k = _ :: (r.eraseIdx k).map vI
      rw [ih]
theorem perm_erase {rs : List Nat} {k : Nat} {x : Nat} (h : rs[k]? = some x) : rs.Perm (x :: rs.eraseIdx k) := by
  induction rs generalizing k with
  | nil => simp at h
  | cons y r ih =>
    cases k with
    | zero =>
      have : y = x := by simpa using h
      subst this
      exact List.Perm.refl _
    | succ k =>
      have h' : r[k]? = some x := by simpa using h
      exact ((ih h').cons y).trans (List.Perm.swap x y _)
theorem Ord0.step {H H' : Hp} {q l : Addr} {n k x : Nat} {rs nm : List Nat} (R : Ord0 H H' q l n rs nm) (h : rs[k]? = some x) :
    Ord0 H (upd (upd H' q (.lst ((rs.map vI).eraseIdx k))) l (.lst (nm.map vI ++ [vI x]))) q l n (rs.eraseIdx k) (nm ++ [x]) := by
  refine ⟨(R.sm.put R.hq).put R.hl, R.hq, R.hl, R.ne, ?_, ?_, ?_⟩
  · rw [upd_ne R.ne, upd_same, erase_map]
  · rw [upd_same, List.map_append]
    rfl
  · refine List.Perm.trans ?_ R.pm
    rw [List.append_assoc]
    exact List.Perm.append_left nm (perm_erase h).symm
theorem sc__law_order_of : FnScope ["cell", "many", "rest", "names", "stir"] ["cell", "many"] (defScope s__law_order_of) := ⟨rfl, rfl, rfl, by decide +kernel, rfl, by decide +kernel, by decide +kernel⟩
theorem ok_order_of {f : Addr} {fd : FuncData} (F : Fun K "_law_order_of" "_law_order_of" s__law_order_of f fd) (T : Txt K mg C) : FnOk P w K mg base CX0 1 f fd ["cell", "many"] sp_order_of := by
  refine F.ok sc__law_order_of (fun vs H Q E h => ?_) (fun cdv A outer s H vs Q E hr h => ?_)
  · obtain ⟨c, n, rfl, _⟩ := h
    rfl
  · obtain ⟨c, n, rfl, h16, k⟩ := h
    have nd := sc__law_order_of.nd
    refine ⟨_, (pss_cons (ps_comp [none] ["k"] (defScope s__law_order_of) ["cell", "many", "rest", "names", "stir"] (by decide +kernel) rfl (pi_range1 rfl T.range (pa_cons (pv 1) pa_nil)) (fun _ _ _ _ _ _ => pg_name (i := 0) (show List.Nodup (["k"] : List Str) by decide +kernel) rfl (Or.inl rfl)) (fun _ _ _ _ _ _ => pifs_nil) (fun _ _ _ _ _ _ => pv 0) nd (i := 2) rfl (Or.inl rfl) rfl)
  (pss_cons (ps_set (i := 3) nd rfl (Or.inl rfl) (pe_lst pa_nil))
  (pss_cons (ps_set (i := 4) nd rfl (Or.inl rfl) (pe_op op_mod (pe_op op_add (pv 0) pe_int) pe_int))
  (pss_cons (ps_set (i := 4) nd rfl (Or.inl rfl) (pe_op op_mod (pe_op op_mul (pv 4) (pv 4)) pe_int))
  (pss_cons (ps_while PassesOwn.never (pt_cmpR op_gt (pe_callB call_len_seq (by rfl) T.len PySem.boot_len (pa_cons (pv 2) pa_nil)) pe_int (nomark _)) (pss_cons (ps_expr (pe_bm PySem.F.plainAttrs_list PySem.F.slot_list_append PySem.F.type_list_append mt_append (pv 3) (pa_cons (pe_bm PySem.F.plainAttrs_list PySem.F.slot_list_pop PySem.F.type_list_pop mt_popAt (pv 2) (pa_cons (pe_op op_mod (pe_op op_fdiv (pv 4) pe_int) (pe_callB call_len_seq (by rfl) T.len PySem.boot_len (pa_cons (pv 2) pa_nil))) pa_nil)) pa_nil)))
  (pss_one (ps_set (i := 4) nd rfl (Or.inl rfl) (pe_op op_mod (pe_op op_mul (pv 4) pe_int) pe_int)))))
  (pss_one (ps_ret (pv 3)))))))), ?_⟩
    -- rest = [k for k in range(many)]
    refine ⟨_, rfl, (n : Int), rfl, by omega, by omega, fun q hq => ?_⟩
    refine comp_range (lo := 0) (n := n) (fun σ => ∃ x, σ = [x]) (fun j ys H' => ys = (List.range j).map vI ∧ H' = upd H q (.lst ys)) ⟨none, rfl⟩ ⟨rfl, rfl⟩ (by exact small1000 (by omega)) ?_ ?_ ?_
    · rintro j ys H' _ ⟨e, rfl⟩
      exact ⟨upd_same, by rw [e]; simp⟩
    · rintro j σ ys H' hj ⟨x, rfl⟩ ⟨e, rfl⟩
      rw [Int.zero_add]
      refine ⟨_, rfl, upd_same, ⟨_, rfl⟩, ?_, by rw [upd_upd]⟩
      rw [e, List.range_succ, List.map_append]
      rfl
    · rintro ys H' ⟨e, rfl⟩
      -- names = []
      refine ⟨Nat.zero_le _, fun l hl => ?_⟩
      have nql : q ≠ l := ne_of_none upd_same hl
      have hl0 : H l = none := by rw [upd_ne (Ne.symm nql)] at hl; exact hl
      -- stir
      refine ⟨_, rfl, _, _, rfl, rfl, _, _, rfl, rfl, by show (0 : Int) < 2147483647; decide, ?_⟩
      have b0 : 0 ≤ (c + 17) % 2147483647 ∧ (c + 17) % 2147483647 < 2147483647 := ⟨Int.emod_nonneg _ (by decide), Int.emod_lt_of_pos _ (by decide)⟩
      refine ⟨_, rfl, _, rfl, _, _, rfl, rfl, .inl ⟨by omega, by omega⟩, _, _, rfl, rfl, by show (0 : Int) < 2147483647; decide, ?_⟩
      -- while
      refine ⟨fun m σ H' => ∃ (rs nm : List Nat) (st : Int), m = rs.length ∧ σ = [some (.int c), some (vI n), some (.ref q), some (.ref l), some (.int st)] ∧ 0 ≤ st ∧ st < 2147483647 ∧ Ord0 H H' q l n rs nm,
        ⟨_, List.range n, [], _, rfl, rfl, Int.emod_nonneg _ (by decide), Int.emod_lt_of_pos _ (by decide), ⟨(same_new hq).step hl, hq, hl0, nql, by rw [upd_ne nql, upd_same, e], upd_same, by simpa using List.Perm.refl _⟩⟩, ?_⟩
      rintro m σ H1 ⟨rs, nm, st, rfl, rfl, s0, s1, R⟩
      refine ⟨_, rfl, q, _, rfl, .inl (SqL.of R.hrs), _, _, rfl, rfl, _, rfl, ?_⟩
      refine ite2 (fun h => ?_) (fun h => ?_)
      · have hpos : 0 < rs.length := by
          have h' : (0 : Int) < ((rs.map vI).length : Nat) := by simpa using h
          rw [List.length_map] at h'
          omega
        refine ⟨fun σ' H' => ∃ (rs' nm : List Nat) (st : Int), rs'.length < rs.length ∧ σ' = [some (.int c), some (vI n), some (.ref q), some (.ref l), some (.int st)] ∧ 0 ≤ st ∧ st < 2147483647 ∧ Ord0 H H' q l n rs' nm,
          fun σ' H' ⟨rs', nm', st', a1, a2, a3, a4, a5⟩ => ⟨_, a1, rs', nm', st', rfl, a2, a3, a4, a5⟩, ?_⟩
        -- the place
        have hlen : ((rs.map vI).length : Int) = rs.length := by rw [List.length_map]
        have i0 : 0 ≤ st / 7 % (rs.length : Int) := Int.emod_nonneg _ (by omega)
        have i1 : st / 7 % (rs.length : Int) < rs.length := Int.emod_lt_of_pos _ (by omega)
        obtain ⟨j, hj⟩ := Int.eq_ofNat_of_zero_le i0
        have hjl : j < rs.length := by omega
        have hsz : rs.length ≤ 16 := by
          have a1 := R.pm.length_eq
          rw [List.length_append, List.length_range] at a1
          omega
        refine ⟨_, rfl, .inl ⟨rfl, _, SqL.of R.hnm⟩, _, rfl, .inl ⟨rfl, _, SqL.of R.hrs⟩, _, rfl, _, _, rfl, rfl, ⟨by decide, by decide⟩, _, rfl, q, _, rfl, .inl (SqL.of R.hrs), _, _, rfl, rfl, by show (0 : Int) < ((rs.map vI).length : Nat); omega, ?_⟩
        refine ⟨q, _, _, j, vI rs[j], rfl, rfl, R.hrs, ?_, ?_, ?_, ?_, ?_⟩
        · rw [hlen]; omega
        · rw [hlen]; omega
        · rw [hlen, hj]
          exact (ixN_seq (ixN_nat (by rw [List.length_map]; exact hjl))).1
        · rw [List.getElem?_map, List.getElem?_eq_getElem hjl]
          rfl
        · have R' := R.step (List.getElem?_eq_getElem hjl)
          refine ⟨l, _, _, rfl, rfl, by rw [upd_ne (Ne.symm R.ne)]; exact R.hnm, ?_, ?_⟩
          · have a1 := R.pm.length_eq
            rw [List.length_append, List.length_range] at a1
            rw [List.length_map]
            exact small1000 (by omega)
          · refine ⟨_, rfl, _, _, rfl, rfl, .inl ⟨by omega, by omega⟩, _, _, rfl, rfl, by show (0 : Int) < 2147483647; decide, ?_⟩
            refine ⟨_, _, _, ?_, rfl, Int.emod_nonneg _ (by decide), Int.emod_lt_of_pos _ (by decide), R'⟩
            rw [List.length_eraseIdx, if_pos hjl]
            omega
      · have hz : rs = [] := by
          have h' : ¬ (0 : Int) < ((rs.map vI).length : Nat) := by simpa using h
          rw [List.length_map] at h'
          exact List.length_eq_zero_iff.mp (by omega)
        subst hz
        refine ⟨_, rfl, k l nm H1 R.sm R.hl R.hnm ?_⟩
        have := R.pm
        rwa [List.append_nil] at this
end
end MJ
namespace MJ
open PySem L2
/-! ### pairs gathered by a comprehension -/
structure PairAcc (H H' : Hp) (p : Addr) (i : Nat) (f : Nat → Nat × Nat) (ys : List V) (ts : List Addr) : Prop where
  bt : But p H H'
  lst : H' p = some (.lst ys)
  ys : ys = ts.map V.ref
  tp : Tups H' ts ((List.range i).map f)
theorem Tups.keep {H H' : Hp} {ts : List Addr} {ps : List (Nat × Nat)} (T : Tups H ts ps) (h : ∀ b xs, H b = some (.tup xs) → H' b = some (.tup xs)) : Tups H' ts ps := ⟨T.len, fun i t p a b => h _ _ (T.at_ i t p a b)⟩
theorem PairAcc.nil {H : Hp} {p : Addr} {f : Nat → Nat × Nat} : PairAcc H (upd H p (.lst [])) p 0 f [] [] := ⟨(But.refl p H).put _, upd_same, rfl, Tups.nil⟩
theorem PairAcc.snoc {H H' : Hp} {p t : Addr} {i : Nat} {f : Nat → Nat × Nat} {ys : List V} {ts : List Addr} (R : PairAcc H H' p i f ys ts) (ht : H' t = none) {x y : V} (hx : x = vI (f i).1) (hy : y = vI (f i).2) :
    (upd H' t (.tup [x, y])) p = some (.lst ys) ∧ PairAcc H (upd (upd H' t (.tup [x, y])) p (.lst (ys ++ [.ref t]))) p (i + 1) f (ys ++ [.ref t]) (ts ++ [t]) := by
  subst hx hy
  have npt : p ≠ t := ne_of_none R.lst ht
  refine ⟨by rw [upd_ne npt]; exact R.lst, fun b o n e => ?_, upd_same, by rw [R.ys, List.map_append]; rfl, ?_⟩
  · rw [upd_ne n, upd_ne (ne_of_none (R.bt b o n e) ht)]
    exact R.bt b o n e
  · rw [List.range_succ, List.map_append]
    refine (R.tp.keep fun b xs e => ?_).snoc ?_
    · rw [upd_ne (ne_of e R.lst (by intro z; cases z)), upd_ne (ne_of_none e ht)]
      exact e
    · show _ = _
      rw [upd_ne (Ne.symm npt), upd_same]
theorem PairAcc.same {H H' : Hp} {p : Addr} {i : Nat} {f : Nat → Nat × Nat} {ys : List V} {ts : List Addr} (R : PairAcc H H' p i f ys ts) (hp : H p = none) : Same H H' := fun b o e => R.bt b o (ne_of_none e hp) e
theorem PairAcc.pairs {H H' : Hp} {p : Addr} {i : Nat} {f : Nat → Nat × Nat} {ys : List V} {ts : List Addr} (R : PairAcc H H' p i f ys ts) : PairsAt H' p ((List.range i).map f) := ⟨ts, by rw [R.lst, R.ys], R.tp⟩
theorem PairAcc.len {H H' : Hp} {p : Addr} {i : Nat} {f : Nat → Nat × Nat} {ys : List V} {ts : List Addr} (R : PairAcc H H' p i f ys ts) : ys.length = i := by
  rw [R.ys, List.length_map, R.tp.len, List.length_map, List.length_range]
/-- pairs with the lesser number first -/
def Up (n : Nat) (qs : List (Nat × Nat)) : Prop := ∀ q ∈ qs, q.1 < q.2 ∧ q.2 < n
theorem PairsAt.add {H H' : Hp} {l t : Addr} {qs : List (Nat × Nat)} {a b : Nat} (h : PairsAt H' l qs) (ht : H' t = none) (hl : H l = none) (s : Same H H') :
    ∃ ts : List Addr, H' l = some (.lst (ts.map V.ref)) ∧ ts.length = qs.length ∧ (upd H' t (.tup [vI a, vI b])) l = some (.lst (ts.map V.ref)) ∧ Same H (upd (upd H' t (.tup [vI a, vI b])) l (.lst (ts.map V.ref ++ [.ref t]))) ∧ PairsAt (upd (upd H' t (.tup [vI a, vI b])) l (.lst (ts.map V.ref ++ [.ref t]))) l (qs ++ [(a, b)]) := by
  obtain ⟨ts, h1, h2⟩ := h
  have nlt : l ≠ t := ne_of_none h1 ht
  refine ⟨ts, h1, h2.len, by rw [upd_ne nlt]; exact h1, (s.put (s.free ht)).put hl, ts ++ [t], by rw [upd_same, List.map_append]; rfl, ?_⟩
  refine (h2.keep fun b' xs e => ?_).snoc ?_
  · rw [upd_ne (ne_of e h1 (by intro z; cases z)), upd_ne (ne_of_none e ht)]
    exact e
  · show _ = _
    rw [upd_ne (Ne.symm nlt), upd_same]
theorem four (x : Int) : ∃ z, atI [V.int 2, V.int 1, V.int 3, V.int 0] (x % 4) = some (.int z) := by
  have h0 : 0 ≤ x % 4 := Int.emod_nonneg _ (by decide)
  have h1 : x % 4 < 4 := Int.emod_lt_of_pos _ (by decide)
  have : x % 4 = 0 ∨ x % 4 = 1 ∨ x % 4 = 2 ∨ x % 4 = 3 := by omega
  rcases this with e | e | e | e <;> rw [e]
  · exact ⟨2, rfl⟩
  · exact ⟨1, rfl⟩
  · exact ⟨3, rfl⟩
  · exact ⟨0, rfl⟩
/-- the pairs by their new names -/
def Named (nm : List Nat) (n : Nat) (fs : List (Nat × Nat)) : Prop := ∀ p ∈ fs, ∃ a b, a < b ∧ b < n ∧ nm[a]? = some p.1 ∧ nm[b]? = some p.2
theorem idx_of {nm : List Nat} (h : nm.Nodup) {a x : Nat} (e : nm[a]? = some x) : nm.idxOf x = a := by
  obtain ⟨ha, e⟩ := List.getElem?_eq_some_iff.mp e
  subst e
  exact List.Nodup.idxOf_getElem h a ha
theorem Named.acy {nm : List Nat} {n : Nat} {fs : List (Nat × Nat)} (h : Named nm n fs) (pm : nm.Perm (List.range n)) : Acy n fs := by
  have nd : nm.Nodup := pm.nodup_iff.mpr List.nodup_range
  have lt : ∀ a x, nm[a]? = some x → x < n := fun a x e => List.mem_range.mp (pm.mem_iff.mp (List.mem_of_getElem? e))
  refine ⟨fun x => nm.idxOf x, fun p hp => ?_⟩
  obtain ⟨a, b, h1, h2, e1, e2⟩ := h p hp
  refine ⟨lt a _ e1, lt b _ e2, .inr ?_⟩
  show nm.idxOf p.1 < nm.idxOf p.2
  rw [idx_of nd e1, idx_of nd e2]
  exact h1
inductive Sp_drawn (K : PySem.W.Frag) (vs : List V) (H : Hp) (Q : VK) (E : XK) : Prop where | mk (a : Addr) (ns : List Int) (h0 : vs = [.ref a]) (h1 : SqL K H a (ns.map V.int)) (h2 : ∀ (t l : Addr) (n : Nat) (ps : List (Nat × Nat)) (H' : Hp), Same H H' → H t = none → H l = none → H' t = some (.tup [vI n, .ref l]) → PairsAt H' l ps → 1 ≤ n → n ≤ 16 → Acy n ps → ps.length ≤ 60 → Q (.ref t) H') : Sp_drawn K vs H Q E
def sp_drawn (K : PySem.W.Frag) : Sp := fun vs H Q E => Sp_drawn K vs H Q E
section
variable {P : Program} {w : World} {K : PySem.W.Frag} {mg : Str → Option Value} {base : Heap} {C : Addr}
theorem deq_pairs {H : Hp} {t u : Addr} {p q : Nat × Nat} (ht : Tup2 H t p) (hu : Tup2 H u q) : ∃ c, DEq K H 3 (.ref t) (.ref u) c := by
  by_cases e : t = u
  · subst e
    exact ⟨_, .same t⟩
  · refine ⟨_, .tup (n := 2) (e := fun j => eqV ([vI p.1, vI p.2].getD j .non) ([vI q.1, vI q.2].getD j .non)) e (SqT.of ht) (SqT.of hu) fun j x y hx hy => ?_⟩
    have hj := (List.getElem?_eq_some_iff.mp hx).1
    have hj' : j < 2 := hj
    match j, hj' with
    | 0, _ => cases hx; cases hy; exact .flat rfl rfl
    | 1, _ => cases hx; cases hy; exact .flat rfl rfl
/-! ### _law_pairs_by -/
inductive Sp_pairs_by (K : PySem.W.Frag) (vs : List V) (H : Hp) (Q : VK) (E : XK) : Prop where | mk (a : Addr) (ns : List Int) (st way : Int) (n : Nat) (h0 : vs = [.ref a, .int st, vI n, .int way]) (h1 : SqL K H a (ns.map V.int)) (h2 : 0 ≤ st) (h3 : 1 ≤ n) (h4 : n ≤ 16) (h5 : ∀ (l : Addr) (ps : List (Nat × Nat)) (H' : Hp), Same H H' → H l = none → PairsAt H' l ps → Acy n ps → ps.length ≤ 60 → Q (.ref l) H') : Sp_pairs_by K vs H Q E
def sp_pairs_by (K : PySem.W.Frag) : Sp := fun vs H Q E => Sp_pairs_by K vs H Q E
theorem sc__law_pairs_by : FnScope ["script", "start", "many", "way", "pairs", "b", "digits", "a", "names", "found"] ["script", "start", "many", "way"] (defScope s__law_pairs_by) := ⟨rfl, rfl, rfl, by decide +kernel, rfl, by decide +kernel, by decide +kernel⟩
theorem ok_pairs_by {f : Addr} {fd : FuncData} (F : Fun K "_law_pairs_by" "_law_pairs_by" s__law_pairs_by f fd) (T : Txt K mg C) (c__law_cell_at : FnG P w K mg base "_law_cell_at" 1 ["script", "k"] (sp_cell_at K)) (c__law_order_of : FnG P w K mg base "_law_order_of" 1 ["cell", "many"] sp_order_of) :
    FnOk P w K mg base CX0 2 f fd ["script", "start", "many", "way"] (sp_pairs_by K) := by
  refine F.ok sc__law_pairs_by (fun vs H Q E h => ?_) (fun cdv A outer s H vs Q E hr h => ?_)
  · obtain ⟨a, ns, st, way, n, rfl, _⟩ := h
    rfl
  · obtain ⟨a, ns, st, way, n, rfl, hS, h0, h1, h16, k⟩ := h
    have nd := sc__law_pairs_by.nd
    have hu64 := Room.units hr
    refine ⟨_, (pss_cons (ps_set (i := 4) nd rfl (Or.inl rfl) (pe_lst pa_nil))
  (pss_cons (ps_for PassesOwn.never rfl (pi_range2 rfl T.range (pa_cons pe_int (pa_cons (pv 2) pa_nil))) (pg_name (i := 5) nd rfl (Or.inl rfl)) (pss_cons (ps_set (i := 6) nd rfl (Or.inl rfl) (pe_callG c__law_cell_at (hr.mono (by decide)) rfl (pa_cons (pv 0) (pa_cons (pe_op op_add (pv 1) (pv 5)) pa_nil))))
  (pss_one (ps_for PassesOwn.never rfl (pi_range1 rfl T.range (pa_cons (pv 5) pa_nil)) (pg_name (i := 7) nd rfl (Or.inl rfl)) (pss_cons (ps_if (pt_cmpR op_lt (pe_op op_mod (pv 6) pe_int) (pe_ix ix_list (pe_lst (pa_cons pe_int (pa_cons pe_int (pa_cons pe_int (pa_cons pe_int pa_nil))))) (pe_op op_mod (pv 3) pe_int) (fun _ _ => rfl)) (nomark _)) (pss_one (ps_expr (pe_bm PySem.F.plainAttrs_list PySem.F.slot_list_append PySem.F.type_list_append mt_append (pv 4) (pa_cons (pe_tup (pa_cons (pv 7) (pa_cons (pv 5) pa_nil))) pa_nil)))) pss_nil)
  (pss_one (ps_set (i := 6) nd rfl (Or.inl rfl) (pe_op op_fdiv (pv 6) pe_int))))))))
  (pss_cons (ps_mid (ps_if (pt_cmpR op_eq (pe_op op_mod (pe_op op_fdiv (pv 3) pe_int) pe_int) pe_int (nomark _)) (pss_one (ps_set (i := 4) nd rfl (Or.inl rfl) (pe_op op_cat (pe_op op_cat (pv 4) (pe_comp [none] ["b"] (defScope s__law_pairs_by) ["script", "start", "many", "way", "pairs", "b", "digits", "a", "names", "found"] (by decide +kernel) rfl (pi_range2 rfl T.range (pa_cons pe_int (pa_cons (pv 2) pa_nil))) (fun _ _ _ _ _ _ => pg_name (i := 0) (show List.Nodup (["b"] : List Str) by decide +kernel) rfl (Or.inl rfl)) (fun _ _ _ _ _ _ => pifs_nil) (fun _ _ _ _ _ _ => pe_tup (pa_cons pe_int (pa_cons (pv 0) pa_nil))))) (pe_comp [none, some 2] ["a", "many"] (defScope s__law_pairs_by) ["script", "start", "many", "way", "pairs", "b", "digits", "a", "names", "found"] (by decide +kernel) rfl (pi_range1 rfl T.range (pa_cons (pe_op op_sub (pv 2) pe_int) pa_nil)) (fun _ _ _ _ _ _ => pg_name (i := 0) (show List.Nodup (["a", "many"] : List Str) by decide +kernel) rfl (Or.inl rfl)) (fun _ _ _ _ _ _ => pifs_nil) (fun _ _ _ _ _ _ => pe_tup (pa_cons (pv 0) (pa_cons (pe_op op_sub (pv 1) pe_int) pa_nil))))))) pss_nil))
  (pss_cons (ps_mid (ps_if (pt_cmpR op_eq (pe_op op_mod (pe_op op_fdiv (pv 3) pe_int) pe_int) pe_int (nomark _)) (pss_one (ps_comp [none] ["a"] (defScope s__law_pairs_by) ["script", "start", "many", "way", "pairs", "b", "digits", "a", "names", "found"] (by decide +kernel) rfl (pi_range1 rfl T.range (pa_cons (pe_op op_sub (pv 2) pe_int) pa_nil)) (fun _ _ _ _ _ _ => pg_name (i := 0) (show List.Nodup (["a"] : List Str) by decide +kernel) rfl (Or.inl rfl)) (fun _ _ _ _ _ _ => pifs_nil) (fun _ _ _ _ _ _ => pe_tup (pa_cons (pv 0) (pa_cons (pe_op op_add (pv 0) pe_int) pa_nil))) nd (i := 4) rfl (Or.inl rfl) rfl)) pss_nil))
  (pss_cons (ps_set (i := 8) nd rfl (Or.inl rfl) (pe_callG c__law_order_of (hr.mono (by decide)) rfl (pa_cons (pe_callG c__law_cell_at (hr.mono (by decide)) rfl (pa_cons (pv 0) (pa_cons (pv 1) pa_nil))) (pa_cons (pv 2) pa_nil))))
  (pss_cons (ps_set (i := 9) nd rfl (Or.inl rfl) (pe_lst pa_nil))
  (pss_cons (ps_for PassesOwn.never rfl (pi_list (pv 4)) (pg_tup rfl (pgs_cons (pg_name (i := 7) nd rfl (Or.inl rfl)) (pgs_cons (pg_name (i := 5) nd rfl (Or.inl rfl)) pgs_nil))) (pss_one (ps_if (PW.pt (pw_and (pt_cmpR (op_notInD hu64) (pe_tup (pa_cons (pe_ix ix_list (pv 8) (pv 7) (fun _ _ => rfl)) (pa_cons (pe_ix ix_list (pv 8) (pv 5) (fun _ _ => rfl)) pa_nil))) (pv 9) (by with_unfolding_all rfl)) (pw_and1 (pt_cmpR op_lt (pe_callB call_len_seq (by rfl) T.len PySem.boot_len (pa_cons (pv 9) pa_nil)) pe_int (nomark _))))) (pss_one (ps_expr (pe_bm PySem.F.plainAttrs_list PySem.F.slot_list_append PySem.F.type_list_append mt_append (pv 9) (pa_cons (pe_tup (pa_cons (pe_ix ix_list (pv 8) (pv 7) (fun _ _ => rfl)) (pa_cons (pe_ix ix_list (pv 8) (pv 5) (fun _ _ => rfl)) pa_nil))) pa_nil)))) pss_nil)))
  (pss_one (ps_ret (pv 9)))))))))), ?_⟩
    -- pairs = []
    refine ⟨Nat.zero_le _, fun l hl => ?_⟩
    have s0 : Same H (upd H l (.lst [])) := same_new hl
    -- for b in range(1, many)
    refine ⟨_, rfl, 1, (n : Int), rfl, ⟨by omega, by omega, by omega, by omega⟩, for_range (lo := 1) (n := ((n : Int) - 1).toNat) (fun i σ H' => ∃ qs x5 x6 x7, σ = [some (.ref a), some (.int st), some (vI n), some (.int way), some (.ref l), x5, x6, x7, none, none] ∧ Same H H' ∧ PairsAt H' l qs ∧ Up n qs ∧ qs.length ≤ 16 * i)
      ⟨[], none, none, none, rfl, s0, ⟨[], upd_same, Tups.nil⟩, fun q hq => (nomatch hq), Nat.le_refl _⟩ ?_ ?_⟩
    · rintro i σ H1 hi ⟨qs, x5, x6, x7, rfl, s1, P1, U1, L1⟩
      have hin : i + 1 < n := by omega
      -- digits
      refine ⟨_, rfl, _, rfl, _, rfl, _, _, rfl, rfl, a, ns, _, rfl, s1.seq hS, by omega, fun dg => ?_⟩
      have eb : (1 + (i : Int)) = ((i + 1 : Nat) : Int) := by omega
      refine ⟨_, rfl, ((i + 1 : Nat) : Int), by rw [eb], by omega, by omega, for_range (lo := 0) (n := i + 1) (fun j σ H' => ∃ qs dg x7, σ = [some (.ref a), some (.int st), some (vI n), some (.int way), some (.ref l), some (vI (i + 1)), some (.int dg), x7, none, none] ∧ Same H H' ∧ PairsAt H' l qs ∧ Up n qs ∧ qs.length ≤ 16 * i + j)
        ⟨qs, dg, x7, by rw [eb]; rfl, s1, P1, U1, L1⟩ ?_ ?_⟩
      · rintro j σ H2 hj ⟨qs2, dg2, y7, rfl, s2, P2, U2, L2⟩
        rw [Int.zero_add]
        obtain ⟨z, hz⟩ := four way
        -- digits % 4 < [2, 1, 3, 0][way % 4]
        refine ⟨_, rfl, _, _, rfl, rfl, by show (0 : Int) < 4; decide, by show 4 ≤ sizeLine; decide, fun p hp => ?_⟩
        have s3 : Same H (upd H2 p (.lst [.int 2, .int 1, .int 3, .int 0])) := s2.step hp
        have P3 : PairsAt (upd H2 p (.lst [.int 2, .int 1, .int 3, .int 0])) l qs2 := P2.mono (same_new hp)
        refine ⟨_, rfl, _, _, rfl, rfl, by show (0 : Int) < 4; decide, p, _, _, _, rfl, rfl, SqL.of upd_same, hz, _, _, rfl, rfl, _, rfl, ?_⟩
        refine ite2 (fun h => ?_) (fun h => ?_)
        · have P3' := P3
          obtain ⟨ts0, ht0, _⟩ := P3'
          refine ⟨_, rfl, .inl ⟨rfl, _, SqL.of ht0⟩, _, rfl, _, rfl, by show 2 ≤ sizeLine; decide, fun t ht => ?_⟩
          obtain ⟨ts, g1, g2, g3, g4, g5⟩ := P3.add (a := j) (b := i + 1) ht hl s3
          refine ⟨l, _, _, rfl, rfl, g3, ?_, ?_⟩
          · rw [List.length_map, g2]
            exact small1000 (by omega)
          · refine ⟨_, rfl, _, _, rfl, rfl, ⟨by decide, by decide⟩, qs2 ++ [(j, i + 1)], _, _, rfl, g4, g5, fun q hq => ?_, ?_⟩
            · rcases List.mem_append.mp hq with hq | hq
              · exact U2 q hq
              · have : q = (j, i + 1) := by simpa using hq
                subst this
                exact ⟨hj, hin⟩
            · rw [List.length_append, List.length_singleton]
              omega
        · refine ⟨_, rfl, _, _, rfl, rfl, ⟨by decide, by decide⟩, qs2, _, _, rfl, s3, P3, U2, by omega⟩
      · rintro σ H2 ⟨qs2, dg2, y7, rfl, s2, P2, U2, L2⟩
        exact ⟨qs2, _, _, _, rfl, s2, P2, U2, by omega⟩
    · rintro σ H1 ⟨qs, x5, x6, x7, rfl, s1, P1, U1, L1⟩
      have hn1 : ((n : Int) - 1).toNat = n - 1 := by omega
      rw [hn1] at L1
      have Lq : qs.length ≤ 300 := by omega
      -- if way // 4 % 4 == 1
      refine ⟨fun σ' H' => ∃ (l' : Addr) (qs' : List (Nat × Nat)), σ' = [some (.ref a), some (.int st), some (vI n), some (.int way), some (.ref l'), x5, x6, x7, none, none] ∧ Same H H' ∧ PairsAt H' l' qs' ∧ Up n qs' ∧ qs'.length ≤ 500, ?_, ?_⟩
      · refine ⟨_, rfl, _, _, rfl, rfl, ⟨by decide, by decide⟩, _, _, rfl, rfl, by show (0 : Int) < 4; decide, rfl, _, rfl, ?_⟩
        refine ite2 (fun h => ?_) (fun h => ?_)
        · -- pairs + [(0, b) ..] + [(a, many - 1) ..]
          refine ⟨_, rfl, _, rfl, 1, (n : Int), rfl, ⟨by omega, by omega, by omega, by omega⟩, fun p hp => ?_⟩
          refine comp_range (lo := 1) (n := ((n : Int) - 1).toNat) (fun σ => ∃ x, σ = [x]) (fun j ys H' => ∃ ts, PairAcc H1 H' p j (fun j => (0, j + 1)) ys ts) ⟨none, rfl⟩ ⟨[], PairAcc.nil⟩ (by exact small1000 (by omega)) ?_ ?_ ?_
          · rintro j ys H' _ ⟨ts, R⟩
            exact ⟨R.lst, by rw [R.len]; exact Nat.le_refl _⟩
          · rintro j σ ys H' hj ⟨x, rfl⟩ ⟨ts, R⟩
            refine ⟨_, rfl, by show 2 ≤ sizeLine; decide, fun t ht => ?_⟩
            have eb : (1 + (j : Int)) = ((j + 1 : Nat) : Int) := by omega
            obtain ⟨g1, g2⟩ := R.snoc ht (x := .int 0) (y := .int (1 + j)) rfl (by rw [eb])
            exact ⟨g1, ⟨_, rfl⟩, _, g2⟩
          · rintro ys H2 ⟨ts, R⟩
            have s2 : Same H1 H2 := R.same hp
            obtain ⟨us, hu1, hu2⟩ := P1.mono s2
            have Rp := R.pairs
            obtain ⟨vs, hv1, hv2⟩ := Rp
            refine ⟨l, p, _, _, rfl, rfl, hu1, hv1, ?_, fun r hr => ?_⟩
            · rw [List.length_map, List.length_map, hu2.len, hv2.len, List.length_map, List.length_range]
              exact Nat.le_of_lt (small1000 (by omega))
            · -- the second
              have P3 : PairsAt (upd H2 r (.lst (us.map V.ref ++ vs.map V.ref))) r (qs ++ (List.range ((n : Int) - 1).toNat).map fun j => (0, j + 1)) := ⟨us ++ vs, by rw [upd_same, List.map_append], (hu2.append hv2).mono (same_new hr)⟩
              have s3 : Same H1 (upd H2 r (.lst (us.map V.ref ++ vs.map V.ref))) := s2.step hr
              refine ⟨_, rfl, _, _, rfl, rfl, (n : Int) - 1, rfl, by omega, by omega, fun p' hp' => ?_⟩
              refine comp_range (lo := 0) (n := ((n : Int) - 1).toNat) (fun σ => ∃ x, σ = [x, some (vI n)]) (fun j ys H' => ∃ ts, PairAcc (upd H2 r (.lst (us.map V.ref ++ vs.map V.ref))) H' p' j (fun j => (j, n - 1)) ys ts) ⟨none, rfl⟩ ⟨[], PairAcc.nil⟩ (by exact small1000 (by omega)) ?_ ?_ ?_
              · rintro j ys H' _ ⟨ts, R⟩
                exact ⟨R.lst, by rw [R.len]; exact Nat.le_refl _⟩
              · rintro j σ ys H' hj ⟨x, rfl⟩ ⟨ts, R⟩
                rw [Int.zero_add]
                refine ⟨_, rfl, _, rfl, _, _, rfl, rfl, by show 2 ≤ sizeLine; decide, fun t ht => ?_⟩
                have eb : ((n : Int) - 1) = ((n - 1 : Nat) : Int) := by omega
                obtain ⟨g1, g2⟩ := R.snoc ht (x := .int j) (y := .int ((n : Int) - 1)) rfl (by rw [eb])
                exact ⟨g1, ⟨_, rfl⟩, _, g2⟩
              · rintro ys H4 ⟨ts', R'⟩
                have s4 := R'.same hp'
                obtain ⟨us', hu1', hu2'⟩ := P3.mono s4
                obtain ⟨vs', hv1', hv2'⟩ := R'.pairs
                refine ⟨r, p', _, _, rfl, rfl, hu1', hv1', ?_, fun r' hr' => ?_⟩
                · rw [List.length_map, List.length_map, hu2'.len, hv2'.len, List.length_append, List.length_map, List.length_map, List.length_range]
                  exact Nat.le_of_lt (small1000 (by omega))
                · refine ⟨r', _, rfl, ((s1.trans s3).trans s4).step hr', ⟨us' ++ vs', by rw [upd_same, List.map_append], (hu2'.append hv2').mono (same_new hr')⟩, fun q hq => ?_, ?_⟩
                  · rcases List.mem_append.mp hq with hq | hq
                    · rcases List.mem_append.mp hq with hq | hq
                      · exact U1 q hq
                      · obtain ⟨j, hj, rfl⟩ := List.mem_map.mp hq
                        have := List.mem_range.mp hj
                        exact ⟨by show 0 < j + 1; omega, by show j + 1 < n; omega⟩
                    · obtain ⟨j, hj, rfl⟩ := List.mem_map.mp hq
                      have := List.mem_range.mp hj
                      exact ⟨by show j < n - 1; omega, by show n - 1 < n; omega⟩
                  · rw [List.length_append, List.length_append, List.length_map, List.length_map, List.length_range]
                    omega
        · exact ⟨l, qs, rfl, s1, P1, U1, by omega⟩
      · rintro σ H2 ⟨l2, qs2, rfl, s2, P2, U2, L2⟩
        -- if way // 16 % 8 == 1
        refine ⟨fun σ' H' => ∃ (l' : Addr) (qs' : List (Nat × Nat)), σ' = [some (.ref a), some (.int st), some (vI n), some (.int way), some (.ref l'), x5, x6, x7, none, none] ∧ Same H H' ∧ PairsAt H' l' qs' ∧ Up n qs' ∧ qs'.length ≤ 500, ?_, ?_⟩
        · refine ⟨_, rfl, _, _, rfl, rfl, ⟨by decide, by decide⟩, _, _, rfl, rfl, by show (0 : Int) < 8; decide, rfl, _, rfl, ?_⟩
          refine ite2 (fun h => ?_) (fun h => ?_)
          · refine ⟨_, rfl, _, _, rfl, rfl, (n : Int) - 1, rfl, by omega, by omega, fun p hp => ?_⟩
            refine comp_range (lo := 0) (n := ((n : Int) - 1).toNat) (fun σ => ∃ x, σ = [x]) (fun j ys H' => ∃ ts, PairAcc H2 H' p j (fun j => (j, j + 1)) ys ts) ⟨none, rfl⟩ ⟨[], PairAcc.nil⟩ (by exact small1000 (by omega)) ?_ ?_ ?_
            · rintro j ys H' _ ⟨ts, R⟩
              exact ⟨R.lst, by rw [R.len]; exact Nat.le_refl _⟩
            · rintro j σ ys H' hj ⟨x, rfl⟩ ⟨ts, R⟩
              rw [Int.zero_add]
              refine ⟨_, rfl, _, rfl, _, _, rfl, rfl, by show 2 ≤ sizeLine; decide, fun t ht => ?_⟩
              obtain ⟨g1, g2⟩ := R.snoc ht (x := .int j) (y := .int ((j : Int) + 1)) rfl rfl
              exact ⟨g1, ⟨_, rfl⟩, _, g2⟩
            · rintro ys H3 ⟨ts, R⟩
              refine ⟨p, _, rfl, s2.trans (R.same hp), R.pairs, fun q hq => ?_, ?_⟩
              · obtain ⟨j, hj, rfl⟩ := List.mem_map.mp hq
                have := List.mem_range.mp hj
                exact ⟨by show j < j + 1; omega, by show j + 1 < n; omega⟩
              · rw [List.length_map, List.length_range]
                omega
          · exact ⟨l2, qs2, rfl, s2, P2, U2, L2⟩
        · rintro σ H3 ⟨l3, qs3, rfl, s3, P3, U3, L3⟩
          -- names = ..
          refine ⟨_, rfl, _, rfl, a, ns, st, rfl, s3.seq hS, h0, fun c => ⟨_, rfl, c, n, rfl, h16, fun nl nm H4 s4 hnl hnm pm => ?_⟩⟩
          -- found = []
          refine ⟨Nat.zero_le _, fun fl hfl => ?_⟩
          have s5 : Same H3 (upd H4 fl (.lst [])) := s4.step hfl
          have hf0 : H3 fl = none := s4.free hfl
          obtain ⟨ts, ht1, ht2⟩ := P3
          have hnm5 : (upd H4 fl (.lst [])) nl = some (.lst (nm.map vI)) := by rw [upd_ne (ne_of_none hnm hfl)]; exact hnm
          have nlen : nm.length = n := by rw [pm.length_eq, List.length_range]
          refine ⟨_, rfl, l3, rfl, ⟨_, SqL.of (s5 _ _ ht1)⟩, for_list (K := K) (a := l3) (xs := ts.map V.ref) (fun i σ H' => ∃ fs y5 y7, σ = [some (.ref a), some (.int st), some (vI n), some (.int way), some (.ref l3), y5, x6, y7, some (.ref nl), some (.ref fl)] ∧ Same H3 H' ∧ H' nl = some (.lst (nm.map vI)) ∧ PairsAt H' fl fs ∧ Named nm n fs ∧ fs.length ≤ 60)
            ⟨[], _, _, rfl, s5, hnm5, ⟨[], upd_same, Tups.nil⟩, fun q hq => (nomatch hq), Nat.zero_le _⟩ (fun i σ H' _ ⟨_, _, _, _, sm, _⟩ => SqL.of (sm _ _ ht1)) ?_ ?_⟩
          · rintro i y σ H6 hi ⟨fs, y5, y7, rfl, s6, hnm6, P6, N6, L6⟩
            obtain ⟨t, p, rfl, e1, e2, ht⟩ := (ht2.mono s6).get hi
            obtain ⟨hp1, hp2⟩ := U3 p (List.mem_of_getElem? e2)
            refine ⟨t, _, rfl, SqT.of ht, rfl, _, _, rfl, _, _, rfl, rfl, ?_⟩
            have g1 : (nm.map vI)[p.1]? = some (vI (nm[p.1]'(by omega))) := by rw [List.getElem?_map, List.getElem?_eq_getElem (by omega)]; rfl
            have g2 : (nm.map vI)[p.2]? = some (vI (nm[p.2]'(by omega))) := by rw [List.getElem?_map, List.getElem?_eq_getElem (by omega)]; rfl
            -- (names[a], names[b]) not in found
            refine ⟨_, rfl, _, rfl, nl, _, _, _, rfl, rfl, SqL.of hnm6, atI_nat g1, _, rfl, _, rfl, nl, _, _, _, rfl, rfl, SqL.of hnm6, atI_nat g2, by show 2 ≤ sizeLine; decide, fun q hq => ?_⟩
            have s7 : Same H6 (upd H6 q (.tup [vI (nm[p.1]'(by omega)), vI (nm[p.2]'(by omega))])) := same_new hq
            obtain ⟨us, hu1, hu2⟩ := P6.mono s7
            have dq : ∀ z, ∃ c, z ∈ us.map V.ref → DEq K (upd H6 q (.tup [vI (nm[p.1]'(by omega)), vI (nm[p.2]'(by omega))])) 3 z (.ref q) c := fun z => by
              by_cases hz : z ∈ us.map V.ref
              · obtain ⟨u, hu, rfl⟩ := List.mem_map.mp hz
                obtain ⟨x, hx, e⟩ := List.mem_iff_getElem.mp hu
                have hx' : x < fs.length := hu2.len ▸ hx
                have := hu2.at_ x u _ (by rw [List.getElem?_eq_getElem hx, e]) (List.getElem?_eq_getElem hx')
                obtain ⟨c, hc⟩ := deq_pairs (K := K) this (p := fs[x]) (q := (nm[p.1]'(by omega), nm[p.2]'(by omega))) (u := q) upd_same
                exact ⟨c, fun _ => hc⟩
              · exact ⟨true, fun h => absurd h hz⟩
            refine ⟨_, rfl, fl, _, fun z => Classical.choose (dq z), rfl, SqL.of hu1, fun z hz => Classical.choose_spec (dq z) hz, _, rfl, ?_⟩
            have stay : ∃ fs' y5' y7', [some (V.ref a), some (V.int st), some (vI n), some (V.int way), some (V.ref l3), some (vI p.2), x6, some (vI p.1), some (V.ref nl), some (V.ref fl)] = [some (V.ref a), some (V.int st), some (vI n), some (V.int way), some (V.ref l3), y5', x6, y7', some (V.ref nl), some (V.ref fl)] ∧ Same H3 (upd H6 q (.tup [vI (nm[p.1]'(by omega)), vI (nm[p.2]'(by omega))])) ∧ (upd H6 q (.tup [vI (nm[p.1]'(by omega)), vI (nm[p.2]'(by omega))])) nl = some (.lst (nm.map vI)) ∧ PairsAt (upd H6 q (.tup [vI (nm[p.1]'(by omega)), vI (nm[p.2]'(by omega))])) fl fs' ∧ Named nm n fs' ∧ fs'.length ≤ 60 :=
              ⟨fs, _, _, rfl, s6.step hq, s7 _ _ hnm6, P6.mono s7, N6, L6⟩
            refine ite2 (fun h => ?_) (fun h => ?_)
            · refine ⟨_, rfl, fl, _, rfl, .inl (SqL.of hu1), _, _, rfl, rfl, _, rfl, ?_⟩
              refine ite2 (fun h' => ?_) (fun h' => ?_)
              · have hlt : fs.length < 60 := by
                  have h2 : ((us.map V.ref).length : Int) < 60 := by simpa using h'
                  rw [List.length_map, hu2.len] at h2
                  omega
                refine ⟨_, rfl, .inl ⟨rfl, _, SqL.of hu1⟩, _, rfl, _, rfl, nl, _, _, _, rfl, rfl, SqL.of (s7 _ _ hnm6), atI_nat g1, _, rfl, _, rfl, nl, _, _, _, rfl, rfl, SqL.of (s7 _ _ hnm6), atI_nat g2, by show 2 ≤ sizeLine; decide, fun q' hq' => ?_⟩
                obtain ⟨vs, a1, a2, a3, a4, a5⟩ := PairsAt.add (H := H3) (a := nm[p.1]'(by omega)) (b := nm[p.2]'(by omega)) (P6.mono s7) hq' hf0 (s6.step hq)
                refine ⟨fl, _, _, rfl, rfl, a3, ?_, fs ++ [(nm[p.1]'(by omega), nm[p.2]'(by omega))], _, _, rfl, a4, ?_, a5, fun r hr => ?_, ?_⟩
                · rw [List.length_map, a2]
                  exact small1000 (by omega)
                · have b1 := s7 _ _ hnm6
                  have nfl : nl ≠ fl := by
                    intro z
                    rw [z] at hnm
                    rw [hfl] at hnm
                    cases hnm
                  rw [upd_ne nfl, upd_ne (ne_of_none b1 hq')]
                  exact b1
                · rcases List.mem_append.mp hr with hr | hr
                  · exact N6 r hr
                  · have : r = (nm[p.1]'(by omega), nm[p.2]'(by omega)) := by simpa using hr
                    subst this
                    exact ⟨p.1, p.2, hp1, hp2, List.getElem?_eq_getElem (by omega), List.getElem?_eq_getElem (by omega)⟩
                · rw [List.length_append, List.length_singleton]
                  omega
              · exact stay
            · exact stay
          · rintro σ H6 ⟨fs, y5, y7, rfl, s6, hnm6, P6, N6, L6⟩
            exact ⟨_, rfl, k fl fs H6 (s3.trans s6) (s3.free hf0) P6 (N6.acy pm) L6⟩
/-! ### _law_drawn -/
theorem sc__law_drawn : FnScope ["script", "head", "many"] ["script"] (defScope s__law_drawn) := ⟨rfl, rfl, rfl, by decide +kernel, rfl, by decide +kernel, by decide +kernel⟩
theorem ok_drawn {f : Addr} {fd : FuncData} (F : Fun K "_law_drawn" "_law_drawn" s__law_drawn f fd) (T : Txt K mg C) (c__law_cell_at : FnG P w K mg base "_law_cell_at" 1 ["script", "k"] (sp_cell_at K)) (c__law_pairs_by : FnG P w K mg base "_law_pairs_by" 2 ["script", "start", "many", "way"] (sp_pairs_by K)) :
    FnOk P w K mg base CX0 3 f fd ["script"] (sp_drawn K) := by
  refine F.ok sc__law_drawn (fun vs H Q E h => ?_) (fun cdv A outer s H vs Q E hr h => ?_)
  · obtain ⟨a, ns, rfl, _⟩ := h
    rfl
  · obtain ⟨a, ns, rfl, hS, k⟩ := h
    have nd := sc__law_drawn.nd
    refine ⟨_, (pss_cons (ps_set (i := 1) nd rfl (Or.inl rfl) (pe_callG c__law_cell_at (hr.mono (by decide)) rfl (pa_cons (pv 0) (pa_cons pe_int pa_nil))))
  (pss_cons (ps_set (i := 2) nd rfl (Or.inl rfl) (pe_op op_add pe_int (pe_op op_mod (pv 1) pe_int)))
  (pss_cons (ps_mid (ps_if (pt_cmpR op_eq (pe_op op_mod (pe_op op_fdiv (pv 1) pe_int) pe_int) pe_int (nomark _)) (pss_one (ps_set (i := 2) nd rfl (Or.inl rfl) (pe_op op_add pe_int (pe_op op_mod (pe_op op_fdiv (pv 1) pe_int) pe_int)))) pss_nil))
  (pss_one (ps_ret (pe_tup (pa_cons (pv 2) (pa_cons (pe_callG c__law_pairs_by (hr.mono (by decide)) rfl (pa_cons (pv 0) (pa_cons pe_int (pa_cons (pv 2) (pa_cons (pe_callG c__law_cell_at (hr.mono (by decide)) rfl (pa_cons (pv 0) (pa_cons pe_int pa_nil))) pa_nil))))) pa_nil)))))))), ?_⟩
    refine ⟨_, rfl, a, ns, 0, rfl, hS, by omega, fun hd => ?_⟩
    refine ⟨_, rfl, _, _, rfl, rfl, by show (0 : Int) < 7; decide, _, _, rfl, rfl, ?_⟩
    refine ⟨fun σ' H' => H' = H ∧ ∃ n : Nat, 1 ≤ n ∧ n ≤ 16 ∧ σ' = [some (.ref a), some (.int hd), some (vI n)], ?_, ?_⟩
    · refine ⟨_, rfl, _, _, rfl, rfl, ⟨by decide, by decide⟩, _, _, rfl, rfl, by show (0 : Int) < 8; decide, rfl, _, rfl, ?_⟩
      refine ite2 (fun h => ?_) (fun h => ?_)
      · refine ⟨_, rfl, _, _, rfl, rfl, ⟨by decide, by decide⟩, _, _, rfl, rfl, by show (0 : Int) < 9; decide, _, _, rfl, rfl, rfl, ?_⟩
        have h0 : 0 ≤ hd / 56 % 9 := Int.emod_nonneg _ (by decide)
        have h9 : hd / 56 % 9 < 9 := Int.emod_lt_of_pos _ (by decide)
        obtain ⟨j, hj⟩ := Int.eq_ofNat_of_zero_le h0
        refine ⟨8 + j, by omega, by omega, ?_⟩
        show [_, _, some (V.int (8 + hd / 56 % 9))] = _
        rw [hj]
        rfl
      · have h0 : 0 ≤ hd % 7 := Int.emod_nonneg _ (by decide)
        have h7 : hd % 7 < 7 := Int.emod_lt_of_pos _ (by decide)
        obtain ⟨j, hj⟩ := Int.eq_ofNat_of_zero_le h0
        refine ⟨rfl, 1 + j, by omega, by omega, ?_⟩
        show [_, _, some (V.int (1 + hd % 7))] = _
        rw [hj]
        rfl
    · rintro σ H' ⟨rfl, n, h1, h16, rfl⟩
      refine ⟨_, rfl, _, rfl, _, rfl, _, rfl, a, ns, 1, rfl, hS, by omega, fun way => ?_⟩
      refine ⟨a, ns, 4, way, n, rfl, hS, by omega, h1, h16, fun l ps H1 s1 hl P1 acy L1 => ?_⟩
      refine ⟨by show 2 ≤ sizeLine; decide, fun t ht => ?_⟩
      exact k t l n ps _ (s1.step ht) (s1.free ht) hl upd_same (P1.mono (same_new ht)) h1 h16 acy L1
end
end MJ
namespace MJ
open PySem L2
theorem keysV_list (k : List Nat) : ((keysV k).map fun kv => kV kv.1) = k.map vI := by
  rw [List.map_map]
  rfl
theorem AbvAt.at_ {H : Hp} {l : Addr} {ks : List (List Nat)} {ds : List Addr} (A : AbvAt H l ks ds) {a : Nat} (ha : a < ks.length) : ∃ d k, ds[a]? = some d ∧ ks[a]? = some k ∧ (ds.map V.ref)[a]? = some (.ref d) ∧ H d = some (.dK (keysV k)) := by
  have h := A.len.symm ▸ ha
  exact ⟨ds[a], ks[a], List.getElem?_eq_getElem h, List.getElem?_eq_getElem ha, map_at h, A.dic a _ _ (List.getElem?_eq_getElem h) (List.getElem?_eq_getElem ha)⟩
theorem AbvAt.add {H : Hp} {l d : Addr} {ks : List (List Nat)} {ds : List Addr} (A : AbvAt H l ks ds) {a c : Nat} {k : List Nat} (hd : ds[a]? = some d) (hk : ks[a]? = some k) (hc : c ∉ k) :
    AbvAt (upd H d (.dK (putK (keysV k) (Sum.inl (c : Int) : Key) (V.bl true)))) l (ks.set a (k ++ [c])) ds := by
  have hm : d ∈ ds := List.mem_of_getElem? hd
  refine ⟨?_, by rw [List.length_set]; exact A.len, A.nd, A.nl, fun x d' k' e1 e2 => ?_⟩
  · rw [upd_ne (fun q : l = d => A.nl (q ▸ hm))]
    exact A.lst
  · by_cases q : d' = d
    · subst q
      have : x = a := nodup_at A.nd e1 hd
      subst this
      have hx : x < ks.length := (List.getElem?_eq_some_iff.mp hk).1
      rw [List.getElem?_set_self hx] at e2
      rw [upd_same, keysV_put hc, Option.some.inj e2]
    · have : x ≠ a := fun z => q (by rw [z, hd] at e1; exact (Option.some.inj e1).symm)
      rw [List.getElem?_set_ne (Ne.symm this)] at e2
      rw [upd_ne q]
      exact A.dic x d' k' e1 e2
/-- the dicts made so far -/
structure Abv0 (H H' : Hp) (q : Addr) (i : Nat) (ys : List V) (ds : List Addr) : Prop where
  bt : But q H H'
  lst : H' q = some (.lst ys)
  ys : ys = ds.map V.ref
  len : ds.length = i
  nd : ds.Nodup
  fr : ∀ x ∈ ds, H x = none
  dic : ∀ (a : Nat) (d : Addr), ds[a]? = some d → H' d = some (.dK (keysV [a]))
theorem Abv0.nq {H H' : Hp} {q : Addr} {i : Nat} {ys : List V} {ds : List Addr} (R : Abv0 H H' q i ys ds) : q ∉ ds := fun h => by
  obtain ⟨a, ha, e⟩ := List.mem_iff_getElem.mp h
  have := R.dic a q (by rw [List.getElem?_eq_getElem ha, e])
  rw [R.lst] at this
  cases this
theorem Abv0.snoc {H H' : Hp} {q d : Addr} {i : Nat} {ys : List V} {ds : List Addr} (R : Abv0 H H' q i ys ds) (hq : H q = none) (hd : H' d = none) :
    Abv0 H (upd (upd (upd H' d (.dK [])) d (.dK (keysV [i]))) q (.lst (ys ++ [.ref d]))) q (i + 1) (ys ++ [.ref d]) (ds ++ [d]) := by
  have nqd : q ≠ d := ne_of_none R.lst hd
  have nds : d ∉ ds := fun h => by
    obtain ⟨a, ha, e⟩ := List.mem_iff_getElem.mp h
    have := R.dic a d (by rw [List.getElem?_eq_getElem ha, e])
    rw [hd] at this
    cases this
  rw [upd_upd]
  refine ⟨fun b o n e => ?_, upd_same, by rw [R.ys, List.map_append]; rfl, by simp [R.len], ?_, fun x hx => ?_, fun a d' e => ?_⟩
  · rw [upd_ne n, upd_ne (ne_of_none (R.bt b o n e) hd)]
    exact R.bt b o n e
  · rw [List.nodup_append]
    refine ⟨R.nd, by simp, fun x hx y hy z => ?_⟩
    have : y = d := by simpa using hy
    exact nds (this ▸ z ▸ hx)
  · rcases List.mem_append.mp hx with h | h
    · exact R.fr x h
    · have : x = d := by simpa using h
      rw [this]
      cases e : H d with
      | none => rfl
      | some o =>
        have := R.bt d o (Ne.symm nqd) e
        rw [hd] at this
        cases this
  · by_cases ha : a < ds.length
    · rw [List.getElem?_append_left ha] at e
      have hm := List.mem_of_getElem? e
      rw [upd_ne (fun z : d' = q => R.nq (z ▸ hm)), upd_ne (fun z : d' = d => nds (z ▸ hm))]
      exact R.dic a d' e
    · rw [List.getElem?_append_right (by omega)] at e
      cases hk : a - ds.length with
      | zero =>
        rw [hk] at e
        have e2 : d = d' := by simpa using e
        have e3 : a = i := by have := R.len; omega
        subst e2; subst e3
        rw [upd_ne (Ne.symm nqd), upd_same]
      | succ k => rw [hk] at e; simp at e
theorem Abv0.abv {H H' : Hp} {q : Addr} {n : Nat} {ys : List V} {ds : List Addr} (R : Abv0 H H' q n ys ds) : AbvAt H' q ((List.range n).map fun a => [a]) ds := by
  refine ⟨by rw [R.lst, R.ys], by rw [R.len]; simp, R.nd, R.nq, fun a d k e1 e2 => ?_⟩
  rw [List.getElem?_map] at e2
  cases e : (List.range n)[a]? with
  | none => rw [e] at e2; cases e2
  | some b =>
    rw [e] at e2
    have hb : a = b := by
      obtain ⟨_, z⟩ := List.getElem?_eq_some_iff.mp e
      simpa using z
    subst hb
    rw [← Option.some.inj e2]
    exact R.dic a d e1
/-- the pairs before place i have been seen to be closed -/
def ClosedTo (ps : List (Nat × Nat)) (ks : List (List Nat)) (i : Nat) : Prop := ∀ (j : Nat) (p : Nat × Nat), j < i → ps[j]? = some p → ∀ ka kb, ks[p.1]? = some ka → ks[p.2]? = some kb → ∀ c ∈ kb, c ∈ ka
section
variable {P : Program} {w : World} {K : PySem.W.Frag} {mg : Str → Option Value} {base : Heap} {C : Addr}
/-! ### _law_under -/
inductive Sp_under (vs : List V) (H : Hp) (Q : VK) (E : XK) : Prop where | mk (n : Nat) (l : Addr) (ps : List (Nat × Nat)) (h0 : vs = [vI n, .ref l]) (h1 : PairsAt H l ps) (h2 : n ≤ 16) (h3 : (∀ p ∈ ps, p.1 < n ∧ p.2 < n)) (h4 : ∀ (r : Addr) (ks : List (List Nat)) (ds : List Addr) (H' : Hp), Same H H' → H r = none → AbvAt H' r ks ds → Und n ps ks → Closed ps ks → Q (.ref r) H') : Sp_under  vs H Q E
def sp_under : Sp := fun vs H Q E => Sp_under  vs H Q E
/-- between two turns of the pass -/
structure Pass (H H' : Hp) (r : Addr) (ds : List Addr) (n : Nat) (ps : List (Nat × Nat)) (ks0 ks : List (List Nat)) (b : Bool) : Prop where
  sm : Same H H'
  ab : AbvAt H' r ks ds
  un : Und n ps ks
  le : total ks0 ≤ total ks
  up : b = true → total ks0 < total ks
  eq : b = false → ks = ks0
theorem sc__law_under : FnScope ["many", "pairs", "above", "turning", "a", "b", "c"] ["many", "pairs"] (defScope s__law_under) := ⟨rfl, rfl, rfl, by decide +kernel, rfl, by decide +kernel, by decide +kernel⟩
theorem ok_under {f : Addr} {fd : FuncData} (F : Fun K "_law_under" "_law_under" s__law_under f fd) (T : Txt K mg C) : FnOk P w K mg base CX0 1 f fd ["many", "pairs"] sp_under := by
  refine F.ok sc__law_under (fun vs H Q E h => ?_) (fun cdv A outer s H vs Q E hr h => ?_)
  · obtain ⟨n, l, ps, rfl, _⟩ := h
    rfl
  · obtain ⟨n, l, ps, rfl, ⟨ts, hl, hT⟩, h16, hps, k⟩ := h
    have nd := sc__law_under.nd
    have hu := hu_of hr
    refine ⟨_, (pss_cons (ps_comp [none] ["thing"] (defScope s__law_under) ["many", "pairs", "above", "turning", "a", "b", "c"] (by decide +kernel) rfl (pi_range1 rfl T.range (pa_cons (pv 0) pa_nil)) (fun _ _ _ _ _ _ => pg_name (i := 0) (show List.Nodup (["thing"] : List Str) by decide +kernel) rfl (Or.inl rfl)) (fun _ _ _ _ _ _ => pifs_nil) (fun _ _ _ _ _ _ => pe_disp (pps_cons (pv 0) pe_bl pps_nil) rfl rfl (by simp) (by decide)) nd (i := 2) rfl (Or.inl rfl) rfl)
  (pss_cons (ps_set (i := 3) nd rfl (Or.inl rfl) pe_bl)
  (pss_cons (ps_while PassesOwn.never (pt_val (pv 3)) (pss_cons (ps_set (i := 3) nd rfl (Or.inl rfl) pe_bl)
  (pss_one (ps_for PassesOwn.never rfl (pi_list (pv 1)) (pg_tup rfl (pgs_cons (pg_name (i := 4) nd rfl (Or.inl rfl)) (pgs_cons (pg_name (i := 5) nd rfl (Or.inl rfl)) pgs_nil))) (pss_one (ps_for PassesOwn.never rfl (pi_list (pe_callTy (call_list_dict rfl) (by rfl) T.list bt_list (pa_cons (pe_ix ix_list (pv 2) (pv 5) (fun _ _ => rfl)) pa_nil))) (pg_name (i := 6) nd rfl (Or.inl rfl)) (pss_one (ps_if (pt_cmp (pc_dnotin hu (pv 6) (pe_ix ix_list (pv 2) (pv 4) (fun _ _ => rfl)))) (pss_cons (ps_dput hu (pe_ix ix_list (pv 2) (pv 4) (fun _ _ => rfl)) (pv 6) pe_bl rfl)
  (pss_one (ps_set (i := 3) nd rfl (Or.inl rfl) pe_bl))) pss_nil))))))))
  (pss_one (ps_ret (pv 2)))))), ?_⟩
    refine ⟨_, rfl, (n : Int), rfl, by omega, by omega, fun r hr0 => ?_⟩
    refine comp_range (lo := 0) (n := n) (fun σ => ∃ x, σ = [x]) (fun j ys H' => ∃ ds, Abv0 H H' r j ys ds) ⟨none, rfl⟩ ⟨[], (But.refl r H).put _, upd_same, rfl, rfl, List.nodup_nil, by simp, fun a d e => by simp at e⟩ (by exact small1000 (by omega)) ?_ ?_ ?_
    · rintro j ys H' _ ⟨ds, R⟩
      exact ⟨R.lst, by rw [R.ys, List.length_map, R.len]; exact Nat.le_refl _⟩
    · rintro j σ ys H' hj ⟨x, rfl⟩ ⟨ds, R⟩
      rw [Int.zero_add]
      intro d hd
      refine ⟨_, rfl, upd_same, [(Sum.inl (j : Int), .bl true)], rfl, by show 1 ≤ 15; decide, ?_, ⟨_, rfl⟩, ds ++ [d], R.snoc hr0 hd⟩
      rw [upd_upd, upd_ne (ne_of_none R.lst hd)]
      exact R.lst
    · rintro ys H1 ⟨ds, R⟩
      have s1 : Same H H1 := fun b o e => R.bt b o (ne_of_none e hr0) e
      -- turning = True; while turning
      refine ⟨fun m σ H' => ∃ ks b x4 x5 x6, σ = [some (vI n), some (.ref l), some (.ref r), some (.bl b), x4, x5, x6] ∧ Same H H' ∧ AbvAt H' r ks ds ∧ Und n ps ks ∧ (b = false → Closed ps ks) ∧ m = n * n - total ks + (if b = true then 1 else 0),
        ⟨_, _, true, none, none, none, rfl, s1, R.abv, Und.start n ps, (fun z => by cases z), rfl⟩, ?_⟩
      rintro m σ H2 ⟨ks, b, x4, x5, x6, rfl, s2, A2, U2, C2, rfl⟩
      refine ⟨_, rfl, b, rfl, ?_⟩
      refine ite2 (fun hb => ?_) (fun hb => ?_)
      · subst hb
        refine ⟨fun σ' H' => ∃ m', m' < n * n - total ks + 1 ∧ ∃ ks b x4 x5 x6, σ' = [some (vI n), some (.ref l), some (.ref r), some (.bl b), x4, x5, x6] ∧ Same H H' ∧ AbvAt H' r ks ds ∧ Und n ps ks ∧ (b = false → Closed ps ks) ∧ m' = n * n - total ks + (if b = true then 1 else 0), fun σ' H' z => z, ?_⟩
        -- for a, b in pairs
        refine ⟨_, rfl, l, rfl, ⟨_, SqL.of (s2 _ _ hl)⟩, for_list (K := K) (a := l) (xs := ts.map V.ref) (fun i σ H' => ∃ ks' b x4 x5 x6, σ = [some (vI n), some (.ref l), some (.ref r), some (.bl b), x4, x5, x6] ∧ Pass H H' r ds n ps ks ks' b ∧ (b = false → ClosedTo ps ks i))
          ⟨ks, false, x4, x5, x6, rfl, ⟨s2, A2, U2, Nat.le_refl _, (fun z => by cases z), fun _ => rfl⟩, fun _ j p hj => absurd hj (Nat.not_lt_zero _)⟩ (fun i σ H' _ ⟨_, _, _, _, _, _, pa, _⟩ => SqL.of (pa.sm _ _ hl)) ?_ ?_⟩
        · rintro i y σ H3 hi ⟨ks3, b3, y4, y5, y6, rfl, P3, C3⟩
          obtain ⟨t, p, rfl, e1, e2, ht⟩ := (hT.mono P3.sm).get hi
          have hpm := List.mem_of_getElem? e2
          obtain ⟨hp1, hp2⟩ := hps p hpm
          refine ⟨t, _, rfl, SqT.of ht, rfl, _, _, rfl, _, _, rfl, rfl, ?_⟩
          obtain ⟨db, kb, db1, kb1, mb, hdb⟩ := P3.ab.at_ (a := p.2) (by rw [P3.un.len]; exact hp2)
          refine ⟨_, rfl, _, rfl, r, _, _, _, rfl, rfl, SqL.of P3.ab.lst, atI_nat mb, db, _, rfl, hdb, fun cl hcl => ?_⟩
          rw [keysV_list]
          have s4 : Same H3 (upd H3 cl (.lst (kb.map vI))) := same_new hcl
          have ub := U2
          refine ⟨cl, rfl, ⟨_, SqL.of upd_same⟩, for_list (K := K) (a := cl) (xs := kb.map vI) (fun j σ H' => ∃ ks' b x6, σ = [some (vI n), some (.ref l), some (.ref r), some (.bl b), some (vI p.1), some (vI p.2), x6] ∧ Pass H H' r ds n ps ks ks' b ∧ H' cl = some (.lst (kb.map vI)) ∧
              (b = false → ks3 = ks ∧ ClosedTo ps ks i ∧ ∀ (j' : Nat) c, j' < j → kb[j']? = some c → ∀ ka, ks[p.1]? = some ka → c ∈ ka))
            ⟨ks3, b3, y6, rfl, ⟨P3.sm.trans s4, P3.ab.mono s4, P3.un, P3.le, P3.up, P3.eq⟩, upd_same, fun z => ⟨P3.eq z, C3 z, fun j' c hj => absurd hj (Nat.not_lt_zero _)⟩⟩ (fun j σ H' _ ⟨_, _, _, _, _, hc, _⟩ => SqL.of hc) ?_ ?_⟩
          · rintro j y σ H5 hj ⟨ks5, b5, z6, rfl, P5, hc5, C5⟩
            rw [List.getElem?_map] at hj
            cases ec : kb[j]? with
            | none => rw [ec] at hj; cases hj
            | some c =>
              rw [ec] at hj
              have ey : y = vI c := (Option.some.inj hj).symm
              subst ey
              obtain ⟨hcn, hcr⟩ := (P3.un.ok p.2 kb kb1).2.1 c (List.mem_of_getElem? ec)
              obtain ⟨da, ka, da1, ka1, ma, hda⟩ := P5.ab.at_ (a := p.1) (by rw [P5.un.len]; exact hp1)
              refine ⟨_, rfl, _, rfl, _, rfl, r, _, _, _, rfl, rfl, SqL.of P5.ab.lst, atI_nat ma, da, _, rfl, DGet.k (k := Sum.inl (c : Int)) hda, _, rfl, ?_⟩
              rw [keysV_get]
              refine ite2 (fun h => ?_) (fun h => ?_)
              · have hn : c ∉ ka := by simpa using h
                have hlen : (keysV ka).length ≤ 16 := by
                  have := P5.un.ok p.1 ka ka1
                  rw [List.length_map]
                  exact Nat.le_trans (nodup_le this.1 fun x hx => (this.2.1 x hx).1) h16
                refine ⟨_, rfl, _, rfl, r, _, _, _, rfl, rfl, SqL.of P5.ab.lst, atI_nat ma, _, rfl, da, _, rfl, DPut.k (k := Sum.inl (c : Int)) hda (small1000 (by omega)), ?_⟩
                have hfr : H da = none := R.fr da (List.mem_of_getElem? da1)
                refine ⟨_, true, _, rfl, ⟨P5.sm.put hfr, P5.ab.add da1 ka1 hn, P5.un.add hpm ka1 hcn hcr hn, ?_, fun _ => ?_, fun z => by cases z⟩, ?_, fun z => by cases z⟩
                · rw [total_set ka1]
                  have := P5.le
                  omega
                · rw [total_set ka1]
                  have := P5.le
                  omega
                · rw [upd_ne (ne_of hc5 hda (by intro z; cases z))]
                  exact hc5
              · have hin : c ∈ ka := by simpa using h
                refine ⟨ks5, b5, _, rfl, P5, hc5, fun z => ?_⟩
                obtain ⟨q1, q2, q3⟩ := C5 z
                refine ⟨q1, q2, fun j' c' hj' ec' ka' hka' => ?_⟩
                by_cases e : j' = j
                · subst e
                  rw [ec] at ec'
                  cases ec'
                  have e5 := P5.eq z
                  rw [e5, hka'] at ka1
                  cases ka1
                  exact hin
                · exact q3 j' c' (by omega) ec' ka' hka'
          · rintro σ H5 ⟨ks5, b5, z6, rfl, P5, hc5, C5⟩
            refine ⟨ks5, b5, _, _, _, rfl, P5, fun z => ?_⟩
            obtain ⟨q1, q2, q3⟩ := C5 z
            intro j' p' hj' ep' ka kb' hka hkb c hc
            by_cases e : j' = i
            · subst e
              rw [e2] at ep'
              cases ep'
              rw [q1, hkb] at kb1
              cases kb1
              obtain ⟨x, hx, ex⟩ := List.mem_iff_getElem.mp hc
              refine q3 x c ?_ (by rw [List.getElem?_eq_getElem hx, ex]) ka hka
              rw [List.length_map]
              exact hx
            · exact q2 j' p' (by omega) ep' ka kb' hka hkb c hc
        · rintro σ H3 ⟨ks3, b3, y4, y5, y6, rfl, P3, C3⟩
          have t1 := P3.un.total
          have t2 := P3.le
          refine ⟨_, ?_, ks3, b3, y4, y5, y6, rfl, P3.sm, P3.ab, P3.un, fun z => ?_, rfl⟩
          · cases b3 with
            | true =>
              have := P3.up rfl
              simp only [if_true]
              omega
            | false =>
              have := P3.eq rfl
              rw [this]
              simp
          · have e := P3.eq z
            have cl := C3 z
            rw [e]
            intro a b hab ka kb hka hkb c hc
            obtain ⟨j, hj, ej⟩ := List.mem_iff_getElem.mp hab
            refine cl j (a, b) ?_ (by rw [List.getElem?_eq_getElem hj, ej]) ka kb hka hkb c hc
            rw [List.length_map, hT.len]
            exact hj
      · have hf : b = false := eq_false_of_ne_true hb
        exact ⟨_, rfl, k r ks ds H2 s2 hr0 A2 U2 (C2 hf)⟩
end
end MJ
namespace MJ
open PySem L2
/-- the dicts hold what the table says -/
def Holds (n : Nat) (m : Tab) (ks : List (List Nat)) : Prop := ks.length = n ∧ ∀ a k, ks[a]? = some k → ∀ c, k.contains c = m a c
def bet (m : Tab) (a b : Nat) : Nat → Bool := fun c => c != a && (c != b && (m a c && m c b))
theorem third_filter (n : Nat) (m : Tab) (a b : Nat) : decide ((((List.range n).filter (bet m a b)).map vI).length = 0) = !third n m a b := by
  rw [List.length_map]
  unfold third
  cases h : (List.range n).any (bet m a b) with
  | true =>
    obtain ⟨c, hc, q⟩ := List.any_eq_true.mp h
    have : c ∈ (List.range n).filter (bet m a b) := List.mem_filter.mpr ⟨hc, q⟩
    have h2 : ((List.range n).filter (bet m a b)).length ≠ 0 := fun e => by
      rw [List.length_eq_zero_iff.mp e] at this
      cases this
    have h' : (List.range n).any (fun c => c != a && (c != b && (m a c && m c b))) = true := h
    rw [h', decide_eq_false h2]
    rfl
  | false =>
    have h' : (List.range n).any (fun c => c != a && (c != b && (m a c && m c b))) = false := h
    have h2 : (List.range n).filter (bet m a b) = [] := List.filter_eq_nil_iff.mpr fun c hc => by
      rw [List.any_eq_false] at h
      exact h c hc
    rw [h', h2]
    rfl
theorem len_dec (k : Nat) : decide (V.int (k : Int) = V.int 0) = decide (k = 0) := by
  rw [Bool.eq_iff_iff]
  simp
section
variable {P : Program} {w : World} {K : PySem.W.Frag} {mg : Str → Option Value} {base : Heap} {C : Addr}
/-! ### _law_right_below -/
inductive Sp_law_right_below (vs : List V) (H : Hp) (Q : VK) (E : XK) : Prop where | mk (l : Addr) (n : Nat) (m : Tab) (ks : List (List Nat)) (ds : List Addr) (h0 : vs = [.ref l]) (h1 : AbvAt H l ks ds) (h2 : Holds n m ks) (h3 : n ≤ 16) (h4 : ∀ (r : Addr) (H' : Hp), Same H H' → H r = none → PairsAt H' r (cov n m) → Q (.ref r) H') : Sp_law_right_below  vs H Q E
def sp_law_right_below : Sp := fun vs H Q E => Sp_law_right_below  vs H Q E
theorem sc__law_right_below : FnScope ["above", "found", "a", "b", "third"] ["above"] (defScope s__law_right_below) := ⟨rfl, rfl, rfl, by decide +kernel, rfl, by decide +kernel, by decide +kernel⟩
theorem ok_law_right_below {f : Addr} {fd : FuncData} (F : Fun K "_law_right_below" "_law_right_below" s__law_right_below f fd) (T : Txt K mg C) : FnOk P w K mg base CX0 1 f fd ["above"] sp_law_right_below := by
  refine F.ok sc__law_right_below (fun vs H Q E h => ?_) (fun cdv A outer s H vs Q E hr h => ?_)
  · obtain ⟨l, n, m, ks, ds, rfl, _⟩ := h
    rfl
  · obtain ⟨l, n, m, ks, ds, rfl, A0, ⟨hlen, hm⟩, h16, k⟩ := h
    have nd := sc__law_right_below.nd
    have hu := hu_of hr
    have dlen : (ds.map V.ref).length = n := by rw [List.length_map, A0.len, hlen]
    refine ⟨_, (pss_cons (ps_set (i := 1) nd rfl (Or.inl rfl) (pe_lst pa_nil))
  (pss_cons (ps_for PassesOwn.never rfl (pi_range1 rfl T.range (pa_cons (pe_callB call_len_seq (by rfl) T.len PySem.boot_len (pa_cons (pv 0) pa_nil)) pa_nil)) (pg_name (i := 2) nd rfl (Or.inr rfl)) (pss_one (ps_for PassesOwn.never rfl (pi_range1 rfl T.range (pa_cons (pe_callB call_len_seq (by rfl) T.len PySem.boot_len (pa_cons (pv 0) pa_nil)) pa_nil)) (pg_name (i := 3) nd rfl (Or.inr rfl)) (pss_one (ps_if (PW.pt (pw_and (pt_cmpR op_ne (pv 2) (pv 3) (nomark _)) (pw_and1 (pt_cmp (pc_din hu (pv 3) (pe_ix ix_list (pv 0) (pv 2) (fun _ _ => rfl))))))) (pss_cons (ps_comp [none, some 2, some 3, some 0] ["c", "a", "b", "above"] (defScope s__law_right_below) ["above", "found", "a", "b", "third"] (by decide +kernel) rfl (pi_range1 rfl T.range (pa_cons (pe_callB call_len_seq (by rfl) T.len PySem.boot_len (pa_cons (pv 0) pa_nil)) pa_nil)) (fun _ _ _ _ _ _ => pg_name (i := 0) (show List.Nodup (["c", "a", "b", "above"] : List Str) by decide +kernel) rfl (Or.inl rfl)) (fun _ _ _ _ _ _ => pifs_one (PW.pt (pw_and (pt_cmpR op_ne (pv 0) (pv 1) (nomark _)) (pw_and (pt_cmpR op_ne (pv 0) (pv 2) (nomark _)) (pw_and (pt_cmp (pc_din hu (pv 0) (pe_ix (ix_listK (K := K) rfl) (pv 3) (pv 1) (fun _ _ => rfl)))) (pw_and1 (pt_cmp (pc_din hu (pv 2) (pe_ix (ix_listK (K := K) rfl) (pv 3) (pv 0) (fun _ _ => rfl)))))))))) (fun _ _ _ _ _ _ => pv 0) nd (i := 4) rfl (Or.inl rfl) rfl)
  (pss_one (ps_if (pt_cmpR op_eq (pe_callB call_len_seq (by rfl) T.len PySem.boot_len (pa_cons (pv 4) pa_nil)) pe_int (nomark _)) (pss_one (ps_expr (pe_bm PySem.F.plainAttrs_list PySem.F.slot_list_append PySem.F.type_list_append mt_append (pv 1) (pa_cons (pe_tup (pa_cons (pv 2) (pa_cons (pv 3) pa_nil))) pa_nil)))) pss_nil))) pss_nil)))))
  (pss_one (ps_ret (pv 1))))), ?_⟩
    refine ⟨Nat.zero_le _, fun fl hfl => ?_⟩
    have s0 : Same H (upd H fl (.lst [])) := same_new hfl
    refine ⟨_, rfl, l, _, rfl, .inl (SqL.of (s0 _ _ A0.lst)), (n : Int), by rw [dlen], by omega, by omega, ?_⟩
    refine for_range (lo := 0) (n := n) (fun i σ H' => ∃ x y z, σ = [some (.ref l), some (.ref fl), x, y, z] ∧ Same H H' ∧ PairsAt H' fl (covTo n m i)) ⟨none, none, none, rfl, s0, [], upd_same, Tups.nil⟩ ?_ ?_
    · rintro i σ H1 hi ⟨x, y, z, rfl, s1, P1⟩
      rw [Int.zero_add]
      refine ⟨_, rfl, l, _, rfl, .inl (SqL.of (s1 _ _ A0.lst)), (n : Int), by rw [dlen], by omega, by omega, ?_⟩
      refine for_range (lo := 0) (n := n) (fun j σ H' => ∃ y z, σ = [some (.ref l), some (.ref fl), some (vI i), y, z] ∧ Same H H' ∧ PairsAt H' fl (covTo n m i ++ covRow n m i j)) ⟨y, z, rfl, s1, by simpa [covRow] using P1⟩ ?_ ?_
      · rintro j σ H2 hj ⟨y2, z2, rfl, s2, P2⟩
        rw [Int.zero_add]
        have next : ∀ z' H', Same H2 H' → isCov n m i j = false → ∃ y z, [some (V.ref l), some (V.ref fl), some (vI i), some (vI j), z'] = [some (V.ref l), some (V.ref fl), some (vI i), y, z] ∧ Same H H' ∧ PairsAt H' fl (covTo n m i ++ covRow n m i (j + 1)) := fun z' H' s' hz => ⟨_, _, rfl, s2.trans s', by rw [covRow_succ, hz]; simpa using P2.mono s'⟩
        have A2 := A0.mono s2
        obtain ⟨di, ki, di1, ki1, mi, hdi⟩ := A2.at_ (a := i) (by rw [hlen]; exact hi)
        refine ⟨_, rfl, _, rfl, rfl, _, rfl, ?_⟩
        rw [ne_dec]
        refine ite2 (fun z1 => ?_) (fun z1 => ?_)
        · refine ⟨_, rfl, _, rfl, _, rfl, l, _, _, _, rfl, rfl, SqL.of A2.lst, atI_nat mi, di, _, rfl, DGet.k (k := Sum.inl (j : Int)) hdi, _, rfl, ?_⟩
          rw [keysV_get, hm i ki ki1]
          refine ite2 (fun z2 => ?_) (fun z2 => ?_)
          · -- third
            refine ⟨_, rfl, l, _, rfl, .inl (SqL.of A2.lst), (n : Int), by rw [dlen], by omega, by omega, fun q hq => ?_⟩
            have sq : ∀ ys, Same H2 (upd H2 q (.lst ys)) := fun ys => same_new hq
            refine comp_range (lo := 0) (n := n) (fun σ => ∃ x, σ = [x, some (vI i), some (vI j), some (.ref l)]) (fun c ys H' => ys = ((List.range c).filter (bet m i j)).map vI ∧ H' = upd H2 q (.lst ys)) ⟨none, rfl⟩ ⟨rfl, rfl⟩ (by exact small1000 (by omega)) ?_ ?_ ?_
            · rintro c ys H' _ ⟨e, rfl⟩
              refine ⟨upd_same, ?_⟩
              rw [e, List.length_map]
              exact Nat.le_trans (List.length_filter_le _ _) (by simp)
            · rintro c σ ys H' hc ⟨x', rfl⟩ ⟨e, rfl⟩
              rw [Int.zero_add]
              have A3 := A2.mono (sq ys)
              obtain ⟨di', ki', di1', ki1', mi', hdi'⟩ := A3.at_ (a := i) (by rw [hlen]; exact hi)
              obtain ⟨dc, kc, dc1, kc1, mc, hdc⟩ := A3.at_ (a := c) (by rw [hlen]; exact hc)
              have no : bet m i j c = false → (∃ x, [some (vI c), some (vI i), some (vI j), some (V.ref l)] = [x, some (vI i), some (vI j), some (V.ref l)]) ∧ (ys = ((List.range (c + 1)).filter (bet m i j)).map vI ∧ upd H2 q (.lst ys) = upd H2 q (.lst ys)) := fun hz => ⟨⟨_, rfl⟩, by rw [e, List.range_succ, List.filter_append]; simp [hz], rfl⟩
              refine ⟨_, rfl, _, rfl, rfl, _, rfl, ?_⟩
              rw [ne_dec]
              refine ite2 (fun w1 => ?_) (fun w1 => ?_)
              · refine ⟨_, rfl, _, rfl, rfl, _, rfl, ?_⟩
                rw [ne_dec]
                refine ite2 (fun w2 => ?_) (fun w2 => ?_)
                · refine ⟨_, rfl, _, rfl, _, rfl, l, _, _, _, rfl, rfl, SqL.of A3.lst, atI_nat mi', di', _, rfl, DGet.k (k := Sum.inl (c : Int)) hdi', _, rfl, ?_⟩
                  rw [keysV_get, hm i ki' ki1']
                  refine ite2 (fun w3 => ?_) (fun w3 => ?_)
                  · refine ⟨_, rfl, _, rfl, _, rfl, l, _, _, _, rfl, rfl, SqL.of A3.lst, atI_nat mc, dc, _, rfl, DGet.k (k := Sum.inl (j : Int)) hdc, _, rfl, ?_⟩
                    rw [keysV_get, hm c kc kc1]
                    refine ite2 (fun w4 => ?_) (fun w4 => ?_)
                    · have hz : bet m i j c = true := by unfold bet; rw [w1, w2, w3, w4]; rfl
                      refine ⟨_, rfl, upd_same, ⟨_, rfl⟩, ?_, by rw [upd_upd]⟩
                      rw [e, List.range_succ, List.filter_append]
                      simp [hz]
                    · exact no (by unfold bet; rw [eq_false_of_ne_true w4]; simp)
                  · exact no (by unfold bet; rw [eq_false_of_ne_true w3]; simp)
                · exact no (by unfold bet; rw [eq_false_of_ne_true w2]; simp)
              · exact no (by unfold bet; rw [eq_false_of_ne_true w1]; simp)
            · rintro ys H' ⟨e, rfl⟩
              -- if len(third) == 0
              refine ⟨_, rfl, q, _, rfl, .inl (SqL.of upd_same), rfl, _, rfl, ?_⟩
              rw [len_dec, e, third_filter]
              have s3 := sq (((List.range n).filter (bet m i j)).map vI)
              refine ite2 (fun z3 => ?_) (fun z3 => ?_)
              · have hc : isCov n m i j = true := by unfold isCov; rw [z1, z2, z3]; rfl
                obtain ⟨us, hu1, _⟩ := P2.mono s3
                refine ⟨_, rfl, .inl ⟨rfl, _, SqL.of hu1⟩, _, rfl, _, rfl, by show 2 ≤ sizeLine; decide, fun t ht => ?_⟩
                obtain ⟨vs, a1, a2, a3, a4, a5⟩ := PairsAt.add (H := H) (a := i) (b := j) (P2.mono s3) ht hfl (s2.trans s3)
                refine ⟨fl, _, _, rfl, rfl, a3, ?_, _, _, rfl, a4, ?_⟩
                · rw [List.length_map, a2, List.length_append]
                  have b1 := covTo_length n m i
                  have b2 := covRow_length n m i j
                  have b3 : i * n ≤ 16 * 16 := Nat.mul_le_mul (by omega) h16
                  exact small1000 (by omega)
                · rw [covRow_succ, hc, if_pos rfl, ← List.append_assoc]
                  exact a5
              · exact next _ _ s3 (by unfold isCov; rw [eq_false_of_ne_true z3]; simp)
          · exact next _ _ (Same.refl _) (by unfold isCov; rw [eq_false_of_ne_true z2]; simp)
        · exact next _ _ (Same.refl _) (by unfold isCov; rw [eq_false_of_ne_true z1]; simp)
      · rintro σ H2 ⟨y2, z2, rfl, s2, P2⟩
        exact ⟨_, _, _, rfl, s2, by rw [covTo_succ]; exact P2⟩
    · rintro σ H1 ⟨x, y, z, rfl, s1, P1⟩
      exact ⟨_, rfl, k fl H1 s1 hfl P1⟩
/-! ### _law_same -/
inductive Sp_same (C : Addr) (vs : List V) (H : Hp) (Q : VK) (E : XK) : Prop where | mk (p l : Addr) (n : Nat) (m : Tab) (ks : List (List Nat)) (ds : List Addr) (h0 : vs = [.ref p, vI n, .ref l]) (h1 : OrdAt C H p n m) (h2 : AbvAt H l ks ds) (h3 : Holds n m ks) (h4 : n ≤ 16) (h5 : ∀ H', Same H H' → Q (.bl true) H') : Sp_same C vs H Q E
def sp_same (C : Addr) : Sp := fun vs H Q E => Sp_same C vs H Q E
theorem sc__law_same : FnScope ["order", "many", "above", "told", "a", "b", "found", "pairs", "pair"] ["order", "many", "above"] (defScope s__law_same) := ⟨rfl, rfl, rfl, by decide +kernel, rfl, by decide +kernel, by decide +kernel⟩
theorem ok_same {f : Addr} {fd : FuncData} (F : Fun K "_law_same" "_law_same" s__law_same f fd) (T : Txt K mg C) (c_many : MtG P w K mg base C "many" 1 ["self"] (sp_many C)) (c_below : MtG P w K mg base C "below" 3 ["self", "a", "b"] (sp_below C))
    (c_right_below : MtG P w K mg base C "right_below" 3 ["self"] (sp_right_below C)) (c__law_whole : FnG P w K mg base "_law_whole" 1 ["found"] sp_whole) (c__law_right_below : FnG P w K mg base "_law_right_below" 1 ["above"] sp_law_right_below) :
    FnOk P w K mg base CX0 4 f fd ["order", "many", "above"] (sp_same C) := by
  refine F.ok sc__law_same (fun vs H Q E h => ?_) (fun cdv A outer s H vs Q E hr h => ?_)
  · obtain ⟨p, l, n, m, ks, ds, rfl, _⟩ := h
    rfl
  · obtain ⟨p, l, n, m, ks, ds, rfl, O, A0, hh, h16, k⟩ := h
    obtain ⟨hlen, hm⟩ := id hh
    have nd := sc__law_same.nd
    have hu := hu_of hr
    have hu64 := Room.units hr
    obtain ⟨dx, t, ts, h1, h2, h3⟩ := O.row
    refine ⟨_, (pss_cons (ps_set (i := 3) nd rfl (Or.inl rfl) (pe_methG0 (pv 0) T.cOrder c_many (hr.mono (by decide))))
  (pss_cons (ps_if (PW.pt (pw_or (pt_not (pt_val (pe_callG c__law_whole (hr.mono (by decide)) rfl (pa_cons (pv 3) pa_nil)))) (pw_or1 (pt_cmpR op_ne (pv 3) (pv 1) (nomark _))))) (pss_one (ps_ret pe_bl)) pss_nil)
  (pss_cons (ps_for PassesOwn.never rfl (pi_range1 rfl T.range (pa_cons (pv 1) pa_nil)) (pg_name (i := 4) nd rfl (Or.inl rfl)) (pss_one (ps_for PassesOwn.never rfl (pi_range1 rfl T.range (pa_cons (pv 1) pa_nil)) (pg_name (i := 5) nd rfl (Or.inl rfl)) (pss_cons (ps_set (i := 6) nd rfl (Or.inl rfl) (pe_methG (pv 0) T.cOrder c_below (hr.mono (by decide)) (pa_cons (pv 4) (pa_cons (pv 5) pa_nil))))
  (pss_one (ps_if (PW.pt (pw_or (pt_not (pt_val (pe_callB call_isinst (by rfl) T.isinstance bt_isinstance (pa_cons (pv 6) (pa_cons (pe_bltn (v := .ty "bool") rfl T.bool bt_bool rfl) pa_nil))))) (pw_or1 (pt_cmpR op_ne (pv 6) (pe_cmp (pc_din hu (pv 5) (pe_ix ix_list (pv 2) (pv 4) (fun _ _ => rfl)))) (nomark _))))) (pss_one (ps_ret pe_bl)) pss_nil))))))
  (pss_cons (ps_set (i := 7) nd rfl (Or.inl rfl) (pe_methG0 (pv 0) T.cOrder c_right_below (hr.mono (by decide))))
  (pss_cons (ps_if (PW.pt (pw_or (pt_not (pt_val (pe_callB call_isinst (by rfl) T.isinstance bt_isinstance (pa_cons (pv 7) (pa_cons (pe_bltn (v := .ty "list") rfl T.list bt_list rfl) pa_nil))))) (pw_or1 (pt_cmpR (op_neL hu64) (pv 7) (pe_callG c__law_right_below (hr.mono (by decide)) rfl (pa_cons (pv 2) pa_nil)) (nomark _))))) (pss_one (ps_ret pe_bl)) pss_nil)
  (pss_cons (ps_for PassesOwn.never rfl (pi_list (pv 7)) (pg_name (i := 8) nd rfl (Or.inl rfl)) (pss_one (ps_if (PW.pt (pw_or (pt_not (pt_val (pe_callB call_isinst (by rfl) T.isinstance bt_isinstance (pa_cons (pv 8) (pa_cons (pe_bltn (v := .ty "tuple") rfl T.tuple bt_tuple rfl) pa_nil))))) (pw_or (pt_not (pt_val (pe_callG c__law_whole (hr.mono (by decide)) rfl (pa_cons (pe_ix ix_tup (pv 8) pe_int (fun _ _ => rfl)) pa_nil)))) (pw_or1 (pt_not (pt_val (pe_callG c__law_whole (hr.mono (by decide)) rfl (pa_cons (pe_ix ix_tup (pv 8) pe_int (fun _ _ => rfl)) pa_nil)))))))) (pss_one (ps_ret pe_bl)) pss_nil)))
  (pss_cons (ps_expr (pe_bm0 PySem.F.plainAttrs_list PySem.F.slot_list_clear PySem.F.type_list_clear mt_clear (pv 7)))
  (pss_one (ps_ret pe_bl))))))))), ?_⟩
    -- told = order.many()
    refine ⟨_, rfl, p, dx, _, rfl, h1, tab_no t (by decide +kernel), p, n, m, rfl, O, ?_⟩
    refine ⟨_, rfl, (n : Int), rfl, _, rfl, ?_⟩
    refine ⟨_, rfl, _, rfl, rfl, _, rfl, iteNS rfl ?_⟩
    -- for a, for b
    refine ⟨_, rfl, (n : Int), rfl, by omega, by omega, for_range (lo := 0) (n := n) (fun i σ H' => ∃ x y z, σ = [some (.ref p), some (vI n), some (.ref l), some (vI n), x, y, z, none, none] ∧ H' = H) ⟨none, none, none, rfl, rfl⟩ ?_ ?_⟩
    · rintro i σ H1 hi ⟨x, y, z, rfl, rfl⟩
      rw [Int.zero_add]
      refine ⟨_, rfl, (n : Int), rfl, by omega, by omega, for_range (lo := 0) (n := n) (fun j σ H' => ∃ y z, σ = [some (.ref p), some (vI n), some (.ref l), some (vI n), some (vI i), y, z, none, none] ∧ H' = H1) ⟨y, z, rfl, rfl⟩ ?_ ?_⟩
      · rintro j σ H2 hj ⟨y2, z2, rfl, rfl⟩
        rw [Int.zero_add]
        refine ⟨_, rfl, p, dx, _, rfl, h1, tab_no t (by decide +kernel), _, rfl, _, rfl, p, n, i, j, m, rfl, O, hi, hj, ?_⟩
        refine ⟨_, rfl, _, _, _, _, true, rfl, .bl _, rfl, T.i_bb, _, rfl, ?_⟩
        obtain ⟨di, ki, di1, ki1, mi, hdi⟩ := A0.at_ (a := i) (by rw [hlen]; exact hi)
        refine ⟨_, rfl, _, rfl, _, rfl, _, rfl, l, _, _, _, rfl, rfl, SqL.of A0.lst, atI_nat mi, di, _, rfl, DGet.k (k := Sum.inl (j : Int)) hdi, rfl, _, rfl, iteNS ?_ ?_⟩
        · rw [keysV_get, hm i ki ki1]
        · exact ⟨_, _, rfl, rfl⟩
      · rintro σ H2 ⟨y2, z2, rfl, rfl⟩
        exact ⟨_, _, _, rfl, rfl⟩
    · rintro σ H1 ⟨x, y, z, rfl, rfl⟩
      -- pairs = order.right_below()
      refine ⟨_, rfl, p, dx, _, rfl, h1, tab_no t (by decide +kernel), p, n, m, rfl, O, h16, fun pl H2 s2 hpl P2 => ?_⟩
      obtain ⟨us, hu1, hu2⟩ := id P2
      refine ⟨_, rfl, _, _, _, _, true, rfl, .lst hu1, rfl, T.i_ll, _, rfl, ?_⟩
      refine ⟨_, rfl, _, rfl, l, n, m, ks, ds, rfl, A0.mono s2, hh, h16, fun rl H3 s3 hrl P3 => ?_⟩
      obtain ⟨vs, hv1, hv2⟩ := id P3
      have hu1' := s3 _ _ hu1
      have hU3 := hu2.mono s3
      refine ⟨pl, rl, _, _, fun _ => true, rfl, rfl, SqL.of hu1', SqL.of hv1, pairs_eq hU3 hv2, _, rfl, ?_⟩
      have e1 : ((us.map V.ref).length == (vs.map V.ref).length) = true := by
        rw [List.length_map, List.length_map, hU3.len, hv2.len]
        simp
      rw [e1]
      have e2 : (List.range (us.map V.ref).length).all (fun _ => true) = true := by simp
      rw [e2]
      -- for pair in pairs
      refine ⟨_, rfl, pl, rfl, ⟨_, SqL.of hu1'⟩, for_list (K := K) (a := pl) (xs := us.map V.ref) (fun i σ H' => ∃ x, σ = [some (.ref p), some (vI n), some (.ref l), some (vI n), _, _, _, some (.ref pl), x] ∧ H' = H3) ⟨none, rfl, rfl⟩ (fun i σ H' _ ⟨_, _, e⟩ => e ▸ SqL.of hu1') ?_ ?_⟩
      · rintro i y σ H4 hi ⟨x4, rfl, rfl⟩
        obtain ⟨t', p', rfl, e1, e2, ht'⟩ := hU3.get hi
        refine ⟨_, rfl, _, _, _, _, true, rfl, .tup ht', rfl, T.i_tt, _, rfl, ?_⟩
        refine ⟨_, rfl, t', _, 0, _, rfl, rfl, SqT.of ht', rfl, (p'.1 : Int), rfl, _, rfl, ?_⟩
        refine ⟨_, rfl, t', _, 1, _, rfl, rfl, SqT.of ht', rfl, (p'.2 : Int), rfl, _, rfl, ?_⟩
        exact ⟨_, rfl, rfl⟩
      · rintro σ H4 ⟨x4, rfl, rfl⟩
        -- pairs.clear()
        refine ⟨_, rfl, .inl ⟨rfl, _, SqL.of hu1'⟩, pl, _, rfl, rfl, hu1', ?_⟩
        exact k _ ((s2.trans s3).put hpl)
end
end MJ
namespace MJ
open PySem L2
section
variable {P : Program} {w : World} {K : PySem.W.Frag} {mg : Str → Option Value} {base : Heap} {C : Addr}
theorem holds_of {n : Nat} {ps : List (Nat × Nat)} {ks : List (List Nat)} (h : ∀ p ∈ ps, p.1 < n ∧ p.2 < n) (u : Und n ps ks) (cl : Closed ps ks) : Holds n (clo n ps) ks := by
  refine ⟨u.len, fun a k hk c => ?_⟩
  rw [Bool.eq_iff_iff, List.contains_iff_mem, u.done h cl hk, clo_iff h]
end
end MJ
namespace MJ
open PySem L2
/-! ### an order and the pairs right below one another -/
structure POn (n : Nat) (m : Tab) : Prop where
  refl : ∀ a, a < n → m a a = true
  trans : ∀ a b c, a < n → b < n → c < n → m a b = true → m b c = true → m a c = true
  anti : ∀ a b, a < n → b < n → m a b = true → m b a = true → a = b
theorem filter_lt {l : List Nat} {p q : Nat → Bool} (h : ∀ x ∈ l, p x = true → q x = true) {z : Nat} (hz : z ∈ l) (h1 : p z = false) (h2 : q z = true) : (l.filter p).length < (l.filter q).length := by
  induction l with
  | nil => cases hz
  | cons x r ih =>
    have hle : (r.filter p).length ≤ (r.filter q).length := by
      have hr : ∀ y ∈ r, p y = true → q y = true := fun y hy => h y (List.mem_cons_of_mem _ hy)
      clear ih hz h
      induction r with
      | nil => exact Nat.le_refl _
      | cons y r ih2 =>
        have := ih2 fun z hz => hr z (List.mem_cons_of_mem _ hz)
        have hy := hr y (by simp)
        cases e1 : p y with
        | true => rw [List.filter_cons, List.filter_cons, e1, hy e1]; simpa using this
        | false =>
          rw [List.filter_cons, e1]
          cases e2 : q y with
          | true => rw [List.filter_cons, e2]; simp at this ⊢; omega
          | false => rw [List.filter_cons, e2]; simpa using this
    rcases List.mem_cons.mp hz with e | e
    · subst e
      rw [List.filter_cons, List.filter_cons, h1, h2]
      simp
      omega
    · have := ih (fun y hy => h y (List.mem_cons_of_mem _ hy)) e
      have hx := h x (by simp)
      cases e1 : p x with
      | true => rw [List.filter_cons, List.filter_cons, e1, hx e1]; simpa using this
      | false =>
        rw [List.filter_cons, e1]
        cases e2 : q x with
        | true => rw [List.filter_cons, e2]; simp at this ⊢; omega
        | false => rw [List.filter_cons, e2]; simpa using this
theorem isCov_iff {n : Nat} {m : Tab} {a b : Nat} : isCov n m a b = true ↔ a ≠ b ∧ m a b = true ∧ ∀ c, c < n → c ≠ a → c ≠ b → m a c = true → m c b = true → False := by
  unfold isCov third
  simp only [Bool.and_eq_true, bne_iff_ne, Bool.not_eq_true', List.any_eq_false, List.mem_range, ne_eq]
  constructor
  · rintro ⟨h1, h2, h3⟩
    exact ⟨h1, h2, fun c hc n1 n2 q1 q2 => h3 c hc ⟨n1, n2, q1, q2⟩⟩
  · rintro ⟨h1, h2, h3⟩
    exact ⟨h1, h2, fun c hc ⟨n1, n2, q1, q2⟩ => h3 c hc n1 n2 q1 q2⟩
theorem cov_lt {n : Nat} {m : Tab} : ∀ p ∈ cov n m, p.1 < n ∧ p.2 < n := fun p hp => ⟨(mem_cov.mp hp).1, (mem_cov.mp hp).2.1⟩
/-! ### the same turned round -/
abbrev tr (m : Tab) : Tab := fun a b => m b a
abbrev sw (p : Nat × Nat) : Nat × Nat := (p.2, p.1)
/-! ### how many are right below -/
theorem nodup_sub {α : Type} [DecidableEq α] : ∀ {l l' : List α}, l.Nodup → (∀ x ∈ l, x ∈ l') → l.length ≤ l'.length
  | [], _, _, _ => Nat.zero_le _
  | x :: r, l', hn, h => by
    have hx : x ∈ l' := h x (by simp)
    have hn' := List.nodup_cons.mp hn
    have := nodup_sub (l := r) (l' := l'.erase x) hn'.2 fun y hy => by
      have hy' := h y (List.mem_cons_of_mem _ hy)
      have : y ≠ x := fun e => hn'.1 (e ▸ hy)
      exact (List.mem_erase_of_ne this).mpr hy'
    rw [List.length_erase_of_mem hx] at this
    have hpos := List.length_pos_of_mem hx
    rw [List.length_cons]
    omega
theorem cov_nodup (n : Nat) (m : Tab) : (cov n m).Nodup := by
  have key : ∀ i, (covTo n m i).Nodup ∧ ∀ p ∈ covTo n m i, p.1 < i := by
    intro i
    induction i with
    | zero => exact ⟨by simp [covTo], fun p hp => by simp [covTo] at hp⟩
    | succ i ih =>
      rw [covTo_succ]
      have hrow : (covRow n m i n).Nodup := by
        unfold covRow
        exact List.Pairwise.map _ (fun a b (h : a ≠ b) e => h (Prod.mk.inj e).2) (List.Pairwise.filter _ List.nodup_range)
      have hfst : ∀ p ∈ covRow n m i n, p.1 = i := fun p hp => by
        unfold covRow at hp
        obtain ⟨b, _, rfl⟩ := List.mem_map.mp hp
        rfl
      refine ⟨List.nodup_append.mpr ⟨ih.1, hrow, fun a ha b hb e => ?_⟩, fun p hp => ?_⟩
      · have := ih.2 a ha
        rw [e, hfst b hb] at this
        exact Nat.lt_irrefl _ this
      · rcases List.mem_append.mp hp with h | h
        · exact Nat.lt_succ_of_lt (ih.2 p h)
        · rw [hfst p h]; exact Nat.lt_succ_self _
  exact (key n).1
theorem Rch.first {ps : List (Nat × Nat)} {a b : Nat} (r : Rch ps a b) (ne : a ≠ b) : ∃ c, c ≠ a ∧ (a, c) ∈ ps ∧ Rch ps c b := by
  induction r with
  | refl => exact absurd rfl ne
  | @step a c d h r' ih =>
    by_cases e : c = a
    · subst e
      exact ih ne
    · exact ⟨c, e, h, r'⟩
theorem cov_sub {n : Nat} {ps : List (Nat × Nat)} (h : Acy n ps) : ∀ p ∈ cov n (clo n ps), p ∈ ps := fun p hp => by
  obtain ⟨h1, h2, h3⟩ := mem_cov.mp hp
  obtain ⟨ne, hm, no⟩ := isCov_iff.mp h3
  obtain ⟨c, hc, hmem, r⟩ := ((clo_iff h.lt).mp hm).first ne
  by_cases e : c = p.2
  · subst e
    exact hmem
  · exact absurd ((clo_iff h.lt).mpr r) (fun z => no c (h.lt _ hmem).2 hc e ((clo_iff h.lt).mpr (.one hmem)) z)
theorem cov_le {n : Nat} {ps : List (Nat × Nat)} (h : Acy n ps) : (cov n (clo n ps)).length ≤ ps.length := nodup_sub (cov_nodup ..) (cov_sub h)
end MJ
namespace L2
open PySem PySem.Spec PyProof.Rows
theorem Room.toM {j k : Nat} {A : Around} {m : Option Value} (r : Room k A) (h : j ≤ k) : RoomM j (A.mark m) := ⟨by have := r.dp; show A.depth + 3 * j + 5 < _; omega, by have := r.un; show A.units + 16 * j + 200 < _; omega⟩
end L2
namespace MJ
open PySem L2
structure TxtN (K : PySem.W.Frag) (mg : Str → Option Value) (oE x1 x2 x3 x4 x5 x6 x7 x8 : Addr) : Prop where
  ValueError : mg "ValueError" = none
  OrderError : mg "OrderError" = some (.ref oE)
  BadThings : mg "BadThings" = some (.ref x1)
  BadPair : mg "BadPair" = some (.ref x2)
  Ring : mg "Ring" = some (.ref x3)
  NoThing : mg "NoThing" = some (.ref x4)
  NotNet : mg "NotNet" = some (.ref x5)
  NotSpread : mg "NotSpread" = some (.ref x6)
  TooMany : mg "TooMany" = some (.ref x7)
  NoText : mg "NoText" = some (.ref x8)
  eBadThings : ExcC K x1
  eBadPair : ExcC K x2
  eRing : ExcC K x3
  eNoText : ExcC K x8
/-- how an exception of the class at D answers -/
structure MarkK (K : PySem.W.Frag) (D x1 x2 x3 x4 x5 x6 x7 x8 : Addr) (b1 b2 b3 b4 b5 b6 b7 b8 b9 : Bool) : Prop where
  ek : PySem.W.ExcK K D
  k1 : PySem.W.kitOne K (.ref D) (.ref x1) = some b1
  k2 : PySem.W.kitOne K (.ref D) (.ref x2) = some b2
  k3 : PySem.W.kitOne K (.ref D) (.ref x3) = some b3
  k4 : PySem.W.kitOne K (.ref D) (.ref x4) = some b4
  k5 : PySem.W.kitOne K (.ref D) (.ref x5) = some b5
  k6 : PySem.W.kitOne K (.ref D) (.ref x6) = some b6
  k7 : PySem.W.kitOne K (.ref D) (.ref x7) = some b7
  k8 : PySem.W.kitOne K (.ref D) (.ref x8) = some b8
  k9 : PySem.W.kitOne K (.ref D) (.type "ValueError") = some b9
section
variable {P : Program} {w : World} {K : PySem.W.Frag} {mg : Str → Option Value} {base : Heap} {C oE x1 x2 x3 x4 x5 x6 x7 x8 : Addr}
/-! ### _law_marks_of, in an except suite -/
inductive Sp_marks (K : PySem.W.Frag) (x1 x2 x3 x4 x5 x6 x7 x8 : Addr) (vs : List V) (H : Hp) (Q : VK) (E : XK) : Prop where | mk (a D : Addr) (b1 b2 b3 b4 b5 b6 b7 b8 b9 : Bool) (h0 : vs = [.ref a]) (h1 : H a = some (excO a D)) (h2 : MarkK K D x1 x2 x3 x4 x5 x6 x7 x8 b1 b2 b3 b4 b5 b6 b7 b8 b9) (h3 : ∀ (r : Addr) (H' : Hp), Same H H' → H' r = some (.lst [.bl b1, .bl b2, .bl b3, .bl b4, .bl b5, .bl b6, .bl b7, .bl b8, .bl (!b9)]) → Q (.ref r) H') : Sp_marks K x1 x2 x3 x4 x5 x6 x7 x8 vs H Q E
def sp_marks (K : PySem.W.Frag) (x1 x2 x3 x4 x5 x6 x7 x8 : Addr) : Sp := fun vs H Q E => Sp_marks K x1 x2 x3 x4 x5 x6 x7 x8 vs H Q E
theorem sc__law_marks_of : FnScope ["e", "marks"] ["e"] (defScope s__law_marks_of) := ⟨rfl, rfl, rfl, by decide +kernel, rfl, by decide +kernel, by decide +kernel⟩
theorem ok_marks {f : Addr} {fd : FuncData} (F : Fun K "_law_marks_of" "_law_marks_of" s__law_marks_of f fd) (T : Txt K mg C) (TX : TxtN K mg oE x1 x2 x3 x4 x5 x6 x7 x8) (hg : mg "_law_marks_of" = some (.ref f)) (hb : Binds K fd ["e"] []) :
    FnM P w K mg base "_law_marks_of" 1 ["e"] (sp_marks K x1 x2 x3 x4 x5 x6 x7 x8) := by
  refine fn_ofM F sc__law_marks_of hg hb (fun vs H Q E h => ?_) (fun cdv A outer s H vs Q hr h => ?_)
  · obtain ⟨a, D, b1, b2, b3, b4, b5, b6, b7, b8, b9, rfl, _⟩ := h
    rfl
  · obtain ⟨a, D, b1, b2, b3, b4, b5, b6, b7, b8, b9, rfl, ha, M, k⟩ := h
    have nd := sc__law_marks_of.nd
    refine ⟨_, (pss_cons (ps_set (i := 1) nd rfl (Or.inl rfl) (pe_lst (pa_cons (pe_callB call_isinstE (by rfl) T.isinstance bt_isinstance (pa_cons (pv 0) (pa_cons (pe_glob (v := .ref _) rfl TX.BadThings rfl) pa_nil))) (pa_cons (pe_callB call_isinstE (by rfl) T.isinstance bt_isinstance (pa_cons (pv 0) (pa_cons (pe_glob (v := .ref _) rfl TX.BadPair rfl) pa_nil))) (pa_cons (pe_callB call_isinstE (by rfl) T.isinstance bt_isinstance (pa_cons (pv 0) (pa_cons (pe_glob (v := .ref _) rfl TX.Ring rfl) pa_nil))) (pa_cons (pe_callB call_isinstE (by rfl) T.isinstance bt_isinstance (pa_cons (pv 0) (pa_cons (pe_glob (v := .ref _) rfl TX.NoThing rfl) pa_nil))) pa_nil))))))
  (pss_cons (ps_set (i := 1) nd rfl (Or.inl rfl) (pe_op op_cat (pv 1) (pe_lst (pa_cons (pe_callB call_isinstE (by rfl) T.isinstance bt_isinstance (pa_cons (pv 0) (pa_cons (pe_glob (v := .ref _) rfl TX.NotNet rfl) pa_nil))) (pa_cons (pe_callB call_isinstE (by rfl) T.isinstance bt_isinstance (pa_cons (pv 0) (pa_cons (pe_glob (v := .ref _) rfl TX.NotSpread rfl) pa_nil))) (pa_cons (pe_callB call_isinstE (by rfl) T.isinstance bt_isinstance (pa_cons (pv 0) (pa_cons (pe_glob (v := .ref _) rfl TX.TooMany rfl) pa_nil))) (pa_cons (pe_callB call_isinstE (by rfl) T.isinstance bt_isinstance (pa_cons (pv 0) (pa_cons (pe_glob (v := .ref _) rfl TX.NoText rfl) pa_nil))) pa_nil)))))))
  (pss_one (ps_ret (pe_op op_cat (pv 1) (pe_lst (pa_cons (pe_not (pe_callB call_isinstE (by rfl) T.isinstance bt_isinstance (pa_cons (pv 0) (pa_cons (pe_bltn (v := .ty "ValueError") rfl TX.ValueError bt_ValueError rfl) pa_nil)))) pa_nil))))))), ?_⟩
    refine ⟨_, rfl, a, D, _, _, b1, rfl, ha, M.ek, rfl, M.k1, ?_⟩
    refine ⟨_, rfl, a, D, _, _, b2, rfl, ha, M.ek, rfl, M.k2, ?_⟩
    refine ⟨_, rfl, a, D, _, _, b3, rfl, ha, M.ek, rfl, M.k3, ?_⟩
    refine ⟨_, rfl, a, D, _, _, b4, rfl, ha, M.ek, rfl, M.k4, ?_⟩
    refine ⟨by show 4 ≤ sizeLine; decide, fun r hr0 => ?_⟩
    have s1 := same_new (o := .lst [.bl b1, .bl b2, .bl b3, .bl b4]) hr0
    have ha1 := s1 _ _ ha
    refine ⟨_, rfl, ?_⟩
    refine ⟨_, rfl, a, D, _, _, b5, rfl, ha1, M.ek, rfl, M.k5, ?_⟩
    refine ⟨_, rfl, a, D, _, _, b6, rfl, ha1, M.ek, rfl, M.k6, ?_⟩
    refine ⟨_, rfl, a, D, _, _, b7, rfl, ha1, M.ek, rfl, M.k7, ?_⟩
    refine ⟨_, rfl, a, D, _, _, b8, rfl, ha1, M.ek, rfl, M.k8, ?_⟩
    refine ⟨by show 4 ≤ sizeLine; decide, fun r2 hr2 => ?_⟩
    have s2 := same_new (o := .lst [.bl b5, .bl b6, .bl b7, .bl b8]) hr2
    have n12 : r ≠ r2 := ne_of_none upd_same hr2
    refine ⟨r, r2, _, _, rfl, rfl, by rw [upd_ne n12]; exact upd_same, upd_same, by show 8 ≤ sizeLine; decide, fun r3 hr3 => ?_⟩
    have s3 := same_new (o := .lst ([V.bl b1, .bl b2, .bl b3, .bl b4] ++ [V.bl b5, .bl b6, .bl b7, .bl b8])) hr3
    have ha3 := s3 _ _ (s2 _ _ ha1)
    refine ⟨_, rfl, ?_⟩
    refine ⟨_, rfl, a, D, _, _, b9, rfl, ha3, M.ek, rfl, M.k9, ?_⟩
    refine ⟨_, rfl, by show 1 ≤ sizeLine; decide, fun r4 hr4 => ?_⟩
    have s4 := same_new (o := .lst [.bl (!b9)]) hr4
    have n34 : r3 ≠ r4 := ne_of_none upd_same hr4
    refine ⟨r3, r4, _, _, rfl, rfl, by rw [upd_ne n34]; exact upd_same, upd_same, by show 9 ≤ sizeLine; decide, fun r5 hr5 => ?_⟩
    exact k r5 _ ((((s1.trans s2).trans s3).trans s4).step hr5) upd_same
end
def bools (i : Nat) : List V := (List.range 9).map fun k => V.bl (k == i)
/-- a refusal's class, its answers, the mark -/
structure RefK (K : PySem.W.Frag) (oE D x1 x2 x3 x4 x5 x6 x7 x8 : Addr) (i : Nat) : Prop where
  up : PySem.W.exmOne K (.ref D) (.ref oE) = some true
  mkd : ∃ b1 b2 b3 b4 b5 b6 b7 b8 b9, MarkK K D x1 x2 x3 x4 x5 x6 x7 x8 b1 b2 b3 b4 b5 b6 b7 b8 b9 ∧ [V.bl b1, .bl b2, .bl b3, .bl b4, .bl b5, .bl b6, .bl b7, .bl b8, .bl (!b9)] = bools i
end MJ

namespace MJ
open PySem L2
/-! ### texts of numbers and pairs -/
abbrev num (k : Nat) : Str := Str.ofString (toString (k : Int))
def hdS (n : Nat) : Str := num n ++ Str.ofString ":"
def ptx (p : Nat × Nat) : Str := num p.1 ++ Str.ofString "<" ++ num p.2
def shS (n : Nat) (ps : List (Nat × Nat)) : Str := Str.join (Str.ofString " ") (hdS n :: ps.map ptx)
theorem blank_is : Str.ofString " " = ⟨#[32]⟩ := by decide
theorem less_is : Str.ofString "<" = ⟨#[60]⟩ := by decide
theorem num_ok : ∀ k, k < 17 → 32 ∉ (num k).cps.toList ∧ 60 ∉ (num k).cps.toList ∧ (num k).length ≤ 2 ∧ (k : Int).natAbs.log2 < 1920 := by decide +kernel
def numOf (w : Str) : Option Nat := (List.range 17).find? fun j => w == num j
theorem numOf_num : ∀ k, k < 17 → numOf (num k) = some k := by decide +kernel
theorem hd_cut : ∀ n, n < 17 → Txt.slice (hdS n) none (some (-1)) = num n := by decide +kernel
theorem hd_ends : ∀ n, n < 17 → Txt.endswith (hdS n) (Str.ofString ":") = true := by decide +kernel
theorem hd_ok : ∀ n, n < 17 → 32 ∉ (hdS n).cps.toList ∧ (hdS n).length ≤ 3 := by decide +kernel
theorem app_list (a y : Str) : (a ++ y).cps.toList = a.cps.toList ++ y.cps.toList := by rw [Str.cps_append, Array.toList_append]
theorem ptx_ok {p : Nat × Nat} (h1 : p.1 < 17) (h2 : p.2 < 17) : 32 ∉ (ptx p).cps.toList ∧ (ptx p).length ≤ 5 := by
  obtain ⟨a1, _, a2, _⟩ := num_ok _ h1
  obtain ⟨b1, _, b2, _⟩ := num_ok _ h2
  have c1 : (Str.ofString "<").cps.toList = [60] := by decide
  have c2 : (Str.ofString "<").length = 1 := by decide
  unfold ptx
  refine ⟨fun z => ?_, by rw [Str.length_append, Str.length_append]; omega⟩
  rw [app_list, app_list, c1] at z
  rcases List.mem_append.mp z with z | z
  · rcases List.mem_append.mp z with z | z
    · exact a1 z
    · simp at z
  · exact b1 z
/-! ### cut at a sign, there is one way -/
theorem cut_one {c : Nat} : ∀ {l1 l2 r1 r2 : List Nat}, c ∉ l1 → c ∉ l2 → l1 ++ c :: r1 = l2 ++ c :: r2 → l1 = l2 ∧ r1 = r2
  | [], [], _, _, _, _, h => by simp at h; exact ⟨rfl, h⟩
  | [], b :: l2, _, _, _, h2, h => by
    simp at h
    exact absurd (by rw [h.1]; simp) h2
  | a :: l1, [], _, _, h1, _, h => by
    simp at h
    exact absurd (by rw [← h.1]; simp) h1
  | a :: l1, b :: l2, r1, r2, h1, h2, h => by
    simp only [List.cons_append, List.cons.injEq] at h
    obtain ⟨e1, e2⟩ := cut_one (fun z => h1 (List.mem_cons_of_mem _ z)) (fun z => h2 (List.mem_cons_of_mem _ z)) h.2
    exact ⟨by rw [h.1, e1], e2⟩
theorem str_ext {a b : Str} (h : a.cps.toList = b.cps.toList) : a = b := Str.ext' (Array.toList_inj.mp h)
theorem join_list (c : Nat) (p p2 : Str) (r : List Str) : (Str.join ⟨#[c]⟩ (p :: p2 :: r)).cps.toList = p.cps.toList ++ c :: (Str.join ⟨#[c]⟩ (p2 :: r)).cps.toList := by
  show (p ++ ⟨#[c]⟩ ++ Str.join ⟨#[c]⟩ (p2 :: r)).cps.toList = _
  rw [app_list, app_list]
  simp
theorem split_uniq (c : Nat) : ∀ (ps qs : List Str), ps ≠ [] → qs ≠ [] → (∀ p ∈ ps, c ∉ p.cps.toList) → (∀ q ∈ qs, c ∉ q.cps.toList) → (Str.join ⟨#[c]⟩ ps).cps.toList = (Str.join ⟨#[c]⟩ qs).cps.toList → ps = qs
  | [], _, h, _, _, _, _ => absurd rfl h
  | _, [], _, h, _, _, _ => absurd rfl h
  | [p], [q], _, _, _, _, h => by rw [str_ext (a := p) (b := q) h]
  | [p], q :: q2 :: r, _, _, hp, _, h => by
    rw [join_list] at h
    exact absurd (by show c ∈ (Str.join ⟨#[c]⟩ [p]).cps.toList; rw [h]; simp) (hp p (by simp))
  | p :: p2 :: r, [q], _, _, _, hq, h => by
    rw [join_list] at h
    exact absurd (by show c ∈ (Str.join ⟨#[c]⟩ [q]).cps.toList; rw [← h]; simp) (hq q (by simp))
  | p :: p2 :: r, q :: q2 :: r', _, _, hp, hq, h => by
    rw [join_list, join_list] at h
    obtain ⟨e1, e2⟩ := cut_one (hp p (by simp)) (hq q (by simp)) h
    rw [str_ext e1, split_uniq c (p2 :: r) (q2 :: r') (by simp) (by simp) (fun x hx => hp x (List.mem_cons_of_mem _ hx)) (fun x hx => hq x (List.mem_cons_of_mem _ hx)) e2]
theorem split_ne (x y : Str) : Txt.split x y ≠ [] := by
  unfold Txt.split
  split
  · simp
  · split
    · simp
    · rw [StrLaws.partsBetween_eq]
      obtain ⟨p, r, e⟩ := StrLaws.partsFrom_ne x y.length 0 (Builtin.Str.occurrences x y 0 x.length (x.length + 1))
      rw [e]
      simp
theorem split_of {c : Nat} {ps : List Str} (hne : ps ≠ []) (hf : ∀ p ∈ ps, c ∉ p.cps.toList) : Txt.split (Str.join ⟨#[c]⟩ ps) ⟨#[c]⟩ = ps :=
  split_uniq c _ _ (split_ne _ _) hne (StrLaws.split_free _ c) hf (by rw [StrLaws.join_split])
theorem split_sh {n : Nat} {ps : List (Nat × Nat)} (hn : n < 17) (hps : ∀ p ∈ ps, p.1 < 17 ∧ p.2 < 17) : Txt.split (shS n ps) (Str.ofString " ") = hdS n :: ps.map ptx := by
  unfold shS
  rw [blank_is]
  refine split_of (by simp) fun p hp => ?_
  rcases List.mem_cons.mp hp with e | e
  · rw [e]
    exact (hd_ok n hn).1
  · obtain ⟨q, hq, rfl⟩ := List.mem_map.mp e
    exact (ptx_ok (hps q hq).1 (hps q hq).2).1
theorem split_ptx {p : Nat × Nat} (h1 : p.1 < 17) (h2 : p.2 < 17) : Txt.split (ptx p) (Str.ofString "<") = [num p.1, num p.2] := by
  have e : ptx p = Str.join ⟨#[60]⟩ [num p.1, num p.2] := by
    unfold ptx
    rw [less_is]
    rfl
  rw [e, less_is]
  refine split_of (by simp) fun q hq => ?_
  rcases List.mem_cons.mp hq with z | z
  · rw [z]
    exact (num_ok _ h1).2.1
  · have : q = num p.2 := by simpa using z
    rw [this]
    exact (num_ok _ h2).2.1
theorem join_snoc (sep : Str) : ∀ (l : List Str) (y : Str), l ≠ [] → Str.join sep (l ++ [y]) = Str.join sep l ++ sep ++ y
  | [], _, h => absurd rfl h
  | [a], y, _ => rfl
  | a :: b :: r, y, _ => by
    show a ++ sep ++ Str.join sep (b :: r ++ [y]) = (a ++ sep ++ Str.join sep (b :: r)) ++ sep ++ y
    rw [join_snoc sep (b :: r) y (by simp)]
    simp only [Str.append_assoc]
theorem sh_snoc (n : Nat) (ps : List (Nat × Nat)) (p : Nat × Nat) : shS n (ps ++ [p]) = shS n ps ++ Str.ofString " " ++ ptx p := by
  unfold shS
  rw [List.map_append, List.map_cons, List.map_nil, ← List.cons_append, join_snoc _ _ _ (by simp)]
theorem sum_len {ps : List (Nat × Nat)} (h : ∀ p ∈ ps, p.1 < 17 ∧ p.2 < 17) : ((ps.map ptx).map (·.length)).sum ≤ 5 * ps.length := by
  induction ps with
  | nil => simp
  | cons p ps ih =>
    have := ih fun q hq => h q (List.mem_cons_of_mem _ hq)
    have := (ptx_ok (h p (by simp)).1 (h p (by simp)).2).2
    simp only [List.map_cons, List.sum_cons, List.length_cons]
    omega
theorem join_len (a : Str) : ∀ ws : List Str, (Str.join a ws).length ≤ (ws.map (·.length)).sum + ws.length * a.length := by
  intro ws
  induction ws with
  | nil => simp [Str.join, Str.empty, Str.length]
  | cons w ws ih =>
    cases ws with
    | nil => simp [Str.join]
    | cons w2 ws =>
      show (w ++ a ++ Str.join a (w2 :: ws)).length ≤ _
      rw [Str.length_append, Str.length_append]
      simp only [List.map_cons, List.sum_cons, List.length_cons] at ih ⊢
      rw [Nat.succ_mul]
      omega
theorem sh_len {n : Nat} (hn : n < 17) {ps : List (Nat × Nat)} (h : ∀ p ∈ ps, p.1 < 17 ∧ p.2 < 17) : (shS n ps).length ≤ 4 + 6 * ps.length := by
  have h1 := join_len (Str.ofString " ") (hdS n :: ps.map ptx)
  have h2 := sum_len h
  have h3 := (hd_ok n hn).2
  have c2 : (Str.ofString " ").length = 1 := by decide
  rw [c2, List.map_cons, List.sum_cons, List.length_cons, List.length_map] at h1
  unfold shS
  omega
end MJ
namespace MJ
open PySem L2
section
variable {P : Program} {w : World} {K : PySem.W.Frag} {mg : Str → Option Value} {base : Heap} {C oE x1 x2 x3 x4 x5 x6 x7 x8 : Addr}
/-! ### check_many, refusing -/
inductive Sp_check_manyX (x1 : Addr) (vs : List V) (H : Hp) (Q : VK) (E : XK) : Prop where | mk (n : Int) (h0 : vs = [.int n]) (h1 : ¬ (1 ≤ n ∧ n ≤ 16)) (h2 : E (.ref x1) none H) : Sp_check_manyX x1 vs H Q E
def sp_check_manyX (x1 : Addr) : Sp := fun vs H Q E => Sp_check_manyX x1 vs H Q E
theorem ok_check_manyY {f : Addr} {fd : FuncData} (F : Fun K "check_many" "check_many" s_check_many f fd) (T : Txt K mg C) (TX : TxtN K mg oE x1 x2 x3 x4 x5 x6 x7 x8) : FnOk P w K mg base (CX2 P w) 1 f fd ["many"] (sp_check_manyX x1) := by
  refine F.okX sc_check_many (fun vs H Q E h => ?_) (fun cdv A outer s H vs Q E hr h => ?_)
  · obtain ⟨n, rfl, _⟩ := h
    rfl
  · obtain ⟨n, rfl, hn, k⟩ := h
    refine ⟨_, (pss_one (ps_if (PW.pt (pw_or (pt_cmpR op_lt (pv 0) pe_int (nomark _)) (pw_or1 (pt_cmpR op_gt (pv 0) (pe_globI rfl T.MOST_THINGS) (nomark _))))) (pss_one (ps_raise thrown2 rfl rfl TX.BadThings TX.eBadThings (pa_cons (pe_fstr3 (pe_globI rfl T.MOST_THINGS)) pa_nil))) pss_nil)), ?_⟩
    refine ⟨_, rfl, _, _, rfl, rfl, _, rfl, ?_⟩
    refine ite2 (fun h => ?_) (fun h => ?_)
    · exact ⟨16, rfl, by decide +kernel, by decide +kernel, by decide +kernel, by decide, k⟩
    · have h' : ¬ n < 1 := by simpa using h
      refine ⟨_, rfl, _, _, rfl, rfl, _, rfl, ?_⟩
      refine ite2 (fun h => ?_) (fun h => ?_)
      · exact ⟨16, rfl, by decide +kernel, by decide +kernel, by decide +kernel, by decide, k⟩
      · exfalso
        have h2 : ¬ (16 : Int) < n := by simpa using h
        omega
/-! ### check_pairs, refusing -/
/-- pairs of whole numbers -/
structure TupsI (H : Hp) (ts : List Addr) (qs : List (Int × Int)) : Prop where
  len : ts.length = qs.length
  at_ : ∀ (i : Nat) (t : Addr) (q : Int × Int), ts[i]? = some t → qs[i]? = some q → H t = some (.tup [.int q.1, .int q.2])
theorem TupsI.get {H : Hp} {ts : List Addr} {ps : List (Int × Int)} (T : TupsI H ts ps) {i : Nat} {x : V} (h : (ts.map V.ref)[i]? = some x) : ∃ t p, x = .ref t ∧ ts[i]? = some t ∧ ps[i]? = some p ∧ H t = some (.tup [.int p.1, .int p.2]) := by
  rw [List.getElem?_map] at h
  cases e : ts[i]? with
  | none => rw [e] at h; cases h
  | some t =>
    rw [e] at h
    have hi : i < ps.length := T.len ▸ (List.getElem?_eq_some_iff.mp e).1
    exact ⟨t, ps[i], (Option.some.inj h).symm, rfl, List.getElem?_eq_getElem hi, T.at_ i t _ e (List.getElem?_eq_getElem hi)⟩
def PairsI (H : Hp) (l : Addr) (qs : List (Int × Int)) : Prop := ∃ ts, H l = some (.lst (ts.map V.ref)) ∧ TupsI H ts qs
def inI (n : Int) (q : Int × Int) : Prop := (0 ≤ q.1 ∧ q.1 < n) ∧ (0 ≤ q.2 ∧ q.2 < n)
inductive Sp_check_pairsX (x2 : Addr) (vs : List V) (H : Hp) (Q : VK) (E : XK) : Prop where | mk (n : Int) (l : Addr) (qs : List (Int × Int)) (h0 : vs = [.int n, .ref l]) (h1 : PairsI H l qs) (h2 : (60 < qs.length ∨ ∃ q ∈ qs, ¬ inI n q)) (h3 : E (.ref x2) none H) : Sp_check_pairsX x2 vs H Q E
def sp_check_pairsX (x2 : Addr) : Sp := fun vs H Q E => Sp_check_pairsX x2 vs H Q E
theorem ok_check_pairsY {f : Addr} {fd : FuncData} (F : Fun K "check_pairs" "check_pairs" s_check_pairs f fd) (T : Txt K mg C) (TX : TxtN K mg oE x1 x2 x3 x4 x5 x6 x7 x8) (c_is_thing : FnG P w K mg base "is_thing" 1 ["many", "a"] sp_is_thing) :
    FnOk P w K mg base (CX2 P w) 2 f fd ["many", "pairs"] (sp_check_pairsX x2) := by
  refine F.okX sc_check_pairs (fun vs H Q E h => ?_) (fun cdv A outer s H vs Q E hr h => ?_)
  · obtain ⟨n, l, qs, rfl, _⟩ := h
    rfl
  · obtain ⟨n, l, qs, rfl, ⟨ts, hl, hT⟩, hb, k⟩ := h
    have nd := sc_check_pairs.nd
    refine ⟨_, (pss_cons (ps_if (pt_cmpR op_gt (pe_callB call_len_seq (by rfl) T.len PySem.boot_len (pa_cons (pv 1) pa_nil)) (pe_globI rfl T.MOST_PAIRS) (nomark _)) (pss_one (ps_raise thrown2 rfl rfl TX.BadPair TX.eBadPair (pa_cons (pe_fstr3 (pe_globI rfl T.MOST_PAIRS)) pa_nil))) pss_nil)
  (pss_one (ps_for PassesOwn.leaving rfl (pi_list (pv 1)) (pg_tup rfl (pgs_cons (pg_name (i := 2) nd rfl (Or.inl rfl)) (pgs_cons (pg_name (i := 3) nd rfl (Or.inl rfl)) pgs_nil))) (pss_one (ps_if (PW.pt (pw_or (pt_not (pt_val (pe_callG c_is_thing (hr.mono (by decide)) rfl (pa_cons (pv 0) (pa_cons (pv 2) pa_nil))))) (pw_or1 (pt_not (pt_val (pe_callG c_is_thing (hr.mono (by decide)) rfl (pa_cons (pv 0) (pa_cons (pv 3) pa_nil)))))))) (pss_one (ps_raise thrown2 rfl rfl TX.BadPair TX.eBadPair (pa_cons pe_str pa_nil))) pss_nil))))), ?_⟩
    refine ⟨_, rfl, l, _, rfl, .inl (SqL.of hl), _, _, rfl, rfl, _, rfl, ?_⟩
    refine ite2 (fun h => ?_) (fun h => ?_)
    · exact ⟨60, rfl, by decide +kernel, by decide +kernel, by decide +kernel, by decide, k⟩
    · have hlen : ¬ 60 < qs.length := by
        have h' : ¬ (60 : Int) < ((ts.map V.ref).length : Nat) := by simpa using h
        rw [List.length_map, hT.len] at h'
        omega
      have hb' : ∃ q ∈ qs, ¬ inI n q := hb.resolve_left hlen
      refine ⟨_, rfl, l, rfl, ⟨_, SqL.of hl⟩, for_list (K := K) (a := l) (xs := ts.map V.ref) (fun i σ H' => H' = H ∧ (∀ j q, j < i → qs[j]? = some q → inI n q) ∧ ∃ x y, σ = [some (.int n), some (.ref l), x, y]) ⟨rfl, fun j q hj => absurd hj (Nat.not_lt_zero _), _, _, rfl⟩ (fun i σ H' _ ⟨e, _⟩ => e ▸ SqL.of hl) ?_ ?_⟩
      · rintro i y σ H' hi ⟨rfl, hok, x0, y0, rfl⟩
        obtain ⟨t, p, rfl, e1, e2, ht⟩ := hT.get hi
        refine ⟨t, _, rfl, SqT.of ht, rfl, _, _, rfl, _, _, rfl, rfl, ?_⟩
        refine ⟨_, rfl, _, rfl, _, _, rfl, _, rfl, ?_⟩
        by_cases h1 : 0 ≤ p.1 ∧ p.1 < n
        · rw [decide_eq_true h1]
          refine ⟨_, rfl, _, rfl, _, _, rfl, _, rfl, ?_⟩
          by_cases h2 : 0 ≤ p.2 ∧ p.2 < n
          · rw [decide_eq_true h2]
            refine ⟨rfl, fun j q hj hq => ?_, _, _, rfl⟩
            by_cases e : j = i
            · subst e
              rw [e2] at hq
              cases hq
              exact ⟨h1, h2⟩
            · exact hok j q (by omega) hq
          · rw [decide_eq_false h2]
            exact ⟨by decide, k⟩
        · rw [decide_eq_false h1]
          exact ⟨by decide, k⟩
      · rintro σ H' ⟨rfl, hok, _⟩
        exfalso
        obtain ⟨q, hq, hn⟩ := hb'
        obtain ⟨j, hj, e⟩ := List.mem_iff_getElem.mp hq
        exact hn (hok j q (by rw [List.length_map, hT.len]; exact hj) (by rw [List.getElem?_eq_getElem hj, e]))
/-! ### check_rings, refusing -/
inductive Sp_check_ringsX (x3 : Addr) (vs : List V) (H : Hp) (Q : VK) (E : XK) : Prop where | mk (r : Addr) (n : Nat) (m : Tab) (rs : List Addr) (h0 : vs = [vI n, .ref r]) (h1 : RowsAt H r n m rs) (h2 : n ≤ 16) (h3 : (∃ a b, a < n ∧ b < a ∧ m a b = true ∧ m b a = true)) (h4 : E (.ref x3) none H) : Sp_check_ringsX x3 vs H Q E
def sp_check_ringsX (x3 : Addr) : Sp := fun vs H Q E => Sp_check_ringsX x3 vs H Q E
theorem ok_check_ringsY {f : Addr} {fd : FuncData} (F : Fun K "check_rings" "check_rings" s_check_rings f fd) (T : Txt K mg C) (TX : TxtN K mg oE x1 x2 x3 x4 x5 x6 x7 x8) : FnOk P w K mg base (CX2 P w) 1 f fd ["many", "rows"] (sp_check_ringsX x3) := by
  refine F.okX sc_check_rings (fun vs H Q E h => ?_) (fun cdv A outer s H vs Q E hr h => ?_)
  · obtain ⟨r, n, m, rs, rfl, _⟩ := h
    rfl
  · obtain ⟨r, n, m, rs, rfl, R, h16, hb, k⟩ := h
    have nd := sc_check_rings.nd
    refine ⟨_, (pss_one (ps_for PassesOwn.leaving rfl (pi_range1 rfl T.range (pa_cons (pv 0) pa_nil)) (pg_name (i := 2) nd rfl (Or.inl rfl)) (pss_one (ps_for PassesOwn.leaving rfl (pi_range1 rfl T.range (pa_cons (pv 2) pa_nil)) (pg_name (i := 3) nd rfl (Or.inl rfl)) (pss_one (ps_if (PW.pt (pw_and (pt_val (pe_ix ix_list (pe_ix ix_list (pv 1) (pv 2) (fun _ _ => rfl)) (pv 3) (fun _ _ => rfl))) (pw_and1 (pt_val (pe_ix ix_list (pe_ix ix_list (pv 1) (pv 3) (fun _ _ => rfl)) (pv 2) (fun _ _ => rfl)))))) (pss_one (ps_raise thrown2 rfl rfl TX.Ring TX.eRing (pa_cons pe_str pa_nil))) pss_nil)))))), ?_⟩
    refine ⟨_, rfl, (n : Int), rfl, by omega, by omega, for_range (lo := 0) (n := n) (fun i σ H' => ∃ x y, σ = [some (vI n), some (.ref r), x, y] ∧ H' = H ∧ ∀ a b, a < i → b < a → ¬ (m a b = true ∧ m b a = true)) ⟨none, none, rfl, rfl, fun a b ha => absurd ha (Nat.not_lt_zero _)⟩ ?_ ?_⟩
    · rintro i σ H1 hi ⟨x, y, rfl, rfl, no⟩
      rw [Int.zero_add]
      refine ⟨_, rfl, (i : Int), rfl, by omega, by omega, for_range (lo := 0) (n := i) (fun j σ H' => ∃ y, σ = [some (vI n), some (.ref r), some (vI i), y] ∧ H' = H1 ∧ ∀ b, b < j → ¬ (m i b = true ∧ m b i = true)) ⟨y, rfl, rfl, fun b hb => absurd hb (Nat.not_lt_zero _)⟩ ?_ ?_⟩
      · rintro j σ H2 hj ⟨y2, rfl, rfl, no2⟩
        rw [Int.zero_add]
        have hjn : j < n := by omega
        obtain ⟨ri, ei, mi, hri⟩ := R.at_ hi
        obtain ⟨rj, ej, mj, hrj⟩ := R.at_ hjn
        have next : ¬ (m i j = true ∧ m j i = true) → ∀ b, b < j + 1 → ¬ (m i b = true ∧ m b i = true) := fun z b hb => by
          by_cases e : b = j
          · subst e; exact z
          · exact no2 b (by omega)
        refine ⟨_, rfl, _, rfl, r, _, _, _, rfl, rfl, SqL.of R.lst, atI_nat mi, _, rfl, ri, _, _, _, rfl, rfl, SqL.of hri, atI_nat (rowV_at hjn), _, rfl, ?_⟩
        refine ite2 (fun h => ?_) (fun h => ?_)
        · refine ⟨_, rfl, _, rfl, r, _, _, _, rfl, rfl, SqL.of R.lst, atI_nat mj, _, rfl, rj, _, _, _, rfl, rfl, SqL.of hrj, atI_nat (rowV_at hi), _, rfl, ?_⟩
          refine ite2 (fun h' => ?_) (fun h' => ?_)
          · exact ⟨by decide, k⟩
          · exact ⟨_, rfl, rfl, next fun z => h' z.2⟩
        · exact ⟨_, rfl, rfl, next fun z => h z.1⟩
      · rintro σ H2 ⟨y2, rfl, rfl, no2⟩
        refine ⟨_, _, rfl, rfl, fun a b ha hb => ?_⟩
        by_cases e : a = i
        · subst e; exact no2 b hb
        · exact no a b (by omega) hb
    · rintro σ H1 ⟨x, y, rfl, rfl, no⟩
      obtain ⟨a, b, ha, hb', h1, h2⟩ := hb
      exact absurd ⟨h1, h2⟩ (no a b ha hb')
/-! ### Order.__init__, refusing -/
def castP (p : Nat × Nat) : Int × Int := ((p.1 : Int), (p.2 : Int))
theorem Tups.toI {H : Hp} {ts : List Addr} {ps : List (Nat × Nat)} (T : Tups H ts ps) : TupsI H ts (ps.map castP) := by
  refine ⟨by rw [List.length_map]; exact T.len, fun i t q a b => ?_⟩
  rw [List.getElem?_map] at b
  cases e : ps[i]? with
  | none => rw [e] at b; cases b
  | some p =>
    rw [e] at b
    cases b
    exact T.at_ i t p a e
theorem TupsI.toN {H : Hp} {ts : List Addr} {ps : List (Nat × Nat)} (T : TupsI H ts (ps.map castP)) : Tups H ts ps := by
  refine ⟨by have := T.len; rwa [List.length_map] at this, fun i t p a b => ?_⟩
  exact T.at_ i t (castP p) a (by rw [List.getElem?_map, b]; rfl)
/-- what comes of the making: by which class it is refused -/
inductive Out (x1 x2 x3 : Addr) (n : Int) (qs : List (Int × Int)) : Addr → Prop
  | many (h : ¬ (1 ≤ n ∧ n ≤ 16)) : Out x1 x2 x3 n qs x1
  | pair (h : 1 ≤ n ∧ n ≤ 16) (b : 60 < qs.length ∨ ∃ q ∈ qs, ¬ inI n q) : Out x1 x2 x3 n qs x2
  | ring (m : Nat) (ps : List (Nat × Nat)) (e1 : n = m) (e2 : qs = ps.map castP) (h : 1 ≤ m ∧ m ≤ 16) (l : ps.length ≤ 60) (lt : ∀ p ∈ ps, p.1 < m ∧ p.2 < m) (a b : Nat) (ha : a < m) (hb : b < a) (r1 : Rch ps a b) (r2 : Rch ps b a) : Out x1 x2 x3 n qs x3
inductive Sp_initX (C x1 x2 x3 : Addr) (vs : List V) (H : Hp) (Q : VK) (E : XK) : Prop where | mk (p dx l D : Addr) (n : Int) (qs : List (Int × Int)) (h0 : vs = [.ref p, .int n, .ref l]) (h1 : H p = some (.ins C dx [])) (h2 : PairsI H l qs) (h3 : Out x1 x2 x3 n qs D) (h4 : ∀ H' : Hp, But p H H' → E (.ref D) none H') : Sp_initX C x1 x2 x3 vs H Q E
def sp_initX (C x1 x2 x3 : Addr) : Sp := fun vs H Q E => Sp_initX C x1 x2 x3 vs H Q E
theorem ok_initY {f : Addr} {fd : FuncData} (F : Fun K "__init__" "Order.__init__" s_Order___init__ f fd) (T : Txt K mg C) (c_check_many : FnG P w K mg base "check_many" 1 ["many"] sp_check_many) (c_check_pairs : FnG P w K mg base "check_pairs" 2 ["many", "pairs"] sp_check_pairs)
    (c_told_rows : FnG P w K mg base "told_rows" 1 ["many", "pairs"] sp_told_rows) (c_close_rows : FnG P w K mg base "close_rows" 2 ["many", "rows"] sp_close_rows) (c_check_rings : FnG P w K mg base "check_rings" 1 ["many", "rows"] sp_check_rings)
    (c_check_manyY : FnY P w K mg base "check_many" 1 ["many"] (sp_check_manyX x1)) (c_check_pairsY : FnY P w K mg base "check_pairs" 2 ["many", "pairs"] (sp_check_pairsX x2)) (c_check_ringsY : FnY P w K mg base "check_rings" 1 ["many", "rows"] (sp_check_ringsX x3)) :
    FnOk P w K mg base (CX2 P w) 3 f fd ["self", "many", "pairs"] (sp_initX C x1 x2 x3) := by
  refine F.okX sc_Order___init__ (fun vs H Q E h => ?_) (fun cdv A outer s H vs Q E hr h => ?_)
  · obtain ⟨p, dx, l, D, n, qs, rfl, _⟩ := h
    rfl
  · obtain ⟨p, dx, l, D, n, qs, rfl, hp, hP, o, k⟩ := h
    have nd := sc_Order___init__.nd
    cases o with
    | many h =>
      refine ⟨_, (pss_cons (ps_expr (pe_callY c_check_manyY pass2 (hr.mono (by decide)) rfl (pa_cons (pv 1) pa_nil)))
  (pss_cons (ps_expr (pe_callG c_check_pairs (hr.mono (by decide)) rfl (pa_cons (pv 1) (pa_cons (pv 2) pa_nil))))
  (pss_cons (ps_set (i := 3) nd rfl (Or.inl rfl) (pe_callG c_told_rows (hr.mono (by decide)) rfl (pa_cons (pv 1) (pa_cons (pv 2) pa_nil))))
  (pss_cons (ps_expr (pe_callG c_close_rows (hr.mono (by decide)) rfl (pa_cons (pv 1) (pa_cons (pv 3) pa_nil))))
  (pss_cons (ps_expr (pe_callG c_check_rings (hr.mono (by decide)) rfl (pa_cons (pv 1) (pa_cons (pv 3) pa_nil))))
  (pss_one (ps_fld (pv 0) (pe_callTy call_tuple_of (by rfl) T.tuple bt_tuple (pa_cons (pe_comp [none] ["row"] (defScope s_Order___init__) ["self", "many", "pairs", "rows"] (by decide +kernel) rfl (pi_list (pv 3)) (fun _ _ _ _ _ _ => pg_name (i := 0) (show List.Nodup (["row"] : List Str) by decide +kernel) rfl (Or.inl rfl)) (fun _ _ _ _ _ _ => pifs_nil) (fun _ _ _ _ _ _ => pe_callTy (call_tuple_ofK (K := K) rfl) (by rfl) T.tuple bt_tuple (pa_cons (pv 0) pa_nil))) pa_nil)) rfl))))))), ?_⟩
      exact ⟨_, rfl, n, rfl, h, k H (But.refl p H)⟩
    | pair h b =>
      refine ⟨_, (pss_cons (ps_expr (pe_callG c_check_many (hr.mono (by decide)) rfl (pa_cons (pv 1) pa_nil)))
  (pss_cons (ps_expr (pe_callY c_check_pairsY pass2 (hr.mono (by decide)) rfl (pa_cons (pv 1) (pa_cons (pv 2) pa_nil))))
  (pss_cons (ps_set (i := 3) nd rfl (Or.inl rfl) (pe_callG c_told_rows (hr.mono (by decide)) rfl (pa_cons (pv 1) (pa_cons (pv 2) pa_nil))))
  (pss_cons (ps_expr (pe_callG c_close_rows (hr.mono (by decide)) rfl (pa_cons (pv 1) (pa_cons (pv 3) pa_nil))))
  (pss_cons (ps_expr (pe_callG c_check_rings (hr.mono (by decide)) rfl (pa_cons (pv 1) (pa_cons (pv 3) pa_nil))))
  (pss_one (ps_fld (pv 0) (pe_callTy call_tuple_of (by rfl) T.tuple bt_tuple (pa_cons (pe_comp [none] ["row"] (defScope s_Order___init__) ["self", "many", "pairs", "rows"] (by decide +kernel) rfl (pi_list (pv 3)) (fun _ _ _ _ _ _ => pg_name (i := 0) (show List.Nodup (["row"] : List Str) by decide +kernel) rfl (Or.inl rfl)) (fun _ _ _ _ _ _ => pifs_nil) (fun _ _ _ _ _ _ => pe_callTy (call_tuple_ofK (K := K) rfl) (by rfl) T.tuple bt_tuple (pa_cons (pv 0) pa_nil))) pa_nil)) rfl))))))), ?_⟩
      obtain ⟨h1, h16⟩ := h
      obtain ⟨m, rfl⟩ := Int.eq_ofNat_of_zero_le (show 0 ≤ n by omega)
      refine ⟨_, rfl, m, rfl, by omega, by omega, ?_⟩
      exact ⟨_, rfl, _, rfl, (m : Int), l, qs, rfl, hP, b, k H (But.refl p H)⟩
    | ring m ps e1 e2 h60 hl lt a b ha hb r1 r2 =>
      refine ⟨_, (pss_cons (ps_expr (pe_callG c_check_many (hr.mono (by decide)) rfl (pa_cons (pv 1) pa_nil)))
  (pss_cons (ps_expr (pe_callG c_check_pairs (hr.mono (by decide)) rfl (pa_cons (pv 1) (pa_cons (pv 2) pa_nil))))
  (pss_cons (ps_set (i := 3) nd rfl (Or.inl rfl) (pe_callG c_told_rows (hr.mono (by decide)) rfl (pa_cons (pv 1) (pa_cons (pv 2) pa_nil))))
  (pss_cons (ps_expr (pe_callG c_close_rows (hr.mono (by decide)) rfl (pa_cons (pv 1) (pa_cons (pv 3) pa_nil))))
  (pss_cons (ps_expr (pe_callY c_check_ringsY pass2 (hr.mono (by decide)) rfl (pa_cons (pv 1) (pa_cons (pv 3) pa_nil))))
  (pss_one (ps_fld (pv 0) (pe_callTy call_tuple_of (by rfl) T.tuple bt_tuple (pa_cons (pe_comp [none] ["row"] (defScope s_Order___init__) ["self", "many", "pairs", "rows"] (by decide +kernel) rfl (pi_list (pv 3)) (fun _ _ _ _ _ _ => pg_name (i := 0) (show List.Nodup (["row"] : List Str) by decide +kernel) rfl (Or.inl rfl)) (fun _ _ _ _ _ _ => pifs_nil) (fun _ _ _ _ _ _ => pe_callTy (call_tuple_ofK (K := K) rfl) (by rfl) T.tuple bt_tuple (pa_cons (pv 0) pa_nil))) pa_nil)) rfl))))))), ?_⟩
      subst e1
      subst e2
      obtain ⟨h1, h16⟩ := h60
      have hP' : PairsAt H l ps := by
        obtain ⟨ts, z1, z2⟩ := hP
        exact ⟨ts, z1, z2.toN⟩
      refine ⟨_, rfl, m, rfl, h1, h16, ?_⟩
      refine ⟨_, rfl, _, rfl, m, l, ps, rfl, hP', hl, lt, ?_⟩
      refine ⟨_, rfl, _, rfl, m, l, ps, rfl, hP', h16, lt, fun r rs H1 s1 hr0 R1 => ?_⟩
      refine ⟨_, rfl, _, rfl, r, m, _, rs, rfl, R1, h16, fun rs2 H2 b2 R2 => ?_⟩
      have s2 : Same H H2 := b2.same s1 hr0
      exact ⟨_, rfl, _, rfl, r, m, _, rs2, rfl, R2, h16, ⟨a, b, ha, hb, (clo_iff lt).mpr r1, (clo_iff lt).mpr r2⟩, k H2 (But.of s2)⟩
end
end MJ
namespace MJ
open PySem L2
theorem sz {k : Nat} (h : k ≤ 100000) : k ≤ sizeLine := by rw [PySem.sizeLine_eq]; omega
theorem str_map_at {ws : List Str} {i : Nat} {y : V} (h : (ws.map V.str)[i]? = some y) : ∃ w, ws[i]? = some w ∧ y = .str w := by
  rw [List.getElem?_map] at h
  cases e : ws[i]? with
  | none => rw [e] at h; cases h
  | some w => rw [e] at h; exact ⟨w, rfl, (Option.some.inj h).symm⟩
theorem num_len {k : Nat} (h : k < 17) : (num k).length ≤ 2 := (num_ok k h).2.2.1
theorem ofS_len1 : (Str.ofString "<").length = 1 ∧ (Str.ofString ":").length = 1 ∧ (Str.ofString " ").length = 1 := by decide
theorem dec_str (a b : Str) : decide (V.str a = V.str b) = (a == b) := by
  rw [Bool.eq_iff_iff]
  simp
theorem cut_drop1 (xs : List V) : cutV xs (some 1) none = xs.drop 1 := by
  cases xs with
  | nil => rfl
  | cons a r =>
    unfold cutV
    simp [HT.sIx]
section
variable {P : Program} {w : World} {K : PySem.W.Frag} {mg : Str → Option Value} {base : Heap} {C oE x1 x2 x3 x4 x5 x6 x7 x8 : Addr}
/-! ### pair_text -/
inductive Sp_pair_text (vs : List V) (H : Hp) (Q : VK) (E : XK) : Prop where | mk (a b : Nat) (h0 : vs = [vI a, vI b]) (h1 : a < 17) (h2 : b < 17) (h3 : Q (.str (ptx (a, b))) H) : Sp_pair_text  vs H Q E
def sp_pair_text : Sp := fun vs H Q E => Sp_pair_text  vs H Q E
theorem sc_pair_text : FnScope ["a", "b"] ["a", "b"] (defScope s_pair_text) := ⟨rfl, rfl, rfl, by decide +kernel, rfl, by decide +kernel, by decide +kernel⟩
theorem ok_pair_text {f : Addr} {fd : FuncData} (F : Fun K "pair_text" "pair_text" s_pair_text f fd) (T : Txt K mg C) : FnOk P w K mg base CX0 1 f fd ["a", "b"] sp_pair_text := by
  refine F.ok sc_pair_text (fun vs H Q E h => ?_) (fun cdv A outer s H vs Q E hr h => ?_)
  · obtain ⟨a, b, rfl, _⟩ := h
    rfl
  · obtain ⟨a, b, rfl, ha, hb, k⟩ := h
    have la := num_len ha
    have lb : (Str.ofString (toString (b : Int))).length ≤ 2 := num_len hb
    have e0 : Str.empty ++ num a = num a := Str.empty_append _
    refine ⟨_, (pss_one (ps_ret (pe_fstrP (pv 0) (pv 1)))), ?_⟩
    refine ⟨_, rfl, (a : Int), rfl, (num_ok a ha).2.2.2, ?_, ?_, _, rfl, (b : Int), rfl, (num_ok b hb).2.2.2, ?_, ?_⟩
    · rw [e0]
      exact sz (by omega)
    · rw [e0, Str.length_append, ofS_len1.1]
      exact sz (by omega)
    · rw [e0, Str.length_append, Str.length_append, ofS_len1.1]
      exact sz (by omega)
    · rw [e0]
      exact k
/-! ### shown -/
inductive Sp_shown (C : Addr) (vs : List V) (H : Hp) (Q : VK) (E : XK) : Prop where | mk (p : Addr) (n : Nat) (m : Tab) (h0 : vs = [.ref p]) (h1 : OrdAt C H p n m) (h2 : n ≤ 16) (h3 : ∀ H', Same H H' → Q (.str (shS n (cov n m))) H') : Sp_shown C vs H Q E
def sp_shown (C : Addr) : Sp := fun vs H Q E => Sp_shown C vs H Q E
theorem sc_shown : FnScope ["order", "many"] ["order"] (defScope s_shown) := ⟨rfl, rfl, rfl, by decide +kernel, rfl, by decide +kernel, by decide +kernel⟩
set_option maxHeartbeats 0 in
theorem ok_shown {f : Addr} {fd : FuncData} (F : Fun K "shown" "shown" s_shown f fd) (T : Txt K mg C) (c_many : MtG P w K mg base C "many" 1 ["self"] (sp_many C)) (c_right_below : MtG P w K mg base C "right_below" 3 ["self"] (sp_right_below C)) (c_pair_text : FnG P w K mg base "pair_text" 1 ["a", "b"] sp_pair_text) :
    FnOk P w K mg base CX0 4 f fd ["order"] (sp_shown C) := by
  refine F.ok sc_shown (fun vs H Q E h => ?_) (fun cdv A outer s H vs Q E hr h => ?_)
  · obtain ⟨p, n, m, rfl, _⟩ := h
    rfl
  · obtain ⟨p, n, m, rfl, O, h16, k⟩ := h
    have nd := sc_shown.nd
    obtain ⟨dx, t, ts, g1, g2, g3⟩ := O.row
    have hn : n < 17 := by omega
    have ln := num_len hn
    have e0 : Str.empty ++ num n = num n := Str.empty_append _
    have clen : (cov n m).length ≤ 256 := by
      have := covTo_length n m n
      have : n * n ≤ 16 * 16 := Nat.mul_le_mul h16 h16
      show (covTo n m n).length ≤ 256
      omega
    have cl : ∀ p ∈ cov n m, p.1 < 17 ∧ p.2 < 17 := fun p hp => by
      have := cov_lt p hp
      omega
    refine ⟨_, (pss_cons (ps_set (i := 1) nd rfl (Or.inl rfl) (pe_methG0 (pv 0) T.cOrder c_many (hr.mono (by decide))))
  (pss_one (ps_ret (pe_bm PySem.F.plainAttrs_str PySem.F.slot_str_join PySem.F.type_str_join mt_join pe_str (pa_cons (pe_op op_cat (pe_lst (pa_cons (pe_fstr2 (pv 1)) pa_nil)) (pe_comp [none, none] ["a", "b"] (defScope s_shown) ["order", "many"] (by decide +kernel) rfl (pi_list (pe_methG0 (pv 0) T.cOrder c_right_below (hr.mono (by decide)))) (fun _ _ _ _ _ _ => pg_tupK (K := K) (n := 2) rfl rfl (pgs_cons (pg_name (i := 0) (show List.Nodup (["a", "b"] : List Str) by decide +kernel) rfl (Or.inl rfl)) (pgs_cons (pg_name (i := 1) (show List.Nodup (["a", "b"] : List Str) by decide +kernel) rfl (Or.inl rfl)) pgs_nil))) (fun _ _ _ _ _ _ => pifs_nil) (fun _ _ _ _ _ _ => pe_callG c_pair_text (hr.mono (by decide)) rfl (pa_cons (pv 0) (pa_cons (pv 1) pa_nil))))) pa_nil))))), ?_⟩
    refine ⟨_, rfl, p, dx, _, rfl, g1, tab_no t (by decide +kernel), p, n, m, rfl, O, ?_⟩
    refine ⟨rfl, _, rfl, (n : Int), rfl, (num_ok n hn).2.2.2, ?_, ?_, by show 1 ≤ sizeLine; decide, fun hl hhl => ?_⟩
    · rw [e0]
      exact sz (by omega)
    · rw [e0, Str.length_append, ofS_len1.2.1]
      exact sz (by omega)
    have eh : num n ++ Str.ofString ":" = hdS n := rfl
    rw [e0, eh]
    have s1 : Same H (upd H hl (.lst [.str (hdS n)])) := same_new hhl
    have hh1 : (upd H hl (.lst [.str (hdS n)])) hl = some (.lst [.str (hdS n)]) := upd_same
    have O1 := O.mono s1
    generalize upd H hl (.lst [.str (hdS n)]) = H1 at s1 hh1 O1
    refine ⟨_, rfl, p, dx, _, rfl, s1 _ _ g1, tab_no t (by decide +kernel), p, n, m, rfl, O1, h16, fun l H2 s2 hl2 P2 => ?_⟩
    obtain ⟨us0, hl2', hT2⟩ := id P2
    have tlen : (us0.map V.ref).length = (cov n m).length := by rw [List.length_map, hT2.len]
    refine ⟨l, rfl, ⟨_, SqL.of hl2'⟩, fun q hq => ?_⟩
    have sq : ∀ ys, Same H2 (upd H2 q (.lst ys)) := fun ys => same_new hq
    refine comp_list (K := K) (a := l) (xs := us0.map V.ref) (fun σ => ∃ x y, σ = [x, y]) (fun j ys H' => ys = (((cov n m).take j).map ptx).map V.str ∧ H' = upd H2 q (.lst ys)) ⟨none, none, rfl⟩ ⟨rfl, rfl⟩ ?_ ?_ ?_ ?_
    · rw [tlen]
      exact small1000 (by omega)
    · rintro j ys H' _ ⟨e, rfl⟩
      refine ⟨upd_same, ?_, SqL.of (sq ys _ _ hl2')⟩
      rw [e, List.length_map, List.length_map, List.length_take]
      exact Nat.min_le_left _ _
    · rintro j x σ ys H' hx ⟨x0, y0, rfl⟩ ⟨e, rfl⟩
      obtain ⟨u, pr, rfl, e1, e2, hu⟩ := (hT2.mono (sq ys)).get hx
      have hp := cl pr (List.mem_of_getElem? e2)
      refine ⟨u, _, rfl, SqT.of hu, rfl, _, _, rfl, _, _, rfl, rfl, ?_⟩
      refine ⟨_, rfl, _, rfl, pr.1, pr.2, rfl, hp.1, hp.2, upd_same, ⟨_, _, rfl⟩, ?_, by rw [upd_upd]⟩
      rw [e, take_snoc e2, List.map_append, List.map_append]
      rfl
    · rintro ys H' ⟨e, rfl⟩
      rw [tlen, List.take_length] at e
      subst e
      have hh2 := sq (((cov n m).map ptx).map V.str) _ _ (s2 _ _ hh1)
      refine ⟨hl, q, _, _, rfl, rfl, hh2, upd_same, ?_, fun r hr0 => ?_⟩
      · rw [List.length_map, List.length_map]
        show 1 + (cov n m).length ≤ sizeLine
        exact sz (by omega)
      refine ⟨_, r, hdS n :: (cov n m).map ptx, rfl, rfl, SqL.of upd_same, ?_, ?_⟩
      · have := sum_len cl
        have := (hd_ok n hn).2
        have := ofS_len1.2.2
        rw [this]
        simp only [List.map_cons, List.sum_cons, List.length_cons, List.length_map] at *
        omega
      · exact k _ (((s1.trans s2).trans (sq _)).step hr0)
end
end MJ
namespace MJ
open PySem L2
theorem numOf_none {w : Str} (h : ∀ j, j < 17 → ¬ (w == num j) = true) : numOf w = none := by
  unfold numOf
  rw [List.find?_eq_none]
  intro j hj
  exact h j (List.mem_range.mp hj)
theorem numOf_at {w : Str} {i : Nat} (hi : i < 17) (h : (w == num i) = true) : numOf w = some i := by
  have : w = num i := eq_of_beq h
  rw [this]
  exact numOf_num i hi
section
variable {P : Program} {w : World} {K : PySem.W.Frag} {mg : Str → Option Value} {base : Heap} {C oE x1 x2 x3 x4 x5 x6 x7 x8 : Addr}
/-! ### read_number -/
inductive Sp_read_numberX (x8 : Addr) (vs : List V) (H : Hp) (Q : VK) (E : XK) : Prop where | mk (wd : Str) (h0 : vs = [.str wd]) (h1 : (∀ k, numOf wd = some k → Q (vI k) H)) (h2 : (numOf wd = none → E (.ref x8) none H)) : Sp_read_numberX x8 vs H Q E
def sp_read_numberX (x8 : Addr) : Sp := fun vs H Q E => Sp_read_numberX x8 vs H Q E
theorem sc_read_number : FnScope ["word", "number"] ["word"] (defScope s_read_number) := ⟨rfl, rfl, rfl, by decide +kernel, rfl, by decide +kernel, by decide +kernel⟩
theorem ok_read_numberX {f : Addr} {fd : FuncData} (F : Fun K "read_number" "read_number" s_read_number f fd) (T : Txt K mg C) (TX : TxtN K mg oE x1 x2 x3 x4 x5 x6 x7 x8) : FnOk P w K mg base (CX1 P w) 1 f fd ["word"] (sp_read_numberX x8) := by
  refine F.okX sc_read_number (fun vs H Q E h => ?_) (fun cdv A outer s H vs Q E hr h => ?_)
  · obtain ⟨k, rfl, _⟩ := h
    rfl
  · obtain ⟨wd, rfl, q1, q2⟩ := h
    have nd := sc_read_number.nd
    refine ⟨_, (pss_cons (ps_for PassesOwn.leaving rfl (pi_range1 rfl T.range (pa_cons (pe_op op_add (pe_globI rfl T.MOST_THINGS) pe_int) pa_nil)) (pg_name (i := 1) nd rfl (Or.inl rfl)) (pss_one (ps_if (pt_cmpR op_eq (pv 0) (pe_callTy call_str_int (by rfl) T.str bt_str (pa_cons (pv 1) pa_nil)) (nomark _)) (pss_one (ps_ret (pv 1))) pss_nil)))
  (pss_one (ps_raise thrown1 rfl rfl TX.NoText TX.eNoText (pa_cons pe_str pa_nil)))), ?_⟩
    refine ⟨_, _, rfl, rfl, (17 : Int), rfl, by decide, by decide, for_range (lo := 0) (n := 17) (fun i σ H' => ∃ x, σ = [some (.str wd), x] ∧ H' = H ∧ ∀ j, j < i → ¬ (wd == num j) = true) ⟨none, rfl, rfl, fun j hj => absurd hj (Nat.not_lt_zero _)⟩ ?_ ?_⟩
    · rintro i σ H' hi ⟨x, rfl, rfl, hik⟩
      rw [Int.zero_add]
      refine ⟨_, rfl, _, rfl, (i : Int), rfl, (num_ok i hi).2.2.2, rfl, _, rfl, ?_⟩
      rw [dec_str]
      refine ite2 (fun z => ?_) (fun z => ?_)
      · exact ⟨_, rfl, q1 i (numOf_at hi z)⟩
      · refine ⟨_, rfl, rfl, fun j hj => ?_⟩
        by_cases e : j = i
        · rw [e]
          exact z
        · exact hik j (by omega)
    · rintro σ H' ⟨x, rfl, rfl, hik⟩
      exact ⟨by show 1 ≤ sizeLine; decide, q2 (numOf_none hik)⟩
/-! ### read_many -/
def manyOf (wd : Str) : Option Nat := if Txt.endswith wd (Str.ofString ":") = true then numOf (Txt.slice wd none (some (-1))) else none
inductive Sp_read_manyX (x8 : Addr) (vs : List V) (H : Hp) (Q : VK) (E : XK) : Prop where | mk (wd : Str) (h0 : vs = [.str wd]) (h1 : wd.length ≤ 100000) (h2 : (∀ k, manyOf wd = some k → Q (vI k) H)) (h3 : (manyOf wd = none → E (.ref x8) none H)) : Sp_read_manyX x8 vs H Q E
def sp_read_manyX (x8 : Addr) : Sp := fun vs H Q E => Sp_read_manyX x8 vs H Q E
theorem sc_read_many : FnScope ["word"] ["word"] (defScope s_read_many) := ⟨rfl, rfl, rfl, by decide +kernel, rfl, by decide +kernel, by decide +kernel⟩
theorem ok_read_manyX {f : Addr} {fd : FuncData} (F : Fun K "read_many" "read_many" s_read_many f fd) (T : Txt K mg C) (TX : TxtN K mg oE x1 x2 x3 x4 x5 x6 x7 x8) (c_read_numberX : FnX P w K mg base "read_number" 1 ["word"] (sp_read_numberX x8)) : FnOk P w K mg base (CX1 P w) 2 f fd ["word"] (sp_read_manyX x8) := by
  refine F.okX sc_read_many (fun vs H Q E h => ?_) (fun cdv A outer s H vs Q E hr h => ?_)
  · obtain ⟨k, rfl, _⟩ := h
    rfl
  · obtain ⟨wd, rfl, hl, q1, q2⟩ := h
    have nd := sc_read_many.nd
    refine ⟨_, (pss_cons (ps_if (pt_not (pt_val (pe_bm PySem.F.plainAttrs_str PySem.F.slot_str_endswith PySem.F.type_str_endswith mt_ends (pv 0) (pa_cons pe_str pa_nil)))) (pss_one (ps_raise thrown1 rfl rfl TX.NoText TX.eNoText (pa_cons pe_str pa_nil))) pss_nil)
  (pss_one (ps_ret (pe_callX c_read_numberX pass1 (hr.mono (by decide)) rfl (pa_cons (pe_slice sl_str (pv 0) po_none (po_some (pe_un un_neg pe_int))) pa_nil))))), ?_⟩
    refine ⟨_, rfl, rfl, _, _, rfl, rfl, _, rfl, ?_⟩
    by_cases he : Txt.endswith wd (Str.ofString ":") = true
    · rw [he]
      have em : manyOf wd = numOf (Txt.slice wd none (some (-1))) := if_pos he
      refine ⟨_, rfl, 1, rfl, -1, rfl, wd, rfl, hl, ?_⟩
      exact ⟨_, rfl, fun k e => q1 k (em.trans e), fun e => q2 (em.trans e)⟩
    · rw [eq_false_of_ne_true he]
      have em : manyOf wd = none := if_neg he
      exact ⟨by show 1 ≤ sizeLine; decide, q2 em⟩
/-! ### read_pair -/
def pairOf (wd : Str) : Option (Nat × Nat) := match Txt.split wd (Str.ofString "<") with
  | [a, b] => match numOf a, numOf b with
    | some i, some j => some (i, j)
    | _, _ => none
  | _ => none
inductive Sp_read_pairX (x8 : Addr) (vs : List V) (H : Hp) (Q : VK) (E : XK) : Prop where | mk (wd : Str) (h0 : vs = [.str wd]) (h1 : wd.length ≤ 100000) (h2 : (Txt.split wd (Str.ofString "<")).length ≤ 100001) (h3 : (∀ p, pairOf wd = some p → ∀ (t : Addr) (H' : Hp), Same H H' → H t = none → H' t = some (.tup [vI p.1, vI p.2]) → Q (.ref t) H')) (h4 : (pairOf wd = none → ∀ H', Same H H' → E (.ref x8) none H')) : Sp_read_pairX x8 vs H Q E
def sp_read_pairX (x8 : Addr) : Sp := fun vs H Q E => Sp_read_pairX x8 vs H Q E
theorem sc_read_pair : FnScope ["word", "parts"] ["word"] (defScope s_read_pair) := ⟨rfl, rfl, rfl, by decide +kernel, rfl, by decide +kernel, by decide +kernel⟩
theorem ok_read_pairX {f : Addr} {fd : FuncData} (F : Fun K "read_pair" "read_pair" s_read_pair f fd) (T : Txt K mg C) (TX : TxtN K mg oE x1 x2 x3 x4 x5 x6 x7 x8) (c_read_numberX : FnX P w K mg base "read_number" 1 ["word"] (sp_read_numberX x8)) : FnOk P w K mg base (CX1 P w) 2 f fd ["word"] (sp_read_pairX x8) := by
  refine F.okX sc_read_pair (fun vs H Q E h => ?_) (fun cdv A outer s H vs Q E hr h => ?_)
  · obtain ⟨p, rfl, _⟩ := h
    rfl
  · obtain ⟨wd, rfl, hl, hl2, q1, q2⟩ := h
    have nd := sc_read_pair.nd
    refine ⟨_, (pss_cons (ps_set (i := 1) nd rfl (Or.inl rfl) (pe_bm PySem.F.plainAttrs_str PySem.F.slot_str_split PySem.F.type_str_split mt_split (pv 0) (pa_cons pe_str pa_nil)))
  (pss_cons (ps_if (pt_cmpR op_ne (pe_callB call_len_seq (by rfl) T.len PySem.boot_len (pa_cons (pv 1) pa_nil)) pe_int (nomark _)) (pss_one (ps_raise thrown1 rfl rfl TX.NoText TX.eNoText (pa_cons pe_str pa_nil))) pss_nil)
  (pss_one (ps_ret (pe_tup (pa_cons (pe_callX c_read_numberX pass1 (hr.mono (by decide)) rfl (pa_cons (pe_ix ix_list (pv 1) pe_int (fun _ _ => rfl)) pa_nil)) (pa_cons (pe_callX c_read_numberX pass1 (hr.mono (by decide)) rfl (pa_cons (pe_ix ix_list (pv 1) pe_int (fun _ _ => rfl)) pa_nil)) pa_nil))))))), ?_⟩
    refine ⟨_, rfl, rfl, wd, _, rfl, rfl, by decide, hl, hl2, fun l hl0 => ?_⟩
    have s1 : Same H (upd H l (.lst ((Txt.split wd (Str.ofString "<")).map V.str))) := same_new hl0
    have hl1 : (upd H l (.lst ((Txt.split wd (Str.ofString "<")).map V.str))) l = some (.lst ((Txt.split wd (Str.ofString "<")).map V.str)) := upd_same
    generalize upd H l (.lst ((Txt.split wd (Str.ofString "<")).map V.str)) = H1 at s1 hl1
    refine ⟨_, rfl, l, _, rfl, .inl (SqL.of hl1), rfl, _, rfl, ?_⟩
    rw [List.length_map]
    match e : Txt.split wd (Str.ofString "<") with
    | [a, b] =>
      rw [e] at hl1
      refine iteNS rfl ?_
      refine ⟨_, rfl, l, _, 0, _, rfl, rfl, SqL.of hl1, rfl, a, rfl, fun i ei => ?_, fun ei => q2 (by unfold pairOf; rw [e]; dsimp only; rw [ei]) _ s1⟩
      refine ⟨_, rfl, l, _, 1, _, rfl, rfl, SqL.of hl1, rfl, b, rfl, fun j ej => ?_, fun ej => q2 (by unfold pairOf; rw [e]; dsimp only; rw [ei, ej]) _ s1⟩
      refine ⟨by show 2 ≤ sizeLine; decide, fun t ht => ?_⟩
      exact q1 (i, j) (by unfold pairOf; rw [e]; dsimp only; rw [ei, ej]) t _ (s1.step ht) (s1.free ht) upd_same
    | [] =>
      refine ite2 (fun _ => ?_) (fun z => absurd rfl z)
      exact ⟨by show 1 ≤ sizeLine; decide, q2 (by unfold pairOf; rw [e]) _ s1⟩
    | [a] =>
      refine ite2 (fun _ => ?_) (fun z => absurd rfl z)
      exact ⟨by show 1 ≤ sizeLine; decide, q2 (by unfold pairOf; rw [e]) _ s1⟩
    | a :: b :: c :: r =>
      refine ite2 (fun _ => ?_) (fun z => z (by simp; omega) |>.elim)
      exact ⟨by show 1 ≤ sizeLine; decide, q2 (by unfold pairOf; rw [e]) _ s1⟩
end
end MJ
namespace MJ
open PySem L2
theorem acy_of {n : Nat} {ps : List (Nat × Nat)} (lt : ∀ p ∈ ps, p.1 < n ∧ p.2 < n) (anti : ∀ a b, a < n → b < n → Rch ps a b → Rch ps b a → a = b) : Acy n ps := by
  refine ⟨fun a => ((List.range n).filter fun d => clo n ps d a).length, fun p hp => ⟨(lt p hp).1, (lt p hp).2, ?_⟩⟩
  by_cases e : p.1 = p.2
  · exact .inl e
  · refine .inr (filter_lt (z := p.2) (fun d hd q => ?_) (List.mem_range.mpr (lt p hp).2) ?_ ((clo_iff lt).mpr (.refl _)))
    · exact (clo_iff lt).mpr (((clo_iff lt).mp q).trans (.one hp))
    · cases q : clo n ps p.2 p.1 with
      | false => rfl
      | true => exact absurd (anti _ _ (lt p hp).1 (lt p hp).2 (.one hp) ((clo_iff lt).mp q)) e
structure GoodO (n : Nat) (ps : List (Nat × Nat)) : Prop where
  h1 : 1 ≤ n
  h16 : n ≤ 16
  h60 : ps.length ≤ 60
  acy : Acy n ps
theorem out_of {x1 x2 x3 : Addr} {n : Nat} {ps : List (Nat × Nat)} (h : ¬ GoodO n ps) : ∃ D, Out x1 x2 x3 (n : Int) (ps.map castP) D ∧ (D = x1 ∨ D = x2 ∨ D = x3) := by
  by_cases hn : 1 ≤ n ∧ n ≤ 16
  · by_cases hl : ps.length ≤ 60
    · by_cases lt : ∀ p ∈ ps, p.1 < n ∧ p.2 < n
      · by_cases anti : ∀ a b, a < n → b < n → Rch ps a b → Rch ps b a → a = b
        · exact absurd ⟨hn.1, hn.2, hl, acy_of lt anti⟩ h
        · have : ∃ a b, a < n ∧ b < n ∧ Rch ps a b ∧ Rch ps b a ∧ a ≠ b := by
            apply Classical.byContradiction
            intro z
            refine anti fun a b ha hb r1 r2 => ?_
            apply Classical.byContradiction
            intro ne
            exact z ⟨a, b, ha, hb, r1, r2, ne⟩
          obtain ⟨a, b, ha, hb, r1, r2, ne⟩ := this
          by_cases lab : b < a
          · exact ⟨x3, .ring n ps rfl rfl hn hl lt a b ha lab r1 r2, .inr (.inr rfl)⟩
          · exact ⟨x3, .ring n ps rfl rfl hn hl lt b a hb (by omega) r2 r1, .inr (.inr rfl)⟩
      · refine ⟨x2, .pair (by omega) (.inr ?_), .inr (.inl rfl)⟩
        apply Classical.byContradiction
        intro z
        refine lt fun p hp => ?_
        apply Classical.byContradiction
        intro np
        refine z ⟨castP p, List.mem_map.mpr ⟨p, hp, rfl⟩, fun q => np ?_⟩
        obtain ⟨⟨_, q1⟩, _, q2⟩ := q
        have e1 : ((p.1 : Nat) : Int) < n := q1
        have e2 : ((p.2 : Nat) : Int) < n := q2
        omega
    · exact ⟨x2, .pair (by omega) (.inl (by rw [List.length_map]; omega)), .inr (.inl rfl)⟩
  · exact ⟨x1, .many (by omega), .inl rfl⟩
section
variable {P : Program} {w : World} {K : PySem.W.Frag} {mg : Str → Option Value} {base : Heap} {C oE x1 x2 x3 x4 x5 x6 x7 x8 : Addr}
/-! ### told_order -/
inductive Sp_told_orderX (C x8 : Addr) (vs : List V) (H : Hp) (Q : VK) (E : XK) : Prop where | mk (n : Nat) (l : Addr) (ps : List (Nat × Nat)) (h0 : vs = [vI n, .ref l]) (h1 : PairsAt H l ps) (h2 : (GoodO n ps → ∀ (p' : Addr) (H' : Hp), Same H H' → H p' = none → OrdAt C H' p' n (clo n ps) → Q (.ref p') H')) (h3 : (¬ GoodO n ps → ∀ H', Same H H' → E (.ref x8) none H')) : Sp_told_orderX C x8 vs H Q E
def sp_told_orderX (C x8 : Addr) : Sp := fun vs H Q E => Sp_told_orderX C x8 vs H Q E
theorem sc_told_order : FnScope ["many", "pairs"] ["many", "pairs"] (defScope s_told_order) := ⟨rfl, rfl, rfl, by decide +kernel, rfl, by decide +kernel, by decide +kernel⟩
theorem ok_told_orderX {f : Addr} {fd : FuncData} (F : Fun K "told_order" "told_order" s_told_order f fd) (T : Txt K mg C) (TX : TxtN K mg oE x1 x2 x3 x4 x5 x6 x7 x8) (R1 : RefK K oE x1 x1 x2 x3 x4 x5 x6 x7 x8 0) (R2 : RefK K oE x2 x1 x2 x3 x4 x5 x6 x7 x8 1) (R3 : RefK K oE x3 x1 x2 x3 x4 x5 x6 x7 x8 2)
    (c_Order : MkG P w K mg base "Order" C 3 ["self", "many", "pairs"] (sp_init C)) (c_OrderY : MkY P w K mg base "Order" C 3 ["self", "many", "pairs"] (sp_initX C x1 x2 x3)) : FnOk P w K mg base (CX1 P w) 5 f fd ["many", "pairs"] (sp_told_orderX C x8) := by
  refine F.okX sc_told_order (fun vs H Q E h => ?_) (fun cdv A outer s H vs Q E hr h => ?_)
  · obtain ⟨n, l, ps, rfl, _⟩ := h
    rfl
  · obtain ⟨n, l, ps, rfl, P1, q1, q2⟩ := h
    have nd := sc_told_order.nd
    by_cases hg : GoodO n ps
    · let Ek : XK := fun _ _ _ => False
      have hmat : ∀ (D : Addr) (H' : Hp), Ek (.ref D) none H' → PySem.W.exmOne K (.ref D) (.ref oE) = some true := fun D H' e => e.elim
      refine ⟨_, (pss_one (ps_tryR (Ek := Ek) rfl rfl rfl pass1x rfl TX.OrderError hmat rfl TX.NoText TX.eNoText (by decide) (fun pn E1 hp => pss_one (ps_ret (pe_makeG c_Order (hr.mono (by decide)) rfl (pa_cons (pv 0) (pa_cons (pv 1) pa_nil))))))), ?_⟩
      refine ⟨?_, fun D a H' e => e.elim⟩
      refine ⟨_, rfl, _, rfl, fun p' dx' hp hdx hne => ?_⟩
      refine ⟨p', dx', l, n, ps, rfl, upd_same, P1.mono ((same_new hdx).put hp), hg.h1, hg.h16, hg.h60, hg.acy, fun H4 b4 O4 => ⟨rfl, ?_⟩⟩
      exact q1 hg p' H4 (b4.same ((same_new hdx).put hp) hp) hp O4
    · let Ek : XK := fun c _ H' => (c = .ref x1 ∨ c = .ref x2 ∨ c = .ref x3) ∧ Same H H'
      have hmat : ∀ (D : Addr) (H' : Hp), Ek (.ref D) none H' → PySem.W.exmOne K (.ref D) (.ref oE) = some true := fun D H' e => by
        rcases e.1 with z | z | z
        · injection z with z
          rw [z]
          exact R1.up
        · injection z with z
          rw [z]
          exact R2.up
        · injection z with z
          rw [z]
          exact R3.up
      refine ⟨_, (pss_one (ps_tryR (Ek := Ek) rfl rfl rfl pass1x rfl TX.OrderError hmat rfl TX.NoText TX.eNoText (by decide) (fun pn E1 hp => pss_one (ps_ret (pe_makeY c_OrderY hp (hr.mono (by decide)) rfl (pa_cons (pv 0) (pa_cons (pv 1) pa_nil))))))), ?_⟩
      refine ⟨?_, fun D a H' e na => ?_⟩
      · obtain ⟨D, o, hD⟩ := out_of (x1 := x1) (x2 := x2) (x3 := x3) hg
        refine ⟨_, rfl, _, rfl, fun p' dx' hp hdx hne => ?_⟩
        have s1 : Same H (upd (upd H dx' (.own p')) p' (.ins C dx' [])) := (same_new hdx).put hp
        obtain ⟨ts, z1, z2⟩ := P1.mono s1
        refine ⟨p', dx', l, D, n, ps.map castP, rfl, upd_same, ⟨ts, z1, z2.toI⟩, o, fun H4 b4 => ⟨?_, b4.same s1 hp⟩⟩
        rcases hD with z | z | z
        · exact .inl (by rw [z])
        · exact .inr (.inl (by rw [z]))
        · exact .inr (.inr (by rw [z]))
      · exact q2 hg _ (e.2.step na)
end
end MJ
namespace MJ
open PySem L2
/-! ### what a text writes -/
theorem join_size (c : Nat) : ∀ ps : List Str, ps ≠ [] → (Str.join ⟨#[c]⟩ ps).length + 1 = (ps.map fun p => p.length + 1).sum
  | [], h => absurd rfl h
  | [p], _ => by simp [Str.join]
  | p :: q :: r, _ => by
    have ih := join_size c (q :: r) (by simp)
    show (p ++ ⟨#[c]⟩ ++ Str.join ⟨#[c]⟩ (q :: r)).length + 1 = _
    have e1 : (⟨#[c]⟩ : Str).length = 1 := rfl
    rw [Str.length_append, Str.length_append, e1, List.map_cons, List.sum_cons, ← ih]
    omega
theorem split_size (x : Str) (c : Nat) : x.length + 1 = ((Txt.split x ⟨#[c]⟩).map fun p => p.length + 1).sum := by
  have := join_size c (Txt.split x ⟨#[c]⟩) (split_ne _ _)
  rwa [StrLaws.join_split] at this
theorem sum_ge {α : Type} {f : α → Nat} : ∀ {l : List α} {x : α}, x ∈ l → f x ≤ (l.map f).sum
  | a :: l, x, h => by
    rw [List.map_cons, List.sum_cons]
    rcases List.mem_cons.mp h with rfl | h
    · omega
    · have := sum_ge (f := f) h
      omega
theorem sum_len1 {α : Type} {f : α → Nat} (hf : ∀ x, 1 ≤ f x) : ∀ l : List α, l.length ≤ (l.map f).sum
  | [] => by simp
  | a :: l => by
    have := sum_len1 hf l
    have := hf a
    rw [List.map_cons, List.sum_cons, List.length_cons]
    omega
theorem piece_len {x p : Str} {c : Nat} (h : p ∈ Txt.split x ⟨#[c]⟩) : p.length ≤ x.length := by
  have h1 := split_size x c
  have := sum_ge (f := fun p : Str => p.length + 1) h
  omega
theorem split_count (x : Str) (c : Nat) : (Txt.split x ⟨#[c]⟩).length ≤ x.length + 1 := by
  have h1 := split_size x c
  have := sum_len1 (f := fun p : Str => p.length + 1) (fun p => by omega) (Txt.split x ⟨#[c]⟩)
  omega
theorem many_hd {n : Nat} (h : n < 17) : manyOf (hdS n) = some n := by
  unfold manyOf
  rw [if_pos (hd_ends n h), hd_cut n h]
  exact numOf_num n h
theorem pair_ptx {p : Nat × Nat} (h1 : p.1 < 17) (h2 : p.2 < 17) : pairOf (ptx p) = some p := by
  unfold pairOf
  rw [split_ptx h1 h2]
  dsimp only
  rw [numOf_num _ h1, numOf_num _ h2]
structure Reads (text : Str) (n : Nat) (ps : List (Nat × Nat)) : Prop where
  spl : Txt.split text (Str.ofString " ") = hdS n :: ps.map ptx
  good : GoodO n ps
  cov : cov n (clo n ps) = ps
theorem Reads.text {text : Str} {n : Nat} {ps : List (Nat × Nat)} (h : Reads text n ps) : text = shS n ps := by
  have e := h.spl
  have j := StrLaws.join_split text ⟨#[32]⟩
  rw [blank_is] at e
  rw [e] at j
  unfold shS
  rw [blank_is]
  exact j.symm
theorem GoodO.lt {n : Nat} {ps : List (Nat × Nat)} (h : GoodO n ps) : ∀ p ∈ ps, p.1 < 17 ∧ p.2 < 17 := fun p hp => by
  have := h.acy.lt p hp
  have := h.h16
  omega
theorem filterMap_ptx {ps : List (Nat × Nat)} (h : ∀ p ∈ ps, p.1 < 17 ∧ p.2 < 17) : (ps.map ptx).filterMap pairOf = ps := by
  induction ps with
  | nil => rfl
  | cons p ps ih =>
    rw [List.map_cons, List.filterMap_cons, pair_ptx (h p (by simp)).1 (h p (by simp)).2]
    dsimp only
    rw [ih fun q hq => h q (List.mem_cons_of_mem _ hq)]
section
variable {P : Program} {w : World} {K : PySem.W.Frag} {mg : Str → Option Value} {base : Heap} {C oE x1 x2 x3 x4 x5 x6 x7 x8 : Addr}
/-! ### read -/
inductive Sp_readX (C x8 : Addr) (vs : List V) (H : Hp) (Q : VK) (E : XK) : Prop where | mk (text : Str) (h0 : vs = [.str text]) (h1 : text.length ≤ 5000) (h2 : (∀ n ps, Reads text n ps → ∀ (p' : Addr) (H' : Hp), Same H H' → H p' = none → OrdAt C H' p' n (clo n ps) → Q (.ref p') H')) (h3 : ((∀ n ps, ¬ Reads text n ps) → ∀ H', Same H H' → E (.ref x8) none H')) : Sp_readX C x8 vs H Q E
def sp_readX (C x8 : Addr) : Sp := fun vs H Q E => Sp_readX C x8 vs H Q E
theorem sc_read : FnScope ["text", "words", "many", "order"] ["text"] (defScope s_read) := ⟨rfl, rfl, rfl, by decide +kernel, rfl, by decide +kernel, by decide +kernel⟩
set_option maxHeartbeats 0 in
theorem ok_readX {f : Addr} {fd : FuncData} (F : Fun K "read" "read" s_read f fd) (T : Txt K mg C) (TX : TxtN K mg oE x1 x2 x3 x4 x5 x6 x7 x8) (c_read_manyX : FnX P w K mg base "read_many" 2 ["word"] (sp_read_manyX x8)) (c_read_pairX : FnX P w K mg base "read_pair" 2 ["word"] (sp_read_pairX x8)) (c_told_orderX : FnX P w K mg base "told_order" 5 ["many", "pairs"] (sp_told_orderX C x8)) (c_shown : FnG P w K mg base "shown" 4 ["order"] (sp_shown C)) :
    FnOk P w K mg base (CX1 P w) 6 f fd ["text"] (sp_readX C x8) := by
  refine F.okX sc_read (fun vs H Q E h => ?_) (fun cdv A outer s H vs Q E hr h => ?_)
  · obtain ⟨text, rfl, _⟩ := h
    rfl
  · obtain ⟨text, rfl, hl, q1, q2⟩ := h
    have nd := sc_read.nd
    refine ⟨_, (pss_cons (ps_set (i := 1) nd rfl (Or.inl rfl) (pe_bm PySem.F.plainAttrs_str PySem.F.slot_str_split PySem.F.type_str_split mt_split (pv 0) (pa_cons pe_str pa_nil)))
  (pss_cons (ps_set (i := 2) nd rfl (Or.inl rfl) (pe_callX c_read_manyX pass1 (hr.mono (by decide)) rfl (pa_cons (pe_ix ix_list (pv 1) pe_int (fun _ _ => rfl)) pa_nil)))
  (pss_cons (ps_set (i := 3) nd rfl (Or.inl rfl) (pe_callX c_told_orderX pass1 (hr.mono (by decide)) rfl (pa_cons (pv 2) (pa_cons (pe_compX [none] ["word"] (defScope s_read) ["text", "words", "many", "order"] (by decide +kernel) rfl rfl rfl pass1x (fun _ _ _ _ I => I.sz) (pi_list (pe_slice sl_list (pv 1) (po_some pe_int) po_none)) (fun _ _ _ _ _ _ => pg_name (i := 0) (show List.Nodup (["word"] : List Str) by decide +kernel) rfl (Or.inl rfl)) (fun _ _ _ _ _ _ => pifs_nil) (fun _ _ _ _ _ _ E1 hp => pe_callX c_read_pairX hp (hr.mono (by decide)) rfl (pa_cons (pv 0) pa_nil))) pa_nil))))
  (pss_cons (ps_if (pt_cmpR op_ne (pe_callG c_shown (hr.mono (by decide)) rfl (pa_cons (pv 3) pa_nil)) (pv 0) (nomark _)) (pss_one (ps_raise thrown1 rfl rfl TX.NoText TX.eNoText (pa_cons pe_str pa_nil))) pss_nil)
  (pss_one (ps_ret (pv 3))))))), ?_⟩
    have cnt : (Txt.split text (Str.ofString " ")).length ≤ 5001 := by
      rw [blank_is]
      have := split_count text 32
      omega
    have plen : ∀ p ∈ Txt.split text (Str.ofString " "), p.length ≤ 5000 := fun p hp => by
      rw [blank_is] at hp
      have := piece_len hp
      omega
    refine ⟨_, rfl, rfl, text, _, rfl, rfl, by decide, by omega, by omega, fun l hl0 => ?_⟩
    obtain ⟨w0, rest, ews⟩ : ∃ w0 rest, Txt.split text (Str.ofString " ") = w0 :: rest := by
      cases e : Txt.split text (Str.ofString " ") with
      | nil => exact absurd e (split_ne _ _)
      | cons a r => exact ⟨a, r, rfl⟩
    have same : ∀ n ps, Reads text n ps → w0 = hdS n ∧ rest = ps.map ptx := fun n ps r => by
      have := r.spl
      rw [ews] at this
      injection this with e1 e2
      exact ⟨e1, e2⟩
    rw [ews] at cnt plen ⊢
    rw [List.length_cons] at cnt
    have s1 : Same H (upd H l (.lst ((w0 :: rest).map V.str))) := same_new hl0
    have hl1 : (upd H l (.lst ((w0 :: rest).map V.str))) l = some (.lst ((w0 :: rest).map V.str)) := upd_same
    generalize upd H l (.lst ((w0 :: rest).map V.str)) = H1 at s1 hl1
    refine ⟨_, rfl, l, _, 0, _, rfl, rfl, SqL.of hl1, show atI _ ((0 : Nat) : Int) = _ from atI_nat rfl, w0, rfl, by have := plen w0 (by simp); omega, fun n en => ?_, fun en => q2 (fun n ps r => ?_) H1 s1⟩
    rotate_left
    · have e := (same n ps r).1
      rw [e, many_hd (by have := r.good.h16; omega)] at en
      cases en
    -- words[1:]
    refine ⟨_, rfl, _, rfl, 1, rfl, l, _, rfl, SqL.of hl1, fun wl hwl => ?_⟩
    have s2 : Same H1 (upd H1 wl (.lst (rest.map V.str))) := same_new hwl
    have hw2 : (upd H1 wl (.lst (rest.map V.str))) wl = some (.lst (rest.map V.str)) := upd_same
    rw [cut_drop1, List.map_cons, List.drop_one, List.tail_cons]
    generalize upd H1 wl (.lst (rest.map V.str)) = H2 at s2 hw2
    refine ⟨wl, rfl, ⟨_, SqL.of hw2⟩, fun q hq => ?_⟩
    refine comp_list (K := K) (a := wl) (xs := rest.map V.str) (fun σ => ∃ x, σ = [x]) (fun j ys H' => ∃ us, Same H2 H' ∧ H' q = some (.lst ys) ∧ ys = us.map V.ref ∧ Tups H' us ((rest.take j).filterMap pairOf) ∧ us.length = j ∧ ∀ wd ∈ rest.take j, ∃ p, pairOf wd = some p) ⟨none, rfl⟩ ⟨[], same_new hq, upd_same, rfl, Tups.nil, rfl, fun wd h => by simp at h⟩ ?_ ?_ ?_ ?_
    · rw [List.length_map]
      exact sz (by omega)
    · rintro j ys H' _ ⟨us, s3, hq3, e, T3, l3, _⟩
      refine ⟨hq3, ?_, SqL.of (s3 _ _ hw2)⟩
      rw [e, List.length_map, l3]
      exact Nat.le_refl _
    · rintro j x σ ys H' hx ⟨x0, rfl⟩ ⟨us, s3, hq3, e, T3, l3, a3⟩
      obtain ⟨wd, ew, rfl⟩ := str_map_at hx
      have hwd : wd ∈ rest := List.mem_of_getElem? ew
      have hwl' := plen wd (List.mem_cons_of_mem _ hwd)
      have hsc : (Txt.split wd (Str.ofString "<")).length ≤ 100001 := by
        rw [less_is]
        have := split_count wd 60
        omega
      refine ⟨_, rfl, wd, rfl, by omega, hsc, fun p ep t H4 s4 ht h4 => ?_, fun ep H4 s4 => q2 (fun n ps r => ?_) H4 (((s1.trans s2).trans s3).trans s4)⟩
      rotate_left
      · have e2 := (same n ps r).2
        rw [e2] at hwd
        obtain ⟨p, hp, rfl⟩ := List.mem_map.mp hwd
        rw [pair_ptx (r.good.lt p hp).1 (r.good.lt p hp).2] at ep
        cases ep
      have hq4 := s4 _ _ hq3
      refine ⟨hq4, ⟨_, rfl⟩, us ++ [t], (s3.trans s4).put hq, upd_same, by rw [e, List.map_append]; rfl, ?_, by rw [List.length_append, l3]; rfl, ?_⟩
      · rw [take_snoc ew, List.filterMap_append]
        have e1 : [wd].filterMap pairOf = [p] := by rw [List.filterMap_cons, ep]; rfl
        rw [e1]
        have T4 := T3.mono s4
        have keep : ∀ b xs, H4 b = some (.tup xs) → (upd H4 q (.lst (ys ++ [.ref t]))) b = some (.tup xs) := fun b xs e => by
          rw [upd_ne (ne_of e hq4 (by intro z; cases z))]
          exact e
        exact (Tups.snoc ⟨T4.len, fun a t' p' z1 z2 => keep _ _ (T4.at_ a t' p' z1 z2)⟩ (keep _ _ h4))
      · intro wd' hm
        rw [take_snoc ew] at hm
        rcases List.mem_append.mp hm with z | z
        · exact a3 wd' z
        · have : wd' = wd := by simpa using z
          rw [this]
          exact ⟨p, ep⟩
    · rintro ys H' ⟨us, s3, hq3, e, T3, l3, a3⟩
      rw [List.length_map, List.take_length] at T3 a3
      have P3 : PairsAt H' q (rest.filterMap pairOf) := ⟨us, by rw [hq3, e], T3⟩
      have sA := (s1.trans s2).trans s3
      have psE : ∀ n' ps, Reads text n' ps → n' = n ∧ ps = rest.filterMap pairOf := fun n' ps r => by
        obtain ⟨e1, e2⟩ := same n' ps r
        rw [e1, many_hd (by have := r.good.h16; omega)] at en
        rw [e2, filterMap_ptx r.good.lt]
        exact ⟨Option.some.inj en, rfl⟩
      generalize hps : rest.filterMap pairOf = ps at *
      refine ⟨n, q, ps, rfl, P3, fun gd p' H4 s4 hp' O4 => ?_, fun ng H4 s4 => q2 (fun n' ps' r => ?_) H4 (sA.trans s4)⟩
      rotate_left
      · obtain ⟨e1, e2⟩ := psE n' ps' r
        subst e1 e2
        exact ng r.good
      refine ⟨_, rfl, p', n, _, rfl, O4, gd.h16, fun H5 s5 => ?_⟩
      refine ⟨_, rfl, rfl, _, rfl, ?_⟩
      rw [dec_str]
      have cl : ∀ p ∈ cov n (clo n ps), p.1 < 17 ∧ p.2 < 17 := fun p hp => by
        have := cov_lt p hp
        have := gd.h16
        omega
      by_cases eq : shS n (cov n (clo n ps)) = text
      · rw [beq_iff_eq.mpr eq]
        refine ite2 (fun z => absurd z (by decide)) (fun _ => ?_)
        have spl := split_sh (n := n) (by have := gd.h16; omega) cl
        rw [eq, ews] at spl
        injection spl with z1 z2
        have ec : cov n (clo n ps) = ps := by
          rw [z2, filterMap_ptx cl] at hps
          exact hps
        have r : Reads text n ps := ⟨by rw [ews, z1, z2, ec], gd, ec⟩
        exact ⟨_, rfl, q1 n ps r p' H5 ((sA.trans s4).trans s5) (sA.free hp') (O4.mono s5)⟩
      · rw [beq_eq_false_iff_ne.mpr eq]
        refine ite2 (fun _ => ?_) (fun z => absurd rfl z)
        refine ⟨by show 1 ≤ sizeLine; decide, q2 (fun n' ps' r => ?_) H5 ((sA.trans s4).trans s5)⟩
        obtain ⟨e1, e2⟩ := psE n' ps' r
        subst e1 e2
        have ht := r.text
        rw [← r.cov] at ht
        exact eq ht.symm
end
end MJ
namespace MJ
open PySem L2
/-! ### the law's own reading of a number -/
def numI (wd : Str) : Int := match (List.range 100).find? (fun k => wd == num k) with
  | some k => (k : Int)
  | none => -1
theorem num_facts : ∀ k, k < 100 → 1 ≤ (num k).length ∧ (num k).length ≤ 2 ∧ ((num k).length = 2 → (num k).cps[0]? ≠ some 48) ∧ ∀ c ∈ (num k).cps.toList, c ∈ [48, 49, 50, 51, 52, 53, 54, 55, 56, 57] := by decide +kernel
theorem num_one : ∀ c ∈ [48, 49, 50, 51, 52, 53, 54, 55, 56, 57], num (c - 48) = ⟨#[c]⟩ := by decide +kernel
theorem num_two : ∀ c ∈ [49, 50, 51, 52, 53, 54, 55, 56, 57], ∀ d ∈ [48, 49, 50, 51, 52, 53, 54, 55, 56, 57], num ((c - 48) * 10 + (d - 48)) = ⟨#[c, d]⟩ := by decide +kernel
theorem num_find : ∀ k, k < 100 → (List.range 100).find? (fun j => num k == num j) = some k := by decide +kernel
theorem numI_num {k : Nat} (h : k < 100) : numI (num k) = k := by
  unfold numI
  rw [num_find k h]
theorem numI_not {wd : Str} (h : ∀ k, k < 100 → wd ≠ num k) : numI wd = -1 := by
  unfold numI
  have : (List.range 100).find? (fun k => wd == num k) = none := by
    rw [List.find?_eq_none]
    intro k hk z
    exact h k (List.mem_range.mp hk) (eq_of_beq z)
  rw [this]
theorem digits_is : (Str.ofString "0123456789").cps.toList = [48, 49, 50, 51, 52, 53, 54, 55, 56, 57] := by decide
theorem sign_in (c : Nat) : (!(!(Builtin.Str.occurrences (Str.ofString "0123456789") ⟨#[c]⟩ 0 (Str.ofString "0123456789").length 1).isEmpty)) = !decide (c ∈ [48, 49, 50, 51, 52, 53, 54, 55, 56, 57]) := by
  rw [StrLaws.found_one, digits_is]
theorem word_num {wd : Str} (h1 : 1 ≤ wd.length) (h2 : wd.length ≤ 2) (h3 : wd.length = 2 → wd.cps[0]? ≠ some 48) (h4 : ∀ c ∈ wd.cps.toList, c ∈ [48, 49, 50, 51, 52, 53, 54, 55, 56, 57]) : ∃ k, k < 100 ∧ wd = num k := by
  obtain ⟨⟨l⟩⟩ := wd
  have hl : l.length = (⟨⟨l⟩⟩ : Str).length := rfl
  match l, h1, h2, h3, h4 with
  | [], h1, _, _, _ => exact absurd h1 (by decide)
  | [c], _, _, _, h4 =>
    have hc := h4 c (by simp)
    refine ⟨c - 48, ?_, (num_one c hc).symm⟩
    have : c ≤ 57 := by
      simp only [List.mem_cons, List.not_mem_nil, or_false] at hc
      omega
    omega
  | [c, d], _, _, h3, h4 =>
    have hc := h4 c (by simp)
    have hd := h4 d (by simp)
    have hc' : c ∈ [49, 50, 51, 52, 53, 54, 55, 56, 57] := by
      rcases List.mem_cons.mp hc with e | e
      · exact absurd (by rw [e]; rfl) (h3 rfl)
      · exact e
    refine ⟨(c - 48) * 10 + (d - 48), ?_, (num_two c hc' d hd).symm⟩
    have : c ≤ 57 := by
      simp only [List.mem_cons, List.not_mem_nil, or_false] at hc
      omega
    have : d ≤ 57 := by
      simp only [List.mem_cons, List.not_mem_nil, or_false] at hd
      omega
    omega
  | _ :: _ :: _ :: r, _, h2, _, _ =>
    exfalso
    have : r.length + 3 ≤ 2 := h2
    omega
section
variable {P : Program} {w : World} {K : PySem.W.Frag} {mg : Str → Option Value} {base : Heap} {C oE x1 x2 x3 x4 x5 x6 x7 x8 : Addr}
inductive Sp_number (vs : List V) (H : Hp) (Q : VK) (E : XK) : Prop where | mk (wd : Str) (h0 : vs = [.str wd]) (h1 : wd.length ≤ 5000) (h2 : Q (.int (numI wd)) H) : Sp_number  vs H Q E
def sp_number : Sp := fun vs H Q E => Sp_number  vs H Q E
theorem sc__law_number : FnScope ["word", "sign"] ["word"] (defScope s__law_number) := ⟨rfl, rfl, rfl, by decide +kernel, rfl, by decide +kernel, by decide +kernel⟩
theorem ok_number {f : Addr} {fd : FuncData} (F : Fun K "_law_number" "_law_number" s__law_number f fd) (T : Txt K mg C) : FnOk P w K mg base CX0 1 f fd ["word"] sp_number := by
  refine F.ok sc__law_number (fun vs H Q E h => ?_) (fun cdv A outer s H vs Q E hr h => ?_)
  · obtain ⟨wd, rfl, _⟩ := h
    rfl
  · obtain ⟨wd, rfl, hl, q⟩ := h
    have nd := sc__law_number.nd
    have hz : wd.length ≤ sizeLine := sz (by omega)
    refine ⟨_, (pss_cons (ps_if (PW.pt (pw_or (pt_cmpR op_lt (pe_callB call_len_str (by rfl) T.len PySem.boot_len (pa_cons (pv 0) pa_nil)) pe_int (nomark _)) (pw_or (pt_cmpR op_gt (pe_callB call_len_str (by rfl) T.len PySem.boot_len (pa_cons (pv 0) pa_nil)) pe_int (nomark _)) (pw_or1 (PW.pt (pw_and (pt_cmpR op_eq (pe_callB call_len_str (by rfl) T.len PySem.boot_len (pa_cons (pv 0) pa_nil)) pe_int (nomark _)) (pw_and1 (pt_cmpR op_eq (pe_ix ix_str (pv 0) pe_int (fun _ _ => rfl)) pe_str (nomark _))))))))) (pss_one (ps_ret (pe_un un_neg pe_int))) pss_nil)
  (pss_cons (ps_for PassesOwn.never rfl (pi_str (pv 0)) (pg_name (i := 1) nd rfl (Or.inl rfl)) (pss_one (ps_if (pt_cmpR op_notIn_str (pv 1) pe_str (by with_unfolding_all rfl)) (pss_one (ps_ret (pe_un un_neg pe_int))) pss_nil)))
  (pss_one (ps_ret (pe_callTy call_intNum (by rfl) T.int bt_int (pa_cons (pv 0) pa_nil)))))), ?_⟩
    have bad : (∀ k, k < 100 → wd ≠ num k) → Q (.int (-1)) H := fun h => by rw [← numI_not h]; exact q
    refine ⟨_, rfl, wd, rfl, hz, _, _, rfl, rfl, _, rfl, ?_⟩
    refine ite2 (fun z => ?_) (fun z1 => ?_)
    · refine ⟨1, rfl, bad fun k hk e => ?_⟩
      have := (num_facts k hk).1
      have : (wd.length : Int) < 1 := by simpa using z
      rw [e] at this
      omega
    refine ⟨_, rfl, wd, rfl, hz, _, _, rfl, rfl, _, rfl, ?_⟩
    refine ite2 (fun z => ?_) (fun z2 => ?_)
    · refine ⟨1, rfl, bad fun k hk e => ?_⟩
      have := (num_facts k hk).2.1
      have : (2 : Int) < wd.length := by simpa using z
      rw [e] at this
      omega
    have l1 : 1 ≤ wd.length := by
      have : ¬ (wd.length : Int) < 1 := by simpa using z1
      omega
    have l2 : wd.length ≤ 2 := by
      have : ¬ (2 : Int) < wd.length := by simpa using z2
      omega
    refine ⟨_, rfl, wd, rfl, hz, rfl, _, rfl, ?_⟩
    refine ite2 (fun z => ?_) (fun z3 => ?_)
    · have hl2 : wd.length = 2 := by
        have : V.int (wd.length : Nat) = V.int 2 := by simpa using z
        injection this with this
        omega
      have h0 : 0 < wd.cps.size := by
        have : wd.cps.size = wd.length := rfl
        omega
      have hc0 := Array.getElem?_eq_getElem h0
      refine ⟨_, rfl, wd, 0, wd.cps[0], rfl, rfl, hz, ?_, rfl, _, rfl, ?_⟩
      · show atI _ ((0 : Nat) : Int) = _
        exact atI_nat (by rw [Array.getElem?_toList]; exact hc0)
      rw [dec_str]
      refine ite2 (fun z => ?_) (fun z4 => ?_)
      · refine ⟨1, rfl, bad fun k hk e => ?_⟩
        have h3 := (num_facts k hk).2.2.1
        rw [← e] at h3
        refine h3 hl2 ?_
        rw [hc0]
        have e1 : (⟨#[wd.cps[0]]⟩ : Str) = Str.ofString "0" := eq_of_beq z
        have e2 : Str.ofString "0" = ⟨#[48]⟩ := by decide
        rw [e2] at e1
        injection e1 with e1
        have e3 := congrArg Array.toList e1
        simp at e3
        rw [e3]
      · have h3 : wd.length = 2 → wd.cps[0]? ≠ some 48 := fun _ e => by
          rw [hc0] at e
          have e3 : wd.cps[0] = 48 := Option.some.inj e
          rw [e3] at z4
          exact z4 (by decide)
        refine ⟨_, rfl, wd, rfl, ?_⟩
        refine for_str (x := wd) (fun i σ H' => ∃ x, σ = [some (.str wd), x] ∧ H' = H ∧ ∀ j c, j < i → wd.cps[j]? = some c → c ∈ [48, 49, 50, 51, 52, 53, 54, 55, 56, 57]) ⟨none, rfl, rfl, fun j c hj => absurd hj (Nat.not_lt_zero _)⟩ ?_ ?_
        · rintro i c σ H' hc ⟨x, rfl, rfl, hik⟩
          refine ⟨_, rfl, _, _, rfl, rfl, _, rfl, ?_⟩
          rw [sign_in]
          refine ite2 (fun z => ?_) (fun z => ?_)
          · refine ⟨1, rfl, bad fun k hk e => ?_⟩
            have h4 := (num_facts k hk).2.2.2
            rw [← e] at h4
            have := h4 c (by rw [← Array.getElem?_toList] at hc; exact List.mem_of_getElem? hc)
            rw [decide_eq_true this] at z
            cases z
          · refine ⟨_, rfl, rfl, fun j d hj hd => ?_⟩
            by_cases e : j = i
            · rw [e, hc] at hd
              cases hd
              exact Classical.byContradiction fun n => z (by rw [decide_eq_false n]; rfl)
            · exact hik j d (by omega) hd
        · rintro σ H' ⟨x, rfl, rfl, hik⟩
          obtain ⟨k, hk, e⟩ := word_num l1 l2 h3 (fun c hc => by
            obtain ⟨j, hj, ej⟩ := List.mem_iff_getElem.mp hc
            exact hik j c (by rwa [Array.length_toList] at hj) (by rw [← Array.getElem?_toList, List.getElem?_eq_getElem hj, ej]))
          refine ⟨_, rfl, k, by rw [e], by omega, ?_⟩
          rw [← numI_num hk, ← e]
          exact q
    · have h3 : wd.length = 2 → wd.cps[0]? ≠ some 48 := fun e _ => z3 (by rw [e]; rfl)
      refine ⟨_, rfl, wd, rfl, ?_⟩
      refine for_str (x := wd) (fun i σ H' => ∃ x, σ = [some (.str wd), x] ∧ H' = H ∧ ∀ j c, j < i → wd.cps[j]? = some c → c ∈ [48, 49, 50, 51, 52, 53, 54, 55, 56, 57]) ⟨none, rfl, rfl, fun j c hj => absurd hj (Nat.not_lt_zero _)⟩ ?_ ?_
      · rintro i c σ H' hc ⟨x, rfl, rfl, hik⟩
        refine ⟨_, rfl, _, _, rfl, rfl, _, rfl, ?_⟩
        rw [sign_in]
        refine ite2 (fun z => ?_) (fun z => ?_)
        · refine ⟨1, rfl, bad fun k hk e => ?_⟩
          have h4 := (num_facts k hk).2.2.2
          rw [← e] at h4
          have := h4 c (by rw [← Array.getElem?_toList] at hc; exact List.mem_of_getElem? hc)
          rw [decide_eq_true this] at z
          cases z
        · refine ⟨_, rfl, rfl, fun j d hj hd => ?_⟩
          by_cases e : j = i
          · rw [e, hc] at hd
            cases hd
            exact Classical.byContradiction fun n => z (by rw [decide_eq_false n]; rfl)
          · exact hik j d (by omega) hd
      · rintro σ H' ⟨x, rfl, rfl, hik⟩
        obtain ⟨k, hk, e⟩ := word_num l1 l2 h3 (fun c hc => by
          obtain ⟨j, hj, ej⟩ := List.mem_iff_getElem.mp hc
          exact hik j c (by rwa [Array.length_toList] at hj) (by rw [← Array.getElem?_toList, List.getElem?_eq_getElem hj, ej]))
        refine ⟨_, rfl, k, by rw [e], by omega, ?_⟩
        rw [← numI_num hk, ← e]
        exact q
end
end MJ
namespace MJ
open PySem L2
structure TxtM (mg : Str → Option Value) : Prop where
  min : mg "min" = none
  max : mg "max" = none
theorem cut_glue {wd : Str} (h : 1 ≤ wd.length) : Txt.slice wd none (some (-1)) ++ Txt.slice wd (some (-1)) none = wd := by
  have e1 := StrLaws.sliceText_to_neg (x := wd) (j := -1) (by decide) (by omega)
  have e2 := StrLaws.sliceText_from_neg (x := wd) (i := -1) (by decide) (by omega)
  have hl : wd.cps.toList.length = wd.length := by simp [Str.length]
  show StrLaws.sliceText wd none (some (-1)) ++ StrLaws.sliceText wd (some (-1)) none = wd
  rw [e1, e2]
  apply str_ext
  rw [app_list]
  have t1 : (-1 + (wd.length : Int) - 0).toNat = wd.length - 1 := by omega
  have t2 : (-1 + (wd.length : Int)).toNat = wd.length - 1 := by omega
  rw [t1, t2, hl]
  have t3 : ((wd.length : Int) - (-1 + (wd.length : Int))).toNat = 1 := by omega
  rw [t3, List.drop_zero]
  show wd.cps.toList.take (wd.length - 1) ++ (wd.cps.toList.drop (wd.length - 1)).take 1 = wd.cps.toList
  rw [List.take_of_length_le (l := wd.cps.toList.drop (wd.length - 1)) (by rw [List.length_drop, hl]; omega), List.take_append_drop]
theorem cut_nil : Txt.slice (⟨#[]⟩ : Str) (some (-1)) none = ⟨#[]⟩ := by decide
theorem hd_last : ∀ n, n < 17 → Txt.slice (hdS n) (some (-1)) none = Str.ofString ":" := by decide +kernel
theorem hd_of {wd : Str} {n : Nat} (h1 : Txt.slice wd (some (-1)) none = Str.ofString ":") (h2 : Txt.slice wd none (some (-1)) = num n) : wd = hdS n := by
  by_cases hl : 1 ≤ wd.length
  · rw [← cut_glue hl, h1, h2]
    rfl
  · exfalso
    have : wd = ⟨#[]⟩ := by
      apply Str.ext'
      exact Array.eq_empty_of_size_eq_zero (by show wd.length = 0; omega)
    rw [this, cut_nil] at h1
    revert h1
    decide
theorem numI_some {wd : Str} {z : Int} (h : numI wd = z) (h0 : 0 ≤ z) : ∃ k : Nat, k < 100 ∧ (k : Int) = z ∧ wd = num k := by
  unfold numI at h
  split at h
  · next k hk =>
    exact ⟨k, List.mem_range.mp (List.mem_of_find?_eq_some hk), h, by simpa using List.find?_some hk⟩
  · omega
theorem ptx_of {wd a b : Str} {i j : Nat} (h : Txt.split wd (Str.ofString "<") = [a, b]) (ha : a = num i) (hb : b = num j) : wd = ptx (i, j) := by
  have jj := StrLaws.join_split wd ⟨#[60]⟩
  rw [less_is] at h
  rw [h] at jj
  rw [← jj, ha, hb]
  unfold ptx
  rw [less_is]
  rfl
theorem deq_pairE {K : PySem.W.Frag} {H : Hp} {t u : Addr} {p q : Nat × Nat} (ht : Tup2 H t p) (hu : Tup2 H u q) : DEq K H 3 (.ref t) (.ref u) (p == q) := by
  by_cases e : t = u
  · subst e
    have : p = q := by
      have z : some (HO.tup [vI p.1, vI p.2]) = some (HO.tup [vI q.1, vI q.2]) := ht.symm.trans hu
      injection z with z
      injection z with z
      injection z with z1 z2
      injection z2 with z2 _
      injection z1 with z1
      injection z2 with z2
      exact Prod.ext (Int.ofNat.inj z1) (Int.ofNat.inj z2)
    rw [this, beq_self_eq_true]
    exact .same t
  · have := DEq.tup (K := K) (n := 2) (e := fun j => eqV ([vI p.1, vI p.2].getD j .non) ([vI q.1, vI q.2].getD j .non)) e (SqT.of ht) (SqT.of hu) fun j x y hx hy => by
      have hj' : j < 2 := (List.getElem?_eq_some_iff.mp hx).1
      match j, hj' with
      | 0, _ => cases hx; cases hy; exact .flat rfl rfl
      | 1, _ => cases hx; cases hy; exact .flat rfl rfl
    have ev : ((List.range (min [vI p.1, vI p.2].length [vI q.1, vI q.2].length)).all (fun j => eqV ([vI p.1, vI p.2].getD j .non) ([vI q.1, vI q.2].getD j .non)) && [vI p.1, vI p.2].length == [vI q.1, vI q.2].length) = (p == q) := by
      show ((((p.1 : Int) == (q.1 : Int)) && ((((p.2 : Int) == (q.2 : Int)) && true))) && true) = (p == q)
      rw [Bool.and_true, Bool.and_true, Bool.eq_iff_iff, Bool.and_eq_true, beq_iff_eq, beq_iff_eq, beq_iff_eq, Prod.ext_iff]
      constructor
      · rintro ⟨a, b⟩
        exact ⟨by omega, by omega⟩
      · rintro ⟨a, b⟩
        exact ⟨by omega, by omega⟩
    rw [ev] at this
    exact this
theorem deq_pairsE {K : PySem.W.Frag} {H : Hp} {ps qs : List (Nat × Nat)} {ts us : List Addr} (hT : Tups H ts ps) (hU : Tups H us qs) : ∀ (j : Nat) (x y : V), (ts.map V.ref)[j]? = some x → (us.map V.ref)[j]? = some y → DEq K H 3 x y (ps.getD j (0, 0) == qs.getD j (0, 0)) := fun j x y hx hy => by
  obtain ⟨t, p, rfl, e1, e2, h1⟩ := hT.get hx
  obtain ⟨u, q, rfl, e3, e4, h2⟩ := hU.get hy
  rw [List.getD_eq_getElem?_getD, List.getD_eq_getElem?_getD, e2, e4]
  exact deq_pairE h1 h2
theorem pairsE_eq {ps qs : List (Nat × Nat)} {ts us : List Addr} (h1 : ts.length = ps.length) (h2 : us.length = qs.length) : ((ts.map V.ref).length == (us.map V.ref).length && (List.range (ts.map V.ref).length).all (fun j => ps.getD j (0, 0) == qs.getD j (0, 0))) = decide (ps = qs) := by
  rw [List.length_map, List.length_map, h1, h2]
  by_cases h : ps = qs
  · subst h
    simp
  · rw [decide_eq_false h, Bool.eq_false_iff]
    intro z
    rw [Bool.and_eq_true, List.all_eq_true] at z
    obtain ⟨z1, z2⟩ := z
    have hl : ps.length = qs.length := by simpa using z1
    refine h (List.ext_getElem hl fun j h1 h2 => ?_)
    have := z2 j (List.mem_range.mpr h1)
    rw [List.getD_eq_getElem?_getD, List.getD_eq_getElem?_getD, List.getElem?_eq_getElem h1, List.getElem?_eq_getElem h2] at this
    exact eq_of_beq this
def ringI (m : Tab) (i : Nat) : Nat → Bool := fun b => i != b && (m i b && m b i)
section
variable {P : Program} {w : World} {K : PySem.W.Frag} {mg : Str → Option Value} {base : Heap} {C oE x1 x2 x3 x4 x5 x6 x7 x8 : Addr}
inductive Sp_due (vs : List V) (H : Hp) (Q : VK) (E : XK) : Prop where | mk (text : Str) (h0 : vs = [.str text]) (h1 : text.length ≤ 5000) (h2 : ((∀ n ps, ¬ Reads text n ps) → ∀ H', Same H H' → Q .non H')) (h3 : ∀ n ps, Reads text n ps → ∀ (t ab : Addr) (ks : List (List Nat)) (ds : List Addr) (H' : Hp), Same H H' → H' t = some (.tup [vI n, .ref ab]) → AbvAt H' ab ks ds → Holds n (clo n ps) ks → Q (.ref t) H') : Sp_due  vs H Q E
def sp_due : Sp := fun vs H Q E => Sp_due  vs H Q E
theorem sc__law_due : FnScope ["text", "words", "many", "pairs", "word", "two", "above", "a"] ["text"] (defScope s__law_due) := ⟨rfl, rfl, rfl, by decide +kernel, rfl, by decide +kernel, by decide +kernel⟩
set_option maxHeartbeats 0 in
theorem ok_due {f : Addr} {fd : FuncData} (F : Fun K "_law_due" "_law_due" s__law_due f fd) (T : Txt K mg C) (TM : TxtM mg) (c__law_number : FnG P w K mg base "_law_number" 1 ["word"] sp_number) (c__law_under : FnG P w K mg base "_law_under" 1 ["many", "pairs"] sp_under) (c__law_right_below : FnG P w K mg base "_law_right_below" 1 ["above"] sp_law_right_below) :
    FnOk P w K mg base CX0 2 f fd ["text"] sp_due := by
  refine F.ok sc__law_due (fun vs H Q E h => ?_) (fun cdv A outer s H vs Q E hr h => ?_)
  · obtain ⟨text, rfl, _⟩ := h
    rfl
  · obtain ⟨text, rfl, hl, q1, q2⟩ := h
    have nd := sc__law_due.nd
    have hu := hu_of hr
    have hu64 := Room.units hr
    refine ⟨_, (pss_cons (ps_set (i := 1) nd rfl (Or.inl rfl) (pe_bm PySem.F.plainAttrs_str PySem.F.slot_str_split PySem.F.type_str_split mt_split (pv 0) (pa_cons pe_str pa_nil)))
  (pss_cons (ps_set (i := 2) nd rfl (Or.inl rfl) (pe_callG c__law_number (hr.mono (by decide)) rfl (pa_cons (pe_slice sl_str (pe_ix ix_list (pv 1) pe_int (fun _ _ => rfl)) po_none (po_some (pe_un un_neg pe_int))) pa_nil)))
  (pss_cons (ps_if (PW.pt (pw_or (pt_cmpR op_ne (pe_slice sl_str (pe_ix ix_list (pv 1) pe_int (fun _ _ => rfl)) (po_some (pe_un un_neg pe_int)) po_none) pe_str (nomark _)) (pw_or (pt_cmpR op_lt (pv 2) pe_int (nomark _)) (pw_or (pt_cmpR op_gt (pv 2) pe_int (nomark _)) (pw_or1 (pt_cmpR op_gt (pe_callB call_len_seq (by rfl) T.len PySem.boot_len (pa_cons (pv 1) pa_nil)) pe_int (nomark _))))))) (pss_one (ps_ret pe_non)) pss_nil)
  (pss_cons (ps_set (i := 3) nd rfl (Or.inl rfl) (pe_lst pa_nil))
  (pss_cons (ps_for PassesOwn.never rfl (pi_list (pe_slice sl_list (pv 1) (po_some pe_int) po_none)) (pg_name (i := 4) nd rfl (Or.inl rfl)) (pss_cons (ps_comp [none] ["part"] (defScope s__law_due) ["text", "words", "many", "pairs", "word", "two", "above", "a"] (by decide +kernel) rfl (pi_list (pe_bm PySem.F.plainAttrs_str PySem.F.slot_str_split PySem.F.type_str_split mt_split (pv 4) (pa_cons pe_str pa_nil))) (fun _ _ _ _ _ _ => pg_name (i := 0) (show List.Nodup (["part"] : List Str) by decide +kernel) rfl (Or.inl rfl)) (fun _ _ _ _ _ _ => pifs_nil) (fun _ _ _ _ _ _ => pe_callG c__law_number (hr.mono (by decide)) rfl (pa_cons (pv 0) pa_nil)) nd (i := 5) rfl (Or.inl rfl) rfl)
  (pss_cons (ps_if (PW.pt (pw_or (pt_cmpR op_ne (pe_callB call_len_seq (by rfl) T.len PySem.boot_len (pa_cons (pv 5) pa_nil)) pe_int (nomark _)) (pw_or (pt_cmpR op_lt (pe_callB (call_minT rfl) (by rfl) TM.min PyProof.Rows.boot_min (pa_cons (pv 5) pa_nil)) pe_int (nomark _)) (pw_or1 (pt_cmpR op_ge (pe_callB (call_maxT rfl) (by rfl) TM.max PyProof.Rows.boot_max (pa_cons (pv 5) pa_nil)) (pv 2) (nomark _)))))) (pss_one (ps_ret pe_non)) pss_nil)
  (pss_one (ps_expr (pe_bm PySem.F.plainAttrs_list PySem.F.slot_list_append PySem.F.type_list_append mt_append (pv 3) (pa_cons (pe_tup (pa_cons (pe_ix ix_list (pv 5) pe_int (fun _ _ => rfl)) (pa_cons (pe_ix ix_list (pv 5) pe_int (fun _ _ => rfl)) pa_nil))) pa_nil)))))))
  (pss_cons (ps_set (i := 6) nd rfl (Or.inr rfl) (pe_callG c__law_under (hr.mono (by decide)) rfl (pa_cons (pv 2) (pa_cons (pv 3) pa_nil))))
  (pss_cons (ps_for PassesOwn.never rfl (pi_range1 rfl T.range (pa_cons (pv 2) pa_nil)) (pg_name (i := 7) nd rfl (Or.inr rfl)) (pss_one (ps_if (pt_cmpR op_gt (pe_callB call_len_seq (by rfl) T.len PySem.boot_len (pa_cons (pe_comp [none, some 7, some 6] ["b", "a", "above"] (defScope s__law_due) ["text", "words", "many", "pairs", "word", "two", "above", "a"] (by decide +kernel) rfl (pi_range1 rfl T.range (pa_cons (pv 2) pa_nil)) (fun _ _ _ _ _ _ => pg_name (i := 0) (show List.Nodup (["b", "a", "above"] : List Str) by decide +kernel) rfl (Or.inl rfl)) (fun _ _ _ _ _ _ => pifs_one (PW.pt (pw_and (pt_cmpR op_ne (pv 1) (pv 0) (nomark _)) (pw_and (pt_cmp (pc_din hu (pv 0) (pe_ix (ix_listK (K := K) rfl) (pv 2) (pv 1) (fun _ _ => rfl)))) (pw_and1 (pt_cmp (pc_din hu (pv 1) (pe_ix (ix_listK (K := K) rfl) (pv 2) (pv 0) (fun _ _ => rfl))))))))) (fun _ _ _ _ _ _ => pv 0)) pa_nil)) pe_int (nomark _)) (pss_one (ps_ret pe_non)) pss_nil)))
  (pss_cons (ps_if (pt_cmpR (op_neL hu64) (pv 3) (pe_callG c__law_right_below (hr.mono (by decide)) rfl (pa_cons (pv 6) pa_nil)) (nomark _)) (pss_one (ps_ret pe_non)) pss_nil)
  (pss_one (ps_ret (pe_tup (pa_cons (pv 2) (pa_cons (pv 6) pa_nil))))))))))))), ?_⟩
    have cnt : (Txt.split text (Str.ofString " ")).length ≤ 5001 := by
      rw [blank_is]
      have := split_count text 32
      omega
    have plen : ∀ p ∈ Txt.split text (Str.ofString " "), p.length ≤ 5000 := fun p hp => by
      rw [blank_is] at hp
      have := piece_len hp
      omega
    refine ⟨_, rfl, rfl, text, _, rfl, rfl, by decide, by omega, by omega, fun l hl0 => ?_⟩
    obtain ⟨w0, rest, ews⟩ : ∃ w0 rest, Txt.split text (Str.ofString " ") = w0 :: rest := by
      cases e : Txt.split text (Str.ofString " ") with
      | nil => exact absurd e (split_ne _ _)
      | cons a r => exact ⟨a, r, rfl⟩
    have same : ∀ n ps, Reads text n ps → w0 = hdS n ∧ rest = ps.map ptx := fun n ps r => by
      have := r.spl
      rw [ews] at this
      injection this with e1 e2
      exact ⟨e1, e2⟩
    rw [ews] at cnt plen ⊢
    rw [List.length_cons] at cnt
    have s1 : Same H (upd H l (.lst ((w0 :: rest).map V.str))) := same_new hl0
    have hl1 : (upd H l (.lst ((w0 :: rest).map V.str))) l = some (.lst ((w0 :: rest).map V.str)) := upd_same
    generalize upd H l (.lst ((w0 :: rest).map V.str)) = H1 at s1 hl1
    have hw0 := plen w0 (by simp)
    have at0 : atI ((w0 :: rest).map V.str) ((0 : Nat) : Int) = some (V.str w0) := atI_nat rfl
    refine ⟨_, rfl, l, _, _, _, rfl, rfl, SqL.of hl1, at0, 1, rfl, -1, rfl, w0, rfl, by omega, ?_⟩
    have hw0' := Txt.slice_le w0 none (some (-1))
    refine ⟨_, rfl, by omega, ?_⟩
    -- the head's tests
    have none1 : (∀ n ps, Reads text n ps → False) → Q .non H1 := fun h => q1 (fun n ps r => h n ps r) H1 s1
    have hdI : ∀ n ps, Reads text n ps → numI (Txt.slice w0 none (some (-1))) = n ∧ Txt.slice w0 (some (-1)) none = Str.ofString ":" ∧ n ≤ 16 ∧ 1 ≤ n ∧ rest.length ≤ 60 := fun n ps r => by
      obtain ⟨e1, e2⟩ := same n ps r
      have h16 := r.good.h16
      rw [e1, hd_cut n (by omega), hd_last n (by omega), numI_num (by omega), e2, List.length_map]
      exact ⟨rfl, rfl, h16, r.good.h1, r.good.h60⟩
    refine ⟨_, rfl, l, _, _, _, rfl, rfl, SqL.of hl1, at0, 1, rfl, -1, rfl, w0, rfl, by omega, rfl, _, rfl, ?_⟩
    rw [dec_str]
    refine ite2 (fun z => ?_) (fun z1 => ?_)
    · refine none1 fun n ps r => ?_
      rw [(hdI n ps r).2.1] at z
      simp at z
    have el : Txt.slice w0 (some (-1)) none = Str.ofString ":" := by
      apply Classical.byContradiction
      intro n
      rw [beq_eq_false_iff_ne.mpr n] at z1
      exact z1 rfl
    refine ⟨_, rfl, _, _, rfl, rfl, _, rfl, ?_⟩
    refine ite2 (fun z => ?_) (fun z2 => ?_)
    · refine none1 fun n ps r => ?_
      have := (hdI n ps r).1
      have := (hdI n ps r).2.2.2.1
      have : numI (Txt.slice w0 none (some (-1))) < 1 := by simpa using z
      omega
    refine ⟨_, rfl, _, _, rfl, rfl, _, rfl, ?_⟩
    refine ite2 (fun z => ?_) (fun z3 => ?_)
    · refine none1 fun n ps r => ?_
      have := (hdI n ps r).1
      have := (hdI n ps r).2.2.1
      have : 16 < numI (Txt.slice w0 none (some (-1))) := by simpa using z
      omega
    refine ⟨_, rfl, l, _, rfl, .inl (SqL.of hl1), _, _, rfl, rfl, _, rfl, ?_⟩
    refine ite2 (fun z => ?_) (fun z4 => ?_)
    · refine none1 fun n ps r => ?_
      have := (hdI n ps r).2.2.2.2
      have z' : (61 : Int) < ((w0 :: rest).map V.str).length := by simpa using z
      rw [List.length_map, List.length_cons] at z'
      omega
    have l60 : rest.length ≤ 60 := by
      have z' : ¬ (61 : Int) < ((w0 :: rest).map V.str).length := by simpa using z4
      rw [List.length_map, List.length_cons] at z'
      omega
    have ge1 : ¬ numI (Txt.slice w0 none (some (-1))) < 1 := by simpa using z2
    have le16 : ¬ 16 < numI (Txt.slice w0 none (some (-1))) := by simpa using z3
    obtain ⟨n, hn100, en, hcut⟩ := numI_some rfl (show 0 ≤ numI (Txt.slice w0 none (some (-1))) by omega)
    have h1 : 1 ≤ n := by omega
    have h16 : n ≤ 16 := by omega
    rw [← en]
    have ew0 : w0 = hdS n := hd_of el hcut
    have nE : ∀ n' ps, Reads text n' ps → n' = n := fun n' ps r => by
      have := (hdI n' ps r).1
      omega
    -- pairs = []
    refine ⟨Nat.zero_le _, fun pl hpl => ?_⟩
    have s2 : Same H1 (upd H1 pl (.lst [])) := same_new hpl
    have hp2 : (upd H1 pl (.lst [])) pl = some (.lst []) := upd_same
    generalize upd H1 pl (.lst []) = H2 at s2 hp2
    have hl2 := s2 _ _ hl1
    refine ⟨_, rfl, 1, rfl, l, _, rfl, SqL.of hl2, fun wl hwl => ?_⟩
    rw [cut_drop1, List.map_cons, List.drop_one, List.tail_cons]
    have s3 : Same H2 (upd H2 wl (.lst (rest.map V.str))) := same_new hwl
    have hw3 : (upd H2 wl (.lst (rest.map V.str))) wl = some (.lst (rest.map V.str)) := upd_same
    have hp3 := s3 _ _ hp2
    generalize upd H2 wl (.lst (rest.map V.str)) = H3 at s3 hw3 hp3
    have s13 := s2.trans s3
    refine ⟨wl, rfl, ⟨_, SqL.of hw3⟩, ?_⟩
    refine for_list (K := K) (a := wl) (xs := rest.map V.str) (fun j σ H' => ∃ x4 x5 qs, σ = [some (.str text), some (.ref l), some (vI n), some (.ref pl), x4, x5, none, none] ∧ Same H1 H' ∧ H' wl = some (.lst (rest.map V.str)) ∧ PairsAt H' pl qs ∧ rest.take j = qs.map ptx ∧ ∀ p ∈ qs, p.1 < n ∧ p.2 < n)
      ⟨none, none, [], rfl, s13, hw3, ⟨[], hp3, Tups.nil⟩, rfl, fun p hp => (nomatch hp)⟩ ?_ ?_ ?_
    · rintro j σ H' _ ⟨x4, x5, qs, rfl, s4, hw4, P4, e4, lt4⟩
      exact SqL.of hw4
    · rintro j x σ H4 hx ⟨x4, x5, qs, rfl, s4, hw4, P4, e4, lt4⟩
      obtain ⟨wd, ew, rfl⟩ := str_map_at hx
      have hwd : wd ∈ rest := List.mem_of_getElem? ew
      have hwl' := plen wd (List.mem_cons_of_mem _ hwd)
      have hsc : (Txt.split wd (Str.ofString "<")).length ≤ 5001 := by
        rw [less_is]
        have := split_count wd 60
        omega
      have ppl : ∀ p ∈ Txt.split wd (Str.ofString "<"), p.length ≤ 5000 := fun p hp => by
        rw [less_is] at hp
        have := piece_len hp
        omega
      have none4 : ∀ H', Same H1 H' → (∀ n ps, Reads text n ps → False) → Q .non H' := fun H' sH h => q1 (fun n ps r => h n ps r) H' (s1.trans sH)
      have ofR : ∀ n' ps, Reads text n' ps → ∃ p : Nat × Nat, p.1 < n ∧ p.2 < n ∧ wd = ptx p := fun n' ps r => by
        have e2 := (same n' ps r).2
        rw [e2] at hwd
        obtain ⟨p, hp, rfl⟩ := List.mem_map.mp hwd
        have := r.good.acy.lt p hp
        rw [nE n' ps r] at this
        exact ⟨p, this.1, this.2, rfl⟩
      refine ⟨_, rfl, rfl, wd, _, rfl, rfl, by decide, by omega, by omega, fun sl hsl => ?_⟩
      generalize hparts : Txt.split wd (Str.ofString "<") = parts at *
      have s5 : Same H4 (upd H4 sl (.lst (parts.map V.str))) := same_new hsl
      have hs5 : (upd H4 sl (.lst (parts.map V.str))) sl = some (.lst (parts.map V.str)) := upd_same
      generalize upd H4 sl (.lst (parts.map V.str)) = H5 at s5 hs5
      refine ⟨sl, rfl, ⟨_, SqL.of hs5⟩, fun q hq => ?_⟩
      have sq : ∀ ys, Same H5 (upd H5 q (.lst ys)) := fun ys => same_new hq
      refine comp_list (K := K) (a := sl) (xs := parts.map V.str) (fun σ => ∃ x, σ = [x]) (fun i ys H' => ys = (parts.take i).map (fun p => V.int (numI p)) ∧ H' = upd H5 q (.lst ys)) ⟨none, rfl⟩ ⟨rfl, rfl⟩ ?_ ?_ ?_ ?_
      · rw [List.length_map]
        exact Nat.lt_of_le_of_lt hsc (by decide)
      · rintro i ys H' _ ⟨e, rfl⟩
        refine ⟨upd_same, ?_, SqL.of (sq ys _ _ hs5)⟩
        rw [e, List.length_map, List.length_take]
        exact Nat.min_le_left _ _
      · rintro i x σ ys H' hx2 ⟨x0, rfl⟩ ⟨e, rfl⟩
        obtain ⟨pt, ep, rfl⟩ := str_map_at hx2
        refine ⟨_, rfl, pt, rfl, ppl pt (List.mem_of_getElem? ep), upd_same, ⟨_, rfl⟩, ?_, by rw [upd_upd]⟩
        rw [e, take_snoc ep, List.map_append]
        rfl
      rintro ys H' ⟨e, rfl⟩
      rw [List.length_map, List.take_length] at e
      subst e
      have s6 := sq (parts.map fun p => V.int (numI p))
      have hq6 : (upd H5 q (.lst (parts.map fun p => V.int (numI p)))) q = some (.lst (parts.map fun p => V.int (numI p))) := upd_same
      generalize upd H5 q (.lst (parts.map fun p => V.int (numI p))) = H6 at s6 hq6
      have s16 := (s4.trans s5).trans s6
      refine ⟨_, rfl, q, _, rfl, .inl (SqL.of hq6), rfl, _, rfl, ?_⟩
      rw [List.length_map]
      have two : ∀ n' ps, Reads text n' ps → ∃ p : Nat × Nat, p.1 < n ∧ p.2 < n ∧ parts = [num p.1, num p.2] := fun n' ps r => by
        obtain ⟨p, h1, h2, e⟩ := ofR n' ps r
        rw [e, split_ptx (by omega) (by omega)] at hparts
        exact ⟨p, h1, h2, hparts.symm⟩
      by_cases hp2' : ∃ a b, parts = [a, b]
      · obtain ⟨a, b, rfl⟩ := hp2'
        refine ite2 (fun z => absurd z (by show ¬ (!decide (V.int (2 : Nat) = V.int 2)) = true; decide)) (fun _ => ?_)
        -- min, max
        refine ⟨_, rfl, q, _, _, rfl, SqL.of hq6, _, _, rfl, rfl, _, rfl, ?_⟩
        refine ite2 (fun z => ?_) (fun z5 => ?_)
        · refine none4 _ s16 fun n' ps r => ?_
          obtain ⟨p, h1, h2, e⟩ := two n' ps r
          injection e with e1 e2
          injection e2 with e2 _
          have z' : (if numI b < numI a then numI b else numI a) < 0 := by simpa using z
          rw [e1, e2, numI_num (by omega), numI_num (by omega)] at z'
          split at z' <;> omega
        refine ⟨_, rfl, q, _, _, rfl, SqL.of hq6, _, rfl, _, _, rfl, rfl, _, rfl, ?_⟩
        refine ite2 (fun z => ?_) (fun z6 => ?_)
        · refine none4 _ s16 fun n' ps r => ?_
          obtain ⟨p, h1, h2, e⟩ := two n' ps r
          injection e with e1 e2
          injection e2 with e2 _
          have z' : (n : Int) ≤ (if numI b > numI a then numI b else numI a) := by simpa using z
          rw [e1, e2, numI_num (by omega), numI_num (by omega)] at z'
          split at z' <;> omega
        have z5' : ¬ (if numI b < numI a then numI b else numI a) < 0 := by simpa using z5
        have z6' : ¬ (n : Int) ≤ (if numI b > numI a then numI b else numI a) := by simpa using z6
        have ra : 0 ≤ numI a ∧ numI a < n ∧ 0 ≤ numI b ∧ numI b < n := by
          split at z5' <;> split at z6' <;> omega
        obtain ⟨i1, _, ei1, ea⟩ := numI_some rfl ra.1
        obtain ⟨j1, _, ej1, eb⟩ := numI_some rfl ra.2.2.1
        have ewd : wd = ptx (i1, j1) := ptx_of hparts ea eb
        have P6 := P4.mono (s5.trans s6)
        obtain ⟨us, hu1, hu2⟩ := id P6
        have qlen : qs.length ≤ 60 := by
          have := congrArg List.length e4
          rw [List.length_take, List.length_map] at this
          omega
        have hq6' : H6 q = some (.lst [vI i1, vI j1]) := by
          rw [hq6]
          show some (HO.lst [V.int (numI a), V.int (numI b)]) = _
          rw [← ei1, ← ej1]
        refine ⟨_, rfl, .inl ⟨rfl, _, SqL.of hu1⟩, _, rfl, q, _, 0, _, rfl, rfl, SqL.of hq6', rfl, _, rfl, q, _, 1, _, rfl, rfl, SqL.of hq6', rfl, by show 2 ≤ sizeLine; decide, fun t ht => ?_⟩
        have nwp : wl ≠ pl := fun z => by
          rw [z] at hwl
          rw [hp2] at hwl
          cases hwl
        obtain ⟨vs, a1, a2, a3, a4, a5⟩ := PairsAt.add (H := H1) (a := i1) (b := j1) P6 ht hpl s16
        refine ⟨pl, _, _, rfl, rfl, a3, ?_, _, _, qs ++ [(i1, j1)], rfl, a4, ?_, a5, ?_, ?_⟩
        · rw [List.length_map, a2]
          exact small1000 (by omega)
        · rw [upd_ne nwp, upd_ne (ne_of_none ((s5.trans s6) _ _ hw4) ht)]
          exact (s5.trans s6) _ _ hw4
        · rw [take_snoc ew, e4, List.map_append, ewd]
          rfl
        · intro p hp
          rcases List.mem_append.mp hp with hp | hp
          · exact lt4 p hp
          · have : p = (i1, j1) := by simpa using hp
            rw [this]
            exact ⟨by show i1 < n; omega, by show j1 < n; omega⟩
      · refine ite2 (fun _ => ?_) (fun z => ?_)
        · refine none4 _ s16 fun n' ps r => ?_
          obtain ⟨p, _, _, e⟩ := two n' ps r
          exact hp2' ⟨_, _, e⟩
        · exfalso
          match parts, hp2', z with
          | [], _, z => exact z rfl
          | [a], _, z => exact z rfl
          | [a, b], h, _ => exact h ⟨a, b, rfl⟩
          | a :: b :: c :: r, _, z => exact z (by simp; omega)
    · rintro σ H4 ⟨x4, x5, qs, rfl, s4, hw4, P4, e4, lt4⟩
      rw [List.length_map, List.take_length] at e4
      have l60' : qs.length ≤ 60 := by
        rw [e4, List.length_map] at l60
        exact l60
      have psE : ∀ n' ps, Reads text n' ps → n' = n ∧ ps = qs := fun n' ps r => by
        refine ⟨nE n' ps r, ?_⟩
        have e2 := (same n' ps r).2
        have z1 := filterMap_ptx r.good.lt
        have z2 := filterMap_ptx (ps := qs) fun p hp => by have := lt4 p hp; omega
        rw [← e2, e4, z2] at z1
        exact z1.symm
      have none5 : ∀ H', Same H1 H' → (∀ n ps, Reads text n ps → False) → Q .non H' := fun H' sH h => q1 (fun n ps r => h n ps r) H' (s1.trans sH)
      -- above
      refine ⟨_, rfl, _, rfl, n, pl, qs, rfl, P4, h16, lt4, fun ab ks ds H5 s5 hab A5 u5 c5 => ?_⟩
      have hh := holds_of lt4 u5 c5
      obtain ⟨hlen, hm⟩ := id hh
      have s15 := s4.trans s5
      refine ⟨_, rfl, (n : Int), rfl, by omega, by omega, for_range (lo := 0) (n := n) (fun i σ H' => ∃ x7, σ = [some (.str text), some (.ref l), some (vI n), some (.ref pl), x4, x5, some (.ref ab), x7] ∧ Same H5 H' ∧ ∀ a, a < i → ∀ b, b < n → a ≠ b → clo n qs a b = true → clo n qs b a = true → False) ⟨none, rfl, Same.refl _, fun a ha => absurd ha (Nat.not_lt_zero _)⟩ ?_ ?_⟩
      · rintro i σ H6 hi ⟨x7, rfl, s6, no6⟩
        rw [Int.zero_add]
        have A6 := A5.mono s6
        refine ⟨_, rfl, (n : Int), rfl, by omega, by omega, fun q hq => ?_⟩
        have sq : ∀ ys, Same H6 (upd H6 q (.lst ys)) := fun ys => same_new hq
        refine comp_range (lo := 0) (n := n) (fun σ => ∃ x, σ = [x, some (vI i), some (.ref ab)]) (fun j ys H' => ys = ((List.range j).filter (ringI (clo n qs) i)).map vI ∧ H' = upd H6 q (.lst ys)) ⟨none, rfl⟩ ⟨rfl, rfl⟩ (by exact small1000 (by omega)) ?_ ?_ ?_
        · rintro j ys H' _ ⟨e, rfl⟩
          refine ⟨upd_same, ?_⟩
          rw [e, List.length_map]
          exact Nat.le_trans (List.length_filter_le _ _) (by simp)
        · rintro j σ ys H' hj ⟨x, rfl⟩ ⟨e, rfl⟩
          rw [Int.zero_add]
          have A7 := A6.mono (sq ys)
          obtain ⟨di, ki, di1, ki1, mi, hdi⟩ := A7.at_ (a := i) (by rw [hlen]; exact hi)
          obtain ⟨dj, kj, dj1, kj1, mj, hdj⟩ := A7.at_ (a := j) (by rw [hlen]; exact hj)
          have no : ringI (clo n qs) i j = false → (∃ x, [some (vI j), some (vI i), some (V.ref ab)] = [x, some (vI i), some (V.ref ab)]) ∧ (ys = ((List.range (j + 1)).filter (ringI (clo n qs) i)).map vI ∧ upd H6 q (.lst ys) = upd H6 q (.lst ys)) := fun hz => ⟨⟨_, rfl⟩, by rw [e, List.range_succ, List.filter_append]; simp [hz], rfl⟩
          refine ⟨_, rfl, _, rfl, rfl, _, rfl, ?_⟩
          rw [ne_dec]
          refine ite2 (fun w1 => ?_) (fun w1 => ?_)
          · refine ⟨_, rfl, _, rfl, _, rfl, ab, _, _, _, rfl, rfl, SqL.of A7.lst, atI_nat mi, di, _, rfl, DGet.k (k := Sum.inl (j : Int)) hdi, _, rfl, ?_⟩
            rw [keysV_get, hm i ki ki1]
            refine ite2 (fun w2 => ?_) (fun w2 => ?_)
            · refine ⟨_, rfl, _, rfl, _, rfl, ab, _, _, _, rfl, rfl, SqL.of A7.lst, atI_nat mj, dj, _, rfl, DGet.k (k := Sum.inl (i : Int)) hdj, _, rfl, ?_⟩
              rw [keysV_get, hm j kj kj1]
              refine ite2 (fun w3 => ?_) (fun w3 => ?_)
              · have hz : ringI (clo n qs) i j = true := by unfold ringI; rw [w1, w2, w3]; rfl
                refine ⟨_, rfl, upd_same, ⟨_, rfl⟩, ?_, by rw [upd_upd]⟩
                rw [e, List.range_succ, List.filter_append]
                simp [hz]
              · exact no (by unfold ringI; rw [eq_false_of_ne_true w3]; simp)
            · exact no (by unfold ringI; rw [eq_false_of_ne_true w2]; simp)
          · exact no (by unfold ringI; rw [eq_false_of_ne_true w1]; simp)
        · rintro ys H' ⟨e, rfl⟩
          refine ⟨q, _, rfl, .inl (SqL.of upd_same), _, _, rfl, rfl, _, rfl, ?_⟩
          rw [e, List.length_map]
          by_cases hz : ∃ b, b < n ∧ ringI (clo n qs) i b = true
          · obtain ⟨b, hb, hr⟩ := hz
            refine ite2 (fun _ => ?_) (fun z => ?_)
            · refine none5 _ ((s15.trans s6).trans (sq _)) fun n' ps r => ?_
              obtain ⟨e1, e2⟩ := psE n' ps r
              have acy := r.good.acy
              rw [e1, e2] at acy
              unfold ringI at hr
              rw [Bool.and_eq_true, Bool.and_eq_true] at hr
              have := acy.anti ((clo_iff lt4).mp hr.2.1) ((clo_iff lt4).mp hr.2.2)
              have ne : i ≠ b := by simpa using hr.1
              exact ne this
            · exfalso
              have : b ∈ (List.range n).filter (ringI (clo n qs) i) := List.mem_filter.mpr ⟨List.mem_range.mpr hb, hr⟩
              have := List.length_pos_of_mem this
              refine z ?_
              show decide ((0 : Int) < _) = true
              exact decide_eq_true (by omega)
          · have e0 : (List.range n).filter (ringI (clo n qs) i) = [] := List.filter_eq_nil_iff.mpr fun b hb hr => hz ⟨b, List.mem_range.mp hb, hr⟩
            rw [e0]
            refine ite2 (fun z => absurd z (by decide)) (fun _ => ?_)
            refine ⟨_, rfl, s6.trans (sq _), fun a ha b hb ne m1 m2 => ?_⟩
            by_cases ea : a = i
            · subst ea
              exact hz ⟨b, hb, by unfold ringI; rw [m1, m2]; simpa using ne⟩
            · exact no6 a (by omega) b hb ne m1 m2
      · rintro σ H6 ⟨x7, rfl, s6, no6⟩
        have acy : Acy n qs := acy_of lt4 fun a b ha hb r1 r2 => by
          apply Classical.byContradiction
          intro ne
          exact no6 a ha b hb ne ((clo_iff lt4).mpr r1) ((clo_iff lt4).mpr r2)
        have A6 := A5.mono s6
        have P6 := (P4.mono s5).mono s6
        refine ⟨_, rfl, _, rfl, ab, n, _, ks, ds, rfl, A6, hh, h16, fun rl H7 s7 hrl P7 => ?_⟩
        obtain ⟨us, hu1, hu2⟩ := P6.mono s7
        obtain ⟨vs, hv1, hv2⟩ := P7
        refine ⟨pl, rl, _, _, fun j => _, rfl, rfl, SqL.of hu1, SqL.of hv1, deq_pairsE hu2 hv2, _, rfl, ?_⟩
        rw [pairsE_eq hu2.len hv2.len]
        have s17 := (s15.trans s6).trans s7
        by_cases ec : qs = cov n (clo n qs)
        · rw [decide_eq_true ec]
          refine ite2 (fun z => absurd z (by decide)) (fun _ => ?_)
          have r : Reads text n qs := ⟨by rw [ews, ew0, e4], ⟨h1, h16, l60', acy⟩, ec.symm⟩
          refine ⟨_, rfl, _, rfl, by show 2 ≤ sizeLine; decide, fun t ht => ?_⟩
          have s8 : Same H7 (upd H7 t (.tup [vI n, .ref ab])) := same_new ht
          exact q2 n qs r t ab ks ds _ ((s1.trans s17).trans s8) upd_same ((A6.mono s7).mono s8) hh
        · rw [decide_eq_false ec]
          refine ite2 (fun _ => ?_) (fun z => absurd rfl z)
          refine none5 _ s17 fun n' ps r => ?_
          obtain ⟨e1, e2⟩ := psE n' ps r
          have := r.cov
          rw [e1, e2] at this
          exact ec this.symm
end
end MJ
namespace MJ
open PySem L2
def signs : Str := Str.ofString " !\"#$&'()*+,-./0123456789:;<=>?@ABCDEFGHIJKLMNOPQRSTUVWXYZ[\\]^_`" ++ Str.ofString "abcdefghijklmnopqrstuvwxyz{|}~"
theorem signs_len : signs.cps.toList.length = 94 := by decide +kernel
section
variable {P : Program} {w : World} {K : PySem.W.Frag} {mg : Str → Option Value} {base : Heap} {C oE x1 x2 x3 x4 x5 x6 x7 x8 : Addr}
inductive Sp_sign_by (vs : List V) (H : Hp) (Q : VK) (E : XK) : Prop where | mk (z : Int) (h0 : vs = [.int z]) (h1 : ∀ c, Q (.str ⟨#[c]⟩) H) : Sp_sign_by  vs H Q E
def sp_sign_by : Sp := fun vs H Q E => Sp_sign_by  vs H Q E
theorem sc__law_sign_by : FnScope ["cell", "some"] ["cell"] (defScope s__law_sign_by) := ⟨rfl, rfl, rfl, by decide +kernel, rfl, by decide +kernel, by decide +kernel⟩
theorem ok_sign_by {f : Addr} {fd : FuncData} (F : Fun K "_law_sign_by" "_law_sign_by" s__law_sign_by f fd) (T : Txt K mg C) : FnOk P w K mg base CX0 1 f fd ["cell"] sp_sign_by := by
  refine F.ok sc__law_sign_by (fun vs H Q E h => ?_) (fun cdv A outer s H vs Q E hr h => ?_)
  · obtain ⟨z, rfl, _⟩ := h
    rfl
  · obtain ⟨z, rfl, q⟩ := h
    have nd := sc__law_sign_by.nd
    refine ⟨_, (pss_cons (ps_set (i := 1) nd rfl (Or.inl rfl) pe_str)
  (pss_cons (ps_set (i := 1) nd rfl (Or.inl rfl) (pe_op op_add_str (pv 1) pe_str))
  (pss_one (ps_ret (pe_ix ix_str (pv 1) (pe_op op_mod (pv 0) pe_int) (fun _ _ => rfl)))))), ?_⟩
    have g0 : 0 ≤ z % 94 := Int.emod_nonneg _ (by decide)
    have g1 : z % 94 < 94 := Int.emod_lt_of_pos _ (by decide)
    obtain ⟨k, hk⟩ := Int.eq_ofNat_of_zero_le g0
    have hk94 : k < signs.cps.toList.length := by rw [signs_len]; omega
    have hc := List.getElem?_eq_getElem hk94
    refine ⟨_, rfl, _, _, rfl, rfl, by decide +kernel, ?_⟩
    refine ⟨_, rfl, _, rfl, _, _, rfl, rfl, by show (0 : Int) < 94; decide, ?_⟩
    refine ⟨_, _, signs.cps.toList[k], rfl, rfl, ?_, ?_, q _⟩
    · show signs.length ≤ sizeLine
      exact sz (by have : signs.length = signs.cps.toList.length := by simp [Str.length]
                   rw [this, signs_len]; decide)
    · show atI signs.cps.toList (z % 94) = _
      rw [hk]
      exact atI_nat hc
/-! ### _law_odd -/
def xLst : Expr → List Expr
  | .List es _ => es
  | _ => []
def putVal (es : List Expr) : Stmt → Stmt
  | .Assign tg (.List _ p) p' => .Assign tg (.List es p) p'
  | s => s
def putElse (f : List Stmt → List Stmt) : Stmt → Stmt
  | .If c b e p => .If c b (f e) p
  | s => s
def putBody (f : List Stmt → List Stmt) : Stmt → Stmt
  | .If c b e p => .If c (f b) e p
  | s => s
def putAt (f : Stmt → Stmt) : Nat → List Stmt → List Stmt
  | _, [] => []
  | 0, s :: ss => f s :: ss
  | i + 1, s :: ss => s :: putAt f i ss
def esOdd : List Expr := xLst (sVal ((defBody s__law_odd).getD 0 (.Pass ⟨0, 0, 0, 0⟩)))
theorem esOdd_is : (litStrs esOdd).map (fun qs => (qs.length, qs.all fun q => decide (q.length ≤ 20))) = some (12, true) := by decide +kernel
theorem odd_body : defBody s__law_odd = putAt (putVal esOdd) 0 (defBody s__law_odd) := rfl
inductive Sp_odd (vs : List V) (H : Hp) (Q : VK) (E : XK) : Prop where | mk (z : Int) (h0 : vs = [.int z]) (h1 : ∀ (wd : Str) H', wd.length ≤ 20 → Same H H' → Q (.str wd) H') : Sp_odd  vs H Q E
def sp_odd : Sp := fun vs H Q E => Sp_odd  vs H Q E
theorem sc__law_odd : FnScope ["cell", "some"] ["cell"] (defScope s__law_odd) := ⟨rfl, rfl, rfl, by decide +kernel, rfl, by decide +kernel, by decide +kernel⟩
set_option maxHeartbeats 0 in
theorem ok_odd {f : Addr} {fd : FuncData} (F : Fun K "_law_odd" "_law_odd" s__law_odd f fd) (T : Txt K mg C) : FnOk P w K mg base CX0 1 f fd ["cell"] sp_odd := by
  refine F.ok sc__law_odd (fun vs H Q E h => ?_) (fun cdv A outer s H vs Q E hr h => ?_)
  · obtain ⟨z, rfl, _⟩ := h
    rfl
  · obtain ⟨z, rfl, q⟩ := h
    have nd := sc__law_odd.nd
    obtain ⟨qs, hes, hqs⟩ := Option.map_eq_some_iff.mp esOdd_is
    have hq12 : qs.length = 12 := congrArg Prod.fst hqs
    have hq20 : ∀ x ∈ qs, x.length ≤ 20 := fun x hx => by
      have := congrArg Prod.snd hqs
      have := List.all_eq_true.mp this x hx
      exact of_decide_eq_true this
    rw [odd_body]
    generalize esOdd = es at hes
    refine ⟨_, (pss_cons (ps_set (i := 1) nd rfl (Or.inl rfl) (@pe_litStrs _ _ _ qs hes))
  (pss_cons (ps_set (i := 1) nd rfl (Or.inl rfl) (pe_op op_cat (pv 1) (pe_lst (pa_cons pe_str (pa_cons pe_str pa_nil)))))
  (pss_one (ps_ret (pe_ix ix_list (pv 1) (pe_op op_mod (pv 0) pe_int) (fun _ _ => rfl)))))), ?_⟩
    refine ⟨sz (by omega), fun l hl => ?_⟩
    have s1 : Same H (upd H l (.lst (qs.map V.str))) := same_new hl
    have hl1 : (upd H l (.lst (qs.map V.str))) l = some (.lst (qs.map V.str)) := upd_same
    generalize upd H l (.lst (qs.map V.str)) = H1 at s1 hl1
    refine ⟨_, rfl, by show 2 ≤ sizeLine; decide, fun l2 hl2 => ?_⟩
    have s2 : Same H1 (upd H1 l2 (.lst [.str (Str.ofString "3: 00<1"), .str (Str.ofString "3: 0<1_0")])) := same_new hl2
    refine ⟨l, l2, _, _, rfl, rfl, s2 _ _ hl1, upd_same, ?_, fun r hr0 => ?_⟩
    · rw [List.length_map, hq12]
      show 12 + 2 ≤ sizeLine
      decide
    have s3 := s2.step (o := .lst (qs.map V.str ++ [.str (Str.ofString "3: 00<1"), .str (Str.ofString "3: 0<1_0")])) hr0
    have g0 : 0 ≤ z % 14 := Int.emod_nonneg _ (by decide)
    have g1 : z % 14 < 14 := Int.emod_lt_of_pos _ (by decide)
    obtain ⟨k, hk⟩ := Int.eq_ofNat_of_zero_le g0
    have e1 : qs.map V.str ++ [.str (Str.ofString "3: 00<1"), .str (Str.ofString "3: 0<1_0")] = (qs ++ [Str.ofString "3: 00<1", Str.ofString "3: 0<1_0"]).map V.str := by rw [List.map_append]; rfl
    have hkl : k < (qs ++ [Str.ofString "3: 00<1", Str.ofString "3: 0<1_0"]).length := by
      rw [List.length_append, hq12]
      show k < 12 + 2
      omega
    have hg : ((qs ++ [Str.ofString "3: 00<1", Str.ofString "3: 0<1_0"]).map V.str)[k]? = some (V.str (qs ++ [Str.ofString "3: 00<1", Str.ofString "3: 0<1_0"])[k]) := by
      rw [List.getElem?_map, List.getElem?_eq_getElem hkl]
      rfl
    have hm := List.getElem_mem hkl
    generalize (qs ++ [Str.ofString "3: 00<1", Str.ofString "3: 0<1_0"])[k] = wd at hg hm
    have hw : wd.length ≤ 20 := by
      rcases List.mem_append.mp hm with z | z
      · exact hq20 _ z
      · rcases List.mem_cons.mp z with z | z
        · rw [z]
          decide
        · have : wd = Str.ofString "3: 0<1_0" := by simpa using z
          rw [this]
          decide
    refine ⟨_, rfl, _, rfl, _, _, rfl, rfl, by show (0 : Int) < 14; decide, r, _, _, .str wd, rfl, rfl, SqL.of upd_same, ?_, q wd _ hw (s1.trans s3)⟩
    rw [e1, hk]
    exact atI_nat hg
end
end MJ
namespace MJ
open PySem L2
def tot (ws : List Str) : Nat := (ws.map fun p => p.length + 1).sum
def cutS (ws : List Str) (lo hi : Option Int) : List Str := (ws.drop (HT.sIx ws.length 0 lo)).take (HT.sIx ws.length ws.length hi - HT.sIx ws.length 0 lo)
theorem cutV_map (ws : List Str) (lo hi : Option Int) : cutV (ws.map V.str) lo hi = (cutS ws lo hi).map V.str := by
  unfold cutV cutS
  rw [List.length_map, List.map_take, List.map_drop]
theorem tot_sub {ws ws' : List Str} (h : ws'.Sublist ws) : tot ws' ≤ tot ws := by
  induction h with
  | slnil => exact Nat.le_refl _
  | cons a _ ih => unfold tot at *; rw [List.map_cons, List.sum_cons]; omega
  | cons_cons a _ ih => unfold tot at *; rw [List.map_cons, List.map_cons, List.sum_cons, List.sum_cons]; omega
theorem cutS_sub (ws : List Str) (lo hi : Option Int) : (cutS ws lo hi).Sublist ws := (List.take_sublist _ _).trans (List.drop_sublist _ _)
theorem tot_append (a b : List Str) : tot (a ++ b) = tot a + tot b := by
  unfold tot
  rw [List.map_append, List.sum_append]
theorem tot_mem {ws : List Str} {x : Str} (h : x ∈ ws) : x.length + 1 ≤ tot ws := sum_ge (f := fun p : Str => p.length + 1) h
theorem tot_len (ws : List Str) : ws.length ≤ tot ws := sum_len1 (f := fun p : Str => p.length + 1) (fun p => by omega) ws
theorem tot_sum (ws : List Str) : (ws.map (·.length)).sum + ws.length = tot ws := by
  unfold tot
  induction ws with
  | nil => rfl
  | cons a ws ih => simp only [List.map_cons, List.sum_cons, List.length_cons] at *; omega
theorem tot_set {ws : List Str} {i : Nat} {x : Str} : tot (ws.set i x) ≤ tot ws + x.length + 1 := by
  induction ws generalizing i with
  | nil => exact Nat.zero_le _
  | cons a ws ih =>
    cases i with
    | zero => unfold tot; simp only [List.set_cons_zero, List.map_cons, List.sum_cons]; omega
    | succ i => have := ih (i := i); unfold tot at *; simp only [List.set_cons_succ, List.map_cons, List.sum_cons]; omega
section
variable {P : Program} {w : World} {K : PySem.W.Frag} {mg : Str → Option Value} {base : Heap} {C oE x1 x2 x3 x4 x5 x6 x7 x8 : Addr}
inductive Sp_spoiled (vs : List V) (H : Hp) (Q : VK) (E : XK) : Prop where | mk (text : Str) (c : Int) (n : Nat) (h0 : vs = [.str text, .int c, vI n]) (h1 : text.length ≤ 400) (h2 : 0 ≤ c) (h3 : 1 ≤ n) (h4 : n ≤ 16) (h5 : ∀ (wd : Str) H', wd.length ≤ 3000 → Same H H' → Q (.str wd) H') : Sp_spoiled  vs H Q E
def sp_spoiled : Sp := fun vs H Q E => Sp_spoiled  vs H Q E
theorem sc__law_spoiled : FnScope ["text", "cell", "many", "place", "rest", "ahead", "way", "words", "at"] ["text", "cell", "many"] (defScope s__law_spoiled) := ⟨rfl, rfl, rfl, by decide +kernel, rfl, by decide +kernel, by decide +kernel⟩
set_option maxHeartbeats 0 in
theorem ok_spoiled {f : Addr} {fd : FuncData} (F : Fun K "_law_spoiled" "_law_spoiled" s__law_spoiled f fd) (T : Txt K mg C) (c__law_sign_by : FnG P w K mg base "_law_sign_by" 1 ["cell"] sp_sign_by) (c__law_odd : FnG P w K mg base "_law_odd" 1 ["cell"] sp_odd) : FnOk P w K mg base CX0 2 f fd ["text", "cell", "many"] sp_spoiled := by
  refine F.ok sc__law_spoiled (fun vs H Q E h => ?_) (fun cdv A outer s H vs Q E hr h => ?_)
  · obtain ⟨text, c, n, rfl, _⟩ := h
    rfl
  · obtain ⟨text, c, n, rfl, hl, hc0, hn1, hn16, q⟩ := h
    have nd := sc__law_spoiled.nd
    have hz : text.length ≤ sizeLine := sz (by omega)
    refine ⟨_, (pss_cons (ps_set (i := 3) nd rfl (Or.inl rfl) (pe_op op_mod (pe_op op_fdiv (pv 1) pe_int) (pe_op op_add (pe_callB call_len_str (by rfl) T.len PySem.boot_len (pa_cons (pv 0) pa_nil)) pe_int)))
  (pss_cons (ps_set (i := 4) nd rfl (Or.inl rfl) (pe_op op_fdiv (pe_op op_fdiv (pv 1) pe_int) (pe_op op_add (pe_callB call_len_str (by rfl) T.len PySem.boot_len (pa_cons (pv 0) pa_nil)) pe_int)))
  (pss_cons (ps_set (i := 5) nd rfl (Or.inl rfl) (pe_slice sl_str (pv 0) po_none (po_some (pv 3))))
  (pss_cons (ps_set (i := 6) nd rfl (Or.inl rfl) (pe_op op_mod (pv 1) pe_int))
  (pss_cons (ps_set (i := 7) nd rfl (Or.inl rfl) (pe_bm PySem.F.plainAttrs_str PySem.F.slot_str_split PySem.F.type_str_split mt_split (pv 0) (pa_cons pe_str pa_nil)))
  (pss_cons (ps_set (i := 8) nd rfl (Or.inl rfl) (pe_op op_mod (pv 4) (pe_callB call_len_seq (by rfl) T.len PySem.boot_len (pa_cons (pv 7) pa_nil))))
  (pss_cons (ps_if (pt_cmpR op_eq (pv 6) pe_int (nomark _)) (pss_one (ps_ret (pe_op op_add_str (pe_op op_add_str (pv 5) (pe_callG c__law_sign_by (hr.mono (by decide)) rfl (pa_cons (pv 4) pa_nil))) (pe_slice sl_str (pv 0) (po_some (pv 3)) po_none)))) pss_nil)
  (pss_cons (ps_if (pt_cmpR op_eq (pv 6) pe_int (nomark _)) (pss_one (ps_ret (pe_op op_add_str (pe_op op_add_str (pv 5) (pe_callG c__law_sign_by (hr.mono (by decide)) rfl (pa_cons (pv 4) pa_nil))) (pe_slice sl_str (pv 0) (po_some (pe_op op_add (pv 3) pe_int)) po_none)))) pss_nil)
  (pss_cons (ps_if (pt_cmpR op_eq (pv 6) pe_int (nomark _)) (pss_one (ps_ret (pe_op op_add_str (pe_op op_add_str (pv 5) pe_str) (pe_slice sl_str (pv 0) (po_some (pe_op op_add (pv 3) (pe_op op_mod (pv 4) pe_int))) po_none)))) pss_nil)
  (pss_cons (ps_if (pt_cmpR op_eq (pv 6) pe_int (nomark _)) (pss_one (ps_ret (pe_op op_add_str (pv 5) (pe_slice sl_str (pv 0) (po_some (pe_op op_add (pv 3) pe_int)) po_none)))) pss_nil)
  (pss_cons (ps_mid (ps_if (pt_cmpR op_eq (pv 6) pe_int (nomark _)) (pss_one (ps_expr (pe_bm PySem.F.plainAttrs_list PySem.F.slot_list_insert PySem.F.type_list_insert mt_insert (pv 7) (pa_cons (pv 8) (pa_cons (pe_ix ix_list (pv 7) (pv 8) (fun _ _ => rfl)) pa_nil))))) (pss_one (ps_if (pt_cmpR op_eq (pv 6) pe_int (nomark _)) (pss_one (ps_expr (pe_bm PySem.F.plainAttrs_list PySem.F.slot_list_pop PySem.F.type_list_pop mt_popAt (pv 7) (pa_cons (pv 8) pa_nil)))) (pss_one (ps_if (pt_cmpR op_eq (pv 6) pe_int (nomark _)) (pss_cons (ps_set (i := 5) nd rfl (Or.inl rfl) (pe_op op_cat (pe_slice sl_list (pv 7) po_none (po_some (pv 8))) (pe_slice sl_list (pv 7) (po_some (pe_op op_add (pv 8) pe_int)) (po_some (pe_op op_add (pv 8) pe_int)))))
  (pss_one (ps_set (i := 7) nd rfl (Or.inl rfl) (pe_op op_cat (pe_op op_cat (pv 5) (pe_slice sl_list (pv 7) (po_some (pv 8)) (po_some (pe_op op_add (pv 8) pe_int)))) (pe_slice sl_list (pv 7) (po_some (pe_op op_add (pv 8) pe_int)) po_none))))) (pss_one (ps_if (pt_cmpR op_eq (pv 6) pe_int (nomark _)) (pss_one (ps_expr (pe_bm PySem.F.plainAttrs_list PySem.F.slot_list_insert PySem.F.type_list_insert mt_insert (pv 7) (pa_cons (pe_op op_add pe_int (pv 8)) (pa_cons (pe_op op_add_str (pe_op op_add_str (pe_callTy call_str_int (by rfl) T.str bt_str (pa_cons (pe_op op_mod (pe_op op_fdiv (pv 4) pe_int) (pv 2)) pa_nil)) pe_str) (pe_callTy call_str_int (by rfl) T.str bt_str (pa_cons (pe_op op_mod (pe_op op_fdiv (pv 4) pe_int) (pv 2)) pa_nil))) pa_nil))))) (pss_one (ps_if (pt_cmpR op_eq (pv 6) pe_int (nomark _)) (pss_one (ps_ret (pe_callG c__law_odd (hr.mono (by decide)) rfl (pa_cons (pv 4) pa_nil)))) (pss_one (ps_asg (pe_rev (pe_ix ix_list (pv 7) (pv 8) (fun _ _ => rfl)) (pe_un un_neg pe_int)) (pg_sub (pv 7) (pv 8) set_list)))))))))))))
  (pss_one (ps_ret (pe_bm PySem.F.plainAttrs_str PySem.F.slot_str_join PySem.F.type_str_join mt_join pe_str (pa_cons (pv 7) pa_nil))))))))))))))), ?_⟩
    refine ⟨_, rfl, _, _, rfl, rfl, ⟨by decide, by decide⟩, _, rfl, text, rfl, hz, _, _, rfl, rfl, _, _, rfl, rfl, (by show (0 : Int) < (text.length : Int) + 1; omega), ?_⟩
    refine ⟨_, rfl, _, _, rfl, rfl, ⟨by decide, by decide⟩, _, rfl, text, rfl, hz, _, _, rfl, rfl, _, _, rfl, rfl, ?_, ?_⟩
    · exact ⟨by show (0 : Int) < (text.length : Int) + 1; omega, by show (text.length : Int) + 1 < 1073741824; omega⟩
    have r0 : 0 ≤ c / 10 / ((text.length : Int) + 1) := Int.ediv_nonneg (Int.ediv_nonneg hc0 (by decide)) (by omega)
    generalize c / 10 / ((text.length : Int) + 1) = rs at r0
    generalize c / 10 % ((text.length : Int) + 1) = pc
    refine ⟨_, rfl, _, rfl, _, rfl, text, rfl, by omega, ?_⟩
    have ha := Txt.slice_le text none (some pc)
    generalize Txt.slice text none (some pc) = ah at ha
    refine ⟨_, rfl, _, _, rfl, rfl, by show (0 : Int) < 10; decide, ?_⟩
    generalize c % 10 = wy
    have cnt : (Txt.split text (Str.ofString " ")).length ≤ 401 := by
      rw [blank_is]
      have := split_count text 32
      omega
    have tt : tot (Txt.split text (Str.ofString " ")) ≤ 401 := by
      rw [blank_is]
      have := split_size text 32
      unfold tot
      omega
    have ne := split_ne text (Str.ofString " ")
    refine ⟨_, rfl, rfl, text, _, rfl, rfl, by decide, by omega, by omega, fun l hl0 => ?_⟩
    generalize Txt.split text (Str.ofString " ") = ws at *
    have hlp : 0 < ws.length := List.length_pos_iff.mpr ne
    have s1 : Same H (upd H l (.lst (ws.map V.str))) := same_new hl0
    have hl1 : (upd H l (.lst (ws.map V.str))) l = some (.lst (ws.map V.str)) := upd_same
    generalize upd H l (.lst (ws.map V.str)) = H1 at s1 hl1
    refine ⟨_, rfl, _, rfl, l, _, rfl, .inl (SqL.of hl1), _, _, rfl, rfl, ?_, ?_⟩
    · show (0 : Int) < ((ws.map V.str).length : Nat)
      rw [List.length_map]
      omega
    rw [List.length_map]
    have a0 : 0 ≤ rs % (ws.length : Int) := Int.emod_nonneg _ (by omega)
    have a1 : rs % (ws.length : Int) < ws.length := Int.emod_lt_of_pos _ (by omega)
    obtain ⟨at_, hat⟩ := Int.eq_ofNat_of_zero_le a0
    rw [hat]
    have hal : at_ < ws.length := by omega
    have hsl : ∀ lo hi, (Txt.slice text lo hi).length ≤ 400 := fun lo hi => Nat.le_trans (Txt.slice_le text lo hi) hl
    have e1 : ∀ sc : Nat, (⟨#[sc]⟩ : Str).length = 1 := fun _ => rfl
    have hatx : (ws.map V.str)[at_]? = some (.str ws[at_]) := by rw [List.getElem?_map, List.getElem?_eq_getElem hal]; rfl
    have hwat := tot_mem (List.getElem_mem hal)
    -- way == 0
    refine ⟨_, rfl, rfl, _, rfl, ?_⟩
    refine ite2 (fun _ => ?_) (fun _ => ?_)
    · refine ⟨_, rfl, _, rfl, rs, rfl, fun sc => ⟨ah, ⟨#[sc]⟩, rfl, rfl, sz (by rw [e1]; omega), _, rfl, _, rfl, pc, rfl, text, rfl, by omega, _, _, rfl, rfl, sz ?_, q _ H1 ?_ s1⟩⟩
      · have := hsl (some pc) none
        rw [Str.length_append, e1]
        omega
      · have := hsl (some pc) none
        rw [Str.length_append, Str.length_append, e1]
        omega
    -- way == 1
    refine ⟨_, rfl, rfl, _, rfl, ?_⟩
    refine ite2 (fun _ => ?_) (fun _ => ?_)
    · refine ⟨_, rfl, _, rfl, rs, rfl, fun sc => ⟨ah, ⟨#[sc]⟩, rfl, rfl, sz (by rw [e1]; omega), _, rfl, _, rfl, _, _, rfl, rfl, _, rfl, text, rfl, by omega, _, _, rfl, rfl, sz ?_, q _ H1 ?_ s1⟩⟩
      · have := hsl (some (pc + 1)) none
        rw [Str.length_append, e1]
        omega
      · have := hsl (some (pc + 1)) none
        rw [Str.length_append, Str.length_append, e1]
        omega
    -- way == 2
    refine ⟨_, rfl, rfl, _, rfl, ?_⟩
    refine ite2 (fun _ => ?_) (fun _ => ?_)
    · have el : (Str.ofString "\n").length = 1 := by decide
      refine ⟨_, rfl, ah, _, rfl, rfl, sz (by rw [el]; omega), _, rfl, _, rfl, _, rfl, _, _, rfl, rfl, by show (0 : Int) < 2; decide, _, _, rfl, rfl, _, rfl, text, rfl, by omega, _, _, rfl, rfl, sz ?_, q _ H1 ?_ s1⟩
      · have := hsl (some (pc + rs % 2)) none
        rw [Str.length_append, el]
        omega
      · have := hsl (some (pc + rs % 2)) none
        rw [Str.length_append, Str.length_append, el]
        omega
    -- way == 3
    refine ⟨_, rfl, rfl, _, rfl, ?_⟩
    refine ite2 (fun _ => ?_) (fun _ => ?_)
    · refine ⟨_, rfl, _, rfl, _, rfl, _, _, rfl, rfl, _, rfl, text, rfl, by omega, ah, _, rfl, rfl, sz ?_, q _ H1 ?_ s1⟩
      · have := hsl (some (pc + 1)) none
        omega
      · have := hsl (some (pc + 1)) none
        rw [Str.length_append]
        omega
    refine ⟨fun σ' H' => ∃ (x5 : Option V) (wl : Addr) (ws' : List Str), σ' = [some (.str text), some (.int c), some (vI n), some (.int pc), some (.int rs), x5, some (.int wy), some (.ref wl), some (vI at_)] ∧ Same H H' ∧ H' wl = some (.lst (ws'.map V.str)) ∧ tot ws' ≤ 2000, ?_, ?_⟩
    · -- way == 4
      refine ⟨_, rfl, rfl, _, rfl, ?_⟩
      refine ite2 (fun _ => ?_) (fun _ => ?_)
      · refine ⟨_, rfl, .inl ⟨rfl, _, SqL.of hl1⟩, _, rfl, _, rfl, _, rfl, l, _, _, _, rfl, rfl, SqL.of hl1, atI_nat hatx, l, _, at_, _, rfl, rfl, hl1, by rw [List.length_map]; omega, by rw [List.length_map]; omega, ?_⟩
        refine ⟨_, l, ws.take at_ ++ ws[at_] :: ws.drop at_, rfl, s1.put hl0, ?_, ?_⟩
        · rw [upd_same, List.map_append, List.map_cons, List.map_take, List.map_drop]
        · have h1 := tot_append (ws.take at_) (ws.drop at_)
          rw [List.take_append_drop] at h1
          have h2 := tot_append (ws.take at_) (ws[at_] :: ws.drop at_)
          have h3 : tot (ws[at_] :: ws.drop at_) = ws[at_].length + 1 + tot (ws.drop at_) := by unfold tot; rw [List.map_cons, List.sum_cons]
          omega
      -- way == 5
      refine ⟨_, rfl, rfl, _, rfl, ?_⟩
      refine ite2 (fun _ => ?_) (fun _ => ?_)
      · refine ⟨_, rfl, .inl ⟨rfl, _, SqL.of hl1⟩, _, rfl, l, _, _, at_, _, rfl, rfl, hl1, by omega, by omega, (ixN_seq (ixN_nat (by rw [List.length_map]; exact hal))).1, hatx, ?_⟩
        refine ⟨_, l, ws.eraseIdx at_, rfl, s1.put hl0, ?_, ?_⟩
        · rw [upd_same, List.eraseIdx_eq_take_drop_succ, List.eraseIdx_eq_take_drop_succ, List.map_append, List.map_take, List.map_drop]
        · have := tot_sub (List.eraseIdx_sublist ws at_)
          omega
      -- way == 6
      refine ⟨_, rfl, rfl, _, rfl, ?_⟩
      refine ite2 (fun _ => ?_) (fun _ => ?_)
      · have cl : ∀ lo hi, (cutS ws lo hi).length ≤ 401 ∧ tot (cutS ws lo hi) ≤ 401 := fun lo hi => by
          have h1 := (cutS_sub ws lo hi).length_le
          have h2 := tot_sub (cutS_sub ws lo hi)
          omega
        refine ⟨_, rfl, _, rfl, _, rfl, l, _, rfl, SqL.of hl1, fun p1 hp1 => ?_⟩
        rw [cutV_map]
        have lA := cl none (some (at_ : Int))
        generalize cutS ws none (some (at_ : Int)) = LA at lA
        have s2 : Same H1 (upd H1 p1 (.lst (LA.map V.str))) := same_new hp1
        have h2 : (upd H1 p1 (.lst (LA.map V.str))) p1 = some (.lst (LA.map V.str)) := upd_same
        generalize upd H1 p1 (.lst (LA.map V.str)) = H2 at s2 h2
        have hl2 := s2 _ _ hl1
        refine ⟨_, rfl, _, rfl, _, _, rfl, rfl, _, rfl, _, rfl, _, _, rfl, rfl, _, rfl, l, _, rfl, SqL.of hl2, fun p2 hp2 => ?_⟩
        rw [cutV_map]
        have lB := cl (some ((at_ : Int) + 1)) (some ((at_ : Int) + 2))
        generalize cutS ws (some ((at_ : Int) + 1)) (some ((at_ : Int) + 2)) = LB at lB
        have s3 : Same H2 (upd H2 p2 (.lst (LB.map V.str))) := same_new hp2
        have h3 : (upd H2 p2 (.lst (LB.map V.str))) p2 = some (.lst (LB.map V.str)) := upd_same
        generalize upd H2 p2 (.lst (LB.map V.str)) = H3 at s3 h3
        refine ⟨p1, p2, _, _, rfl, rfl, s3 _ _ h2, h3, by rw [List.length_map, List.length_map]; exact sz (by omega), fun r hr0 => ?_⟩
        rw [← List.map_append]
        have s4 : Same H3 (upd H3 r (.lst ((LA ++ LB).map V.str))) := same_new hr0
        have h4 : (upd H3 r (.lst ((LA ++ LB).map V.str))) r = some (.lst ((LA ++ LB).map V.str)) := upd_same
        generalize upd H3 r (.lst ((LA ++ LB).map V.str)) = H4 at s4 h4
        have hl4 := s4 _ _ (s3 _ _ hl2)
        refine ⟨_, rfl, _, rfl, _, rfl, _, rfl, _, rfl, _, _, rfl, rfl, _, rfl, l, _, rfl, SqL.of hl4, fun p3 hp3 => ?_⟩
        rw [cutV_map]
        have lC := cl (some (at_ : Int)) (some ((at_ : Int) + 1))
        generalize cutS ws (some (at_ : Int)) (some ((at_ : Int) + 1)) = LC at lC
        have s5 : Same H4 (upd H4 p3 (.lst (LC.map V.str))) := same_new hp3
        have h5 : (upd H4 p3 (.lst (LC.map V.str))) p3 = some (.lst (LC.map V.str)) := upd_same
        generalize upd H4 p3 (.lst (LC.map V.str)) = H5 at s5 h5
        refine ⟨r, p3, _, _, rfl, rfl, s5 _ _ h4, h5, by rw [List.length_map, List.length_map, List.length_append]; exact sz (by omega), fun r2 hr2 => ?_⟩
        rw [← List.map_append]
        have s6 : Same H5 (upd H5 r2 (.lst ((LA ++ LB ++ LC).map V.str))) := same_new hr2
        have h6 : (upd H5 r2 (.lst ((LA ++ LB ++ LC).map V.str))) r2 = some (.lst ((LA ++ LB ++ LC).map V.str)) := upd_same
        generalize upd H5 r2 (.lst ((LA ++ LB ++ LC).map V.str)) = H6 at s6 h6
        have hl6 := s6 _ _ (s5 _ _ hl4)
        refine ⟨_, rfl, _, rfl, _, _, rfl, rfl, _, rfl, l, _, rfl, SqL.of hl6, fun p4 hp4 => ?_⟩
        rw [cutV_map]
        have lD := cl (some ((at_ : Int) + 2)) none
        generalize cutS ws (some ((at_ : Int) + 2)) none = LD at lD
        have s7 : Same H6 (upd H6 p4 (.lst (LD.map V.str))) := same_new hp4
        have h7 : (upd H6 p4 (.lst (LD.map V.str))) p4 = some (.lst (LD.map V.str)) := upd_same
        generalize upd H6 p4 (.lst (LD.map V.str)) = H7 at s7 h7
        refine ⟨r2, p4, _, _, rfl, rfl, s7 _ _ h6, h7, by rw [List.length_map, List.length_map, List.length_append, List.length_append]; exact sz (by omega), fun r3 hr3 => ?_⟩
        rw [← List.map_append]
        refine ⟨_, r3, LA ++ LB ++ LC ++ LD, rfl, ((((((s1.trans s2).trans s3).trans s4).trans s5).trans s6).trans s7).step hr3, upd_same, ?_⟩
        rw [tot_append, tot_append, tot_append]
        omega
      -- way == 7
      refine ⟨_, rfl, rfl, _, rfl, ?_⟩
      refine ite2 (fun _ => ?_) (fun _ => ?_)
      · have g0 : 0 ≤ rs / 64 % (n : Int) := Int.emod_nonneg _ (by omega)
        have g1 : rs / 64 % (n : Int) < n := Int.emod_lt_of_pos _ (by omega)
        have g2 : 0 ≤ rs / 1024 % (n : Int) := Int.emod_nonneg _ (by omega)
        have g3 : rs / 1024 % (n : Int) < n := Int.emod_lt_of_pos _ (by omega)
        obtain ⟨k1, hk1⟩ := Int.eq_ofNat_of_zero_le g0
        obtain ⟨k2, hk2⟩ := Int.eq_ofNat_of_zero_le g2
        have f1 := num_ok k1 (by omega)
        have f2 := num_ok k2 (by omega)
        have v1 : V.int (rs / 64 % (n : Int)) = V.int (k1 : Nat) := by rw [hk1]
        have v2 : V.int (rs / 1024 % (n : Int)) = V.int (k2 : Nat) := by rw [hk2]
        have v3 : V.int (1 + (at_ : Int)) = V.int ((at_ + 1 : Nat) : Int) := by rw [Int.add_comm]; rfl
        refine ⟨_, rfl, .inl ⟨rfl, _, SqL.of hl1⟩, _, rfl, _, _, rfl, rfl, _, rfl, _, _, rfl, rfl, ⟨by decide, by decide⟩, _, rfl, _, _, rfl, rfl, by show (0 : Int) < n; omega, (k1 : Int), by rw [← v1], f1.2.2.2, num k1, _, rfl, rfl, sz (by rw [ofS_len1.1]; omega), ?_⟩
        refine ⟨_, rfl, _, _, rfl, rfl, ⟨by decide, by decide⟩, _, rfl, _, _, rfl, rfl, by show (0 : Int) < n; omega, (k2 : Int), by rw [← v2], f2.2.2.2, num k1 ++ Str.ofString "<", num k2, rfl, rfl, sz (by rw [Str.length_append, ofS_len1.1]; omega), ?_⟩
        refine ⟨l, _, at_ + 1, _, rfl, by rw [v3], hl1, by rw [List.length_map]; omega, by rw [List.length_map]; omega, ?_⟩
        refine ⟨_, l, ws.take (at_ + 1) ++ (num k1 ++ Str.ofString "<" ++ num k2) :: ws.drop (at_ + 1), rfl, s1.put hl0, ?_, ?_⟩
        · rw [upd_same, List.map_append, List.map_cons, List.map_take, List.map_drop]
        · have h1 := tot_append (ws.take (at_ + 1)) (ws.drop (at_ + 1))
          rw [List.take_append_drop] at h1
          have h2 := tot_append (ws.take (at_ + 1)) ((num k1 ++ Str.ofString "<" ++ num k2) :: ws.drop (at_ + 1))
          have h3 : tot ((num k1 ++ Str.ofString "<" ++ num k2) :: ws.drop (at_ + 1)) = (num k1 ++ Str.ofString "<" ++ num k2).length + 1 + tot (ws.drop (at_ + 1)) := by unfold tot; rw [List.map_cons, List.sum_cons]
          have h4 : (num k1 ++ Str.ofString "<" ++ num k2).length ≤ 5 := by rw [Str.length_append, Str.length_append, ofS_len1.1]; omega
          omega
      -- way == 8
      refine ⟨_, rfl, rfl, _, rfl, ?_⟩
      refine ite2 (fun _ => ?_) (fun _ => ?_)
      · refine ⟨_, rfl, rs, rfl, fun wd H2 hw s2 => q wd H2 (by omega) (s1.trans s2)⟩
      -- words[at] = words[at][::-1]
      refine ⟨_, rfl, _, rfl, l, _, _, _, rfl, rfl, SqL.of hl1, atI_nat hatx, ?_⟩
      refine ⟨1, rfl, -1, rfl, by decide, ws[at_], rfl, by omega, fun b hb => ?_⟩
      refine ⟨_, rfl, _, rfl, l, _, _, at_, rfl, rfl, hl1, ixN_nat (by rw [List.length_map]; exact hal), ?_⟩
      refine ⟨_, l, ws.set at_ b, rfl, s1.put hl0, by rw [upd_same, List.map_set], ?_⟩
      have := tot_set (ws := ws) (i := at_) (x := b)
      omega
    · rintro σ H2 ⟨x5, wl, ws', rfl, s2, hw2, t2⟩
      have tl := tot_len ws'
      have ts := tot_sum ws'
      have eb : (Str.ofString " ").length = 1 := by decide
      refine ⟨rfl, _, rfl, _, wl, ws', rfl, rfl, SqL.of hw2, by rw [eb]; omega, q _ H2 ?_ s2⟩
      have := join_len (Str.ofString " ") ws'
      rw [eb] at this
      omega
end
end MJ
namespace MJ
open PySem L2
theorem Reads.one {text : Str} {n n' : Nat} {ps ps' : List (Nat × Nat)} (h : Reads text n ps) (h' : Reads text n' ps') : n = n' ∧ ps = ps' := by
  have e := h.spl
  rw [h'.spl] at e
  injection e with e1 e2
  have m1 := many_hd (n := n) (by have := h.good.h16; omega)
  have m2 := many_hd (n := n') (by have := h'.good.h16; omega)
  rw [e1, m1] at m2
  have z1 := filterMap_ptx h.good.lt
  have z2 := filterMap_ptx h'.good.lt
  rw [e2, z1] at z2
  exact ⟨Option.some.inj m2, z2⟩
theorem bools_len (i : Nat) : (bools i).length = 9 := by simp [bools]
theorem bools_at {i j : Nat} (h : j < 9) : (bools i)[j]? = some (.bl (j == i)) := by
  unfold bools
  rw [List.getElem?_map, List.getElem?_range h]
  rfl
theorem deq_bools {K : PySem.W.Frag} {H : Hp} {i : Nat} : ∀ (j : Nat) (x y : V), (bools i)[j]? = some x → (bools i)[j]? = some y → DEq K H 3 x y true := fun j x y hx hy => by
  rw [hx] at hy
  cases hy
  unfold bools at hx
  rw [List.getElem?_map] at hx
  cases e : (List.range 9)[j]? with
  | none => rw [e] at hx; cases hx
  | some k =>
    rw [e] at hx
    cases hx
    have := DEq.flat (K := K) (H := H) (n := 3) (x := .bl (k == i)) (y := .bl (k == i)) rfl rfl
    simpa [eqV] using this
section
variable {P : Program} {w : World} {K : PySem.W.Frag} {mg : Str → Option Value} {base : Heap} {C oE x1 x2 x3 x4 x5 x6 x7 x8 : Addr}
inductive Sp_law (K : PySem.W.Frag) (vs : List V) (H : Hp) (Q : VK) (E : XK) : Prop where | mk (a : Addr) (ns : List Int) (h0 : vs = [.ref a]) (h1 : SqL K H a (ns.map V.int)) (h2 : ∀ H', Q (.bl true) H') : Sp_law K vs H Q E
def sp_law (K : PySem.W.Frag) : Sp := fun vs H Q E => Sp_law K vs H Q E
theorem sc_law : FnScope ["script", "many", "pairs", "text", "a", "b", "due", "found", "marks", "e"] ["script"] (defScope s_law) := ⟨rfl, rfl, rfl, by decide +kernel, rfl, by decide +kernel, by decide +kernel⟩
set_option maxHeartbeats 0 in
theorem ok_law {f : Addr} {fd : FuncData} (F : Fun K "law" "law" s_law f fd) (T : Txt K mg C) (TX : TxtN K mg oE x1 x2 x3 x4 x5 x6 x7 x8) (R8 : RefK K oE x8 x1 x2 x3 x4 x5 x6 x7 x8 7) (c__law_drawn : FnG P w K mg base "_law_drawn" 3 ["script"] (sp_drawn K)) (c__law_cell_at : FnG P w K mg base "_law_cell_at" 1 ["script", "k"] (sp_cell_at K)) (c__law_under : FnG P w K mg base "_law_under" 1 ["many", "pairs"] sp_under) (c__law_right_below : FnG P w K mg base "_law_right_below" 1 ["above"] sp_law_right_below)
    (c__law_spoiled : FnG P w K mg base "_law_spoiled" 2 ["text", "cell", "many"] sp_spoiled) (c__law_due : FnG P w K mg base "_law_due" 2 ["text"] sp_due) (c_readX : FnX P w K mg base "read" 6 ["text"] (sp_readX C x8)) (c__law_marks_of : FnM P w K mg base "_law_marks_of" 1 ["e"] (sp_marks K x1 x2 x3 x4 x5 x6 x7 x8)) (c__law_same : FnG P w K mg base "_law_same" 4 ["order", "many", "above"] (sp_same C)) :
    FnOk P w K mg base CX0 7 f fd ["script"] (sp_law K) := by
  refine F.ok sc_law (fun vs H Q E h => ?_) (fun cdv A outer s H vs Q E hr h => ?_)
  · obtain ⟨a, ns, rfl, _⟩ := h
    rfl
  · obtain ⟨a, ns, rfl, hS, k⟩ := h
    have nd := sc_law.nd
    have hu := hu_of hr
    have hu64 := Room.units hr
    let Ek : St → XK := fun σ c _ H' => c = .ref x8 ∧ Same H H' ∧ ∀ text, σ[3]? = some (some (.str text)) → ∀ n ps, ¬ Reads text n ps
    have hmat : ∀ (σ : St) (D : Addr) (H' : Hp), Ek σ (.ref D) none H' → PySem.W.exmOne K (.ref D) (.ref oE) = some true := fun σ D H' e => by
      have : D = x8 := by have := e.1; injection this
      rw [this]
      exact R8.up
    refine ⟨_, (pss_cons (ps_asg (pe_callG c__law_drawn (hr.mono (by decide)) rfl (pa_cons (pv 0) pa_nil)) (pg_tup rfl (pgs_cons (pg_name (i := 1) nd rfl (Or.inl rfl)) (pgs_cons (pg_name (i := 2) nd rfl (Or.inl rfl)) pgs_nil))))
  (pss_cons (ps_set (i := 3) nd rfl (Or.inl rfl) (pe_op op_add_str (pe_callTy call_str_int (by rfl) T.str bt_str (pa_cons (pv 1) pa_nil)) pe_str))
  (pss_cons (ps_for PassesOwn.never rfl (pi_list (pe_callG c__law_right_below (hr.mono (by decide)) rfl (pa_cons (pe_callG c__law_under (hr.mono (by decide)) rfl (pa_cons (pv 1) (pa_cons (pv 2) pa_nil))) pa_nil))) (pg_tup rfl (pgs_cons (pg_name (i := 4) nd rfl (Or.inl rfl)) (pgs_cons (pg_name (i := 5) nd rfl (Or.inl rfl)) pgs_nil))) (pss_one (ps_set (i := 3) nd rfl (Or.inl rfl) (pe_op op_add_str (pe_op op_add_str (pe_op op_add_str (pe_op op_add_str (pv 3) pe_str) (pe_callTy call_str_int (by rfl) T.str bt_str (pa_cons (pv 4) pa_nil))) pe_str) (pe_callTy call_str_int (by rfl) T.str bt_str (pa_cons (pv 5) pa_nil))))))
  (pss_cons (ps_mid (ps_if (pt_cmpR op_gt (pe_op op_mod (pe_callG c__law_cell_at (hr.mono (by decide)) rfl (pa_cons (pv 0) (pa_cons pe_int pa_nil))) pe_int) pe_int (nomark _)) (pss_one (ps_set (i := 3) nd rfl (Or.inl rfl) (pe_callG c__law_spoiled (hr.mono (by decide)) rfl (pa_cons (pv 3) (pa_cons (pe_op op_mod (pe_op op_fdiv (pe_callG c__law_cell_at (hr.mono (by decide)) rfl (pa_cons (pv 0) (pa_cons pe_int pa_nil))) pe_int) (pe_op op_pow pe_int pe_int)) (pa_cons (pv 1) pa_nil)))))) pss_nil))
  (pss_cons (ps_set (i := 6) nd rfl (Or.inl rfl) (pe_callG c__law_due (hr.mono (by decide)) rfl (pa_cons (pv 3) pa_nil)))
  (pss_cons (ps_set (i := 7) nd rfl (Or.inl rfl) pe_non)
  (pss_cons (ps_set (i := 8) nd rfl (Or.inl rfl) (pe_lst pa_nil))
  (pss_cons (ps_try2 (Ek := Ek) (i := 9) rfl rfl rfl nd rfl rfl rfl TX.OrderError hmat (fun pn E1 σ hp => set_callAt c_readX (hr.mono (by decide)) rfl (pa_cons (pv 3) pa_nil) nd (i := 7) rfl (Or.inl rfl) hp) (fun a => pss_one (ps_set (i := 8) nd rfl (Or.inl rfl) (pe_callM c__law_marks_of (hr.toM (by decide)) rfl (pa_cons (pv 9) pa_nil)))))
  (pss_cons (ps_if (pt_cmp (pc_isN (pv 6))) (pss_one (ps_ret (pe_cmpR (op_eqL hu64) (pv 8) (pe_comp [none] ["k"] (defScope s_law) ["script", "many", "pairs", "text", "a", "b", "due", "found", "marks", "e"] (by decide +kernel) rfl (pi_range1 rfl T.range (pa_cons pe_int pa_nil)) (fun _ _ _ _ _ _ => pg_name (i := 0) (show List.Nodup (["k"] : List Str) by decide +kernel) rfl (Or.inl rfl)) (fun _ _ _ _ _ _ => pifs_nil) (fun _ _ _ _ _ _ => pe_cmpR op_eq (pv 0) pe_int (nomark _))) (nomark _)))) pss_nil)
  (pss_one (ps_ret (pe_and (pe_cmpR (op_eqL hu64) (pv 8) (pe_lst pa_nil) (nomark _)) (pe_one (pe_callG c__law_same (hr.mono (by decide)) rfl (pa_cons (pv 7) (pa_cons (pe_ix ix_tup (pv 6) pe_int (fun _ _ => rfl)) (pa_cons (pe_ix ix_tup (pv 6) pe_int (fun _ _ => rfl)) pa_nil))))))))))))))))), ?_⟩
    refine ⟨_, rfl, a, ns, rfl, hS, fun t l n ps H1 s1 ht hl ht1 P1 h1 h16 acy h60 => ?_⟩
    refine ⟨t, _, rfl, SqT.of ht1, rfl, _, _, rfl, _, _, rfl, rfl, ?_⟩
    have hn : n < 17 := by omega
    have ln : (Str.ofString (toString (n : Int))).length ≤ 2 := num_len hn
    have L1 := ofS_len1
    refine ⟨_, rfl, (n : Int), rfl, (num_ok n hn).2.2.2, _, _, rfl, rfl, ?_, ?_⟩
    · rw [L1.2.1]
      exact sz (by omega)
    refine ⟨_, rfl, _, rfl, n, l, ps, rfl, P1, h16, acy.lt, fun ab ks ds H5 s5 hab A5 u5 c5 => ?_⟩
    have hh := holds_of acy.lt u5 c5
    have hcov : (cov n (clo n ps)).length ≤ 60 := Nat.le_trans (cov_le acy) h60
    generalize clo n ps = m at *
    have cl : ∀ p ∈ cov n m, p.1 < 17 ∧ p.2 < 17 := fun p hp => by
      have := cov_lt p hp
      omega
    refine ⟨ab, n, m, ks, ds, rfl, A5, hh, h16, fun rl H6 s6 hrl P6 => ?_⟩
    obtain ⟨us, hr6, T6⟩ := id P6
    have tlen : (us.map V.ref).length = (cov n m).length := by rw [List.length_map, T6.len]
    refine ⟨rl, rfl, ⟨_, SqL.of hr6⟩, for_list (K := K) (a := rl) (xs := us.map V.ref) (fun i σ H' => ∃ x6 x7, σ = [some (.ref a), some (vI n), some (.ref l), some (.str (shS n ((cov n m).take i))), x6, x7, none, none, none, none] ∧ H' = H6) ⟨none, none, rfl, rfl⟩ (fun i σ H' _ ⟨_, _, _, e⟩ => e ▸ SqL.of hr6) ?_ ?_⟩
    · rintro i v σ H7 hi ⟨x6, x7, rfl, rfl⟩
      obtain ⟨u, pr, rfl, e1, e2, hu⟩ := T6.get hi
      have hpr := cl pr (List.mem_of_getElem? e2)
      have la : (Str.ofString (toString (pr.1 : Int))).length ≤ 2 := num_len hpr.1
      have lb : (Str.ofString (toString (pr.2 : Int))).length ≤ 2 := num_len hpr.2
      have lS : (shS n ((cov n m).take i)).length ≤ 364 := by
        have := sh_len hn (ps := (cov n m).take i) fun q hq => cl q (List.mem_of_mem_take hq)
        rw [List.length_take] at this
        omega
      refine ⟨u, _, rfl, SqT.of hu, rfl, _, _, rfl, _, _, rfl, rfl, ?_⟩
      refine ⟨_, rfl, _, _, rfl, rfl, ?_, _, rfl, (pr.1 : Int), rfl, (num_ok _ hpr.1).2.2.2, _, _, rfl, rfl, ?_, _, _, rfl, rfl, ?_, _, rfl, (pr.2 : Int), rfl, (num_ok _ hpr.2).2.2.2, _, _, rfl, rfl, ?_, some (vI pr.1), some (vI pr.2), ?_, rfl⟩
      · rw [L1.2.2]
        exact sz (by omega)
      · rw [Str.length_append, L1.2.2]
        exact sz (by omega)
      · rw [Str.length_append, Str.length_append, L1.2.2, L1.1]
        exact sz (by omega)
      · rw [Str.length_append, Str.length_append, Str.length_append, L1.2.2, L1.1]
        exact sz (by omega)
      · have e3 : shS n ((cov n m).take (i + 1)) = shS n ((cov n m).take i) ++ Str.ofString " " ++ Str.ofString (toString (pr.1 : Int)) ++ Str.ofString "<" ++ Str.ofString (toString (pr.2 : Int)) := by
          rw [take_snoc e2, sh_snoc]
          unfold ptx
          simp only [Str.append_assoc]
        rw [e3]
        rfl
    · rintro σ H7 ⟨x6, x7, rfl, rfl⟩
      rw [tlen, List.take_length]
      have lS : (shS n (cov n m)).length ≤ 364 := by
        have := sh_len hn (ps := cov n m) cl
        omega
      have s07 := (s1.trans s5).trans s6
      refine ⟨fun σ H' => ∃ text x6 x7, σ = [some (.ref a), some (vI n), some (.ref l), some (.str text), x6, x7, none, none, none, none] ∧ Same H H' ∧ text.length ≤ 5000, ?_, ?_⟩
      · refine ⟨_, rfl, a, ns, 2, rfl, s07.seq hS, by omega, fun z1 => ⟨_, _, rfl, rfl, by show (0 : Int) < 4; decide, _, _, rfl, rfl, _, rfl, ?_⟩⟩
        refine ite2 (fun _ => ?_) (fun _ => ?_)
        · refine ⟨_, rfl, _, rfl, a, ns, 2, rfl, s07.seq hS, by omega, fun z2 => ⟨_, _, rfl, rfl, ⟨by decide, by decide⟩, _, _, rfl, rfl, ⟨by decide, by decide, by decide⟩, _, _, rfl, rfl, ?_, ?_⟩⟩
          · show (0 : Int) < _
            decide
          · refine ⟨_, rfl, _, _, n, rfl, by omega, Int.emod_nonneg _ (by decide), h1, h16, fun wd H8 hw s8 => ?_⟩
            exact ⟨wd, x6, x7, rfl, s07.trans s8, by omega⟩
        · exact ⟨_, x6, x7, rfl, s07, by omega⟩
      · clear lS
        rintro σ H8 ⟨text, y6, y7, rfl, s8, hl8⟩
        by_cases hR : ∃ n ps, Reads text n ps
        · obtain ⟨n', ps', hR⟩ := hR
          refine ⟨_, rfl, text, rfl, hl8, fun h => absurd hR (h n' ps'), fun n2 ps2 hR2 t2 ab2 ks2 ds2 H9 s9 ht2 A9 hh9 => ?_⟩
          refine ⟨Nat.zero_le _, fun r hr0 => ?_⟩
          have s10 : Same H9 (upd H9 r (.lst [])) := same_new hr0
          refine ⟨?_, fun D e H1 hE he => ?_⟩
          · refine ⟨_, rfl, text, rfl, hl8, fun n3 ps3 hR3 p' H11 s11 hp' O11 => ?_, fun h => absurd hR (h n' ps')⟩
            obtain ⟨rfl, rfl⟩ := Reads.one hR3 hR2
            have h16' := hR2.good.h16
            have hr11 : H11 r = some (.lst []) := s11 _ _ upd_same
            have sA := s10.trans s11
            have ht11 := sA _ _ ht2
            have A11 := A9.mono sA
            refine ⟨_, rfl, _, rfl, ?_⟩
            refine ite2 (fun z => absurd z (by show ¬ decide (V.ref t2 = V.non) = true; simp)) (fun _ => ?_)
            refine ⟨_, rfl, ?_⟩
            refine ⟨Nat.zero_le _, fun r3 hr3 => ?_⟩
            have nr3 : r ≠ r3 := ne_of_none hr11 hr3
            have s12 : Same H11 (upd H11 r3 (.lst [])) := same_new hr3
            refine ⟨r, r3, [], [], fun _ => true, rfl, rfl, SqL.of (by rw [upd_ne nr3]; exact hr11), SqL.of upd_same, (fun j x y hx _ => by cases hx), ?_⟩
            refine ⟨_, rfl, ?_⟩
            refine ite2 (fun _ => ?_) (fun z => absurd (by decide) z)
            have sB := sA.trans s12
            refine ⟨_, rfl, _, rfl, t2, _, 0, _, rfl, rfl, SqT.of (sB _ _ ht2), rfl, _, rfl, t2, _, 1, _, rfl, rfl, SqT.of (sB _ _ ht2), rfl, ?_⟩
            exact ⟨p', ab2, n3, _, ks2, ds2, rfl, O11.mono s12, A11.mono s12, hh9, h16', fun H13 s13 => k H13⟩
          · exact absurd hR (hE.2.2 text rfl n' ps')
        · have hN : ∀ n ps, ¬ Reads text n ps := fun n ps h => hR ⟨n, ps, h⟩
          refine ⟨_, rfl, text, rfl, hl8, fun _ H9 s9 => ?_, fun n ps h => absurd h (hN n ps)⟩
          refine ⟨Nat.zero_le _, fun r hr0 => ?_⟩
          have s10 : Same H9 (upd H9 r (.lst [])) := same_new hr0
          refine ⟨?_, fun D e H1 hE he => ?_⟩
          · exact ⟨_, rfl, text, rfl, hl8, fun n ps h => absurd h (hN n ps), fun _ H11 s11 => ⟨rfl, ((s8.trans s9).trans s10).trans s11, fun text' e => by cases e; exact hN⟩⟩
          · obtain ⟨hD, s11, _⟩ := hE
            have hD' : D = x8 := by injection hD
            subst hD'
            obtain ⟨b1, b2, b3, b4, b5, b6, b7, b8, b9, M, eb⟩ := R8.mkd
            refine ⟨_, rfl, e, D, b1, b2, b3, b4, b5, b6, b7, b8, b9, rfl, upd_same, M, fun r2 H2 s2 hr2 => ?_⟩
            rw [eb] at hr2
            refine ⟨_, rfl, ?_⟩
            refine ⟨_, rfl, _, rfl, ?_⟩
            refine ite2 (fun _ => ?_) (fun z => absurd (decide_eq_true rfl) z)
            refine ⟨_, rfl, ?_⟩
            refine ⟨(9 : Int), rfl, by decide, by decide, fun q hq => ?_⟩
            have nq : r2 ≠ q := ne_of_none hr2 hq
            refine comp_range (lo := 0) (n := 9) (fun σ => ∃ x, σ = [x]) (fun j ys H' => ys = (bools 7).take j ∧ H' = upd H2 q (.lst ys)) ⟨none, rfl⟩ ⟨rfl, rfl⟩ (by show 9 < sizeLine; decide) ?_ ?_ ?_
            · rintro j ys H' _ ⟨e1, rfl⟩
              exact ⟨upd_same, by rw [e1, List.length_take]; omega⟩
            · rintro j σ' ys H' hj ⟨x', rfl⟩ ⟨e1, rfl⟩
              rw [Int.zero_add]
              refine ⟨_, rfl, rfl, upd_same, ⟨_, rfl⟩, ?_, ?_⟩
              · rw [e1, List.take_add_one, bools_at hj]
                congr 1
                show [V.bl (decide (vI j = V.int ((7 : Nat) : Int)))] = [V.bl (j == 7)]
                rw [show decide (vI j = V.int ((7 : Nat) : Int)) = (j == 7) from dec_vI j 7]
              · rw [upd_upd]
            · rintro ys H' ⟨e1, rfl⟩
              have e2 : ys = bools 7 := by rw [e1, List.take_of_length_le (by rw [bools_len]; exact Nat.le_refl 9)]
              subst e2
              refine ⟨r2, q, _, _, fun _ => true, rfl, rfl, SqL.of (by rw [upd_ne nq]; exact hr2), SqL.of upd_same, deq_bools, ?_⟩
              have kk : Q (V.bl (false ^^ ((List.range 9).all (fun _ => true) && ((9 : Nat) == 9)))) (upd H2 q (.lst (bools 7))) := by
                rw [show (false ^^ ((List.range 9).all (fun _ => true) && ((9 : Nat) == 9))) = true from by decide]
                exact k _
              exact kk
end
end MJ
namespace MJ
open PySem L2
@[elab_as_elim] theorem el1 {m : List Value → Prop} (us : List Value) (hl : us.length = 1) (h : ∀ x0 : Value, m [x0]) : m us := match us, hl with | [x0], _ => h x0
@[elab_as_elim] theorem el2 {m : List Value → Prop} (us : List Value) (hl : us.length = 2) (h : ∀ x0 x1 : Value, m [x0, x1]) : m us := match us, hl with | [x0, x1], _ => h x0 x1
@[elab_as_elim] theorem el3 {m : List Value → Prop} (us : List Value) (hl : us.length = 3) (h : ∀ x0 x1 x2 : Value, m [x0, x1, x2]) : m us := match us, hl with | [x0, x1, x2], _ => h x0 x1 x2
@[elab_as_elim] theorem el4 {m : List Value → Prop} (us : List Value) (hl : us.length = 4) (h : ∀ x0 x1 x2 x3 : Value, m [x0, x1, x2, x3]) : m us := match us, hl with | [x0, x1, x2, x3], _ => h x0 x1 x2 x3
set_option maxHeartbeats 0 in
theorem all_mk {l : PySem.W.OpenLaw} {w : World} {K : PySem.W.Frag} {h : Heap} {mg : Str → Option Value} {fa C f1 f2 f3 f4 f5 f6 f7 f8 f9 f10 f11 f12 f13 f14 f15 f16 f17 f18 f19 f20 f21 f22 f23 f24 f25 f26 f27 f28 f29 f30 f31 f32 f33 f34 f35 f36 oE x1 x2 x3 x4 x5 x6 x7 x8 : Addr} (X : K.In h) (G : h.Ns mainGlobals mg) (hfa : mg "law" = some (.ref fa))
    {od1 an1 od2 an2 od3 an3 od4 an4 od5 an5 od6 an6 od7 an7 od8 an8 od9 an9 od10 an10 od11 an11 od12 an12 od13 an13 od14 an14 od15 an15 od16 an16 od17 an17 od18 an18 od19 an19 od20 an20 od21 an21 od22 an22 od23 an23 od24 an24 od25 an25 od26 an26 od27 an27 od28 an28 od29 an29 od30 an30 od31 an31 od32 an32 od33 an33 od34 an34 od35 an35 od36 an36 : Option Addr} {sl1 sl2 sl3 sl4 sl5 sl6 sl7 sl8 sl9 sl10 sl11 sl12 sl13 sl14 sl15 sl16 sl17 sl18 sl19 sl20 sl21 sl22 sl23 sl24 sl25 sl26 sl27 sl28 sl29 sl30 sl31 sl32 sl33 sl34 sl35 sl36 : Array (Option Value)} {oc1 kV1 dc1 pm1 cd1 ct1 oc2 kV2 dc2 pm2 cd2 ct2 oc3 kV3 dc3 pm3 cd3 ct3 oc4 kV4 dc4 pm4 cd4 ct4 oc5 kV5 dc5 pm5 cd5 ct5 oc6 kV6 dc6 pm6 cd6 ct6 oc7 kV7 dc7 pm7 cd7 ct7 oc8 kV8 dc8 pm8 cd8 ct8 oc9 kV9 dc9 pm9 cd9 ct9 oc10 kV10 dc10 pm10 cd10 ct10 oc11 kV11 dc11 pm11 cd11 ct11 oc12 kV12 dc12 pm12 cd12 ct12 oc13 kV13 dc13 pm13 cd13 ct13 oc14 kV14 dc14 pm14 cd14 ct14 oc15 kV15 dc15 pm15 cd15 ct15 oc16 kV16 dc16 pm16 cd16 ct16 oc17 kV17 dc17 pm17 cd17 ct17 oc18 kV18 dc18 pm18 cd18 ct18 oc19 kV19 dc19 pm19 cd19 ct19 oc20 kV20 dc20 pm20 cd20 ct20 oc21 kV21 dc21 pm21 cd21 ct21 oc22 kV22 dc22 pm22 cd22 ct22 oc23 kV23 dc23 pm23 cd23 ct23 oc24 kV24 dc24 pm24 cd24 ct24 oc25 kV25 dc25 pm25 cd25 ct25 oc26 kV26 dc26 pm26 cd26 ct26 oc27 kV27 dc27 pm27 cd27 ct27 oc28 kV28 dc28 pm28 cd28 ct28 oc29 kV29 dc29 pm29 cd29 ct29 oc30 kV30 dc30 pm30 cd30 ct30 oc31 kV31 dc31 pm31 cd31 ct31 oc32 kV32 dc32 pm32 cd32 ct32 oc33 kV33 dc33 pm33 cd33 ct33 oc34 kV34 dc34 pm34 cd34 ct34 oc35 kV35 dc35 pm35 cd35 ct35 oc36 kV36 dc36 pm36 cd36 ct36 : Value} {t16 t60 : Tok}
    (aC : PySem.W.nsIn K mainGlobals "Order" = some (some (.ref C)))
    (a1 : PySem.W.nsIn K mainGlobals "is_thing" = some (some (.ref f1)))
    (l1 : K.lookup f1 = some ⟨oc1, od1, .func (PySem.W.fnOf "is_thing" "is_thing" (defArgs s_is_thing) (defBody s_is_thing) (defScope s_is_thing) .none kV1 dc1 pm1 an1 cd1 ct1), sl1⟩)
    (c1 : PySem.W.codeIn K cd1 "is_thing" = true)
    (k1 : PySem.W.keepIn K (.ref f1) = true)
    (a2 : PySem.W.nsIn K mainGlobals "check_many" = some (some (.ref f2)))
    (l2 : K.lookup f2 = some ⟨oc2, od2, .func (PySem.W.fnOf "check_many" "check_many" (defArgs s_check_many) (defBody s_check_many) (defScope s_check_many) .none kV2 dc2 pm2 an2 cd2 ct2), sl2⟩)
    (c2 : PySem.W.codeIn K cd2 "check_many" = true)
    (k2 : PySem.W.keepIn K (.ref f2) = true)
    (a3 : PySem.W.nsIn K mainGlobals "check_pairs" = some (some (.ref f3)))
    (l3 : K.lookup f3 = some ⟨oc3, od3, .func (PySem.W.fnOf "check_pairs" "check_pairs" (defArgs s_check_pairs) (defBody s_check_pairs) (defScope s_check_pairs) .none kV3 dc3 pm3 an3 cd3 ct3), sl3⟩)
    (c3 : PySem.W.codeIn K cd3 "check_pairs" = true)
    (k3 : PySem.W.keepIn K (.ref f3) = true)
    (a4 : PySem.W.nsIn K mainGlobals "told_rows" = some (some (.ref f4)))
    (l4 : K.lookup f4 = some ⟨oc4, od4, .func (PySem.W.fnOf "told_rows" "told_rows" (defArgs s_told_rows) (defBody s_told_rows) (defScope s_told_rows) .none kV4 dc4 pm4 an4 cd4 ct4), sl4⟩)
    (c4 : PySem.W.codeIn K cd4 "told_rows" = true)
    (k4 : PySem.W.keepIn K (.ref f4) = true)
    (a5 : PySem.W.nsIn K mainGlobals "add_row" = some (some (.ref f5)))
    (l5 : K.lookup f5 = some ⟨oc5, od5, .func (PySem.W.fnOf "add_row" "add_row" (defArgs s_add_row) (defBody s_add_row) (defScope s_add_row) .none kV5 dc5 pm5 an5 cd5 ct5), sl5⟩)
    (c5 : PySem.W.codeIn K cd5 "add_row" = true)
    (k5 : PySem.W.keepIn K (.ref f5) = true)
    (a6 : PySem.W.nsIn K mainGlobals "close_rows" = some (some (.ref f6)))
    (l6 : K.lookup f6 = some ⟨oc6, od6, .func (PySem.W.fnOf "close_rows" "close_rows" (defArgs s_close_rows) (defBody s_close_rows) (defScope s_close_rows) .none kV6 dc6 pm6 an6 cd6 ct6), sl6⟩)
    (c6 : PySem.W.codeIn K cd6 "close_rows" = true)
    (k6 : PySem.W.keepIn K (.ref f6) = true)
    (a7 : PySem.W.nsIn K mainGlobals "check_rings" = some (some (.ref f7)))
    (l7 : K.lookup f7 = some ⟨oc7, od7, .func (PySem.W.fnOf "check_rings" "check_rings" (defArgs s_check_rings) (defBody s_check_rings) (defScope s_check_rings) .none kV7 dc7 pm7 an7 cd7 ct7), sl7⟩)
    (c7 : PySem.W.codeIn K cd7 "check_rings" = true)
    (k7 : PySem.W.keepIn K (.ref f7) = true)
    (a8 : PySem.W.findIn K (.ref C) "__init__" = some (some (.ref f8)))
    (i8 : PySem.W.isFn K (.ref f8) = true)
    (l8 : K.lookup f8 = some ⟨oc8, od8, .func (PySem.W.fnOf "__init__" "Order.__init__" (defArgs s_Order___init__) (defBody s_Order___init__) (defScope s_Order___init__) .none kV8 dc8 pm8 an8 cd8 ct8), sl8⟩)
    (c8 : PySem.W.codeIn K cd8 "Order.__init__" = true)
    (k8 : PySem.W.keepIn K (.ref f8) = true)
    (a9 : PySem.W.findIn K (.ref C) "many" = some (some (.ref f9)))
    (i9 : PySem.W.isFn K (.ref f9) = true)
    (l9 : K.lookup f9 = some ⟨oc9, od9, .func (PySem.W.fnOf "many" "Order.many" (defArgs s_Order_many) (defBody s_Order_many) (defScope s_Order_many) .none kV9 dc9 pm9 an9 cd9 ct9), sl9⟩)
    (c9 : PySem.W.codeIn K cd9 "Order.many" = true)
    (k9 : PySem.W.keepIn K (.ref f9) = true)
    (a10 : PySem.W.findIn K (.ref C) "check_thing" = some (some (.ref f10)))
    (i10 : PySem.W.isFn K (.ref f10) = true)
    (l10 : K.lookup f10 = some ⟨oc10, od10, .func (PySem.W.fnOf "check_thing" "Order.check_thing" (defArgs s_Order_check_thing) (defBody s_Order_check_thing) (defScope s_Order_check_thing) .none kV10 dc10 pm10 an10 cd10 ct10), sl10⟩)
    (c10 : PySem.W.codeIn K cd10 "Order.check_thing" = true)
    (k10 : PySem.W.keepIn K (.ref f10) = true)
    (a11 : PySem.W.findIn K (.ref C) "below" = some (some (.ref f11)))
    (i11 : PySem.W.isFn K (.ref f11) = true)
    (l11 : K.lookup f11 = some ⟨oc11, od11, .func (PySem.W.fnOf "below" "Order.below" (defArgs s_Order_below) (defBody s_Order_below) (defScope s_Order_below) .none kV11 dc11 pm11 an11 cd11 ct11), sl11⟩)
    (c11 : PySem.W.codeIn K cd11 "Order.below" = true)
    (k11 : PySem.W.keepIn K (.ref f11) = true)
    (a12 : PySem.W.nsIn K mainGlobals "has_between" = some (some (.ref f12)))
    (l12 : K.lookup f12 = some ⟨oc12, od12, .func (PySem.W.fnOf "has_between" "has_between" (defArgs s_has_between) (defBody s_has_between) (defScope s_has_between) .none kV12 dc12 pm12 an12 cd12 ct12), sl12⟩)
    (c12 : PySem.W.codeIn K cd12 "has_between" = true)
    (k12 : PySem.W.keepIn K (.ref f12) = true)
    (a13 : PySem.W.nsIn K mainGlobals "right_pairs" = some (some (.ref f13)))
    (l13 : K.lookup f13 = some ⟨oc13, od13, .func (PySem.W.fnOf "right_pairs" "right_pairs" (defArgs s_right_pairs) (defBody s_right_pairs) (defScope s_right_pairs) .none kV13 dc13 pm13 an13 cd13 ct13), sl13⟩)
    (c13 : PySem.W.codeIn K cd13 "right_pairs" = true)
    (k13 : PySem.W.keepIn K (.ref f13) = true)
    (a14 : PySem.W.findIn K (.ref C) "right_below" = some (some (.ref f14)))
    (i14 : PySem.W.isFn K (.ref f14) = true)
    (l14 : K.lookup f14 = some ⟨oc14, od14, .func (PySem.W.fnOf "right_below" "Order.right_below" (defArgs s_Order_right_below) (defBody s_Order_right_below) (defScope s_Order_right_below) .none kV14 dc14 pm14 an14 cd14 ct14), sl14⟩)
    (c14 : PySem.W.codeIn K cd14 "Order.right_below" = true)
    (k14 : PySem.W.keepIn K (.ref f14) = true)
    (a15 : PySem.W.nsIn K mainGlobals "pair_text" = some (some (.ref f15)))
    (l15 : K.lookup f15 = some ⟨oc15, od15, .func (PySem.W.fnOf "pair_text" "pair_text" (defArgs s_pair_text) (defBody s_pair_text) (defScope s_pair_text) .none kV15 dc15 pm15 an15 cd15 ct15), sl15⟩)
    (c15 : PySem.W.codeIn K cd15 "pair_text" = true)
    (k15 : PySem.W.keepIn K (.ref f15) = true)
    (a16 : PySem.W.nsIn K mainGlobals "shown" = some (some (.ref f16)))
    (l16 : K.lookup f16 = some ⟨oc16, od16, .func (PySem.W.fnOf "shown" "shown" (defArgs s_shown) (defBody s_shown) (defScope s_shown) .none kV16 dc16 pm16 an16 cd16 ct16), sl16⟩)
    (c16 : PySem.W.codeIn K cd16 "shown" = true)
    (k16 : PySem.W.keepIn K (.ref f16) = true)
    (a17 : PySem.W.nsIn K mainGlobals "read_number" = some (some (.ref f17)))
    (l17 : K.lookup f17 = some ⟨oc17, od17, .func (PySem.W.fnOf "read_number" "read_number" (defArgs s_read_number) (defBody s_read_number) (defScope s_read_number) .none kV17 dc17 pm17 an17 cd17 ct17), sl17⟩)
    (c17 : PySem.W.codeIn K cd17 "read_number" = true)
    (k17 : PySem.W.keepIn K (.ref f17) = true)
    (a18 : PySem.W.nsIn K mainGlobals "read_many" = some (some (.ref f18)))
    (l18 : K.lookup f18 = some ⟨oc18, od18, .func (PySem.W.fnOf "read_many" "read_many" (defArgs s_read_many) (defBody s_read_many) (defScope s_read_many) .none kV18 dc18 pm18 an18 cd18 ct18), sl18⟩)
    (c18 : PySem.W.codeIn K cd18 "read_many" = true)
    (k18 : PySem.W.keepIn K (.ref f18) = true)
    (a19 : PySem.W.nsIn K mainGlobals "read_pair" = some (some (.ref f19)))
    (l19 : K.lookup f19 = some ⟨oc19, od19, .func (PySem.W.fnOf "read_pair" "read_pair" (defArgs s_read_pair) (defBody s_read_pair) (defScope s_read_pair) .none kV19 dc19 pm19 an19 cd19 ct19), sl19⟩)
    (c19 : PySem.W.codeIn K cd19 "read_pair" = true)
    (k19 : PySem.W.keepIn K (.ref f19) = true)
    (a20 : PySem.W.nsIn K mainGlobals "told_order" = some (some (.ref f20)))
    (l20 : K.lookup f20 = some ⟨oc20, od20, .func (PySem.W.fnOf "told_order" "told_order" (defArgs s_told_order) (defBody s_told_order) (defScope s_told_order) .none kV20 dc20 pm20 an20 cd20 ct20), sl20⟩)
    (c20 : PySem.W.codeIn K cd20 "told_order" = true)
    (k20 : PySem.W.keepIn K (.ref f20) = true)
    (a21 : PySem.W.nsIn K mainGlobals "read" = some (some (.ref f21)))
    (l21 : K.lookup f21 = some ⟨oc21, od21, .func (PySem.W.fnOf "read" "read" (defArgs s_read) (defBody s_read) (defScope s_read) .none kV21 dc21 pm21 an21 cd21 ct21), sl21⟩)
    (c21 : PySem.W.codeIn K cd21 "read" = true)
    (k21 : PySem.W.keepIn K (.ref f21) = true)
    (a22 : PySem.W.nsIn K mainGlobals "_law_cell_at" = some (some (.ref f22)))
    (l22 : K.lookup f22 = some ⟨oc22, od22, .func (PySem.W.fnOf "_law_cell_at" "_law_cell_at" (defArgs s__law_cell_at) (defBody s__law_cell_at) (defScope s__law_cell_at) .none kV22 dc22 pm22 an22 cd22 ct22), sl22⟩)
    (c22 : PySem.W.codeIn K cd22 "_law_cell_at" = true)
    (k22 : PySem.W.keepIn K (.ref f22) = true)
    (a23 : PySem.W.nsIn K mainGlobals "_law_whole" = some (some (.ref f23)))
    (l23 : K.lookup f23 = some ⟨oc23, od23, .func (PySem.W.fnOf "_law_whole" "_law_whole" (defArgs s__law_whole) (defBody s__law_whole) (defScope s__law_whole) .none kV23 dc23 pm23 an23 cd23 ct23), sl23⟩)
    (c23 : PySem.W.codeIn K cd23 "_law_whole" = true)
    (k23 : PySem.W.keepIn K (.ref f23) = true)
    (a24 : PySem.W.nsIn K mainGlobals "_law_order_of" = some (some (.ref f24)))
    (l24 : K.lookup f24 = some ⟨oc24, od24, .func (PySem.W.fnOf "_law_order_of" "_law_order_of" (defArgs s__law_order_of) (defBody s__law_order_of) (defScope s__law_order_of) .none kV24 dc24 pm24 an24 cd24 ct24), sl24⟩)
    (c24 : PySem.W.codeIn K cd24 "_law_order_of" = true)
    (k24 : PySem.W.keepIn K (.ref f24) = true)
    (a25 : PySem.W.nsIn K mainGlobals "_law_pairs_by" = some (some (.ref f25)))
    (l25 : K.lookup f25 = some ⟨oc25, od25, .func (PySem.W.fnOf "_law_pairs_by" "_law_pairs_by" (defArgs s__law_pairs_by) (defBody s__law_pairs_by) (defScope s__law_pairs_by) .none kV25 dc25 pm25 an25 cd25 ct25), sl25⟩)
    (c25 : PySem.W.codeIn K cd25 "_law_pairs_by" = true)
    (k25 : PySem.W.keepIn K (.ref f25) = true)
    (a26 : PySem.W.nsIn K mainGlobals "_law_drawn" = some (some (.ref f26)))
    (l26 : K.lookup f26 = some ⟨oc26, od26, .func (PySem.W.fnOf "_law_drawn" "_law_drawn" (defArgs s__law_drawn) (defBody s__law_drawn) (defScope s__law_drawn) .none kV26 dc26 pm26 an26 cd26 ct26), sl26⟩)
    (c26 : PySem.W.codeIn K cd26 "_law_drawn" = true)
    (k26 : PySem.W.keepIn K (.ref f26) = true)
    (a27 : PySem.W.nsIn K mainGlobals "_law_under" = some (some (.ref f27)))
    (l27 : K.lookup f27 = some ⟨oc27, od27, .func (PySem.W.fnOf "_law_under" "_law_under" (defArgs s__law_under) (defBody s__law_under) (defScope s__law_under) .none kV27 dc27 pm27 an27 cd27 ct27), sl27⟩)
    (c27 : PySem.W.codeIn K cd27 "_law_under" = true)
    (k27 : PySem.W.keepIn K (.ref f27) = true)
    (a28 : PySem.W.nsIn K mainGlobals "_law_right_below" = some (some (.ref f28)))
    (l28 : K.lookup f28 = some ⟨oc28, od28, .func (PySem.W.fnOf "_law_right_below" "_law_right_below" (defArgs s__law_right_below) (defBody s__law_right_below) (defScope s__law_right_below) .none kV28 dc28 pm28 an28 cd28 ct28), sl28⟩)
    (c28 : PySem.W.codeIn K cd28 "_law_right_below" = true)
    (k28 : PySem.W.keepIn K (.ref f28) = true)
    (a29 : PySem.W.nsIn K mainGlobals "_law_same" = some (some (.ref f29)))
    (l29 : K.lookup f29 = some ⟨oc29, od29, .func (PySem.W.fnOf "_law_same" "_law_same" (defArgs s__law_same) (defBody s__law_same) (defScope s__law_same) .none kV29 dc29 pm29 an29 cd29 ct29), sl29⟩)
    (c29 : PySem.W.codeIn K cd29 "_law_same" = true)
    (k29 : PySem.W.keepIn K (.ref f29) = true)
    (a30 : PySem.W.nsIn K mainGlobals "_law_marks_of" = some (some (.ref f30)))
    (l30 : K.lookup f30 = some ⟨oc30, od30, .func (PySem.W.fnOf "_law_marks_of" "_law_marks_of" (defArgs s__law_marks_of) (defBody s__law_marks_of) (defScope s__law_marks_of) .none kV30 dc30 pm30 an30 cd30 ct30), sl30⟩)
    (c30 : PySem.W.codeIn K cd30 "_law_marks_of" = true)
    (k30 : PySem.W.keepIn K (.ref f30) = true)
    (a31 : PySem.W.nsIn K mainGlobals "_law_sign_by" = some (some (.ref f31)))
    (l31 : K.lookup f31 = some ⟨oc31, od31, .func (PySem.W.fnOf "_law_sign_by" "_law_sign_by" (defArgs s__law_sign_by) (defBody s__law_sign_by) (defScope s__law_sign_by) .none kV31 dc31 pm31 an31 cd31 ct31), sl31⟩)
    (c31 : PySem.W.codeIn K cd31 "_law_sign_by" = true)
    (k31 : PySem.W.keepIn K (.ref f31) = true)
    (a32 : PySem.W.nsIn K mainGlobals "_law_odd" = some (some (.ref f32)))
    (l32 : K.lookup f32 = some ⟨oc32, od32, .func (PySem.W.fnOf "_law_odd" "_law_odd" (defArgs s__law_odd) (defBody s__law_odd) (defScope s__law_odd) .none kV32 dc32 pm32 an32 cd32 ct32), sl32⟩)
    (c32 : PySem.W.codeIn K cd32 "_law_odd" = true)
    (k32 : PySem.W.keepIn K (.ref f32) = true)
    (a33 : PySem.W.nsIn K mainGlobals "_law_spoiled" = some (some (.ref f33)))
    (l33 : K.lookup f33 = some ⟨oc33, od33, .func (PySem.W.fnOf "_law_spoiled" "_law_spoiled" (defArgs s__law_spoiled) (defBody s__law_spoiled) (defScope s__law_spoiled) .none kV33 dc33 pm33 an33 cd33 ct33), sl33⟩)
    (c33 : PySem.W.codeIn K cd33 "_law_spoiled" = true)
    (k33 : PySem.W.keepIn K (.ref f33) = true)
    (a34 : PySem.W.nsIn K mainGlobals "_law_number" = some (some (.ref f34)))
    (l34 : K.lookup f34 = some ⟨oc34, od34, .func (PySem.W.fnOf "_law_number" "_law_number" (defArgs s__law_number) (defBody s__law_number) (defScope s__law_number) .none kV34 dc34 pm34 an34 cd34 ct34), sl34⟩)
    (c34 : PySem.W.codeIn K cd34 "_law_number" = true)
    (k34 : PySem.W.keepIn K (.ref f34) = true)
    (a35 : PySem.W.nsIn K mainGlobals "_law_due" = some (some (.ref f35)))
    (l35 : K.lookup f35 = some ⟨oc35, od35, .func (PySem.W.fnOf "_law_due" "_law_due" (defArgs s__law_due) (defBody s__law_due) (defScope s__law_due) .none kV35 dc35 pm35 an35 cd35 ct35), sl35⟩)
    (c35 : PySem.W.codeIn K cd35 "_law_due" = true)
    (k35 : PySem.W.keepIn K (.ref f35) = true)
    (a36 : PySem.W.nsIn K mainGlobals "law" = some (some (.ref f36)))
    (l36 : K.lookup f36 = some ⟨oc36, od36, .func (PySem.W.fnOf "law" "law" (defArgs s_law) (defBody s_law) (defScope s_law) .none kV36 dc36 pm36 an36 cd36 ct36), sl36⟩)
    (c36 : PySem.W.codeIn K cd36 "law" = true)
    (k36 : PySem.W.keepIn K (.ref f36) = true)
    (pg : PySem.W.plainGet K C Str.empty = true)
    (hd : PySem.W.hasDictIn K C = true)
    (po : PySem.W.plainOver K C = true)
    (sa : PySem.W.findIn K (.ref C) "__setattr__" = some (some (.builtin "object.__setattr__")))
    (mk : PySem.W.makesIn K C = true)
    (kc : PySem.W.keepIn K (.ref C) = true)
    (nT : PySem.W.findIn K (.ref C) "table" = some none)
    (z1 : PySem.W.nsIn K mainGlobals "len" = some none)
    (z2 : PySem.W.nsIn K mainGlobals "range" = some none)
    (z3 : PySem.W.nsIn K mainGlobals "zip" = some none)
    (z4 : PySem.W.nsIn K mainGlobals "list" = some none)
    (z5 : PySem.W.nsIn K mainGlobals "tuple" = some none)
    (z6 : PySem.W.nsIn K mainGlobals "isinstance" = some none)
    (z7 : PySem.W.nsIn K mainGlobals "int" = some none)
    (z8 : PySem.W.nsIn K mainGlobals "bool" = some none)
    (z9 : PySem.W.nsIn K mainGlobals "all" = some none)
    (z10 : PySem.W.nsIn K mainGlobals "set" = some none)
    (z11 : PySem.W.nsIn K mainGlobals "str" = some none)
    (z12 : PySem.W.nsIn K mainGlobals "sorted" = some none)
    (m1 : PySem.W.nsIn K mainGlobals "MOST_THINGS" = some (some (.int 16 t16)))
    (m2 : PySem.W.nsIn K mainGlobals "MOST_PAIRS" = some (some (.int 60 t60)))
    (i_ii : PySem.W.kitOne K (.type "int") (.type "int") = some true)
    (i_ib : PySem.W.kitOne K (.type "int") (.type "bool") = some false)
    (i_bb : PySem.W.kitOne K (.type "bool") (.type "bool") = some true)
    (i_ll : PySem.W.kitOne K (.type "list") (.type "list") = some true)
    (i_tt : PySem.W.kitOne K (.type "tuple") (.type "tuple") = some true)
    (zVE : PySem.W.nsIn K mainGlobals "ValueError" = some none)
    (n0 : PySem.W.nsIn K mainGlobals "OrderError" = some (some (.ref oE)))
    (n1 : PySem.W.nsIn K mainGlobals "BadThings" = some (some (.ref x1)))
    (n2 : PySem.W.nsIn K mainGlobals "BadPair" = some (some (.ref x2)))
    (n3 : PySem.W.nsIn K mainGlobals "Ring" = some (some (.ref x3)))
    (n4 : PySem.W.nsIn K mainGlobals "NoThing" = some (some (.ref x4)))
    (n5 : PySem.W.nsIn K mainGlobals "NotNet" = some (some (.ref x5)))
    (n6 : PySem.W.nsIn K mainGlobals "NotSpread" = some (some (.ref x6)))
    (n7 : PySem.W.nsIn K mainGlobals "TooMany" = some (some (.ref x7)))
    (n8 : PySem.W.nsIn K mainGlobals "NoText" = some (some (.ref x8)))
    (g4 : PySem.W.specialIn K (.builtin "object.__class__") "__get__" = some (some (.builtin "getset_descriptor.__get__")))
    (g5 : PySem.W.takesIn K (.builtin "object.__class__") = some true)
    (e1_1 : PySem.W.findIn K (.ref x1) "__getattribute__" = some (some (.builtin "BaseException.__getattribute__")))
    (e1_2 : PySem.W.findIn K (.ref x1) "__getattr__" = some none)
    (e1_3 : PySem.W.findIn K (.ref x1) "__class__" = some (some (.builtin "object.__class__")))
    (e1_6 : PySem.W.mroIn K x1 (.type "object") = some true)
    (e1_7 : PySem.W.mroIn K x1 (.type "BaseException") = some true)
    (e1_9 : PySem.W.excIn K x1 PySem.W.veMro "ValueError.__new__" = true)
    (up1 : PySem.W.exmOne K (.ref x1) (.ref oE) = some true)
    (q1_1 : PySem.W.kitOne K (.ref x1) (.ref x1) = some true)
    (q1_2 : PySem.W.kitOne K (.ref x1) (.ref x2) = some false)
    (q1_3 : PySem.W.kitOne K (.ref x1) (.ref x3) = some false)
    (q1_4 : PySem.W.kitOne K (.ref x1) (.ref x4) = some false)
    (q1_5 : PySem.W.kitOne K (.ref x1) (.ref x5) = some false)
    (q1_6 : PySem.W.kitOne K (.ref x1) (.ref x6) = some false)
    (q1_7 : PySem.W.kitOne K (.ref x1) (.ref x7) = some false)
    (q1_8 : PySem.W.kitOne K (.ref x1) (.ref x8) = some false)
    (q1_9 : PySem.W.kitOne K (.ref x1) (.type "ValueError") = some true)
    (e2_1 : PySem.W.findIn K (.ref x2) "__getattribute__" = some (some (.builtin "BaseException.__getattribute__")))
    (e2_2 : PySem.W.findIn K (.ref x2) "__getattr__" = some none)
    (e2_3 : PySem.W.findIn K (.ref x2) "__class__" = some (some (.builtin "object.__class__")))
    (e2_6 : PySem.W.mroIn K x2 (.type "object") = some true)
    (e2_7 : PySem.W.mroIn K x2 (.type "BaseException") = some true)
    (e2_9 : PySem.W.excIn K x2 PySem.W.veMro "ValueError.__new__" = true)
    (up2 : PySem.W.exmOne K (.ref x2) (.ref oE) = some true)
    (q2_1 : PySem.W.kitOne K (.ref x2) (.ref x1) = some false)
    (q2_2 : PySem.W.kitOne K (.ref x2) (.ref x2) = some true)
    (q2_3 : PySem.W.kitOne K (.ref x2) (.ref x3) = some false)
    (q2_4 : PySem.W.kitOne K (.ref x2) (.ref x4) = some false)
    (q2_5 : PySem.W.kitOne K (.ref x2) (.ref x5) = some false)
    (q2_6 : PySem.W.kitOne K (.ref x2) (.ref x6) = some false)
    (q2_7 : PySem.W.kitOne K (.ref x2) (.ref x7) = some false)
    (q2_8 : PySem.W.kitOne K (.ref x2) (.ref x8) = some false)
    (q2_9 : PySem.W.kitOne K (.ref x2) (.type "ValueError") = some true)
    (e3_1 : PySem.W.findIn K (.ref x3) "__getattribute__" = some (some (.builtin "BaseException.__getattribute__")))
    (e3_2 : PySem.W.findIn K (.ref x3) "__getattr__" = some none)
    (e3_3 : PySem.W.findIn K (.ref x3) "__class__" = some (some (.builtin "object.__class__")))
    (e3_6 : PySem.W.mroIn K x3 (.type "object") = some true)
    (e3_7 : PySem.W.mroIn K x3 (.type "BaseException") = some true)
    (e3_9 : PySem.W.excIn K x3 PySem.W.veMro "ValueError.__new__" = true)
    (up3 : PySem.W.exmOne K (.ref x3) (.ref oE) = some true)
    (q3_1 : PySem.W.kitOne K (.ref x3) (.ref x1) = some false)
    (q3_2 : PySem.W.kitOne K (.ref x3) (.ref x2) = some false)
    (q3_3 : PySem.W.kitOne K (.ref x3) (.ref x3) = some true)
    (q3_4 : PySem.W.kitOne K (.ref x3) (.ref x4) = some false)
    (q3_5 : PySem.W.kitOne K (.ref x3) (.ref x5) = some false)
    (q3_6 : PySem.W.kitOne K (.ref x3) (.ref x6) = some false)
    (q3_7 : PySem.W.kitOne K (.ref x3) (.ref x7) = some false)
    (q3_8 : PySem.W.kitOne K (.ref x3) (.ref x8) = some false)
    (q3_9 : PySem.W.kitOne K (.ref x3) (.type "ValueError") = some true)
    (e8_1 : PySem.W.findIn K (.ref x8) "__getattribute__" = some (some (.builtin "BaseException.__getattribute__")))
    (e8_2 : PySem.W.findIn K (.ref x8) "__getattr__" = some none)
    (e8_3 : PySem.W.findIn K (.ref x8) "__class__" = some (some (.builtin "object.__class__")))
    (e8_6 : PySem.W.mroIn K x8 (.type "object") = some true)
    (e8_7 : PySem.W.mroIn K x8 (.type "BaseException") = some true)
    (e8_9 : PySem.W.excIn K x8 PySem.W.veMro "ValueError.__new__" = true)
    (up8 : PySem.W.exmOne K (.ref x8) (.ref oE) = some true)
    (q8_1 : PySem.W.kitOne K (.ref x8) (.ref x1) = some false)
    (q8_2 : PySem.W.kitOne K (.ref x8) (.ref x2) = some false)
    (q8_3 : PySem.W.kitOne K (.ref x8) (.ref x3) = some false)
    (q8_4 : PySem.W.kitOne K (.ref x8) (.ref x4) = some false)
    (q8_5 : PySem.W.kitOne K (.ref x8) (.ref x5) = some false)
    (q8_6 : PySem.W.kitOne K (.ref x8) (.ref x6) = some false)
    (q8_7 : PySem.W.kitOne K (.ref x8) (.ref x7) = some false)
    (q8_8 : PySem.W.kitOne K (.ref x8) (.ref x8) = some true)
    (q8_9 : PySem.W.kitOne K (.ref x8) (.type "ValueError") = some true)
    (zMi : PySem.W.nsIn K mainGlobals "min" = some none)
    (zMa : PySem.W.nsIn K mainGlobals "max" = some none)
    : ∃ fd : FuncData, (∀ (s : Shared) (v : Value), BindsTo s fd ⟨[v], []⟩ [("script", v)]) ∧ ∀ base : Heap, K.In base → base.Ns mainGlobals mg → FnOk l.prog w K mg base CX0 7 fa fd ["script"] (sp_law K) := by
  have e := hfa.symm.trans (PySem.W.mg_of X G a36)
  cases e
  have T : Txt K mg C := ⟨PySem.W.mg_none_of X G z1, PySem.W.mg_none_of X G z2, PySem.W.mg_none_of X G z3, PySem.W.mg_none_of X G z4, PySem.W.mg_none_of X G z5, PySem.W.mg_none_of X G z6, PySem.W.mg_none_of X G z7, PySem.W.mg_none_of X G z8, PySem.W.mg_none_of X G z9, PySem.W.mg_none_of X G z10, PySem.W.mg_none_of X G z11, PySem.W.mg_none_of X G z12, ⟨_, PySem.W.mg_of X G m1⟩, ⟨_, PySem.W.mg_of X G m2⟩, ⟨pg, hd, po, sa⟩, i_ii, i_ib, i_bb, i_ll, i_tt, nT⟩
  have EK1 : PySem.W.ExcK K x1 := ⟨e1_1, e1_2, e1_3, g4, g5, e1_6, e1_7, PySem.W.cls_of_exc e1_9⟩
  have EK2 : PySem.W.ExcK K x2 := ⟨e2_1, e2_2, e2_3, g4, g5, e2_6, e2_7, PySem.W.cls_of_exc e2_9⟩
  have EK3 : PySem.W.ExcK K x3 := ⟨e3_1, e3_2, e3_3, g4, g5, e3_6, e3_7, PySem.W.cls_of_exc e3_9⟩
  have EK8 : PySem.W.ExcK K x8 := ⟨e8_1, e8_2, e8_3, g4, g5, e8_6, e8_7, PySem.W.cls_of_exc e8_9⟩
  have TX : TxtN K mg oE x1 x2 x3 x4 x5 x6 x7 x8 := ⟨PySem.W.mg_none_of X G zVE, PySem.W.mg_of X G n0, PySem.W.mg_of X G n1, PySem.W.mg_of X G n2, PySem.W.mg_of X G n3, PySem.W.mg_of X G n4, PySem.W.mg_of X G n5, PySem.W.mg_of X G n6, PySem.W.mg_of X G n7, PySem.W.mg_of X G n8, ⟨EK1, e1_9⟩, ⟨EK2, e2_9⟩, ⟨EK3, e3_9⟩, ⟨EK8, e8_9⟩⟩
  have R1 : RefK K oE x1 x1 x2 x3 x4 x5 x6 x7 x8 0 := ⟨up1, _, _, _, _, _, _, _, _, _, ⟨EK1, q1_1, q1_2, q1_3, q1_4, q1_5, q1_6, q1_7, q1_8, q1_9⟩, rfl⟩
  have R2 : RefK K oE x2 x1 x2 x3 x4 x5 x6 x7 x8 1 := ⟨up2, _, _, _, _, _, _, _, _, _, ⟨EK2, q2_1, q2_2, q2_3, q2_4, q2_5, q2_6, q2_7, q2_8, q2_9⟩, rfl⟩
  have R3 : RefK K oE x3 x1 x2 x3 x4 x5 x6 x7 x8 2 := ⟨up3, _, _, _, _, _, _, _, _, _, ⟨EK3, q3_1, q3_2, q3_3, q3_4, q3_5, q3_6, q3_7, q3_8, q3_9⟩, rfl⟩
  have R8 : RefK K oE x8 x1 x2 x3 x4 x5 x6 x7 x8 7 := ⟨up8, _, _, _, _, _, _, _, _, _, ⟨EK8, q8_1, q8_2, q8_3, q8_4, q8_5, q8_6, q8_7, q8_8, q8_9⟩, rfl⟩
  have TM : TxtM mg := ⟨PySem.W.mg_none_of X G zMi, PySem.W.mg_none_of X G zMa⟩
  have F1 := fun_mk (st := s_is_thing) l1 c1 k1
  have b1 := F1.binds (ps := ["many", "a"]) fun _ _ _ _ _ _ us hl => el2 us hl fun _ _ => rfl
  have F2 := fun_mk (st := s_check_many) l2 c2 k2
  have b2 := F2.binds (ps := ["many"]) fun _ _ _ _ _ _ us hl => el1 us hl fun _ => rfl
  have F3 := fun_mk (st := s_check_pairs) l3 c3 k3
  have b3 := F3.binds (ps := ["many", "pairs"]) fun _ _ _ _ _ _ us hl => el2 us hl fun _ _ => rfl
  have F4 := fun_mk (st := s_told_rows) l4 c4 k4
  have b4 := F4.binds (ps := ["many", "pairs"]) fun _ _ _ _ _ _ us hl => el2 us hl fun _ _ => rfl
  have F5 := fun_mk (st := s_add_row) l5 c5 k5
  have b5 := F5.binds (ps := ["rows", "a", "c"]) fun _ _ _ _ _ _ us hl => el3 us hl fun _ _ _ => rfl
  have F6 := fun_mk (st := s_close_rows) l6 c6 k6
  have b6 := F6.binds (ps := ["many", "rows"]) fun _ _ _ _ _ _ us hl => el2 us hl fun _ _ => rfl
  have F7 := fun_mk (st := s_check_rings) l7 c7 k7
  have b7 := F7.binds (ps := ["many", "rows"]) fun _ _ _ _ _ _ us hl => el2 us hl fun _ _ => rfl
  have F8 := fun_mk (st := s_Order___init__) l8 c8 k8
  have b8 := F8.binds (ps := ["self", "many", "pairs"]) fun _ _ _ _ _ _ us hl => el3 us hl fun _ _ _ => rfl
  have F9 := fun_mk (st := s_Order_many) l9 c9 k9
  have b9 := F9.binds (ps := ["self"]) fun _ _ _ _ _ _ us hl => el1 us hl fun _ => rfl
  have F10 := fun_mk (st := s_Order_check_thing) l10 c10 k10
  have b10 := F10.binds (ps := ["self", "a"]) fun _ _ _ _ _ _ us hl => el2 us hl fun _ _ => rfl
  have F11 := fun_mk (st := s_Order_below) l11 c11 k11
  have b11 := F11.binds (ps := ["self", "a", "b"]) fun _ _ _ _ _ _ us hl => el3 us hl fun _ _ _ => rfl
  have F12 := fun_mk (st := s_has_between) l12 c12 k12
  have b12 := F12.binds (ps := ["rows", "a", "b"]) fun _ _ _ _ _ _ us hl => el3 us hl fun _ _ _ => rfl
  have F13 := fun_mk (st := s_right_pairs) l13 c13 k13
  have b13 := F13.binds (ps := ["rows"]) fun _ _ _ _ _ _ us hl => el1 us hl fun _ => rfl
  have F14 := fun_mk (st := s_Order_right_below) l14 c14 k14
  have b14 := F14.binds (ps := ["self"]) fun _ _ _ _ _ _ us hl => el1 us hl fun _ => rfl
  have F15 := fun_mk (st := s_pair_text) l15 c15 k15
  have b15 := F15.binds (ps := ["a", "b"]) fun _ _ _ _ _ _ us hl => el2 us hl fun _ _ => rfl
  have F16 := fun_mk (st := s_shown) l16 c16 k16
  have b16 := F16.binds (ps := ["order"]) fun _ _ _ _ _ _ us hl => el1 us hl fun _ => rfl
  have F17 := fun_mk (st := s_read_number) l17 c17 k17
  have b17 := F17.binds (ps := ["word"]) fun _ _ _ _ _ _ us hl => el1 us hl fun _ => rfl
  have F18 := fun_mk (st := s_read_many) l18 c18 k18
  have b18 := F18.binds (ps := ["word"]) fun _ _ _ _ _ _ us hl => el1 us hl fun _ => rfl
  have F19 := fun_mk (st := s_read_pair) l19 c19 k19
  have b19 := F19.binds (ps := ["word"]) fun _ _ _ _ _ _ us hl => el1 us hl fun _ => rfl
  have F20 := fun_mk (st := s_told_order) l20 c20 k20
  have b20 := F20.binds (ps := ["many", "pairs"]) fun _ _ _ _ _ _ us hl => el2 us hl fun _ _ => rfl
  have F21 := fun_mk (st := s_read) l21 c21 k21
  have b21 := F21.binds (ps := ["text"]) fun _ _ _ _ _ _ us hl => el1 us hl fun _ => rfl
  have F22 := fun_mk (st := s__law_cell_at) l22 c22 k22
  have b22 := F22.binds (ps := ["script", "k"]) fun _ _ _ _ _ _ us hl => el2 us hl fun _ _ => rfl
  have F23 := fun_mk (st := s__law_whole) l23 c23 k23
  have b23 := F23.binds (ps := ["found"]) fun _ _ _ _ _ _ us hl => el1 us hl fun _ => rfl
  have F24 := fun_mk (st := s__law_order_of) l24 c24 k24
  have b24 := F24.binds (ps := ["cell", "many"]) fun _ _ _ _ _ _ us hl => el2 us hl fun _ _ => rfl
  have F25 := fun_mk (st := s__law_pairs_by) l25 c25 k25
  have b25 := F25.binds (ps := ["script", "start", "many", "way"]) fun _ _ _ _ _ _ us hl => el4 us hl fun _ _ _ _ => rfl
  have F26 := fun_mk (st := s__law_drawn) l26 c26 k26
  have b26 := F26.binds (ps := ["script"]) fun _ _ _ _ _ _ us hl => el1 us hl fun _ => rfl
  have F27 := fun_mk (st := s__law_under) l27 c27 k27
  have b27 := F27.binds (ps := ["many", "pairs"]) fun _ _ _ _ _ _ us hl => el2 us hl fun _ _ => rfl
  have F28 := fun_mk (st := s__law_right_below) l28 c28 k28
  have b28 := F28.binds (ps := ["above"]) fun _ _ _ _ _ _ us hl => el1 us hl fun _ => rfl
  have F29 := fun_mk (st := s__law_same) l29 c29 k29
  have b29 := F29.binds (ps := ["order", "many", "above"]) fun _ _ _ _ _ _ us hl => el3 us hl fun _ _ _ => rfl
  have F30 := fun_mk (st := s__law_marks_of) l30 c30 k30
  have b30 := F30.binds (ps := ["e"]) fun _ _ _ _ _ _ us hl => el1 us hl fun _ => rfl
  have F31 := fun_mk (st := s__law_sign_by) l31 c31 k31
  have b31 := F31.binds (ps := ["cell"]) fun _ _ _ _ _ _ us hl => el1 us hl fun _ => rfl
  have F32 := fun_mk (st := s__law_odd) l32 c32 k32
  have b32 := F32.binds (ps := ["cell"]) fun _ _ _ _ _ _ us hl => el1 us hl fun _ => rfl
  have F33 := fun_mk (st := s__law_spoiled) l33 c33 k33
  have b33 := F33.binds (ps := ["text", "cell", "many"]) fun _ _ _ _ _ _ us hl => el3 us hl fun _ _ _ => rfl
  have F34 := fun_mk (st := s__law_number) l34 c34 k34
  have b34 := F34.binds (ps := ["word"]) fun _ _ _ _ _ _ us hl => el1 us hl fun _ => rfl
  have F35 := fun_mk (st := s__law_due) l35 c35 k35
  have b35 := F35.binds (ps := ["text"]) fun _ _ _ _ _ _ us hl => el1 us hl fun _ => rfl
  have F36 := fun_mk (st := s_law) l36 c36 k36
  refine ⟨PySem.W.fnOf "law" "law" (defArgs s_law) (defBody s_law) (defScope s_law) .none kV36 dc36 pm36 an36 cd36 ct36, fun s v => .of_eq rfl, fun base _ _ => ?_⟩
  have c_is_thing : FnG l.prog w K mg base "is_thing" 1 ["many", "a"] sp_is_thing := ⟨_, _, PySem.W.mg_of X G a1, k1, b1, ok_is_thing F1⟩
  have c_check_many : FnG l.prog w K mg base "check_many" 1 ["many"] sp_check_many := ⟨_, _, PySem.W.mg_of X G a2, k2, b2, ok_check_many F2 T⟩
  have c_check_pairs : FnG l.prog w K mg base "check_pairs" 2 ["many", "pairs"] sp_check_pairs := ⟨_, _, PySem.W.mg_of X G a3, k3, b3, ok_check_pairs F3 T c_is_thing⟩
  have c_told_rows : FnG l.prog w K mg base "told_rows" 1 ["many", "pairs"] sp_told_rows := ⟨_, _, PySem.W.mg_of X G a4, k4, b4, ok_told_rows F4 T⟩
  have c_add_row : FnG l.prog w K mg base "add_row" 1 ["rows", "a", "c"] sp_add_row := ⟨_, _, PySem.W.mg_of X G a5, k5, b5, ok_add_row F5 T⟩
  have c_close_rows : FnG l.prog w K mg base "close_rows" 2 ["many", "rows"] sp_close_rows := ⟨_, _, PySem.W.mg_of X G a6, k6, b6, ok_close_rows F6 T c_add_row⟩
  have c_check_rings : FnG l.prog w K mg base "check_rings" 1 ["many", "rows"] sp_check_rings := ⟨_, _, PySem.W.mg_of X G a7, k7, b7, ok_check_rings F7 T⟩
  have c_Order : MkG l.prog w K mg base "Order" C 3 ["self", "many", "pairs"] (sp_init C) := ⟨_, _, PySem.W.mg_of X G aC, ⟨mk, a8, i8, kc⟩, b8, ok_init F8 T c_check_many c_check_pairs c_told_rows c_close_rows c_check_rings⟩
  have c_check_manyY : FnY l.prog w K mg base "check_many" 1 ["many"] (sp_check_manyX x1) := ⟨_, _, PySem.W.mg_of X G a2, k2, b2, ok_check_manyY F2 T TX⟩
  have c_check_pairsY : FnY l.prog w K mg base "check_pairs" 2 ["many", "pairs"] (sp_check_pairsX x2) := ⟨_, _, PySem.W.mg_of X G a3, k3, b3, ok_check_pairsY F3 T TX c_is_thing⟩
  have c_check_ringsY : FnY l.prog w K mg base "check_rings" 1 ["many", "rows"] (sp_check_ringsX x3) := ⟨_, _, PySem.W.mg_of X G a7, k7, b7, ok_check_ringsY F7 T TX⟩
  have c_OrderY : MkY l.prog w K mg base "Order" C 3 ["self", "many", "pairs"] (sp_initX C x1 x2 x3) := ⟨_, _, PySem.W.mg_of X G aC, ⟨mk, a8, i8, kc⟩, b8, ok_initY F8 T c_check_many c_check_pairs c_told_rows c_close_rows c_check_rings c_check_manyY c_check_pairsY c_check_ringsY⟩
  have c_many : MtG l.prog w K mg base C "many" 1 ["self"] (sp_many C) := ⟨_, _, ⟨a9, i9, k9⟩, b9, ok_many F9 T⟩
  have c_check_thing : MtG l.prog w K mg base C "check_thing" 2 ["self", "a"] (sp_check_thing C) := ⟨_, _, ⟨a10, i10, k10⟩, b10, ok_check_thing F10 T c_is_thing c_many⟩
  have c_below : MtG l.prog w K mg base C "below" 3 ["self", "a", "b"] (sp_below C) := ⟨_, _, ⟨a11, i11, k11⟩, b11, ok_below F11 T c_check_thing⟩
  have c_has_between : FnG l.prog w K mg base "has_between" 1 ["rows", "a", "b"] sp_has_between := ⟨_, _, PySem.W.mg_of X G a12, k12, b12, ok_has_between F12 T⟩
  have c_right_pairs : FnG l.prog w K mg base "right_pairs" 2 ["rows"] sp_right_pairs := ⟨_, _, PySem.W.mg_of X G a13, k13, b13, ok_right_pairs F13 T c_has_between⟩
  have c_right_below : MtG l.prog w K mg base C "right_below" 3 ["self"] (sp_right_below C) := ⟨_, _, ⟨a14, i14, k14⟩, b14, ok_right_below F14 T c_right_pairs⟩
  have c_pair_text : FnG l.prog w K mg base "pair_text" 1 ["a", "b"] sp_pair_text := ⟨_, _, PySem.W.mg_of X G a15, k15, b15, ok_pair_text F15 T⟩
  have c_shown : FnG l.prog w K mg base "shown" 4 ["order"] (sp_shown C) := ⟨_, _, PySem.W.mg_of X G a16, k16, b16, ok_shown F16 T c_many c_right_below c_pair_text⟩
  have c_read_numberX : FnX l.prog w K mg base "read_number" 1 ["word"] (sp_read_numberX x8) := ⟨_, _, PySem.W.mg_of X G a17, k17, b17, ok_read_numberX F17 T TX⟩
  have c_read_manyX : FnX l.prog w K mg base "read_many" 2 ["word"] (sp_read_manyX x8) := ⟨_, _, PySem.W.mg_of X G a18, k18, b18, ok_read_manyX F18 T TX c_read_numberX⟩
  have c_read_pairX : FnX l.prog w K mg base "read_pair" 2 ["word"] (sp_read_pairX x8) := ⟨_, _, PySem.W.mg_of X G a19, k19, b19, ok_read_pairX F19 T TX c_read_numberX⟩
  have c_told_orderX : FnX l.prog w K mg base "told_order" 5 ["many", "pairs"] (sp_told_orderX C x8) := ⟨_, _, PySem.W.mg_of X G a20, k20, b20, ok_told_orderX F20 T TX R1 R2 R3 c_Order c_OrderY⟩
  have c_readX : FnX l.prog w K mg base "read" 6 ["text"] (sp_readX C x8) := ⟨_, _, PySem.W.mg_of X G a21, k21, b21, ok_readX F21 T TX c_read_manyX c_read_pairX c_told_orderX c_shown⟩
  have c__law_cell_at : FnG l.prog w K mg base "_law_cell_at" 1 ["script", "k"] (sp_cell_at K) := ⟨_, _, PySem.W.mg_of X G a22, k22, b22, ok_cell_at F22 T⟩
  have c__law_whole : FnG l.prog w K mg base "_law_whole" 1 ["found"] sp_whole := ⟨_, _, PySem.W.mg_of X G a23, k23, b23, ok_whole F23 T⟩
  have c__law_order_of : FnG l.prog w K mg base "_law_order_of" 1 ["cell", "many"] sp_order_of := ⟨_, _, PySem.W.mg_of X G a24, k24, b24, ok_order_of F24 T⟩
  have c__law_pairs_by : FnG l.prog w K mg base "_law_pairs_by" 2 ["script", "start", "many", "way"] (sp_pairs_by K) := ⟨_, _, PySem.W.mg_of X G a25, k25, b25, ok_pairs_by F25 T c__law_cell_at c__law_order_of⟩
  have c__law_drawn : FnG l.prog w K mg base "_law_drawn" 3 ["script"] (sp_drawn K) := ⟨_, _, PySem.W.mg_of X G a26, k26, b26, ok_drawn F26 T c__law_cell_at c__law_pairs_by⟩
  have c__law_under : FnG l.prog w K mg base "_law_under" 1 ["many", "pairs"] sp_under := ⟨_, _, PySem.W.mg_of X G a27, k27, b27, ok_under F27 T⟩
  have c__law_right_below : FnG l.prog w K mg base "_law_right_below" 1 ["above"] sp_law_right_below := ⟨_, _, PySem.W.mg_of X G a28, k28, b28, ok_law_right_below F28 T⟩
  have c__law_same : FnG l.prog w K mg base "_law_same" 4 ["order", "many", "above"] (sp_same C) := ⟨_, _, PySem.W.mg_of X G a29, k29, b29, ok_same F29 T c_many c_below c_right_below c__law_whole c__law_right_below⟩
  have c__law_marks_of : FnM l.prog w K mg base "_law_marks_of" 1 ["e"] (sp_marks K x1 x2 x3 x4 x5 x6 x7 x8) := ok_marks F30 T TX (PySem.W.mg_of X G a30) b30
  have c__law_sign_by : FnG l.prog w K mg base "_law_sign_by" 1 ["cell"] sp_sign_by := ⟨_, _, PySem.W.mg_of X G a31, k31, b31, ok_sign_by F31 T⟩
  have c__law_odd : FnG l.prog w K mg base "_law_odd" 1 ["cell"] sp_odd := ⟨_, _, PySem.W.mg_of X G a32, k32, b32, ok_odd F32 T⟩
  have c__law_spoiled : FnG l.prog w K mg base "_law_spoiled" 2 ["text", "cell", "many"] sp_spoiled := ⟨_, _, PySem.W.mg_of X G a33, k33, b33, ok_spoiled F33 T c__law_sign_by c__law_odd⟩
  have c__law_number : FnG l.prog w K mg base "_law_number" 1 ["word"] sp_number := ⟨_, _, PySem.W.mg_of X G a34, k34, b34, ok_number F34 T⟩
  have c__law_due : FnG l.prog w K mg base "_law_due" 2 ["text"] sp_due := ⟨_, _, PySem.W.mg_of X G a35, k35, b35, ok_due F35 T TM c__law_number c__law_under c__law_right_below⟩
  exact ok_law F36 T TX R8 c__law_drawn c__law_cell_at c__law_under c__law_right_below c__law_spoiled c__law_due c_readX c__law_marks_of c__law_same
theorem walk {l : PySem.W.OpenLaw} {q : Program} {loose : List Str} {XP : (Str → Option Value) → Heap → Prop} {YP : World → Heap → Prop} {d : DefRec} {K : Params → PySem.W.Frag} (hn : l.most = some 63) (hdf : d.params.defaults = [])
    (hY : ∀ (w : World) (h : Heap), YP w h → (K w.params).In h)
    (F : ∀ (w : World) (mg : Str → Option Value) (fa : Addr) (h : Heap), (K w.params).In h → h.Ns mainGlobals mg → mg d.name = some (.ref fa) →
      ∃ fd : FuncData, (∀ (s : Shared) (u : Value), BindsTo s fd ⟨[u], []⟩ [("script", u)]) ∧ ∀ base : Heap, (K w.params).In base → base.Ns mainGlobals mg → FnOk l.prog w (K w.params) mg base CX0 7 fa fd ["script"] (sp_law (K w.params))) :
    PySem.W.WalkO q loose XP YP l.row.toRowW d [] (fun f vs => PySem.call f vs) :=
  L2.walk_of (n := 63) (k := 7) (x := "script") (CX := fun _ => CX0) (sp := fun w => sp_law (K w.params)) hn (by decide) hdf ⟨rfl, by decide, by decide⟩ hY F (fun _ _ a ns _ _ hS => ⟨a, ns, rfl, hS, fun _ => rfl⟩) fun _ _ _ _ _ z => z
end MJ
open PySem PySem.W PyProof.Rows
/-! these names are taken, so the head lays no second copy of its largest states: without that the compiled file is over 64 MiB -/
def PySem.W.Fast.tw2036140391000148781 : Unit := ()
def PySem.W.Fast.tw6652987709957202646 : Unit := ()
def PySem.W.Fast.tw1856094807179371953 : Unit := ()
def PySem.W.Fast.tw6465939454877474898 : Unit := ()
def PySem.W.Fast.tw9348709510882178886 : Unit := ()
def PySem.W.Fast.tw16544286977127506299 : Unit := ()
def PySem.W.Fast.tw13850486150115115594 : Unit := ()
def PySem.W.Fast.tw17775754026574766714 : Unit := ()
def PySem.W.Fast.tw1108831527931524695 : Unit := ()
def PySem.W.Fast.tw13487869633053197725 : Unit := ()
def PySem.W.Fast.tw5589299416043841789 : Unit := ()
def PySem.W.Fast.tw14652074092364898860 : Unit := ()
def PySem.W.Fast.tw5400874981840363384 : Unit := ()
def PySem.W.Fast.tw7900024977063982005 : Unit := ()
def PySem.W.Fast.tw6351798784220723496 : Unit := ()
def PySem.W.Fast.tw5842164260644291997 : Unit := ()
def PySem.W.Fast.tw16716630693527366673 : Unit := ()
def PySem.W.Fast.tw1688693490016802410 : Unit := ()
def PySem.W.Fast.tw7165059600854187350 : Unit := ()
def PySem.W.Fast.tw9339553654847325341 : Unit := ()
def PySem.W.Fast.tw10662571497905931757 : Unit := ()
def PySem.W.Fast.tw13195862849956603076 : Unit := ()
def PySem.W.Fast.tw5062605407130913844 : Unit := ()
def PySem.W.Fast.tw5390103269593785078 : Unit := ()
def PySem.W.Fast.tw14702604283655551387 : Unit := ()
def PySem.W.Fast.tw8969653314632562603 : Unit := ()
def PySem.W.Fast.tw12788287399982338574 : Unit := ()
def PySem.W.Fast.tw6344316632716725342 : Unit := ()
def PySem.W.Fast.tw51662729747969742 : Unit := ()
def PySem.W.Fast.tw4763551359432224693 : Unit := ()
def PySem.W.Fast.tw9002500450768080458 : Unit := ()
def PySem.W.Fast.tw2243537704604276189 : Unit := ()
def PySem.W.Fast.tw9893117312957643726 : Unit := ()
def PySem.W.Fast.tw9420444368992985213 : Unit := ()
def PySem.W.Fast.tw15834980101895945929 : Unit := ()
def PySem.W.Fast.tw4437534685901172226 : Unit := ()
def PySem.W.Fast.tw5424236790337036906 : Unit := ()
def PySem.W.Fast.tw18297971386915393131 : Unit := ()
def PySem.W.Fast.tw1571011343723496765 : Unit := ()
def PySem.W.Fast.tw16900572506869031963 : Unit := ()
set_option maxRecDepth 100000 in
set_option maxHeartbeats 0 in
theorem PySem.Challenge.cw_meetjoin_k14_orders_read_or_refused_holds : PySem.Challenge.rw_meetjoin_k14_orders_read_or_refused.Holds := by
  w_on; o_law; k_head; (case hw => w_witness2)
  k_fill
  refine MJ.walk (l := PySem.Challenge.rw_meetjoin_k14_orders_read_or_refused) rfl rfl (fun w h Y => PySem.W.kIn_of Y) ?F
  case F =>
    intro w mg fa h KX G hmg
    refine' MJ.all_mk KX G hmg ?aC ?a1 ?l1 ?c1 ?k1 ?a2 ?l2 ?c2 ?k2 ?a3 ?l3 ?c3 ?k3 ?a4 ?l4 ?c4 ?k4 ?a5 ?l5 ?c5 ?k5 ?a6 ?l6 ?c6 ?k6 ?a7 ?l7 ?c7 ?k7 ?a8 ?i8 ?l8 ?c8 ?k8 ?a9 ?i9 ?l9 ?c9 ?k9 ?a10 ?i10 ?l10 ?c10 ?k10 ?a11 ?i11 ?l11 ?c11 ?k11 ?a12 ?l12 ?c12 ?k12 ?a13 ?l13 ?c13 ?k13 ?a14 ?i14 ?l14 ?c14 ?k14 ?a15 ?l15 ?c15 ?k15 ?a16 ?l16 ?c16 ?k16 ?a17 ?l17 ?c17 ?k17 ?a18 ?l18 ?c18 ?k18 ?a19 ?l19 ?c19 ?k19 ?a20 ?l20 ?c20 ?k20 ?a21 ?l21 ?c21 ?k21 ?a22 ?l22 ?c22 ?k22 ?a23 ?l23 ?c23 ?k23 ?a24 ?l24 ?c24 ?k24 ?a25 ?l25 ?c25 ?k25 ?a26 ?l26 ?c26 ?k26 ?a27 ?l27 ?c27 ?k27 ?a28 ?l28 ?c28 ?k28 ?a29 ?l29 ?c29 ?k29 ?a30 ?l30 ?c30 ?k30 ?a31 ?l31 ?c31 ?k31 ?a32 ?l32 ?c32 ?k32 ?a33 ?l33 ?c33 ?k33 ?a34 ?l34 ?c34 ?k34 ?a35 ?l35 ?c35 ?k35 ?a36 ?l36 ?c36 ?k36 ?pg ?hd ?po ?sa ?mk ?kc ?nT ?z1 ?z2 ?z3 ?z4 ?z5 ?z6 ?z7 ?z8 ?z9 ?z10 ?z11 ?z12 ?m1 ?m2 ?i_ii ?i_ib ?i_bb ?i_ll ?i_tt ?zVE ?n0 ?n1 ?n2 ?n3 ?n4 ?n5 ?n6 ?n7 ?n8 ?g4 ?g5 ?e1_1 ?e1_2 ?e1_3 ?e1_6 ?e1_7 ?e1_9 ?up1 ?q1_1 ?q1_2 ?q1_3 ?q1_4 ?q1_5 ?q1_6 ?q1_7 ?q1_8 ?q1_9 ?e2_1 ?e2_2 ?e2_3 ?e2_6 ?e2_7 ?e2_9 ?up2 ?q2_1 ?q2_2 ?q2_3 ?q2_4 ?q2_5 ?q2_6 ?q2_7 ?q2_8 ?q2_9 ?e3_1 ?e3_2 ?e3_3 ?e3_6 ?e3_7 ?e3_9 ?up3 ?q3_1 ?q3_2 ?q3_3 ?q3_4 ?q3_5 ?q3_6 ?q3_7 ?q3_8 ?q3_9 ?e8_1 ?e8_2 ?e8_3 ?e8_6 ?e8_7 ?e8_9 ?up8 ?q8_1 ?q8_2 ?q8_3 ?q8_4 ?q8_5 ?q8_6 ?q8_7 ?q8_8 ?q8_9 ?zMi ?zMa
    (case aC => k_is)
    (case a1 => k_is)
    (case l1 => k_is)
    (case c1 => k_is)
    (case k1 => k_is)
    (case a2 => k_is)
    (case l2 => k_is)
    (case c2 => k_is)
    (case k2 => k_is)
    (case a3 => k_is)
    (case l3 => k_is)
    (case c3 => k_is)
    (case k3 => k_is)
    (case a4 => k_is)
    (case l4 => k_is)
    (case c4 => k_is)
    (case k4 => k_is)
    (case a5 => k_is)
    (case l5 => k_is)
    (case c5 => k_is)
    (case k5 => k_is)
    (case a6 => k_is)
    (case l6 => k_is)
    (case c6 => k_is)
    (case k6 => k_is)
    (case a7 => k_is)
    (case l7 => k_is)
    (case c7 => k_is)
    (case k7 => k_is)
    (case a8 => k_is)
    (case i8 => k_is)
    (case l8 => k_is)
    (case c8 => k_is)
    (case k8 => k_is)
    (case a9 => k_is)
    (case i9 => k_is)
    (case l9 => k_is)
    (case c9 => k_is)
    (case k9 => k_is)
    (case a10 => k_is)
    (case i10 => k_is)
    (case l10 => k_is)
    (case c10 => k_is)
    (case k10 => k_is)
    (case a11 => k_is)
    (case i11 => k_is)
    (case l11 => k_is)
    (case c11 => k_is)
    (case k11 => k_is)
    (case a12 => k_is)
    (case l12 => k_is)
    (case c12 => k_is)
    (case k12 => k_is)
    (case a13 => k_is)
    (case l13 => k_is)
    (case c13 => k_is)
    (case k13 => k_is)
    (case a14 => k_is)
    (case i14 => k_is)
    (case l14 => k_is)
    (case c14 => k_is)
    (case k14 => k_is)
    (case a15 => k_is)
    (case l15 => k_is)
    (case c15 => k_is)
    (case k15 => k_is)
    (case a16 => k_is)
    (case l16 => k_is)
    (case c16 => k_is)
    (case k16 => k_is)
    (case a17 => k_is)
    (case l17 => k_is)
    (case c17 => k_is)
    (case k17 => k_is)
    (case a18 => k_is)
    (case l18 => k_is)
    (case c18 => k_is)
    (case k18 => k_is)
    (case a19 => k_is)
    (case l19 => k_is)
    (case c19 => k_is)
    (case k19 => k_is)
    (case a20 => k_is)
    (case l20 => k_is)
    (case c20 => k_is)
    (case k20 => k_is)
    (case a21 => k_is)
    (case l21 => k_is)
    (case c21 => k_is)
    (case k21 => k_is)
    (case a22 => k_is)
    (case l22 => k_is)
    (case c22 => k_is)
    (case k22 => k_is)
    (case a23 => k_is)
    (case l23 => k_is)
    (case c23 => k_is)
    (case k23 => k_is)
    (case a24 => k_is)
    (case l24 => k_is)
    (case c24 => k_is)
    (case k24 => k_is)
    (case a25 => k_is)
    (case l25 => k_is)
    (case c25 => k_is)
    (case k25 => k_is)
    (case a26 => k_is)
    (case l26 => k_is)
    (case c26 => k_is)
    (case k26 => k_is)
    (case a27 => k_is)
    (case l27 => k_is)
    (case c27 => k_is)
    (case k27 => k_is)
    (case a28 => k_is)
    (case l28 => k_is)
    (case c28 => k_is)
    (case k28 => k_is)
    (case a29 => k_is)
    (case l29 => k_is)
    (case c29 => k_is)
    (case k29 => k_is)
    (case a30 => k_is)
    (case l30 => k_is)
    (case c30 => k_is)
    (case k30 => k_is)
    (case a31 => k_is)
    (case l31 => k_is)
    (case c31 => k_is)
    (case k31 => k_is)
    (case a32 => k_is)
    (case l32 => k_is)
    (case c32 => k_is)
    (case k32 => k_is)
    (case a33 => k_is)
    (case l33 => k_is)
    (case c33 => k_is)
    (case k33 => k_is)
    (case a34 => k_is)
    (case l34 => k_is)
    (case c34 => k_is)
    (case k34 => k_is)
    (case a35 => k_is)
    (case l35 => k_is)
    (case c35 => k_is)
    (case k35 => k_is)
    (case a36 => k_is)
    (case l36 => k_is)
    (case c36 => k_is)
    (case k36 => k_is)
    (case pg => k_is)
    (case hd => k_is)
    (case po => k_is)
    (case sa => k_is)
    (case mk => k_is)
    (case kc => k_is)
    (case nT => k_is)
    (case z1 => k_is)
    (case z2 => k_is)
    (case z3 => k_is)
    (case z4 => k_is)
    (case z5 => k_is)
    (case z6 => k_is)
    (case z7 => k_is)
    (case z8 => k_is)
    (case z9 => k_is)
    (case z10 => k_is)
    (case z11 => k_is)
    (case z12 => k_is)
    (case m1 => k_is)
    (case m2 => k_is)
    (case i_ii => kit_is)
    (case i_ib => kit_is)
    (case i_bb => kit_is)
    (case i_ll => kit_is)
    (case i_tt => kit_is)
    (case zVE => k_is)
    (case n0 => k_is)
    (case n1 => k_is)
    (case n2 => k_is)
    (case n3 => k_is)
    (case n4 => k_is)
    (case n5 => k_is)
    (case n6 => k_is)
    (case n7 => k_is)
    (case n8 => k_is)
    (case g4 => k_is)
    (case g5 => k_is)
    (case e1_1 => k_is)
    (case e1_2 => k_is)
    (case e1_3 => k_is)
    (case e1_6 => k_is)
    (case e1_7 => k_is)
    (case e1_9 => k_exc)
    (case up1 => kts_exm)
    (case q1_1 => kit_is)
    (case q1_2 => kit_is)
    (case q1_3 => kit_is)
    (case q1_4 => kit_is)
    (case q1_5 => kit_is)
    (case q1_6 => kit_is)
    (case q1_7 => kit_is)
    (case q1_8 => kit_is)
    (case q1_9 => kit_is)
    (case e2_1 => k_is)
    (case e2_2 => k_is)
    (case e2_3 => k_is)
    (case e2_6 => k_is)
    (case e2_7 => k_is)
    (case e2_9 => k_exc)
    (case up2 => kts_exm)
    (case q2_1 => kit_is)
    (case q2_2 => kit_is)
    (case q2_3 => kit_is)
    (case q2_4 => kit_is)
    (case q2_5 => kit_is)
    (case q2_6 => kit_is)
    (case q2_7 => kit_is)
    (case q2_8 => kit_is)
    (case q2_9 => kit_is)
    (case e3_1 => k_is)
    (case e3_2 => k_is)
    (case e3_3 => k_is)
    (case e3_6 => k_is)
    (case e3_7 => k_is)
    (case e3_9 => k_exc)
    (case up3 => kts_exm)
    (case q3_1 => kit_is)
    (case q3_2 => kit_is)
    (case q3_3 => kit_is)
    (case q3_4 => kit_is)
    (case q3_5 => kit_is)
    (case q3_6 => kit_is)
    (case q3_7 => kit_is)
    (case q3_8 => kit_is)
    (case q3_9 => kit_is)
    (case e8_1 => k_is)
    (case e8_2 => k_is)
    (case e8_3 => k_is)
    (case e8_6 => k_is)
    (case e8_7 => k_is)
    (case e8_9 => k_exc)
    (case up8 => kts_exm)
    (case q8_1 => kit_is)
    (case q8_2 => kit_is)
    (case q8_3 => kit_is)
    (case q8_4 => kit_is)
    (case q8_5 => kit_is)
    (case q8_6 => kit_is)
    (case q8_7 => kit_is)
    (case q8_8 => kit_is)
    (case q8_9 => kit_is)
    (case zMi => k_is)
    (case zMa => k_is)
#print axioms PySem.Challenge.cw_meetjoin_k14_orders_read_or_refused_holds
