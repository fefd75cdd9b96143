import PyProof.Rows.All
import Wide.All
import OpenK.AllK
import Wide.FinOn
import Lean
import PyProof.EqAt
import PyProof.EqKinds
import PyProof.TupleCall
import PyProof.ListRange
import PyProof.ZipIter
import PyProof.Rows.ZipGen
import PyProof.StrLawsChain
import PyProof.StrBlockI
import PyProof.StrBlock2
import KE.KLam
import PyProof.EnumMake
import PyProof.Rows.EnumRows
import PyProof.Rows.SeqMore2
import PyProof.AttrMissHeap
import KE.KDictOf
import KE.KRevIter
import KE.KDictLaws
import PySem.Challenge.RW_regrowth_k82_trees_written
set_option Elab.async false
set_option linter.all false
set_option maxRecDepth 100000
namespace L2
open PySem PySem.Spec PyProof.Rows

abbrev Key := Sum Int Str
def keyIs : Key → Value → Bool
  | .inl k, v => Value.isInt k v
  | .inr x, v => Value.isStrOf x v
def keyH (w : World) : Key → Int
  | .inl k => hashInt k
  | .inr x => hashStr w x
theorem keyIs_shape : ∀ {k : Key} {v : Value}, keyIs k v = true → (∃ i t, k = Sum.inl i ∧ v = Value.int i t) ∨ (∃ x t, k = Sum.inr x ∧ v = Value.str x t)
  | .inl i, v, h => by
    obtain ⟨t, e⟩ := Value.isInt_shape (k := i) (v := v) h
    exact .inl ⟨i, t, rfl, e⟩
  | .inr x, v, h => by
    obtain ⟨t, e⟩ := Value.isStrOf_shape (x := x) (v := v) h
    exact .inr ⟨x, t, rfl, e⟩
theorem keyIs_int (i : Int) (t : Tok) : keyIs (.inl i) (.int i t) = true := by simp [keyIs, Value.isInt]
theorem keyIs_str (x : Str) (t : Tok) : keyIs (.inr x) (.str x t) = true := by simp [keyIs, Value.isStrOf]
theorem key_ll (a b : Int) : decide ((Sum.inl a : Key) = Sum.inl b) = (a == b) := by
  by_cases e : a = b
  · subst e; simp
  · have h : ¬ (Sum.inl a : Key) = Sum.inl b := fun q => e (Sum.inl.inj q)
    rw [decide_eq_false h]
    exact (beq_eq_false_iff_ne.mpr e).symm
theorem key_rr (a b : Str) : decide ((Sum.inr a : Key) = Sum.inr b) = decide (a = b) := by
  by_cases e : a = b
  · subst e; simp
  · have h : ¬ (Sum.inr a : Key) = Sum.inr b := fun q => e (Sum.inr.inj q)
    rw [decide_eq_false h, decide_eq_false e]
theorem key_lr (a : Int) (b : Str) : decide ((Sum.inl a : Key) = Sum.inr b) = false := decide_eq_false (fun q => nomatch q)
theorem key_rl (a : Str) (b : Int) : decide ((Sum.inr a : Key) = Sum.inl b) = false := decide_eq_false (fun q => nomatch q)

def mixKind (prog : Program) (w : World) : PySem.KeyKind prog w Key where
  is := keyIs
  hash := keyH w
  inj := fun v a b ha hb => by
    rcases keyIs_shape ha with ⟨i, t, rfl, rfl⟩ | ⟨x, t, rfl, rfl⟩
    · rcases keyIs_shape hb with ⟨j, u, rfl, e⟩ | ⟨y, u, rfl, e⟩
      · injection e with e1 _; rw [e1]
      · exact nomatch e
    · rcases keyIs_shape hb with ⟨j, u, rfl, e⟩ | ⟨y, u, rfl, e⟩
      · exact nomatch e
      · injection e with e1 _; rw [e1]
  byValue := fun k v h => by
    rcases keyIs_shape h with ⟨i, t, rfl, rfl⟩ | ⟨x, t, rfl, rfl⟩ <;> rfl
  pyHash := fun hv h => by
    rcases keyIs_shape hv with ⟨i, t, rfl, rfl⟩ | ⟨x, t, rfl, rfl⟩
    · exact wpAny_pyHash_int h
    · exact wpAny_pyHash_str h
  eqBool := fun hu hv h => by
    rcases keyIs_shape hu with ⟨i, t, rfl, rfl⟩ | ⟨x, t, rfl, rfl⟩
    · rcases keyIs_shape hv with ⟨j, u, rfl, rfl⟩ | ⟨y, u, rfl, rfl⟩
      · rw [key_ll] at h; exact wpAny_eqBool_int h
      · rw [key_lr] at h; exact SeqAt.EqAt.int_str i t y u _ _ _ _ h
    · rcases keyIs_shape hv with ⟨j, u, rfl, rfl⟩ | ⟨y, u, rfl, rfl⟩
      · rw [key_rl] at h; exact SeqAt.EqAt.str_int x t j u _ _ _ _ h
      · rw [key_rr] at h; exact wpAny_eqBool_str h
  «strs» := fun k x t v h => by
    rcases keyIs_shape h with ⟨i, u, rfl, e⟩ | ⟨y, u, rfl, e⟩
    · exact nomatch e
    · injection e with e1 _
      subst e1
      cases v <;> rfl

theorem mixKind_int (prog : Program) (w : World) (i : Int) (t : Tok) : (mixKind prog w).is (.inl i) (.int i t) = true := keyIs_int i t
theorem mixKind_str (prog : Program) (w : World) (x : Str) (t : Tok) : (mixKind prog w).is (.inr x) (.str x t) = true := keyIs_str x t
end L2

namespace L2
open PySem PySem.Spec PyProof.Rows

inductive V where
  | non | bl (b : Bool) | int (i : Int) | str (x : Str) | byt (b : Array UInt8) | flt (b : UInt64) | ref (a : Addr) | ty (n : String)
  deriving DecidableEq

def RelV : V → Value → Prop
  | .non, u => u = Value.none
  | .bl b, u => u = Value.bool b
  | .int i, u => ∃ t, u = Value.int i t
  | .str x, u => ∃ t, u = Value.str x t
  | .byt b, u => ∃ t, u = Value.bytes b t
  | .flt b, u => ∃ t, u = Value.float b t
  | .ref a, u => u = Value.ref a
  | .ty n, u => u = Value.type n

abbrev Vals : List V → List Value → Prop := Paired RelV
theorem Vals.length {xs : List V} {us : List Value} (r : Vals xs us) : xs.length = us.length := Paired.length r
theorem Vals.get : ∀ {xs : List V} {us : List Value} {i : Nat} {x : V}, Vals xs us → xs[i]? = some x → ∃ u, us[i]? = some u ∧ RelV x u
  | _, _, _, _, .nil, e => by simp at e
  | _, _, 0, _, .cons r _, e => by simp at e; subst e; exact ⟨_, rfl, r⟩
  | _, _, i + 1, x, .cons _ t, e => by
    obtain ⟨u, h1, h2⟩ := Vals.get (i := i) (x := x) t (by simpa using e)
    exact ⟨u, by simpa using h1, h2⟩
theorem Vals.set {x : V} {u : Value} (r : RelV x u) : ∀ {xs : List V} {us : List Value} (i : Nat), Vals xs us → Vals (xs.set i x) (us.set i u)
  | _, _, _, .nil => .nil
  | _, _, 0, .cons _ t => .cons r t
  | _, _, i + 1, .cons q t => .cons q (Vals.set r i t)
theorem Vals.append : ∀ {xs ys : List V} {us ws : List Value}, Vals xs us → Vals ys ws → Vals (xs ++ ys) (us ++ ws)
  | _, _, _, _, .nil, s => s
  | _, _, _, _, .cons r t, s => .cons r (Vals.append t s)
theorem Vals.take : ∀ {xs : List V} {us : List Value} (n : Nat), Vals xs us → Vals (xs.take n) (us.take n)
  | _, _, 0, _ => .nil
  | _, _, _ + 1, .nil => .nil
  | _, _, n + 1, .cons r t => .cons r (Vals.take n t)
theorem Vals.drop : ∀ {xs : List V} {us : List Value} (n : Nat), Vals xs us → Vals (xs.drop n) (us.drop n)
  | _, _, 0, r => r
  | _, _, _ + 1, .nil => .nil
  | _, _, n + 1, .cons _ t => Vals.drop n t
def RelO : Option V → Option Value → Prop
  | some v, some u => RelV v u
  | none, none => True
  | _, _ => False
def KV {κ : Type} : List (κ × V) → List (κ × Value) → Prop := Paired fun (p : κ × V) (q : κ × Value) => p.1 = q.1 ∧ RelV p.2 q.2

def kV : Key → V
  | .inl i => .int i
  | .inr x => .str x

inductive HO where
  /-- a list -/
  | lst (xs : List V)
  /-- a tuple (never changes) -/
  | tup (xs : List V)
  /-- a dict whose keys are ints and texts; one whose keys are tuples of ints and texts (the empty one is both) -/
  | dK (kvs : List (Key × V)) | dT (kvs : List (List Key × V))
  /-- a set of ints: its members, its size -/
  | set (S : Int → Bool) (n : Nat)
  /-- an instance of the class at C, its dict at dx, its attributes -/
  | ins (C dx : Addr) (fs : List (Str × V))
  /-- the dict of the instance at x -/
  | own (x : Addr)
  /-- the dict of an exception -/
  | xd (fs : List (Str × V))
  /-- a bound method, f of x -/
  | met (f x : Addr)
  /-- a range object lo, lo + 1, .. below hi -/
  | rng (lo hi : Int)
  /-- a thing that is known to the object (the script; a dict while a loop walks it): read, never written while it is so -/
  | frz (o : Obj) (u : HO)
  /-- a code object's table -/
  | tbl (ps : Array Value)
  /-- any other thing, by what is true of its one object (a def of one's own: SetO a S n := HO.ext fun h => ..) -/
  | ext (φ : Heap → Prop)

abbrev Hp := Addr → Option HO
def upd (H : Hp) (a : Addr) (o : HO) : Hp := fun b => if b = a then some o else H b
theorem upd_same {H : Hp} {a : Addr} {o : HO} : upd H a o a = some o := by unfold upd; rw [if_pos rfl]
theorem upd_ne {H : Hp} {a b : Addr} {o : HO} (h : b ≠ a) : upd H a o b = H b := by unfold upd; rw [if_neg h]
theorem ne_of {H : Hp} {a b : Addr} {o u : HO} (h : H a = some o) (h' : H b = some u) (d : o ≠ u) : a ≠ b := by
  intro e; subst e; rw [h] at h'; exact d (Option.some.inj h')
theorem ne_of_none {H : Hp} {a b : Addr} {o : HO} (h : H a = some o) (h' : H b = none) : a ≠ b := by
  intro e; subst e; rw [h] at h'; cases h'

section
variable (P : Program) (w : World)
def ObjOk (H : Hp) (h : Heap) (a : Addr) : HO → Prop
  | .lst xs => xs.length ≤ sizeLine ∧ ∃ (its : List Value) (n : Nat), Vals xs its ∧ h.get? a = some { cls := .type "list", data := .seq its.toArray n }
  | .tup xs => xs.length ≤ sizeLine ∧ ∃ its : List Value, Vals xs its ∧ IsTup h a its.toArray
  | .dK kvs => kvs.length ≤ sizeLine ∧ (a == sysModules) = false ∧ ∃ vs, KV kvs vs ∧ h.DictOf (mixKind P w) a vs
  | .dT kvs => kvs.length ≤ sizeLine ∧ (a == sysModules) = false ∧ ∃ xs : List (List Key × Addr × Value),
      Paired (fun (p : List Key × V) (q : List Key × Addr × Value) => p.1 = q.1 ∧ H q.2.1 = some (.tup (p.1.map kV)) ∧ RelV p.2 q.2.2) kvs xs ∧
      ∃ o es ep, h.get? a = some o ∧ o.ExactDict ∧ o.data = .dict es ep ∧ es.toList = xs.map (entryOfKey (tupleKind (mixKind P w))) ∧ (xs.map (·.1)).Nodup
  | .set S n => h.SetOf (intKind P w) a S n
  | .ins C dx fs => H dx = some (.own a) ∧ fs.length ≤ 1000 ∧ dx ≠ a ∧ h.get? a = some (PySem.W.instObj C dx) ∧
      ∃ mA, h.Ns1 dx mA ∧ (∀ f, RelO (fs.lookup f) (mA f)) ∧ PySem.Within mA (fs.map (·.1))
  | .own _ => ∃ o, h.get? a = some o
  | .xd fs => ∃ mA, h.Ns1 a mA ∧ ∀ f, RelO (fs.lookup f) (mA f)
  | .rng lo hi => ∃ t u v, h.get? a = some { cls := .type "range", data := .fields #[.int lo t, .int hi u, .int 1 v] }
  | .frz o u => h.get? a = some o ∧ ObjOk H h a u
  | .tbl ps => h.get? a = some { cls := .none, data := .fields ps }
  | .met f x => h.get? a = some (PySem.W.methodObj (.ref f) (.ref x))
  | .ext φ => φ h ∧ (∃ o, h.get? a = some o) ∧ ∀ h1 h2 : Heap, φ h1 → (∀ o, h1.get? a = some o → h2.get? a = some o) → φ h2
def HOk (H : Hp) (h : Heap) : Prop := ∀ a o, H a = some o → ObjOk P w H h a o
end

section
variable {P : Program} {w : World} {H H' : Hp} {h h' : Heap} {a : Addr} {o : HO}
theorem ObjOk.lt (x : ObjOk P w H h a o) : a < h.objs.size := by
  cases o with
  | lst xs => obtain ⟨_, _, _, _, e⟩ := x; exact Heap.lt_size e
  | tup xs => obtain ⟨_, _, _, p⟩ := x; exact p.lt
  | dK kvs => obtain ⟨_, _, _, _, o, _, _, e, _⟩ := x; exact Heap.lt_size e
  | dT kvs => obtain ⟨_, _, _, _, o, _, _, e, _⟩ := x; exact Heap.lt_size e
  | set S n => obtain ⟨o, _, _, _, e, _⟩ := x; exact Heap.lt_size e
  | ins C dx fs => obtain ⟨_, _, _, e, _⟩ := x; exact Heap.lt_size e
  | own y => obtain ⟨_, e⟩ := x; exact Heap.lt_size e
  | xd fs => obtain ⟨_, ⟨_, _, _, e, _⟩, _⟩ := x; exact Heap.lt_size e
  | rng lo hi => obtain ⟨_, _, _, e⟩ := x; exact Heap.lt_size e
  | frz ob u => obtain ⟨e, _⟩ := x; exact Heap.lt_size e
  | tbl ps => exact Heap.lt_size (show h.get? a = some _ from x)
  | met f y => exact Heap.lt_size (show h.get? a = some _ from x)
  | ext φ => obtain ⟨_, ⟨_, e⟩, _⟩ := x; exact Heap.lt_size e
theorem Paired.mapP {α β : Type} {F G : α → β → Prop} : ∀ {l₁ : List α} {l₂ : List β}, Paired F l₁ l₂ → (∀ a b, F a b → G a b) → Paired G l₁ l₂
  | _, _, .nil, _ => .nil
  | _, _, .cons r t, f => .cons (f _ _ r) (Paired.mapP t f)
theorem ObjOk.stay (x : ObjOk P w H h a o) (k : ∀ b u, (b = a ∨ H b = some (.own a)) → h.get? b = some u → h'.get? b = some u)
    (ho : ∀ b, H b = some (.own a) → H' b = some (.own a)) (ht : ∀ b xs, H b = some (.tup xs) → H' b = some (.tup xs)) : ObjOk P w H' h' a o := by
  induction o with
  | lst xs => obtain ⟨z, its, n, r, e⟩ := x; exact ⟨z, its, n, r, k _ _ (.inl rfl) e⟩
  | tup xs => obtain ⟨z, its, r, ob, e, c⟩ := x; exact ⟨z, its, r, ob, k _ _ (.inl rfl) e, c⟩
  | dK kvs => obtain ⟨z, y, vs, r, ob, es, ep, e, c⟩ := x; exact ⟨z, y, vs, r, ob, es, ep, k _ _ (.inl rfl) e, c⟩
  | dT kvs =>
    obtain ⟨z, y, xs, r, ob, es, ep, e, c⟩ := x
    exact ⟨z, y, xs, Paired.mapP r fun p q z => ⟨z.1, ht _ _ z.2.1, z.2.2⟩, ob, es, ep, k _ _ (.inl rfl) e, c⟩
  | set S n => obtain ⟨ob, es, ep, t, e, c⟩ := x; exact ⟨ob, es, ep, t, k _ _ (.inl rfl) e, c⟩
  | ins C dx fs =>
    obtain ⟨d, z, ne, e, mA, ⟨od, es, ep, e2, c⟩, r⟩ := x
    exact ⟨ho _ d, z, ne, k _ _ (.inl rfl) e, mA, ⟨od, es, ep, k _ _ (.inr d) e2, c⟩, r⟩
  | own y => obtain ⟨ob, e⟩ := x; exact ⟨ob, k _ _ (.inl rfl) e⟩
  | xd fs => obtain ⟨mA, ⟨od, es, ep, e, c⟩, r⟩ := x; exact ⟨mA, ⟨od, es, ep, k _ _ (.inl rfl) e, c⟩, r⟩
  | rng lo hi => obtain ⟨t, u, v, e⟩ := x; exact ⟨t, u, v, k _ _ (.inl rfl) e⟩
  | frz ob u ih => obtain ⟨e, q⟩ := x; exact ⟨k _ _ (.inl rfl) e, ih q⟩
  | tbl ps =>
    have e : h.get? a = some { cls := .none, data := .fields ps } := x
    show h'.get? a = some { cls := .none, data := .fields ps }
    exact k a _ (.inl rfl) e
  | met f y =>
    have e : h.get? a = some (PySem.W.methodObj (.ref f) (.ref y)) := x
    show h'.get? a = some (PySem.W.methodObj (.ref f) (.ref y))
    exact k a _ (.inl rfl) e
  | ext φ => obtain ⟨p, ⟨o, e⟩, st⟩ := x; exact ⟨st _ _ p fun o q => k _ _ (.inl rfl) q, ⟨o, k _ _ (.inl rfl) e⟩, st⟩
theorem HOk.lt (x : HOk P w H h) (e : H a = some o) : a < h.objs.size := (x a o e).lt
theorem HOk.fresh (x : HOk P w H h) (e : h.objs.size ≤ a) : H a = none := by
  cases q : H a with
  | none => rfl
  | some u => exact absurd (Nat.lt_of_lt_of_le (x.lt q) e) (Nat.lt_irrefl _)
theorem HOk.kept (x : HOk P w H h) (k : ∀ b u, h.get? b = some u → h'.get? b = some u) : HOk P w H h' := fun a o e =>
  (x a o e).stay (fun b u _ q => k b u q) (fun _ q => q) fun _ _ q => q
theorem HOk.laid (x : HOk P w H h) (k : ∀ b u, h.get? b = some u → h'.get? b = some u) (hp : h.objs.size ≤ a) (new : ObjOk P w (upd H a o) h' a o) : HOk P w (upd H a o) h' := fun b u e => by
  have hn := x.fresh hp
  by_cases hb : b = a
  · subst hb; rw [upd_same] at e; cases e; exact new
  · rw [upd_ne hb] at e
    exact (x b u e).stay (fun c v _ q => k c v q) (fun c q => by rw [upd_ne (ne_of_none q hn)]; exact q) fun c xs q => by rw [upd_ne (ne_of_none q hn)]; exact q
end

def Rd (H : Hp) (a : Addr) (u : HO) : Prop := H a = some u ∨ ∃ o, H a = some (.frz o u)
theorem Rd.of {H : Hp} {a : Addr} {u : HO} (h : H a = some u) : Rd H a u := .inl h
theorem Rd.ok {P : Program} {w : World} {H : Hp} {h : Heap} {a : Addr} {u : HO} (r : Rd H a u) (x : HOk P w H h) : ObjOk P w H h a u := by
  rcases r with r | ⟨o, r⟩
  · exact x a u r
  · obtain ⟨_, q⟩ := x a _ r
    exact q
def Mut : Option HO → Prop
  | some (.lst _) => True
  | some (.dK _) => True
  | some (.dT _) => True
  | some (.set _ _) => True
  | some (.ins _ _ _) => True
  | some (.ext _) => True
  | _ => False
section
variable {P : Program} {w : World} {H : Hp} {h h' : Heap} {x e : Addr} {o' : HO}
theorem HOk.write (ok : HOk P w H h) (mu : Mut (H x)) (he : e = x ∨ H e = some (.own x)) (k : ∀ b u, b ≠ e → h.get? b = some u → h'.get? b = some u) (heo : ∃ u, h'.get? e = some u)
    (new : ObjOk P w (upd H x o') h' x o') : HOk P w (upd H x o') h' := fun b u q => by
  have nown : ∀ c y, H c = some (.own y) → c ≠ x := fun c y r z => by subst z; rw [r] at mu; exact mu
  have ntup : ∀ c xs, H c = some (.tup xs) → c ≠ x := fun c xs r z => by subst z; rw [r] at mu; exact mu
  by_cases hb : b = x
  · subst hb; rw [upd_same] at q; cases q; exact new
  · rw [upd_ne hb] at q
    by_cases hbe : b = e
    · have q' : H b = some (.own x) := by
        rcases he with z | z
        · exact absurd (hbe.trans z) hb
        · rw [hbe]; exact z
      rw [q] at q'; cases q'
      obtain ⟨v, hv⟩ := heo
      exact ⟨v, by rw [hbe]; exact hv⟩
    · refine (ok b u q).stay (fun c v hc r => k c v ?_ r) (fun c r => by rw [upd_ne (nown c b r)]; exact r) fun c xs r => by rw [upd_ne (ntup c xs r)]; exact r
      rcases hc with rfl | hc
      · exact hbe
      · rintro rfl
        rcases he with z | z
        · exact nown c b hc z
        · rw [hc] at z; cases z; exact hb rfl
end

structure Un (fs ex : List Addr) (H H' : Hp) (h h' : Heap) : Prop where
  keep : ∀ b o, h.get? b = some o → H b = none → b ∉ fs → b ∉ ex → h'.get? b = some o
  slot : ∀ b o, h.get? b = some o → H b = none → b ∈ fs → b ∉ ex → ∃ sl, h'.get? b = some { o with slots := sl }
  free : ∀ b o, h.get? b = some o → H b = none → b ∉ ex → H' b = none
  there : ∀ b o, h.get? b = some o → b ∉ ex → ∃ o', h'.get? b = some o'
  tups : ∀ b xs, H b = some (.tup xs) → H' b = some (.tup xs)
  frzs : ∀ b o u, H b = some (.frz o u) → H' b = some (.frz o u)
  tbls : ∀ b ps, H b = some (.tbl ps) → ∃ more, H' b = some (.tbl (ps ++ more))
section
variable {fs fs' ex ex' : List Addr} {H H1 H2 : Hp} {h h1 h2 h' : Heap} {a x e : Addr} {o : HO}
theorem Un.any (u : Un fs ex H H1 h h1) {b : Addr} {ob : Obj} (q : h.get? b = some ob) (n : H b = none) (hx : b ∉ ex) : ∃ sl, h1.get? b = some { ob with slots := sl } := by
  by_cases hb : b ∈ fs
  · exact u.slot b ob q n hb hx
  · exact ⟨ob.slots, u.keep b ob q n hb hx⟩
theorem Un.trans (a : Un fs ex H H1 h h1) (b : Un fs ex H1 H2 h1 h2) : Un fs ex H H2 h h2 where
  keep := fun c ob q n hc hx => b.keep c ob (a.keep c ob q n hc hx) (a.free c ob q n hx) hc hx
  slot := fun c ob q n hc hx => by
    obtain ⟨sl, e1⟩ := a.slot c ob q n hc hx
    obtain ⟨sl', e2⟩ := b.slot c _ e1 (a.free c ob q n hx) hc hx
    exact ⟨sl', e2⟩
  free := fun c ob q n hx => by
    obtain ⟨o', e1⟩ := a.there c ob q hx
    exact b.free c o' e1 (a.free c ob q n hx) hx
  there := fun c ob q hx => by
    obtain ⟨o', e1⟩ := a.there c ob q hx
    exact b.there c o' e1 hx
  tups := fun c xs q => b.tups c xs (a.tups c xs q)
  frzs := fun c ob xs q => b.frzs c ob xs (a.frzs c ob xs q)
  tbls := fun c ps q => by
    obtain ⟨m1, e1⟩ := a.tbls c ps q
    obtain ⟨m2, e2⟩ := b.tbls c _ e1
    exact ⟨m1 ++ m2, by rw [e2, Array.append_assoc]⟩
theorem Un.kept (k : ∀ b u, h.get? b = some u → h'.get? b = some u) : Un fs ex H H h h' :=
  ⟨fun b ob q _ _ _ => k b ob q, fun b ob q _ _ _ => ⟨ob.slots, k b ob q⟩, fun _ _ _ n _ => n, fun b ob q _ => ⟨ob, k b ob q⟩, fun _ _ q => q, fun _ _ _ q => q, fun _ ps q => ⟨#[], by rw [q]; simp⟩⟩
theorem Un.refl : Un fs ex H H h h := Un.kept fun _ _ q => q
theorem Un.laid (k : ∀ b u, h.get? b = some u → h'.get? b = some u) (hp : h.objs.size ≤ a) (hn : H a = none) : Un fs ex H (upd H a o) h h' where
  keep := fun b u q _ _ _ => k b u q
  slot := fun b u q _ _ _ => ⟨u.slots, k b u q⟩
  free := fun b u q n _ => by rw [upd_ne (Nat.ne_of_lt (Nat.lt_of_lt_of_le (Heap.lt_size q) hp))]; exact n
  there := fun b u q _ => ⟨u, k b u q⟩
  tups := fun b xs q => by rw [upd_ne (ne_of_none q hn)]; exact q
  frzs := fun b u xs q => by rw [upd_ne (ne_of_none q hn)]; exact q
  tbls := fun b ps q => ⟨#[], by rw [upd_ne (ne_of_none q hn), q]; simp⟩
theorem Un.write (mu : Mut (H x)) (he : e = x ∨ H e = some (.own x)) (k : ∀ b u, b ≠ e → h.get? b = some u → h'.get? b = some u) (heo : ∃ u, h'.get? e = some u) : Un fs ex H (upd H x o) h h' := by
  have hx : ∀ b, H b = none → b ≠ x := fun b n z => by subst z; rw [n] at mu; exact mu
  have hb : ∀ b, H b = none → b ≠ e := fun b n z => by
    subst z
    rcases he with r | r
    · exact hx b n r
    · rw [n] at r; cases r
  have hm : ∀ b u, H b = some u → ¬ Mut (some u) → b ≠ x := fun b u q nm z => by subst z; rw [q] at mu; exact nm mu
  refine ⟨fun b u q n _ _ => k b u (hb b n) q, fun b u q n _ _ => ⟨u.slots, k b u (hb b n) q⟩, fun b u q n _ => by rw [upd_ne (hx b n)]; exact n, fun b u q _ => ?_,
    fun b xs q => by rw [upd_ne (hm b _ q fun z => z)]; exact q, fun b u xs q => by rw [upd_ne (hm b _ q fun z => z)]; exact q, fun b ps q => ⟨#[], by rw [upd_ne (hm b _ q fun z => z), q]; simp⟩⟩
  by_cases hbe : b = e
  · subst hbe; exact heo
  · exact ⟨u, k b u hbe q⟩
theorem Un.mono (u : Un fs ex H H1 h h1) (hs : ∀ b ∈ fs, b ∈ fs') (hx : ∀ b ∈ ex, b ∈ ex') : Un fs' ex' H H1 h h1 :=
  ⟨fun b ob q n hb he => u.keep b ob q n (fun z => hb (hs b z)) fun z => he (hx b z), fun _ _ q n _ he => u.any q n fun z => he (hx _ z), fun b ob q n he => u.free b ob q n fun z => he (hx b z), fun b ob q he => u.there b ob q fun z => he (hx b z), u.tups, u.frzs, u.tbls⟩
end

def trk (h : Heap) (H : Hp) : List Addr := (List.range h.objs.size).filter fun a => (H a).isSome
def hidT (h : Heap) (H : Hp) : Heap := PySem.W.hideAll h (trk h H)
theorem hidT_size (h : Heap) (H : Hp) : (hidT h H).objs.size = h.objs.size := PySem.W.hideAll_size _ _
theorem hidT_get {h : Heap} {H : Hp} {b : Addr} {o : Obj} (e : h.get? b = some o) (n : H b = none) : (hidT h H).get? b = some o :=
  PySem.W.hideAll_get _ e fun hm => by
    have q : (H b).isSome = true := (List.mem_filter.mp hm).2
    rw [n] at q; simp at q
theorem of_hidT {h : Heap} {H : Hp} {b : Addr} {o : Obj} (e : (hidT h H).get? b = some o) : h.get? b = some o ∧ H b = none := by
  have e' : h.get? b = some o := PySem.W.of_hideAll (trk h H) e
  refine ⟨e', ?_⟩
  cases q : H b with
  | none => rfl
  | some x =>
    have hm : b ∈ trk h H := List.mem_filter.mpr ⟨List.mem_range.mpr (Heap.lt_size e'), by simp [q]⟩
    have z : (hidT h H).get? b = none := PySem.W.hideAll_none (trk h H) hm
    rw [z] at e; cases e

def allNews (g h : Heap) (L : Addr) : List (Addr × Obj) := (List.range h.objs.size).filterMap fun a => if a = L ∨ (g.get? a).isSome = true then none else (h.get? a).map fun o => (a, o)
def rest (g h : Heap) (L d : Addr) : List (Addr × Obj) := (allNews g h L).filter fun p => decide (p.1 ≠ d)
end L2

namespace L2
open PySem PySem.Spec PyProof.Rows

structure Mod (K : PySem.W.Frag) (mg : Str → Option Value) (base : Heap) : Prop where
  kin : K.In base
  glob : base.Ns mainGlobals mg
  blt : ∃ mb, base.Ns builtinsNs mb ∧ ∀ x : Str, x ≠ "__name__" → mb x = bootBuiltins x
  nolimit : base.NoLimit

structure Cx where
  prog : Program
  w : World
  K : PySem.W.Frag
  mg : Str → Option Value
  base : Heap
  A : Around
  N : List Str
  s₀ : Shared
  H₀ : Hp
  env : Env
  outer : List Env
  stack : List Env
  ex : List Addr
  fn : Str → Bool
  calm : Bool
  pn : List (Addr × Obj)
  xe : Value → Shared → Prop
def frs (l : List Env) : List Addr := l.filterMap (·.frame)
abbrev Cx.fs (X : Cx) : List Addr := frs X.outer

def Vis (sc : Scope) (x : Str) : Prop := sc.names.lookup x = some .local ∨ sc.names.lookup x = some .cell ∨ sc.names.lookup x = some .free
def Loc (sc : Scope) (x : Str) : Prop := sc.names.lookup x = some .local ∨ sc.names.lookup x = some .cell
def Look (env : Env) (h : Heap) (m : Str → Option Value) (x : Str) (u : Value) : Prop :=
  (env.kindOf x = some .local ∧ m x = some u) ∨ ((env.kindOf x = some .cell ∨ env.kindOf x = some .free) ∧ ∃ c, env.cells.lookup x = some c ∧ h.IsCell c (some u))

structure Cx.Ok (X : Cx) : Prop where
  mod : Mod X.K X.mg X.base
  kind : X.env.scope.kind = .function
  glob : X.env.globals = mainGlobals
  blt : X.env.builtins = builtinsNs
  above : X.s₀.heap.objs.size ≤ X.env.locals
  inj : ∀ x y c, X.env.cells.lookup x = some c → X.env.cells.lookup y = some c → x = y
  has : ∀ x, (X.env.kindOf x = some .cell ∨ X.env.kindOf x = some .free) → ∃ c, X.env.cells.lookup x = some c
  cab : ∀ x c, X.fn x = true → X.env.cells.lookup x = some c → X.s₀.heap.objs.size ≤ c
  hd : X.calm = true → X.A.handled = none
  frames : X.A.frames = some X.stack
  stk : X.stack = X.outer ∨ (X.stack = X.env :: X.outer ∧ X.env.frame = some X.env.locals)
  exf : ∀ b ∈ X.ex, b ≠ X.env.locals ∧ ∀ x c, X.env.cells.lookup x = some c → c ≠ b
  bs : ∀ b o, X.base.get? b = some o → X.s₀.heap.get? b = some o ∧ X.H₀ b = none
  bsz : X.base.objs.size ≤ X.s₀.heap.objs.size
  noex : ∀ b o, X.base.get? b = some o → b ∉ X.ex
  exfs : ∀ b ∈ X.ex, b ∉ X.fs
  funs : X.s₀.heap.FunFrames X.base X.outer
  frf : ∀ b ∈ X.fs, X.H₀ b = none

structure Inv (X : Cx) (pins : List (Addr × Obj)) (σ : List (Option V)) (H : Hp) (s : Shared) : Prop where
  ok : X.Ok
  os : s.os = X.s₀.os
  bare : AllBare s.gens
  base : Un X.fs X.ex X.H₀ H X.s₀.heap s.heap
  loc : ∃ m, s.heap.Ns X.env.locals m ∧ ∀ (i : Nat) (x : Str) (v : V), X.N[i]? = some x → σ[i]? = some (some v) → Vis X.env.scope x → ∃ u, RelV v u ∧ Look X.env s.heap m x u
  cell : ∀ x c, X.env.cells.lookup x = some c → ∃ v, s.heap.IsCell c v
  free : H X.env.locals = none
  freeC : ∀ x c, X.env.cells.lookup x = some c → H c = none
  pin : ∀ p ∈ X.pn ++ pins, s.heap.get? p.1 = some p.2 ∧ H p.1 = none ∧ p.1 ≠ X.env.locals ∧ p.1 ∉ X.fs ∧ ∀ v, p.2.data ≠ .cell v
  hok : HOk X.prog X.w H s.heap
  len : σ.length = X.N.length

section
variable {X : Cx} {pins : List (Addr × Obj)} {σ : List (Option V)} {H H' : Hp} {s : Shared} {h' : Heap}

theorem Cx.Ok.nofr (ok : X.Ok) {b : Addr} {o : Obj} (e : X.base.get? b = some o) : b ∉ X.fs := fun hb => by
  have := (ok.funs.mem hb).1
  rw [e] at this; cases this
theorem Inv.bs (I : Inv X pins σ H s) : ∀ b o, X.base.get? b = some o → s.heap.get? b = some o ∧ H b = none := fun b o e =>
  ⟨I.base.keep b o (I.ok.bs b o e).1 (I.ok.bs b o e).2 (I.ok.nofr e) (I.ok.noex b o e), I.base.free b o (I.ok.bs b o e).1 (I.ok.bs b o e).2 (I.ok.noex b o e)⟩
theorem Inv.bk (I : Inv X pins σ H s) : ∀ b o, X.base.get? b = some o → s.heap.get? b = some o := fun b o e => (I.bs b o e).1
theorem Inv.mod (I : Inv X pins σ H s) : Mod X.K X.mg X.base := I.ok.mod
theorem Inv.kIn (I : Inv X pins σ H s) : X.K.In s.heap := I.ok.mod.kin.keeps I.bk
theorem Inv.nolimit (I : Inv X pins σ H s) : s.heap.NoLimit := I.ok.mod.nolimit.keeps I.bk
theorem Inv.fr (I : Inv X pins σ H s) : ∃ m, Fr X.base X.env.locals s.heap m :=
  let ⟨m, hn, _⟩ := I.loc
  ⟨m, hn, I.bk, Nat.le_trans I.ok.bsz I.ok.above⟩
theorem Inv.lt (I : Inv X pins σ H s) : X.env.locals < s.heap.objs.size := let ⟨_, hn, _⟩ := I.loc; hn.lt
theorem Inv.sz (I : Inv X pins σ H s) : X.s₀.heap.objs.size ≤ s.heap.objs.size := Nat.le_trans I.ok.above (Nat.le_of_lt I.lt)
theorem Inv.nofs (I : Inv X pins σ H s) {a : Addr} (h : s.heap.objs.size ≤ a) : a ∉ X.fs := fun hb => by
  obtain ⟨_, o, ho, _⟩ := I.ok.funs.mem hb
  exact absurd (Nat.lt_of_lt_of_le (Heap.lt_size ho) (Nat.le_trans I.sz h)) (Nat.lt_irrefl _)
theorem Inv.cne (I : Inv X pins σ H s) : ∀ x c, X.env.cells.lookup x = some c → c ≠ X.env.locals := fun x c e z => by
  obtain ⟨v, o, ho, hd⟩ := I.cell x c e
  obtain ⟨m, ⟨o', es, ep, ho', hd', _⟩, _⟩ := I.loc
  rw [z, ho'] at ho; cases ho; rw [hd'] at hd; cases hd
theorem Inv.funs (I : Inv X pins σ H s) : s.heap.FunFrames X.base X.outer := by
  have all : ∀ (l : List Env), (∀ b ∈ frs l, b ∈ X.fs) → X.s₀.heap.FunFrames X.base l → s.heap.FunFrames X.base l := by
    intro l
    induction l with
    | nil => intro _ _; trivial
    | cons env r ih =>
      intro hs hl
      obtain ⟨hk, ⟨L, o, hf, hn, ho, hd⟩, hr⟩ := hl
      have hL : L ∈ X.fs := hs L (by unfold frs; rw [List.filterMap_cons, hf]; exact List.mem_cons_self)
      obtain ⟨sl, e⟩ := I.base.slot L o ho (I.ok.frf L hL) hL fun z => I.ok.exfs L z hL
      exact ⟨hk, ⟨L, _, hf, hn, e, hd⟩, ih (fun b hb => hs b (by unfold frs; rw [List.filterMap_cons, hf]; exact List.mem_cons_of_mem _ hb)) hr⟩
  exact all X.outer (fun _ hb => hb) I.ok.funs

theorem Inv.stack (I : Inv X pins σ H s) : s.heap.FunFrames X.base X.stack := by
  rcases I.ok.stk with e | ⟨e, hf⟩
  · rw [e]; exact I.funs
  · rw [e]
    obtain ⟨m, hn, _⟩ := I.loc
    refine .cons (by rw [I.ok.kind]; decide) hf hn ?_ I.funs
    exact Heap.get?_none_of_le (Nat.le_trans I.ok.bsz I.ok.above)
theorem Inv.stkSub (I : Inv X pins σ H s) : ∀ b ∈ frs X.stack, b ∈ X.env.locals :: X.fs := fun b hb => by
  rcases I.ok.stk with e | ⟨e, hf⟩
  · rw [e] at hb; exact List.mem_cons_of_mem _ hb
  · rw [e] at hb
    unfold frs at hb
    rw [List.filterMap_cons, hf] at hb
    exact hb
theorem Inv.stkFree (I : Inv X pins σ H s) : ∀ b ∈ frs X.stack, H b = none := fun b hb => by
  rcases List.mem_cons.mp (I.stkSub b hb) with e | hb
  · rw [e]; exact I.free
  · obtain ⟨_, o, ho, _⟩ := I.ok.funs.mem hb
    exact I.base.free b o ho (I.ok.frf b hb) fun z => I.ok.exfs b z hb

theorem Inv.step {g' : Array GenState} {t' : Nat} {d' : Drawn} {ch : List Addr} (I : Inv X pins σ H s)
    (hch : ∀ b ∈ ch, (b ∈ X.ex ∨ X.s₀.heap.objs.size ≤ b) ∧ b ≠ X.env.locals ∧ (∀ x c, X.env.cells.lookup x = some c → c ≠ b) ∧ ∀ p ∈ X.pn ++ pins, p.1 ≠ b)
    (keep : ∀ b o, b ≠ X.env.locals → b ∉ X.fs → b ∉ ch → s.heap.get? b = some o → H b = none → h'.get? b = some o)
    (slot : ∀ b o, b ≠ X.env.locals → b ∈ X.fs → b ∉ ch → s.heap.get? b = some o → H b = none → ∃ sl, h'.get? b = some { o with slots := sl }) (free : ∀ b o, b ∉ ch → s.heap.get? b = some o → H b = none → H' b = none)
    (there : ∀ b o, b ∉ ch → s.heap.get? b = some o → ∃ o', h'.get? b = some o')
    (tups : ∀ b xs, H b = some (.tup xs) → H' b = some (.tup xs)) (frzs : ∀ b o u, H b = some (.frz o u) → H' b = some (.frz o u)) (tbls : ∀ b ps, H b = some (.tbl ps) → ∃ more, H' b = some (.tbl (ps ++ more)))
    (ns : ∀ m, s.heap.Ns X.env.locals m → h'.Ns X.env.locals m) (hok : HOk X.prog X.w H' h') (hg : AllBare g') :
    Inv X pins σ H' { s with heap := h', gens := g', drawn := d', toks := t' } := by
  have neL : ∀ b o, X.s₀.heap.get? b = some o → b ≠ X.env.locals := fun b o e => Nat.ne_of_lt (Nat.lt_of_lt_of_le (Heap.lt_size e) I.ok.above)
  have neC : ∀ b o, X.s₀.heap.get? b = some o → b ∉ X.ex → b ∉ ch := fun b o e hx hb => by
    rcases (hch b hb).1 with z | z
    · exact hx z
    · exact absurd (Nat.lt_of_lt_of_le (Heap.lt_size e) z) (Nat.lt_irrefl _)
  have cellK : ∀ x c, X.env.cells.lookup x = some c → ∀ v, s.heap.IsCell c v → h'.IsCell c v := fun x c e v ⟨o, ho, hd⟩ => by
    have nch : c ∉ ch := fun z => (hch c z).2.2.1 x c e rfl
    by_cases hc : c ∈ X.fs
    · obtain ⟨sl, q⟩ := slot c o (I.cne x c e) hc nch ho (I.freeC x c e)
      exact ⟨_, q, hd⟩
    · exact ⟨o, keep c o (I.cne x c e) hc nch ho (I.freeC x c e), hd⟩
  refine ⟨I.ok, I.os, hg, ⟨fun b o e n hb hx => ?_, fun b o e n hb hx => ?_, fun b o e n hx => ?_, fun b o e hx => ?_, fun b xs e => tups b xs (I.base.tups b xs e), fun b o xs e => frzs b o xs (I.base.frzs b o xs e), fun b ps e => ?_⟩, ?_, fun x c e => ?_, ?_, fun x c e => ?_, fun p hp => ?_, hok, I.len⟩
  · exact keep b o (neL b o e) hb (neC b o e hx) (I.base.keep b o e n hb hx) (I.base.free b o e n hx)
  · obtain ⟨sl, e1⟩ := I.base.slot b o e n hb hx
    obtain ⟨sl', e2⟩ := slot b _ (neL b o e) hb (neC b o e hx) e1 (I.base.free b o e n hx)
    exact ⟨sl', e2⟩
  · obtain ⟨o', e1⟩ := I.base.there b o e hx
    exact free b o' (neC b o e hx) e1 (I.base.free b o e n hx)
  · obtain ⟨o', e1⟩ := I.base.there b o e hx
    exact there b o' (neC b o e hx) e1
  · obtain ⟨m1, e1⟩ := I.base.tbls b ps e
    obtain ⟨m2, e2⟩ := tbls b _ e1
    exact ⟨m1 ++ m2, by rw [e2, Array.append_assoc]⟩
  · obtain ⟨m, hn, hl⟩ := I.loc
    refine ⟨m, ns m hn, fun i x v e1 e2 e3 => ?_⟩
    obtain ⟨u, r, l⟩ := hl i x v e1 e2 e3
    refine ⟨u, r, ?_⟩
    rcases l with l | ⟨k, c, e, z⟩
    · exact .inl l
    · exact .inr ⟨k, c, e, cellK x c e _ z⟩
  · obtain ⟨v, z⟩ := I.cell x c e
    exact ⟨v, cellK x c e v z⟩
  · obtain ⟨m, ⟨o, _, _, ho, _⟩, _⟩ := I.loc
    exact free _ o (fun z => (hch _ z).2.1 rfl) ho I.free
  · obtain ⟨v, o, ho, hd⟩ := I.cell x c e
    exact free c o (fun z => (hch c z).2.2.1 x c e rfl) ho (I.freeC x c e)
  · obtain ⟨e, n, ne, nf, d⟩ := I.pin p hp
    have nch : p.1 ∉ ch := fun z => (hch p.1 z).2.2.2 p hp rfl
    exact ⟨keep p.1 p.2 ne nf nch e n, free p.1 p.2 nch e n, ne, nf, d⟩
theorem Inv.un {t' : Nat} (I : Inv X pins σ H s) (u : Un X.fs [] H H' s.heap h') (hok : HOk X.prog X.w H' h') : Inv X pins σ H' { s with heap := h', toks := t' } := by
  obtain ⟨m, ⟨o, es, ep, ho, r⟩, _⟩ := id I.loc
  obtain ⟨sl, hL⟩ := u.any ho I.free (by simp)
  exact I.step (g' := s.gens) (d' := s.drawn) (ch := []) (fun _ z => nomatch z) (fun b o _ hb _ e n => u.keep b o e n hb (by simp)) (fun b o _ hb _ e n => u.slot b o e n hb (by simp)) (fun b o _ e n => u.free b o e n (by simp)) (fun b o _ e => u.there b o e (by simp)) u.tups u.frzs u.tbls (fun m' hm => by
    obtain ⟨o', es', ep', ho', r'⟩ := hm
    rw [ho] at ho'; cases ho'
    exact ⟨_, es', ep', hL, r'⟩) hok I.bare
theorem Inv.call {g' : Array GenState} {t' : Nat} {d' : Drawn} {ch : List Addr} (I : Inv X pins σ H s) (u : Un (frs X.stack) ch H H' s.heap h') (hok : HOk X.prog X.w H' h') (hg : AllBare g')
    (hch : ∀ b ∈ ch, (b ∈ X.ex ∨ X.s₀.heap.objs.size ≤ b) ∧ b ≠ X.env.locals ∧ (∀ x c, X.env.cells.lookup x = some c → c ≠ b) ∧ ∀ p ∈ X.pn ++ pins, p.1 ≠ b) :
    Inv X pins σ H' { s with heap := h', gens := g', drawn := d', toks := t' } := by
  obtain ⟨m, ⟨o, es, ep, ho, r⟩, _⟩ := id I.loc
  obtain ⟨sl, hL⟩ := u.any ho I.free fun z => (hch _ z).2.1 rfl
  exact I.step (ch := ch) hch (fun b o hL hb hc e n => u.keep b o e n (fun z => (List.mem_cons.mp (I.stkSub b z)).elim hL hb) hc) (fun b o _ _ hc e n => u.any e n hc) (fun b o hc e n => u.free b o e n hc) (fun b o hc e => u.there b o e hc) u.tups u.frzs u.tbls (fun m' hm => by
    obtain ⟨o', es', ep', ho', r'⟩ := hm
    rw [ho] at ho'; cases ho'
    exact ⟨_, es', ep', hL, r'⟩) hok hg
theorem Inv.turned {t' : Nat} {it : Addr} (I : Inv X pins σ H s) (k : ∀ b o, b ≠ it → s.heap.get? b = some o → h'.get? b = some o) (hn : H it = none) (hL : it ≠ X.env.locals)
    (h1 : it ∈ X.ex ∨ X.s₀.heap.objs.size ≤ it) (h2 : ∀ x c, X.env.cells.lookup x = some c → c ≠ it) (h3 : ∀ p ∈ X.pn ++ pins, p.1 ≠ it) : Inv X pins σ H { s with heap := h', toks := t' } := by
  have nit : ∀ b u, H b = some u → b ≠ it := fun b u e z => by rw [z, hn] at e; cases e
  refine I.step (g' := s.gens) (d' := s.drawn) (ch := [it]) (fun b hb => ?_) (fun b o _ _ hc e _ => k b o (fun z => hc (by simp [z])) e) (fun b o _ _ hc e _ => ⟨o.slots, k b o (fun z => hc (by simp [z])) e⟩) (fun _ _ _ _ n => n)
    (fun b o hc e => ⟨o, k b o (fun z => hc (by simp [z])) e⟩) (fun _ _ e => e) (fun _ _ _ e => e) (fun b ps e => ⟨#[], by rw [e]; simp⟩) (fun m hm => ?_) (fun b u e => ?_) I.bare
  · have e : b = it := by simpa using hb
    subst e
    exact ⟨h1, hL, h2, h3⟩
  · obtain ⟨o, es, ep, ho, r⟩ := hm
    exact ⟨o, es, ep, k _ o (Ne.symm hL) ho, r⟩
  · refine (I.hok b u e).stay (fun c v hc q => k c v ?_ q) (fun _ q => q) fun _ _ q => q
    rcases hc with z | z
    · rw [z]; exact nit b u e
    · exact nit c _ z
theorem Inv.tok (I : Inv X pins σ H s) (t : Nat) : Inv X pins σ H { s with toks := t } := I.un (h' := s.heap) (t' := t) Un.refl I.hok
theorem Inv.kept {t' : Nat} (I : Inv X pins σ H s) (k : ∀ b u, s.heap.get? b = some u → h'.get? b = some u) : Inv X pins σ H { s with heap := h', toks := t' } := I.un (Un.kept k) (I.hok.kept k)
theorem Inv.laid {a : Addr} {o : HO} {t' : Nat} (I : Inv X pins σ H s) (k : ∀ b u, s.heap.get? b = some u → h'.get? b = some u) (hp : s.heap.objs.size ≤ a) (new : ObjOk X.prog X.w (upd H a o) h' a o) :
    Inv X pins σ (upd H a o) { s with heap := h', toks := t' } := I.un (Un.laid k hp (I.hok.fresh hp)) (I.hok.laid k hp new)
theorem Inv.write {x e : Addr} {o : HO} {t' : Nat} (I : Inv X pins σ H s) (mu : Mut (H x)) (he : e = x ∨ H e = some (.own x)) (k : ∀ b u, b ≠ e → s.heap.get? b = some u → h'.get? b = some u) (heo : ∃ u, h'.get? e = some u)
    (new : ObjOk X.prog X.w (upd H x o) h' x o) : Inv X pins σ (upd H x o) { s with heap := h', toks := t' } := I.un (Un.write mu he k heo) (I.hok.write mu he k heo new)
theorem Inv.pins_of {pins' : List (Addr × Obj)} (I : Inv X pins σ H s) (h : ∀ p ∈ pins', s.heap.get? p.1 = some p.2 ∧ H p.1 = none ∧ p.1 ≠ X.env.locals ∧ p.1 ∉ X.fs ∧ ∀ v, p.2.data ≠ .cell v) : Inv X pins' σ H s :=
  ⟨I.ok, I.os, I.bare, I.base, I.loc, I.cell, I.free, I.freeC, fun p hp => (List.mem_append.mp hp).elim (fun z => I.pin p (List.mem_append_left _ z)) (h p), I.hok, I.len⟩

theorem nodup_ix {N : List Str} (hN : N.Nodup) {i j : Nat} {x : Str} (a : N[i]? = some x) (b : N[j]? = some x) : i = j := by
  obtain ⟨h1, e1⟩ := List.getElem?_eq_some_iff.mp a
  obtain ⟨h2, e2⟩ := List.getElem?_eq_some_iff.mp b
  exact (List.getElem_inj hN).mp (e1.trans e2.symm)

theorem store_ok2 {M : Model} {A : Around} {E : Value → Shared → Prop} {i : Nat} {x : Str} {v : V} {u : Value} {Q : Unit → Shared → Prop} (I : Inv X pins σ H s) (hN : X.N.Nodup) (hi : X.N[i]? = some x) (hx : Loc X.env.scope x) (r : RelV v u)
    (h : ∀ s', Inv X pins (σ.set i (some v)) H s' → (∃ a, Heap.SameBut a s.heap s'.heap ∧ (a = X.env.locals ∨ X.env.cells.lookup x = some a)) → Q () s') (hf : X.fn x = true ∨ X.env.scope.names.lookup x = some .local := by first | exact .inl rfl | exact .inr rfl | assumption) : wpAny M A (storeName X.env x u) Q E s := by
  obtain ⟨m, hn, hl⟩ := id I.loc
  have hcls : (X.env.scope.kind == .class || (X.env.scope.kind == .module && X.env.locals != X.env.globals)) = false := by rw [I.ok.kind]; rfl
  have hiσ : i < σ.length := by rw [I.len]; exact (List.getElem?_eq_some_iff.mp hi).1
  have cne := I.cne
  have tracked : ∀ {a : Addr} {h' : Heap}, (∃ o, s.heap.get? a = some o ∧ H a = none) → Heap.SameBut a s.heap h' → HOk X.prog X.w H h' := fun {a h'} ha hs b ob e => by
    obtain ⟨_, _, hfree⟩ := ha
    refine (I.hok b ob e).stay (fun c w' hc q => (hs.2 c ?_).trans q) (fun _ q => q) fun _ _ q => q
    rintro rfl
    rcases hc with rfl | hc
    · rw [hfree] at e; cases e
    · rw [hfree] at hc; cases hc
  rcases hx with hk | hk
  · refine wpAny_storeName_local hk hn (fun h' hn' hs => ?_) hcls
    obtain ⟨oL, _, _, hoL, _⟩ := id hn
    refine h _ ⟨I.ok, I.os, I.bare, ⟨fun b o e n hb hx => ?_, fun b o e n hb hx => ?_, I.base.free, fun b o e hx => ?_, I.base.tups, I.base.frzs, I.base.tbls⟩, ⟨_, hn', fun j y v' e1 e2 e3 => ?_⟩, fun y c e => ?_, I.free, I.freeC, fun p hp => ?_, tracked ⟨oL, hoL, I.free⟩ hs, by simpa using I.len⟩ ⟨_, hs, .inl rfl⟩
    · exact (hs.2 b (Nat.ne_of_lt (Nat.lt_of_lt_of_le (Heap.lt_size e) I.ok.above))).trans (I.base.keep b o e n hb hx)
    · obtain ⟨sl, e1⟩ := I.base.slot b o e n hb hx
      exact ⟨sl, (hs.2 b (Nat.ne_of_lt (Nat.lt_of_lt_of_le (Heap.lt_size e) I.ok.above))).trans e1⟩
    · obtain ⟨o', e1⟩ := I.base.there b o e hx
      exact ⟨o', (hs.2 b (Nat.ne_of_lt (Nat.lt_of_lt_of_le (Heap.lt_size e) I.ok.above))).trans e1⟩
    · by_cases hj : j = i
      · subst hj
        rw [hi] at e1; cases e1
        rw [List.getElem?_set_self hiσ] at e2
        cases e2
        exact ⟨u, r, .inl ⟨hk, by simp⟩⟩
      · rw [List.getElem?_set_ne (Ne.symm hj)] at e2
        obtain ⟨u', r', q⟩ := hl j y v' e1 e2 e3
        refine ⟨u', r', ?_⟩
        rcases q with ⟨k, e⟩ | ⟨k, c, e, z⟩
        · refine .inl ⟨k, ?_⟩
          have : y ≠ x := fun e => hj (nodup_ix hN e1 (e ▸ hi))
          simp [this, e]
        · exact .inr ⟨k, c, e, z.sameBut hs (cne y c e)⟩
    · obtain ⟨w', z⟩ := I.cell y c e
      exact ⟨w', z.sameBut hs (cne y c e)⟩
    · obtain ⟨e, n, ne, nf, d⟩ := I.pin p hp
      exact ⟨(hs.2 p.1 ne).trans e, n, ne, nf, d⟩
  · have hfn : X.fn x = true := by
      rcases hf with z | z
      · exact z
      · rw [z] at hk; cases hk
    obtain ⟨c, hc⟩ := I.ok.has x (.inl hk)
    obtain ⟨w', z⟩ := I.cell x c hc
    refine wpAny_storeName_cell I.ok.kind hk hc z (fun h' hc' hs => ?_)
    obtain ⟨oc, hoc, hocd⟩ := id z
    refine h { s with heap := h' } ⟨I.ok, I.os, I.bare, ⟨fun b o e n hb hx => ?_, fun b o e n hb hx => ?_, I.base.free, fun b o e hx => ?_, I.base.tups, I.base.frzs, I.base.tbls⟩, ⟨m, hn.sameBut hs (Ne.symm (cne x c hc)), fun j y v' e1 e2 e3 => ?_⟩, fun y c' e => ?_, I.free, I.freeC, fun p hp => ?_, tracked ⟨oc, hoc, I.freeC x c hc⟩ hs, by simpa using I.len⟩ ⟨c, hs, .inr hc⟩
    · exact (hs.2 b (Nat.ne_of_lt (Nat.lt_of_lt_of_le (Heap.lt_size e) (I.ok.cab x c hfn hc)))).trans (I.base.keep b o e n hb hx)
    · obtain ⟨sl, e1⟩ := I.base.slot b o e n hb hx
      exact ⟨sl, (hs.2 b (Nat.ne_of_lt (Nat.lt_of_lt_of_le (Heap.lt_size e) (I.ok.cab x c hfn hc)))).trans e1⟩
    · obtain ⟨o', e1⟩ := I.base.there b o e hx
      exact ⟨o', (hs.2 b (Nat.ne_of_lt (Nat.lt_of_lt_of_le (Heap.lt_size e) (I.ok.cab x c hfn hc)))).trans e1⟩
    · by_cases hj : j = i
      · subst hj
        rw [hi] at e1; cases e1
        rw [List.getElem?_set_self hiσ] at e2
        cases e2
        exact ⟨u, r, .inr ⟨.inl hk, c, hc, hc'⟩⟩
      · rw [List.getElem?_set_ne (Ne.symm hj)] at e2
        obtain ⟨u', r', q⟩ := hl j y v' e1 e2 e3
        refine ⟨u', r', ?_⟩
        rcases q with q | ⟨k, c', e, z'⟩
        · exact .inl q
        · refine .inr ⟨k, c', e, z'.sameBut hs ?_⟩
          rintro rfl
          exact hj (nodup_ix hN e1 (I.ok.inj _ _ _ e hc ▸ hi))
    · by_cases hcc : c' = c
      · subst hcc; exact ⟨_, hc'⟩
      · obtain ⟨w2, z2⟩ := I.cell y c' e
        exact ⟨w2, z2.sameBut hs hcc⟩
    · obtain ⟨e, n, ne, nf, d⟩ := I.pin p hp
      refine ⟨(hs.2 p.1 ?_).trans e, n, ne, nf, d⟩
      intro q
      rw [q, hoc] at e
      have q' : oc = p.2 := Option.some.inj e
      exact d w' (by rw [← q']; exact hocd)
theorem store_ok {M : Model} {A : Around} {E : Value → Shared → Prop} {i : Nat} {x : Str} {v : V} {u : Value} {Q : Unit → Shared → Prop} (I : Inv X pins σ H s) (hN : X.N.Nodup) (hi : X.N[i]? = some x) (hx : Loc X.env.scope x) (r : RelV v u)
    (h : ∀ s', Inv X pins (σ.set i (some v)) H s' → Q () s') (hf : X.fn x = true ∨ X.env.scope.names.lookup x = some .local := by first | exact .inl rfl | exact .inr rfl | assumption) : wpAny M A (storeName X.env x u) Q E s :=
  store_ok2 I hN hi hx r (fun s' I' _ => h s' I') hf
theorem Inv.call' {s' : Shared} {ch : List Addr} (I : Inv X pins σ H s) (ho : s'.os = s.os) (u : Un (frs X.stack) ch H H' s.heap s'.heap) (hok : HOk X.prog X.w H' s'.heap) (hg : AllBare s'.gens)
    (hch : ∀ b ∈ ch, (b ∈ X.ex ∨ X.s₀.heap.objs.size ≤ b) ∧ b ≠ X.env.locals ∧ (∀ x c, X.env.cells.lookup x = some c → c ≠ b) ∧ ∀ p ∈ X.pn ++ pins, p.1 ≠ b) : Inv X pins σ H' s' := by
  obtain ⟨h', g', d', t', o'⟩ := s'
  have e : o' = s.os := ho
  subst e
  exact I.call (g' := g') (t' := t') (d' := d') u hok hg hch
end

abbrev XK := Value → Option Addr → Hp → Prop
abbrev St := List (Option V)
abbrev VK := V → Hp → Prop
abbrev TE := St → Hp → VK → Prop
abbrev TT := St → Hp → (Bool → Hp → Prop) → Prop
abbrev TA := St → Hp → (List V → Hp → Prop) → Prop
structure Ends where
  nx : St → Hp → Prop
  rt : VK
  bk : St → Hp → Prop := fun _ _ => False
  ct : St → Hp → Prop := fun _ _ => False
abbrev TS := Ends → St → Hp → Prop

def EP (X : Cx) (pins : List (Addr × Obj)) (σ : St) (Q : VK) (u : Value) (s' : Shared) : Prop := ∃ v H', Inv X pins σ H' s' ∧ RelV v u ∧ Q v H'
def TP (X : Cx) (pins : List (Addr × Obj)) (σ : St) (Q : Bool → Hp → Prop) (b : Bool) (s' : Shared) : Prop := ∃ H', Inv X pins σ H' s' ∧ Q b H'
def AP (X : Cx) (pins : List (Addr × Obj)) (σ : St) (Q : List V → Hp → Prop) (us : List Value) (s' : Shared) : Prop := ∃ vs H', Inv X pins σ H' s' ∧ Vals vs us ∧ Q vs H'
def SP (X : Cx) (pins : List (Addr × Obj)) (D : Ends) (f : Flow) (s' : Shared) : Prop :=
  match f with
  | .next => ∃ σ' H', Inv X pins σ' H' s' ∧ D.nx σ' H'
  | .brk => ∃ σ' H', Inv X pins σ' H' s' ∧ D.bk σ' H'
  | .cont => ∃ σ' H', Inv X pins σ' H' s' ∧ D.ct σ' H'
  | .ret u => ∃ v σ' H', Inv X pins σ' H' s' ∧ RelV v u ∧ D.rt v H'

def PE (X : Cx) (e : Expr) (t : TE) : Prop :=
  ∀ (pins : List (Addr × Obj)) (s : Shared) (σ : St) (H : Hp) (Q : VK), Inv X pins σ H s → t σ H Q → wpAny (model X.prog X.w) X.A (eval e X.env) (EP X pins σ Q) X.xe s
def PT (X : Cx) (e : Expr) (t : TT) : Prop :=
  ∀ (pins : List (Addr × Obj)) (s : Shared) (σ : St) (H : Hp) (Q : Bool → Hp → Prop), Inv X pins σ H s → t σ H Q → wpAny (model X.prog X.w) X.A (isTrue e X.env (eval e X.env)) (TP X pins σ Q) X.xe s
def PW (X : Cx) (e : Expr) (t : TT) : Prop :=
  ∀ (whole : Sem Value) (pins : List (Addr × Obj)) (s : Shared) (σ : St) (H : Hp) (Q : Bool → Hp → Prop), Inv X pins σ H s → t σ H Q → wpAny (model X.prog X.w) X.A (isTrue e X.env whole) (TP X pins σ Q) X.xe s
theorem PW.pt {X : Cx} {e : Expr} {t : TT} (h : PW X e t) : PT X e t := h _
def PA (X : Cx) (es : List Expr) (t : TA) : Prop :=
  ∀ (pos : Pos) (pins : List (Addr × Obj)) (s : Shared) (σ : St) (H : Hp) (Q : List V → Hp → Prop), Inv X pins σ H s → t σ H Q → wpAny (model X.prog X.w) X.A (spliced (backTo pos (starEach es X.env))) (AP X pins σ Q) X.xe s
def PS (X : Cx) (st : Stmt) (t : TS) : Prop :=
  ∀ (pins : List (Addr × Obj)) (s : Shared) (σ : St) (H : Hp) (D : Ends), Inv X pins σ H s → t D σ H → wpAny (model X.prog X.w) X.A (exec st X.env) (SP X pins D) X.xe s
def PSs (X : Cx) (st : List Stmt) (t : TS) : Prop :=
  ∀ (pins : List (Addr × Obj)) (s : Shared) (σ : St) (H : Hp) (D : Ends), Inv X pins σ H s → t D σ H → wpAny (model X.prog X.w) X.A (execs st X.env) (SP X pins D) X.xe s
theorem thn {α : Type} {t : Sem α} {Q Q' : α → Shared → Prop} {M : Model} {A : Around} {E : Value → Shared → Prop} {s : Shared} (h : wpAny M A t Q E s) (hQ : ∀ a s, Q a s → Q' a s) : wpAny M A t Q' E s := wpAny_mono h hQ fun _ _ x => x
end L2

namespace L2
open PySem PySem.Spec PyProof.Rows
section
variable {X : Cx}

def tVar (i : Nat) : TE := fun σ H Q => ∃ v, σ[i]? = some (some v) ∧ Q v H
def tC (v : V) : TE := fun _ H Q => Q v H
theorem pe_var {i : Nat} {x : Str} {pos : Pos} (hN : X.N[i]? = some x) (hv : Vis X.env.scope x) (hd : (x == ("__debug__" : Str)) = false := by decide) (hcd : (x == ("__classdict__" : Str)) = false := by decide) : PE X (.Name x pos) (tVar i) := by
  intro pins s σ H Q I h
  obtain ⟨v, e, h⟩ := h
  obtain ⟨m, hn, hl⟩ := I.loc
  obtain ⟨u, r, l⟩ := hl i x v hN e hv
  have fin : EP X pins σ Q u s := ⟨v, H, I, r, h⟩
  rcases l with ⟨hk, hm⟩ | ⟨hk, c, hc, hcell⟩
  · exact wpAny_Name (wpAny_loadName_local I.ok.kind hk hn hm fin) hd
  · rcases hk with hk | hk
    · exact wpAny_Name (wpAny_loadName_cell I.ok.kind hk hc hcell fin) hd
    · exact wpAny_Name (wpAny_loadName_free I.ok.kind hk hc hcell fin hcd) hd
theorem pe_int {i j pos} : PE X (.Constant (.int i) j pos) (tC (.int i)) := fun _ _ _ H _ I h => wpAny_Constant_int ⟨.int i, H, I.tok _, ⟨_, rfl⟩, h⟩
theorem pe_bl {b j pos} : PE X (.Constant (.bool b) j pos) (tC (.bl b)) := fun _ _ _ H _ I h => Constant_bool ⟨.bl b, H, I, rfl, h⟩
theorem pe_non {j pos} : PE X (.Constant .none j pos) (tC .non) := fun _ _ _ H _ I h => Constant_none ⟨.non, H, I, rfl, h⟩
theorem pe_str {x j pos} : PE X (.Constant (.str x) j pos) (tC (.str x)) := fun _ _ _ H _ I h => Calls.Constant_str ⟨.str x, H, I.tok _, ⟨_, rfl⟩, h⟩

def Gl (X : Cx) (x : Str) : Prop := X.env.kindOf x = some .globalImplicit
theorem ld_glob {E : Value → Shared → Prop} {pins : List (Addr × Obj)} {s : Shared} {σ : St} {H : Hp} {x : Str} {u : Value} {pos : Pos} {Q : Value → Shared → Prop} (I : Inv X pins σ H s) (hg : Gl X x) (hm : X.mg x = some u) (h : Q u s)
    (hd : (x == ("__debug__" : Str)) = false := by decide) : wpAny (model X.prog X.w) X.A (eval (.Name x pos) X.env) Q E s :=
  Calls.Name_function_global I.ok.kind hg (Calls.loadGlobal_global (by rw [I.ok.glob]; exact I.mod.glob.keeps I.bk) hm h) hd
theorem ld_blt {E : Value → Shared → Prop} {pins : List (Addr × Obj)} {s : Shared} {σ : St} {H : Hp} {x : Str} {u : Value} {pos : Pos} {Q : Value → Shared → Prop} (I : Inv X pins σ H s) (hg : Gl X x) (hm : X.mg x = none) (hv : bootBuiltins x = some u) (h : Q u s)
    (hn : x ≠ "__name__" := by decide) (hd : (x == ("__debug__" : Str)) = false := by decide) : wpAny (model X.prog X.w) X.A (eval (.Name x pos) X.env) Q E s := by
  obtain ⟨mb, h1, h2⟩ := I.mod.blt
  exact Calls.Name_function_global I.ok.kind hg (Calls.loadGlobal_builtin (by rw [I.ok.glob]; exact I.mod.glob.keeps I.bk) hm (by rw [I.ok.blt]; exact h1.keeps I.bk) ((h2 x hn).trans hv) h) hd
theorem pe_bltn {x : Str} {v : V} {u : Value} {pos : Pos} (hg : Gl X x) (hm : X.mg x = none) (hv : bootBuiltins x = some u) (r : RelV v u) (hn : x ≠ "__name__" := by decide) (hd : (x == ("__debug__" : Str)) = false := by decide) : PE X (.Name x pos) (tC v) :=
  fun _ _ _ H _ I h => ld_blt I hg hm hv ⟨v, H, I, r, h⟩ hn hd

variable {a b : Expr} {ta tb : TE} {pos : Pos}
variable {tA tB' : TT} {rest : List Expr}
def tAnd (t u : TT) : TT := fun σ H Q => t σ H fun c H1 => if c = true then u σ H1 Q else Q false H1
def tOr (t u : TT) : TT := fun σ H Q => t σ H fun c H1 => if c = true then Q true H1 else u σ H1 Q
theorem pw_and1 (ha : PT X a tA) : PW X (.BoolOp .And [a] pos) tA := by
  intro wh pins s σ H Q I h
  refine isTrue_and (thn (ha pins s σ H Q I h) fun c s1 e => ?_)
  cases c with
  | true => exact isTrue_and_nil e
  | false => exact e
theorem pw_or1 (ha : PT X a tA) : PW X (.BoolOp .Or [a] pos) tA := by
  intro wh pins s σ H Q I h
  refine isTrue_or (thn (ha pins s σ H Q I h) fun c s1 e => ?_)
  cases c with
  | false => exact isTrue_or_nil e
  | true => exact e
theorem pw_and (ha : PT X a tA) (hb : PW X (.BoolOp .And (b :: rest) pos) tB') : PW X (.BoolOp .And (a :: b :: rest) pos) (tAnd tA tB') := by
  intro wh pins s σ H Q I h
  refine isTrue_and (thn (ha pins s σ H _ I h) fun c s1 ⟨H1, I1, q1⟩ => ?_)
  cases c with
  | true => exact hb wh pins s1 σ H1 Q I1 q1
  | false => exact ⟨H1, I1, q1⟩
theorem pw_or (ha : PT X a tA) (hb : PW X (.BoolOp .Or (b :: rest) pos) tB') : PW X (.BoolOp .Or (a :: b :: rest) pos) (tOr tA tB') := by
  intro wh pins s σ H Q I h
  refine isTrue_or (thn (ha pins s σ H _ I h) fun c s1 ⟨H1, I1, q1⟩ => ?_)
  cases c with
  | true => exact ⟨H1, I1, q1⟩
  | false => exact hb wh pins s1 σ H1 Q I1 q1
def tAndV (ta tb : TE) : TE := fun σ H Q => ta σ H fun x H1 => ∃ c, x = .bl c ∧ if c = true then tb σ H1 Q else Q (.bl false) H1
theorem pe_one {op} {t : TE} (h : PE X a t) : PE X (.BoolOp op [a] pos) t := fun pins s σ H Q I hw => BoolOp_one (h pins s σ H Q I hw)
theorem pe_and (ha : PE X a ta) (hb : PE X (.BoolOp .And (b :: rest) pos) tb) : PE X (.BoolOp .And (a :: b :: rest) pos) (tAndV ta tb) := by
  intro pins s σ H Q I h
  refine BoolOp_and (thn (ha pins s σ H _ I h) fun v s1 ⟨x, H1, I1, r1, q1⟩ => ?_)
  obtain ⟨c, rfl, q1⟩ := q1
  cases r1
  refine wpAny_truthy_bool ?_
  cases c with
  | true => exact hb pins s1 σ H1 Q I1 q1
  | false => exact ⟨.bl false, H1, I1, rfl, q1⟩
def tIf (t : TT) (ta tb : TE) : TE := fun σ H Q => t σ H fun c H1 => if c = true then ta σ H1 Q else tb σ H1 Q
theorem pe_ifExp {c : Expr} (hc : PT X c tA) (ha : PE X a ta) (hb : PE X b tb) : PE X (.IfExp c a b pos) (tIf tA ta tb) := by
  intro pins s σ H Q I h
  refine wpAny_IfExp (thn (hc pins s σ H _ I h) fun d s1 ⟨H1, I1, q1⟩ => ?_)
  cases d with
  | true => exact ha pins s1 σ H1 Q I1 q1
  | false => exact hb pins s1 σ H1 Q I1 q1
end
end L2

namespace L2
open PySem PySem.Spec PyProof.Rows

def SqL (K : PySem.W.Frag) (H : Hp) (a : Addr) (xs : List V) : Prop :=
  Rd H a (.lst xs) ∨
    ∃ (o : Obj) (its : Array Value) (n : Nat), K.lookup a = some o ∧ o.cls = .type "list" ∧ o.dict = none ∧ o.data = .seq its n ∧ its.size ≤ sizeLine ∧ Vals xs its.toList
def SqT (K : PySem.W.Frag) (H : Hp) (a : Addr) (xs : List V) : Prop :=
  Rd H a (.tup xs) ∨
    ∃ (o : Obj) (its : Array Value) (n : Nat), K.lookup a = some o ∧ o.cls = .type "tuple" ∧ o.data = .seq its n ∧ its.size ≤ sizeLine ∧ Vals xs its.toList
def absV : Value → Option V
  | .none => some .non
  | .bool b => some (.bl b)
  | .int i _ => some (.int i)
  | .str x _ => some (.str x)
  | .bytes b _ => some (.byt b)
  | .float b _ => some (.flt b)
  | .ref a => some (.ref a)
  | .type n => some (.ty n)
  | _ => none
theorem RelV.abs {x : V} {u : Value} (r : RelV x u) : absV u = some x := by
  cases x with
  | non => cases r; rfl
  | bl _ => cases r; rfl
  | int _ => obtain ⟨t, rfl⟩ := r; rfl
  | str _ => obtain ⟨t, rfl⟩ := r; rfl
  | byt _ => obtain ⟨t, rfl⟩ := r; rfl
  | flt _ => obtain ⟨t, rfl⟩ := r; rfl
  | ref _ => cases r; rfl
  | ty _ => cases r; rfl
theorem RelV.inj {x y : V} {u : Value} (r : RelV x u) (q : RelV y u) : x = y := Option.some.inj (r.abs.symm.trans q.abs)
theorem Vals.inj : ∀ {xs ys : List V} {us : List Value}, Vals xs us → Vals ys us → xs = ys
  | _, _, _, .nil, .nil => rfl
  | _, _, _, .cons r t, .cons r' t' => by rw [r.inj r', Vals.inj t t']
section
variable {X : Cx} {pins : List (Addr × Obj)} {σ : St} {H : Hp} {s : Shared} {a : Addr} {xs ys : List V}
theorem SqL.of {K : PySem.W.Frag} (h : H a = some (.lst xs)) : SqL K H a xs := .inl (.inl h)
theorem SqT.of {K : PySem.W.Frag} (h : H a = some (.tup xs)) : SqT K H a xs := .inl (.inl h)
theorem Inv.list (I : Inv X pins σ H s) (h : SqL X.K H a xs) : ∃ its : List Value, Vals xs its ∧ PlainL s.heap a its.toArray ∧ xs.length ≤ sizeLine := by
  rcases h with h | ⟨o, its, n, hk, hc, hd, hs, hz, r⟩
  · obtain ⟨z, its, n, r, e⟩ := h.ok I.hok
    exact ⟨its, r, ⟨_, n, e, rfl, rfl, rfl⟩, z⟩
  · refine ⟨its.toList, r, ⟨o, n, I.kIn a o hk, hc, hd, by simpa using hs⟩, ?_⟩
    have e := r.length
    simp only [Array.length_toList] at e
    omega
theorem Inv.tuple (I : Inv X pins σ H s) (h : SqT X.K H a xs) : ∃ its : List Value, Vals xs its ∧ IsTup s.heap a its.toArray ∧ xs.length ≤ sizeLine := by
  rcases h with h | ⟨o, its, n, hk, hc, hs, hz, r⟩
  · obtain ⟨z, its, r, p⟩ := h.ok I.hok
    exact ⟨its, r, p, z⟩
  · refine ⟨its.toList, r, ⟨o, I.kIn a o hk, hc, n, by simpa using hs⟩, ?_⟩
    have e := r.length
    simp only [Array.length_toList] at e
    omega
theorem Inv.list_inj (I : Inv X pins σ H s) (h : SqL X.K H a xs) (h' : SqL X.K H a ys) : xs = ys := by
  obtain ⟨its, r, ⟨o, n, e, _, _, d⟩, _⟩ := I.list h
  obtain ⟨its', r', ⟨o', n', e', _, _, d'⟩, _⟩ := I.list h'
  rw [e] at e'; cases e'
  rw [d] at d'
  injection d' with d1 _
  have : its = its' := by simpa using congrArg Array.toList d1
  subst this
  exact r.inj r'
theorem Inv.tuple_inj (I : Inv X pins σ H s) (h : SqT X.K H a xs) (h' : SqT X.K H a ys) : xs = ys := by
  obtain ⟨its, r, ⟨o, e, _, n, d⟩, _⟩ := I.tuple h
  obtain ⟨its', r', ⟨o', e', _, n', d'⟩, _⟩ := I.tuple h'
  rw [e] at e'; cases e'
  rw [d] at d'
  injection d' with d1 _
  have : its = its' := by simpa using congrArg Array.toList d1
  subst this
  exact r.inj r'
end

abbrev Cx.wish (X : Cx) (E : Value → Shared → Prop) : Cx := { X with xe := E }
abbrev Cx.nox (X : Cx) : Cx := X.wish fun _ _ => False
theorem Cx.Ok.wish {X : Cx} (ok : X.Ok) (E : Value → Shared → Prop) : (X.wish E).Ok :=
  ⟨ok.mod, ok.kind, ok.glob, ok.blt, ok.above, ok.inj, ok.has, ok.cab, ok.hd, ok.frames, ok.stk, ok.exf, ok.bs, ok.bsz, ok.noex, ok.exfs, ok.funs, ok.frf⟩
theorem Cx.Ok.unwish {X : Cx} {E : Value → Shared → Prop} (ok : (X.wish E).Ok) : X.Ok :=
  ⟨ok.mod, ok.kind, ok.glob, ok.blt, ok.above, ok.inj, ok.has, ok.cab, ok.hd, ok.frames, ok.stk, ok.exf, ok.bs, ok.bsz, ok.noex, ok.exfs, ok.funs, ok.frf⟩
section
variable {X : Cx} {pins : List (Addr × Obj)} {σ : St} {H : Hp} {s : Shared} {E : Value → Shared → Prop}
theorem Inv.wish (I : Inv X pins σ H s) (E : Value → Shared → Prop) : Inv (X.wish E) pins σ H s := ⟨I.ok.wish E, I.os, I.bare, I.base, I.loc, I.cell, I.free, I.freeC, I.pin, I.hok, I.len⟩
theorem Inv.unwish (I : Inv (X.wish E) pins σ H s) : Inv X pins σ H s := ⟨I.ok.unwish, I.os, I.bare, I.base, I.loc, I.cell, I.free, I.freeC, I.pin, I.hok, I.len⟩
theorem SP.unwish {D : Ends} {f : Flow} {s' : Shared} (h : SP (X.wish E) pins D f s') : SP X pins D f s' := by
  cases f with
  | next => obtain ⟨σ', H', I, q⟩ := h; exact ⟨σ', H', I.unwish, q⟩
  | brk => obtain ⟨σ', H', I, q⟩ := h; exact ⟨σ', H', I.unwish, q⟩
  | cont => obtain ⟨σ', H', I, q⟩ := h; exact ⟨σ', H', I.unwish, q⟩
  | ret u => obtain ⟨v, σ', H', I, r, q⟩ := h; exact ⟨v, σ', H', I.unwish, r, q⟩
theorem PE.nox {e : Expr} {t : TE} (h : PE X.nox e t) : PE X e t := fun pins s σ H Q I hw =>
  wpAny_mono (h pins s σ H Q (I.wish _) hw) (fun _ _ ⟨v, H', I', r, q⟩ => ⟨v, H', I'.unwish, r, q⟩) fun _ _ z => False.elim z
theorem PT.nox {e : Expr} {t : TT} (h : PT X.nox e t) : PT X e t := fun pins s σ H Q I hw =>
  wpAny_mono (h pins s σ H Q (I.wish _) hw) (fun _ _ ⟨H', I', q⟩ => ⟨H', I'.unwish, q⟩) fun _ _ z => False.elim z
theorem PSs.nox {st : List Stmt} {t : TS} (h : PSs X.nox st t) : PSs X st t := fun pins s σ H D I hw =>
  wpAny_mono (h pins s σ H D (I.wish _) hw) (fun _ _ q => q.unwish) fun _ _ z => False.elim z
end

section
variable {X : Cx} {st : Stmt} {rest : List Stmt} {t u : TS} {e : Expr} {te : TE} {pos : Pos}
def tNext : TS := fun D σ H => D.nx σ H
def tSeq (t u : TS) : TS := fun D σ H => t { D with nx := u D } σ H
theorem pss_nil : PSs X [] tNext := fun _ _ σ H _ I h => wpAny_execs_nil ⟨σ, H, I, h⟩
theorem pss_cons (h1 : PS X st t) (h2 : PSs X rest u) : PSs X (st :: rest) (tSeq t u) := by
  intro pins s σ H D I h
  refine wpAny_execs_cons (thn (h1 pins s σ H { D with nx := u D } I h) fun f s1 q => ?_)
  cases f with
  | next =>
    obtain ⟨σ', H', I', q⟩ := q
    exact h2 pins s1 σ' H' D I' q
  | ret v => exact q
  | brk => exact q
  | cont => exact q
theorem pss_one (h1 : PS X st t) : PSs X [st] t := by
  intro pins s σ H D I h
  refine wpAny_execs_cons (thn (h1 pins s σ H D I h) fun f s1 q => ?_)
  cases f with
  | next => exact wpAny_execs_nil q
  | ret v => exact q
  | brk => exact q
  | cont => exact q
theorem Inv.quiet {pins : List (Addr × Obj)} {σ : St} {H : Hp} {s : Shared} (I : Inv X pins σ H s) : interactive X.env = false := by simp [interactive, I.ok.kind]
def tDrop (te : TE) : TS := fun D σ H => te σ H fun _ H1 => D.nx σ H1
theorem ps_expr (he : PE X e te) (hs : swapsWith e none pos.line X.env = pure false := by rfl) : PS X (.Expr e pos) (tDrop te) := by
  intro pins s σ H D I h
  exact wpAny_Expr_any (thn (he pins s σ H _ I h) fun v s1 ⟨x, H1, I1, r1, q1⟩ => ⟨σ, H1, I1, q1⟩) I.quiet hs
def tRet (te : TE) : TS := fun D σ H => te σ H D.rt
theorem ps_ret (he : PE X e te) : PS X (.Return (some e) pos) (tRet te) := by
  intro pins s σ H D I h
  exact wpAny_Return_some (thn (he pins s σ H _ I h) fun v s1 ⟨x, H1, I1, r1, q1⟩ => ⟨x, σ, H1, I1, r1, q1⟩)
def tIfS (c : TT) (t u : TS) : TS := fun D σ H => c σ H fun b H1 => if b = true then t D σ H1 else u D σ H1
theorem ps_if {c : Expr} {a b : List Stmt} {tc : TT} (hc : PT X c tc) (ha : PSs X a t) (hb : PSs X b u) : PS X (.If c a b pos) (tIfS tc t u) := by
  intro pins s σ H D I h
  refine wpAny_If (thn (hc pins s σ H _ I h) fun d s1 ⟨H1, I1, q1⟩ => ?_)
  cases d with
  | true => exact ha pins s1 σ H1 D I1 q1
  | false => exact hb pins s1 σ H1 D I1 q1
end

abbrev TG := V → St → Hp → (St → Hp → Prop) → Prop
abbrev TGs := List V → St → Hp → (St → Hp → Prop) → Prop
def PG (X : Cx) (target : Expr) (t : TG) : Prop :=
  ∀ (pins : List (Addr × Obj)) (s : Shared) (σ : St) (H : Hp) (v : V) (u : Value) (Q : St → Hp → Prop), Inv X pins σ H s → RelV v u → t v σ H Q →
    wpAny (model X.prog X.w) X.A (assign target X.env u) (fun _ s' => ∃ σ' H', Inv X pins σ' H' s' ∧ Q σ' H') X.xe s
def PGs (X : Cx) (ts : List Expr) (t : TGs) : Prop :=
  ∀ (pins : List (Addr × Obj)) (s : Shared) (σ : St) (H : Hp) (vs : List V) (us : List Value) (Q : St → Hp → Prop), Inv X pins σ H s → Vals vs us → t vs σ H Q →
    wpAny (model X.prog X.w) X.A (assignInOrder ((assignEach ts X.env).map (·.2)) us) (fun _ s' => ∃ σ' H', Inv X pins σ' H' s' ∧ Q σ' H') X.xe s
abbrev TSet := V → V → V → Hp → (Hp → Prop) → Prop
def PSet (X : Cx) (t : TSet) : Prop :=
  ∀ (pins : List (Addr × Obj)) (s : Shared) (σ : St) (H : Hp) (o i v : V) (ov iv u : Value) (Q : Hp → Prop), Inv X pins σ H s → RelV o ov → RelV i iv → RelV v u → t o i v H Q →
    wpAny (model X.prog X.w) X.A (setItem ov iv u) (fun _ s' => ∃ H', Inv X pins σ H' s' ∧ Q H') X.xe s
section
variable {X : Cx} {pos : Pos}
def gName (i : Nat) : TG := fun v σ H Q => Q (σ.set i (some v)) H
theorem pg_name {i : Nat} {x : Str} (hN : X.N.Nodup) (hi : X.N[i]? = some x) (hx : Loc X.env.scope x) (hf : X.fn x = true ∨ X.env.scope.names.lookup x = some .local := by first | exact .inl rfl | exact .inr rfl | assumption) : PG X (.Name x pos) (gName i) := by
  intro pins s σ H v u Q I r h
  exact wpAny_assign_Name (store_ok I hN hi hx r (fun s' I' => ⟨_, H, I', h⟩) hf)
def gNil : TGs := fun vs σ H Q => vs = [] ∧ Q σ H
def gCons (t : TG) (u : TGs) : TGs := fun vs σ H Q => ∃ v r, vs = v :: r ∧ t v σ H fun σ' H' => u r σ' H' Q
theorem pgs_nil : PGs X [] gNil := by
  intro pins s σ H vs us Q I r h
  obtain ⟨e, h⟩ := h
  subst e
  cases r
  exact assignInOrder_nil ⟨σ, H, I, h⟩
theorem pgs_cons {e : Expr} {es : List Expr} {t : TG} {u : TGs} (h1 : PG X e t) (h2 : PGs X es u)
    (hs : (assignEach (e :: es) X.env).map (·.2) = assign e X.env :: (assignEach es X.env).map (·.2) := by rfl) : PGs X (e :: es) (gCons t u) := by
  intro pins s σ H vs us Q I r h
  obtain ⟨v, vr, e1, h⟩ := h
  subst e1
  cases r with
  | cons r rr =>
    rw [hs]
    refine assignInOrder_cons (thn (h1 pins s σ H _ _ _ I r h) fun _ s1 ⟨σ1, H1, I1, q1⟩ => ?_)
    exact h2 pins s1 σ1 H1 _ _ Q I1 rr q1
def gTup (K : PySem.W.Frag) (n : Nat) (t : TGs) : TG := fun v σ H Q => ∃ a xs, v = .ref a ∧ SqT K H a xs ∧ xs.length = n ∧ t xs σ H Q
theorem pg_tup {es : List Expr} {k : Nat} {t : TGs} {n : Nat} (hc : X.calm = true) (h : PGs X es t)
    (hn : (assignEach es X.env).length = n := by rfl) (hst : (assignEach es X.env).findIdx? (·.1) = none := by rfl) : PG X (.Tuple es k pos) (gTup X.K n t) := by
  intro pins s σ H v u Q I r hw
  obtain ⟨a, xs, e1, hq, hl, hw⟩ := hw
  subst e1
  cases r
  obtain ⟨its, rv, ht, hz⟩ := I.tuple hq
  refine assign_Tuple_tuple (I.ok.hd hc) ht (by simp [hn, ← hl, rv.length]) hst fun h' hx => ?_
  have I1 : Inv X pins σ H { s with heap := h' } := I.kept (t' := s.toks) fun b o e => hx b o (Nat.ne_of_lt (Heap.lt_size e)) e
  exact h pins _ σ H xs _ Q I1 (by simpa using rv) hw
def gSub (to ti : TE) (t : TSet) : TG := fun v σ H Q => to σ H fun o H1 => ti σ H1 fun i H2 => t o i v H2 fun H3 => Q σ H3
theorem pg_sub {o i : Expr} {to ti : TE} {t : TSet} (ho : PE X o to) (hi : PE X i ti) (hs : PSet X t)
    (ha : ∀ v, assign (.Subscript o i pos) X.env v = (do
      let ov ← holding [v] (eval o X.env)
      let iv ← holding [v, ov] (eval i X.env)
      standAt pos
      holding [v, ov, iv] (setItem ov iv v)
      release [v, ov, iv] []) := by intro _; rfl) : PG X (.Subscript o i pos) (gSub to ti t) := by
  intro pins s σ H v u Q I r h
  rw [ha]
  refine wpAny_bind (wpAny_holding (thn (ho pins s σ H _ I h) fun ov s1 ⟨x, H1, I1, r1, q1⟩ => ?_))
  refine wpAny_bind (wpAny_holding (thn (hi pins s1 σ H1 _ I1 q1) fun iv s2 ⟨y, H2, I2, r2, q2⟩ => ?_))
  refine wpAny_bind (wpAny_standAt (wpAny_bind (wpAny_holding (thn (hs pins s2 σ H2 x y v ov iv u _ I2 r1 r2 r q2) fun _ s3 ⟨H3, I3, q3⟩ => ?_))))
  exact wpAny_release ⟨σ, H3, I3, q3⟩
def tAsg (te : TE) (g : TG) : TS := fun D σ H => te σ H fun x H1 => g x σ H1 D.nx
theorem ps_asg {tg e : Expr} {te : TE} {g : TG} (he : PE X e te) (hg : PG X tg g) (hs : swapsWithSole [tg] e pos.line X.env = pure false := by rfl) (hw : swappedStores [tg] e X.env = pure none := by rfl)
    (h1 : (assignEach [tg] X.env).map (·.2) = [assign tg X.env] := by rfl) : PS X (.Assign [tg] e pos) (tAsg te g) := by
  intro pins s σ H D I h
  refine wpAny_Assign_stores (thn (he pins s σ H _ I h) fun v s1 ⟨x, H1, I1, r1, q1⟩ => ?_) hs hw
  rw [h1]
  exact thn (hg pins s1 σ H1 x v _ I1 r1 q1) fun _ s2 q => q
theorem ps_set {i : Nat} {x : Str} {e : Expr} {te : TE} {pos' : Pos} (hN : X.N.Nodup) (hi : X.N[i]? = some x) (hx : Loc X.env.scope x) (he : PE X e te) (hs : swapsWith e (some (.Name x pos')) pos.line X.env = pure false := by rfl) (hf : X.fn x = true ∨ X.env.scope.names.lookup x = some .local := by first | exact .inl rfl | exact .inr rfl | assumption) :
    PS X (.Assign [.Name x pos'] e pos) (tAsg te (gName i)) := by
  intro pins s σ H D I h
  refine wpAny_Assign_Name (thn (he pins s σ H _ I h) fun v s1 ⟨y, H1, I1, r1, q1⟩ => ?_) hs
  exact store_ok I1 hN hi hx r1 (fun s2 I2 => ⟨_, H1, I2, q1⟩) hf
end

section
variable {X : Cx} {pos : Pos}
def tWhile (c : TT) (tb : TS) : TS := fun D σ H => ∃ W : Nat → St → Hp → Prop, (∃ m, W m σ H) ∧ ∀ m σ H, W m σ H →
  c σ H fun b H1 => if b = true then ∃ N : St → Hp → Prop, (∀ σ' H', N σ' H' → ∃ m', m' < m ∧ W m' σ' H') ∧ tb { D with nx := N, ct := N, bk := D.nx } σ H1 else D.nx σ H1
theorem ps_while {c : Expr} {body : List Stmt} {tc : TT} {tb : TS} (hp : PassesOwn (model X.prog X.w) X.A X.env X.xe) (hc : PT X c tc) (hb : PSs X body tb) : PS X (.While c body [] pos) (tWhile tc tb) := by
  intro pins s σ H D I h
  obtain ⟨W, ⟨m0, w0⟩, turn⟩ := h
  refine wpAny_While (codeAny_whileLoop (fun n s' => ∃ σ' H', Inv X pins σ' H' s' ∧ W n σ' H') ?_ m0 ⟨σ, H, I, w0⟩)
  rintro n s1 ⟨σ1, H1, I1, w1⟩
  refine wpAny_passesOwn hp (thn (hc pins s1 σ1 H1 _ I1 (turn n σ1 H1 w1)) fun b s2 ⟨H2, I2, q2⟩ => ?_)
  cases b with
  | true =>
    obtain ⟨N, hN, q2⟩ := q2
    rw [if_pos rfl]
    refine wpAny_passesOwn hp (thn (hb pins s2 σ1 H2 _ I2 q2) fun f s3 q3 => ?_)
    cases f with
    | next =>
      obtain ⟨σ3, H3, I3, n3⟩ := q3
      obtain ⟨m', hm, w3⟩ := hN σ3 H3 n3
      exact ⟨m', hm, σ3, H3, I3, w3⟩
    | cont =>
      obtain ⟨σ3, H3, I3, n3⟩ := q3
      obtain ⟨m', hm, w3⟩ := hN σ3 H3 n3
      exact ⟨m', hm, σ3, H3, I3, w3⟩
    | brk => exact q3
    | ret v => exact q3
  | false =>
    rw [if_neg Bool.false_ne_true]
    exact wpAny_execs_nil ⟨σ1, H2, I2, q2⟩
end

structure It where
  go : Nat → Hp → Prop
  yld : Nat → Hp → V → Hp → Prop
  stop : Nat → Hp → Prop
def FpOk (X : Cx) (pins : List (Addr × Obj)) (H : Hp) (b : Addr) : Prop :=
  H b = none ∧ b ≠ X.env.locals ∧ b ∉ X.fs ∧ (b ∈ X.ex ∨ X.s₀.heap.objs.size ≤ b) ∧ (∀ x c, X.env.cells.lookup x = some c → c ≠ b) ∧ ∀ p ∈ X.pn ++ pins, p.1 ≠ b
theorem Inv.fpOk {X : Cx} {pins : List (Addr × Obj)} {σ : St} {H H' : Hp} {s : Shared} {b : Addr} (I : Inv X pins σ H s) (hb : s.heap.objs.size ≤ b) (hn : H' b = none) : FpOk X pins H' b := by
  refine ⟨hn, Nat.ne_of_gt (Nat.lt_of_lt_of_le I.lt hb), I.nofs hb, .inr (Nat.le_trans I.sz hb), fun x c e z => ?_, fun p hp z => ?_⟩
  · obtain ⟨v, q⟩ := I.cell x c e
    exact absurd (Nat.lt_of_lt_of_le q.lt (by rw [z]; exact hb)) (Nat.lt_irrefl _)
  · exact absurd (Nat.lt_of_lt_of_le (Heap.lt_size (I.pin p hp).1) (by rw [z]; exact hb)) (Nat.lt_irrefl _)
structure Turn (P : Program) (w : World) (K : PySem.W.Frag) (tg : Expr) (J : It) (fp : List Addr) (it : Addr) (tn : Nat → Heap → Prop) : Prop where
  mem : it ∈ fp
  obj : ∀ i h, tn i h → ∀ b ∈ fp, ∃ o, h.get? b = some o ∧ ∀ v, o.data ≠ .cell v
  keep : ∀ i h h', tn i h → (∀ b ∈ fp, ∀ o, h.get? b = some o → h'.get? b = some o) → tn i h'
  item : ∀ (X : Cx), X.prog = P → X.w = w → X.K = K → X.calm = true → ∀ (i : Nat) (pins : List (Addr × Obj)) (s : Shared) (σ : St) (H : Hp) (E : Value → Shared → Prop), Inv X pins σ H s → (∀ b ∈ fp, FpOk X pins H b) → tn i s.heap → J.go i H →
    wpAny (model P w) X.A (pyNext (.ref it)) (fun r s1 => ∃ u, r = some u ∧
      wpAny (model P w) X.A (letOwnedTupleGo tg (.ref it) u) (fun _ s2 => ∃ x H', Inv X pins σ H' s2 ∧ RelV x u ∧ J.yld i H x H' ∧ tn (i + 1) s2.heap ∧ ∀ b ∈ fp, H' b = none) E s1) E s
  done : ∀ (X : Cx), X.prog = P → X.w = w → X.K = K → X.calm = true → ∀ (i : Nat) (pins : List (Addr × Obj)) (s : Shared) (σ : St) (H : Hp) (E : Value → Shared → Prop), Inv X pins σ H s → (∀ b ∈ fp, FpOk X pins H b) → tn i s.heap → J.stop i H →
    wpAny (model P w) X.A (pyNext (.ref it)) (fun r s1 => r = none ∧ Inv X pins σ H s1) E s
  self : ∀ (A : Around) (i : Nat) (s : Shared) (Q : Value → Shared → Prop) (E : Value → Shared → Prop), tn i s.heap → Q (.ref it) s → wpAny (model P w) A (pyIter (.ref it)) Q E s
abbrev TI := St → Hp → (It → Hp → Prop) → Prop
def PIE (X : Cx) (pins : List (Addr × Obj)) (σ : St) (tg : Expr) (R : It → Hp → Prop) (itv : Value) (s2 : Shared) : Prop :=
  ∃ (it : Addr) (fp : List Addr) (tn : Nat → Heap → Prop) (J : It) (H' : Hp), itv = .ref it ∧ Inv X pins σ H' s2 ∧ Turn X.prog X.w X.K tg J fp it tn ∧ tn 0 s2.heap ∧ (∀ b ∈ fp, FpOk X pins H' b) ∧ R J H'
def PI (X : Cx) (tg iter : Expr) (wi : TI) : Prop :=
  ∀ (pins : List (Addr × Obj)) (s : Shared) (σ : St) (H : Hp) (R : It → Hp → Prop), Inv X pins σ H s → wi σ H R →
    wpAny (model X.prog X.w) X.A (eval iter X.env) (fun v s1 => wpAny (model X.prog X.w) X.A (pyIter v) (PIE X pins σ tg R) X.xe s1) X.xe s

theorem go_of {M : Model} {A : Around} {E : Value → Shared → Prop} {s : Shared} {tg : Expr} {it : Addr} {u : Value} {o : Obj} {n : String} {vs : Array Value} {Q : Unit → Shared → Prop} (ho : s.heap.get? it = some o) (hc : o.cls = .type n) (hd : o.data = .fields vs)
    (hn : ["enumerate", "zip", "dict_itemiterator", "dict_reverseitemiterator", "odict_iterator", "itertools.zip_longest", "itertools.pairwise"].contains n = false) (hQ : Q () s) : wpAny M A (letOwnedTupleGo tg (.ref it) u) Q E s := by
  unfold letOwnedTupleGo
  cases tg <;> first
    | exact wpAny_pure hQ
    | (cases u <;> first
        | exact wpAny_pure hQ
        | (refine wpAny_bind (wpAny_load ho ?_)
           rw [hc, hd]
           show wpAny M A (if (["enumerate", "zip", "dict_itemiterator", "dict_reverseitemiterator", "odict_iterator", "itertools.zip_longest", "itertools.pairwise"].contains n && vs[0]? == some (rawInt _)) = true then _ else _) Q E s
           rw [if_neg (by intro h; rw [hn, Bool.false_and] at h; cases h)]
           exact wpAny_pure hQ))

def Itl (K : PySem.W.Frag) (a : Addr) : It :=
  ⟨fun i H => ∃ xs x, SqL K H a xs ∧ xs[i]? = some x, fun i H x H' => H' = H ∧ ∀ xs, SqL K H a xs → xs[i]? = some x, fun i H => ∃ xs, SqL K H a xs ∧ xs.length ≤ i⟩
def Itt (K : PySem.W.Frag) (a : Addr) : It :=
  ⟨fun i H => ∃ xs x, SqT K H a xs ∧ xs[i]? = some x, fun i H x H' => H' = H ∧ ∀ xs, SqT K H a xs → xs[i]? = some x, fun i H => ∃ xs, SqT K H a xs ∧ xs.length ≤ i⟩
def Itr (lo : Int) (n : Nat) : It := ⟨fun i _ => i < n, fun i H x H' => H' = H ∧ x = .int (lo + i), fun i _ => n ≤ i⟩
theorem turn_list {P : Program} {w : World} {K : PySem.W.Frag} {tg : Expr} (a it : Addr) : Turn P w K tg (Itl K a) [it] it (fun i h => h.IsListIter it a i) where
  mem := by simp
  obj := fun i h st b hb => by
    have e : b = it := by simpa using hb
    subst e
    obtain ⟨o, e, c, d⟩ := st
    exact ⟨o, e, fun v z => by rw [d] at z; cases z⟩
  keep := fun i h h' st k => st.at fun o e => k it (by simp) o e
  item := by
    intro X hP hw hK hc i pins s σ H E I hf st hg
    subst hP hw hK
    obtain ⟨xs, x, hq, hx⟩ := hg
    obtain ⟨its, rv, p, hz⟩ := I.list hq
    obtain ⟨u, hu, ru⟩ := rv.get hx
    obtain ⟨f0, f1, f2, f3, f4, f5⟩ := hf it (by simp)
    refine wpAny_pyNext_list_item st p.isList (x := u) (by simpa using hu) fun h' st' sb => ?_
    have I1 : Inv X pins σ H { s with heap := h' } := I.turned (t' := s.toks) (fun b o hb e => (sb.2 b hb).trans e) f0 f1 f3 f4 f5
    obtain ⟨o, e, c, d⟩ := id st'
    exact ⟨u, rfl, go_of (s := { s with heap := h' }) e c d (by decide) ⟨x, H, I1, ru, ⟨rfl, fun ys hy => by rw [I.list_inj hy hq]; exact hx⟩, st', fun b hb => (hf b hb).1⟩⟩
  done := by
    intro X hP hw hK hc i pins s σ H E I hf st hg
    subst hP hw hK
    obtain ⟨xs, hq, hx⟩ := hg
    obtain ⟨its, rv, p, hz⟩ := I.list hq
    obtain ⟨f0, f1, f2, f3, f4, f5⟩ := hf it (by simp)
    have hl := rv.length
    exact wpAny_pyNext_list_end (I.ok.hd hc) st p.isList (by simp; omega) fun h' eb => ⟨rfl, I.turned (t' := s.toks) (fun b o hb e => eb b o hb e) f0 f1 f3 f4 f5⟩
  self := fun _ _ _ _ _ st h => wpAny_pyIter_listiter st h
theorem turn_tuple {P : Program} {w : World} {K : PySem.W.Frag} {tg : Expr} (a it : Addr) : Turn P w K tg (Itt K a) [it] it (fun i h => h.IsTupleIter it a i) where
  mem := by simp
  obj := fun i h st b hb => by
    have e : b = it := by simpa using hb
    subst e
    obtain ⟨o, e, c, d⟩ := st
    exact ⟨o, e, fun v z => by rw [d] at z; cases z⟩
  keep := fun i h h' st k => st.at fun o e => k it (by simp) o e
  item := by
    intro X hP hw hK hc i pins s σ H E I hf st hg
    subst hP hw hK
    obtain ⟨xs, x, hq, hx⟩ := hg
    obtain ⟨its, rv, p, hz⟩ := I.tuple hq
    obtain ⟨u, hu, ru⟩ := rv.get hx
    obtain ⟨f0, f1, f2, f3, f4, f5⟩ := hf it (by simp)
    refine wpAny_pyNext_tuple_item st (show s.heap.IsTuple a its.toArray from p) (x := u) (by simpa using hu) fun h' st' sb => ?_
    have I1 : Inv X pins σ H { s with heap := h' } := I.turned (t' := s.toks) (fun b o hb e => (sb.2 b hb).trans e) f0 f1 f3 f4 f5
    obtain ⟨o, e, c, d⟩ := id st'
    exact ⟨u, rfl, go_of (s := { s with heap := h' }) e c d (by decide) ⟨x, H, I1, ru, ⟨rfl, fun ys hy => by rw [I.tuple_inj hy hq]; exact hx⟩, st', fun b hb => (hf b hb).1⟩⟩
  done := by
    intro X hP hw hK hc i pins s σ H E I hf st hg
    subst hP hw hK
    obtain ⟨xs, hq, hx⟩ := hg
    obtain ⟨its, rv, p, hz⟩ := I.tuple hq
    obtain ⟨f0, f1, f2, f3, f4, f5⟩ := hf it (by simp)
    have hl := rv.length
    exact wpAny_pyNext_tuple_end (I.ok.hd hc) st (show s.heap.IsTuple a its.toArray from p) (by simp; omega) fun h' eb => ⟨rfl, I.turned (t' := s.toks) (fun b o hb e => eb b o hb e) f0 f1 f3 f4 f5⟩
  self := fun _ _ _ _ _ st h => wpAny_pyIter_tupleiter st h
theorem turn_range {P : Program} {w : World} {K : PySem.W.Frag} {tg : Expr} (it : Addr) (lo : Int) (n : Nat) : Turn P w K tg (Itr lo n) [it] it (fun i h => IsRangeIter h it (lo + (i : Nat) * 1) ((n : Int) - (i : Nat)) 1) where
  mem := by simp
  obj := fun i h st b hb => by
    have e : b = it := by simpa using hb
    subst e
    exact ⟨_, st, fun v z => by
      have z' : Data.fields _ = Data.cell v := z
      cases z'⟩
  keep := fun i h h' st k => k it (by simp) _ st
  item := by
    intro X hP hw hK hc i pins s σ H E I hf st hg
    subst hP hw hK
    obtain ⟨f0, f1, f2, f3, f4, f5⟩ := hf it (by simp)
    have W := Walks.range (prog := X.prog) (w := X.w) (I.ok.hd hc) it lo 1 n
    refine W.item i s _ _ hg st fun v h' tk hv st' kk => ?_
    obtain ⟨t, rfl⟩ := hv
    have I1 : Inv X pins σ H { s with heap := h', toks := tk } := I.turned (fun b o hb e => kk b o (by simpa using hb) e) f0 f1 f3 f4 f5
    refine ⟨_, rfl, go_of (s := { s with heap := h', toks := tk }) (n := "range_iterator") st' rfl rfl (by decide) ⟨.int (lo + i), H, I1, ⟨t, ?_⟩, ⟨rfl, rfl⟩, st', fun b hb => (hf b hb).1⟩⟩
    rw [Int.mul_one]
  done := by
    intro X hP hw hK hc i pins s σ H E I hf st hg
    subst hP hw hK
    obtain ⟨f0, f1, f2, f3, f4, f5⟩ := hf it (by simp)
    exact wpAny_pyNext_range_end (I.ok.hd hc) st (by have : n ≤ i := hg; omega) fun h' eb => ⟨rfl, I.turned (t' := s.toks) (fun b o hb e => eb b o hb e) f0 f1 f3 f4 f5⟩
  self := fun _ _ _ _ _ st h => wpAny_pyIter_rangeiter st h
end L2

namespace L2
open PySem PySem.Spec PyProof.Rows
section
variable {X : Cx} {tg : Expr}
theorem range_it {pins : List (Addr × Obj)} {σ : St} {H : Hp} {s : Shared} {R : It → Hp → Prop} {E : Value → Shared → Prop} {lo hi : Int} {t u v : Tok} {tk : Nat} (I : Inv X pins σ H s) (h1 : -(2 ^ 62) ≤ lo) (h2 : lo < 2 ^ 62) (h3 : -(2 ^ 62) ≤ hi) (h4 : hi < 2 ^ 62)
    (q : R (Itr lo (hi - lo).toNat) H) : wpAny (model X.prog X.w) X.A (pyIter (.ref s.heap.objs.size)) (PIE X pins σ tg R) E { s with heap := s.heap.push { cls := .type "range", data := .fields #[.int lo t, .int hi u, .int 1 v] }, toks := tk } := by
  refine wpAny_pyIter_range (IsRange.new ..) (small_one h1 h2 h3 h4) ?_
  have I1 : Inv X pins σ H { s with heap := s.heap.push { cls := .type "range", data := .fields #[.int lo t, .int hi u, .int 1 v] }, toks := tk } := I.kept fun b o e => Heap.get?_push_of_some _ e
  refine ⟨(s.heap.push { cls := .type "range", data := .fields #[.int lo t, .int hi u, .int 1 v] }).objs.size, [(s.heap.push { cls := .type "range", data := .fields #[.int lo t, .int hi u, .int 1 v] }).objs.size], _, _, H, rfl,
    I1.kept (t' := tk) fun b o e => Heap.get?_push_of_some _ e, turn_range _ lo (hi - lo).toNat, ?_, fun b hb => ?_, q⟩
  · have e1 : lo + ((0 : Nat) : Int) * 1 = lo := by simp
    have e2 : (((hi - lo).toNat : Nat) : Int) - ((0 : Nat) : Int) = Builtin.Range.rangeSize lo hi 1 := by rw [rangeSize_one]; split <;> omega
    show IsRangeIter _ _ (lo + ((0 : Nat) : Int) * 1) ((((hi - lo).toNat : Nat) : Int) - ((0 : Nat) : Int)) 1
    rw [e1, e2]
    exact Heap.get?_push_size _ rfl
  · have e : b = (s.heap.push { cls := .type "range", data := .fields #[.int lo t, .int hi u, .int 1 v] }).objs.size := by simpa using hb
    subst e
    exact I1.fpOk (Nat.le_refl _) (I1.hok.fresh (Nat.le_refl _))
def iRng1 (ta : TA) : TI := fun σ H R => ta σ H fun vs H1 => ∃ j : Int, vs = [.int j] ∧ -(2 ^ 62) ≤ j ∧ j < 2 ^ 62 ∧ R (Itr 0 j.toNat) H1
theorem pi_range1 {a : Expr} {ta : TA} {p pos : Pos} (hg : Gl X "range") (hm : X.mg "range" = none) (ha : PA X [a] ta) (hs : starEach [a] X.env = [(false, eval a X.env)] := by rfl) : PI X tg (.Call (.Name "range" p) [a] [] pos) (iRng1 ta) := by
  intro pins s σ H R I h
  refine Call_ (ld_blt I hg hm boot_range (PyProof.Rows.callWith_type1 (thn (ha pos pins s σ H _ I h) fun us s1 ⟨vs, H1, I1, r1, q1⟩ => ?_) hs rfl))
  obtain ⟨j, e, q1, q2, q⟩ := q1
  subst e
  cases r1 with
  | cons r rr =>
    cases rr
    obtain ⟨t, rfl⟩ := r
    exact call_range_1 (range_it I1 (by omega) (by omega) q1 q2 (by simpa using q))
def tFor (wi : TI) (g : TG) (tb : TS) : TS := fun D σ H => wi σ H fun J H1 => ∃ W : Nat → Nat → St → Hp → Prop, (∃ m, W 0 m σ H1) ∧ ∀ i m σ H, W i m σ H →
  (J.stop i H ∧ D.nx σ H) ∨ (J.go i H ∧ ∃ N : St → Hp → Prop, (∀ σ' H', N σ' H' → ∃ m', m' < m ∧ W (i + 1) m' σ' H') ∧ ∀ x H', J.yld i H x H' → g x σ H' fun σ2 H2 => tb { D with nx := N, ct := N, bk := D.nx } σ2 H2)
def pinsAt (fp : List Addr) (h : Heap) : List (Addr × Obj) := fp.filterMap fun b => (h.get? b).map fun o => (b, o)
theorem mem_pinsAt {fp : List Addr} {h : Heap} {b : Addr} {o : Obj} (hb : b ∈ fp) (e : h.get? b = some o) : (b, o) ∈ pinsAt fp h := List.mem_filterMap.mpr ⟨b, hb, by rw [e]; rfl⟩
theorem of_pinsAt {fp : List Addr} {h : Heap} {p : Addr × Obj} (hp : p ∈ pinsAt fp h) : p.1 ∈ fp ∧ h.get? p.1 = some p.2 := by
  obtain ⟨b, hb, e⟩ := List.mem_filterMap.mp hp
  cases q : h.get? b with
  | none => rw [q] at e; cases e
  | some o =>
    rw [q] at e
    have e' : (b, o) = p := Option.some.inj e
    subst e'
    exact ⟨hb, q⟩
theorem Inv.pinned {pins : List (Addr × Obj)} {σ : St} {H : Hp} {s : Shared} {fp : List Addr} (I : Inv X pins σ H s) (hf : ∀ b ∈ fp, FpOk X pins H b) (ho : ∀ b ∈ fp, ∃ o, s.heap.get? b = some o ∧ ∀ v, o.data ≠ .cell v) : Inv X (pins ++ pinsAt fp s.heap) σ H s :=
  I.pins_of fun p hp => (List.mem_append.mp hp).elim (fun z => I.pin p (List.mem_append_right _ z)) fun z => by
    obtain ⟨hb, e⟩ := of_pinsAt z
    obtain ⟨f0, f1, f2, _⟩ := hf p.1 hb
    obtain ⟨o, e', d⟩ := ho p.1 hb
    rw [e] at e'; cases e'
    exact ⟨e, f0, f1, f2, d⟩
theorem Inv.unpinned {pins pl : List (Addr × Obj)} {σ : St} {H : Hp} {s : Shared} (I : Inv X (pins ++ pl) σ H s) : Inv X pins σ H s := I.pins_of fun p hp => I.pin p (List.mem_append_right _ (List.mem_append_left _ hp))
theorem ps_for {iter : Expr} {body : List Stmt} {wi : TI} {g : TG} {tb : TS} {pos : Pos} (hp : PassesOwn (model X.prog X.w) X.A X.env X.xe) (hc : X.calm = true) (hi : PI X tg iter wi) (hg : PG X tg g) (hb : PSs X body tb)
    (hs : ∀ x, foldedSetIterable iter X.env x = pure x := by intro _; rfl) : PS X (.For tg iter body [] pos) (tFor wi g tb) := by
  intro pins s σ H D I h
  refine wpAny_For (thn (hi pins s σ H _ I h) fun v s1 h1 => thn h1 fun itv s2 h2 => ?_) hs
  obtain ⟨it, fp, tn, J, H2, e, I2, T, st2, f2, W, ⟨m0, w0⟩, turn⟩ := h2
  subst e
  have stat : ∀ {H' : Hp}, (∀ b ∈ fp, H' b = none) → ∀ b ∈ fp, FpOk X pins H' b := fun hn b hb => ⟨hn b hb, (f2 b hb).2⟩
  refine codeAny_forLoop_any (fun n s' => ∃ i σ' H', Inv X pins σ' H' s' ∧ tn i s'.heap ∧ (∀ b ∈ fp, H' b = none) ∧ W i n σ' H') ?_ m0 ⟨0, σ, H2, I2, st2, fun b hb => (f2 b hb).1, w0⟩
  rintro n s3 ⟨i, σ3, H3, I3, st3, fr3, w3⟩
  rcases turn i n σ3 H3 w3 with ⟨stop, qn⟩ | ⟨go, N, hN, step⟩
  · refine wpAny_passesOwn hp (thn (T.done X rfl rfl rfl hc i pins s3 σ3 H3 X.xe I3 (stat fr3) st3 stop) fun r s4 ⟨hr, I4⟩ => ?_)
    subst hr
    exact wpAny_execs_nil ⟨σ3, H3, I4, qn⟩
  · refine wpAny_passesOwn hp (thn (T.item X rfl rfl rfl hc i pins s3 σ3 H3 X.xe I3 (stat fr3) st3 go) fun r s4 ⟨u, hr, h4⟩ => ?_)
    subst hr
    refine wpAny_passesOwn hp (thn h4 fun _ s5 ⟨x, H5, I5, r5, y5, st5, fr5⟩ => ?_)
    have I5' := I5.pinned (stat fr5) (T.obj _ _ st5)
    refine wpAny_passesOwn hp (thn (hg _ s5 σ3 H5 x u _ I5' r5 (step x H5 y5)) fun _ s6 ⟨σ6, H6, I6, q6⟩ => ?_)
    refine wpAny_passesOwn hp (thn (hb _ s6 σ6 H6 _ I6 q6) fun f s7 q7 => ?_)
    have again : ∀ {σ7 : St} {H7 : Hp}, Inv X (pins ++ pinsAt fp s5.heap) σ7 H7 s7 → N σ7 H7 → ∃ m, m < n ∧ ∃ i σ' H', Inv X pins σ' H' s7 ∧ tn i s7.heap ∧ (∀ b ∈ fp, H' b = none) ∧ W i m σ' H' := fun {σ7 H7} I7 n7 => by
      obtain ⟨m', hm, w7⟩ := hN σ7 H7 n7
      refine ⟨m', hm, i + 1, σ7, H7, I7.unpinned, T.keep _ _ _ st5 fun b hb o e => (I7.pin (b, o) (List.mem_append_right _ (List.mem_append_right _ (mem_pinsAt hb e)))).1, fun b hb => ?_, w7⟩
      obtain ⟨o, e, d⟩ := T.obj _ _ st5 b hb
      exact (I7.pin (b, o) (List.mem_append_right _ (List.mem_append_right _ (mem_pinsAt hb e)))).2.1
    cases f with
    | next => obtain ⟨σ7, H7, I7, n7⟩ := q7; exact again I7 n7
    | cont => obtain ⟨σ7, H7, I7, n7⟩ := q7; exact again I7 n7
    | brk => obtain ⟨σ7, H7, I7, q7⟩ := q7; exact ⟨σ7, H7, I7.unpinned, q7⟩
    | ret v => obtain ⟨x7, σ7, H7, I7, r7, q7⟩ := q7; exact ⟨x7, σ7, H7, I7.unpinned, r7, q7⟩
end

theorem for_list {K : PySem.W.Frag} {a : Addr} {xs : List V} {g : TG} {tb : TS} {D : Ends} {σ : St} {H : Hp} (Pv : Nat → St → Hp → Prop) (h0 : Pv 0 σ H) (hl : ∀ i σ H, i ≤ xs.length → Pv i σ H → SqL K H a xs)
    (hs : ∀ i x σ H, xs[i]? = some x → Pv i σ H → g x σ H fun σ2 H2 => tb { D with nx := Pv (i + 1), ct := Pv (i + 1), bk := D.nx } σ2 H2) (hd : ∀ σ H, Pv xs.length σ H → D.nx σ H) :
    ∃ W : Nat → Nat → St → Hp → Prop, (∃ m, W 0 m σ H) ∧ ∀ i m σ H, W i m σ H →
      ((Itl K a).stop i H ∧ D.nx σ H) ∨ ((Itl K a).go i H ∧ ∃ N : St → Hp → Prop, (∀ σ' H', N σ' H' → ∃ m', m' < m ∧ W (i + 1) m' σ' H') ∧ ∀ x H', (Itl K a).yld i H x H' → g x σ H' fun σ2 H2 => tb { D with nx := N, ct := N, bk := D.nx } σ2 H2) := by
  refine ⟨fun i m σ H => m = xs.length - i ∧ i ≤ xs.length ∧ Pv i σ H, ⟨xs.length, by simp, Nat.zero_le _, h0⟩, ?_⟩
  rintro i m σ H ⟨rfl, hi, p⟩
  have q := hl i σ H hi p
  by_cases hlt : i < xs.length
  · refine .inr ⟨⟨xs, xs[i], q, by simp [hlt]⟩, Pv (i + 1), fun σ' H' p' => ⟨xs.length - (i + 1), by omega, rfl, hlt, p'⟩, fun x H' y => ?_⟩
    obtain ⟨e, y⟩ := y
    subst e
    exact hs i x σ _ (y xs q) p
  · have e : i = xs.length := by omega
    subst e
    exact .inl ⟨⟨xs, q, Nat.le_refl _⟩, hd σ H p⟩
theorem for_range {lo : Int} {n : Nat} {g : TG} {tb : TS} {D : Ends} {σ : St} {H : Hp} (Pv : Nat → St → Hp → Prop) (h0 : Pv 0 σ H)
    (hs : ∀ i σ H, i < n → Pv i σ H → g (.int (lo + i)) σ H fun σ2 H2 => tb { D with nx := Pv (i + 1), ct := Pv (i + 1), bk := D.nx } σ2 H2) (hd : ∀ σ H, Pv n σ H → D.nx σ H) :
    ∃ W : Nat → Nat → St → Hp → Prop, (∃ m, W 0 m σ H) ∧ ∀ i m σ H, W i m σ H →
      ((Itr lo n).stop i H ∧ D.nx σ H) ∨ ((Itr lo n).go i H ∧ ∃ N : St → Hp → Prop, (∀ σ' H', N σ' H' → ∃ m', m' < m ∧ W (i + 1) m' σ' H') ∧ ∀ x H', (Itr lo n).yld i H x H' → g x σ H' fun σ2 H2 => tb { D with nx := N, ct := N, bk := D.nx } σ2 H2) := by
  refine ⟨fun i m σ H => m = n - i ∧ i ≤ n ∧ Pv i σ H, ⟨n, by simp, Nat.zero_le _, h0⟩, ?_⟩
  rintro i m σ H ⟨rfl, hi, p⟩
  by_cases hlt : i < n
  · refine .inr ⟨hlt, Pv (i + 1), fun σ' H' p' => ⟨n - (i + 1), by omega, rfl, hlt, p'⟩, fun x H' y => ?_⟩
    obtain ⟨e, y⟩ := y
    subst e y
    exact hs i σ _ hlt p
  · have e : i = n := by omega
    subst e
    exact .inl ⟨Nat.le_refl _, hd σ H p⟩
end L2

namespace L2
open PySem PySem.Spec PyProof.Rows

abbrev R2 := V → V → Hp → VK → Prop
def OpR (X : Cx) (f : Value → Value → Sem Value) (r : R2) : Prop :=
  ∀ (pins : List (Addr × Obj)) (s : Shared) (σ : St) (H : Hp) (x y : V) (v u : Value) (Q : VK), Inv X pins σ H s → RelV x v → RelV y u → r x y H Q →
    wpAny (model X.prog X.w) X.A (f v u) (EP X pins σ Q) X.xe s
def UnR (X : Cx) (f : Value → Sem Value) (r : V → Hp → VK → Prop) : Prop :=
  ∀ (pins : List (Addr × Obj)) (s : Shared) (σ : St) (H : Hp) (x : V) (v : Value) (Q : VK), Inv X pins σ H s → RelV x v → r x H Q →
    wpAny (model X.prog X.w) X.A (f v) (EP X pins σ Q) X.xe s
def CallR (X : Cx) (f : Value) (r : List V → Hp → VK → Prop) : Prop :=
  ∀ (pins : List (Addr × Obj)) (s : Shared) (σ : St) (H : Hp) (xs : List V) (us : List Value) (Q : VK), Inv X pins σ H s → Vals xs us → r xs H Q →
    wpAny (model X.prog X.w) X.A (call f us) (EP X pins σ Q) X.xe s
def tOp (r : R2) (ta tb : TE) : TE := fun σ H Q => ta σ H fun x H1 => tb σ H1 fun y H2 => r x y H2 Q
def tUn (r : V → Hp → VK → Prop) (ta : TE) : TE := fun σ H Q => ta σ H fun x H1 => r x H1 Q
def rI (C : Int → Int → Prop) (g : Int → Int → V) : R2 := fun x y H Q => ∃ i j, x = .int i ∧ y = .int j ∧ C i j ∧ Q (g i j) H
def rI0 (g : Int → Int → V) : R2 := fun x y H Q => ∃ i j, x = .int i ∧ y = .int j ∧ Q (g i j) H
def rU (g : Int → V) : V → Hp → VK → Prop := fun x H Q => ∃ i, x = .int i ∧ Q (g i) H

section
variable {X : Cx} {a b c : Expr} {ta tb tc : TE} {pos : Pos}

theorem binT (ha : PE X a ta) (hb : PE X b tb) {pins : List (Addr × Obj)} {s : Shared} {σ : St} {H : Hp} {R : V → V → Hp → Prop} (I : Inv X pins σ H s)
    (h : ta σ H fun x H1 => tb σ H1 fun y H2 => R x y H2) {Q : Value → Shared → Prop} {f : Value → Value → Sem Value}
    (hf : ∀ v u s2 x y H2, Inv X pins σ H2 s2 → RelV x v → RelV y u → R x y H2 → wpAny (model X.prog X.w) X.A (f v u) Q X.xe s2) :
    wpAny (model X.prog X.w) X.A (eval a X.env) (fun v s₁ => wpAny (model X.prog X.w) X.A (eval b X.env) (fun u s₂ => wpAny (model X.prog X.w) X.A (f v u) Q X.xe s₂) X.xe s₁) X.xe s := by
  refine thn (ha pins s σ H _ I h) fun v s1 ⟨x, H1, I1, r1, q1⟩ => ?_
  refine thn (hb pins s1 σ H1 _ I1 q1) fun u s2 ⟨y, H2, I2, r2, q2⟩ => ?_
  exact hf v u s2 x y H2 I2 r1 r2 q2

theorem pe_op {op : Operator} {r : R2} (ho : OpR X (binaryOp op) r) (ha : PE X a ta) (hb : PE X b tb) : PE X (.BinOp a op b pos) (tOp r ta tb) := by
  intro pins s σ H Q I h
  exact wpAny_BinOp (binT ha hb I h fun v u s2 x y H2 I2 rx ry q => ho pins s2 σ H2 x y v u Q I2 rx ry q)
theorem pe_un {op : UnaryOp} {r : V → Hp → VK → Prop} (ho : UnR X (unaryOp op) r) (ha : PE X a ta) : PE X (.UnaryOp op a pos) (tUn r ta) := by
  intro pins s σ H Q I h
  exact UnaryOp_ (thn (ha pins s σ H _ I h) fun v s1 ⟨x, H1, I1, r1, q1⟩ => ho pins s1 σ H1 x v Q I1 r1 q1)
theorem opI {f : Value → Value → Sem Value} {C : Int → Int → Prop} {g : Int → Int → Int}
    (rule : ∀ (i j : Int) (t u : Tok) (s : Shared) (Q : Value → Shared → Prop) (E : Value → Shared → Prop), C i j → Q (.int (g i j) s.toks) { s with toks := s.toks + 1 } → wpAny (model X.prog X.w) X.A (f (.int i t) (.int j u)) Q E s) :
    OpR X f (rI C fun i j => .int (g i j)) := by
  intro pins s σ H x y v u Q I rx ry h
  obtain ⟨i, j, rfl, rfl, hc, q⟩ := h
  obtain ⟨t, rfl⟩ := rx
  obtain ⟨t', rfl⟩ := ry
  exact rule i j t t' s _ _ hc ⟨.int (g i j), H, I.tok _, ⟨_, rfl⟩, q⟩
theorem opI0 {f : Value → Value → Sem Value} {g : Int → Int → Int}
    (rule : ∀ (i j : Int) (t u : Tok) (s : Shared) (Q : Value → Shared → Prop) (E : Value → Shared → Prop), Q (.int (g i j) s.toks) { s with toks := s.toks + 1 } → wpAny (model X.prog X.w) X.A (f (.int i t) (.int j u)) Q E s) :
    OpR X f (rI0 fun i j => .int (g i j)) := by
  intro pins s σ H x y v u Q I rx ry h
  obtain ⟨i, j, rfl, rfl, q⟩ := h
  obtain ⟨t, rfl⟩ := rx
  obtain ⟨t', rfl⟩ := ry
  exact rule i j t t' s _ _ ⟨.int (g i j), H, I.tok _, ⟨_, rfl⟩, q⟩
theorem opB0 {f : Value → Value → Sem Value} {g : Int → Int → Bool}
    (rule : ∀ (i j : Int) (t u : Tok) (s : Shared) (Q : Value → Shared → Prop) (E : Value → Shared → Prop), Q (.bool (g i j)) s → wpAny (model X.prog X.w) X.A (f (.int i t) (.int j u)) Q E s) :
    OpR X f (rI0 fun i j => .bl (g i j)) := by
  intro pins s σ H x y v u Q I rx ry h
  obtain ⟨i, j, rfl, rfl, q⟩ := h
  obtain ⟨t, rfl⟩ := rx
  obtain ⟨t', rfl⟩ := ry
  exact rule i j t t' s _ _ ⟨.bl (g i j), H, I, rfl, q⟩

def CDiv (i j : Int) : Prop := 0 < j ∧ j < 1073741824
def CPow (i j : Int) : Prop := 0 ≤ j ∧ j ≤ 1000000 ∧ i.natAbs < 2 ^ 64
def CMul (i j : Int) : Prop := (-(2 ^ 64) < i ∧ i < 2 ^ 64) ∨ (-(2 ^ 64) < j ∧ j < 2 ^ 64)
theorem CMul.ok {i j : Int} (h : CMul i j) : IntMulOk i j := by
  rcases h with ⟨h1, h2⟩ | ⟨h1, h2⟩
  · exact .of_left (intBits_le_64 h1 h2)
  · exact .of_right (intBits_le_64 h1 h2)
theorem op_add : OpR X (binaryOp .Add) (rI0 fun i j => .int (i + j)) := opI0 fun _ _ _ _ _ _ _ q => add_int q
theorem op_sub : OpR X (binaryOp .Sub) (rI0 fun i j => .int (i - j)) := opI0 fun _ _ _ _ _ _ _ q => sub_int q
theorem op_mul : OpR X (binaryOp .Mult) (rI CMul fun i j => .int (i * j)) := opI fun _ _ _ _ _ _ _ hc q => mul_int q hc.ok
theorem op_fdiv : OpR X (binaryOp .FloorDiv) (rI CDiv fun i j => .int (i / j)) := opI fun i j _ _ _ _ _ hc q => by
  have h1 : (0 : Int) < j := hc.1
  have h2 : j < 1073741824 := hc.2
  exact floordiv_int (by omega) (by rw [Int.fdiv_eq_ediv_of_nonneg i (by omega)]; exact q) (.inl (PyProof.noPylong_small (by omega)))
theorem op_mod : OpR X (binaryOp .Mod) (rI (fun _ j => 0 < j) fun i j => .int (i % j)) := opI fun i j _ _ _ _ _ hc q => by
  have h1 : (0 : Int) < j := hc
  exact mod_int' (by omega) (by rw [Int.fmod_eq_emod_of_nonneg i (by omega)]; exact q)
theorem op_pow : OpR X (binaryOp .Pow) (rI CPow fun i j => .int (i ^ j.toNat)) := opI fun _ _ _ _ _ _ _ hc q => pow_int_small hc.1 hc.2.1 hc.2.2 q
theorem unI {f : Value → Sem Value} {g : Int → Int}
    (rule : ∀ (i : Int) (t : Tok) (s : Shared) (Q : Value → Shared → Prop) (E : Value → Shared → Prop), Q (.int (g i) s.toks) { s with toks := s.toks + 1 } → wpAny (model X.prog X.w) X.A (f (.int i t)) Q E s) :
    UnR X f (rU fun i => .int (g i)) := by
  intro pins s σ H x v Q I rx h
  obtain ⟨i, rfl, q⟩ := h
  obtain ⟨t, rfl⟩ := rx
  exact rule i t s _ _ ⟨.int (g i), H, I.tok _, ⟨_, rfl⟩, q⟩
theorem un_neg : UnR X (unaryOp .USub) (rU fun i => .int (-i)) := unI fun _ _ _ _ _ q => neg_int q
end

def scal : V → V → Bool
  | .non, .non => true | .non, .int _ => true | .int _, .non => true | .non, .bl _ => true | .bl _, .non => true | .non, .str _ => true | .str _, .non => true
  | .int _, .int _ => true | .bl _, .bl _ => true | .str _, .str _ => true | .byt _, .byt _ => true
  | .int _, .str _ => true | .str _, .int _ => true | .bl _, .str _ => true | .str _, .bl _ => true
  | _, _ => false
def rEq : R2 := fun x y H Q => scal x y = true ∧ Q (.bl (decide (x = y))) H
def rNe : R2 := fun x y H Q => scal x y = true ∧ Q (.bl (!decide (x = y))) H

theorem dec_int {i j : Int} : decide (V.int i = V.int j) = (i == j) := by
  rw [Bool.eq_iff_iff]
  simp
theorem dec_bl {i j : Bool} : decide (V.bl i = V.bl j) = (i == j) := by
  rw [Bool.eq_iff_iff]
  simp
theorem dec_str {i j : Str} : decide (V.str i = V.str j) = (i == j) := by
  rw [Bool.eq_iff_iff]
  simp
theorem dec_byt {i j : Array UInt8} : decide (V.byt i = V.byt j) = (i.toList == j.toList) := by
  rw [Bool.eq_iff_iff]
  cases i
  cases j
  simp

section
variable {X : Cx} {a b c : Expr} {ta tb tc : TE} {pos : Pos}
theorem fin_bl {pins : List (Addr × Obj)} {σ : St} {H : Hp} {s : Shared} {Q : VK} {k k' : Bool} (I : Inv X pins σ H s) (q : Q (.bl k) H) (e : k = k') : EP X pins σ Q (.bool k') s := by
  subst e
  exact ⟨.bl k, H, I, rfl, q⟩
theorem op_eq : OpR X (compareOp .Eq) rEq := by
  intro pins s σ H x y v u Q I rx ry h
  obtain ⟨hs, q⟩ := h
  cases x with
  | non =>
    cases rx
    cases y with
    | non => cases ry; exact PySem.EqNone.eq_none_none (fin_bl I q (by simp))
    | bl j => cases ry; exact PySem.EqNone.eq_none_bool (fin_bl I q (by simp))
    | int j => obtain ⟨t', rfl⟩ := ry; exact PySem.EqNone.eq_none_int (fin_bl I q (by simp))
    | str j => obtain ⟨t', rfl⟩ := ry; exact PySem.EqNone.eq_none_str (fin_bl I q (by simp))
    | _ => exact absurd (show false = true from hs) Bool.false_ne_true
  | bl i =>
    cases rx
    cases y with
    | non => cases ry; exact PySem.EqNone.eq_bool_none (fin_bl I q (by simp))
    | bl j => cases ry; exact eq_bool (fin_bl I q dec_bl)
    | str j => obtain ⟨t', rfl⟩ := ry; exact PySem.EqMixed.eq_bool_str (fin_bl I q (by simp))
    | _ => exact absurd (show false = true from hs) Bool.false_ne_true
  | int i =>
    obtain ⟨t, rfl⟩ := rx
    cases y with
    | non => cases ry; exact PySem.EqNone.eq_int_none (fin_bl I q (by simp))
    | int j => obtain ⟨t', rfl⟩ := ry; exact eq_int (fin_bl I q dec_int)
    | str j => obtain ⟨t', rfl⟩ := ry; exact PySem.EqMixed.eq_int_str (fin_bl I q (by simp))
    | _ => exact absurd (show false = true from hs) Bool.false_ne_true
  | str i =>
    obtain ⟨t, rfl⟩ := rx
    cases y with
    | non => cases ry; exact PySem.EqNone.eq_str_none (fin_bl I q (by simp))
    | bl j => cases ry; exact PySem.EqMixed.eq_str_bool (fin_bl I q (by simp))
    | int j => obtain ⟨t', rfl⟩ := ry; exact PySem.EqMixed.eq_str_int (fin_bl I q (by simp))
    | str j => obtain ⟨t', rfl⟩ := ry; exact eq_str (fin_bl I q dec_str)
    | _ => exact absurd (show false = true from hs) Bool.false_ne_true
  | byt i =>
    obtain ⟨t, rfl⟩ := rx
    cases y with
    | byt j => obtain ⟨t', rfl⟩ := ry; exact PySem.W.eq_bytes (fin_bl I q dec_byt)
    | _ => exact absurd (show false = true from hs) Bool.false_ne_true
  | _ => cases y <;> exact absurd (show false = true from hs) Bool.false_ne_true
theorem op_ne : OpR X (compareOp .NotEq) rNe := by
  intro pins s σ H x y v u Q I rx ry h
  obtain ⟨hs, q⟩ := h
  cases x with
  | non =>
    cases rx
    cases y with
    | non => cases ry; exact PySem.EqNone.ne_none_none (fin_bl I q (by simp))
    | bl j => cases ry; exact PySem.EqNone.ne_none_bool (fin_bl I q (by simp))
    | int j => obtain ⟨t', rfl⟩ := ry; exact PySem.EqNone.ne_none_int (fin_bl I q (by simp))
    | str j => obtain ⟨t', rfl⟩ := ry; exact PySem.EqNone.ne_none_str (fin_bl I q (by simp))
    | _ => exact absurd (show false = true from hs) Bool.false_ne_true
  | bl i =>
    cases rx
    cases y with
    | non => cases ry; exact PySem.EqNone.ne_bool_none (fin_bl I q (by simp))
    | bl j => cases ry; exact ne_bool (fin_bl I q (congrArg not dec_bl))
    | str j => obtain ⟨t', rfl⟩ := ry; exact PySem.EqMixed.ne_bool_str (fin_bl I q (by simp))
    | _ => exact absurd (show false = true from hs) Bool.false_ne_true
  | int i =>
    obtain ⟨t, rfl⟩ := rx
    cases y with
    | non => cases ry; exact PySem.EqNone.ne_int_none (fin_bl I q (by simp))
    | int j => obtain ⟨t', rfl⟩ := ry; exact ne_int (fin_bl I q (congrArg not dec_int))
    | str j => obtain ⟨t', rfl⟩ := ry; exact PySem.EqMixed.ne_int_str (fin_bl I q (by simp))
    | _ => exact absurd (show false = true from hs) Bool.false_ne_true
  | str i =>
    obtain ⟨t, rfl⟩ := rx
    cases y with
    | non => cases ry; exact PySem.EqNone.ne_str_none (fin_bl I q (by simp))
    | bl j => cases ry; exact PySem.EqMixed.ne_str_bool (fin_bl I q (by simp))
    | int j => obtain ⟨t', rfl⟩ := ry; exact PySem.EqMixed.ne_str_int (fin_bl I q (by simp))
    | str j => obtain ⟨t', rfl⟩ := ry; exact ne_str (fin_bl I q (congrArg not dec_str))
    | _ => exact absurd (show false = true from hs) Bool.false_ne_true
  | byt i =>
    obtain ⟨t, rfl⟩ := rx
    cases y with
    | byt j => obtain ⟨t', rfl⟩ := ry; exact PySem.W.ne_bytes (fin_bl I q (congrArg not dec_byt))
    | _ => exact absurd (show false = true from hs) Bool.false_ne_true
  | _ => cases y <;> exact absurd (show false = true from hs) Bool.false_ne_true

theorem op_lt : OpR X (compareOp .Lt) (rI0 fun i j => .bl (decide (i < j))) := opB0 fun _ _ _ _ _ _ _ q => lt_int q
theorem op_gt : OpR X (compareOp .Gt) (rI0 fun i j => .bl (decide (j < i))) := opB0 fun _ _ _ _ _ _ _ q => gt_int q
theorem op_lt_str : OpR X (compareOp .Lt) (fun x y H Q => ∃ i j, x = .str i ∧ y = .str j ∧ Q (.bl (decide (i.cps.toList < j.cps.toList))) H) := by
  intro pins s σ H x y v u Q I rx ry h
  obtain ⟨i, j, rfl, rfl, q⟩ := h
  obtain ⟨t, rfl⟩ := rx
  obtain ⟨t', rfl⟩ := ry
  exact lt_str (fin_bl I q rfl)
theorem op_isN : OpR X (compareOp .Is) (fun x y H Q => y = .non ∧ Q (.bl (decide (x = .non))) H) := by
  intro pins s σ H x y v u Q I rx ry h
  obtain ⟨rfl, q⟩ := h
  cases ry
  refine is_none_gen (fin_bl I q ?_)
  cases x <;> first
    | (cases rx; rfl)
    | (obtain ⟨t, rfl⟩ := rx; rfl)
theorem op_notN : OpR X (compareOp .IsNot) (fun x y H Q => y = .non ∧ Q (.bl (!decide (x = .non))) H) := by
  intro pins s σ H x y v u Q I rx ry h
  obtain ⟨rfl, q⟩ := h
  cases ry
  refine isnot_none_gen (fin_bl I q ?_)
  cases x <;> first
    | (cases rx; rfl)
    | (obtain ⟨t, rfl⟩ := rx; rfl)

theorem nomark (b : Expr) {op : CmpOp} (h : op ≠ .In := by decide) (h2 : op ≠ .NotIn := by decide) : behindInMarks op b = false := by
  have e1 : (op == CmpOp.In) = false := by cases op <;> first | rfl | exact absurd rfl h
  have e2 : (op == CmpOp.NotIn) = false := by cases op <;> first | rfl | exact absurd rfl h2
  cases b <;> simp [behindInMarks, e1, e2]
theorem pe_cmpR {op : CmpOp} {r : R2} (ho : OpR X (compareOp op) r) (ha : PE X a ta) (hb : PE X b tb) (hm : behindInMarks op b = false) : PE X (.Compare a [op] [b] pos) (tOp r ta tb) := by
  intro pins s σ H Q I h
  exact wpAny_Compare1 (binT ha hb I h fun v u s2 x y H2 I2 rx ry q => ho pins s2 σ H2 x y v u Q I2 rx ry q) hm
def tTest (t : TE) : TT := fun σ H Q => t σ H fun x H' => ∃ k, x = .bl k ∧ Q k H'
theorem pt_cmpR {op : CmpOp} {r : R2} (ho : OpR X (compareOp op) r) (ha : PE X a ta) (hb : PE X b tb) (hm : behindInMarks op b = false) : PT X (.Compare a [op] [b] pos) (tTest (tOp r ta tb)) := by
  intro pins s σ H Q I h
  refine wpAny_isTrue_Compare1 (thn (ha pins s σ H _ I h) fun v s1 ⟨x, H1, I1, r1, q1⟩ => thn (hb pins s1 σ H1 _ I1 q1) fun u s2 ⟨y, H2, I2, r2, q2⟩ =>
    thn (ho pins s2 σ H2 x y v u _ I2 r1 r2 q2) fun c s3 ⟨z, H3, I3, r3, k, e, q3⟩ => ?_) hm
  subst e
  cases r3
  exact wpAny_truthy_bool ⟨H3, I3, q3⟩
theorem line63 : (sizeLine : Nat) < 2 ^ 63 := by rw [sizeLine_eq]; decide
theorem op_add_str : OpR X (binaryOp .Add) (fun x y H Q => ∃ i j, x = .str i ∧ y = .str j ∧ i.length + j.length ≤ sizeLine ∧ Q (.str (i ++ j)) H) := by
  intro pins s σ H x y v u Q I rx ry h
  obtain ⟨i, j, rfl, rfl, hz, q⟩ := h
  obtain ⟨t, rfl⟩ := rx
  obtain ⟨t', rfl⟩ := ry
  exact add_str (fun t' tk => ⟨.str (i ++ j), H, I.tok _, ⟨_, rfl⟩, q⟩) hz
theorem vals1 {x : V} {us : List Value} (r : Vals [x] us) : ∃ u, us = [u] ∧ RelV x u := by
  cases r with
  | cons r1 r2 => cases r2; exact ⟨_, rfl, r1⟩
theorem vals2 {x y : V} {us : List Value} (r : Vals [x, y] us) : ∃ u w', us = [u, w'] ∧ RelV x u ∧ RelV y w' := by
  cases r with
  | cons r1 r2 =>
    cases r2 with
    | cons r3 r4 => cases r4; exact ⟨_, _, rfl, r1, r3⟩
theorem call_int1 : CallR X (.type "int") (fun xs H Q => (∃ i, xs = [.int i] ∧ Q (.int i) H) ∨ ∃ k, xs = [.bl k] ∧ Q (.int (if k then 1 else 0)) H) := by
  intro pins s σ H xs us Q I r h
  rcases h with ⟨i, rfl, q⟩ | ⟨k, rfl, q⟩
  · obtain ⟨u, rfl, t, rfl⟩ := vals1 r
    exact call_int_int ⟨.int i, H, I, ⟨_, rfl⟩, q⟩
  · obtain ⟨u, rfl, r1⟩ := vals1 r
    cases r1
    exact call_int_bool ⟨.int (if k then 1 else 0), H, I.tok _, ⟨_, rfl⟩, q⟩
end
end L2

namespace L2
open PySem PySem.Spec PyProof.Rows

structure ObjM (h : Heap) (x dx C : Addr) (mA : Str → Option Value) : Prop where
  obj : h.get? x = some (PySem.W.instObj C dx)
  ns : h.Ns1 dx mA
  ne : dx ≠ x

theorem lookIn_ns {h : Heap} {dx : Addr} {mA : Str → Option Value} (n : h.Ns1 dx mA) : ∃ od, h.get? dx = some od ∧ ∀ name, PySem.W.lookIn name od = some (mA name) := by
  obtain ⟨o, es, ep, ho, hd, hk, _, hm⟩ := n
  refine ⟨o, ho, fun name => ?_⟩
  have e := hm name
  unfold nsFind findBy at e
  rw [← Array.find?_toList] at e
  unfold PySem.W.lookIn
  rw [hd]
  dsimp only
  split
  · rename_i y q
    rw [q] at e
    exact congrArg some e
  · rename_i q
    rw [q] at e
    have a : es.toList.any (·.refKey) = false := by
      rw [List.any_eq_false]
      intro y hy
      obtain ⟨z, t, hkey⟩ := hk y (Array.mem_toList_iff.mp hy)
      simp [DictEntry.refKey, hkey]
    have a' : ¬ es.toList.any (·.refKey) = true := by rw [a]; exact Bool.false_ne_true
    rw [if_neg a']
    exact congrArg some e

theorem ObjM.look {h : Heap} {x dx C : Addr} {mA : Str → Option Value} (I : ObjM h x dx C mA) : ∃ od, PySem.W.InstAt h x (PySem.W.instObj C dx) C (some od) ∧ ∀ name, PySem.W.lookIn name od = some (mA name) :=
  let ⟨od, ho, hl⟩ := lookIn_ns I.ns
  ⟨od, ⟨I.obj, rfl, rfl, ho⟩, hl⟩

section
variable {prog : Program} {w : World} {A : Around} {E : Value → Shared → Prop} {s : Shared} {K : PySem.W.Frag} {x dx C f : Addr} {mA : Str → Option Value} {name : Str} {v : Value}

end

theorem RelO.some_of {v : V} {o : Option Value} (r : RelO (some v) o) : ∃ u, o = some u ∧ RelV v u := by
  cases o with
  | none => exact (show False from r).elim
  | some u => exact ⟨u, rfl, r⟩
section
variable {P : Program} {w : World} {H H' : Hp} {h h' : Heap} {a C dx : Addr} {fs fs' : List (Str × V)}
theorem ins_get (hok : HOk P w H h) (e : H a = some (.ins C dx fs)) : ∃ mA, ObjM h a dx C mA ∧ (∀ f, RelO (fs.lookup f) (mA f)) ∧ PySem.Within mA (fs.map (·.1)) ∧ fs.length ≤ 1000 ∧ H dx = some (.own a) := by
  obtain ⟨d, z, ne, ob, mA, n, r, q⟩ := (show ObjOk P w H h a (.ins C dx fs) from hok a _ e)
  exact ⟨mA, ⟨ob, n, ne⟩, r, q, z, d⟩
end

structure Cls (K : PySem.W.Frag) (C : Addr) : Prop where
  pg : PySem.W.plainGet K C Str.empty = true
  hd : PySem.W.hasDictIn K C = true
  po : PySem.W.plainOver K C = true
  sa : PySem.W.findIn K (.ref C) "__setattr__" = some (some (.builtin "object.__setattr__"))
theorem Cls.get {K : PySem.W.Frag} {C : Addr} (c : Cls K C) (f : Str) : PySem.W.plainGet K C f = true := c.pg
structure Con (K : PySem.W.Frag) (C : Addr) (f : Str) (v : V) (u : Value) : Prop where
  at_ : PySem.W.findIn K (.ref C) f = some (some u)
  rel : RelV v u
  get : PySem.W.specialIn K u "__get__" = some none
  cp : PySem.W.copiedNames.contains f = false
structure Meth (K : PySem.W.Frag) (C : Addr) (m : Str) (f : Addr) : Prop where
  at_ : PySem.W.findIn K (.ref C) m = some (some (.ref f))
  fn : PySem.W.isFn K (.ref f) = true
  kp : PySem.W.keepIn K (.ref f) = true

section
variable {X : Cx} {pins : List (Addr × Obj)} {σ : St} {H : Hp} {s : Shared} {a C dx : Addr} {fs : List (Str × V)} {f : Str} {v : V} {A : Around} {E : Value → Shared → Prop}

end

section
variable {X : Cx} {o e value : Expr} {f : Str} {pos pos' tpos : Pos} {ta tv : TE}
end

section
variable {X : Cx} {pins : List (Addr × Obj)} {σ : St} {H : Hp} {s : Shared} {A : Around} {E : Value → Shared → Prop} {Q : Value → Shared → Prop} {c : Value} {b : Bool}
inductive TyOf (K : PySem.W.Frag) (H : Hp) : V → Value → Prop where
  | non : TyOf K H .non (.type "NoneType")
  | bl (x : Bool) : TyOf K H (.bl x) (.type "bool")
  | int (i : Int) : TyOf K H (.int i) (.type "int")
  | str (x : Str) : TyOf K H (.str x) (.type "str")
  | flt (x : UInt64) : TyOf K H (.flt x) (.type "float")
  | lst {a : Addr} {xs : List V} (e : H a = some (.lst xs)) : TyOf K H (.ref a) (.type "list")
  | frz {a : Addr} {o : Obj} {xs : List V} (e : H a = some (.frz o (.lst xs))) : TyOf K H (.ref a) (.type "list")
  | tup {a : Addr} {xs : List V} (e : H a = some (.tup xs)) : TyOf K H (.ref a) (.type "tuple")
  | dK {a : Addr} {kvs : List (Key × V)} (e : H a = some (.dK kvs)) : TyOf K H (.ref a) (.type "dict")
  | dT {a : Addr} {kvs : List (List Key × V)} (e : H a = some (.dT kvs)) : TyOf K H (.ref a) (.type "dict")
  | ins {a C dx : Addr} {fs : List (Str × V)} (e : H a = some (.ins C dx fs)) (cl : Cls K C) (ha : PySem.W.findIn K (.ref C) "__class__" = some (some (.builtin "object.__class__")))
      (hn : PySem.W.specialIn K (.builtin "object.__class__") "__get__" = some (some (.builtin "getset_descriptor.__get__"))) (htk : PySem.W.takesIn K (.builtin "object.__class__") = some true)
      (hm : PySem.W.mroIn K C (.type "object") = some true) : TyOf K H (.ref a) (.ref C)
theorem isinst_ok {x : V} {u t : Value} (I : Inv X pins σ H s) (rx : RelV x u) (ty : TyOf X.K H x t) (e : PySem.W.kitOne X.K t c = some b) (h : ∀ tk, Q (.bool b) { s with toks := tk }) :
    wpAny (model X.prog X.w) A (call (.builtin "isinstance") [u, c]) Q E s := by
  cases ty with
  | non => cases (show u = Value.none from rx); exact PySem.W.kia_one PySem.W.kitx_none I.kIn True.intro e (fun z => nomatch z) h
  | bl y => cases (show u = Value.bool y from rx); exact PySem.W.kia_one PySem.W.kitx_bool I.kIn True.intro e (fun z => nomatch z) h
  | int i => obtain ⟨t, q⟩ := (show ∃ t, u = Value.int i t from rx); cases q; exact PySem.W.kia_one PySem.W.kitx_int I.kIn True.intro e (fun z => nomatch z) h
  | str y => obtain ⟨t, q⟩ := (show ∃ t, u = Value.str y t from rx); cases q; exact PySem.W.kia_one PySem.W.kitx_str I.kIn True.intro e (fun z => nomatch z) h
  | flt y => obtain ⟨t, q⟩ := (show ∃ t, u = Value.float y t from rx); cases q; exact PySem.W.kia_one PySem.W.kitx_float I.kIn True.intro e (fun z => nomatch z) h
  | @lst a xs ea =>
    cases (show u = Value.ref a from rx)
    obtain ⟨_, _, n, _, h1⟩ := (show ObjOk X.prog X.w H s.heap a (.lst xs) from I.hok a _ ea)
    exact PySem.W.kia_one PySem.W.kitx_list I.kIn ⟨_, h1, rfl⟩ e (fun z => nomatch z) h
  | @frz a ob xs ea =>
    cases (show u = Value.ref a from rx)
    obtain ⟨_, _, _, n, _, h1⟩ := (show ObjOk X.prog X.w H s.heap a (.frz ob (.lst xs)) from I.hok a _ ea)
    exact PySem.W.kia_one PySem.W.kitx_list I.kIn ⟨_, h1, rfl⟩ e (fun z => nomatch z) h
  | @tup a xs ea =>
    cases (show u = Value.ref a from rx)
    obtain ⟨_, _, _, p⟩ := (show ObjOk X.prog X.w H s.heap a (.tup xs) from I.hok a _ ea)
    obtain ⟨o, h1, h2, _⟩ := p
    exact PySem.W.kia_one PySem.W.kitx_tuple I.kIn ⟨o, h1, h2⟩ e (fun z => nomatch z) h
  | @dK a kvs ea =>
    cases (show u = Value.ref a from rx)
    obtain ⟨_, _, vs, _, p⟩ := (show ObjOk X.prog X.w H s.heap a (.dK kvs) from I.hok a _ ea)
    obtain ⟨o, es, ep, h1, h2, _⟩ := p
    exact PySem.W.kia_one PySem.W.kitx_dict I.kIn ⟨o, h1, h2.1⟩ e (fun z => nomatch z) h
  | @dT a kvs ea =>
    cases (show u = Value.ref a from rx)
    obtain ⟨_, _, xs, _, o, es, ep, h1, h2, _⟩ := (show ObjOk X.prog X.w H s.heap a (.dT kvs) from I.hok a _ ea)
    exact PySem.W.kia_one PySem.W.kitx_dict I.kIn ⟨o, h1, h2.1⟩ e (fun z => nomatch z) h
  | @ins a C dx fs ea cl ha hn htk hm =>
    cases (show u = Value.ref a from rx)
    obtain ⟨mA, O, _⟩ := ins_get I.hok ea
    obtain ⟨od, J, _⟩ := O.look
    exact PySem.W.kia_one (PySem.W.kitx_own (cl.get _) cl.hd ha hn htk hm) I.kIn J e (fun z => nomatch z) h
end
end L2

namespace L2
open PySem PySem.Spec PyProof.Rows

structure Room (k : Nat) (A : Around) : Prop where
  hd : A.handled = none
  dp : A.depth + 3 * k + 5 < recursionLimit
  un : A.units + 16 * k + 200 < cLine
theorem Room.mono {j k : Nat} {A : Around} (r : Room k A) (h : j ≤ k) : Room j A := ⟨r.hd, by have := r.dp; omega, by have := r.un; omega⟩
theorem Room.deeper {k : Nat} {A : Around} (r : Room (k + 1) A) (env : Env) : Room k (A.deeper env) :=
  ⟨r.hd, by have := r.dp; show A.depth + 1 + 3 * k + 5 < _; omega, by have := r.un; show A.units + 3 + 16 * k + 200 < _; omega⟩
theorem Room.depth {k : Nat} {A : Around} (r : Room k A) : A.depth < recursionLimit := by have := r.dp; omega
theorem Room.units {k : Nat} {A : Around} (r : Room k A) : A.units + 64 < cLine := by have := r.un; omega
def tNil : TA := fun _ H Q => Q [] H
def tCons (ta : TE) (tr : TA) : TA := fun σ H Q => ta σ H fun x H1 => tr σ H1 fun xs H2 => Q (x :: xs) H2
section
variable {X : Cx} {e : Expr} {es : List Expr} {te : TE} {t : TA} {pos : Pos}
theorem pa_nil : PA X [] tNil := fun _ _ _ _ H Q I h => Calls.spliced_nil ⟨[], H, I, .nil, h⟩
theorem pa_cons (ha : PE X e te) (hr : PA X es t) (hs : starEach (e :: es) X.env = (false, eval e X.env) :: starEach es X.env := by rfl) : PA X (e :: es) (tCons te t) := by
  intro pos pins s σ H Q I h
  rw [hs]
  show wpAny _ _ (spliced ((false, eval e X.env) :: backTo pos (starEach es X.env))) _ _ s
  refine Calls.spliced_cons (thn (ha pins s σ H _ I h) fun u s1 ⟨x, H1, I1, r1, q1⟩ => ?_)
  exact thn (hr pos pins s1 σ H1 _ I1 q1) fun us s2 ⟨xs, H2, I2, r2, q2⟩ => ⟨x :: xs, H2, I2, .cons r1 r2, q2⟩

def tTup (t : TA) : TE := fun σ H Q => t σ H fun xs H1 => xs.length ≤ sizeLine ∧ ∀ p, H1 p = none → Q (.ref p) (upd H1 p (.tup xs))
def tLst (t : TA) : TE := fun σ H Q => t σ H fun xs H1 => xs.length ≤ sizeLine ∧ ∀ p, H1 p = none → Q (.ref p) (upd H1 p (.lst xs))
theorem pe_tup {x1} (h : PA X es t) : PE X (.Tuple es x1 pos) (tTup t) := by
  intro pins s σ H Q I hq
  refine wpAny_Tuple_spliced (thn (h pos pins s σ H _ I hq) fun us s1 ⟨xs, H1, I1, r, z, q⟩ => ⟨by rw [← r.length]; exact z, ?_⟩)
  have hf : H1 s1.heap.objs.size = none := I1.hok.fresh (Nat.le_refl _)
  refine ⟨.ref s1.heap.objs.size, upd H1 s1.heap.objs.size (.tup xs), I1.laid (t' := s1.toks) (fun b u e => Heap.get?_push_of_some _ e) (Nat.le_refl _) ?_, rfl, q _ hf⟩
  exact ⟨z, us, r, ⟨_, Heap.get?_push_size _ rfl, rfl, _, rfl⟩⟩
theorem pe_lst (h : PA X es t) : PE X (.List es pos) (tLst t) := by
  intro pins s σ H Q I hq
  refine wpAny_List_spliced (thn (h pos pins s σ H _ I hq) fun us s1 ⟨xs, H1, I1, r, z, q⟩ => ⟨by rw [← r.length]; exact z, ?_⟩)
  have hf : H1 s1.heap.objs.size = none := I1.hok.fresh (Nat.le_refl _)
  refine ⟨.ref s1.heap.objs.size, upd H1 s1.heap.objs.size (.lst xs), I1.laid (t' := s1.toks) (fun b u e => Heap.get?_push_of_some _ e) (Nat.le_refl _) ?_, rfl, q _ hf⟩
  exact ⟨z, us, 0, r, Heap.get?_push_size _ rfl⟩
end

abbrev Sp := List V → Hp → VK → XK → Prop
abbrev CXT := List Env → Hp → Shared → XK → Value → Shared → Prop

structure Env0 (P : Program) (w : World) (K : PySem.W.Frag) (mg : Str → Option Value) (base : Heap) (A : Around) (outer : List Env) (s : Shared) (H : Hp) : Prop where
  frames : A.frames = some outer
  mod : Mod K mg base
  bs : ∀ b o, base.get? b = some o → s.heap.get? b = some o ∧ H b = none
  bsz : base.objs.size ≤ s.heap.objs.size
  funs : s.heap.FunFrames base outer
  frf : ∀ b ∈ frs outer, H b = none
  hok : HOk P w H s.heap
  bare : AllBare s.gens
def CE (outer : List Env) (P : Program) (w : World) (H : Hp) (s : Shared) (Q : VK) (u : Value) (s' : Shared) : Prop :=
  ∃ v H', s'.os = s.os ∧ AllBare s'.gens ∧ Un (frs outer) [] H H' s.heap s'.heap ∧ HOk P w H' s'.heap ∧ RelV v u ∧ Q v H'
def CR (CX : CXT) (outer : List Env) (P : Program) (w : World) (H : Hp) (s : Shared) (Q : VK) (E : XK) (r : Result) (s' : Shared) : Prop :=
  match r with
  | .ok (.ret u) => CE outer P w H s Q u s'
  | .ok _ => False
  | .error e => CX outer H s E e s'
structure FnOk (P : Program) (w : World) (K : PySem.W.Frag) (mg : Str → Option Value) (base : Heap) (CX : CXT) (k : Nat) (f : Addr) (fd : FuncData) (ps : List Str) (sp : Sp) : Prop where
  len : ∀ vs H Q E, sp vs H Q E → vs.length = ps.length
  run : ∀ (A : Around) (outer : List Env) (s : Shared) (H : Hp) (args : Args) (us : List Value) (vs : List V) (Q : VK) (E : XK), Room k A → Env0 P w K mg base A outer s H → BindsTo s fd args (ps.zip us) → Vals vs us → sp vs H Q E →
    codeAny (model P w) A (.call (.ref f) args) (CR CX outer P w H s Q E) s
theorem FnOk.mono {P : Program} {w : World} {K : PySem.W.Frag} {mg : Str → Option Value} {base : Heap} {CX : CXT} {j k : Nat} {f : Addr} {fd : FuncData} {ps : List Str} {sp : Sp} (F : FnOk P w K mg base CX j f fd ps sp) (h : j ≤ k) :
    FnOk P w K mg base CX k f fd ps sp := ⟨F.len, fun A outer s H args us vs Q E hr => F.run A outer s H args us vs Q E (hr.mono h)⟩
section
variable {X : Cx} {pins : List (Addr × Obj)} {σ : St} {H : Hp} {s s' : Shared}
theorem Inv.env0 (I : Inv X pins σ H s) : Env0 X.prog X.w X.K X.mg X.base X.A X.stack s H :=
  ⟨I.ok.frames, I.ok.mod, I.bs, Nat.le_trans I.ok.bsz I.sz, I.stack, I.stkFree, I.hok, I.bare⟩
theorem Inv.after {Q : VK} {u : Value} (I : Inv X pins σ H s) (h : CE X.stack X.prog X.w H s Q u s') : EP X pins σ Q u s' := by
  obtain ⟨v, H', os, bare, un, hok, r, q⟩ := h
  obtain ⟨hh, g, d, t, os'⟩ := s'
  obtain rfl : os' = s.os := os
  exact ⟨v, H', I.call (h' := hh) (g' := g) (d' := d) (t' := t) (ch := []) un hok bare (fun b z => absurd z (by simp)), r, q⟩
end

def tCall (sp : Sp) (dvs : List V) (E : XK) (t : TA) : TE := fun σ H Q => t σ H fun vs H1 => sp (vs ++ dvs) H1 Q E
def Binds (K : PySem.W.Frag) (fd : FuncData) (ps : List Str) (ds : List Value) : Prop :=
  ∀ (s : Shared) (us : List Value), K.In s.heap → (us ++ ds).length = ps.length → BindsTo s fd ⟨us, []⟩ (ps.zip (us ++ ds))
theorem Binds.all {K : PySem.W.Frag} {fd : FuncData} {ps : List Str} (h : ∀ us : List Value, us.length = ps.length → bindArgs fd ⟨us, []⟩ = pure (ps.zip us)) : Binds K fd ps [] := fun s us _ hl => by
  rw [List.append_nil] at hl ⊢
  exact .of_eq (h us hl)

def Passes (CX : CXT) (X : Cx) (E : XK) : Prop := ∀ (pins : List (Addr × Obj)) (σ : St) (H : Hp) (s : Shared) (e : Value) (s' : Shared), Inv X pins σ H s → CX X.stack H s E e s' → X.xe e s'

section
variable {X : Cx} {CX : CXT} {k : Nat} {f C : Addr} {fd : FuncData} {ps : List Str} {sp : Sp} {dvs : List V} {ds : List Value} {E : XK} {x m : Str} {p pos apos : Pos} {e o : Expr} {es : List Expr} {ta : TE} {t : TA}

theorem run_fn {pins : List (Addr × Obj)} {σ : St} {H : Hp} {s : Shared} {Q : VK} {us : List Value} {vs : List V} (F : FnOk X.prog X.w X.K X.mg X.base CX k f fd ps sp) (hr : Room k X.A) (hb : Binds X.K fd ps ds) (hd : Vals dvs ds) (hx : Passes CX X E)
    (I : Inv X pins σ H s) (r : Vals vs us) (h : sp (vs ++ dvs) H Q E) : wpAny (model X.prog X.w) X.A (call (.ref f) us) (EP X pins σ Q) X.xe s := by
  have r2 : Vals (vs ++ dvs) (us ++ ds) := r.append hd
  have hl : (us ++ ds).length = ps.length := by rw [← r2.length]; exact F.len _ _ _ _ h
  refine wpAny_call (codeAny_mono (F.run X.A X.stack s H ⟨us, []⟩ (us ++ ds) (vs ++ dvs) Q E hr I.env0 (hb s us I.kIn hl) r2 h) fun r s' hq => ?_)
  cases r with
  | error e => exact hx pins σ H s e s' I hq
  | ok fl =>
    cases fl with
    | ret u => exact I.after hq
    | next => exact False.elim hq
    | brk => exact False.elim hq
    | cont => exact False.elim hq

theorem pe_call (F : FnOk X.prog X.w X.K X.mg X.base CX k f fd ps sp) (hr : Room k X.A) (hg : Gl X x) (hm : X.mg x = some (.ref f)) (hk : PySem.W.keepIn X.K (.ref f) = true) (hb : Binds X.K fd ps ds) (hd : Vals dvs ds) (hx : Passes CX X E)
    (ha : PA X (e :: es) t) (hdb : (x == ("__debug__" : Str)) = false := by decide) (he : starEach (e :: es) X.env = (false, eval e X.env) :: starEach es X.env := by rfl) (hpl : (backTo pos (starEach es X.env)).any (·.1) = false := by rfl) :
    PE X (.Call (.Name x p) (e :: es) [] pos) (tCall sp dvs E t) := by
  intro pins s σ H Q I h
  refine wpAny_Call_Name_kw (ld_glob I hg hm ?_ hdb)
  refine PySem.W.callWith_K (h₀ := X.base) I.ok.mod.kin hk (thn (ha pos pins s σ H _ I h) fun us s1 ⟨vs, H1, I1, r, q⟩ => ⟨I1.kIn, ?_⟩) he hpl
  exact run_fn F hr hb hd hx I1 r q
structure Mk (K : PySem.W.Frag) (C f : Addr) : Prop where
  makes : PySem.W.makesIn K C = true
  init : PySem.W.findIn K (.ref C) "__init__" = some (some (.ref f))
  fn : PySem.W.isFn K (.ref f) = true
  kp : PySem.W.keepIn K (.ref C) = true

end

section
variable {X : Cx} {CX : CXT} {k : Nat} {f C : Addr} {fd : FuncData} {ps ks : List Str} {sp : Sp} {E : XK} {x m : Str} {p pos apos kpos : Pos} {e o : Expr} {es : List Expr} {kws : List Keyword} {te ta : TE} {t tk : TA} {nm : Option Str}
structure KBinds (K : PySem.W.Frag) (fd : FuncData) (ps ks : List Str) (g : List Value → List Value → List Value) (gV : List V → List V → List V) : Prop where
  to : ∀ (s : Shared) (us ws : List Value), K.In s.heap → (g us ws).length = ps.length → BindsTo s fd ⟨us, ks.zip ws⟩ (ps.zip (g us ws))
  rel : ∀ {vs : List V} {us : List Value} {zs : List V} {ws : List Value}, Vals vs us → Vals zs ws → Vals (gV vs zs) (g us ws)
variable {g : List Value → List Value → List Value} {gV : List V → List V → List V}
end

structure FnScope (N P : List Str) (sc : Scope) : Prop where
  kind : sc.kind = .function
  co : sc.isCoroutine = false
  gen : sc.isGenerator = false
  nd : N.Nodup
  pre : N.take P.length = P
  par : ∀ x ∈ P, sc.names.lookup x = some .local ∨ sc.names.lookup x = some .cell
  nofree : ∀ y ∈ sc.names, y.2 ≠ .free

theorem bindL_out {kindOf : Str → Option NameKind} {x : Str} : ∀ {binds : List (Str × Value)} {m : Str → Option Value}, (∀ v, (x, v) ∉ binds) → bindL kindOf binds m x = m x
  | [], _, _ => rfl
  | (n, v) :: r, m, h => by
    unfold bindL
    rw [bindL_out fun w hw => h w (List.mem_cons_of_mem _ hw)]
    split
    · have : x ≠ n := by rintro rfl; exact h v List.mem_cons_self
      simp [this]
    · rfl
theorem bindC_out {kindOf : Str → Option NameKind} {x : Str} : ∀ {binds : List (Str × Value)} {m : Str → Option Value}, (∀ v, (x, v) ∉ binds) → bindC kindOf binds m x = m x
  | [], _, _ => rfl
  | (n, v) :: r, m, h => by
    unfold bindC
    rw [bindC_out fun w hw => h w (List.mem_cons_of_mem _ hw)]
    split
    · rfl
    · have : x ≠ n := by rintro rfl; exact h v List.mem_cons_self
      simp [this]
theorem bindL_get {kindOf : Str → Option NameKind} {x : Str} {v : Value} : ∀ {P : List Str} {vs : List Value} {i : Nat} {m : Str → Option Value}, P.Nodup → P[i]? = some x → vs[i]? = some v → kindOf x = some .local →
    bindL kindOf (P.zip vs) m x = some v
  | [], _, _, _, _, h, _, _ => by simp at h
  | _ :: _, [], _, _, _, _, h, _ => by simp at h
  | p :: P, w :: vs, 0, m, nd, h1, h2, hk => by
    simp at h1 h2; subst h1; subst h2
    show bindL kindOf ((p, w) :: P.zip vs) m p = _
    unfold bindL
    rw [bindL_out fun v hv => (List.nodup_cons.mp nd).1 (List.of_mem_zip hv).1, if_pos hk]
    simp
  | p :: P, w :: vs, i + 1, m, nd, h1, h2, hk => by
    show bindL kindOf ((p, w) :: P.zip vs) m x = _
    unfold bindL
    exact bindL_get (i := i) (List.nodup_cons.mp nd).2 (by simpa using h1) (by simpa using h2) hk
theorem bindC_get {kindOf : Str → Option NameKind} {x : Str} {v : Value} : ∀ {P : List Str} {vs : List Value} {i : Nat} {m : Str → Option Value}, P.Nodup → P[i]? = some x → vs[i]? = some v → kindOf x ≠ some .local →
    bindC kindOf (P.zip vs) m x = some v
  | [], _, _, _, _, h, _, _ => by simp at h
  | _ :: _, [], _, _, _, _, h, _ => by simp at h
  | p :: P, w :: vs, 0, m, nd, h1, h2, hk => by
    simp at h1 h2; subst h1; subst h2
    show bindC kindOf ((p, w) :: P.zip vs) m p = _
    unfold bindC
    rw [bindC_out fun v hv => (List.nodup_cons.mp nd).1 (List.of_mem_zip hv).1, if_neg hk]
    simp
  | p :: P, w :: vs, i + 1, m, nd, h1, h2, hk => by
    show bindC kindOf ((p, w) :: P.zip vs) m x = _
    unfold bindC
    exact bindC_get (i := i) (List.nodup_cons.mp nd).2 (by simpa using h1) (by simpa using h2) hk

def start (N : List Str) (vs : List V) : St := vs.map some ++ List.replicate (N.length - vs.length) none

def cxOf (CX : CXT) (P : Program) (w : World) (K : PySem.W.Frag) (mg : Str → Option Value) (base : Heap) (N : List Str) (qual : Str) (scope : Scope) (f : Addr) (cd : Value) (A : Around) (outer : List Env) (s : Shared) (H : Hp) (E : XK) : Cx where
  prog := P
  w := w
  K := K
  mg := mg
  base := base
  A := A.deeper (envOfC qual scope s.heap.objs.size f cd)
  N := N
  s₀ := s
  H₀ := H
  env := envOfC qual scope s.heap.objs.size f cd
  outer := outer
  stack := envOfC qual scope s.heap.objs.size f cd :: outer
  ex := []
  calm := true
  fn := fun _ => true
  pn := []
  xe := fun e s' => wpAny (model P w) (A.deeper (envOfC qual scope s.heap.objs.size f cd)) (leaving (envOfC qual scope s.heap.objs.size f cd) e) (fun _ s'' => CX outer H s E e s'') (fun e' s'' => CX outer H s E e' s'') s'

theorem cell_has {sc : Scope} {n : Nat} {x : Str} (h : sc.names.lookup x = some .cell) : ∃ c, (cellsFrom n sc.names []).lookup x = some c := by
  have q := PySem.W.cellsFrom_some sc.names n [] (.inl h)
  exact Option.isSome_iff_exists.mp q

theorem inv_start {CX : CXT} {P : Program} {w : World} {K : PySem.W.Frag} {mg : Str → Option Value} {base : Heap} {N ps : List Str} {qual : Str} {scope : Scope} {f : Addr} {cd : Value} {A : Around} {outer : List Env} {s s1 : Shared} {H : Hp} {E : XK} {us : List Value} {vs : List V}
    (S : FnScope N ps scope) (hd : A.handled = none) (e0 : Env0 P w K mg base A outer s H) (hl : vs.length = ps.length) (r : Vals vs us)
    (x : InCallC s s.heap.objs.size (bindL (envOfC qual scope s.heap.objs.size f cd).kindOf (ps.zip us) fun _ => none) (cellsFrom (s.heap.objs.size + 1) scope.names []) (bindC (envOfC qual scope s.heap.objs.size f cd).kindOf (ps.zip us) fun _ => none) s1) :
    Inv (cxOf CX P w K mg base N qual scope f cd A outer s H E) [] (start N vs) H s1 := by
  have hpl : ps.length ≤ N.length := by have := congrArg List.length S.pre; rw [List.length_take] at this; omega
  obtain ⟨h1, tk, rfl, hk⟩ := x.done
  have noA : ∀ b : Addr, b ∉ (cxOf CX P w K mg base N qual scope f cd A outer s H E).ex := fun b z => absurd (show b ∈ ([] : List Addr) from z) (by simp)
  refine ⟨⟨e0.mod, S.kind, rfl, rfl, Nat.le_refl _, fun y z c h1 h2 => ?_, fun y hy => ?_, fun y c _ h => ?_, fun _ => hd, Around.frames_deeper e0.frames, .inr ⟨rfl, rfl⟩, fun b z => absurd z (noA b), e0.bs, e0.bsz, fun b _ _ => noA b, fun b z => absurd z (noA b), e0.funs, e0.frf⟩,
    rfl, e0.bare, Un.kept hk, ⟨_, x.toInCall.ns, fun i y v h1 h2 h3 => ?_⟩, fun y c h => ⟨_, x.cell y c h⟩, e0.hok.fresh (Nat.le_refl _), fun y c h => ?_, fun p hp => absurd (show p ∈ ([] : List (Addr × Obj)) from hp) (by simp), e0.hok.kept hk, ?_⟩
  · exact name_of_addr x.apart (PySem.mem_of_lookup h1) (PySem.mem_of_lookup h2)
  · have hy : scope.names.lookup y = some .cell ∨ scope.names.lookup y = some .free := hy
    rcases hy with hy | hy
    · exact cell_has hy
    · exact absurd rfl (S.nofree _ (PySem.mem_of_lookup hy))
  · exact Nat.le_of_lt (x.above y c (PySem.mem_of_lookup h))
  · have hi : i < vs.length := by
      unfold start at h2
      by_cases hi : i < vs.length
      · exact hi
      · rw [List.getElem?_append_right (by simpa using hi)] at h2
        rw [List.getElem?_replicate] at h2
        split at h2 <;> cases h2
    have ha : vs[i]? = some v := by
      unfold start at h2
      rw [List.getElem?_append_left (by simpa using hi), List.getElem?_map] at h2
      cases e : vs[i]? with
      | none => rw [e] at h2; cases h2
      | some a => rw [e] at h2; cases h2; rfl
    obtain ⟨u, hu, rv⟩ := r.get ha
    have hp : ps[i]? = some y := by
      rw [← S.pre, List.getElem?_take_of_lt (by omega)]; exact h1
    have ndP : ps.Nodup := by rw [← S.pre]; exact S.nd.sublist (List.take_sublist _ _)
    refine ⟨u, rv, ?_⟩
    rcases S.par y (List.mem_of_getElem? hp) with k | k
    · exact .inl ⟨k, bindL_get ndP hp hu k⟩
    · obtain ⟨c, e⟩ := cell_has (n := s.heap.objs.size + 1) k
      refine .inr ⟨.inl k, c, e, ?_⟩
      have q := x.cell y c e
      rw [bindC_get ndP hp hu (by show scope.names.lookup y ≠ _; rw [k]; decide)] at q
      exact q
  · exact e0.hok.fresh (Nat.le_of_lt (x.above y c (PySem.mem_of_lookup h)))
  · unfold start
    show _ = N.length
    rw [List.length_append, List.length_map, List.length_replicate]
    omega

theorem fn_of {CX : CXT} {P : Program} {w : World} {K : PySem.W.Frag} {mg : Str → Option Value} {base : Heap} {k : Nat} {f : Addr} {name qual : Str} {params : Arguments} {body : List Stmt} {scope : Scope} {dV kV doc pm cdv ct oc : Value} {an od : Option Addr}
    {osl : Array (Option Value)} {N ps : List Str} {sp : Sp} (lk : K.lookup f = some ⟨oc, od, .func (PySem.W.fnOf name qual params body scope dV kV doc pm an cdv ct), osl⟩) (hcd : PySem.W.codeIn K cdv qual = true) (S : FnScope N ps scope)
    (len : ∀ vs H Q E, sp vs H Q E → vs.length = ps.length)
    (hbody : ∀ (A : Around) (outer : List Env) (s : Shared) (H : Hp) (vs : List V) (Q : VK) (E : XK), Room k (A.deeper (envOfC qual scope s.heap.objs.size f cdv)) → sp vs H Q E →
      ∃ t, PSs (cxOf CX P w K mg base N qual scope f cdv A outer s H E) body t ∧ t { nx := fun _ H' => Q .non H', rt := Q } (start N vs) H) :
    FnOk P w K mg base CX (k + 1) f (PySem.W.fnOf name qual params body scope dV kV doc pm an cdv ct) ps sp := by
  refine ⟨len, fun A outer s H args us vs Q E hr e0 hb r hsp => ?_⟩
  have hl := len _ _ _ _ hsp
  have KX : K.In s.heap := e0.mod.kin.keeps fun b o e => (e0.bs b o e).1
  have lim : s.heap.NoLimit := e0.mod.nolimit.keeps fun b o e => (e0.bs b o e).1
  have hkind : ∀ y ∈ ps.zip us, scope.names.lookup y.1 = some .local ∨ (scope.names.lookup y.1 = some .cell ∧ ((cellsFrom (s.heap.objs.size + 1) scope.names []).lookup y.1).isSome = true) := fun ⟨n, v⟩ hy => by
    rcases S.par n (List.of_mem_zip hy).1 with q | q
    · exact .inl q
    · exact .inr ⟨q, PySem.W.cellsFrom_some _ _ _ (.inl q)⟩
  refine codeAny_call_function hr.depth (KX _ _ lk) rfl S.co S.gen rfl (PySem.W.codeRec_of KX hcd) (hb _ _ _ _ ?_)
  refine wpAny_newFunctionEnv_cells S.kind hkind fun env he s1 x => ?_
  subst he
  refine ⟨lim.keeps x.toInCall.keep, codeAny_func ?_⟩
  obtain ⟨t, ht, hq⟩ := hbody A outer s H vs Q E (hr.deeper _) hsp
  have I : Inv (cxOf CX P w K mg base N qual scope f cdv A outer s H E) [] (start N vs) H s1 := inv_start S hr.hd e0 hl r x
  refine wpAny_mono (ht [] s1 (start N vs) H _ I hq) (fun fl s' hs => ?_) fun e s' hs => hs
  have fin : ∀ {σ' : St} {H' : Hp} {v : V} {u : Value}, Inv (cxOf CX P w K mg base N qual scope f cdv A outer s H E) [] σ' H' s' → RelV v u → Q v H' → CE outer P w H s Q u s' :=
    fun {σ' H' v u} J rv q => ⟨v, H', J.os, J.bare, J.base, J.hok, rv, q⟩
  cases fl with
  | ret u =>
    obtain ⟨v, σ', H', J, rv, q⟩ := hs
    exact fin J rv q
  | next =>
    obtain ⟨σ', H', J, q⟩ := hs
    exact fin (v := V.non) (u := Value.none) J rfl q
  | brk =>
    obtain ⟨_, _, _, q⟩ := hs
    exact False.elim q
  | cont =>
    obtain ⟨_, _, _, q⟩ := hs
    exact False.elim q
end L2

namespace L2
open PySem PySem.Spec PyProof.Rows
section
variable {X : Cx} {x : Str} {p pos : Pos} {e : Expr} {es : List Expr} {t : TA} {id T : String} {r : List V → Hp → VK → Prop}

def tCB (r : List V → Hp → VK → Prop) (t : TA) : TE := fun σ H Q => t σ H fun vs H1 => r vs H1 Q
theorem pe_callB (hc : CallR X (.builtin id) r) (hg : Gl X x) (hm : X.mg x = none) (hv : bootBuiltins x = some (.builtin id)) (ha : PA X (e :: es) t) (hn : x ≠ "__name__" := by decide) (hdb : (x == ("__debug__" : Str)) = false := by decide)
    (he : starEach (e :: es) X.env = (false, eval e X.env) :: starEach es X.env := by rfl) (hpl : (backTo pos (starEach es X.env)).any (·.1) = false := by rfl) : PE X (.Call (.Name x p) (e :: es) [] pos) (tCB r t) := by
  intro pins s σ H Q I h
  refine wpAny_Call_Name_kw (ld_blt I hg hm hv ?_ hn hdb)
  exact PyProof.Rows.callWith_builtin1 (thn (ha pos pins s σ H _ I h) fun us s1 ⟨vs, H1, I1, r1, q1⟩ => hc pins s1 σ H1 vs us Q I1 r1 q1) he hpl
theorem pe_callTy (hc : CallR X (.type T) r) (hg : Gl X x) (hm : X.mg x = none) (hv : bootBuiltins x = some (.type T)) (ha : PA X (e :: es) t) (hn : x ≠ "__name__" := by decide) (hdb : (x == ("__debug__" : Str)) = false := by decide)
    (he : starEach (e :: es) X.env = (false, eval e X.env) :: starEach es X.env := by rfl) (hpl : (backTo pos (starEach es X.env)).any (·.1) = false := by rfl) : PE X (.Call (.Name x p) (e :: es) [] pos) (tCB r t) := by
  intro pins s σ H Q I h
  refine wpAny_Call_Name_kw (ld_blt I hg hm hv ?_ hn hdb)
  exact PyProof.Rows.callWith_type1 (thn (ha pos pins s σ H _ I h) fun us s1 ⟨vs, H1, I1, r1, q1⟩ => hc pins s1 σ H1 vs us Q I1 r1 q1) he hpl
end
end L2

namespace HT
open PySem PyProof.Rows

section
open PySem.SeqAt
open PySem.AutoSeq1 (wpAny_loadPart')
open PySem.MeetsSeq PySem.MeetsSeq2 PySem.MeetsSeq3

end

section
variable {prog : Program} {w : World} {A : Around} {E : Value → Shared → Prop} {s : Shared}

theorem cat_tup {t b : Addr} {vs ws : List Value} {Q : Value → Shared → Prop} (ht : IsTup s.heap t vs.toArray) (hb : IsTup s.heap b ws.toArray) (hv : vs ≠ [])
    (h1 : ws = [] → Q (.ref t) s) (h2 : ws ≠ [] → Q (.ref s.heap.objs.size) { s with heap := s.heap.push { cls := .type "tuple", data := .seq (vs ++ ws).toArray } })
    (hsz : vs.length + ws.length ≤ sizeLine) : wpAny (model prog w) A (binaryOp .Add (.ref t) (.ref b)) Q E s := by
  obtain ⟨⟨cls, dd, data, sl⟩, ho, hc, n, hd⟩ := id ht
  obtain ⟨⟨cls2, dd2, data2, sl2⟩, ho2, hc2, n2, hd2⟩ := id hb
  simp only at hc hd hc2 hd2
  subst hc hd hc2 hd2
  have e : vs.toArray ++ ws.toArray = (vs ++ ws).toArray := by simp
  by_cases hw : ws = []
  · exact concat_meets ⟨_, ho, rfl⟩ ⟨_, ho2, rfl⟩ noFill_tuple_add seq_tuple_add PySem.F.slot_tuple_add PySem.F.entry_tuple_add (PySem.F.args_tuple_add_2 _ _)
      (tuple_addW1 t b vs.toArray ws.toArray n n2 dd dd2 sl sl2 (by simpa using hv) (by simp [hw])) ⟨ho, ho2, h1 hw⟩
  · refine concat_meets ⟨_, ho, rfl⟩ ⟨_, ho2, rfl⟩ noFill_tuple_add seq_tuple_add PySem.F.slot_tuple_add PySem.F.entry_tuple_add (PySem.F.args_tuple_add_2 _ _)
      (tuple_addW2 t b vs.toArray ws.toArray n n2 dd dd2 sl sl2 (by simpa using hv) (by simpa using hw) (by rw [List.size_toArray, List.size_toArray]; exact hsz)) ⟨ho, ho2, ?_⟩
    rw [e]
    exact h2 hw

def sIx (n d : Nat) : Option Int → Nat
  | none => d
  | some v => if v < 0 then (v + (n : Int)).toNat else min v.toNat n
theorem sIx_none (n d : Nat) : sIx n d none = d := rfl
theorem sIx_nat (n d k : Nat) : sIx n d (some (k : Int)) = min k n := by
  show (if (k : Int) < 0 then ((k : Int) + (n : Int)).toNat else min (k : Int).toNat n) = min k n
  rw [if_neg (by omega), Int.toNat_natCast]
theorem sIx_le (n d : Nat) (hd : d ≤ n) (o : Option Int) : sIx n d o ≤ n := by
  cases o with
  | none => exact hd
  | some v =>
    show (if v < 0 then (v + (n : Int)).toNat else min v.toNat n) ≤ n
    by_cases hv : v < 0
    · rw [if_pos hv]; omega
    · rw [if_neg hv]; exact Nat.min_le_right _ _
theorem clip_eq (v : Int) (n d : Nat) : (if v < 0 then max (v + (n : Int)) 0 else min v (n : Int)) = ((sIx n d (some v) : Nat) : Int) := by
  show (if v < 0 then max (v + (n : Int)) 0 else min v (n : Int)) = (((if v < 0 then (v + (n : Int)).toNat else min v.toNat n) : Nat) : Int)
  by_cases hv : v < 0
  · simp only [if_pos hv]; omega
  · simp only [if_neg hv]; omega
theorem adjust_gen (lo hi : Option Int) (n : Nat) : Builtin.Slice.sliceAdjust lo hi 1 (n : Int) = (((sIx n 0 lo : Nat) : Int), ((sIx n n hi : Nat) : Int)) := by
  have h1 : ¬ ((1 : Int) < 0) := by omega
  unfold Builtin.Slice.sliceAdjust
  simp only [h1, if_false]
  refine Prod.ext ?_ ?_
  · cases lo with
    | none => rfl
    | some v => exact clip_eq v n 0
  · cases hi with
    | none => rfl
    | some v => exact clip_eq v n n
theorem places_gen (i j : Nat) : Builtin.Slice.slicePlaces (i : Int) (j : Int) 1 = j - i := by
  unfold Builtin.Slice.slicePlaces
  have h1 : (1 : Int) > 0 := by omega
  simp only [h1, if_true, Int.ediv_one]
  split <;> omega
theorem slicePart_ {v : Value} {o : Option Int} {Q : Option Int → Shared → Prop} (p : IsPart v o) (h : Q o s) : wpAny (model prog w) A (Builtin.Slice.slicePartIndex v) Q E s := by
  cases p with
  | none => exact slicePart_none h
  | int i t => exact slicePart_int h
theorem sliceApplied_gen {sl : Addr} {vl vu : Value} {lo hi : Option Int} {n : Nat} {Q : Int × Int × Nat → Shared → Prop} (hs : s.heap.IsSliceOf sl vl vu .none) (pl : IsPart vl lo) (pu : IsPart vu hi)
    (h : Q (((sIx n 0 lo : Nat) : Int), 1, sIx n n hi - sIx n 0 lo) s) : wpAny (model prog w) A (Builtin.Slice.sliceApplied (.ref sl) (pure (n : Int))) Q E s := by
  obtain ⟨os, hos, hcs, hds⟩ := id hs
  unfold Builtin.Slice.sliceApplied Builtin.Slice.sliceFields
  refine wpAny_bind (wpAny_bind (wpAny_field hos hds (x := vl) rfl (wpAny_bind (wpAny_field hos hds (x := vu) rfl (wpAny_bind (wpAny_field hos hds (x := .none) rfl (wpAny_pure ?_)))))))
  refine wpAny_bind (slicePart_none ?_)
  show wpAny _ _ (if ((1 : Int) == 0) = true then _ else _) _ _ s
  rw [if_neg (by decide)]
  refine wpAny_bind (slicePart_ pl (wpAny_bind (slicePart_ pu (wpAny_bind (wpAny_pure ?_)))))
  show wpAny _ _ (match Builtin.Slice.sliceAdjust lo hi 1 (n : Int) with | (lo, hi) => pure (lo, (1 : Int), Builtin.Slice.slicePlaces lo hi 1)) _ _ s
  rw [adjust_gen lo hi n]
  show wpAny _ _ (pure (((sIx n 0 lo : Nat) : Int), (1 : Int), Builtin.Slice.slicePlaces ((sIx n 0 lo : Nat) : Int) ((sIx n n hi : Nat) : Int) 1)) _ _ s
  rw [places_gen]
  exact wpAny_pure h
theorem pick_gen (xs : Array Value) (i k : Nat) : ((List.range k).filterMap fun (m : Nat) => xs[((i : Int) + (m : Int) * 1).toNat]?).toArray = ((xs.toList.drop i).take k).toArray := by
  have e : (fun (m : Nat) => xs[((i : Int) + (m : Int) * 1).toNat]?) = fun m => xs[i + m]? := by
    funext m
    have : ((i : Int) + (m : Int) * 1).toNat = i + m := by omega
    rw [this]
  rw [e]
  have := pick_run xs i k
  rw [List.filterMap_map] at this
  have e2 : ((fun x => xs[x]?) ∘ fun x => i + x) = fun m => xs[i + m]? := rfl
  rw [e2] at this
  rw [this]

theorem getItem_tuple_cut {t sl : Addr} {items : Array Value} {vl vu : Value} {lo hi : Option Int} {Q : Value → Shared → Prop} (ht : IsTup s.heap t items) (hs : s.heap.IsSliceOf sl vl vu .none) (pl : IsPart vl lo) (pu : IsPart vu hi)
    (hw : ¬ (sIx items.size 0 lo = 0 ∧ sIx items.size items.size hi = items.size))
    (h : Q (.ref s.heap.objs.size) { s with heap := s.heap.push { cls := .type "tuple", data := .seq ((items.toList.drop (sIx items.size 0 lo)).take (sIx items.size items.size hi - sIx items.size 0 lo)).toArray } })
    (hsz : items.size ≤ sizeLine) : wpAny (model prog w) A (getItem (.ref t) (.ref sl)) Q E s := by
  have htake : sizeOk (.seq ((items.toList.drop (sIx items.size 0 lo)).take (sIx items.size items.size hi - sIx items.size 0 lo)).toArray) := by
    show ((items.toList.drop (sIx items.size 0 lo)).take (sIx items.size items.size hi - sIx items.size 0 lo)).toArray.size ≤ sizeLine
    rw [List.size_toArray, List.length_take, List.length_drop, Array.length_toList]
    omega
  have hj : sIx items.size items.size hi ≤ items.size := sIx_le _ _ (Nat.le_refl _) hi
  obtain ⟨os, hos, hcs, hds⟩ := id hs
  have hTs : s.TypeIs (.ref sl) "slice" := ⟨os, hos, hcs⟩
  unfold getItem
  try with_reducible refine wpAny_holding ?_
  first | refine wpAny_bind (wpAny_pure ?_) | skip
  refine wpAny_bind (wpAny_sequenceKey ht.typeIs (by decide) ?_)
  refine wpAny_bind (wpAny_callSpecial?_slot (name := Str.ofString "__getitem__") ht.typeIs PyProof.Rows.slot_tuple_getitem
    (wpAny_call_entry PyProof.Rows.slot_tuple_getitem ht.typeIs entry_tuple_getitem ?_ (args_tuple_getitem _ _)))
  show wpAny _ _ (Builtin.Tuple.tupleItemsOf (.ref t) >>= _) _ _ s
  refine wpAny_bind (tupleItemsOf_ ht ?_)
  refine wpAny_bind (wpAny_typeOf hTs ?_)
  rw [if_pos (by decide)]
  refine wpAny_bind (sliceApplied_gen hs pl pu ?_)
  have hno : ¬ ((((sIx items.size 0 lo : Nat) : Int) == 0 && (1 : Int) == 1 && (sIx items.size items.size hi - sIx items.size 0 lo) == items.size) = true) := by
    intro q
    rw [Bool.and_eq_true, Bool.and_eq_true] at q
    have q1 : ((sIx items.size 0 lo : Nat) : Int) = 0 := eq_of_beq q.1.1
    have q2 : sIx items.size items.size hi - sIx items.size 0 lo = items.size := eq_of_beq q.2
    exact hw ⟨by omega, by omega⟩
  show wpAny _ _ (if (((sIx items.size 0 lo : Nat) : Int) == 0 && (1 : Int) == 1 && (sIx items.size items.size hi - sIx items.size 0 lo) == items.size) = true then _ else _) _ _ s
  rw [if_neg hno, pick_gen]
  first
    | exact wpAny_bind (m := Builtin.Tuple.tupleExact _) (wpAny_newObj_type (wpAny_pure ⟨_, rfl, wpAny_pure h⟩) htake)
    | exact wpAny_bind (m := Builtin.Tuple.tupleExact _) (wpAny_newObj_type (wpAny_bind (wpAny_pure (wpAny_pure ⟨_, rfl, wpAny_pure h⟩))) htake)
    | exact wpAny_bind (wpAny_bind (m := Builtin.Tuple.tupleExact _) (wpAny_newObj_type (wpAny_pure (wpAny_pure ⟨_, rfl, wpAny_pure h⟩)) htake))
    | exact wpAny_bind (wpAny_bind (m := Builtin.Tuple.tupleExact _) (wpAny_newObj_type (wpAny_pure ⟨_, rfl, wpAny_pure h⟩) htake))
end
end HT

namespace L2
open PySem PySem.Spec PyProof.Rows

abbrev TO := St → Hp → (Option Int → Hp → Prop) → Prop
def PO (X : Cx) (e : Option Expr) (t : TO) : Prop :=
  ∀ (pins : List (Addr × Obj)) (s : Shared) (σ : St) (H : Hp) (Q : Option Int → Hp → Prop), Inv X pins σ H s → t σ H Q →
    wpAny (model X.prog X.w) X.A (evalPart e X.env) (fun u s' => ∃ o H', Inv X pins σ H' s' ∧ IsPart u o ∧ Q o H') X.xe s
def tNoPart : TO := fun _ H Q => Q none H
def tPart (t : TE) : TO := fun σ H Q => t σ H fun x H1 => ∃ i, x = .int i ∧ Q (some i) H1

section
variable {X : Cx} {e : Expr} {te : TE} {lo hi : Option Expr} {tl th : TO} {pos p2 : Pos}

theorem po_none : PO X none tNoPart := by
  intro pins s σ H Q I h
  rw [evalPart_none]
  exact wpAny_pure ⟨none, H, I, .none, h⟩
theorem po_some (h : PE X e te) : PO X (some e) (tPart te) := by
  intro pins s σ H Q I hw
  rw [evalPart_some]
  refine thn (h pins s σ H _ I hw) fun u s1 ⟨x, H1, I1, r1, q1⟩ => ?_
  obtain ⟨i, rfl, q⟩ := q1
  obtain ⟨t, rfl⟩ := r1
  exact ⟨some i, H1, I1, .int i t, q⟩

def SlR (X : Cx) (r : V → Option Int → Option Int → Hp → VK → Prop) : Prop :=
  ∀ (pins : List (Addr × Obj)) (s : Shared) (σ : St) (H : Hp) (x : V) (v vl vu : Value) (lo hi : Option Int) (sl : Addr) (Q : VK), Inv X pins σ H s → RelV x v → s.heap.IsSliceOf sl vl vu .none → IsPart vl lo → IsPart vu hi → r x lo hi H Q →
    ∃ T id, typeLookup (.type T) "__getitem__" = pure (some (.builtin id)) ∧ s.TypeIs v T ∧ wpAny (model X.prog X.w) X.A (getItem v (.ref sl)) (EP X pins σ Q) X.xe s
def tSl (r : V → Option Int → Option Int → Hp → VK → Prop) (te : TE) (tl th : TO) : TE := fun σ H Q => te σ H fun x H1 => tl σ H1 fun l H2 => th σ H2 fun u H3 => r x l u H3 Q
theorem pe_slice {r : V → Option Int → Option Int → Hp → VK → Prop} (hr : SlR X r) (he : PE X e te) (hl : PO X lo tl) (hu : PO X hi th) : PE X (.Subscript e (.Slice lo hi none p2) pos) (tSl r te tl th) := by
  intro pins s σ H Q I h
  refine Subscript_ (thn (he pins s σ H _ I h) fun v s1 ⟨x, H1, I1, r1, q1⟩ => ?_)
  refine wpAny_Slice (thn (hl pins s1 σ H1 _ I1 q1) fun vl s2 ⟨l, H2, I2, pl, q2⟩ => thn (hu pins s2 σ H2 _ I2 q2) fun vu s3 ⟨u, H3, I3, pu, q3⟩ => ?_)
  rw [evalPart_none]
  refine wpAny_pure ?_
  have I4 : Inv X pins σ H3 { s3 with heap := s3.heap.push { cls := .type "slice", data := .fields #[vl, vu, .none] } } := I3.kept (t' := s3.toks) fun b ob q => Heap.get?_push_of_some _ q
  obtain ⟨T, id, hT, ht, hg⟩ := hr pins { s3 with heap := s3.heap.push { cls := .type "slice", data := .fields #[vl, vu, .none] } } σ H3 x v vl vu l u s3.heap.objs.size Q I4 r1 (Heap.IsSliceOf.new ..) pl pu q3
  show wpAny (model X.prog X.w) X.A (subscriptTail e (.Slice lo hi none p2) v (.ref s3.heap.objs.size)) (EP X pins σ Q) X.xe { s3 with heap := s3.heap.push { cls := .type "slice", data := .fields #[vl, vu, .none] } }
  exact tail_any (ops := [.ref s3.heap.objs.size, v]) ht hT hg (by with_unfolding_all rfl)

def cutV (xs : List V) (lo hi : Option Int) : List V := (xs.drop (HT.sIx xs.length 0 lo)).take (HT.sIx xs.length xs.length hi - HT.sIx xs.length 0 lo)
theorem cutV_length (xs : List V) (lo hi : Option Int) : (cutV xs lo hi).length ≤ xs.length := by
  unfold cutV
  rw [List.length_take, List.length_drop]
  omega
def rSlT (K : PySem.W.Frag) : V → Option Int → Option Int → Hp → VK → Prop := fun x lo hi H Q => ∃ a xs, x = .ref a ∧ SqT K H a xs ∧
  ¬ (HT.sIx xs.length 0 lo = 0 ∧ HT.sIx xs.length xs.length hi = xs.length) ∧ ∀ p, H p = none → Q (.ref p) (upd H p (.tup (cutV xs lo hi)))
theorem sl_tup : SlR X (rSlT X.K) := by
  intro pins s σ H x v vl vu lo hi sl Q I rx hs pl pu h
  obtain ⟨a, xs, rfl, hx, hw, q⟩ := h
  cases rx
  obtain ⟨its, r, ht, hz⟩ := I.tuple hx
  have hlen : its.toArray.size = xs.length := by rw [List.size_toArray]; exact r.length.symm
  refine ⟨"tuple", _, PyProof.Rows.slot_tuple_getitem.lookup, ht.typeIs, ?_⟩
  refine HT.getItem_tuple_cut ht hs pl pu (by rw [hlen]; exact hw) ?_ (by rw [hlen]; exact hz)
  rw [hlen]
  refine ⟨.ref s.heap.objs.size, _, I.laid (t' := s.toks) (o := .tup (cutV xs lo hi)) (fun b ob q => Heap.get?_push_of_some _ q) (Nat.le_refl _) ?_, rfl, q _ (I.hok.fresh (Nat.le_refl _))⟩
  exact ⟨Nat.le_trans (cutV_length xs lo hi) hz, _, (r.drop (HT.sIx xs.length 0 lo)).take (HT.sIx xs.length xs.length hi - HT.sIx xs.length 0 lo), IsTup.new _ _⟩

def rCatT (K : PySem.W.Frag) : R2 := fun x y H Q => ∃ a b xs ys, x = .ref a ∧ y = .ref b ∧ SqT K H a xs ∧ SqT K H b ys ∧ xs ≠ [] ∧ xs.length + ys.length ≤ sizeLine ∧
  (ys = [] → Q (.ref a) H) ∧ (ys ≠ [] → ∀ p, H p = none → Q (.ref p) (upd H p (.tup (xs ++ ys))))
theorem Vals.nil_iff {xs : List V} {us : List Value} (r : Vals xs us) : us = [] ↔ xs = [] := by
  cases r with
  | nil => simp
  | cons _ _ => simp
theorem op_catT : OpR X (binaryOp .Add) (rCatT X.K) := by
  intro pins s σ H x y v u Q I rx ry h
  obtain ⟨a, b, xs, ys, rfl, rfl, ha, hb, hx, hz, q1, q2⟩ := h
  cases rx
  cases ry
  obtain ⟨its, r1, p1, _⟩ := I.tuple ha
  obtain ⟨its2, r2, p2, _⟩ := I.tuple hb
  refine HT.cat_tup p1 p2 (fun z => hx (r1.nil_iff.mp z)) (fun z => ⟨.ref a, H, I, rfl, q1 (r2.nil_iff.mp z)⟩) (fun z => ?_) (by rw [← r1.length, ← r2.length]; exact hz)
  refine ⟨.ref s.heap.objs.size, _, I.laid (t' := s.toks) (o := .tup (xs ++ ys)) (fun b ob q => Heap.get?_push_of_some _ q) (Nat.le_refl _) ?_, rfl, q2 (fun w => z (r2.nil_iff.mpr w)) _ (I.hok.fresh (Nat.le_refl _))⟩
  exact ⟨by rw [List.length_append]; exact hz, _, r1.append r2, IsTup.new _ _⟩
end
end L2

namespace L2
open PySem PySem.Spec PyProof.Rows

def ixN (n : Nat) (i : Int) : Option Nat := if 0 ≤ i then (if i < n then some i.toNat else none) else if -(n : Int) ≤ i then some (i + n).toNat else none
def atI {α : Type} (xs : List α) (i : Int) : Option α := (ixN xs.length i).bind fun j => xs[j]?
theorem ixN_seq {n : Nat} {i : Int} {j : Nat} (h : ixN n i = some j) : seqIndex? i n = some j ∧ j < n ∧ -(n : Int) ≤ i ∧ i < n := by
  unfold ixN at h
  by_cases h0 : 0 ≤ i
  · rw [if_pos h0] at h
    by_cases h1 : i < n
    · rw [if_pos h1] at h
      have e : i.toNat = j := Option.some.inj h
      exact ⟨by rw [seqIndex_of h0 h1, e], by omega, by omega, h1⟩
    · rw [if_neg h1] at h; cases h
  · rw [if_neg h0] at h
    by_cases h1 : -(n : Int) ≤ i
    · rw [if_pos h1] at h
      have e : (i + n).toNat = j := Option.some.inj h
      exact ⟨by rw [seqIndex_neg (by omega) h1, e], by omega, h1, by omega⟩
    · rw [if_neg h1] at h; cases h
theorem atI_get {α : Type} {xs : List α} {i : Int} {v : α} (h : atI xs i = some v) : ∃ j, seqIndex? i xs.length = some j ∧ xs[j]? = some v ∧ j < xs.length ∧ -(xs.length : Int) ≤ i ∧ i < xs.length := by
  unfold atI at h
  cases e : ixN xs.length i with
  | none => rw [e] at h; cases h
  | some j =>
    rw [e] at h
    obtain ⟨h1, h2, h3, h4⟩ := ixN_seq e
    exact ⟨j, h1, h, h2, h3, h4⟩
theorem atI_nat {α : Type} {xs : List α} {j : Nat} {v : α} (h : xs[j]? = some v) : atI xs (j : Int) = some v := by
  have hj : j < xs.length := (List.getElem?_eq_some_iff.mp h).1
  have e : ixN xs.length (j : Int) = some j := by
    unfold ixN
    rw [if_pos (by omega), if_pos (by omega)]; simp
  unfold atI; rw [e]; exact h
theorem atI_last {α : Type} (xs : List α) (v : α) : atI (xs ++ [v]) (-1) = some v := by
  have hl : (xs ++ [v]).length = xs.length + 1 := by simp
  have e : ixN (xs ++ [v]).length (-1) = some xs.length := by
    unfold ixN
    rw [hl, if_neg (by decide), if_pos (by omega)]
    congr 1
    omega
  unfold atI
  rw [e]
  show (xs ++ [v])[xs.length]? = some v
  simp

def PlainIx (b : Expr) : Prop := ∀ o i, subscripted b false o i = operate [o, i] (getItem o i)
def IxR (X : Cx) (r : R2) : Prop :=
  ∀ (value slice : Expr) (pins : List (Addr × Obj)) (s : Shared) (σ : St) (H : Hp) (x y : V) (v u : Value) (Q : VK), Inv X pins σ H s → RelV x v → RelV y u → r x y H Q →
    subscripted slice false v u = operate [v, u] (getItem v u) → wpAny (model X.prog X.w) X.A (subscriptTail value slice v u) (EP X pins σ Q) X.xe s
def MtR (X : Cx) (id : String) (r : V → List V → Hp → VK → Prop) : Prop :=
  ∀ (pins : List (Addr × Obj)) (s : Shared) (σ : St) (H : Hp) (x : V) (xs : List V) (v : Value) (us : List Value) (Q : VK), Inv X pins σ H s → RelV x v → Vals xs us → r x xs H Q →
    wpAny (model X.prog X.w) X.A (call (.builtin id) (v :: us)) (EP X pins σ Q) X.xe s
section
variable {X : Cx} {a b : Expr} {ta tb : TE} {pos : Pos}
theorem pe_ix {r : R2} (hr : IxR X r) (ha : PE X a ta) (hb : PE X b tb) (hs : PlainIx b) : PE X (.Subscript a b pos) (tOp r ta tb) := by
  intro pins s σ H Q I h
  exact Subscript_ (binT ha hb I h fun v u s2 x y H2 I2 rx ry q => hr a b pins s2 σ H2 x y v u Q I2 rx ry q (hs _ _))

def rIxL (K : PySem.W.Frag) : R2 := fun x y H Q => ∃ p xs i v, x = .ref p ∧ y = .int i ∧ SqL K H p xs ∧ atI xs i = some v ∧ Q v H
def rIxT (K : PySem.W.Frag) : R2 := fun x y H Q => ∃ p xs i v, x = .ref p ∧ y = .int i ∧ SqT K H p xs ∧ atI xs i = some v ∧ Q v H
def rIxS : R2 := fun x y H Q => ∃ z i c, x = .str z ∧ y = .int i ∧ z.length ≤ sizeLine ∧ atI z.cps.toList i = some c ∧ Q (.str ⟨#[c]⟩) H
theorem ix_list : IxR X (rIxL X.K) := by
  intro value slice pins s σ H x y v u Q I rx ry h hs
  obtain ⟨p, xs, i, z, rfl, rfl, hq, he, q⟩ := h
  cases rx
  obtain ⟨t, rfl⟩ := ry
  obtain ⟨its, r, pl, hz⟩ := I.list hq
  obtain ⟨j, h1, h2, h3, h4, h5⟩ := atI_get he
  obtain ⟨w, ew, rw'⟩ := r.get h2
  have hl := r.length
  have hn := line63
  have fin : EP X pins σ Q w s := ⟨z, H, I, rw', q⟩
  by_cases h0 : 0 ≤ i
  · have hj : i.toNat = j := by
      rw [seqIndex_of h0 h5] at h1
      exact Option.some.inj h1
    exact item_listR pl.isList h0 (by omega) (by rw [hj]; simpa using ew) fin hs
  · have hj : (i + (its.toArray.size : Int)).toNat = j := by
      rw [seqIndex_neg (by omega) h4] at h1
      rw [List.size_toArray, ← hl]
      exact Option.some.inj h1
    exact subscriptTail_builtinR (x := w) pl.isList.typeIs slot_list_getitem.lookup
      (wpAny_getItem_list_neg (Q := fun r s' => r = w ∧ EP X pins σ Q r s') pl.isList (by omega) (by rw [List.size_toArray] <;> omega) (by omega) (by rw [hj]; simpa using ew) ⟨rfl, fin⟩) hs
theorem ix_tup : IxR X (rIxT X.K) := by
  intro value slice pins s σ H x y v u Q I rx ry h hs
  obtain ⟨p, xs, i, z, rfl, rfl, hq, he, q⟩ := h
  cases rx
  obtain ⟨t, rfl⟩ := ry
  obtain ⟨its, r, pl, hz⟩ := I.tuple hq
  obtain ⟨j, h1, h2, h3, h4, h5⟩ := atI_get he
  obtain ⟨w, ew, rw'⟩ := r.get h2
  have hl := r.length
  have hn := line63
  have fin : EP X pins σ Q w s := ⟨z, H, I, rw', q⟩
  exact subscriptTail_builtinR (x := w) pl.typeIs slot_tuple_getitem.lookup
    (getItem_tuple (j := j) (Q := fun r s' => r = w ∧ EP X pins σ Q r s') pl (by omega) (by omega) (by rw [List.size_toArray, ← hl]; exact h1) (by simpa using ew) ⟨rfl, fin⟩) hs
theorem ix_str : IxR X rIxS := by
  intro value slice pins s σ H x y v u Q I rx ry h hs
  obtain ⟨z, i, c, rfl, rfl, hz, he, q⟩ := h
  obtain ⟨t, rfl⟩ := rx
  obtain ⟨t', rfl⟩ := ry
  obtain ⟨j, h1, h2, h3, h4, h5⟩ := atI_get he
  have hl : z.cps.toList.length = z.length := by simp [Str.length]
  rw [hl] at h1 h4 h5
  have hn := line63
  exact tail_any (typeIs_str s z t) slot_str_getitem.lookup (getItem_str (c := c) (by
    have e1 : decide (i < -(2 ^ 63 : Int)) = false := decide_eq_false (by omega)
    have e2 : decide (i ≥ 2 ^ 63) = false := decide_eq_false (by omega)
    rw [e1, e2, Bool.or_false]) (by rw [h1]; simpa using h2) ⟨.str ⟨#[c]⟩, H, I.tok _, ⟨_, rfl⟩, q⟩) hs
theorem mapSeq_set (its : List Value) (n j : Nat) (u : Value) : Obj.mapSeq (·.setIfInBounds j u) { cls := .type "list", data := .seq its.toArray n } = { cls := .type "list", data := .seq (its.set j u).toArray n } := by
  simp [Obj.mapSeq]
theorem Inv.lst {pins : List (Addr × Obj)} {σ : St} {H : Hp} {s : Shared} {p : Addr} {xs : List V} (I : Inv X pins σ H s) (h : H p = some (.lst xs)) :
    ∃ (its : List Value) (n : Nat), Vals xs its ∧ s.heap.get? p = some { cls := .type "list", data := .seq its.toArray n } ∧ xs.length ≤ sizeLine := by
  obtain ⟨z, its, n, r, e⟩ := I.hok p _ h
  exact ⟨its, n, r, e, z⟩
theorem Inv.lstUpd {pins : List (Addr × Obj)} {σ : St} {H : Hp} {s : Shared} {p : Addr} {xs ys : List V} {its its' : List Value} {n n' : Nat} {f : Obj → Obj} (I : Inv X pins σ H s) (h : H p = some (.lst xs))
    (ho : s.heap.get? p = some { cls := .type "list", data := .seq its.toArray n }) (hf : f { cls := .type "list", data := .seq its.toArray n } = { cls := .type "list", data := .seq its'.toArray n' }) (r : Vals ys its') (hz : ys.length ≤ sizeLine) (t : Nat) :
    Inv X pins σ (upd H p (.lst ys)) { s with heap := s.heap.update p f, toks := t } := by
  have e : (s.heap.update p f).get? p = some { cls := .type "list", data := .seq its'.toArray n' } := by
    rw [Heap.get?_update_self f ho (by rw [hf] <;> rfl), hf]
  refine I.write (x := p) (e := p) (by rw [h]; trivial) (.inl rfl) (fun b u hb q => (Heap.get?_update_other _ _ (Ne.symm hb)).trans q) ⟨_, e⟩ ?_
  exact ⟨hz, its', n', r, e⟩
def rSetL : V → V → V → Hp → (Hp → Prop) → Prop := fun o i v H Q => ∃ p xs k j, o = .ref p ∧ i = .int k ∧ H p = some (.lst xs) ∧ ixN xs.length k = some j ∧ Q (upd H p (.lst (xs.set j v)))
theorem set_list : PSet X rSetL := by
  intro pins s σ H o i v ov iv u Q I ro ri rv h
  obtain ⟨p, xs, k, j, rfl, rfl, hp, hj, q⟩ := h
  cases ro
  obtain ⟨t, rfl⟩ := ri
  obtain ⟨its, n, r, ho, hz⟩ := I.lst hp
  obtain ⟨h1, h2, h3, h4⟩ := ixN_seq hj
  have hl := r.length
  have hn := line63
  have I' : Inv X pins σ (upd H p (.lst (xs.set j v))) { s with heap := s.heap.update p (Obj.mapSeq (·.setIfInBounds j u)) } :=
    I.lstUpd hp ho (mapSeq_set its n j u) (r.set rv j) (by rw [List.length_set]; exact hz) s.toks
  by_cases h0 : 0 ≤ k
  · have hk : k.toNat = j := by
      rw [seqIndex_of h0 h4] at h1
      exact Option.some.inj h1
    exact PySem.W.ki_setAt ho h0 (by omega) (by rw [List.size_toArray, ← hl]; exact h4) (by rw [hk]; exact ⟨_, I', q⟩)
  · have hk : (k + (its.toArray.size : Int)).toNat = j := by
      rw [seqIndex_neg (by omega) h3] at h1
      rw [List.size_toArray, ← hl]
      exact Option.some.inj h1
    exact PySem.W.ki_setBack ho (by omega) (by rw [List.size_toArray, ← hl]; exact h3) (by omega) (by rw [hk]; exact ⟨_, I', q⟩)

theorem slice_bounds (lo hi : Option Int) (n : Nat) : (sliceBounds lo hi none n).1 = ((HT.sIx n 0 lo : Nat) : Int) ∧ (sliceBounds lo hi none n).2.1 = ((HT.sIx n n hi : Nat) : Int) ∧ (sliceBounds lo hi none n).2.2 = 1 := by
  refine ⟨?_, ?_, rfl⟩
  · cases lo with
    | none => simp [sliceBounds, HT.sIx]
    | some i =>
      simp only [sliceBounds, HT.sIx, Option.getD_none, show (1 : Int) > 0 by decide, if_true]
      by_cases h : i < 0
      · simp only [h, if_true] <;> omega
      · simp only [h, if_false] <;> omega
  · cases hi with
    | none => simp [sliceBounds, HT.sIx]
    | some i =>
      simp only [sliceBounds, HT.sIx, Option.getD_none, show (1 : Int) > 0 by decide, if_true]
      by_cases h : i < 0
      · simp only [h, if_true] <;> omega
      · simp only [h, if_false] <;> omega
theorem slicePick_cut (its : List Value) (lo hi : Option Int) : slicePick its.toArray lo hi none = ((its.drop (HT.sIx its.length 0 lo)).take (HT.sIx its.length its.length hi - HT.sIx its.length 0 lo)).toArray := by
  obtain ⟨h1, h2, h3⟩ := slice_bounds lo hi its.toArray.size
  unfold slicePick
  rw [h1, h2, h3]
  simp only [sliceRange_one, pick_run, List.size_toArray] <;> rfl
def rSlL (K : PySem.W.Frag) : V → Option Int → Option Int → Hp → VK → Prop := fun x lo hi H Q => ∃ a xs, x = .ref a ∧ SqL K H a xs ∧ ∀ p, H p = none → Q (.ref p) (upd H p (.lst (cutV xs lo hi)))
theorem sl_list : SlR X (rSlL X.K) := by
  intro pins s σ H x v vl vu lo hi sl Q I rx hs pl pu h
  obtain ⟨a, xs, rfl, hx, q⟩ := h
  cases rx
  obtain ⟨its, r, ht, hz⟩ := I.list hx
  have hlen := r.length
  refine ⟨"list", _, slot_list_getitem.lookup, ht.isList.typeIs, ?_⟩
  refine wpAny_getItem_list_slice ht.isList hs pl pu .none (by simp) ?_ (by rw [List.size_toArray] <;> omega)
  rw [slicePick_cut, ← hlen]
  refine ⟨.ref s.heap.objs.size, _, I.laid (t' := s.toks) (o := .lst (cutV xs lo hi)) (fun b ob q => Heap.get?_push_of_some _ q) (Nat.le_refl _) ?_, rfl, q _ (I.hok.fresh (Nat.le_refl _))⟩
  exact ⟨Nat.le_trans (cutV_length xs lo hi) hz, _, 0, (r.drop (HT.sIx xs.length 0 lo)).take (HT.sIx xs.length xs.length hi - HT.sIx xs.length 0 lo), Heap.get?_push_size _ rfl⟩

theorem call_len_seq : CallR X (.builtin "len") (fun xs H Q => ∃ p ys, xs = [.ref p] ∧ (SqL X.K H p ys ∨ SqT X.K H p ys) ∧ Q (.int ys.length) H) := by
  intro pins s σ H xs us Q I r h
  obtain ⟨p, ys, rfl, hq, q⟩ := h
  obtain ⟨u, rfl, rx⟩ := vals1 r
  cases rx
  have hn := line63
  rcases hq with hq | hq
  · obtain ⟨its, r', pl, hz⟩ := I.list hq
    have hlen := r'.length
    exact Calls.call_len_list pl.isList (by simp only [List.size_toArray] <;> omega) ⟨.int ys.length, H, I.tok _, ⟨s.toks + 1, by rw [List.size_toArray, hlen]⟩, q⟩
  · obtain ⟨its, r', pl, hz⟩ := I.tuple hq
    have hlen := r'.length
    exact len_tuple pl (by simp only [List.size_toArray] <;> omega) ⟨.int ys.length, H, I.tok _, ⟨s.toks + 1, by rw [List.size_toArray, hlen]⟩, q⟩
theorem call_len_str : CallR X (.builtin "len") (fun xs H Q => ∃ z, xs = [.str z] ∧ z.length ≤ sizeLine ∧ Q (.int z.length) H) := by
  intro pins s σ H xs us Q I r h
  obtain ⟨z, rfl, hz, q⟩ := h
  obtain ⟨u, rfl, t, rfl⟩ := vals1 r
  have hn := line63
  exact len_str (by omega) ⟨.int z.length, H, I.tok _, ⟨_, rfl⟩, q⟩
theorem call_list_of : CallR X (.type "list") (fun xs H Q => ∃ p ys, xs = [.ref p] ∧ (SqL X.K H p ys ∨ SqT X.K H p ys) ∧ ∀ l, H l = none → Q (.ref l) (upd H l (.lst ys))) := by
  intro pins s σ H xs us Q I r h
  obtain ⟨p, ys, rfl, hq, q⟩ := h
  obtain ⟨u, rfl, rx⟩ := vals1 r
  cases rx
  have fin : ∀ (its : List Value), Vals ys its → ys.length ≤ sizeLine → ∀ (h' : Heap) (c' : Nat), (∀ b o', s.heap.get? b = some o' → h'.get? b = some o') →
      h'.get? s.heap.objs.size = some { cls := .type "list", dict := none, data := .seq its.toArray c', slots := #[] } → EP X pins σ Q (.ref s.heap.objs.size) { s with heap := h' } := fun its r' hz h' c' kp e =>
    ⟨.ref s.heap.objs.size, _, I.laid (t' := s.toks) kp (Nat.le_refl _) (show ObjOk X.prog X.w _ h' _ (.lst ys) from ⟨hz, its, c', r', e⟩), rfl, q _ (I.hok.fresh (Nat.le_refl _))⟩
  rcases hq with hq | hq
  · obtain ⟨its, r', pl, hz⟩ := I.list hq
    have hlen := r'.length
    obtain ⟨o, ho, hc, n, hd⟩ := pl.isList
    exact call_list_seq p (.inl rfl) ho hc hd (fun h' c' kp e => fin its r' hz h' c' kp e) (by simp only [List.size_toArray] <;> omega)
  · obtain ⟨its, r', pl, hz⟩ := I.tuple hq
    have hlen := r'.length
    obtain ⟨o, ho, hc, n, hd⟩ := pl
    exact call_list_seq p (.inr rfl) ho hc hd (fun h' c' kp e => fin its r' hz h' c' kp e) (by simp only [List.size_toArray] <;> omega)
theorem call_tuple_of : CallR X (.type "tuple") (fun xs H Q => ∃ p ys, xs = [.ref p] ∧ ((SqL X.K H p ys ∧ ∀ l, H l = none → Q (.ref l) (upd H l (.tup ys))) ∨ (SqT X.K H p ys ∧ Q (.ref p) H))) := by
  intro pins s σ H xs us Q I r h
  obtain ⟨p, ys, rfl, h⟩ := h
  obtain ⟨u, rfl, rx⟩ := vals1 r
  cases rx
  rcases h with ⟨hq, q⟩ | ⟨hq, q⟩
  · obtain ⟨its, r', pl, hz⟩ := I.list hq
    have hlen := r'.length
    refine call_tuple_list pl.isList (fun h' kp => ?_) (by simp only [List.size_toArray] <;> omega)
    have I1 : Inv X pins σ H { s with heap := h' } := I.kept (t' := s.toks) kp
    have I2 : Inv X pins σ (upd H h'.objs.size (.tup ys)) { s with heap := h'.push { cls := .type "tuple", data := .seq its.toArray } } :=
      I1.laid (t' := s.toks) (fun b o e => Heap.get?_push_of_some _ e) (Nat.le_refl _) (show ObjOk X.prog X.w _ _ _ (.tup ys) from ⟨hz, its, r', IsTup.new _ _⟩)
    exact ⟨.ref h'.objs.size, _, I2, rfl, q _ (I1.hok.fresh (Nat.le_refl _))⟩
  · obtain ⟨its, r', pl, hz⟩ := I.tuple hq
    exact call_tuple_same pl ⟨.ref p, H, I, rfl, q⟩

def tyV (K : PySem.W.Frag) (T : String) (x : V) (H : Hp) : Prop := match x with
  | .str _ => T = "str"
  | .int _ => T = "int"
  | .ref p => (T = "list" ∧ ∃ xs, SqL K H p xs) ∨ (T = "tuple" ∧ ∃ o, K.lookup p = some o ∧ o.cls = .type "tuple" ∧ o.dict = none) ∨
      (T = "dict" ∧ ((∃ kvs, H p = some (.dK kvs)) ∨ ∃ kvs, H p = some (.dT kvs))) ∨ (T = "set" ∧ ∃ S n, H p = some (.set S n))
  | _ => False
theorem tyV_is {pins : List (Addr × Obj)} {σ : St} {H : Hp} {s : Shared} {T : String} {x : V} {v : Value} (I : Inv X pins σ H s) (r : RelV x v) (ty : tyV X.K T x H) :
    s.TypeIs v T ∧ ∀ a, v = .ref a → ∃ ob, s.heap.get? a = some ob ∧ ob.dict = none := by
  cases x with
  | str z =>
    obtain ⟨t, rfl⟩ := r
    cases (show T = "str" from ty)
    exact ⟨typeIs_str s z t, fun _ e => nomatch e⟩
  | int i =>
    obtain ⟨t, rfl⟩ := r
    cases (show T = "int" from ty)
    exact ⟨typeIs_int s i t, fun _ e => nomatch e⟩
  | ref p =>
    cases r
    rcases ty with ⟨rfl, xs, hq⟩ | ⟨rfl, o, hk, hc, hd⟩ | ⟨rfl, hk⟩ | ⟨rfl, S, n, hk⟩
    · obtain ⟨its, _, pl, _⟩ := I.list hq
      refine ⟨pl.isList.typeIs, fun a e => ?_⟩
      cases e
      obtain ⟨o, n, e, c, hd, _⟩ := pl
      exact ⟨o, e, hd⟩
    · refine ⟨⟨o, I.kIn p o hk, hc⟩, fun a e => ?_⟩
      cases e
      exact ⟨o, I.kIn _ o hk, hd⟩
    · have z : ∃ o, s.heap.get? p = some o ∧ o.ExactDict := by
        rcases hk with ⟨kvs, hk⟩ | ⟨kvs, hk⟩
        · obtain ⟨_, _, _, _, o, _, _, e, ex, _⟩ := I.hok p _ hk
          exact ⟨o, e, ex⟩
        · obtain ⟨_, _, _, _, o, _, _, e, ex, _⟩ := I.hok p _ hk
          exact ⟨o, e, ex⟩
      obtain ⟨o, e, ex⟩ := z
      refine ⟨⟨o, e, ex.1⟩, fun a e2 => ?_⟩
      cases e2
      exact ⟨o, e, ex.2.1⟩
    · obtain ⟨o, _, _, _, e, ex, _⟩ := I.hok p _ hk
      refine ⟨⟨o, e, ex.1⟩, fun a e2 => ?_⟩
      cases e2
      exact ⟨o, e, ex.2.1⟩
  | _ => exact False.elim ty
def tBM0 (K : PySem.W.Frag) (T : String) (r : V → List V → Hp → VK → Prop) (to : TE) : TE := fun σ H Q => to σ H fun x H1 => tyV K T x H1 ∧ r x [] H1 Q
def tBM (K : PySem.W.Frag) (T : String) (r : V → List V → Hp → VK → Prop) (to : TE) (t : TA) : TE := fun σ H Q => to σ H fun x H1 => tyV K T x H1 ∧ t σ H1 fun xs H2 => r x xs H2 Q
variable {o e : Expr} {es : List Expr} {to : TE} {t : TA} {name : Str} {apos cpos : Pos} {T id : String} {r : V → List V → Hp → VK → Prop}
theorem pe_bm0 (pa : PlainAttrs T) (slot : Slot T name id) (hty : typeOf (.builtin id) = pure (.type "method_descriptor")) (hm : MtR X id r) (ho : PE X o to)
    (hbase : attributeBase o name X.env (eval o X.env) = eval o X.env := by rfl) (hline : (apos.endLine == cpos.line) = true := by rfl) : PE X (.Call (.Attribute o name apos) [] [] cpos) (tBM0 X.K T r to) := by
  intro pins s σ H Q I h
  refine wpAny_Call_method0_late hbase hline (thn (ho pins s σ H _ I h) fun v s1 ⟨x, H1, I1, r1, ty, q1⟩ => ?_)
  obtain ⟨h1, h2⟩ := tyV_is I1 r1 ty
  exact ⟨T, id, pa, slot, hty, h1, h2, Calls.callWith_builtin rfl (PySem.evalArgs_none (hm pins s1 σ H1 x [] v [] Q I1 r1 .nil q1))⟩
theorem pe_bm (pa : PlainAttrs T) (slot : Slot T name id) (hty : typeOf (.builtin id) = pure (.type "method_descriptor")) (hm : MtR X id r) (ho : PE X o to) (ha : PA X (e :: es) t)
    (hbase : attributeBase o name X.env (eval o X.env) = eval o X.env := by rfl)
    (hfew : ((backTo cpos (starEach (e :: es) X.env)).all (fun x => !x.1) && (backToKw cpos (keywordEach [] X.env)).all (fun x => x.1.isSome)
      && decide ((e :: es).length + ([] : List Keyword).length + (if ([] : List Keyword).isEmpty then 0 else 1) < 30)) = true := by rfl)
    (hline : (apos.endLine == cpos.line) = true := by rfl) (hs : starEach (e :: es) X.env = (false, eval e X.env) :: starEach es X.env := by rfl) (hplain : (backTo cpos (starEach es X.env)).any (·.1) = false := by rfl) :
    PE X (.Call (.Attribute o name apos) (e :: es) [] cpos) (tBM X.K T r to t) := by
  intro pins s σ H Q I h
  refine wpAny_Call_method_late hbase hfew hline rfl (thn (ho pins s σ H _ I h) fun v s1 ⟨x, H1, I1, r1, ty, q1⟩ => ?_)
  obtain ⟨h1, h2⟩ := tyV_is I1 r1 ty
  refine ⟨T, id, pa, slot, hty, h1, h2, ?_⟩
  have hA := ha cpos pins s1 σ H1 _ I1 q1
  rw [hs] at hA ⊢
  refine Calls.callWith_builtin (by show (false || (backTo cpos (starEach es X.env)).any (·.1)) = false; rw [hplain] <;> rfl) (Calls.evalArgs_plain ?_)
  exact thn hA fun us s2 ⟨vs, H2, I2, r2, q2⟩ => hm pins s2 σ H2 x vs v us Q I2 r1 r2 q2
end
end L2

namespace L2
open PySem PySem.Spec PyProof.Rows

def MtM (X : Cx) (id : String) (r : V → List V → Hp → VK → Prop) : Prop :=
  ∀ (pins : List (Addr × Obj)) (s : Shared) (σ : St) (H : Hp) (x : V) (xs : List V) (v : Value) (us : List Value) (Q : VK), Inv X pins σ H s → RelV x v → Vals xs us → r x xs H Q →
    wpAny (model X.prog X.w) X.A (call (.builtin id) (v :: us)) (EP X pins σ Q) X.xe s

theorem Vals.one : ∀ {x : V} {us : List Value}, Vals [x] us → ∃ u, us = [u] ∧ RelV x u
  | _, _, .cons r .nil => ⟨_, rfl, r⟩
theorem Vals.zero : ∀ {us : List Value}, Vals [] us → us = []
  | _, .nil => rfl
theorem Vals.dropLast {xs : List V} {us : List Value} (h : Vals xs us) : Vals xs.dropLast us.dropLast := by
  induction h with
  | nil => exact .nil
  | cons r t ih =>
    cases t with
    | nil => exact .nil
    | cons q t' => exact .cons r ih
theorem Vals.eraseIdx : ∀ {xs : List V} {us : List Value} (i : Nat), Vals xs us → Vals (xs.eraseIdx i) (us.eraseIdx i)
  | _, _, _, .nil => .nil
  | _, _, 0, .cons _ t => t
  | _, _, i + 1, .cons r t => .cons r (Vals.eraseIdx i t)
theorem Vals.reverse {xs : List V} {us : List Value} (h : Vals xs us) : Vals xs.reverse us.reverse := by
  induction h with
  | nil => exact .nil
  | cons r t ih => rw [List.reverse_cons, List.reverse_cons]; exact Vals.append ih (.cons r .nil)
theorem Vals.rep {xs : List V} {us : List Value} (h : Vals xs us) : ∀ k : Nat, Vals (List.replicate k xs).flatten (List.replicate k us).flatten
  | 0 => .nil
  | k + 1 => by
    rw [List.replicate_succ, List.replicate_succ, List.flatten_cons, List.flatten_cons]
    exact Vals.append h (Vals.rep h k)
theorem erase_last {α : Type} (l : List α) : l.eraseIdx (l.length - 1) = l.dropLast := by
  induction l with
  | nil => rfl
  | cons a r ih =>
    cases r with
    | nil => rfl
    | cons b r =>
      have e : (a :: b :: r).length - 1 = ((b :: r).length - 1) + 1 := by
        have h1 : (a :: b :: r).length = r.length + 2 := rfl
        have h2 : (b :: r).length = r.length + 1 := rfl
        omega
      rw [e, List.eraseIdx_cons_succ, ih]
      all_goals rfl
theorem len_erase {α : Type} : ∀ (l : List α) (i : Nat), (l.eraseIdx i).length ≤ l.length
  | [], _ => Nat.le_refl _
  | _ :: _, 0 => Nat.le_succ _
  | _ :: r, i + 1 => Nat.succ_le_succ (len_erase r i)
theorem foldl_rep (its : List Value) : ∀ (k : Nat) (acc : List Value),
    List.foldl (fun x1 x2 => x1 ++ x2) acc.toArray (List.replicate k its.toArray) = (acc ++ (List.replicate k its).flatten).toArray
  | 0, acc => by simp
  | k + 1, acc => by
    have e : acc.toArray ++ its.toArray = (acc ++ its).toArray := by simp
    have e2 : (acc ++ its) ++ (List.replicate k its).flatten = acc ++ (List.replicate (k + 1) its).flatten := by
      rw [List.replicate_succ, List.flatten_cons, List.append_assoc]
    rw [← e2, ← foldl_rep its k (acc ++ its), ← e, List.replicate_succ, List.foldl_cons]

section
variable {X : Cx} {pins : List (Addr × Obj)} {σ : St} {H : Hp} {s : Shared} {l b : Addr} {xs ys zs : List V}

theorem Inv.lset {its its' : List Value} {n : Nat} {f : Array Value → Array Value} {t' : Nat} (I : Inv X pins σ H s) (hH : H l = some (.lst xs))
    (e : s.heap.get? l = some { cls := .type "list", data := .seq its.toArray n }) (hf : f its.toArray = its'.toArray) (hv : Vals ys its') (hz : ys.length ≤ sizeLine) :
    Inv X pins σ (upd H l (.lst ys)) { s with heap := s.heap.update l (Obj.mapSeq f), toks := t' } := by
  have q := PySem.IsL.update e f
  rw [hf] at q
  refine I.write (x := l) (e := l) (by rw [hH]; exact trivial) (.inl rfl) (fun b' u hb hu => (Heap.get?_update_other s.heap (Obj.mapSeq f) (Ne.symm hb)).trans hu) ⟨_, q⟩ ?_
  exact ⟨hz, its', _, hv, q⟩
theorem Inv.lnew {its : List Value} {t' : Nat} (I : Inv X pins σ H s) (hv : Vals ys its) (hz : ys.length ≤ sizeLine) :
    Inv X pins σ (upd H s.heap.objs.size (.lst ys)) { s with heap := s.heap.push { cls := .type "list", data := .seq its.toArray }, toks := t' } :=
  I.laid (fun _ _ q => Heap.get?_push_of_some _ q) (Nat.le_refl _) ⟨hz, its, 0, hv, Heap.get?_push_size _ rfl⟩
theorem Inv.fresh (I : Inv X pins σ H s) : H s.heap.objs.size = none := I.hok.fresh (Nat.le_refl _)
theorem Inv.lstM (I : Inv X pins σ H s) (hH : H l = some (.lst xs)) : xs.length ≤ sizeLine ∧ ∃ (its : List Value) (n : Nat), Vals xs its ∧ xs.length = its.length ∧ s.heap.get? l = some { cls := .type "list", data := .seq its.toArray n } := by
  obtain ⟨z, its, n, r, e⟩ := I.hok l _ hH
  exact ⟨z, its, n, r, r.length, e⟩

theorem notLongL {n : Nat} (h : n ≤ sizeLine) : Builtin.List.listTooLong n = false := by
  unfold Builtin.List.listTooLong
  exact decide_eq_false (by omega)
end

section
variable {X : Cx}

def rAppend : V → List V → Hp → VK → Prop := fun x vs H Q => ∃ l xs y, x = .ref l ∧ vs = [y] ∧ H l = some (.lst xs) ∧ xs.length < sizeLine ∧ Q .non (upd H l (.lst (xs ++ [y])))
theorem mt_append : MtM X "list.append" rAppend := by
  intro pins s σ H x vs v us Q I rx rv h
  obtain ⟨l, xs, y, rfl, rfl, hH, hz, q⟩ := h
  cases rx
  obtain ⟨u, rfl, ru⟩ := rv.one
  obtain ⟨z, its, n, r, hl, e⟩ := I.lstM hH
  refine call_meets F.slot_list_append ⟨_, e, rfl⟩ F.entry_list_append (F.args_list_append_2 _ _) (PySem.list_append l its.toArray n u (by rw [List.size_toArray]; omega)) ⟨e, ?_⟩
  refine ⟨.non, _, I.lset (its' := its ++ [u]) hH e (by simp) (r.append (.cons ru .nil)) ?_, rfl, q⟩
  rw [List.length_append, List.length_singleton]
  omega

def rPop : V → List V → Hp → VK → Prop := fun x vs H Q => ∃ l xs y, x = .ref l ∧ vs = [] ∧ H l = some (.lst xs) ∧ xs[xs.length - 1]? = some y ∧ Q y (upd H l (.lst xs.dropLast))
theorem mt_pop : MtM X "list.pop" rPop := by
  intro pins s σ H x vs v us Q I rx rv h
  obtain ⟨l, xs, y, rfl, rfl, hH, hy, q⟩ := h
  cases rx
  have hus := rv.zero
  subst hus
  obtain ⟨z, its, n, r, hl, e⟩ := I.lstM hH
  obtain ⟨u, hu, ru⟩ := r.get hy
  have hy' : its.toArray[its.toArray.size - 1]? = some u := by
    show its.toArray[its.length - 1]? = some u
    rw [← Array.getElem?_toList, ← hl]
    exact hu
  refine call_meets F.slot_list_pop ⟨_, e, rfl⟩ F.entry_list_pop (F.args_list_pop_1 _) (MeetsSeq.list_pop_last l its.toArray n u hy' (by rw [List.size_toArray]; omega)) ⟨e, ?_⟩
  refine ⟨y, _, I.lset (its' := its.dropLast) hH e ?_ r.dropLast ?_, ru, q⟩
  · show its.toArray.eraseIdxIfInBounds (its.toArray.size - 1) = its.dropLast.toArray
    rw [List.size_toArray, List.eraseIdxIfInBounds_toArray, erase_last]
  · rw [List.length_dropLast]
    omega

def rPopAt : V → List V → Hp → VK → Prop := fun x vs H Q => ∃ l xs i k y, x = .ref l ∧ vs = [.int i] ∧ H l = some (.lst xs) ∧ -(2 ^ 63) ≤ i ∧ i < 2 ^ 63 ∧ seqIndex? i xs.length = some k ∧ xs[k]? = some y ∧ Q y (upd H l (.lst (xs.eraseIdx k)))
theorem mt_popAt : MtM X "list.pop" rPopAt := by
  intro pins s σ H x vs v us Q I rx rv h
  obtain ⟨l, xs, i, k, y, rfl, rfl, hH, h1, h2, hk, hy, q⟩ := h
  cases rx
  obtain ⟨u, rfl, ru⟩ := rv.one
  obtain ⟨t, rfl⟩ := ru
  obtain ⟨z, its, n, r, hl, e⟩ := I.lstM hH
  obtain ⟨w, hw, rw'⟩ := r.get hy
  refine call_meets F.slot_list_pop ⟨_, e, rfl⟩ F.entry_list_pop (F.args_list_pop_2 _ _)
    (MeetsSeq.list_pop_at l its.toArray n i t k w (fitsIndex_both h1 h2) (by rw [List.size_toArray, ← hl]; exact hk) (by rw [← Array.getElem?_toList]; exact hw) (by rw [List.size_toArray]; omega)) ⟨e, ?_⟩
  refine ⟨y, _, I.lset (its' := its.eraseIdx k) hH e ?_ (r.eraseIdx k) ?_, rw', q⟩
  · show its.toArray.eraseIdxIfInBounds k = (its.eraseIdx k).toArray
    rw [List.eraseIdxIfInBounds_toArray]
  · have := len_erase xs k
    omega

def rCat : R2 := fun x y H Q => ∃ l b xs zs, x = .ref l ∧ y = .ref b ∧ H l = some (.lst xs) ∧ H b = some (.lst zs) ∧ xs.length + zs.length ≤ sizeLine ∧ ∀ p, H p = none → Q (.ref p) (upd H p (.lst (xs ++ zs)))
theorem op_cat : OpR X (binaryOp .Add) rCat := by
  intro pins s σ H x y v u Q I rx ry h
  obtain ⟨l, b, xs, zs, rfl, rfl, hH, hB, hz, q⟩ := h
  cases rx
  cases ry
  obtain ⟨z, its, n, r, hl, e⟩ := I.lstM hH
  obtain ⟨z2, its2, n2, r2, hl2, e2⟩ := I.lstM hB
  refine PySem.P.add_list e e2 ?_ (by rw [List.size_toArray, List.size_toArray]; omega)
  have ea : its.toArray ++ its2.toArray = (its ++ its2).toArray := by simp
  rw [ea]
  exact ⟨.ref _, _, I.lnew (t' := s.toks) (r.append r2) (by rw [List.length_append]; omega), rfl, q _ I.fresh⟩
def rRep : R2 := fun x y H Q => ∃ l k xs, x = .ref l ∧ y = .int k ∧ H l = some (.lst xs) ∧ -(2 ^ 63) ≤ k ∧ k < 2 ^ 63 ∧ xs.length * k.toNat ≤ sizeLine ∧
  ∀ p, H p = none → Q (.ref p) (upd H p (.lst (List.replicate k.toNat xs).flatten))
theorem len_rep {α : Type} (xs : List α) (k : Nat) : (List.replicate k xs).flatten.length = k * xs.length := by
  induction k with
  | zero => simp
  | succ k ih => rw [List.replicate_succ, List.flatten_cons, List.length_append, ih, Nat.succ_mul, Nat.add_comm]
theorem op_rep : OpR X (binaryOp .Mult) rRep := by
  intro pins s σ H x y v u Q I rx ry h
  obtain ⟨l, k, xs, rfl, rfl, hH, h1, h2, hz, q⟩ := h
  cases rx
  obtain ⟨t, rfl⟩ := ry
  obtain ⟨z, its, n, r, hl, e⟩ := I.lstM hH
  have hlen : its.toArray.size * k.toNat ≤ sizeLine := by rw [List.size_toArray, ← hl]; exact hz
  have hcap : ¬ its.toArray.size * k.toNat > (2 ^ 63 - 1) / 8 := by
    have : (sizeLine : Nat) ≤ (2 ^ 63 - 1) / 8 := by decide
    omega
  have hfit : ¬ (!Builtin.List.listFitsIndex k) = true := by
    rw [fitsIndex_both h1 h2]
    exact Bool.false_ne_true
  have hlong : ¬ Builtin.List.listTooLong (its.toArray.size * k.toNat) = true := by
    rw [notLongL hlen]
    exact Bool.false_ne_true
  have hnew : List.foldl (fun x1 x2 => x1 ++ x2) #[] (List.replicate (if its.toArray.isEmpty = true then 0 else k.toNat) its.toArray) = (List.replicate k.toNat its).flatten.toArray := by
    have f0 : ∀ m : Nat, List.foldl (fun x1 x2 => x1 ++ x2) #[] (List.replicate m its.toArray) = (List.replicate m its).flatten.toArray := fun m => by
      have := foldl_rep its m []
      rw [List.nil_append] at this
      exact this
    rw [f0]
    cases its with
    | nil => simp
    | cons a r' => rw [if_neg (by simp)]
  refine wpAny_binaryOp_repeat_ref (T := "list") (U := "int") (by decide) ⟨_, e, rfl⟩ (fun s' => typeIs_int s' k t) noFill_list_mul F.fills_int_mul F.slot_int_rmul repeat_list F.slot_int_index.lookup
    (call_meets F.slot_int_rmul (typeIs_int s k t) F.entry_int_rmul (F.args_int_rmul_2 _ _) (int___rmul___int_list k t l its.toArray n)
      ⟨e, rfl, ⟨_, e, rfl⟩, call_meets F.slot_list_mul ⟨_, e, rfl⟩ F.entry_list_mul (F.args_list_mul_2 _ _) (AutoListH.list___mul___list_int_3 l its.toArray n k t hfit hcap hlong) ⟨e, ?_⟩⟩)
  rw [hnew]
  exact ⟨.ref _, _, I.lnew (t' := s.toks) (r.rep k.toNat) (by rw [len_rep, Nat.mul_comm]; exact hz), rfl, q _ I.fresh⟩

end

section
variable {prog : Program} {w : World} {A : Around} {E : Value → Shared → Prop} {s : Shared}
end

section
variable {X : Cx}
end
end L2

namespace L2
open PySem PySem.Spec PyProof.Rows

section
variable {κ : Type} [DecidableEq κ]
def valV (kvs : List (κ × V)) (k : κ) : Option V := (kvs.find? fun kv => decide (kv.1 = k)).map (·.2)
def putK (kvs : List (κ × V)) (k : κ) (v : V) : List (κ × V) :=
  if (kvs.any fun kv => decide (kv.1 = k)) = true then kvs.map (fun kv => if kv.1 = k then (kv.1, v) else kv) else kvs ++ [(k, v)]
def dropK (kvs : List (κ × V)) (k : κ) : List (κ × V) := kvs.filter fun kv => decide (kv.1 ≠ k)

theorem valV_pos {p : κ × V} {r : List (κ × V)} {k : κ} (e : p.1 = k) : valV (p :: r) k = some p.2 := by simp [valV, List.find?_cons, e]
theorem valV_neg {p : κ × V} {r : List (κ × V)} {k : κ} (e : ¬ p.1 = k) : valV (p :: r) k = valV r k := by simp [valV, List.find?_cons, e]
theorem valV_any (k : κ) : ∀ kvs : List (κ × V), (kvs.any fun kv => decide (kv.1 = k)) = (valV kvs k).isSome
  | [] => rfl
  | p :: r => by
    rw [List.any_cons]
    by_cases e : p.1 = k
    · simp only [valV_pos e, decide_eq_true e, Bool.true_or, Option.isSome_some]
    · rw [valV_neg e, decide_eq_false e, Bool.false_or]; exact valV_any k r
theorem valV_map (k j : κ) (y : V) : ∀ kvs : List (κ × V), valV (kvs.map fun kv => if kv.1 = k then (kv.1, y) else kv) j = (valV kvs j).map fun x => if j = k then y else x
  | [] => rfl
  | p :: r => by
    have ih := valV_map k j y r
    rw [List.map_cons]
    by_cases h : p.1 = k
    · rw [if_pos h]
      by_cases e : p.1 = j
      · rw [valV_pos (p := (p.1, y)) e, valV_pos e, Option.map_some, if_pos (e.symm.trans h)]
      · rw [valV_neg (p := (p.1, y)) e, valV_neg e, ih]
    · rw [if_neg h]
      by_cases e : p.1 = j
      · rw [valV_pos (p := p) e, valV_pos e, Option.map_some, if_neg (fun z => h (e.trans z))]
      · rw [valV_neg (p := p) e, valV_neg e, ih]
theorem valV_snoc (k j : κ) (y : V) : ∀ kvs : List (κ × V), valV kvs k = none → valV (kvs ++ [(k, y)]) j = if j = k then some y else valV kvs j
  | [], _ => by
    by_cases e : k = j
    · rw [if_pos e.symm]; exact valV_pos (p := (k, y)) e
    · rw [if_neg (fun z => e z.symm)]; exact valV_neg (p := (k, y)) e
  | p :: r, hn => by
    rw [List.cons_append]
    have hk : ¬ p.1 = k := fun z => by rw [valV_pos z] at hn; cases hn
    rw [valV_neg hk] at hn
    have ih := valV_snoc k j y r hn
    by_cases e : p.1 = j
    · rw [valV_pos e, valV_pos e, if_neg (fun z => hk (e.trans z))]
    · rw [valV_neg e, valV_neg e, ih]
theorem valV_put (kvs : List (κ × V)) (k j : κ) (y : V) : valV (putK kvs k y) j = if j = k then some y else valV kvs j := by
  unfold putK
  by_cases a : (kvs.any fun kv => decide (kv.1 = k)) = true
  · rw [if_pos a, valV_map]
    rw [valV_any] at a
    by_cases e : j = k
    · obtain ⟨x, hx⟩ := Option.isSome_iff_exists.mp a
      rw [if_pos e, e, hx, Option.map_some, if_pos rfl]
    · rw [if_neg e]
      cases valV kvs j with
      | none => rfl
      | some x => rw [Option.map_some, if_neg e]
  · rw [if_neg a]
    refine valV_snoc k j y kvs ?_
    rw [valV_any] at a
    cases q : valV kvs k with
    | none => rfl
    | some x => rw [q] at a; exact (a rfl).elim
theorem length_putK (kvs : List (κ × V)) (k : κ) (v : V) : (putK kvs k v).length ≤ kvs.length + 1 := by
  unfold putK
  split
  · rw [List.length_map]; omega
  · rw [List.length_append, List.length_cons, List.length_nil]; omega
theorem RelO.isSome_eq {o : Option V} {u : Option Value} (r : RelO o u) : o.isSome = u.isSome := by
  cases o with
  | none => cases u with
    | none => rfl
    | some _ => exact (show False from r).elim
  | some _ => cases u with
    | none => exact (show False from r).elim
    | some _ => rfl
theorem RelO.getD {o : Option V} {u : Option Value} {d : V} {d' : Value} (r : RelO o u) (rd : RelV d d') : RelV (o.getD d) (u.getD d') := by
  cases o with
  | none => cases u with
    | none => exact rd
    | some _ => exact (show False from r).elim
  | some _ => cases u with
    | none => exact (show False from r).elim
    | some _ => exact r

theorem KV.val {kvs : List (κ × V)} {vs : List (κ × Value)} (r : KV kvs vs) (k : κ) : RelO (valV kvs k) (valueAt vs k) := by
  unfold KV at r
  induction r with
  | nil => exact True.intro
  | @cons p q ps qs h t ih =>
    obtain ⟨h1, h2⟩ := h
    by_cases e : p.1 = k
    · have e' : q.1 = k := h1.symm.trans e
      have b : valueAt (q :: qs) k = some q.2 := by simp [valueAt, List.find?_cons, e']
      rw [valV_pos e, b]; exact h2
    · have e' : ¬ q.1 = k := fun z => e (h1.trans z)
      have b : valueAt (q :: qs) k = valueAt qs k := by simp [valueAt, List.find?_cons, e']
      rw [valV_neg e, b]; exact ih
theorem KV.any {kvs : List (κ × V)} {vs : List (κ × Value)} (r : KV kvs vs) (k : κ) : (kvs.any fun kv => decide (kv.1 = k)) = vs.any fun kv => decide (kv.1 = k) := by
  unfold KV at r
  induction r with
  | nil => rfl
  | cons h t ih => rw [List.any_cons, List.any_cons, ih, h.1]
theorem KV.repl {kvs : List (κ × V)} {vs : List (κ × Value)} (r : KV kvs vs) (k : κ) {y : V} {u : Value} (ry : RelV y u) :
    KV (kvs.map fun kv => if kv.1 = k then (kv.1, y) else kv) (vs.map fun kv => if kv.1 = k then (kv.1, u) else kv) := by
  unfold KV at r ⊢
  induction r with
  | nil => exact .nil
  | @cons p q ps qs h t ih =>
    rw [List.map_cons, List.map_cons]
    refine .cons ?_ ih
    obtain ⟨h1, h2⟩ := h
    by_cases e : p.1 = k
    · rw [if_pos e, if_pos (h1.symm.trans e)]; exact ⟨h1, ry⟩
    · rw [if_neg e, if_neg (fun z => e (h1.trans z))]; exact ⟨h1, h2⟩
theorem KV.put {kvs : List (κ × V)} {vs : List (κ × Value)} (r : KV kvs vs) (k : κ) {y : V} {u : Value} (ry : RelV y u) : KV (putK kvs k y) (stored vs k u) := by
  unfold putK stored
  rw [r.any k]
  by_cases e : (vs.any fun kv => decide (kv.1 = k)) = true
  · rw [if_pos e, if_pos e]; exact r.repl k ry
  · rw [if_neg e, if_neg e]; exact Paired.snoc r ⟨rfl, ry⟩
theorem KV.drop {kvs : List (κ × V)} {vs : List (κ × Value)} (r : KV kvs vs) (k : κ) : KV (dropK kvs k) (without vs k) := by
  unfold KV at r ⊢
  unfold dropK without
  induction r with
  | nil => exact .nil
  | @cons p q ps qs h t ih =>
    obtain ⟨h1, h2⟩ := h
    rw [List.filter_cons, List.filter_cons]
    by_cases e : p.1 = k
    · have a : ¬ decide (p.1 ≠ k) = true := by simp [e]
      have b : ¬ decide (q.1 ≠ k) = true := by simp [h1.symm.trans e]
      rw [if_neg a, if_neg b]; exact ih
    · have e' : ¬ q.1 = k := fun z => e (h1.trans z)
      have a : decide (p.1 ≠ k) = true := by simp [e]
      have b : decide (q.1 ≠ k) = true := by simp [e']
      rw [if_pos a, if_pos b]; exact .cons ⟨h1, h2⟩ ih
theorem KV.keys {kvs : List (κ × V)} {vs : List (κ × Value)} (r : KV kvs vs) : kvs.map (·.1) = vs.map (·.1) := by
  unfold KV at r
  induction r with
  | nil => rfl
  | cons h t ih => rw [List.map_cons, List.map_cons, ih, h.1]
theorem KV.length {kvs : List (κ × V)} {vs : List (κ × Value)} (r : KV kvs vs) : kvs.length = vs.length := Paired.length r
end


theorem kV_is {P : Program} {w : World} {k : Key} {u : Value} (r : RelV (kV k) u) : (mixKind P w).is k u = true := by
  cases k with
  | inl i => obtain ⟨t, e⟩ := (show ∃ t, u = Value.int i t from r); subst e; exact mixKind_int P w i t
  | inr x => obtain ⟨t, e⟩ := (show ∃ t, u = Value.str x t from r); subst e; exact mixKind_str P w x t
theorem items_are {P : Program} {w : World} : ∀ {ks : List Key} {us : List Value}, Vals (ks.map kV) us → ItemsAre (mixKind P w) ks us
  | [], _, r => by rw [List.map_nil] at r; cases r; exact .nil
  | k :: ks, _, r => by
    rw [List.map_cons] at r
    cases r with
    | cons h t => exact .cons (kV_is h) (items_are t)

abbrev KT (H : Hp) : List (List Key × V) → List (List Key × Addr × Value) → Prop := Paired fun p q => p.1 = q.1 ∧ H q.2.1 = some (.tup (p.1.map kV)) ∧ RelV p.2 q.2.2
theorem KT.val {H : Hp} {kvs : List (List Key × V)} {xs : List (List Key × Addr × Value)} (r : KT H kvs xs) (k : List Key) : RelO (valV kvs k) ((atKey xs k).map (·.2)) := by
  induction r with
  | nil => exact True.intro
  | @cons p q ps qs h t ih =>
    obtain ⟨h1, _, h2⟩ := h
    by_cases e : p.1 = k
    · have e' : q.1 = k := h1.symm.trans e
      have b : atKey (q :: qs) k = some q.2 := by simp [atKey, List.find?_cons, e']
      rw [valV_pos e, b]; exact h2
    · have e' : ¬ q.1 = k := fun z => e (h1.trans z)
      have b : atKey (q :: qs) k = atKey qs k := by simp [atKey, List.find?_cons, e']
      rw [valV_neg e, b]; exact ih
theorem KT.repl {H : Hp} {kvs : List (List Key × V)} {xs : List (List Key × Addr × Value)} (r : KT H kvs xs) (k : List Key) {y : V} {u : Value} (ry : RelV y u) :
    KT H (kvs.map fun kv => if kv.1 = k then (kv.1, y) else kv) (xs.map (putAt k u)) := by
  induction r with
  | nil => exact .nil
  | @cons p q ps qs h t ih =>
    rw [List.map_cons, List.map_cons]
    refine .cons ?_ ih
    obtain ⟨h1, h2, h3⟩ := h
    unfold putAt
    by_cases e : p.1 = k
    · rw [if_pos e, if_pos (h1.symm.trans e)]; exact ⟨h1, h2, ry⟩
    · rw [if_neg e, if_neg (fun z => e (h1.trans z))]; exact ⟨h1, h2, h3⟩
theorem KT.put {H : Hp} {kvs : List (List Key × V)} {xs : List (List Key × Addr × Value)} (r : KT H kvs xs) (k : List Key) {b : Addr} {y : V} {u : Value} (hb : H b = some (.tup (k.map kV))) (ry : RelV y u) :
    KT H (putK kvs k y) (storedH xs k b u) := by
  have e : (kvs.any fun kv => decide (kv.1 = k)) = (atKey xs k).isSome := by
    rw [valV_any, (r.val k).isSome_eq, Option.isSome_map]
  unfold putK storedH
  rw [e]
  by_cases q : (atKey xs k).isSome = true
  · rw [if_pos q, if_pos q]; exact r.repl k ry
  · rw [if_neg q, if_neg q]; exact Paired.snoc r ⟨rfl, hb, ry⟩
theorem KT.keeps {H H' : Hp} {kvs : List (List Key × V)} {xs : List (List Key × Addr × Value)} (r : KT H kvs xs) (ht : ∀ b ys, H b = some (.tup ys) → H' b = some (.tup ys)) : KT H' kvs xs :=
  Paired.mapP r fun _ _ z => ⟨z.1, ht _ _ z.2.1, z.2.2⟩

section
variable {P : Program} {w : World} {H : Hp} {h : Heap} {a : Addr}
theorem rd_of {u : HO} (ok : HOk P w H h) (e : Rd H a u) : ObjOk P w H h a u := e.ok ok
theorem dk_rd {kvs : List (Key × V)} (ok : HOk P w H h) (e : Rd H a (.dK kvs)) : kvs.length ≤ sizeLine ∧ (a == sysModules) = false ∧ ∃ vs, KV kvs vs ∧ h.DictOf (mixKind P w) a vs :=
  show ObjOk P w H h a (.dK kvs) from rd_of ok e
theorem dk_of {kvs : List (Key × V)} (ok : HOk P w H h) (e : H a = some (.dK kvs)) : kvs.length ≤ sizeLine ∧ (a == sysModules) = false ∧ ∃ vs, KV kvs vs ∧ h.DictOf (mixKind P w) a vs := dk_rd ok (.inl e)
theorem key_of {ks : List Key} (ok : HOk P w H h) (e : H a = some (.tup (ks.map kV))) : (tupleKind (mixKind P w)).is h ks a := by
  obtain ⟨_, its, r, o, h1, h2, n, h3⟩ := (show ObjOk P w H h a (.tup (ks.map kV)) from ok a _ e)
  exact ⟨o, its.toArray, n, h1, h2, h3, by simpa using items_are r⟩
theorem dt_rd {kvs : List (List Key × V)} (ok : HOk P w H h) (e : Rd H a (.dT kvs)) : kvs.length ≤ sizeLine ∧ (a == sysModules) = false ∧
    ∃ xs, KT H kvs xs ∧ h.DictOfH (tupleKind (mixKind P w)) a xs := by
  obtain ⟨z, y, xs, r, o, es, ep, h1, h2, h3, h4, h5⟩ := (show ObjOk P w H h a (.dT kvs) from rd_of ok e)
  refine ⟨z, y, xs, r, o, es, ep, h1, h2, h3, h4, fun x hx => ?_, h5⟩
  have all : ∀ {l : List (List Key × V)} {m : List (List Key × Addr × Value)}, KT H l m → ∀ x ∈ m, (tupleKind (mixKind P w)).is h x.1 x.2.1 := by
    intro l m q
    induction q with
    | nil => intro x hx; exact nomatch hx
    | @cons p q ps qs hq t ih =>
      intro x hx
      rcases List.mem_cons.mp hx with e | hx
      · subst e
        exact key_of ok (by rw [← hq.1]; exact hq.2.1)
      · exact ih x hx
  exact all r x hx
theorem dt_of {kvs : List (List Key × V)} (ok : HOk P w H h) (e : H a = some (.dT kvs)) : kvs.length ≤ sizeLine ∧ (a == sysModules) = false ∧
    ∃ xs, KT H kvs xs ∧ h.DictOfH (tupleKind (mixKind P w)) a xs := dt_rd ok (.inl e)
end

def DGet (H : Hp) (a : Addr) (y : V) (r : Option V) : Prop :=
  (∃ kvs k, Rd H a (.dK kvs) ∧ y = kV k ∧ r = valV kvs k) ∨ ∃ kvs k b, Rd H a (.dT kvs) ∧ y = .ref b ∧ H b = some (.tup (k.map kV)) ∧ r = valV kvs k
def DPut (H : Hp) (a : Addr) (y v : V) (H' : Hp) : Prop :=
  (∃ kvs k, H a = some (.dK kvs) ∧ y = kV k ∧ kvs.length < sizeLine ∧ H' = upd H a (.dK (putK kvs k v))) ∨
  ∃ kvs k b, H a = some (.dT kvs) ∧ y = .ref b ∧ H b = some (.tup (k.map kV)) ∧ kvs.length < sizeLine ∧ H' = upd H a (.dT (putK kvs k v))
theorem DGet.k {H : Hp} {a : Addr} {kvs : List (Key × V)} {k : Key} (e : H a = some (.dK kvs)) : DGet H a (kV k) (valV kvs k) := .inl ⟨kvs, k, .inl e, rfl, rfl⟩
theorem DGet.t {H : Hp} {a b : Addr} {kvs : List (List Key × V)} {k : List Key} (e : H a = some (.dT kvs)) (eb : H b = some (.tup (k.map kV))) : DGet H a (.ref b) (valV kvs k) := .inr ⟨kvs, k, b, .inl e, rfl, eb, rfl⟩
theorem DPut.k {H : Hp} {a : Addr} {kvs : List (Key × V)} {k : Key} {v : V} (e : H a = some (.dK kvs)) (hl : kvs.length < sizeLine) : DPut H a (kV k) v (upd H a (.dK (putK kvs k v))) := .inl ⟨kvs, k, e, rfl, hl, rfl⟩
theorem DPut.t {H : Hp} {a b : Addr} {kvs : List (List Key × V)} {k : List Key} {v : V} (e : H a = some (.dT kvs)) (eb : H b = some (.tup (k.map kV))) (hl : kvs.length < sizeLine) :
    DPut H a (.ref b) v (upd H a (.dT (putK kvs k v))) := .inr ⟨kvs, k, b, e, rfl, eb, hl, rfl⟩


section
variable {X : Cx} {pins : List (Addr × Obj)} {σ : St} {H : Hp} {s : Shared} {a : Addr} {y v : V} {u r : Value} {o : Option V} {A : Around} {E : Value → Shared → Prop}

theorem Inv.big (I : Inv X pins σ H s) : sysModules < s.heap.objs.size := by
  have h : mainGlobals < s.heap.objs.size := (I.mod.glob.keeps I.bk).lt
  exact Nat.lt_trans (by decide) h

theorem d_getItem {Q : Value → Shared → Prop} (hu : A.units + 1 < cLine) (I : Inv X pins σ H s) (g : DGet H a y (some v)) (ry : RelV y u) (h : ∀ w' s', Inv X pins σ H s' → RelV v w' → Q w' s') :
    wpAny (model X.prog X.w) A (getItem (.ref a) u) Q E s := by
  rcases g with ⟨kvs, k, e, ey, l⟩ | ⟨kvs, k, b, e, ey, eb, l⟩
  · subst ey
    obtain ⟨z, hd, vs, rel, dd⟩ := dk_rd I.hok e
    obtain ⟨w', hw, rw'⟩ := RelO.some_of (v := v) (o := valueAt vs k) (by rw [l]; exact rel.val k)
    exact wpAny_getItem_of (kV_is ry) dd.mapOf hw (h w' _ (I.tok _) rw')
  · subst ey
    cases (show u = Value.ref b from ry)
    obtain ⟨z, hd, xs, rel, dd⟩ := dt_rd I.hok e
    obtain ⟨w', hw, rw'⟩ := RelO.some_of (v := v) (o := (atKey xs k).map (·.2)) (by rw [l]; exact rel.val k)
    obtain ⟨p, hp, hp2⟩ := Option.map_eq_some_iff.mp hw
    refine wpAny_getItem_heap (tupleKind_room_in1 hu) (key_of I.hok eb) dd hp ?_
    rw [hp2]
    exact h w' _ (I.tok _) rw'
theorem d_write {h' : Heap} {t' : Nat} {ob : HO} (I : Inv X pins σ H s) (mu : Mut (H a)) (hs : Heap.SameBut a s.heap h') (he : ∃ q, h'.get? a = some q) (new : ObjOk X.prog X.w (upd H a ob) h' a ob) :
    Inv X pins σ (upd H a ob) { s with heap := h', toks := t' } :=
  I.write (x := a) (e := a) mu (.inl rfl) (fun b q hb z => (hs.2 b hb).trans z) he new
theorem dk_new {P : Program} {w : World} {H' : Hp} {h' : Heap} {kvs : List (Key × V)} {vs : List (Key × Value)} (z : kvs.length ≤ sizeLine) (hd : (a == sysModules) = false) (rel : KV kvs vs) (dd : h'.DictOf (mixKind P w) a vs) :
    ObjOk P w H' h' a (.dK kvs) := ⟨z, hd, vs, rel, dd⟩
theorem d_setItem {H' : Hp} {Q : Unit → Shared → Prop} (hu : A.units + 1 < cLine) (I : Inv X pins σ H s) (g : DPut H a y v H') (ry : RelV y u) (rv : RelV v r) (h : ∀ s', Inv X pins σ H' s' → Q () s') :
    wpAny (model X.prog X.w) A (setItem (.ref a) u r) Q E s := by
  rcases g with ⟨kvs, k, e, ey, l, eH⟩ | ⟨kvs, k, b, e, ey, eb, l, eH⟩
  · subst ey eH
    obtain ⟨z, hd, vs, rel, dd⟩ := dk_of I.hok e
    have hz : vs.length ≤ sizeLine := by rw [← rel.length]; exact z
    have hl : (putK kvs k v).length ≤ sizeLine := by have := length_putK kvs k v; omega
    refine wpAny_setItem_pairs (hsz := hz) (kV_is ry) dd fun h' dd' hs => h _ ?_
    have he : ∃ q, h'.get? a = some q := let ⟨q, _, _, hq, _⟩ := dd'; ⟨q, hq⟩
    exact d_write I (by rw [e]; exact True.intro) hs he (dk_new hl hd (rel.put k rv) dd')
  · subst ey eH
    cases (show u = Value.ref b from ry)
    obtain ⟨z, hd, xs, rel, dd⟩ := dt_of I.hok e
    have hz : xs.length ≤ sizeLine := by rw [← Paired.length rel]; exact z
    have hl : (putK kvs k v).length ≤ sizeLine := by have := length_putK kvs k v; omega
    refine wpAny_setItem_heap (hsz := hz) (tupleKind_room_in1 hu) (key_of I.hok eb) dd fun h' dd' hs => h _ ?_
    obtain ⟨q, es, ep, hq, h2, h3, h4, _, h5⟩ := dd'
    refine d_write I (by rw [e]; exact True.intro) hs ⟨q, hq⟩ ⟨hl, hd, _, (rel.put k eb rv).keeps fun c ys ec => ?_, q, es, ep, hq, h2, h3, h4, h5⟩
    rw [upd_ne (ne_of ec e (fun z => nomatch z))]
    exact ec
end

section
variable {X : Cx} {pins : List (Addr × Obj)} {σ : St} {H : Hp} {s : Shared} {a : Addr} {kvs : List (Key × V)} {k : Key} {u : Value} {A : Around} {E : Value → Shared → Prop}
end


section
variable {X : Cx} {o i e value : Expr} {pos pos' tpos : Pos} {td ty tv : TE}
end


theorem dk_empty {P : Program} {w : World} {H : Hp} (h : Heap) (hb : sysModules < h.objs.size) : ObjOk P w H (h.push { cls := .type "dict", data := .dict #[] }) h.objs.size (.dK []) :=
  ⟨Nat.zero_le _, beq_eq_false_iff_ne.mpr (Ne.symm (Nat.ne_of_lt hb)), [], .nil, Heap.DictOf.new h⟩
def tDNewK : TE := fun _ H Q => ∀ p, H p = none → Q (.ref p) (upd H p (.dK []))
section
variable {X : Cx} {pos : Pos}
theorem pe_dnewK : PE X (.Dict [] [] pos) tDNewK := fun pins s σ H Q I h =>
  wpAny_Dict_empty ⟨.ref s.heap.objs.size, _, I.laid (a := s.heap.objs.size) (o := .dK []) (t' := s.toks) (fun _ _ q => Heap.get?_push_of_some _ q) (Nat.le_refl _) (dk_empty s.heap I.big), rfl, h _ (I.hok.fresh (Nat.le_refl _))⟩
end

structure M1 (X : Cx) (o : Expr) (m : Str) (apos : Pos) (e : Expr) (cpos : Pos) : Prop where
  base : attributeBase o m X.env (eval o X.env) = eval o X.env
  few : ((backTo cpos (starEach [e] X.env)).all (fun x => !x.1) && (backToKw cpos (keywordEach [] X.env)).all (fun x => x.1.isSome)
    && decide (([e] : List Expr).length + ([] : List Keyword).length + (if ([] : List Keyword).isEmpty then 0 else 1) < 30)) = true
  line : (apos.endLine == cpos.line) = true
  trees : backTo cpos (starEach [e] X.env) = [(false, eval e X.env)]
structure M2 (X : Cx) (o : Expr) (m : Str) (apos : Pos) (e f : Expr) (cpos : Pos) : Prop where
  base : attributeBase o m X.env (eval o X.env) = eval o X.env
  few : ((backTo cpos (starEach [e, f] X.env)).all (fun x => !x.1) && (backToKw cpos (keywordEach [] X.env)).all (fun x => x.1.isSome)
    && decide (([e, f] : List Expr).length + ([] : List Keyword).length + (if ([] : List Keyword).isEmpty then 0 else 1) < 30)) = true
  line : (apos.endLine == cpos.line) = true
  trees : backTo cpos (starEach [e, f] X.env) = [(false, eval e X.env), (false, eval f X.env)]

def IsD (H : Hp) (a : Addr) : Prop := (∃ kvs, Rd H a (.dK kvs)) ∨ ∃ kvs, Rd H a (.dT kvs)
theorem isD_at {X : Cx} {pins : List (Addr × Obj)} {σ : St} {H : Hp} {s : Shared} {a : Addr} (I : Inv X pins σ H s) (d : IsD H a) :
    s.TypeIs (.ref a) "dict" ∧ (∀ b, Value.ref a = .ref b → ∃ ob, s.heap.get? b = some ob ∧ ob.dict = none) ∧ (a == sysModules) = false := by
  rcases d with ⟨kvs, e⟩ | ⟨kvs, e⟩
  · obtain ⟨_, hd, vs, _, dd⟩ := dk_rd I.hok e
    refine ⟨dd.typeIs, fun b q => ?_, hd⟩
    cases q
    obtain ⟨ob, _, _, h1, h2, _⟩ := dd
    exact ⟨ob, h1, h2.2.1⟩
  · obtain ⟨_, hd, xs, _, dd⟩ := dt_rd I.hok e
    refine ⟨dd.typeIs, fun b q => ?_, hd⟩
    cases q
    obtain ⟨ob, _, _, h1, h2, _⟩ := dd
    exact ⟨ob, h1, h2.2.1⟩

section
variable {X : Cx} {pins : List (Addr × Obj)} {σ : St} {H : Hp} {s : Shared} {a : Addr} {y d : V} {u r : Value} {o : Option V} {A : Around} {E : Value → Shared → Prop}
end

section
variable {X : Cx} {o e f : Expr} {apos cpos : Pos} {td ty tx : TE}
end

section
variable {X : Cx} {pins : List (Addr × Obj)} {σ : St} {H : Hp} {s : Shared} {a : Addr} {kvs : List (Key × V)} {A : Around} {E : Value → Shared → Prop}
end


section
variable {X : Cx} {pins : List (Addr × Obj)} {σ : St} {H : Hp} {s : Shared} {a : Addr} {y : V} {u : Value} {A : Around} {E : Value → Shared → Prop}
end
end L2

namespace Att
open PySem PySem.W PySem.Calls PyProof.Rows

theorem ints_of_wellAll {P : Params} {h : Heap} : ∀ (ns : List Int) (vs : List Value), WellAll P h vs (ns.map WData.int) → IntsAre vs ns := by
  intro ns
  induction ns with
  | nil =>
    intro vs w
    rw [List.map_nil] at w
    cases w
    exact .nil
  | cons n ns ih =>
    intro vs w
    rw [List.map_cons] at w
    cases w with
    | cons a b =>
      cases a
      exact .cons _ _ (ih _ b)

theorem script_of {l : OpenLaw} {n : Nat} (hn : l.most = some n) {P : Params} {h : Heap} {args : List WData} {vals : List Value}
    (hpre : l.row.toRowW.claim.pre args = true) (hwl : WellAll P h vals args) :
    ∃ a vs ns, vals = [Value.ref a] ∧ args = [WData.list (ns.map WData.int)] ∧ h.get? a = some { cls := .type "list", data := .seq vs.toArray } ∧ IntsAre vs ns ∧ ns.length ≤ n := by
  have hsh : WShape.hasAll [] args [.list .int] = true := (pre_splitW hpre).1
  have hc : l.pre.holds [] { args := args } = true := (pre_splitW hpre).2
  obtain ⟨d, r, rfl, h1, h2⟩ := hasAllW_cons hsh
  obtain rfl := hasAllW_nil h2
  obtain ⟨xs, rfl, h3⟩ := hasW_list h1
  obtain ⟨ns, rfl⟩ := items_int h3
  have hlen : ns.length ≤ n := by
    unfold OpenLaw.pre at hc
    have h4 : (WTm.not (.lt (.lit (.int (n : Int))) (.len (.arg 0)))).holds [] { args := [.list (ns.map .int)] } = true := by
      have h4 := (holds_andW hc).1
      rw [hn] at h4
      exact h4
    have h5 := condW_of h4 (w_not (w_lt w_lit (w_len_list (w_arg rfl))))
    rw [List.length_map] at h5
    refine Nat.le_of_not_lt fun q => ?_
    have q' : (n : Int) < ((ns.length : Nat) : Int) := by omega
    first
      | (rw [decide_eq_true q'] at h5; exact absurd h5 (by decide))
      | (simp at h5; omega)
  cases hwl with
  | cons w1 w2 =>
    cases w2
    cases w1 with
    | list ho hall => exact ⟨_, _, ns, rfl, rfl, ho, ints_of_wellAll ns _ hall, hlen⟩

theorem post_true (l : OpenLaw) (args : List WData) : l.row.toRowW.claim.post args (.bool true) args = true :=
  postW_of (r := l.row.toRowW) (X := (true == true))
    (show WShape.has [] (.bool true) .bool = true by first | rfl | decide | simp [WShape.has, WShape.arms, WShape.armsAll])
    (show (WTm.eq .res (.lit (.bool true))).value [] { args := args, res := some (.bool true), after := args } = some (.bool (true == true)) from w_eq_bool (w_res rfl) w_lit) rfl

theorem attach_call {l : OpenLaw} {n : Nat} {q : Program} {loose : List Str} {XP : (Str → Option Value) → Heap → Prop} {YP : World → Heap → Prop} {d : DefRec}
    (hn : l.most = some n) (hdf : d.params.defaults = [])
    (call : ∀ (w : World) (s₀ s₁ : Shared) (mg mb : Str → Option Value) (fa : Addr) (o : Obj) (pm cd doc : Value) (a : Addr) (vs : List Value) (ns : List Int),
      Ground q loose [] XP w s₀ mg mb s₁.heap → YP w s₁.heap →
      s₁.heap.get? fa = some o → o.data = .func (docDef d.name d.params d.body d.scope pm cd doc) → s₁.heap.CodeRec cd d.name → mg d.name = some (.ref fa) →
      s₁.heap.get? a = some { cls := .type "list", data := .seq vs.toArray } → IntsAre vs ns → ns.length ≤ n → s₁.gens = #[] →
      codeAny (model l.prog w) callerA (.call (.ref fa) ⟨[.ref a], []⟩) (fun r s' => r = .ok (.ret (.bool true)) ∧ OldK s₁.heap s'.heap ∧ s'.os = s₁.os ∧ AllBare s'.gens) s₁) :
    WalkO q loose XP YP l.row.toRowW d [] (fun f vs => PySem.call f vs) := by
  intro w s₀ s₁ mg mb G Y fa o pm cd doc dV kV ho hd hcd hD hmg hg args vals as hpre hlay hrd hwl hlo
  obtain rfl : dV = .none := Dflts.none hD hdf
  obtain rfl : kV = .none := Dflts.noKw hD
  obtain ⟨a, vs, ns, rfl, rfl, hobj, hints, hlen⟩ := script_of hn hpre hwl
  refine enter_call (codeAny_mono (call w s₀ s₁ mg mb fa o pm cd doc a vs ns G Y ho (fd_plain hd) hcd hmg hobj hints hlen hg) fun r s' hq => ?_)
  obtain ⟨rfl, h2, h3, h4⟩ := hq
  exact ⟨.inl ⟨.bool true, .bool true, [], rfl, fun _ => rfl, .bool true, post_true l _, fun _ => ⟨List.Pairwise.nil, fun _ hm => (nomatch hm)⟩⟩, h2, h3, h4⟩

section
variable {prog : Program} {w : World} {A : Around} {E : Value → Shared → Prop} {s : Shared} {K : Frag}

end
end Att

namespace L2
open PySem PySem.Spec PyProof.Rows

theorem vals_ints : ∀ {vs : List Value} {ns : List Int}, IntsAre vs ns → Vals (ns.map V.int) vs
  | _, _, .nil => .nil
  | _, _, .cons n t h => .cons ⟨t, rfl⟩ (vals_ints h)

def Only (H : Hp) : Prop := ∀ b, H b = none ∨ ∃ o xs, H b = some (.frz o (.lst xs))

theorem law_call {P : Program} {w : World} {K : PySem.W.Frag} {mg mb : Str → Option Value} {CX : CXT} {k : Nat} {fa a : Addr} {fd : FuncData} {x : Str} {sp : Sp} {s₁ : Shared} {vs : List Value} {ns : List Int}
    (KX : K.In s₁.heap) (hns : s₁.heap.Ns mainGlobals mg) (hb : s₁.heap.Ns builtinsNs mb) (hbb : ∀ x : Str, x ≠ "__name__" → mb x = bootBuiltins x) (hlim : s₁.heap.NoLimit) (hg : s₁.gens = #[])
    (ha : s₁.heap.get? a = some { cls := .type "list", data := .seq vs.toArray }) (hi : IntsAre vs ns) (hl : ns.length ≤ sizeLine) (hr : Room k callerA)
    (F : ∀ base : Heap, K.In base → base.Ns mainGlobals mg → FnOk P w K mg base CX k fa fd [x] sp) (hbind : ∀ (s : Shared) (u : Value), BindsTo s fd ⟨[u], []⟩ [(x, u)])
    (hsp : ∀ H : Hp, Only H → SqL K H a (ns.map V.int) → sp [.ref a] H (fun v _ => v = .bl true) fun _ _ _ => False)
    (hCX : ∀ H e s', CX [] H s₁ (fun _ _ _ => False) e s' → False) :
    codeAny (model P w) callerA (.call (.ref fa) ⟨[.ref a], []⟩) (fun r s' => r = .ok (.ret (.bool true)) ∧ OldK s₁.heap s'.heap ∧ s'.os = s₁.os ∧ AllBare s'.gens) s₁ := by
  have rv := vals_ints hi
  have lenV := hi.length
  have core : ∀ H : Hp, Only H → SqL K H a (ns.map V.int) → HOk P w H s₁.heap → (∀ b, H b ≠ none → b = a) → (H a ≠ none → K.lookup a = none) →
      codeAny (model P w) callerA (.call (.ref fa) ⟨[.ref a], []⟩) (fun r s' => r = .ok (.ret (.bool true)) ∧ OldK s₁.heap s'.heap ∧ s'.os = s₁.os ∧ AllBare s'.gens) s₁ := by
    intro H hO hS hok hA hK
    have base_of : ∀ {b : Addr} {o : Obj}, s₁.heap.get? b = some o → H b = none → (hidT s₁.heap H).get? b = some o := fun e n => hidT_get e n
    have noA : ∀ {b : Addr} {o : Obj} {es : Array DictEntry} {ep : Nat}, s₁.heap.get? b = some o → o.data = .dict es ep → H b = none := fun {b o es ep} e d => by
      cases q : H b with
      | none => rfl
      | some u =>
        have e' : b = a := hA b (by rw [q]; simp)
        subst e'
        rw [ha] at e; cases e
        have d' : Data.seq vs.toArray _ = Data.dict es ep := d
        cases d'
    have nsK : ∀ {b : Addr} {m : Str → Option Value}, s₁.heap.Ns b m → (hidT s₁.heap H).Ns b m := fun {b m} ⟨o, es, ep, e, d, r⟩ => ⟨o, es, ep, base_of e (noA e d), d, r⟩
    have hKb : K.In (hidT s₁.heap H) := fun b o e => base_of (KX b o e) (by
      cases q : H b with
      | none => rfl
      | some u =>
        have e' : b = a := hA b (by rw [q]; simp)
        subst e'
        rw [hK (by rw [q]; simp)] at e; cases e)
    have hM : Mod K mg (hidT s₁.heap H) := ⟨hKb, nsK hns, ⟨mb, nsK hb, hbb⟩, let ⟨mc, h1, h2⟩ := hlim; ⟨mc, nsK h1, h2⟩⟩
    have e0 : Env0 P w K mg (hidT s₁.heap H) callerA [] s₁ H := ⟨rfl, hM, fun b o e => of_hidT e, Nat.le_of_eq (hidT_size _ _), trivial, fun b hb => absurd (show b ∈ ([] : List Addr) from hb) (by simp), hok, .of_eq hg⟩
    refine codeAny_mono ((F _ hKb (nsK hns)).run callerA [] s₁ H ⟨[.ref a], []⟩ [.ref a] [.ref a] _ _ hr e0 (hbind s₁ (.ref a)) (.cons rfl .nil) (hsp H hO hS)) fun r s' h => ?_
    cases r with
    | error e => exact (hCX H e s' h).elim
    | ok fl =>
      cases fl with
      | next => exact False.elim h
      | brk => exact False.elim h
      | cont => exact False.elim h
      | ret u =>
        obtain ⟨v, H', os, bare, un, hok', r', q⟩ := h
        have q' : v = .bl true := q
        subst q'
        obtain rfl : u = Value.bool true := r'
        refine ⟨rfl, OldK.of_keep fun b o e => ?_, os, bare⟩
        cases q : H b with
        | none => exact un.keep b o e q (by intro z; exact absurd (show b ∈ ([] : List Addr) from z) (by simp)) (by simp)
        | some u =>
          rcases hO b with z | ⟨ob, xs, z⟩
          · rw [q] at z; cases z
          · have z2 := un.frzs b ob _ z
            obtain ⟨e1, _⟩ := hok b _ z
            obtain ⟨e2, _⟩ := hok' b _ z2
            rw [e] at e1; cases e1
            exact e2
  cases hk : K.lookup a with
  | some o =>
    have e := KX a o hk
    rw [ha] at e
    cases e
    refine core (fun _ => none) (fun _ => .inl rfl) (.inr ⟨_, vs.toArray, _, hk, rfl, rfl, rfl, by rw [List.size_toArray, lenV]; exact hl, by simpa using rv⟩) (fun b u z => by have z' : (none : Option HO) = some u := z; cases z') (fun b z => absurd rfl z) fun z => absurd rfl z
  | none =>
    refine core (fun b => if b = a then some (.frz { cls := .type "list", data := .seq vs.toArray } (.lst (ns.map V.int))) else none) (fun b => ?_) (.inl (.inr ⟨{ cls := .type "list", data := .seq vs.toArray }, if_pos rfl⟩)) (fun b u z => ?_) (fun b z => ?_) fun _ => hk
    · by_cases hb : b = a
      · exact .inr ⟨_, _, if_pos hb⟩
      · exact .inl (if_neg hb)
    · by_cases hb : b = a
      · have z' := (if_pos hb).symm.trans z
        cases z'
        subst hb
        exact ⟨ha, by rw [List.length_map]; exact hl, vs, _, rv, ha⟩
      · have z' := (if_neg hb).symm.trans z
        cases z'
    · by_cases hb : b = a
      · exact hb
      · exact absurd (if_neg hb) z
end L2

namespace L2
open PySem PySem.Spec PyProof.Rows

abbrev KOf {K : PySem.W.Frag} {h : Heap} (_ : K.In h) : PySem.W.Frag := K

theorem walk_of {l : PySem.W.OpenLaw} {n k : Nat} {q : Program} {loose : List Str} {XP : (Str → Option Value) → Heap → Prop} {YP : World → Heap → Prop} {d : DefRec} {K : Params → PySem.W.Frag} {CX : World → CXT} {sp : World → Sp} {x : Str}
    (hn : l.most = some n) (hn2 : n ≤ sizeLine) (hdf : d.params.defaults = []) (hr : Room k callerA)
    (hY : ∀ (w : World) (h : Heap), YP w h → (K w.params).In h)
    (F : ∀ (w : World) (mg : Str → Option Value) (fa : Addr) (h : Heap), (K w.params).In h → h.Ns mainGlobals mg → mg d.name = some (.ref fa) →
      ∃ fd : FuncData, (∀ (s : Shared) (u : Value), BindsTo s fd ⟨[u], []⟩ [(x, u)]) ∧
        ∀ base : Heap, (K w.params).In base → base.Ns mainGlobals mg → FnOk l.prog w (K w.params) mg base (CX w) k fa fd [x] (sp w))
    (hsp : ∀ (w : World) (H : Hp) (a : Addr) (ns : List Int), ns.length ≤ n → Only H → SqL (K w.params) H a (ns.map V.int) → sp w [.ref a] H (fun v _ => v = .bl true) fun _ _ _ => False)
    (hCX : ∀ (w : World) (H : Hp) (s : Shared) (e : Value) (s' : Shared), CX w [] H s (fun _ _ _ => False) e s' → False) :
    PySem.W.WalkO q loose XP YP l.row.toRowW d [] (fun f vs => PySem.call f vs) := by
  refine Att.attach_call hn hdf fun w s₀ s₁ mg mb fa o pm cd doc a vs ns G Y ho hd hcd hmg hobj hints hlen hg => ?_
  have KX := hY w _ Y
  obtain ⟨fd, hb, hF⟩ := F w mg fa _ KX G.T.g hmg
  exact law_call KX G.T.g G.T.b G.T.builtins G.T.nolimit hg hobj hints (Nat.le_trans hlen hn2) hr hF hb (fun H hO hS => hsp w H a ns hlen hO hS) fun H e s' => hCX w H s₁ e s'
theorem walk_ofK {l : PySem.W.OpenLaw} {n k : Nat} {q : Program} {loose : List Str} {XP : (Str → Option Value) → Heap → Prop} {YP : World → Heap → Prop} {d : DefRec} {K : Params → PySem.W.Frag} {CX : CXT} {sp : PySem.W.Frag → Sp} {x : Str}
    (hn : l.most = some n) (hn2 : n ≤ sizeLine) (hdf : d.params.defaults = []) (hr : Room k callerA)
    (hY : ∀ (w : World) (h : Heap), YP w h → (K w.params).In h)
    (F : ∀ (w : World) (mg : Str → Option Value) (fa : Addr) (h : Heap), (K w.params).In h → h.Ns mainGlobals mg → mg d.name = some (.ref fa) →
      ∃ fd : FuncData, (∀ (s : Shared) (u : Value), BindsTo s fd ⟨[u], []⟩ [(x, u)]) ∧
        ∀ base : Heap, (K w.params).In base → base.Ns mainGlobals mg → FnOk l.prog w (K w.params) mg base CX k fa fd [x] (sp (K w.params)))
    (hsp : ∀ (K : PySem.W.Frag) (H : Hp) (a : Addr) (ns : List Int), ns.length ≤ n → Only H → SqL K H a (ns.map V.int) → sp K [.ref a] H (fun v _ => v = .bl true) fun _ _ _ => False)
    (hCX : ∀ (H : Hp) (s : Shared) (e : Value) (s' : Shared), CX [] H s (fun _ _ _ => False) e s' → False) :
    PySem.W.WalkO q loose XP YP l.row.toRowW d [] (fun f vs => PySem.call f vs) :=
  walk_of (K := K) (CX := fun _ => CX) (sp := fun w => sp (K w.params)) hn hn2 hdf hr hY F (fun w H a ns h1 h2 h3 => hsp (K w.params) H a ns h1 h2 h3) fun _ H s e s' => hCX H s e s'
end L2


namespace L2
open PySem PySem.Spec PyProof.Rows

def defArgs (s : Stmt) : Arguments := match s with
  | .FunctionDef _ a _ _ _ _ _ _ _ _ => a
  | _ => { posonlyargs := [], args := [], vararg := none, kwonlyargs := [], kw_defaults := [], kwarg := none, defaults := [] }
def defBody (s : Stmt) : List Stmt := match s with
  | .FunctionDef _ _ b _ _ _ _ _ _ _ => b
  | _ => []
def defScope (s : Stmt) : Scope := match s with
  | .FunctionDef _ _ _ _ _ _ sc _ _ _ => sc
  | _ => { kind := .function, names := [], isGenerator := false, isCoroutine := false }

abbrev CX0 : CXT := fun _ _ _ _ _ _ => False
abbrev E0 : XK := fun _ _ _ => False
theorem pass0 {X : Cx} : Passes CX0 X E0 := fun _ _ _ _ _ _ _ h => h.elim

structure Fun (K : PySem.W.Frag) (x qual : Str) (st : Stmt) (f : Addr) (fd : FuncData) : Prop where
  ex : ∃ (oc : Value) (od : Option Addr) (kV doc pm : Value) (an : Option Addr) (cdv ct : Value) (osl : Array (Option Value)),
    fd = PySem.W.fnOf x qual (defArgs st) (defBody st) (defScope st) .none kV doc pm an cdv ct ∧ K.lookup f = some ⟨oc, od, .func fd, osl⟩ ∧ PySem.W.codeIn K cdv qual = true
  kp : PySem.W.keepIn K (.ref f) = true
section
variable {P : Program} {w : World} {K : PySem.W.Frag} {mg : Str → Option Value} {base : Heap}
theorem Fun.ok {x qual : Str} {st : Stmt} {f : Addr} {fd : FuncData} {N ps : List Str} {k : Nat} {sp : Sp} (F : Fun K x qual st f fd) (S : FnScope N ps (defScope st)) (len : ∀ vs H Q E, sp vs H Q E → vs.length = ps.length)
    (hbody : ∀ (cdv : Value) (A : Around) (outer : List Env) (s : Shared) (H : Hp) (vs : List V) (Q : VK) (E : XK), Room k (A.deeper (envOfC qual (defScope st) s.heap.objs.size f cdv)) → sp vs H Q E →
      ∃ t, PSs (cxOf CX0 P w K mg base N qual (defScope st) f cdv A outer s H E).nox (defBody st) t ∧ t { nx := fun _ H' => Q .non H', rt := Q } (start N vs) H) : FnOk P w K mg base CX0 (k + 1) f fd ps sp := by
  obtain ⟨oc, od, kV, doc, pm, an, cdv, ct, osl, rfl, lk, hcd⟩ := F.ex
  refine fn_of lk hcd S len fun A outer s H vs Q E hr hsp => ?_
  obtain ⟨t, h, q⟩ := hbody cdv A outer s H vs Q E hr hsp
  exact ⟨t, h.nox, q⟩
theorem Fun.binds {x qual : Str} {st : Stmt} {f : Addr} {fd : FuncData} {ps : List Str} (F : Fun K x qual st f fd)
    (h : ∀ (kV doc pm : Value) (an : Option Addr) (cdv ct : Value) (us : List Value), us.length = ps.length → bindArgs (PySem.W.fnOf x qual (defArgs st) (defBody st) (defScope st) .none kV doc pm an cdv ct) ⟨us, []⟩ = pure (ps.zip us)) : Binds K fd ps [] := by
  obtain ⟨oc, od, kV, doc, pm, an, cdv, ct, osl, rfl, lk, hcd⟩ := F.ex
  exact .all (h kV doc pm an cdv ct)
theorem fun_mk {x qual : Str} {st : Stmt} {f : Addr} {oc : Value} {od an : Option Addr} {osl : Array (Option Value)} {kV doc pm cdv ct : Value} (l : K.lookup f = some ⟨oc, od, .func (PySem.W.fnOf x qual (defArgs st) (defBody st) (defScope st) .none kV doc pm an cdv ct), osl⟩)
    (c : PySem.W.codeIn K cdv qual = true) (k : PySem.W.keepIn K (.ref f) = true) : Fun K x qual st f (PySem.W.fnOf x qual (defArgs st) (defBody st) (defScope st) .none kV doc pm an cdv ct) := ⟨⟨oc, od, kV, doc, pm, an, cdv, ct, osl, rfl, l, c⟩, k⟩
end
section
variable {X : Cx}
theorem pv (i : Nat) {x : Str} {pos : Pos} (hN : X.N[i]? = some x := by rfl) (hv : Vis X.env.scope x := by first | exact Or.inl rfl | exact Or.inr (Or.inl rfl) | exact Or.inr (Or.inr rfl)) (hd : (x == ("__debug__" : Str)) = false := by decide)
    (hcd : (x == ("__classdict__" : Str)) = false := by decide) : PE X (.Name x pos) (tVar i) := pe_var hN hv hd hcd
end

theorem ite2 {c A B : Prop} [Decidable c] (h1 : c → A) (h2 : ¬ c → B) : if c then A else B := by
  by_cases h : c
  · rw [if_pos h]
    exact h1 h
  · rw [if_neg h]
    exact h2 h
def Same (H H' : Hp) : Prop := ∀ b o, H b = some o → H' b = some o
theorem Same.refl (H : Hp) : Same H H := fun _ _ h => h
theorem Same.trans {H H1 H2 : Hp} (a : Same H H1) (b : Same H1 H2) : Same H H2 := fun c o h => b c o (a c o h)
theorem Same.free {H H' : Hp} (e : Same H H') {l : Addr} (h : H' l = Option.none) : H l = Option.none := by
  cases q : H l with
  | none => rfl
  | some o =>
    rw [e l o q] at h
    cases h
theorem Same.seq {K : PySem.W.Frag} {H H' : Hp} {a : Addr} {xs : List V} (e : Same H H') (h : SqL K H a xs) : SqL K H' a xs := by
  rcases h with (h | ⟨o, h⟩) | h
  · exact .inl (.inl (e _ _ h))
  · exact .inl (.inr ⟨o, e _ _ h⟩)
  · exact .inr h

section
variable {κ : Type} [DecidableEq κ]
end
end L2

set_option Elab.async false
set_option linter.all false
set_option maxRecDepth 100000
set_option maxHeartbeats 4000000
namespace L2
open PySem PySem.Spec PyProof.Rows

def closOf (env : Env) : List (Str × NameKind) → List (Str × Addr) → List (Str × Addr)
  | [], acc => acc
  | (n, k) :: r, acc => if k == .free then (match env.cells.lookup n with
      | some c => closOf env r ((n, c) :: acc)
      | none => closOf env r acc) else closOf env r acc
theorem closOf_ok {env : Env} : ∀ {names : List (Str × NameKind)} {acc : List (Str × Addr)}, (∀ n c, acc.lookup n = some c → env.cells.lookup n = some c) →
    ∀ n c, (closOf env names acc).lookup n = some c → env.cells.lookup n = some c
  | [], acc, h, n, c, e => h n c e
  | (x, k) :: r, acc, h, n, c, e => by
    unfold closOf at e
    split at e
    · split at e
      · rename_i cx hx
        refine closOf_ok (fun y d q => ?_) n c e
        rw [List.lookup_cons] at q
        cases hb : y == x with
        | true => rw [hb] at q; cases q; rw [beq_iff_eq.mp hb]; exact hx
        | false => rw [hb] at q; exact h y d q
      · exact closOf_ok h n c e
    · exact closOf_ok h n c e
theorem closOf_acc {env : Env} : ∀ {names : List (Str × NameKind)} {acc : List (Str × Addr)} {n : Str}, (acc.lookup n).isSome = true → ((closOf env names acc).lookup n).isSome = true
  | [], _, _, h => h
  | (x, k) :: r, acc, n, h => by
    unfold closOf
    split
    · split
      · refine closOf_acc ?_
        rw [List.lookup_cons]
        cases n == x with
        | true => rfl
        | false => exact h
      · exact closOf_acc h
    · exact closOf_acc h
theorem closOf_has {env : Env} : ∀ {names : List (Str × NameKind)} {acc : List (Str × Addr)} {n : Str} {c : Addr}, (n, NameKind.free) ∈ names → env.cells.lookup n = some c → ((closOf env names acc).lookup n).isSome = true
  | [], _, _, _, h, _ => nomatch h
  | (x, k) :: r, acc, n, c, h, e => by
    rcases List.mem_cons.mp h with q | q
    · cases q
      unfold closOf
      rw [if_pos (by rfl), e]
      refine closOf_acc ?_
      rw [List.lookup_cons, beq_self_eq_true]
      rfl
    · unfold closOf
      split
      · split
        · exact closOf_has q e
        · exact closOf_has q e
      · exact closOf_has q e
theorem closureFor_of {scope : Scope} {env : Env} (h : ∀ y ∈ scope.names, y.2 = .free → ∃ c, env.cells.lookup y.1 = some c) : closureFor scope env = pure (closOf env scope.names []) := by
  simp only [closureFor]
  have go : ∀ (names : List (Str × NameKind)) (acc : List (Str × Addr)), (∀ y ∈ names, y.2 = .free → ∃ c, env.cells.lookup y.1 = some c) →
      (forIn names acc (fun x cs => if (x.2 == NameKind.free) = true then (do let a ← cellOf env x.1; pure (ForInStep.yield ((x.1, a) :: cs))) else pure (ForInStep.yield cs)) : Sem (List (Str × Addr))) = pure (closOf env names acc) := by
    intro names
    induction names with
    | nil => intro acc _; rfl
    | cons p r ih =>
      intro acc hh
      obtain ⟨n, k⟩ := p
      rw [List.forIn_cons]
      unfold closOf
      by_cases hk : (k == NameKind.free) = true
      · obtain ⟨c, hc⟩ := hh (n, k) List.mem_cons_self (by simpa using hk)
        have hc' : env.cells.lookup n = some c := hc
        rw [if_pos hk, if_pos hk, hc']
        have e : cellOf env n = pure c := by unfold cellOf; rw [hc']
        simp only [e, pure_bind]
        exact ih _ fun y hy => hh y (List.mem_cons_of_mem _ hy)
      · rw [if_neg hk, if_neg hk]
        simp only [pure_bind]
        exact ih _ fun y hy => hh y (List.mem_cons_of_mem _ hy)
  have := go scope.names [] h
  simpa using this

theorem lookup_relabel {env : Env} : ∀ {names : List (Str × NameKind)} {x : Str},
    (names.map fun (n, k) => if (k == NameKind.free && env.scope.kind == .function && env.kindOf n == some .cell) then (n, NameKind.cell) else (n, k)).lookup x =
      (names.lookup x).map fun k => if (k == NameKind.free && env.scope.kind == .function && env.kindOf x == some .cell) then NameKind.cell else k
  | [], _ => rfl
  | (n, k) :: r, x => by
    have ih := @lookup_relabel env r x
    rw [List.map_cons]
    show List.lookup x ((if (k == NameKind.free && env.scope.kind == .function && env.kindOf n == some .cell) = true then (n, NameKind.cell) else (n, k)) :: _) = _
    cases hx : x == n with
    | true =>
      have e : x = n := beq_iff_eq.mp hx
      subst e
      by_cases hc : (k == NameKind.free && env.scope.kind == .function && env.kindOf x == some .cell) = true
      · rw [if_pos hc, List.lookup_cons, List.lookup_cons, hx]
        simp only [Option.map_some, hc, if_true]
      · rw [if_neg hc, List.lookup_cons, List.lookup_cons, hx]
        simp only [Option.map_some]
        rw [if_neg hc]
    | false =>
      by_cases hc : (k == NameKind.free && env.scope.kind == .function && env.kindOf n == some .cell) = true
      · rw [if_pos hc, List.lookup_cons, List.lookup_cons, hx]; exact ih
      · rw [if_neg hc, List.lookup_cons, List.lookup_cons, hx]; exact ih

theorem comp_loop {prog : Program} {w : World} {A : Around} {R : Result → Shared → Prop} {s : Shared} {elt target iter : Expr} {ifs : List Expr} {scope : Scope} {pos : Pos} {it acc : Value} {env : Env} (I : Nat → Shared → Prop)
    (turn : ∀ n s, I n s → wpAny (model prog w) A (pyNext it) (fun r s₁ => match r with
      | none => R (.ok .next) s₁
      | some v => wpAny (model prog w) A (letOwnedTupleGo target it v) (fun _ s₁' => wpAny (model prog w) A (assign target env v) (fun _ s₂ =>
          wpAny (model prog w) A (forIn ifs true fun c r => if r = true then do let ok ← isTrue c env (eval c env); pure (ForInStep.yield ok) else pure (ForInStep.yield r)) (fun ok s₃ =>
            if ok = true then wpAny (model prog w) A (eval elt env) (fun x s₄ =>
              wpAny (model prog w) A (call (.builtin "list.append") [acc, x]) (fun _ s₅ => ∃ m, m < n ∧ I m s₅) (notedBy (model prog w) A env fun e s' => R (.error e) s') s₄) (notedBy (model prog w) A env fun e s' => R (.error e) s') s₃
            else ∃ m, m < n ∧ I m s₃) (notedBy (model prog w) A env fun e s' => R (.error e) s') s₂) (notedBy (model prog w) A env fun e s' => R (.error e) s') s₁') (notedBy (model prog w) A env fun e s' => R (.error e) s') s₁) (notedBy (model prog w) A env fun e s' => R (.error e) s') s)
    (n : Nat) (h : I n s) :
    codeAny (model prog w) A (.compLoop (.ListComp elt [⟨target, iter, ifs, 0⟩] scope pos) 0 it acc env) R s := by
  refine codeAny_loop rfl I (fun n s hI => ?_) n h
  show wpAny _ A ((compTurn (.ListComp elt [⟨target, iter, ifs, 0⟩] scope pos) 0 it acc env).onRaise (fun x => do noteFrame x env; theTreesLotGoes x)) _ _ s
  refine wpAny_noted ?_
  rw [compTurn_list]
  refine wpAny_bind (wpAny_standAt (wpAny_bind (wpAny_mono (turn n s hI) (fun r s₁ h₁ => ?_) fun _ _ h' => h')))
  cases r with
  | none => exact wpAny_pure h₁
  | some v =>
    refine wpAny_bind (wpAny_mono h₁ (fun _ s₁' h₁' => ?_) fun _ _ h' => h')
    refine wpAny_bind (wpAny_mono h₁' (fun _ s₂ h₂ => wpAny_bind (wpAny_mono h₂ (fun ok s₃ h₃ => ?_) fun _ _ h' => h')) fun _ _ h' => h')
    cases ok with
    | false => exact wpAny_pure ⟨rfl, h₃⟩
    | true =>
      exact wpAny_bind (wpAny_bind (wpAny_mono h₃ (fun x s₄ h₄ => wpAny_bind (wpAny_mono h₄ (fun _ s₅ h₅ => wpAny_pure (wpAny_pure ⟨rfl, h₅⟩)) fun _ _ h' => h')) fun _ _ h' => h'))

def capt (cap : List (Option Nat)) (σ : St) : St := cap.map fun o => o.bind fun i => (σ[i]?).join

def cxComp (X : Cx) (N : List Str) (scope : Scope) (C : Addr) (s : Shared) (H : Hp) (ex : List Addr) : Cx where
  prog := X.prog
  w := X.w
  K := X.K
  mg := X.mg
  base := X.base
  A := X.A
  N := N
  s₀ := s
  H₀ := H
  env := compEnvC scope (closOf X.env scope.names []) C X.env
  outer := X.stack
  stack := X.stack
  ex := ex
  fn := fun _ => false
  calm := X.calm
  pn := []
  xe := fun _ _ => False

structure CompScope (X : Cx) (N : List Str) (cap : List (Option Nat)) (scope : Scope) : Prop where
  kind : scope.kind = .function
  nocell : ∀ y ∈ scope.names, y.2 ≠ .cell
  loc : ∀ y ∈ scope.names, y.2 = .local → scope.names.lookup y.1 = some .local
  fre : ∀ y ∈ scope.names, y.2 = .free → X.env.scope.names.lookup y.1 = some .cell ∨ X.env.scope.names.lookup y.1 = some .free
  nd : N.Nodup
  len : cap.length = N.length
  cap : ∀ (j i : Nat), cap[j]? = some (some i) → ∃ y, N[j]? = some y ∧ X.N[i]? = some y ∧ scope.names.lookup y = some .free
def compChk (outer : List (Str × NameKind)) (N0 N : List Str) (cap : List (Option Nat)) (names : List (Str × NameKind)) : Bool :=
  names.all (fun y => y.2 != .cell && (y.2 != .local || names.lookup y.1 == some .local) && (y.2 != .free || outer.lookup y.1 == some .cell || outer.lookup y.1 == some .free)) &&
  decide N.Nodup && cap.length == N.length &&
  (List.range cap.length).all fun j => match cap[j]? with
    | some (some i) => (match N[j]? with
      | some y => N0[i]? == some y && names.lookup y == some .free
      | none => false)
    | _ => true
theorem CompScope.of {X : Cx} {N : List Str} {cap : List (Option Nat)} {scope : Scope} (hk : scope.kind = .function) (h : compChk X.env.scope.names X.N N cap scope.names = true) : CompScope X N cap scope := by
  unfold compChk at h
  simp only [Bool.and_eq_true, List.all_eq_true, decide_eq_true_eq, beq_iff_eq] at h
  obtain ⟨⟨⟨h1, h2⟩, h3⟩, h4⟩ := h
  refine ⟨hk, fun y hy e => ?_, fun y hy e => ?_, fun y hy e => ?_, h2, h3, fun j i e => ?_⟩
  · have := (h1 y hy).1.1
    rw [e] at this
    exact absurd this (by decide)
  · have := (h1 y hy).1.2
    rw [e] at this
    simpa using this
  · have := (h1 y hy).2
    rw [e] at this
    simpa using this
  · have hj : j < cap.length := (List.getElem?_eq_some_iff.mp e).1
    have := h4 j (List.mem_range.mpr hj)
    rw [e] at this
    dsimp only at this
    cases q : N[j]? with
    | none => rw [q] at this; exact absurd this Bool.false_ne_true
    | some y =>
      rw [q] at this
      simp only [Bool.and_eq_true, beq_iff_eq] at this
      exact ⟨y, rfl, this.1, this.2⟩

theorem getElem?_capt {cap : List (Option Nat)} {σ : St} {j : Nat} {v : V} (h : (capt cap σ)[j]? = some (some v)) : ∃ i, cap[j]? = some (some i) ∧ σ[i]? = some (some v) := by
  unfold capt at h
  rw [List.getElem?_map] at h
  cases e : cap[j]? with
  | none => rw [e] at h; cases h
  | some o =>
    rw [e] at h
    cases o with
    | none => simp at h
    | some i =>
      refine ⟨i, rfl, ?_⟩
      simp only [Option.map_some, Option.bind_some, Option.some.injEq] at h
      cases q : σ[i]? with
      | none => rw [q] at h; simp at h
      | some z => rw [q] at h; simp at h; rw [h]

theorem inv_comp {X : Cx} {pins : List (Addr × Obj)} {σ : St} {H : Hp} {s : Shared} {N : List Str} {cap : List (Option Nat)} {scope : Scope} {ex : List Addr} {h₁ : Heap} {tk : Nat} {C : Addr} (S : CompScope X N cap scope) (I : Inv X pins σ H s) (hC : s.heap.objs.size ≤ C)
    (hns : h₁.Ns C (fun _ => none)) (hk : ∀ b o, s.heap.get? b = some o → h₁.get? b = some o) (hex : ∀ b ∈ ex, b < s.heap.objs.size ∧ FpOk X pins H b) :
    Inv (cxComp X N scope C s H ex) [] (capt cap σ) H { s with heap := h₁, toks := tk } := by
  have hcl : ∀ n c, (closOf X.env scope.names []).lookup n = some c → X.env.cells.lookup n = some c := closOf_ok (fun n c e => by simp at e)
  have cne : ∀ x c, (closOf X.env scope.names []).lookup x = some c → c < s.heap.objs.size := fun x c e => by
    obtain ⟨v, q⟩ := I.cell x c (hcl x c e)
    exact q.lt
  have nob : ∀ b o, X.base.get? b = some o → b ∉ ex := fun b o e hb => by
    obtain ⟨hlt, f0, f1, f2, f3, f4, f5⟩ := hex b hb
    rcases f3 with z | z
    · exact I.ok.noex b o e z
    · exact absurd (Nat.lt_of_lt_of_le (Heap.lt_size e) (Nat.le_trans I.ok.bsz z)) (Nat.lt_irrefl _)
  refine ⟨⟨I.ok.mod, ?_, I.ok.glob, I.ok.blt, hC, fun x y c h1 h2 => I.ok.inj x y c (hcl x c h1) (hcl y c h2), fun x hx => ?_, fun x c hf _ => ?_, I.ok.hd, I.ok.frames, .inl rfl, fun b hb => ?_, fun b o e => I.bs b o e, Nat.le_trans I.ok.bsz I.sz, nob, fun b hb => ?_, I.stack, I.stkFree⟩,
    rfl, I.bare, Un.kept hk, ⟨_, hns, fun j y v h1 h2 h3 => ?_⟩, fun x c e => ?_, I.hok.fresh hC, fun x c e => ?_, fun p hp => absurd (show p ∈ ([] : List (Addr × Obj)) from hp) (by simp), I.hok.kept hk, ?_⟩
  · exact S.kind
  · have hx : (relabel scope X.env).names.lookup x = some .cell ∨ (relabel scope X.env).names.lookup x = some .free := hx
    unfold relabel at hx
    simp only [lookup_relabel] at hx
    cases q : scope.names.lookup x with
    | none => rw [q] at hx; simp at hx
    | some k =>
      have hm := PySem.mem_of_lookup q
      have hkf : k = .free := by
        rw [q] at hx
        simp only [Option.map_some, Option.some.injEq] at hx
        by_cases z : (k == NameKind.free && X.env.scope.kind == .function && X.env.kindOf x == some .cell) = true
        · have : (k == NameKind.free) = true := by
            rw [Bool.and_eq_true, Bool.and_eq_true] at z
            exact z.1.1
          exact beq_iff_eq.mp this
        · rw [if_neg z] at hx
          rcases hx with hx | hx
          · exact absurd hx (S.nocell _ hm)
          · exact hx
      subst hkf
      obtain ⟨c, hc⟩ := I.ok.has x (S.fre _ hm rfl)
      exact Option.isSome_iff_exists.mp (closOf_has hm hc)
  · exact absurd (show false = true from hf) Bool.false_ne_true
  · obtain ⟨hlt, _⟩ := hex b hb
    refine ⟨Nat.ne_of_lt (Nat.lt_of_lt_of_le hlt hC), fun x c e z => ?_⟩
    exact (hex b hb).2.2.2.2.2.1 x c (hcl x c e) z
  · intro hb2
    rcases List.mem_cons.mp (I.stkSub b hb2) with e | e
    · exact (hex b hb).2.2.1 e
    · exact (hex b hb).2.2.2.1 e
  · obtain ⟨i, e1, e2⟩ := getElem?_capt h2
    obtain ⟨y', e3, e4, e5⟩ := S.cap j i e1
    rw [show N[j]? = some y from h1] at e3
    cases e3
    obtain ⟨m, _, hl⟩ := I.loc
    have hm := PySem.mem_of_lookup e5
    have hv : Vis X.env.scope y := by
      rcases S.fre _ hm rfl with z | z
      · exact .inr (.inl z)
      · exact .inr (.inr z)
    obtain ⟨u, r, l⟩ := hl i y v e4 e2 hv
    refine ⟨u, r, .inr ⟨?_, ?_⟩⟩
    · show (relabel scope X.env).names.lookup y = some .cell ∨ (relabel scope X.env).names.lookup y = some .free
      unfold relabel
      simp only [lookup_relabel, e5, Option.map_some, Option.some.injEq]
      split
      · exact .inl rfl
      · exact .inr rfl
    · rcases l with ⟨hk2, _⟩ | ⟨_, c, hc, hcell⟩
      · rcases S.fre _ hm rfl with z | z
        · rw [show X.env.kindOf y = some .cell from z] at hk2; cases hk2
        · rw [show X.env.kindOf y = some .free from z] at hk2; cases hk2
      · refine ⟨c, ?_, hcell.keeps hk⟩
        obtain ⟨c', hc'⟩ := Option.isSome_iff_exists.mp (closOf_has (acc := []) hm hc)
        have := hcl y c' hc'
        rw [hc] at this
        cases this
        exact hc'
  · obtain ⟨v, q⟩ := I.cell x c (hcl x c e)
    exact ⟨v, q.keeps hk⟩
  · exact I.freeC x c (hcl x c e)
  · show (capt cap σ).length = N.length
    unfold capt
    rw [List.length_map]
    exact S.len

def Gath (J : It) (cap : List (Option Nat)) (g : TG) (tc : TT) (te : TE) (Q : Addr → Hp → Prop) (σ : St) (H : Hp) : Prop :=
  ∃ W : Nat → Nat → List V → St → Hp → Prop, (∃ m, W 0 m [] (capt cap σ) H) ∧ ∀ i m ys σ' H', W i m ys σ' H' →
    (J.stop i H' ∧ ys.length ≤ sizeLine ∧ ∀ D, H' D = none → Q D (upd H' D (.lst ys))) ∨ (J.go i H' ∧ ys.length < sizeLine ∧ ∃ N : List V → St → Hp → Prop, (∀ ys2 σ2 H2, N ys2 σ2 H2 → ∃ m', m' < m ∧ W (i + 1) m' ys2 σ2 H2) ∧
      ∀ x H2, J.yld i H' x H2 → g x σ' H2 fun σ3 H3 => tc σ3 H3 fun b H4 => if b = true then te σ3 H4 fun y H5 => N (ys ++ [y]) σ3 H5 else N ys σ3 H4)
def tComp (cap : List (Option Nat)) (wi : TI) (g : TG) (tc : TT) (te : TE) (Q : Addr → Hp → Prop) : St → Hp → Prop := fun σ H => wi σ H fun J H1 => Gath J cap g tc te Q σ H1

def tTrue : TT := fun _ H Q => Q true H
def PTs (X : Cx) (ifs : List Expr) (t : TT) : Prop :=
  ∀ (pins : List (Addr × Obj)) (s : Shared) (σ : St) (H : Hp) (Q : Bool → Hp → Prop), Inv X pins σ H s → t σ H Q →
    wpAny (model X.prog X.w) X.A (forIn ifs true fun c r => if r = true then do let ok ← isTrue c X.env (eval c X.env); pure (ForInStep.yield ok) else pure (ForInStep.yield r)) (TP X pins σ Q) X.xe s
theorem pts_nil {X : Cx} : PTs X [] tTrue := fun pins s σ H Q I h => wpAny_tests_nil ⟨H, I, h⟩
theorem HOk.add {P : Program} {w : World} {H : Hp} {h : Heap} {a : Addr} {o : HO} (x : HOk P w H h) (hn : H a = none) (new : ObjOk P w (upd H a o) h a o) : HOk P w (upd H a o) h := fun b u e => by
  by_cases hb : b = a
  · subst hb; rw [upd_same] at e; cases e; exact new
  · rw [upd_ne hb] at e
    exact (x b u e).stay (fun c v _ q => q) (fun c q => by rw [upd_ne (ne_of_none q hn)]; exact q) fun c xs q => by rw [upd_ne (ne_of_none q hn)]; exact q
theorem Un.add {fs ex : List Addr} {H H1 : Hp} {h h1 : Heap} {a : Addr} {o : HO} (u : Un fs ex H H1 h h1) (ha : h.objs.size ≤ a) (hn : H1 a = none) : Un fs ex H (upd H1 a o) h h1 where
  keep := u.keep
  slot := u.slot
  free := fun b ob q n hx => by rw [upd_ne (Nat.ne_of_lt (Nat.lt_of_lt_of_le (Heap.lt_size q) ha))]; exact u.free b ob q n hx
  there := u.there
  tups := fun b xs q => by
    have q' := u.tups b xs q
    rw [upd_ne (ne_of_none q' hn)]; exact q'
  frzs := fun b ob xs q => by
    have q' := u.frzs b ob xs q
    rw [upd_ne (ne_of_none q' hn)]; exact q'
  tbls := fun b ps q => by
    obtain ⟨m, q'⟩ := u.tbls b ps q
    exact ⟨m, by rw [upd_ne (ne_of_none q' hn)]; exact q'⟩

abbrev lobj (its : List Value) (k : Nat) : Obj := { cls := .type "list", data := .seq its.toArray k }

theorem comp_block {X : Cx} {pins : List (Addr × Obj)} {σ : St} {H : Hp} {s : Shared} {N : List Str} {cap : List (Option Nat)} {scope : Scope} {elt target iter : Expr} {ifs : List Expr} {pos : Pos} {g : TG} {tc : TT} {te : TE} {J : It} {fp : List Addr} {it : Addr} {tn : Nat → Heap → Prop}
    {Q : Addr → Hp → Prop} {RR : Value → Addr → Result → Shared → Prop} {E : Value → Shared → Prop} (hc : X.calm = true) (S : CompScope X N cap scope) (I : Inv X pins σ H s) (T : Turn X.prog X.w X.K target J fp it tn) (st : tn 0 s.heap) (fo : ∀ b ∈ fp, FpOk X pins H b)
    (hg : ∀ C s₀ H₀, PG (cxComp X N scope C s₀ H₀ fp) target g) (ht : ∀ C s₀ H₀, PTs (cxComp X N scope C s₀ H₀ fp) ifs tc) (he : ∀ C s₀ H₀, PE (cxComp X N scope C s₀ H₀ fp) elt te)
    (h : Gath J cap g tc te Q σ H)
    (hRR : ∀ D C s' H', Inv X pins σ H' s' → Q D H' → (∃ m, s'.heap.Ns C m) → H' C = none → X.s₀.heap.objs.size ≤ C → C ≠ X.env.locals → (∀ x c, X.env.cells.lookup x = some c → c ≠ C) → (∀ p ∈ X.pn ++ pins, p.1 ≠ C) → RR (.ref D) C (.ok .next) s') :
    wpAny (model X.prog X.w) X.A (newList []) (fun acc s₃ => wpAny (model X.prog X.w) X.A (newFunctionEnv scope X.env.globals (closOf X.env scope.names []) [] X.env.qual none .none (some X.env)) (fun cenv s₄ =>
      codeAny (model X.prog X.w) X.A (.compStart (.ListComp elt [⟨target, iter, ifs, 0⟩] scope pos) 0 (.ref it) acc { cenv with scope := relabel scope X.env }) (RR acc cenv.locals) s₄) E s₃) E s := by
  have hfr : ∀ a, s.heap.objs.size ≤ a → H a = none := fun a ha => I.hok.fresh ha
  obtain ⟨W, ⟨m0, w0⟩, turn⟩ := h
  have fol : ∀ b ∈ fp, b < s.heap.objs.size := fun b hb => by
    obtain ⟨o, ho, _⟩ := T.obj 0 _ st b hb
    exact Heap.lt_size ho
  have clt : ∀ x c, X.env.cells.lookup x = some c → c < s.heap.objs.size := fun x c e => by
    obtain ⟨v, q⟩ := I.cell x c e
    exact q.lt
  refine wpAny_newObj_type (wpAny_newFunctionEnv S.nocell (by intro y hy; simp at hy) (fun h₁ hns₁ hsb₁ => ?_) S.kind)
  dsimp only at hns₁ hsb₁ ⊢
  generalize hD : s.heap.objs.size = D at *
  generalize hH3 : s.heap.push { cls := .type "list", data := .seq ([] : List Value).toArray } = H3 at *
  have hC : H3.objs.size = D + 1 := by rw [← hH3, Heap.size_push, hD]
  have keep3 : ∀ b o, s.heap.get? b = some o → H3.get? b = some o := fun b o e => by rw [← hH3]; exact Heap.get?_push_of_some _ e
  have keep4 : ∀ b o, H3.get? b = some o → h₁.get? b = some o := fun b o e => hsb₁.extBut b o (Nat.ne_of_lt (Heap.lt_size e)) (Heap.get?_push_of_some _ e)
  have D4 : h₁.get? D = some (lobj [] 0) := keep4 _ _ (by rw [← hH3, ← hD]; exact Heap.get?_push_size _ rfl)
  generalize hCC : H3.objs.size = C at *
  have hDC : D < C := by omega
  have hDC' : D ≤ C := Nat.le_of_lt hDC
  have hL : X.env.locals < D := by rw [← hD]; exact I.lt
  have I4 : Inv (cxComp X N scope C s H fp) [] (capt cap σ) H { s with heap := h₁, toks := s.toks + ([] : List (Str × Value)).length } :=
    inv_comp S I (by omega) hns₁ (fun b o e => keep4 b o (keep3 b o e)) fun b hb => ⟨by rw [hD]; exact fol b hb, fo b hb⟩
  have fp4 : ∀ {H' : Hp} {ob : Obj}, (∀ b ∈ fp, H' b = none) → ∀ b ∈ fp, FpOk (cxComp X N scope C s H fp) [(D, ob)] H' b := fun {H' ob} hn b hb => by
    obtain ⟨f0, f1, f2, f3, f4, f5⟩ := fo b hb
    have hlt := fol b hb
    refine ⟨hn b hb, ?_, fun z => ?_, .inl hb, fun x c e => f4 x c (closOf_ok (fun n c e => by simp at e) x c e), fun p hp => ?_⟩
    · exact Nat.ne_of_lt (Nat.lt_of_lt_of_le hlt hDC')
    · rcases List.mem_cons.mp (I.stkSub b z) with e | e
      · exact f1 e
      · exact f2 e
    · have hp' : p ∈ [(D, ob)] := hp
      rw [List.mem_singleton.mp hp']
      exact Nat.ne_of_gt hlt
  have st4 : tn 0 h₁ := T.keep _ _ _ st fun b hb o e => keep4 b o (keep3 b o e)
  have nfs : D ∉ (cxComp X N scope C s H fp).fs := fun z => by
    rcases List.mem_cons.mp (I.stkSub D z) with e | e
    · exact Nat.ne_of_gt hL e
    · exact I.nofs (Nat.le_of_eq hD) e
  have pinD : ∀ {σ' : St} {H' : Hp} {s' : Shared} {ob : Obj}, Inv (cxComp X N scope C s H fp) [] σ' H' s' → H' D = none → s'.heap.get? D = some ob → (∀ v, ob.data ≠ .cell v) → Inv (cxComp X N scope C s H fp) [(D, ob)] σ' H' s' := fun {σ' H' s' ob} J hn e nc =>
    J.pins_of fun p hp => by
      rw [List.mem_singleton.mp hp]
      exact ⟨e, hn, Nat.ne_of_lt hDC, nfs, nc⟩
  have loop : ∀ s₄ : Shared, s₄ = { s with heap := h₁, toks := s.toks + ([] : List (Str × Value)).length } →
      codeAny (model X.prog X.w) X.A (.compLoop (.ListComp elt [⟨target, iter, ifs, 0⟩] scope pos) 0 (.ref it) (.ref D) (compEnvC scope (closOf X.env scope.names []) C X.env)) (RR (.ref D) C) s₄ := by
    rintro s₄ rfl
    refine comp_loop (fun n s' => ∃ i ys its k σ' H', Inv (cxComp X N scope C s H fp) [(D, lobj its k)] σ' H' s' ∧ Vals ys its ∧ tn i s'.heap ∧ (∀ b ∈ fp, H' b = none) ∧ W i n ys σ' H') ?_ m0
      ⟨0, [], [], 0, _, _, pinD I4 (hfr D (Nat.le_refl _)) D4 (fun v z => by cases z), .nil, st4, fun b hb => (fo b hb).1, w0⟩
    rintro n s5 ⟨i, ys, its, k, σ5, H5, I5, rv5, st5, fr5, w5⟩
    have hpin := I5.pin (D, lobj its k) (List.mem_append_right _ List.mem_cons_self)
    rcases turn i n ys σ5 H5 w5 with ⟨stop, hz, q⟩ | ⟨go, hz, NN, hNN, step⟩
    · refine thn (T.done (cxComp X N scope C s H fp) rfl rfl rfl hc i _ s5 σ5 H5 _ I5 (fp4 fr5) st5 stop) fun r s6 ⟨hr, I6⟩ => ?_
      subst hr
      have p6 := I6.pin (D, lobj its k) (List.mem_append_right _ List.mem_cons_self)
      have I7 : Inv X pins σ (upd H5 D (.lst ys)) s6 := I.call' (ch := fp) I6.os (I6.base.add (Nat.le_of_eq hD) p6.2.1) (I6.hok.add p6.2.1 ⟨hz, its, k, rv5, p6.1⟩) I6.bare fun b hb => by
        obtain ⟨f0, f1, f2, f3, f4, f5⟩ := fo b hb
        exact ⟨f3, f1, f4, f5⟩
      obtain ⟨m6, hn6, _⟩ := I6.loc
      refine hRR _ C s6 _ I7 (q D p6.2.1) ⟨m6, hn6⟩ ?_ ?_ ?_ ?_ ?_
      · rw [upd_ne (Nat.ne_of_gt hDC)]; exact I6.free
      · exact Nat.le_trans (by rw [← hD]; exact I.sz) hDC'
      · exact Nat.ne_of_gt (Nat.lt_of_lt_of_le hL hDC')
      · intro x c e z
        exact Nat.ne_of_lt (Nat.lt_of_lt_of_le (clt x c e) hDC') z
      · intro p hp z
        have h6 := Heap.lt_size (I.pin p hp).1
        rw [hD] at h6
        exact Nat.ne_of_lt (Nat.lt_of_lt_of_le h6 hDC') z
    · refine thn (T.item (cxComp X N scope C s H fp) rfl rfl rfl hc i _ s5 σ5 H5 _ I5 (fp4 fr5) st5 go) fun r s6 ⟨u, hr, h6⟩ => ?_
      subst hr
      refine thn h6 fun _ s7 ⟨x, H7, I7, r7, y7, st7, fr7⟩ => ?_
      have I7' := I7.pinned (fp4 fr7) (T.obj _ _ st7)
      have kept : ∀ {σ8 : St} {H8 : Hp} {s8 : Shared}, Inv (cxComp X N scope C s H fp) ([(D, lobj its k)] ++ pinsAt fp s7.heap) σ8 H8 s8 → tn (i + 1) s8.heap ∧ ∀ b ∈ fp, H8 b = none := fun {σ8 H8 s8} I8 =>
        ⟨T.keep _ _ _ st7 fun b hb o e => (I8.pin (b, o) (List.mem_append_right _ (List.mem_append_right _ (mem_pinsAt hb e)))).1, fun b hb => by
          obtain ⟨o, e, d⟩ := T.obj _ _ st7 b hb
          exact (I8.pin (b, o) (List.mem_append_right _ (List.mem_append_right _ (mem_pinsAt hb e)))).2.1⟩
      refine wpAny_mono (hg C s H _ s7 σ5 H7 x u _ I7' r7 (step x H7 y7)) (fun _ s8 ⟨σ8, H8, I8, q8⟩ => ?_) fun _ _ f => f.elim
      refine wpAny_mono (ht C s H _ s8 σ8 H8 _ I8 q8) (fun ok s9 ⟨H9, I9, q9⟩ => ?_) fun _ _ f => f.elim
      cases ok with
      | false =>
        rw [if_neg Bool.false_ne_true] at q9 ⊢
        obtain ⟨m', hm, w9⟩ := hNN _ _ _ q9
        exact ⟨m', hm, i + 1, ys, its, k, σ8, H9, I9.unpinned, rv5, (kept I9).1, (kept I9).2, w9⟩
      | true =>
        rw [if_pos rfl] at q9 ⊢
        refine wpAny_mono (he C s H _ s9 σ8 H9 _ I9 q9) (fun y s10 ⟨yv, H10, I10, r10, n10⟩ => ?_) fun _ _ f => f.elim
        obtain ⟨m', hm, w10⟩ := hNN _ _ _ n10
        obtain ⟨k10, f10⟩ := kept I10
        have p10 := I10.pin (D, lobj its k) (List.mem_append_right _ (List.mem_append_left _ List.mem_cons_self))
        have hlen := rv5.length
        refine wpAny_list_append_plain (hsz := by rw [List.size_toArray]; omega) (show s10.heap.PlainList D its.toArray from ⟨k, p10.1⟩) fun h11 hl11 hsb11 => ?_
        obtain ⟨k11, e11⟩ := hl11
        have J0 : Inv (cxComp X N scope C s H fp) [] σ8 H10 s10 := I10.pins_of fun p hp => nomatch hp
        have J1 : Inv (cxComp X N scope C s H fp) [] σ8 H10 { s10 with heap := h11 } := J0.turned (t' := s10.toks) (fun b o hb e => hsb11.extBut b o hb e) p10.2.1 (Nat.ne_of_lt hDC) (.inr (Nat.le_of_eq hD)) (fun x c e z => Nat.ne_of_lt (clt x c (closOf_ok (fun n c e => by simp at e) x c e)) z) fun p hp => nomatch (show p ∈ ([] : List (Addr × Obj)) from hp)
        have e12 : h11.get? D = some (lobj (its ++ [y]) k11) := by rw [e11]; simp [lobj]
        refine ⟨m', hm, i + 1, ys ++ [yv], its ++ [y], k11, σ8, H10, pinD J1 p10.2.1 e12 (fun v z => by cases z), rv5.append (.cons r10 .nil), ?_, f10, w10⟩
        exact T.keep _ _ _ k10 fun b hb o e => hsb11.extBut b o (Nat.ne_of_lt (fol b hb)) e
  refine codeAny_compStart_list (loop _ ?_) (T.self X.A 0 _ _ _ ?_ (loop _ ?_))
  · rfl
  · exact st4
  · rfl

theorem pe_comp {X : Cx} {N : List Str} {cap : List (Option Nat)} {scope : Scope} {elt target iter : Expr} {ifs : List Expr} {pos : Pos} {wi : TI} {g : TG} {tc : TT} {te : TE} (hc : X.calm = true) (S : CompScope X N cap scope) (hi : PI X target iter wi)
    (hg : ∀ C s₀ H₀ ex, PG (cxComp X N scope C s₀ H₀ ex) target g) (ht : ∀ C s₀ H₀ ex, PTs (cxComp X N scope C s₀ H₀ ex) ifs tc) (he : ∀ C s₀ H₀ ex, PE (cxComp X N scope C s₀ H₀ ex) elt te)
    (hs : ∀ x, foldedSetIterable iter X.env x = pure x := by intro _; rfl) :
    PE X (.ListComp elt [⟨target, iter, ifs, 0⟩] scope pos) (fun σ H Q => tComp cap wi g tc te (fun D H' => Q (.ref D) H') σ H) := by
  intro pins s σ H Q I h
  have hclos : closureFor scope X.env = pure (closOf X.env scope.names []) := closureFor_of fun y hy hf => I.ok.has y.1 (S.fre y hy hf)
  rw [eval_ListComp]
  refine wpAny_comprehension_free (use := none) rfl hs hclos S.kind S.loc (thn (hi pins s σ H _ I h) fun xv s1 h1 => thn h1 fun itv s2 h2 => ?_)
  obtain ⟨it, fp, tn, J, H2, e, I2, T, st2, f2, q2⟩ := h2
  subst e
  refine comp_block (RR := fun acc C => compPost (model X.prog X.w) X.A X.xe none (EP X pins σ Q) acc C) hc S I2 T st2 f2 (fun C s₀ H₀ => hg C s₀ H₀ fp) (fun C s₀ H₀ => ht C s₀ H₀ fp) (fun C s₀ H₀ => he C s₀ H₀ fp) q2 ?_
  intro D C s' H' I' q ⟨m, hn⟩ hf hsz hL hcell hpin
  refine ⟨m, hn, fun h' hsb => ⟨.ref D, H', ?_, rfl, q⟩⟩
  exact I'.turned (t' := s'.toks) (fun b o hb e => hsb.extBut b o hb e) hf hL (.inr hsz) hcell hpin

theorem ps_comp {X : Cx} {N : List Str} {cap : List (Option Nat)} {scope : Scope} {elt target iter : Expr} {ifs : List Expr} {pos pos' spos : Pos} {wi : TI} {g : TG} {tc : TT} {te : TE} {i : Nat} {x : Str} (hc : X.calm = true) (S : CompScope X N cap scope) (hi : PI X target iter wi)
    (hg : ∀ C s₀ H₀ ex, PG (cxComp X N scope C s₀ H₀ ex) target g) (ht : ∀ C s₀ H₀ ex, PTs (cxComp X N scope C s₀ H₀ ex) ifs tc) (he : ∀ C s₀ H₀ ex, PE (cxComp X N scope C s₀ H₀ ex) elt te)
    (hN : X.N.Nodup) (hix : X.N[i]? = some x) (hx : X.env.scope.names.lookup x = some .local) (hsw : swapsWith (.ListComp elt [⟨target, iter, ifs, 0⟩] scope pos) (some (.Name x pos')) spos.line X.env = pure true := by rfl)
    (hs : ∀ x, foldedSetIterable iter X.env x = pure x := by intro _; rfl) :
    PS X (.Assign [.Name x pos'] (.ListComp elt [⟨target, iter, ifs, 0⟩] scope pos) spos) (fun D σ H => tComp cap wi g tc te (fun d H' => D.nx (σ.set i (some (.ref d))) H') σ H) := by
  intro pins s σ H D I h
  have hclos : closureFor scope X.env = pure (closOf X.env scope.names []) := closureFor_of fun y hy hf => I.ok.has y.1 (S.fre y hy hf)
  rw [exec_Assign_Name_used _ _ _ _ hsw]
  refine wpAny_bind (wpAny_standAt (wpAny_bind ?_))
  show wpAny _ X.A (do let _ ← comprehension (.ListComp elt [⟨target, iter, ifs, 0⟩] scope pos) scope X.env _ (newList []) false (eval iter X.env) (some (assign (.Name x pos') X.env))) _ _ s
  refine wpAny_bind (wpAny_mono (wpAny_comprehension_free (use := some (assign (.Name x pos') X.env)) (Q := fun _ s' => SP X pins D .next s') rfl hs hclos S.kind S.loc
    (thn (hi pins s σ H _ I h) fun xv s1 h1 => thn h1 fun itv s2 h2 => ?_)) (fun _ s' hq => wpAny_pure (wpAny_pure hq)) fun _ _ e => e)
  obtain ⟨it, fp, tn, J, H2, e, I2, T, st2, f2, q2⟩ := h2
  subst e
  refine comp_block (RR := fun acc C => compPost (model X.prog X.w) X.A X.xe (some (assign (.Name x pos') X.env)) (fun _ s' => SP X pins D .next s') acc C) hc S I2 T st2 f2 (fun C s₀ H₀ => hg C s₀ H₀ fp) (fun C s₀ H₀ => ht C s₀ H₀ fp) (fun C s₀ H₀ => he C s₀ H₀ fp) q2 ?_
  intro d C s' H' I' q ⟨m, hn⟩ hf hsz hL hcell hpin
  show wpAny _ X.A (assign (.Name x pos') X.env (.ref d)) _ _ s'
  refine wpAny_assign_Name (store_ok2 I' hN hix (.inl hx) (show RelV (.ref d) (.ref d) from rfl) (fun s'' I'' ⟨a, hsb, ha⟩ => ?_) (.inr hx))
  have hCa : C ≠ a := by
    rcases ha with z | z
    · rw [z]; exact hL
    · exact fun w => hcell x a z w.symm
  refine ⟨m, hn.sameBut hsb hCa, fun h' hsb' => ⟨_, H', ?_, q⟩⟩
  exact I''.turned (t' := s''.toks) (fun b o hb e => hsb'.extBut b o hb e) hf hL (.inr hsz) hcell hpin
end L2

set_option Elab.async false
set_option linter.all false
set_option maxRecDepth 100000
set_option maxHeartbeats 4000000
namespace L2
open PySem PySem.Spec PyProof.Rows

def Its (x : Str) : It := ⟨fun i _ => i < x.cps.size, fun i H v H' => H' = H ∧ ∃ c, x.cps[i]? = some c ∧ v = .str ⟨#[c]⟩, fun i _ => i = x.cps.size⟩
theorem turn_str {P : Program} {w : World} {K : PySem.W.Frag} {tg : Expr} (ty : String) (it : Addr) (x : Str) (t : Tok)
    (hw : ∀ A' : Around, A'.handled = none → Walks P w A' it [it] [it] x.cps.size (SignAt x) (fun i h => h.IsStrIter it ty x t i))
    (hself : ∀ (A : Around) (i : Nat) (s : Shared) (Q : Value → Shared → Prop) (E : Value → Shared → Prop), s.heap.IsStrIter it ty x t i → Q (.ref it) s → wpAny (model P w) A (pyIter (.ref it)) Q E s)
    (hn : ["enumerate", "zip", "dict_itemiterator", "dict_reverseitemiterator", "odict_iterator", "itertools.zip_longest", "itertools.pairwise"].contains ty = false) :
    Turn P w K tg (Its x) [it] it (fun i h => h.IsStrIter it ty x t i) where
  mem := by simp
  obj := fun i h st b hb => by
    have e : b = it := by simpa using hb
    subst e
    obtain ⟨o, e, c, d⟩ := st
    exact ⟨o, e, fun v z => by rw [d] at z; cases z⟩
  keep := fun i h h' st k => let ⟨o, e, r⟩ := st; ⟨o, k it (by simp) o e, r⟩
  item := by
    intro X hP hw' hK hc i pins s σ H E I hf st hg
    subst hP hw' hK
    obtain ⟨f0, f1, f2, f3, f4, f5⟩ := hf it (by simp)
    refine (hw X.A (I.ok.hd hc)).item i s _ _ hg st fun v h' tk hv st' kk => ?_
    obtain ⟨c, u, hc', rfl⟩ := hv
    have I1 : Inv X pins σ H { s with heap := h', toks := tk } := I.turned (fun b o hb e => kk b o (by simpa using hb) e) f0 f1 f3 f4 f5
    obtain ⟨o, e, cc, d⟩ := id st'
    exact ⟨_, rfl, go_of (s := { s with heap := h', toks := tk }) e cc d hn ⟨.str ⟨#[c]⟩, H, I1, ⟨u, rfl⟩, ⟨rfl, c, hc', rfl⟩, st', fun b hb => (hf b hb).1⟩⟩
  done := by
    intro X hP hw' hK hc i pins s σ H E I hf st hg
    subst hP hw' hK
    obtain ⟨f0, f1, f2, f3, f4, f5⟩ := hf it (by simp)
    have hg' : i = x.cps.size := hg
    subst hg'
    exact (hw X.A (I.ok.hd hc)).done s _ _ st fun h' tk kk => ⟨rfl, I.turned (fun b o hb e => kk b o (by simpa using hb) e) f0 f1 f3 f4 f5⟩
  self := hself
section
variable {X : Cx}
theorem op_mul_str : OpR X (binaryOp .Mult) (fun x y H Q => ∃ z n, x = .str z ∧ y = .int n ∧ MulOk z n ∧ Q (.str (Txt.mul z n)) H) := by
  intro pins s σ H x y v u Q I r1 r2 h
  obtain ⟨z, n, rfl, rfl, ok, q⟩ := h
  obtain ⟨t, rfl⟩ := r1
  obtain ⟨t', rfl⟩ := r2
  exact SB.mul ok fun t' k => ⟨.str _, H, I.tok k, ⟨t', rfl⟩, q⟩
theorem vals_strs : ∀ {texts : List Str} {its : List Value}, Vals (texts.map V.str) its → ∃ l : List (Str × Tok), its = strValues l ∧ l.map (·.1) = texts
  | [], _, r => by rw [List.map_nil] at r; cases r; exact ⟨[], rfl, rfl⟩
  | x :: xs, _, r => by
    rw [List.map_cons] at r
    cases r with
    | cons r1 r2 =>
      obtain ⟨t, rfl⟩ := r1
      obtain ⟨l, e1, e2⟩ := vals_strs r2
      exact ⟨(x, t) :: l, by rw [e1]; rfl, by rw [List.map_cons, e2]⟩
theorem strs_vals : ∀ (l : List (Str × Tok)), Vals (l.map fun p => V.str p.1) (strValues l)
  | [] => .nil
  | (x, t) :: l => .cons ⟨t, rfl⟩ (strs_vals l)
def rJoin (K : PySem.W.Frag) : V → List V → Hp → VK → Prop := fun x vs H Q => ∃ sep l texts, x = .str sep ∧ vs = [.ref l] ∧ SqL K H l (texts.map V.str) ∧ JoinOk sep texts = true ∧ Q (.str (Txt.join sep texts)) H
theorem mt_join : MtR X "str.join" (rJoin X.K) := by
  intro pins s σ H x xs v us Q I rx rs h
  obtain ⟨sep, l, texts, rfl, rfl, hq, hok, q⟩ := h
  obtain ⟨t, rfl⟩ := rx
  obtain ⟨u, rfl, ru⟩ := vals1 rs
  cases ru
  obtain ⟨its, rv, pl, hz⟩ := I.list hq
  obtain ⟨ls, e1, e2⟩ := vals_strs rv
  subst e1
  exact SC.join (D := l) (l := ls) pl.isList e2 hok fun t' k => ⟨.str _, H, I.tok k, ⟨t', rfl⟩, q⟩
def rSplit : V → List V → Hp → VK → Prop := fun x vs H Q => ∃ z y, x = .str z ∧ vs = [.str y] ∧ y.length ≠ 0 ∧ z.length < sizeLine ∧ (Txt.split z y).length ≤ sizeLine ∧ ∀ l, H l = none → Q (.ref l) (upd H l (.lst ((Txt.split z y).map V.str)))
theorem split_laid {pins : List (Addr × Obj)} {σ : St} {H : Hp} {s : Shared} {l : List (Str × Tok)} {ts : List Str} {tk : Nat} {Q : VK} (I : Inv X pins σ H s) (e : l.map (·.1) = ts) (hz : ts.length ≤ sizeLine) (q : ∀ l, H l = none → Q (.ref l) (upd H l (.lst (ts.map V.str)))) :
    EP X pins σ Q (.ref s.heap.objs.size) { s with heap := s.heap.push { cls := .type "list", data := .seq (strValues l).toArray }, toks := tk } := by
  subst e
  refine ⟨.ref s.heap.objs.size, _, I.laid (o := .lst ((l.map (·.1)).map V.str)) (fun b ob q => Heap.get?_push_of_some _ q) (Nat.le_refl _) ?_, rfl, q _ (I.hok.fresh (Nat.le_refl _))⟩
  refine ⟨by rw [List.length_map]; exact hz, strValues l, 0, ?_, Heap.get?_push_size _ rfl⟩
  have := strs_vals l
  rw [List.map_map]
  exact this
open Builtin Builtin.Str in
theorem mt_split : MtR X "str.split" rSplit := by
  intro pins s σ H x xs v us Q I rx rs h
  obtain ⟨z, y, rfl, rfl, hy0, hz, hl, q⟩ := h
  obtain ⟨t, rfl⟩ := rx
  obtain ⟨uu, rfl, ru⟩ := vals1 rs
  obtain ⟨u, rfl⟩ := ru
  have hy : (y.length == 0) = false := by simpa using hy0
  have hz' : z.length ≤ sizeLine := Nat.le_of_lt hz
  unfold Txt.split at hl q
  cases h1 : (decide (z.length < y.length) || decide (strKind z < strKind y))
  · rw [h1] at hl q
    simp only [Bool.false_eq_true, if_false] at hl q
    cases hf : (occurrences z y 0 z.length (z.length + 1)).isEmpty
    · rw [hf] at hl q
      simp only [Bool.false_eq_true, if_false] at hl q
      refine call_meets F.slot_str_split (typeIs_str _ _ _) F.entry_str_split (F.args_str_split_2 _ _) (meets_str_split_sep z y t u h1 hy hf hz' hl) ?_
      show wants _ _ _ { s with toks := _, heap := s.heap.push { cls := .type "list", data := .seq (strsFrom s.toks (partsBetween z (occurrences z y 0 z.length (z.length + 1)) y.length)).toArray } }
      rw [strsFrom_eq]
      exact split_laid (l := numbered s.toks _) I (numbered_texts _ _) hl q
    · rw [hf] at hl q
      simp only [if_true] at hl q
      exact call_meets F.slot_str_split (typeIs_str _ _ _) F.entry_str_split (F.args_str_split_2 _ _) (meets_str_split_not_found z y t u h1 hy hf)
        (split_laid (l := [(z, t)]) (tk := s.toks) I rfl hl q)
  · rw [h1] at hl q
    simp only [if_true] at hl q
    exact call_meets F.slot_str_split (typeIs_str _ _ _) F.entry_str_split (F.args_str_split_2 _ _) (meets_str_split_cannot_occur z y t u h1)
      (split_laid (l := [(z, t)]) (tk := s.toks) I rfl hl q)
def rSlS : V → Option Int → Option Int → Hp → VK → Prop := fun x lo hi H Q => ∃ z, x = .str z ∧ z.length ≤ sizeLine ∧ Q (.str (Txt.slice z lo hi)) H
theorem sl_str : SlR X rSlS := by
  intro pins s σ H x v vl vu lo hi sl Q I rx hs pl pu h
  obtain ⟨z, rfl, hz, q⟩ := h
  obtain ⟨t, rfl⟩ := rx
  refine ⟨"str", _, F.slot_str_getitem.lookup, typeIs_str _ _ _, ?_⟩
  have fin : ∀ t' k, EP X pins σ Q (.str (Txt.slice z lo hi) t') { s with toks := k } := fun t' k => ⟨.str _, H, I.tok k, ⟨t', rfl⟩, q⟩
  cases pl with
  | none =>
    cases pu with
    | none => exact wpAny_getItem_str_slice (l := none) (u := none) (st := none) hs rfl (post_val_or_str ⟨Nat.le_trans (Txt.slice_le z _ _) hz, fin⟩)
    | int j uj => exact wpAny_getItem_str_slice (l := none) (u := some (j, uj)) (st := none) hs rfl (post_val_or_str ⟨Nat.le_trans (Txt.slice_le z _ _) hz, fin⟩)
  | int i ui =>
    cases pu with
    | none => exact wpAny_getItem_str_slice (l := some (i, ui)) (u := none) (st := none) hs rfl (post_val_or_str ⟨Nat.le_trans (Txt.slice_le z _ _) hz, fin⟩)
    | int j uj => exact wpAny_getItem_str_slice (l := some (i, ui)) (u := some (j, uj)) (st := none) hs rfl (post_val_or_str ⟨Nat.le_trans (Txt.slice_le z _ _) hz, fin⟩)

end

mutual
inductive DatV (K : PySem.W.Frag) (H : Hp) : V → PyData → Prop
  | none : DatV K H .non .none
  | bool (b : Bool) : DatV K H (.bl b) (.bool b)
  | int (i : Int) : DatV K H (.int i) (.int i)
  | str (x : Str) : DatV K H (.str x) (.str x)
  | list {a : Addr} {xs : List V} {ds : List PyData} : SqL K H a xs → DatVs K H xs ds → DatV K H (.ref a) (.list ds)
  | tuple {a : Addr} {xs : List V} {ds : List PyData} : SqT K H a xs → DatVs K H xs ds → DatV K H (.ref a) (.tuple ds)
inductive DatVs (K : PySem.W.Frag) (H : Hp) : List V → List PyData → Prop
  | nil : DatVs K H [] []
  | cons {x : V} {xs : List V} {d : PyData} {ds : List PyData} : DatV K H x d → DatVs K H xs ds → DatVs K H (x :: xs) (d :: ds)
end
theorem Same.seqT {K : PySem.W.Frag} {H H' : Hp} {a : Addr} {xs : List V} (e : Same H H') (h : SqT K H a xs) : SqT K H' a xs := by
  rcases h with (h | ⟨o, h⟩) | h
  · exact .inl (.inl (e _ _ h))
  · exact .inl (.inr ⟨o, e _ _ h⟩)
  · exact .inr h
mutual
theorem DatV.same {K : PySem.W.Frag} {H H' : Hp} (e : Same H H') : ∀ {x : V} {d : PyData}, DatV K H x d → DatV K H' x d
  | _, _, .none => .none
  | _, _, .bool b => .bool b
  | _, _, .int i => .int i
  | _, _, .str x => .str x
  | _, _, .list h hs => .list (e.seq h) (DatVs.same e hs)
  | _, _, .tuple h hs => .tuple (e.seqT h) (DatVs.same e hs)
theorem DatVs.same {K : PySem.W.Frag} {H H' : Hp} (e : Same H H') : ∀ {xs : List V} {ds : List PyData}, DatVs K H xs ds → DatVs K H' xs ds
  | _, _, .nil => .nil
  | _, _, .cons h hs => .cons (DatV.same e h) (DatVs.same e hs)
end
mutual
theorem DatV.reads {X : Cx} {pins : List (Addr × Obj)} {σ : St} {H : Hp} {s : Shared} (I : Inv X pins σ H s) : ∀ {x : V} {d : PyData} {u : Value}, DatV X.K H x d → RelV x u → ∃ as, Reads s.heap u d as
  | _, _, _, .none, r => by cases r; exact ⟨_, .none⟩
  | _, _, _, .bool b, r => by cases r; exact ⟨_, .bool b⟩
  | _, _, _, .int i, r => by obtain ⟨t, rfl⟩ := r; exact ⟨_, .int i t⟩
  | _, _, _, .str x, r => by obtain ⟨t, rfl⟩ := r; exact ⟨_, .str x t⟩
  | _, _, _, .list h hs, r => by
    cases r
    obtain ⟨its, rv, ⟨o, n, h1, h2, h3, h4⟩, hz⟩ := I.list h
    obtain ⟨as, ra⟩ := DatVs.reads I hs rv
    exact ⟨_, .list h1 h2 h4 ra⟩
  | _, _, _, .tuple h hs, r => by
    cases r
    obtain ⟨its, rv, ⟨o, h1, h2, n, h4⟩, hz⟩ := I.tuple h
    obtain ⟨as, ra⟩ := DatVs.reads I hs rv
    exact ⟨_, .tuple h1 h2 h4 ra⟩
theorem DatVs.reads {X : Cx} {pins : List (Addr × Obj)} {σ : St} {H : Hp} {s : Shared} (I : Inv X pins σ H s) : ∀ {xs : List V} {ds : List PyData} {us : List Value}, DatVs X.K H xs ds → Vals xs us → ∃ as, ReadsAll s.heap us ds as
  | _, _, _, .nil, r => by cases r; exact ⟨_, .nil⟩
  | _, _, _, .cons h hs, r => by
    cases r with
    | cons r1 r2 =>
      obtain ⟨as, ra⟩ := DatV.reads I h r1
      obtain ⟨bs, rb⟩ := DatVs.reads I hs r2
      exact ⟨_, .cons ra rb⟩
end
theorem DatVs.length {K : PySem.W.Frag} {H : Hp} : ∀ {xs : List V} {ds : List PyData}, DatVs K H xs ds → xs.length = ds.length
  | _, _, .nil => rfl
  | _, _, .cons _ hs => by rw [List.length_cons, List.length_cons, DatVs.length hs]
theorem DatVs.get {K : PySem.W.Frag} {H : Hp} : ∀ {xs : List V} {ds : List PyData} {i : Nat} {x : V}, DatVs K H xs ds → xs[i]? = some x → ∃ d, ds[i]? = some d ∧ DatV K H x d
  | _, _, _, _, .nil, e => by simp at e
  | _, _, 0, _, .cons h _, e => by simp at e; subst e; exact ⟨_, rfl, h⟩
  | _, _, i + 1, x, .cons _ hs, e => by
    obtain ⟨d, h1, h2⟩ := DatVs.get (i := i) (x := x) hs (by simpa using e)
    exact ⟨d, by simpa using h1, h2⟩
theorem DatVs.snoc {K : PySem.W.Frag} {H : Hp} {x : V} {d : PyData} (h : DatV K H x d) : ∀ {xs : List V} {ds : List PyData}, DatVs K H xs ds → DatVs K H (xs ++ [x]) (ds ++ [d])
  | _, _, .nil => .cons h .nil
  | _, _, .cons h' hs => .cons h' (DatVs.snoc h hs)
def rEqD (K : PySem.W.Frag) : R2 := fun x y H Q => ∃ da db, DatV K H x da ∧ DatV K H y db ∧ da.canLay0 = true ∧ db.canLay0 = true ∧ min da.depth db.depth ≤ 60 ∧ Q (.bl (PyData.eqv da db)) H
def rNeD (K : PySem.W.Frag) : R2 := fun x y H Q => ∃ da db, DatV K H x da ∧ DatV K H y db ∧ da.canLay0 = true ∧ db.canLay0 = true ∧ min da.depth db.depth ≤ 60 ∧ Q (.bl (!PyData.eqv da db)) H
theorem op_eqD {X : Cx} (hu : X.A.units + 64 < cLine) : OpR X (compareOp .Eq) (rEqD X.K) := by
  intro pins s σ H x y v u Q I rx ry h
  obtain ⟨da, db, h1, h2, l1, l2, hd, q⟩ := h
  obtain ⟨as, ra⟩ := h1.reads I rx
  obtain ⟨bs, rb⟩ := h2.reads I ry
  exact SeqAt.compareEq_reads ra rb l1 l2 (by omega) ⟨.bl _, H, I, rfl, q⟩
theorem op_neD {X : Cx} (hu : X.A.units + 64 < cLine) : OpR X (compareOp .NotEq) (rNeD X.K) := by
  intro pins s σ H x y v u Q I rx ry h
  obtain ⟨da, db, h1, h2, l1, l2, hd, q⟩ := h
  obtain ⟨as, ra⟩ := h1.reads I rx
  obtain ⟨bs, rb⟩ := h2.reads I ry
  exact SeqAt.compareNe_reads ra rb l1 l2 (by omega) ⟨.bl _, H, I, rfl, q⟩
end L2

set_option Elab.async false
set_option linter.all false
set_option maxRecDepth 100000
set_option maxHeartbeats 4000000
namespace L2
open PySem PySem.Spec PyProof.Rows

structure KTab (K : PySem.W.Frag) (w : World) (a : Addr) (kvs : List (Str × V)) : Prop where
  ex : ∃ es n, K.lookup a = some ⟨.type "dict", none, .dict es n, #[]⟩ ∧ PySem.W.KeysLit w.params es.toList ∧ Paired (fun (p : Str × V) (e : DictEntry) => (∃ t, e.key = .str p.1 t) ∧ RelV p.2 e.val) kvs es.toList
  lo : (a == sysModules) = false
theorem findBy_rel {kvs : List (Str × V)} {es : List DictEntry} (r : Paired (fun (p : Str × V) (e : DictEntry) => (∃ t, e.key = .str p.1 t) ∧ RelV p.2 e.val) kvs es) (x : Str) : RelO (kvs.lookup x) (findBy Value.isStrOf es.toArray x) := by
  unfold findBy
  rw [List.find?_toArray]
  induction r with
  | nil => exact True.intro
  | @cons p e ps qs h t ih =>
    obtain ⟨⟨tk, hk⟩, hv⟩ := h
    rw [List.lookup_cons, List.find?_cons, hk]
    by_cases q : x = p.1
    · subst q
      simp only [beq_self_eq_true]
      have : Value.isStrOf p.1 (.str p.1 tk) = true := by simp [Value.isStrOf]
      rw [this]
      exact hv
    · have h1 : (x == p.1) = false := by simpa using q
      have h2 : Value.isStrOf x (.str p.1 tk) = false := by
        simp only [Value.isStrOf]
        simpa using fun z => q z.symm
      rw [h1, h2]
      exact ih
theorem KTab.map {X : Cx} {pins : List (Addr × Obj)} {σ : St} {H : Hp} {s : Shared} {a : Addr} {kvs : List (Str × V)} (T : KTab X.K X.w a kvs) (I : Inv X pins σ H s) :
    ∃ f : Str → Option Value, s.heap.MapOf (strKind X.prog X.w) a f ∧ ∀ x, RelO (kvs.lookup x) (f x) := by
  obtain ⟨es, n, hl, hk, r⟩ := T.ex
  refine ⟨_, PySem.W.mapOf_K (prog := X.prog) I.kIn hl hk, fun x => ?_⟩
  have := findBy_rel r x
  simpa using this
section
variable {X : Cx} {o e f : Expr} {apos cpos pos : Pos} {td ty tx : TE}
theorem MapOf.dict {h : Heap} {P : Program} {w : World} {a : Addr} {f : Str → Option Value} (m : h.MapOf (strKind P w) a f) : ∀ b, Value.ref a = .ref b → ∃ ob, h.get? b = some ob ∧ ob.dict = none := fun b q => by
  cases q
  obtain ⟨ob, _, _, h1, h2, _⟩ := m
  exact ⟨ob, h1, h2.2.1⟩
def rIxK (K : PySem.W.Frag) (w : World) : R2 := fun x y H Q => ∃ a kvs k v, x = .ref a ∧ y = .str k ∧ KTab K w a kvs ∧ kvs.lookup k = some v ∧ Q v H
theorem ix_ktab : IxR X (rIxK X.K X.w) := by
  intro value slice pins s σ H x y v u Q I rx ry h hs
  obtain ⟨a, kvs, k, z, rfl, rfl, T, hl, q⟩ := h
  cases rx
  obtain ⟨t, rfl⟩ := ry
  obtain ⟨f2, m2, r2⟩ := T.map I
  obtain ⟨w', hw, rw'⟩ := RelO.some_of (v := z) (o := f2 k) (by rw [← hl]; exact r2 k)
  exact tail_any m2.typeIs slot_dict_getitem.lookup (wpAny_getItem_of (strKind_is X.prog X.w k t) m2 hw ⟨z, H, I.tok _, rw', q⟩) hs
end
end L2

set_option Elab.async false
set_option linter.all false
set_option maxRecDepth 100000
set_option maxHeartbeats 4000000
namespace L2
open PySem PySem.Spec PyProof.Rows
section
variable {X : Cx} {a b c e o : Expr} {ta tb tc te : TE} {pos p : Pos}

def mVar (i : Nat) : TE := fun σ H Q => match σ[i]? with
  | some (some v) => Q v H
  | _ => False
theorem mVar_eq (i : Nat) : mVar i = tVar i := by
  funext σ H Q
  refine propext ⟨fun h => ?_, fun ⟨v, e, h⟩ => ?_⟩
  · unfold mVar at h
    split at h
    · exact ⟨_, ‹_›, h⟩
    · exact h.elim
  · unfold mVar
    rw [e]
    exact h
theorem pn (i : Nat) {x : Str} {pos : Pos} (hN : X.N[i]? = some x := by rfl) (hv : Vis X.env.scope x := by first | exact Or.inl rfl | exact Or.inr (Or.inl rfl) | exact Or.inr (Or.inr rfl)) (hd : (x == ("__debug__" : Str)) = false := by decide)
    (hcd : (x == ("__classdict__" : Str)) = false := by decide) : PE X (.Name x pos) (mVar i) := by
  rw [mVar_eq]
  exact pe_var hN hv hd hcd

def mTest (t : TE) : TT := fun σ H Q => t σ H fun x H' => match x with
  | .bl k => Q k H'
  | _ => False
theorem mTest_eq (t : TE) : mTest t = tTest t := by
  funext σ H Q
  unfold mTest tTest
  congr 1
  funext x H'
  refine propext ⟨fun h => ?_, fun ⟨k, e, h⟩ => ?_⟩
  · split at h
    · exact ⟨_, rfl, h⟩
    · exact h.elim
  · subst e
    exact h
theorem pt_cmpM {op : CmpOp} {r : R2} (ho : OpR X (compareOp op) r) (ha : PE X a ta) (hb : PE X b tb) (hm : behindInMarks op b = false := by first | exact nomark _ | rfl) : PT X (.Compare a [op] [b] pos) (mTest (tOp r ta tb)) := by
  rw [mTest_eq]
  exact pt_cmpR ho ha hb hm
def mAndV (ta tb : TE) : TE := fun σ H Q => ta σ H fun x H1 => match x with
  | .bl c => if c = true then tb σ H1 Q else Q (.bl false) H1
  | _ => False
theorem mAndV_eq (ta tb : TE) : mAndV ta tb = tAndV ta tb := by
  funext σ H Q
  unfold mAndV tAndV
  congr 1
  funext x H'
  refine propext ⟨fun h => ?_, fun ⟨k, e, h⟩ => ?_⟩
  · split at h
    · exact ⟨_, rfl, h⟩
    · exact h.elim
  · subst e; exact h
theorem pe_andM {rest : List Expr} (ha : PE X a ta) (hb : PE X (.BoolOp .And (b :: rest) pos) tb) : PE X (.BoolOp .And (a :: b :: rest) pos) (mAndV ta tb) := by rw [mAndV_eq]; exact pe_and ha hb
def gAdd (K : PySem.W.Frag) : R2 := fun x y H Q => match x, y with
  | .int i, .int j => Q (.int (i + j)) H
  | .str i, .str j => i.length + j.length ≤ sizeLine ∧ Q (.str (i ++ j)) H
  | .ref l, .ref b => (∃ xs zs, H l = some (.lst xs) ∧ H b = some (.lst zs) ∧ xs.length + zs.length ≤ sizeLine ∧ ∀ p, H p = none → Q (.ref p) (upd H p (.lst (xs ++ zs)))) ∨
      ∃ xs ys, SqT K H l xs ∧ SqT K H b ys ∧ xs ≠ [] ∧ xs.length + ys.length ≤ sizeLine ∧ (ys = [] → Q (.ref l) H) ∧ (ys ≠ [] → ∀ p, H p = none → Q (.ref p) (upd H p (.tup (xs ++ ys))))
  | _, _ => False
theorem og_add {K : PySem.W.Frag} (hK : X.K = K := by rfl) : OpR X (binaryOp .Add) (gAdd K) := by
  subst hK
  intro pins s σ H x y v u Q I rx ry h
  unfold gAdd at h
  split at h
  · exact op_add pins s σ H _ _ v u Q I rx ry ⟨_, _, rfl, rfl, h⟩
  · exact op_add_str pins s σ H _ _ v u Q I rx ry ⟨_, _, rfl, rfl, h.1, h.2⟩
  · rcases h with ⟨xs, zs, h1, h2, h3, h4⟩ | ⟨xs, ys, h1, h2, h3, h4, h5, h6⟩
    · exact op_cat pins s σ H _ _ v u Q I rx ry ⟨_, _, xs, zs, rfl, rfl, h1, h2, h3, h4⟩
    · exact op_catT pins s σ H _ _ v u Q I rx ry ⟨_, _, xs, ys, rfl, rfl, h1, h2, h3, h4, h5, h6⟩
  · exact h.elim
def gMinus : R2 := fun x y H Q => match x, y with
  | .int i, .int j => Q (.int (i - j)) H
  | _, _ => False
theorem og_sub : OpR X (binaryOp .Sub) gMinus := by
  intro pins s σ H x y v u Q I rx ry h
  unfold gMinus at h
  split at h
  · exact op_sub pins s σ H _ _ v u Q I rx ry ⟨_, _, rfl, rfl, h⟩
  · exact h.elim
def gMul : R2 := fun x y H Q => match x, y with
  | .int i, .int j => CMul i j ∧ Q (.int (i * j)) H
  | .str z, .int n => MulOk z n ∧ Q (.str (Txt.mul z n)) H
  | .ref l, .int k => ∃ xs, H l = some (.lst xs) ∧ -(2 ^ 63) ≤ k ∧ k < 2 ^ 63 ∧ xs.length * k.toNat ≤ sizeLine ∧ ∀ p, H p = none → Q (.ref p) (upd H p (.lst (List.replicate k.toNat xs).flatten))
  | _, _ => False
theorem og_mul : OpR X (binaryOp .Mult) gMul := by
  intro pins s σ H x y v u Q I rx ry h
  unfold gMul at h
  split at h
  · exact op_mul pins s σ H _ _ v u Q I rx ry ⟨_, _, rfl, rfl, h.1, h.2⟩
  · exact op_mul_str pins s σ H _ _ v u Q I rx ry ⟨_, _, rfl, rfl, h.1, h.2⟩
  · obtain ⟨xs, h1, h2, h3, h4, h5⟩ := h
    exact op_rep pins s σ H _ _ v u Q I rx ry ⟨_, _, xs, rfl, rfl, h1, h2, h3, h4, h5⟩
  · exact h.elim
def gDiv : R2 := fun x y H Q => match x, y with
  | .int i, .int j => CDiv i j ∧ Q (.int (i / j)) H
  | _, _ => False
theorem og_div : OpR X (binaryOp .FloorDiv) gDiv := by
  intro pins s σ H x y v u Q I rx ry h
  unfold gDiv at h
  split at h
  · exact op_fdiv pins s σ H _ _ v u Q I rx ry ⟨_, _, rfl, rfl, h.1, h.2⟩
  · exact h.elim
def gMod : R2 := fun x y H Q => match x, y with
  | .int i, .int j => 0 < j ∧ Q (.int (i % j)) H
  | _, _ => False
theorem og_mod : OpR X (binaryOp .Mod) gMod := by
  intro pins s σ H x y v u Q I rx ry h
  unfold gMod at h
  split at h
  · exact op_mod pins s σ H _ _ v u Q I rx ry ⟨_, _, rfl, rfl, h.1, h.2⟩
  · exact h.elim
def gEq (K : PySem.W.Frag) (neg : Bool) : R2 := fun x y H Q => match x, y with
  | .int i, .int j => Q (.bl (neg ^^ decide (i = j))) H
  | .str i, .str j => Q (.bl (neg ^^ decide (i = j))) H
  | .bl i, .bl j => Q (.bl (neg ^^ decide (i = j))) H
  | .ref i, .ref j => ∃ da db, DatV K H (.ref i) da ∧ DatV K H (.ref j) db ∧ da.canLay0 = true ∧ db.canLay0 = true ∧ min da.depth db.depth ≤ 60 ∧ Q (.bl (neg ^^ PyData.eqv da db)) H
  | _, _ => False
theorem og_eq (hu : X.A.units + 64 < cLine) {K : PySem.W.Frag} (hK : X.K = K := by rfl) : OpR X (compareOp .Eq) (gEq K false) := by
  subst hK
  intro pins s σ H x y v u Q I rx ry h
  unfold gEq at h
  split at h
  · refine op_eq pins s σ H _ _ v u Q I rx ry ⟨rfl, ?_⟩
    simpa using h
  · refine op_eq pins s σ H _ _ v u Q I rx ry ⟨rfl, ?_⟩
    simpa using h
  · refine op_eq pins s σ H _ _ v u Q I rx ry ⟨rfl, ?_⟩
    simpa using h
  · obtain ⟨da, db, h1, h2, h3, h4, h5, h6⟩ := h
    exact op_eqD hu pins s σ H _ _ v u Q I rx ry ⟨da, db, h1, h2, h3, h4, h5, by simpa using h6⟩
  · exact h.elim
theorem og_ne (hu : X.A.units + 64 < cLine) {K : PySem.W.Frag} (hK : X.K = K := by rfl) : OpR X (compareOp .NotEq) (gEq K true) := by
  subst hK
  intro pins s σ H x y v u Q I rx ry h
  unfold gEq at h
  split at h
  · refine op_ne pins s σ H _ _ v u Q I rx ry ⟨rfl, ?_⟩
    simpa using h
  · refine op_ne pins s σ H _ _ v u Q I rx ry ⟨rfl, ?_⟩
    simpa using h
  · refine op_ne pins s σ H _ _ v u Q I rx ry ⟨rfl, ?_⟩
    simpa using h
  · obtain ⟨da, db, h1, h2, h3, h4, h5, h6⟩ := h
    exact op_neD hu pins s σ H _ _ v u Q I rx ry ⟨da, db, h1, h2, h3, h4, h5, by simpa using h6⟩
  · exact h.elim
def gLt : R2 := fun x y H Q => match x, y with
  | .int i, .int j => Q (.bl (decide (i < j))) H
  | .str i, .str j => Q (.bl (decide (i.cps.toList < j.cps.toList))) H
  | _, _ => False
theorem og_lt : OpR X (compareOp .Lt) gLt := by
  intro pins s σ H x y v u Q I rx ry h
  unfold gLt at h
  split at h
  · exact op_lt pins s σ H _ _ v u Q I rx ry ⟨_, _, rfl, rfl, h⟩
  · exact op_lt_str pins s σ H _ _ v u Q I rx ry ⟨_, _, rfl, rfl, h⟩
  · exact h.elim
def gGt : R2 := fun x y H Q => match x, y with
  | .int i, .int j => Q (.bl (decide (j < i))) H
  | _, _ => False
theorem og_gt : OpR X (compareOp .Gt) gGt := by
  intro pins s σ H x y v u Q I rx ry h
  unfold gGt at h
  split at h
  · exact op_gt pins s σ H _ _ v u Q I rx ry ⟨_, _, rfl, rfl, h⟩
  · exact h.elim
def gIs (neg : Bool) : R2 := fun x y H Q => match y with
  | .non => (match x with
    | .non => Q (.bl (neg ^^ true)) H
    | _ => Q (.bl (neg ^^ false)) H)
  | _ => False
theorem og_is : OpR X (compareOp .Is) (gIs false) := by
  intro pins s σ H x y v u Q I rx ry h
  unfold gIs at h
  split at h
  · refine op_isN pins s σ H _ _ v u Q I rx ry ⟨rfl, ?_⟩
    split at h
    · exact h
    · rename_i hn
      have e : decide (x = V.non) = false := decide_eq_false hn
      rw [e]
      exact h
  · exact h.elim
theorem og_isnot : OpR X (compareOp .IsNot) (gIs true) := by
  intro pins s σ H x y v u Q I rx ry h
  unfold gIs at h
  split at h
  · refine op_notN pins s σ H _ _ v u Q I rx ry ⟨rfl, ?_⟩
    split at h
    · exact h
    · rename_i hn
      have e : decide (x = V.non) = false := decide_eq_false hn
      rw [e]
      exact h
  · exact h.elim

def gIx (K : PySem.W.Frag) (w : World) : R2 := fun x y H Q => match x, y with
  | .ref q, .int i => (∃ xs v, SqL K H q xs ∧ atI xs i = some v ∧ Q v H) ∨ ∃ xs v, SqT K H q xs ∧ atI xs i = some v ∧ Q v H
  | .str z, .int i => z.length ≤ sizeLine ∧ ∃ c, atI z.cps.toList i = some c ∧ Q (.str ⟨#[c]⟩) H
  | .ref q, .str k => (∃ kvs v, KTab K w q kvs ∧ kvs.lookup k = some v ∧ Q v H) ∨ ∃ (kvs : List (Key × V)) (v : V), H q = some (.dK kvs) ∧ valV kvs (Sum.inr k) = some v ∧ Q v H
  | _, _ => False
theorem og_ix (hu : X.A.units + 64 < cLine) {K : PySem.W.Frag} {w : World} (hK : X.K = K := by rfl) (hw : X.w = w := by rfl) : IxR X (gIx K w) := by
  subst hK
  subst hw
  intro value slice pins s σ H x y v u Q I rx ry h hs
  unfold gIx at h
  split at h
  · rcases h with ⟨xs, z, h1, h2, h3⟩ | ⟨xs, z, h1, h2, h3⟩
    · exact ix_list value slice pins s σ H _ _ v u Q I rx ry ⟨_, xs, _, z, rfl, rfl, h1, h2, h3⟩ hs
    · exact ix_tup value slice pins s σ H _ _ v u Q I rx ry ⟨_, xs, _, z, rfl, rfl, h1, h2, h3⟩ hs
  · obtain ⟨hz, c, h1, h2⟩ := h
    exact ix_str value slice pins s σ H _ _ v u Q I rx ry ⟨_, _, c, rfl, rfl, hz, h1, h2⟩ hs
  · rcases h with ⟨kvs, z, h1, h2, h3⟩ | ⟨kvs, z, h1, h2, h3⟩
    · exact ix_ktab value slice pins s σ H _ _ v u Q I rx ry ⟨_, kvs, _, z, rfl, rfl, h1, h2, h3⟩ hs
    · cases rx
      have hd := dk_of I.hok h1
      obtain ⟨_, _, vs, _, dd⟩ := hd
      exact tail_any dd.typeIs slot_dict_getitem.lookup (d_getItem (y := kV (Sum.inr _)) (v := z) (by omega) I (.inl ⟨kvs, _, .inl h1, rfl, h2.symm⟩) ry fun w' s' I' rw' => ⟨z, H, I', rw', h3⟩) hs
  · exact h.elim
def mPart (t : TE) : TO := fun σ H Q => t σ H fun x H1 => match x with
  | .int i => Q (some i) H1
  | _ => False
theorem mPart_eq (t : TE) : mPart t = tPart t := by
  funext σ H Q
  unfold mPart tPart
  congr 1
  funext x H'
  refine propext ⟨fun h => ?_, fun ⟨k, e, h⟩ => ?_⟩
  · split at h
    · exact ⟨_, rfl, h⟩
    · exact h.elim
  · subst e; exact h
theorem po_someM (h : PE X e te) : PO X (some e) (mPart te) := by rw [mPart_eq]; exact po_some h

def gLen (K : PySem.W.Frag) : List V → Hp → VK → Prop := fun xs H Q => match xs with
  | [.str y] => y.length ≤ sizeLine ∧ Q (.int y.length) H
  | [.ref p] => ∃ ys, (SqL K H p ys ∨ SqT K H p ys) ∧ Q (.int ys.length) H
  | _ => False
theorem cg_len {K : PySem.W.Frag} (hK : X.K = K := by rfl) : CallR X (.builtin "len") (gLen K) := by
  subst hK
  intro pins s σ H xs us Q I r h
  unfold gLen at h
  split at h
  · exact call_len_str pins s σ H _ us Q I r ⟨_, rfl, h.1, h.2⟩
  · obtain ⟨ys, h1, h2⟩ := h
    exact call_len_seq pins s σ H _ us Q I r ⟨_, ys, rfl, h1, h2⟩
  · exact h.elim
def gList (K : PySem.W.Frag) : List V → Hp → VK → Prop := fun xs H Q => match xs with
  | [.ref p] => ∃ ys, (SqL K H p ys ∨ SqT K H p ys) ∧ ∀ l, H l = none → Q (.ref l) (upd H l (.lst ys))
  | _ => False
theorem cg_list {K : PySem.W.Frag} (hK : X.K = K := by rfl) : CallR X (.type "list") (gList K) := by
  subst hK
  intro pins s σ H xs us Q I r h
  unfold gList at h
  split at h
  · obtain ⟨ys, h1, h2⟩ := h
    exact call_list_of pins s σ H _ us Q I r ⟨_, ys, rfl, h1, h2⟩
  · exact h.elim

def gJoin (K : PySem.W.Frag) : V → List V → Hp → VK → Prop := fun x vs H Q => match x, vs with
  | .str sep, [.ref l] => ∃ texts : List Str, SqL K H l (texts.map V.str) ∧ JoinOk sep texts = true ∧ Q (.str (Txt.join sep texts)) H
  | _, _ => False
theorem mg_join {K : PySem.W.Frag} (hK : X.K = K := by rfl) : MtR X "str.join" (gJoin K) := by
  subst hK
  intro pins s σ H x xs v us Q I rx rs h
  unfold gJoin at h
  split at h
  · obtain ⟨texts, h1, h2, h3⟩ := h
    exact mt_join pins s σ H _ _ v us Q I rx rs ⟨_, _, texts, rfl, rfl, h1, h2, h3⟩
  · exact h.elim
def gAppend : V → List V → Hp → VK → Prop := fun x vs H Q => match x, vs with
  | .ref l, [y] => ∃ xs, H l = some (.lst xs) ∧ xs.length < sizeLine ∧ Q .non (upd H l (.lst (xs ++ [y])))
  | _, _ => False
theorem mg_append : MtR X "list.append" gAppend := by
  intro pins s σ H x xs v us Q I rx rs h
  unfold gAppend at h
  split at h
  · obtain ⟨ys, h1, h2, h3⟩ := h
    exact mt_append pins s σ H _ _ v us Q I rx rs ⟨_, ys, _, rfl, rfl, h1, h2, h3⟩
  · exact h.elim
end
end L2

namespace L2
open PySem PySem.Spec PyProof.Rows
section
variable {X : Cx} {tg : Expr}
def iAny (K : PySem.W.Frag) (tl : TE) : TI := fun σ H R => tl σ H fun x H1 => match x with
  | .str z => R (Its z) H1
  | .ref a => ((∃ xs, SqL K H1 a xs) ∧ R (Itl K a) H1) ∨ ((∃ xs, SqT K H1 a xs) ∧ R (Itt K a) H1)
  | _ => False
theorem pi_any {l : Expr} {tl : TE} (hl : PE X l tl) {K : PySem.W.Frag} (hK : X.K = K := by rfl) : PI X tg l (iAny K tl) := by
  subst hK
  intro pins s σ H R I h
  refine thn (hl pins s σ H _ I h) fun v s1 ⟨x, H1, I1, r1, q1⟩ => ?_
  dsimp only at q1
  split at q1
  · rename_i z
    obtain ⟨t, rfl⟩ := r1
    have fin : ∀ b ∈ [s1.heap.objs.size], FpOk X pins H1 b := fun b hb => by
      have e : b = s1.heap.objs.size := by simpa using hb
      subst e
      exact I1.fpOk (Nat.le_refl _) (I1.hok.fresh (Nat.le_refl _))
    cases ha : z.cps.all (· < 128)
    · refine wpAny_pyIter_wide ha ?_
      exact ⟨s1.heap.objs.size, [s1.heap.objs.size], _, _, H1, rfl, I1.kept (t' := s1.toks) fun b o e => Heap.get?_push_of_some _ e,
        turn_str "str_iterator" _ z t (fun A' hA => Walks.strWide hA _ z t) (fun A i s Q E st h => wpAny_pyIter_striter_wide st h) (by decide), ⟨_, Heap.get?_push_size _ rfl, rfl, rfl⟩, fin, q1⟩
    · refine wpAny_pyIter_ascii ha ?_
      exact ⟨s1.heap.objs.size, [s1.heap.objs.size], _, _, H1, rfl, I1.kept (t' := s1.toks) fun b o e => Heap.get?_push_of_some _ e,
        turn_str "str_ascii_iterator" _ z t (fun A' hA => Walks.strAscii hA _ z t) (fun A i s Q E st h => wpAny_pyIter_striter_ascii st h) (by decide), ⟨_, Heap.get?_push_size _ rfl, rfl, rfl⟩, fin, q1⟩
  · rename_i a
    cases r1
    have fin : ∀ b ∈ [s1.heap.objs.size], FpOk X pins H1 b := fun b hb => by
      have e : b = s1.heap.objs.size := by simpa using hb
      subst e
      exact I1.fpOk (Nat.le_refl _) (I1.hok.fresh (Nat.le_refl _))
    rcases q1 with ⟨⟨xs, hq⟩, q⟩ | ⟨⟨xs, hq⟩, q⟩
    · obtain ⟨its, rv, p, hz⟩ := I1.list hq
      refine wpAny_pyIter_list p.isList ?_
      exact ⟨s1.heap.objs.size, [s1.heap.objs.size], _, _, H1, rfl, I1.kept (t' := s1.toks) fun b o e => Heap.get?_push_of_some _ e, turn_list a _, ⟨_, Heap.get?_push_size _ rfl, rfl, rfl⟩, fin, q⟩
    · obtain ⟨its, rv, p, hz⟩ := I1.tuple hq
      refine wpAny_pyIter_tuple (show s1.heap.IsTuple a its.toArray from p) ?_
      exact ⟨s1.heap.objs.size, [s1.heap.objs.size], _, _, H1, rfl, I1.kept (t' := s1.toks) fun b o e => Heap.get?_push_of_some _ e, turn_tuple a _, ⟨_, Heap.get?_push_size _ rfl, rfl, rfl⟩, fin, q⟩
  · exact q1.elim
def mRng1 (ta : TA) : TI := fun σ H R => ta σ H fun vs H1 => match vs with
  | [.int j] => -(2 ^ 62) ≤ j ∧ j < 2 ^ 62 ∧ R (Itr 0 j.toNat) H1
  | _ => False
theorem mRng1_eq (ta : TA) : mRng1 ta = iRng1 ta := by
  funext σ H R
  unfold mRng1 iRng1
  congr 1
  funext vs H'
  refine propext ⟨fun h => ?_, fun ⟨k, e, h⟩ => ?_⟩
  · split at h
    · exact ⟨_, rfl, h⟩
    · exact h.elim
  · subst e; exact h
theorem pi_rng1 {a : Expr} {ta : TA} {p pos : Pos} (hg : Gl X "range") (hm : X.mg "range" = none) (ha : PA X [a] ta) (hs : starEach [a] X.env = [(false, eval a X.env)] := by rfl) : PI X tg (.Call (.Name "range" p) [a] [] pos) (mRng1 ta) := by
  rw [mRng1_eq]; exact pi_range1 hg hm ha hs

def noStar : Expr → Bool
  | .Starred .. => false
  | _ => true
def noStars : List Expr → Bool
  | [] => true
  | e :: r => noStar e && noStars r
theorem starEach_cons {e : Expr} {es : List Expr} {env : Env} (h : noStar e = true) : starEach (e :: es) env = (false, eval e env) :: starEach es env := by
  cases e <;> first | rfl | exact absurd h Bool.false_ne_true
theorem stars_none : ∀ {es : List Expr} {env : Env}, noStars es = true → ∀ x ∈ starEach es env, x.1 = false
  | [], env, _, x, hx => by
    have : starEach [] env = [] := rfl
    rw [this] at hx
    exact nomatch hx
  | e :: r, env, h, x, hx => by
    have h' : noStar e = true ∧ noStars r = true := by simpa [noStars] using h
    rw [starEach_cons h'.1] at hx
    rcases List.mem_cons.mp hx with q | q
    · rw [q]
    · exact stars_none h'.2 x q
theorem back_any {es : List Expr} {env : Env} {pos : Pos} (h : noStars es = true) : (backTo pos (starEach es env)).any (·.1) = false := by
  rw [List.any_eq_false]
  intro x hx
  unfold backTo at hx
  obtain ⟨y, hy, e⟩ := List.mem_map.mp hx
  have := stars_none h y hy
  obtain ⟨b, t⟩ := y
  dsimp only at e this
  rw [← e, this]
  exact Bool.false_ne_true
theorem back_all {es : List Expr} {env : Env} {pos : Pos} (h : noStars es = true) : (backTo pos (starEach es env)).all (fun x => !x.1) = true := by
  rw [List.all_eq_true]
  intro x hx
  unfold backTo at hx
  obtain ⟨y, hy, e⟩ := List.mem_map.mp hx
  have := stars_none h y hy
  obtain ⟨b, t⟩ := y
  dsimp only at e this
  rw [← e, this]
  rfl
def notSuper : Expr → Bool
  | .Call (.Name _ _) [] [] _ => false
  | _ => true
theorem base_of {o : Expr} {attr : Str} {env : Env} {whole : Sem Value} (h : notSuper o = true) : attributeBase o attr env whole = whole := by
  unfold attributeBase
  split
  · exact absurd h Bool.false_ne_true
  · rfl
theorem pa_consM {es : List Expr} {t : TA} (ha : PE X e te) (hr : PA X es t) (h : noStar e = true := by rfl) : PA X (e :: es) (tCons te t) := pa_cons ha hr (starEach_cons h)
theorem pe_callBM {x : Str} {id : String} {r : List V → Hp → VK → Prop} {es : List Expr} {t : TA} {p pos : Pos} (hc : CallR X (.builtin id) r) (hg : Gl X x) (hm : X.mg x = none) (hv : bootBuiltins x = some (.builtin id)) (ha : PA X (e :: es) t) (hn : x ≠ "__name__" := by decide) (hdb : (x == ("__debug__" : Str)) = false := by decide)
    (h : noStars (e :: es) = true := by rfl) : PE X (.Call (.Name x p) (e :: es) [] pos) (tCB r t) := by
  have h' : noStar e = true ∧ noStars es = true := by simpa [noStars] using h
  exact pe_callB hc hg hm hv ha hn hdb (starEach_cons h'.1) (back_any h'.2)
theorem pe_callTyM {x : Str} {T : String} {r : List V → Hp → VK → Prop} {es : List Expr} {t : TA} {p pos : Pos} (hc : CallR X (.type T) r) (hg : Gl X x) (hm : X.mg x = none) (hv : bootBuiltins x = some (.type T)) (ha : PA X (e :: es) t) (hn : x ≠ "__name__" := by decide) (hdb : (x == ("__debug__" : Str)) = false := by decide)
    (h : noStars (e :: es) = true := by rfl) : PE X (.Call (.Name x p) (e :: es) [] pos) (tCB r t) := by
  have h' : noStar e = true ∧ noStars es = true := by simpa [noStars] using h
  exact pe_callTy hc hg hm hv ha hn hdb (starEach_cons h'.1) (back_any h'.2)
theorem pe_bmK {K : PySem.W.Frag} {o e : Expr} {es : List Expr} {to : TE} {t : TA} {name : Str} {apos cpos : Pos} {T id : String} {r : V → List V → Hp → VK → Prop} (pa : PlainAttrs T) (slot : Slot T name id) (hty : typeOf (.builtin id) = pure (.type "method_descriptor")) (hm : MtR X id r) (ho : PE X o to) (ha : PA X (e :: es) t) (hK : X.K = K := by rfl)
    (hsup : notSuper o = true := by rfl) (h : noStars (e :: es) = true := by rfl) (h30 : (e :: es).length < 30 := by decide) (hline : (apos.endLine == cpos.line) = true := by rfl) :
    PE X (.Call (.Attribute o name apos) (e :: es) [] cpos) (tBM K T r to t) := by
  subst hK
  have h' : noStar e = true ∧ noStars es = true := by simpa [noStars] using h
  refine pe_bm pa slot hty hm ho ha (base_of hsup) ?_ hline (starEach_cons h'.1) (back_any h'.2)
  rw [back_all h]
  have e0 : keywordEach [] X.env = [] := rfl
  rw [e0]
  simpa [backToKw] using h30
theorem pe_bm0K {K : PySem.W.Frag} {o : Expr} {to : TE} {name : Str} {apos cpos : Pos} {T id : String} {r : V → List V → Hp → VK → Prop} (pa : PlainAttrs T) (slot : Slot T name id) (hty : typeOf (.builtin id) = pure (.type "method_descriptor")) (hm : MtR X id r) (ho : PE X o to) (hK : X.K = K := by rfl)
    (hsup : notSuper o = true := by rfl) (hline : (apos.endLine == cpos.line) = true := by rfl) : PE X (.Call (.Attribute o name apos) [] [] cpos) (tBM0 K T r to) := by
  subst hK
  exact pe_bm0 pa slot hty hm ho (base_of hsup) hline
theorem pg_tupK {K : PySem.W.Frag} {es : List Expr} {k : Nat} {t : TGs} {n : Nat} {pos : Pos} (hc : X.calm = true) (h : PGs X es t) (hK : X.K = K := by rfl)
    (hn : (assignEach es X.env).length = n := by rfl) (hst : (assignEach es X.env).findIdx? (·.1) = none := by rfl) : PG X (.Tuple es k pos) (gTup K n t) := by
  subst hK
  exact pg_tup hc h hn hst
structure Def (P : Program) (w : World) (K : PySem.W.Frag) (mg : Str → Option Value) (base : Heap) (k : Nat) (x : Str) (ps : List Str) (sp : Sp) : Prop where
  ex : ∃ f fd, mg x = some (.ref f) ∧ PySem.W.keepIn K (.ref f) = true ∧ (∃ oc od osl, K.lookup f = some ⟨oc, od, .func fd, osl⟩) ∧ Binds K fd ps [] ∧ FnOk P w K mg base CX0 k f fd ps sp
theorem pe_def {k : Nat} {x : Str} {ps : List Str} {sp : Sp} {e : Expr} {es : List Expr} {t : TA} {p pos : Pos} (D : Def X.prog X.w X.K X.mg X.base k x ps sp) (hr : Room k X.A) (hg : Gl X x) (ha : PA X (e :: es) t) (hdb : (x == ("__debug__" : Str)) = false := by decide)
    (hst : noStars (e :: es) = true := by rfl) (hx : Passes CX0 X E0 := by exact pass0) :
    PE X (.Call (.Name x p) (e :: es) [] pos) (fun σ H Q => t σ H fun vs H1 => sp vs H1 Q E0) := by
  obtain ⟨f, fd, mgf, kp, _, b, G⟩ := D.ex
  have h' : noStar e = true ∧ noStars es = true := by simpa [noStars] using hst
  have he := starEach_cons (es := es) (env := X.env) h'.1
  have hpl := back_any (env := X.env) (pos := pos) h'.2
  have h := pe_call (X := X) (dvs := []) (E := E0) (p := p) (pos := pos) G hr hg mgf kp b .nil hx ha hdb he hpl
  intro pins s σ H Q I hq
  refine h pins s σ H Q I ?_
  show t σ H fun vs H1 => sp (vs ++ []) H1 Q E0
  have e1 : (fun (vs : List V) H1 => sp (vs ++ []) H1 Q E0) = fun vs H1 => sp vs H1 Q E0 := by funext vs H1; rw [List.append_nil]
  rw [e1]
  exact hq
end
theorem Fun.lk {K : PySem.W.Frag} {x qual : Str} {st : Stmt} {f : Addr} {fd : FuncData} (F : Fun K x qual st f fd) : ∃ oc od osl, K.lookup f = some ⟨oc, od, .func fd, osl⟩ := by
  obtain ⟨oc, od, kV, doc, pm, an, cdv, ct, osl, _, lk, _⟩ := F.ex
  exact ⟨oc, od, osl, lk⟩
structure Raw (K : PySem.W.Frag) (mg : Str → Option Value) (x : Str) (st : Stmt) (ps : List Str) : Prop where
  ex : ∃ f fd, mg x = some (.ref f) ∧ Fun K x x st f fd ∧ ∀ (us : List Value), us.length = ps.length → bindArgs fd ⟨us, []⟩ = pure (ps.zip us)
theorem Raw.mk' {K : PySem.W.Frag} {mg : Str → Option Value} {h : Heap} {x : Str} {st : Stmt} {ps : List Str} {f : Addr} {oc : Value} {od an : Option Addr} {osl : Array (Option Value)} {kV doc pm cdv ct : Value} (X : K.In h) (G : h.Ns mainGlobals mg)
    (a : PySem.W.nsIn K mainGlobals x = some (some (.ref f))) (l : K.lookup f = some ⟨oc, od, .func (PySem.W.fnOf x x (defArgs st) (defBody st) (defScope st) .none kV doc pm an cdv ct), osl⟩)
    (c : PySem.W.codeIn K cdv x = true) (k : PySem.W.keepIn K (.ref f) = true)
    (hb : ∀ (us : List Value), us.length = ps.length → bindArgs (PySem.W.fnOf x x (defArgs st) (defBody st) (defScope st) .none kV doc pm an cdv ct) ⟨us, []⟩ = pure (ps.zip us)) : Raw K mg x st ps :=
  ⟨⟨f, _, PySem.W.mg_of X G a, fun_mk l c k, hb⟩⟩
theorem Raw.def {P : Program} {w : World} {K : PySem.W.Frag} {mg : Str → Option Value} {base : Heap} {x : Str} {st : Stmt} {N ps : List Str} {k : Nat} {sp : Sp} (R : Raw K mg x st ps) (S : FnScope N ps (defScope st)) (len : ∀ vs H Q E, sp vs H Q E → vs.length = ps.length)
    (hbody : ∀ (f : Addr) (cdv : Value) (A : Around) (outer : List Env) (s : Shared) (H : Hp) (vs : List V) (Q : VK) (E : XK), Room k (A.deeper (envOfC x (defScope st) s.heap.objs.size f cdv)) → sp vs H Q E →
      ∃ t, PSs (cxOf CX0 P w K mg base N x (defScope st) f cdv A outer s H E).nox (defBody st) t ∧ t { nx := fun _ H' => Q .non H', rt := Q } (start N vs) H) : Def P w K mg base (k + 1) x ps sp := by
  obtain ⟨f, fd, h1, F, b⟩ := R.ex
  exact ⟨f, fd, h1, F.kp, F.lk, .all b, F.ok S len (fun cdv => hbody f cdv)⟩
theorem Def.at {P : Program} {w : World} {K : PySem.W.Frag} {mg : Str → Option Value} {base : Heap} {k : Nat} {x : Str} {ps : List Str} {sp : Sp} {f : Addr} {fd : FuncData} (D : Def P w K mg base k x ps sp) (h : mg x = some (.ref f))
    (l : ∃ oc od osl, K.lookup f = some ⟨oc, od, .func fd, osl⟩) : FnOk P w K mg base CX0 k f fd ps sp := by
  obtain ⟨f', fd', h', _, ⟨oc', od', osl', l'⟩, _, F⟩ := D.ex
  obtain ⟨oc, od, osl, l⟩ := l
  cases h.symm.trans h'
  have e := l.symm.trans l'
  simp only [Option.some.injEq, Obj.mk.injEq, Data.func.injEq] at e
  rw [e.2.2.1]
  exact F
section
variable {K : PySem.W.Frag} {w : World} {mg : Str → Option Value} {h : Heap} {x : Str}
end
end L2

set_option Elab.async false
set_option linter.all false
set_option maxRecDepth 100000
set_option maxHeartbeats 4000000
namespace L2
open PySem PySem.Spec PyProof.Rows

theorem same_upd {H H' : Hp} {p : Addr} {o : HO} (e : Same H H') (h : H p = none) : Same H (upd H' p o) := fun b u q => by
  rw [upd_ne (ne_of_none q h)]
  exact e b u q
theorem same_new {H : Hp} {p : Addr} {o : HO} (h : H p = none) : Same H (upd H p o) := same_upd (Same.refl H) h
section
variable {cap : List (Option Nat)} {g : TG} {tc : TT} {te : TE} {Q : Addr → Hp → Prop} {σ : St} {H : Hp}
theorem gath_of {J : It} {n : Nat} {item : Nat → V → Prop} (Pv : Nat → List V → St → Hp → Prop) (hn : n ≤ 1000000) (h0 : Pv 0 [] (capt cap σ) H) (hlen : ∀ i ys σ' H', Pv i ys σ' H' → ys.length ≤ i)
    (hgo : ∀ i ys σ' H', i < n → Pv i ys σ' H' → J.go i H') (hyld : ∀ i ys σ' H' x H2, i < n → Pv i ys σ' H' → J.yld i H' x H2 → item i x ∧ H2 = H') (hstop : ∀ ys σ' H', Pv n ys σ' H' → J.stop n H')
    (hs : ∀ i x ys σ' H', i < n → item i x → Pv i ys σ' H' → g x σ' H' fun σ3 H3 => tc σ3 H3 fun b H4 => if b = true then te σ3 H4 fun y H5 => Pv (i + 1) (ys ++ [y]) σ3 H5 else Pv (i + 1) ys σ3 H4)
    (hd : ∀ ys σ' H', Pv n ys σ' H' → ∀ D, H' D = none → Q D (upd H' D (.lst ys))) : Gath J cap g tc te Q σ H := by
  have big : (1000000 : Nat) < sizeLine := by rw [sizeLine_eq]; decide
  refine ⟨fun i m ys σ' H' => m = n - i ∧ i ≤ n ∧ Pv i ys σ' H', ⟨n, by simp, Nat.zero_le _, h0⟩, ?_⟩
  rintro i m ys σ' H' ⟨rfl, hi, p⟩
  have hl := hlen i ys σ' H' p
  by_cases hlt : i < n
  · refine .inr ⟨hgo i ys σ' H' hlt p, by omega, Pv (i + 1), fun ys2 σ2 H2 p' => ⟨n - (i + 1), by omega, rfl, hlt, p'⟩, fun x H2 y => ?_⟩
    obtain ⟨h1, h2⟩ := hyld i ys σ' H' x H2 hlt p y
    subst h2
    exact hs i x ys σ' _ hlt h1 p
  · have e : i = n := by omega
    subst e
    exact .inl ⟨hstop ys σ' H' p, by omega, hd ys σ' H' p⟩
theorem gath_list {K : PySem.W.Frag} {a : Addr} {xs : List V} (Pv : Nat → List V → St → Hp → Prop) (hn : xs.length ≤ 1000000) (h0 : Pv 0 [] (capt cap σ) H) (hlen : ∀ i ys σ' H', Pv i ys σ' H' → ys.length ≤ i)
    (hl : ∀ i ys σ' H', Pv i ys σ' H' → SqL K H' a xs)
    (hs : ∀ i x ys σ' H', xs[i]? = some x → Pv i ys σ' H' → g x σ' H' fun σ3 H3 => tc σ3 H3 fun b H4 => if b = true then te σ3 H4 fun y H5 => Pv (i + 1) (ys ++ [y]) σ3 H5 else Pv (i + 1) ys σ3 H4)
    (hd : ∀ ys σ' H', Pv xs.length ys σ' H' → ∀ D, H' D = none → Q D (upd H' D (.lst ys))) : Gath (Itl K a) cap g tc te Q σ H :=
  gath_of (item := fun i x => xs[i]? = some x) Pv hn h0 hlen (fun i ys σ' H' hi p => ⟨xs, xs[i], hl i ys σ' H' p, by simp [hi]⟩) (fun i ys σ' H' x H2 _ p y => ⟨y.2 xs (hl i ys σ' H' p), y.1⟩)
    (fun ys σ' H' p => ⟨xs, hl _ ys σ' H' p, Nat.le_refl _⟩) (fun i x ys σ' H' hi e p => hs i x ys σ' H' e p) hd
end
end L2

set_option Elab.async false
set_option linter.all false
set_option maxRecDepth 100000
set_option maxHeartbeats 4000000
namespace L2
open PySem PySem.Spec PyProof.Rows
@[irreducible] def Irr (p : Prop) : Prop := p
theorem Irr.mk {p : Prop} (h : p) : Irr p := by unfold Irr; exact h
theorem Irr.out {p : Prop} (h : Irr p) : p := by unfold Irr at h; exact h
abbrev JE (X : Cx) (e : Expr) (t : TE) : Prop := Irr (PE X e t)
abbrev JT (X : Cx) (e : Expr) (t : TT) : Prop := Irr (PT X e t)
abbrev JW (X : Cx) (e : Expr) (t : TT) : Prop := Irr (PW X e t)
abbrev JA (X : Cx) (es : List Expr) (t : TA) : Prop := Irr (PA X es t)
abbrev JO (X : Cx) (e : Option Expr) (t : TO) : Prop := Irr (PO X e t)
abbrev JS (X : Cx) (st : Stmt) (t : TS) : Prop := Irr (PS X st t)
abbrev JSs (X : Cx) (st : List Stmt) (t : TS) : Prop := Irr (PSs X st t)
abbrev JG (X : Cx) (e : Expr) (t : TG) : Prop := Irr (PG X e t)
abbrev JGs (X : Cx) (e : List Expr) (t : TGs) : Prop := Irr (PGs X e t)
abbrev JI (X : Cx) (tg it : Expr) (t : TI) : Prop := Irr (PI X tg it t)
section
variable {X : Cx} {a b c e f k o v tg it : Expr} {es : List Expr} {ta tb tc te td ty tx tk tv : TE} {tA tB' : TT} {t : TA} {u u' : TS} {pos pos' p p2 apos cpos spos : Pos} {st : Stmt} {sts sts' : List Stmt} {K : PySem.W.Frag} {w : World}

theorem o_add (hK : X.K = K := by rfl) : Irr (OpR X (binaryOp .Add) (gAdd K)) := .mk (og_add hK)
theorem o_sub : Irr (OpR X (binaryOp .Sub) gMinus) := .mk og_sub
theorem o_mul : Irr (OpR X (binaryOp .Mult) gMul) := .mk og_mul
theorem o_div : Irr (OpR X (binaryOp .FloorDiv) gDiv) := .mk og_div
theorem o_mod : Irr (OpR X (binaryOp .Mod) gMod) := .mk og_mod
theorem o_eq (hu : X.A.units + 64 < cLine) (hK : X.K = K := by rfl) : Irr (OpR X (compareOp .Eq) (gEq K false)) := .mk (og_eq hu hK)
theorem o_ne (hu : X.A.units + 64 < cLine) (hK : X.K = K := by rfl) : Irr (OpR X (compareOp .NotEq) (gEq K true)) := .mk (og_ne hu hK)
theorem o_lt : Irr (OpR X (compareOp .Lt) gLt) := .mk og_lt
theorem o_gt : Irr (OpR X (compareOp .Gt) gGt) := .mk og_gt
theorem o_is : Irr (OpR X (compareOp .Is) (gIs false)) := .mk og_is
theorem o_isnot : Irr (OpR X (compareOp .IsNot) (gIs true)) := .mk og_isnot
theorem o_ix (hu : X.A.units + 64 < cLine) (hK : X.K = K := by rfl) (hw : X.w = w := by rfl) : Irr (IxR X (gIx K w)) := .mk (og_ix hu hK hw)
theorem c_len (hK : X.K = K := by rfl) : Irr (CallR X (.builtin "len") (gLen K)) := .mk (cg_len hK)
theorem c_list (hK : X.K = K := by rfl) : Irr (CallR X (.type "list") (gList K)) := .mk (cg_list hK)
theorem m_join (hK : X.K = K := by rfl) : Irr (MtR X "str.join" (gJoin K)) := .mk (mg_join hK)
theorem m_append : Irr (MtR X "list.append" gAppend) := .mk mg_append
theorem jn (i : Nat) {x : Str} (hN : X.N[i]? = some x := by rfl) (hv : Vis X.env.scope x := by first | exact Or.inl rfl | exact Or.inr (Or.inl rfl) | exact Or.inr (Or.inr rfl)) (hd : (x == ("__debug__" : Str)) = false := by decide)
    (hcd : (x == ("__classdict__" : Str)) = false := by decide) : JE X (.Name x pos) (mVar i) := .mk (pn i hN hv hd hcd)
theorem j_int {i : Int} {j : Nat} : JE X (.Constant (.int i) j pos) (tC (.int i)) := .mk pe_int
theorem j_bl {b : Bool} {j : Nat} : JE X (.Constant (.bool b) j pos) (tC (.bl b)) := .mk pe_bl
theorem j_non {j : Nat} : JE X (.Constant .none j pos) (tC .non) := .mk pe_non
theorem j_str {x : Str} {j : Nat} : JE X (.Constant (.str x) j pos) (tC (.str x)) := .mk pe_str
theorem j_bltn {x : Str} {v : V} {u : Value} (hg : Gl X x) (hm : X.mg x = none) (hv : bootBuiltins x = some u) (r : RelV v u) (hn : x ≠ "__name__" := by decide) (hd : (x == ("__debug__" : Str)) = false := by decide) : JE X (.Name x pos) (tC v) := .mk (pe_bltn hg hm hv r hn hd)
theorem j_op {op : Operator} {r : R2} (ho : Irr (OpR X (binaryOp op) r)) (ha : JE X a ta) (hb : JE X b tb) : JE X (.BinOp a op b pos) (tOp r ta tb) := .mk (pe_op ho.out ha.out hb.out)
theorem j_cmp {op : CmpOp} {r : R2} (ho : Irr (OpR X (compareOp op) r)) (ha : JE X a ta) (hb : JE X b tb) (hm : behindInMarks op b = false := by first | exact nomark _ | rfl) : JE X (.Compare a [op] [b] pos) (tOp r ta tb) := .mk (pe_cmpR ho.out ha.out hb.out hm)
theorem j_and (ha : JE X a ta) (hb : JE X (.BoolOp .And (b :: es) pos) tb) : JE X (.BoolOp .And (a :: b :: es) pos) (mAndV ta tb) := .mk (pe_andM ha.out hb.out)
theorem j_one {op : BoolOp} (h : JE X a ta) : JE X (.BoolOp op [a] pos) ta := .mk (pe_one h.out)
theorem j_ife (hc : JT X c tA) (ha : JE X a ta) (hb : JE X b tb) : JE X (.IfExp c a b pos) (tIf tA ta tb) := .mk (pe_ifExp hc.out ha.out hb.out)
theorem ja_nil : JA X [] tNil := .mk pa_nil
theorem ja_cons (ha : JE X e te) (hr : JA X es t) (h : noStar e = true := by rfl) : JA X (e :: es) (tCons te t) := .mk (pa_consM ha.out hr.out h)
theorem j_tup {x1 : Nat} (h : JA X es t) : JE X (.Tuple es x1 pos) (tTup t) := .mk (pe_tup h.out)
theorem j_lst (h : JA X es t) : JE X (.List es pos) (tLst t) := .mk (pe_lst h.out)
theorem jo_none : JO X none tNoPart := .mk po_none
theorem jo_some (h : JE X e te) : JO X (some e) (mPart te) := .mk (po_someM h.out)
theorem j_slice {r : V → Option Int → Option Int → Hp → VK → Prop} {lo hi : Option Expr} {tl th : TO} (hr : Irr (SlR X r)) (he : JE X e te) (hl : JO X lo tl) (hu : JO X hi th) : JE X (.Subscript e (.Slice lo hi none p2) pos) (tSl r te tl th) := .mk (pe_slice hr.out he.out hl.out hu.out)
theorem j_ix {r : R2} (hr : Irr (IxR X r)) (ha : JE X a ta) (hb : JE X b tb) (hs : PlainIx b := by exact fun _ _ => rfl) : JE X (.Subscript a b pos) (tOp r ta tb) := .mk (pe_ix hr.out ha.out hb.out hs)
theorem j_def {k : Nat} {x : Str} {ps : List Str} {sp : Sp} (D : Def X.prog X.w X.K X.mg X.base k x ps sp) (hr : Room k X.A) (hg : Gl X x) (ha : JA X (e :: es) t) (hdb : (x == ("__debug__" : Str)) = false := by decide)
    (hst : noStars (e :: es) = true := by rfl) : JE X (.Call (.Name x p) (e :: es) [] pos) (fun σ H Q => t σ H fun vs H1 => sp vs H1 Q E0) := .mk (pe_def D hr hg ha.out hdb hst)
theorem j_callB {x : Str} {id : String} {r : List V → Hp → VK → Prop} (hc : Irr (CallR X (.builtin id) r)) (hg : Gl X x) (hm : X.mg x = none) (hv : bootBuiltins x = some (.builtin id)) (ha : JA X (e :: es) t) (hn : x ≠ "__name__" := by decide) (hdb : (x == ("__debug__" : Str)) = false := by decide)
    (h : noStars (e :: es) = true := by rfl) : JE X (.Call (.Name x p) (e :: es) [] pos) (tCB r t) := .mk (pe_callBM hc.out hg hm hv ha.out hn hdb h)
theorem j_callTy {x : Str} {T : String} {r : List V → Hp → VK → Prop} (hc : Irr (CallR X (.type T) r)) (hg : Gl X x) (hm : X.mg x = none) (hv : bootBuiltins x = some (.type T)) (ha : JA X (e :: es) t) (hn : x ≠ "__name__" := by decide) (hdb : (x == ("__debug__" : Str)) = false := by decide)
    (h : noStars (e :: es) = true := by rfl) : JE X (.Call (.Name x p) (e :: es) [] pos) (tCB r t) := .mk (pe_callTyM hc.out hg hm hv ha.out hn hdb h)
theorem j_bm {name : Str} {T id : String} {r : V → List V → Hp → VK → Prop} {to : TE} (pa : PlainAttrs T) (slot : Slot T name id) (hty : typeOf (.builtin id) = pure (.type "method_descriptor")) (hm : Irr (MtR X id r)) (ho : JE X o to) (ha : JA X (e :: es) t) (hK : X.K = K := by rfl)
    (hsup : notSuper o = true := by rfl) (h : noStars (e :: es) = true := by rfl) (h30 : (e :: es).length < 30 := by decide) (hline : (apos.endLine == cpos.line) = true := by rfl) :
    JE X (.Call (.Attribute o name apos) (e :: es) [] cpos) (tBM K T r to t) := .mk (pe_bmK pa slot hty hm.out ho.out ha.out hK hsup h h30 hline)
theorem j_bm0 {name : Str} {T id : String} {r : V → List V → Hp → VK → Prop} {to : TE} (pa : PlainAttrs T) (slot : Slot T name id) (hty : typeOf (.builtin id) = pure (.type "method_descriptor")) (hm : Irr (MtR X id r)) (ho : JE X o to) (hK : X.K = K := by rfl)
    (hsup : notSuper o = true := by rfl) (hline : (apos.endLine == cpos.line) = true := by rfl) : JE X (.Call (.Attribute o name apos) [] [] cpos) (tBM0 K T r to) := .mk (pe_bm0K pa slot hty hm.out ho.out hK hsup hline)
theorem jt_cmp {op : CmpOp} {r : R2} (ho : Irr (OpR X (compareOp op) r)) (ha : JE X a ta) (hb : JE X b tb) (hm : behindInMarks op b = false := by first | exact nomark _ | rfl) : JT X (.Compare a [op] [b] pos) (mTest (tOp r ta tb)) := .mk (pt_cmpM ho.out ha.out hb.out hm)
theorem jw_and1 (ha : JT X a tA) : JW X (.BoolOp .And [a] pos) tA := .mk (pw_and1 ha.out)
theorem jw_or1 (ha : JT X a tA) : JW X (.BoolOp .Or [a] pos) tA := .mk (pw_or1 ha.out)
theorem jw_and (ha : JT X a tA) (hb : JW X (.BoolOp .And (b :: es) pos) tB') : JW X (.BoolOp .And (a :: b :: es) pos) (tAnd tA tB') := .mk (pw_and ha.out hb.out)
theorem jw_or (ha : JT X a tA) (hb : JW X (.BoolOp .Or (b :: es) pos) tB') : JW X (.BoolOp .Or (a :: b :: es) pos) (tOr tA tB') := .mk (pw_or ha.out hb.out)
theorem jw_t (h : JW X e tA) : JT X e tA := .mk h.out.pt

theorem ji_any (h : JE X e te) (hK : X.K = K := by rfl) : JI X tg e (iAny K te) := .mk (pi_any h.out hK)
theorem ji_rng1 (hg : Gl X "range") (hm : X.mg "range" = none) (ha : JA X [a] t) (h : noStar a = true := by rfl) : JI X tg (.Call (.Name "range" p) [a] [] pos) (mRng1 t) := .mk (pi_rng1 hg hm ha.out (starEach_cons h))
theorem jg_name {i : Nat} {x : Str} (hN : X.N.Nodup) (hi : X.N[i]? = some x) (hx : Loc X.env.scope x) (hf : X.fn x = true ∨ X.env.scope.names.lookup x = some .local := by first | exact .inl rfl | exact .inr rfl | assumption) : JG X (.Name x pos) (gName i) := .mk (pg_name hN hi hx hf)
theorem jgs_nil : JGs X [] gNil := .mk pgs_nil
theorem jgs_cons {g : TG} {gs : TGs} (h1 : JG X e g) (h2 : JGs X es gs) (hs : (assignEach (e :: es) X.env).map (·.2) = assign e X.env :: (assignEach es X.env).map (·.2) := by rfl) : JGs X (e :: es) (gCons g gs) := .mk (pgs_cons h1.out h2.out hs)
theorem jg_tup {k : Nat} {gs : TGs} {n : Nat} (hc : X.calm = true) (h : JGs X es gs) (hK : X.K = K := by rfl) (hn : (assignEach es X.env).length = n := by rfl) (hst : (assignEach es X.env).findIdx? (·.1) = none := by rfl) : JG X (.Tuple es k pos) (gTup K n gs) := .mk (pg_tupK hc h.out hK hn hst)
theorem jg_sub (ho : JE X o ta) (hi : JE X k tb) (ha : ∀ v, assign (.Subscript o k pos) X.env v = (do
      let ov ← holding [v] (eval o X.env)
      let iv ← holding [v, ov] (eval k X.env)
      standAt pos
      holding [v, ov, iv] (setItem ov iv v)
      release [v, ov, iv] []) := by intro _; rfl) : JG X (.Subscript o k pos) (L2.gSub ta tb rSetL) := .mk (pg_sub ho.out hi.out set_list ha)
abbrev JTs (X : Cx) (ifs : List Expr) (t : TT) : Prop := Irr (PTs X ifs t)
theorem jts_nil : JTs X [] tTrue := .mk pts_nil
theorem j_comp {N : List Str} {cap : List (Option Nat)} {scope : Scope} {ifs : List Expr} {wi : TI} {g : TG} (hc : X.calm = true) (S : CompScope X N cap scope) (hi : JI X tg it wi)
    (hg : ∀ C s₀ H₀ ex, JG (cxComp X N scope C s₀ H₀ ex) tg g) (ht : ∀ C s₀ H₀ ex, JTs (cxComp X N scope C s₀ H₀ ex) ifs tA) (he : ∀ C s₀ H₀ ex, JE (cxComp X N scope C s₀ H₀ ex) e te)
    (hs : ∀ x, foldedSetIterable it X.env x = pure x := by intro _; rfl) :
    JE X (.ListComp e [⟨tg, it, ifs, 0⟩] scope pos) (fun σ H Q => tComp cap wi g tA te (fun D H' => Q (.ref D) H') σ H) :=
  .mk (pe_comp hc S hi.out (fun C s₀ H₀ ex => (hg C s₀ H₀ ex).out) (fun C s₀ H₀ ex => (ht C s₀ H₀ ex).out) (fun C s₀ H₀ ex => (he C s₀ H₀ ex).out) hs)
theorem js_comp {N : List Str} {cap : List (Option Nat)} {scope : Scope} {ifs : List Expr} {wi : TI} {g : TG} {i : Nat} {x : Str} (hc : X.calm = true) (S : CompScope X N cap scope) (hi : JI X tg it wi)
    (hg : ∀ C s₀ H₀ ex, JG (cxComp X N scope C s₀ H₀ ex) tg g) (ht : ∀ C s₀ H₀ ex, JTs (cxComp X N scope C s₀ H₀ ex) ifs tA) (he : ∀ C s₀ H₀ ex, JE (cxComp X N scope C s₀ H₀ ex) e te)
    (hN : X.N.Nodup) (hix : X.N[i]? = some x) (hx : X.env.scope.names.lookup x = some .local) (hsw : swapsWith (.ListComp e [⟨tg, it, ifs, 0⟩] scope pos) (some (.Name x pos')) spos.line X.env = pure true := by rfl)
    (hs : ∀ x, foldedSetIterable it X.env x = pure x := by intro _; rfl) :
    JS X (.Assign [.Name x pos'] (.ListComp e [⟨tg, it, ifs, 0⟩] scope pos) spos) (fun D σ H => tComp cap wi g tA te (fun d H' => D.nx (σ.set i (some (.ref d))) H') σ H) :=
  .mk (ps_comp hc S hi.out (fun C s₀ H₀ ex => (hg C s₀ H₀ ex).out) (fun C s₀ H₀ ex => (ht C s₀ H₀ ex).out) (fun C s₀ H₀ ex => (he C s₀ H₀ ex).out) hN hix hx hsw hs)

theorem jss_nil : JSs X [] tNext := .mk pss_nil
theorem jss_cons (h1 : JS X st u) (h2 : JSs X sts u') : JSs X (st :: sts) (tSeq u u') := .mk (pss_cons h1.out h2.out)
theorem jss_one (h1 : JS X st u) : JSs X [st] u := .mk (pss_one h1.out)
theorem js_set {i : Nat} {x : Str} (hN : X.N.Nodup) (hi : X.N[i]? = some x) (hx : Loc X.env.scope x) (he : JE X e te) (hs : swapsWith e (some (.Name x pos')) pos.line X.env = pure false := by rfl) (hf : X.fn x = true ∨ X.env.scope.names.lookup x = some .local := by first | exact .inl rfl | exact .inr rfl | assumption) :
    JS X (.Assign [.Name x pos'] e pos) (tAsg te (gName i)) := .mk (ps_set hN hi hx he.out hs hf)
theorem js_asg {g : TG} (he : JE X e te) (hg : JG X tg g) (hs : swapsWithSole [tg] e pos.line X.env = pure false := by rfl) (hw : swappedStores [tg] e X.env = pure none := by rfl)
    (h1 : (assignEach [tg] X.env).map (·.2) = [assign tg X.env] := by rfl) : JS X (.Assign [tg] e pos) (tAsg te g) := .mk (ps_asg he.out hg.out hs hw h1)
theorem js_if (hc : JT X c tA) (ha : JSs X sts u) (hb : JSs X sts' u') : JS X (.If c sts sts' pos) (tIfS tA u u') := .mk (ps_if hc.out ha.out hb.out)
theorem js_ret (he : JE X e te) : JS X (.Return (some e) pos) (tRet te) := .mk (ps_ret he.out)
theorem js_expr (he : JE X e te) (hs : swapsWith e none pos.line X.env = pure false := by rfl) : JS X (.Expr e pos) (tDrop te) := .mk (ps_expr he.out hs)
theorem js_while (hp : PassesOwn (model X.prog X.w) X.A X.env X.xe) (hc : JT X c tA) (hb : JSs X sts u) : JS X (.While c sts [] pos) (tWhile tA u) := .mk (ps_while hp hc.out hb.out)
theorem js_for {wi : TI} {g : TG} (hp : PassesOwn (model X.prog X.w) X.A X.env X.xe) (hc : X.calm = true) (hi : JI X tg it wi) (hg : JG X tg g) (hb : JSs X sts u)
    (hs : ∀ x, foldedSetIterable it X.env x = pure x := by intro _; rfl) : JS X (.For tg it sts [] pos) (tFor wi g u) := .mk (ps_for hp hc hi.out hg.out hb.out hs)
end
theorem Raw.defJ {P : Program} {w : World} {K : PySem.W.Frag} {mg : Str → Option Value} {base : Heap} {x : Str} {st : Stmt} {N ps : List Str} {k : Nat} {sp : Sp} (R : Raw K mg x st ps) (S : FnScope N ps (defScope st)) (len : ∀ vs H Q E, sp vs H Q E → vs.length = ps.length)
    (hbody : ∀ (f : Addr) (cdv : Value) (A : Around) (outer : List Env) (s : Shared) (H : Hp) (vs : List V) (Q : VK) (E : XK), Room k (A.deeper (envOfC x (defScope st) s.heap.objs.size f cdv)) → sp vs H Q E →
      ∃ t, JSs (cxOf CX0 P w K mg base N x (defScope st) f cdv A outer s H E).nox (defBody st) t ∧ t { nx := fun _ H' => Q .non H', rt := Q } (start N vs) H) : Def P w K mg base (k + 1) x ps sp :=
  R.def S len fun f cdv A outer s H vs Q E hr h => let ⟨t, h1, h2⟩ := hbody f cdv A outer s H vs Q E hr h; ⟨t, h1.out, h2⟩
end L2

namespace L2
open PySem PySem.Spec PyProof.Rows
inductive TyD (K : PySem.W.Frag) (H : Hp) : V → String → Prop where
  | non : TyD K H .non "NoneType"
  | bl (x : Bool) : TyD K H (.bl x) "bool"
  | int (i : Int) : TyD K H (.int i) "int"
  | str (x : Str) : TyD K H (.str x) "str"
  | list {a : Addr} {xs : List V} (e : SqL K H a xs) : TyD K H (.ref a) "list"
  | tuple {a : Addr} {xs : List V} (e : SqT K H a xs) : TyD K H (.ref a) "tuple"
theorem isinst_okD {X : Cx} {pins : List (Addr × Obj)} {σ : St} {H : Hp} {s : Shared} {A : Around} {E : Value → Shared → Prop} {Q : Value → Shared → Prop} {c : Value} {b : Bool} {x : V} {u : Value} {t : String} (I : Inv X pins σ H s) (rx : RelV x u) (ty : TyD X.K H x t) (e : PySem.W.kitOne X.K (.type t) c = some b) (h : ∀ tk, Q (.bool b) { s with toks := tk }) :
    wpAny (model X.prog X.w) A (call (.builtin "isinstance") [u, c]) Q E s := by
  cases ty with
  | non => exact isinst_ok I rx .non e h
  | bl y => exact isinst_ok I rx (.bl y) e h
  | int i => exact isinst_ok I rx (.int i) e h
  | str y => exact isinst_ok I rx (.str y) e h
  | @list a xs ea =>
    cases (show u = Value.ref a from rx)
    obtain ⟨its, rv, ⟨o, n, h1, h2, h3, h4⟩, hz⟩ := I.list ea
    exact PySem.W.kia_one PySem.W.kitx_list I.kIn ⟨o, h1, h2⟩ e (fun z => nomatch z) h
  | @tuple a xs ea =>
    cases (show u = Value.ref a from rx)
    obtain ⟨its, rv, ⟨o, h1, h2, n, h4⟩, hz⟩ := I.tuple ea
    exact PySem.W.kia_one PySem.W.kitx_tuple I.kIn ⟨o, h1, h2⟩ e (fun z => nomatch z) h
def gIsi (K : PySem.W.Frag) : List V → Hp → VK → Prop := fun xs H Q => match xs with
  | [x, .ty Tn] => ∃ ty b, TyD K H x ty ∧ PySem.W.kitOne K (.type ty) (.type Tn) = some b ∧ Q (.bl b) H
  | _ => False
theorem c_isiD {X : Cx} {K : PySem.W.Frag} (hK : X.K = K := by rfl) : Irr (CallR X (.builtin "isinstance") (gIsi K)) := by
  refine .mk ?_
  subst hK
  intro pins s σ H xs us Q I r h
  unfold gIsi at h
  split at h
  · obtain ⟨ty, b, h1, h2, q⟩ := h
    obtain ⟨u, w', rfl, r1, r2⟩ := vals2 r
    cases r2
    exact isinst_okD I r1 h1 h2 fun tk => ⟨.bl b, H, I.tok tk, rfl, q⟩
  · exact h.elim
end L2

set_option Elab.async false
set_option linter.all false
set_option maxRecDepth 100000
set_option maxHeartbeats 4000000
namespace L2
open PySem PySem.Spec PyProof.Rows

abbrev anyHO : HO := .ext fun _ => True
def Kn (H : Hp) (a : Addr) (o : Obj) : Prop := H a = some (.frz o anyHO)
theorem Kn.get {P : Program} {w : World} {H : Hp} {h : Heap} {a : Addr} {o : Obj} (k : Kn H a o) (x : HOk P w H h) : h.get? a = some o := (x a _ k).1
section
variable {P : Program} {w : World} {H H' : Hp} {h h' : Heap} {cs fs : List Addr}
end

structure CloScope (ps ls fr : List Str) (sc : Scope) : Prop where
  kind : sc.kind = .function
  co : sc.isCoroutine = false
  gen : sc.isGenerator = false
  nd : (ps ++ ls ++ fr).Nodup
  par : ∀ x ∈ ps, sc.names.lookup x = some .local
  nocell : ∀ y ∈ sc.names, y.2 ≠ .cell
  fre : ∀ x ∈ fr, sc.names.lookup x = some .free
  all : ∀ y ∈ sc.names, y.2 = .free → y.1 ∈ fr
structure Made (H : Hp) (f : Addr) (name qual : Str) (st : Stmt) (cl : List (Str × Addr)) : Prop where
  ex : ∃ (doc pm : Value) (c' : Addr) (ctv : Value) (oc : Obj) (vs : Array Value) (t : Tok), Kn H f (PySem.W.fnMade name qual (defArgs st) (defBody st) (defScope st) cl doc pm c' ctv) ∧ Kn H c' oc ∧ oc.data = .fields vs ∧ vs[1]? = some (.str qual t)
structure CloAt (H : Hp) (f : Addr) (name qual : Str) (st : Stmt) (fr : List Str) (cs : List Addr) (ws : List V) : Prop where
  ex : ∃ cl, Made H f name qual st cl ∧ (∀ x c, cl.lookup x = some c → ∃ j : Nat, fr[j]? = some x ∧ cs[j]? = some c) ∧ ∀ (j : Nat) x, fr[j]? = some x → ∃ c, cl.lookup x = some c ∧ cs[j]? = some c
  cells : ∀ (j : Nat) x, ws[j]? = some x → ∃ c o u, cs[j]? = some c ∧ Kn H c o ∧ o.data = .cell (some u) ∧ RelV x u
  l1 : cs.length = fr.length
  l2 : ws.length = fr.length
  nd : cs.Nodup
theorem CloAt.same {H H' : Hp} {f : Addr} {name qual : Str} {st : Stmt} {fr : List Str} {cs : List Addr} {ws : List V} (C : CloAt H f name qual st fr cs ws) (h : ∀ b o, Kn H b o → Kn H' b o) : CloAt H' f name qual st fr cs ws := by
  obtain ⟨cl, ⟨doc, pm, c', ctv, oc, vs, t, h1, h2, h3, h4⟩, h5, h6⟩ := C.ex
  refine ⟨⟨cl, ⟨doc, pm, c', ctv, oc, vs, t, h _ _ h1, h _ _ h2, h3, h4⟩, h5, h6⟩, fun j x e => ?_, C.l1, C.l2, C.nd⟩
  obtain ⟨c, o, u, q1, q2, q3, q4⟩ := C.cells j x e
  exact ⟨c, o, u, q1, h _ _ q2, q3, q4⟩

end L2

set_option Elab.async false
set_option linter.all false
set_option maxRecDepth 100000
set_option maxHeartbeats 4000000
namespace L2
open PySem PySem.Spec PyProof.Rows

structure FnV (P : Program) (w : World) (K : PySem.W.Frag) (mg : Str → Option Value) (base : Heap) (k : Nat) (f : Addr) (sp : Sp) : Prop where
  fn : ∀ vs H Q E, sp vs H Q E → ∃ oc od fd sl, Kn H f ⟨oc, od, .func fd, sl⟩
  run : ∀ (A : Around) (outer : List Env) (s : Shared) (H : Hp) (us : List Value) (vs : List V) (Q : VK) (E : XK), Room k A → Env0 P w K mg base A outer s H → Vals vs us → sp vs H Q E →
    codeAny (model P w) A (.call (.ref f) ⟨us, []⟩) (CR CX0 outer P w H s Q E) s
section
variable {X : Cx} {e : Expr} {es : List Expr} {t : TA} {p pos : Pos}
end

structure TabOk (H : Hp) (Pt : Addr) (qs : List (Pos × Str)) : Prop where
  ex : ∃ l : List (Pos × Addr), H Pt = some (.tbl (triples l).toArray) ∧ ∀ q ∈ l, ∃ qual oc vs t, (q.1, qual) ∈ qs ∧ Kn H q.2 oc ∧ oc.data = .fields vs ∧ vs[1]? = some (.str qual t)
theorem TabOk.same {H H' : Hp} {Pt : Addr} {qs : List (Pos × Str)} (T : TabOk H Pt qs) (h1 : H' Pt = H Pt) (h2 : ∀ b o, Kn H b o → Kn H' b o) : TabOk H' Pt qs := by
  obtain ⟨l, e, h⟩ := T.ex
  refine ⟨l, h1.trans e, fun q m => ?_⟩
  obtain ⟨qual, oc, vs, t, a, b, c⟩ := h q m
  exact ⟨qual, oc, vs, t, a, h2 _ _ b, c⟩
def SmB (Pt : Addr) (H H' : Hp) : Prop := ∀ b u, b ≠ Pt → H b = some u → H' b = some u
section
variable {X : Cx}
end
end L2

set_option Elab.async false
set_option linter.all false
set_option maxRecDepth 100000
set_option maxHeartbeats 4000000
namespace L2
open PySem PySem.Spec PyProof.Rows

structure Froz (env : Env) (N : List Str) (σ : St) (fr : List Str) (cs : List Addr) (os : List Obj) : Prop where
  l1 : cs.length = fr.length
  l2 : os.length = fr.length
  at_ : ∀ (j : Nat) x, fr[j]? = some x → ∃ (c : Addr) (o : Obj) (i : Nat) (v : V) (u : Value), cs[j]? = some c ∧ os[j]? = some o ∧ env.cells.lookup x = some c ∧ N[i]? = some x ∧ σ[i]? = some (some v) ∧ o.data = .cell (some u) ∧ RelV v u
  nd : cs.Nodup
section
variable {X : Cx} {e : Expr} {es : List Expr} {t : TA} {p pos : Pos}
end
structure Only2 (ts : List (Addr × Addr)) (H : Hp) : Prop where
  tabs : ∀ q ∈ ts, H q.2 = some (.tbl #[])
  rest : ∀ b, H b = none ∨ (∃ q ∈ ts, q.2 = b) ∨ ∃ o xs, H b = some (.frz o (.lst xs))
end L2

set_option Elab.async false
set_option linter.all false
set_option maxRecDepth 100000
set_option maxHeartbeats 4000000
namespace L2
open PySem PySem.Spec PyProof.Rows
section
variable {X : Cx} {e a : Expr} {es : List Expr} {t : TA} {ta te : TE} {p pos : Pos} {K : PySem.W.Frag}

def mNeg (ta : TE) : TE := fun σ H Q => ta σ H fun x H1 => match x with
  | .int i => Q (.int (-i)) H1
  | _ => False
theorem j_neg (ha : JE X a ta) : JE X (.UnaryOp .USub a pos) (mNeg ta) := by
  refine .mk ?_
  have h := pe_un (pos := pos) un_neg ha.out
  intro pins s σ H Q I q
  refine h pins s σ H Q I ?_
  unfold mNeg at q
  unfold tUn
  refine cast (congrArg (ta σ H) ?_) q
  funext x H1
  refine propext ⟨fun z => ?_, fun z => ?_⟩
  · split at z
    · exact ⟨_, rfl, z⟩
    · exact z.elim
  · obtain ⟨i, rfl, z⟩ := z
    exact z

end

structure FunC (K : PySem.W.Frag) (x : Str) (st : Stmt) (f : Addr) (fd : FuncData) (c : Addr) : Prop where
  ex : ∃ (oc : Value) (od : Option Addr) (kV doc pm : Value) (an : Option Addr) (ct : Value) (osl : Array (Option Value)),
    fd = PySem.W.fnOf x x (defArgs st) (defBody st) (defScope st) .none kV doc pm an (.ref c) ct ∧ K.lookup f = some ⟨oc, od, .func fd, osl⟩ ∧ PySem.W.codeIn K (.ref c) x = true
  kp : PySem.W.keepIn K (.ref f) = true
structure RawC (K : PySem.W.Frag) (mg : Str → Option Value) (x : Str) (st : Stmt) (ps : List Str) (c Pt : Addr) : Prop where
  ex : ∃ f fd, mg x = some (.ref f) ∧ FunC K x st f fd c ∧ ∀ (us : List Value), us.length = ps.length → bindArgs fd ⟨us, []⟩ = pure (ps.zip us)
  hd : PySem.W.codeHdIn K c Pt = true
theorem RawC.mk' {K : PySem.W.Frag} {mg : Str → Option Value} {h : Heap} {x : Str} {st : Stmt} {ps : List Str} {f c Pt : Addr} {oc : Value} {od an : Option Addr} {osl : Array (Option Value)} {kV doc pm ct : Value} (X : K.In h) (G : h.Ns mainGlobals mg)
    (a : PySem.W.nsIn K mainGlobals x = some (some (.ref f))) (l : K.lookup f = some ⟨oc, od, .func (PySem.W.fnOf x x (defArgs st) (defBody st) (defScope st) .none kV doc pm an (.ref c) ct), osl⟩)
    (cd : PySem.W.codeIn K (.ref c) x = true) (k : PySem.W.keepIn K (.ref f) = true) (hd : PySem.W.codeHdIn K c Pt = true)
    (hb : ∀ (us : List Value), us.length = ps.length → bindArgs (PySem.W.fnOf x x (defArgs st) (defBody st) (defScope st) .none kV doc pm an (.ref c) ct) ⟨us, []⟩ = pure (ps.zip us)) : RawC K mg x st ps c Pt :=
  ⟨⟨f, _, PySem.W.mg_of X G a, ⟨⟨oc, od, kV, doc, pm, an, ct, osl, rfl, l, cd⟩, k⟩, hb⟩, hd⟩
theorem FunC.lk {K : PySem.W.Frag} {x : Str} {st : Stmt} {f c : Addr} {fd : FuncData} (F : FunC K x st f fd c) : ∃ oc od osl, K.lookup f = some ⟨oc, od, .func fd, osl⟩ := by
  obtain ⟨oc, od, kV, doc, pm, an, ct, osl, _, lk, _⟩ := F.ex
  exact ⟨oc, od, osl, lk⟩
theorem RawC.defJ {P : Program} {w : World} {K : PySem.W.Frag} {mg : Str → Option Value} {base : Heap} {x : Str} {st : Stmt} {N ps : List Str} {k : Nat} {sp : Sp} {c Pt : Addr} (R : RawC K mg x st ps c Pt) (S : FnScope N ps (defScope st)) (len : ∀ vs H Q E, sp vs H Q E → vs.length = ps.length)
    (hbody : ∀ (f : Addr) (A : Around) (outer : List Env) (s : Shared) (H : Hp) (vs : List V) (Q : VK) (E : XK), Room k (A.deeper (envOfC x (defScope st) s.heap.objs.size f (.ref c))) → sp vs H Q E →
      ∃ t, JSs (cxOf CX0 P w K mg base N x (defScope st) f (.ref c) A outer s H E).nox (defBody st) t ∧ t { nx := fun _ H' => Q .non H', rt := Q } (start N vs) H) : Def P w K mg base (k + 1) x ps sp := by
  obtain ⟨f, fd, h1, F, b⟩ := R.ex
  have lk := F.lk
  obtain ⟨oc, od, kV, doc, pm, an, ct, osl, rfl, l, hcd⟩ := F.ex
  refine ⟨f, _, h1, F.kp, lk, .all b, fn_of l hcd S len fun A outer s H vs Q E hr hsp => ?_⟩
  obtain ⟨t, h, q⟩ := hbody f A outer s H vs Q E hr hsp
  exact ⟨t, h.out.nox, q⟩
end L2
namespace L2
open PySem
end L2

set_option Elab.async false
set_option linter.all false
set_option maxRecDepth 100000
set_option maxHeartbeats 4000000
namespace L2
open PySem PySem.Spec PyProof.Rows
section
variable {X : Cx} {e k : Expr} {es : List Expr} {t : TA} {te tk : TE} {p pos p2 : Pos} {K : PySem.W.Frag}
end
end L2

set_option Elab.async false
set_option linter.all false
set_option maxRecDepth 100000
set_option maxHeartbeats 4000000
namespace L2
open PySem PySem.Spec PyProof.Rows

section
variable {prog : Program} {w : World} {A : Around} {E : Value → Shared → Prop} {s : Shared}
def ItAt (t : Bool) (h : Heap) (it a : Addr) (k : Nat) : Prop := match t with
  | true => h.IsTupleIter it a k
  | false => h.IsListIter it a k
def SrcAt (t : Bool) (h : Heap) (a : Addr) (xs : Array Value) : Prop := match t with
  | true => h.IsTuple a xs
  | false => h.IsList a xs
def itCls (t : Bool) : String := match t with
  | true => "tuple_iterator"
  | false => "list_iterator"
theorem ItAt.at {t : Bool} {h h' : Heap} {it a : Addr} {k : Nat} (x : ItAt t h it a k) (e : ∀ o, h.get? it = some o → h'.get? it = some o) : ItAt t h' it a k := by
  cases t with
  | true => obtain ⟨o, ho, r⟩ := x; exact ⟨o, e o ho, r⟩
  | false => obtain ⟨o, ho, r⟩ := x; exact ⟨o, e o ho, r⟩
theorem ItAt.obj {t : Bool} {h : Heap} {it a : Addr} {k : Nat} (x : ItAt t h it a k) : ∃ o, h.get? it = some o ∧ ∀ v, o.data ≠ .cell v := by
  cases t with
  | true => obtain ⟨o, ho, _, d⟩ := x; exact ⟨o, ho, fun v z => by rw [d] at z; cases z⟩
  | false => obtain ⟨o, ho, _, d⟩ := x; exact ⟨o, ho, fun v z => by rw [d] at z; cases z⟩
theorem SrcAt.at {t : Bool} {h h' : Heap} {a : Addr} {xs : Array Value} (x : SrcAt t h a xs) (e : ∀ o, h.get? a = some o → h'.get? a = some o) : SrcAt t h' a xs := by
  cases t with
  | true => obtain ⟨o, ho, r⟩ := x; exact ⟨o, e o ho, r⟩
  | false => obtain ⟨o, ho, r⟩ := x; exact ⟨o, e o ho, r⟩
theorem SrcAt.lt {t : Bool} {h : Heap} {a : Addr} {xs : Array Value} (x : SrcAt t h a xs) : a < h.objs.size := by
  cases t with
  | true => obtain ⟨o, ho, _⟩ := x; exact Heap.lt_size ho
  | false => obtain ⟨o, ho, _⟩ := x; exact Heap.lt_size ho
theorem ItAt.new {t : Bool} {h : Heap} {it a : Addr} (e : h.get? it = some { cls := .type (itCls t), data := .fields #[.ref a, .int 0 0] }) : ItAt t h it a 0 := by
  cases t with
  | true => exact ⟨_, e, rfl, rfl⟩
  | false => exact ⟨_, e, rfl, rfl⟩

end

end L2

set_option Elab.async false
set_option linter.all false
set_option maxRecDepth 100000
set_option maxHeartbeats 4000000
namespace L2
open PySem PySem.Spec PyProof.Rows
section
variable {prog : Program} {w : World} {A : Around} {E : Value → Shared → Prop} {s : Shared}
end

section
variable {X : Cx} {K : PySem.W.Frag}
end
end L2

namespace Rg

def joinWith (sep : List Nat) : List (List Nat) → List Nat
  | [] => []
  | [p] => p
  | p :: q :: r => p ++ sep ++ joinWith sep (q :: r)
def okSign (c : Nat) : Prop := (32 ≤ c ∧ c ≤ 126 ∧ c ≠ 37) ∨ c = 10
end Rg

set_option linter.all false
namespace Rg
open PySem PySem.Builtin PySem.Builtin.Str

abbrev S (l : List Nat) : Str := ⟨l.toArray⟩
theorem S_app (a b : List Nat) : S a ++ S b = S (a ++ b) := Str.ext' (by rw [Str.cps_append]; simp)
theorem S_len (a : List Nat) : (S a).length = a.length := by simp [Str.length]
theorem join_S (sep : List Nat) : ∀ ps : List (List Nat), Str.join (S sep) (ps.map S) = S (joinWith sep ps)
  | [] => rfl
  | [p] => rfl
  | p :: q :: r => by
    show S p ++ S sep ++ Str.join (S sep) ((q :: r).map S) = _
    rw [join_S sep (q :: r), S_app, S_app]
    rfl
theorem txtJoin_S (sep : List Nat) (ps : List (List Nat)) : Txt.join (S sep) (ps.map S) = S (joinWith sep ps) := by
  unfold Txt.join
  rw [StrLaws.glued_eq_join, join_S]

end Rg

namespace Rg

structure Prt where
  d : Nat
  m : Nat
  l : List Nat
def tl (d : Nat) (sg : List Nat) (k c : Nat) : Bool := if d = 2 then sg[k]? == some c else if d = 0 then decide (c ∈ sg) else !decide (c ∈ sg)
def runA (t : Nat → Nat → Bool) : Nat → List Nat → Nat
  | _, [] => 0
  | k, c :: r => if t k c then runA t (k + 1) r + 1 else 0
theorem runA_le (t : Nat → Nat → Bool) : ∀ (k : Nat) (l : List Nat), runA t k l ≤ l.length
  | _, [] => Nat.le_refl _
  | k, c :: r => by
    unfold runA
    split
    · have := runA_le t (k + 1) r
      simp; omega
    · exact Nat.zero_le _
def mostN (p : Prt) (left : Nat) : Nat := if p.d = 2 then p.l.length else if p.m = 2 ∨ p.m = 3 then left + 1 else 1
def stN (p : Prt) (l : List Nat) (pl : Nat) : Nat := min (mostN p (l.length - pl)) (runA (tl p.d p.l) 0 (l.drop pl))
def lkN (p : Prt) (l : List Nat) (pl : Nat) : Nat := min (stN p l pl + 1) (mostN p (l.length - pl))
def holdsN (p : Prt) (st : Nat) : Bool := if p.m = 1 ∨ p.m = 3 then true else decide ((if p.d = 2 then p.l.length else 1) ≤ st) == decide (p.m ≠ 5)
def nextN (p : Prt) (l : List Nat) (pl : Nat) : Nat := if p.m = 4 ∨ p.m = 5 then pl else pl + stN p l pl
def goF (l : List Nat) (at_ : Nat) : List Prt → Nat → Nat → Nat × Nat
  | [], pl, lk => (pl - at_, lk)
  | p :: ps, pl, lk => if holdsN p (stN p l pl) then goF l at_ ps (nextN p l pl) (max lk (pl - at_ + lkN p l pl)) else (0, max lk (pl - at_ + lkN p l pl))
def takeF (ps : List Prt) (l : List Nat) (at_ : Nat) : Nat × Nat := goF l at_ ps at_ 0
theorem stN_le (p : Prt) (l : List Nat) (pl : Nat) : stN p l pl ≤ l.length - pl := by
  unfold stN
  have := runA_le (tl p.d p.l) 0 (l.drop pl)
  rw [List.length_drop] at this
  omega
theorem lkN_le (p : Prt) (l : List Nat) (pl : Nat) : lkN p l pl ≤ l.length - pl + 1 := by
  have := stN_le p l pl
  unfold lkN
  omega
theorem stN_lk (p : Prt) (l : List Nat) (pl : Nat) : stN p l pl ≤ lkN p l pl := by
  unfold lkN stN
  omega
theorem nextN_le {p : Prt} {l : List Nat} {pl : Nat} (h : pl ≤ l.length) : pl ≤ nextN p l pl ∧ nextN p l pl ≤ l.length := by
  have := stN_le p l pl
  unfold nextN
  split <;> omega
theorem goF_le (l : List Nat) (a : Nat) : ∀ (ps : List Prt) (pl lk : Nat), a ≤ pl → pl ≤ l.length → a + lk ≤ l.length + 1 → a + (goF l a ps pl lk).2 ≤ l.length + 1 ∧ a + (goF l a ps pl lk).1 ≤ l.length
  | [], pl, lk, h1, h2, h3 => by
    show a + lk ≤ _ ∧ a + (pl - a) ≤ _
    omega
  | p :: ps, pl, lk, h1, h2, h3 => by
    have hl := lkN_le p l pl
    have hn := nextN_le (p := p) h2
    unfold goF
    split
    · exact goF_le l a ps _ _ (by omega) hn.2 (by omega)
    · show a + max lk _ ≤ _ ∧ a + 0 ≤ _
      omega
end Rg

set_option Elab.async false
set_option linter.all false
set_option maxRecDepth 100000
set_option maxHeartbeats 4000000
namespace Rg
open PySem PySem.Spec PyProof.Rows L2

def deedS : Nat → Str
  | 0 => "in"
  | 1 => "out"
  | _ => "row"
def manyS : Nat → Str
  | 0 => "once"
  | 1 => "maybe"
  | 2 => "some"
  | 3 => "any"
  | 4 => "ahead"
  | _ => "not"
structure Prt.Ok (p : Prt) : Prop where
  hd : p.d < 3
  hm : p.m < 6
  row : p.d = 2 → p.m = 0 ∨ p.m = 4 ∨ p.m = 5
  l1 : 1 ≤ p.l.length
  l2 : p.l.length ≤ 100
  ok : ∀ c ∈ p.l, okSign c
def Prt.dat (p : Prt) : PyData := .tuple [.str (deedS p.d), .str (S p.l), .str (manyS p.m)]
theorem big : (1000000 : Nat) < sizeLine := by rw [sizeLine_eq]; decide
theorem dat_part {K : PySem.W.Frag} {H : Hp} {x : V} {p : Prt} (h : DatV K H x p.dat) : ∃ t, x = .ref t ∧ SqT K H t [.str (deedS p.d), .str (S p.l), .str (manyS p.m)] := by
  unfold Prt.dat at h
  cases h with
  | tuple h1 h2 =>
    cases h2 with
    | cons a b =>
      cases a
      cases b with
      | cons a b =>
        cases a
        cases b with
        | cons a b =>
          cases a
          cases b
          exact ⟨_, rfl, h1⟩
theorem dat_list {K : PySem.W.Frag} {H : Hp} {x : V} {ds : List PyData} (h : DatV K H x (.list ds)) : ∃ a xs, x = .ref a ∧ SqL K H a xs ∧ DatVs K H xs ds := by
  cases h with
  | list h1 h2 => exact ⟨_, _, rfl, h1, h2⟩
theorem strOk_S {l : List Nat} (h : ∀ c ∈ l, okSign c) : PyData.strOk (S l) = true := by
  unfold PyData.strOk
  simp
  intro c hc
  have := h c hc
  unfold okSign at this
  omega
def Kp (la : Addr) (H H' : Hp) : Prop := ∀ b u, b ≠ la → H b = some u → H' b = some u
theorem Kp.refl {la : Addr} (H : Hp) : Kp la H H := fun _ _ _ e => e
theorem Kp.trans {la : Addr} {H H1 H2 : Hp} (a : Kp la H H1) (b : Kp la H1 H2) : Kp la H H2 := fun c u n e => b c u n (a c u n e)
theorem Kp.of {la : Addr} {H H' : Hp} (s : Same H H') : Kp la H H' := fun b u _ e => s b u e
theorem Kp.seq {K : PySem.W.Frag} {H H' : Hp} {la a : Addr} {xs : List V} (e : Kp la H H') (hn : a ≠ la) (h : SqL K H a xs) : SqL K H' a xs := by
  rcases h with h | h
  · refine .inl ?_
    rcases h with h | ⟨o, h⟩
    · exact .inl (e _ _ hn h)
    · exact .inr ⟨o, e _ _ hn h⟩
  · exact .inr h
theorem Kp.seqT {K : PySem.W.Frag} {H H' : Hp} {la a : Addr} {xs zs : List V} (e : Kp la H H') (hl : H la = some (.lst zs)) (h : SqT K H a xs) : SqT K H' a xs := by
  rcases h with h | h
  · refine .inl ?_
    rcases h with h | ⟨o, h⟩
    · exact .inl (e _ _ (fun z => by rw [z, hl] at h; cases h) h)
    · exact .inr ⟨o, e _ _ (fun z => by rw [z, hl] at h; cases h) h⟩
  · exact .inr h

structure AskAt (H : Hp) (an aq : Str) (ast : Stmt) (afr : List Str) (f la : Addr) (tx as : List Nat) : Prop where
  clo : ∃ cs, CloAt H f an aq ast afr cs [.ref la, .str (S tx)]
  lst : H la = some (.lst (as.map fun k => V.int (k : Nat)))
theorem AskAt.put {H : Hp} {an aq : Str} {ast : Stmt} {afr : List Str} {f la : Addr} {tx as : List Nat} (h : AskAt H an aq ast afr f la tx as) (as' : List Nat) : Kp la H (upd H la (.lst (as'.map fun k => V.int (k : Nat)))) ∧ AskAt (upd H la (.lst (as'.map fun k => V.int (k : Nat)))) an aq ast afr f la tx as' := by
  refine ⟨fun b u n e => by rw [upd_ne n]; exact e, ?_, upd_same⟩
  obtain ⟨cs, C⟩ := h.clo
  refine ⟨cs, C.same fun b o k => ?_⟩
  have k' : H b = some (.frz o anyHO) := k
  show upd _ _ _ b = _
  rw [upd_ne fun z => by rw [z, h.lst] at k'; cases k']
  exact k
theorem AskAt.mono {H H' : Hp} {an aq : Str} {ast : Stmt} {afr : List Str} {f la : Addr} {tx as : List Nat} (h : AskAt H an aq ast afr f la tx as) (s : Same H H') : AskAt H' an aq ast afr f la tx as := by
  obtain ⟨cs, C⟩ := h.clo
  exact ⟨⟨cs, C.same fun b o k => s b _ k⟩, s _ _ h.lst⟩
theorem AskAt.fn {H : Hp} {an aq : Str} {ast : Stmt} {afr : List Str} {f la : Addr} {tx as : List Nat} (h : AskAt H an aq ast afr f la tx as) : ∃ oc od fd sl, Kn H f ⟨oc, od, .func fd, sl⟩ := by
  obtain ⟨cs, C⟩ := h.clo
  obtain ⟨cl, ⟨doc, pm, c', ctv, oc, vs, t, h1, _⟩, _⟩ := C.ex
  exact ⟨_, _, _, _, h1⟩

def okB (c : Nat) : Bool := (32 ≤ c && c ≤ 126 && c != 37) || c == 10
theorem okB_ok {c : Nat} (h : okB c = true) : okSign c := by
  unfold okB at h
  simp at h
  unfold okSign
  omega
theorem joinOk_of {sep : Str} {texts : List Str} {B : Nat} (hB : ∀ y ∈ texts, y.length ≤ B) (h : texts.length * B + texts.length * sep.length ≤ 16777216) : JoinOk sep texts = true := by
  unfold JoinOk
  rw [Bool.not_eq_true']
  exact StrLaws.joinFits hB h
theorem SmB.trans {Pt : Addr} {H H1 H2 : Hp} (a : SmB Pt H H1) (b : SmB Pt H1 H2) : SmB Pt H H2 := fun c u n e => b c u n (a c u n e)
theorem SmB.of {Pt : Addr} {H H' : Hp} (s : Same H H') : SmB Pt H H' := fun b u _ e => s b u e
theorem SmB.seq {K : PySem.W.Frag} {H H' : Hp} {Pt a : Addr} {xs : List V} {ps : Array Value} (e : SmB Pt H H') (hp : H Pt = some (.tbl ps)) (h : SqL K H a xs) : SqL K H' a xs := by
  rcases h with h | h
  · refine .inl ?_
    rcases h with h | ⟨o, h⟩
    · exact .inl (e _ _ (fun z => by rw [z, hp] at h; cases h) h)
    · exact .inr ⟨o, e _ _ (fun z => by rw [z, hp] at h; cases h) h⟩
  · exact .inr h
theorem TabOk.start {H : Hp} {Pt : Addr} {qs : List (Pos × Str)} (e : H Pt = some (.tbl #[])) : TabOk H Pt qs := ⟨[], e, fun q m => nomatch m⟩

end Rg

set_option Elab.async false
set_option linter.all false
set_option maxRecDepth 100000
set_option maxHeartbeats 4000000
namespace L2
open PySem PySem.Spec PyProof.Rows

def lamArgs (e : Expr) : Arguments := match e with
  | .Lambda a _ _ _ => a
  | _ => { posonlyargs := [], args := [], vararg := none, kwonlyargs := [], kw_defaults := [], kwarg := none, defaults := [] }
def lamBody (e : Expr) : Expr := match e with
  | .Lambda _ b _ _ => b
  | _ => e
def lamScope (e : Expr) : Scope := match e with
  | .Lambda _ _ sc _ => sc
  | _ => { kind := .function, names := [], isGenerator := false, isCoroutine := false }
structure MadeL (H : Hp) (f : Addr) (qual : Str) (le : Expr) (cl : List (Str × Addr)) : Prop where
  ex : ∃ (pm : Value) (c' : Addr) (ctv : Value) (oc : Obj) (vs : Array Value) (t : Tok), Kn H f (PySem.W.kla_obj "<lambda>" qual (lamArgs le) (lamBody le) (lamScope le) cl pm c' ctv) ∧ Kn H c' oc ∧ oc.data = .fields vs ∧ vs[1]? = some (.str qual t)
structure CloAtL (H : Hp) (f : Addr) (qual : Str) (le : Expr) (fr : List Str) (cs : List Addr) (ws : List V) : Prop where
  ex : ∃ cl, MadeL H f qual le cl ∧ (∀ x c, cl.lookup x = some c → ∃ j : Nat, fr[j]? = some x ∧ cs[j]? = some c) ∧ ∀ (j : Nat) x, fr[j]? = some x → ∃ c, cl.lookup x = some c ∧ cs[j]? = some c
  cells : ∀ (j : Nat) x, ws[j]? = some x → ∃ c o u, cs[j]? = some c ∧ Kn H c o ∧ o.data = .cell (some u) ∧ RelV x u
  l1 : cs.length = fr.length
  l2 : ws.length = fr.length
  nd : cs.Nodup
theorem CloAtL.same {H H' : Hp} {f : Addr} {qual : Str} {le : Expr} {fr : List Str} {cs : List Addr} {ws : List V} (C : CloAtL H f qual le fr cs ws) (h : ∀ b o, Kn H b o → Kn H' b o) : CloAtL H' f qual le fr cs ws := by
  obtain ⟨cl, ⟨pm, c', ctv, oc, vs, t, h1, h2, h3, h4⟩, h5, h6⟩ := C.ex
  refine ⟨⟨cl, ⟨pm, c', ctv, oc, vs, t, h _ _ h1, h _ _ h2, h3, h4⟩, h5, h6⟩, fun j x e => ?_, C.l1, C.l2, C.nd⟩
  obtain ⟨c, o, u, q1, q2, q3, q4⟩ := C.cells j x e
  exact ⟨c, o, u, q1, h _ _ q2, q3, q4⟩
theorem CloAtL.fn {H : Hp} {f : Addr} {qual : Str} {le : Expr} {fr : List Str} {cs : List Addr} {ws : List V} (C : CloAtL H f qual le fr cs ws) : ∃ oc od fd sl, Kn H f ⟨oc, od, .func fd, sl⟩ := by
  obtain ⟨cl, ⟨pm, c', ctv, oc, vs, t, h1, _⟩, _⟩ := C.ex
  exact ⟨_, _, _, _, h1⟩
section
variable {X : Cx}
end
end L2

set_option Elab.async false
set_option linter.all false
set_option maxRecDepth 100000
set_option maxHeartbeats 4000000
namespace L2
open PySem PySem.Spec PyProof.Rows
section
variable {X : Cx} {pos : Pos} {K : PySem.W.Frag}
def gSlA (K : PySem.W.Frag) : V → Option Int → Option Int → Hp → VK → Prop := fun x lo hi H Q => match x with
  | .str z => z.length ≤ sizeLine ∧ Q (.str (Txt.slice z lo hi)) H
  | .ref a => (∃ xs, SqL K H a xs ∧ ∀ p, H p = none → Q (.ref p) (upd H p (.lst (cutV xs lo hi)))) ∨ ∃ xs, SqT K H a xs ∧ ¬ (HT.sIx xs.length 0 lo = 0 ∧ HT.sIx xs.length xs.length hi = xs.length) ∧ ∀ p, H p = none → Q (.ref p) (upd H p (.tup (cutV xs lo hi)))
  | _ => False
theorem o_slA (hK : X.K = K := by rfl) : Irr (SlR X (gSlA K)) := by
  refine .mk ?_
  subst hK
  intro pins s σ H x v vl vu lo hi sl Q I rx hs pl pu h
  unfold gSlA at h
  split at h
  · exact sl_str pins s σ H _ v vl vu lo hi sl Q I rx hs pl pu ⟨_, rfl, h.1, h.2⟩
  · rcases h with ⟨xs, h1, h2⟩ | ⟨xs, h1, h2, h3⟩
    · exact sl_list pins s σ H _ v vl vu lo hi sl Q I rx hs pl pu ⟨_, xs, rfl, h1, h2⟩
    · exact sl_tup pins s σ H _ v vl vu lo hi sl Q I rx hs pl pu ⟨_, xs, rfl, h1, h2, h3⟩
  · exact h.elim
end
end L2

set_option Elab.async false
set_option linter.all false
set_option maxRecDepth 100000
set_option maxHeartbeats 4000000
namespace L2
open PySem PySem.Spec PyProof.Rows
section
variable {X : Cx} {a b c e f i o k v value : Expr} {ta tb te td ty tv tx : TE} {K : PySem.W.Frag} {w : World} {pos pos' p2 apos cpos : Pos}
def gIxA (K : PySem.W.Frag) (w : World) : R2 := fun x y H Q => match x, y with
  | .ref q, .int i => (∃ xs v, SqL K H q xs ∧ atI xs i = some v ∧ Q v H) ∨ (∃ xs v, SqT K H q xs ∧ atI xs i = some v ∧ Q v H) ∨ ∃ v, DGet H q (.int i) (some v) ∧ Q v H
  | .str z, .int i => z.length ≤ sizeLine ∧ ∃ c, atI z.cps.toList i = some c ∧ Q (.str ⟨#[c]⟩) H
  | .ref q, .str k => (∃ kvs v, KTab K w q kvs ∧ kvs.lookup k = some v ∧ Q v H) ∨ ∃ v, DGet H q (.str k) (some v) ∧ Q v H
  | .ref q, .ref b => ∃ v, DGet H q (.ref b) (some v) ∧ Q v H
  | _, _ => False
theorem DGet.isD {H : Hp} {a : Addr} {y : V} {r : Option V} (g : DGet H a y r) : IsD H a := by
  rcases g with ⟨kvs, k, h, _⟩ | ⟨kvs, k, b, h, _⟩
  · exact .inl ⟨kvs, h⟩
  · exact .inr ⟨kvs, h⟩
theorem o_ixA (hu : X.A.units + 64 < cLine) (hK : X.K = K := by rfl) (hw : X.w = w := by rfl) : Irr (IxR X (gIxA K w)) := by
  refine .mk ?_
  subst hK
  subst hw
  have dd : ∀ (value slice : Expr) (pins : List (Addr × Obj)) (s : Shared) (σ : St) (H : Hp) (q : Addr) (y z : V) (v u : Value) (Q : VK), Inv X pins σ H s → RelV (.ref q) v → RelV y u → DGet H q y (some z) → Q z H →
      subscripted slice false v u = operate [v, u] (getItem v u) → wpAny (model X.prog X.w) X.A (subscriptTail value slice v u) (EP X pins σ Q) X.xe s := by
    intro value slice pins s σ H q y z v u Q I rx ry g h3 hs
    obtain rfl : v = Value.ref q := rx
    exact tail_any (isD_at I (DGet.isD g)).1 slot_dict_getitem.lookup (d_getItem (by omega) I g ry fun w' s' I' rw' => ⟨z, H, I', rw', h3⟩) hs
  intro value slice pins s σ H x y v u Q I rx ry h hs
  unfold gIxA at h
  split at h
  · rcases h with ⟨xs, z, h1, h2, h3⟩ | ⟨xs, z, h1, h2, h3⟩ | ⟨z, g, h3⟩
    · exact ix_list value slice pins s σ H _ _ v u Q I rx ry ⟨_, xs, _, z, rfl, rfl, h1, h2, h3⟩ hs
    · exact ix_tup value slice pins s σ H _ _ v u Q I rx ry ⟨_, xs, _, z, rfl, rfl, h1, h2, h3⟩ hs
    · exact dd value slice pins s σ H _ _ z v u Q I rx ry g h3 hs
  · obtain ⟨hz, c, h1, h2⟩ := h
    exact ix_str value slice pins s σ H _ _ v u Q I rx ry ⟨_, _, c, rfl, rfl, hz, h1, h2⟩ hs
  · rcases h with ⟨kvs, z, h1, h2, h3⟩ | ⟨z, g, h3⟩
    · exact ix_ktab value slice pins s σ H _ _ v u Q I rx ry ⟨_, kvs, _, z, rfl, rfl, h1, h2, h3⟩ hs
    · exact dd value slice pins s σ H _ _ z v u Q I rx ry g h3 hs
  · obtain ⟨z, g, h3⟩ := h
    exact dd value slice pins s σ H _ _ z v u Q I rx ry g h3 hs
  · exact h.elim
def mDPut (td ty tv : TE) : TS := fun D σ H => tv σ H fun v H1 => td σ H1 fun x H2 => match x with
  | .ref a => ty σ H2 fun y H3 => ∃ H4, DPut H3 a y v H4 ∧ D.nx σ H4
  | _ => False
theorem js_dput (hu : X.A.units + 64 < cLine) (ho : JE X o td) (hi : JE X i ty) (hv : JE X value tv) (hs : swapsWith value (some (.Subscript o i pos')) pos.line X.env = pure false := by rfl) : JS X (.Assign [.Subscript o i pos'] value pos) (mDPut td ty tv) := by
  refine .mk ?_
  intro pins s σ H D I h
  refine wpAny_Assign_Subscript (thn (hv.out pins s σ H _ I h) fun r s1 ⟨v, H1, I1, rv, q1⟩ => thn (ho.out pins s1 σ H1 _ I1 q1) fun u s2 ⟨x, H2, I2, rx, q2⟩ => ?_) hs
  dsimp only at q2
  split at q2
  · rename_i a
    obtain rfl : u = Value.ref a := rx
    refine thn (hi.out pins s2 σ H2 _ I2 q2) fun iv s3 ⟨y, H3, I3, ry, H4, g, q3⟩ => ?_
    exact d_setItem (by omega) I3 g ry rv fun s4 I4 => ⟨σ, H4, I4, q3⟩
  · exact q2.elim
theorem j_dnewK : JE X (.Dict [] [] pos) tDNewK := .mk pe_dnewK
theorem DGet.ik {H : Hp} {a : Addr} {kvs : List (Key × V)} {n : Int} {r : Option V} (e : H a = some (.dK kvs)) (h : valV kvs (Sum.inl n) = r) : DGet H a (.int n) r := .inl ⟨kvs, Sum.inl n, .inl e, rfl, h.symm⟩
theorem IsD.kd {H : Hp} {a : Addr} {kvs : List (Key × V)} (e : H a = some (.dK kvs)) : IsD H a := .inl ⟨kvs, .inl e⟩
theorem IsD.tk {H : Hp} {a : Addr} {kvs : List (List Key × V)} (e : H a = some (.dT kvs)) : IsD H a := .inr ⟨kvs, .inl e⟩
theorem DPut.ik {H : Hp} {a : Addr} {kvs : List (Key × V)} {n : Int} {v : V} (e : H a = some (.dK kvs)) (hl : kvs.length < sizeLine) : DPut H a (.int n) v (upd H a (.dK (putK kvs (Sum.inl n) v))) := .inl ⟨kvs, Sum.inl n, e, rfl, hl, rfl⟩
def gInt : List V → Hp → VK → Prop := fun xs H Q => match xs with
  | [.int i] => Q (.int i) H
  | [.bl b] => Q (.int (if b then 1 else 0)) H
  | _ => False
theorem c_int : Irr (CallR X (.type "int") gInt) := by
  refine .mk ?_
  intro pins s σ H xs us Q I r h
  unfold gInt at h
  split at h
  · exact call_int1 pins s σ H _ us Q I r (.inl ⟨_, rfl, h⟩)
  · exact call_int1 pins s σ H _ us Q I r (.inr ⟨_, rfl, h⟩)
  · exact h.elim
def gTuple (K : PySem.W.Frag) : List V → Hp → VK → Prop := fun xs H Q => match xs with
  | [.ref p] => ∃ ys, (SqL K H p ys ∧ ∀ l, H l = none → Q (.ref l) (upd H l (.tup ys))) ∨ (SqT K H p ys ∧ Q (.ref p) H)
  | _ => False
theorem c_tuple (hK : X.K = K := by rfl) : Irr (CallR X (.type "tuple") (gTuple K)) := by
  refine .mk ?_
  subst hK
  intro pins s σ H xs us Q I r h
  unfold gTuple at h
  split at h
  · obtain ⟨ys, h⟩ := h
    exact call_tuple_of pins s σ H _ us Q I r ⟨_, ys, rfl, h⟩
  · exact h.elim
end
end L2

set_option Elab.async false
set_option linter.all false
set_option maxRecDepth 100000
set_option maxHeartbeats 4000000
namespace L2
open PySem PySem.Spec PyProof.Rows
section
variable {X : Cx} {K : PySem.W.Frag}
def gPop : V → List V → Hp → VK → Prop := fun x vs H Q => match x, vs with
  | .ref l, [] => ∃ xs y, H l = some (.lst xs) ∧ xs[xs.length - 1]? = some y ∧ Q y (upd H l (.lst xs.dropLast))
  | _, _ => False
theorem m_pop : Irr (MtR X "list.pop" gPop) := by
  refine .mk ?_
  intro pins s σ H x xs v us Q I rx rs h
  unfold gPop at h
  split at h
  · obtain ⟨xs, y, h1, h2, h3⟩ := h
    exact mt_pop pins s σ H _ _ v us Q I rx rs ⟨_, xs, y, rfl, rfl, h1, h2, h3⟩
  · exact h.elim
end
end L2

set_option Elab.async false
set_option linter.all false
set_option maxRecDepth 100000
set_option maxHeartbeats 4000000
namespace L2
open PySem PySem.Spec PyProof.Rows
section
variable {X : Cx} {K : PySem.W.Frag}
def gPopAt : V → List V → Hp → VK → Prop := fun x vs H Q => match x, vs with
  | .ref l, [.int i] => ∃ xs k y, H l = some (.lst xs) ∧ -(2 ^ 63) ≤ i ∧ i < 2 ^ 63 ∧ seqIndex? i xs.length = some k ∧ xs[k]? = some y ∧ Q y (upd H l (.lst (xs.eraseIdx k)))
  | _, _ => False
theorem m_popAt : Irr (MtR X "list.pop" gPopAt) := by
  refine .mk ?_
  intro pins s σ H x xs v us Q I rx rs h
  unfold gPopAt at h
  split at h
  · obtain ⟨xs, k, y, h1, h2, h3, h4, h5, h6⟩ := h
    exact mt_popAt pins s σ H _ _ v us Q I rx rs ⟨_, xs, _, k, y, rfl, rfl, h1, h2, h3, h4, h5, h6⟩
  · exact h.elim
end
end L2

set_option Elab.async false
set_option linter.all false
set_option maxRecDepth 100000
set_option maxHeartbeats 4000000
namespace L2
open PySem PySem.Spec PyProof.Rows
namespace FX
end FX
section
variable {prog : Program} {w : World} {A : Around} {E : Value → Shared → Prop} {s : Shared}
end
section
variable {X : Cx} {K : PySem.W.Frag}
end
end L2

set_option Elab.async false
set_option linter.all false
set_option maxRecDepth 100000
set_option maxHeartbeats 4000000
namespace L2
open PySem PySem.Spec PyProof.Rows
section
variable {X : Cx}
def gPow : R2 := fun x y H Q => match x, y with
  | .int i, .int j => CPow i j ∧ Q (.int (i ^ j.toNat)) H
  | _, _ => False
theorem o_pow : Irr (OpR X (binaryOp .Pow) gPow) := by
  refine .mk ?_
  intro pins s σ H x y v u Q I rx ry h
  unfold gPow at h
  split at h
  · exact op_pow pins s σ H _ _ v u Q I rx ry ⟨_, _, rfl, rfl, h.1, h.2⟩
  · exact h.elim
end
end L2

set_option Elab.async false
set_option linter.all false
set_option maxRecDepth 100000
set_option maxHeartbeats 4000000
namespace L2
open PySem PySem.Spec PyProof.Rows
def Itv (K : PySem.W.Frag) (a : Addr) (xs : List V) : It :=
  ⟨fun i H => SqL K H a xs ∧ i < xs.length, fun i H x H' => H' = H ∧ xs[xs.length - 1 - i]? = some x, fun i _ => xs.length ≤ i⟩
theorem turn_rev {P : Program} {w : World} {K : PySem.W.Frag} {tg : Expr} (a it : Addr) (xs : List V) : Turn P w K tg (Itv K a xs) [it] it (fun i h => i ≤ xs.length ∧ h.IsRevIter it a ((xs.length : Int) - 1 - (i : Int))) where
  mem := by simp
  obj := fun i h st b hb => by
    have e : b = it := by simpa using hb
    subst e
    obtain ⟨_, o, e, c, d⟩ := st
    exact ⟨o, e, fun v z => by rw [d] at z; cases z⟩
  keep := fun i h h' st k => ⟨st.1, st.2.at fun o e => k it (by simp) o e⟩
  item := by
    intro X hP hw hK hc i pins s σ H E I hf st hg
    subst hP hw hK
    obtain ⟨hq, hlt⟩ := hg
    obtain ⟨its, rv, p, hz⟩ := I.list hq
    have hx : xs[xs.length - 1 - i]? = some xs[xs.length - 1 - i] := List.getElem?_eq_getElem (by omega)
    obtain ⟨u, hu, ru⟩ := rv.get hx
    obtain ⟨f0, f1, f2, f3, f4, f5⟩ := hf it (by simp)
    have st0 := st.2
    rw [show ((xs.length : Int) - 1 - (i : Int)) = ((xs.length - 1 - i : Nat) : Int) by omega] at st0
    refine wpAny_pyNext_rev_item st0 p.isList (x := u) (by simpa using hu) fun h' st' sb => ?_
    have I1 : Inv X pins σ H { s with heap := h' } := I.turned (t' := s.toks) (fun b o hb e => (sb.2 b hb).trans e) f0 f1 f3 f4 f5
    have st1 : h'.IsRevIter it a ((xs.length : Int) - 1 - ((i + 1 : Nat) : Int)) := by
      rw [show ((xs.length : Int) - 1 - ((i + 1 : Nat) : Int)) = ((xs.length - 1 - i : Nat) : Int) - 1 by omega]
      exact st'
    obtain ⟨o, e, c, d⟩ := id st'
    exact ⟨u, rfl, go_of (s := { s with heap := h' }) e c d (by decide) ⟨_, H, I1, ru, ⟨rfl, hx⟩, ⟨by omega, st1⟩, fun b hb => (hf b hb).1⟩⟩
  done := by
    intro X hP hw hK hc i pins s σ H E I hf st hg
    subst hP hw hK
    obtain ⟨f0, f1, f2, f3, f4, f5⟩ := hf it (by simp)
    have st0 := st.2
    have hle := st.1
    rw [show ((xs.length : Int) - 1 - (i : Int)) = -1 by have : xs.length ≤ i := hg; omega] at st0
    exact wpAny_pyNext_rev_end (I.ok.hd hc) st0 fun h' eb => ⟨rfl, I.turned (t' := s.toks) (fun b o hb e => eb b o hb e) f0 f1 f3 f4 f5⟩
  self := fun _ _ _ _ _ st h => wpAny_pyIter_revIter st.2 h
section
variable {X : Cx} {K : PySem.W.Frag}
def iRev (K : PySem.W.Frag) (ta : TA) : TI := fun σ H R => ta σ H fun vs H1 => match vs with
  | [.ref a] => ∃ xs, SqL K H1 a xs ∧ R (Itv K a xs) H1
  | _ => False
theorem pi_rev {tg a : Expr} {ta : TA} {p pos : Pos} (hg : Gl X "reversed") (hm : X.mg "reversed" = none) (ha : PA X [a] ta) (hK : X.K = K := by rfl) (hs : starEach [a] X.env = [(false, eval a X.env)] := by rfl) :
    PI X tg (.Call (.Name "reversed" p) [a] [] pos) (iRev K ta) := by
  subst hK
  intro pins s σ H R I h
  refine Call_ (ld_blt I hg hm boot_reversed (PyProof.Rows.callWith_type1 (thn (ha pos pins s σ H _ I h) fun us s1 ⟨vs, H1, I1, r1, q1⟩ => ?_) (by rw [hs]; rfl) rfl))
  dsimp only at q1
  split at q1
  · rename_i la
    obtain ⟨u, rfl, r⟩ := vals1 r1
    cases r
    obtain ⟨xs, hx, q⟩ := q1
    obtain ⟨its, rv, p1, _⟩ := I1.list hx
    have l1 := rv.length
    refine call_reversed_list p1.isList ?_
    have st : (s1.heap.push (revObj la ((its.toArray.size : Int) - 1))).IsRevIter s1.heap.objs.size la ((xs.length : Int) - 1 - ((0 : Nat) : Int)) := ⟨_, Heap.get?_push_size _ rfl, rfl, by
      rw [show ((xs.length : Int) - 1 - ((0 : Nat) : Int)) = (its.toArray.size : Int) - 1 by rw [List.size_toArray, l1]; omega]
      rfl⟩
    refine wpAny_pyIter_revIter st ?_
    refine ⟨s1.heap.objs.size, [s1.heap.objs.size], _, _, H1, rfl, I1.kept (t' := s1.toks) fun b o e => Heap.get?_push_of_some _ e, turn_rev _ _ xs, ⟨Nat.zero_le _, st⟩, fun b hb => ?_, q⟩
    have e : b = s1.heap.objs.size := by simpa using hb
    subst e
    exact I1.fpOk (Nat.le_refl _) (I1.hok.fresh (Nat.le_refl _))
  · exact q1.elim
theorem ji_rev {tg a : Expr} {ta : TA} {p pos : Pos} (hg : Gl X "reversed") (hm : X.mg "reversed" = none) (ha : JA X [a] ta) (hK : X.K = K := by rfl) (h1 : noStar a = true := by rfl) :
    JI X tg (.Call (.Name "reversed" p) [a] [] pos) (iRev K ta) := .mk (pi_rev hg hm ha.out hK (by rw [starEach_cons h1]; rfl))
end
theorem for_rev {K : PySem.W.Frag} {a : Addr} {xs : List V} {g : TG} {tb : TS} {D : Ends} {σ : St} {H : Hp} (Pv : Nat → St → Hp → Prop) (h0 : Pv 0 σ H)
    (hl : ∀ i σ H, i ≤ xs.length → Pv i σ H → SqL K H a xs)
    (hs : ∀ i x σ H, i < xs.length → xs[xs.length - 1 - i]? = some x → Pv i σ H → g x σ H fun σ2 H2 => tb { D with nx := Pv (i + 1), ct := Pv (i + 1), bk := D.nx } σ2 H2) (hd : ∀ σ H, Pv xs.length σ H → D.nx σ H) :
    ∃ W : Nat → Nat → St → Hp → Prop, (∃ m, W 0 m σ H) ∧ ∀ i m σ H, W i m σ H →
      ((Itv K a xs).stop i H ∧ D.nx σ H) ∨ ((Itv K a xs).go i H ∧ ∃ N : St → Hp → Prop, (∀ σ' H', N σ' H' → ∃ m', m' < m ∧ W (i + 1) m' σ' H') ∧ ∀ x H', (Itv K a xs).yld i H x H' → g x σ H' fun σ2 H2 => tb { D with nx := N, ct := N, bk := D.nx } σ2 H2) := by
  refine ⟨fun i m σ H => m = xs.length - i ∧ i ≤ xs.length ∧ Pv i σ H, ⟨xs.length, by simp, Nat.zero_le _, h0⟩, ?_⟩
  rintro i m σ H ⟨rfl, hi, p⟩
  by_cases hlt : i < xs.length
  · refine .inr ⟨⟨hl i σ H hi p, hlt⟩, Pv (i + 1), fun σ' H' p' => ⟨xs.length - (i + 1), by omega, rfl, hlt, p'⟩, fun x H' y => ?_⟩
    obtain ⟨e, y⟩ := y
    subst e
    exact hs i x σ _ hlt y p
  · have e : i = xs.length := by omega
    subst e
    exact .inl ⟨Nat.le_refl _, hd σ H p⟩
end L2

namespace Rg
end Rg

namespace Rg

structure Ent where
  k : List Nat
  f : List Prt
structure Bst where
  k : List Nat
  m : Nat
  lk : Nat
def stepB (l : List Nat) (pl : Nat) (b : Bst) (e : Ent) : Bst :=
  ⟨if b.m < (takeF e.f l pl).1 then e.k else b.k, max b.m (takeF e.f l pl).1, max b.lk (takeF e.f l pl).2⟩
def bestG (b : Bst) (es : List Ent) (l : List Nat) (pl : Nat) : Bst := es.foldl (stepB l pl) b
def bestF (es : List Ent) (l : List Nat) (pl : Nat) : Bst := bestG ⟨[], 0, 1⟩ es l pl
theorem bestG_cons (b : Bst) (e : Ent) (es : List Ent) (l : List Nat) (pl : Nat) : bestG b (e :: es) l pl = bestG (stepB l pl b e) es l pl := rfl
theorem takeF_le {ps : List Prt} {l : List Nat} {pl : Nat} (h : pl ≤ l.length) : pl + (takeF ps l pl).2 ≤ l.length + 1 ∧ pl + (takeF ps l pl).1 ≤ l.length :=
  goF_le l pl ps pl 0 (Nat.le_refl _) h (by omega)
theorem goF_fst (l : List Nat) (a : Nat) : ∀ (ps : List Prt) (pl lk : Nat), a ≤ pl → pl - a ≤ lk → (goF l a ps pl lk).1 ≤ (goF l a ps pl lk).2
  | [], pl, lk, h1, h2 => h2
  | p :: ps, pl, lk, h1, h2 => by
    have hst := stN_lk p l pl
    unfold goF
    split
    · refine goF_fst l a ps _ _ ?_ ?_
      · unfold nextN; split <;> omega
      · unfold nextN; split <;> omega
    · exact Nat.zero_le _
theorem takeF_fst (ps : List Prt) (l : List Nat) (pl : Nat) : (takeF ps l pl).1 ≤ (takeF ps l pl).2 := goF_fst l pl ps pl 0 (Nat.le_refl _) (by omega)
theorem bestG_grow : ∀ (es : List Ent) (b : Bst) (l : List Nat) (pl : Nat), b.m ≤ (bestG b es l pl).m ∧ b.lk ≤ (bestG b es l pl).lk
  | [], b, l, pl => ⟨Nat.le_refl _, Nat.le_refl _⟩
  | e :: es, b, l, pl => by
    have ih := bestG_grow es (stepB l pl b e) l pl
    rw [bestG_cons]
    unfold stepB at ih ⊢
    dsimp only at ih ⊢
    omega
theorem bestG_le : ∀ (es : List Ent) (b : Bst) (l : List Nat) (pl : Nat), pl ≤ l.length → pl + b.m ≤ l.length → pl + b.lk ≤ l.length + 1 → pl + (bestG b es l pl).m ≤ l.length ∧ pl + (bestG b es l pl).lk ≤ l.length + 1
  | [], b, l, pl, h, h1, h2 => ⟨h1, h2⟩
  | e :: es, b, l, pl, h, h1, h2 => by
    have := takeF_le (ps := e.f) h
    rw [bestG_cons]
    refine bestG_le es _ l pl h ?_ ?_
    · unfold stepB; dsimp only; omega
    · unfold stepB; dsimp only; omega
theorem bestG_fst : ∀ (es : List Ent) (b : Bst) (l : List Nat) (pl : Nat), b.m ≤ b.lk → (bestG b es l pl).m ≤ (bestG b es l pl).lk
  | [], b, l, pl, h => h
  | e :: es, b, l, pl, h => by
    have := takeF_fst e.f l pl
    rw [bestG_cons]
    refine bestG_fst es _ l pl ?_
    unfold stepB; dsimp only; omega
theorem bestF_le {es : List Ent} {l : List Nat} {pl : Nat} (h : pl ≤ l.length) : pl + (bestF es l pl).m ≤ l.length ∧ pl + (bestF es l pl).lk ≤ l.length + 1 := bestG_le es _ l pl h (by simp; omega) (by simp; omega)
theorem bestF_lk (es : List Ent) (l : List Nat) (pl : Nat) : 1 ≤ (bestF es l pl).lk := (bestG_grow es ⟨[], 0, 1⟩ l pl).2
theorem bestF_fst (es : List Ent) (l : List Nat) (pl : Nat) : (bestF es l pl).m ≤ (bestF es l pl).lk := bestG_fst es _ l pl (by simp)

def gapGo (gs : List Ent) (l : List Nat) (at_ g k : Nat) : Nat × Nat :=
  if h : 0 < (bestF gs l (at_ + g)).m ∧ at_ + g + (bestF gs l (at_ + g)).m ≤ l.length then gapGo gs l at_ (g + (bestF gs l (at_ + g)).m) (max k (g + (bestF gs l (at_ + g)).lk))
  else (g, max k (g + (bestF gs l (at_ + g)).lk))
termination_by l.length - (at_ + g)
decreasing_by omega
theorem gapGo_go {gs : List Ent} {l : List Nat} {at_ g k : Nat} (hg : at_ + g ≤ l.length) (h : 0 < (bestF gs l (at_ + g)).m) : gapGo gs l at_ g k = gapGo gs l at_ (g + (bestF gs l (at_ + g)).m) (max k (g + (bestF gs l (at_ + g)).lk)) := by
  rw [gapGo, dif_pos ⟨h, (bestF_le hg).1⟩]
theorem gapGo_end {gs : List Ent} {l : List Nat} {at_ g k : Nat} (h : ¬ 0 < (bestF gs l (at_ + g)).m) : gapGo gs l at_ g k = (g, max k (g + (bestF gs l (at_ + g)).lk)) := by
  rw [gapGo, dif_neg fun z => h z.1]
theorem gapGo_le (gs : List Ent) (l : List Nat) (at_ : Nat) : ∀ (n g k : Nat), l.length - (at_ + g) ≤ n → at_ + g ≤ l.length → at_ + k ≤ l.length + 1 →
    g ≤ (gapGo gs l at_ g k).1 ∧ at_ + (gapGo gs l at_ g k).1 ≤ l.length ∧ k ≤ (gapGo gs l at_ g k).2 ∧ (gapGo gs l at_ g k).1 + 1 ≤ (gapGo gs l at_ g k).2 ∧ at_ + (gapGo gs l at_ g k).2 ≤ l.length + 1
  | n, g, k, hn, hg, hk => by
    have hb := bestF_le (es := gs) hg
    have h1 := bestF_lk gs l (at_ + g)
    by_cases h : 0 < (bestF gs l (at_ + g)).m
    · rw [gapGo_go hg h]
      match n, hn with
      | 0, hn => omega
      | n + 1, hn =>
        have ih := gapGo_le gs l at_ n (g + (bestF gs l (at_ + g)).m) (max k (g + (bestF gs l (at_ + g)).lk)) (by omega) (by omega) (by omega)
        omega
    · rw [gapGo_end h]
      dsimp only
      omega
structure Wd where
  k : List Nat
  g : Nat
  n : Nat
  lk : Nat
abbrev kEnd : List Nat := [101, 110, 100]
abbrev kStray : List Nat := [115, 116, 114, 97, 121]
def isGap (e : Ent) : Bool := e.k.isEmpty
def gapsOf (es : List Ent) : List Ent := es.filter isGap
def restOf (es : List Ent) : List Ent := es.filter fun e => !isGap e
def gapF (es : List Ent) (l : List Nat) (at_ : Nat) : Nat × Nat := gapGo (gapsOf es) l at_ 0 0
def wordF (es : List Ent) (l : List Nat) (at_ : Nat) : Wd :=
  if at_ + (gapF es l at_).1 = l.length then ⟨kEnd, (gapF es l at_).1, 0, (gapF es l at_).2⟩
  else ⟨if (bestF (restOf es) l (at_ + (gapF es l at_).1)).m = 0 then kStray else (bestF (restOf es) l (at_ + (gapF es l at_).1)).k, (gapF es l at_).1,
    max 1 (bestF (restOf es) l (at_ + (gapF es l at_).1)).m, max (gapF es l at_).2 ((gapF es l at_).1 + (bestF (restOf es) l (at_ + (gapF es l at_).1)).lk)⟩
theorem gapF_le {es : List Ent} {l : List Nat} {at_ : Nat} (h : at_ ≤ l.length) : at_ + (gapF es l at_).1 ≤ l.length ∧ (gapF es l at_).1 + 1 ≤ (gapF es l at_).2 ∧ at_ + (gapF es l at_).2 ≤ l.length + 1 := by
  have := gapGo_le (gapsOf es) l at_ _ 0 0 (Nat.le_refl _) (by omega) (by omega)
  unfold gapF
  omega
theorem wordF_le {es : List Ent} {l : List Nat} {at_ : Nat} (h : at_ ≤ l.length) : at_ + (wordF es l at_).g + (wordF es l at_).n ≤ l.length ∧ (wordF es l at_).g + 1 ≤ (wordF es l at_).lk ∧ (wordF es l at_).g + (wordF es l at_).n ≤ (wordF es l at_).lk ∧ at_ + (wordF es l at_).lk ≤ l.length + 1 := by
  have hg := gapF_le (es := es) h
  unfold wordF
  split
  · dsimp only; omega
  · rename_i hne
    have hb := bestF_le (es := restOf es) (l := l) (pl := at_ + (gapF es l at_).1) hg.1
    have h1 := bestF_lk (restOf es) l (at_ + (gapF es l at_).1)
    have h2 := bestF_fst (restOf es) l (at_ + (gapF es l at_).1)
    dsimp only
    omega
end Rg

namespace Rg
end Rg

namespace Rg
inductive Reach (es : List Ent) (l : List Nat) : Nat → Prop
  | zero : Reach es l 0
  | step {p : Nat} : Reach es l p → (wordF es l p).n ≠ 0 → Reach es l (p + (wordF es l p).g + (wordF es l p).n)
theorem Reach.le {es : List Ent} {l : List Nat} {p : Nat} (h : Reach es l p) : p ≤ l.length := by
  induction h with
  | zero => exact Nat.zero_le _
  | step _ _ ih => exact (wordF_le ih).1
end Rg

namespace Rg
end Rg

set_option linter.all false
namespace Rg
theorem snoc_ind {α : Type} {p : List α → Prop} (h0 : p []) (hs : ∀ l a, p l → p (l ++ [a])) : ∀ l, p l := fun l => by
  have : ∀ n (l : List α), l.length = n → p l := by
    intro n
    induction n with
    | zero => intro l hl; rw [List.length_eq_zero_iff.mp hl]; exact h0
    | succ n ih =>
      intro l hl
      have hne : l ≠ [] := fun z => by rw [z] at hl; cases hl
      rw [← List.dropLast_concat_getLast hne]
      exact hs _ _ (ih _ (by rw [List.length_dropLast]; omega))
  exact this l.length l rfl
structure Pc where
  b : Nat
  e : Nat
  h : Int
structure Ps where
  P : List Pc
  hs : List Int
  b : Nat
  n : Nat
abbrev pEnd : List Nat := [101, 110, 100]
def isE (dv : List Nat → Option Nat) (k : List Nat) : Bool := decide (k = pEnd) || (dv k).isSome
def bAt (P : List Pc) : Nat → Nat
  | 0 => 0
  | i + 1 => match P[i]? with
    | some p => p.e + 1
    | none => 0
structure GoodP (dv : List Nat → Option Nat) (ks : List (List Nat)) (s : Ps) : Prop where
  n : s.n = ks.length
  b : s.b = bAt s.P s.P.length
  le : s.b ≤ s.n
  no : ∀ j k, s.b ≤ j → ks[j]? = some k → isE dv k = false
  pl : s.P.length ≤ ks.length
  pc : ∀ i p, s.P[i]? = some p → p.b = bAt s.P i ∧ p.b ≤ p.e ∧ p.e < ks.length ∧ (∀ j k, p.b ≤ j → j < p.e → ks[j]? = some k → isE dv k = false) ∧ ∃ k, ks[p.e]? = some k ∧ isE dv k = true
  hl : 1 ≤ s.hs.length ∧ s.hs.length ≤ s.P.length + 1
def holAt (P : List Pc) (ds : List Nat) : Nat → Int
  | 0 => -1
  | i + 1 => match P[i]? with
    | none => -1
    | some a => if ds[i]? = some 1 then (i : Int) else if ds[i]? = some 2 ∧ 0 ≤ a.h then (match P[a.h.toNat]? with | some q => q.h | none => -1) else a.h
def dsOf (dv : List Nat → Option Nat) (ks : List (List Nat)) (P : List Pc) : List Nat := P.map fun p => (dv (ks.getD p.e [])).getD 0
structure GoodH (dv : List Nat → Option Nat) (ks : List (List Nat)) (s : Ps) : Prop where
  top : s.hs.getLastD (-1) = holAt s.P (dsOf dv ks s.P) s.P.length
  st0 : s.hs[0]? = some (-1)
  st : ∀ j y, s.hs[j + 1]? = some y → ∃ (m : Nat) (p : Pc), y = (m : Int) ∧ s.P[m]? = some p ∧ s.hs[j]? = some p.h
  all : ∀ (i : Nat) (p : Pc), s.P[i]? = some p → p.h = holAt s.P (dsOf dv ks s.P) i ∧ -1 ≤ p.h ∧ p.h < (i : Int)
end Rg

set_option linter.all false
namespace Rg
structure Rw where
  m : Int
  r : Nat
  ps : List (Int × Option (List Nat))
def bPart (notes : List (Int × Int)) (q : Rw) : Int := (notes.getD q.r (-1, -1)).2
structure RowOk (notes : List (Int × Int)) (q : Rw) : Prop where
  r : q.r < notes.length
  b : 0 ≤ bPart notes q → ∃ i s, q.ps[(bPart notes q).toNat]? = some (i, some s)
abbrev Ev := (Nat × Nat) × Option (List Nat)
def pl (nm : List Nat) (l : List Ev) : List (Nat × Nat) := (l.filter fun e => decide (e.2 = some nm)).map (·.1)
end Rg

set_option linter.all false
namespace Rg
structure MR where
  m : Int
  sort : List Nat
  ps : List (Int × Option (List Nat))
  ks : List (List Nat)
abbrev Acc := List (Int × List Nat)
def lk (acc : Acc) (m : Int) : Option (List Nat) := acc.foldl (fun o x => if x.1 = m then some x.2 else o) none
theorem lk_snoc (acc : Acc) (x : Int × List Nat) (m : Int) : lk (acc ++ [x]) m = if x.1 = m then some x.2 else lk acc m := by
  unfold lk
  rw [List.foldl_append]
  rfl
def pTx (acc : Acc) (p : Int × Option (List Nat)) : List Nat := match p.2 with
  | some s => s
  | none => (lk acc p.1).getD []
def inn (acc : Acc) (ps : List (Int × Option (List Nat))) : List Nat := ps.flatMap fun p => 32 :: pTx acc p
def ren (acc : Acc) (q : MR) : List Nat := 40 :: (q.sort ++ inn acc q.ps ++ [41])
def txs (rows : List MR) : Acc := rows.foldl (fun acc q => acc ++ [(q.m, ren acc q)]) []
theorem txs_snoc (rows : List MR) (q : MR) : txs (rows ++ [q]) = txs rows ++ [(q.m, ren (txs rows) q)] := by
  unfold txs
  rw [List.foldl_append]
  rfl
def tK (rows : List MR) (k : Nat) : List Nat := match rows[k]? with
  | some q => ren (txs (rows.take k)) q
  | none => []
def topT (rows : List MR) : List Nat := match rows with
  | [] => []
  | _ => tK rows (rows.length - 1)
theorem tK_at {rows : List MR} {k : Nat} {q : MR} (e : rows[k]? = some q) : tK rows k = ren (txs (rows.take k)) q := by unfold tK; rw [e]
theorem take_snoc {α : Type} {l : List α} {k : Nat} {q : α} (e : l[k]? = some q) : l.take (k + 1) = l.take k ++ [q] := by rw [List.take_add_one, e]; rfl
structure MOk (q : MR) : Prop where
  s1 : 1 ≤ q.sort.length
  s2 : q.sort.length ≤ 12
  s3 : ∀ c ∈ q.sort, okSign c
  pl : q.ps.length ≤ 8
  pt : ∀ p ∈ q.ps, ∀ s, p.2 = some s → 1 ≤ s.length ∧ s.length ≤ 6 ∧ ∀ c ∈ s, okSign c
  kl : q.ks.length ≤ 8
  kt : ∀ k ∈ q.ks, ∀ c ∈ k, okSign c
structure GoodR (rows : List MR) : Prop where
  len : rows.length ≤ 60
  mod : ∀ (k : Nat) (q : MR), rows[k]? = some q → q.m % 64 = (k : Int)
  ok : ∀ q ∈ rows, MOk q
  pt : ∀ (k : Nat) (q : MR), rows[k]? = some q → ∀ p ∈ q.ps, p.2 = none → ∃ j : Nat, j < k ∧ ∃ q' : MR, rows[j]? = some q' ∧ q'.m = p.1
  tl : ∀ k, k < rows.length → (tK rows k).length ≤ 5000
theorem GoodR.inj {rows : List MR} (g : GoodR rows) {i j : Nat} {a b : MR} (ei : rows[i]? = some a) (ej : rows[j]? = some b) (h : a.m = b.m) : i = j := by
  have h1 := g.mod i a ei
  have h2 := g.mod j b ej
  rw [h] at h1
  omega
theorem GoodR.lk {rows : List MR} (g : GoodR rows) {i : Nat} {q : MR} (ei : rows[i]? = some q) : ∀ j, i < j → j ≤ rows.length → lk (txs (rows.take j)) q.m = some (tK rows i) := by
  intro j
  induction j with
  | zero => intro h; omega
  | succ j ih =>
    intro h1 h2
    have hj : j < rows.length := by omega
    have ej := List.getElem?_eq_getElem hj
    rw [take_snoc ej, txs_snoc, lk_snoc]
    by_cases e : rows[j].m = q.m
    · rw [if_pos e]
      have : j = i := g.inj ej ei e
      subst this
      rw [tK_at ej]
    · rw [if_neg e]
      have : i ≠ j := fun z => by subst z; rw [ej] at ei; cases ei; exact e rfl
      exact ih (by omega) (by omega)
theorem GoodR.lkAll {rows : List MR} (g : GoodR rows) {i : Nat} {q : MR} (ei : rows[i]? = some q) : Rg.lk (txs rows) q.m = some (tK rows i) := by
  have h := g.lk ei rows.length (List.getElem?_eq_some_iff.mp ei).1 (Nat.le_refl _)
  rw [List.take_length] at h
  exact h
theorem inn_congr {acc acc' : Acc} : ∀ {ps : List (Int × Option (List Nat))}, (∀ p ∈ ps, pTx acc p = pTx acc' p) → inn acc ps = inn acc' ps
  | [], _ => rfl
  | p :: r, h => by
    unfold inn
    rw [List.flatMap_cons, List.flatMap_cons, h p List.mem_cons_self]
    congr 1
    exact inn_congr fun x hx => h x (List.mem_cons_of_mem _ hx)
theorem GoodR.ren {rows : List MR} (g : GoodR rows) {k : Nat} {q : MR} (ek : rows[k]? = some q) : tK rows k = Rg.ren (txs rows) q := by
  rw [tK_at ek]
  unfold Rg.ren
  congr 2
  congr 1
  refine inn_congr fun p hp => ?_
  obtain ⟨i, o⟩ := p
  cases o with
  | some s => rfl
  | none =>
    obtain ⟨j, hj, q', ej, em⟩ := g.pt k q ek (i, none) hp rfl
    have hk := (List.getElem?_eq_some_iff.mp ek).1
    have h1 := g.lk ej k hj (by omega)
    have h2 := g.lkAll ej
    show (Rg.lk (txs (rows.take k)) i).getD [] = (Rg.lk (txs rows) i).getD []
    rw [show i = q'.m from em.symm, h1, h2]
theorem topT_snoc (rows : List MR) (q : MR) : topT (rows ++ [q]) = ren (txs rows) q := by
  have h : topT (rows ++ [q]) = tK (rows ++ [q]) ((rows ++ [q]).length - 1) := by
    unfold topT
    split
    · rename_i e; simp at e
    · rfl
  have e1 : (rows ++ [q]).length - 1 = rows.length := by simp
  rw [h, e1, tK_at (q := q) (by rw [List.getElem?_append_right (Nat.le_refl _), Nat.sub_self]; rfl), List.take_append_of_le_length (Nat.le_refl _), List.take_length]
theorem topT_last {rows : List MR} (h : rows ≠ []) : topT rows = tK rows (rows.length - 1) := by
  unfold topT
  split
  · exact absurd rfl h
  · rfl
def toRw (rows : List MR) (num : Nat → Nat) : List Rw := rows.zipIdx.map fun x => ⟨x.1.m, num x.2, x.1.ps⟩
theorem toRw_len (rows : List MR) (num : Nat → Nat) : (toRw rows num).length = rows.length := by unfold toRw; simp
theorem toRw_at {rows : List MR} {num : Nat → Nat} {k : Nat} {q : MR} (e : rows[k]? = some q) : (toRw rows num)[k]? = some ⟨q.m, num k, q.ps⟩ := by
  unfold toRw
  rw [List.getElem?_map, List.getElem?_zipIdx, e]
  simp
theorem toRw_has {rows : List MR} {num : Nat → Nat} {k : Nat} {r : Rw} (e : (toRw rows num)[k]? = some r) : ∃ q, rows[k]? = some q ∧ r = ⟨q.m, num k, q.ps⟩ := by
  have hk := (List.getElem?_eq_some_iff.mp e).1
  rw [toRw_len] at hk
  refine ⟨rows[k], List.getElem?_eq_getElem hk, ?_⟩
  rw [toRw_at (List.getElem?_eq_getElem hk)] at e
  exact (Option.some.inj e).symm
theorem join_inn (x : List Nat) : ∀ ys : List (List Nat), joinWith [32] (x :: ys) = x ++ ys.flatMap fun y => 32 :: y
  | [] => by simp [joinWith]
  | y :: r => by
    have ih := join_inn y r
    show x ++ [32] ++ joinWith [32] (y :: r) = _
    rw [ih, List.flatMap_cons]
    simp
theorem inn_app (acc : Acc) (a b : List (Int × Option (List Nat))) : inn acc (a ++ b) = inn acc a ++ inn acc b := by unfold inn; rw [List.flatMap_append]
theorem inn_drop_len (acc : Acc) (ps : List (Int × Option (List Nat))) (n : Nat) : (inn acc (ps.drop n)).length ≤ (inn acc ps).length := by
  have h : inn acc ps = inn acc (ps.take n) ++ inn acc (ps.drop n) := by rw [← inn_app, List.take_append_drop]
  rw [h, List.length_append]
  omega
theorem inn_cons (acc : Acc) (p : Int × Option (List Nat)) (r : List (Int × Option (List Nat))) : inn acc (p :: r) = 32 :: (pTx acc p ++ inn acc r) := by
  unfold inn
  rw [List.flatMap_cons]
  rfl
theorem inn_map (acc : Acc) (ps : List (Int × Option (List Nat))) : (ps.map (pTx acc)).flatMap (fun y => 32 :: y) = inn acc ps := by
  unfold inn
  rw [List.flatMap_map]
def nsum (f : Int → Nat) (ps : List (Int × Option (List Nat))) : Nat := (ps.map fun p => if p.2.isNone then f p.1 else 0).sum
def xsum (f : Int → Nat) (fs : List (Int × List Nat)) : Nat := (fs.map fun x => f x.1).sum
theorem nsum_snoc (f : Int → Nat) (ps : List (Int × Option (List Nat))) (p : Int × Option (List Nat)) : nsum f (ps ++ [p]) = nsum f ps + if p.2.isNone then f p.1 else 0 := by
  unfold nsum
  rw [List.map_append, List.sum_append]
  simp
theorem xsum_app (f : Int → Nat) (a b : List (Int × List Nat)) : xsum f (a ++ b) = xsum f a + xsum f b := by
  unfold xsum
  rw [List.map_append, List.sum_append]
theorem xsum_erase (f : Int → Nat) : ∀ {fs : List (Int × List Nat)} {k : Nat} {x : Int × List Nat}, fs[k]? = some x → xsum f (fs.eraseIdx k) + f x.1 = xsum f fs
  | [], _, _, h => by simp at h
  | y :: r, 0, x, h => by
    have : y = x := by simpa using h
    subst this
    show xsum f r + f y.1 = xsum f (y :: r)
    unfold xsum
    rw [List.map_cons, List.sum_cons]
    omega
  | y :: r, k + 1, x, h => by
    have ih := xsum_erase f (fs := r) (k := k) (x := x) (by simpa using h)
    show xsum f (y :: r.eraseIdx k) + f x.1 = xsum f (y :: r)
    unfold xsum at ih ⊢
    rw [List.map_cons, List.sum_cons, List.map_cons, List.sum_cons]
    omega
structure RowRes (k : Nat) (fs : List (Int × List Nat)) (q : MR) (fs' : List (Int × List Nat)) : Prop where
  mod : q.m % 64 = (k : Int)
  ok : MOk q
  sum : ∀ f, nsum f q.ps + xsum f fs' = xsum f fs
  use : ∀ p ∈ q.ps, p.2 = none → ∃ x ∈ fs, x.1 = p.1
  sub : ∀ x ∈ fs', x ∈ fs
def fL (acc : Acc) (m : Int) : Nat := ((lk acc m).getD []).length
structure FrOk (rows : List MR) (fs : List (Int × List Nat)) : Prop where
  at' : ∀ x ∈ fs, ∃ (j : Nat) (q : MR), rows[j]? = some q ∧ q.m = x.1
  sum : xsum (fL (txs rows)) fs ≤ 80 * rows.length
  len : fs.length ≤ rows.length
theorem inn_len (acc : Acc) : ∀ {ps : List (Int × Option (List Nat))}, (∀ p ∈ ps, ∀ s, p.2 = some s → s.length ≤ 6) → (inn acc ps).length ≤ 7 * ps.length + nsum (fL acc) ps
  | [], _ => by simp [inn, nsum]
  | p :: r, h => by
    have ih := inn_len acc (ps := r) fun x hx => h x (List.mem_cons_of_mem _ hx)
    have e1 : (inn acc (p :: r)).length = 1 + (pTx acc p).length + (inn acc r).length := by
      unfold inn
      rw [List.flatMap_cons, List.length_append, List.length_cons]
      omega
    have e2 : nsum (fL acc) (p :: r) = (if p.2.isNone then fL acc p.1 else 0) + nsum (fL acc) r := by
      unfold nsum
      rw [List.map_cons, List.sum_cons]
    rw [e1, e2, List.length_cons]
    obtain ⟨i, o⟩ := p
    cases o with
    | none =>
      show 1 + ((lk acc i).getD []).length + _ ≤ 7 * (r.length + 1) + (((lk acc i).getD []).length + _)
      omega
    | some s =>
      have := h (i, some s) List.mem_cons_self s rfl
      show 1 + s.length + _ ≤ 7 * (r.length + 1) + (0 + _)
      omega
theorem made_step {rows : List MR} {fs fs' : List (Int × List Nat)} {q : MR} (g : GoodR rows) (fo : FrOk rows fs) (rr : RowRes rows.length fs q fs') (hl : rows.length < 60) (hf : fs'.length + 1 ≤ rows.length + 1) : GoodR (rows ++ [q]) ∧ FrOk (rows ++ [q]) (fs' ++ [(q.m, q.sort)]) := by
  have eq1 : (rows ++ [q])[rows.length]? = some q := by rw [List.getElem?_append_right (Nat.le_refl _), Nat.sub_self]; rfl
  have old : ∀ {k : Nat}, k < rows.length → (rows ++ [q])[k]? = rows[k]? := fun h => List.getElem?_append_left h
  have tk_old : ∀ {k : Nat}, k < rows.length → tK (rows ++ [q]) k = tK rows k := fun {k} h => by
    unfold tK
    rw [old h, List.take_append_of_le_length (by omega)]
  have tk_new : tK (rows ++ [q]) rows.length = ren (txs rows) q := by rw [tK_at eq1, List.take_append_of_le_length (Nat.le_refl _), List.take_length]
  have hren : (ren (txs rows) q).length ≤ 70 + nsum (fL (txs rows)) q.ps := by
    have h1 := inn_len (txs rows) (ps := q.ps) fun p hp s e => (rr.ok.pt p hp s e).2.1
    have h2 := rr.ok.s2
    have h3 := rr.ok.pl
    have e : (ren (txs rows) q).length = 2 + q.sort.length + (inn (txs rows) q.ps).length := by
      unfold ren
      rw [List.length_cons, List.length_append, List.length_append]
      simp
      omega
    omega
  have hsum := rr.sum (fL (txs rows))
  have hfo := fo.sum
  have idx : ∀ {k : Nat} {r : MR}, (rows ++ [q])[k]? = some r → k < rows.length ∧ rows[k]? = some r ∨ k = rows.length ∧ r = q := fun {k r} e => by
    by_cases h : k < rows.length
    · exact .inl ⟨h, by rw [← old h]; exact e⟩
    · have hk := (List.getElem?_eq_some_iff.mp e).1
      have : k = rows.length := by simp at hk; omega
      subst this
      rw [eq1] at e
      exact .inr ⟨rfl, (Option.some.inj e).symm⟩
  refine ⟨⟨by simp; omega, fun k r e => ?_, fun r hr => ?_, fun k r e p hp hn => ?_, fun k hk => ?_⟩, ⟨fun x hx => ?_, ?_, by simp; omega⟩⟩
  · rcases idx e with ⟨h, e'⟩ | ⟨rfl, rfl⟩
    · exact g.mod k r e'
    · exact rr.mod
  · rcases List.mem_append.mp hr with z | z
    · exact g.ok r z
    · rw [List.mem_singleton.mp z]; exact rr.ok
  · rcases idx e with ⟨h, e'⟩ | ⟨rfl, rfl⟩
    · obtain ⟨j, hj, q', ej, em⟩ := g.pt k r e' p hp hn
      exact ⟨j, hj, q', by rw [old (by omega)]; exact ej, em⟩
    · obtain ⟨x, hx, ex⟩ := rr.use p hp hn
      obtain ⟨j, q', ej, em⟩ := fo.at' x hx
      have hj := (List.getElem?_eq_some_iff.mp ej).1
      exact ⟨j, hj, q', by rw [old hj]; exact ej, em.trans ex⟩
  · by_cases h : k < rows.length
    · rw [tk_old h]; exact g.tl k h
    · have : k = rows.length := by simp at hk; omega
      subst this
      rw [tk_new]
      omega
  · rcases List.mem_append.mp hx with z | z
    · obtain ⟨j, q', ej, em⟩ := fo.at' x (rr.sub x z)
      exact ⟨j, q', by rw [old (List.getElem?_eq_some_iff.mp ej).1]; exact ej, em⟩
    · rw [List.mem_singleton.mp z]
      exact ⟨rows.length, q, eq1, rfl⟩
  · have same : ∀ {l : List (Int × List Nat)}, (∀ x ∈ l, x ∈ fs) → xsum (fL (txs (rows ++ [q]))) l = xsum (fL (txs rows)) l := by
      intro l
      induction l with
      | nil => intro _; rfl
      | cons x r ih =>
        intro h
        obtain ⟨j, q', ej, em⟩ := fo.at' x (h x List.mem_cons_self)
        have hj := (List.getElem?_eq_some_iff.mp ej).1
        have hne : ¬ q.m = x.1 := fun z => by
          have h1 := rr.mod
          have h2 := g.mod j q' ej
          rw [em, ← z] at h2
          omega
        have ex : fL (txs (rows ++ [q])) x.1 = fL (txs rows) x.1 := by
          unfold fL
          rw [txs_snoc, lk_snoc, if_neg hne]
        have ih := ih fun y hy => h y (List.mem_cons_of_mem _ hy)
        unfold xsum at ih ⊢
        rw [List.map_cons, List.sum_cons, List.map_cons, List.sum_cons, ex, ih]
    rw [xsum_app, same rr.sub]
    have enew : xsum (fL (txs (rows ++ [q]))) [(q.m, q.sort)] = (ren (txs rows) q).length := by
      unfold xsum
      rw [List.map_cons, List.map_nil, List.sum_cons, List.sum_nil]
      show fL (txs (rows ++ [q])) q.m + 0 = _
      unfold fL
      rw [txs_snoc, lk_snoc, if_pos rfl]
      rfl
    rw [enew]
    simp
    omega
theorem good_nil : GoodR [] ∧ FrOk [] [] := ⟨⟨by simp, (fun k q e => by simp at e), (fun q h => by cases h), (fun k q e => by simp at e), (fun k h => by simp at h)⟩, ⟨(fun x h => by cases h), by simp [xsum], Nat.le_refl _⟩⟩
def flatS (acc : Acc) (st : List (Int × Option (List Nat))) : List Nat := st.reverse.flatMap (pTx acc)
theorem flat_snoc (acc : Acc) (st : List (Int × Option (List Nat))) (p : Int × Option (List Nat)) : flatS acc (st ++ [p]) = pTx acc p ++ flatS acc st := by
  unfold flatS
  rw [List.reverse_append]
  rfl
def EntOk (rows : List MR) (p : Int × Option (List Nat)) : Prop := (∃ s, p.2 = some s ∧ 1 ≤ s.length ∧ ∀ c ∈ s, okSign c) ∨ (p.2 = none ∧ ∃ (k : Nat) (q : MR), rows[k]? = some q ∧ q.m = p.1)
theorem ent_pos {rows : List MR} (g : GoodR rows) {p : Int × Option (List Nat)} (h : EntOk rows p) : 1 ≤ (pTx (txs rows) p).length := by
  rcases h with ⟨s, e, h1, _⟩ | ⟨e, k, q, ek, em⟩
  · unfold pTx; rw [e]; exact h1
  · unfold pTx
    rw [e]
    show 1 ≤ ((lk (txs rows) p.1).getD []).length
    rw [← em, g.lkAll ek, g.ren ek]
    show 1 ≤ (ren (txs rows) q).length
    unfold ren
    simp
theorem flat_len {rows : List MR} (g : GoodR rows) : ∀ st : List (Int × Option (List Nat)), (∀ p ∈ st, EntOk rows p) → st.length ≤ (flatS (txs rows) st).length := fun st => by
  refine snoc_ind (p := fun st => (∀ p ∈ st, EntOk rows p) → st.length ≤ (flatS (txs rows) st).length) (fun _ => by simp) (fun l p ih h => ?_) st
  have h1 := ih fun x hx => h x (by simp [hx])
  have h2 := ent_pos g (h p (by simp))
  rw [flat_snoc, List.length_append, List.length_append]
  simp
  omega
theorem GoodR.node {rows : List MR} (g : GoodR rows) {k : Nat} {q : MR} (ek : rows[k]? = some q) {m : Int} (em : q.m = m) : pTx (txs rows) (m, none) = 40 :: (q.sort ++ (inn (txs rows) q.ps ++ [41])) := by
  show (Rg.lk (txs rows) m).getD [] = _
  rw [← em, g.lkAll ek, g.ren ek]
  show Rg.ren (txs rows) q = _
  unfold Rg.ren
  rw [List.append_assoc]
theorem GoodR.ent {rows : List MR} (g : GoodR rows) {k : Nat} {q : MR} (ek : rows[k]? = some q) : ∀ p ∈ q.ps, EntOk rows p := fun p hp => by
  obtain ⟨i, o⟩ := p
  cases o with
  | some s =>
    have := (g.ok q (List.mem_of_getElem? ek)).pt (i, some s) hp s rfl
    exact .inl ⟨s, rfl, this.1, this.2.2⟩
  | none =>
    obtain ⟨j, hj, q', ej, em⟩ := g.pt k q ek (i, none) hp rfl
    exact .inr ⟨rfl, j, q', ej, em⟩
end Rg

set_option Elab.async false
set_option linter.all false
set_option maxRecDepth 100000
set_option maxHeartbeats 4000000
namespace Rg
open PySem PySem.Spec PyProof.Rows L2

def Kq (la : Option Addr) (H H' : Hp) : Prop := ∀ b u, some b ≠ la → H b = some u → H' b = some u
theorem Kq.refl {la : Option Addr} (H : Hp) : Kq la H H := fun _ _ _ e => e
theorem Kq.trans {la : Option Addr} {H H1 H2 : Hp} (a : Kq la H H1) (b : Kq la H1 H2) : Kq la H H2 := fun c u n e => b c u n (a c u n e)
theorem Kq.of {la : Option Addr} {H H' : Hp} (s : Same H H') : Kq la H H' := fun b u _ e => s b u e
theorem Kq.kp {la : Addr} {H H' : Hp} (k : Kp la H H') : Kq (some la) H H' := fun b u n e => k b u (fun z => n (congrArg some z)) e
theorem Kq.same {H H' : Hp} (k : Kq none H H') : Same H H' := fun b u e => k b u (fun z => nomatch z) e
structure Old (la : Option Addr) (H0 H : Hp) : Prop where
  nw : ∀ a, la = some a → H0 a = none
  sm : Same H0 H
theorem Old.kq {la : Option Addr} {H0 H H' : Hp} (h : Old la H0 H) (k : Kq la H H') : Old la H0 H' :=
  ⟨h.nw, fun b u e => k b u (fun z => by rw [h.nw b z.symm] at e; cases e) (h.sm b u e)⟩
theorem Old.same {la : Option Addr} {H0 H H' : Hp} (h : Old la H0 H) (k : Same H H') : Old la H0 H' := h.kq (Kq.of k)
abbrev AKt := Hp → Addr → Option Addr → List Nat → List Nat → Prop
structure Asker (AK : AKt) : Prop where
  same : ∀ {H H' : Hp} {f : Addr} {la : Option Addr} {tx as : List Nat}, AK H f la tx as → Same H H' → AK H' f la tx as
  lst : ∀ {H : Hp} {f a : Addr} {tx as : List Nat}, AK H f (some a) tx as → ∃ zs, H a = some (.lst zs)
  upd : ∀ {H : Hp} {f b : Addr} {la : Option Addr} {tx as : List Nat} {ys : List V} {o : HO}, AK H f la tx as → H b = some (.lst ys) → some b ≠ la → AK (L2.upd H b o) f la tx as
theorem Asker.tr {AK : AKt} (A : Asker AK) {H : Hp} {f a : Addr} {tx as : List Nat} (h : AK H f (some a) tx as) : H a ≠ none := fun z => by
  obtain ⟨zs, e⟩ := A.lst h
  rw [z] at e
  cases e
theorem Asker.seqT {AK : AKt} (A : Asker AK) {K : PySem.W.Frag} {H H' : Hp} {f t : Addr} {la : Option Addr} {tx as : List Nat} {xs : List V} (hA : AK H f la tx as) (k : Kq la H H') (h : SqT K H t xs) : SqT K H' t xs := by
  have ne : ∀ {b : Addr} {u : HO}, H b = some u → (∀ zs, u ≠ .lst zs) → some b ≠ la := fun {b u} e n z => by
    subst z
    obtain ⟨zs, q⟩ := A.lst hA
    rw [q] at e
    exact n zs (Option.some.inj e).symm
  rcases h with h | h
  · refine .inl ?_
    rcases h with h | ⟨o, h⟩
    · exact .inl (k _ _ (ne h fun _ z => by cases z) h)
    · exact .inr ⟨o, k _ _ (ne h fun _ z => by cases z) h⟩
  · exact .inr h
theorem Asker.free {AK : AKt} (A : Asker AK) {H H' : Hp} {f t : Addr} {la : Option Addr} {tx as : List Nat} (hA : AK H' f la tx as) (k : Kq la H H') (ht : H' t = none) : H t = none := by
  cases z : H t with
  | none => rfl
  | some u =>
    by_cases y : some t = la
    · subst y
      exact absurd ht (A.tr hA)
    · rw [k t u y z] at ht; cases ht
theorem Kq.seq {K : PySem.W.Frag} {H H' : Hp} {la : Option Addr} {a : Addr} {xs : List V} (e : Kq la H H') (hn : some a ≠ la) (h : SqL K H a xs) : SqL K H' a xs := by
  rcases h with h | h
  · refine .inl ?_
    rcases h with h | ⟨o, h⟩
    · exact .inl (e _ _ hn h)
    · exact .inr ⟨o, e _ _ hn h⟩
  · exact .inr h

structure Ent.Ok (e : Ent) : Prop where
  len : e.f.length ≤ 12
  ok : ∀ p ∈ e.f, p.Ok
  kl : e.k.length ≤ 100
  kok : ∀ c ∈ e.k, okSign c
  ke : e.k ≠ kEnd
def Ent.dat (e : Ent) : PyData := .tuple [.str (S e.k), .list (e.f.map Prt.dat)]
theorem eqv_nil (ds : List PyData) : PyData.eqv (.list ds) (.list []) = ds.isEmpty := by
  cases ds <;> simp [PyData.eqv, PyData.eqvAll]

def Nt (H H' : Hp) : Prop := ∀ b u, (∀ ps, u ≠ HO.tbl ps) → H b = some u → H' b = some u
theorem Nt.refl (H : Hp) : Nt H H := fun _ _ _ e => e
theorem Nt.trans {H H1 H2 : Hp} (a : Nt H H1) (b : Nt H1 H2) : Nt H H2 := fun c u n e => b c u n (a c u n e)
theorem Nt.of {H H' : Hp} (s : Same H H') : Nt H H' := fun b u _ e => s b u e
theorem Nt.seq {K : PySem.W.Frag} {H H' : Hp} {a : Addr} {xs : List V} (e : Nt H H') (h : SqL K H a xs) : SqL K H' a xs := by
  rcases h with h | h
  · refine .inl ?_
    rcases h with h | ⟨o, h⟩
    · exact .inl (e _ _ (fun _ z => by cases z) h)
    · exact .inr ⟨o, e _ _ (fun _ z => by cases z) h⟩
  · exact .inr h
theorem Nt.seqT {K : PySem.W.Frag} {H H' : Hp} {a : Addr} {xs : List V} (e : Nt H H') (h : SqT K H a xs) : SqT K H' a xs := by
  rcases h with h | h
  · refine .inl ?_
    rcases h with h | ⟨o, h⟩
    · exact .inl (e _ _ (fun _ z => by cases z) h)
    · exact .inr ⟨o, e _ _ (fun _ z => by cases z) h⟩
  · exact .inr h
mutual
theorem datv_nt {K : PySem.W.Frag} {H H' : Hp} (e : Nt H H') : ∀ {x : V} {d : PyData}, DatV K H x d → DatV K H' x d
  | _, _, .none => .none
  | _, _, .bool b => .bool b
  | _, _, .int i => .int i
  | _, _, .str x => .str x
  | _, _, .list h1 h2 => .list (e.seq h1) (datvs_nt e h2)
  | _, _, .tuple h1 h2 => .tuple (e.seqT h1) (datvs_nt e h2)
theorem datvs_nt {K : PySem.W.Frag} {H H' : Hp} (e : Nt H H') : ∀ {xs : List V} {ds : List PyData}, DatVs K H xs ds → DatVs K H' xs ds
  | _, _, .nil => .nil
  | _, _, .cons a b => .cons (datv_nt e a) (datvs_nt e b)
end
def Wd.dat (w : Wd) : PyData := .tuple [.str (S w.k), .int (w.g : Nat), .int (w.n : Nat), .int (w.lk : Nat)]
abbrev Wd.vs (w : Wd) : List V := [.str (S w.k), .int (w.g : Nat), .int (w.n : Nat), .int (w.lk : Nat)]
theorem seqT_upd {K : PySem.W.Frag} {H : Hp} {b t : Addr} {o : HO} {ys xs : List V} (hl : H b = some (.lst ys)) (h : SqT K H t xs) : SqT K (upd H b o) t xs := by
  rcases h with h | h
  · refine .inl ?_
    rcases h with h | ⟨o, h⟩
    · exact .inl (by rw [upd_ne fun z => by rw [z, hl] at h; cases h]; exact h)
    · exact .inr ⟨o, by rw [upd_ne fun z => by rw [z, hl] at h; cases h]; exact h⟩
  · exact .inr h
end Rg

set_option Elab.async false
set_option linter.all false
set_option maxRecDepth 100000
set_option maxHeartbeats 4000000
namespace Rg
open PySem PySem.Spec PyProof.Rows L2
theorem atI_last {xs : List V} {v : V} (h : xs[xs.length - 1]? = some v) : atI xs (-1) = some v := by
  have hl : 0 < xs.length := by
    cases xs with
    | nil => cases h
    | cons x r => simp
  have e : ixN xs.length (-1) = some (xs.length - 1) := by
    unfold ixN
    rw [if_neg (by decide)]
    rw [if_pos (by omega)]
    congr 1
    omega
  unfold atI
  rw [e]
  exact h
end Rg

set_option Elab.async false
set_option linter.all false
set_option maxRecDepth 100000
set_option maxHeartbeats 4000000




namespace K82
open PySem PySem.Spec PyProof.Rows L2 Rg

def top (i : Nat) : Stmt := PySem.Challenge.pw_regrowth_k82_trees_written.main.body.getD i (.Pass ⟨0, 0, 0, 0⟩)
structure Txt (K : PySem.W.Frag) (w : World) (mg : Str → Option Value) : Prop where
  n_len : mg "len" = none
  n_range : mg "range" = none
  n_isinstance : mg "isinstance" = none
  n_int : mg "int" = none
  n_str : mg "str" = none
  n_tuple : mg "tuple" = none
  n_list : mg "list" = none
  n_reversed : mg "reversed" = none
def txtD : Option (List Nat) → PyData
  | none => .none
  | some s => .str (S s)
def txtV : Option (List Nat) → V
  | none => .non
  | some s => .str (S s)
def partDat (p : Int × Option (List Nat)) : PyData := .tuple [.int p.1, txtD p.2]
def rowDat (q : Rw) : PyData := .tuple [.int q.m, .int (q.r : Nat), .list (q.ps.map partDat)]
theorem datvs_at {K : PySem.W.Frag} {H : Hp} {α : Type} {f : α → PyData} {ys : List V} {l : List α} {i : Nat} {a : α} (h : DatVs K H ys (l.map f)) (e : l[i]? = some a) : ∃ y, ys[i]? = some y ∧ DatV K H y (f a) := by
  have hi := (List.getElem?_eq_some_iff.mp e).1
  have hl := h.length
  rw [List.length_map] at hl
  obtain ⟨d, hd, hv⟩ := h.get (List.getElem?_eq_getElem (show i < ys.length by omega))
  rw [List.getElem?_map, e] at hd
  cases hd
  exact ⟨_, List.getElem?_eq_getElem (by omega), hv⟩
theorem datvs_has {K : PySem.W.Frag} {H : Hp} {α : Type} {f : α → PyData} {ys : List V} {l : List α} {i : Nat} {y : V} (h : DatVs K H ys (l.map f)) (e : ys[i]? = some y) : ∃ a, l[i]? = some a ∧ DatV K H y (f a) := by
  obtain ⟨d, hd, hv⟩ := h.get e
  rw [List.getElem?_map] at hd
  cases ea : l[i]? with
  | none => rw [ea] at hd; cases hd
  | some a => rw [ea] at hd; cases hd; exact ⟨a, rfl, hv⟩
theorem dat_list {K : PySem.W.Frag} {H : Hp} {x : V} {ds : List PyData} (h : DatV K H x (.list ds)) : ∃ b ys, x = .ref b ∧ SqL K H b ys ∧ DatVs K H ys ds := by
  cases h with
  | list h1 h2 => exact ⟨_, _, rfl, h1, h2⟩
theorem dat_txt {K : PySem.W.Frag} {H : Hp} {x : V} {o : Option (List Nat)} (h : DatV K H x (txtD o)) : x = txtV o := by
  cases o with
  | none => cases h; rfl
  | some s => cases h; rfl
theorem dat_part {K : PySem.W.Frag} {H : Hp} {x : V} {p : Int × Option (List Nat)} (h : DatV K H x (partDat p)) : ∃ t, x = .ref t ∧ SqT K H t [.int p.1, txtV p.2] := by
  unfold partDat at h
  cases h with
  | tuple h1 h2 =>
    cases h2 with
    | cons a b =>
      cases a
      cases b with
      | cons a b =>
        have := dat_txt a
        subst this
        cases b
        exact ⟨_, rfl, h1⟩
theorem dat_row {K : PySem.W.Frag} {H : Hp} {x : V} {q : Rw} (h : DatV K H x (rowDat q)) : ∃ t b ys, x = .ref t ∧ SqT K H t [.int q.m, .int (q.r : Nat), .ref b] ∧ SqL K H b ys ∧ DatVs K H ys (q.ps.map partDat) := by
  unfold rowDat at h
  cases h with
  | tuple h1 h2 =>
    cases h2 with
    | cons a b =>
      cases a
      cases b with
      | cons a b =>
        cases a
        cases b with
        | cons a b =>
          obtain ⟨l, ys, rfl, h3, h4⟩ := dat_list a
          cases b
          exact ⟨_, l, ys, rfl, h1, h3, h4⟩
theorem ifS_of {c : TT} {t1 t2 : TS} {D : Ends} {σ : L2.St} {H : Hp} (R : Bool → Hp → Prop) (h1 : ∀ H', R true H' → t1 D σ H') (h2 : ∀ H', R false H' → t2 D σ H')
    (hc : (∀ H', R true H' → t1 D σ H') → (∀ H', R false H' → t2 D σ H') → c σ H fun b H' => if b = true then t1 D σ H' else t2 D σ H') : tIfS c t1 t2 D σ H := hc h1 h2
def RuAt (K : PySem.W.Frag) (H : Hp) (rv : List V) (rows : List MR) (num : Nat → Nat) : Prop := ∀ (k : Nat) (q : MR), rows[k]? = some q → ∃ t x1 x2 x3, rv[num k]? = some (.ref t) ∧ SqT K H t [.str (S q.sort), x1, x2, x3]
theorem RuAt.same {K : PySem.W.Frag} {H H' : Hp} {rv : List V} {rows : List MR} {num : Nat → Nat} (h : RuAt K H rv rows num) (s : Same H H') : RuAt K H' rv rows num := fun k q e => by
  obtain ⟨t, x1, x2, x3, h1, h2⟩ := h k q e
  exact ⟨t, x1, x2, x3, h1, s.seqT h2⟩
section
variable {P : Program} {w : World} {K : PySem.W.Frag} {mg : Str → Option Value} {base : Heap}
def spTT (K : PySem.W.Frag) : Sp := fun vs H Q _ => ∃ (rl wl : Addr) (rv : List V) (rows : List MR) (num : Nat → Nat), vs = [.ref rl, .ref wl] ∧ SqL K H rl rv ∧ DatV K H (.ref wl) (.list ((toRw rows num).map rowDat)) ∧ RuAt K H rv rows num ∧ GoodR rows ∧
  ∀ H', Same H H' → Q (.str (S (topT rows))) H'
abbrev st_tree_text : Stmt := top 1
theorem sc_tree_text : FnScope ["rules", "rows", "texts", "top", "mark", "rule", "parts", "inner"] ["rules", "rows"] (defScope st_tree_text) := ⟨rfl, rfl, rfl, by decide +kernel, rfl, by decide +kernel, by decide +kernel⟩
theorem def_tt (R : Raw K mg "tree_text" st_tree_text ["rules", "rows"]) (T : Txt K w mg) : Def P w K mg base 1 "tree_text" ["rules", "rows"] (spTT K) := by
  refine R.defJ sc_tree_text (fun vs H Q E h => ?_) (fun f cdv A outer s H vs Q E hr h => ?_)
  · obtain ⟨rl, wl, rv, rows, num, rfl, _⟩ := h
    rfl
  · obtain ⟨rl, wl, rv, rows, num, rfl, hRv, hW, hRu, g, q⟩ := h
    have sc := sc_tree_text
    have hu := hr.units
    have hb := big
    obtain ⟨_, wv, e0, hWl, hWd⟩ := dat_list hW
    cases e0
    have hwl : wv.length = rows.length := by have := hWd.length; rw [List.length_map, toRw_len] at this; exact this
    have hgl := g.len
    refine ⟨_, (jss_cons (js_set (i := 2) sc.nd rfl (Or.inr rfl) j_dnewK)
    (jss_cons (js_set (i := 3) sc.nd rfl (Or.inl rfl) j_str)
    (jss_cons (js_for PassesOwn.never rfl (ji_any (K := K) (jn 1)) (jg_tup (K := K) (n := 3) rfl (jgs_cons (jg_name (i := 4) sc.nd rfl (Or.inl rfl)) (jgs_cons (jg_name (i := 5) sc.nd rfl (Or.inl rfl)) (jgs_cons (jg_name (i := 6) sc.nd rfl (Or.inl rfl)) jgs_nil))))
    (jss_cons (js_comp (i := 7) (N := ["part", "text", "texts"]) (cap := [none, none, some 2]) rfl (CompScope.of rfl (by rfl)) (ji_any (K := K) (jn 6)) (fun _ _ _ _ => (jg_tup (K := K) (n := 2) rfl (jgs_cons (jg_name (i := 0) (show List.Nodup [("part" : Str), ("text" : Str), ("texts" : Str)] by decide +kernel) rfl (Or.inl rfl)) (jgs_cons (jg_name (i := 1) (show List.Nodup [("part" : Str), ("text" : Str), ("texts" : Str)] by decide +kernel) rfl (Or.inl rfl)) jgs_nil)))) (fun _ _ _ _ => jts_nil) (fun _ _ _ _ => (j_ife (jt_cmp o_is (jn 1) j_non) (j_ix (o_ixA hu (K := K) (w := w)) (jn 2) (jn 0)) (jn 1))) sc.nd rfl rfl)
    (jss_cons (js_set (i := 3) sc.nd rfl (Or.inl rfl) (j_op (o_add (K := K)) (j_op (o_add (K := K)) j_str (j_bm (K := K) PySem.F.plainAttrs_str PySem.F.slot_str_join PySem.F.type_str_join (m_join (K := K)) j_str (ja_cons (j_op (o_add (K := K)) (j_lst (ja_cons (j_ix (o_ixA hu (K := K) (w := w)) (j_ix (o_ixA hu (K := K) (w := w)) (jn 0) (jn 5)) j_int) ja_nil)) (jn 7)) ja_nil))) j_str))
    (jss_one (js_dput hu (jn 2) (jn 4) (jn 3))))))
    (jss_one (js_ret (jn 3)))))), ?_⟩
    refine fun tx htx => ?_
    have s1 : Same H (upd H tx (.dK [])) := same_new htx
    have h1 : upd H tx (.dK []) tx = some (.dK []) := upd_same
    generalize upd H tx (.dK []) = H1 at s1 h1 ⊢
    refine .inl ⟨⟨_, s1.seq hWl⟩, for_list (K := K) (a := wl) (xs := wv) (fun i σ H' => ∃ (kvs : List (Key × V)) (v4 v5 v6 v7 : Option V), H' tx = some (.dK kvs) ∧ (∀ m : Int, valV kvs (Sum.inl m) = (lk (txs (rows.take i)) m).map fun s => V.str (S s)) ∧ kvs.length ≤ i ∧ Same H H' ∧
        σ = [some (.ref rl), some (.ref wl), some (.ref tx), some (.str (S (topT (rows.take i)))), v4, v5, v6, v7])
      ⟨[], none, none, none, none, h1, (fun m => rfl), Nat.le_refl _, s1, rfl⟩ (fun i σ H' _ h => by obtain ⟨_, _, _, _, _, _, _, _, s, _⟩ := h; exact s.seq hWl) ?_ ?_⟩
    · rintro i x σ H' hx ⟨kvs, v4, v5, v6, v7, hd, hkv, hkl, sm, rfl⟩
      obtain ⟨r, er, hr'⟩ := datvs_has hWd hx
      obtain ⟨mq, eq, rfl⟩ := toRw_has er
      obtain ⟨tr, bp, pv, rfl, hRT, hPL, hPD⟩ := dat_row hr'
      have hil := (List.getElem?_eq_some_iff.mp eq).1
      have etk := take_snoc eq
      have mok := g.ok mq (List.mem_of_getElem? eq)
      have hpvl : pv.length = mq.ps.length := by have := hPD.length; rw [List.length_map] at this; exact this
      have hpl := mok.pl
      have hpt : ∀ p ∈ mq.ps, p.2 = none → ∃ s, lk (txs (rows.take i)) p.1 = some s ∧ s.length ≤ 5000 := fun p hp hn => by
        obtain ⟨j, hj, q', ej, em⟩ := g.pt i mq eq p hp hn
        refine ⟨tK rows j, ?_, g.tl j (by omega)⟩
        rw [← em]
        exact g.lk ej i hj (by omega)
      have hplen : ∀ p ∈ mq.ps, (pTx (txs (rows.take i)) p).length ≤ 5000 := fun p hp => by
        obtain ⟨i0, o⟩ := p
        cases o with
        | some s => have := (mok.pt (i0, some s) hp s rfl).2.1; show s.length ≤ 5000; omega
        | none =>
          obtain ⟨s, es, hs⟩ := hpt (i0, none) hp rfl
          show ((lk (txs (rows.take i)) i0).getD []).length ≤ 5000
          have es' : lk (txs (rows.take i)) i0 = some s := es
          rw [es']; exact hs
      have htl : (ren (txs (rows.take i)) mq).length ≤ 5000 := by rw [← tK_at eq]; exact g.tl i hil
      rw [etk, txs_snoc, topT_snoc]
      generalize txs (rows.take i) = acc at hkv hpt hplen htl ⊢
      refine ⟨tr, _, rfl, sm.seqT hRT, rfl, _, _, rfl, _, _, rfl, _, _, rfl, rfl, ?_⟩
      refine .inl ⟨⟨_, sm.seq hPL⟩, ?_⟩
      refine gath_list (xs := pv) (fun j zs σ' H'' => H'' = H' ∧ zs = (mq.ps.take j).map (fun p => V.str (S (pTx acc p))) ∧ ∃ v0 v1, σ' = [v0, v1, some (.ref tx)]) (by omega) ⟨rfl, rfl, none, none, rfl⟩
        (fun j zs σ' H'' h => by rw [h.2.1, List.length_map, List.length_take]; omega) (fun j zs σ' H'' h => by rw [h.1]; exact sm.seq hPL) ?_ ?_
      · rintro j y zs σ' H'' hj ⟨rfl, rfl, v0, v1, rfl⟩
        obtain ⟨p, ep, hp⟩ := datvs_has hPD hj
        obtain ⟨tp, rfl, hpT⟩ := dat_part hp
        have epk := take_snoc ep
        have hpm := List.mem_of_getElem? ep
        refine ⟨tp, _, rfl, sm.seqT hpT, rfl, _, _, rfl, _, _, rfl, rfl, ?_⟩
        obtain ⟨i0, o⟩ := p
        cases o with
        | none =>
          obtain ⟨s0, es, _⟩ := hpt (i0, none) hpm rfl
          have ev : valV kvs (Sum.inl i0) = some (.str (S s0)) := by rw [hkv i0, show lk acc i0 = some s0 from es]; rfl
          refine .inr (.inr ⟨_, DGet.ik hd ev, ?_⟩)
          refine ⟨rfl, ?_, _, _, rfl⟩
          rw [epk, List.map_append]
          show _ ++ [V.str (S s0)] = _ ++ [V.str (S ((lk acc i0).getD []))]
          rw [show lk acc i0 = some s0 from es]
          rfl
        | some s0 =>
          refine ⟨rfl, ?_, _, _, rfl⟩
          rw [epk, List.map_append]
          rfl
      rintro zs σ' H'' ⟨rfl, rfl, v0, v1, rfl⟩ ip hip
      rw [hpvl, List.take_length]
      have s2 : Same H'' (upd H'' ip (.lst (mq.ps.map fun p => V.str (S (pTx acc p))))) := same_new hip
      have h2 : upd H'' ip (.lst (mq.ps.map fun p => V.str (S (pTx acc p)))) ip = some (.lst (mq.ps.map fun p => V.str (S (pTx acc p)))) := upd_same
      generalize upd H'' ip (.lst (mq.ps.map fun p => V.str (S (pTx acc p)))) = H2 at s2 h2 ⊢
      have s02 := sm.trans s2
      obtain ⟨tq, x1, x2, x3, etq, hTq⟩ := hRu i mq eq
      refine ⟨rfl, .inl ⟨_, _, s02.seq hRv, atI_nat etq, ?_⟩⟩
      refine .inr (.inl ⟨_, _, s02.seqT hTq, rfl, ?_⟩)
      refine ⟨(show 1 ≤ sizeLine by decide), fun p3 hp3 => ?_⟩
      have s3 : Same H2 (upd H2 p3 (.lst [.str (S mq.sort)])) := same_new hp3
      have h3 : upd H2 p3 (.lst [.str (S mq.sort)]) p3 = some (.lst [.str (S mq.sort)]) := upd_same
      generalize upd H2 p3 (.lst [.str (S mq.sort)]) = H3 at s3 h3 ⊢
      refine .inl ⟨_, _, h3, s3 _ _ h2, by rw [List.length_map]; simp; omega, fun p4 hp4 => ?_⟩
      have s4 : Same H3 (upd H3 p4 (.lst ([.str (S mq.sort)] ++ mq.ps.map fun p => V.str (S (pTx acc p))))) := same_new hp4
      have h4 : upd H3 p4 (.lst ([.str (S mq.sort)] ++ mq.ps.map fun p => V.str (S (pTx acc p)))) p4 = some (.lst (((mq.sort :: mq.ps.map (pTx acc)).map S).map V.str)) := by
        rw [upd_same]
        simp
      generalize upd H3 p4 (.lst ([.str (S mq.sort)] ++ mq.ps.map fun p => V.str (S (pTx acc p)))) = H4 at s4 h4 ⊢
      have s24 := s3.trans s4
      have s04 := s02.trans s24
      have hjo : JoinOk (Str.ofString " ") ((mq.sort :: mq.ps.map (pTx acc)).map S) = true := by
        refine joinOk_of (B := 5000) (fun y hy => ?_) ?_
        · obtain ⟨z, hz, rfl⟩ := List.mem_map.mp hy
          rw [S_len]
          rcases List.mem_cons.mp hz with e | e
          · rw [e]; have := mok.s2; omega
          · obtain ⟨p, hp, rfl⟩ := List.mem_map.mp e
            exact hplen p hp
        · rw [List.length_map, List.length_cons, List.length_map]
          have : (Str.ofString " ").length = 1 := by decide +kernel
          rw [this]
          omega
      refine ⟨_, SqL.of h4, hjo, ?_⟩
      have ej : Txt.join (Str.ofString " ") ((mq.sort :: mq.ps.map (pTx acc)).map S) = S (mq.sort ++ inn acc mq.ps) := by
        rw [show Str.ofString " " = S [32] from rfl, txtJoin_S, join_inn, inn_map]
      rw [ej]
      have hin : (mq.sort ++ inn acc mq.ps).length ≤ 5000 := by
        have e : (ren acc mq).length = (mq.sort ++ inn acc mq.ps).length + 2 := by unfold ren; rw [List.length_cons, List.length_append]; rfl
        omega
      have e1 : ("(" : Str) ++ S (mq.sort ++ inn acc mq.ps) = S (40 :: (mq.sort ++ inn acc mq.ps)) := by
        rw [show ("(" : Str) = S [40] from rfl, S_app]; rfl
      have e2 : S (40 :: (mq.sort ++ inn acc mq.ps)) ++ (")" : Str) = S (ren acc mq) := by
        rw [show (")" : Str) = S [41] from rfl, S_app]; rfl
      refine ⟨by rw [show ("(" : Str).length = 1 by decide +kernel, S_len]; omega, ?_⟩
      rw [e1]
      refine ⟨by rw [show (")" : Str).length = 1 by decide +kernel, S_len, List.length_cons]; omega, ?_⟩
      rw [e2]
      have hd4 := s24 _ _ (s2 _ _ hd)
      refine ⟨_, DPut.ik hd4 (by omega), ?_⟩
      refine ⟨putK kvs (Sum.inl mq.m) (.str (S (ren acc mq))), _, _, _, _, upd_same, fun m => ?_, by have := length_putK kvs (Sum.inl mq.m) (.str (S (ren acc mq))); omega, fun b u e => ?_, rfl⟩
      · rw [valV_put, lk_snoc, hkv m]
        by_cases em : mq.m = m
        · rw [if_pos em, if_pos (by rw [em])]; rfl
        · rw [if_neg em, if_neg (fun z => em (Sum.inl.inj z).symm)]
      · rw [upd_ne fun z => by rw [z, htx] at e; cases e]; exact s04 b u e
    · rintro σ H' ⟨kvs, v4, v5, v6, v7, hd, hkv, hkl, sm, rfl⟩
      rw [hwl, List.take_length]
      exact q H' sm
end
end K82

set_option Elab.async false
set_option linter.all false
set_option maxRecDepth 100000
set_option maxHeartbeats 4000000




namespace K82
open PySem PySem.Spec PyProof.Rows L2 Rg
structure StV (K : PySem.W.Frag) (H : Hp) (ys : List V) (ps : List (Int × Option (List Nat))) : Prop where
  len : ys.length = ps.length
  at' : ∀ (k : Nat) (p : Int × Option (List Nat)), ps[k]? = some p → ∃ t, ys[k]? = some (.ref t) ∧ SqT K H t [.int p.1, txtV p.2]
theorem StV.mono {K : PySem.W.Frag} {H H' : Hp} {ys : List V} {ps : List (Int × Option (List Nat))} (h : StV K H ys ps) (e : ∀ t vs, SqT K H t vs → SqT K H' t vs) : StV K H' ys ps :=
  ⟨h.len, fun k p hp => let ⟨t, h1, h2⟩ := h.at' k p hp; ⟨t, h1, e _ _ h2⟩⟩
theorem StV.snoc {K : PySem.W.Frag} {H : Hp} {ys : List V} {ps : List (Int × Option (List Nat))} {t : Addr} {p : Int × Option (List Nat)} (h : StV K H ys ps) (ht : SqT K H t [.int p.1, txtV p.2]) : StV K H (ys ++ [.ref t]) (ps ++ [p]) := by
  refine ⟨by rw [List.length_append, List.length_append, h.len]; rfl, fun k q hq => ?_⟩
  by_cases hk : k < ps.length
  · rw [List.getElem?_append_left hk] at hq
    obtain ⟨t', h1, h2⟩ := h.at' k q hq
    exact ⟨t', by rw [List.getElem?_append_left (by rw [h.len]; exact hk)]; exact h1, h2⟩
  · have hl := (List.getElem?_eq_some_iff.mp hq).1
    have ek : k = ps.length := by simp at hl; omega
    subst ek
    rw [List.getElem?_append_right (Nat.le_refl _), Nat.sub_self] at hq
    cases hq
    exact ⟨t, by rw [List.getElem?_append_right (by rw [h.len]; exact Nat.le_refl _), h.len, Nat.sub_self]; rfl, ht⟩
theorem txt_dat {K : PySem.W.Frag} {H : Hp} (o : Option (List Nat)) : DatV K H (txtV o) (txtD o) := by
  cases o with
  | none => exact .none
  | some s => exact .str _
theorem StV.dats {K : PySem.W.Frag} {H : Hp} : ∀ {ys : List V} {ps : List (Int × Option (List Nat))}, StV K H ys ps → DatVs K H ys (ps.map partDat)
  | [], [], _ => .nil
  | [], _ :: _, h => by have := h.len; simp at this
  | _ :: _, [], h => by have := h.len; simp at this
  | y :: ys, p :: ps, h => by
    obtain ⟨t, h1, h2⟩ := h.at' 0 p rfl
    cases h1
    refine .cons (.tuple h2 (.cons (.int _) (.cons (txt_dat _) .nil))) (StV.dats ⟨by have := h.len; simpa using this, fun k q hq => h.at' (k + 1) q hq⟩)
theorem StV.init {K : PySem.W.Frag} {H : Hp} {ys : List V} {ps : List (Int × Option (List Nat))} {p : Int × Option (List Nat)} (h : StV K H ys (ps ++ [p])) : StV K H ys.dropLast ps := by
  have hl := h.len
  refine ⟨by rw [List.length_dropLast, hl]; simp, fun k x hx => ?_⟩
  have hk := (List.getElem?_eq_some_iff.mp hx).1
  obtain ⟨t, h1, h2⟩ := h.at' k x (by rw [List.getElem?_append_left hk]; exact hx)
  refine ⟨t, ?_, h2⟩
  rw [List.getElem?_dropLast, if_pos (by rw [hl]; simp; exact hk)]
  exact h1
theorem seqT_upd {K : PySem.W.Frag} {H : Hp} {c t : Addr} {ys : List V} {o : HO} {xs : List V} (hc : H c = some (.lst ys)) (h : SqT K H t xs) : SqT K (upd H c o) t xs := by
  have nc : ∀ {u : HO}, H t = some u → (∀ zs, u ≠ .lst zs) → upd H c o t = some u := fun {u} e hn => by
    have : t ≠ c := fun z => by rw [z, hc] at e; exact hn ys (Option.some.inj e).symm
    rw [upd_ne this]; exact e
  rcases h with (h | ⟨o', h⟩) | h
  · exact .inl (.inl (nc h (fun zs z => nomatch z)))
  · exact .inl (.inr ⟨o', nc h (fun zs z => nomatch z)⟩)
  · exact .inr h
theorem part_lay1 : ∀ {ps : List (Int × Option (List Nat))}, (∀ p ∈ ps, ∀ s, p.2 = some s → ∀ c ∈ s, okSign c) → PyData.canLayAll0 (ps.map partDat) = true
  | [], _ => by simp only [List.map_nil, PyData.canLayAll0]
  | (i, o) :: r, h => by
    have h1 : (partDat (i, o)).canLay0 = true := by
      cases o with
      | none => unfold partDat txtD; simp only [PyData.canLay0, PyData.canLayAll0, Bool.and_self]
      | some s =>
        have := strOk_S (h (i, some s) List.mem_cons_self s rfl)
        unfold partDat txtD
        simp only [PyData.canLay0, PyData.canLayAll0, this, Bool.and_self]
    rw [List.map_cons]
    simp only [PyData.canLayAll0, h1, part_lay1 fun x hx => h x (List.mem_cons_of_mem _ hx), Bool.and_self]
theorem ent_sign {rows : List MR} {p : Int × Option (List Nat)} (h : EntOk rows p) : ∀ s, p.2 = some s → ∀ c ∈ s, okSign c := fun s e => by
  rcases h with ⟨s', e', _, h3⟩ | ⟨e', _⟩
  · rw [e] at e'; cases e'; exact h3
  · rw [e] at e'; cases e'
theorem rw_lay : ∀ {rs : List Rw}, (∀ r ∈ rs, ∀ p ∈ r.ps, ∀ s, p.2 = some s → ∀ c ∈ s, okSign c) → PyData.canLayAll0 (rs.map rowDat) = true
  | [], _ => by simp only [List.map_nil, PyData.canLayAll0]
  | q :: r, h => by
    have h0 := part_lay1 (h q List.mem_cons_self)
    have h1 : (rowDat q).canLay0 = true := by
      unfold rowDat
      simp only [PyData.canLay0, PyData.canLayAll0, h0, Bool.and_self]
    rw [List.map_cons]
    simp only [PyData.canLayAll0, h1, rw_lay fun x hx => h x (List.mem_cons_of_mem _ hx), Bool.and_self]
theorem rows_lay {rows : List MR} (g : GoodR rows) (num : Nat → Nat) : PyData.canLayAll0 ((toRw rows num).map rowDat) = true := rw_lay fun r hr p hp s e => by
  obtain ⟨k, hk, rfl⟩ := List.mem_iff_getElem.mp hr
  obtain ⟨q, eq, er⟩ := toRw_has (List.getElem?_eq_getElem hk)
  rw [er] at hp
  exact ((g.ok q (List.mem_of_getElem? eq)).pt p hp s e).2.2
section
variable {P : Program} {w : World} {K : PySem.W.Frag} {mg : Str → Option Value} {base : Heap}
def spDue (K : PySem.W.Frag) : Sp := fun vs H Q _ => ∃ (rl wl : Addr) (rv : List V) (rows : List MR) (num : Nat → Nat), vs = [.ref rl, .ref wl] ∧ SqL K H rl rv ∧ DatV K H (.ref wl) (.list ((toRw rows num).map rowDat)) ∧ RuAt K H rv rows num ∧ GoodR rows ∧
  ∀ H', Same H H' → Q (.str (S (topT rows))) H'
abbrev st__law_due : Stmt := top 10
theorem sc__law_due : FnScope ["_law_rules", "_law_rows", "_law_known", "_law_row_here", "_law_told_here", "_law_waiting", "_law_mark", "_law_text", "_law_part"] ["_law_rules", "_law_rows"] (defScope st__law_due) := ⟨rfl, rfl, rfl, by decide +kernel, rfl, by decide +kernel, by decide +kernel⟩
theorem def_due (R : Raw K mg "_law_due" st__law_due ["_law_rules", "_law_rows"]) (T : Txt K w mg) : Def P w K mg base 1 "_law_due" ["_law_rules", "_law_rows"] (spDue K) := by
  refine R.defJ sc__law_due (fun vs H Q E h => ?_) (fun f cdv A outer s H vs Q E hr h => ?_)
  · obtain ⟨rl, wl, rv, rows, num, rfl, _⟩ := h
    rfl
  · obtain ⟨rl, wl, rv, rows, num, rfl, hRv, hW, hRu, g, q⟩ := h
    have sc := sc__law_due
    have hu := hr.units
    have hb := big
    obtain ⟨_, wv, e0, hWl, hWd⟩ := dat_list hW
    cases e0
    have hwl : wv.length = rows.length := by have := hWd.length; rw [List.length_map, toRw_len] at this; exact this
    have hgl := g.len
    have lay2 : (PyData.list []).canLay0 = true := by simp only [PyData.canLay0, PyData.canLayAll0]
    have dep : ∀ d : PyData, min d.depth (PyData.list []).depth ≤ 60 := fun d => by
      have : (PyData.list []).depth ≤ 60 := by simp only [PyData.depth, PyData.depthAll]; omega
      omega
    refine ⟨_, (jss_cons (js_if (jt_cmp (o_eq hu (K := K)) (jn 1) (j_lst ja_nil))
    (jss_one (js_ret j_str))
    jss_nil)
    (jss_cons (js_set (i := 2) sc.nd rfl (Or.inl rfl) j_dnewK)
    (jss_cons (js_for PassesOwn.never rfl (ji_any (K := K) (jn 1)) (jg_name (i := 3) sc.nd rfl (Or.inl rfl))
    (jss_one (js_dput hu (jn 2) (j_ix (o_ixA hu (K := K) (w := w)) (jn 3) j_int) (jn 3))))
    (jss_cons (js_set (i := 4) sc.nd rfl (Or.inl rfl) j_str)
    (jss_cons (js_set (i := 5) sc.nd rfl (Or.inl rfl) (j_lst (ja_cons (j_tup (ja_cons (j_ix (o_ixA hu (K := K) (w := w)) (j_ix (o_ixA hu (K := K) (w := w)) (jn 1) (j_op o_sub (j_callB (c_len (K := K)) rfl T.n_len PySem.boot_len (ja_cons (jn 1) ja_nil)) j_int)) j_int) (ja_cons j_non ja_nil))) ja_nil)))
    (jss_cons (js_while PassesOwn.never (jt_cmp (o_ne hu (K := K)) (jn 5) (j_lst ja_nil))
    (jss_cons (js_asg (j_bm0 (K := K) PySem.F.plainAttrs_list PySem.F.slot_list_pop PySem.F.type_list_pop m_pop (jn 5)) (jg_tup (K := K) (n := 2) rfl (jgs_cons (jg_name (i := 6) sc.nd rfl (Or.inl rfl)) (jgs_cons (jg_name (i := 7) sc.nd rfl (Or.inl rfl)) jgs_nil))))
    (jss_one (js_if (jt_cmp o_isnot (jn 7) j_non)
    (jss_one (js_set (i := 4) sc.nd rfl (Or.inl rfl) (j_op (o_add (K := K)) (jn 4) (jn 7))))
    (jss_cons (js_set (i := 4) sc.nd rfl (Or.inl rfl) (j_op (o_add (K := K)) (j_op (o_add (K := K)) (jn 4) j_str) (j_ix (o_ixA hu (K := K) (w := w)) (j_ix (o_ixA hu (K := K) (w := w)) (jn 0) (j_ix (o_ixA hu (K := K) (w := w)) (j_ix (o_ixA hu (K := K) (w := w)) (jn 2) (jn 6)) j_int)) j_int)))
    (jss_cons (js_expr (j_bm (K := K) PySem.F.plainAttrs_list PySem.F.slot_list_append PySem.F.type_list_append m_append (jn 5) (ja_cons (j_tup (ja_cons j_int (ja_cons j_str ja_nil))) ja_nil)))
    (jss_one (js_for PassesOwn.never rfl (ji_rev (K := K) rfl T.n_reversed (ja_cons (j_ix (o_ixA hu (K := K) (w := w)) (j_ix (o_ixA hu (K := K) (w := w)) (jn 2) (jn 6)) j_int) ja_nil)) (jg_name (i := 8) sc.nd rfl (Or.inl rfl))
    (jss_cons (js_expr (j_bm (K := K) PySem.F.plainAttrs_list PySem.F.slot_list_append PySem.F.type_list_append m_append (jn 5) (ja_cons (jn 8) ja_nil)))
    (jss_one (js_expr (j_bm (K := K) PySem.F.plainAttrs_list PySem.F.slot_list_append PySem.F.type_list_append m_append (jn 5) (ja_cons (j_tup (ja_cons j_int (ja_cons j_str ja_nil))) ja_nil)))))))))))))
    (jss_one (js_ret (jn 4))))))))), ?_⟩
    refine ⟨(show 0 ≤ sizeLine by decide), fun p0 hp0 => ?_⟩
    have s0 : Same H (upd H p0 (.lst [])) := same_new hp0
    have h0 : upd H p0 (.lst []) p0 = some (.lst []) := upd_same
    generalize upd H p0 (.lst []) = H0 at s0 h0 ⊢
    refine ⟨_, _, hW.same s0, .list (SqL.of h0) .nil, by simp only [PyData.canLay0]; exact rows_lay g num, lay2, dep _, ?_⟩
    rw [eqv_nil]
    cases hrows : rows with
    | nil =>
      rw [hrows] at q
      exact q H0 s0
    | cons a0 r0 =>
    rw [← hrows]
    have hne : rows ≠ [] := by rw [hrows]; exact List.cons_ne_nil _ _
    have hpos : 0 < rows.length := List.length_pos_iff.mpr hne
    have e1 : ((toRw rows num).map rowDat).isEmpty = false := by
      cases hh : (toRw rows num).map rowDat with
      | nil => have := congrArg List.length hh; rw [List.length_map, toRw_len] at this; exact absurd (List.length_eq_zero_iff.mp this) hne
      | cons a b => rfl
    show if (false ^^ ((toRw rows num).map rowDat).isEmpty) = true then _ else _
    rw [e1, if_neg (by decide)]
    refine fun kd hkd => ?_
    have s1 : Same H0 (upd H0 kd (.dK [])) := same_new hkd
    have h1 : upd H0 kd (.dK []) kd = some (.dK []) := upd_same
    generalize upd H0 kd (.dK []) = H1 at s1 h1 ⊢
    have s01 := s0.trans s1
    have nkd : ∀ {b : Addr} {u : HO}, H b = some u → b ≠ kd := fun e z => by have := s0 _ _ e; rw [z, hkd] at this; cases this
    refine .inl ⟨⟨_, s01.seq hWl⟩, for_list (K := K) (a := wl) (xs := wv) (fun i σ H' => ∃ (kvs : List (Key × V)) (v3 : Option V), H' kd = some (.dK kvs) ∧ kvs.length ≤ i ∧ (∀ (k : Nat) (q : MR), k < i → rows[k]? = some q → ∃ t, wv[k]? = some (.ref t) ∧ valV kvs (Sum.inl q.m) = some (.ref t)) ∧ Same H H' ∧
        σ = [some (.ref rl), some (.ref wl), some (.ref kd), v3, none, none, none, none, none])
      ⟨[], none, h1, Nat.le_refl _, (fun k q hk => by omega), s01, rfl⟩ (fun i σ H' _ h => by obtain ⟨_, _, _, _, _, s, _⟩ := h; exact s.seq hWl) ?_ ?_⟩
    · rintro i x σ H' hx ⟨kvs, v3, hd, hkl, hkn, sm, rfl⟩
      obtain ⟨r, er, hr'⟩ := datvs_has hWd hx
      obtain ⟨mq, eq, rfl⟩ := toRw_has er
      obtain ⟨tr, bp, pv, rfl, hRT, hPL, hPD⟩ := dat_row hr'
      have hil := (List.getElem?_eq_some_iff.mp eq).1
      refine .inr (.inl ⟨_, _, sm.seqT hRT, rfl, ?_⟩)
      refine ⟨_, DPut.ik hd (by omega), ?_⟩
      refine ⟨putK kvs (Sum.inl mq.m) (.ref tr), _, upd_same, by have := length_putK kvs (Sum.inl mq.m) (.ref tr); omega, fun k q' hk ek => ?_, fun b u e => ?_, rfl⟩
      · rw [valV_put]
        by_cases em : q'.m = mq.m
        · rw [if_pos (by rw [em])]
          have : k = i := g.inj ek eq em
          subst this
          exact ⟨tr, hx, rfl⟩
        · rw [if_neg (fun z => em (Sum.inl.inj z))]
          have hki : k < i := by
            by_cases h : k = i
            · subst h; rw [eq] at ek; cases ek; exact absurd rfl em
            · omega
          exact hkn k q' hki ek
      · rw [upd_ne (nkd e)]; exact sm b u e
    · rintro σ H' ⟨kvs, v3, hd, hkl, hkn, sm, rfl⟩
      rw [hwl] at hkn
      replace hkn : ∀ (k : Nat) (q : MR), rows[k]? = some q → ∃ t, wv[k]? = some (.ref t) ∧ valV kvs (Sum.inl q.m) = some (.ref t) := fun k q e => hkn k q (List.getElem?_eq_some_iff.mp e).1 e
      have elast := List.getElem?_eq_getElem (show rows.length - 1 < rows.length by omega)
      generalize rows[rows.length - 1] = ql at elast
      obtain ⟨yl, eyl, hyl⟩ := datvs_at hWd (toRw_at (num := num) elast)
      obtain ⟨tl, bl, pl', rfl, hTl, _, _⟩ := dat_row hyl
      have eix : atI wv (((wv.length : Nat) : Int) - 1) = some (.ref tl) := by
        rw [show ((wv.length : Nat) : Int) - 1 = ((rows.length - 1 : Nat) : Int) by omega]
        exact atI_nat eyl
      refine ⟨_, .inl (sm.seq hWl), .inl ⟨_, _, sm.seq hWl, eix, ?_⟩⟩
      refine .inr (.inl ⟨_, _, sm.seqT hTl, rfl, ?_⟩)
      refine ⟨(show 2 ≤ sizeLine by decide), fun t2 ht2 => ?_⟩
      have s2 : Same H' (upd H' t2 (.tup [.int ql.m, .non])) := same_new ht2
      have h2 : upd H' t2 (.tup [.int ql.m, .non]) t2 = some (.tup [.int ql.m, .non]) := upd_same
      generalize upd H' t2 (.tup [.int ql.m, .non]) = H2 at s2 h2 ⊢
      refine ⟨(show 1 ≤ sizeLine by decide), fun wa hwa => ?_⟩
      have s3 : Same H2 (upd H2 wa (.lst [.ref t2])) := same_new hwa
      have h3 : upd H2 wa (.lst [.ref t2]) wa = some (.lst [.ref t2]) := upd_same
      have nwa : ∀ {b : Addr} {u : HO}, H2 b = some u → b ≠ wa := fun e z => by rw [z, hwa] at e; cases e
      generalize upd H2 wa (.lst [.ref t2]) = H3 at s3 h3 ⊢
      have s02 := sm.trans s2
      have hd2 := s2 _ _ hd
      have htop : topT rows = tK rows (rows.length - 1) := topT_last hne
      have htl : (topT rows).length ≤ 5000 := by rw [htop]; exact g.tl _ (by omega)
      have hfl0 : flatS (txs rows) [(ql.m, none)] = topT rows := by
        show pTx (txs rows) (ql.m, none) ++ [] = _
        rw [List.append_nil, htop]
        show (lk (txs rows) ql.m).getD [] = _
        rw [g.lkAll elast]
        rfl
      refine ⟨fun m σ H' => ∃ (sv : List V) (st : List (Int × Option (List Nat))) (told : List Nat) (v6 v7 v8 : Option V), m = (flatS (txs rows) st).length ∧ Same H2 H' ∧ H' wa = some (.lst sv) ∧ StV K H' sv st ∧ (∀ p ∈ st, EntOk rows p) ∧ told ++ flatS (txs rows) st = topT rows ∧
          σ = [some (.ref rl), some (.ref wl), some (.ref kd), v3, some (.str (S told)), some (.ref wa), v6, v7, v8],
        ⟨_, [.ref t2], [(ql.m, none)], [], none, none, none, rfl, s3, h3, ?_, ?_, hfl0, rfl⟩, ?_⟩
      · refine ⟨rfl, fun k p e => ?_⟩
        cases k with
        | zero => cases e; exact ⟨t2, rfl, SqT.of (s3 _ _ h2)⟩
        | succ k => cases e
      · intro p hp
        rw [List.mem_singleton.mp hp]
        exact .inr ⟨rfl, _, ql, elast, rfl⟩
      rintro m σ H5 ⟨sv, st, told, v6, v7, v8, rfl, s5, hsv, hst, hent, htold, rfl⟩
      have hsl := flat_len g st hent
      have htl5 : told.length + (flatS (txs rows) st).length ≤ 5000 := by rw [← List.length_append, htold]; exact htl
      have hsvl := hst.len
      refine ⟨(show 0 ≤ sizeLine by decide), fun p6 hp6 => ?_⟩
      have s6 : Same H5 (upd H5 p6 (.lst [])) := same_new hp6
      have h6 : upd H5 p6 (.lst []) p6 = some (.lst []) := upd_same
      generalize upd H5 p6 (.lst []) = H6 at s6 h6 ⊢
      have hst6 := hst.mono fun t vs e => s6.seqT e
      refine ⟨.list (st.map partDat), .list [], .list (SqL.of (s6 _ _ hsv)) hst6.dats, .list (SqL.of h6) .nil, by simp only [PyData.canLay0]; exact part_lay1 fun p hp => ent_sign (hent p hp), lay2, dep _, ?_⟩
      rw [eqv_nil]
      cases hst0 : st with
      | nil =>
        rw [hst0] at htold
        have e : told = topT rows := by rw [← htold]; exact (List.append_nil _).symm
        rw [e]
        exact q H6 ((s02.trans s5).trans s6)
      | cons a1 r1 =>
      rw [← hst0]
      have hsn : st ≠ [] := by rw [hst0]; exact List.cons_ne_nil _ _
      have e2 : (st.map partDat).isEmpty = false := by rw [hst0]; rfl
      show if (true ^^ (st.map partDat).isEmpty) = true then _ else _
      rw [e2, if_pos (by decide)]
      obtain ⟨st', p, rfl⟩ : ∃ st' p, st = st' ++ [p] := ⟨st.dropLast, st.getLast hsn, (List.dropLast_concat_getLast hsn).symm⟩
      clear hst0 e2 hsn
      have hlast : (st' ++ [p])[st'.length]? = some p := by rw [List.getElem?_append_right (Nat.le_refl _), Nat.sub_self]; rfl
      obtain ⟨t7, e7, hT7⟩ := hst6.at' _ p hlast
      have hsv' : sv.length = st'.length + 1 := by rw [hsvl]; simp
      rw [flat_snoc] at htold htl5 ⊢
      have hfpos := ent_pos g (hent p (by simp))
      have s26 := s5.trans s6
      refine ⟨fun σ' H' => ∃ (sv : List V) (st2 : List (Int × Option (List Nat))) (told2 : List Nat) (v6 v7 v8 : Option V), (flatS (txs rows) st2).length < (pTx (txs rows) p ++ flatS (txs rows) st').length ∧ Same H2 H' ∧ H' wa = some (.lst sv) ∧ StV K H' sv st2 ∧ (∀ p ∈ st2, EntOk rows p) ∧ told2 ++ flatS (txs rows) st2 = topT rows ∧
          σ' = [some (.ref rl), some (.ref wl), some (.ref kd), v3, some (.str (S told2)), some (.ref wa), v6, v7, v8], ?_, ?_⟩
      · rintro σ' H' ⟨sv, st2, told2, v6, v7, v8, a1, a2, a3, a4, a5, a6, a7⟩
        exact ⟨_, a1, sv, st2, told2, v6, v7, v8, rfl, a2, a3, a4, a5, a6, a7⟩
      refine ⟨.inl ⟨rfl, _, SqL.of (s6 _ _ hsv)⟩, sv, .ref t7, s6 _ _ hsv, by rw [show sv.length - 1 = st'.length by omega]; exact e7, ?_⟩
      have s7 : Same H2 (upd H6 wa (.lst sv.dropLast)) := fun b u e => by rw [upd_ne (nwa e)]; exact s26 b u e
      have h7 : upd H6 wa (.lst sv.dropLast) wa = some (.lst sv.dropLast) := upd_same
      have hst7 : StV K (upd H6 wa (.lst sv.dropLast)) sv.dropLast st' := hst6.init.mono fun t vs e => seqT_upd (s6 _ _ hsv) e
      have hT7' : SqT K (upd H6 wa (.lst sv.dropLast)) t7 [.int p.1, txtV p.2] := seqT_upd (s6 _ _ hsv) hT7
      generalize upd H6 wa (.lst sv.dropLast) = H7 at s7 h7 hst7 hT7' ⊢
      have hdl : sv.dropLast.length = st'.length := by rw [List.length_dropLast]; omega
      generalize sv.dropLast = sv7 at h7 hst7 hdl ⊢
      have hent' : ∀ p ∈ st', EntOk rows p := fun x hx => hent x (by simp [hx])
      have hp' := hent p (by simp)
      refine ⟨t7, _, rfl, hT7', rfl, _, _, rfl, _, _, rfl, rfl, ?_⟩
      have hpl5 : told.length + (pTx (txs rows) p).length + (flatS (txs rows) st').length ≤ 5000 := by rw [List.length_append] at htl5; omega
      obtain ⟨i0, o⟩ := p
      cases o with
      | some s0 =>
        have hs0 : pTx (txs rows) (i0, some s0) = s0 := rfl
        rw [hs0] at htold hpl5 hfpos
        refine ⟨by rw [S_len, S_len]; omega, ?_⟩
        rw [S_app]
        refine ⟨sv7, st', told ++ s0, _, _, _, by rw [List.length_append, hs0]; omega, s7, h7, hst7, hent', by rw [List.append_assoc]; exact htold, rfl⟩
      | none =>
        rcases hp' with ⟨s', e', _⟩ | ⟨_, k, mq, ek, em⟩
        · cases e'
        have hnode := g.node ek (m := i0) em
        rw [hnode] at htold hpl5
        have mok := g.ok mq (List.mem_of_getElem? ek)
        obtain ⟨t8, et8, ev8⟩ := hkn k mq ek
        obtain ⟨y8, ey8, hy8⟩ := datvs_at hWd (toRw_at (num := num) ek)
        obtain ⟨tr, bp, pv, rfl, hRT, hPL, hPD⟩ := dat_row hy8
        rw [et8] at ey8
        cases ey8
        obtain ⟨tq, x1, x2, x3, etq, hTq⟩ := hRu k mq ek
        have sH7 := s02.trans s7
        have em' : mq.m = i0 := em
        rw [em'] at ev8
        have hlen : (40 :: (mq.sort ++ (inn (txs rows) mq.ps ++ [41]))).length = 2 + mq.sort.length + (inn (txs rows) mq.ps).length := by
          rw [List.length_cons, List.length_append, List.length_append]; simp; omega
        rw [hlen] at hpl5
        refine ⟨by rw [show ("(" : Str).length = 1 by decide +kernel, S_len]; omega, ?_⟩
        refine .inr (.inr ⟨_, DGet.ik (s7 _ _ hd2) ev8, ?_⟩)
        refine .inr (.inl ⟨_, _, sH7.seqT hRT, rfl, ?_⟩)
        refine .inl ⟨_, _, sH7.seq hRv, atI_nat etq, ?_⟩
        refine .inr (.inl ⟨_, _, sH7.seqT hTq, rfl, ?_⟩)
        have e3 : S told ++ ("(" : Str) = S (told ++ [40]) := by rw [show ("(" : Str) = S [40] from rfl, S_app]
        rw [e3]
        refine ⟨by rw [S_len, S_len, List.length_append]; simp; omega, ?_⟩
        rw [S_app]
        refine ⟨.inl ⟨rfl, _, SqL.of h7⟩, (show 2 ≤ sizeLine by decide), fun t9 ht9 => ?_⟩
        have s9 : Same H7 (upd H7 t9 (.tup [.int 0, .str ")"])) := same_new ht9
        have h9 : upd H7 t9 (.tup [.int 0, .str ")"]) t9 = some (.tup [.int 0, txtV (some [41])]) := upd_same
        generalize upd H7 t9 (.tup [.int 0, .str ")"]) = H9 at s9 h9 ⊢
        have hfl' := flat_len g st' hent'
        refine ⟨sv7, s9 _ _ h7, by omega, ?_⟩
        have s10 : Same H2 (upd H9 wa (.lst (sv7 ++ [.ref t9]))) := fun b u e => by rw [upd_ne (nwa e)]; exact s9 _ _ (s7 b u e)
        have h10 : upd H9 wa (.lst (sv7 ++ [.ref t9])) wa = some (.lst (sv7 ++ [.ref t9])) := upd_same
        have hst10 : StV K (upd H9 wa (.lst (sv7 ++ [.ref t9]))) (sv7 ++ [.ref t9]) (st' ++ [(0, some [41])]) :=
          ((hst7.mono fun t vs e => s9.seqT e).snoc (p := (0, some [41])) (SqT.of h9)).mono fun t vs e => seqT_upd (s9 _ _ h7) e
        generalize upd H9 wa (.lst (sv7 ++ [.ref t9])) = H10 at s10 h10 hst10 ⊢
        have sH10 := s02.trans s10
        have hpvl : pv.length = mq.ps.length := by have := hPD.length; rw [List.length_map] at this; exact this
        refine .inr (.inr ⟨_, DGet.ik (s10 _ _ hd2) ev8, ?_⟩)
        refine .inr (.inl ⟨_, _, sH10.seqT hRT, rfl, ?_⟩)
        refine ⟨pv, sH10.seq hPL, for_rev (K := K) (a := bp) (xs := pv) (fun i σ H' => ∃ (sv2 : List V) (st2 : List (Int × Option (List Nat))) (v8 : Option V), Same H2 H' ∧ H' wa = some (.lst sv2) ∧ StV K H' sv2 st2 ∧ (∀ p ∈ st2, EntOk rows p) ∧ flatS (txs rows) st2 = inn (txs rows) (mq.ps.drop (mq.ps.length - i)) ++ 41 :: flatS (txs rows) st' ∧
            σ = [some (.ref rl), some (.ref wl), some (.ref kd), v3, some (.str (S (told ++ [40] ++ mq.sort))), some (.ref wa), some (.int i0), some .non, v8])
          ⟨_, _, v8, s10, h10, hst10, ?_, ?_, rfl⟩ (fun i σ H' _ h => by obtain ⟨_, _, _, s, _⟩ := h; exact (s02.trans s).seq hPL) ?_ ?_⟩
        · intro x hx
          rcases List.mem_append.mp hx with z | z
          · exact hent' x z
          · rw [List.mem_singleton.mp z]
            exact .inl ⟨[41], rfl, by decide, fun c hc => by rw [List.mem_singleton.mp hc]; exact .inl (by decide)⟩
        · rw [flat_snoc, Nat.sub_zero, List.drop_length]
          rfl
        · rintro i x σ H' hi hx ⟨sv2, st2, v8', s11, h11, hst11, hent11, hfl11, rfl⟩
          have hj : pv.length - 1 - i < mq.ps.length := by omega
          have ep := List.getElem?_eq_getElem hj
          generalize hpp : mq.ps[pv.length - 1 - i] = pp at ep
          obtain ⟨y, ey, hy⟩ := datvs_at hPD ep
          obtain ⟨tp, rfl, hTp⟩ := dat_part hy
          rw [hx] at ey
          cases ey
          have hdr : mq.ps.drop (mq.ps.length - (i + 1)) = pp :: mq.ps.drop (mq.ps.length - i) := by
            rw [show mq.ps.length - (i + 1) = pv.length - 1 - i by omega, List.drop_eq_getElem_cons hj, hpp, show pv.length - 1 - i + 1 = mq.ps.length - i by omega]
          have hflen := flat_len g st2 hent11
          have hid := inn_drop_len (txs rows) mq.ps (mq.ps.length - i)
          have hst2 : st2.length ≤ 5000 := by rw [hfl11, List.length_append, List.length_cons] at hflen; omega
          have h2l := hst11.len
          refine ⟨.inl ⟨rfl, _, SqL.of h11⟩, _, h11, by omega, ?_⟩
          have s12 : Same H2 (upd H' wa (.lst (sv2 ++ [.ref tp]))) := fun b u e => by rw [upd_ne (nwa e)]; exact s11 b u e
          have h12 : upd H' wa (.lst (sv2 ++ [.ref tp])) wa = some (.lst (sv2 ++ [.ref tp])) := upd_same
          have hst12 : StV K (upd H' wa (.lst (sv2 ++ [.ref tp]))) (sv2 ++ [.ref tp]) (st2 ++ [pp]) := (hst11.snoc ((s02.trans s11).seqT hTp)).mono fun t vs e => seqT_upd h11 e
          generalize upd H' wa (.lst (sv2 ++ [.ref tp])) = H12 at s12 h12 hst12 ⊢
          refine ⟨.inl ⟨rfl, _, SqL.of h12⟩, (show 2 ≤ sizeLine by decide), fun t13 ht13 => ?_⟩
          have s13 : Same H12 (upd H12 t13 (.tup [.int 0, .str " "])) := same_new ht13
          have h13 : upd H12 t13 (.tup [.int 0, .str " "]) t13 = some (.tup [.int 0, txtV (some [32])]) := upd_same
          generalize upd H12 t13 (.tup [.int 0, .str " "]) = H13 at s13 h13 ⊢
          refine ⟨_, s13 _ _ h12, by rw [List.length_append]; simp; omega, ?_⟩
          refine ⟨_, st2 ++ [pp] ++ [(0, some [32])], _, fun b u e => ?_, upd_same, ?_, fun x hx => ?_, ?_, rfl⟩
          · rw [upd_ne (nwa e)]; exact s13 _ _ (s12 b u e)
          · exact ((hst12.mono fun t vs e => s13.seqT e).snoc (p := (0, some [32])) (SqT.of h13)).mono fun t vs e => seqT_upd (s13 _ _ h12) e
          · rcases List.mem_append.mp hx with z | z
            · rcases List.mem_append.mp z with z | z
              · exact hent11 x z
              · rw [List.mem_singleton.mp z]; exact g.ent ek pp (List.mem_of_getElem? ep)
            · rw [List.mem_singleton.mp z]
              exact .inl ⟨[32], rfl, by decide, fun c hc => by rw [List.mem_singleton.mp hc]; exact .inl (by decide)⟩
          · rw [flat_snoc, flat_snoc, hdr, inn_cons, hfl11]
            show 32 :: (pTx (txs rows) pp ++ _) = 32 :: (pTx (txs rows) pp ++ _) ++ _
            rw [List.cons_append, List.append_assoc]
        · rintro σ H' ⟨sv2, st2, v8', s11, h11, hst11, hent11, hfl11, rfl⟩
          rw [hpvl, Nat.sub_self, List.drop_zero] at hfl11
          refine ⟨sv2, st2, told ++ [40] ++ mq.sort, _, _, _, ?_, s11, h11, hst11, hent11, ?_, rfl⟩
          · rw [hfl11, hnode, List.length_append, List.length_append, hlen, List.length_cons]; omega
          · rw [hfl11, ← htold]
            simp
end
end K82

set_option Elab.async false
set_option linter.all false
set_option maxRecDepth 100000
set_option maxHeartbeats 4000000



namespace K82
open PySem PySem.Spec PyProof.Rows L2 Rg
structure TV {α : Type} (g : α → List V) (H : Hp) (ys : List V) (l : List α) : Prop where
  len : ys.length = l.length
  at' : ∀ (k : Nat) (a : α), l[k]? = some a → ∃ t, ys[k]? = some (.ref t) ∧ H t = some (.tup (g a))
theorem TV.mono {α : Type} {g : α → List V} {H H' : Hp} {ys : List V} {l : List α} (h : TV g H ys l) (e : ∀ t vs, H t = some (.tup vs) → H' t = some (.tup vs)) : TV g H' ys l :=
  ⟨h.len, fun k p hp => let ⟨t, h1, h2⟩ := h.at' k p hp; ⟨t, h1, e _ _ h2⟩⟩
theorem TV.snoc {α : Type} {g : α → List V} {H : Hp} {ys : List V} {l : List α} {t : Addr} {a : α} (h : TV g H ys l) (ht : H t = some (.tup (g a))) : TV g H (ys ++ [.ref t]) (l ++ [a]) := by
  refine ⟨by rw [List.length_append, List.length_append, h.len]; rfl, fun k q hq => ?_⟩
  by_cases hk : k < l.length
  · rw [List.getElem?_append_left hk] at hq
    obtain ⟨t', h1, h2⟩ := h.at' k q hq
    exact ⟨t', by rw [List.getElem?_append_left (by rw [h.len]; exact hk)]; exact h1, h2⟩
  · have hl := (List.getElem?_eq_some_iff.mp hq).1
    have ek : k = l.length := by simp at hl; omega
    subst ek
    rw [List.getElem?_append_right (Nat.le_refl _), Nat.sub_self] at hq
    cases hq
    exact ⟨t, by rw [List.getElem?_append_right (by rw [h.len]; exact Nat.le_refl _), h.len, Nat.sub_self]; rfl, ht⟩
theorem TV.erase {α : Type} {g : α → List V} {H : Hp} {ys : List V} {l : List α} (h : TV g H ys l) (k : Nat) : TV g H (ys.eraseIdx k) (l.eraseIdx k) := by
  have hl := h.len
  refine ⟨by rw [List.length_eraseIdx, List.length_eraseIdx, hl], fun j a ha => ?_⟩
  rw [List.getElem?_eraseIdx] at ha ⊢
  split at ha
  · rename_i hj; rw [if_pos hj]; exact h.at' j a ha
  · rename_i hj; rw [if_neg hj]; exact h.at' (j + 1) a ha
theorem TV.drop {α : Type} {g : α → List V} {H : Hp} {ys : List V} {l : List α} (h : TV g H ys l) (k : Nat) : TV g H (ys.drop k) (l.drop k) :=
  ⟨by rw [List.length_drop, List.length_drop, h.len], fun j a ha => by rw [List.getElem?_drop] at ha ⊢; exact h.at' _ a ha⟩
theorem TV.take {α : Type} {g : α → List V} {H : Hp} {ys : List V} {l : List α} (h : TV g H ys l) (k : Nat) : TV g H (ys.take k) (l.take k) := by
  refine ⟨by rw [List.length_take, List.length_take, h.len], fun j a ha => ?_⟩
  have hj := (List.getElem?_eq_some_iff.mp ha).1
  rw [List.length_take] at hj
  rw [List.getElem?_take_of_lt (by omega)] at ha ⊢
  exact h.at' j a ha
theorem TV.has {α : Type} {g : α → List V} {H : Hp} {ys : List V} {l : List α} (h : TV g H ys l) {k : Nat} {y : V} (e : ys[k]? = some y) : ∃ a t, l[k]? = some a ∧ y = .ref t ∧ H t = some (.tup (g a)) := by
  have hk := (List.getElem?_eq_some_iff.mp e).1
  rw [h.len] at hk
  obtain ⟨t, h1, h2⟩ := h.at' k _ (List.getElem?_eq_getElem hk)
  rw [e] at h1
  cases h1
  exact ⟨_, t, List.getElem?_eq_getElem hk, rfl, h2⟩
def partG (p : Int × Option (List Nat)) : List V := [.int p.1, txtV p.2]
def freeG (x : Int × List Nat) : List V := [.int x.1, .str (S x.2)]
def freeDat (x : Int × List Nat) : PyData := .tuple [.int x.1, .str (S x.2)]
theorem TV.free {K : PySem.W.Frag} {H : Hp} : ∀ {ys : List V} {l : List (Int × List Nat)}, TV freeG H ys l → DatVs K H ys (l.map freeDat)
  | [], [], _ => .nil
  | [], _ :: _, h => by have := h.len; simp at this
  | _ :: _, [], h => by have := h.len; simp at this
  | y :: ys, p :: ps, h => by
    obtain ⟨t, h1, h2⟩ := h.at' 0 p rfl
    cases h1
    exact .cons (.tuple (SqT.of h2) (.cons (.int _) (.cons (.str _) .nil))) (TV.free ⟨by have := h.len; simpa using this, fun k q hq => h.at' (k + 1) q hq⟩)
theorem free_lay : ∀ {l : List (Int × List Nat)}, (∀ x ∈ l, ∀ c ∈ x.2, okSign c) → PyData.canLayAll0 (l.map freeDat) = true
  | [], _ => by simp only [List.map_nil, PyData.canLayAll0]
  | x :: r, h => by
    have h1 : (freeDat x).canLay0 = true := by
      unfold freeDat
      simp only [PyData.canLay0, PyData.canLayAll0, strOk_S (h x List.mem_cons_self), Bool.and_self]
    rw [List.map_cons]
    simp only [PyData.canLayAll0, h1, free_lay fun y hy => h y (List.mem_cons_of_mem _ hy), Bool.and_self]
def nmOk (l : List Nat) : Prop := 1 ≤ l.length ∧ l.length ≤ 12 ∧ ∀ c ∈ l, okSign c
abbrev let26 : List Nat := ("abcdefghijklmnopqrstuvwxyz" : Str).cps.toList
def okB (c : Nat) : Bool := decide (32 ≤ c) && decide (c ≤ 126) && c != 37
theorem okB_ok {c : Nat} (h : okB c = true) : okSign c := by
  unfold okB at h
  simp at h
  exact .inl ⟨by omega, by omega, by omega⟩
theorem pick_sign {l : List Nat} (hl : l.all okB = true) {n : Nat} (hn : l.length = n) (h0 : 0 < n) (x : Int) : ∃ o, atI l (x % (n : Int)) = some o ∧ okSign o := by
  have h1 := Int.emod_nonneg x (show (n : Int) ≠ 0 by omega)
  have h2 := Int.emod_lt_of_pos x (show 0 < (n : Int) by omega)
  have h3 : (x % (n : Int)).toNat < l.length := by omega
  have e := List.getElem?_eq_getElem h3
  have hm := List.getElem_mem h3
  generalize l[(x % (n : Int)).toNat] = v at e hm
  refine ⟨v, ?_, okB_ok (List.all_eq_true.mp hl v hm)⟩
  have key := atI_nat e
  rw [show (((x % (n : Int)).toNat : Nat) : Int) = x % (n : Int) by omega] at key
  exact key
theorem pick_let (x : Int) : ∃ o, atI let26 (x % 26) = some o ∧ okSign o := pick_sign (l := let26) (n := 26) (by decide +kernel) (by decide +kernel) (by decide) x
abbrev sg1 : Str := " !\"#$&'()*+,-./0123456789:;<=>?@ABCDEFGHIJKLMNOPQRSTUVWXYZ"
abbrev sg2 : Str := "[\\]^_`abcdefghijklmnopqrstuvwxyz{|}~"
theorem pick_sg (x : Int) : ∃ o, atI (sg1 ++ sg2).cps.toList (x % 94) = some o ∧ okSign o := pick_sign (l := (sg1 ++ sg2).cps.toList) (n := 94) (by decide +kernel) (by decide +kernel) (by decide) x
section
variable {P : Program} {w : World} {K : PySem.W.Frag} {mg : Str → Option Value} {base : Heap}
def spCell (K : PySem.W.Frag) : Sp := fun vs H Q _ => ∃ (a : Addr) (ns : List Int) (k : Nat), vs = [.ref a, .int k] ∧ SqL K H a (ns.map V.int) ∧ Q (.int (ns.getD k 0)) H
abbrev st__law_cell_at : Stmt := top 3
theorem sc__law_cell_at : FnScope ["_law_script", "_law_k"] ["_law_script", "_law_k"] (defScope st__law_cell_at) := ⟨rfl, rfl, rfl, by decide +kernel, rfl, by decide +kernel, by decide +kernel⟩
theorem def_cell (R : Raw K mg "_law_cell_at" st__law_cell_at ["_law_script", "_law_k"]) (T : Txt K w mg) : Def P w K mg base 1 "_law_cell_at" ["_law_script", "_law_k"] (spCell K) := by
  refine R.defJ sc__law_cell_at (fun vs H Q E h => ?_) (fun f cdv A outer s H vs Q E hr h => ?_)
  · obtain ⟨a, ns, k, rfl, _⟩ := h
    rfl
  · obtain ⟨a, ns, k, rfl, hS, q⟩ := h
    have sc := sc__law_cell_at
    have hu := hr.units
    refine ⟨_, (jss_cons (js_if (jt_cmp o_lt (jn 1) (j_callB (c_len (K := K)) rfl T.n_len PySem.boot_len (ja_cons (jn 0) ja_nil)))
    (jss_one (js_ret (j_ix (o_ix hu (K := K) (w := w)) (jn 0) (jn 1))))
    jss_nil)
    (jss_one (js_ret j_int))), ?_⟩
    refine ⟨_, .inl hS, ?_⟩
    rw [List.length_map]
    show if decide ((k : Int) < (ns.length : Int)) = true then _ else _
    refine ite2 (fun h => ?_) (fun h => ?_)
    · have hk : k < ns.length := by
        have := of_decide_eq_true h
        omega
      refine .inl ⟨_, .int (ns.getD k 0), hS, atI_nat ?_, q⟩
      rw [List.getElem?_map, List.getElem?_eq_getElem hk]
      simp [List.getD, hk]
    · have hk : ¬ k < ns.length := fun z => h (decide_eq_true (by omega))
      have e : ns.getD k 0 = 0 := by simp [List.getD, List.getElem?_eq_none (by omega : ns.length ≤ k)]
      rw [e] at q
      exact q
def spNames (K : PySem.W.Frag) : Sp := fun vs H Q _ => ∃ (c : Int) (m : Nat), vs = [.int c, .int (m : Nat)] ∧ m ≤ 20 ∧ ∀ (H' : Hp) (p : Addr) (ls : List (List Nat)), Same H H' → H' p = some (.lst (ls.map fun k => V.str (S k))) → ls.length = m → (∀ l ∈ ls, nmOk l) → Q (.ref p) H'
abbrev st__law_names : Stmt := top 4
theorem sc__law_names : FnScope ["_law_cell", "_law_many", "_law_letters", "_law_size", "_law_at", "_law_names_here", "_law_k", "_law_name", "_law_j", "_law_step"] ["_law_cell", "_law_many"] (defScope st__law_names) := ⟨rfl, rfl, rfl, by decide +kernel, rfl, by decide +kernel, by decide +kernel⟩
theorem def_names (R : Raw K mg "_law_names" st__law_names ["_law_cell", "_law_many"]) (T : Txt K w mg) : Def P w K mg base 1 "_law_names" ["_law_cell", "_law_many"] (spNames K) := by
  refine R.defJ sc__law_names (fun vs H Q E h => ?_) (fun f cdv A outer s H vs Q E hr h => ?_)
  · obtain ⟨c, m, rfl, _⟩ := h
    rfl
  · obtain ⟨c, m, rfl, hm, q⟩ := h
    have sc := sc__law_names
    have hu := hr.units
    have hb := big
    refine ⟨_, (jss_cons (js_set (i := 2) sc.nd rfl (Or.inl rfl) j_str)
    (jss_cons (js_set (i := 3) sc.nd rfl (Or.inl rfl) (j_op (o_add (K := K)) j_int (j_op o_mod (jn 0) j_int)))
    (jss_cons (js_set (i := 4) sc.nd rfl (Or.inl rfl) (j_op o_mod (j_op o_div (jn 0) j_int) (jn 3)))
    (jss_cons (js_set (i := 5) sc.nd rfl (Or.inl rfl) (j_lst ja_nil))
    (jss_cons (js_for PassesOwn.never rfl (ji_rng1 rfl T.n_range (ja_cons (jn 1) ja_nil)) (jg_name (i := 6) sc.nd rfl (Or.inl rfl))
    (jss_cons (js_set (i := 7) sc.nd rfl (Or.inl rfl) j_str)
    (jss_cons (js_for PassesOwn.never rfl (ji_rng1 rfl T.n_range (ja_cons (jn 3) ja_nil)) (jg_name (i := 8) sc.nd rfl (Or.inl rfl))
    (jss_cons (js_set (i := 9) sc.nd rfl (Or.inl rfl) (j_op (o_add (K := K)) (j_op o_mul (jn 8) (jn 8)) (j_op o_mul (jn 6) (j_callTy c_int rfl T.n_int boot_int (ja_cons (j_cmp (o_eq hu (K := K)) (jn 8) (jn 4)) ja_nil)))))
    (jss_one (js_set (i := 7) sc.nd rfl (Or.inl rfl) (j_op (o_add (K := K)) (jn 7) (j_ix (o_ix hu (K := K) (w := w)) (jn 2) (j_op o_mod (j_op (o_add (K := K)) (j_op o_div (jn 0) j_int) (jn 9)) j_int)))))))
    (jss_one (js_expr (j_bm (K := K) PySem.F.plainAttrs_list PySem.F.slot_list_append PySem.F.type_list_append m_append (jn 5) (ja_cons (jn 7) ja_nil)))))))
    (jss_one (js_ret (jn 5)))))))), ?_⟩
    refine ⟨by decide, ⟨by decide, by decide⟩, show (0 : Int) < 1 + c % 12 by omega, ?_⟩
    obtain ⟨at', hat⟩ : ∃ at' : Int, at' = c / 12 % (1 + c % 12) := ⟨_, rfl⟩
    obtain ⟨sz, hsz⟩ : ∃ sz : Int, sz = 1 + c % 12 := ⟨_, rfl⟩
    refine ⟨(show 0 ≤ sizeLine by decide), fun p hp => ?_⟩
    have s1 : Same H (upd H p (.lst [])) := same_new hp
    have h1 : upd H p (.lst []) p = some (.lst []) := upd_same
    generalize upd H p (.lst []) = H1 at s1 h1 ⊢
    refine ⟨by omega, by omega, ?_⟩
    refine for_range (n := ((m : Nat) : Int).toNat) (fun i σ H' => ∃ (ls : List (List Nat)) (v6 v7 v8 v9 : Option V), Same H H' ∧ H' p = some (.lst (ls.map fun k => V.str (S k))) ∧ ls.length = i ∧ (∀ l ∈ ls, nmOk l) ∧ σ = [some (.int c), some (.int (m : Nat)), some (.str "abcdefghijklmnopqrstuvwxyz"), some (.int sz), some (.int at'), some (.ref p), v6, v7, v8, v9])
      ⟨[], none, none, none, none, s1, h1, rfl, (fun l hl => by cases hl), by rw [hat, hsz]; rfl⟩ ?_ ?_
    · rintro i σ H' hi ⟨ls, v6, v7, v8, v9, s2, hp2, hll, hlo, rfl⟩
      refine ⟨show -(2 ^ 62) ≤ sz by omega, show sz < 2 ^ 62 by omega, ?_⟩
      refine for_range (n := sz.toNat) (fun j σ H2 => H2 = H' ∧ ∃ (l : List Nat) (v8 v9 : Option V), l.length = j ∧ (∀ c ∈ l, okSign c) ∧ σ = [some (.int c), some (.int (m : Nat)), some (.str "abcdefghijklmnopqrstuvwxyz"), some (.int sz), some (.int at'), some (.ref p), some (.int (0 + (i : Nat))), some (.str (S l)), v8, v9])
        ⟨rfl, [], v8, v9, rfl, (fun c hc => by cases hc), rfl⟩ ?_ ?_
      · rintro j σ H2 hj ⟨rfl, l, v8, v9, hl, hlok, rfl⟩
        have hj12 : j < 12 := by omega
        refine ⟨.inl ⟨by omega, by omega⟩, .inl ⟨by omega, by omega⟩, ⟨by decide, by decide⟩, by decide, by decide +kernel, ?_⟩
        obtain ⟨o, eo, hoo⟩ := pick_let (c / 144 + ((0 + (j : Int)) * (0 + (j : Int)) + (0 + ((i : Nat) : Int)) * (if (false ^^ decide ((0 : Int) + (j : Nat) = at')) = true then 1 else 0)))
        refine ⟨o, eo, by rw [S_len, hl]; show j + 1 ≤ sizeLine; omega, ?_⟩
        have es : S l ++ (⟨#[o]⟩ : Str) = S (l ++ [o]) := S_app l [o]
        rw [es]
        refine ⟨rfl, l ++ [o], _, _, by simp [hl], fun c hc => ?_, rfl⟩
        rcases List.mem_append.mp hc with z | z
        · exact hlok c z
        · rw [List.mem_singleton.mp z]; exact hoo
      · rintro σ H2 ⟨rfl, l, v8, v9, hl, hlok, rfl⟩
        refine ⟨.inl ⟨rfl, _, SqL.of hp2⟩, _, hp2, by rw [List.length_map]; omega, ?_⟩
        refine ⟨ls ++ [l], _, _, _, _, fun b u e => ?_, ?_, by simp [hll], fun x hx => ?_, rfl⟩
        · rw [upd_ne fun z => by rw [z, hp] at e; cases e]; exact s2 b u e
        · rw [upd_same, List.map_append]; rfl
        · rcases List.mem_append.mp hx with z | z
          · exact hlo x z
          · rw [List.mem_singleton.mp z]; exact ⟨by omega, by omega, hlok⟩
    · rintro σ H' ⟨ls, v6, v7, v8, v9, s2, hp2, hll, hlo, rfl⟩
      exact q H' p ls s2 hp2 (by omega) hlo
def spMixed : Sp := fun vs H Q _ => ∃ (c k : Int), vs = [.int c, .int k] ∧ ∀ x : Int, 0 ≤ x → x < 2147483587 → Q (.int x) H
abbrev st__law_mixed : Stmt := top 5
theorem sc__law_mixed : FnScope ["_law_cell", "_law_k", "_law_number"] ["_law_cell", "_law_k"] (defScope st__law_mixed) := ⟨rfl, rfl, rfl, by decide +kernel, rfl, by decide +kernel, by decide +kernel⟩
theorem def_mixed (R : Raw K mg "_law_mixed" st__law_mixed ["_law_cell", "_law_k"]) : Def P w K mg base 1 "_law_mixed" ["_law_cell", "_law_k"] spMixed := by
  refine R.defJ sc__law_mixed (fun vs H Q E h => ?_) (fun f cdv A outer s H vs Q E hr h => ?_)
  · obtain ⟨c, k, rfl, _⟩ := h
    rfl
  · obtain ⟨c, k, rfl, q⟩ := h
    have sc := sc__law_mixed
    have hu := hr.units
    refine ⟨_, (jss_cons (js_set (i := 2) sc.nd rfl (Or.inl rfl) (j_op o_mod (j_op (o_add (K := K)) (j_op (o_add (K := K)) (j_op o_mul (j_op o_mod (jn 0) j_int) j_int) (j_op o_mul j_int (jn 1))) j_int) j_int))
    (jss_one (js_ret (j_op o_mod (j_op (o_add (K := K)) (j_op o_mul (jn 2) (jn 2)) (jn 1)) j_int)))), ?_⟩
    refine ⟨by decide, .inr ⟨by decide, by decide⟩, .inl ⟨by decide, by decide⟩, by decide, ?_⟩
    refine ⟨.inl ⟨by omega, by omega⟩, by decide, ?_⟩
    exact q _ (by omega) (by omega)
def spWord : Sp := fun vs H Q _ => ∃ (c : Int), vs = [.int c] ∧ ∀ l : List Nat, 1 ≤ l.length → l.length ≤ 6 → (∀ c ∈ l, okSign c) → Q (.str (S l)) H
abbrev st__law_word : Stmt := top 6
theorem sc__law_word : FnScope ["_law_cell", "_law_signs", "_law_word_here", "_law_k"] ["_law_cell"] (defScope st__law_word) := ⟨rfl, rfl, rfl, by decide +kernel, rfl, by decide +kernel, by decide +kernel⟩
theorem def_word (R : Raw K mg "_law_word" st__law_word ["_law_cell"]) (T : Txt K w mg) (D__law_mixed : Def P w K mg base 1 "_law_mixed" ["_law_cell", "_law_k"] spMixed) : Def P w K mg base 2 "_law_word" ["_law_cell"] spWord := by
  refine R.defJ sc__law_word (fun vs H Q E h => ?_) (fun f cdv A outer s H vs Q E hr h => ?_)
  · obtain ⟨c, rfl, _⟩ := h
    rfl
  · obtain ⟨c, rfl, q⟩ := h
    have sc := sc__law_word
    have hu := hr.units
    have hb := big
    refine ⟨_, (jss_cons (js_set (i := 1) sc.nd rfl (Or.inl rfl) j_str)
    (jss_cons (js_set (i := 1) sc.nd rfl (Or.inl rfl) (j_op (o_add (K := K)) (jn 1) j_str))
    (jss_cons (js_set (i := 2) sc.nd rfl (Or.inl rfl) j_str)
    (jss_cons (js_for PassesOwn.never rfl (ji_rng1 rfl T.n_range (ja_cons (j_op (o_add (K := K)) j_int (j_op o_mod (jn 0) j_int)) ja_nil)) (jg_name (i := 3) sc.nd rfl (Or.inl rfl))
    (jss_one (js_set (i := 2) sc.nd rfl (Or.inl rfl) (j_op (o_add (K := K)) (jn 2) (j_ix (o_ix hu (K := K) (w := w)) (jn 1) (j_op o_mod (j_def D__law_mixed (hr.mono (by decide)) rfl (ja_cons (jn 0) (ja_cons (j_op (o_add (K := K)) j_int (jn 3)) ja_nil))) j_int))))))
    (jss_one (js_ret (jn 2))))))), ?_⟩
    refine ⟨by decide +kernel, ?_⟩
    refine ⟨by decide, show -(2 ^ 62) ≤ 1 + c % 6 by omega, show 1 + c % 6 < 2 ^ 62 by omega, ?_⟩
    refine for_range (n := (1 + c % 6).toNat) (fun j σ H2 => H2 = H ∧ ∃ (l : List Nat) (v3 : Option V), l.length = j ∧ (∀ c ∈ l, okSign c) ∧ σ = [some (.int c), some (.str (sg1 ++ sg2)), some (.str (S l)), v3])
      ⟨rfl, [], none, rfl, (fun c hc => by cases hc), rfl⟩ ?_ ?_
    · rintro j σ H2 hj ⟨rfl, l, v3, hl, hlok, rfl⟩
      refine ⟨_, _, rfl, fun x hx0 hx1 => ?_⟩
      obtain ⟨o, eo, hoo⟩ := pick_sg x
      refine ⟨by decide, by decide +kernel, o, eo, by rw [S_len, hl]; show j + 1 ≤ sizeLine; omega, ?_⟩
      have es : S l ++ (⟨#[o]⟩ : Str) = S (l ++ [o]) := S_app l [o]
      rw [es]
      refine ⟨rfl, l ++ [o], _, by simp [hl], fun c hc => ?_, rfl⟩
      rcases List.mem_append.mp hc with z | z
      · exact hlok c z
      · rw [List.mem_singleton.mp z]; exact hoo
    · rintro σ H2 ⟨rfl, l, v3, hl, hlok, rfl⟩
      exact q l (by omega) (by omega) hlok
end
end K82

set_option Elab.async false
set_option linter.all false
set_option maxRecDepth 100000
set_option maxHeartbeats 4000000



namespace K82
open PySem PySem.Spec PyProof.Rows L2 Rg
theorem seq_at {n : Nat} (x : Int) (h : 0 < n) : ∃ k : Nat, k < n ∧ x % (n : Int) = (k : Int) ∧ seqIndex? (x % (n : Int)) n = some k := by
  have h1 := Int.emod_nonneg x (show (n : Int) ≠ 0 by omega)
  have h2 := Int.emod_lt_of_pos x (show 0 < (n : Int) by omega)
  refine ⟨(x % (n : Int)).toNat, by omega, by omega, ?_⟩
  unfold seqIndex?
  dsimp only
  rw [if_neg (show ¬ x % (n : Int) < 0 by omega)]
  rw [if_pos (by rw [decide_eq_true h1, decide_eq_true h2]; rfl)]
theorem name_in {ls : List (List Nat)} (h : ls.length = 11) {x : Int} (h0 : 0 ≤ x) (h1 : x < 11) : ∃ l ∈ ls, atI (ls.map fun k => V.str (S k)) x = some (.str (S l)) := by
  have h2 : x.toNat < ls.length := by omega
  have e := List.getElem?_eq_getElem h2
  have hm := List.getElem_mem h2
  generalize ls[x.toNat] = v at e hm
  refine ⟨v, hm, ?_⟩
  have key := atI_nat (xs := ls.map fun k => V.str (S k)) (j := x.toNat) (v := .str (S v)) (by rw [List.getElem?_map, e]; rfl)
  rw [show ((x.toNat : Nat) : Int) = x by omega] at key
  exact key
theorem strs_dat {K : PySem.W.Frag} {H : Hp} : ∀ ks : List (List Nat), DatVs K H (ks.map fun k => V.str (S k)) (ks.map fun k => PyData.str (S k))
  | [] => .nil
  | k :: r => .cons (.str _) (strs_dat r)
theorem strs_lay : ∀ {ks : List (List Nat)}, (∀ k ∈ ks, ∀ c ∈ k, okSign c) → PyData.canLayAll0 (ks.map fun k => PyData.str (S k)) = true
  | [], _ => by simp only [List.map_nil, PyData.canLayAll0]
  | k :: r, h => by
    rw [List.map_cons]
    simp only [PyData.canLayAll0, PyData.canLay0, strOk_S (h k List.mem_cons_self), strs_lay fun x hx => h x (List.mem_cons_of_mem _ hx), Bool.and_self]
theorem strs_depth : ∀ ks : List (List Nat), PyData.depthAll (ks.map fun k => PyData.str (S k)) ≤ 2
  | [] => by simp only [List.map_nil, PyData.depthAll]; omega
  | k :: r => by
    have ih := strs_depth r
    rw [List.map_cons]
    simp only [PyData.depthAll, PyData.depth]
    omega
section
variable {P : Program} {w : World} {K : PySem.W.Frag} {mg : Str → Option Value} {base : Heap}
def spRow (K : PySem.W.Frag) : Sp := fun vs H Q _ => ∃ (kk : Nat) (c : Int) (fr nr : Addr) (fv : List V) (fs : List (Int × List Nat)) (ls : List (List Nat)), vs = [.int (kk : Nat), .int c, .ref fr, .ref nr] ∧ kk < 60 ∧ H fr = some (.lst fv) ∧ TV freeG H fv fs ∧ fs.length ≤ 60 ∧ (∀ x ∈ fs, ∀ c ∈ x.2, okSign c) ∧ nr ≠ fr ∧ H nr = some (.lst (ls.map fun k => V.str (S k))) ∧ ls.length = 11 ∧ (∀ l ∈ ls, nmOk l) ∧
  ∀ (H' : Hp) (t pp kp : Addr) (pv fv' : List V) (q : MR) (fs' : List (Int × List Nat)), (∀ b u, b ≠ fr → H b = some u → H' b = some u) → H' t = some (.tup [.int q.m, .str (S q.sort), .ref pp, .ref kp]) → H' pp = some (.lst pv) → TV partG H' pv q.ps → H' kp = some (.lst (q.ks.map fun k => V.str (S k))) → H pp = none → H kp = none →
    H' fr = some (.lst fv') → TV freeG H' fv' fs' → RowRes kk fs q fs' → fs'.length ≤ fs.length → q.sort ∈ ls → Q (.ref t) H'
abbrev st__law_row : Stmt := top 7
theorem sc__law_row : FnScope ["_law_k", "_law_cell", "_law_free", "_law_names_here", "_law_parts", "_law_kinds", "_law_j", "_law_turn", "_law_mark", "_law_sort"] ["_law_k", "_law_cell", "_law_free", "_law_names_here"] (defScope st__law_row) := ⟨rfl, rfl, rfl, by decide +kernel, rfl, by decide +kernel, by decide +kernel⟩
theorem def_row (R : Raw K mg "_law_row" st__law_row ["_law_k", "_law_cell", "_law_free", "_law_names_here"]) (T : Txt K w mg) (D__law_mixed : Def P w K mg base 1 "_law_mixed" ["_law_cell", "_law_k"] spMixed) (D__law_word : Def P w K mg base 2 "_law_word" ["_law_cell"] spWord) : Def P w K mg base 3 "_law_row" ["_law_k", "_law_cell", "_law_free", "_law_names_here"] (spRow K) := by
  refine R.defJ sc__law_row (fun vs H Q E h => ?_) (fun f cdv A outer s H vs Q E hr h => ?_)
  · obtain ⟨kk, c, fr, nr, fv, fs, ls, rfl, _⟩ := h
    rfl
  · obtain ⟨kk, c, fr, nr, fv, fs, ls, rfl, hkk, hfr, hfT, hfl, hfs, nnf, hnr, hll, hlo, q⟩ := h
    have sc := sc__law_row
    have hu := hr.units
    have hb := big
    have lay2 : (PyData.list []).canLay0 = true := by simp only [PyData.canLay0, PyData.canLayAll0]
    have dep : ∀ d : PyData, min d.depth (PyData.list []).depth ≤ 60 := fun d => by
      have : (PyData.list []).depth ≤ 60 := by simp only [PyData.depth, PyData.depthAll]; omega
      omega
    refine ⟨_, (jss_cons (js_set (i := 4) sc.nd rfl (Or.inl rfl) (j_lst ja_nil))
    (jss_cons (js_set (i := 5) sc.nd rfl (Or.inl rfl) (j_lst ja_nil))
    (jss_cons (js_for PassesOwn.never rfl (ji_rng1 rfl T.n_range (ja_cons (j_op (o_add (K := K)) j_int (j_op o_mod (j_def D__law_mixed (hr.mono (by decide)) rfl (ja_cons (jn 1) (ja_cons j_int ja_nil))) j_int)) ja_nil)) (jg_name (i := 6) sc.nd rfl (Or.inl rfl))
    (jss_cons (js_set (i := 7) sc.nd rfl (Or.inl rfl) (j_def D__law_mixed (hr.mono (by decide)) rfl (ja_cons (jn 1) (ja_cons (j_op (o_add (K := K)) j_int (jn 6)) ja_nil))))
    (jss_one (js_if (jw_t (jw_and (jt_cmp o_gt (j_op o_mod (jn 7) j_int) j_int) (jw_and1 (jt_cmp (o_ne hu (K := K)) (jn 2) (j_lst ja_nil)))))
    (jss_cons (js_asg (j_bm (K := K) PySem.F.plainAttrs_list PySem.F.slot_list_pop PySem.F.type_list_pop m_popAt (jn 2) (ja_cons (j_op o_mod (j_op o_div (jn 7) j_int) (j_callB (c_len (K := K)) rfl T.n_len PySem.boot_len (ja_cons (jn 2) ja_nil))) ja_nil)) (jg_tup (K := K) (n := 2) rfl (jgs_cons (jg_name (i := 8) sc.nd rfl (Or.inl rfl)) (jgs_cons (jg_name (i := 9) sc.nd rfl (Or.inl rfl)) jgs_nil))))
    (jss_cons (js_expr (j_bm (K := K) PySem.F.plainAttrs_list PySem.F.slot_list_append PySem.F.type_list_append m_append (jn 4) (ja_cons (j_tup (ja_cons (jn 8) (ja_cons j_non ja_nil))) ja_nil)))
    (jss_one (js_expr (j_bm (K := K) PySem.F.plainAttrs_list PySem.F.slot_list_append PySem.F.type_list_append m_append (jn 5) (ja_cons (jn 9) ja_nil))))))
    (jss_cons (js_expr (j_bm (K := K) PySem.F.plainAttrs_list PySem.F.slot_list_append PySem.F.type_list_append m_append (jn 4) (ja_cons (j_tup (ja_cons (j_op (o_add (K := K)) (j_op o_mul j_int (j_op (o_add (K := K)) (j_op o_mul j_int (jn 0)) (jn 6))) j_int) (ja_cons (j_def D__law_word (hr.mono (by decide)) rfl (ja_cons (j_op o_div (jn 7) j_int) ja_nil)) ja_nil))) ja_nil)))
    (jss_one (js_expr (j_bm (K := K) PySem.F.plainAttrs_list PySem.F.slot_list_append PySem.F.type_list_append m_append (jn 5) (ja_cons (j_ix (o_ix hu (K := K) (w := w)) (jn 3) (j_op (o_add (K := K)) j_int (j_op o_mod (j_op o_div (jn 7) j_int) j_int))) ja_nil)))))))))
    (jss_cons (js_set (i := 9) sc.nd rfl (Or.inl rfl) (j_ix (o_ix hu (K := K) (w := w)) (jn 3) (j_op o_mod (j_def D__law_mixed (hr.mono (by decide)) rfl (ja_cons (jn 1) (ja_cons j_int ja_nil))) j_int)))
    (jss_cons (js_if (jt_cmp (o_eq hu (K := K)) (jn 5) (j_lst (ja_cons (jn 9) ja_nil)))
    (jss_one (js_set (i := 9) sc.nd rfl (Or.inl rfl) (j_ix (o_ix hu (K := K) (w := w)) (jn 3) (j_op o_mod (j_op (o_add (K := K)) (j_def D__law_mixed (hr.mono (by decide)) rfl (ja_cons (jn 1) (ja_cons j_int ja_nil))) j_int) j_int))))
    jss_nil)
    (jss_one (js_ret (j_tup (ja_cons (j_op (o_add (K := K)) (j_op (o_add (K := K)) (j_op o_mul (j_op o_mod (jn 1) (j_op o_pow j_int j_int)) j_int) j_int) (jn 0)) (ja_cons (jn 9) (ja_cons (jn 4) (ja_cons (jn 5) ja_nil)))))))))))), ?_⟩
    refine ⟨(show 0 ≤ sizeLine by decide), fun pp hpp => ?_⟩
    have s1 : Same H (upd H pp (.lst [])) := same_new hpp
    have h1 : upd H pp (.lst []) pp = some (.lst []) := upd_same
    generalize upd H pp (.lst []) = H1 at s1 h1 ⊢
    refine ⟨(show 0 ≤ sizeLine by decide), fun kp hkp => ?_⟩
    have s2 : Same H1 (upd H1 kp (.lst [])) := same_new hkp
    have h2 : upd H1 kp (.lst []) kp = some (.lst (([] : List (List Nat)).map fun k => V.str (S k))) := upd_same
    have npk : pp ≠ kp := fun z => by rw [← z, h1] at hkp; cases hkp
    have hkp0 : H kp = none := s1.free hkp
    have npf : pp ≠ fr := fun z => by rw [z, hfr] at hpp; cases hpp
    have nkf : kp ≠ fr := fun z => by rw [z, hfr] at hkp0; cases hkp0
    generalize upd H1 kp (.lst []) = H2 at s2 h2 ⊢
    have s12 := s1.trans s2
    refine ⟨_, _, rfl, fun x0 hx0 hx1 => ?_⟩
    refine ⟨by decide, show -(2 ^ 62) ≤ 1 + x0 % 5 by omega, show 1 + x0 % 5 < 2 ^ 62 by omega, ?_⟩
    refine for_range (n := (1 + x0 % 5).toNat) (fun j σ H' => ∃ (pv fv' : List V) (ps : List (Int × Option (List Nat))) (ks : List (List Nat)) (fs' : List (Int × List Nat)) (v6 v7 v8 v9 : Option V), (∀ b u, b ≠ fr → H b = some u → H' b = some u) ∧ H' pp = some (.lst pv) ∧ H' kp = some (.lst (ks.map fun k => V.str (S k))) ∧ H' fr = some (.lst fv') ∧ TV partG H' pv ps ∧ TV freeG H' fv' fs' ∧ ps.length = j ∧ ks.length = j ∧
        (∀ f, nsum f ps + xsum f fs' = xsum f fs) ∧ (∀ p ∈ ps, p.2 = none → ∃ x ∈ fs, x.1 = p.1) ∧ (∀ x ∈ fs', x ∈ fs) ∧ (∀ p ∈ ps, ∀ s, p.2 = some s → 1 ≤ s.length ∧ s.length ≤ 6 ∧ ∀ c ∈ s, okSign c) ∧ (∀ k ∈ ks, ∀ c ∈ k, okSign c) ∧ fs'.length ≤ fs.length ∧
        σ = [some (.int (kk : Nat)), some (.int c), some (.ref fr), some (.ref nr), some (.ref pp), some (.ref kp), v6, v7, v8, v9])
      ⟨[], fv, [], [], fs, none, none, none, none, (fun b u _ e => s12 b u e), s2 _ _ h1, h2, s12 _ _ hfr, ⟨rfl, fun k p e => by cases e⟩, hfT.mono fun t vs e => s12 _ _ e, rfl, rfl, (fun f => by simp [nsum]), (fun p hp => by cases hp), (fun x hx => hx), (fun p hp => by cases hp), (fun k hk => by cases hk), Nat.le_refl _, rfl⟩ ?_ ?_
    · rintro j σ H' hj ⟨pv, fv', ps, ks, fs', v6, v7, v8, v9, kH, hpv, hks, hfr', hPt, hFt, hpl, hkl, hsum, huse, hsub, htxt, hkok, hfl', rfl⟩
      have hpvl := hPt.len
      have hfvl := hFt.len
      have hj5 : j < 5 := by omega
      refine ⟨_, _, rfl, fun tu htu0 htu1 => ?_⟩
      dsimp only [gName, tSeq, tAsg]
      refine ifS_of (fun b H5 => (∀ b u, H' b = some u → H5 b = some u) ∧ (b = true → fs' ≠ [])) ?_ ?_ ?_
      · intro H5 hh
        obtain ⟨s5, hne⟩ := hh
        have hne := hne rfl
        have hpos : 0 < fs'.length := List.length_pos_iff.mpr hne
        obtain ⟨k, hk, ek, esq⟩ := seq_at (n := fv'.length) (tu / 3) (by omega)
        have exk := List.getElem?_eq_getElem (show k < fs'.length by omega)
        generalize fs'[k] = x at exk
        obtain ⟨t6, e6, hT6⟩ := hFt.at' k x exk
        refine ⟨.inl ⟨rfl, _, SqL.of (s5 _ _ hfr')⟩, ⟨by decide, by decide⟩, _, .inl (SqL.of (s5 _ _ hfr')), by omega, fv', k, .ref t6, s5 _ _ hfr', by omega, by omega, esq, e6, ?_⟩
        have tupf : ∀ {b : Addr} {vs : List V}, H5 b = some (.tup vs) → b ≠ fr := fun e z => by rw [z, s5 _ _ hfr'] at e; cases e
        have k6 : ∀ b u, b ≠ fr → H b = some u → upd H5 fr (.lst (fv'.eraseIdx k)) b = some u := fun b u n e => by rw [upd_ne n]; exact s5 _ _ (kH b u n e)
        have p6 : upd H5 fr (.lst (fv'.eraseIdx k)) pp = some (.lst pv) := by rw [upd_ne npf]; exact s5 _ _ hpv
        have q6 : upd H5 fr (.lst (fv'.eraseIdx k)) kp = some (.lst (ks.map fun k => V.str (S k))) := by rw [upd_ne nkf]; exact s5 _ _ hks
        have f6 : upd H5 fr (.lst (fv'.eraseIdx k)) fr = some (.lst (fv'.eraseIdx k)) := upd_same
        have P6 : TV partG (upd H5 fr (.lst (fv'.eraseIdx k))) pv ps := hPt.mono fun t vs e => by rw [upd_ne (tupf (s5 _ _ e))]; exact s5 _ _ e
        have F6 : TV freeG (upd H5 fr (.lst (fv'.eraseIdx k))) (fv'.eraseIdx k) (fs'.eraseIdx k) := (hFt.erase k).mono fun t vs e => by rw [upd_ne (tupf (s5 _ _ e))]; exact s5 _ _ e
        have T6 : upd H5 fr (.lst (fv'.eraseIdx k)) t6 = some (.tup [.int x.1, .str (S x.2)]) := by rw [upd_ne (tupf (s5 _ _ hT6))]; exact s5 _ _ hT6
        generalize upd H5 fr (.lst (fv'.eraseIdx k)) = H6 at k6 p6 q6 f6 P6 F6 T6 ⊢
        refine ⟨t6, _, rfl, SqT.of T6, rfl, _, _, rfl, _, _, rfl, rfl, ?_⟩
        refine ⟨.inl ⟨rfl, _, SqL.of p6⟩, (show 2 ≤ sizeLine by decide), fun t7 ht7 => ?_⟩
        have s7 : Same H6 (upd H6 t7 (.tup [.int x.1, .non])) := same_new ht7
        have h7 : upd H6 t7 (.tup [.int x.1, .non]) t7 = some (.tup (partG (x.1, none))) := upd_same
        generalize upd H6 t7 (.tup [.int x.1, .non]) = H7 at s7 h7 ⊢
        refine ⟨pv, s7 _ _ p6, by omega, ?_⟩
        have tup7 : ∀ {b : Addr} {vs : List V}, H7 b = some (.tup vs) → b ≠ pp := fun e z => by rw [z, s7 _ _ p6] at e; cases e
        have q8 : upd H7 pp (.lst (pv ++ [.ref t7])) kp = some (.lst (ks.map fun k => V.str (S k))) := by rw [upd_ne npk.symm]; exact s7 _ _ q6
        have p8 : upd H7 pp (.lst (pv ++ [.ref t7])) pp = some (.lst (pv ++ [.ref t7])) := upd_same
        have f8 : upd H7 pp (.lst (pv ++ [.ref t7])) fr = some (.lst (fv'.eraseIdx k)) := by rw [upd_ne npf.symm]; exact s7 _ _ f6
        have k8 : ∀ b u, b ≠ fr → H b = some u → upd H7 pp (.lst (pv ++ [.ref t7])) b = some u := fun b u n e => by rw [upd_ne fun z => by rw [z, hpp] at e; cases e]; exact s7 _ _ (k6 b u n e)
        have P8 : TV partG (upd H7 pp (.lst (pv ++ [.ref t7]))) (pv ++ [.ref t7]) (ps ++ [(x.1, none)]) := ((P6.mono fun t vs e => s7 _ _ e).snoc h7).mono fun t vs e => by rw [upd_ne (tup7 e)]; exact e
        have F8 : TV freeG (upd H7 pp (.lst (pv ++ [.ref t7]))) (fv'.eraseIdx k) (fs'.eraseIdx k) := F6.mono fun t vs e => by rw [upd_ne (tup7 (s7 _ _ e))]; exact s7 _ _ e
        generalize upd H7 pp (.lst (pv ++ [.ref t7])) = H8 at q8 p8 f8 k8 P8 F8 ⊢
        refine ⟨.inl ⟨rfl, _, SqL.of q8⟩, _, q8, by rw [List.length_map]; omega, ?_⟩
        have tup8 : ∀ {b : Addr} {vs : List V}, H8 b = some (.tup vs) → b ≠ kp := fun e z => by rw [z, q8] at e; cases e
        have hxm := List.mem_of_getElem? exk
        refine ⟨_, _, ps ++ [(x.1, none)], ks ++ [x.2], fs'.eraseIdx k, _, _, _, _, fun b u n e => ?_, ?_, ?_, ?_, P8.mono fun t vs e => ?_, F8.mono fun t vs e => ?_, by simp [hpl], by simp [hkl], fun f => ?_, fun p hp hn => ?_, fun y hy => hsub y (List.mem_of_mem_eraseIdx hy), fun p hp s e => ?_, fun y hy => ?_, ?_, rfl⟩
        · rw [upd_ne fun z => by rw [z, hkp0] at e; cases e]; exact k8 b u n e
        · rw [upd_ne npk]; exact p8
        · rw [upd_same, List.map_append]; rfl
        · rw [upd_ne nkf.symm]; exact f8
        · rw [upd_ne (tup8 e)]; exact e
        · rw [upd_ne (tup8 e)]; exact e
        · rw [nsum_snoc]
          have h1 := hsum f
          have h2 := xsum_erase f exk
          show nsum f ps + f x.1 + _ = _
          omega
        · rcases List.mem_append.mp hp with z | z
          · exact huse p z hn
          · rw [List.mem_singleton.mp z]; exact ⟨x, hsub x hxm, rfl⟩
        · rcases List.mem_append.mp hp with z | z
          · exact htxt p z s e
          · rw [List.mem_singleton.mp z] at e; cases e
        · rcases List.mem_append.mp hy with z | z
          · exact hkok y z
          · rw [List.mem_singleton.mp z]; exact hfs x (hsub x hxm)
        · rw [List.length_eraseIdx]; split <;> omega
      · intro H5 hh
        obtain ⟨s5, _⟩ := hh
        refine ⟨.inl ⟨rfl, _, SqL.of (s5 _ _ hpv)⟩, .inl ⟨by decide, by decide⟩, .inl ⟨by decide, by decide⟩, ⟨by decide, by decide⟩, ?_⟩
        refine ⟨_, rfl, fun l hl1 hl6 hlok => ?_⟩
        refine ⟨(show 2 ≤ sizeLine by decide), fun t7 ht7 => ?_⟩
        obtain ⟨i7, hi7⟩ : ∃ i7 : Int, i7 = 64 * (5 * ((kk : Nat) : Int) + (0 + (j : Nat))) + 63 := ⟨_, rfl⟩
        have s7 : Same H5 (upd H5 t7 (.tup [.int (64 * (5 * ((kk : Nat) : Int) + (0 + (j : Nat))) + 63), .str (S l)])) := same_new ht7
        have h7 : upd H5 t7 (.tup [.int (64 * (5 * ((kk : Nat) : Int) + (0 + (j : Nat))) + 63), .str (S l)]) t7 = some (.tup (partG (i7, some l))) := by rw [hi7]; exact upd_same
        generalize upd H5 t7 (.tup [.int (64 * (5 * ((kk : Nat) : Int) + (0 + (j : Nat))) + 63), .str (S l)]) = H7 at s7 h7 ⊢
        have s57 : ∀ b u, H' b = some u → H7 b = some u := fun b u e => s7 _ _ (s5 _ _ e)
        refine ⟨pv, s57 _ _ hpv, by omega, ?_⟩
        have tup7 : ∀ {b : Addr} {vs : List V}, H7 b = some (.tup vs) → b ≠ pp := fun e z => by rw [z, s57 _ _ hpv] at e; cases e
        have q8 : upd H7 pp (.lst (pv ++ [.ref t7])) kp = some (.lst (ks.map fun k => V.str (S k))) := by rw [upd_ne npk.symm]; exact s57 _ _ hks
        have p8 : upd H7 pp (.lst (pv ++ [.ref t7])) pp = some (.lst (pv ++ [.ref t7])) := upd_same
        have f8 : upd H7 pp (.lst (pv ++ [.ref t7])) fr = some (.lst fv') := by rw [upd_ne npf.symm]; exact s57 _ _ hfr'
        have k8 : ∀ b u, b ≠ fr → H b = some u → upd H7 pp (.lst (pv ++ [.ref t7])) b = some u := fun b u n e => by rw [upd_ne fun z => by rw [z, hpp] at e; cases e]; exact s57 _ _ (kH b u n e)
        have P8 : TV partG (upd H7 pp (.lst (pv ++ [.ref t7]))) (pv ++ [.ref t7]) (ps ++ [(i7, some l)]) := ((hPt.mono fun t vs e => s57 _ _ e).snoc h7).mono fun t vs e => by rw [upd_ne (tup7 e)]; exact e
        have F8 : TV freeG (upd H7 pp (.lst (pv ++ [.ref t7]))) fv' fs' := hFt.mono fun t vs e => by rw [upd_ne (tup7 (s57 _ _ e))]; exact s57 _ _ e
        generalize upd H7 pp (.lst (pv ++ [.ref t7])) = H8 at q8 p8 f8 k8 P8 F8 ⊢
        obtain ⟨nm, hnm, enm⟩ := name_in hll (x := 5 + tu / 3 % 6) (by omega) (by omega)
        refine ⟨.inl ⟨rfl, _, SqL.of q8⟩, ⟨by decide, by decide⟩, by decide, .inl ⟨_, _, SqL.of (k8 _ _ nnf hnr), enm, ?_⟩⟩
        refine ⟨_, q8, by rw [List.length_map]; omega, ?_⟩
        have tup8 : ∀ {b : Addr} {vs : List V}, H8 b = some (.tup vs) → b ≠ kp := fun e z => by rw [z, q8] at e; cases e
        refine ⟨_, _, ps ++ [(i7, some l)], ks ++ [nm], fs', _, _, _, _, fun b u n e => ?_, ?_, ?_, ?_, P8.mono fun t vs e => ?_, F8.mono fun t vs e => ?_, by simp [hpl], by simp [hkl], fun f => ?_, fun p hp hn => ?_, hsub, fun p hp s e => ?_, fun y hy => ?_, hfl', rfl⟩
        · rw [upd_ne fun z => by rw [z, hkp0] at e; cases e]; exact k8 b u n e
        · rw [upd_ne npk]; exact p8
        · rw [upd_same, List.map_append]; rfl
        · rw [upd_ne nkf.symm]; exact f8
        · rw [upd_ne (tup8 e)]; exact e
        · rw [upd_ne (tup8 e)]; exact e
        · rw [nsum_snoc]
          have h1 := hsum f
          show nsum f ps + 0 + _ = _
          omega
        · rcases List.mem_append.mp hp with z | z
          · exact huse p z hn
          · rw [List.mem_singleton.mp z] at hn; cases hn
        · rcases List.mem_append.mp hp with z | z
          · exact htxt p z s e
          · rw [List.mem_singleton.mp z] at e; cases e; exact ⟨hl1, hl6, hlok⟩
        · rcases List.mem_append.mp hy with z | z
          · exact hkok y z
          · rw [List.mem_singleton.mp z]; exact (hlo nm hnm).2.2
      · intro hT hF
        refine ⟨by decide, ?_⟩
        show if decide ((0 : Int) < tu % 3) = true then _ else _
        refine ite2 (fun h => ?_) (fun h => ?_)
        · refine ⟨(show 0 ≤ sizeLine by decide), fun p5 hp5 => ?_⟩
          have s5 : Same H' (upd H' p5 (.lst [])) := same_new hp5
          have hlay : (PyData.list (fs'.map freeDat)).canLay0 = true := by simp only [PyData.canLay0]; exact free_lay fun x hx => hfs x (hsub x hx)
          refine ⟨.list (fs'.map freeDat), .list [], .list (SqL.of (s5 _ _ hfr')) ((hFt.mono fun t vs e => s5 _ _ e).free), .list (SqL.of upd_same) .nil, hlay, lay2, dep _, ?_⟩
          rw [eqv_nil]
          cases hfe : fs' with
          | nil => exact hF _ ⟨s5, (fun z => nomatch z)⟩
          | cons a r => exact hT _ ⟨s5, fun _ z => by rw [hfe] at z; cases z⟩
        · exact hF _ ⟨(fun b u e => e), (fun z => nomatch z)⟩
    · rintro σ H' ⟨pv, fv', ps, ks, fs', v6, v7, v8, v9, kH, hpv, hks, hfr', hPt, hFt, hpl, hkl, hsum, huse, hsub, htxt, hkok, hfl', rfl⟩
      have hnr' := kH _ _ nnf hnr
      have fin : ∀ (H6 : Hp) (so : List Nat) (m : Int) (t : Addr), so ∈ ls → Same H' H6 → H6 t = none → m % 64 = (kk : Int) → Q (.ref t) (upd H6 t (.tup [.int m, .str (S so), .ref pp, .ref kp])) := fun H6 so m t hso s6 ht hm => by
        have s7 : Same H6 (upd H6 t (.tup [.int m, .str (S so), .ref pp, .ref kp])) := same_new ht
        have s67 := s6.trans s7
        have h3 := hlo so hso
        exact q _ t pp kp pv fv' ⟨m, so, ps, ks⟩ fs' (fun b u n e => s67 _ _ (kH b u n e)) upd_same (s67 _ _ hpv) (hPt.mono fun t vs e => s67 _ _ e) (s67 _ _ hks) hpp hkp0 (s67 _ _ hfr') (hFt.mono fun t vs e => s67 _ _ e)
          ⟨hm, ⟨h3.1, h3.2.1, h3.2.2, by show ps.length ≤ 8; omega, htxt, by show ks.length ≤ 8; omega, hkok⟩, hsum, huse, hsub⟩ hfl' hso
      refine ⟨_, _, rfl, fun x1 hx10 hx11 => ?_⟩
      obtain ⟨so, hso, eso⟩ := name_in hll (x := x1 % 5) (by omega) (by omega)
      refine ⟨by decide, .inl ⟨_, _, SqL.of hnr', eso, ?_⟩⟩
      dsimp only [gName]
      refine ifS_of (fun b H5 => Same H' H5) ?_ ?_ ?_
      · intro H5 s5
        refine ⟨_, _, rfl, fun x2 hx20 hx21 => ?_⟩
        obtain ⟨so2, hso2, eso2⟩ := name_in hll (x := (x2 + 1) % 5) (by omega) (by omega)
        refine ⟨by decide, .inl ⟨_, _, SqL.of (s5 _ _ hnr'), eso2, ?_⟩⟩
        refine ⟨⟨by decide, by decide, by decide⟩, by decide +kernel, .inr ⟨by decide, by decide⟩, (show 4 ≤ sizeLine by decide), fun t ht => ?_⟩
        exact fin H5 so2 _ t hso2 s5 ht (by generalize c % (10 : Int) ^ Int.toNat 57 = y; omega)
      · intro H5 s5
        refine ⟨⟨by decide, by decide, by decide⟩, by decide +kernel, .inr ⟨by decide, by decide⟩, (show 4 ≤ sizeLine by decide), fun t ht => ?_⟩
        exact fin H5 so _ t hso s5 ht (by generalize c % (10 : Int) ^ Int.toNat 57 = y; omega)
      · intro hT hF
        refine ⟨(show 1 ≤ sizeLine by decide), fun p5 hp5 => ?_⟩
        have s5 : Same H' (upd H' p5 (.lst [.str (S so)])) := same_new hp5
        have h5 : upd H' p5 (.lst [.str (S so)]) p5 = some (.lst (([so] : List (List Nat)).map fun k => V.str (S k))) := upd_same
        generalize upd H' p5 (.lst [.str (S so)]) = H5 at s5 h5 ⊢
        refine ⟨_, _, .list (SqL.of (s5 _ _ hks)) (strs_dat ks), .list (SqL.of h5) (strs_dat [so]), by simp only [PyData.canLay0]; exact strs_lay hkok, by simp only [PyData.canLay0]; exact strs_lay (fun k hk => by rw [List.mem_singleton.mp hk]; exact (hlo so hso).2.2), ?_, ?_⟩
        · have := strs_depth ks
          simp only [PyData.depth]
          omega
        · show if (false ^^ PyData.eqv _ _) = true then _ else _
          refine ite2 (fun _ => hT _ s5) (fun _ => hF _ s5)
end
end K82

set_option Elab.async false
set_option linter.all false
set_option maxRecDepth 100000
set_option maxHeartbeats 4000000



namespace K82
open PySem PySem.Spec PyProof.Rows L2 Rg
structure MdV (cs : List Addr) (H : Hp) (mv : List V) (rows : List MR) : Prop where
  len : mv.length = rows.length
  at' : ∀ (k : Nat) (q : MR), rows[k]? = some q → ∃ (t pp kp : Addr) (pv : List V), mv[k]? = some (.ref t) ∧ H t = some (.tup [.int q.m, .str (S q.sort), .ref pp, .ref kp]) ∧ H pp = some (.lst pv) ∧ TV partG H pv q.ps ∧ H kp = some (.lst (q.ks.map fun k => V.str (S k))) ∧ pp ∉ cs ∧ kp ∉ cs
theorem MdV.mono {cs cs' : List Addr} {H H' : Hp} {mv : List V} {rows : List MR} (h : MdV cs H mv rows) (hT : ∀ t vs, H t = some (.tup vs) → H' t = some (.tup vs)) (hL : ∀ b xs, b ∉ cs → H b = some (.lst xs) → H' b = some (.lst xs) ∧ b ∉ cs') : MdV cs' H' mv rows :=
  ⟨h.len, fun k q e => by
    obtain ⟨t, pp, kp, pv, h1, h2, h3, h4, h5, h6, h7⟩ := h.at' k q e
    exact ⟨t, pp, kp, pv, h1, hT _ _ h2, (hL _ _ h6 h3).1, h4.mono hT, (hL _ _ h7 h5).1, (hL _ _ h6 h3).2, (hL _ _ h7 h5).2⟩⟩
theorem MdV.snoc {cs : List Addr} {H : Hp} {mv : List V} {rows : List MR} {q : MR} {t pp kp : Addr} {pv : List V} (h : MdV cs H mv rows) (h2 : H t = some (.tup [.int q.m, .str (S q.sort), .ref pp, .ref kp])) (h3 : H pp = some (.lst pv)) (h4 : TV partG H pv q.ps) (h5 : H kp = some (.lst (q.ks.map fun k => V.str (S k)))) (h6 : pp ∉ cs) (h7 : kp ∉ cs) : MdV cs H (mv ++ [.ref t]) (rows ++ [q]) := by
  refine ⟨by rw [List.length_append, List.length_append, h.len]; rfl, fun k x hx => ?_⟩
  by_cases hk : k < rows.length
  · rw [List.getElem?_append_left hk] at hx
    obtain ⟨t', pp', kp', pv', a1, a2⟩ := h.at' k x hx
    exact ⟨t', pp', kp', pv', by rw [List.getElem?_append_left (by rw [h.len]; exact hk)]; exact a1, a2⟩
  · have hl := (List.getElem?_eq_some_iff.mp hx).1
    have ek : k = rows.length := by simp at hl; omega
    subst ek
    rw [List.getElem?_append_right (Nat.le_refl _), Nat.sub_self] at hx
    cases hx
    exact ⟨t, pp, kp, pv, by rw [List.getElem?_append_right (by rw [h.len]; exact Nat.le_refl _), h.len, Nat.sub_self]; rfl, h2, h3, h4, h5, h6, h7⟩
theorem cut8_take (xs : List V) : cutV xs none (some 8) = xs.take 8 := by
  unfold cutV
  rw [show (some (8 : Int)) = some ((8 : Nat) : Int) from rfl, HT.sIx_nat, HT.sIx_none, List.drop_zero, Nat.sub_zero]
  by_cases h : 8 ≤ xs.length
  · rw [show min 8 xs.length = 8 by omega]
  · rw [show min 8 xs.length = xs.length by omega, List.take_length, List.take_of_length_le (by omega)]
theorem cut8_drop (xs : List V) : cutV xs (some 8) none = xs.drop 8 := by
  unfold cutV
  rw [show (some (8 : Int)) = some ((8 : Nat) : Int) from rfl, HT.sIx_nat, HT.sIx_none]
  by_cases h : 8 ≤ xs.length
  · rw [show min 8 xs.length = 8 by omega]
    exact List.take_of_length_le (by simp)
  · rw [show min 8 xs.length = xs.length by omega, List.drop_length, List.drop_of_length_le (by omega)]
    simp
theorem cut_18 (ns : List Int) : (cutV (ns.map V.int) (some 2) (some 18)).length ≤ 16 ∧ (cutV (ns.map V.int) (some 2) (some 18)).length ≤ ns.length - 2 := by
  unfold cutV
  rw [show (some (2 : Int)) = some ((2 : Nat) : Int) from rfl, show (some (18 : Int)) = some ((18 : Nat) : Int) from rfl, HT.sIx_nat, HT.sIx_nat, List.length_map, List.length_take, List.length_drop, List.length_map]
  omega
def pN (x : Int × List Nat) : Int × Option (List Nat) := (x.1, none)
theorem nsum_pN (f : Int → Nat) : ∀ l : List (Int × List Nat), nsum f (l.map pN) = xsum f l
  | [] => rfl
  | x :: r => by
    have ih := nsum_pN f r
    unfold nsum xsum at ih ⊢
    rw [List.map_cons, List.map_cons, List.sum_cons, List.map_cons, List.sum_cons, ih]
    rfl
section
variable {P : Program} {w : World} {K : PySem.W.Frag} {mg : Str → Option Value} {base : Heap}
def spMade (K : PySem.W.Frag) : Sp := fun vs H Q _ => ∃ (a nr : Addr) (ns : List Int) (ls : List (List Nat)), vs = [.ref a, .ref nr] ∧ SqL K H a (ns.map V.int) ∧ ns.length ≤ 63 ∧ H nr = some (.lst (ls.map fun k => V.str (S k))) ∧ ls.length = 11 ∧ (∀ l ∈ ls, nmOk l) ∧
  ∀ (H' : Hp) (ma : Addr) (mv : List V) (rows : List MR), Same H H' → H' ma = some (.lst mv) → MdV [ma] H' mv rows → GoodR rows → Q (.ref ma) H'
abbrev st__law_made : Stmt := top 8
theorem sc__law_made : FnScope ["_law_script", "_law_names_here", "_law_made_here", "_law_free", "_law_k", "_law_parts", "_law_kinds", "_law_number"] ["_law_script", "_law_names_here"] (defScope st__law_made) := ⟨rfl, rfl, rfl, by decide +kernel, rfl, by decide +kernel, by decide +kernel⟩
theorem def_made (R : Raw K mg "_law_made" st__law_made ["_law_script", "_law_names_here"]) (T : Txt K w mg) (D__law_cell_at : Def P w K mg base 1 "_law_cell_at" ["_law_script", "_law_k"] (spCell K)) (D__law_row : Def P w K mg base 3 "_law_row" ["_law_k", "_law_cell", "_law_free", "_law_names_here"] (spRow K)) : Def P w K mg base 4 "_law_made" ["_law_script", "_law_names_here"] (spMade K) := by
  refine R.defJ sc__law_made (fun vs H Q E h => ?_) (fun f cdv A outer s H vs Q E hr h => ?_)
  · obtain ⟨a, nr, ns, ls, rfl, _⟩ := h
    rfl
  · obtain ⟨a, nr, ns, ls, rfl, hS, hn, hnr, hll, hlo, q⟩ := h
    have sc := sc__law_made
    have hu := hr.units
    have hb := big
    refine ⟨_, (jss_cons (js_set (i := 2) sc.nd rfl (Or.inl rfl) (j_lst ja_nil))
    (jss_cons (js_set (i := 3) sc.nd rfl (Or.inl rfl) (j_lst ja_nil))
    (jss_cons (js_for PassesOwn.never rfl (ji_rng1 rfl T.n_range (ja_cons (j_callB (c_len (K := K)) rfl T.n_len PySem.boot_len (ja_cons (j_slice (o_slA (K := K)) (jn 0) (jo_some j_int) (jo_some j_int)) ja_nil)) ja_nil)) (jg_name (i := 4) sc.nd rfl (Or.inl rfl))
    (jss_cons (js_expr (j_bm (K := K) PySem.F.plainAttrs_list PySem.F.slot_list_append PySem.F.type_list_append m_append (jn 2) (ja_cons (j_def D__law_row (hr.mono (by decide)) rfl (ja_cons (jn 4) (ja_cons (j_ix (o_ix hu (K := K) (w := w)) (jn 0) (j_op (o_add (K := K)) j_int (jn 4))) (ja_cons (jn 3) (ja_cons (jn 1) ja_nil))))) ja_nil)))
    (jss_one (js_expr (j_bm (K := K) PySem.F.plainAttrs_list PySem.F.slot_list_append PySem.F.type_list_append m_append (jn 3) (ja_cons (j_tup (ja_cons (j_ix (o_ix hu (K := K) (w := w)) (j_ix (o_ix hu (K := K) (w := w)) (jn 2) (j_neg j_int)) j_int) (ja_cons (j_ix (o_ix hu (K := K) (w := w)) (j_ix (o_ix hu (K := K) (w := w)) (jn 2) (j_neg j_int)) j_int) ja_nil))) ja_nil))))))
    (jss_cons (js_while PassesOwn.never (jt_cmp o_gt (j_callB (c_len (K := K)) rfl T.n_len PySem.boot_len (ja_cons (jn 3) ja_nil)) j_int)
    (jss_cons (js_comp (i := 5) (N := ["_law_mark", "_law_sort"]) (cap := [none, none]) rfl (CompScope.of rfl (by rfl)) (ji_any (K := K) (j_slice (o_slA (K := K)) (jn 3) jo_none (jo_some j_int))) (fun _ _ _ _ => (jg_tup (K := K) (n := 2) rfl (jgs_cons (jg_name (i := 0) (show List.Nodup [("_law_mark" : Str), ("_law_sort" : Str)] by decide +kernel) rfl (Or.inl rfl)) (jgs_cons (jg_name (i := 1) (show List.Nodup [("_law_mark" : Str), ("_law_sort" : Str)] by decide +kernel) rfl (Or.inl rfl)) jgs_nil)))) (fun _ _ _ _ => jts_nil) (fun _ _ _ _ => (j_tup (ja_cons (jn 0) (ja_cons j_non ja_nil)))) sc.nd rfl rfl)
    (jss_cons (js_comp (i := 6) (N := ["_law_mark", "_law_sort"]) (cap := [none, none]) rfl (CompScope.of rfl (by rfl)) (ji_any (K := K) (j_slice (o_slA (K := K)) (jn 3) jo_none (jo_some j_int))) (fun _ _ _ _ => (jg_tup (K := K) (n := 2) rfl (jgs_cons (jg_name (i := 0) (show List.Nodup [("_law_mark" : Str), ("_law_sort" : Str)] by decide +kernel) rfl (Or.inl rfl)) (jgs_cons (jg_name (i := 1) (show List.Nodup [("_law_mark" : Str), ("_law_sort" : Str)] by decide +kernel) rfl (Or.inl rfl)) jgs_nil)))) (fun _ _ _ _ => jts_nil) (fun _ _ _ _ => (jn 1)) sc.nd rfl rfl)
    (jss_cons (js_set (i := 7) sc.nd rfl (Or.inl rfl) (j_op (o_add (K := K)) (j_op o_mul (j_op o_mod (j_def D__law_cell_at (hr.mono (by decide)) rfl (ja_cons (jn 0) (ja_cons j_int ja_nil))) (j_op o_pow j_int j_int)) j_int) (j_callB (c_len (K := K)) rfl T.n_len PySem.boot_len (ja_cons (jn 2) ja_nil))))
    (jss_cons (js_expr (j_bm (K := K) PySem.F.plainAttrs_list PySem.F.slot_list_append PySem.F.type_list_append m_append (jn 2) (ja_cons (j_tup (ja_cons (jn 7) (ja_cons (j_ix (o_ix hu (K := K) (w := w)) (jn 1) (j_op o_mod (j_callB (c_len (K := K)) rfl T.n_len PySem.boot_len (ja_cons (jn 2) ja_nil)) j_int)) (ja_cons (jn 5) (ja_cons (jn 6) ja_nil))))) ja_nil)))
    (jss_one (js_set (i := 3) sc.nd rfl (Or.inl rfl) (j_op (o_add (K := K)) (j_slice (o_slA (K := K)) (jn 3) (jo_some j_int) jo_none) (j_lst (ja_cons (j_tup (ja_cons (jn 7) (ja_cons (j_ix (o_ix hu (K := K) (w := w)) (jn 1) (j_op o_mod (j_op o_sub (j_callB (c_len (K := K)) rfl T.n_len PySem.boot_len (ja_cons (jn 2) ja_nil)) j_int) j_int)) ja_nil))) ja_nil))))))))))
    (jss_one (js_ret (jn 2))))))), ?_⟩
    refine ⟨(show 0 ≤ sizeLine by decide), fun ma hma => ?_⟩
    have s1 : Same H (upd H ma (.lst [])) := same_new hma
    have h1 : upd H ma (.lst []) ma = some (.lst []) := upd_same
    generalize upd H ma (.lst []) = H1 at s1 h1 ⊢
    refine ⟨(show 0 ≤ sizeLine by decide), fun fr hfr => ?_⟩
    have s2 : Same H1 (upd H1 fr (.lst [])) := same_new hfr
    have h2 : upd H1 fr (.lst []) fr = some (.lst []) := upd_same
    have nmf : ma ≠ fr := fun z => by rw [← z, h1] at hfr; cases hfr
    have hfr0 : H fr = none := s1.free hfr
    generalize upd H1 fr (.lst []) = H2 at s2 h2 ⊢
    have s12 := s1.trans s2
    obtain ⟨hc16, hcn⟩ := cut_18 ns
    refine .inl ⟨_, s12.seq hS, fun cp hcp => ?_⟩
    generalize cutV (ns.map V.int) (some 2) (some 18) = cv at hc16 hcn ⊢
    have s3 : Same H2 (upd H2 cp (.lst cv)) := same_new hcp
    have h3 : upd H2 cp (.lst cv) cp = some (.lst cv) := upd_same
    generalize upd H2 cp (.lst cv) = H3 at s3 h3 ⊢
    have s13 := s12.trans s3
    refine ⟨_, .inl (SqL.of h3), by omega, by omega, ?_⟩
    have nH : ∀ {b : Addr} {u : HO}, H b = some u → b ≠ ma ∧ b ≠ fr := fun e => ⟨(fun z => by rw [z, hma] at e; cases e), (fun z => by rw [z, hfr0] at e; cases e)⟩
    refine for_range (n := ((cv.length : Nat) : Int).toNat) (fun k σ H' => ∃ (mv fv : List V) (rows : List MR) (fs : List (Int × List Nat)) (v4 : Option V), Same H H' ∧ H' ma = some (.lst mv) ∧ H' fr = some (.lst fv) ∧ MdV [ma, fr] H' mv rows ∧ TV freeG H' fv fs ∧ GoodR rows ∧ FrOk rows fs ∧ rows.length = k ∧ (∀ x ∈ fs, ∀ c ∈ x.2, okSign c) ∧
        σ = [some (.ref a), some (.ref nr), some (.ref ma), some (.ref fr), v4, none, none, none])
      ⟨[], [], [], [], none, s13, (s2.trans s3) _ _ h1, s3 _ _ h2, ⟨rfl, fun k q e => by cases e⟩, ⟨rfl, fun k q e => by cases e⟩, good_nil.1, good_nil.2, rfl, (fun x hx => by cases hx), rfl⟩ ?_ ?_
    · rintro k σ H' hk ⟨mv, fv, rows, fs, v4, sm, hmv, hfv, hMd, hFt, g, fo, hrl, hfok, rfl⟩
      rw [Int.toNat_natCast] at hk
      have hk16 : k < 16 := by omega
      have hmvl := hMd.len
      have hfl := fo.len
      have hfvl := hFt.len
      have h2k : 2 + k < ns.length := by omega
      have eS : atI (ns.map V.int) (2 + (0 + ((k : Nat) : Int))) = some (.int ns[2 + k]) := by
        rw [show (2 : Int) + (0 + ((k : Nat) : Int)) = ((2 + k : Nat) : Int) by omega]
        exact atI_nat (by rw [List.getElem?_map, List.getElem?_eq_getElem h2k]; rfl)
      refine ⟨.inl ⟨rfl, _, SqL.of hmv⟩, .inl ⟨_, _, sm.seq hS, eS, ?_⟩⟩
      refine ⟨k, _, fr, nr, fv, fs, ls, by rw [Int.zero_add], by omega, hfv, hFt, by omega, hfok, (nH hnr).2, sm _ _ hnr, hll, hlo, ?_⟩
      intro H5 t pp kp pv fv' x fs' kH hT hpp hPt hkp hpp0 hkp0 hfr' hFt' rr hfl' hso
      have hmv5 := kH _ _ nmf hmv
      refine ⟨mv, hmv5, by omega, ?_⟩
      have tup5 : ∀ {b : Addr} {vs : List V}, H' b = some (.tup vs) → H5 b = some (.tup vs) := fun e => kH _ _ (fun z => by rw [z, hfv] at e; cases e) e
      have n5 : ∀ {b : Addr} {vs : List V}, H5 b = some (.tup vs) → b ≠ ma := fun e z => by rw [z, hmv5] at e; cases e
      have ppm : pp ≠ ma := fun z => by rw [z, hmv] at hpp0; cases hpp0
      have kpm : kp ≠ ma := fun z => by rw [z, hmv] at hkp0; cases hkp0
      have ppf : pp ≠ fr := fun z => by rw [z, hfv] at hpp0; cases hpp0
      have kpf : kp ≠ fr := fun z => by rw [z, hfv] at hkp0; cases hkp0
      have m6 : upd H5 ma (.lst (mv ++ [.ref t])) ma = some (.lst (mv ++ [.ref t])) := upd_same
      have f6 : upd H5 ma (.lst (mv ++ [.ref t])) fr = some (.lst fv') := by rw [upd_ne nmf.symm]; exact hfr'
      have T6 : upd H5 ma (.lst (mv ++ [.ref t])) t = some (.tup [.int x.m, .str (S x.sort), .ref pp, .ref kp]) := by rw [upd_ne (n5 hT)]; exact hT
      have F6 : TV freeG (upd H5 ma (.lst (mv ++ [.ref t]))) fv' fs' := hFt'.mono fun t vs e => by rw [upd_ne (n5 e)]; exact e
      have M6 : MdV [ma, fr] (upd H5 ma (.lst (mv ++ [.ref t]))) (mv ++ [.ref t]) (rows ++ [x]) := by
        have M5 : MdV [ma, fr] H5 mv rows := hMd.mono (fun t vs e => tup5 e) fun b xs nb e => ⟨kH _ _ (fun z => nb (by simp [z])) e, nb⟩
        refine (M5.snoc hT hpp hPt hkp (by simp [ppm, ppf]) (by simp [kpm, kpf])).mono (fun t vs e => by rw [upd_ne (n5 e)]; exact e) fun b xs nb e => ⟨?_, nb⟩
        rw [upd_ne fun z => nb (by simp [z])]; exact e
      have s6 : Same H (upd H5 ma (.lst (mv ++ [.ref t]))) := fun b u e => by rw [upd_ne (nH e).1]; exact kH _ _ (nH e).2 (sm b u e)
      generalize upd H5 ma (.lst (mv ++ [.ref t])) = H6 at m6 f6 T6 F6 M6 s6 ⊢
      have elast : (mv ++ [V.ref t])[(mv ++ [V.ref t]).length - 1]? = some (.ref t) := by
        rw [List.length_append, List.getElem?_append_right (by simp)]; simp
      refine ⟨.inl ⟨rfl, _, SqL.of f6⟩, ?_⟩
      refine .inl ⟨_, _, SqL.of m6, atI_last elast, ?_⟩
      refine .inr ⟨_, _, SqT.of T6, rfl, ?_⟩
      refine .inl ⟨_, _, SqL.of m6, atI_last elast, ?_⟩
      refine .inr ⟨_, _, SqT.of T6, rfl, ?_⟩
      refine ⟨(show 2 ≤ sizeLine by decide), fun t7 ht7 => ?_⟩
      have s7 : Same H6 (upd H6 t7 (.tup [.int x.m, .str (S x.sort)])) := same_new ht7
      have h7 : upd H6 t7 (.tup [.int x.m, .str (S x.sort)]) t7 = some (.tup (freeG (x.m, x.sort))) := upd_same
      generalize upd H6 t7 (.tup [.int x.m, .str (S x.sort)]) = H7 at s7 h7 ⊢
      have hfvl' := hFt'.len
      refine ⟨fv', s7 _ _ f6, by omega, ?_⟩
      have n7 : ∀ {b : Addr} {vs : List V}, H7 b = some (.tup vs) → b ≠ fr := fun e z => by rw [z, s7 _ _ f6] at e; cases e
      rw [← hrl] at rr
      have ms := made_step g fo rr (by omega) (by omega)
      refine ⟨mv ++ [.ref t], _, rows ++ [x], fs' ++ [(x.m, x.sort)], _, fun b u e => ?_, ?_, upd_same, ?_, ?_, ms.1, ms.2, by simp [hrl], fun y hy => ?_, rfl⟩
      · rw [upd_ne (nH e).2]; exact s7 _ _ (s6 b u e)
      · rw [upd_ne nmf]; exact s7 _ _ m6
      · refine M6.mono (fun t vs e => by rw [upd_ne (n7 (s7 _ _ e))]; exact s7 _ _ e) fun b xs nb e => ⟨?_, nb⟩
        rw [upd_ne fun z => nb (by simp [z])]; exact s7 _ _ e
      · exact ((F6.mono fun t vs e => s7 _ _ e).snoc h7).mono fun t vs e => by rw [upd_ne (n7 e)]; exact e
      · rcases List.mem_append.mp hy with z | z
        · exact hfok y (rr.sub y z)
        · rw [List.mem_singleton.mp z]; exact rr.ok.s3
    · rintro σ H' ⟨mv, fv, rows, fs, v4, sm, hmv, hfv, hMd, hFt, g, fo, hrl, hfok, rfl⟩
      rw [Int.toNat_natCast] at hrl
      have hfl := fo.len
      refine ⟨fun m σ H' => ∃ (fr : Addr) (mv fv : List V) (rows : List MR) (fs : List (Int × List Nat)) (v5 v6 v7 : Option V), m = fs.length ∧ Same H H' ∧ H' ma = some (.lst mv) ∧ H' fr = some (.lst fv) ∧ fr ≠ ma ∧ MdV [ma] H' mv rows ∧ TV freeG H' fv fs ∧ GoodR rows ∧ FrOk rows fs ∧ rows.length + fs.length ≤ 40 ∧ (∀ x ∈ fs, ∀ c ∈ x.2, okSign c) ∧
          σ = [some (.ref a), some (.ref nr), some (.ref ma), some (.ref fr), v4, v5, v6, v7],
        ⟨_, fr, mv, fv, rows, fs, none, none, none, rfl, sm, hmv, hfv, nmf.symm, hMd.mono (fun t vs e => e) (fun b xs nb e => ⟨e, fun m => nb (by rw [List.mem_singleton.mp m]; simp)⟩), hFt, g, fo, by omega, hfok, rfl⟩, ?_⟩
      clear hmv hfv hMd hFt g fo hrl hfok hfl sm mv fv rows fs
      rintro m σ H' ⟨fr, mv, fv, rows, fs, v5, v6, v7, rfl, sm, hmv, hfv, nfm, hMd, hFt, g, fo, hsz, hfok, rfl⟩
      have hfvl := hFt.len
      have hmvl := hMd.len
      have hfol := fo.len
      refine ⟨_, .inl (SqL.of hfv), ?_⟩
      show if decide ((1 : Int) < ((fv.length : Nat) : Int)) = true then _ else _
      refine ite2 (fun h => ?_) (fun h => ?_)
      · have h1 : 1 < fs.length := by have := of_decide_eq_true h; omega
        refine ⟨fun σ' H2 => ∃ (fr : Addr) (mv fv : List V) (rows : List MR) (fs2 : List (Int × List Nat)) (v5 v6 v7 : Option V), fs2.length < fs.length ∧ Same H H2 ∧ H2 ma = some (.lst mv) ∧ H2 fr = some (.lst fv) ∧ fr ≠ ma ∧ MdV [ma] H2 mv rows ∧ TV freeG H2 fv fs2 ∧ GoodR rows ∧ FrOk rows fs2 ∧ rows.length + fs2.length ≤ 40 ∧ (∀ x ∈ fs2, ∀ c ∈ x.2, okSign c) ∧
            σ' = [some (.ref a), some (.ref nr), some (.ref ma), some (.ref fr), v4, v5, v6, v7], ?_, ?_⟩
        · rintro σ' H2 ⟨fr, mv, fv, rows, fs2, v5, v6, v7, b1, b2⟩
          exact ⟨_, b1, fr, mv, fv, rows, fs2, v5, v6, v7, rfl, b2⟩
        refine .inl ⟨_, SqL.of hfv, fun p1 hp1 => ?_⟩
        rw [cut8_take]
        have s4 : Same H' (upd H' p1 (.lst (fv.take 8))) := same_new hp1
        have h4 : upd H' p1 (.lst (fv.take 8)) p1 = some (.lst (fv.take 8)) := upd_same
        generalize upd H' p1 (.lst (fv.take 8)) = H4 at s4 h4 ⊢
        have hF8 : TV freeG H4 (fv.take 8) (fs.take 8) := (hFt.take 8).mono fun t vs e => s4 _ _ e
        have h8l : (fs.take 8).length ≤ 8 := by rw [List.length_take]; omega
        have h8v : (fv.take 8).length = (fs.take 8).length := hF8.len
        refine .inl ⟨⟨_, SqL.of h4⟩, ?_⟩
        refine gath_list (xs := fv.take 8) (fun i gs σ' H5 => Same H4 H5 ∧ TV partG H5 gs (((fs.take 8).take i).map pN) ∧ ∃ v0 v1, σ' = [v0, v1]) (by omega) ⟨Same.refl _, ⟨rfl, fun k q e => by cases e⟩, none, none, rfl⟩
          (fun i gs σ' H5 h => by have := h.2.1.len; rw [List.length_map, List.length_take] at this; omega) (fun i gs σ' H5 h => SqL.of (h.1 _ _ h4)) ?_ ?_
        · rintro i y gs σ' H5 hi ⟨s5, hg, v0, v1, rfl⟩
          obtain ⟨x, t, ex, rfl, hT⟩ := hF8.has hi
          refine ⟨t, _, rfl, SqT.of (s5 _ _ hT), rfl, _, _, rfl, _, _, rfl, rfl, ?_⟩
          refine ⟨(show 2 ≤ sizeLine by decide), fun t6 ht6 => ?_⟩
          have s6 : Same H5 (upd H5 t6 (.tup [.int x.1, .non])) := same_new ht6
          have h6 : upd H5 t6 (.tup [.int x.1, .non]) t6 = some (.tup (partG (pN x))) := upd_same
          generalize upd H5 t6 (.tup [.int x.1, .non]) = H6 at s6 h6 ⊢
          refine ⟨s5.trans s6, ?_, _, _, rfl⟩
          rw [take_snoc ex, List.map_append]
          exact (hg.mono fun t vs e => s6 _ _ e).snoc h6
        rintro gs σ' H5 ⟨s5, hg, v0, v1, rfl⟩ pp hpp
        rw [h8v, List.take_length] at hg
        have s6 : Same H5 (upd H5 pp (.lst gs)) := same_new hpp
        have h6 : upd H5 pp (.lst gs) pp = some (.lst gs) := upd_same
        generalize upd H5 pp (.lst gs) = H6 at s6 h6 ⊢
        have s46 := s5.trans s6
        have s06 := s4.trans s46
        refine .inl ⟨_, SqL.of (s06 _ _ hfv), fun p7 hp7 => ?_⟩
        rw [cut8_take]
        have s7 : Same H6 (upd H6 p7 (.lst (fv.take 8))) := same_new hp7
        have h7 : upd H6 p7 (.lst (fv.take 8)) p7 = some (.lst (fv.take 8)) := upd_same
        generalize upd H6 p7 (.lst (fv.take 8)) = H7 at s7 h7 ⊢
        refine .inl ⟨⟨_, SqL.of h7⟩, ?_⟩
        refine gath_list (xs := fv.take 8) (fun i gs σ' H8 => H8 = H7 ∧ gs = (((fs.take 8).take i).map (·.2)).map (fun k => V.str (S k)) ∧ ∃ v0 v1, σ' = [v0, v1]) (by omega) ⟨rfl, rfl, none, none, rfl⟩
          (fun i gs σ' H8 h => by rw [h.2.1, List.length_map, List.length_map, List.length_take]; omega) (fun i gs σ' H8 h => by rw [h.1]; exact SqL.of h7) ?_ ?_
        · rintro i y gs' σ' H8 hi ⟨rfl, rfl, v0, v1, rfl⟩
          obtain ⟨x, t, ex, rfl, hT⟩ := hF8.has hi
          refine ⟨t, _, rfl, SqT.of (s7 _ _ (s46 _ _ hT)), rfl, _, _, rfl, _, _, rfl, rfl, ?_⟩
          refine ⟨rfl, ?_, _, _, rfl⟩
          rw [take_snoc ex, List.map_append, List.map_append]
          rfl
        rintro gs' σ' H8 ⟨rfl, rfl, v0, v1, rfl⟩ kp hkp
        rw [h8v, List.take_length]
        have s9 : Same H8 (upd H8 kp (.lst (((fs.take 8).map (·.2)).map fun k => V.str (S k)))) := same_new hkp
        have h9 : upd H8 kp (.lst (((fs.take 8).map (·.2)).map fun k => V.str (S k))) kp = some (.lst (((fs.take 8).map (·.2)).map fun k => V.str (S k))) := upd_same
        generalize upd H8 kp (.lst (((fs.take 8).map (·.2)).map fun k => V.str (S k))) = H9 at s9 h9 ⊢
        have s69 := s7.trans s9
        have s09 := s06.trans s69
        have sH9 := sm.trans s09
        refine ⟨a, ns, 1, rfl, sH9.seq hS, ⟨by decide, by decide, by decide⟩, by decide +kernel, .inr ⟨by decide, by decide⟩, _, .inl (SqL.of (s09 _ _ hmv)), ?_⟩
        obtain ⟨nu, hnu⟩ : ∃ nu : Int, nu = ns.getD 1 0 % (10 : Int) ^ Int.toNat 9 * 64 + ((mv.length : Nat) : Int) := ⟨_, rfl⟩
        have hnu64 : nu % 64 = (rows.length : Int) := by
          rw [hnu]
          generalize ns.getD 1 0 % (10 : Int) ^ Int.toNat 9 = y
          omega
        obtain ⟨so, hso, eso⟩ := name_in hll (x := ((mv.length : Nat) : Int) % 5) (by omega) (by omega)
        refine ⟨.inl ⟨rfl, _, SqL.of (s09 _ _ hmv)⟩, _, .inl (SqL.of (s09 _ _ hmv)), by decide, .inl ⟨_, _, SqL.of (sH9 _ _ hnr), eso, ?_⟩⟩
        refine ⟨(show 4 ≤ sizeLine by decide), fun t10 ht10 => ?_⟩
        have s10 : Same H9 (upd H9 t10 (.tup [.int (ns.getD 1 0 % (10 : Int) ^ Int.toNat 9 * 64 + ((mv.length : Nat) : Int)), .str (S so), .ref pp, .ref kp])) := same_new ht10
        have h10 : upd H9 t10 (.tup [.int (ns.getD 1 0 % (10 : Int) ^ Int.toNat 9 * 64 + ((mv.length : Nat) : Int)), .str (S so), .ref pp, .ref kp]) t10 = some (.tup [.int nu, .str (S so), .ref pp, .ref kp]) := by rw [hnu]; exact upd_same
        generalize upd H9 t10 (.tup [.int (ns.getD 1 0 % (10 : Int) ^ Int.toNat 9 * 64 + ((mv.length : Nat) : Int)), .str (S so), .ref pp, .ref kp]) = H10 at s10 h10 ⊢
        have s010 := s09.trans s10
        refine ⟨mv, s010 _ _ hmv, by omega, ?_⟩
        have ppm : pp ≠ ma := fun z => by rw [z] at hpp; rw [(s4.trans s5) _ _ hmv] at hpp; cases hpp
        have kpm : kp ≠ ma := fun z => by rw [z] at hkp; rw [(s06.trans s7) _ _ hmv] at hkp; cases hkp
        have n10 : ∀ {b : Addr} {vs : List V}, H10 b = some (.tup vs) → b ≠ ma := fun e z => by rw [z, s010 _ _ hmv] at e; cases e
        have pp10 : H10 pp = some (.lst gs) := s10 _ _ (s69 _ _ h6)
        have kp10 : H10 kp = some (.lst (((fs.take 8).map (·.2)).map fun k => V.str (S k))) := s10 _ _ h9
        have M11 : MdV [ma] (upd H10 ma (.lst (mv ++ [.ref t10]))) (mv ++ [.ref t10]) (rows ++ [⟨nu, so, (fs.take 8).map pN, (fs.take 8).map (·.2)⟩]) := by
          have M10 : MdV [ma] H10 mv rows := hMd.mono (fun t vs e => s010 _ _ e) fun b xs nb e => ⟨s010 _ _ e, nb⟩
          have M10' := M10.snoc (q := ⟨nu, so, (fs.take 8).map pN, (fs.take 8).map (·.2)⟩) h10 pp10 (hg.mono fun t vs e => s10 _ _ (s69 _ _ (s6 _ _ e))) kp10 (by simp [ppm]) (by simp [kpm])
          refine M10'.mono (H' := upd H10 ma (.lst (mv ++ [.ref t10]))) (fun t vs e => by rw [upd_ne (n10 e)]; exact e) fun b xs nb e => ⟨?_, nb⟩
          rw [upd_ne fun z => nb (by simp [z])]; exact e
        have m11 : upd H10 ma (.lst (mv ++ [.ref t10])) ma = some (.lst (mv ++ [.ref t10])) := upd_same
        have f11 : upd H10 ma (.lst (mv ++ [.ref t10])) fr = some (.lst fv) := by rw [upd_ne nfm]; exact s010 _ _ hfv
        have s11 : Same H (upd H10 ma (.lst (mv ++ [.ref t10]))) := fun b u e => by rw [upd_ne fun z => by rw [z, hma] at e; cases e]; exact s010 _ _ (sm b u e)
        have F11 : TV freeG (upd H10 ma (.lst (mv ++ [.ref t10]))) (fv.drop 8) (fs.drop 8) := (hFt.drop 8).mono fun t vs e => by rw [upd_ne (n10 (s010 _ _ e))]; exact s010 _ _ e
        generalize upd H10 ma (.lst (mv ++ [.ref t10])) = H11 at M11 m11 f11 s11 F11 ⊢
        refine .inl ⟨_, SqL.of f11, fun p12 hp12 => ?_⟩
        rw [cut8_drop]
        have s12 : Same H11 (upd H11 p12 (.lst (fv.drop 8))) := same_new hp12
        have h12 : upd H11 p12 (.lst (fv.drop 8)) p12 = some (.lst (fv.drop 8)) := upd_same
        generalize upd H11 p12 (.lst (fv.drop 8)) = H12 at s12 h12 ⊢
        have eso2 : atI (ls.map fun k => V.str (S k)) (((((mv ++ [V.ref t10]).length : Nat) : Int) - 1) % 5) = some (.str (S so)) := by
          rw [show (((mv ++ [V.ref t10]).length : Nat) : Int) - 1 = ((mv.length : Nat) : Int) by rw [List.length_append]; simp]
          exact eso
        refine ⟨_, .inl (SqL.of (s12 _ _ m11)), by decide, .inl ⟨_, _, SqL.of (s12 _ _ (s11 _ _ hnr)), eso2, ?_⟩⟩
        refine ⟨(show 2 ≤ sizeLine by decide), fun t13 ht13 => ?_⟩
        have s13' : Same H12 (upd H12 t13 (.tup [.int (ns.getD 1 0 % (10 : Int) ^ Int.toNat 9 * 64 + ((mv.length : Nat) : Int)), .str (S so)])) := same_new ht13
        have h13 : upd H12 t13 (.tup [.int (ns.getD 1 0 % (10 : Int) ^ Int.toNat 9 * 64 + ((mv.length : Nat) : Int)), .str (S so)]) t13 = some (.tup (freeG (nu, so))) := by rw [hnu]; exact upd_same
        generalize upd H12 t13 (.tup [.int (ns.getD 1 0 % (10 : Int) ^ Int.toNat 9 * 64 + ((mv.length : Nat) : Int)), .str (S so)]) = H13 at s13' h13 ⊢
        refine ⟨(show 1 ≤ sizeLine by decide), fun p14 hp14 => ?_⟩
        have s14 : Same H13 (upd H13 p14 (.lst [.ref t13])) := same_new hp14
        have h14 : upd H13 p14 (.lst [.ref t13]) p14 = some (.lst [.ref t13]) := upd_same
        generalize upd H13 p14 (.lst [.ref t13]) = H14 at s14 h14 ⊢
        refine .inl ⟨_, _, s14 _ _ (s13' _ _ h12), h14, by rw [List.length_drop]; simp; omega, fun p15 hp15 => ?_⟩
        have s15 : Same H14 (upd H14 p15 (.lst (fv.drop 8 ++ [.ref t13]))) := same_new hp15
        have h15 : upd H14 p15 (.lst (fv.drop 8 ++ [.ref t13])) p15 = some (.lst (fv.drop 8 ++ [.ref t13])) := upd_same
        have s1115 := s12.trans (s13'.trans s14)
        have n15 : p15 ≠ ma := fun z => by rw [z, s1115 _ _ m11] at hp15; cases hp15
        generalize upd H14 p15 (.lst (fv.drop 8 ++ [.ref t13])) = H15 at s15 h15 ⊢
        have s1115' := s1115.trans s15
        have h8m : ∀ x ∈ fs.take 8, x ∈ fs := fun x hx => List.mem_of_mem_take hx
        have so3 := hlo so hso
        have rr : RowRes rows.length fs ⟨nu, so, (fs.take 8).map pN, (fs.take 8).map (·.2)⟩ (fs.drop 8) := by
          refine ⟨hnu64, ⟨so3.1, so3.2.1, so3.2.2, by show ((fs.take 8).map pN).length ≤ 8; rw [List.length_map]; exact h8l, fun p hp s e => ?_, by show ((fs.take 8).map (·.2)).length ≤ 8; rw [List.length_map]; exact h8l, fun k hk => ?_⟩, fun f => ?_, fun p hp _ => ?_, fun x hx => List.mem_of_mem_drop hx⟩
          · obtain ⟨x, _, rfl⟩ := List.mem_map.mp hp
            cases e
          · obtain ⟨x, hx, rfl⟩ := List.mem_map.mp hk
            exact hfok x (h8m x hx)
          · show nsum f ((fs.take 8).map pN) + xsum f (fs.drop 8) = xsum f fs
            rw [nsum_pN, ← xsum_app, List.take_append_drop]
          · obtain ⟨x, hx, rfl⟩ := List.mem_map.mp hp
            exact ⟨x, h8m x hx, rfl⟩
        have ms := made_step g fo rr (by omega) (by rw [List.length_drop]; omega)
        refine ⟨p15, _, _, _, fs.drop 8 ++ [(nu, so)], _, _, _, by rw [List.length_append, List.length_drop]; simp; omega, s11.trans s1115', s1115' _ _ m11, h15, n15, M11.mono (fun t vs e => s1115' _ _ e) (fun b xs nb e => ⟨s1115' _ _ e, nb⟩), ?_, ms.1, ms.2, by rw [List.length_append, List.length_append, List.length_drop]; simp; omega, fun x hx => ?_, rfl⟩
        · exact (((F11.mono fun t vs e => s12 _ _ e).mono fun t vs e => s13' _ _ e).snoc h13).mono fun t vs e => s15 _ _ (s14 _ _ e)
        · rcases List.mem_append.mp hx with z | z
          · exact hfok x (List.mem_of_mem_drop z)
          · rw [List.mem_singleton.mp z]; exact so3.2.2
      · exact q H' ma mv rows sm hmv hMd g
end
end K82

set_option Elab.async false
set_option linter.all false
set_option maxRecDepth 100000
set_option maxHeartbeats 4000000



namespace K82
open PySem PySem.Spec PyProof.Rows L2 Rg
def RuE (H : Hp) (y : V) : Prop := y = .non ∨ ∃ (t kt : Addr) (so : List Nat) (nu : Int) (ks : List (List Nat)), y = .ref t ∧ H t = some (.tup [.str (S so), .int nu, .str "none", .ref kt]) ∧ H kt = some (.tup (ks.map fun k => V.str (S k))) ∧ (∀ c ∈ so, okSign c) ∧ (∀ k ∈ ks, ∀ c ∈ k, okSign c)
theorem RuE.mono {H H' : Hp} {y : V} (h : RuE H y) (e : ∀ t vs, H t = some (.tup vs) → H' t = some (.tup vs)) : RuE H' y := by
  rcases h with h | ⟨t, kt, so, nu, ks, h1, h2, h3, h4⟩
  · exact .inl h
  · exact .inr ⟨t, kt, so, nu, ks, h1, e _ _ h2, e _ _ h3, h4⟩
theorem RuE.dat {K : PySem.W.Frag} {H : Hp} {y : V} (h : RuE H y) : ∃ d : PyData, DatV K H y d ∧ d.canLay0 = true ∧ d.depth ≤ 5 := by
  rcases h with rfl | ⟨t, kt, so, nu, ks, rfl, h2, h3, h4, h5⟩
  · exact ⟨.none, .none, by simp only [PyData.canLay0], by simp only [PyData.depth]; omega⟩
  · refine ⟨.tuple [.str (S so), .int nu, .str "none", .tuple (ks.map fun k => PyData.str (S k))], .tuple (SqT.of h2) (.cons (.str _) (.cons (.int _) (.cons (.str _) (.cons (.tuple (SqT.of h3) (strs_dat ks)) .nil)))), ?_, ?_⟩
    · have h6 : PyData.strOk ("none" : Str) = true := by decide +kernel
      simp only [PyData.canLay0, PyData.canLayAll0, strOk_S h4, h6, strs_lay h5, Bool.and_self]
    · have := strs_depth ks
      simp only [PyData.depth, PyData.depthAll]
      omega
theorem all_dat {K : PySem.W.Frag} {H : Hp} : ∀ {rv : List V}, (∀ y ∈ rv, RuE H y) → ∃ ds : List PyData, DatVs K H rv ds ∧ PyData.canLayAll0 ds = true ∧ PyData.depthAll ds ≤ 5
  | [], _ => ⟨[], .nil, by simp only [PyData.canLayAll0], by simp only [PyData.depthAll]; omega⟩
  | y :: r, h => by
    obtain ⟨d, h1, h2, h3⟩ := (h y List.mem_cons_self).dat (K := K)
    obtain ⟨ds, g1, g2, g3⟩ := all_dat (K := K) (rv := r) fun z hz => h z (List.mem_cons_of_mem _ hz)
    exact ⟨d :: ds, .cons h1 g1, by simp only [PyData.canLayAll0, h2, g2, Bool.and_self], by simp only [PyData.depthAll]; omega⟩
def numF (c : Int) (n k : Nat) : Nat := (((k : Int) + c) % (n : Int)).toNat
theorem num_at {c : Int} {n k : Nat} (h : k < n) : ((numF c n k : Nat) : Int) = ((k : Int) + c) % (n : Int) ∧ numF c n k < n := by
  have h1 := Int.emod_nonneg ((k : Int) + c) (show (n : Int) ≠ 0 by omega)
  have h2 := Int.emod_lt_of_pos ((k : Int) + c) (show 0 < (n : Int) by omega)
  unfold numF
  omega
theorem num_inj {c : Int} {n i j : Nat} (hi : i < n) (hj : j < n) (e : numF c n i = numF c n j) : i = j := by
  have key : ∀ {i j : Nat}, i < n → j < n → j ≤ i → numF c n i = numF c n j → i = j := by
    intro i j hi hj hle e
    have h1 := (num_at (c := c) hi).1
    have h2 := (num_at (c := c) hj).1
    rw [e, h2] at h1
    have h3 := Int.emod_eq_emod_iff_emod_sub_eq_zero.mp h1.symm
    rw [show (i : Int) + c - ((j : Int) + c) = ((i - j : Nat) : Int) by omega, Int.emod_eq_of_lt (by omega) (by omega)] at h3
    omega
  by_cases h : j ≤ i
  · exact key hi hj h e
  · exact (key hj hi (by omega) e.symm).symm
theorem datvs_of {K : PySem.W.Frag} {H : Hp} {α : Type} {f : α → PyData} : ∀ {ys : List V} {l : List α}, ys.length = l.length → (∀ (k : Nat) (a : α), l[k]? = some a → ∃ y, ys[k]? = some y ∧ DatV K H y (f a)) → DatVs K H ys (l.map f)
  | [], [], _, _ => .nil
  | [], _ :: _, h, _ => by simp at h
  | _ :: _, [], h, _ => by simp at h
  | y :: ys, a :: l, h, g => by
    obtain ⟨z, e, hz⟩ := g 0 a rfl
    cases e
    exact .cons hz (datvs_of (by simpa using h) fun k b hb => g (k + 1) b hb)
theorem TV.parts {K : PySem.W.Frag} {H : Hp} {ys : List V} {ps : List (Int × Option (List Nat))} (h : TV partG H ys ps) : DatVs K H ys (ps.map partDat) := datvs_of h.len fun k a e => by
  obtain ⟨t, h1, h2⟩ := h.at' k a e
  exact ⟨_, h1, .tuple (SqT.of h2) (.cons (.int _) (.cons (txt_dat _) .nil))⟩
section
variable {P : Program} {w : World} {K : PySem.W.Frag} {mg : Str → Option Value} {base : Heap}
def spTold (K : PySem.W.Frag) : Sp := fun vs H Q _ => ∃ (ma : Addr) (c : Int) (mv : List V) (rows : List MR), vs = [.ref ma, .int c] ∧ H ma = some (.lst mv) ∧ MdV [ma] H mv rows ∧ GoodR rows ∧
  ∀ (H' : Hp) (t rl wl : Addr) (rv wv : List V) (num : Nat → Nat), Same H H' → H' t = some (.tup [.ref rl, .ref wl]) → H' rl = some (.lst rv) → H' wl = some (.lst wv) → rv.length = rows.length → RuAt K H' rv rows num → (∀ y ∈ rv, RuE H' y) → DatVs K H' wv ((toRw rows num).map rowDat) → Q (.ref t) H'
abbrev st__law_told : Stmt := top 9
theorem sc__law_told : FnScope ["_law_made_here", "_law_shift", "_law_rules", "_law_rows", "_law_k", "_law_mark", "_law_sort", "_law_parts", "_law_kinds", "_law_number"] ["_law_made_here", "_law_shift"] (defScope st__law_told) := ⟨rfl, rfl, rfl, by decide +kernel, rfl, by decide +kernel, by decide +kernel⟩
theorem def_told (R : Raw K mg "_law_told" st__law_told ["_law_made_here", "_law_shift"]) (T : Txt K w mg) : Def P w K mg base 1 "_law_told" ["_law_made_here", "_law_shift"] (spTold K) := by
  refine R.defJ sc__law_told (fun vs H Q E h => ?_) (fun f cdv A outer s H vs Q E hr h => ?_)
  · obtain ⟨ma, c, mv, rows, rfl, _⟩ := h
    rfl
  · obtain ⟨ma, c, mv, rows, rfl, hma, hMd, g, q⟩ := h
    have sc := sc__law_told
    have hu := hr.units
    have hb := big
    have hmvl := hMd.len
    have hgl := g.len
    refine ⟨_, (jss_cons (js_set (i := 2) sc.nd rfl (Or.inl rfl) (j_op o_mul (j_lst (ja_cons j_non ja_nil)) (j_callB (c_len (K := K)) rfl T.n_len PySem.boot_len (ja_cons (jn 0) ja_nil))))
    (jss_cons (js_set (i := 3) sc.nd rfl (Or.inl rfl) (j_lst ja_nil))
    (jss_cons (js_for PassesOwn.never rfl (ji_rng1 rfl T.n_range (ja_cons (j_callB (c_len (K := K)) rfl T.n_len PySem.boot_len (ja_cons (jn 0) ja_nil)) ja_nil)) (jg_name (i := 4) sc.nd rfl (Or.inl rfl))
    (jss_cons (js_asg (j_ix (o_ix hu (K := K) (w := w)) (jn 0) (jn 4)) (jg_tup (K := K) (n := 4) rfl (jgs_cons (jg_name (i := 5) sc.nd rfl (Or.inl rfl)) (jgs_cons (jg_name (i := 6) sc.nd rfl (Or.inl rfl)) (jgs_cons (jg_name (i := 7) sc.nd rfl (Or.inl rfl)) (jgs_cons (jg_name (i := 8) sc.nd rfl (Or.inl rfl)) jgs_nil))))))
    (jss_cons (js_set (i := 9) sc.nd rfl (Or.inl rfl) (j_op o_mod (j_op (o_add (K := K)) (jn 4) (jn 1)) (j_callB (c_len (K := K)) rfl T.n_len PySem.boot_len (ja_cons (jn 0) ja_nil))))
    (jss_cons (js_asg (j_tup (ja_cons (jn 6) (ja_cons (jn 9) (ja_cons j_str (ja_cons (j_callTy (c_tuple (K := K)) rfl T.n_tuple boot_tuple (ja_cons (jn 8) ja_nil)) ja_nil))))) (jg_sub (jn 2) (jn 9)))
    (jss_one (js_expr (j_bm (K := K) PySem.F.plainAttrs_list PySem.F.slot_list_append PySem.F.type_list_append m_append (jn 3) (ja_cons (j_tup (ja_cons (jn 5) (ja_cons (jn 9) (ja_cons (jn 7) ja_nil)))) ja_nil))))))))
    (jss_one (js_ret (j_tup (ja_cons (jn 2) (ja_cons (jn 3) ja_nil)))))))), ?_⟩
    refine ⟨(show 1 ≤ sizeLine by decide), fun p0 hp0 => ?_⟩
    have s0 : Same H (upd H p0 (.lst [.non])) := same_new hp0
    have h0 : upd H p0 (.lst [.non]) p0 = some (.lst [.non]) := upd_same
    generalize upd H p0 (.lst [.non]) = H0 at s0 h0 ⊢
    refine ⟨_, .inl (SqL.of (s0 _ _ hma)), [.non], h0, by omega, by omega, by rw [Int.toNat_natCast]; simp; omega, fun rl hrl => ?_⟩
    rw [Int.toNat_natCast]
    have er : (List.replicate mv.length [V.non]).flatten = List.replicate mv.length V.non := by
      rw [List.flatten_replicate_singleton]
    rw [er]
    have s1 : Same H0 (upd H0 rl (.lst (List.replicate mv.length .non))) := same_new hrl
    have h1 : upd H0 rl (.lst (List.replicate mv.length .non)) rl = some (.lst (List.replicate mv.length .non)) := upd_same
    have hrl0 : H rl = none := s0.free hrl
    generalize upd H0 rl (.lst (List.replicate mv.length .non)) = H1 at s1 h1 ⊢
    refine ⟨(show 0 ≤ sizeLine by decide), fun wl hwl => ?_⟩
    have s2 : Same H1 (upd H1 wl (.lst [])) := same_new hwl
    have h2 : upd H1 wl (.lst []) wl = some (.lst []) := upd_same
    have hwl0 : H wl = none := (s0.trans s1).free hwl
    have nrw : rl ≠ wl := fun z => by rw [← z, h1] at hwl; cases hwl
    generalize upd H1 wl (.lst []) = H2 at s2 h2 ⊢
    have s02 := (s0.trans s1).trans s2
    have nH : ∀ {b : Addr} {u : HO}, H b = some u → b ≠ rl ∧ b ≠ wl := fun e => ⟨(fun z => by rw [z, hrl0] at e; cases e), (fun z => by rw [z, hwl0] at e; cases e)⟩
    refine ⟨_, .inl (SqL.of (s02 _ _ hma)), by omega, by omega, ?_⟩
    generalize hnum : numF c rows.length = num
    refine for_range (n := ((mv.length : Nat) : Int).toNat) (fun k σ H' => ∃ (rv wv : List V) (v4 v5 v6 v7 v8 v9 : Option V), Same H H' ∧ H' rl = some (.lst rv) ∧ H' wl = some (.lst wv) ∧ rv.length = rows.length ∧ wv.length = k ∧ (∀ y ∈ rv, RuE H' y) ∧
        (∀ (j : Nat) (x : MR), j < k → rows[j]? = some x → ∃ t x1 x2 x3, rv[num j]? = some (.ref t) ∧ H' t = some (.tup [.str (S x.sort), x1, x2, x3])) ∧
        (∀ (j : Nat) (x : MR), j < k → rows[j]? = some x → ∃ t pp pv, wv[j]? = some (.ref t) ∧ H' t = some (.tup [.int x.m, .int (num j : Nat), .ref pp]) ∧ H pp = some (.lst pv) ∧ TV partG H pv x.ps) ∧
        σ = [some (.ref ma), some (.int c), some (.ref rl), some (.ref wl), v4, v5, v6, v7, v8, v9])
      ⟨List.replicate mv.length .non, [], none, none, none, none, none, none, s02, s2 _ _ h1, h2, by rw [List.length_replicate]; exact hmvl, rfl, (fun y hy => .inl (List.eq_of_mem_replicate hy)), (fun j x hj => by omega), (fun j x hj => by omega), rfl⟩ ?_ ?_
    · rintro k σ H' hk ⟨rv, wv, v4, v5, v6, v7, v8, v9, sm, hrv, hwv, hrvl, hwvl, hRE, hRI, hWI, rfl⟩
      rw [Int.toNat_natCast] at hk
      have hk' : k < rows.length := by omega
      have eq := List.getElem?_eq_getElem hk'
      generalize rows[k] = x at eq
      have mok := g.ok x (List.mem_of_getElem? eq)
      obtain ⟨t, pp, kp, pv, e1, e2, e3, e4, e5, _, _⟩ := hMd.at' k x eq
      have hnk := num_at (c := c) hk'
      rw [hnum] at hnk
      refine .inl ⟨_, _, SqL.of (sm _ _ hma), by rw [Int.zero_add]; exact atI_nat e1, ?_⟩
      refine ⟨t, _, rfl, SqT.of (sm _ _ e2), rfl, _, _, rfl, _, _, rfl, _, _, rfl, _, _, rfl, rfl, ?_⟩
      refine ⟨_, .inl (SqL.of (sm _ _ hma)), by omega, ?_⟩
      have enu : (0 + ((k : Nat) : Int) + c) % ((mv.length : Nat) : Int) = ((num k : Nat) : Int) := by rw [Int.zero_add, hmvl]; exact hnk.1.symm
      dsimp only [gName]
      rw [enu]
      refine ⟨_, .inl ⟨SqL.of (sm _ _ e5), fun kt hkt => ?_⟩⟩
      have s3 : Same H' (upd H' kt (.tup (x.ks.map fun k => V.str (S k)))) := same_new hkt
      have h3 : upd H' kt (.tup (x.ks.map fun k => V.str (S k))) kt = some (.tup (x.ks.map fun k => V.str (S k))) := upd_same
      generalize upd H' kt (.tup (x.ks.map fun k => V.str (S k))) = H3 at s3 h3 ⊢
      refine ⟨(show 4 ≤ sizeLine by decide), fun t4 ht4 => ?_⟩
      have s4 : Same H3 (upd H3 t4 (.tup [.str (S x.sort), .int (num k : Nat), .str "none", .ref kt])) := same_new ht4
      have h4 : upd H3 t4 (.tup [.str (S x.sort), .int (num k : Nat), .str "none", .ref kt]) t4 = some (.tup [.str (S x.sort), .int (num k : Nat), .str "none", .ref kt]) := upd_same
      generalize upd H3 t4 (.tup [.str (S x.sort), .int (num k : Nat), .str "none", .ref kt]) = H4 at s4 h4 ⊢
      have s34 := s3.trans s4
      refine ⟨rl, _, _, num k, rfl, rfl, s34 _ _ hrv, ?_, ?_⟩
      · unfold ixN
        rw [if_pos (by omega), if_pos (by omega)]
        simp
      have n4 : ∀ {b : Addr} {vs : List V}, H4 b = some (.tup vs) → b ≠ rl := fun e z => by rw [z, s34 _ _ hrv] at e; cases e
      have r5 : upd H4 rl (.lst (rv.set (num k) (.ref t4))) rl = some (.lst (rv.set (num k) (.ref t4))) := upd_same
      have w5 : upd H4 rl (.lst (rv.set (num k) (.ref t4))) wl = some (.lst wv) := by rw [upd_ne nrw.symm]; exact s34 _ _ hwv
      have T5 : ∀ {b : Addr} {vs : List V}, H4 b = some (.tup vs) → upd H4 rl (.lst (rv.set (num k) (.ref t4))) b = some (.tup vs) := fun e => by rw [upd_ne (n4 e)]; exact e
      have s5 : Same H (upd H4 rl (.lst (rv.set (num k) (.ref t4)))) := fun b u e => by rw [upd_ne (nH e).1]; exact s34 _ _ (sm b u e)
      generalize upd H4 rl (.lst (rv.set (num k) (.ref t4))) = H5 at r5 w5 T5 s5 ⊢
      refine ⟨.inl ⟨rfl, _, SqL.of w5⟩, (show 3 ≤ sizeLine by decide), fun t6 ht6 => ?_⟩
      have s6 : Same H5 (upd H5 t6 (.tup [.int x.m, .int (num k : Nat), .ref pp])) := same_new ht6
      have h6 : upd H5 t6 (.tup [.int x.m, .int (num k : Nat), .ref pp]) t6 = some (.tup [.int x.m, .int (num k : Nat), .ref pp]) := upd_same
      generalize upd H5 t6 (.tup [.int x.m, .int (num k : Nat), .ref pp]) = H6 at s6 h6 ⊢
      refine ⟨wv, s6 _ _ w5, by omega, ?_⟩
      have n6 : ∀ {b : Addr} {vs : List V}, H6 b = some (.tup vs) → b ≠ wl := fun e z => by rw [z, s6 _ _ w5] at e; cases e
      have T7 : ∀ {b : Addr} {vs : List V}, H' b = some (.tup vs) → upd H6 wl (.lst (wv ++ [.ref t6])) b = some (.tup vs) := fun e => by
        have := s6 _ _ (T5 (s34 _ _ e))
        rw [upd_ne (n6 this)]; exact this
      have T47 : ∀ {b : Addr} {vs : List V}, H4 b = some (.tup vs) → upd H6 wl (.lst (wv ++ [.ref t6])) b = some (.tup vs) := fun e => by
        have := s6 _ _ (T5 e)
        rw [upd_ne (n6 this)]; exact this
      refine ⟨rv.set (num k) (.ref t4), wv ++ [.ref t6], _, _, _, _, _, _, fun b u e => ?_, ?_, upd_same, by rw [List.length_set]; exact hrvl, by simp [hwvl], fun y hy => ?_, fun j z hj ez => ?_, fun j z hj ez => ?_, rfl⟩
      · rw [upd_ne (nH e).2]; exact s6 _ _ (s5 b u e)
      · rw [upd_ne nrw]; exact s6 _ _ r5
      · rcases List.mem_or_eq_of_mem_set hy with m | m
        · exact (hRE y m).mono fun t vs e => T7 e
        · exact .inr ⟨t4, kt, x.sort, _, x.ks, m, T47 h4, T47 (s4 _ _ h3), mok.s3, mok.kt⟩
      · by_cases hjk : j = k
        · subst hjk
          rw [eq] at ez
          cases ez
          exact ⟨t4, _, _, _, by rw [List.getElem?_set_self (by omega)], T47 h4⟩
        · obtain ⟨t', x1, x2, x3, a1, a2⟩ := hRI j z (by omega) ez
          have hne : num k ≠ num j := fun e => hjk (num_inj (c := c) (n := rows.length) (by omega) (by omega) (by rw [hnum]; exact e.symm))
          exact ⟨t', x1, x2, x3, by rw [List.getElem?_set_ne hne]; exact a1, T7 a2⟩
      · by_cases hjk : j = k
        · subst hjk
          rw [eq] at ez
          cases ez
          exact ⟨t6, pp, pv, by rw [List.getElem?_append_right (by omega), hwvl, Nat.sub_self]; rfl, by rw [upd_ne (n6 h6)]; exact h6, e3, e4⟩
        · obtain ⟨t', pp', pv', a1, a2, a3⟩ := hWI j z (by omega) ez
          exact ⟨t', pp', pv', by rw [List.getElem?_append_left (by omega)]; exact a1, T7 a2, a3⟩
    · rintro σ H' ⟨rv, wv, v4, v5, v6, v7, v8, v9, sm, hrv, hwv, hrvl, hwvl, hRE, hRI, hWI, rfl⟩
      rw [Int.toNat_natCast, hmvl] at hwvl hRI hWI
      refine ⟨(show 2 ≤ sizeLine by decide), fun t ht => ?_⟩
      have s3 : Same H' (upd H' t (.tup [.ref rl, .ref wl])) := same_new ht
      refine q _ t rl wl rv wv num (sm.trans s3) upd_same (s3 _ _ hrv) (s3 _ _ hwv) hrvl (fun k x e => ?_) (fun y hy => (hRE y hy).mono fun t vs e => s3 _ _ e) (datvs_of (by rw [toRw_len]; exact hwvl) fun k a e => ?_)
      · obtain ⟨t', x1, x2, x3, a1, a2⟩ := hRI k x (List.getElem?_eq_some_iff.mp e).1 e
        exact ⟨t', x1, x2, x3, a1, SqT.of (s3 _ _ a2)⟩
      · obtain ⟨x, ex, rfl⟩ := toRw_has e
        obtain ⟨t', pp, pv, a1, a2, a3, a4⟩ := hWI k x (List.getElem?_eq_some_iff.mp ex).1 ex
        have sH := sm.trans s3
        exact ⟨_, a1, .tuple (SqT.of (s3 _ _ a2)) (.cons (.int _) (.cons (.int _) (.cons (.list (SqL.of (sH _ _ a3)) ((a4.mono fun t vs e => sH _ _ e).parts)) .nil)))⟩
end
end K82

set_option Elab.async false
set_option linter.all false
set_option maxRecDepth 100000
set_option maxHeartbeats 4000000



namespace K82
open PySem PySem.Spec PyProof.Rows L2 Rg
theorem part_depth : ∀ ps : List (Int × Option (List Nat)), PyData.depthAll (ps.map partDat) ≤ 2
  | [] => by simp only [List.map_nil, PyData.depthAll]; omega
  | (i, o) :: r => by
    have ih := part_depth r
    have h2 : (partDat (i, o)).depth ≤ 2 := by
      cases o with
      | none => unfold partDat txtD; simp only [PyData.depth, PyData.depthAll]; omega
      | some s => unfold partDat txtD; simp only [PyData.depth, PyData.depthAll]; omega
    rw [List.map_cons]
    simp only [PyData.depthAll]
    omega
theorem rows_depth : ∀ rows : List Rw, PyData.depthAll (rows.map rowDat) ≤ 5
  | [] => by simp only [List.map_nil, PyData.depthAll]; omega
  | q :: r => by
    have ih := rows_depth r
    have h0 := part_depth q.ps
    have h2 : (rowDat q).depth ≤ 5 := by unfold rowDat; simp only [PyData.depth, PyData.depthAll]; omega
    rw [List.map_cons]
    simp only [PyData.depthAll]
    omega
section
variable {P : Program} {w : World} {K : PySem.W.Frag} {mg : Str → Option Value} {base : Heap}
def spLaw (K : PySem.W.Frag) : Sp := fun vs H Q _ => ∃ (a : Addr) (ns : List Int), vs = [.ref a] ∧ SqL K H a (ns.map V.int) ∧ ns.length ≤ 63 ∧ ∀ H', Q (.bl true) H'
abbrev st_law : Stmt := top 11
theorem sc_law : FnScope ["_law_script", "_law_names_here", "_law_rules", "_law_rows", "_law_handed", "_law_found"] ["_law_script"] (defScope st_law) := ⟨rfl, rfl, rfl, by decide +kernel, rfl, by decide +kernel, by decide +kernel⟩
theorem def_law (R : Raw K mg "law" st_law ["_law_script"]) (T : Txt K w mg) (D__law_cell_at : Def P w K mg base 1 "_law_cell_at" ["_law_script", "_law_k"] (spCell K)) (D__law_names : Def P w K mg base 1 "_law_names" ["_law_cell", "_law_many"] (spNames K)) (D__law_made : Def P w K mg base 4 "_law_made" ["_law_script", "_law_names_here"] (spMade K))
    (D__law_told : Def P w K mg base 1 "_law_told" ["_law_made_here", "_law_shift"] (spTold K)) (D_tree_text : Def P w K mg base 1 "tree_text" ["rules", "rows"] (spTT K)) (D__law_due : Def P w K mg base 1 "_law_due" ["_law_rules", "_law_rows"] (spDue K)) : Def P w K mg base 5 "law" ["_law_script"] (spLaw K) := by
  refine R.defJ sc_law (fun vs H Q E h => ?_) (fun f cdv A outer s H vs Q E hr h => ?_)
  · obtain ⟨a, ns, rfl, _⟩ := h
    rfl
  · obtain ⟨a, ns, rfl, hS, hn, q⟩ := h
    have sc := sc_law
    have hu := hr.units
    have hb := big
    obtain ⟨u3, hP3, hq3⟩ : ∃ u, JSs (cxOf CX0 P w K mg base ["_law_script", "_law_names_here", "_law_rules", "_law_rows", "_law_handed", "_law_found"] "law" (defScope st_law) f cdv A outer s H E).nox ((defBody st_law).drop 3) u ∧
        ∀ (H1 : Hp) (nr rl wl : Addr) (rv wv : List V) (rows : List MR) (num : Nat → Nat) (ds : List PyData), H1 rl = some (.lst rv) → DatVs K H1 rv ds → PyData.canLayAll0 ds = true → PyData.depthAll ds ≤ 5 → RuAt K H1 rv rows num → GoodR rows → H1 wl = some (.lst wv) → DatVs K H1 wv ((toRw rows num).map rowDat) →
          u { nx := fun _ H' => Q .non H', rt := Q } [some (.ref a), some (.ref nr), some (.ref rl), some (.ref wl), none, none] H1 := by
      refine ⟨_, (jss_cons (js_set (i := 4) sc.nd rfl (Or.inl rfl) (j_tup (ja_cons (j_callTy (c_list (K := K)) rfl T.n_list boot_list (ja_cons (jn 2) ja_nil)) (ja_cons (j_comp (N := ["_law_mark", "_law_rule", "_law_parts"]) (cap := [none, none, none]) rfl (CompScope.of rfl (by rfl)) (ji_any (K := K) (jn 3)) (fun _ _ _ _ => (jg_tup (K := K) (n := 3) rfl (jgs_cons (jg_name (i := 0) (show List.Nodup [("_law_mark" : Str), ("_law_rule" : Str), ("_law_parts" : Str)] by decide +kernel) rfl (Or.inl rfl)) (jgs_cons (jg_name (i := 1) (show List.Nodup [("_law_mark" : Str), ("_law_rule" : Str), ("_law_parts" : Str)] by decide +kernel) rfl (Or.inl rfl)) (jgs_cons (jg_name (i := 2) (show List.Nodup [("_law_mark" : Str), ("_law_rule" : Str), ("_law_parts" : Str)] by decide +kernel) rfl (Or.inl rfl)) jgs_nil))))) (fun _ _ _ _ => jts_nil) (fun _ _ _ _ => (j_tup (ja_cons (jn 0) (ja_cons (jn 1) (ja_cons (j_callTy (c_list (K := K)) rfl T.n_list boot_list (ja_cons (jn 2) ja_nil)) ja_nil)))))) ja_nil))))
    (jss_cons (js_set (i := 5) sc.nd rfl (Or.inl rfl) (j_def D_tree_text (hr.mono (by decide)) rfl (ja_cons (j_ix (o_ix hu (K := K) (w := w)) (jn 4) j_int) (ja_cons (j_ix (o_ix hu (K := K) (w := w)) (jn 4) j_int) ja_nil))))
    (jss_cons (js_if (jw_t (jw_or (jt_cmp (o_ne hu (K := K)) (j_ix (o_ix hu (K := K) (w := w)) (jn 4) j_int) (jn 2)) (jw_or1 (jt_cmp (o_ne hu (K := K)) (j_ix (o_ix hu (K := K) (w := w)) (jn 4) j_int) (jn 3)))))
    (jss_one (js_ret j_bl))
    jss_nil)
    (jss_one (js_ret (j_and (j_callB (c_isiD (K := K)) rfl T.n_isinstance boot_isinstance (ja_cons (jn 5) (ja_cons (j_bltn (v := .ty "str") rfl T.n_str boot_str rfl) ja_nil))) (j_one (j_cmp (o_eq hu (K := K)) (jn 5) (j_def D__law_due (hr.mono (by decide)) rfl (ja_cons (jn 2) (ja_cons (jn 3) ja_nil))))))))))), ?_⟩
      intro H1 nr rl wl rv wv rows num ds hrl hds hdl hdd hRu g hwl hWd
      have hwvl : wv.length = (toRw rows num).length := by have := hWd.length; rw [List.length_map] at this; exact this
      have hgl := g.len
      have hrwl := toRw_len rows num
      refine ⟨rv, .inl (SqL.of hrl), fun l2 hl2 => ?_⟩
      have s2 : Same H1 (upd H1 l2 (.lst rv)) := same_new hl2
      have h2 : upd H1 l2 (.lst rv) l2 = some (.lst rv) := upd_same
      generalize upd H1 l2 (.lst rv) = H2 at s2 h2 ⊢
      refine .inl ⟨⟨_, SqL.of (s2 _ _ hwl)⟩, ?_⟩
      refine gath_list (xs := wv) (fun j ks σ2 H3 => Same H2 H3 ∧ DatVs K H3 ks (((toRw rows num).take j).map rowDat) ∧ ∃ w0 w1 w2, σ2 = [w0, w1, w2]) (by omega) ⟨Same.refl _, .nil, none, none, none, rfl⟩
        (fun j ks σ2 H3 h => by have := h.2.1.length; rw [List.length_map, List.length_take] at this; omega) (fun j ks σ2 H3 h => SqL.of (h.1 _ _ (s2 _ _ hwl))) ?_ ?_
      · rintro j y ks σ2 H3 hj ⟨s3, hkd, w0, w1, w2, rfl⟩
        obtain ⟨rq, erq, hrq⟩ := datvs_has hWd hj
        obtain ⟨tr, bp, pv, rfl, hRT, hPL, hPD⟩ := dat_row hrq
        have s13 := s2.trans s3
        refine ⟨tr, _, rfl, s13.seqT hRT, rfl, _, _, rfl, _, _, rfl, _, _, rfl, rfl, ?_⟩
        refine ⟨pv, .inl (s13.seq hPL), fun l4 hl4 => ?_⟩
        have s4 : Same H3 (upd H3 l4 (.lst pv)) := same_new hl4
        have h4 : upd H3 l4 (.lst pv) l4 = some (.lst pv) := upd_same
        generalize upd H3 l4 (.lst pv) = H4 at s4 h4 ⊢
        refine ⟨(show 3 ≤ sizeLine by decide), fun t5 ht5 => ?_⟩
        have s5 : Same H4 (upd H4 t5 (.tup [.int rq.m, .int (rq.r : Nat), .ref l4])) := same_new ht5
        have h5 : upd H4 t5 (.tup [.int rq.m, .int (rq.r : Nat), .ref l4]) t5 = some (.tup [.int rq.m, .int (rq.r : Nat), .ref l4]) := upd_same
        generalize upd H4 t5 (.tup [.int rq.m, .int (rq.r : Nat), .ref l4]) = H5 at s5 h5 ⊢
        refine ⟨(s3.trans s4).trans s5, ?_, _, _, _, rfl⟩
        rw [take_snoc erq, List.map_append]
        exact DatVs.snoc (.tuple (SqT.of h5) (.cons (.int _) (.cons (.int _) (.cons (.list (SqL.of (s5 _ _ h4)) ((hPD.same s13).same (s4.trans s5))) .nil)))) (hkd.same (s4.trans s5))
      rintro ks σ2 H3 ⟨s3, hkd, w0, w1, w2, rfl⟩ kp hkp
      rw [hwvl, List.take_length] at hkd
      have s4 : Same H3 (upd H3 kp (.lst ks)) := same_new hkp
      have h4 : upd H3 kp (.lst ks) kp = some (.lst ks) := upd_same
      generalize upd H3 kp (.lst ks) = H4 at s4 h4 ⊢
      refine ⟨(show 2 ≤ sizeLine by decide), fun hd hhd => ?_⟩
      have s5 : Same H4 (upd H4 hd (.tup [.ref l2, .ref kp])) := same_new hhd
      have h5 : upd H4 hd (.tup [.ref l2, .ref kp]) hd = some (.tup [.ref l2, .ref kp]) := upd_same
      generalize upd H4 hd (.tup [.ref l2, .ref kp]) = H5 at s5 h5 ⊢
      have s25 := (s3.trans s4).trans s5
      have s15 := s2.trans s25
      have hT5 := SqT.of (K := K) h5
      refine .inr ⟨_, .ref l2, hT5, rfl, ?_⟩
      refine .inr ⟨_, .ref kp, hT5, rfl, ?_⟩
      have hW5 : DatV K H5 (.ref kp) (.list ((toRw rows num).map rowDat)) := .list (SqL.of (s5 _ _ h4)) (hkd.same (s4.trans s5))
      refine ⟨l2, kp, rv, rows, num, rfl, SqL.of (s25 _ _ h2), hW5, hRu.same s15, g, fun H6 s6 => ?_⟩
      have s16 := s15.trans s6
      have s26 := s25.trans s6
      have layR : (PyData.list ds).canLay0 = true := by simp only [PyData.canLay0]; exact hdl
      have layW : (PyData.list ((toRw rows num).map rowDat)).canLay0 = true := by simp only [PyData.canLay0]; exact rows_lay g num
      have depR : (PyData.list ds).depth ≤ 60 := by simp only [PyData.depth]; omega
      have depW : (PyData.list ((toRw rows num).map rowDat)).depth ≤ 60 := by have := rows_depth (toRw rows num); simp only [PyData.depth]; omega
      have hT6 := s6.seqT hT5
      have hR6 : DatV K H6 (.ref rl) (.list ds) := .list (SqL.of (s16 _ _ hrl)) (hds.same s16)
      have hRc : DatV K H6 (.ref l2) (.list ds) := .list (SqL.of (s26 _ _ h2)) (hds.same s16)
      have hW6 : DatV K H6 (.ref wl) (.list ((toRw rows num).map rowDat)) := .list (SqL.of (s16 _ _ hwl)) (hWd.same s16)
      have hWc := hW5.same s6
      refine .inr ⟨_, .ref l2, hT6, rfl, ?_⟩
      refine ⟨_, _, hRc, hR6, layR, layR, by omega, ?_⟩
      rw [SeqAt.eqv_refl _ layR]
      refine .inr ⟨_, .ref kp, hT6, rfl, ?_⟩
      refine ⟨_, _, hWc, hW6, layW, layW, by omega, ?_⟩
      rw [SeqAt.eqv_refl _ layW]
      refine ⟨"str", true, .str _, rfl, ?_⟩
      refine ⟨rl, wl, rv, rows, num, rfl, SqL.of (s16 _ _ hrl), hW6, hRu.same s16, g, fun H7 s7 => ?_⟩
      show Q (.bl (false ^^ decide (S (topT rows) = S (topT rows)))) H7
      rw [Bool.false_xor, decide_eq_true rfl]
      exact q _
    refine ⟨_, (jss_cons (js_set (i := 1) sc.nd rfl (Or.inl rfl) (j_def D__law_names (hr.mono (by decide)) rfl (ja_cons (j_def D__law_cell_at (hr.mono (by decide)) rfl (ja_cons (jn 0) (ja_cons j_int ja_nil))) (ja_cons j_int ja_nil))))
    (jss_cons (js_asg (j_def D__law_told (hr.mono (by decide)) rfl (ja_cons (j_def D__law_made (hr.mono (by decide)) rfl (ja_cons (jn 0) (ja_cons (jn 1) ja_nil))) (ja_cons (j_def D__law_cell_at (hr.mono (by decide)) rfl (ja_cons (jn 0) (ja_cons j_int ja_nil))) ja_nil))) (jg_tup (K := K) (n := 2) rfl (jgs_cons (jg_name (i := 2) sc.nd rfl (Or.inl rfl)) (jgs_cons (jg_name (i := 3) sc.nd rfl (Or.inl rfl)) jgs_nil))))
    (jss_cons (js_if (jt_cmp (o_eq hu (K := K)) (jn 2) (j_lst ja_nil))
    (jss_one (js_set (i := 2) sc.nd rfl (Or.inl rfl) (j_lst (ja_cons (j_tup (ja_cons (j_ix (o_ix hu (K := K) (w := w)) (jn 1) j_int) (ja_cons j_int (ja_cons j_str (ja_cons (j_tup (ja_cons (j_ix (o_ix hu (K := K) (w := w)) (jn 1) j_int) ja_nil)) ja_nil))))) ja_nil))))
    jss_nil)
    hP3))), ?_⟩
    refine ⟨a, ns, 0, rfl, hS, ?_⟩
    refine ⟨_, 11, rfl, by decide, fun H1 nr ls s1 hnr hll hlo => ?_⟩
    refine ⟨a, nr, ns, ls, rfl, s1.seq hS, hn, hnr, hll, hlo, fun H2 ma mv rows s2 hma hMd g => ?_⟩
    refine ⟨a, ns, 1, rfl, (s1.trans s2).seq hS, ?_⟩
    refine ⟨ma, _, mv, rows, rfl, hma, hMd, g, fun H3 t rl wl rv wv num s3 hT hrl hwl hrvl hRu hRE hWd => ?_⟩
    refine ⟨t, _, rfl, SqT.of hT, rfl, _, _, rfl, _, _, rfl, rfl, ?_⟩
    obtain ⟨ds, hds, hdl, hdd⟩ := all_dat (K := K) hRE
    refine ⟨(show 0 ≤ sizeLine by decide), fun p4 hp4 => ?_⟩
    have s4 : Same H3 (upd H3 p4 (.lst [])) := same_new hp4
    have h4 : upd H3 p4 (.lst []) p4 = some (.lst []) := upd_same
    generalize upd H3 p4 (.lst []) = H4 at s4 h4 ⊢
    have layR : (PyData.list ds).canLay0 = true := by simp only [PyData.canLay0]; exact hdl
    have lay2 : (PyData.list []).canLay0 = true := by simp only [PyData.canLay0, PyData.canLayAll0]
    have dep : min (PyData.list ds).depth (PyData.list []).depth ≤ 60 := by simp only [PyData.depth]; omega
    refine ⟨_, _, .list (SqL.of (s4 _ _ hrl)) (hds.same s4), .list (SqL.of h4) .nil, layR, lay2, dep, ?_⟩
    rw [eqv_nil]
    have s34 := s3.trans s4
    cases hde : ds with
    | nil =>
      rw [hde] at hds
      have hrv0 : rv = [] := by cases hds; rfl
      have hr0 : rows = [] := List.length_eq_zero_iff.mp (by rw [← hrvl, hrv0]; rfl)
      have hnr4 := s34 _ _ (s2 _ _ hnr)
      obtain ⟨n0, hn0, en0⟩ := name_in hll (x := 0) (by omega) (by omega)
      obtain ⟨n5, hn5, en5⟩ := name_in hll (x := 5) (by omega) (by omega)
      refine .inl ⟨_, _, SqL.of hnr4, en0, .inl ⟨_, _, SqL.of hnr4, en5, ?_⟩⟩
      refine ⟨(show 1 ≤ sizeLine by decide), fun t5 ht5 => ?_⟩
      have s5 : Same H4 (upd H4 t5 (.tup [.str (S n5)])) := same_new ht5
      have h5 : upd H4 t5 (.tup [.str (S n5)]) t5 = some (.tup (([n5] : List (List Nat)).map fun k => V.str (S k))) := upd_same
      generalize upd H4 t5 (.tup [.str (S n5)]) = H5 at s5 h5 ⊢
      refine ⟨(show 4 ≤ sizeLine by decide), fun t6 ht6 => ?_⟩
      have s6 : Same H5 (upd H5 t6 (.tup [.str (S n0), .int 0, .str "none", .ref t5])) := same_new ht6
      have h6 : upd H5 t6 (.tup [.str (S n0), .int 0, .str "none", .ref t5]) t6 = some (.tup [.str (S n0), .int 0, .str "none", .ref t5]) := upd_same
      generalize upd H5 t6 (.tup [.str (S n0), .int 0, .str "none", .ref t5]) = H6 at s6 h6 ⊢
      refine ⟨(show 1 ≤ sizeLine by decide), fun p7 hp7 => ?_⟩
      have s7 : Same H6 (upd H6 p7 (.lst [.ref t6])) := same_new hp7
      have h7 : upd H6 p7 (.lst [.ref t6]) p7 = some (.lst [.ref t6]) := upd_same
      generalize upd H6 p7 (.lst [.ref t6]) = H7 at s7 h7 ⊢
      have s47 := (s5.trans s6).trans s7
      obtain ⟨ds', a1, a2, a3⟩ := all_dat (K := K) (H := H7) (rv := [.ref t6]) fun y hy => by
        rw [List.mem_singleton.mp hy]
        exact .inr ⟨t6, t5, n0, 0, [n5], rfl, s7 _ _ h6, s7 _ _ (s6 _ _ h5), (hlo n0 hn0).2.2, fun k hk => by rw [List.mem_singleton.mp hk]; exact (hlo n5 hn5).2.2⟩
      refine hq3 H7 nr p7 wl [.ref t6] wv rows num ds' h7 a1 a2 a3 (fun k x e => by rw [hr0] at e; cases e) g (s47 _ _ (s4 _ _ hwl)) (hWd.same (s4.trans s47))
    | cons d0 dr =>
      exact hq3 H4 nr rl wl rv wv rows num ds (s4 _ _ hrl) (hds.same s4) hdl hdd (hRu.same s4) g (s4 _ _ hwl) (hWd.same s4)
theorem law_of (R_tree_text : Raw K mg "tree_text" st_tree_text ["rules", "rows"]) (R__law_cell_at : Raw K mg "_law_cell_at" st__law_cell_at ["_law_script", "_law_k"]) (R__law_names : Raw K mg "_law_names" st__law_names ["_law_cell", "_law_many"]) (R__law_mixed : Raw K mg "_law_mixed" st__law_mixed ["_law_cell", "_law_k"]) (R__law_word : Raw K mg "_law_word" st__law_word ["_law_cell"])
    (R__law_row : Raw K mg "_law_row" st__law_row ["_law_k", "_law_cell", "_law_free", "_law_names_here"]) (R__law_made : Raw K mg "_law_made" st__law_made ["_law_script", "_law_names_here"]) (R__law_told : Raw K mg "_law_told" st__law_told ["_law_made_here", "_law_shift"]) (R__law_due : Raw K mg "_law_due" st__law_due ["_law_rules", "_law_rows"]) (R_law : Raw K mg "law" st_law ["_law_script"]) (T : Txt K w mg) : Def P w K mg base 5 "law" ["_law_script"] (spLaw K) :=
  def_law R_law T (def_cell R__law_cell_at T) (def_names R__law_names T) (def_made R__law_made T (def_cell R__law_cell_at T) (def_row R__law_row T (def_mixed R__law_mixed) (def_word R__law_word T (def_mixed R__law_mixed)))) (def_told R__law_told T) (def_tt R_tree_text T) (def_due R__law_due T)
end
end K82

open PySem PySem.W PyProof.Rows
set_option Elab.async false
set_option linter.all false
set_option maxRecDepth 100000 in
set_option maxHeartbeats 0 in
theorem PySem.Challenge.cw_regrowth_k82_trees_written_holds : PySem.Challenge.rw_regrowth_k82_trees_written.Holds := by
  w_on; o_law; k_head; (case hw => w_witness2)
  k_fill
  refine L2.walk_ofK (l := PySem.Challenge.rw_regrowth_k82_trees_written) (n := 63) (k := 5) (x := "_law_script") (CX := L2.CX0) (sp := K82.spLaw) rfl (by decide) rfl ⟨rfl, by decide, by decide⟩ (fun w h Y => PySem.W.kIn_of Y) ?F ?S ?C
  case F =>
    intro w mg fa h KX G hmg
    have R_tree_text : L2.Raw (L2.KOf KX) mg "tree_text" K82.st_tree_text ["rules", "rows"] := by
      dsimp only [L2.KOf]
      refine' L2.Raw.mk' KX G ?a0 ?l0 ?c0 ?k0 ?b0
      (case a0 => k_is)
      (case l0 => k_is)
      (case c0 => k_is)
      (case k0 => k_is)
      exact fun us hl => match us, hl with | [_, _], _ => rfl
    have R__law_cell_at : L2.Raw (L2.KOf KX) mg "_law_cell_at" K82.st__law_cell_at ["_law_script", "_law_k"] := by
      dsimp only [L2.KOf]
      refine' L2.Raw.mk' KX G ?a1 ?l1 ?c1 ?k1 ?b1
      (case a1 => k_is)
      (case l1 => k_is)
      (case c1 => k_is)
      (case k1 => k_is)
      exact fun us hl => match us, hl with | [_, _], _ => rfl
    have R__law_names : L2.Raw (L2.KOf KX) mg "_law_names" K82.st__law_names ["_law_cell", "_law_many"] := by
      dsimp only [L2.KOf]
      refine' L2.Raw.mk' KX G ?a2 ?l2 ?c2 ?k2 ?b2
      (case a2 => k_is)
      (case l2 => k_is)
      (case c2 => k_is)
      (case k2 => k_is)
      exact fun us hl => match us, hl with | [_, _], _ => rfl
    have R__law_mixed : L2.Raw (L2.KOf KX) mg "_law_mixed" K82.st__law_mixed ["_law_cell", "_law_k"] := by
      dsimp only [L2.KOf]
      refine' L2.Raw.mk' KX G ?a3 ?l3 ?c3 ?k3 ?b3
      (case a3 => k_is)
      (case l3 => k_is)
      (case c3 => k_is)
      (case k3 => k_is)
      exact fun us hl => match us, hl with | [_, _], _ => rfl
    have R__law_word : L2.Raw (L2.KOf KX) mg "_law_word" K82.st__law_word ["_law_cell"] := by
      dsimp only [L2.KOf]
      refine' L2.Raw.mk' KX G ?a4 ?l4 ?c4 ?k4 ?b4
      (case a4 => k_is)
      (case l4 => k_is)
      (case c4 => k_is)
      (case k4 => k_is)
      exact fun us hl => match us, hl with | [_], _ => rfl
    have R__law_row : L2.Raw (L2.KOf KX) mg "_law_row" K82.st__law_row ["_law_k", "_law_cell", "_law_free", "_law_names_here"] := by
      dsimp only [L2.KOf]
      refine' L2.Raw.mk' KX G ?a5 ?l5 ?c5 ?k5 ?b5
      (case a5 => k_is)
      (case l5 => k_is)
      (case c5 => k_is)
      (case k5 => k_is)
      exact fun us hl => match us, hl with | [_, _, _, _], _ => rfl
    have R__law_made : L2.Raw (L2.KOf KX) mg "_law_made" K82.st__law_made ["_law_script", "_law_names_here"] := by
      dsimp only [L2.KOf]
      refine' L2.Raw.mk' KX G ?a6 ?l6 ?c6 ?k6 ?b6
      (case a6 => k_is)
      (case l6 => k_is)
      (case c6 => k_is)
      (case k6 => k_is)
      exact fun us hl => match us, hl with | [_, _], _ => rfl
    have R__law_told : L2.Raw (L2.KOf KX) mg "_law_told" K82.st__law_told ["_law_made_here", "_law_shift"] := by
      dsimp only [L2.KOf]
      refine' L2.Raw.mk' KX G ?a7 ?l7 ?c7 ?k7 ?b7
      (case a7 => k_is)
      (case l7 => k_is)
      (case c7 => k_is)
      (case k7 => k_is)
      exact fun us hl => match us, hl with | [_, _], _ => rfl
    have R__law_due : L2.Raw (L2.KOf KX) mg "_law_due" K82.st__law_due ["_law_rules", "_law_rows"] := by
      dsimp only [L2.KOf]
      refine' L2.Raw.mk' KX G ?a8 ?l8 ?c8 ?k8 ?b8
      (case a8 => k_is)
      (case l8 => k_is)
      (case c8 => k_is)
      (case k8 => k_is)
      exact fun us hl => match us, hl with | [_, _], _ => rfl
    have R_law : L2.Raw (L2.KOf KX) mg "law" K82.st_law ["_law_script"] := by
      dsimp only [L2.KOf]
      refine' L2.Raw.mk' KX G ?a9 ?l9 ?c9 ?k9 ?b9
      (case a9 => k_is)
      (case l9 => k_is)
      (case c9 => k_is)
      (case k9 => k_is)
      exact fun us hl => match us, hl with | [_], _ => rfl
    have n_len : mg "len" = none := PySem.W.mg_none_of KX G (by k_is)
    have n_range : mg "range" = none := PySem.W.mg_none_of KX G (by k_is)
    have n_isinstance : mg "isinstance" = none := PySem.W.mg_none_of KX G (by k_is)
    have n_int : mg "int" = none := PySem.W.mg_none_of KX G (by k_is)
    have n_str : mg "str" = none := PySem.W.mg_none_of KX G (by k_is)
    have n_tuple : mg "tuple" = none := PySem.W.mg_none_of KX G (by k_is)
    have n_list : mg "list" = none := PySem.W.mg_none_of KX G (by k_is)
    have n_reversed : mg "reversed" = none := PySem.W.mg_none_of KX G (by k_is)
    have T : K82.Txt (L2.KOf KX) w mg := ⟨n_len, n_range, n_isinstance, n_int, n_str, n_tuple, n_list, n_reversed⟩
    obtain ⟨f, fd, hf, Fu, hb⟩ := R_law.ex
    have e0 := hmg.symm.trans hf
    cases e0
    refine ⟨fd, fun s u => ?_, fun base kb nb => (K82.law_of R_tree_text R__law_cell_at R__law_names R__law_mixed R__law_word R__law_row R__law_made R__law_told R__law_due R_law T).at hf Fu.lk⟩
    exact .of_eq (hb [u] rfl)
  case S => exact fun K H a ns hl hO hS => ⟨a, ns, rfl, hS, hl, fun _ => rfl⟩
  case C => exact fun _ _ _ _ z => z

