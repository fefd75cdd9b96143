import PyProof.Rows.All
import Wide.All
import OpenK.AllK
import Wide.FinOn
import Lean
import PyProof.EqAt
import PyProof.EqKinds
import PyProof.TupleCall
import PyProof.ListRange
import PyProof.ZipIter
import PyProof.Rows.ZipGen
import PyProof.StrLawsChain
import PyProof.StrBlockI
import PyProof.StrBlock2
import KE.KLam
import PyProof.EnumMake
import PyProof.Rows.EnumRows
import PyProof.Rows.SeqMore2
import PyProof.AttrMissHeap
import KE.KDictOf
import KE.KRevIter
import KE.KDictLaws
import PyProof.ConsumeWalk
import PyProof.CallStr
import KE.KIntText
import PySem.Challenge.RW_regrowth_k80_grammars_read
set_option Elab.async false
set_option linter.all false
set_option maxRecDepth 100000
namespace L2
open PySem PySem.Spec PyProof.Rows

abbrev Key := Sum Int Str
def keyIs : Key → Value → Bool
  | .inl k, v => Value.isInt k v
  | .inr x, v => Value.isStrOf x v
def keyH (w : World) : Key → Int
  | .inl k => hashInt k
  | .inr x => hashStr w x
theorem keyIs_shape : ∀ {k : Key} {v : Value}, keyIs k v = true → (∃ i t, k = Sum.inl i ∧ v = Value.int i t) ∨ (∃ x t, k = Sum.inr x ∧ v = Value.str x t)
  | .inl i, v, h => by
    obtain ⟨t, e⟩ := Value.isInt_shape (k := i) (v := v) h
    exact .inl ⟨i, t, rfl, e⟩
  | .inr x, v, h => by
    obtain ⟨t, e⟩ := Value.isStrOf_shape (x := x) (v := v) h
    exact .inr ⟨x, t, rfl, e⟩
theorem keyIs_int (i : Int) (t : Tok) : keyIs (.inl i) (.int i t) = true := by simp [keyIs, Value.isInt]
theorem keyIs_str (x : Str) (t : Tok) : keyIs (.inr x) (.str x t) = true := by simp [keyIs, Value.isStrOf]
theorem key_ll (a b : Int) : decide ((Sum.inl a : Key) = Sum.inl b) = (a == b) := by
  by_cases e : a = b
  · subst e; simp
  · have h : ¬ (Sum.inl a : Key) = Sum.inl b := fun q => e (Sum.inl.inj q)
    rw [decide_eq_false h]
    exact (beq_eq_false_iff_ne.mpr e).symm
theorem key_rr (a b : Str) : decide ((Sum.inr a : Key) = Sum.inr b) = decide (a = b) := by
  by_cases e : a = b
  · subst e; simp
  · have h : ¬ (Sum.inr a : Key) = Sum.inr b := fun q => e (Sum.inr.inj q)
    rw [decide_eq_false h, decide_eq_false e]
theorem key_lr (a : Int) (b : Str) : decide ((Sum.inl a : Key) = Sum.inr b) = false := decide_eq_false (fun q => nomatch q)
theorem key_rl (a : Str) (b : Int) : decide ((Sum.inr a : Key) = Sum.inl b) = false := decide_eq_false (fun q => nomatch q)

def mixKind (prog : Program) (w : World) : PySem.KeyKind prog w Key where
  is := keyIs
  hash := keyH w
  inj := fun v a b ha hb => by
    rcases keyIs_shape ha with ⟨i, t, rfl, rfl⟩ | ⟨x, t, rfl, rfl⟩
    · rcases keyIs_shape hb with ⟨j, u, rfl, e⟩ | ⟨y, u, rfl, e⟩
      · injection e with e1 _; rw [e1]
      · exact nomatch e
    · rcases keyIs_shape hb with ⟨j, u, rfl, e⟩ | ⟨y, u, rfl, e⟩
      · exact nomatch e
      · injection e with e1 _; rw [e1]
  byValue := fun k v h => by
    rcases keyIs_shape h with ⟨i, t, rfl, rfl⟩ | ⟨x, t, rfl, rfl⟩ <;> rfl
  pyHash := fun hv h => by
    rcases keyIs_shape hv with ⟨i, t, rfl, rfl⟩ | ⟨x, t, rfl, rfl⟩
    · exact wpAny_pyHash_int h
    · exact wpAny_pyHash_str h
  eqBool := fun hu hv h => by
    rcases keyIs_shape hu with ⟨i, t, rfl, rfl⟩ | ⟨x, t, rfl, rfl⟩
    · rcases keyIs_shape hv with ⟨j, u, rfl, rfl⟩ | ⟨y, u, rfl, rfl⟩
      · rw [key_ll] at h; exact wpAny_eqBool_int h
      · rw [key_lr] at h; exact SeqAt.EqAt.int_str i t y u _ _ _ _ h
    · rcases keyIs_shape hv with ⟨j, u, rfl, rfl⟩ | ⟨y, u, rfl, rfl⟩
      · rw [key_rl] at h; exact SeqAt.EqAt.str_int x t j u _ _ _ _ h
      · rw [key_rr] at h; exact wpAny_eqBool_str h
  «strs» := fun k x t v h => by
    rcases keyIs_shape h with ⟨i, u, rfl, e⟩ | ⟨y, u, rfl, e⟩
    · exact nomatch e
    · injection e with e1 _
      subst e1
      cases v <;> rfl

theorem mixKind_int (prog : Program) (w : World) (i : Int) (t : Tok) : (mixKind prog w).is (.inl i) (.int i t) = true := keyIs_int i t
theorem mixKind_str (prog : Program) (w : World) (x : Str) (t : Tok) : (mixKind prog w).is (.inr x) (.str x t) = true := keyIs_str x t
end L2

namespace L2
open PySem PySem.Spec PyProof.Rows

inductive V where
  | non | bl (b : Bool) | int (i : Int) | str (x : Str) | byt (b : Array UInt8) | flt (b : UInt64) | ref (a : Addr) | ty (n : String)
  deriving DecidableEq

def RelV : V → Value → Prop
  | .non, u => u = Value.none
  | .bl b, u => u = Value.bool b
  | .int i, u => ∃ t, u = Value.int i t
  | .str x, u => ∃ t, u = Value.str x t
  | .byt b, u => ∃ t, u = Value.bytes b t
  | .flt b, u => ∃ t, u = Value.float b t
  | .ref a, u => u = Value.ref a
  | .ty n, u => u = Value.type n

abbrev Vals : List V → List Value → Prop := Paired RelV
theorem Vals.length {xs : List V} {us : List Value} (r : Vals xs us) : xs.length = us.length := Paired.length r
theorem Vals.get : ∀ {xs : List V} {us : List Value} {i : Nat} {x : V}, Vals xs us → xs[i]? = some x → ∃ u, us[i]? = some u ∧ RelV x u
  | _, _, _, _, .nil, e => by simp at e
  | _, _, 0, _, .cons r _, e => by simp at e; subst e; exact ⟨_, rfl, r⟩
  | _, _, i + 1, x, .cons _ t, e => by
    obtain ⟨u, h1, h2⟩ := Vals.get (i := i) (x := x) t (by simpa using e)
    exact ⟨u, by simpa using h1, h2⟩
theorem Vals.set {x : V} {u : Value} (r : RelV x u) : ∀ {xs : List V} {us : List Value} (i : Nat), Vals xs us → Vals (xs.set i x) (us.set i u)
  | _, _, _, .nil => .nil
  | _, _, 0, .cons _ t => .cons r t
  | _, _, i + 1, .cons q t => .cons q (Vals.set r i t)
theorem Vals.append : ∀ {xs ys : List V} {us ws : List Value}, Vals xs us → Vals ys ws → Vals (xs ++ ys) (us ++ ws)
  | _, _, _, _, .nil, s => s
  | _, _, _, _, .cons r t, s => .cons r (Vals.append t s)
theorem Vals.take : ∀ {xs : List V} {us : List Value} (n : Nat), Vals xs us → Vals (xs.take n) (us.take n)
  | _, _, 0, _ => .nil
  | _, _, _ + 1, .nil => .nil
  | _, _, n + 1, .cons r t => .cons r (Vals.take n t)
theorem Vals.drop : ∀ {xs : List V} {us : List Value} (n : Nat), Vals xs us → Vals (xs.drop n) (us.drop n)
  | _, _, 0, r => r
  | _, _, _ + 1, .nil => .nil
  | _, _, n + 1, .cons _ t => Vals.drop n t
def RelO : Option V → Option Value → Prop
  | some v, some u => RelV v u
  | none, none => True
  | _, _ => False
def KV {κ : Type} : List (κ × V) → List (κ × Value) → Prop := Paired fun (p : κ × V) (q : κ × Value) => p.1 = q.1 ∧ RelV p.2 q.2

def kV : Key → V
  | .inl i => .int i
  | .inr x => .str x

inductive HO where
  /-- a list -/
  | lst (xs : List V)
  /-- a tuple (never changes) -/
  | tup (xs : List V)
  /-- a dict whose keys are ints and texts; one whose keys are tuples of ints and texts (the empty one is both) -/
  | dK (kvs : List (Key × V)) | dT (kvs : List (List Key × V))
  /-- a set of ints: its members, its size -/
  | set (S : Int → Bool) (n : Nat)
  /-- an instance of the class at C, its dict at dx, its attributes -/
  | ins (C dx : Addr) (fs : List (Str × V))
  /-- the dict of the instance at x -/
  | own (x : Addr)
  /-- the dict of an exception -/
  | xd (fs : List (Str × V))
  /-- a bound method, f of x -/
  | met (f x : Addr)
  /-- a range object lo, lo + 1, .. below hi -/
  | rng (lo hi : Int)
  /-- a thing that is known to the object (the script; a dict while a loop walks it): read, never written while it is so -/
  | frz (o : Obj) (u : HO)
  /-- a code object's table -/
  | tbl (ps : Array Value)
  /-- any other thing, by what is true of its one object (a def of one's own: SetO a S n := HO.ext fun h => ..) -/
  | ext (φ : Heap → Prop)

abbrev Hp := Addr → Option HO
def upd (H : Hp) (a : Addr) (o : HO) : Hp := fun b => if b = a then some o else H b
theorem upd_same {H : Hp} {a : Addr} {o : HO} : upd H a o a = some o := by unfold upd; rw [if_pos rfl]
theorem upd_ne {H : Hp} {a b : Addr} {o : HO} (h : b ≠ a) : upd H a o b = H b := by unfold upd; rw [if_neg h]
theorem ne_of_none {H : Hp} {a b : Addr} {o : HO} (h : H a = some o) (h' : H b = none) : a ≠ b := by
  intro e; subst e; rw [h] at h'; cases h'

section
variable (P : Program) (w : World)
def ObjOk (H : Hp) (h : Heap) (a : Addr) : HO → Prop
  | .lst xs => xs.length ≤ sizeLine ∧ ∃ (its : List Value) (n : Nat), Vals xs its ∧ h.get? a = some { cls := .type "list", data := .seq its.toArray n }
  | .tup xs => xs.length ≤ sizeLine ∧ ∃ its : List Value, Vals xs its ∧ IsTup h a its.toArray
  | .dK kvs => kvs.length ≤ sizeLine ∧ (a == sysModules) = false ∧ ∃ vs, KV kvs vs ∧ h.DictOf (mixKind P w) a vs
  | .dT kvs => kvs.length ≤ sizeLine ∧ (a == sysModules) = false ∧ ∃ xs : List (List Key × Addr × Value),
      Paired (fun (p : List Key × V) (q : List Key × Addr × Value) => p.1 = q.1 ∧ H q.2.1 = some (.tup (p.1.map kV)) ∧ RelV p.2 q.2.2) kvs xs ∧
      ∃ o es ep, h.get? a = some o ∧ o.ExactDict ∧ o.data = .dict es ep ∧ es.toList = xs.map (entryOfKey (tupleKind (mixKind P w))) ∧ (xs.map (·.1)).Nodup
  | .set S n => h.SetOf (intKind P w) a S n
  | .ins C dx fs => H dx = some (.own a) ∧ fs.length ≤ 1000 ∧ dx ≠ a ∧ h.get? a = some (PySem.W.instObj C dx) ∧
      ∃ mA, h.Ns1 dx mA ∧ (∀ f, RelO (fs.lookup f) (mA f)) ∧ PySem.Within mA (fs.map (·.1))
  | .own _ => ∃ o, h.get? a = some o
  | .xd fs => ∃ mA, h.Ns1 a mA ∧ ∀ f, RelO (fs.lookup f) (mA f)
  | .rng lo hi => ∃ t u v, h.get? a = some { cls := .type "range", data := .fields #[.int lo t, .int hi u, .int 1 v] }
  | .frz o u => h.get? a = some o ∧ ObjOk H h a u
  | .tbl ps => h.get? a = some { cls := .none, data := .fields ps }
  | .met f x => h.get? a = some (PySem.W.methodObj (.ref f) (.ref x))
  | .ext φ => φ h ∧ (∃ o, h.get? a = some o) ∧ ∀ h1 h2 : Heap, φ h1 → (∀ o, h1.get? a = some o → h2.get? a = some o) → φ h2
def HOk (H : Hp) (h : Heap) : Prop := ∀ a o, H a = some o → ObjOk P w H h a o
end

section
variable {P : Program} {w : World} {H H' : Hp} {h h' : Heap} {a : Addr} {o : HO}
theorem ObjOk.lt (x : ObjOk P w H h a o) : a < h.objs.size := by
  cases o with
  | lst xs => obtain ⟨_, _, _, _, e⟩ := x; exact Heap.lt_size e
  | tup xs => obtain ⟨_, _, _, p⟩ := x; exact p.lt
  | dK kvs => obtain ⟨_, _, _, _, o, _, _, e, _⟩ := x; exact Heap.lt_size e
  | dT kvs => obtain ⟨_, _, _, _, o, _, _, e, _⟩ := x; exact Heap.lt_size e
  | set S n => obtain ⟨o, _, _, _, e, _⟩ := x; exact Heap.lt_size e
  | ins C dx fs => obtain ⟨_, _, _, e, _⟩ := x; exact Heap.lt_size e
  | own y => obtain ⟨_, e⟩ := x; exact Heap.lt_size e
  | xd fs => obtain ⟨_, ⟨_, _, _, e, _⟩, _⟩ := x; exact Heap.lt_size e
  | rng lo hi => obtain ⟨_, _, _, e⟩ := x; exact Heap.lt_size e
  | frz ob u => obtain ⟨e, _⟩ := x; exact Heap.lt_size e
  | tbl ps => exact Heap.lt_size (show h.get? a = some _ from x)
  | met f y => exact Heap.lt_size (show h.get? a = some _ from x)
  | ext φ => obtain ⟨_, ⟨_, e⟩, _⟩ := x; exact Heap.lt_size e
theorem Paired.mapP {α β : Type} {F G : α → β → Prop} : ∀ {l₁ : List α} {l₂ : List β}, Paired F l₁ l₂ → (∀ a b, F a b → G a b) → Paired G l₁ l₂
  | _, _, .nil, _ => .nil
  | _, _, .cons r t, f => .cons (f _ _ r) (Paired.mapP t f)
theorem ObjOk.stay (x : ObjOk P w H h a o) (k : ∀ b u, (b = a ∨ H b = some (.own a)) → h.get? b = some u → h'.get? b = some u)
    (ho : ∀ b, H b = some (.own a) → H' b = some (.own a)) (ht : ∀ b xs, H b = some (.tup xs) → H' b = some (.tup xs)) : ObjOk P w H' h' a o := by
  induction o with
  | lst xs => obtain ⟨z, its, n, r, e⟩ := x; exact ⟨z, its, n, r, k _ _ (.inl rfl) e⟩
  | tup xs => obtain ⟨z, its, r, ob, e, c⟩ := x; exact ⟨z, its, r, ob, k _ _ (.inl rfl) e, c⟩
  | dK kvs => obtain ⟨z, y, vs, r, ob, es, ep, e, c⟩ := x; exact ⟨z, y, vs, r, ob, es, ep, k _ _ (.inl rfl) e, c⟩
  | dT kvs =>
    obtain ⟨z, y, xs, r, ob, es, ep, e, c⟩ := x
    exact ⟨z, y, xs, Paired.mapP r fun p q z => ⟨z.1, ht _ _ z.2.1, z.2.2⟩, ob, es, ep, k _ _ (.inl rfl) e, c⟩
  | set S n => obtain ⟨ob, es, ep, t, e, c⟩ := x; exact ⟨ob, es, ep, t, k _ _ (.inl rfl) e, c⟩
  | ins C dx fs =>
    obtain ⟨d, z, ne, e, mA, ⟨od, es, ep, e2, c⟩, r⟩ := x
    exact ⟨ho _ d, z, ne, k _ _ (.inl rfl) e, mA, ⟨od, es, ep, k _ _ (.inr d) e2, c⟩, r⟩
  | own y => obtain ⟨ob, e⟩ := x; exact ⟨ob, k _ _ (.inl rfl) e⟩
  | xd fs => obtain ⟨mA, ⟨od, es, ep, e, c⟩, r⟩ := x; exact ⟨mA, ⟨od, es, ep, k _ _ (.inl rfl) e, c⟩, r⟩
  | rng lo hi => obtain ⟨t, u, v, e⟩ := x; exact ⟨t, u, v, k _ _ (.inl rfl) e⟩
  | frz ob u ih => obtain ⟨e, q⟩ := x; exact ⟨k _ _ (.inl rfl) e, ih q⟩
  | tbl ps =>
    have e : h.get? a = some { cls := .none, data := .fields ps } := x
    show h'.get? a = some { cls := .none, data := .fields ps }
    exact k a _ (.inl rfl) e
  | met f y =>
    have e : h.get? a = some (PySem.W.methodObj (.ref f) (.ref y)) := x
    show h'.get? a = some (PySem.W.methodObj (.ref f) (.ref y))
    exact k a _ (.inl rfl) e
  | ext φ => obtain ⟨p, ⟨o, e⟩, st⟩ := x; exact ⟨st _ _ p fun o q => k _ _ (.inl rfl) q, ⟨o, k _ _ (.inl rfl) e⟩, st⟩
theorem HOk.lt (x : HOk P w H h) (e : H a = some o) : a < h.objs.size := (x a o e).lt
theorem HOk.fresh (x : HOk P w H h) (e : h.objs.size ≤ a) : H a = none := by
  cases q : H a with
  | none => rfl
  | some u => exact absurd (Nat.lt_of_lt_of_le (x.lt q) e) (Nat.lt_irrefl _)
theorem HOk.kept (x : HOk P w H h) (k : ∀ b u, h.get? b = some u → h'.get? b = some u) : HOk P w H h' := fun a o e =>
  (x a o e).stay (fun b u _ q => k b u q) (fun _ q => q) fun _ _ q => q
theorem HOk.laid (x : HOk P w H h) (k : ∀ b u, h.get? b = some u → h'.get? b = some u) (hp : h.objs.size ≤ a) (new : ObjOk P w (upd H a o) h' a o) : HOk P w (upd H a o) h' := fun b u e => by
  have hn := x.fresh hp
  by_cases hb : b = a
  · subst hb; rw [upd_same] at e; cases e; exact new
  · rw [upd_ne hb] at e
    exact (x b u e).stay (fun c v _ q => k c v q) (fun c q => by rw [upd_ne (ne_of_none q hn)]; exact q) fun c xs q => by rw [upd_ne (ne_of_none q hn)]; exact q
end

def Rd (H : Hp) (a : Addr) (u : HO) : Prop := H a = some u ∨ ∃ o, H a = some (.frz o u)
theorem Rd.of {H : Hp} {a : Addr} {u : HO} (h : H a = some u) : Rd H a u := .inl h
theorem Rd.ok {P : Program} {w : World} {H : Hp} {h : Heap} {a : Addr} {u : HO} (r : Rd H a u) (x : HOk P w H h) : ObjOk P w H h a u := by
  rcases r with r | ⟨o, r⟩
  · exact x a u r
  · obtain ⟨_, q⟩ := x a _ r
    exact q
def Mut : Option HO → Prop
  | some (.lst _) => True
  | some (.dK _) => True
  | some (.dT _) => True
  | some (.set _ _) => True
  | some (.ins _ _ _) => True
  | some (.ext _) => True
  | _ => False
section
variable {P : Program} {w : World} {H : Hp} {h h' : Heap} {x e : Addr} {o' : HO}
theorem HOk.write (ok : HOk P w H h) (mu : Mut (H x)) (he : e = x ∨ H e = some (.own x)) (k : ∀ b u, b ≠ e → h.get? b = some u → h'.get? b = some u) (heo : ∃ u, h'.get? e = some u)
    (new : ObjOk P w (upd H x o') h' x o') : HOk P w (upd H x o') h' := fun b u q => by
  have nown : ∀ c y, H c = some (.own y) → c ≠ x := fun c y r z => by subst z; rw [r] at mu; exact mu
  have ntup : ∀ c xs, H c = some (.tup xs) → c ≠ x := fun c xs r z => by subst z; rw [r] at mu; exact mu
  by_cases hb : b = x
  · subst hb; rw [upd_same] at q; cases q; exact new
  · rw [upd_ne hb] at q
    by_cases hbe : b = e
    · have q' : H b = some (.own x) := by
        rcases he with z | z
        · exact absurd (hbe.trans z) hb
        · rw [hbe]; exact z
      rw [q] at q'; cases q'
      obtain ⟨v, hv⟩ := heo
      exact ⟨v, by rw [hbe]; exact hv⟩
    · refine (ok b u q).stay (fun c v hc r => k c v ?_ r) (fun c r => by rw [upd_ne (nown c b r)]; exact r) fun c xs r => by rw [upd_ne (ntup c xs r)]; exact r
      rcases hc with rfl | hc
      · exact hbe
      · rintro rfl
        rcases he with z | z
        · exact nown c b hc z
        · rw [hc] at z; cases z; exact hb rfl
end

structure Un (fs ex : List Addr) (H H' : Hp) (h h' : Heap) : Prop where
  keep : ∀ b o, h.get? b = some o → H b = none → b ∉ fs → b ∉ ex → h'.get? b = some o
  slot : ∀ b o, h.get? b = some o → H b = none → b ∈ fs → b ∉ ex → ∃ sl, h'.get? b = some { o with slots := sl }
  free : ∀ b o, h.get? b = some o → H b = none → b ∉ ex → H' b = none
  there : ∀ b o, h.get? b = some o → b ∉ ex → ∃ o', h'.get? b = some o'
  tups : ∀ b xs, H b = some (.tup xs) → H' b = some (.tup xs)
  frzs : ∀ b o u, H b = some (.frz o u) → H' b = some (.frz o u)
  tbls : ∀ b ps, H b = some (.tbl ps) → ∃ more, H' b = some (.tbl (ps ++ more))
section
variable {fs fs' ex ex' : List Addr} {H H1 H2 : Hp} {h h1 h2 h' : Heap} {a x e : Addr} {o : HO}
theorem Un.any (u : Un fs ex H H1 h h1) {b : Addr} {ob : Obj} (q : h.get? b = some ob) (n : H b = none) (hx : b ∉ ex) : ∃ sl, h1.get? b = some { ob with slots := sl } := by
  by_cases hb : b ∈ fs
  · exact u.slot b ob q n hb hx
  · exact ⟨ob.slots, u.keep b ob q n hb hx⟩
theorem Un.trans (a : Un fs ex H H1 h h1) (b : Un fs ex H1 H2 h1 h2) : Un fs ex H H2 h h2 where
  keep := fun c ob q n hc hx => b.keep c ob (a.keep c ob q n hc hx) (a.free c ob q n hx) hc hx
  slot := fun c ob q n hc hx => by
    obtain ⟨sl, e1⟩ := a.slot c ob q n hc hx
    obtain ⟨sl', e2⟩ := b.slot c _ e1 (a.free c ob q n hx) hc hx
    exact ⟨sl', e2⟩
  free := fun c ob q n hx => by
    obtain ⟨o', e1⟩ := a.there c ob q hx
    exact b.free c o' e1 (a.free c ob q n hx) hx
  there := fun c ob q hx => by
    obtain ⟨o', e1⟩ := a.there c ob q hx
    exact b.there c o' e1 hx
  tups := fun c xs q => b.tups c xs (a.tups c xs q)
  frzs := fun c ob xs q => b.frzs c ob xs (a.frzs c ob xs q)
  tbls := fun c ps q => by
    obtain ⟨m1, e1⟩ := a.tbls c ps q
    obtain ⟨m2, e2⟩ := b.tbls c _ e1
    exact ⟨m1 ++ m2, by rw [e2, Array.append_assoc]⟩
theorem Un.kept (k : ∀ b u, h.get? b = some u → h'.get? b = some u) : Un fs ex H H h h' :=
  ⟨fun b ob q _ _ _ => k b ob q, fun b ob q _ _ _ => ⟨ob.slots, k b ob q⟩, fun _ _ _ n _ => n, fun b ob q _ => ⟨ob, k b ob q⟩, fun _ _ q => q, fun _ _ _ q => q, fun _ ps q => ⟨#[], by rw [q]; simp⟩⟩
theorem Un.refl : Un fs ex H H h h := Un.kept fun _ _ q => q
theorem Un.laid (k : ∀ b u, h.get? b = some u → h'.get? b = some u) (hp : h.objs.size ≤ a) (hn : H a = none) : Un fs ex H (upd H a o) h h' where
  keep := fun b u q _ _ _ => k b u q
  slot := fun b u q _ _ _ => ⟨u.slots, k b u q⟩
  free := fun b u q n _ => by rw [upd_ne (Nat.ne_of_lt (Nat.lt_of_lt_of_le (Heap.lt_size q) hp))]; exact n
  there := fun b u q _ => ⟨u, k b u q⟩
  tups := fun b xs q => by rw [upd_ne (ne_of_none q hn)]; exact q
  frzs := fun b u xs q => by rw [upd_ne (ne_of_none q hn)]; exact q
  tbls := fun b ps q => ⟨#[], by rw [upd_ne (ne_of_none q hn), q]; simp⟩
theorem Un.write (mu : Mut (H x)) (he : e = x ∨ H e = some (.own x)) (k : ∀ b u, b ≠ e → h.get? b = some u → h'.get? b = some u) (heo : ∃ u, h'.get? e = some u) : Un fs ex H (upd H x o) h h' := by
  have hx : ∀ b, H b = none → b ≠ x := fun b n z => by subst z; rw [n] at mu; exact mu
  have hb : ∀ b, H b = none → b ≠ e := fun b n z => by
    subst z
    rcases he with r | r
    · exact hx b n r
    · rw [n] at r; cases r
  have hm : ∀ b u, H b = some u → ¬ Mut (some u) → b ≠ x := fun b u q nm z => by subst z; rw [q] at mu; exact nm mu
  refine ⟨fun b u q n _ _ => k b u (hb b n) q, fun b u q n _ _ => ⟨u.slots, k b u (hb b n) q⟩, fun b u q n _ => by rw [upd_ne (hx b n)]; exact n, fun b u q _ => ?_,
    fun b xs q => by rw [upd_ne (hm b _ q fun z => z)]; exact q, fun b u xs q => by rw [upd_ne (hm b _ q fun z => z)]; exact q, fun b ps q => ⟨#[], by rw [upd_ne (hm b _ q fun z => z), q]; simp⟩⟩
  by_cases hbe : b = e
  · subst hbe; exact heo
  · exact ⟨u, k b u hbe q⟩
theorem Un.mono (u : Un fs ex H H1 h h1) (hs : ∀ b ∈ fs, b ∈ fs') (hx : ∀ b ∈ ex, b ∈ ex') : Un fs' ex' H H1 h h1 :=
  ⟨fun b ob q n hb he => u.keep b ob q n (fun z => hb (hs b z)) fun z => he (hx b z), fun _ _ q n _ he => u.any q n fun z => he (hx _ z), fun b ob q n he => u.free b ob q n fun z => he (hx b z), fun b ob q he => u.there b ob q fun z => he (hx b z), u.tups, u.frzs, u.tbls⟩
end

def trk (h : Heap) (H : Hp) : List Addr := (List.range h.objs.size).filter fun a => (H a).isSome
def hidT (h : Heap) (H : Hp) : Heap := PySem.W.hideAll h (trk h H)
theorem hidT_size (h : Heap) (H : Hp) : (hidT h H).objs.size = h.objs.size := PySem.W.hideAll_size _ _
theorem hidT_get {h : Heap} {H : Hp} {b : Addr} {o : Obj} (e : h.get? b = some o) (n : H b = none) : (hidT h H).get? b = some o :=
  PySem.W.hideAll_get _ e fun hm => by
    have q : (H b).isSome = true := (List.mem_filter.mp hm).2
    rw [n] at q; simp at q
theorem of_hidT {h : Heap} {H : Hp} {b : Addr} {o : Obj} (e : (hidT h H).get? b = some o) : h.get? b = some o ∧ H b = none := by
  have e' : h.get? b = some o := PySem.W.of_hideAll (trk h H) e
  refine ⟨e', ?_⟩
  cases q : H b with
  | none => rfl
  | some x =>
    have hm : b ∈ trk h H := List.mem_filter.mpr ⟨List.mem_range.mpr (Heap.lt_size e'), by simp [q]⟩
    have z : (hidT h H).get? b = none := PySem.W.hideAll_none (trk h H) hm
    rw [z] at e; cases e

def allNews (g h : Heap) (L : Addr) : List (Addr × Obj) := (List.range h.objs.size).filterMap fun a => if a = L ∨ (g.get? a).isSome = true then none else (h.get? a).map fun o => (a, o)
def rest (g h : Heap) (L d : Addr) : List (Addr × Obj) := (allNews g h L).filter fun p => decide (p.1 ≠ d)
end L2

namespace L2
open PySem PySem.Spec PyProof.Rows

structure Mod (K : PySem.W.Frag) (mg : Str → Option Value) (base : Heap) : Prop where
  kin : K.In base
  glob : base.Ns mainGlobals mg
  blt : ∃ mb, base.Ns builtinsNs mb ∧ ∀ x : Str, x ≠ "__name__" → mb x = bootBuiltins x
  nolimit : base.NoLimit

structure Cx where
  prog : Program
  w : World
  K : PySem.W.Frag
  mg : Str → Option Value
  base : Heap
  A : Around
  N : List Str
  s₀ : Shared
  H₀ : Hp
  env : Env
  outer : List Env
  stack : List Env
  ex : List Addr
  fn : Str → Bool
  calm : Bool
  pn : List (Addr × Obj)
  xe : Value → Shared → Prop
def frs (l : List Env) : List Addr := l.filterMap (·.frame)
abbrev Cx.fs (X : Cx) : List Addr := frs X.outer

def Vis (sc : Scope) (x : Str) : Prop := sc.names.lookup x = some .local ∨ sc.names.lookup x = some .cell ∨ sc.names.lookup x = some .free
def Loc (sc : Scope) (x : Str) : Prop := sc.names.lookup x = some .local ∨ sc.names.lookup x = some .cell
def Look (env : Env) (h : Heap) (m : Str → Option Value) (x : Str) (u : Value) : Prop :=
  (env.kindOf x = some .local ∧ m x = some u) ∨ ((env.kindOf x = some .cell ∨ env.kindOf x = some .free) ∧ ∃ c, env.cells.lookup x = some c ∧ h.IsCell c (some u))

structure Cx.Ok (X : Cx) : Prop where
  mod : Mod X.K X.mg X.base
  kind : X.env.scope.kind = .function
  glob : X.env.globals = mainGlobals
  blt : X.env.builtins = builtinsNs
  above : X.s₀.heap.objs.size ≤ X.env.locals
  inj : ∀ x y c, X.env.cells.lookup x = some c → X.env.cells.lookup y = some c → x = y
  has : ∀ x, (X.env.kindOf x = some .cell ∨ X.env.kindOf x = some .free) → ∃ c, X.env.cells.lookup x = some c
  cab : ∀ x c, X.fn x = true → X.env.cells.lookup x = some c → X.s₀.heap.objs.size ≤ c
  hd : X.calm = true → X.A.handled = none
  frames : X.A.frames = some X.stack
  stk : X.stack = X.outer ∨ (X.stack = X.env :: X.outer ∧ X.env.frame = some X.env.locals)
  exf : ∀ b ∈ X.ex, b ≠ X.env.locals ∧ ∀ x c, X.env.cells.lookup x = some c → c ≠ b
  bs : ∀ b o, X.base.get? b = some o → X.s₀.heap.get? b = some o ∧ X.H₀ b = none
  bsz : X.base.objs.size ≤ X.s₀.heap.objs.size
  noex : ∀ b o, X.base.get? b = some o → b ∉ X.ex
  exfs : ∀ b ∈ X.ex, b ∉ X.fs
  funs : X.s₀.heap.FunFrames X.base X.outer
  frf : ∀ b ∈ X.fs, X.H₀ b = none

structure Inv (X : Cx) (pins : List (Addr × Obj)) (σ : List (Option V)) (H : Hp) (s : Shared) : Prop where
  ok : X.Ok
  os : s.os = X.s₀.os
  bare : AllBare s.gens
  base : Un X.fs X.ex X.H₀ H X.s₀.heap s.heap
  loc : ∃ m, s.heap.Ns X.env.locals m ∧ ∀ (i : Nat) (x : Str) (v : V), X.N[i]? = some x → σ[i]? = some (some v) → Vis X.env.scope x → ∃ u, RelV v u ∧ Look X.env s.heap m x u
  cell : ∀ x c, X.env.cells.lookup x = some c → ∃ v, s.heap.IsCell c v
  free : H X.env.locals = none
  freeC : ∀ x c, X.env.cells.lookup x = some c → H c = none
  pin : ∀ p ∈ X.pn ++ pins, s.heap.get? p.1 = some p.2 ∧ H p.1 = none ∧ p.1 ≠ X.env.locals ∧ p.1 ∉ X.fs ∧ ∀ v, p.2.data ≠ .cell v
  hok : HOk X.prog X.w H s.heap
  len : σ.length = X.N.length

section
variable {X : Cx} {pins : List (Addr × Obj)} {σ : List (Option V)} {H H' : Hp} {s : Shared} {h' : Heap}

theorem Cx.Ok.nofr (ok : X.Ok) {b : Addr} {o : Obj} (e : X.base.get? b = some o) : b ∉ X.fs := fun hb => by
  have := (ok.funs.mem hb).1
  rw [e] at this; cases this
theorem Inv.bs (I : Inv X pins σ H s) : ∀ b o, X.base.get? b = some o → s.heap.get? b = some o ∧ H b = none := fun b o e =>
  ⟨I.base.keep b o (I.ok.bs b o e).1 (I.ok.bs b o e).2 (I.ok.nofr e) (I.ok.noex b o e), I.base.free b o (I.ok.bs b o e).1 (I.ok.bs b o e).2 (I.ok.noex b o e)⟩
theorem Inv.bk (I : Inv X pins σ H s) : ∀ b o, X.base.get? b = some o → s.heap.get? b = some o := fun b o e => (I.bs b o e).1
theorem Inv.mod (I : Inv X pins σ H s) : Mod X.K X.mg X.base := I.ok.mod
theorem Inv.kIn (I : Inv X pins σ H s) : X.K.In s.heap := I.ok.mod.kin.keeps I.bk
theorem Inv.nolimit (I : Inv X pins σ H s) : s.heap.NoLimit := I.ok.mod.nolimit.keeps I.bk
theorem Inv.fr (I : Inv X pins σ H s) : ∃ m, Fr X.base X.env.locals s.heap m :=
  let ⟨m, hn, _⟩ := I.loc
  ⟨m, hn, I.bk, Nat.le_trans I.ok.bsz I.ok.above⟩
theorem Inv.lt (I : Inv X pins σ H s) : X.env.locals < s.heap.objs.size := let ⟨_, hn, _⟩ := I.loc; hn.lt
theorem Inv.sz (I : Inv X pins σ H s) : X.s₀.heap.objs.size ≤ s.heap.objs.size := Nat.le_trans I.ok.above (Nat.le_of_lt I.lt)
theorem Inv.nofs (I : Inv X pins σ H s) {a : Addr} (h : s.heap.objs.size ≤ a) : a ∉ X.fs := fun hb => by
  obtain ⟨_, o, ho, _⟩ := I.ok.funs.mem hb
  exact absurd (Nat.lt_of_lt_of_le (Heap.lt_size ho) (Nat.le_trans I.sz h)) (Nat.lt_irrefl _)
theorem Inv.cne (I : Inv X pins σ H s) : ∀ x c, X.env.cells.lookup x = some c → c ≠ X.env.locals := fun x c e z => by
  obtain ⟨v, o, ho, hd⟩ := I.cell x c e
  obtain ⟨m, ⟨o', es, ep, ho', hd', _⟩, _⟩ := I.loc
  rw [z, ho'] at ho; cases ho; rw [hd'] at hd; cases hd
theorem Inv.funs (I : Inv X pins σ H s) : s.heap.FunFrames X.base X.outer := by
  have all : ∀ (l : List Env), (∀ b ∈ frs l, b ∈ X.fs) → X.s₀.heap.FunFrames X.base l → s.heap.FunFrames X.base l := by
    intro l
    induction l with
    | nil => intro _ _; trivial
    | cons env r ih =>
      intro hs hl
      obtain ⟨hk, ⟨L, o, hf, hn, ho, hd⟩, hr⟩ := hl
      have hL : L ∈ X.fs := hs L (by unfold frs; rw [List.filterMap_cons, hf]; exact List.mem_cons_self)
      obtain ⟨sl, e⟩ := I.base.slot L o ho (I.ok.frf L hL) hL fun z => I.ok.exfs L z hL
      exact ⟨hk, ⟨L, _, hf, hn, e, hd⟩, ih (fun b hb => hs b (by unfold frs; rw [List.filterMap_cons, hf]; exact List.mem_cons_of_mem _ hb)) hr⟩
  exact all X.outer (fun _ hb => hb) I.ok.funs

theorem Inv.stack (I : Inv X pins σ H s) : s.heap.FunFrames X.base X.stack := by
  rcases I.ok.stk with e | ⟨e, hf⟩
  · rw [e]; exact I.funs
  · rw [e]
    obtain ⟨m, hn, _⟩ := I.loc
    refine .cons (by rw [I.ok.kind]; decide) hf hn ?_ I.funs
    exact Heap.get?_none_of_le (Nat.le_trans I.ok.bsz I.ok.above)
theorem Inv.stkSub (I : Inv X pins σ H s) : ∀ b ∈ frs X.stack, b ∈ X.env.locals :: X.fs := fun b hb => by
  rcases I.ok.stk with e | ⟨e, hf⟩
  · rw [e] at hb; exact List.mem_cons_of_mem _ hb
  · rw [e] at hb
    unfold frs at hb
    rw [List.filterMap_cons, hf] at hb
    exact hb
theorem Inv.stkFree (I : Inv X pins σ H s) : ∀ b ∈ frs X.stack, H b = none := fun b hb => by
  rcases List.mem_cons.mp (I.stkSub b hb) with e | hb
  · rw [e]; exact I.free
  · obtain ⟨_, o, ho, _⟩ := I.ok.funs.mem hb
    exact I.base.free b o ho (I.ok.frf b hb) fun z => I.ok.exfs b z hb

theorem Inv.step {g' : Array GenState} {t' : Nat} {d' : Drawn} {ch : List Addr} (I : Inv X pins σ H s)
    (hch : ∀ b ∈ ch, (b ∈ X.ex ∨ X.s₀.heap.objs.size ≤ b) ∧ b ≠ X.env.locals ∧ (∀ x c, X.env.cells.lookup x = some c → c ≠ b) ∧ ∀ p ∈ X.pn ++ pins, p.1 ≠ b)
    (keep : ∀ b o, b ≠ X.env.locals → b ∉ X.fs → b ∉ ch → s.heap.get? b = some o → H b = none → h'.get? b = some o)
    (slot : ∀ b o, b ≠ X.env.locals → b ∈ X.fs → b ∉ ch → s.heap.get? b = some o → H b = none → ∃ sl, h'.get? b = some { o with slots := sl }) (free : ∀ b o, b ∉ ch → s.heap.get? b = some o → H b = none → H' b = none)
    (there : ∀ b o, b ∉ ch → s.heap.get? b = some o → ∃ o', h'.get? b = some o')
    (tups : ∀ b xs, H b = some (.tup xs) → H' b = some (.tup xs)) (frzs : ∀ b o u, H b = some (.frz o u) → H' b = some (.frz o u)) (tbls : ∀ b ps, H b = some (.tbl ps) → ∃ more, H' b = some (.tbl (ps ++ more)))
    (ns : ∀ m, s.heap.Ns X.env.locals m → h'.Ns X.env.locals m) (hok : HOk X.prog X.w H' h') (hg : AllBare g') :
    Inv X pins σ H' { s with heap := h', gens := g', drawn := d', toks := t' } := by
  have neL : ∀ b o, X.s₀.heap.get? b = some o → b ≠ X.env.locals := fun b o e => Nat.ne_of_lt (Nat.lt_of_lt_of_le (Heap.lt_size e) I.ok.above)
  have neC : ∀ b o, X.s₀.heap.get? b = some o → b ∉ X.ex → b ∉ ch := fun b o e hx hb => by
    rcases (hch b hb).1 with z | z
    · exact hx z
    · exact absurd (Nat.lt_of_lt_of_le (Heap.lt_size e) z) (Nat.lt_irrefl _)
  have cellK : ∀ x c, X.env.cells.lookup x = some c → ∀ v, s.heap.IsCell c v → h'.IsCell c v := fun x c e v ⟨o, ho, hd⟩ => by
    have nch : c ∉ ch := fun z => (hch c z).2.2.1 x c e rfl
    by_cases hc : c ∈ X.fs
    · obtain ⟨sl, q⟩ := slot c o (I.cne x c e) hc nch ho (I.freeC x c e)
      exact ⟨_, q, hd⟩
    · exact ⟨o, keep c o (I.cne x c e) hc nch ho (I.freeC x c e), hd⟩
  refine ⟨I.ok, I.os, hg, ⟨fun b o e n hb hx => ?_, fun b o e n hb hx => ?_, fun b o e n hx => ?_, fun b o e hx => ?_, fun b xs e => tups b xs (I.base.tups b xs e), fun b o xs e => frzs b o xs (I.base.frzs b o xs e), fun b ps e => ?_⟩, ?_, fun x c e => ?_, ?_, fun x c e => ?_, fun p hp => ?_, hok, I.len⟩
  · exact keep b o (neL b o e) hb (neC b o e hx) (I.base.keep b o e n hb hx) (I.base.free b o e n hx)
  · obtain ⟨sl, e1⟩ := I.base.slot b o e n hb hx
    obtain ⟨sl', e2⟩ := slot b _ (neL b o e) hb (neC b o e hx) e1 (I.base.free b o e n hx)
    exact ⟨sl', e2⟩
  · obtain ⟨o', e1⟩ := I.base.there b o e hx
    exact free b o' (neC b o e hx) e1 (I.base.free b o e n hx)
  · obtain ⟨o', e1⟩ := I.base.there b o e hx
    exact there b o' (neC b o e hx) e1
  · obtain ⟨m1, e1⟩ := I.base.tbls b ps e
    obtain ⟨m2, e2⟩ := tbls b _ e1
    exact ⟨m1 ++ m2, by rw [e2, Array.append_assoc]⟩
  · obtain ⟨m, hn, hl⟩ := I.loc
    refine ⟨m, ns m hn, fun i x v e1 e2 e3 => ?_⟩
    obtain ⟨u, r, l⟩ := hl i x v e1 e2 e3
    refine ⟨u, r, ?_⟩
    rcases l with l | ⟨k, c, e, z⟩
    · exact .inl l
    · exact .inr ⟨k, c, e, cellK x c e _ z⟩
  · obtain ⟨v, z⟩ := I.cell x c e
    exact ⟨v, cellK x c e v z⟩
  · obtain ⟨m, ⟨o, _, _, ho, _⟩, _⟩ := I.loc
    exact free _ o (fun z => (hch _ z).2.1 rfl) ho I.free
  · obtain ⟨v, o, ho, hd⟩ := I.cell x c e
    exact free c o (fun z => (hch c z).2.2.1 x c e rfl) ho (I.freeC x c e)
  · obtain ⟨e, n, ne, nf, d⟩ := I.pin p hp
    have nch : p.1 ∉ ch := fun z => (hch p.1 z).2.2.2 p hp rfl
    exact ⟨keep p.1 p.2 ne nf nch e n, free p.1 p.2 nch e n, ne, nf, d⟩
theorem Inv.un {t' : Nat} (I : Inv X pins σ H s) (u : Un X.fs [] H H' s.heap h') (hok : HOk X.prog X.w H' h') : Inv X pins σ H' { s with heap := h', toks := t' } := by
  obtain ⟨m, ⟨o, es, ep, ho, r⟩, _⟩ := id I.loc
  obtain ⟨sl, hL⟩ := u.any ho I.free (by simp)
  exact I.step (g' := s.gens) (d' := s.drawn) (ch := []) (fun _ z => nomatch z) (fun b o _ hb _ e n => u.keep b o e n hb (by simp)) (fun b o _ hb _ e n => u.slot b o e n hb (by simp)) (fun b o _ e n => u.free b o e n (by simp)) (fun b o _ e => u.there b o e (by simp)) u.tups u.frzs u.tbls (fun m' hm => by
    obtain ⟨o', es', ep', ho', r'⟩ := hm
    rw [ho] at ho'; cases ho'
    exact ⟨_, es', ep', hL, r'⟩) hok I.bare
theorem Inv.call {g' : Array GenState} {t' : Nat} {d' : Drawn} {ch : List Addr} (I : Inv X pins σ H s) (u : Un (frs X.stack) ch H H' s.heap h') (hok : HOk X.prog X.w H' h') (hg : AllBare g')
    (hch : ∀ b ∈ ch, (b ∈ X.ex ∨ X.s₀.heap.objs.size ≤ b) ∧ b ≠ X.env.locals ∧ (∀ x c, X.env.cells.lookup x = some c → c ≠ b) ∧ ∀ p ∈ X.pn ++ pins, p.1 ≠ b) :
    Inv X pins σ H' { s with heap := h', gens := g', drawn := d', toks := t' } := by
  obtain ⟨m, ⟨o, es, ep, ho, r⟩, _⟩ := id I.loc
  obtain ⟨sl, hL⟩ := u.any ho I.free fun z => (hch _ z).2.1 rfl
  exact I.step (ch := ch) hch (fun b o hL hb hc e n => u.keep b o e n (fun z => (List.mem_cons.mp (I.stkSub b z)).elim hL hb) hc) (fun b o _ _ hc e n => u.any e n hc) (fun b o hc e n => u.free b o e n hc) (fun b o hc e => u.there b o e hc) u.tups u.frzs u.tbls (fun m' hm => by
    obtain ⟨o', es', ep', ho', r'⟩ := hm
    rw [ho] at ho'; cases ho'
    exact ⟨_, es', ep', hL, r'⟩) hok hg
theorem Inv.turned {t' : Nat} {it : Addr} (I : Inv X pins σ H s) (k : ∀ b o, b ≠ it → s.heap.get? b = some o → h'.get? b = some o) (hn : H it = none) (hL : it ≠ X.env.locals)
    (h1 : it ∈ X.ex ∨ X.s₀.heap.objs.size ≤ it) (h2 : ∀ x c, X.env.cells.lookup x = some c → c ≠ it) (h3 : ∀ p ∈ X.pn ++ pins, p.1 ≠ it) : Inv X pins σ H { s with heap := h', toks := t' } := by
  have nit : ∀ b u, H b = some u → b ≠ it := fun b u e z => by rw [z, hn] at e; cases e
  refine I.step (g' := s.gens) (d' := s.drawn) (ch := [it]) (fun b hb => ?_) (fun b o _ _ hc e _ => k b o (fun z => hc (by simp [z])) e) (fun b o _ _ hc e _ => ⟨o.slots, k b o (fun z => hc (by simp [z])) e⟩) (fun _ _ _ _ n => n)
    (fun b o hc e => ⟨o, k b o (fun z => hc (by simp [z])) e⟩) (fun _ _ e => e) (fun _ _ _ e => e) (fun b ps e => ⟨#[], by rw [e]; simp⟩) (fun m hm => ?_) (fun b u e => ?_) I.bare
  · have e : b = it := by simpa using hb
    subst e
    exact ⟨h1, hL, h2, h3⟩
  · obtain ⟨o, es, ep, ho, r⟩ := hm
    exact ⟨o, es, ep, k _ o (Ne.symm hL) ho, r⟩
  · refine (I.hok b u e).stay (fun c v hc q => k c v ?_ q) (fun _ q => q) fun _ _ q => q
    rcases hc with z | z
    · rw [z]; exact nit b u e
    · exact nit c _ z
theorem Inv.tok (I : Inv X pins σ H s) (t : Nat) : Inv X pins σ H { s with toks := t } := I.un (h' := s.heap) (t' := t) Un.refl I.hok
theorem Inv.kept {t' : Nat} (I : Inv X pins σ H s) (k : ∀ b u, s.heap.get? b = some u → h'.get? b = some u) : Inv X pins σ H { s with heap := h', toks := t' } := I.un (Un.kept k) (I.hok.kept k)
theorem Inv.laid {a : Addr} {o : HO} {t' : Nat} (I : Inv X pins σ H s) (k : ∀ b u, s.heap.get? b = some u → h'.get? b = some u) (hp : s.heap.objs.size ≤ a) (new : ObjOk X.prog X.w (upd H a o) h' a o) :
    Inv X pins σ (upd H a o) { s with heap := h', toks := t' } := I.un (Un.laid k hp (I.hok.fresh hp)) (I.hok.laid k hp new)
theorem Inv.write {x e : Addr} {o : HO} {t' : Nat} (I : Inv X pins σ H s) (mu : Mut (H x)) (he : e = x ∨ H e = some (.own x)) (k : ∀ b u, b ≠ e → s.heap.get? b = some u → h'.get? b = some u) (heo : ∃ u, h'.get? e = some u)
    (new : ObjOk X.prog X.w (upd H x o) h' x o) : Inv X pins σ (upd H x o) { s with heap := h', toks := t' } := I.un (Un.write mu he k heo) (I.hok.write mu he k heo new)
theorem Inv.pins_of {pins' : List (Addr × Obj)} (I : Inv X pins σ H s) (h : ∀ p ∈ pins', s.heap.get? p.1 = some p.2 ∧ H p.1 = none ∧ p.1 ≠ X.env.locals ∧ p.1 ∉ X.fs ∧ ∀ v, p.2.data ≠ .cell v) : Inv X pins' σ H s :=
  ⟨I.ok, I.os, I.bare, I.base, I.loc, I.cell, I.free, I.freeC, fun p hp => (List.mem_append.mp hp).elim (fun z => I.pin p (List.mem_append_left _ z)) (h p), I.hok, I.len⟩

theorem nodup_ix {N : List Str} (hN : N.Nodup) {i j : Nat} {x : Str} (a : N[i]? = some x) (b : N[j]? = some x) : i = j := by
  obtain ⟨h1, e1⟩ := List.getElem?_eq_some_iff.mp a
  obtain ⟨h2, e2⟩ := List.getElem?_eq_some_iff.mp b
  exact (List.getElem_inj hN).mp (e1.trans e2.symm)

theorem store_ok2 {M : Model} {A : Around} {E : Value → Shared → Prop} {i : Nat} {x : Str} {v : V} {u : Value} {Q : Unit → Shared → Prop} (I : Inv X pins σ H s) (hN : X.N.Nodup) (hi : X.N[i]? = some x) (hx : Loc X.env.scope x) (r : RelV v u)
    (h : ∀ s', Inv X pins (σ.set i (some v)) H s' → (∃ a, Heap.SameBut a s.heap s'.heap ∧ (a = X.env.locals ∨ X.env.cells.lookup x = some a)) → Q () s') (hf : X.fn x = true ∨ X.env.scope.names.lookup x = some .local := by first | exact .inl rfl | exact .inr rfl | assumption) : wpAny M A (storeName X.env x u) Q E s := by
  obtain ⟨m, hn, hl⟩ := id I.loc
  have hcls : (X.env.scope.kind == .class || (X.env.scope.kind == .module && X.env.locals != X.env.globals)) = false := by rw [I.ok.kind]; rfl
  have hiσ : i < σ.length := by rw [I.len]; exact (List.getElem?_eq_some_iff.mp hi).1
  have cne := I.cne
  have tracked : ∀ {a : Addr} {h' : Heap}, (∃ o, s.heap.get? a = some o ∧ H a = none) → Heap.SameBut a s.heap h' → HOk X.prog X.w H h' := fun {a h'} ha hs b ob e => by
    obtain ⟨_, _, hfree⟩ := ha
    refine (I.hok b ob e).stay (fun c w' hc q => (hs.2 c ?_).trans q) (fun _ q => q) fun _ _ q => q
    rintro rfl
    rcases hc with rfl | hc
    · rw [hfree] at e; cases e
    · rw [hfree] at hc; cases hc
  rcases hx with hk | hk
  · refine wpAny_storeName_local hk hn (fun h' hn' hs => ?_) hcls
    obtain ⟨oL, _, _, hoL, _⟩ := id hn
    refine h _ ⟨I.ok, I.os, I.bare, ⟨fun b o e n hb hx => ?_, fun b o e n hb hx => ?_, I.base.free, fun b o e hx => ?_, I.base.tups, I.base.frzs, I.base.tbls⟩, ⟨_, hn', fun j y v' e1 e2 e3 => ?_⟩, fun y c e => ?_, I.free, I.freeC, fun p hp => ?_, tracked ⟨oL, hoL, I.free⟩ hs, by simpa using I.len⟩ ⟨_, hs, .inl rfl⟩
    · exact (hs.2 b (Nat.ne_of_lt (Nat.lt_of_lt_of_le (Heap.lt_size e) I.ok.above))).trans (I.base.keep b o e n hb hx)
    · obtain ⟨sl, e1⟩ := I.base.slot b o e n hb hx
      exact ⟨sl, (hs.2 b (Nat.ne_of_lt (Nat.lt_of_lt_of_le (Heap.lt_size e) I.ok.above))).trans e1⟩
    · obtain ⟨o', e1⟩ := I.base.there b o e hx
      exact ⟨o', (hs.2 b (Nat.ne_of_lt (Nat.lt_of_lt_of_le (Heap.lt_size e) I.ok.above))).trans e1⟩
    · by_cases hj : j = i
      · subst hj
        rw [hi] at e1; cases e1
        rw [List.getElem?_set_self hiσ] at e2
        cases e2
        exact ⟨u, r, .inl ⟨hk, by simp⟩⟩
      · rw [List.getElem?_set_ne (Ne.symm hj)] at e2
        obtain ⟨u', r', q⟩ := hl j y v' e1 e2 e3
        refine ⟨u', r', ?_⟩
        rcases q with ⟨k, e⟩ | ⟨k, c, e, z⟩
        · refine .inl ⟨k, ?_⟩
          have : y ≠ x := fun e => hj (nodup_ix hN e1 (e ▸ hi))
          simp [this, e]
        · exact .inr ⟨k, c, e, z.sameBut hs (cne y c e)⟩
    · obtain ⟨w', z⟩ := I.cell y c e
      exact ⟨w', z.sameBut hs (cne y c e)⟩
    · obtain ⟨e, n, ne, nf, d⟩ := I.pin p hp
      exact ⟨(hs.2 p.1 ne).trans e, n, ne, nf, d⟩
  · have hfn : X.fn x = true := by
      rcases hf with z | z
      · exact z
      · rw [z] at hk; cases hk
    obtain ⟨c, hc⟩ := I.ok.has x (.inl hk)
    obtain ⟨w', z⟩ := I.cell x c hc
    refine wpAny_storeName_cell I.ok.kind hk hc z (fun h' hc' hs => ?_)
    obtain ⟨oc, hoc, hocd⟩ := id z
    refine h { s with heap := h' } ⟨I.ok, I.os, I.bare, ⟨fun b o e n hb hx => ?_, fun b o e n hb hx => ?_, I.base.free, fun b o e hx => ?_, I.base.tups, I.base.frzs, I.base.tbls⟩, ⟨m, hn.sameBut hs (Ne.symm (cne x c hc)), fun j y v' e1 e2 e3 => ?_⟩, fun y c' e => ?_, I.free, I.freeC, fun p hp => ?_, tracked ⟨oc, hoc, I.freeC x c hc⟩ hs, by simpa using I.len⟩ ⟨c, hs, .inr hc⟩
    · exact (hs.2 b (Nat.ne_of_lt (Nat.lt_of_lt_of_le (Heap.lt_size e) (I.ok.cab x c hfn hc)))).trans (I.base.keep b o e n hb hx)
    · obtain ⟨sl, e1⟩ := I.base.slot b o e n hb hx
      exact ⟨sl, (hs.2 b (Nat.ne_of_lt (Nat.lt_of_lt_of_le (Heap.lt_size e) (I.ok.cab x c hfn hc)))).trans e1⟩
    · obtain ⟨o', e1⟩ := I.base.there b o e hx
      exact ⟨o', (hs.2 b (Nat.ne_of_lt (Nat.lt_of_lt_of_le (Heap.lt_size e) (I.ok.cab x c hfn hc)))).trans e1⟩
    · by_cases hj : j = i
      · subst hj
        rw [hi] at e1; cases e1
        rw [List.getElem?_set_self hiσ] at e2
        cases e2
        exact ⟨u, r, .inr ⟨.inl hk, c, hc, hc'⟩⟩
      · rw [List.getElem?_set_ne (Ne.symm hj)] at e2
        obtain ⟨u', r', q⟩ := hl j y v' e1 e2 e3
        refine ⟨u', r', ?_⟩
        rcases q with q | ⟨k, c', e, z'⟩
        · exact .inl q
        · refine .inr ⟨k, c', e, z'.sameBut hs ?_⟩
          rintro rfl
          exact hj (nodup_ix hN e1 (I.ok.inj _ _ _ e hc ▸ hi))
    · by_cases hcc : c' = c
      · subst hcc; exact ⟨_, hc'⟩
      · obtain ⟨w2, z2⟩ := I.cell y c' e
        exact ⟨w2, z2.sameBut hs hcc⟩
    · obtain ⟨e, n, ne, nf, d⟩ := I.pin p hp
      refine ⟨(hs.2 p.1 ?_).trans e, n, ne, nf, d⟩
      intro q
      rw [q, hoc] at e
      have q' : oc = p.2 := Option.some.inj e
      exact d w' (by rw [← q']; exact hocd)
theorem store_ok {M : Model} {A : Around} {E : Value → Shared → Prop} {i : Nat} {x : Str} {v : V} {u : Value} {Q : Unit → Shared → Prop} (I : Inv X pins σ H s) (hN : X.N.Nodup) (hi : X.N[i]? = some x) (hx : Loc X.env.scope x) (r : RelV v u)
    (h : ∀ s', Inv X pins (σ.set i (some v)) H s' → Q () s') (hf : X.fn x = true ∨ X.env.scope.names.lookup x = some .local := by first | exact .inl rfl | exact .inr rfl | assumption) : wpAny M A (storeName X.env x u) Q E s :=
  store_ok2 I hN hi hx r (fun s' I' _ => h s' I') hf
theorem Inv.call' {s' : Shared} {ch : List Addr} (I : Inv X pins σ H s) (ho : s'.os = s.os) (u : Un (frs X.stack) ch H H' s.heap s'.heap) (hok : HOk X.prog X.w H' s'.heap) (hg : AllBare s'.gens)
    (hch : ∀ b ∈ ch, (b ∈ X.ex ∨ X.s₀.heap.objs.size ≤ b) ∧ b ≠ X.env.locals ∧ (∀ x c, X.env.cells.lookup x = some c → c ≠ b) ∧ ∀ p ∈ X.pn ++ pins, p.1 ≠ b) : Inv X pins σ H' s' := by
  obtain ⟨h', g', d', t', o'⟩ := s'
  have e : o' = s.os := ho
  subst e
  exact I.call (g' := g') (t' := t') (d' := d') u hok hg hch
end

abbrev XK := Value → Option Addr → Hp → Prop
abbrev St := List (Option V)
abbrev VK := V → Hp → Prop
abbrev TE := St → Hp → VK → Prop
abbrev TT := St → Hp → (Bool → Hp → Prop) → Prop
abbrev TA := St → Hp → (List V → Hp → Prop) → Prop
structure Ends where
  nx : St → Hp → Prop
  rt : VK
  bk : St → Hp → Prop := fun _ _ => False
  ct : St → Hp → Prop := fun _ _ => False
abbrev TS := Ends → St → Hp → Prop

def EP (X : Cx) (pins : List (Addr × Obj)) (σ : St) (Q : VK) (u : Value) (s' : Shared) : Prop := ∃ v H', Inv X pins σ H' s' ∧ RelV v u ∧ Q v H'
def TP (X : Cx) (pins : List (Addr × Obj)) (σ : St) (Q : Bool → Hp → Prop) (b : Bool) (s' : Shared) : Prop := ∃ H', Inv X pins σ H' s' ∧ Q b H'
def AP (X : Cx) (pins : List (Addr × Obj)) (σ : St) (Q : List V → Hp → Prop) (us : List Value) (s' : Shared) : Prop := ∃ vs H', Inv X pins σ H' s' ∧ Vals vs us ∧ Q vs H'
def SP (X : Cx) (pins : List (Addr × Obj)) (D : Ends) (f : Flow) (s' : Shared) : Prop :=
  match f with
  | .next => ∃ σ' H', Inv X pins σ' H' s' ∧ D.nx σ' H'
  | .brk => ∃ σ' H', Inv X pins σ' H' s' ∧ D.bk σ' H'
  | .cont => ∃ σ' H', Inv X pins σ' H' s' ∧ D.ct σ' H'
  | .ret u => ∃ v σ' H', Inv X pins σ' H' s' ∧ RelV v u ∧ D.rt v H'

def PE (X : Cx) (e : Expr) (t : TE) : Prop :=
  ∀ (pins : List (Addr × Obj)) (s : Shared) (σ : St) (H : Hp) (Q : VK), Inv X pins σ H s → t σ H Q → wpAny (model X.prog X.w) X.A (eval e X.env) (EP X pins σ Q) X.xe s
def PT (X : Cx) (e : Expr) (t : TT) : Prop :=
  ∀ (pins : List (Addr × Obj)) (s : Shared) (σ : St) (H : Hp) (Q : Bool → Hp → Prop), Inv X pins σ H s → t σ H Q → wpAny (model X.prog X.w) X.A (isTrue e X.env (eval e X.env)) (TP X pins σ Q) X.xe s
def PW (X : Cx) (e : Expr) (t : TT) : Prop :=
  ∀ (whole : Sem Value) (pins : List (Addr × Obj)) (s : Shared) (σ : St) (H : Hp) (Q : Bool → Hp → Prop), Inv X pins σ H s → t σ H Q → wpAny (model X.prog X.w) X.A (isTrue e X.env whole) (TP X pins σ Q) X.xe s
theorem PW.pt {X : Cx} {e : Expr} {t : TT} (h : PW X e t) : PT X e t := h _
def PA (X : Cx) (es : List Expr) (t : TA) : Prop :=
  ∀ (pos : Pos) (pins : List (Addr × Obj)) (s : Shared) (σ : St) (H : Hp) (Q : List V → Hp → Prop), Inv X pins σ H s → t σ H Q → wpAny (model X.prog X.w) X.A (spliced (backTo pos (starEach es X.env))) (AP X pins σ Q) X.xe s
def PS (X : Cx) (st : Stmt) (t : TS) : Prop :=
  ∀ (pins : List (Addr × Obj)) (s : Shared) (σ : St) (H : Hp) (D : Ends), Inv X pins σ H s → t D σ H → wpAny (model X.prog X.w) X.A (exec st X.env) (SP X pins D) X.xe s
def PSs (X : Cx) (st : List Stmt) (t : TS) : Prop :=
  ∀ (pins : List (Addr × Obj)) (s : Shared) (σ : St) (H : Hp) (D : Ends), Inv X pins σ H s → t D σ H → wpAny (model X.prog X.w) X.A (execs st X.env) (SP X pins D) X.xe s
theorem thn {α : Type} {t : Sem α} {Q Q' : α → Shared → Prop} {M : Model} {A : Around} {E : Value → Shared → Prop} {s : Shared} (h : wpAny M A t Q E s) (hQ : ∀ a s, Q a s → Q' a s) : wpAny M A t Q' E s := wpAny_mono h hQ fun _ _ x => x
end L2

namespace L2
open PySem PySem.Spec PyProof.Rows
section
variable {X : Cx}

def tVar (i : Nat) : TE := fun σ H Q => ∃ v, σ[i]? = some (some v) ∧ Q v H
def tC (v : V) : TE := fun _ H Q => Q v H
theorem pe_var {i : Nat} {x : Str} {pos : Pos} (hN : X.N[i]? = some x) (hv : Vis X.env.scope x) (hd : (x == ("__debug__" : Str)) = false := by decide) (hcd : (x == ("__classdict__" : Str)) = false := by decide) : PE X (.Name x pos) (tVar i) := by
  intro pins s σ H Q I h
  obtain ⟨v, e, h⟩ := h
  obtain ⟨m, hn, hl⟩ := I.loc
  obtain ⟨u, r, l⟩ := hl i x v hN e hv
  have fin : EP X pins σ Q u s := ⟨v, H, I, r, h⟩
  rcases l with ⟨hk, hm⟩ | ⟨hk, c, hc, hcell⟩
  · exact wpAny_Name (wpAny_loadName_local I.ok.kind hk hn hm fin) hd
  · rcases hk with hk | hk
    · exact wpAny_Name (wpAny_loadName_cell I.ok.kind hk hc hcell fin) hd
    · exact wpAny_Name (wpAny_loadName_free I.ok.kind hk hc hcell fin hcd) hd
theorem pe_int {i j pos} : PE X (.Constant (.int i) j pos) (tC (.int i)) := fun _ _ _ H _ I h => wpAny_Constant_int ⟨.int i, H, I.tok _, ⟨_, rfl⟩, h⟩
theorem pe_bl {b j pos} : PE X (.Constant (.bool b) j pos) (tC (.bl b)) := fun _ _ _ H _ I h => Constant_bool ⟨.bl b, H, I, rfl, h⟩
theorem pe_non {j pos} : PE X (.Constant .none j pos) (tC .non) := fun _ _ _ H _ I h => Constant_none ⟨.non, H, I, rfl, h⟩
theorem pe_str {x j pos} : PE X (.Constant (.str x) j pos) (tC (.str x)) := fun _ _ _ H _ I h => Calls.Constant_str ⟨.str x, H, I.tok _, ⟨_, rfl⟩, h⟩

def Gl (X : Cx) (x : Str) : Prop := X.env.kindOf x = some .globalImplicit
theorem ld_glob {E : Value → Shared → Prop} {pins : List (Addr × Obj)} {s : Shared} {σ : St} {H : Hp} {x : Str} {u : Value} {pos : Pos} {Q : Value → Shared → Prop} (I : Inv X pins σ H s) (hg : Gl X x) (hm : X.mg x = some u) (h : Q u s)
    (hd : (x == ("__debug__" : Str)) = false := by decide) : wpAny (model X.prog X.w) X.A (eval (.Name x pos) X.env) Q E s :=
  Calls.Name_function_global I.ok.kind hg (Calls.loadGlobal_global (by rw [I.ok.glob]; exact I.mod.glob.keeps I.bk) hm h) hd
theorem ld_blt {E : Value → Shared → Prop} {pins : List (Addr × Obj)} {s : Shared} {σ : St} {H : Hp} {x : Str} {u : Value} {pos : Pos} {Q : Value → Shared → Prop} (I : Inv X pins σ H s) (hg : Gl X x) (hm : X.mg x = none) (hv : bootBuiltins x = some u) (h : Q u s)
    (hn : x ≠ "__name__" := by decide) (hd : (x == ("__debug__" : Str)) = false := by decide) : wpAny (model X.prog X.w) X.A (eval (.Name x pos) X.env) Q E s := by
  obtain ⟨mb, h1, h2⟩ := I.mod.blt
  exact Calls.Name_function_global I.ok.kind hg (Calls.loadGlobal_builtin (by rw [I.ok.glob]; exact I.mod.glob.keeps I.bk) hm (by rw [I.ok.blt]; exact h1.keeps I.bk) ((h2 x hn).trans hv) h) hd
theorem pe_glob {x : Str} {v : V} {u : Value} {pos : Pos} (hg : Gl X x) (hm : X.mg x = some u) (r : RelV v u) (hd : (x == ("__debug__" : Str)) = false := by decide) : PE X (.Name x pos) (tC v) :=
  fun _ _ _ H _ I h => ld_glob I hg hm ⟨v, H, I, r, h⟩ hd
theorem pe_bltn {x : Str} {v : V} {u : Value} {pos : Pos} (hg : Gl X x) (hm : X.mg x = none) (hv : bootBuiltins x = some u) (r : RelV v u) (hn : x ≠ "__name__" := by decide) (hd : (x == ("__debug__" : Str)) = false := by decide) : PE X (.Name x pos) (tC v) :=
  fun _ _ _ H _ I h => ld_blt I hg hm hv ⟨v, H, I, r, h⟩ hn hd

variable {a b : Expr} {ta tb : TE} {pos : Pos}
def tB (t : TE) : TT := fun σ H Q => t σ H fun x H1 => ∃ c, x = .bl c ∧ Q c H1
theorem pt_val {e : Expr} {t : TE} (h : PE X e t) (he : ∀ whole, isTrue e X.env whole = (do let v ← whole; standAt e.pos; holding [v] (truthy v)) := by intro _; rfl) : PT X e (tB t) := by
  intro pins s σ H Q I hw
  refine isTrue_plain (thn (h pins s σ H _ I hw) fun v s1 ⟨x, H1, I1, r1, q1⟩ => ?_) (he _)
  obtain ⟨d, rfl, q⟩ := q1
  cases r1
  exact wpAny_truthy_bool ⟨H1, I1, q⟩

variable {tA tB' : TT} {rest : List Expr}
def tAnd (t u : TT) : TT := fun σ H Q => t σ H fun c H1 => if c = true then u σ H1 Q else Q false H1
def tOr (t u : TT) : TT := fun σ H Q => t σ H fun c H1 => if c = true then Q true H1 else u σ H1 Q
def tNot (t : TT) : TT := fun σ H Q => t σ H fun c H1 => Q (!c) H1
theorem pw_and1 (ha : PT X a tA) : PW X (.BoolOp .And [a] pos) tA := by
  intro wh pins s σ H Q I h
  refine isTrue_and (thn (ha pins s σ H Q I h) fun c s1 e => ?_)
  cases c with
  | true => exact isTrue_and_nil e
  | false => exact e
theorem pw_or1 (ha : PT X a tA) : PW X (.BoolOp .Or [a] pos) tA := by
  intro wh pins s σ H Q I h
  refine isTrue_or (thn (ha pins s σ H Q I h) fun c s1 e => ?_)
  cases c with
  | false => exact isTrue_or_nil e
  | true => exact e
theorem pw_and (ha : PT X a tA) (hb : PW X (.BoolOp .And (b :: rest) pos) tB') : PW X (.BoolOp .And (a :: b :: rest) pos) (tAnd tA tB') := by
  intro wh pins s σ H Q I h
  refine isTrue_and (thn (ha pins s σ H _ I h) fun c s1 ⟨H1, I1, q1⟩ => ?_)
  cases c with
  | true => exact hb wh pins s1 σ H1 Q I1 q1
  | false => exact ⟨H1, I1, q1⟩
theorem pw_or (ha : PT X a tA) (hb : PW X (.BoolOp .Or (b :: rest) pos) tB') : PW X (.BoolOp .Or (a :: b :: rest) pos) (tOr tA tB') := by
  intro wh pins s σ H Q I h
  refine isTrue_or (thn (ha pins s σ H _ I h) fun c s1 ⟨H1, I1, q1⟩ => ?_)
  cases c with
  | true => exact ⟨H1, I1, q1⟩
  | false => exact hb wh pins s1 σ H1 Q I1 q1
theorem pt_not (ha : PT X a tA) : PT X (.UnaryOp .Not a pos) (tNot tA) := by
  intro pins s σ H Q I h
  exact isTrue_not (ha pins s σ H (fun c H1 => Q (!c) H1) I h)
def tAndV (ta tb : TE) : TE := fun σ H Q => ta σ H fun x H1 => ∃ c, x = .bl c ∧ if c = true then tb σ H1 Q else Q (.bl false) H1
def tOrV (ta tb : TE) : TE := fun σ H Q => ta σ H fun x H1 => ∃ c, x = .bl c ∧ if c = true then Q (.bl true) H1 else tb σ H1 Q
def tNotV (ta : TE) : TE := fun σ H Q => ta σ H fun x H1 => ∃ c, x = .bl c ∧ Q (.bl (!c)) H1
theorem pe_one {op} {t : TE} (h : PE X a t) : PE X (.BoolOp op [a] pos) t := fun pins s σ H Q I hw => BoolOp_one (h pins s σ H Q I hw)
theorem pe_and (ha : PE X a ta) (hb : PE X (.BoolOp .And (b :: rest) pos) tb) : PE X (.BoolOp .And (a :: b :: rest) pos) (tAndV ta tb) := by
  intro pins s σ H Q I h
  refine BoolOp_and (thn (ha pins s σ H _ I h) fun v s1 ⟨x, H1, I1, r1, q1⟩ => ?_)
  obtain ⟨c, rfl, q1⟩ := q1
  cases r1
  refine wpAny_truthy_bool ?_
  cases c with
  | true => exact hb pins s1 σ H1 Q I1 q1
  | false => exact ⟨.bl false, H1, I1, rfl, q1⟩
theorem pe_or (ha : PE X a ta) (hb : PE X (.BoolOp .Or (b :: rest) pos) tb) : PE X (.BoolOp .Or (a :: b :: rest) pos) (tOrV ta tb) := by
  intro pins s σ H Q I h
  refine BoolOp_or (thn (ha pins s σ H _ I h) fun v s1 ⟨x, H1, I1, r1, q1⟩ => ?_)
  obtain ⟨c, rfl, q1⟩ := q1
  cases r1
  refine wpAny_truthy_bool ?_
  cases c with
  | false => exact hb pins s1 σ H1 Q I1 q1
  | true => exact ⟨.bl true, H1, I1, rfl, q1⟩
theorem pe_not (ha : PE X a ta) : PE X (.UnaryOp .Not a pos) (tNotV ta) := by
  intro pins s σ H Q I h
  refine UnaryOp_ (thn (ha pins s σ H _ I h) fun v s1 ⟨x, H1, I1, r1, q1⟩ => ?_)
  obtain ⟨c, rfl, q1⟩ := q1
  cases r1
  exact not_of (wpAny_truthy_bool ⟨.bl (!c), H1, I1, rfl, q1⟩)
def tIf (t : TT) (ta tb : TE) : TE := fun σ H Q => t σ H fun c H1 => if c = true then ta σ H1 Q else tb σ H1 Q
theorem pe_ifExp {c : Expr} (hc : PT X c tA) (ha : PE X a ta) (hb : PE X b tb) : PE X (.IfExp c a b pos) (tIf tA ta tb) := by
  intro pins s σ H Q I h
  refine wpAny_IfExp (thn (hc pins s σ H _ I h) fun d s1 ⟨H1, I1, q1⟩ => ?_)
  cases d with
  | true => exact ha pins s1 σ H1 Q I1 q1
  | false => exact hb pins s1 σ H1 Q I1 q1
end
end L2

namespace L2
open PySem PySem.Spec PyProof.Rows

def SqL (K : PySem.W.Frag) (H : Hp) (a : Addr) (xs : List V) : Prop :=
  Rd H a (.lst xs) ∨
    ∃ (o : Obj) (its : Array Value) (n : Nat), K.lookup a = some o ∧ o.cls = .type "list" ∧ o.dict = none ∧ o.data = .seq its n ∧ its.size ≤ sizeLine ∧ Vals xs its.toList
def SqT (K : PySem.W.Frag) (H : Hp) (a : Addr) (xs : List V) : Prop :=
  Rd H a (.tup xs) ∨
    ∃ (o : Obj) (its : Array Value) (n : Nat), K.lookup a = some o ∧ o.cls = .type "tuple" ∧ o.data = .seq its n ∧ its.size ≤ sizeLine ∧ Vals xs its.toList
def absV : Value → Option V
  | .none => some .non
  | .bool b => some (.bl b)
  | .int i _ => some (.int i)
  | .str x _ => some (.str x)
  | .bytes b _ => some (.byt b)
  | .float b _ => some (.flt b)
  | .ref a => some (.ref a)
  | .type n => some (.ty n)
  | _ => none
theorem RelV.abs {x : V} {u : Value} (r : RelV x u) : absV u = some x := by
  cases x with
  | non => cases r; rfl
  | bl _ => cases r; rfl
  | int _ => obtain ⟨t, rfl⟩ := r; rfl
  | str _ => obtain ⟨t, rfl⟩ := r; rfl
  | byt _ => obtain ⟨t, rfl⟩ := r; rfl
  | flt _ => obtain ⟨t, rfl⟩ := r; rfl
  | ref _ => cases r; rfl
  | ty _ => cases r; rfl
theorem RelV.inj {x y : V} {u : Value} (r : RelV x u) (q : RelV y u) : x = y := Option.some.inj (r.abs.symm.trans q.abs)
theorem Vals.inj : ∀ {xs ys : List V} {us : List Value}, Vals xs us → Vals ys us → xs = ys
  | _, _, _, .nil, .nil => rfl
  | _, _, _, .cons r t, .cons r' t' => by rw [r.inj r', Vals.inj t t']
section
variable {X : Cx} {pins : List (Addr × Obj)} {σ : St} {H : Hp} {s : Shared} {a : Addr} {xs ys : List V}
theorem SqL.of {K : PySem.W.Frag} (h : H a = some (.lst xs)) : SqL K H a xs := .inl (.inl h)
theorem SqT.of {K : PySem.W.Frag} (h : H a = some (.tup xs)) : SqT K H a xs := .inl (.inl h)
theorem Inv.list (I : Inv X pins σ H s) (h : SqL X.K H a xs) : ∃ its : List Value, Vals xs its ∧ PlainL s.heap a its.toArray ∧ xs.length ≤ sizeLine := by
  rcases h with h | ⟨o, its, n, hk, hc, hd, hs, hz, r⟩
  · obtain ⟨z, its, n, r, e⟩ := h.ok I.hok
    exact ⟨its, r, ⟨_, n, e, rfl, rfl, rfl⟩, z⟩
  · refine ⟨its.toList, r, ⟨o, n, I.kIn a o hk, hc, hd, by simpa using hs⟩, ?_⟩
    have e := r.length
    simp only [Array.length_toList] at e
    omega
theorem Inv.tuple (I : Inv X pins σ H s) (h : SqT X.K H a xs) : ∃ its : List Value, Vals xs its ∧ IsTup s.heap a its.toArray ∧ xs.length ≤ sizeLine := by
  rcases h with h | ⟨o, its, n, hk, hc, hs, hz, r⟩
  · obtain ⟨z, its, r, p⟩ := h.ok I.hok
    exact ⟨its, r, p, z⟩
  · refine ⟨its.toList, r, ⟨o, I.kIn a o hk, hc, n, by simpa using hs⟩, ?_⟩
    have e := r.length
    simp only [Array.length_toList] at e
    omega
theorem Inv.list_inj (I : Inv X pins σ H s) (h : SqL X.K H a xs) (h' : SqL X.K H a ys) : xs = ys := by
  obtain ⟨its, r, ⟨o, n, e, _, _, d⟩, _⟩ := I.list h
  obtain ⟨its', r', ⟨o', n', e', _, _, d'⟩, _⟩ := I.list h'
  rw [e] at e'; cases e'
  rw [d] at d'
  injection d' with d1 _
  have : its = its' := by simpa using congrArg Array.toList d1
  subst this
  exact r.inj r'
theorem Inv.tuple_inj (I : Inv X pins σ H s) (h : SqT X.K H a xs) (h' : SqT X.K H a ys) : xs = ys := by
  obtain ⟨its, r, ⟨o, e, _, n, d⟩, _⟩ := I.tuple h
  obtain ⟨its', r', ⟨o', e', _, n', d'⟩, _⟩ := I.tuple h'
  rw [e] at e'; cases e'
  rw [d] at d'
  injection d' with d1 _
  have : its = its' := by simpa using congrArg Array.toList d1
  subst this
  exact r.inj r'
end

abbrev Cx.wish (X : Cx) (E : Value → Shared → Prop) : Cx := { X with xe := E }
abbrev Cx.nox (X : Cx) : Cx := X.wish fun _ _ => False
theorem Cx.Ok.wish {X : Cx} (ok : X.Ok) (E : Value → Shared → Prop) : (X.wish E).Ok :=
  ⟨ok.mod, ok.kind, ok.glob, ok.blt, ok.above, ok.inj, ok.has, ok.cab, ok.hd, ok.frames, ok.stk, ok.exf, ok.bs, ok.bsz, ok.noex, ok.exfs, ok.funs, ok.frf⟩
theorem Cx.Ok.unwish {X : Cx} {E : Value → Shared → Prop} (ok : (X.wish E).Ok) : X.Ok :=
  ⟨ok.mod, ok.kind, ok.glob, ok.blt, ok.above, ok.inj, ok.has, ok.cab, ok.hd, ok.frames, ok.stk, ok.exf, ok.bs, ok.bsz, ok.noex, ok.exfs, ok.funs, ok.frf⟩
section
variable {X : Cx} {pins : List (Addr × Obj)} {σ : St} {H : Hp} {s : Shared} {E : Value → Shared → Prop}
theorem Inv.wish (I : Inv X pins σ H s) (E : Value → Shared → Prop) : Inv (X.wish E) pins σ H s := ⟨I.ok.wish E, I.os, I.bare, I.base, I.loc, I.cell, I.free, I.freeC, I.pin, I.hok, I.len⟩
theorem Inv.unwish (I : Inv (X.wish E) pins σ H s) : Inv X pins σ H s := ⟨I.ok.unwish, I.os, I.bare, I.base, I.loc, I.cell, I.free, I.freeC, I.pin, I.hok, I.len⟩
theorem SP.unwish {D : Ends} {f : Flow} {s' : Shared} (h : SP (X.wish E) pins D f s') : SP X pins D f s' := by
  cases f with
  | next => obtain ⟨σ', H', I, q⟩ := h; exact ⟨σ', H', I.unwish, q⟩
  | brk => obtain ⟨σ', H', I, q⟩ := h; exact ⟨σ', H', I.unwish, q⟩
  | cont => obtain ⟨σ', H', I, q⟩ := h; exact ⟨σ', H', I.unwish, q⟩
  | ret u => obtain ⟨v, σ', H', I, r, q⟩ := h; exact ⟨v, σ', H', I.unwish, r, q⟩
theorem PE.nox {e : Expr} {t : TE} (h : PE X.nox e t) : PE X e t := fun pins s σ H Q I hw =>
  wpAny_mono (h pins s σ H Q (I.wish _) hw) (fun _ _ ⟨v, H', I', r, q⟩ => ⟨v, H', I'.unwish, r, q⟩) fun _ _ z => False.elim z
theorem PT.nox {e : Expr} {t : TT} (h : PT X.nox e t) : PT X e t := fun pins s σ H Q I hw =>
  wpAny_mono (h pins s σ H Q (I.wish _) hw) (fun _ _ ⟨H', I', q⟩ => ⟨H', I'.unwish, q⟩) fun _ _ z => False.elim z
theorem PSs.nox {st : List Stmt} {t : TS} (h : PSs X.nox st t) : PSs X st t := fun pins s σ H D I hw =>
  wpAny_mono (h pins s σ H D (I.wish _) hw) (fun _ _ q => q.unwish) fun _ _ z => False.elim z
end

section
variable {X : Cx} {st : Stmt} {rest : List Stmt} {t u : TS} {e : Expr} {te : TE} {pos : Pos}
def tNext : TS := fun D σ H => D.nx σ H
def tSeq (t u : TS) : TS := fun D σ H => t { D with nx := u D } σ H
theorem pss_nil : PSs X [] tNext := fun _ _ σ H _ I h => wpAny_execs_nil ⟨σ, H, I, h⟩
theorem pss_cons (h1 : PS X st t) (h2 : PSs X rest u) : PSs X (st :: rest) (tSeq t u) := by
  intro pins s σ H D I h
  refine wpAny_execs_cons (thn (h1 pins s σ H { D with nx := u D } I h) fun f s1 q => ?_)
  cases f with
  | next =>
    obtain ⟨σ', H', I', q⟩ := q
    exact h2 pins s1 σ' H' D I' q
  | ret v => exact q
  | brk => exact q
  | cont => exact q
theorem pss_one (h1 : PS X st t) : PSs X [st] t := by
  intro pins s σ H D I h
  refine wpAny_execs_cons (thn (h1 pins s σ H D I h) fun f s1 q => ?_)
  cases f with
  | next => exact wpAny_execs_nil q
  | ret v => exact q
  | brk => exact q
  | cont => exact q
def tCont : TS := fun D σ H => D.ct σ H
theorem ps_continue : PS X (.Continue pos) tCont := fun _ _ σ H _ I h => wpAny_Continue ⟨σ, H, I, h⟩
theorem Inv.quiet {pins : List (Addr × Obj)} {σ : St} {H : Hp} {s : Shared} (I : Inv X pins σ H s) : interactive X.env = false := by simp [interactive, I.ok.kind]
def tDrop (te : TE) : TS := fun D σ H => te σ H fun _ H1 => D.nx σ H1
theorem ps_expr (he : PE X e te) (hs : swapsWith e none pos.line X.env = pure false := by rfl) : PS X (.Expr e pos) (tDrop te) := by
  intro pins s σ H D I h
  exact wpAny_Expr_any (thn (he pins s σ H _ I h) fun v s1 ⟨x, H1, I1, r1, q1⟩ => ⟨σ, H1, I1, q1⟩) I.quiet hs
def tRet (te : TE) : TS := fun D σ H => te σ H D.rt
theorem ps_ret (he : PE X e te) : PS X (.Return (some e) pos) (tRet te) := by
  intro pins s σ H D I h
  exact wpAny_Return_some (thn (he pins s σ H _ I h) fun v s1 ⟨x, H1, I1, r1, q1⟩ => ⟨x, σ, H1, I1, r1, q1⟩)
def tIfS (c : TT) (t u : TS) : TS := fun D σ H => c σ H fun b H1 => if b = true then t D σ H1 else u D σ H1
theorem ps_if {c : Expr} {a b : List Stmt} {tc : TT} (hc : PT X c tc) (ha : PSs X a t) (hb : PSs X b u) : PS X (.If c a b pos) (tIfS tc t u) := by
  intro pins s σ H D I h
  refine wpAny_If (thn (hc pins s σ H _ I h) fun d s1 ⟨H1, I1, q1⟩ => ?_)
  cases d with
  | true => exact ha pins s1 σ H1 D I1 q1
  | false => exact hb pins s1 σ H1 D I1 q1
def tNever : TS := fun _ _ _ => False
theorem ps_never : PS X st tNever := fun _ _ _ _ _ _ h => h.elim
end

abbrev TG := V → St → Hp → (St → Hp → Prop) → Prop
abbrev TGs := List V → St → Hp → (St → Hp → Prop) → Prop
def PG (X : Cx) (target : Expr) (t : TG) : Prop :=
  ∀ (pins : List (Addr × Obj)) (s : Shared) (σ : St) (H : Hp) (v : V) (u : Value) (Q : St → Hp → Prop), Inv X pins σ H s → RelV v u → t v σ H Q →
    wpAny (model X.prog X.w) X.A (assign target X.env u) (fun _ s' => ∃ σ' H', Inv X pins σ' H' s' ∧ Q σ' H') X.xe s
def PGs (X : Cx) (ts : List Expr) (t : TGs) : Prop :=
  ∀ (pins : List (Addr × Obj)) (s : Shared) (σ : St) (H : Hp) (vs : List V) (us : List Value) (Q : St → Hp → Prop), Inv X pins σ H s → Vals vs us → t vs σ H Q →
    wpAny (model X.prog X.w) X.A (assignInOrder ((assignEach ts X.env).map (·.2)) us) (fun _ s' => ∃ σ' H', Inv X pins σ' H' s' ∧ Q σ' H') X.xe s
abbrev TSet := V → V → V → Hp → (Hp → Prop) → Prop
def PSet (X : Cx) (t : TSet) : Prop :=
  ∀ (pins : List (Addr × Obj)) (s : Shared) (σ : St) (H : Hp) (o i v : V) (ov iv u : Value) (Q : Hp → Prop), Inv X pins σ H s → RelV o ov → RelV i iv → RelV v u → t o i v H Q →
    wpAny (model X.prog X.w) X.A (setItem ov iv u) (fun _ s' => ∃ H', Inv X pins σ H' s' ∧ Q H') X.xe s
abbrev TIp := V → V → Hp → VK → Prop
def PIp (X : Cx) (op : Operator) (t : TIp) : Prop :=
  ∀ (pins : List (Addr × Obj)) (s : Shared) (σ : St) (H : Hp) (x y : V) (v u : Value) (Q : VK), Inv X pins σ H s → RelV x v → RelV y u → t x y H Q →
    wpAny (model X.prog X.w) X.A (inplaceOp op v u) (EP X pins σ Q) X.xe s
section
variable {X : Cx} {pos : Pos}
def gName (i : Nat) : TG := fun v σ H Q => Q (σ.set i (some v)) H
theorem pg_name {i : Nat} {x : Str} (hN : X.N.Nodup) (hi : X.N[i]? = some x) (hx : Loc X.env.scope x) (hf : X.fn x = true ∨ X.env.scope.names.lookup x = some .local := by first | exact .inl rfl | exact .inr rfl | assumption) : PG X (.Name x pos) (gName i) := by
  intro pins s σ H v u Q I r h
  exact wpAny_assign_Name (store_ok I hN hi hx r (fun s' I' => ⟨_, H, I', h⟩) hf)
def gNil : TGs := fun vs σ H Q => vs = [] ∧ Q σ H
def gCons (t : TG) (u : TGs) : TGs := fun vs σ H Q => ∃ v r, vs = v :: r ∧ t v σ H fun σ' H' => u r σ' H' Q
theorem pgs_nil : PGs X [] gNil := by
  intro pins s σ H vs us Q I r h
  obtain ⟨e, h⟩ := h
  subst e
  cases r
  exact assignInOrder_nil ⟨σ, H, I, h⟩
theorem pgs_cons {e : Expr} {es : List Expr} {t : TG} {u : TGs} (h1 : PG X e t) (h2 : PGs X es u)
    (hs : (assignEach (e :: es) X.env).map (·.2) = assign e X.env :: (assignEach es X.env).map (·.2) := by rfl) : PGs X (e :: es) (gCons t u) := by
  intro pins s σ H vs us Q I r h
  obtain ⟨v, vr, e1, h⟩ := h
  subst e1
  cases r with
  | cons r rr =>
    rw [hs]
    refine assignInOrder_cons (thn (h1 pins s σ H _ _ _ I r h) fun _ s1 ⟨σ1, H1, I1, q1⟩ => ?_)
    exact h2 pins s1 σ1 H1 _ _ Q I1 rr q1
def gTup (K : PySem.W.Frag) (n : Nat) (t : TGs) : TG := fun v σ H Q => ∃ a xs, v = .ref a ∧ SqT K H a xs ∧ xs.length = n ∧ t xs σ H Q
theorem pg_tup {es : List Expr} {k : Nat} {t : TGs} {n : Nat} (hc : X.calm = true) (h : PGs X es t)
    (hn : (assignEach es X.env).length = n := by rfl) (hst : (assignEach es X.env).findIdx? (·.1) = none := by rfl) : PG X (.Tuple es k pos) (gTup X.K n t) := by
  intro pins s σ H v u Q I r hw
  obtain ⟨a, xs, e1, hq, hl, hw⟩ := hw
  subst e1
  cases r
  obtain ⟨its, rv, ht, hz⟩ := I.tuple hq
  refine assign_Tuple_tuple (I.ok.hd hc) ht (by simp [hn, ← hl, rv.length]) hst fun h' hx => ?_
  have I1 : Inv X pins σ H { s with heap := h' } := I.kept (t' := s.toks) fun b o e => hx b o (Nat.ne_of_lt (Heap.lt_size e)) e
  exact h pins _ σ H xs _ Q I1 (by simpa using rv) hw
def gSub (to ti : TE) (t : TSet) : TG := fun v σ H Q => to σ H fun o H1 => ti σ H1 fun i H2 => t o i v H2 fun H3 => Q σ H3
theorem pg_sub {o i : Expr} {to ti : TE} {t : TSet} (ho : PE X o to) (hi : PE X i ti) (hs : PSet X t)
    (ha : ∀ v, assign (.Subscript o i pos) X.env v = (do
      let ov ← holding [v] (eval o X.env)
      let iv ← holding [v, ov] (eval i X.env)
      standAt pos
      holding [v, ov, iv] (setItem ov iv v)
      release [v, ov, iv] []) := by intro _; rfl) : PG X (.Subscript o i pos) (gSub to ti t) := by
  intro pins s σ H v u Q I r h
  rw [ha]
  refine wpAny_bind (wpAny_holding (thn (ho pins s σ H _ I h) fun ov s1 ⟨x, H1, I1, r1, q1⟩ => ?_))
  refine wpAny_bind (wpAny_holding (thn (hi pins s1 σ H1 _ I1 q1) fun iv s2 ⟨y, H2, I2, r2, q2⟩ => ?_))
  refine wpAny_bind (wpAny_standAt (wpAny_bind (wpAny_holding (thn (hs pins s2 σ H2 x y v ov iv u _ I2 r1 r2 r q2) fun _ s3 ⟨H3, I3, q3⟩ => ?_))))
  exact wpAny_release ⟨σ, H3, I3, q3⟩
def tAsg (te : TE) (g : TG) : TS := fun D σ H => te σ H fun x H1 => g x σ H1 D.nx
theorem ps_asg {tg e : Expr} {te : TE} {g : TG} (he : PE X e te) (hg : PG X tg g) (hs : swapsWithSole [tg] e pos.line X.env = pure false := by rfl) (hw : swappedStores [tg] e X.env = pure none := by rfl)
    (h1 : (assignEach [tg] X.env).map (·.2) = [assign tg X.env] := by rfl) : PS X (.Assign [tg] e pos) (tAsg te g) := by
  intro pins s σ H D I h
  refine wpAny_Assign_stores (thn (he pins s σ H _ I h) fun v s1 ⟨x, H1, I1, r1, q1⟩ => ?_) hs hw
  rw [h1]
  exact thn (hg pins s1 σ H1 x v _ I1 r1 q1) fun _ s2 q => q
theorem ps_set {i : Nat} {x : Str} {e : Expr} {te : TE} {pos' : Pos} (hN : X.N.Nodup) (hi : X.N[i]? = some x) (hx : Loc X.env.scope x) (he : PE X e te) (hs : swapsWith e (some (.Name x pos')) pos.line X.env = pure false := by rfl) (hf : X.fn x = true ∨ X.env.scope.names.lookup x = some .local := by first | exact .inl rfl | exact .inr rfl | assumption) :
    PS X (.Assign [.Name x pos'] e pos) (tAsg te (gName i)) := by
  intro pins s σ H D I h
  refine wpAny_Assign_Name (thn (he pins s σ H _ I h) fun v s1 ⟨y, H1, I1, r1, q1⟩ => ?_) hs
  exact store_ok I1 hN hi hx r1 (fun s2 I2 => ⟨_, H1, I2, q1⟩) hf
def tAug (i : Nat) (te : TE) (ti : TIp) : TS := fun D σ H => ∃ x, σ[i]? = some (some x) ∧ te σ H fun y H1 => ti x y H1 fun z H2 => D.nx (σ.set i (some z)) H2
theorem ps_aug {i : Nat} {x : Str} {e : Expr} {te : TE} {op : Operator} {ti : TIp} {pos' : Pos} (hN : X.N.Nodup) (hi : X.N[i]? = some x) (hx : Loc X.env.scope x) (he : PE X e te) (ho : PIp X op ti) (hf : X.fn x = true ∨ X.env.scope.names.lookup x = some .local := by first | exact .inl rfl | exact .inr rfl | assumption) :
    PS X (.AugAssign (.Name x pos') op e pos) (tAug i te ti) := by
  intro pins s σ H D I h
  obtain ⟨v, e1, h⟩ := h
  obtain ⟨m, hn, hl⟩ := I.loc
  have vis : Vis X.env.scope x := by rcases hx with k | k; exact .inl k; exact .inr (.inl k)
  obtain ⟨u, r, l⟩ := hl i x v hi e1 vis
  refine wpAny_AugAssign_Name ?_
  have go : wpAny (model X.prog X.w) X.A (eval e X.env) (fun w s₂ => wpAny (model X.prog X.w) X.A (inplaceOp op u w) (fun r s₃ => wpAny (model X.prog X.w) X.A (storeName X.env x r) (fun _ => SP X pins D .next) X.xe s₃) X.xe s₂) X.xe s := by
    refine thn (he pins s σ H _ I h) fun w s1 ⟨y, H1, I1, r1, q1⟩ => ?_
    refine thn (ho pins s1 σ H1 v y u w _ I1 r r1 q1) fun z s2 ⟨zv, H2, I2, r2, q2⟩ => ?_
    exact store_ok I2 hN hi hx r2 (fun s3 I3 => ⟨_, H2, I3, q2⟩) hf
  rcases l with ⟨hk, hm⟩ | ⟨hk, c, hc, hcell⟩
  · exact wpAny_loadName_local I.ok.kind hk hn hm go
  · rcases hk with hk | hk
    · exact wpAny_loadName_cell I.ok.kind hk hc hcell go
    · rcases hx with k | k
      · have : X.env.scope.names.lookup x = some .free := hk
        rw [k] at this; cases this
      · have : X.env.scope.names.lookup x = some .free := hk
        rw [k] at this; cases this
end

section
variable {X : Cx} {pos : Pos}
end

structure It where
  go : Nat → Hp → Prop
  yld : Nat → Hp → V → Hp → Prop
  stop : Nat → Hp → Prop
def FpOk (X : Cx) (pins : List (Addr × Obj)) (H : Hp) (b : Addr) : Prop :=
  H b = none ∧ b ≠ X.env.locals ∧ b ∉ X.fs ∧ (b ∈ X.ex ∨ X.s₀.heap.objs.size ≤ b) ∧ (∀ x c, X.env.cells.lookup x = some c → c ≠ b) ∧ ∀ p ∈ X.pn ++ pins, p.1 ≠ b
theorem Inv.fpOk {X : Cx} {pins : List (Addr × Obj)} {σ : St} {H H' : Hp} {s : Shared} {b : Addr} (I : Inv X pins σ H s) (hb : s.heap.objs.size ≤ b) (hn : H' b = none) : FpOk X pins H' b := by
  refine ⟨hn, Nat.ne_of_gt (Nat.lt_of_lt_of_le I.lt hb), I.nofs hb, .inr (Nat.le_trans I.sz hb), fun x c e z => ?_, fun p hp z => ?_⟩
  · obtain ⟨v, q⟩ := I.cell x c e
    exact absurd (Nat.lt_of_lt_of_le q.lt (by rw [z]; exact hb)) (Nat.lt_irrefl _)
  · exact absurd (Nat.lt_of_lt_of_le (Heap.lt_size (I.pin p hp).1) (by rw [z]; exact hb)) (Nat.lt_irrefl _)
structure Turn (P : Program) (w : World) (K : PySem.W.Frag) (tg : Expr) (J : It) (fp : List Addr) (it : Addr) (tn : Nat → Heap → Prop) : Prop where
  mem : it ∈ fp
  obj : ∀ i h, tn i h → ∀ b ∈ fp, ∃ o, h.get? b = some o ∧ ∀ v, o.data ≠ .cell v
  keep : ∀ i h h', tn i h → (∀ b ∈ fp, ∀ o, h.get? b = some o → h'.get? b = some o) → tn i h'
  item : ∀ (X : Cx), X.prog = P → X.w = w → X.K = K → X.calm = true → ∀ (i : Nat) (pins : List (Addr × Obj)) (s : Shared) (σ : St) (H : Hp) (E : Value → Shared → Prop), Inv X pins σ H s → (∀ b ∈ fp, FpOk X pins H b) → tn i s.heap → J.go i H →
    wpAny (model P w) X.A (pyNext (.ref it)) (fun r s1 => ∃ u, r = some u ∧
      wpAny (model P w) X.A (letOwnedTupleGo tg (.ref it) u) (fun _ s2 => ∃ x H', Inv X pins σ H' s2 ∧ RelV x u ∧ J.yld i H x H' ∧ tn (i + 1) s2.heap ∧ ∀ b ∈ fp, H' b = none) E s1) E s
  done : ∀ (X : Cx), X.prog = P → X.w = w → X.K = K → X.calm = true → ∀ (i : Nat) (pins : List (Addr × Obj)) (s : Shared) (σ : St) (H : Hp) (E : Value → Shared → Prop), Inv X pins σ H s → (∀ b ∈ fp, FpOk X pins H b) → tn i s.heap → J.stop i H →
    wpAny (model P w) X.A (pyNext (.ref it)) (fun r s1 => r = none ∧ Inv X pins σ H s1) E s
  self : ∀ (A : Around) (i : Nat) (s : Shared) (Q : Value → Shared → Prop) (E : Value → Shared → Prop), tn i s.heap → Q (.ref it) s → wpAny (model P w) A (pyIter (.ref it)) Q E s
abbrev TI := St → Hp → (It → Hp → Prop) → Prop
def PIE (X : Cx) (pins : List (Addr × Obj)) (σ : St) (tg : Expr) (R : It → Hp → Prop) (itv : Value) (s2 : Shared) : Prop :=
  ∃ (it : Addr) (fp : List Addr) (tn : Nat → Heap → Prop) (J : It) (H' : Hp), itv = .ref it ∧ Inv X pins σ H' s2 ∧ Turn X.prog X.w X.K tg J fp it tn ∧ tn 0 s2.heap ∧ (∀ b ∈ fp, FpOk X pins H' b) ∧ R J H'
def PI (X : Cx) (tg iter : Expr) (wi : TI) : Prop :=
  ∀ (pins : List (Addr × Obj)) (s : Shared) (σ : St) (H : Hp) (R : It → Hp → Prop), Inv X pins σ H s → wi σ H R →
    wpAny (model X.prog X.w) X.A (eval iter X.env) (fun v s1 => wpAny (model X.prog X.w) X.A (pyIter v) (PIE X pins σ tg R) X.xe s1) X.xe s

theorem go_of {M : Model} {A : Around} {E : Value → Shared → Prop} {s : Shared} {tg : Expr} {it : Addr} {u : Value} {o : Obj} {n : String} {vs : Array Value} {Q : Unit → Shared → Prop} (ho : s.heap.get? it = some o) (hc : o.cls = .type n) (hd : o.data = .fields vs)
    (hn : ["enumerate", "zip", "dict_itemiterator", "dict_reverseitemiterator", "odict_iterator", "itertools.zip_longest", "itertools.pairwise"].contains n = false) (hQ : Q () s) : wpAny M A (letOwnedTupleGo tg (.ref it) u) Q E s := by
  unfold letOwnedTupleGo
  cases tg <;> first
    | exact wpAny_pure hQ
    | (cases u <;> first
        | exact wpAny_pure hQ
        | (refine wpAny_bind (wpAny_load ho ?_)
           rw [hc, hd]
           show wpAny M A (if (["enumerate", "zip", "dict_itemiterator", "dict_reverseitemiterator", "odict_iterator", "itertools.zip_longest", "itertools.pairwise"].contains n && vs[0]? == some (rawInt _)) = true then _ else _) Q E s
           rw [if_neg (by intro h; rw [hn, Bool.false_and] at h; cases h)]
           exact wpAny_pure hQ))

def Itl (K : PySem.W.Frag) (a : Addr) : It :=
  ⟨fun i H => ∃ xs x, SqL K H a xs ∧ xs[i]? = some x, fun i H x H' => H' = H ∧ ∀ xs, SqL K H a xs → xs[i]? = some x, fun i H => ∃ xs, SqL K H a xs ∧ xs.length ≤ i⟩
def Itt (K : PySem.W.Frag) (a : Addr) : It :=
  ⟨fun i H => ∃ xs x, SqT K H a xs ∧ xs[i]? = some x, fun i H x H' => H' = H ∧ ∀ xs, SqT K H a xs → xs[i]? = some x, fun i H => ∃ xs, SqT K H a xs ∧ xs.length ≤ i⟩
def Itr (lo : Int) (n : Nat) : It := ⟨fun i _ => i < n, fun i H x H' => H' = H ∧ x = .int (lo + i), fun i _ => n ≤ i⟩
theorem turn_list {P : Program} {w : World} {K : PySem.W.Frag} {tg : Expr} (a it : Addr) : Turn P w K tg (Itl K a) [it] it (fun i h => h.IsListIter it a i) where
  mem := by simp
  obj := fun i h st b hb => by
    have e : b = it := by simpa using hb
    subst e
    obtain ⟨o, e, c, d⟩ := st
    exact ⟨o, e, fun v z => by rw [d] at z; cases z⟩
  keep := fun i h h' st k => st.at fun o e => k it (by simp) o e
  item := by
    intro X hP hw hK hc i pins s σ H E I hf st hg
    subst hP hw hK
    obtain ⟨xs, x, hq, hx⟩ := hg
    obtain ⟨its, rv, p, hz⟩ := I.list hq
    obtain ⟨u, hu, ru⟩ := rv.get hx
    obtain ⟨f0, f1, f2, f3, f4, f5⟩ := hf it (by simp)
    refine wpAny_pyNext_list_item st p.isList (x := u) (by simpa using hu) fun h' st' sb => ?_
    have I1 : Inv X pins σ H { s with heap := h' } := I.turned (t' := s.toks) (fun b o hb e => (sb.2 b hb).trans e) f0 f1 f3 f4 f5
    obtain ⟨o, e, c, d⟩ := id st'
    exact ⟨u, rfl, go_of (s := { s with heap := h' }) e c d (by decide) ⟨x, H, I1, ru, ⟨rfl, fun ys hy => by rw [I.list_inj hy hq]; exact hx⟩, st', fun b hb => (hf b hb).1⟩⟩
  done := by
    intro X hP hw hK hc i pins s σ H E I hf st hg
    subst hP hw hK
    obtain ⟨xs, hq, hx⟩ := hg
    obtain ⟨its, rv, p, hz⟩ := I.list hq
    obtain ⟨f0, f1, f2, f3, f4, f5⟩ := hf it (by simp)
    have hl := rv.length
    exact wpAny_pyNext_list_end (I.ok.hd hc) st p.isList (by simp; omega) fun h' eb => ⟨rfl, I.turned (t' := s.toks) (fun b o hb e => eb b o hb e) f0 f1 f3 f4 f5⟩
  self := fun _ _ _ _ _ st h => wpAny_pyIter_listiter st h
theorem turn_tuple {P : Program} {w : World} {K : PySem.W.Frag} {tg : Expr} (a it : Addr) : Turn P w K tg (Itt K a) [it] it (fun i h => h.IsTupleIter it a i) where
  mem := by simp
  obj := fun i h st b hb => by
    have e : b = it := by simpa using hb
    subst e
    obtain ⟨o, e, c, d⟩ := st
    exact ⟨o, e, fun v z => by rw [d] at z; cases z⟩
  keep := fun i h h' st k => st.at fun o e => k it (by simp) o e
  item := by
    intro X hP hw hK hc i pins s σ H E I hf st hg
    subst hP hw hK
    obtain ⟨xs, x, hq, hx⟩ := hg
    obtain ⟨its, rv, p, hz⟩ := I.tuple hq
    obtain ⟨u, hu, ru⟩ := rv.get hx
    obtain ⟨f0, f1, f2, f3, f4, f5⟩ := hf it (by simp)
    refine wpAny_pyNext_tuple_item st (show s.heap.IsTuple a its.toArray from p) (x := u) (by simpa using hu) fun h' st' sb => ?_
    have I1 : Inv X pins σ H { s with heap := h' } := I.turned (t' := s.toks) (fun b o hb e => (sb.2 b hb).trans e) f0 f1 f3 f4 f5
    obtain ⟨o, e, c, d⟩ := id st'
    exact ⟨u, rfl, go_of (s := { s with heap := h' }) e c d (by decide) ⟨x, H, I1, ru, ⟨rfl, fun ys hy => by rw [I.tuple_inj hy hq]; exact hx⟩, st', fun b hb => (hf b hb).1⟩⟩
  done := by
    intro X hP hw hK hc i pins s σ H E I hf st hg
    subst hP hw hK
    obtain ⟨xs, hq, hx⟩ := hg
    obtain ⟨its, rv, p, hz⟩ := I.tuple hq
    obtain ⟨f0, f1, f2, f3, f4, f5⟩ := hf it (by simp)
    have hl := rv.length
    exact wpAny_pyNext_tuple_end (I.ok.hd hc) st (show s.heap.IsTuple a its.toArray from p) (by simp; omega) fun h' eb => ⟨rfl, I.turned (t' := s.toks) (fun b o hb e => eb b o hb e) f0 f1 f3 f4 f5⟩
  self := fun _ _ _ _ _ st h => wpAny_pyIter_tupleiter st h
theorem turn_range {P : Program} {w : World} {K : PySem.W.Frag} {tg : Expr} (it : Addr) (lo : Int) (n : Nat) : Turn P w K tg (Itr lo n) [it] it (fun i h => IsRangeIter h it (lo + (i : Nat) * 1) ((n : Int) - (i : Nat)) 1) where
  mem := by simp
  obj := fun i h st b hb => by
    have e : b = it := by simpa using hb
    subst e
    exact ⟨_, st, fun v z => by
      have z' : Data.fields _ = Data.cell v := z
      cases z'⟩
  keep := fun i h h' st k => k it (by simp) _ st
  item := by
    intro X hP hw hK hc i pins s σ H E I hf st hg
    subst hP hw hK
    obtain ⟨f0, f1, f2, f3, f4, f5⟩ := hf it (by simp)
    have W := Walks.range (prog := X.prog) (w := X.w) (I.ok.hd hc) it lo 1 n
    refine W.item i s _ _ hg st fun v h' tk hv st' kk => ?_
    obtain ⟨t, rfl⟩ := hv
    have I1 : Inv X pins σ H { s with heap := h', toks := tk } := I.turned (fun b o hb e => kk b o (by simpa using hb) e) f0 f1 f3 f4 f5
    refine ⟨_, rfl, go_of (s := { s with heap := h', toks := tk }) (n := "range_iterator") st' rfl rfl (by decide) ⟨.int (lo + i), H, I1, ⟨t, ?_⟩, ⟨rfl, rfl⟩, st', fun b hb => (hf b hb).1⟩⟩
    rw [Int.mul_one]
  done := by
    intro X hP hw hK hc i pins s σ H E I hf st hg
    subst hP hw hK
    obtain ⟨f0, f1, f2, f3, f4, f5⟩ := hf it (by simp)
    exact wpAny_pyNext_range_end (I.ok.hd hc) st (by have : n ≤ i := hg; omega) fun h' eb => ⟨rfl, I.turned (t' := s.toks) (fun b o hb e => eb b o hb e) f0 f1 f3 f4 f5⟩
  self := fun _ _ _ _ _ st h => wpAny_pyIter_rangeiter st h
end L2

namespace L2
open PySem PySem.Spec PyProof.Rows
section
variable {X : Cx} {tg : Expr}
theorem range_it {pins : List (Addr × Obj)} {σ : St} {H : Hp} {s : Shared} {R : It → Hp → Prop} {E : Value → Shared → Prop} {lo hi : Int} {t u v : Tok} {tk : Nat} (I : Inv X pins σ H s) (h1 : -(2 ^ 62) ≤ lo) (h2 : lo < 2 ^ 62) (h3 : -(2 ^ 62) ≤ hi) (h4 : hi < 2 ^ 62)
    (q : R (Itr lo (hi - lo).toNat) H) : wpAny (model X.prog X.w) X.A (pyIter (.ref s.heap.objs.size)) (PIE X pins σ tg R) E { s with heap := s.heap.push { cls := .type "range", data := .fields #[.int lo t, .int hi u, .int 1 v] }, toks := tk } := by
  refine wpAny_pyIter_range (IsRange.new ..) (small_one h1 h2 h3 h4) ?_
  have I1 : Inv X pins σ H { s with heap := s.heap.push { cls := .type "range", data := .fields #[.int lo t, .int hi u, .int 1 v] }, toks := tk } := I.kept fun b o e => Heap.get?_push_of_some _ e
  refine ⟨(s.heap.push { cls := .type "range", data := .fields #[.int lo t, .int hi u, .int 1 v] }).objs.size, [(s.heap.push { cls := .type "range", data := .fields #[.int lo t, .int hi u, .int 1 v] }).objs.size], _, _, H, rfl,
    I1.kept (t' := tk) fun b o e => Heap.get?_push_of_some _ e, turn_range _ lo (hi - lo).toNat, ?_, fun b hb => ?_, q⟩
  · have e1 : lo + ((0 : Nat) : Int) * 1 = lo := by simp
    have e2 : (((hi - lo).toNat : Nat) : Int) - ((0 : Nat) : Int) = Builtin.Range.rangeSize lo hi 1 := by rw [rangeSize_one]; split <;> omega
    show IsRangeIter _ _ (lo + ((0 : Nat) : Int) * 1) ((((hi - lo).toNat : Nat) : Int) - ((0 : Nat) : Int)) 1
    rw [e1, e2]
    exact Heap.get?_push_size _ rfl
  · have e : b = (s.heap.push { cls := .type "range", data := .fields #[.int lo t, .int hi u, .int 1 v] }).objs.size := by simpa using hb
    subst e
    exact I1.fpOk (Nat.le_refl _) (I1.hok.fresh (Nat.le_refl _))
def iRng1 (ta : TA) : TI := fun σ H R => ta σ H fun vs H1 => ∃ j : Int, vs = [.int j] ∧ -(2 ^ 62) ≤ j ∧ j < 2 ^ 62 ∧ R (Itr 0 j.toNat) H1
theorem pi_range1 {a : Expr} {ta : TA} {p pos : Pos} (hg : Gl X "range") (hm : X.mg "range" = none) (ha : PA X [a] ta) (hs : starEach [a] X.env = [(false, eval a X.env)] := by rfl) : PI X tg (.Call (.Name "range" p) [a] [] pos) (iRng1 ta) := by
  intro pins s σ H R I h
  refine Call_ (ld_blt I hg hm boot_range (PyProof.Rows.callWith_type1 (thn (ha pos pins s σ H _ I h) fun us s1 ⟨vs, H1, I1, r1, q1⟩ => ?_) hs rfl))
  obtain ⟨j, e, q1, q2, q⟩ := q1
  subst e
  cases r1 with
  | cons r rr =>
    cases rr
    obtain ⟨t, rfl⟩ := r
    exact call_range_1 (range_it I1 (by omega) (by omega) q1 q2 (by simpa using q))
def tFor (wi : TI) (g : TG) (tb : TS) : TS := fun D σ H => wi σ H fun J H1 => ∃ W : Nat → Nat → St → Hp → Prop, (∃ m, W 0 m σ H1) ∧ ∀ i m σ H, W i m σ H →
  (J.stop i H ∧ D.nx σ H) ∨ (J.go i H ∧ ∃ N : St → Hp → Prop, (∀ σ' H', N σ' H' → ∃ m', m' < m ∧ W (i + 1) m' σ' H') ∧ ∀ x H', J.yld i H x H' → g x σ H' fun σ2 H2 => tb { D with nx := N, ct := N, bk := D.nx } σ2 H2)
def pinsAt (fp : List Addr) (h : Heap) : List (Addr × Obj) := fp.filterMap fun b => (h.get? b).map fun o => (b, o)
theorem mem_pinsAt {fp : List Addr} {h : Heap} {b : Addr} {o : Obj} (hb : b ∈ fp) (e : h.get? b = some o) : (b, o) ∈ pinsAt fp h := List.mem_filterMap.mpr ⟨b, hb, by rw [e]; rfl⟩
theorem of_pinsAt {fp : List Addr} {h : Heap} {p : Addr × Obj} (hp : p ∈ pinsAt fp h) : p.1 ∈ fp ∧ h.get? p.1 = some p.2 := by
  obtain ⟨b, hb, e⟩ := List.mem_filterMap.mp hp
  cases q : h.get? b with
  | none => rw [q] at e; cases e
  | some o =>
    rw [q] at e
    have e' : (b, o) = p := Option.some.inj e
    subst e'
    exact ⟨hb, q⟩
theorem Inv.pinned {pins : List (Addr × Obj)} {σ : St} {H : Hp} {s : Shared} {fp : List Addr} (I : Inv X pins σ H s) (hf : ∀ b ∈ fp, FpOk X pins H b) (ho : ∀ b ∈ fp, ∃ o, s.heap.get? b = some o ∧ ∀ v, o.data ≠ .cell v) : Inv X (pins ++ pinsAt fp s.heap) σ H s :=
  I.pins_of fun p hp => (List.mem_append.mp hp).elim (fun z => I.pin p (List.mem_append_right _ z)) fun z => by
    obtain ⟨hb, e⟩ := of_pinsAt z
    obtain ⟨f0, f1, f2, _⟩ := hf p.1 hb
    obtain ⟨o, e', d⟩ := ho p.1 hb
    rw [e] at e'; cases e'
    exact ⟨e, f0, f1, f2, d⟩
theorem Inv.unpinned {pins pl : List (Addr × Obj)} {σ : St} {H : Hp} {s : Shared} (I : Inv X (pins ++ pl) σ H s) : Inv X pins σ H s := I.pins_of fun p hp => I.pin p (List.mem_append_right _ (List.mem_append_left _ hp))
theorem ps_for {iter : Expr} {body : List Stmt} {wi : TI} {g : TG} {tb : TS} {pos : Pos} (hp : PassesOwn (model X.prog X.w) X.A X.env X.xe) (hc : X.calm = true) (hi : PI X tg iter wi) (hg : PG X tg g) (hb : PSs X body tb)
    (hs : ∀ x, foldedSetIterable iter X.env x = pure x := by intro _; rfl) : PS X (.For tg iter body [] pos) (tFor wi g tb) := by
  intro pins s σ H D I h
  refine wpAny_For (thn (hi pins s σ H _ I h) fun v s1 h1 => thn h1 fun itv s2 h2 => ?_) hs
  obtain ⟨it, fp, tn, J, H2, e, I2, T, st2, f2, W, ⟨m0, w0⟩, turn⟩ := h2
  subst e
  have stat : ∀ {H' : Hp}, (∀ b ∈ fp, H' b = none) → ∀ b ∈ fp, FpOk X pins H' b := fun hn b hb => ⟨hn b hb, (f2 b hb).2⟩
  refine codeAny_forLoop_any (fun n s' => ∃ i σ' H', Inv X pins σ' H' s' ∧ tn i s'.heap ∧ (∀ b ∈ fp, H' b = none) ∧ W i n σ' H') ?_ m0 ⟨0, σ, H2, I2, st2, fun b hb => (f2 b hb).1, w0⟩
  rintro n s3 ⟨i, σ3, H3, I3, st3, fr3, w3⟩
  rcases turn i n σ3 H3 w3 with ⟨stop, qn⟩ | ⟨go, N, hN, step⟩
  · refine wpAny_passesOwn hp (thn (T.done X rfl rfl rfl hc i pins s3 σ3 H3 X.xe I3 (stat fr3) st3 stop) fun r s4 ⟨hr, I4⟩ => ?_)
    subst hr
    exact wpAny_execs_nil ⟨σ3, H3, I4, qn⟩
  · refine wpAny_passesOwn hp (thn (T.item X rfl rfl rfl hc i pins s3 σ3 H3 X.xe I3 (stat fr3) st3 go) fun r s4 ⟨u, hr, h4⟩ => ?_)
    subst hr
    refine wpAny_passesOwn hp (thn h4 fun _ s5 ⟨x, H5, I5, r5, y5, st5, fr5⟩ => ?_)
    have I5' := I5.pinned (stat fr5) (T.obj _ _ st5)
    refine wpAny_passesOwn hp (thn (hg _ s5 σ3 H5 x u _ I5' r5 (step x H5 y5)) fun _ s6 ⟨σ6, H6, I6, q6⟩ => ?_)
    refine wpAny_passesOwn hp (thn (hb _ s6 σ6 H6 _ I6 q6) fun f s7 q7 => ?_)
    have again : ∀ {σ7 : St} {H7 : Hp}, Inv X (pins ++ pinsAt fp s5.heap) σ7 H7 s7 → N σ7 H7 → ∃ m, m < n ∧ ∃ i σ' H', Inv X pins σ' H' s7 ∧ tn i s7.heap ∧ (∀ b ∈ fp, H' b = none) ∧ W i m σ' H' := fun {σ7 H7} I7 n7 => by
      obtain ⟨m', hm, w7⟩ := hN σ7 H7 n7
      refine ⟨m', hm, i + 1, σ7, H7, I7.unpinned, T.keep _ _ _ st5 fun b hb o e => (I7.pin (b, o) (List.mem_append_right _ (List.mem_append_right _ (mem_pinsAt hb e)))).1, fun b hb => ?_, w7⟩
      obtain ⟨o, e, d⟩ := T.obj _ _ st5 b hb
      exact (I7.pin (b, o) (List.mem_append_right _ (List.mem_append_right _ (mem_pinsAt hb e)))).2.1
    cases f with
    | next => obtain ⟨σ7, H7, I7, n7⟩ := q7; exact again I7 n7
    | cont => obtain ⟨σ7, H7, I7, n7⟩ := q7; exact again I7 n7
    | brk => obtain ⟨σ7, H7, I7, q7⟩ := q7; exact ⟨σ7, H7, I7.unpinned, q7⟩
    | ret v => obtain ⟨x7, σ7, H7, I7, r7, q7⟩ := q7; exact ⟨x7, σ7, H7, I7.unpinned, r7, q7⟩
end

theorem for_list {K : PySem.W.Frag} {a : Addr} {xs : List V} {g : TG} {tb : TS} {D : Ends} {σ : St} {H : Hp} (Pv : Nat → St → Hp → Prop) (h0 : Pv 0 σ H) (hl : ∀ i σ H, i ≤ xs.length → Pv i σ H → SqL K H a xs)
    (hs : ∀ i x σ H, xs[i]? = some x → Pv i σ H → g x σ H fun σ2 H2 => tb { D with nx := Pv (i + 1), ct := Pv (i + 1), bk := D.nx } σ2 H2) (hd : ∀ σ H, Pv xs.length σ H → D.nx σ H) :
    ∃ W : Nat → Nat → St → Hp → Prop, (∃ m, W 0 m σ H) ∧ ∀ i m σ H, W i m σ H →
      ((Itl K a).stop i H ∧ D.nx σ H) ∨ ((Itl K a).go i H ∧ ∃ N : St → Hp → Prop, (∀ σ' H', N σ' H' → ∃ m', m' < m ∧ W (i + 1) m' σ' H') ∧ ∀ x H', (Itl K a).yld i H x H' → g x σ H' fun σ2 H2 => tb { D with nx := N, ct := N, bk := D.nx } σ2 H2) := by
  refine ⟨fun i m σ H => m = xs.length - i ∧ i ≤ xs.length ∧ Pv i σ H, ⟨xs.length, by simp, Nat.zero_le _, h0⟩, ?_⟩
  rintro i m σ H ⟨rfl, hi, p⟩
  have q := hl i σ H hi p
  by_cases hlt : i < xs.length
  · refine .inr ⟨⟨xs, xs[i], q, by simp [hlt]⟩, Pv (i + 1), fun σ' H' p' => ⟨xs.length - (i + 1), by omega, rfl, hlt, p'⟩, fun x H' y => ?_⟩
    obtain ⟨e, y⟩ := y
    subst e
    exact hs i x σ _ (y xs q) p
  · have e : i = xs.length := by omega
    subst e
    exact .inl ⟨⟨xs, q, Nat.le_refl _⟩, hd σ H p⟩
theorem for_tup {K : PySem.W.Frag} {a : Addr} {xs : List V} {g : TG} {tb : TS} {D : Ends} {σ : St} {H : Hp} (Pv : Nat → St → Hp → Prop) (h0 : Pv 0 σ H) (hl : ∀ i σ H, i ≤ xs.length → Pv i σ H → SqT K H a xs)
    (hs : ∀ i x σ H, xs[i]? = some x → Pv i σ H → g x σ H fun σ2 H2 => tb { D with nx := Pv (i + 1), ct := Pv (i + 1), bk := D.nx } σ2 H2) (hd : ∀ σ H, Pv xs.length σ H → D.nx σ H) :
    ∃ W : Nat → Nat → St → Hp → Prop, (∃ m, W 0 m σ H) ∧ ∀ i m σ H, W i m σ H →
      ((Itt K a).stop i H ∧ D.nx σ H) ∨ ((Itt K a).go i H ∧ ∃ N : St → Hp → Prop, (∀ σ' H', N σ' H' → ∃ m', m' < m ∧ W (i + 1) m' σ' H') ∧ ∀ x H', (Itt K a).yld i H x H' → g x σ H' fun σ2 H2 => tb { D with nx := N, ct := N, bk := D.nx } σ2 H2) := by
  refine ⟨fun i m σ H => m = xs.length - i ∧ i ≤ xs.length ∧ Pv i σ H, ⟨xs.length, by simp, Nat.zero_le _, h0⟩, ?_⟩
  rintro i m σ H ⟨rfl, hi, p⟩
  have q := hl i σ H hi p
  by_cases hlt : i < xs.length
  · refine .inr ⟨⟨xs, xs[i], q, by simp [hlt]⟩, Pv (i + 1), fun σ' H' p' => ⟨xs.length - (i + 1), by omega, rfl, hlt, p'⟩, fun x H' y => ?_⟩
    obtain ⟨e, y⟩ := y
    subst e
    exact hs i x σ _ (y xs q) p
  · have e : i = xs.length := by omega
    subst e
    exact .inl ⟨⟨xs, q, Nat.le_refl _⟩, hd σ H p⟩
theorem for_range {lo : Int} {n : Nat} {g : TG} {tb : TS} {D : Ends} {σ : St} {H : Hp} (Pv : Nat → St → Hp → Prop) (h0 : Pv 0 σ H)
    (hs : ∀ i σ H, i < n → Pv i σ H → g (.int (lo + i)) σ H fun σ2 H2 => tb { D with nx := Pv (i + 1), ct := Pv (i + 1), bk := D.nx } σ2 H2) (hd : ∀ σ H, Pv n σ H → D.nx σ H) :
    ∃ W : Nat → Nat → St → Hp → Prop, (∃ m, W 0 m σ H) ∧ ∀ i m σ H, W i m σ H →
      ((Itr lo n).stop i H ∧ D.nx σ H) ∨ ((Itr lo n).go i H ∧ ∃ N : St → Hp → Prop, (∀ σ' H', N σ' H' → ∃ m', m' < m ∧ W (i + 1) m' σ' H') ∧ ∀ x H', (Itr lo n).yld i H x H' → g x σ H' fun σ2 H2 => tb { D with nx := N, ct := N, bk := D.nx } σ2 H2) := by
  refine ⟨fun i m σ H => m = n - i ∧ i ≤ n ∧ Pv i σ H, ⟨n, by simp, Nat.zero_le _, h0⟩, ?_⟩
  rintro i m σ H ⟨rfl, hi, p⟩
  by_cases hlt : i < n
  · refine .inr ⟨hlt, Pv (i + 1), fun σ' H' p' => ⟨n - (i + 1), by omega, rfl, hlt, p'⟩, fun x H' y => ?_⟩
    obtain ⟨e, y⟩ := y
    subst e y
    exact hs i σ _ hlt p
  · have e : i = n := by omega
    subst e
    exact .inl ⟨Nat.le_refl _, hd σ H p⟩
end L2

namespace L2
open PySem PySem.Spec PyProof.Rows

abbrev R2 := V → V → Hp → VK → Prop
def OpR (X : Cx) (f : Value → Value → Sem Value) (r : R2) : Prop :=
  ∀ (pins : List (Addr × Obj)) (s : Shared) (σ : St) (H : Hp) (x y : V) (v u : Value) (Q : VK), Inv X pins σ H s → RelV x v → RelV y u → r x y H Q →
    wpAny (model X.prog X.w) X.A (f v u) (EP X pins σ Q) X.xe s
def UnR (X : Cx) (f : Value → Sem Value) (r : V → Hp → VK → Prop) : Prop :=
  ∀ (pins : List (Addr × Obj)) (s : Shared) (σ : St) (H : Hp) (x : V) (v : Value) (Q : VK), Inv X pins σ H s → RelV x v → r x H Q →
    wpAny (model X.prog X.w) X.A (f v) (EP X pins σ Q) X.xe s
def CallR (X : Cx) (f : Value) (r : List V → Hp → VK → Prop) : Prop :=
  ∀ (pins : List (Addr × Obj)) (s : Shared) (σ : St) (H : Hp) (xs : List V) (us : List Value) (Q : VK), Inv X pins σ H s → Vals xs us → r xs H Q →
    wpAny (model X.prog X.w) X.A (call f us) (EP X pins σ Q) X.xe s
def TruR (X : Cx) (r : V → Hp → (Bool → Hp → Prop) → Prop) : Prop :=
  ∀ (pins : List (Addr × Obj)) (s : Shared) (σ : St) (H : Hp) (x : V) (v : Value) (Q : Bool → Hp → Prop), Inv X pins σ H s → RelV x v → r x H Q →
    wpAny (model X.prog X.w) X.A (truthy v) (TP X pins σ Q) X.xe s

def tOp (r : R2) (ta tb : TE) : TE := fun σ H Q => ta σ H fun x H1 => tb σ H1 fun y H2 => r x y H2 Q
def tUn (r : V → Hp → VK → Prop) (ta : TE) : TE := fun σ H Q => ta σ H fun x H1 => r x H1 Q
def rI (C : Int → Int → Prop) (g : Int → Int → V) : R2 := fun x y H Q => ∃ i j, x = .int i ∧ y = .int j ∧ C i j ∧ Q (g i j) H
def rI0 (g : Int → Int → V) : R2 := fun x y H Q => ∃ i j, x = .int i ∧ y = .int j ∧ Q (g i j) H
def rU (g : Int → V) : V → Hp → VK → Prop := fun x H Q => ∃ i, x = .int i ∧ Q (g i) H

section
variable {X : Cx} {a b c : Expr} {ta tb tc : TE} {pos : Pos}

theorem binT (ha : PE X a ta) (hb : PE X b tb) {pins : List (Addr × Obj)} {s : Shared} {σ : St} {H : Hp} {R : V → V → Hp → Prop} (I : Inv X pins σ H s)
    (h : ta σ H fun x H1 => tb σ H1 fun y H2 => R x y H2) {Q : Value → Shared → Prop} {f : Value → Value → Sem Value}
    (hf : ∀ v u s2 x y H2, Inv X pins σ H2 s2 → RelV x v → RelV y u → R x y H2 → wpAny (model X.prog X.w) X.A (f v u) Q X.xe s2) :
    wpAny (model X.prog X.w) X.A (eval a X.env) (fun v s₁ => wpAny (model X.prog X.w) X.A (eval b X.env) (fun u s₂ => wpAny (model X.prog X.w) X.A (f v u) Q X.xe s₂) X.xe s₁) X.xe s := by
  refine thn (ha pins s σ H _ I h) fun v s1 ⟨x, H1, I1, r1, q1⟩ => ?_
  refine thn (hb pins s1 σ H1 _ I1 q1) fun u s2 ⟨y, H2, I2, r2, q2⟩ => ?_
  exact hf v u s2 x y H2 I2 r1 r2 q2

theorem pe_op {op : Operator} {r : R2} (ho : OpR X (binaryOp op) r) (ha : PE X a ta) (hb : PE X b tb) : PE X (.BinOp a op b pos) (tOp r ta tb) := by
  intro pins s σ H Q I h
  exact wpAny_BinOp (binT ha hb I h fun v u s2 x y H2 I2 rx ry q => ho pins s2 σ H2 x y v u Q I2 rx ry q)
theorem pe_un {op : UnaryOp} {r : V → Hp → VK → Prop} (ho : UnR X (unaryOp op) r) (ha : PE X a ta) : PE X (.UnaryOp op a pos) (tUn r ta) := by
  intro pins s σ H Q I h
  exact UnaryOp_ (thn (ha pins s σ H _ I h) fun v s1 ⟨x, H1, I1, r1, q1⟩ => ho pins s1 σ H1 x v Q I1 r1 q1)
theorem opI {f : Value → Value → Sem Value} {C : Int → Int → Prop} {g : Int → Int → Int}
    (rule : ∀ (i j : Int) (t u : Tok) (s : Shared) (Q : Value → Shared → Prop) (E : Value → Shared → Prop), C i j → Q (.int (g i j) s.toks) { s with toks := s.toks + 1 } → wpAny (model X.prog X.w) X.A (f (.int i t) (.int j u)) Q E s) :
    OpR X f (rI C fun i j => .int (g i j)) := by
  intro pins s σ H x y v u Q I rx ry h
  obtain ⟨i, j, rfl, rfl, hc, q⟩ := h
  obtain ⟨t, rfl⟩ := rx
  obtain ⟨t', rfl⟩ := ry
  exact rule i j t t' s _ _ hc ⟨.int (g i j), H, I.tok _, ⟨_, rfl⟩, q⟩
theorem opI0 {f : Value → Value → Sem Value} {g : Int → Int → Int}
    (rule : ∀ (i j : Int) (t u : Tok) (s : Shared) (Q : Value → Shared → Prop) (E : Value → Shared → Prop), Q (.int (g i j) s.toks) { s with toks := s.toks + 1 } → wpAny (model X.prog X.w) X.A (f (.int i t) (.int j u)) Q E s) :
    OpR X f (rI0 fun i j => .int (g i j)) := by
  intro pins s σ H x y v u Q I rx ry h
  obtain ⟨i, j, rfl, rfl, q⟩ := h
  obtain ⟨t, rfl⟩ := rx
  obtain ⟨t', rfl⟩ := ry
  exact rule i j t t' s _ _ ⟨.int (g i j), H, I.tok _, ⟨_, rfl⟩, q⟩
theorem opB0 {f : Value → Value → Sem Value} {g : Int → Int → Bool}
    (rule : ∀ (i j : Int) (t u : Tok) (s : Shared) (Q : Value → Shared → Prop) (E : Value → Shared → Prop), Q (.bool (g i j)) s → wpAny (model X.prog X.w) X.A (f (.int i t) (.int j u)) Q E s) :
    OpR X f (rI0 fun i j => .bl (g i j)) := by
  intro pins s σ H x y v u Q I rx ry h
  obtain ⟨i, j, rfl, rfl, q⟩ := h
  obtain ⟨t, rfl⟩ := rx
  obtain ⟨t', rfl⟩ := ry
  exact rule i j t t' s _ _ ⟨.bl (g i j), H, I, rfl, q⟩

def CDiv (i j : Int) : Prop := 0 < j ∧ j < 1073741824
def CMul (i j : Int) : Prop := (-(2 ^ 64) < i ∧ i < 2 ^ 64) ∨ (-(2 ^ 64) < j ∧ j < 2 ^ 64)
theorem CMul.ok {i j : Int} (h : CMul i j) : IntMulOk i j := by
  rcases h with ⟨h1, h2⟩ | ⟨h1, h2⟩
  · exact .of_left (intBits_le_64 h1 h2)
  · exact .of_right (intBits_le_64 h1 h2)
theorem op_add : OpR X (binaryOp .Add) (rI0 fun i j => .int (i + j)) := opI0 fun _ _ _ _ _ _ _ q => add_int q
theorem op_sub : OpR X (binaryOp .Sub) (rI0 fun i j => .int (i - j)) := opI0 fun _ _ _ _ _ _ _ q => sub_int q
theorem op_mul : OpR X (binaryOp .Mult) (rI CMul fun i j => .int (i * j)) := opI fun _ _ _ _ _ _ _ hc q => mul_int q hc.ok
theorem op_fdiv : OpR X (binaryOp .FloorDiv) (rI CDiv fun i j => .int (i / j)) := opI fun i j _ _ _ _ _ hc q => by
  have h1 : (0 : Int) < j := hc.1
  have h2 : j < 1073741824 := hc.2
  exact floordiv_int (by omega) (by rw [Int.fdiv_eq_ediv_of_nonneg i (by omega)]; exact q) (.inl (PyProof.noPylong_small (by omega)))
theorem op_mod : OpR X (binaryOp .Mod) (rI (fun _ j => 0 < j) fun i j => .int (i % j)) := opI fun i j _ _ _ _ _ hc q => by
  have h1 : (0 : Int) < j := hc
  exact mod_int' (by omega) (by rw [Int.fmod_eq_emod_of_nonneg i (by omega)]; exact q)
theorem iop_add : OpR X (inplaceOp .Add) (rI0 fun i j => .int (i + j)) := opI0 fun _ _ _ _ _ _ _ q => iadd_int q
theorem unI {f : Value → Sem Value} {g : Int → Int}
    (rule : ∀ (i : Int) (t : Tok) (s : Shared) (Q : Value → Shared → Prop) (E : Value → Shared → Prop), Q (.int (g i) s.toks) { s with toks := s.toks + 1 } → wpAny (model X.prog X.w) X.A (f (.int i t)) Q E s) :
    UnR X f (rU fun i => .int (g i)) := by
  intro pins s σ H x v Q I rx h
  obtain ⟨i, rfl, q⟩ := h
  obtain ⟨t, rfl⟩ := rx
  exact rule i t s _ _ ⟨.int (g i), H, I.tok _, ⟨_, rfl⟩, q⟩
theorem un_neg : UnR X (unaryOp .USub) (rU fun i => .int (-i)) := unI fun _ _ _ _ _ q => neg_int q
end

def scal : V → V → Bool
  | .non, .non => true | .non, .int _ => true | .int _, .non => true | .non, .bl _ => true | .bl _, .non => true | .non, .str _ => true | .str _, .non => true
  | .int _, .int _ => true | .bl _, .bl _ => true | .str _, .str _ => true | .byt _, .byt _ => true
  | .int _, .str _ => true | .str _, .int _ => true | .bl _, .str _ => true | .str _, .bl _ => true
  | _, _ => false
def rEq : R2 := fun x y H Q => scal x y = true ∧ Q (.bl (decide (x = y))) H
def rNe : R2 := fun x y H Q => scal x y = true ∧ Q (.bl (!decide (x = y))) H

theorem dec_int {i j : Int} : decide (V.int i = V.int j) = (i == j) := by
  rw [Bool.eq_iff_iff]
  simp
theorem dec_bl {i j : Bool} : decide (V.bl i = V.bl j) = (i == j) := by
  rw [Bool.eq_iff_iff]
  simp
theorem dec_str {i j : Str} : decide (V.str i = V.str j) = (i == j) := by
  rw [Bool.eq_iff_iff]
  simp
theorem dec_byt {i j : Array UInt8} : decide (V.byt i = V.byt j) = (i.toList == j.toList) := by
  rw [Bool.eq_iff_iff]
  cases i
  cases j
  simp

section
variable {X : Cx} {a b c : Expr} {ta tb tc : TE} {pos : Pos}
theorem fin_bl {pins : List (Addr × Obj)} {σ : St} {H : Hp} {s : Shared} {Q : VK} {k k' : Bool} (I : Inv X pins σ H s) (q : Q (.bl k) H) (e : k = k') : EP X pins σ Q (.bool k') s := by
  subst e
  exact ⟨.bl k, H, I, rfl, q⟩
theorem op_eq : OpR X (compareOp .Eq) rEq := by
  intro pins s σ H x y v u Q I rx ry h
  obtain ⟨hs, q⟩ := h
  cases x with
  | non =>
    cases rx
    cases y with
    | non => cases ry; exact PySem.EqNone.eq_none_none (fin_bl I q (by simp))
    | bl j => cases ry; exact PySem.EqNone.eq_none_bool (fin_bl I q (by simp))
    | int j => obtain ⟨t', rfl⟩ := ry; exact PySem.EqNone.eq_none_int (fin_bl I q (by simp))
    | str j => obtain ⟨t', rfl⟩ := ry; exact PySem.EqNone.eq_none_str (fin_bl I q (by simp))
    | _ => exact absurd (show false = true from hs) Bool.false_ne_true
  | bl i =>
    cases rx
    cases y with
    | non => cases ry; exact PySem.EqNone.eq_bool_none (fin_bl I q (by simp))
    | bl j => cases ry; exact eq_bool (fin_bl I q dec_bl)
    | str j => obtain ⟨t', rfl⟩ := ry; exact PySem.EqMixed.eq_bool_str (fin_bl I q (by simp))
    | _ => exact absurd (show false = true from hs) Bool.false_ne_true
  | int i =>
    obtain ⟨t, rfl⟩ := rx
    cases y with
    | non => cases ry; exact PySem.EqNone.eq_int_none (fin_bl I q (by simp))
    | int j => obtain ⟨t', rfl⟩ := ry; exact eq_int (fin_bl I q dec_int)
    | str j => obtain ⟨t', rfl⟩ := ry; exact PySem.EqMixed.eq_int_str (fin_bl I q (by simp))
    | _ => exact absurd (show false = true from hs) Bool.false_ne_true
  | str i =>
    obtain ⟨t, rfl⟩ := rx
    cases y with
    | non => cases ry; exact PySem.EqNone.eq_str_none (fin_bl I q (by simp))
    | bl j => cases ry; exact PySem.EqMixed.eq_str_bool (fin_bl I q (by simp))
    | int j => obtain ⟨t', rfl⟩ := ry; exact PySem.EqMixed.eq_str_int (fin_bl I q (by simp))
    | str j => obtain ⟨t', rfl⟩ := ry; exact eq_str (fin_bl I q dec_str)
    | _ => exact absurd (show false = true from hs) Bool.false_ne_true
  | byt i =>
    obtain ⟨t, rfl⟩ := rx
    cases y with
    | byt j => obtain ⟨t', rfl⟩ := ry; exact PySem.W.eq_bytes (fin_bl I q dec_byt)
    | _ => exact absurd (show false = true from hs) Bool.false_ne_true
  | _ => cases y <;> exact absurd (show false = true from hs) Bool.false_ne_true
theorem op_ne : OpR X (compareOp .NotEq) rNe := by
  intro pins s σ H x y v u Q I rx ry h
  obtain ⟨hs, q⟩ := h
  cases x with
  | non =>
    cases rx
    cases y with
    | non => cases ry; exact PySem.EqNone.ne_none_none (fin_bl I q (by simp))
    | bl j => cases ry; exact PySem.EqNone.ne_none_bool (fin_bl I q (by simp))
    | int j => obtain ⟨t', rfl⟩ := ry; exact PySem.EqNone.ne_none_int (fin_bl I q (by simp))
    | str j => obtain ⟨t', rfl⟩ := ry; exact PySem.EqNone.ne_none_str (fin_bl I q (by simp))
    | _ => exact absurd (show false = true from hs) Bool.false_ne_true
  | bl i =>
    cases rx
    cases y with
    | non => cases ry; exact PySem.EqNone.ne_bool_none (fin_bl I q (by simp))
    | bl j => cases ry; exact ne_bool (fin_bl I q (congrArg not dec_bl))
    | str j => obtain ⟨t', rfl⟩ := ry; exact PySem.EqMixed.ne_bool_str (fin_bl I q (by simp))
    | _ => exact absurd (show false = true from hs) Bool.false_ne_true
  | int i =>
    obtain ⟨t, rfl⟩ := rx
    cases y with
    | non => cases ry; exact PySem.EqNone.ne_int_none (fin_bl I q (by simp))
    | int j => obtain ⟨t', rfl⟩ := ry; exact ne_int (fin_bl I q (congrArg not dec_int))
    | str j => obtain ⟨t', rfl⟩ := ry; exact PySem.EqMixed.ne_int_str (fin_bl I q (by simp))
    | _ => exact absurd (show false = true from hs) Bool.false_ne_true
  | str i =>
    obtain ⟨t, rfl⟩ := rx
    cases y with
    | non => cases ry; exact PySem.EqNone.ne_str_none (fin_bl I q (by simp))
    | bl j => cases ry; exact PySem.EqMixed.ne_str_bool (fin_bl I q (by simp))
    | int j => obtain ⟨t', rfl⟩ := ry; exact PySem.EqMixed.ne_str_int (fin_bl I q (by simp))
    | str j => obtain ⟨t', rfl⟩ := ry; exact ne_str (fin_bl I q (congrArg not dec_str))
    | _ => exact absurd (show false = true from hs) Bool.false_ne_true
  | byt i =>
    obtain ⟨t, rfl⟩ := rx
    cases y with
    | byt j => obtain ⟨t', rfl⟩ := ry; exact PySem.W.ne_bytes (fin_bl I q (congrArg not dec_byt))
    | _ => exact absurd (show false = true from hs) Bool.false_ne_true
  | _ => cases y <;> exact absurd (show false = true from hs) Bool.false_ne_true

theorem op_lt : OpR X (compareOp .Lt) (rI0 fun i j => .bl (decide (i < j))) := opB0 fun _ _ _ _ _ _ _ q => lt_int q
theorem op_le : OpR X (compareOp .LtE) (rI0 fun i j => .bl (decide (i ≤ j))) := opB0 fun _ _ _ _ _ _ _ q => le_int q
theorem op_gt : OpR X (compareOp .Gt) (rI0 fun i j => .bl (decide (j < i))) := opB0 fun _ _ _ _ _ _ _ q => gt_int q
theorem op_ge : OpR X (compareOp .GtE) (rI0 fun i j => .bl (decide (j ≤ i))) := opB0 fun _ _ _ _ _ _ _ q => ge_int q
theorem op_lt_str : OpR X (compareOp .Lt) (fun x y H Q => ∃ i j, x = .str i ∧ y = .str j ∧ Q (.bl (decide (i.cps.toList < j.cps.toList))) H) := by
  intro pins s σ H x y v u Q I rx ry h
  obtain ⟨i, j, rfl, rfl, q⟩ := h
  obtain ⟨t, rfl⟩ := rx
  obtain ⟨t', rfl⟩ := ry
  exact lt_str (fin_bl I q rfl)
theorem op_in_str : OpR X (compareOp .In) (fun x y H Q => ∃ i j, x = .str i ∧ y = .str j ∧ Q (.bl (!(Builtin.Str.occurrences j i 0 j.length 1).isEmpty)) H) := by
  intro pins s σ H x y v u Q I rx ry h
  obtain ⟨i, j, rfl, rfl, q⟩ := h
  obtain ⟨t, rfl⟩ := rx
  obtain ⟨t', rfl⟩ := ry
  exact in_str (fin_bl I q rfl)

theorem op_isN : OpR X (compareOp .Is) (fun x y H Q => y = .non ∧ Q (.bl (decide (x = .non))) H) := by
  intro pins s σ H x y v u Q I rx ry h
  obtain ⟨rfl, q⟩ := h
  cases ry
  refine is_none_gen (fin_bl I q ?_)
  cases x <;> first
    | (cases rx; rfl)
    | (obtain ⟨t, rfl⟩ := rx; rfl)
theorem op_notin_str : OpR X (compareOp .NotIn) (fun x y H Q => ∃ i j, x = .str i ∧ y = .str j ∧ Q (.bl (!(!(Builtin.Str.occurrences j i 0 j.length 1).isEmpty))) H) := by
  intro pins s σ H x y v u Q I rx ry h
  obtain ⟨i, j, rfl, rfl, q⟩ := h
  obtain ⟨t, rfl⟩ := rx
  obtain ⟨t', rfl⟩ := ry
  exact notIn_str (fin_bl I q rfl)
theorem nomark (b : Expr) {op : CmpOp} (h : op ≠ .In := by decide) (h2 : op ≠ .NotIn := by decide) : behindInMarks op b = false := by
  have e1 : (op == CmpOp.In) = false := by cases op <;> first | rfl | exact absurd rfl h
  have e2 : (op == CmpOp.NotIn) = false := by cases op <;> first | rfl | exact absurd rfl h2
  cases b <;> simp [behindInMarks, e1, e2]
theorem pe_cmpR {op : CmpOp} {r : R2} (ho : OpR X (compareOp op) r) (ha : PE X a ta) (hb : PE X b tb) (hm : behindInMarks op b = false) : PE X (.Compare a [op] [b] pos) (tOp r ta tb) := by
  intro pins s σ H Q I h
  exact wpAny_Compare1 (binT ha hb I h fun v u s2 x y H2 I2 rx ry q => ho pins s2 σ H2 x y v u Q I2 rx ry q) hm
def tTest (t : TE) : TT := fun σ H Q => t σ H fun x H' => ∃ k, x = .bl k ∧ Q k H'
theorem pt_cmpR {op : CmpOp} {r : R2} (ho : OpR X (compareOp op) r) (ha : PE X a ta) (hb : PE X b tb) (hm : behindInMarks op b = false) : PT X (.Compare a [op] [b] pos) (tTest (tOp r ta tb)) := by
  intro pins s σ H Q I h
  refine wpAny_isTrue_Compare1 (thn (ha pins s σ H _ I h) fun v s1 ⟨x, H1, I1, r1, q1⟩ => thn (hb pins s1 σ H1 _ I1 q1) fun u s2 ⟨y, H2, I2, r2, q2⟩ =>
    thn (ho pins s2 σ H2 x y v u _ I2 r1 r2 q2) fun c s3 ⟨z, H3, I3, r3, k, e, q3⟩ => ?_) hm
  subst e
  cases r3
  exact wpAny_truthy_bool ⟨H3, I3, q3⟩
def tChain (r r' : R2) (ta tb tc : TE) : TE := fun σ H Q => ta σ H fun x H1 => tb σ H1 fun y H2 => r x y H2 fun z H3 => ∃ k, z = .bl k ∧
  (if k = true then tc σ H3 fun w' H4 => r' y w' H4 Q else Q (.bl false) H3)
theorem pe_chain {op op' : CmpOp} {r r' : R2} (ho : OpR X (compareOp op) r) (ho' : OpR X (compareOp op') r') (ha : PE X a ta) (hb : PE X b tb) (hc : PE X c tc)
    (hm : lastMarks [op, op'] [b, c] = false := by with_unfolding_all rfl) : PE X (.Compare a [op, op'] [b, c] pos) (tChain r r' ta tb tc) := by
  intro pins s σ H Q I h
  refine Compare_chain (thn (ha pins s σ H _ I h) fun v s1 ⟨x, H1, I1, r1, q1⟩ => chain_link (thn (hb pins s1 σ H1 _ I1 q1) fun u s2 ⟨y, H2, I2, r2, q2⟩ =>
    thn (ho pins s2 σ H2 x y v u _ I2 r1 r2 q2) fun d s3 ⟨z, H3, I3, r3, k, e, q3⟩ => ?_)) hm
  subst e
  cases r3
  refine wpAny_truthy_bool ?_
  cases k with
  | false => exact ite_ff ⟨.bl false, H3, I3, rfl, q3⟩
  | true => exact ite_tt (chain_last (thn (hc pins s3 σ H3 _ I3 q3) fun w' s4 ⟨z', H4, I4, r4, q4⟩ => ho' pins s4 σ H4 y z' u w' Q I4 r2 r4 q4))
theorem pt_chain {op op' : CmpOp} {r r' : R2} (ho : OpR X (compareOp op) r) (ho' : OpR X (compareOp op') r') (ha : PE X a ta) (hb : PE X b tb) (hc : PE X c tc)
    (hm : lastMarks [op, op'] [b, c] = false := by with_unfolding_all rfl) : PT X (.Compare a [op, op'] [b, c] pos) (tTest (tChain r r' ta tb tc)) := by
  intro pins s σ H Q I h
  refine isTrue_chain (thn (ha pins s σ H _ I h) fun v s1 ⟨x, H1, I1, r1, q1⟩ => test_link (thn (hb pins s1 σ H1 _ I1 q1) fun u s2 ⟨y, H2, I2, r2, q2⟩ =>
    thn (ho pins s2 σ H2 x y v u _ I2 r1 r2 q2) fun d s3 ⟨z, H3, I3, r3, k, e, q3⟩ => ?_)) hm
  subst e
  cases r3
  refine wpAny_truthy_bool ?_
  cases k with
  | false =>
    obtain ⟨k', e', q'⟩ := q3
    cases e'
    exact ite_ff ⟨H3, I3, q'⟩
  | true =>
    refine ite_tt (test_last (thn (hc pins s3 σ H3 _ I3 q3) fun w' s4 ⟨z', H4, I4, r4, q4⟩ => thn (ho' pins s4 σ H4 y z' u w' _ I4 r2 r4 q4) fun d' s5 ⟨z2, H5, I5, r5, k2, e2, q5⟩ => ?_))
    subst e2
    cases r5
    exact wpAny_truthy_bool ⟨H5, I5, q5⟩

def TruV (K : PySem.W.Frag) (x : V) (H : Hp) (k : Bool) : Prop :=
  match x with
  | .non => k = false
  | .bl b => k = b
  | .int i => k = (i != 0)
  | .str y => y.length ≤ sizeLine ∧ k = ((y.length : Int) != 0)
  | .byt y => y.size ≤ sizeLine ∧ k = ((y.size : Int) != 0)
  | .ref p => (∃ xs, SqL K H p xs ∧ k = !xs.isEmpty) ∨ (∃ xs, SqT K H p xs ∧ k = !xs.isEmpty) ∨ ∃ kvs, H p = some (.dK kvs) ∧ k = !kvs.isEmpty
  | _ => False
theorem isEmpty_kv {κ : Type} {kvs : List (κ × V)} {vs : List (κ × Value)} (r : KV kvs vs) : (!vs.isEmpty) = !kvs.isEmpty := by
  cases r <;> rfl
theorem isEmpty_of {xs : List V} {its : List Value} (r : Vals xs its) : (!its.toArray.isEmpty) = !xs.isEmpty := by
  cases r <;> simp
theorem line63 : (sizeLine : Nat) < 2 ^ 63 := by rw [sizeLine_eq]; decide
theorem tru_ok : TruR X (fun x H Q => ∃ k, TruV X.K x H k ∧ Q k H) := by
  intro pins s σ H x v Q I rx h
  obtain ⟨k, e, q⟩ := h
  have hl := line63
  have hs : sizeLine = 16777216 := sizeLine_eq
  cases x with
  | non =>
    cases rx
    have e' : k = false := e
    subst e'
    exact truthy_none ⟨H, I, q⟩
  | bl b =>
    cases rx
    have e' : k = b := e
    subst e'
    exact wpAny_truthy_bool ⟨H, I, q⟩
  | int i =>
    obtain ⟨t, rfl⟩ := rx
    have e' : k = (i != 0) := e
    subst e'
    exact PySem.P.truthy_int ⟨H, I, q⟩
  | str y =>
    obtain ⟨t, rfl⟩ := rx
    obtain ⟨hy, e'⟩ : y.length ≤ sizeLine ∧ k = ((y.length : Int) != 0) := e
    subst e'
    exact PySem.P.truthy_str (by omega) ⟨H, I.tok _, q⟩
  | byt y =>
    obtain ⟨t, rfl⟩ := rx
    obtain ⟨hy, e'⟩ : y.size ≤ sizeLine ∧ k = ((y.size : Int) != 0) := e
    subst e'
    exact PySem.W.truthy_bytes (by omega) ⟨H, I.tok _, q⟩
  | ref p =>
    cases rx
    have e' : (∃ xs, SqL X.K H p xs ∧ k = !xs.isEmpty) ∨ (∃ xs, SqT X.K H p xs ∧ k = !xs.isEmpty) ∨ ∃ kvs, H p = some (.dK kvs) ∧ k = !kvs.isEmpty := e
    rcases e' with ⟨xs, hx, e'⟩ | ⟨xs, hx, e'⟩ | ⟨kvs, hx, e'⟩
    · subst e'
      obtain ⟨its, r, pl, hz⟩ := I.list hx
      have hlen := r.length
      exact wpAny_truthy_list pl.isList (by simp only [List.size_toArray]; omega) ⟨H, I.tok _, by rw [isEmpty_of r]; exact q⟩
    · subst e'
      obtain ⟨its, r, pl, hz⟩ := I.tuple hx
      have hlen := r.length
      exact truthy_tuple pl (by simp only [List.size_toArray]; omega) ⟨H, I.tok _, by rw [isEmpty_of r]; exact q⟩
    · subst e'
      obtain ⟨hz, hS, vs, r, m⟩ : kvs.length ≤ sizeLine ∧ (p == sysModules) = false ∧ ∃ vs, KV kvs vs ∧ s.heap.DictOf (mixKind X.prog X.w) p vs := I.hok p _ hx
      have hlen : kvs.length = vs.length := Paired.length r
      exact wpAny_truthy_dict hS m (by omega) ⟨H, I.tok _, by rw [isEmpty_kv r]; exact q⟩
  | _ => exact (show False from e).elim
theorem pt_truth (ha : PE X a ta) (he : ∀ whole, isTrue a X.env whole = (do let v ← whole; standAt a.pos; holding [v] (truthy v))) :
    PT X a (fun σ H Q => ta σ H fun x H' => ∃ k, TruV X.K x H' k ∧ Q k H') := by
  intro pins s σ H Q I h
  exact isTrue_plain (thn (ha pins s σ H _ I h) fun v s1 ⟨x, H1, I1, r1, q1⟩ => tru_ok pins s1 σ H1 x v Q I1 r1 q1) (he _)

theorem op_add_str : OpR X (binaryOp .Add) (fun x y H Q => ∃ i j, x = .str i ∧ y = .str j ∧ i.length + j.length ≤ sizeLine ∧ Q (.str (i ++ j)) H) := by
  intro pins s σ H x y v u Q I rx ry h
  obtain ⟨i, j, rfl, rfl, hz, q⟩ := h
  obtain ⟨t, rfl⟩ := rx
  obtain ⟨t', rfl⟩ := ry
  exact add_str (fun t' tk => ⟨.str (i ++ j), H, I.tok _, ⟨_, rfl⟩, q⟩) hz
theorem iop_add_str : OpR X (inplaceOp .Add) (fun x y H Q => ∃ i j, x = .str i ∧ y = .str j ∧ i.length + j.length ≤ sizeLine ∧ Q (.str (i ++ j)) H) := by
  intro pins s σ H x y v u Q I rx ry h
  obtain ⟨i, j, rfl, rfl, hz, q⟩ := h
  obtain ⟨t, rfl⟩ := rx
  obtain ⟨t', rfl⟩ := ry
  exact iadd_str (fun t' tk => ⟨.str (i ++ j), H, I.tok _, ⟨_, rfl⟩, q⟩) hz
theorem vals1 {x : V} {us : List Value} (r : Vals [x] us) : ∃ u, us = [u] ∧ RelV x u := by
  cases r with
  | cons r1 r2 => cases r2; exact ⟨_, rfl, r1⟩
theorem vals2 {x y : V} {us : List Value} (r : Vals [x, y] us) : ∃ u w', us = [u, w'] ∧ RelV x u ∧ RelV y w' := by
  cases r with
  | cons r1 r2 =>
    cases r2 with
    | cons r3 r4 => cases r4; exact ⟨_, _, rfl, r1, r3⟩
theorem call_int1 : CallR X (.type "int") (fun xs H Q => (∃ i, xs = [.int i] ∧ Q (.int i) H) ∨ ∃ k, xs = [.bl k] ∧ Q (.int (if k then 1 else 0)) H) := by
  intro pins s σ H xs us Q I r h
  rcases h with ⟨i, rfl, q⟩ | ⟨k, rfl, q⟩
  · obtain ⟨u, rfl, t, rfl⟩ := vals1 r
    exact call_int_int ⟨.int i, H, I, ⟨_, rfl⟩, q⟩
  · obtain ⟨u, rfl, r1⟩ := vals1 r
    cases r1
    exact call_int_bool ⟨.int (if k then 1 else 0), H, I.tok _, ⟨_, rfl⟩, q⟩
theorem call_ord : CallR X (.builtin "ord") (fun xs H Q => ∃ x, xs = [.str x] ∧ x.length = 1 ∧ Q (.int (x.cps.getD 0 0 : Nat)) H) := by
  intro pins s σ H xs us Q I r h
  obtain ⟨x, rfl, hz, q⟩ := h
  obtain ⟨u, rfl, t, rfl⟩ := vals1 r
  exact ord_of_one hz ⟨.int _, H, I.tok _, ⟨_, rfl⟩, q⟩
end
end L2

namespace L2
open PySem PySem.Spec PyProof.Rows

structure ObjM (h : Heap) (x dx C : Addr) (mA : Str → Option Value) : Prop where
  obj : h.get? x = some (PySem.W.instObj C dx)
  ns : h.Ns1 dx mA
  ne : dx ≠ x

theorem lookIn_ns {h : Heap} {dx : Addr} {mA : Str → Option Value} (n : h.Ns1 dx mA) : ∃ od, h.get? dx = some od ∧ ∀ name, PySem.W.lookIn name od = some (mA name) := by
  obtain ⟨o, es, ep, ho, hd, hk, _, hm⟩ := n
  refine ⟨o, ho, fun name => ?_⟩
  have e := hm name
  unfold nsFind findBy at e
  rw [← Array.find?_toList] at e
  unfold PySem.W.lookIn
  rw [hd]
  dsimp only
  split
  · rename_i y q
    rw [q] at e
    exact congrArg some e
  · rename_i q
    rw [q] at e
    have a : es.toList.any (·.refKey) = false := by
      rw [List.any_eq_false]
      intro y hy
      obtain ⟨z, t, hkey⟩ := hk y (Array.mem_toList_iff.mp hy)
      simp [DictEntry.refKey, hkey]
    have a' : ¬ es.toList.any (·.refKey) = true := by rw [a]; exact Bool.false_ne_true
    rw [if_neg a']
    exact congrArg some e

theorem ObjM.look {h : Heap} {x dx C : Addr} {mA : Str → Option Value} (I : ObjM h x dx C mA) : ∃ od, PySem.W.InstAt h x (PySem.W.instObj C dx) C (some od) ∧ ∀ name, PySem.W.lookIn name od = some (mA name) :=
  let ⟨od, ho, hl⟩ := lookIn_ns I.ns
  ⟨od, ⟨I.obj, rfl, rfl, ho⟩, hl⟩

section
variable {prog : Program} {w : World} {A : Around} {E : Value → Shared → Prop} {s : Shared} {K : PySem.W.Frag} {x dx C f : Addr} {mA : Str → Option Value} {name : Str} {v : Value}

end

theorem RelO.some_of {v : V} {o : Option Value} (r : RelO (some v) o) : ∃ u, o = some u ∧ RelV v u := by
  cases o with
  | none => exact (show False from r).elim
  | some u => exact ⟨u, rfl, r⟩
section
variable {P : Program} {w : World} {H H' : Hp} {h h' : Heap} {a C dx : Addr} {fs fs' : List (Str × V)}
theorem ins_get (hok : HOk P w H h) (e : H a = some (.ins C dx fs)) : ∃ mA, ObjM h a dx C mA ∧ (∀ f, RelO (fs.lookup f) (mA f)) ∧ PySem.Within mA (fs.map (·.1)) ∧ fs.length ≤ 1000 ∧ H dx = some (.own a) := by
  obtain ⟨d, z, ne, ob, mA, n, r, q⟩ := (show ObjOk P w H h a (.ins C dx fs) from hok a _ e)
  exact ⟨mA, ⟨ob, n, ne⟩, r, q, z, d⟩
end

structure Cls (K : PySem.W.Frag) (C : Addr) : Prop where
  pg : PySem.W.plainGet K C Str.empty = true
  hd : PySem.W.hasDictIn K C = true
  po : PySem.W.plainOver K C = true
  sa : PySem.W.findIn K (.ref C) "__setattr__" = some (some (.builtin "object.__setattr__"))
theorem Cls.get {K : PySem.W.Frag} {C : Addr} (c : Cls K C) (f : Str) : PySem.W.plainGet K C f = true := c.pg
structure Con (K : PySem.W.Frag) (C : Addr) (f : Str) (v : V) (u : Value) : Prop where
  at_ : PySem.W.findIn K (.ref C) f = some (some u)
  rel : RelV v u
  get : PySem.W.specialIn K u "__get__" = some none
  cp : PySem.W.copiedNames.contains f = false
structure Meth (K : PySem.W.Frag) (C : Addr) (m : Str) (f : Addr) : Prop where
  at_ : PySem.W.findIn K (.ref C) m = some (some (.ref f))
  fn : PySem.W.isFn K (.ref f) = true
  kp : PySem.W.keepIn K (.ref f) = true

section
variable {X : Cx} {pins : List (Addr × Obj)} {σ : St} {H : Hp} {s : Shared} {a C dx : Addr} {fs : List (Str × V)} {f : Str} {v : V} {A : Around} {E : Value → Shared → Prop}

end

section
variable {X : Cx} {o e value : Expr} {f : Str} {pos pos' tpos : Pos} {ta tv : TE}
end

section
variable {X : Cx} {pins : List (Addr × Obj)} {σ : St} {H : Hp} {s : Shared} {A : Around} {E : Value → Shared → Prop} {Q : Value → Shared → Prop} {c : Value} {b : Bool}
inductive TyOf (K : PySem.W.Frag) (H : Hp) : V → Value → Prop where
  | non : TyOf K H .non (.type "NoneType")
  | bl (x : Bool) : TyOf K H (.bl x) (.type "bool")
  | int (i : Int) : TyOf K H (.int i) (.type "int")
  | str (x : Str) : TyOf K H (.str x) (.type "str")
  | flt (x : UInt64) : TyOf K H (.flt x) (.type "float")
  | lst {a : Addr} {xs : List V} (e : H a = some (.lst xs)) : TyOf K H (.ref a) (.type "list")
  | frz {a : Addr} {o : Obj} {xs : List V} (e : H a = some (.frz o (.lst xs))) : TyOf K H (.ref a) (.type "list")
  | tup {a : Addr} {xs : List V} (e : H a = some (.tup xs)) : TyOf K H (.ref a) (.type "tuple")
  | dK {a : Addr} {kvs : List (Key × V)} (e : H a = some (.dK kvs)) : TyOf K H (.ref a) (.type "dict")
  | dT {a : Addr} {kvs : List (List Key × V)} (e : H a = some (.dT kvs)) : TyOf K H (.ref a) (.type "dict")
  | ins {a C dx : Addr} {fs : List (Str × V)} (e : H a = some (.ins C dx fs)) (cl : Cls K C) (ha : PySem.W.findIn K (.ref C) "__class__" = some (some (.builtin "object.__class__")))
      (hn : PySem.W.specialIn K (.builtin "object.__class__") "__get__" = some (some (.builtin "getset_descriptor.__get__"))) (htk : PySem.W.takesIn K (.builtin "object.__class__") = some true)
      (hm : PySem.W.mroIn K C (.type "object") = some true) : TyOf K H (.ref a) (.ref C)
theorem isinst_ok {x : V} {u t : Value} (I : Inv X pins σ H s) (rx : RelV x u) (ty : TyOf X.K H x t) (e : PySem.W.kitOne X.K t c = some b) (h : ∀ tk, Q (.bool b) { s with toks := tk }) :
    wpAny (model X.prog X.w) A (call (.builtin "isinstance") [u, c]) Q E s := by
  cases ty with
  | non => cases (show u = Value.none from rx); exact PySem.W.kia_one PySem.W.kitx_none I.kIn True.intro e (fun z => nomatch z) h
  | bl y => cases (show u = Value.bool y from rx); exact PySem.W.kia_one PySem.W.kitx_bool I.kIn True.intro e (fun z => nomatch z) h
  | int i => obtain ⟨t, q⟩ := (show ∃ t, u = Value.int i t from rx); cases q; exact PySem.W.kia_one PySem.W.kitx_int I.kIn True.intro e (fun z => nomatch z) h
  | str y => obtain ⟨t, q⟩ := (show ∃ t, u = Value.str y t from rx); cases q; exact PySem.W.kia_one PySem.W.kitx_str I.kIn True.intro e (fun z => nomatch z) h
  | flt y => obtain ⟨t, q⟩ := (show ∃ t, u = Value.float y t from rx); cases q; exact PySem.W.kia_one PySem.W.kitx_float I.kIn True.intro e (fun z => nomatch z) h
  | @lst a xs ea =>
    cases (show u = Value.ref a from rx)
    obtain ⟨_, _, n, _, h1⟩ := (show ObjOk X.prog X.w H s.heap a (.lst xs) from I.hok a _ ea)
    exact PySem.W.kia_one PySem.W.kitx_list I.kIn ⟨_, h1, rfl⟩ e (fun z => nomatch z) h
  | @frz a ob xs ea =>
    cases (show u = Value.ref a from rx)
    obtain ⟨_, _, _, n, _, h1⟩ := (show ObjOk X.prog X.w H s.heap a (.frz ob (.lst xs)) from I.hok a _ ea)
    exact PySem.W.kia_one PySem.W.kitx_list I.kIn ⟨_, h1, rfl⟩ e (fun z => nomatch z) h
  | @tup a xs ea =>
    cases (show u = Value.ref a from rx)
    obtain ⟨_, _, _, p⟩ := (show ObjOk X.prog X.w H s.heap a (.tup xs) from I.hok a _ ea)
    obtain ⟨o, h1, h2, _⟩ := p
    exact PySem.W.kia_one PySem.W.kitx_tuple I.kIn ⟨o, h1, h2⟩ e (fun z => nomatch z) h
  | @dK a kvs ea =>
    cases (show u = Value.ref a from rx)
    obtain ⟨_, _, vs, _, p⟩ := (show ObjOk X.prog X.w H s.heap a (.dK kvs) from I.hok a _ ea)
    obtain ⟨o, es, ep, h1, h2, _⟩ := p
    exact PySem.W.kia_one PySem.W.kitx_dict I.kIn ⟨o, h1, h2.1⟩ e (fun z => nomatch z) h
  | @dT a kvs ea =>
    cases (show u = Value.ref a from rx)
    obtain ⟨_, _, xs, _, o, es, ep, h1, h2, _⟩ := (show ObjOk X.prog X.w H s.heap a (.dT kvs) from I.hok a _ ea)
    exact PySem.W.kia_one PySem.W.kitx_dict I.kIn ⟨o, h1, h2.1⟩ e (fun z => nomatch z) h
  | @ins a C dx fs ea cl ha hn htk hm =>
    cases (show u = Value.ref a from rx)
    obtain ⟨mA, O, _⟩ := ins_get I.hok ea
    obtain ⟨od, J, _⟩ := O.look
    exact PySem.W.kia_one (PySem.W.kitx_own (cl.get _) cl.hd ha hn htk hm) I.kIn J e (fun z => nomatch z) h
end
end L2

namespace L2
open PySem PySem.Spec PyProof.Rows

structure Room (k : Nat) (A : Around) : Prop where
  hd : A.handled = none
  dp : A.depth + 3 * k + 5 < recursionLimit
  un : A.units + 16 * k + 200 < cLine
theorem Room.mono {j k : Nat} {A : Around} (r : Room k A) (h : j ≤ k) : Room j A := ⟨r.hd, by have := r.dp; omega, by have := r.un; omega⟩
theorem Room.deeper {k : Nat} {A : Around} (r : Room (k + 1) A) (env : Env) : Room k (A.deeper env) :=
  ⟨r.hd, by have := r.dp; show A.depth + 1 + 3 * k + 5 < _; omega, by have := r.un; show A.units + 3 + 16 * k + 200 < _; omega⟩
theorem Room.in1 {k : Nat} {A : Around} (r : Room (k + 1) A) : Room k A.in1 :=
  ⟨r.hd, by have := r.dp; show A.depth + 3 * k + 5 < _; omega, by have := r.un; show A.units + 1 + 16 * k + 200 < _; omega⟩
theorem Room.depth {k : Nat} {A : Around} (r : Room k A) : A.depth < recursionLimit := by have := r.dp; omega
theorem Room.units {k : Nat} {A : Around} (r : Room k A) : A.units + 64 < cLine := by have := r.un; omega
def tNil : TA := fun _ H Q => Q [] H
def tCons (ta : TE) (tr : TA) : TA := fun σ H Q => ta σ H fun x H1 => tr σ H1 fun xs H2 => Q (x :: xs) H2
section
variable {X : Cx} {e : Expr} {es : List Expr} {te : TE} {t : TA} {pos : Pos}
theorem pa_nil : PA X [] tNil := fun _ _ _ _ H Q I h => Calls.spliced_nil ⟨[], H, I, .nil, h⟩
theorem pa_cons (ha : PE X e te) (hr : PA X es t) (hs : starEach (e :: es) X.env = (false, eval e X.env) :: starEach es X.env := by rfl) : PA X (e :: es) (tCons te t) := by
  intro pos pins s σ H Q I h
  rw [hs]
  show wpAny _ _ (spliced ((false, eval e X.env) :: backTo pos (starEach es X.env))) _ _ s
  refine Calls.spliced_cons (thn (ha pins s σ H _ I h) fun u s1 ⟨x, H1, I1, r1, q1⟩ => ?_)
  exact thn (hr pos pins s1 σ H1 _ I1 q1) fun us s2 ⟨xs, H2, I2, r2, q2⟩ => ⟨x :: xs, H2, I2, .cons r1 r2, q2⟩

def tTup (t : TA) : TE := fun σ H Q => t σ H fun xs H1 => xs.length ≤ sizeLine ∧ ∀ p, H1 p = none → Q (.ref p) (upd H1 p (.tup xs))
def tLst (t : TA) : TE := fun σ H Q => t σ H fun xs H1 => xs.length ≤ sizeLine ∧ ∀ p, H1 p = none → Q (.ref p) (upd H1 p (.lst xs))
theorem pe_tup {x1} (h : PA X es t) : PE X (.Tuple es x1 pos) (tTup t) := by
  intro pins s σ H Q I hq
  refine wpAny_Tuple_spliced (thn (h pos pins s σ H _ I hq) fun us s1 ⟨xs, H1, I1, r, z, q⟩ => ⟨by rw [← r.length]; exact z, ?_⟩)
  have hf : H1 s1.heap.objs.size = none := I1.hok.fresh (Nat.le_refl _)
  refine ⟨.ref s1.heap.objs.size, upd H1 s1.heap.objs.size (.tup xs), I1.laid (t' := s1.toks) (fun b u e => Heap.get?_push_of_some _ e) (Nat.le_refl _) ?_, rfl, q _ hf⟩
  exact ⟨z, us, r, ⟨_, Heap.get?_push_size _ rfl, rfl, _, rfl⟩⟩
theorem pe_lst (h : PA X es t) : PE X (.List es pos) (tLst t) := by
  intro pins s σ H Q I hq
  refine wpAny_List_spliced (thn (h pos pins s σ H _ I hq) fun us s1 ⟨xs, H1, I1, r, z, q⟩ => ⟨by rw [← r.length]; exact z, ?_⟩)
  have hf : H1 s1.heap.objs.size = none := I1.hok.fresh (Nat.le_refl _)
  refine ⟨.ref s1.heap.objs.size, upd H1 s1.heap.objs.size (.lst xs), I1.laid (t' := s1.toks) (fun b u e => Heap.get?_push_of_some _ e) (Nat.le_refl _) ?_, rfl, q _ hf⟩
  exact ⟨z, us, 0, r, Heap.get?_push_size _ rfl⟩
end

abbrev Sp := List V → Hp → VK → XK → Prop
abbrev CXT := List Env → Hp → Shared → XK → Value → Shared → Prop

structure Env0 (P : Program) (w : World) (K : PySem.W.Frag) (mg : Str → Option Value) (base : Heap) (A : Around) (outer : List Env) (s : Shared) (H : Hp) : Prop where
  frames : A.frames = some outer
  mod : Mod K mg base
  bs : ∀ b o, base.get? b = some o → s.heap.get? b = some o ∧ H b = none
  bsz : base.objs.size ≤ s.heap.objs.size
  funs : s.heap.FunFrames base outer
  frf : ∀ b ∈ frs outer, H b = none
  hok : HOk P w H s.heap
  bare : AllBare s.gens
def CE (outer : List Env) (P : Program) (w : World) (H : Hp) (s : Shared) (Q : VK) (u : Value) (s' : Shared) : Prop :=
  ∃ v H', s'.os = s.os ∧ AllBare s'.gens ∧ Un (frs outer) [] H H' s.heap s'.heap ∧ HOk P w H' s'.heap ∧ RelV v u ∧ Q v H'
def CR (CX : CXT) (outer : List Env) (P : Program) (w : World) (H : Hp) (s : Shared) (Q : VK) (E : XK) (r : Result) (s' : Shared) : Prop :=
  match r with
  | .ok (.ret u) => CE outer P w H s Q u s'
  | .ok _ => False
  | .error e => CX outer H s E e s'
structure FnOk (P : Program) (w : World) (K : PySem.W.Frag) (mg : Str → Option Value) (base : Heap) (CX : CXT) (k : Nat) (f : Addr) (fd : FuncData) (ps : List Str) (sp : Sp) : Prop where
  len : ∀ vs H Q E, sp vs H Q E → vs.length = ps.length
  run : ∀ (A : Around) (outer : List Env) (s : Shared) (H : Hp) (args : Args) (us : List Value) (vs : List V) (Q : VK) (E : XK), Room k A → Env0 P w K mg base A outer s H → BindsTo s fd args (ps.zip us) → Vals vs us → sp vs H Q E →
    codeAny (model P w) A (.call (.ref f) args) (CR CX outer P w H s Q E) s
theorem FnOk.mono {P : Program} {w : World} {K : PySem.W.Frag} {mg : Str → Option Value} {base : Heap} {CX : CXT} {j k : Nat} {f : Addr} {fd : FuncData} {ps : List Str} {sp : Sp} (F : FnOk P w K mg base CX j f fd ps sp) (h : j ≤ k) :
    FnOk P w K mg base CX k f fd ps sp := ⟨F.len, fun A outer s H args us vs Q E hr => F.run A outer s H args us vs Q E (hr.mono h)⟩
theorem Env0.in1 {P : Program} {w : World} {K : PySem.W.Frag} {mg : Str → Option Value} {base : Heap} {A : Around} {outer : List Env} {s : Shared} {H : Hp} (e : Env0 P w K mg base A outer s H) :
    Env0 P w K mg base A.in1 outer s H := ⟨e.frames, e.mod, e.bs, e.bsz, e.funs, e.frf, e.hok, e.bare⟩

section
variable {X : Cx} {pins : List (Addr × Obj)} {σ : St} {H : Hp} {s s' : Shared}
theorem Inv.env0 (I : Inv X pins σ H s) : Env0 X.prog X.w X.K X.mg X.base X.A X.stack s H :=
  ⟨I.ok.frames, I.ok.mod, I.bs, Nat.le_trans I.ok.bsz I.sz, I.stack, I.stkFree, I.hok, I.bare⟩
theorem Inv.after {Q : VK} {u : Value} (I : Inv X pins σ H s) (h : CE X.stack X.prog X.w H s Q u s') : EP X pins σ Q u s' := by
  obtain ⟨v, H', os, bare, un, hok, r, q⟩ := h
  obtain ⟨hh, g, d, t, os'⟩ := s'
  obtain rfl : os' = s.os := os
  exact ⟨v, H', I.call (h' := hh) (g' := g) (d' := d) (t' := t) (ch := []) un hok bare (fun b z => absurd z (by simp)), r, q⟩
end

def tCall (sp : Sp) (dvs : List V) (E : XK) (t : TA) : TE := fun σ H Q => t σ H fun vs H1 => sp (vs ++ dvs) H1 Q E
def Binds (K : PySem.W.Frag) (fd : FuncData) (ps : List Str) (ds : List Value) : Prop :=
  ∀ (s : Shared) (us : List Value), K.In s.heap → (us ++ ds).length = ps.length → BindsTo s fd ⟨us, []⟩ (ps.zip (us ++ ds))
theorem Binds.all {K : PySem.W.Frag} {fd : FuncData} {ps : List Str} (h : ∀ us : List Value, us.length = ps.length → bindArgs fd ⟨us, []⟩ = pure (ps.zip us)) : Binds K fd ps [] := fun s us _ hl => by
  rw [List.append_nil] at hl ⊢
  exact .of_eq (h us hl)

def Passes (CX : CXT) (X : Cx) (E : XK) : Prop := ∀ (pins : List (Addr × Obj)) (σ : St) (H : Hp) (s : Shared) (e : Value) (s' : Shared), Inv X pins σ H s → CX X.stack H s E e s' → X.xe e s'

section
variable {X : Cx} {CX : CXT} {k : Nat} {f C : Addr} {fd : FuncData} {ps : List Str} {sp : Sp} {dvs : List V} {ds : List Value} {E : XK} {x m : Str} {p pos apos : Pos} {e o : Expr} {es : List Expr} {ta : TE} {t : TA}

theorem run_fn {pins : List (Addr × Obj)} {σ : St} {H : Hp} {s : Shared} {Q : VK} {us : List Value} {vs : List V} (F : FnOk X.prog X.w X.K X.mg X.base CX k f fd ps sp) (hr : Room k X.A) (hb : Binds X.K fd ps ds) (hd : Vals dvs ds) (hx : Passes CX X E)
    (I : Inv X pins σ H s) (r : Vals vs us) (h : sp (vs ++ dvs) H Q E) : wpAny (model X.prog X.w) X.A (call (.ref f) us) (EP X pins σ Q) X.xe s := by
  have r2 : Vals (vs ++ dvs) (us ++ ds) := r.append hd
  have hl : (us ++ ds).length = ps.length := by rw [← r2.length]; exact F.len _ _ _ _ h
  refine wpAny_call (codeAny_mono (F.run X.A X.stack s H ⟨us, []⟩ (us ++ ds) (vs ++ dvs) Q E hr I.env0 (hb s us I.kIn hl) r2 h) fun r s' hq => ?_)
  cases r with
  | error e => exact hx pins σ H s e s' I hq
  | ok fl =>
    cases fl with
    | ret u => exact I.after hq
    | next => exact False.elim hq
    | brk => exact False.elim hq
    | cont => exact False.elim hq

theorem pe_call (F : FnOk X.prog X.w X.K X.mg X.base CX k f fd ps sp) (hr : Room k X.A) (hg : Gl X x) (hm : X.mg x = some (.ref f)) (hk : PySem.W.keepIn X.K (.ref f) = true) (hb : Binds X.K fd ps ds) (hd : Vals dvs ds) (hx : Passes CX X E)
    (ha : PA X (e :: es) t) (hdb : (x == ("__debug__" : Str)) = false := by decide) (he : starEach (e :: es) X.env = (false, eval e X.env) :: starEach es X.env := by rfl) (hpl : (backTo pos (starEach es X.env)).any (·.1) = false := by rfl) :
    PE X (.Call (.Name x p) (e :: es) [] pos) (tCall sp dvs E t) := by
  intro pins s σ H Q I h
  refine wpAny_Call_Name_kw (ld_glob I hg hm ?_ hdb)
  refine PySem.W.callWith_K (h₀ := X.base) I.ok.mod.kin hk (thn (ha pos pins s σ H _ I h) fun us s1 ⟨vs, H1, I1, r, q⟩ => ⟨I1.kIn, ?_⟩) he hpl
  exact run_fn F hr hb hd hx I1 r q
theorem pe_call0 (F : FnOk X.prog X.w X.K X.mg X.base CX k f fd ps sp) (hr : Room k X.A) (hg : Gl X x) (hm : X.mg x = some (.ref f)) (hk : PySem.W.keepIn X.K (.ref f) = true) (hb : Binds X.K fd ps ds) (hd : Vals dvs ds) (hx : Passes CX X E)
    (hdb : (x == ("__debug__" : Str)) = false := by decide) : PE X (.Call (.Name x p) [] [] pos) (tCall sp dvs E tNil) := by
  intro pins s σ H Q I h
  refine wpAny_Call_Name_kw (ld_glob I hg hm ?_ hdb)
  exact PySem.W.callWith_K0 I.kIn hk (run_fn (us := []) F hr hb hd hx I .nil h)

structure Mk (K : PySem.W.Frag) (C f : Addr) : Prop where
  makes : PySem.W.makesIn K C = true
  init : PySem.W.findIn K (.ref C) "__init__" = some (some (.ref f))
  fn : PySem.W.isFn K (.ref f) = true
  kp : PySem.W.keepIn K (.ref C) = true

end

section
variable {X : Cx} {CX : CXT} {k : Nat} {f C : Addr} {fd : FuncData} {ps ks : List Str} {sp : Sp} {E : XK} {x m : Str} {p pos apos kpos : Pos} {e o : Expr} {es : List Expr} {kws : List Keyword} {te ta : TE} {t tk : TA} {nm : Option Str}
structure KBinds (K : PySem.W.Frag) (fd : FuncData) (ps ks : List Str) (g : List Value → List Value → List Value) (gV : List V → List V → List V) : Prop where
  to : ∀ (s : Shared) (us ws : List Value), K.In s.heap → (g us ws).length = ps.length → BindsTo s fd ⟨us, ks.zip ws⟩ (ps.zip (g us ws))
  rel : ∀ {vs : List V} {us : List Value} {zs : List V} {ws : List Value}, Vals vs us → Vals zs ws → Vals (gV vs zs) (g us ws)
variable {g : List Value → List Value → List Value} {gV : List V → List V → List V}
end

structure FnScope (N P : List Str) (sc : Scope) : Prop where
  kind : sc.kind = .function
  co : sc.isCoroutine = false
  gen : sc.isGenerator = false
  nd : N.Nodup
  pre : N.take P.length = P
  par : ∀ x ∈ P, sc.names.lookup x = some .local ∨ sc.names.lookup x = some .cell
  nofree : ∀ y ∈ sc.names, y.2 ≠ .free

theorem bindL_out {kindOf : Str → Option NameKind} {x : Str} : ∀ {binds : List (Str × Value)} {m : Str → Option Value}, (∀ v, (x, v) ∉ binds) → bindL kindOf binds m x = m x
  | [], _, _ => rfl
  | (n, v) :: r, m, h => by
    unfold bindL
    rw [bindL_out fun w hw => h w (List.mem_cons_of_mem _ hw)]
    split
    · have : x ≠ n := by rintro rfl; exact h v List.mem_cons_self
      simp [this]
    · rfl
theorem bindC_out {kindOf : Str → Option NameKind} {x : Str} : ∀ {binds : List (Str × Value)} {m : Str → Option Value}, (∀ v, (x, v) ∉ binds) → bindC kindOf binds m x = m x
  | [], _, _ => rfl
  | (n, v) :: r, m, h => by
    unfold bindC
    rw [bindC_out fun w hw => h w (List.mem_cons_of_mem _ hw)]
    split
    · rfl
    · have : x ≠ n := by rintro rfl; exact h v List.mem_cons_self
      simp [this]
theorem bindL_get {kindOf : Str → Option NameKind} {x : Str} {v : Value} : ∀ {P : List Str} {vs : List Value} {i : Nat} {m : Str → Option Value}, P.Nodup → P[i]? = some x → vs[i]? = some v → kindOf x = some .local →
    bindL kindOf (P.zip vs) m x = some v
  | [], _, _, _, _, h, _, _ => by simp at h
  | _ :: _, [], _, _, _, _, h, _ => by simp at h
  | p :: P, w :: vs, 0, m, nd, h1, h2, hk => by
    simp at h1 h2; subst h1; subst h2
    show bindL kindOf ((p, w) :: P.zip vs) m p = _
    unfold bindL
    rw [bindL_out fun v hv => (List.nodup_cons.mp nd).1 (List.of_mem_zip hv).1, if_pos hk]
    simp
  | p :: P, w :: vs, i + 1, m, nd, h1, h2, hk => by
    show bindL kindOf ((p, w) :: P.zip vs) m x = _
    unfold bindL
    exact bindL_get (i := i) (List.nodup_cons.mp nd).2 (by simpa using h1) (by simpa using h2) hk
theorem bindC_get {kindOf : Str → Option NameKind} {x : Str} {v : Value} : ∀ {P : List Str} {vs : List Value} {i : Nat} {m : Str → Option Value}, P.Nodup → P[i]? = some x → vs[i]? = some v → kindOf x ≠ some .local →
    bindC kindOf (P.zip vs) m x = some v
  | [], _, _, _, _, h, _, _ => by simp at h
  | _ :: _, [], _, _, _, _, h, _ => by simp at h
  | p :: P, w :: vs, 0, m, nd, h1, h2, hk => by
    simp at h1 h2; subst h1; subst h2
    show bindC kindOf ((p, w) :: P.zip vs) m p = _
    unfold bindC
    rw [bindC_out fun v hv => (List.nodup_cons.mp nd).1 (List.of_mem_zip hv).1, if_neg hk]
    simp
  | p :: P, w :: vs, i + 1, m, nd, h1, h2, hk => by
    show bindC kindOf ((p, w) :: P.zip vs) m x = _
    unfold bindC
    exact bindC_get (i := i) (List.nodup_cons.mp nd).2 (by simpa using h1) (by simpa using h2) hk

def start (N : List Str) (vs : List V) : St := vs.map some ++ List.replicate (N.length - vs.length) none

def cxOf (CX : CXT) (P : Program) (w : World) (K : PySem.W.Frag) (mg : Str → Option Value) (base : Heap) (N : List Str) (qual : Str) (scope : Scope) (f : Addr) (cd : Value) (A : Around) (outer : List Env) (s : Shared) (H : Hp) (E : XK) : Cx where
  prog := P
  w := w
  K := K
  mg := mg
  base := base
  A := A.deeper (envOfC qual scope s.heap.objs.size f cd)
  N := N
  s₀ := s
  H₀ := H
  env := envOfC qual scope s.heap.objs.size f cd
  outer := outer
  stack := envOfC qual scope s.heap.objs.size f cd :: outer
  ex := []
  calm := true
  fn := fun _ => true
  pn := []
  xe := fun e s' => wpAny (model P w) (A.deeper (envOfC qual scope s.heap.objs.size f cd)) (leaving (envOfC qual scope s.heap.objs.size f cd) e) (fun _ s'' => CX outer H s E e s'') (fun e' s'' => CX outer H s E e' s'') s'

theorem cell_has {sc : Scope} {n : Nat} {x : Str} (h : sc.names.lookup x = some .cell) : ∃ c, (cellsFrom n sc.names []).lookup x = some c := by
  have q := PySem.W.cellsFrom_some sc.names n [] (.inl h)
  exact Option.isSome_iff_exists.mp q

theorem inv_start {CX : CXT} {P : Program} {w : World} {K : PySem.W.Frag} {mg : Str → Option Value} {base : Heap} {N ps : List Str} {qual : Str} {scope : Scope} {f : Addr} {cd : Value} {A : Around} {outer : List Env} {s s1 : Shared} {H : Hp} {E : XK} {us : List Value} {vs : List V}
    (S : FnScope N ps scope) (hd : A.handled = none) (e0 : Env0 P w K mg base A outer s H) (hl : vs.length = ps.length) (r : Vals vs us)
    (x : InCallC s s.heap.objs.size (bindL (envOfC qual scope s.heap.objs.size f cd).kindOf (ps.zip us) fun _ => none) (cellsFrom (s.heap.objs.size + 1) scope.names []) (bindC (envOfC qual scope s.heap.objs.size f cd).kindOf (ps.zip us) fun _ => none) s1) :
    Inv (cxOf CX P w K mg base N qual scope f cd A outer s H E) [] (start N vs) H s1 := by
  have hpl : ps.length ≤ N.length := by have := congrArg List.length S.pre; rw [List.length_take] at this; omega
  obtain ⟨h1, tk, rfl, hk⟩ := x.done
  have noA : ∀ b : Addr, b ∉ (cxOf CX P w K mg base N qual scope f cd A outer s H E).ex := fun b z => absurd (show b ∈ ([] : List Addr) from z) (by simp)
  refine ⟨⟨e0.mod, S.kind, rfl, rfl, Nat.le_refl _, fun y z c h1 h2 => ?_, fun y hy => ?_, fun y c _ h => ?_, fun _ => hd, Around.frames_deeper e0.frames, .inr ⟨rfl, rfl⟩, fun b z => absurd z (noA b), e0.bs, e0.bsz, fun b _ _ => noA b, fun b z => absurd z (noA b), e0.funs, e0.frf⟩,
    rfl, e0.bare, Un.kept hk, ⟨_, x.toInCall.ns, fun i y v h1 h2 h3 => ?_⟩, fun y c h => ⟨_, x.cell y c h⟩, e0.hok.fresh (Nat.le_refl _), fun y c h => ?_, fun p hp => absurd (show p ∈ ([] : List (Addr × Obj)) from hp) (by simp), e0.hok.kept hk, ?_⟩
  · exact name_of_addr x.apart (PySem.mem_of_lookup h1) (PySem.mem_of_lookup h2)
  · have hy : scope.names.lookup y = some .cell ∨ scope.names.lookup y = some .free := hy
    rcases hy with hy | hy
    · exact cell_has hy
    · exact absurd rfl (S.nofree _ (PySem.mem_of_lookup hy))
  · exact Nat.le_of_lt (x.above y c (PySem.mem_of_lookup h))
  · have hi : i < vs.length := by
      unfold start at h2
      by_cases hi : i < vs.length
      · exact hi
      · rw [List.getElem?_append_right (by simpa using hi)] at h2
        rw [List.getElem?_replicate] at h2
        split at h2 <;> cases h2
    have ha : vs[i]? = some v := by
      unfold start at h2
      rw [List.getElem?_append_left (by simpa using hi), List.getElem?_map] at h2
      cases e : vs[i]? with
      | none => rw [e] at h2; cases h2
      | some a => rw [e] at h2; cases h2; rfl
    obtain ⟨u, hu, rv⟩ := r.get ha
    have hp : ps[i]? = some y := by
      rw [← S.pre, List.getElem?_take_of_lt (by omega)]; exact h1
    have ndP : ps.Nodup := by rw [← S.pre]; exact S.nd.sublist (List.take_sublist _ _)
    refine ⟨u, rv, ?_⟩
    rcases S.par y (List.mem_of_getElem? hp) with k | k
    · exact .inl ⟨k, bindL_get ndP hp hu k⟩
    · obtain ⟨c, e⟩ := cell_has (n := s.heap.objs.size + 1) k
      refine .inr ⟨.inl k, c, e, ?_⟩
      have q := x.cell y c e
      rw [bindC_get ndP hp hu (by show scope.names.lookup y ≠ _; rw [k]; decide)] at q
      exact q
  · exact e0.hok.fresh (Nat.le_of_lt (x.above y c (PySem.mem_of_lookup h)))
  · unfold start
    show _ = N.length
    rw [List.length_append, List.length_map, List.length_replicate]
    omega

theorem fn_of {CX : CXT} {P : Program} {w : World} {K : PySem.W.Frag} {mg : Str → Option Value} {base : Heap} {k : Nat} {f : Addr} {name qual : Str} {params : Arguments} {body : List Stmt} {scope : Scope} {dV kV doc pm cdv ct oc : Value} {an od : Option Addr}
    {osl : Array (Option Value)} {N ps : List Str} {sp : Sp} (lk : K.lookup f = some ⟨oc, od, .func (PySem.W.fnOf name qual params body scope dV kV doc pm an cdv ct), osl⟩) (hcd : PySem.W.codeIn K cdv qual = true) (S : FnScope N ps scope)
    (len : ∀ vs H Q E, sp vs H Q E → vs.length = ps.length)
    (hbody : ∀ (A : Around) (outer : List Env) (s : Shared) (H : Hp) (vs : List V) (Q : VK) (E : XK), Room k (A.deeper (envOfC qual scope s.heap.objs.size f cdv)) → sp vs H Q E →
      ∃ t, PSs (cxOf CX P w K mg base N qual scope f cdv A outer s H E) body t ∧ t { nx := fun _ H' => Q .non H', rt := Q } (start N vs) H) :
    FnOk P w K mg base CX (k + 1) f (PySem.W.fnOf name qual params body scope dV kV doc pm an cdv ct) ps sp := by
  refine ⟨len, fun A outer s H args us vs Q E hr e0 hb r hsp => ?_⟩
  have hl := len _ _ _ _ hsp
  have KX : K.In s.heap := e0.mod.kin.keeps fun b o e => (e0.bs b o e).1
  have lim : s.heap.NoLimit := e0.mod.nolimit.keeps fun b o e => (e0.bs b o e).1
  have hkind : ∀ y ∈ ps.zip us, scope.names.lookup y.1 = some .local ∨ (scope.names.lookup y.1 = some .cell ∧ ((cellsFrom (s.heap.objs.size + 1) scope.names []).lookup y.1).isSome = true) := fun ⟨n, v⟩ hy => by
    rcases S.par n (List.of_mem_zip hy).1 with q | q
    · exact .inl q
    · exact .inr ⟨q, PySem.W.cellsFrom_some _ _ _ (.inl q)⟩
  refine codeAny_call_function hr.depth (KX _ _ lk) rfl S.co S.gen rfl (PySem.W.codeRec_of KX hcd) (hb _ _ _ _ ?_)
  refine wpAny_newFunctionEnv_cells S.kind hkind fun env he s1 x => ?_
  subst he
  refine ⟨lim.keeps x.toInCall.keep, codeAny_func ?_⟩
  obtain ⟨t, ht, hq⟩ := hbody A outer s H vs Q E (hr.deeper _) hsp
  have I : Inv (cxOf CX P w K mg base N qual scope f cdv A outer s H E) [] (start N vs) H s1 := inv_start S hr.hd e0 hl r x
  refine wpAny_mono (ht [] s1 (start N vs) H _ I hq) (fun fl s' hs => ?_) fun e s' hs => hs
  have fin : ∀ {σ' : St} {H' : Hp} {v : V} {u : Value}, Inv (cxOf CX P w K mg base N qual scope f cdv A outer s H E) [] σ' H' s' → RelV v u → Q v H' → CE outer P w H s Q u s' :=
    fun {σ' H' v u} J rv q => ⟨v, H', J.os, J.bare, J.base, J.hok, rv, q⟩
  cases fl with
  | ret u =>
    obtain ⟨v, σ', H', J, rv, q⟩ := hs
    exact fin J rv q
  | next =>
    obtain ⟨σ', H', J, q⟩ := hs
    exact fin (v := V.non) (u := Value.none) J rfl q
  | brk =>
    obtain ⟨_, _, _, q⟩ := hs
    exact False.elim q
  | cont =>
    obtain ⟨_, _, _, q⟩ := hs
    exact False.elim q
end L2

namespace L2
open PySem PySem.Spec PyProof.Rows
section
variable {X : Cx} {x : Str} {p pos : Pos} {e : Expr} {es : List Expr} {t : TA} {id T : String} {r : List V → Hp → VK → Prop}

def tCB (r : List V → Hp → VK → Prop) (t : TA) : TE := fun σ H Q => t σ H fun vs H1 => r vs H1 Q
theorem pe_callB (hc : CallR X (.builtin id) r) (hg : Gl X x) (hm : X.mg x = none) (hv : bootBuiltins x = some (.builtin id)) (ha : PA X (e :: es) t) (hn : x ≠ "__name__" := by decide) (hdb : (x == ("__debug__" : Str)) = false := by decide)
    (he : starEach (e :: es) X.env = (false, eval e X.env) :: starEach es X.env := by rfl) (hpl : (backTo pos (starEach es X.env)).any (·.1) = false := by rfl) : PE X (.Call (.Name x p) (e :: es) [] pos) (tCB r t) := by
  intro pins s σ H Q I h
  refine wpAny_Call_Name_kw (ld_blt I hg hm hv ?_ hn hdb)
  exact PyProof.Rows.callWith_builtin1 (thn (ha pos pins s σ H _ I h) fun us s1 ⟨vs, H1, I1, r1, q1⟩ => hc pins s1 σ H1 vs us Q I1 r1 q1) he hpl
theorem pe_callTy (hc : CallR X (.type T) r) (hg : Gl X x) (hm : X.mg x = none) (hv : bootBuiltins x = some (.type T)) (ha : PA X (e :: es) t) (hn : x ≠ "__name__" := by decide) (hdb : (x == ("__debug__" : Str)) = false := by decide)
    (he : starEach (e :: es) X.env = (false, eval e X.env) :: starEach es X.env := by rfl) (hpl : (backTo pos (starEach es X.env)).any (·.1) = false := by rfl) : PE X (.Call (.Name x p) (e :: es) [] pos) (tCB r t) := by
  intro pins s σ H Q I h
  refine wpAny_Call_Name_kw (ld_blt I hg hm hv ?_ hn hdb)
  exact PyProof.Rows.callWith_type1 (thn (ha pos pins s σ H _ I h) fun us s1 ⟨vs, H1, I1, r1, q1⟩ => hc pins s1 σ H1 vs us Q I1 r1 q1) he hpl
end
end L2

namespace HT
open PySem PyProof.Rows

section
open PySem.SeqAt
open PySem.AutoSeq1 (wpAny_loadPart')
open PySem.MeetsSeq PySem.MeetsSeq2 PySem.MeetsSeq3

end

section
variable {prog : Program} {w : World} {A : Around} {E : Value → Shared → Prop} {s : Shared}

theorem cat_tup {t b : Addr} {vs ws : List Value} {Q : Value → Shared → Prop} (ht : IsTup s.heap t vs.toArray) (hb : IsTup s.heap b ws.toArray) (hv : vs ≠ [])
    (h1 : ws = [] → Q (.ref t) s) (h2 : ws ≠ [] → Q (.ref s.heap.objs.size) { s with heap := s.heap.push { cls := .type "tuple", data := .seq (vs ++ ws).toArray } })
    (hsz : vs.length + ws.length ≤ sizeLine) : wpAny (model prog w) A (binaryOp .Add (.ref t) (.ref b)) Q E s := by
  obtain ⟨⟨cls, dd, data, sl⟩, ho, hc, n, hd⟩ := id ht
  obtain ⟨⟨cls2, dd2, data2, sl2⟩, ho2, hc2, n2, hd2⟩ := id hb
  simp only at hc hd hc2 hd2
  subst hc hd hc2 hd2
  have e : vs.toArray ++ ws.toArray = (vs ++ ws).toArray := by simp
  by_cases hw : ws = []
  · exact concat_meets ⟨_, ho, rfl⟩ ⟨_, ho2, rfl⟩ noFill_tuple_add seq_tuple_add PySem.F.slot_tuple_add PySem.F.entry_tuple_add (PySem.F.args_tuple_add_2 _ _)
      (tuple_addW1 t b vs.toArray ws.toArray n n2 dd dd2 sl sl2 (by simpa using hv) (by simp [hw])) ⟨ho, ho2, h1 hw⟩
  · refine concat_meets ⟨_, ho, rfl⟩ ⟨_, ho2, rfl⟩ noFill_tuple_add seq_tuple_add PySem.F.slot_tuple_add PySem.F.entry_tuple_add (PySem.F.args_tuple_add_2 _ _)
      (tuple_addW2 t b vs.toArray ws.toArray n n2 dd dd2 sl sl2 (by simpa using hv) (by simpa using hw) (by rw [List.size_toArray, List.size_toArray]; exact hsz)) ⟨ho, ho2, ?_⟩
    rw [e]
    exact h2 hw

def sIx (n d : Nat) : Option Int → Nat
  | none => d
  | some v => if v < 0 then (v + (n : Int)).toNat else min v.toNat n
theorem sIx_none (n d : Nat) : sIx n d none = d := rfl
theorem sIx_nat (n d k : Nat) : sIx n d (some (k : Int)) = min k n := by
  show (if (k : Int) < 0 then ((k : Int) + (n : Int)).toNat else min (k : Int).toNat n) = min k n
  rw [if_neg (by omega), Int.toNat_natCast]
theorem sIx_le (n d : Nat) (hd : d ≤ n) (o : Option Int) : sIx n d o ≤ n := by
  cases o with
  | none => exact hd
  | some v =>
    show (if v < 0 then (v + (n : Int)).toNat else min v.toNat n) ≤ n
    by_cases hv : v < 0
    · rw [if_pos hv]; omega
    · rw [if_neg hv]; exact Nat.min_le_right _ _
theorem clip_eq (v : Int) (n d : Nat) : (if v < 0 then max (v + (n : Int)) 0 else min v (n : Int)) = ((sIx n d (some v) : Nat) : Int) := by
  show (if v < 0 then max (v + (n : Int)) 0 else min v (n : Int)) = (((if v < 0 then (v + (n : Int)).toNat else min v.toNat n) : Nat) : Int)
  by_cases hv : v < 0
  · simp only [if_pos hv]; omega
  · simp only [if_neg hv]; omega
theorem adjust_gen (lo hi : Option Int) (n : Nat) : Builtin.Slice.sliceAdjust lo hi 1 (n : Int) = (((sIx n 0 lo : Nat) : Int), ((sIx n n hi : Nat) : Int)) := by
  have h1 : ¬ ((1 : Int) < 0) := by omega
  unfold Builtin.Slice.sliceAdjust
  simp only [h1, if_false]
  refine Prod.ext ?_ ?_
  · cases lo with
    | none => rfl
    | some v => exact clip_eq v n 0
  · cases hi with
    | none => rfl
    | some v => exact clip_eq v n n
theorem places_gen (i j : Nat) : Builtin.Slice.slicePlaces (i : Int) (j : Int) 1 = j - i := by
  unfold Builtin.Slice.slicePlaces
  have h1 : (1 : Int) > 0 := by omega
  simp only [h1, if_true, Int.ediv_one]
  split <;> omega
theorem slicePart_ {v : Value} {o : Option Int} {Q : Option Int → Shared → Prop} (p : IsPart v o) (h : Q o s) : wpAny (model prog w) A (Builtin.Slice.slicePartIndex v) Q E s := by
  cases p with
  | none => exact slicePart_none h
  | int i t => exact slicePart_int h
theorem sliceApplied_gen {sl : Addr} {vl vu : Value} {lo hi : Option Int} {n : Nat} {Q : Int × Int × Nat → Shared → Prop} (hs : s.heap.IsSliceOf sl vl vu .none) (pl : IsPart vl lo) (pu : IsPart vu hi)
    (h : Q (((sIx n 0 lo : Nat) : Int), 1, sIx n n hi - sIx n 0 lo) s) : wpAny (model prog w) A (Builtin.Slice.sliceApplied (.ref sl) (pure (n : Int))) Q E s := by
  obtain ⟨os, hos, hcs, hds⟩ := id hs
  unfold Builtin.Slice.sliceApplied Builtin.Slice.sliceFields
  refine wpAny_bind (wpAny_bind (wpAny_field hos hds (x := vl) rfl (wpAny_bind (wpAny_field hos hds (x := vu) rfl (wpAny_bind (wpAny_field hos hds (x := .none) rfl (wpAny_pure ?_)))))))
  refine wpAny_bind (slicePart_none ?_)
  show wpAny _ _ (if ((1 : Int) == 0) = true then _ else _) _ _ s
  rw [if_neg (by decide)]
  refine wpAny_bind (slicePart_ pl (wpAny_bind (slicePart_ pu (wpAny_bind (wpAny_pure ?_)))))
  show wpAny _ _ (match Builtin.Slice.sliceAdjust lo hi 1 (n : Int) with | (lo, hi) => pure (lo, (1 : Int), Builtin.Slice.slicePlaces lo hi 1)) _ _ s
  rw [adjust_gen lo hi n]
  show wpAny _ _ (pure (((sIx n 0 lo : Nat) : Int), (1 : Int), Builtin.Slice.slicePlaces ((sIx n 0 lo : Nat) : Int) ((sIx n n hi : Nat) : Int) 1)) _ _ s
  rw [places_gen]
  exact wpAny_pure h
theorem pick_gen (xs : Array Value) (i k : Nat) : ((List.range k).filterMap fun (m : Nat) => xs[((i : Int) + (m : Int) * 1).toNat]?).toArray = ((xs.toList.drop i).take k).toArray := by
  have e : (fun (m : Nat) => xs[((i : Int) + (m : Int) * 1).toNat]?) = fun m => xs[i + m]? := by
    funext m
    have : ((i : Int) + (m : Int) * 1).toNat = i + m := by omega
    rw [this]
  rw [e]
  have := pick_run xs i k
  rw [List.filterMap_map] at this
  have e2 : ((fun x => xs[x]?) ∘ fun x => i + x) = fun m => xs[i + m]? := rfl
  rw [e2] at this
  rw [this]

theorem getItem_tuple_cut {t sl : Addr} {items : Array Value} {vl vu : Value} {lo hi : Option Int} {Q : Value → Shared → Prop} (ht : IsTup s.heap t items) (hs : s.heap.IsSliceOf sl vl vu .none) (pl : IsPart vl lo) (pu : IsPart vu hi)
    (hw : ¬ (sIx items.size 0 lo = 0 ∧ sIx items.size items.size hi = items.size))
    (h : Q (.ref s.heap.objs.size) { s with heap := s.heap.push { cls := .type "tuple", data := .seq ((items.toList.drop (sIx items.size 0 lo)).take (sIx items.size items.size hi - sIx items.size 0 lo)).toArray } })
    (hsz : items.size ≤ sizeLine) : wpAny (model prog w) A (getItem (.ref t) (.ref sl)) Q E s := by
  have htake : sizeOk (.seq ((items.toList.drop (sIx items.size 0 lo)).take (sIx items.size items.size hi - sIx items.size 0 lo)).toArray) := by
    show ((items.toList.drop (sIx items.size 0 lo)).take (sIx items.size items.size hi - sIx items.size 0 lo)).toArray.size ≤ sizeLine
    rw [List.size_toArray, List.length_take, List.length_drop, Array.length_toList]
    omega
  have hj : sIx items.size items.size hi ≤ items.size := sIx_le _ _ (Nat.le_refl _) hi
  obtain ⟨os, hos, hcs, hds⟩ := id hs
  have hTs : s.TypeIs (.ref sl) "slice" := ⟨os, hos, hcs⟩
  unfold getItem
  try with_reducible refine wpAny_holding ?_
  first | refine wpAny_bind (wpAny_pure ?_) | skip
  refine wpAny_bind (wpAny_sequenceKey ht.typeIs (by decide) ?_)
  refine wpAny_bind (wpAny_callSpecial?_slot (name := Str.ofString "__getitem__") ht.typeIs PyProof.Rows.slot_tuple_getitem
    (wpAny_call_entry PyProof.Rows.slot_tuple_getitem ht.typeIs entry_tuple_getitem ?_ (args_tuple_getitem _ _)))
  show wpAny _ _ (Builtin.Tuple.tupleItemsOf (.ref t) >>= _) _ _ s
  refine wpAny_bind (tupleItemsOf_ ht ?_)
  refine wpAny_bind (wpAny_typeOf hTs ?_)
  rw [if_pos (by decide)]
  refine wpAny_bind (sliceApplied_gen hs pl pu ?_)
  have hno : ¬ ((((sIx items.size 0 lo : Nat) : Int) == 0 && (1 : Int) == 1 && (sIx items.size items.size hi - sIx items.size 0 lo) == items.size) = true) := by
    intro q
    rw [Bool.and_eq_true, Bool.and_eq_true] at q
    have q1 : ((sIx items.size 0 lo : Nat) : Int) = 0 := eq_of_beq q.1.1
    have q2 : sIx items.size items.size hi - sIx items.size 0 lo = items.size := eq_of_beq q.2
    exact hw ⟨by omega, by omega⟩
  show wpAny _ _ (if (((sIx items.size 0 lo : Nat) : Int) == 0 && (1 : Int) == 1 && (sIx items.size items.size hi - sIx items.size 0 lo) == items.size) = true then _ else _) _ _ s
  rw [if_neg hno, pick_gen]
  first
    | exact wpAny_bind (m := Builtin.Tuple.tupleExact _) (wpAny_newObj_type (wpAny_pure ⟨_, rfl, wpAny_pure h⟩) htake)
    | exact wpAny_bind (m := Builtin.Tuple.tupleExact _) (wpAny_newObj_type (wpAny_bind (wpAny_pure (wpAny_pure ⟨_, rfl, wpAny_pure h⟩))) htake)
    | exact wpAny_bind (wpAny_bind (m := Builtin.Tuple.tupleExact _) (wpAny_newObj_type (wpAny_pure (wpAny_pure ⟨_, rfl, wpAny_pure h⟩)) htake))
    | exact wpAny_bind (wpAny_bind (m := Builtin.Tuple.tupleExact _) (wpAny_newObj_type (wpAny_pure ⟨_, rfl, wpAny_pure h⟩) htake))
end
end HT

namespace L2
open PySem PySem.Spec PyProof.Rows

abbrev TO := St → Hp → (Option Int → Hp → Prop) → Prop
def PO (X : Cx) (e : Option Expr) (t : TO) : Prop :=
  ∀ (pins : List (Addr × Obj)) (s : Shared) (σ : St) (H : Hp) (Q : Option Int → Hp → Prop), Inv X pins σ H s → t σ H Q →
    wpAny (model X.prog X.w) X.A (evalPart e X.env) (fun u s' => ∃ o H', Inv X pins σ H' s' ∧ IsPart u o ∧ Q o H') X.xe s
def tNoPart : TO := fun _ H Q => Q none H
def tPart (t : TE) : TO := fun σ H Q => t σ H fun x H1 => ∃ i, x = .int i ∧ Q (some i) H1

section
variable {X : Cx} {e : Expr} {te : TE} {lo hi : Option Expr} {tl th : TO} {pos p2 : Pos}

theorem po_none : PO X none tNoPart := by
  intro pins s σ H Q I h
  rw [evalPart_none]
  exact wpAny_pure ⟨none, H, I, .none, h⟩
theorem po_some (h : PE X e te) : PO X (some e) (tPart te) := by
  intro pins s σ H Q I hw
  rw [evalPart_some]
  refine thn (h pins s σ H _ I hw) fun u s1 ⟨x, H1, I1, r1, q1⟩ => ?_
  obtain ⟨i, rfl, q⟩ := q1
  obtain ⟨t, rfl⟩ := r1
  exact ⟨some i, H1, I1, .int i t, q⟩

def SlR (X : Cx) (r : V → Option Int → Option Int → Hp → VK → Prop) : Prop :=
  ∀ (pins : List (Addr × Obj)) (s : Shared) (σ : St) (H : Hp) (x : V) (v vl vu : Value) (lo hi : Option Int) (sl : Addr) (Q : VK), Inv X pins σ H s → RelV x v → s.heap.IsSliceOf sl vl vu .none → IsPart vl lo → IsPart vu hi → r x lo hi H Q →
    ∃ T id, typeLookup (.type T) "__getitem__" = pure (some (.builtin id)) ∧ s.TypeIs v T ∧ wpAny (model X.prog X.w) X.A (getItem v (.ref sl)) (EP X pins σ Q) X.xe s
def tSl (r : V → Option Int → Option Int → Hp → VK → Prop) (te : TE) (tl th : TO) : TE := fun σ H Q => te σ H fun x H1 => tl σ H1 fun l H2 => th σ H2 fun u H3 => r x l u H3 Q
theorem pe_slice {r : V → Option Int → Option Int → Hp → VK → Prop} (hr : SlR X r) (he : PE X e te) (hl : PO X lo tl) (hu : PO X hi th) : PE X (.Subscript e (.Slice lo hi none p2) pos) (tSl r te tl th) := by
  intro pins s σ H Q I h
  refine Subscript_ (thn (he pins s σ H _ I h) fun v s1 ⟨x, H1, I1, r1, q1⟩ => ?_)
  refine wpAny_Slice (thn (hl pins s1 σ H1 _ I1 q1) fun vl s2 ⟨l, H2, I2, pl, q2⟩ => thn (hu pins s2 σ H2 _ I2 q2) fun vu s3 ⟨u, H3, I3, pu, q3⟩ => ?_)
  rw [evalPart_none]
  refine wpAny_pure ?_
  have I4 : Inv X pins σ H3 { s3 with heap := s3.heap.push { cls := .type "slice", data := .fields #[vl, vu, .none] } } := I3.kept (t' := s3.toks) fun b ob q => Heap.get?_push_of_some _ q
  obtain ⟨T, id, hT, ht, hg⟩ := hr pins { s3 with heap := s3.heap.push { cls := .type "slice", data := .fields #[vl, vu, .none] } } σ H3 x v vl vu l u s3.heap.objs.size Q I4 r1 (Heap.IsSliceOf.new ..) pl pu q3
  show wpAny (model X.prog X.w) X.A (subscriptTail e (.Slice lo hi none p2) v (.ref s3.heap.objs.size)) (EP X pins σ Q) X.xe { s3 with heap := s3.heap.push { cls := .type "slice", data := .fields #[vl, vu, .none] } }
  exact tail_any (ops := [.ref s3.heap.objs.size, v]) ht hT hg (by with_unfolding_all rfl)

def cutV (xs : List V) (lo hi : Option Int) : List V := (xs.drop (HT.sIx xs.length 0 lo)).take (HT.sIx xs.length xs.length hi - HT.sIx xs.length 0 lo)
theorem cutV_length (xs : List V) (lo hi : Option Int) : (cutV xs lo hi).length ≤ xs.length := by
  unfold cutV
  rw [List.length_take, List.length_drop]
  omega
def rSlT (K : PySem.W.Frag) : V → Option Int → Option Int → Hp → VK → Prop := fun x lo hi H Q => ∃ a xs, x = .ref a ∧ SqT K H a xs ∧
  ¬ (HT.sIx xs.length 0 lo = 0 ∧ HT.sIx xs.length xs.length hi = xs.length) ∧ ∀ p, H p = none → Q (.ref p) (upd H p (.tup (cutV xs lo hi)))
theorem sl_tup : SlR X (rSlT X.K) := by
  intro pins s σ H x v vl vu lo hi sl Q I rx hs pl pu h
  obtain ⟨a, xs, rfl, hx, hw, q⟩ := h
  cases rx
  obtain ⟨its, r, ht, hz⟩ := I.tuple hx
  have hlen : its.toArray.size = xs.length := by rw [List.size_toArray]; exact r.length.symm
  refine ⟨"tuple", _, PyProof.Rows.slot_tuple_getitem.lookup, ht.typeIs, ?_⟩
  refine HT.getItem_tuple_cut ht hs pl pu (by rw [hlen]; exact hw) ?_ (by rw [hlen]; exact hz)
  rw [hlen]
  refine ⟨.ref s.heap.objs.size, _, I.laid (t' := s.toks) (o := .tup (cutV xs lo hi)) (fun b ob q => Heap.get?_push_of_some _ q) (Nat.le_refl _) ?_, rfl, q _ (I.hok.fresh (Nat.le_refl _))⟩
  exact ⟨Nat.le_trans (cutV_length xs lo hi) hz, _, (r.drop (HT.sIx xs.length 0 lo)).take (HT.sIx xs.length xs.length hi - HT.sIx xs.length 0 lo), IsTup.new _ _⟩

def rCatT (K : PySem.W.Frag) : R2 := fun x y H Q => ∃ a b xs ys, x = .ref a ∧ y = .ref b ∧ SqT K H a xs ∧ SqT K H b ys ∧ xs ≠ [] ∧ xs.length + ys.length ≤ sizeLine ∧
  (ys = [] → Q (.ref a) H) ∧ (ys ≠ [] → ∀ p, H p = none → Q (.ref p) (upd H p (.tup (xs ++ ys))))
theorem Vals.nil_iff {xs : List V} {us : List Value} (r : Vals xs us) : us = [] ↔ xs = [] := by
  cases r with
  | nil => simp
  | cons _ _ => simp
theorem op_catT : OpR X (binaryOp .Add) (rCatT X.K) := by
  intro pins s σ H x y v u Q I rx ry h
  obtain ⟨a, b, xs, ys, rfl, rfl, ha, hb, hx, hz, q1, q2⟩ := h
  cases rx
  cases ry
  obtain ⟨its, r1, p1, _⟩ := I.tuple ha
  obtain ⟨its2, r2, p2, _⟩ := I.tuple hb
  refine HT.cat_tup p1 p2 (fun z => hx (r1.nil_iff.mp z)) (fun z => ⟨.ref a, H, I, rfl, q1 (r2.nil_iff.mp z)⟩) (fun z => ?_) (by rw [← r1.length, ← r2.length]; exact hz)
  refine ⟨.ref s.heap.objs.size, _, I.laid (t' := s.toks) (o := .tup (xs ++ ys)) (fun b ob q => Heap.get?_push_of_some _ q) (Nat.le_refl _) ?_, rfl, q2 (fun w => z (r2.nil_iff.mpr w)) _ (I.hok.fresh (Nat.le_refl _))⟩
  exact ⟨by rw [List.length_append]; exact hz, _, r1.append r2, IsTup.new _ _⟩
end
end L2

namespace L2
open PySem PySem.Spec PyProof.Rows

def ixN (n : Nat) (i : Int) : Option Nat := if 0 ≤ i then (if i < n then some i.toNat else none) else if -(n : Int) ≤ i then some (i + n).toNat else none
def atI {α : Type} (xs : List α) (i : Int) : Option α := (ixN xs.length i).bind fun j => xs[j]?
theorem ixN_seq {n : Nat} {i : Int} {j : Nat} (h : ixN n i = some j) : seqIndex? i n = some j ∧ j < n ∧ -(n : Int) ≤ i ∧ i < n := by
  unfold ixN at h
  by_cases h0 : 0 ≤ i
  · rw [if_pos h0] at h
    by_cases h1 : i < n
    · rw [if_pos h1] at h
      have e : i.toNat = j := Option.some.inj h
      exact ⟨by rw [seqIndex_of h0 h1, e], by omega, by omega, h1⟩
    · rw [if_neg h1] at h; cases h
  · rw [if_neg h0] at h
    by_cases h1 : -(n : Int) ≤ i
    · rw [if_pos h1] at h
      have e : (i + n).toNat = j := Option.some.inj h
      exact ⟨by rw [seqIndex_neg (by omega) h1, e], by omega, h1, by omega⟩
    · rw [if_neg h1] at h; cases h
theorem atI_get {α : Type} {xs : List α} {i : Int} {v : α} (h : atI xs i = some v) : ∃ j, seqIndex? i xs.length = some j ∧ xs[j]? = some v ∧ j < xs.length ∧ -(xs.length : Int) ≤ i ∧ i < xs.length := by
  unfold atI at h
  cases e : ixN xs.length i with
  | none => rw [e] at h; cases h
  | some j =>
    rw [e] at h
    obtain ⟨h1, h2, h3, h4⟩ := ixN_seq e
    exact ⟨j, h1, h, h2, h3, h4⟩
theorem atI_nat {α : Type} {xs : List α} {j : Nat} {v : α} (h : xs[j]? = some v) : atI xs (j : Int) = some v := by
  have hj : j < xs.length := (List.getElem?_eq_some_iff.mp h).1
  have e : ixN xs.length (j : Int) = some j := by
    unfold ixN
    rw [if_pos (by omega), if_pos (by omega)]; simp
  unfold atI; rw [e]; exact h
def PlainIx (b : Expr) : Prop := ∀ o i, subscripted b false o i = operate [o, i] (getItem o i)
def IxR (X : Cx) (r : R2) : Prop :=
  ∀ (value slice : Expr) (pins : List (Addr × Obj)) (s : Shared) (σ : St) (H : Hp) (x y : V) (v u : Value) (Q : VK), Inv X pins σ H s → RelV x v → RelV y u → r x y H Q →
    subscripted slice false v u = operate [v, u] (getItem v u) → wpAny (model X.prog X.w) X.A (subscriptTail value slice v u) (EP X pins σ Q) X.xe s
def MtR (X : Cx) (id : String) (r : V → List V → Hp → VK → Prop) : Prop :=
  ∀ (pins : List (Addr × Obj)) (s : Shared) (σ : St) (H : Hp) (x : V) (xs : List V) (v : Value) (us : List Value) (Q : VK), Inv X pins σ H s → RelV x v → Vals xs us → r x xs H Q →
    wpAny (model X.prog X.w) X.A (call (.builtin id) (v :: us)) (EP X pins σ Q) X.xe s
section
variable {X : Cx} {a b : Expr} {ta tb : TE} {pos : Pos}
theorem pe_ix {r : R2} (hr : IxR X r) (ha : PE X a ta) (hb : PE X b tb) (hs : PlainIx b) : PE X (.Subscript a b pos) (tOp r ta tb) := by
  intro pins s σ H Q I h
  exact Subscript_ (binT ha hb I h fun v u s2 x y H2 I2 rx ry q => hr a b pins s2 σ H2 x y v u Q I2 rx ry q (hs _ _))

def rIxL (K : PySem.W.Frag) : R2 := fun x y H Q => ∃ p xs i v, x = .ref p ∧ y = .int i ∧ SqL K H p xs ∧ atI xs i = some v ∧ Q v H
def rIxT (K : PySem.W.Frag) : R2 := fun x y H Q => ∃ p xs i v, x = .ref p ∧ y = .int i ∧ SqT K H p xs ∧ atI xs i = some v ∧ Q v H
def rIxS : R2 := fun x y H Q => ∃ z i c, x = .str z ∧ y = .int i ∧ z.length ≤ sizeLine ∧ atI z.cps.toList i = some c ∧ Q (.str ⟨#[c]⟩) H
theorem ix_list : IxR X (rIxL X.K) := by
  intro value slice pins s σ H x y v u Q I rx ry h hs
  obtain ⟨p, xs, i, z, rfl, rfl, hq, he, q⟩ := h
  cases rx
  obtain ⟨t, rfl⟩ := ry
  obtain ⟨its, r, pl, hz⟩ := I.list hq
  obtain ⟨j, h1, h2, h3, h4, h5⟩ := atI_get he
  obtain ⟨w, ew, rw'⟩ := r.get h2
  have hl := r.length
  have hn := line63
  have fin : EP X pins σ Q w s := ⟨z, H, I, rw', q⟩
  by_cases h0 : 0 ≤ i
  · have hj : i.toNat = j := by
      rw [seqIndex_of h0 h5] at h1
      exact Option.some.inj h1
    exact item_listR pl.isList h0 (by omega) (by rw [hj]; simpa using ew) fin hs
  · have hj : (i + (its.toArray.size : Int)).toNat = j := by
      rw [seqIndex_neg (by omega) h4] at h1
      rw [List.size_toArray, ← hl]
      exact Option.some.inj h1
    exact subscriptTail_builtinR (x := w) pl.isList.typeIs slot_list_getitem.lookup
      (wpAny_getItem_list_neg (Q := fun r s' => r = w ∧ EP X pins σ Q r s') pl.isList (by omega) (by rw [List.size_toArray] <;> omega) (by omega) (by rw [hj]; simpa using ew) ⟨rfl, fin⟩) hs
theorem ix_tup : IxR X (rIxT X.K) := by
  intro value slice pins s σ H x y v u Q I rx ry h hs
  obtain ⟨p, xs, i, z, rfl, rfl, hq, he, q⟩ := h
  cases rx
  obtain ⟨t, rfl⟩ := ry
  obtain ⟨its, r, pl, hz⟩ := I.tuple hq
  obtain ⟨j, h1, h2, h3, h4, h5⟩ := atI_get he
  obtain ⟨w, ew, rw'⟩ := r.get h2
  have hl := r.length
  have hn := line63
  have fin : EP X pins σ Q w s := ⟨z, H, I, rw', q⟩
  exact subscriptTail_builtinR (x := w) pl.typeIs slot_tuple_getitem.lookup
    (getItem_tuple (j := j) (Q := fun r s' => r = w ∧ EP X pins σ Q r s') pl (by omega) (by omega) (by rw [List.size_toArray, ← hl]; exact h1) (by simpa using ew) ⟨rfl, fin⟩) hs
theorem ix_str : IxR X rIxS := by
  intro value slice pins s σ H x y v u Q I rx ry h hs
  obtain ⟨z, i, c, rfl, rfl, hz, he, q⟩ := h
  obtain ⟨t, rfl⟩ := rx
  obtain ⟨t', rfl⟩ := ry
  obtain ⟨j, h1, h2, h3, h4, h5⟩ := atI_get he
  have hl : z.cps.toList.length = z.length := by simp [Str.length]
  rw [hl] at h1 h4 h5
  have hn := line63
  exact tail_any (typeIs_str s z t) slot_str_getitem.lookup (getItem_str (c := c) (by
    have e1 : decide (i < -(2 ^ 63 : Int)) = false := decide_eq_false (by omega)
    have e2 : decide (i ≥ 2 ^ 63) = false := decide_eq_false (by omega)
    rw [e1, e2, Bool.or_false]) (by rw [h1]; simpa using h2) ⟨.str ⟨#[c]⟩, H, I.tok _, ⟨_, rfl⟩, q⟩) hs
theorem mapSeq_set (its : List Value) (n j : Nat) (u : Value) : Obj.mapSeq (·.setIfInBounds j u) { cls := .type "list", data := .seq its.toArray n } = { cls := .type "list", data := .seq (its.set j u).toArray n } := by
  simp [Obj.mapSeq]
theorem Inv.lst {pins : List (Addr × Obj)} {σ : St} {H : Hp} {s : Shared} {p : Addr} {xs : List V} (I : Inv X pins σ H s) (h : H p = some (.lst xs)) :
    ∃ (its : List Value) (n : Nat), Vals xs its ∧ s.heap.get? p = some { cls := .type "list", data := .seq its.toArray n } ∧ xs.length ≤ sizeLine := by
  obtain ⟨z, its, n, r, e⟩ := I.hok p _ h
  exact ⟨its, n, r, e, z⟩
theorem Inv.lstUpd {pins : List (Addr × Obj)} {σ : St} {H : Hp} {s : Shared} {p : Addr} {xs ys : List V} {its its' : List Value} {n n' : Nat} {f : Obj → Obj} (I : Inv X pins σ H s) (h : H p = some (.lst xs))
    (ho : s.heap.get? p = some { cls := .type "list", data := .seq its.toArray n }) (hf : f { cls := .type "list", data := .seq its.toArray n } = { cls := .type "list", data := .seq its'.toArray n' }) (r : Vals ys its') (hz : ys.length ≤ sizeLine) (t : Nat) :
    Inv X pins σ (upd H p (.lst ys)) { s with heap := s.heap.update p f, toks := t } := by
  have e : (s.heap.update p f).get? p = some { cls := .type "list", data := .seq its'.toArray n' } := by
    rw [Heap.get?_update_self f ho (by rw [hf] <;> rfl), hf]
  refine I.write (x := p) (e := p) (by rw [h]; trivial) (.inl rfl) (fun b u hb q => (Heap.get?_update_other _ _ (Ne.symm hb)).trans q) ⟨_, e⟩ ?_
  exact ⟨hz, its', n', r, e⟩
def rSetL : V → V → V → Hp → (Hp → Prop) → Prop := fun o i v H Q => ∃ p xs k j, o = .ref p ∧ i = .int k ∧ H p = some (.lst xs) ∧ ixN xs.length k = some j ∧ Q (upd H p (.lst (xs.set j v)))
theorem set_list : PSet X rSetL := by
  intro pins s σ H o i v ov iv u Q I ro ri rv h
  obtain ⟨p, xs, k, j, rfl, rfl, hp, hj, q⟩ := h
  cases ro
  obtain ⟨t, rfl⟩ := ri
  obtain ⟨its, n, r, ho, hz⟩ := I.lst hp
  obtain ⟨h1, h2, h3, h4⟩ := ixN_seq hj
  have hl := r.length
  have hn := line63
  have I' : Inv X pins σ (upd H p (.lst (xs.set j v))) { s with heap := s.heap.update p (Obj.mapSeq (·.setIfInBounds j u)) } :=
    I.lstUpd hp ho (mapSeq_set its n j u) (r.set rv j) (by rw [List.length_set]; exact hz) s.toks
  by_cases h0 : 0 ≤ k
  · have hk : k.toNat = j := by
      rw [seqIndex_of h0 h4] at h1
      exact Option.some.inj h1
    exact PySem.W.ki_setAt ho h0 (by omega) (by rw [List.size_toArray, ← hl]; exact h4) (by rw [hk]; exact ⟨_, I', q⟩)
  · have hk : (k + (its.toArray.size : Int)).toNat = j := by
      rw [seqIndex_neg (by omega) h3] at h1
      rw [List.size_toArray, ← hl]
      exact Option.some.inj h1
    exact PySem.W.ki_setBack ho (by omega) (by rw [List.size_toArray, ← hl]; exact h3) (by omega) (by rw [hk]; exact ⟨_, I', q⟩)

theorem slice_bounds (lo hi : Option Int) (n : Nat) : (sliceBounds lo hi none n).1 = ((HT.sIx n 0 lo : Nat) : Int) ∧ (sliceBounds lo hi none n).2.1 = ((HT.sIx n n hi : Nat) : Int) ∧ (sliceBounds lo hi none n).2.2 = 1 := by
  refine ⟨?_, ?_, rfl⟩
  · cases lo with
    | none => simp [sliceBounds, HT.sIx]
    | some i =>
      simp only [sliceBounds, HT.sIx, Option.getD_none, show (1 : Int) > 0 by decide, if_true]
      by_cases h : i < 0
      · simp only [h, if_true] <;> omega
      · simp only [h, if_false] <;> omega
  · cases hi with
    | none => simp [sliceBounds, HT.sIx]
    | some i =>
      simp only [sliceBounds, HT.sIx, Option.getD_none, show (1 : Int) > 0 by decide, if_true]
      by_cases h : i < 0
      · simp only [h, if_true] <;> omega
      · simp only [h, if_false] <;> omega
theorem slicePick_cut (its : List Value) (lo hi : Option Int) : slicePick its.toArray lo hi none = ((its.drop (HT.sIx its.length 0 lo)).take (HT.sIx its.length its.length hi - HT.sIx its.length 0 lo)).toArray := by
  obtain ⟨h1, h2, h3⟩ := slice_bounds lo hi its.toArray.size
  unfold slicePick
  rw [h1, h2, h3]
  simp only [sliceRange_one, pick_run, List.size_toArray] <;> rfl
def rSlL (K : PySem.W.Frag) : V → Option Int → Option Int → Hp → VK → Prop := fun x lo hi H Q => ∃ a xs, x = .ref a ∧ SqL K H a xs ∧ ∀ p, H p = none → Q (.ref p) (upd H p (.lst (cutV xs lo hi)))
theorem sl_list : SlR X (rSlL X.K) := by
  intro pins s σ H x v vl vu lo hi sl Q I rx hs pl pu h
  obtain ⟨a, xs, rfl, hx, q⟩ := h
  cases rx
  obtain ⟨its, r, ht, hz⟩ := I.list hx
  have hlen := r.length
  refine ⟨"list", _, slot_list_getitem.lookup, ht.isList.typeIs, ?_⟩
  refine wpAny_getItem_list_slice ht.isList hs pl pu .none (by simp) ?_ (by rw [List.size_toArray] <;> omega)
  rw [slicePick_cut, ← hlen]
  refine ⟨.ref s.heap.objs.size, _, I.laid (t' := s.toks) (o := .lst (cutV xs lo hi)) (fun b ob q => Heap.get?_push_of_some _ q) (Nat.le_refl _) ?_, rfl, q _ (I.hok.fresh (Nat.le_refl _))⟩
  exact ⟨Nat.le_trans (cutV_length xs lo hi) hz, _, 0, (r.drop (HT.sIx xs.length 0 lo)).take (HT.sIx xs.length xs.length hi - HT.sIx xs.length 0 lo), Heap.get?_push_size _ rfl⟩

def flatV : V → Bool
  | .non => true
  | .bl _ => true
  | .int _ => true
  | .str _ => true
  | _ => false
def eqV : V → V → Bool
  | .non, .non => true
  | .bl a, .bl b => a == b
  | .bl a, .int b => (if a then 1 else 0) == b
  | .int a, .bl b => a == (if b then 1 else 0)
  | .int a, .int b => a == b
  | .str a, .str b => a == b
  | _, _ => false
theorem eqAt_V {A : Around} {s : Shared} {y x : V} {u v : Value} (ry : RelV y u) (rx : RelV x v) (fy : flatV y = true) (fx : flatV x = true) : SeqAt.EqAt A s u v (eqV y x) := by
  cases y with
  | non =>
    cases ry
    cases x with
    | non => cases rx; exact SeqAt.EqAt.same _
    | bl b => cases rx; exact SeqAt.EqAt.none_bool b
    | int b => obtain ⟨t, rfl⟩ := rx; exact SeqAt.EqAt.none_int b t
    | str b => obtain ⟨t, rfl⟩ := rx; exact SeqAt.EqAt.none_str b t
    | _ => exact absurd (show false = true from fx) Bool.false_ne_true
  | bl a =>
    cases ry
    cases x with
    | non => cases rx; exact SeqAt.EqAt.bool_none a
    | bl b => cases rx; exact SeqAt.EqAt.bool_bool a b
    | int b => obtain ⟨t, rfl⟩ := rx; exact SeqAt.EqAt.bool_int a b t
    | str b => obtain ⟨t, rfl⟩ := rx; exact SeqAt.EqAt.bool_str a b t
    | _ => exact absurd (show false = true from fx) Bool.false_ne_true
  | int a =>
    obtain ⟨t', rfl⟩ := ry
    cases x with
    | non => cases rx; exact SeqAt.EqAt.int_none a t'
    | bl b => cases rx; exact SeqAt.EqAt.int_bool a t' b
    | int b => obtain ⟨t, rfl⟩ := rx; exact SeqAt.EqAt.int_int a t' b t
    | str b => obtain ⟨t, rfl⟩ := rx; exact SeqAt.EqAt.int_str a t' b t
    | _ => exact absurd (show false = true from fx) Bool.false_ne_true
  | str a =>
    obtain ⟨t', rfl⟩ := ry
    cases x with
    | non => cases rx; exact SeqAt.EqAt.str_none a t'
    | bl b => cases rx; exact SeqAt.EqAt.str_bool a t' b
    | int b => obtain ⟨t, rfl⟩ := rx; exact SeqAt.EqAt.str_int a t' b t
    | str b => obtain ⟨t, rfl⟩ := rx; exact SeqAt.EqAt.str_str a t' b t
    | _ => exact absurd (show false = true from fx) Bool.false_ne_true
  | _ => exact absurd (show false = true from fy) Bool.false_ne_true
def eqU (x : V) (u : Value) : Bool := match u with
  | .none => eqV .non x
  | .bool b => eqV (.bl b) x
  | .int i _ => eqV (.int i) x
  | .str z _ => eqV (.str z) x
  | _ => false
theorem eqU_of {x y : V} {u : Value} (r : RelV y u) (f : flatV y = true) : eqU x u = eqV y x := by
  cases y with
  | non => cases r; rfl
  | bl b => cases r; rfl
  | int i => obtain ⟨t, rfl⟩ := r; rfl
  | str z => obtain ⟨t, rfl⟩ := r; rfl
  | _ => exact absurd (show false = true from f) Bool.false_ne_true
theorem any_eqU {x : V} : ∀ {xs : List V} {us : List Value}, Vals xs us → xs.all flatV = true → us.any (eqU x) = xs.any fun y => eqV y x
  | _, _, .nil, _ => rfl
  | y :: xs, u :: us, .cons r t, f => by
    rw [List.all_cons, Bool.and_eq_true] at f
    rw [List.any_cons, List.any_cons, eqU_of r f.1, any_eqU t f.2]
theorem mem_eqAt {A : Around} {s : Shared} {x : V} {v : Value} (rx : RelV x v) (fx : flatV x = true) : ∀ {xs : List V} {us : List Value}, Vals xs us → xs.all flatV = true → ∀ u ∈ us, SeqAt.EqAt A s u v (eqU x u)
  | _, _, .nil, _ => fun u hu => by cases hu
  | y :: xs, u :: us, .cons r t, f => fun u' hu => by
    rw [List.all_cons, Bool.and_eq_true] at f
    rcases List.mem_cons.mp hu with rfl | hu
    · rw [eqU_of r f.1]; exact eqAt_V r rx f.1 fx
    · exact mem_eqAt rx fx t f.2 u' hu
def inV (x : V) (xs : List V) : Bool := xs.any fun y => eqV y x
def rIn (K : PySem.W.Frag) (neg : Bool) : R2 := fun x y H Q => ∃ p xs, y = .ref p ∧ (SqL K H p xs ∨ SqT K H p xs) ∧ flatV x = true ∧ xs.all flatV = true ∧ Q (.bl (if neg then !inV x xs else inV x xs)) H
theorem op_in_seq : OpR X (compareOp .In) (rIn X.K false) := by
  intro pins s σ H x y v u Q I rx ry h
  obtain ⟨p, xs, rfl, hq, fx, fs, q⟩ := h
  cases ry
  rcases hq with hq | hq
  · obtain ⟨its, r, pl, hz⟩ := I.list hq
    refine SeqAt.in_listAt (eqU x) pl.isList (fun w hw => mem_eqAt rx fx r fs w (by simpa using hw)) ⟨.bl _, H, I, rfl, ?_⟩
    rw [show its.toArray.any (eqU x) = its.any (eqU x) by simp, any_eqU r fs]
    exact q
  · obtain ⟨its, r, pl, hz⟩ := I.tuple hq
    refine SeqAt.in_tupleAt (eqU x) pl (fun w hw => mem_eqAt rx fx r fs w (by simpa using hw)) ⟨.bl _, H, I, rfl, ?_⟩
    rw [show its.toArray.any (eqU x) = its.any (eqU x) by simp, any_eqU r fs]
    exact q
theorem op_notIn_seq : OpR X (compareOp .NotIn) (rIn X.K true) := by
  intro pins s σ H x y v u Q I rx ry h
  obtain ⟨p, xs, rfl, hq, fx, fs, q⟩ := h
  cases ry
  rcases hq with hq | hq
  · obtain ⟨its, r, pl, hz⟩ := I.list hq
    refine SeqAt.notIn_listAt (eqU x) pl.isList (fun w hw => mem_eqAt rx fx r fs w (by simpa using hw)) ⟨.bl _, H, I, rfl, ?_⟩
    rw [show its.toArray.any (eqU x) = its.any (eqU x) by simp, any_eqU r fs]
    exact q
  · obtain ⟨its, r, pl, hz⟩ := I.tuple hq
    refine SeqAt.notIn_tupleAt (eqU x) pl (fun w hw => mem_eqAt rx fx r fs w (by simpa using hw)) ⟨.bl _, H, I, rfl, ?_⟩
    rw [show its.toArray.any (eqU x) = its.any (eqU x) by simp, any_eqU r fs]
    exact q
theorem call_len_seq : CallR X (.builtin "len") (fun xs H Q => ∃ p ys, xs = [.ref p] ∧ (SqL X.K H p ys ∨ SqT X.K H p ys) ∧ Q (.int ys.length) H) := by
  intro pins s σ H xs us Q I r h
  obtain ⟨p, ys, rfl, hq, q⟩ := h
  obtain ⟨u, rfl, rx⟩ := vals1 r
  cases rx
  have hn := line63
  rcases hq with hq | hq
  · obtain ⟨its, r', pl, hz⟩ := I.list hq
    have hlen := r'.length
    exact Calls.call_len_list pl.isList (by simp only [List.size_toArray] <;> omega) ⟨.int ys.length, H, I.tok _, ⟨s.toks + 1, by rw [List.size_toArray, hlen]⟩, q⟩
  · obtain ⟨its, r', pl, hz⟩ := I.tuple hq
    have hlen := r'.length
    exact len_tuple pl (by simp only [List.size_toArray] <;> omega) ⟨.int ys.length, H, I.tok _, ⟨s.toks + 1, by rw [List.size_toArray, hlen]⟩, q⟩
theorem call_len_str : CallR X (.builtin "len") (fun xs H Q => ∃ z, xs = [.str z] ∧ z.length ≤ sizeLine ∧ Q (.int z.length) H) := by
  intro pins s σ H xs us Q I r h
  obtain ⟨z, rfl, hz, q⟩ := h
  obtain ⟨u, rfl, t, rfl⟩ := vals1 r
  have hn := line63
  exact len_str (by omega) ⟨.int z.length, H, I.tok _, ⟨_, rfl⟩, q⟩
theorem call_list_of : CallR X (.type "list") (fun xs H Q => ∃ p ys, xs = [.ref p] ∧ (SqL X.K H p ys ∨ SqT X.K H p ys) ∧ ∀ l, H l = none → Q (.ref l) (upd H l (.lst ys))) := by
  intro pins s σ H xs us Q I r h
  obtain ⟨p, ys, rfl, hq, q⟩ := h
  obtain ⟨u, rfl, rx⟩ := vals1 r
  cases rx
  have fin : ∀ (its : List Value), Vals ys its → ys.length ≤ sizeLine → ∀ (h' : Heap) (c' : Nat), (∀ b o', s.heap.get? b = some o' → h'.get? b = some o') →
      h'.get? s.heap.objs.size = some { cls := .type "list", dict := none, data := .seq its.toArray c', slots := #[] } → EP X pins σ Q (.ref s.heap.objs.size) { s with heap := h' } := fun its r' hz h' c' kp e =>
    ⟨.ref s.heap.objs.size, _, I.laid (t' := s.toks) kp (Nat.le_refl _) (show ObjOk X.prog X.w _ h' _ (.lst ys) from ⟨hz, its, c', r', e⟩), rfl, q _ (I.hok.fresh (Nat.le_refl _))⟩
  rcases hq with hq | hq
  · obtain ⟨its, r', pl, hz⟩ := I.list hq
    have hlen := r'.length
    obtain ⟨o, ho, hc, n, hd⟩ := pl.isList
    exact call_list_seq p (.inl rfl) ho hc hd (fun h' c' kp e => fin its r' hz h' c' kp e) (by simp only [List.size_toArray] <;> omega)
  · obtain ⟨its, r', pl, hz⟩ := I.tuple hq
    have hlen := r'.length
    obtain ⟨o, ho, hc, n, hd⟩ := pl
    exact call_list_seq p (.inr rfl) ho hc hd (fun h' c' kp e => fin its r' hz h' c' kp e) (by simp only [List.size_toArray] <;> omega)
theorem call_tuple_of : CallR X (.type "tuple") (fun xs H Q => ∃ p ys, xs = [.ref p] ∧ ((SqL X.K H p ys ∧ ∀ l, H l = none → Q (.ref l) (upd H l (.tup ys))) ∨ (SqT X.K H p ys ∧ Q (.ref p) H))) := by
  intro pins s σ H xs us Q I r h
  obtain ⟨p, ys, rfl, h⟩ := h
  obtain ⟨u, rfl, rx⟩ := vals1 r
  cases rx
  rcases h with ⟨hq, q⟩ | ⟨hq, q⟩
  · obtain ⟨its, r', pl, hz⟩ := I.list hq
    have hlen := r'.length
    refine call_tuple_list pl.isList (fun h' kp => ?_) (by simp only [List.size_toArray] <;> omega)
    have I1 : Inv X pins σ H { s with heap := h' } := I.kept (t' := s.toks) kp
    have I2 : Inv X pins σ (upd H h'.objs.size (.tup ys)) { s with heap := h'.push { cls := .type "tuple", data := .seq its.toArray } } :=
      I1.laid (t' := s.toks) (fun b o e => Heap.get?_push_of_some _ e) (Nat.le_refl _) (show ObjOk X.prog X.w _ _ _ (.tup ys) from ⟨hz, its, r', IsTup.new _ _⟩)
    exact ⟨.ref h'.objs.size, _, I2, rfl, q _ (I1.hok.fresh (Nat.le_refl _))⟩
  · obtain ⟨its, r', pl, hz⟩ := I.tuple hq
    exact call_tuple_same pl ⟨.ref p, H, I, rfl, q⟩

def tyV (K : PySem.W.Frag) (T : String) (x : V) (H : Hp) : Prop := match x with
  | .str _ => T = "str"
  | .int _ => T = "int"
  | .ref p => (T = "list" ∧ ∃ xs, SqL K H p xs) ∨ (T = "tuple" ∧ ∃ o, K.lookup p = some o ∧ o.cls = .type "tuple" ∧ o.dict = none) ∨
      (T = "dict" ∧ ((∃ kvs, H p = some (.dK kvs)) ∨ ∃ kvs, H p = some (.dT kvs))) ∨ (T = "set" ∧ ∃ S n, H p = some (.set S n))
  | _ => False
theorem tyV_is {pins : List (Addr × Obj)} {σ : St} {H : Hp} {s : Shared} {T : String} {x : V} {v : Value} (I : Inv X pins σ H s) (r : RelV x v) (ty : tyV X.K T x H) :
    s.TypeIs v T ∧ ∀ a, v = .ref a → ∃ ob, s.heap.get? a = some ob ∧ ob.dict = none := by
  cases x with
  | str z =>
    obtain ⟨t, rfl⟩ := r
    cases (show T = "str" from ty)
    exact ⟨typeIs_str s z t, fun _ e => nomatch e⟩
  | int i =>
    obtain ⟨t, rfl⟩ := r
    cases (show T = "int" from ty)
    exact ⟨typeIs_int s i t, fun _ e => nomatch e⟩
  | ref p =>
    cases r
    rcases ty with ⟨rfl, xs, hq⟩ | ⟨rfl, o, hk, hc, hd⟩ | ⟨rfl, hk⟩ | ⟨rfl, S, n, hk⟩
    · obtain ⟨its, _, pl, _⟩ := I.list hq
      refine ⟨pl.isList.typeIs, fun a e => ?_⟩
      cases e
      obtain ⟨o, n, e, c, hd, _⟩ := pl
      exact ⟨o, e, hd⟩
    · refine ⟨⟨o, I.kIn p o hk, hc⟩, fun a e => ?_⟩
      cases e
      exact ⟨o, I.kIn _ o hk, hd⟩
    · have z : ∃ o, s.heap.get? p = some o ∧ o.ExactDict := by
        rcases hk with ⟨kvs, hk⟩ | ⟨kvs, hk⟩
        · obtain ⟨_, _, _, _, o, _, _, e, ex, _⟩ := I.hok p _ hk
          exact ⟨o, e, ex⟩
        · obtain ⟨_, _, _, _, o, _, _, e, ex, _⟩ := I.hok p _ hk
          exact ⟨o, e, ex⟩
      obtain ⟨o, e, ex⟩ := z
      refine ⟨⟨o, e, ex.1⟩, fun a e2 => ?_⟩
      cases e2
      exact ⟨o, e, ex.2.1⟩
    · obtain ⟨o, _, _, _, e, ex, _⟩ := I.hok p _ hk
      refine ⟨⟨o, e, ex.1⟩, fun a e2 => ?_⟩
      cases e2
      exact ⟨o, e, ex.2.1⟩
  | _ => exact False.elim ty
def tBM0 (K : PySem.W.Frag) (T : String) (r : V → List V → Hp → VK → Prop) (to : TE) : TE := fun σ H Q => to σ H fun x H1 => tyV K T x H1 ∧ r x [] H1 Q
def tBM (K : PySem.W.Frag) (T : String) (r : V → List V → Hp → VK → Prop) (to : TE) (t : TA) : TE := fun σ H Q => to σ H fun x H1 => tyV K T x H1 ∧ t σ H1 fun xs H2 => r x xs H2 Q
variable {o e : Expr} {es : List Expr} {to : TE} {t : TA} {name : Str} {apos cpos : Pos} {T id : String} {r : V → List V → Hp → VK → Prop}
theorem pe_bm0 (pa : PlainAttrs T) (slot : Slot T name id) (hty : typeOf (.builtin id) = pure (.type "method_descriptor")) (hm : MtR X id r) (ho : PE X o to)
    (hbase : attributeBase o name X.env (eval o X.env) = eval o X.env := by rfl) (hline : (apos.endLine == cpos.line) = true := by rfl) : PE X (.Call (.Attribute o name apos) [] [] cpos) (tBM0 X.K T r to) := by
  intro pins s σ H Q I h
  refine wpAny_Call_method0_late hbase hline (thn (ho pins s σ H _ I h) fun v s1 ⟨x, H1, I1, r1, ty, q1⟩ => ?_)
  obtain ⟨h1, h2⟩ := tyV_is I1 r1 ty
  exact ⟨T, id, pa, slot, hty, h1, h2, Calls.callWith_builtin rfl (PySem.evalArgs_none (hm pins s1 σ H1 x [] v [] Q I1 r1 .nil q1))⟩
theorem pe_bm (pa : PlainAttrs T) (slot : Slot T name id) (hty : typeOf (.builtin id) = pure (.type "method_descriptor")) (hm : MtR X id r) (ho : PE X o to) (ha : PA X (e :: es) t)
    (hbase : attributeBase o name X.env (eval o X.env) = eval o X.env := by rfl)
    (hfew : ((backTo cpos (starEach (e :: es) X.env)).all (fun x => !x.1) && (backToKw cpos (keywordEach [] X.env)).all (fun x => x.1.isSome)
      && decide ((e :: es).length + ([] : List Keyword).length + (if ([] : List Keyword).isEmpty then 0 else 1) < 30)) = true := by rfl)
    (hline : (apos.endLine == cpos.line) = true := by rfl) (hs : starEach (e :: es) X.env = (false, eval e X.env) :: starEach es X.env := by rfl) (hplain : (backTo cpos (starEach es X.env)).any (·.1) = false := by rfl) :
    PE X (.Call (.Attribute o name apos) (e :: es) [] cpos) (tBM X.K T r to t) := by
  intro pins s σ H Q I h
  refine wpAny_Call_method_late hbase hfew hline rfl (thn (ho pins s σ H _ I h) fun v s1 ⟨x, H1, I1, r1, ty, q1⟩ => ?_)
  obtain ⟨h1, h2⟩ := tyV_is I1 r1 ty
  refine ⟨T, id, pa, slot, hty, h1, h2, ?_⟩
  have hA := ha cpos pins s1 σ H1 _ I1 q1
  rw [hs] at hA ⊢
  refine Calls.callWith_builtin (by show (false || (backTo cpos (starEach es X.env)).any (·.1)) = false; rw [hplain] <;> rfl) (Calls.evalArgs_plain ?_)
  exact thn hA fun us s2 ⟨vs, H2, I2, r2, q2⟩ => hm pins s2 σ H2 x vs v us Q I2 r1 r2 q2
end
end L2

namespace L2
open PySem PySem.Spec PyProof.Rows

def MtM (X : Cx) (id : String) (r : V → List V → Hp → VK → Prop) : Prop :=
  ∀ (pins : List (Addr × Obj)) (s : Shared) (σ : St) (H : Hp) (x : V) (xs : List V) (v : Value) (us : List Value) (Q : VK), Inv X pins σ H s → RelV x v → Vals xs us → r x xs H Q →
    wpAny (model X.prog X.w) X.A (call (.builtin id) (v :: us)) (EP X pins σ Q) X.xe s

theorem Vals.one : ∀ {x : V} {us : List Value}, Vals [x] us → ∃ u, us = [u] ∧ RelV x u
  | _, _, .cons r .nil => ⟨_, rfl, r⟩
theorem Vals.zero : ∀ {us : List Value}, Vals [] us → us = []
  | _, .nil => rfl
theorem Vals.rep {xs : List V} {us : List Value} (h : Vals xs us) : ∀ k : Nat, Vals (List.replicate k xs).flatten (List.replicate k us).flatten
  | 0 => .nil
  | k + 1 => by
    rw [List.replicate_succ, List.replicate_succ, List.flatten_cons, List.flatten_cons]
    exact Vals.append h (Vals.rep h k)
theorem foldl_rep (its : List Value) : ∀ (k : Nat) (acc : List Value),
    List.foldl (fun x1 x2 => x1 ++ x2) acc.toArray (List.replicate k its.toArray) = (acc ++ (List.replicate k its).flatten).toArray
  | 0, acc => by simp
  | k + 1, acc => by
    have e : acc.toArray ++ its.toArray = (acc ++ its).toArray := by simp
    have e2 : (acc ++ its) ++ (List.replicate k its).flatten = acc ++ (List.replicate (k + 1) its).flatten := by
      rw [List.replicate_succ, List.flatten_cons, List.append_assoc]
    rw [← e2, ← foldl_rep its k (acc ++ its), ← e, List.replicate_succ, List.foldl_cons]

section
variable {X : Cx} {pins : List (Addr × Obj)} {σ : St} {H : Hp} {s : Shared} {l b : Addr} {xs ys zs : List V}

theorem Inv.lset {its its' : List Value} {n : Nat} {f : Array Value → Array Value} {t' : Nat} (I : Inv X pins σ H s) (hH : H l = some (.lst xs))
    (e : s.heap.get? l = some { cls := .type "list", data := .seq its.toArray n }) (hf : f its.toArray = its'.toArray) (hv : Vals ys its') (hz : ys.length ≤ sizeLine) :
    Inv X pins σ (upd H l (.lst ys)) { s with heap := s.heap.update l (Obj.mapSeq f), toks := t' } := by
  have q := PySem.IsL.update e f
  rw [hf] at q
  refine I.write (x := l) (e := l) (by rw [hH]; exact trivial) (.inl rfl) (fun b' u hb hu => (Heap.get?_update_other s.heap (Obj.mapSeq f) (Ne.symm hb)).trans hu) ⟨_, q⟩ ?_
  exact ⟨hz, its', _, hv, q⟩
theorem Inv.lnew {its : List Value} {t' : Nat} (I : Inv X pins σ H s) (hv : Vals ys its) (hz : ys.length ≤ sizeLine) :
    Inv X pins σ (upd H s.heap.objs.size (.lst ys)) { s with heap := s.heap.push { cls := .type "list", data := .seq its.toArray }, toks := t' } :=
  I.laid (fun _ _ q => Heap.get?_push_of_some _ q) (Nat.le_refl _) ⟨hz, its, 0, hv, Heap.get?_push_size _ rfl⟩
theorem Inv.fresh (I : Inv X pins σ H s) : H s.heap.objs.size = none := I.hok.fresh (Nat.le_refl _)
theorem Inv.lstM (I : Inv X pins σ H s) (hH : H l = some (.lst xs)) : xs.length ≤ sizeLine ∧ ∃ (its : List Value) (n : Nat), Vals xs its ∧ xs.length = its.length ∧ s.heap.get? l = some { cls := .type "list", data := .seq its.toArray n } := by
  obtain ⟨z, its, n, r, e⟩ := I.hok l _ hH
  exact ⟨z, its, n, r, r.length, e⟩

theorem notLongL {n : Nat} (h : n ≤ sizeLine) : Builtin.List.listTooLong n = false := by
  unfold Builtin.List.listTooLong
  exact decide_eq_false (by omega)
end

section
variable {X : Cx}

def rAppend : V → List V → Hp → VK → Prop := fun x vs H Q => ∃ l xs y, x = .ref l ∧ vs = [y] ∧ H l = some (.lst xs) ∧ xs.length < sizeLine ∧ Q .non (upd H l (.lst (xs ++ [y])))
theorem mt_append : MtM X "list.append" rAppend := by
  intro pins s σ H x vs v us Q I rx rv h
  obtain ⟨l, xs, y, rfl, rfl, hH, hz, q⟩ := h
  cases rx
  obtain ⟨u, rfl, ru⟩ := rv.one
  obtain ⟨z, its, n, r, hl, e⟩ := I.lstM hH
  refine call_meets F.slot_list_append ⟨_, e, rfl⟩ F.entry_list_append (F.args_list_append_2 _ _) (PySem.list_append l its.toArray n u (by rw [List.size_toArray]; omega)) ⟨e, ?_⟩
  refine ⟨.non, _, I.lset (its' := its ++ [u]) hH e (by simp) (r.append (.cons ru .nil)) ?_, rfl, q⟩
  rw [List.length_append, List.length_singleton]
  omega

def rClear : V → List V → Hp → VK → Prop := fun x vs H Q => ∃ l xs, x = .ref l ∧ vs = [] ∧ H l = some (.lst xs) ∧ Q .non (upd H l (.lst []))
theorem mt_clear : MtM X "list.clear" rClear := by
  intro pins s σ H x vs v us Q I rx rv h
  obtain ⟨l, xs, rfl, rfl, hH, q⟩ := h
  cases rx
  have hus := rv.zero
  subst hus
  obtain ⟨z, its, n, r, hl, e⟩ := I.lstM hH
  refine call_meets F.slot_list_clear ⟨_, e, rfl⟩ F.entry_list_clear (F.args_list_clear_1 _) (AutoSeq1.list_clear_list_0 l its.toArray n (by rw [List.size_toArray]; omega)) ⟨e, ?_⟩
  exact ⟨.non, _, I.lset (its' := []) (ys := []) hH e rfl .nil (Nat.zero_le _), rfl, q⟩

def rCat : R2 := fun x y H Q => ∃ l b xs zs, x = .ref l ∧ y = .ref b ∧ H l = some (.lst xs) ∧ H b = some (.lst zs) ∧ xs.length + zs.length ≤ sizeLine ∧ ∀ p, H p = none → Q (.ref p) (upd H p (.lst (xs ++ zs)))
theorem op_cat : OpR X (binaryOp .Add) rCat := by
  intro pins s σ H x y v u Q I rx ry h
  obtain ⟨l, b, xs, zs, rfl, rfl, hH, hB, hz, q⟩ := h
  cases rx
  cases ry
  obtain ⟨z, its, n, r, hl, e⟩ := I.lstM hH
  obtain ⟨z2, its2, n2, r2, hl2, e2⟩ := I.lstM hB
  refine PySem.P.add_list e e2 ?_ (by rw [List.size_toArray, List.size_toArray]; omega)
  have ea : its.toArray ++ its2.toArray = (its ++ its2).toArray := by simp
  rw [ea]
  exact ⟨.ref _, _, I.lnew (t' := s.toks) (r.append r2) (by rw [List.length_append]; omega), rfl, q _ I.fresh⟩
def rRep : R2 := fun x y H Q => ∃ l k xs, x = .ref l ∧ y = .int k ∧ H l = some (.lst xs) ∧ -(2 ^ 63) ≤ k ∧ k < 2 ^ 63 ∧ xs.length * k.toNat ≤ sizeLine ∧
  ∀ p, H p = none → Q (.ref p) (upd H p (.lst (List.replicate k.toNat xs).flatten))
theorem len_rep {α : Type} (xs : List α) (k : Nat) : (List.replicate k xs).flatten.length = k * xs.length := by
  induction k with
  | zero => simp
  | succ k ih => rw [List.replicate_succ, List.flatten_cons, List.length_append, ih, Nat.succ_mul, Nat.add_comm]
theorem op_rep : OpR X (binaryOp .Mult) rRep := by
  intro pins s σ H x y v u Q I rx ry h
  obtain ⟨l, k, xs, rfl, rfl, hH, h1, h2, hz, q⟩ := h
  cases rx
  obtain ⟨t, rfl⟩ := ry
  obtain ⟨z, its, n, r, hl, e⟩ := I.lstM hH
  have hlen : its.toArray.size * k.toNat ≤ sizeLine := by rw [List.size_toArray, ← hl]; exact hz
  have hcap : ¬ its.toArray.size * k.toNat > (2 ^ 63 - 1) / 8 := by
    have : (sizeLine : Nat) ≤ (2 ^ 63 - 1) / 8 := by decide
    omega
  have hfit : ¬ (!Builtin.List.listFitsIndex k) = true := by
    rw [fitsIndex_both h1 h2]
    exact Bool.false_ne_true
  have hlong : ¬ Builtin.List.listTooLong (its.toArray.size * k.toNat) = true := by
    rw [notLongL hlen]
    exact Bool.false_ne_true
  have hnew : List.foldl (fun x1 x2 => x1 ++ x2) #[] (List.replicate (if its.toArray.isEmpty = true then 0 else k.toNat) its.toArray) = (List.replicate k.toNat its).flatten.toArray := by
    have f0 : ∀ m : Nat, List.foldl (fun x1 x2 => x1 ++ x2) #[] (List.replicate m its.toArray) = (List.replicate m its).flatten.toArray := fun m => by
      have := foldl_rep its m []
      rw [List.nil_append] at this
      exact this
    rw [f0]
    cases its with
    | nil => simp
    | cons a r' => rw [if_neg (by simp)]
  refine wpAny_binaryOp_repeat_ref (T := "list") (U := "int") (by decide) ⟨_, e, rfl⟩ (fun s' => typeIs_int s' k t) noFill_list_mul F.fills_int_mul F.slot_int_rmul repeat_list F.slot_int_index.lookup
    (call_meets F.slot_int_rmul (typeIs_int s k t) F.entry_int_rmul (F.args_int_rmul_2 _ _) (int___rmul___int_list k t l its.toArray n)
      ⟨e, rfl, ⟨_, e, rfl⟩, call_meets F.slot_list_mul ⟨_, e, rfl⟩ F.entry_list_mul (F.args_list_mul_2 _ _) (AutoListH.list___mul___list_int_3 l its.toArray n k t hfit hcap hlong) ⟨e, ?_⟩⟩)
  rw [hnew]
  exact ⟨.ref _, _, I.lnew (t' := s.toks) (r.rep k.toNat) (by rw [len_rep, Nat.mul_comm]; exact hz), rfl, q _ I.fresh⟩

end

section
variable {prog : Program} {w : World} {A : Around} {E : Value → Shared → Prop} {s : Shared}
end

section
variable {X : Cx}
end
end L2

namespace L2
open PySem PySem.Spec PyProof.Rows

section
variable {κ : Type} [DecidableEq κ]
def valV (kvs : List (κ × V)) (k : κ) : Option V := (kvs.find? fun kv => decide (kv.1 = k)).map (·.2)
def putK (kvs : List (κ × V)) (k : κ) (v : V) : List (κ × V) :=
  if (kvs.any fun kv => decide (kv.1 = k)) = true then kvs.map (fun kv => if kv.1 = k then (kv.1, v) else kv) else kvs ++ [(k, v)]
def dropK (kvs : List (κ × V)) (k : κ) : List (κ × V) := kvs.filter fun kv => decide (kv.1 ≠ k)

theorem valV_pos {p : κ × V} {r : List (κ × V)} {k : κ} (e : p.1 = k) : valV (p :: r) k = some p.2 := by simp [valV, List.find?_cons, e]
theorem valV_neg {p : κ × V} {r : List (κ × V)} {k : κ} (e : ¬ p.1 = k) : valV (p :: r) k = valV r k := by simp [valV, List.find?_cons, e]
theorem RelO.isSome_eq {o : Option V} {u : Option Value} (r : RelO o u) : o.isSome = u.isSome := by
  cases o with
  | none => cases u with
    | none => rfl
    | some _ => exact (show False from r).elim
  | some _ => cases u with
    | none => exact (show False from r).elim
    | some _ => rfl
theorem RelO.getD {o : Option V} {u : Option Value} {d : V} {d' : Value} (r : RelO o u) (rd : RelV d d') : RelV (o.getD d) (u.getD d') := by
  cases o with
  | none => cases u with
    | none => exact rd
    | some _ => exact (show False from r).elim
  | some _ => cases u with
    | none => exact (show False from r).elim
    | some _ => exact r

theorem KV.val {kvs : List (κ × V)} {vs : List (κ × Value)} (r : KV kvs vs) (k : κ) : RelO (valV kvs k) (valueAt vs k) := by
  unfold KV at r
  induction r with
  | nil => exact True.intro
  | @cons p q ps qs h t ih =>
    obtain ⟨h1, h2⟩ := h
    by_cases e : p.1 = k
    · have e' : q.1 = k := h1.symm.trans e
      have b : valueAt (q :: qs) k = some q.2 := by simp [valueAt, List.find?_cons, e']
      rw [valV_pos e, b]; exact h2
    · have e' : ¬ q.1 = k := fun z => e (h1.trans z)
      have b : valueAt (q :: qs) k = valueAt qs k := by simp [valueAt, List.find?_cons, e']
      rw [valV_neg e, b]; exact ih
theorem KV.any {kvs : List (κ × V)} {vs : List (κ × Value)} (r : KV kvs vs) (k : κ) : (kvs.any fun kv => decide (kv.1 = k)) = vs.any fun kv => decide (kv.1 = k) := by
  unfold KV at r
  induction r with
  | nil => rfl
  | cons h t ih => rw [List.any_cons, List.any_cons, ih, h.1]
theorem KV.drop {kvs : List (κ × V)} {vs : List (κ × Value)} (r : KV kvs vs) (k : κ) : KV (dropK kvs k) (without vs k) := by
  unfold KV at r ⊢
  unfold dropK without
  induction r with
  | nil => exact .nil
  | @cons p q ps qs h t ih =>
    obtain ⟨h1, h2⟩ := h
    rw [List.filter_cons, List.filter_cons]
    by_cases e : p.1 = k
    · have a : ¬ decide (p.1 ≠ k) = true := by simp [e]
      have b : ¬ decide (q.1 ≠ k) = true := by simp [h1.symm.trans e]
      rw [if_neg a, if_neg b]; exact ih
    · have e' : ¬ q.1 = k := fun z => e (h1.trans z)
      have a : decide (p.1 ≠ k) = true := by simp [e]
      have b : decide (q.1 ≠ k) = true := by simp [e']
      rw [if_pos a, if_pos b]; exact .cons ⟨h1, h2⟩ ih
theorem KV.keys {kvs : List (κ × V)} {vs : List (κ × Value)} (r : KV kvs vs) : kvs.map (·.1) = vs.map (·.1) := by
  unfold KV at r
  induction r with
  | nil => rfl
  | cons h t ih => rw [List.map_cons, List.map_cons, ih, h.1]
theorem KV.length {kvs : List (κ × V)} {vs : List (κ × Value)} (r : KV kvs vs) : kvs.length = vs.length := Paired.length r
end


theorem kV_is {P : Program} {w : World} {k : Key} {u : Value} (r : RelV (kV k) u) : (mixKind P w).is k u = true := by
  cases k with
  | inl i => obtain ⟨t, e⟩ := (show ∃ t, u = Value.int i t from r); subst e; exact mixKind_int P w i t
  | inr x => obtain ⟨t, e⟩ := (show ∃ t, u = Value.str x t from r); subst e; exact mixKind_str P w x t
theorem items_are {P : Program} {w : World} : ∀ {ks : List Key} {us : List Value}, Vals (ks.map kV) us → ItemsAre (mixKind P w) ks us
  | [], _, r => by rw [List.map_nil] at r; cases r; exact .nil
  | k :: ks, _, r => by
    rw [List.map_cons] at r
    cases r with
    | cons h t => exact .cons (kV_is h) (items_are t)

abbrev KT (H : Hp) : List (List Key × V) → List (List Key × Addr × Value) → Prop := Paired fun p q => p.1 = q.1 ∧ H q.2.1 = some (.tup (p.1.map kV)) ∧ RelV p.2 q.2.2
theorem KT.val {H : Hp} {kvs : List (List Key × V)} {xs : List (List Key × Addr × Value)} (r : KT H kvs xs) (k : List Key) : RelO (valV kvs k) ((atKey xs k).map (·.2)) := by
  induction r with
  | nil => exact True.intro
  | @cons p q ps qs h t ih =>
    obtain ⟨h1, _, h2⟩ := h
    by_cases e : p.1 = k
    · have e' : q.1 = k := h1.symm.trans e
      have b : atKey (q :: qs) k = some q.2 := by simp [atKey, List.find?_cons, e']
      rw [valV_pos e, b]; exact h2
    · have e' : ¬ q.1 = k := fun z => e (h1.trans z)
      have b : atKey (q :: qs) k = atKey qs k := by simp [atKey, List.find?_cons, e']
      rw [valV_neg e, b]; exact ih
theorem KT.keeps {H H' : Hp} {kvs : List (List Key × V)} {xs : List (List Key × Addr × Value)} (r : KT H kvs xs) (ht : ∀ b ys, H b = some (.tup ys) → H' b = some (.tup ys)) : KT H' kvs xs :=
  Paired.mapP r fun _ _ z => ⟨z.1, ht _ _ z.2.1, z.2.2⟩

section
variable {P : Program} {w : World} {H : Hp} {h : Heap} {a : Addr}
theorem rd_of {u : HO} (ok : HOk P w H h) (e : Rd H a u) : ObjOk P w H h a u := e.ok ok
theorem dk_rd {kvs : List (Key × V)} (ok : HOk P w H h) (e : Rd H a (.dK kvs)) : kvs.length ≤ sizeLine ∧ (a == sysModules) = false ∧ ∃ vs, KV kvs vs ∧ h.DictOf (mixKind P w) a vs :=
  show ObjOk P w H h a (.dK kvs) from rd_of ok e
theorem dk_of {kvs : List (Key × V)} (ok : HOk P w H h) (e : H a = some (.dK kvs)) : kvs.length ≤ sizeLine ∧ (a == sysModules) = false ∧ ∃ vs, KV kvs vs ∧ h.DictOf (mixKind P w) a vs := dk_rd ok (.inl e)
theorem key_of {ks : List Key} (ok : HOk P w H h) (e : H a = some (.tup (ks.map kV))) : (tupleKind (mixKind P w)).is h ks a := by
  obtain ⟨_, its, r, o, h1, h2, n, h3⟩ := (show ObjOk P w H h a (.tup (ks.map kV)) from ok a _ e)
  exact ⟨o, its.toArray, n, h1, h2, h3, by simpa using items_are r⟩
theorem dt_rd {kvs : List (List Key × V)} (ok : HOk P w H h) (e : Rd H a (.dT kvs)) : kvs.length ≤ sizeLine ∧ (a == sysModules) = false ∧
    ∃ xs, KT H kvs xs ∧ h.DictOfH (tupleKind (mixKind P w)) a xs := by
  obtain ⟨z, y, xs, r, o, es, ep, h1, h2, h3, h4, h5⟩ := (show ObjOk P w H h a (.dT kvs) from rd_of ok e)
  refine ⟨z, y, xs, r, o, es, ep, h1, h2, h3, h4, fun x hx => ?_, h5⟩
  have all : ∀ {l : List (List Key × V)} {m : List (List Key × Addr × Value)}, KT H l m → ∀ x ∈ m, (tupleKind (mixKind P w)).is h x.1 x.2.1 := by
    intro l m q
    induction q with
    | nil => intro x hx; exact nomatch hx
    | @cons p q ps qs hq t ih =>
      intro x hx
      rcases List.mem_cons.mp hx with e | hx
      · subst e
        exact key_of ok (by rw [← hq.1]; exact hq.2.1)
      · exact ih x hx
  exact all r x hx
end

def DGet (H : Hp) (a : Addr) (y : V) (r : Option V) : Prop :=
  (∃ kvs k, Rd H a (.dK kvs) ∧ y = kV k ∧ r = valV kvs k) ∨ ∃ kvs k b, Rd H a (.dT kvs) ∧ y = .ref b ∧ H b = some (.tup (k.map kV)) ∧ r = valV kvs k
def DPut (H : Hp) (a : Addr) (y v : V) (H' : Hp) : Prop :=
  (∃ kvs k, H a = some (.dK kvs) ∧ y = kV k ∧ kvs.length < sizeLine ∧ H' = upd H a (.dK (putK kvs k v))) ∨
  ∃ kvs k b, H a = some (.dT kvs) ∧ y = .ref b ∧ H b = some (.tup (k.map kV)) ∧ kvs.length < sizeLine ∧ H' = upd H a (.dT (putK kvs k v))
theorem DGet.k {H : Hp} {a : Addr} {kvs : List (Key × V)} {k : Key} (e : H a = some (.dK kvs)) : DGet H a (kV k) (valV kvs k) := .inl ⟨kvs, k, .inl e, rfl, rfl⟩
theorem DGet.t {H : Hp} {a b : Addr} {kvs : List (List Key × V)} {k : List Key} (e : H a = some (.dT kvs)) (eb : H b = some (.tup (k.map kV))) : DGet H a (.ref b) (valV kvs k) := .inr ⟨kvs, k, b, .inl e, rfl, eb, rfl⟩
theorem DPut.k {H : Hp} {a : Addr} {kvs : List (Key × V)} {k : Key} {v : V} (e : H a = some (.dK kvs)) (hl : kvs.length < sizeLine) : DPut H a (kV k) v (upd H a (.dK (putK kvs k v))) := .inl ⟨kvs, k, e, rfl, hl, rfl⟩
theorem DPut.t {H : Hp} {a b : Addr} {kvs : List (List Key × V)} {k : List Key} {v : V} (e : H a = some (.dT kvs)) (eb : H b = some (.tup (k.map kV))) (hl : kvs.length < sizeLine) :
    DPut H a (.ref b) v (upd H a (.dT (putK kvs k v))) := .inr ⟨kvs, k, b, e, rfl, eb, hl, rfl⟩


section
variable {X : Cx} {pins : List (Addr × Obj)} {σ : St} {H : Hp} {s : Shared} {a : Addr} {y v : V} {u r : Value} {o : Option V} {A : Around} {E : Value → Shared → Prop}

theorem Inv.big (I : Inv X pins σ H s) : sysModules < s.heap.objs.size := by
  have h : mainGlobals < s.heap.objs.size := (I.mod.glob.keeps I.bk).lt
  exact Nat.lt_trans (by decide) h

theorem d_getItem {Q : Value → Shared → Prop} (hu : A.units + 1 < cLine) (I : Inv X pins σ H s) (g : DGet H a y (some v)) (ry : RelV y u) (h : ∀ w' s', Inv X pins σ H s' → RelV v w' → Q w' s') :
    wpAny (model X.prog X.w) A (getItem (.ref a) u) Q E s := by
  rcases g with ⟨kvs, k, e, ey, l⟩ | ⟨kvs, k, b, e, ey, eb, l⟩
  · subst ey
    obtain ⟨z, hd, vs, rel, dd⟩ := dk_rd I.hok e
    obtain ⟨w', hw, rw'⟩ := RelO.some_of (v := v) (o := valueAt vs k) (by rw [l]; exact rel.val k)
    exact wpAny_getItem_of (kV_is ry) dd.mapOf hw (h w' _ (I.tok _) rw')
  · subst ey
    cases (show u = Value.ref b from ry)
    obtain ⟨z, hd, xs, rel, dd⟩ := dt_rd I.hok e
    obtain ⟨w', hw, rw'⟩ := RelO.some_of (v := v) (o := (atKey xs k).map (·.2)) (by rw [l]; exact rel.val k)
    obtain ⟨p, hp, hp2⟩ := Option.map_eq_some_iff.mp hw
    refine wpAny_getItem_heap (tupleKind_room_in1 hu) (key_of I.hok eb) dd hp ?_
    rw [hp2]
    exact h w' _ (I.tok _) rw'
theorem d_in {Q : Value → Shared → Prop} (hu : A.units + 1 < cLine) (I : Inv X pins σ H s) (g : DGet H a y o) (ry : RelV y u) (h : ∀ s', Inv X pins σ H s' → Q (.bool o.isSome) s') :
    wpAny (model X.prog X.w) A (compareOp .In u (.ref a)) Q E s := by
  rcases g with ⟨kvs, k, e, ey, l⟩ | ⟨kvs, k, b, e, ey, eb, l⟩
  · subst ey
    obtain ⟨z, hd, vs, rel, dd⟩ := dk_rd I.hok e
    refine wpAny_in_of (kV_is ry) hd dd.mapOf ?_
    rw [← (rel.val k).isSome_eq, ← l]
    exact h _ (I.tok _)
  · subst ey
    cases (show u = Value.ref b from ry)
    obtain ⟨z, hd, xs, rel, dd⟩ := dt_rd I.hok e
    refine wpAny_in_heap (tupleKind_room_in1 hu) (key_of I.hok eb) hd dd ?_
    have q := (rel.val k).isSome_eq
    rw [Option.isSome_map] at q
    rw [← q, ← l]
    exact h _ (I.tok _)
theorem d_notIn {Q : Value → Shared → Prop} (hu : A.units + 1 < cLine) (I : Inv X pins σ H s) (g : DGet H a y o) (ry : RelV y u) (h : ∀ s', Inv X pins σ H s' → Q (.bool (!o.isSome)) s') :
    wpAny (model X.prog X.w) A (compareOp .NotIn u (.ref a)) Q E s := by
  rcases g with ⟨kvs, k, e, ey, l⟩ | ⟨kvs, k, b, e, ey, eb, l⟩
  · subst ey
    obtain ⟨z, hd, vs, rel, dd⟩ := dk_rd I.hok e
    refine wpAny_notIn_of (kV_is ry) hd dd.mapOf ?_
    rw [← (rel.val k).isSome_eq, ← l]
    exact h _ (I.tok _)
  · subst ey
    cases (show u = Value.ref b from ry)
    obtain ⟨z, hd, xs, rel, dd⟩ := dt_rd I.hok e
    refine wpAny_notIn_heap (tupleKind_room_in1 hu) (key_of I.hok eb) hd dd ?_
    have q := (rel.val k).isSome_eq
    rw [Option.isSome_map] at q
    rw [← q, ← l]
    exact h _ (I.tok _)
end

section
variable {X : Cx} {pins : List (Addr × Obj)} {σ : St} {H : Hp} {s : Shared} {a : Addr} {kvs : List (Key × V)} {k : Key} {u : Value} {A : Around} {E : Value → Shared → Prop}
end


section
variable {X : Cx} {o i e value : Expr} {pos pos' tpos : Pos} {td ty tv : TE}
end


section
variable {X : Cx} {pos : Pos}
end

structure M1 (X : Cx) (o : Expr) (m : Str) (apos : Pos) (e : Expr) (cpos : Pos) : Prop where
  base : attributeBase o m X.env (eval o X.env) = eval o X.env
  few : ((backTo cpos (starEach [e] X.env)).all (fun x => !x.1) && (backToKw cpos (keywordEach [] X.env)).all (fun x => x.1.isSome)
    && decide (([e] : List Expr).length + ([] : List Keyword).length + (if ([] : List Keyword).isEmpty then 0 else 1) < 30)) = true
  line : (apos.endLine == cpos.line) = true
  trees : backTo cpos (starEach [e] X.env) = [(false, eval e X.env)]
structure M2 (X : Cx) (o : Expr) (m : Str) (apos : Pos) (e f : Expr) (cpos : Pos) : Prop where
  base : attributeBase o m X.env (eval o X.env) = eval o X.env
  few : ((backTo cpos (starEach [e, f] X.env)).all (fun x => !x.1) && (backToKw cpos (keywordEach [] X.env)).all (fun x => x.1.isSome)
    && decide (([e, f] : List Expr).length + ([] : List Keyword).length + (if ([] : List Keyword).isEmpty then 0 else 1) < 30)) = true
  line : (apos.endLine == cpos.line) = true
  trees : backTo cpos (starEach [e, f] X.env) = [(false, eval e X.env), (false, eval f X.env)]

def IsD (H : Hp) (a : Addr) : Prop := (∃ kvs, Rd H a (.dK kvs)) ∨ ∃ kvs, Rd H a (.dT kvs)
section
variable {X : Cx} {pins : List (Addr × Obj)} {σ : St} {H : Hp} {s : Shared} {a : Addr} {y d : V} {u r : Value} {o : Option V} {A : Around} {E : Value → Shared → Prop}
end

section
variable {X : Cx} {o e f : Expr} {apos cpos : Pos} {td ty tx : TE}
end

section
variable {X : Cx} {pins : List (Addr × Obj)} {σ : St} {H : Hp} {s : Shared} {a : Addr} {kvs : List (Key × V)} {A : Around} {E : Value → Shared → Prop}
end


section
variable {X : Cx} {pins : List (Addr × Obj)} {σ : St} {H : Hp} {s : Shared} {a : Addr} {y : V} {u : Value} {A : Around} {E : Value → Shared → Prop}
end
end L2

namespace Att
open PySem PySem.W PySem.Calls PyProof.Rows

theorem ints_of_wellAll {P : Params} {h : Heap} : ∀ (ns : List Int) (vs : List Value), WellAll P h vs (ns.map WData.int) → IntsAre vs ns := by
  intro ns
  induction ns with
  | nil =>
    intro vs w
    rw [List.map_nil] at w
    cases w
    exact .nil
  | cons n ns ih =>
    intro vs w
    rw [List.map_cons] at w
    cases w with
    | cons a b =>
      cases a
      exact .cons _ _ (ih _ b)

theorem script_of {l : OpenLaw} {n : Nat} (hn : l.most = some n) {P : Params} {h : Heap} {args : List WData} {vals : List Value}
    (hpre : l.row.toRowW.claim.pre args = true) (hwl : WellAll P h vals args) :
    ∃ a vs ns, vals = [Value.ref a] ∧ args = [WData.list (ns.map WData.int)] ∧ h.get? a = some { cls := .type "list", data := .seq vs.toArray } ∧ IntsAre vs ns ∧ ns.length ≤ n := by
  have hsh : WShape.hasAll [] args [.list .int] = true := (pre_splitW hpre).1
  have hc : l.pre.holds [] { args := args } = true := (pre_splitW hpre).2
  obtain ⟨d, r, rfl, h1, h2⟩ := hasAllW_cons hsh
  obtain rfl := hasAllW_nil h2
  obtain ⟨xs, rfl, h3⟩ := hasW_list h1
  obtain ⟨ns, rfl⟩ := items_int h3
  have hlen : ns.length ≤ n := by
    unfold OpenLaw.pre at hc
    have h4 : (WTm.not (.lt (.lit (.int (n : Int))) (.len (.arg 0)))).holds [] { args := [.list (ns.map .int)] } = true := by
      have h4 := (holds_andW hc).1
      rw [hn] at h4
      exact h4
    have h5 := condW_of h4 (w_not (w_lt w_lit (w_len_list (w_arg rfl))))
    rw [List.length_map] at h5
    refine Nat.le_of_not_lt fun q => ?_
    have q' : (n : Int) < ((ns.length : Nat) : Int) := by omega
    first
      | (rw [decide_eq_true q'] at h5; exact absurd h5 (by decide))
      | (simp at h5; omega)
  cases hwl with
  | cons w1 w2 =>
    cases w2
    cases w1 with
    | list ho hall => exact ⟨_, _, ns, rfl, rfl, ho, ints_of_wellAll ns _ hall, hlen⟩

theorem post_true (l : OpenLaw) (args : List WData) : l.row.toRowW.claim.post args (.bool true) args = true :=
  postW_of (r := l.row.toRowW) (X := (true == true))
    (show WShape.has [] (.bool true) .bool = true by first | rfl | decide | simp [WShape.has, WShape.arms, WShape.armsAll])
    (show (WTm.eq .res (.lit (.bool true))).value [] { args := args, res := some (.bool true), after := args } = some (.bool (true == true)) from w_eq_bool (w_res rfl) w_lit) rfl

theorem attach_call {l : OpenLaw} {n : Nat} {q : Program} {loose : List Str} {XP : (Str → Option Value) → Heap → Prop} {YP : World → Heap → Prop} {d : DefRec}
    (hn : l.most = some n) (hdf : d.params.defaults = [])
    (call : ∀ (w : World) (s₀ s₁ : Shared) (mg mb : Str → Option Value) (fa : Addr) (o : Obj) (pm cd doc : Value) (a : Addr) (vs : List Value) (ns : List Int),
      Ground q loose [] XP w s₀ mg mb s₁.heap → YP w s₁.heap →
      s₁.heap.get? fa = some o → o.data = .func (docDef d.name d.params d.body d.scope pm cd doc) → s₁.heap.CodeRec cd d.name → mg d.name = some (.ref fa) →
      s₁.heap.get? a = some { cls := .type "list", data := .seq vs.toArray } → IntsAre vs ns → ns.length ≤ n → s₁.gens = #[] →
      codeAny (model l.prog w) callerA (.call (.ref fa) ⟨[.ref a], []⟩) (fun r s' => r = .ok (.ret (.bool true)) ∧ OldK s₁.heap s'.heap ∧ s'.os = s₁.os ∧ AllBare s'.gens) s₁) :
    WalkO q loose XP YP l.row.toRowW d [] (fun f vs => PySem.call f vs) := by
  intro w s₀ s₁ mg mb G Y fa o pm cd doc dV kV ho hd hcd hD hmg hg args vals as hpre hlay hrd hwl hlo
  obtain rfl : dV = .none := Dflts.none hD hdf
  obtain rfl : kV = .none := Dflts.noKw hD
  obtain ⟨a, vs, ns, rfl, rfl, hobj, hints, hlen⟩ := script_of hn hpre hwl
  refine enter_call (codeAny_mono (call w s₀ s₁ mg mb fa o pm cd doc a vs ns G Y ho (fd_plain hd) hcd hmg hobj hints hlen hg) fun r s' hq => ?_)
  obtain ⟨rfl, h2, h3, h4⟩ := hq
  exact ⟨.inl ⟨.bool true, .bool true, [], rfl, fun _ => rfl, .bool true, post_true l _, fun _ => ⟨List.Pairwise.nil, fun _ hm => (nomatch hm)⟩⟩, h2, h3, h4⟩

section
variable {prog : Program} {w : World} {A : Around} {E : Value → Shared → Prop} {s : Shared} {K : Frag}

end
end Att

namespace L2
open PySem PySem.Spec PyProof.Rows

theorem vals_ints : ∀ {vs : List Value} {ns : List Int}, IntsAre vs ns → Vals (ns.map V.int) vs
  | _, _, .nil => .nil
  | _, _, .cons n t h => .cons ⟨t, rfl⟩ (vals_ints h)

def Only (H : Hp) : Prop := ∀ b, H b = none ∨ ∃ o xs, H b = some (.frz o (.lst xs))

theorem law_call {P : Program} {w : World} {K : PySem.W.Frag} {mg mb : Str → Option Value} {CX : CXT} {k : Nat} {fa a : Addr} {fd : FuncData} {x : Str} {sp : Sp} {s₁ : Shared} {vs : List Value} {ns : List Int}
    (KX : K.In s₁.heap) (hns : s₁.heap.Ns mainGlobals mg) (hb : s₁.heap.Ns builtinsNs mb) (hbb : ∀ x : Str, x ≠ "__name__" → mb x = bootBuiltins x) (hlim : s₁.heap.NoLimit) (hg : s₁.gens = #[])
    (ha : s₁.heap.get? a = some { cls := .type "list", data := .seq vs.toArray }) (hi : IntsAre vs ns) (hl : ns.length ≤ sizeLine) (hr : Room k callerA)
    (F : ∀ base : Heap, K.In base → base.Ns mainGlobals mg → FnOk P w K mg base CX k fa fd [x] sp) (hbind : ∀ (s : Shared) (u : Value), BindsTo s fd ⟨[u], []⟩ [(x, u)])
    (hsp : ∀ H : Hp, Only H → SqL K H a (ns.map V.int) → sp [.ref a] H (fun v _ => v = .bl true) fun _ _ _ => False)
    (hCX : ∀ H e s', CX [] H s₁ (fun _ _ _ => False) e s' → False) :
    codeAny (model P w) callerA (.call (.ref fa) ⟨[.ref a], []⟩) (fun r s' => r = .ok (.ret (.bool true)) ∧ OldK s₁.heap s'.heap ∧ s'.os = s₁.os ∧ AllBare s'.gens) s₁ := by
  have rv := vals_ints hi
  have lenV := hi.length
  have core : ∀ H : Hp, Only H → SqL K H a (ns.map V.int) → HOk P w H s₁.heap → (∀ b, H b ≠ none → b = a) → (H a ≠ none → K.lookup a = none) →
      codeAny (model P w) callerA (.call (.ref fa) ⟨[.ref a], []⟩) (fun r s' => r = .ok (.ret (.bool true)) ∧ OldK s₁.heap s'.heap ∧ s'.os = s₁.os ∧ AllBare s'.gens) s₁ := by
    intro H hO hS hok hA hK
    have base_of : ∀ {b : Addr} {o : Obj}, s₁.heap.get? b = some o → H b = none → (hidT s₁.heap H).get? b = some o := fun e n => hidT_get e n
    have noA : ∀ {b : Addr} {o : Obj} {es : Array DictEntry} {ep : Nat}, s₁.heap.get? b = some o → o.data = .dict es ep → H b = none := fun {b o es ep} e d => by
      cases q : H b with
      | none => rfl
      | some u =>
        have e' : b = a := hA b (by rw [q]; simp)
        subst e'
        rw [ha] at e; cases e
        have d' : Data.seq vs.toArray _ = Data.dict es ep := d
        cases d'
    have nsK : ∀ {b : Addr} {m : Str → Option Value}, s₁.heap.Ns b m → (hidT s₁.heap H).Ns b m := fun {b m} ⟨o, es, ep, e, d, r⟩ => ⟨o, es, ep, base_of e (noA e d), d, r⟩
    have hKb : K.In (hidT s₁.heap H) := fun b o e => base_of (KX b o e) (by
      cases q : H b with
      | none => rfl
      | some u =>
        have e' : b = a := hA b (by rw [q]; simp)
        subst e'
        rw [hK (by rw [q]; simp)] at e; cases e)
    have hM : Mod K mg (hidT s₁.heap H) := ⟨hKb, nsK hns, ⟨mb, nsK hb, hbb⟩, let ⟨mc, h1, h2⟩ := hlim; ⟨mc, nsK h1, h2⟩⟩
    have e0 : Env0 P w K mg (hidT s₁.heap H) callerA [] s₁ H := ⟨rfl, hM, fun b o e => of_hidT e, Nat.le_of_eq (hidT_size _ _), trivial, fun b hb => absurd (show b ∈ ([] : List Addr) from hb) (by simp), hok, .of_eq hg⟩
    refine codeAny_mono ((F _ hKb (nsK hns)).run callerA [] s₁ H ⟨[.ref a], []⟩ [.ref a] [.ref a] _ _ hr e0 (hbind s₁ (.ref a)) (.cons rfl .nil) (hsp H hO hS)) fun r s' h => ?_
    cases r with
    | error e => exact (hCX H e s' h).elim
    | ok fl =>
      cases fl with
      | next => exact False.elim h
      | brk => exact False.elim h
      | cont => exact False.elim h
      | ret u =>
        obtain ⟨v, H', os, bare, un, hok', r', q⟩ := h
        have q' : v = .bl true := q
        subst q'
        obtain rfl : u = Value.bool true := r'
        refine ⟨rfl, OldK.of_keep fun b o e => ?_, os, bare⟩
        cases q : H b with
        | none => exact un.keep b o e q (by intro z; exact absurd (show b ∈ ([] : List Addr) from z) (by simp)) (by simp)
        | some u =>
          rcases hO b with z | ⟨ob, xs, z⟩
          · rw [q] at z; cases z
          · have z2 := un.frzs b ob _ z
            obtain ⟨e1, _⟩ := hok b _ z
            obtain ⟨e2, _⟩ := hok' b _ z2
            rw [e] at e1; cases e1
            exact e2
  cases hk : K.lookup a with
  | some o =>
    have e := KX a o hk
    rw [ha] at e
    cases e
    refine core (fun _ => none) (fun _ => .inl rfl) (.inr ⟨_, vs.toArray, _, hk, rfl, rfl, rfl, by rw [List.size_toArray, lenV]; exact hl, by simpa using rv⟩) (fun b u z => by have z' : (none : Option HO) = some u := z; cases z') (fun b z => absurd rfl z) fun z => absurd rfl z
  | none =>
    refine core (fun b => if b = a then some (.frz { cls := .type "list", data := .seq vs.toArray } (.lst (ns.map V.int))) else none) (fun b => ?_) (.inl (.inr ⟨{ cls := .type "list", data := .seq vs.toArray }, if_pos rfl⟩)) (fun b u z => ?_) (fun b z => ?_) fun _ => hk
    · by_cases hb : b = a
      · exact .inr ⟨_, _, if_pos hb⟩
      · exact .inl (if_neg hb)
    · by_cases hb : b = a
      · have z' := (if_pos hb).symm.trans z
        cases z'
        subst hb
        exact ⟨ha, by rw [List.length_map]; exact hl, vs, _, rv, ha⟩
      · have z' := (if_neg hb).symm.trans z
        cases z'
    · by_cases hb : b = a
      · exact hb
      · exact absurd (if_neg hb) z
end L2

namespace L2
open PySem PySem.Spec PyProof.Rows

abbrev KOf {K : PySem.W.Frag} {h : Heap} (_ : K.In h) : PySem.W.Frag := K

theorem walk_of {l : PySem.W.OpenLaw} {n k : Nat} {q : Program} {loose : List Str} {XP : (Str → Option Value) → Heap → Prop} {YP : World → Heap → Prop} {d : DefRec} {K : Params → PySem.W.Frag} {CX : World → CXT} {sp : World → Sp} {x : Str}
    (hn : l.most = some n) (hn2 : n ≤ sizeLine) (hdf : d.params.defaults = []) (hr : Room k callerA)
    (hY : ∀ (w : World) (h : Heap), YP w h → (K w.params).In h)
    (F : ∀ (w : World) (mg : Str → Option Value) (fa : Addr) (h : Heap), (K w.params).In h → h.Ns mainGlobals mg → mg d.name = some (.ref fa) →
      ∃ fd : FuncData, (∀ (s : Shared) (u : Value), BindsTo s fd ⟨[u], []⟩ [(x, u)]) ∧
        ∀ base : Heap, (K w.params).In base → base.Ns mainGlobals mg → FnOk l.prog w (K w.params) mg base (CX w) k fa fd [x] (sp w))
    (hsp : ∀ (w : World) (H : Hp) (a : Addr) (ns : List Int), ns.length ≤ n → Only H → SqL (K w.params) H a (ns.map V.int) → sp w [.ref a] H (fun v _ => v = .bl true) fun _ _ _ => False)
    (hCX : ∀ (w : World) (H : Hp) (s : Shared) (e : Value) (s' : Shared), CX w [] H s (fun _ _ _ => False) e s' → False) :
    PySem.W.WalkO q loose XP YP l.row.toRowW d [] (fun f vs => PySem.call f vs) := by
  refine Att.attach_call hn hdf fun w s₀ s₁ mg mb fa o pm cd doc a vs ns G Y ho hd hcd hmg hobj hints hlen hg => ?_
  have KX := hY w _ Y
  obtain ⟨fd, hb, hF⟩ := F w mg fa _ KX G.T.g hmg
  exact law_call KX G.T.g G.T.b G.T.builtins G.T.nolimit hg hobj hints (Nat.le_trans hlen hn2) hr hF hb (fun H hO hS => hsp w H a ns hlen hO hS) fun H e s' => hCX w H s₁ e s'
theorem walk_ofK {l : PySem.W.OpenLaw} {n k : Nat} {q : Program} {loose : List Str} {XP : (Str → Option Value) → Heap → Prop} {YP : World → Heap → Prop} {d : DefRec} {K : Params → PySem.W.Frag} {CX : CXT} {sp : PySem.W.Frag → Sp} {x : Str}
    (hn : l.most = some n) (hn2 : n ≤ sizeLine) (hdf : d.params.defaults = []) (hr : Room k callerA)
    (hY : ∀ (w : World) (h : Heap), YP w h → (K w.params).In h)
    (F : ∀ (w : World) (mg : Str → Option Value) (fa : Addr) (h : Heap), (K w.params).In h → h.Ns mainGlobals mg → mg d.name = some (.ref fa) →
      ∃ fd : FuncData, (∀ (s : Shared) (u : Value), BindsTo s fd ⟨[u], []⟩ [(x, u)]) ∧
        ∀ base : Heap, (K w.params).In base → base.Ns mainGlobals mg → FnOk l.prog w (K w.params) mg base CX k fa fd [x] (sp (K w.params)))
    (hsp : ∀ (K : PySem.W.Frag) (H : Hp) (a : Addr) (ns : List Int), ns.length ≤ n → Only H → SqL K H a (ns.map V.int) → sp K [.ref a] H (fun v _ => v = .bl true) fun _ _ _ => False)
    (hCX : ∀ (H : Hp) (s : Shared) (e : Value) (s' : Shared), CX [] H s (fun _ _ _ => False) e s' → False) :
    PySem.W.WalkO q loose XP YP l.row.toRowW d [] (fun f vs => PySem.call f vs) :=
  walk_of (K := K) (CX := fun _ => CX) (sp := fun w => sp (K w.params)) hn hn2 hdf hr hY F (fun w H a ns h1 h2 h3 => hsp (K w.params) H a ns h1 h2 h3) fun _ H s e s' => hCX H s e s'
end L2


namespace L2
open PySem PySem.Spec PyProof.Rows

def defArgs (s : Stmt) : Arguments := match s with
  | .FunctionDef _ a _ _ _ _ _ _ _ _ => a
  | _ => { posonlyargs := [], args := [], vararg := none, kwonlyargs := [], kw_defaults := [], kwarg := none, defaults := [] }
def defBody (s : Stmt) : List Stmt := match s with
  | .FunctionDef _ _ b _ _ _ _ _ _ _ => b
  | _ => []
def defScope (s : Stmt) : Scope := match s with
  | .FunctionDef _ _ _ _ _ _ sc _ _ _ => sc
  | _ => { kind := .function, names := [], isGenerator := false, isCoroutine := false }

abbrev CX0 : CXT := fun _ _ _ _ _ _ => False
abbrev E0 : XK := fun _ _ _ => False
theorem pass0 {X : Cx} : Passes CX0 X E0 := fun _ _ _ _ _ _ _ h => h.elim

structure Fun (K : PySem.W.Frag) (x qual : Str) (st : Stmt) (f : Addr) (fd : FuncData) : Prop where
  ex : ∃ (oc : Value) (od : Option Addr) (kV doc pm : Value) (an : Option Addr) (cdv ct : Value) (osl : Array (Option Value)),
    fd = PySem.W.fnOf x qual (defArgs st) (defBody st) (defScope st) .none kV doc pm an cdv ct ∧ K.lookup f = some ⟨oc, od, .func fd, osl⟩ ∧ PySem.W.codeIn K cdv qual = true
  kp : PySem.W.keepIn K (.ref f) = true
section
variable {P : Program} {w : World} {K : PySem.W.Frag} {mg : Str → Option Value} {base : Heap}
theorem Fun.ok {x qual : Str} {st : Stmt} {f : Addr} {fd : FuncData} {N ps : List Str} {k : Nat} {sp : Sp} (F : Fun K x qual st f fd) (S : FnScope N ps (defScope st)) (len : ∀ vs H Q E, sp vs H Q E → vs.length = ps.length)
    (hbody : ∀ (cdv : Value) (A : Around) (outer : List Env) (s : Shared) (H : Hp) (vs : List V) (Q : VK) (E : XK), Room k (A.deeper (envOfC qual (defScope st) s.heap.objs.size f cdv)) → sp vs H Q E →
      ∃ t, PSs (cxOf CX0 P w K mg base N qual (defScope st) f cdv A outer s H E).nox (defBody st) t ∧ t { nx := fun _ H' => Q .non H', rt := Q } (start N vs) H) : FnOk P w K mg base CX0 (k + 1) f fd ps sp := by
  obtain ⟨oc, od, kV, doc, pm, an, cdv, ct, osl, rfl, lk, hcd⟩ := F.ex
  refine fn_of lk hcd S len fun A outer s H vs Q E hr hsp => ?_
  obtain ⟨t, h, q⟩ := hbody cdv A outer s H vs Q E hr hsp
  exact ⟨t, h.nox, q⟩
theorem Fun.binds {x qual : Str} {st : Stmt} {f : Addr} {fd : FuncData} {ps : List Str} (F : Fun K x qual st f fd)
    (h : ∀ (kV doc pm : Value) (an : Option Addr) (cdv ct : Value) (us : List Value), us.length = ps.length → bindArgs (PySem.W.fnOf x qual (defArgs st) (defBody st) (defScope st) .none kV doc pm an cdv ct) ⟨us, []⟩ = pure (ps.zip us)) : Binds K fd ps [] := by
  obtain ⟨oc, od, kV, doc, pm, an, cdv, ct, osl, rfl, lk, hcd⟩ := F.ex
  exact .all (h kV doc pm an cdv ct)
theorem fun_mk {x qual : Str} {st : Stmt} {f : Addr} {oc : Value} {od an : Option Addr} {osl : Array (Option Value)} {kV doc pm cdv ct : Value} (l : K.lookup f = some ⟨oc, od, .func (PySem.W.fnOf x qual (defArgs st) (defBody st) (defScope st) .none kV doc pm an cdv ct), osl⟩)
    (c : PySem.W.codeIn K cdv qual = true) (k : PySem.W.keepIn K (.ref f) = true) : Fun K x qual st f (PySem.W.fnOf x qual (defArgs st) (defBody st) (defScope st) .none kV doc pm an cdv ct) := ⟨⟨oc, od, kV, doc, pm, an, cdv, ct, osl, rfl, l, c⟩, k⟩
end
section
variable {X : Cx}
end

theorem ite2 {c A B : Prop} [Decidable c] (h1 : c → A) (h2 : ¬ c → B) : if c then A else B := by
  by_cases h : c
  · rw [if_pos h]
    exact h1 h
  · rw [if_neg h]
    exact h2 h
def Same (H H' : Hp) : Prop := ∀ b o, H b = some o → H' b = some o
theorem Same.refl (H : Hp) : Same H H := fun _ _ h => h
theorem Same.trans {H H1 H2 : Hp} (a : Same H H1) (b : Same H1 H2) : Same H H2 := fun c o h => b c o (a c o h)
theorem Same.free {H H' : Hp} (e : Same H H') {l : Addr} (h : H' l = Option.none) : H l = Option.none := by
  cases q : H l with
  | none => rfl
  | some o =>
    rw [e l o q] at h
    cases h
theorem Same.seq {K : PySem.W.Frag} {H H' : Hp} {a : Addr} {xs : List V} (e : Same H H') (h : SqL K H a xs) : SqL K H' a xs := by
  rcases h with (h | ⟨o, h⟩) | h
  · exact .inl (.inl (e _ _ h))
  · exact .inl (.inr ⟨o, e _ _ h⟩)
  · exact .inr h

section
variable {κ : Type} [DecidableEq κ]
end
end L2

set_option Elab.async false
set_option linter.all false
set_option maxRecDepth 100000
set_option maxHeartbeats 4000000
namespace L2
open PySem PySem.Spec PyProof.Rows

def closOf (env : Env) : List (Str × NameKind) → List (Str × Addr) → List (Str × Addr)
  | [], acc => acc
  | (n, k) :: r, acc => if k == .free then (match env.cells.lookup n with
      | some c => closOf env r ((n, c) :: acc)
      | none => closOf env r acc) else closOf env r acc
theorem closOf_ok {env : Env} : ∀ {names : List (Str × NameKind)} {acc : List (Str × Addr)}, (∀ n c, acc.lookup n = some c → env.cells.lookup n = some c) →
    ∀ n c, (closOf env names acc).lookup n = some c → env.cells.lookup n = some c
  | [], acc, h, n, c, e => h n c e
  | (x, k) :: r, acc, h, n, c, e => by
    unfold closOf at e
    split at e
    · split at e
      · rename_i cx hx
        refine closOf_ok (fun y d q => ?_) n c e
        rw [List.lookup_cons] at q
        cases hb : y == x with
        | true => rw [hb] at q; cases q; rw [beq_iff_eq.mp hb]; exact hx
        | false => rw [hb] at q; exact h y d q
      · exact closOf_ok h n c e
    · exact closOf_ok h n c e
theorem closOf_acc {env : Env} : ∀ {names : List (Str × NameKind)} {acc : List (Str × Addr)} {n : Str}, (acc.lookup n).isSome = true → ((closOf env names acc).lookup n).isSome = true
  | [], _, _, h => h
  | (x, k) :: r, acc, n, h => by
    unfold closOf
    split
    · split
      · refine closOf_acc ?_
        rw [List.lookup_cons]
        cases n == x with
        | true => rfl
        | false => exact h
      · exact closOf_acc h
    · exact closOf_acc h
theorem closOf_has {env : Env} : ∀ {names : List (Str × NameKind)} {acc : List (Str × Addr)} {n : Str} {c : Addr}, (n, NameKind.free) ∈ names → env.cells.lookup n = some c → ((closOf env names acc).lookup n).isSome = true
  | [], _, _, _, h, _ => nomatch h
  | (x, k) :: r, acc, n, c, h, e => by
    rcases List.mem_cons.mp h with q | q
    · cases q
      unfold closOf
      rw [if_pos (by rfl), e]
      refine closOf_acc ?_
      rw [List.lookup_cons, beq_self_eq_true]
      rfl
    · unfold closOf
      split
      · split
        · exact closOf_has q e
        · exact closOf_has q e
      · exact closOf_has q e
theorem closureFor_of {scope : Scope} {env : Env} (h : ∀ y ∈ scope.names, y.2 = .free → ∃ c, env.cells.lookup y.1 = some c) : closureFor scope env = pure (closOf env scope.names []) := by
  simp only [closureFor]
  have go : ∀ (names : List (Str × NameKind)) (acc : List (Str × Addr)), (∀ y ∈ names, y.2 = .free → ∃ c, env.cells.lookup y.1 = some c) →
      (forIn names acc (fun x cs => if (x.2 == NameKind.free) = true then (do let a ← cellOf env x.1; pure (ForInStep.yield ((x.1, a) :: cs))) else pure (ForInStep.yield cs)) : Sem (List (Str × Addr))) = pure (closOf env names acc) := by
    intro names
    induction names with
    | nil => intro acc _; rfl
    | cons p r ih =>
      intro acc hh
      obtain ⟨n, k⟩ := p
      rw [List.forIn_cons]
      unfold closOf
      by_cases hk : (k == NameKind.free) = true
      · obtain ⟨c, hc⟩ := hh (n, k) List.mem_cons_self (by simpa using hk)
        have hc' : env.cells.lookup n = some c := hc
        rw [if_pos hk, if_pos hk, hc']
        have e : cellOf env n = pure c := by unfold cellOf; rw [hc']
        simp only [e, pure_bind]
        exact ih _ fun y hy => hh y (List.mem_cons_of_mem _ hy)
      · rw [if_neg hk, if_neg hk]
        simp only [pure_bind]
        exact ih _ fun y hy => hh y (List.mem_cons_of_mem _ hy)
  have := go scope.names [] h
  simpa using this

theorem lookup_relabel {env : Env} : ∀ {names : List (Str × NameKind)} {x : Str},
    (names.map fun (n, k) => if (k == NameKind.free && env.scope.kind == .function && env.kindOf n == some .cell) then (n, NameKind.cell) else (n, k)).lookup x =
      (names.lookup x).map fun k => if (k == NameKind.free && env.scope.kind == .function && env.kindOf x == some .cell) then NameKind.cell else k
  | [], _ => rfl
  | (n, k) :: r, x => by
    have ih := @lookup_relabel env r x
    rw [List.map_cons]
    show List.lookup x ((if (k == NameKind.free && env.scope.kind == .function && env.kindOf n == some .cell) = true then (n, NameKind.cell) else (n, k)) :: _) = _
    cases hx : x == n with
    | true =>
      have e : x = n := beq_iff_eq.mp hx
      subst e
      by_cases hc : (k == NameKind.free && env.scope.kind == .function && env.kindOf x == some .cell) = true
      · rw [if_pos hc, List.lookup_cons, List.lookup_cons, hx]
        simp only [Option.map_some, hc, if_true]
      · rw [if_neg hc, List.lookup_cons, List.lookup_cons, hx]
        simp only [Option.map_some]
        rw [if_neg hc]
    | false =>
      by_cases hc : (k == NameKind.free && env.scope.kind == .function && env.kindOf n == some .cell) = true
      · rw [if_pos hc, List.lookup_cons, List.lookup_cons, hx]; exact ih
      · rw [if_neg hc, List.lookup_cons, List.lookup_cons, hx]; exact ih

theorem comp_loop {prog : Program} {w : World} {A : Around} {R : Result → Shared → Prop} {s : Shared} {elt target iter : Expr} {ifs : List Expr} {scope : Scope} {pos : Pos} {it acc : Value} {env : Env} (I : Nat → Shared → Prop)
    (turn : ∀ n s, I n s → wpAny (model prog w) A (pyNext it) (fun r s₁ => match r with
      | none => R (.ok .next) s₁
      | some v => wpAny (model prog w) A (letOwnedTupleGo target it v) (fun _ s₁' => wpAny (model prog w) A (assign target env v) (fun _ s₂ =>
          wpAny (model prog w) A (forIn ifs true fun c r => if r = true then do let ok ← isTrue c env (eval c env); pure (ForInStep.yield ok) else pure (ForInStep.yield r)) (fun ok s₃ =>
            if ok = true then wpAny (model prog w) A (eval elt env) (fun x s₄ =>
              wpAny (model prog w) A (call (.builtin "list.append") [acc, x]) (fun _ s₅ => ∃ m, m < n ∧ I m s₅) (notedBy (model prog w) A env fun e s' => R (.error e) s') s₄) (notedBy (model prog w) A env fun e s' => R (.error e) s') s₃
            else ∃ m, m < n ∧ I m s₃) (notedBy (model prog w) A env fun e s' => R (.error e) s') s₂) (notedBy (model prog w) A env fun e s' => R (.error e) s') s₁') (notedBy (model prog w) A env fun e s' => R (.error e) s') s₁) (notedBy (model prog w) A env fun e s' => R (.error e) s') s)
    (n : Nat) (h : I n s) :
    codeAny (model prog w) A (.compLoop (.ListComp elt [⟨target, iter, ifs, 0⟩] scope pos) 0 it acc env) R s := by
  refine codeAny_loop rfl I (fun n s hI => ?_) n h
  show wpAny _ A ((compTurn (.ListComp elt [⟨target, iter, ifs, 0⟩] scope pos) 0 it acc env).onRaise (fun x => do noteFrame x env; theTreesLotGoes x)) _ _ s
  refine wpAny_noted ?_
  rw [compTurn_list]
  refine wpAny_bind (wpAny_standAt (wpAny_bind (wpAny_mono (turn n s hI) (fun r s₁ h₁ => ?_) fun _ _ h' => h')))
  cases r with
  | none => exact wpAny_pure h₁
  | some v =>
    refine wpAny_bind (wpAny_mono h₁ (fun _ s₁' h₁' => ?_) fun _ _ h' => h')
    refine wpAny_bind (wpAny_mono h₁' (fun _ s₂ h₂ => wpAny_bind (wpAny_mono h₂ (fun ok s₃ h₃ => ?_) fun _ _ h' => h')) fun _ _ h' => h')
    cases ok with
    | false => exact wpAny_pure ⟨rfl, h₃⟩
    | true =>
      exact wpAny_bind (wpAny_bind (wpAny_mono h₃ (fun x s₄ h₄ => wpAny_bind (wpAny_mono h₄ (fun _ s₅ h₅ => wpAny_pure (wpAny_pure ⟨rfl, h₅⟩)) fun _ _ h' => h')) fun _ _ h' => h'))

def capt (cap : List (Option Nat)) (σ : St) : St := cap.map fun o => o.bind fun i => (σ[i]?).join

def cxComp (X : Cx) (N : List Str) (scope : Scope) (C : Addr) (s : Shared) (H : Hp) (ex : List Addr) : Cx where
  prog := X.prog
  w := X.w
  K := X.K
  mg := X.mg
  base := X.base
  A := X.A
  N := N
  s₀ := s
  H₀ := H
  env := compEnvC scope (closOf X.env scope.names []) C X.env
  outer := X.stack
  stack := X.stack
  ex := ex
  fn := fun _ => false
  calm := X.calm
  pn := []
  xe := fun _ _ => False

structure CompScope (X : Cx) (N : List Str) (cap : List (Option Nat)) (scope : Scope) : Prop where
  kind : scope.kind = .function
  nocell : ∀ y ∈ scope.names, y.2 ≠ .cell
  loc : ∀ y ∈ scope.names, y.2 = .local → scope.names.lookup y.1 = some .local
  fre : ∀ y ∈ scope.names, y.2 = .free → X.env.scope.names.lookup y.1 = some .cell ∨ X.env.scope.names.lookup y.1 = some .free
  nd : N.Nodup
  len : cap.length = N.length
  cap : ∀ (j i : Nat), cap[j]? = some (some i) → ∃ y, N[j]? = some y ∧ X.N[i]? = some y ∧ scope.names.lookup y = some .free
def compChk (outer : List (Str × NameKind)) (N0 N : List Str) (cap : List (Option Nat)) (names : List (Str × NameKind)) : Bool :=
  names.all (fun y => y.2 != .cell && (y.2 != .local || names.lookup y.1 == some .local) && (y.2 != .free || outer.lookup y.1 == some .cell || outer.lookup y.1 == some .free)) &&
  decide N.Nodup && cap.length == N.length &&
  (List.range cap.length).all fun j => match cap[j]? with
    | some (some i) => (match N[j]? with
      | some y => N0[i]? == some y && names.lookup y == some .free
      | none => false)
    | _ => true
theorem CompScope.of {X : Cx} {N : List Str} {cap : List (Option Nat)} {scope : Scope} (hk : scope.kind = .function) (h : compChk X.env.scope.names X.N N cap scope.names = true) : CompScope X N cap scope := by
  unfold compChk at h
  simp only [Bool.and_eq_true, List.all_eq_true, decide_eq_true_eq, beq_iff_eq] at h
  obtain ⟨⟨⟨h1, h2⟩, h3⟩, h4⟩ := h
  refine ⟨hk, fun y hy e => ?_, fun y hy e => ?_, fun y hy e => ?_, h2, h3, fun j i e => ?_⟩
  · have := (h1 y hy).1.1
    rw [e] at this
    exact absurd this (by decide)
  · have := (h1 y hy).1.2
    rw [e] at this
    simpa using this
  · have := (h1 y hy).2
    rw [e] at this
    simpa using this
  · have hj : j < cap.length := (List.getElem?_eq_some_iff.mp e).1
    have := h4 j (List.mem_range.mpr hj)
    rw [e] at this
    dsimp only at this
    cases q : N[j]? with
    | none => rw [q] at this; exact absurd this Bool.false_ne_true
    | some y =>
      rw [q] at this
      simp only [Bool.and_eq_true, beq_iff_eq] at this
      exact ⟨y, rfl, this.1, this.2⟩

theorem getElem?_capt {cap : List (Option Nat)} {σ : St} {j : Nat} {v : V} (h : (capt cap σ)[j]? = some (some v)) : ∃ i, cap[j]? = some (some i) ∧ σ[i]? = some (some v) := by
  unfold capt at h
  rw [List.getElem?_map] at h
  cases e : cap[j]? with
  | none => rw [e] at h; cases h
  | some o =>
    rw [e] at h
    cases o with
    | none => simp at h
    | some i =>
      refine ⟨i, rfl, ?_⟩
      simp only [Option.map_some, Option.bind_some, Option.some.injEq] at h
      cases q : σ[i]? with
      | none => rw [q] at h; simp at h
      | some z => rw [q] at h; simp at h; rw [h]

theorem inv_comp {X : Cx} {pins : List (Addr × Obj)} {σ : St} {H : Hp} {s : Shared} {N : List Str} {cap : List (Option Nat)} {scope : Scope} {ex : List Addr} {h₁ : Heap} {tk : Nat} {C : Addr} (S : CompScope X N cap scope) (I : Inv X pins σ H s) (hC : s.heap.objs.size ≤ C)
    (hns : h₁.Ns C (fun _ => none)) (hk : ∀ b o, s.heap.get? b = some o → h₁.get? b = some o) (hex : ∀ b ∈ ex, b < s.heap.objs.size ∧ FpOk X pins H b) :
    Inv (cxComp X N scope C s H ex) [] (capt cap σ) H { s with heap := h₁, toks := tk } := by
  have hcl : ∀ n c, (closOf X.env scope.names []).lookup n = some c → X.env.cells.lookup n = some c := closOf_ok (fun n c e => by simp at e)
  have cne : ∀ x c, (closOf X.env scope.names []).lookup x = some c → c < s.heap.objs.size := fun x c e => by
    obtain ⟨v, q⟩ := I.cell x c (hcl x c e)
    exact q.lt
  have nob : ∀ b o, X.base.get? b = some o → b ∉ ex := fun b o e hb => by
    obtain ⟨hlt, f0, f1, f2, f3, f4, f5⟩ := hex b hb
    rcases f3 with z | z
    · exact I.ok.noex b o e z
    · exact absurd (Nat.lt_of_lt_of_le (Heap.lt_size e) (Nat.le_trans I.ok.bsz z)) (Nat.lt_irrefl _)
  refine ⟨⟨I.ok.mod, ?_, I.ok.glob, I.ok.blt, hC, fun x y c h1 h2 => I.ok.inj x y c (hcl x c h1) (hcl y c h2), fun x hx => ?_, fun x c hf _ => ?_, I.ok.hd, I.ok.frames, .inl rfl, fun b hb => ?_, fun b o e => I.bs b o e, Nat.le_trans I.ok.bsz I.sz, nob, fun b hb => ?_, I.stack, I.stkFree⟩,
    rfl, I.bare, Un.kept hk, ⟨_, hns, fun j y v h1 h2 h3 => ?_⟩, fun x c e => ?_, I.hok.fresh hC, fun x c e => ?_, fun p hp => absurd (show p ∈ ([] : List (Addr × Obj)) from hp) (by simp), I.hok.kept hk, ?_⟩
  · exact S.kind
  · have hx : (relabel scope X.env).names.lookup x = some .cell ∨ (relabel scope X.env).names.lookup x = some .free := hx
    unfold relabel at hx
    simp only [lookup_relabel] at hx
    cases q : scope.names.lookup x with
    | none => rw [q] at hx; simp at hx
    | some k =>
      have hm := PySem.mem_of_lookup q
      have hkf : k = .free := by
        rw [q] at hx
        simp only [Option.map_some, Option.some.injEq] at hx
        by_cases z : (k == NameKind.free && X.env.scope.kind == .function && X.env.kindOf x == some .cell) = true
        · have : (k == NameKind.free) = true := by
            rw [Bool.and_eq_true, Bool.and_eq_true] at z
            exact z.1.1
          exact beq_iff_eq.mp this
        · rw [if_neg z] at hx
          rcases hx with hx | hx
          · exact absurd hx (S.nocell _ hm)
          · exact hx
      subst hkf
      obtain ⟨c, hc⟩ := I.ok.has x (S.fre _ hm rfl)
      exact Option.isSome_iff_exists.mp (closOf_has hm hc)
  · exact absurd (show false = true from hf) Bool.false_ne_true
  · obtain ⟨hlt, _⟩ := hex b hb
    refine ⟨Nat.ne_of_lt (Nat.lt_of_lt_of_le hlt hC), fun x c e z => ?_⟩
    exact (hex b hb).2.2.2.2.2.1 x c (hcl x c e) z
  · intro hb2
    rcases List.mem_cons.mp (I.stkSub b hb2) with e | e
    · exact (hex b hb).2.2.1 e
    · exact (hex b hb).2.2.2.1 e
  · obtain ⟨i, e1, e2⟩ := getElem?_capt h2
    obtain ⟨y', e3, e4, e5⟩ := S.cap j i e1
    rw [show N[j]? = some y from h1] at e3
    cases e3
    obtain ⟨m, _, hl⟩ := I.loc
    have hm := PySem.mem_of_lookup e5
    have hv : Vis X.env.scope y := by
      rcases S.fre _ hm rfl with z | z
      · exact .inr (.inl z)
      · exact .inr (.inr z)
    obtain ⟨u, r, l⟩ := hl i y v e4 e2 hv
    refine ⟨u, r, .inr ⟨?_, ?_⟩⟩
    · show (relabel scope X.env).names.lookup y = some .cell ∨ (relabel scope X.env).names.lookup y = some .free
      unfold relabel
      simp only [lookup_relabel, e5, Option.map_some, Option.some.injEq]
      split
      · exact .inl rfl
      · exact .inr rfl
    · rcases l with ⟨hk2, _⟩ | ⟨_, c, hc, hcell⟩
      · rcases S.fre _ hm rfl with z | z
        · rw [show X.env.kindOf y = some .cell from z] at hk2; cases hk2
        · rw [show X.env.kindOf y = some .free from z] at hk2; cases hk2
      · refine ⟨c, ?_, hcell.keeps hk⟩
        obtain ⟨c', hc'⟩ := Option.isSome_iff_exists.mp (closOf_has (acc := []) hm hc)
        have := hcl y c' hc'
        rw [hc] at this
        cases this
        exact hc'
  · obtain ⟨v, q⟩ := I.cell x c (hcl x c e)
    exact ⟨v, q.keeps hk⟩
  · exact I.freeC x c (hcl x c e)
  · show (capt cap σ).length = N.length
    unfold capt
    rw [List.length_map]
    exact S.len

def Gath (J : It) (cap : List (Option Nat)) (g : TG) (tc : TT) (te : TE) (Q : Addr → Hp → Prop) (σ : St) (H : Hp) : Prop :=
  ∃ W : Nat → Nat → List V → St → Hp → Prop, (∃ m, W 0 m [] (capt cap σ) H) ∧ ∀ i m ys σ' H', W i m ys σ' H' →
    (J.stop i H' ∧ ys.length ≤ sizeLine ∧ ∀ D, H' D = none → Q D (upd H' D (.lst ys))) ∨ (J.go i H' ∧ ys.length < sizeLine ∧ ∃ N : List V → St → Hp → Prop, (∀ ys2 σ2 H2, N ys2 σ2 H2 → ∃ m', m' < m ∧ W (i + 1) m' ys2 σ2 H2) ∧
      ∀ x H2, J.yld i H' x H2 → g x σ' H2 fun σ3 H3 => tc σ3 H3 fun b H4 => if b = true then te σ3 H4 fun y H5 => N (ys ++ [y]) σ3 H5 else N ys σ3 H4)
def tComp (cap : List (Option Nat)) (wi : TI) (g : TG) (tc : TT) (te : TE) (Q : Addr → Hp → Prop) : St → Hp → Prop := fun σ H => wi σ H fun J H1 => Gath J cap g tc te Q σ H1

def tTrue : TT := fun _ H Q => Q true H
def PTs (X : Cx) (ifs : List Expr) (t : TT) : Prop :=
  ∀ (pins : List (Addr × Obj)) (s : Shared) (σ : St) (H : Hp) (Q : Bool → Hp → Prop), Inv X pins σ H s → t σ H Q →
    wpAny (model X.prog X.w) X.A (forIn ifs true fun c r => if r = true then do let ok ← isTrue c X.env (eval c X.env); pure (ForInStep.yield ok) else pure (ForInStep.yield r)) (TP X pins σ Q) X.xe s
theorem pts_nil {X : Cx} : PTs X [] tTrue := fun pins s σ H Q I h => wpAny_tests_nil ⟨H, I, h⟩
theorem pts_one {X : Cx} {c : Expr} {t : TT} (h : PT X c t) : PTs X [c] t := fun pins s σ H Q I hw => wpAny_tests_one (h pins s σ H Q I hw)

theorem HOk.add {P : Program} {w : World} {H : Hp} {h : Heap} {a : Addr} {o : HO} (x : HOk P w H h) (hn : H a = none) (new : ObjOk P w (upd H a o) h a o) : HOk P w (upd H a o) h := fun b u e => by
  by_cases hb : b = a
  · subst hb; rw [upd_same] at e; cases e; exact new
  · rw [upd_ne hb] at e
    exact (x b u e).stay (fun c v _ q => q) (fun c q => by rw [upd_ne (ne_of_none q hn)]; exact q) fun c xs q => by rw [upd_ne (ne_of_none q hn)]; exact q
theorem Un.add {fs ex : List Addr} {H H1 : Hp} {h h1 : Heap} {a : Addr} {o : HO} (u : Un fs ex H H1 h h1) (ha : h.objs.size ≤ a) (hn : H1 a = none) : Un fs ex H (upd H1 a o) h h1 where
  keep := u.keep
  slot := u.slot
  free := fun b ob q n hx => by rw [upd_ne (Nat.ne_of_lt (Nat.lt_of_lt_of_le (Heap.lt_size q) ha))]; exact u.free b ob q n hx
  there := u.there
  tups := fun b xs q => by
    have q' := u.tups b xs q
    rw [upd_ne (ne_of_none q' hn)]; exact q'
  frzs := fun b ob xs q => by
    have q' := u.frzs b ob xs q
    rw [upd_ne (ne_of_none q' hn)]; exact q'
  tbls := fun b ps q => by
    obtain ⟨m, q'⟩ := u.tbls b ps q
    exact ⟨m, by rw [upd_ne (ne_of_none q' hn)]; exact q'⟩

abbrev lobj (its : List Value) (k : Nat) : Obj := { cls := .type "list", data := .seq its.toArray k }

theorem comp_block {X : Cx} {pins : List (Addr × Obj)} {σ : St} {H : Hp} {s : Shared} {N : List Str} {cap : List (Option Nat)} {scope : Scope} {elt target iter : Expr} {ifs : List Expr} {pos : Pos} {g : TG} {tc : TT} {te : TE} {J : It} {fp : List Addr} {it : Addr} {tn : Nat → Heap → Prop}
    {Q : Addr → Hp → Prop} {RR : Value → Addr → Result → Shared → Prop} {E : Value → Shared → Prop} (hc : X.calm = true) (S : CompScope X N cap scope) (I : Inv X pins σ H s) (T : Turn X.prog X.w X.K target J fp it tn) (st : tn 0 s.heap) (fo : ∀ b ∈ fp, FpOk X pins H b)
    (hg : ∀ C s₀ H₀, PG (cxComp X N scope C s₀ H₀ fp) target g) (ht : ∀ C s₀ H₀, PTs (cxComp X N scope C s₀ H₀ fp) ifs tc) (he : ∀ C s₀ H₀, PE (cxComp X N scope C s₀ H₀ fp) elt te)
    (h : Gath J cap g tc te Q σ H)
    (hRR : ∀ D C s' H', Inv X pins σ H' s' → Q D H' → (∃ m, s'.heap.Ns C m) → H' C = none → X.s₀.heap.objs.size ≤ C → C ≠ X.env.locals → (∀ x c, X.env.cells.lookup x = some c → c ≠ C) → (∀ p ∈ X.pn ++ pins, p.1 ≠ C) → RR (.ref D) C (.ok .next) s') :
    wpAny (model X.prog X.w) X.A (newList []) (fun acc s₃ => wpAny (model X.prog X.w) X.A (newFunctionEnv scope X.env.globals (closOf X.env scope.names []) [] X.env.qual none .none (some X.env)) (fun cenv s₄ =>
      codeAny (model X.prog X.w) X.A (.compStart (.ListComp elt [⟨target, iter, ifs, 0⟩] scope pos) 0 (.ref it) acc { cenv with scope := relabel scope X.env }) (RR acc cenv.locals) s₄) E s₃) E s := by
  have hfr : ∀ a, s.heap.objs.size ≤ a → H a = none := fun a ha => I.hok.fresh ha
  obtain ⟨W, ⟨m0, w0⟩, turn⟩ := h
  have fol : ∀ b ∈ fp, b < s.heap.objs.size := fun b hb => by
    obtain ⟨o, ho, _⟩ := T.obj 0 _ st b hb
    exact Heap.lt_size ho
  have clt : ∀ x c, X.env.cells.lookup x = some c → c < s.heap.objs.size := fun x c e => by
    obtain ⟨v, q⟩ := I.cell x c e
    exact q.lt
  refine wpAny_newObj_type (wpAny_newFunctionEnv S.nocell (by intro y hy; simp at hy) (fun h₁ hns₁ hsb₁ => ?_) S.kind)
  dsimp only at hns₁ hsb₁ ⊢
  generalize hD : s.heap.objs.size = D at *
  generalize hH3 : s.heap.push { cls := .type "list", data := .seq ([] : List Value).toArray } = H3 at *
  have hC : H3.objs.size = D + 1 := by rw [← hH3, Heap.size_push, hD]
  have keep3 : ∀ b o, s.heap.get? b = some o → H3.get? b = some o := fun b o e => by rw [← hH3]; exact Heap.get?_push_of_some _ e
  have keep4 : ∀ b o, H3.get? b = some o → h₁.get? b = some o := fun b o e => hsb₁.extBut b o (Nat.ne_of_lt (Heap.lt_size e)) (Heap.get?_push_of_some _ e)
  have D4 : h₁.get? D = some (lobj [] 0) := keep4 _ _ (by rw [← hH3, ← hD]; exact Heap.get?_push_size _ rfl)
  generalize hCC : H3.objs.size = C at *
  have hDC : D < C := by omega
  have hDC' : D ≤ C := Nat.le_of_lt hDC
  have hL : X.env.locals < D := by rw [← hD]; exact I.lt
  have I4 : Inv (cxComp X N scope C s H fp) [] (capt cap σ) H { s with heap := h₁, toks := s.toks + ([] : List (Str × Value)).length } :=
    inv_comp S I (by omega) hns₁ (fun b o e => keep4 b o (keep3 b o e)) fun b hb => ⟨by rw [hD]; exact fol b hb, fo b hb⟩
  have fp4 : ∀ {H' : Hp} {ob : Obj}, (∀ b ∈ fp, H' b = none) → ∀ b ∈ fp, FpOk (cxComp X N scope C s H fp) [(D, ob)] H' b := fun {H' ob} hn b hb => by
    obtain ⟨f0, f1, f2, f3, f4, f5⟩ := fo b hb
    have hlt := fol b hb
    refine ⟨hn b hb, ?_, fun z => ?_, .inl hb, fun x c e => f4 x c (closOf_ok (fun n c e => by simp at e) x c e), fun p hp => ?_⟩
    · exact Nat.ne_of_lt (Nat.lt_of_lt_of_le hlt hDC')
    · rcases List.mem_cons.mp (I.stkSub b z) with e | e
      · exact f1 e
      · exact f2 e
    · have hp' : p ∈ [(D, ob)] := hp
      rw [List.mem_singleton.mp hp']
      exact Nat.ne_of_gt hlt
  have st4 : tn 0 h₁ := T.keep _ _ _ st fun b hb o e => keep4 b o (keep3 b o e)
  have nfs : D ∉ (cxComp X N scope C s H fp).fs := fun z => by
    rcases List.mem_cons.mp (I.stkSub D z) with e | e
    · exact Nat.ne_of_gt hL e
    · exact I.nofs (Nat.le_of_eq hD) e
  have pinD : ∀ {σ' : St} {H' : Hp} {s' : Shared} {ob : Obj}, Inv (cxComp X N scope C s H fp) [] σ' H' s' → H' D = none → s'.heap.get? D = some ob → (∀ v, ob.data ≠ .cell v) → Inv (cxComp X N scope C s H fp) [(D, ob)] σ' H' s' := fun {σ' H' s' ob} J hn e nc =>
    J.pins_of fun p hp => by
      rw [List.mem_singleton.mp hp]
      exact ⟨e, hn, Nat.ne_of_lt hDC, nfs, nc⟩
  have loop : ∀ s₄ : Shared, s₄ = { s with heap := h₁, toks := s.toks + ([] : List (Str × Value)).length } →
      codeAny (model X.prog X.w) X.A (.compLoop (.ListComp elt [⟨target, iter, ifs, 0⟩] scope pos) 0 (.ref it) (.ref D) (compEnvC scope (closOf X.env scope.names []) C X.env)) (RR (.ref D) C) s₄ := by
    rintro s₄ rfl
    refine comp_loop (fun n s' => ∃ i ys its k σ' H', Inv (cxComp X N scope C s H fp) [(D, lobj its k)] σ' H' s' ∧ Vals ys its ∧ tn i s'.heap ∧ (∀ b ∈ fp, H' b = none) ∧ W i n ys σ' H') ?_ m0
      ⟨0, [], [], 0, _, _, pinD I4 (hfr D (Nat.le_refl _)) D4 (fun v z => by cases z), .nil, st4, fun b hb => (fo b hb).1, w0⟩
    rintro n s5 ⟨i, ys, its, k, σ5, H5, I5, rv5, st5, fr5, w5⟩
    have hpin := I5.pin (D, lobj its k) (List.mem_append_right _ List.mem_cons_self)
    rcases turn i n ys σ5 H5 w5 with ⟨stop, hz, q⟩ | ⟨go, hz, NN, hNN, step⟩
    · refine thn (T.done (cxComp X N scope C s H fp) rfl rfl rfl hc i _ s5 σ5 H5 _ I5 (fp4 fr5) st5 stop) fun r s6 ⟨hr, I6⟩ => ?_
      subst hr
      have p6 := I6.pin (D, lobj its k) (List.mem_append_right _ List.mem_cons_self)
      have I7 : Inv X pins σ (upd H5 D (.lst ys)) s6 := I.call' (ch := fp) I6.os (I6.base.add (Nat.le_of_eq hD) p6.2.1) (I6.hok.add p6.2.1 ⟨hz, its, k, rv5, p6.1⟩) I6.bare fun b hb => by
        obtain ⟨f0, f1, f2, f3, f4, f5⟩ := fo b hb
        exact ⟨f3, f1, f4, f5⟩
      obtain ⟨m6, hn6, _⟩ := I6.loc
      refine hRR _ C s6 _ I7 (q D p6.2.1) ⟨m6, hn6⟩ ?_ ?_ ?_ ?_ ?_
      · rw [upd_ne (Nat.ne_of_gt hDC)]; exact I6.free
      · exact Nat.le_trans (by rw [← hD]; exact I.sz) hDC'
      · exact Nat.ne_of_gt (Nat.lt_of_lt_of_le hL hDC')
      · intro x c e z
        exact Nat.ne_of_lt (Nat.lt_of_lt_of_le (clt x c e) hDC') z
      · intro p hp z
        have h6 := Heap.lt_size (I.pin p hp).1
        rw [hD] at h6
        exact Nat.ne_of_lt (Nat.lt_of_lt_of_le h6 hDC') z
    · refine thn (T.item (cxComp X N scope C s H fp) rfl rfl rfl hc i _ s5 σ5 H5 _ I5 (fp4 fr5) st5 go) fun r s6 ⟨u, hr, h6⟩ => ?_
      subst hr
      refine thn h6 fun _ s7 ⟨x, H7, I7, r7, y7, st7, fr7⟩ => ?_
      have I7' := I7.pinned (fp4 fr7) (T.obj _ _ st7)
      have kept : ∀ {σ8 : St} {H8 : Hp} {s8 : Shared}, Inv (cxComp X N scope C s H fp) ([(D, lobj its k)] ++ pinsAt fp s7.heap) σ8 H8 s8 → tn (i + 1) s8.heap ∧ ∀ b ∈ fp, H8 b = none := fun {σ8 H8 s8} I8 =>
        ⟨T.keep _ _ _ st7 fun b hb o e => (I8.pin (b, o) (List.mem_append_right _ (List.mem_append_right _ (mem_pinsAt hb e)))).1, fun b hb => by
          obtain ⟨o, e, d⟩ := T.obj _ _ st7 b hb
          exact (I8.pin (b, o) (List.mem_append_right _ (List.mem_append_right _ (mem_pinsAt hb e)))).2.1⟩
      refine wpAny_mono (hg C s H _ s7 σ5 H7 x u _ I7' r7 (step x H7 y7)) (fun _ s8 ⟨σ8, H8, I8, q8⟩ => ?_) fun _ _ f => f.elim
      refine wpAny_mono (ht C s H _ s8 σ8 H8 _ I8 q8) (fun ok s9 ⟨H9, I9, q9⟩ => ?_) fun _ _ f => f.elim
      cases ok with
      | false =>
        rw [if_neg Bool.false_ne_true] at q9 ⊢
        obtain ⟨m', hm, w9⟩ := hNN _ _ _ q9
        exact ⟨m', hm, i + 1, ys, its, k, σ8, H9, I9.unpinned, rv5, (kept I9).1, (kept I9).2, w9⟩
      | true =>
        rw [if_pos rfl] at q9 ⊢
        refine wpAny_mono (he C s H _ s9 σ8 H9 _ I9 q9) (fun y s10 ⟨yv, H10, I10, r10, n10⟩ => ?_) fun _ _ f => f.elim
        obtain ⟨m', hm, w10⟩ := hNN _ _ _ n10
        obtain ⟨k10, f10⟩ := kept I10
        have p10 := I10.pin (D, lobj its k) (List.mem_append_right _ (List.mem_append_left _ List.mem_cons_self))
        have hlen := rv5.length
        refine wpAny_list_append_plain (hsz := by rw [List.size_toArray]; omega) (show s10.heap.PlainList D its.toArray from ⟨k, p10.1⟩) fun h11 hl11 hsb11 => ?_
        obtain ⟨k11, e11⟩ := hl11
        have J0 : Inv (cxComp X N scope C s H fp) [] σ8 H10 s10 := I10.pins_of fun p hp => nomatch hp
        have J1 : Inv (cxComp X N scope C s H fp) [] σ8 H10 { s10 with heap := h11 } := J0.turned (t' := s10.toks) (fun b o hb e => hsb11.extBut b o hb e) p10.2.1 (Nat.ne_of_lt hDC) (.inr (Nat.le_of_eq hD)) (fun x c e z => Nat.ne_of_lt (clt x c (closOf_ok (fun n c e => by simp at e) x c e)) z) fun p hp => nomatch (show p ∈ ([] : List (Addr × Obj)) from hp)
        have e12 : h11.get? D = some (lobj (its ++ [y]) k11) := by rw [e11]; simp [lobj]
        refine ⟨m', hm, i + 1, ys ++ [yv], its ++ [y], k11, σ8, H10, pinD J1 p10.2.1 e12 (fun v z => by cases z), rv5.append (.cons r10 .nil), ?_, f10, w10⟩
        exact T.keep _ _ _ k10 fun b hb o e => hsb11.extBut b o (Nat.ne_of_lt (fol b hb)) e
  refine codeAny_compStart_list (loop _ ?_) (T.self X.A 0 _ _ _ ?_ (loop _ ?_))
  · rfl
  · exact st4
  · rfl

theorem pe_comp {X : Cx} {N : List Str} {cap : List (Option Nat)} {scope : Scope} {elt target iter : Expr} {ifs : List Expr} {pos : Pos} {wi : TI} {g : TG} {tc : TT} {te : TE} (hc : X.calm = true) (S : CompScope X N cap scope) (hi : PI X target iter wi)
    (hg : ∀ C s₀ H₀ ex, PG (cxComp X N scope C s₀ H₀ ex) target g) (ht : ∀ C s₀ H₀ ex, PTs (cxComp X N scope C s₀ H₀ ex) ifs tc) (he : ∀ C s₀ H₀ ex, PE (cxComp X N scope C s₀ H₀ ex) elt te)
    (hs : ∀ x, foldedSetIterable iter X.env x = pure x := by intro _; rfl) :
    PE X (.ListComp elt [⟨target, iter, ifs, 0⟩] scope pos) (fun σ H Q => tComp cap wi g tc te (fun D H' => Q (.ref D) H') σ H) := by
  intro pins s σ H Q I h
  have hclos : closureFor scope X.env = pure (closOf X.env scope.names []) := closureFor_of fun y hy hf => I.ok.has y.1 (S.fre y hy hf)
  rw [eval_ListComp]
  refine wpAny_comprehension_free (use := none) rfl hs hclos S.kind S.loc (thn (hi pins s σ H _ I h) fun xv s1 h1 => thn h1 fun itv s2 h2 => ?_)
  obtain ⟨it, fp, tn, J, H2, e, I2, T, st2, f2, q2⟩ := h2
  subst e
  refine comp_block (RR := fun acc C => compPost (model X.prog X.w) X.A X.xe none (EP X pins σ Q) acc C) hc S I2 T st2 f2 (fun C s₀ H₀ => hg C s₀ H₀ fp) (fun C s₀ H₀ => ht C s₀ H₀ fp) (fun C s₀ H₀ => he C s₀ H₀ fp) q2 ?_
  intro D C s' H' I' q ⟨m, hn⟩ hf hsz hL hcell hpin
  refine ⟨m, hn, fun h' hsb => ⟨.ref D, H', ?_, rfl, q⟩⟩
  exact I'.turned (t' := s'.toks) (fun b o hb e => hsb.extBut b o hb e) hf hL (.inr hsz) hcell hpin

theorem ps_comp {X : Cx} {N : List Str} {cap : List (Option Nat)} {scope : Scope} {elt target iter : Expr} {ifs : List Expr} {pos pos' spos : Pos} {wi : TI} {g : TG} {tc : TT} {te : TE} {i : Nat} {x : Str} (hc : X.calm = true) (S : CompScope X N cap scope) (hi : PI X target iter wi)
    (hg : ∀ C s₀ H₀ ex, PG (cxComp X N scope C s₀ H₀ ex) target g) (ht : ∀ C s₀ H₀ ex, PTs (cxComp X N scope C s₀ H₀ ex) ifs tc) (he : ∀ C s₀ H₀ ex, PE (cxComp X N scope C s₀ H₀ ex) elt te)
    (hN : X.N.Nodup) (hix : X.N[i]? = some x) (hx : X.env.scope.names.lookup x = some .local) (hsw : swapsWith (.ListComp elt [⟨target, iter, ifs, 0⟩] scope pos) (some (.Name x pos')) spos.line X.env = pure true := by rfl)
    (hs : ∀ x, foldedSetIterable iter X.env x = pure x := by intro _; rfl) :
    PS X (.Assign [.Name x pos'] (.ListComp elt [⟨target, iter, ifs, 0⟩] scope pos) spos) (fun D σ H => tComp cap wi g tc te (fun d H' => D.nx (σ.set i (some (.ref d))) H') σ H) := by
  intro pins s σ H D I h
  have hclos : closureFor scope X.env = pure (closOf X.env scope.names []) := closureFor_of fun y hy hf => I.ok.has y.1 (S.fre y hy hf)
  rw [exec_Assign_Name_used _ _ _ _ hsw]
  refine wpAny_bind (wpAny_standAt (wpAny_bind ?_))
  show wpAny _ X.A (do let _ ← comprehension (.ListComp elt [⟨target, iter, ifs, 0⟩] scope pos) scope X.env _ (newList []) false (eval iter X.env) (some (assign (.Name x pos') X.env))) _ _ s
  refine wpAny_bind (wpAny_mono (wpAny_comprehension_free (use := some (assign (.Name x pos') X.env)) (Q := fun _ s' => SP X pins D .next s') rfl hs hclos S.kind S.loc
    (thn (hi pins s σ H _ I h) fun xv s1 h1 => thn h1 fun itv s2 h2 => ?_)) (fun _ s' hq => wpAny_pure (wpAny_pure hq)) fun _ _ e => e)
  obtain ⟨it, fp, tn, J, H2, e, I2, T, st2, f2, q2⟩ := h2
  subst e
  refine comp_block (RR := fun acc C => compPost (model X.prog X.w) X.A X.xe (some (assign (.Name x pos') X.env)) (fun _ s' => SP X pins D .next s') acc C) hc S I2 T st2 f2 (fun C s₀ H₀ => hg C s₀ H₀ fp) (fun C s₀ H₀ => ht C s₀ H₀ fp) (fun C s₀ H₀ => he C s₀ H₀ fp) q2 ?_
  intro d C s' H' I' q ⟨m, hn⟩ hf hsz hL hcell hpin
  show wpAny _ X.A (assign (.Name x pos') X.env (.ref d)) _ _ s'
  refine wpAny_assign_Name (store_ok2 I' hN hix (.inl hx) (show RelV (.ref d) (.ref d) from rfl) (fun s'' I'' ⟨a, hsb, ha⟩ => ?_) (.inr hx))
  have hCa : C ≠ a := by
    rcases ha with z | z
    · rw [z]; exact hL
    · exact fun w => hcell x a z w.symm
  refine ⟨m, hn.sameBut hsb hCa, fun h' hsb' => ⟨_, H', ?_, q⟩⟩
  exact I''.turned (t' := s''.toks) (fun b o hb e => hsb'.extBut b o hb e) hf hL (.inr hsz) hcell hpin
end L2

set_option Elab.async false
set_option linter.all false
set_option maxRecDepth 100000
set_option maxHeartbeats 4000000
namespace L2
open PySem PySem.Spec PyProof.Rows

def Its (x : Str) : It := ⟨fun i _ => i < x.cps.size, fun i H v H' => H' = H ∧ ∃ c, x.cps[i]? = some c ∧ v = .str ⟨#[c]⟩, fun i _ => i = x.cps.size⟩
theorem turn_str {P : Program} {w : World} {K : PySem.W.Frag} {tg : Expr} (ty : String) (it : Addr) (x : Str) (t : Tok)
    (hw : ∀ A' : Around, A'.handled = none → Walks P w A' it [it] [it] x.cps.size (SignAt x) (fun i h => h.IsStrIter it ty x t i))
    (hself : ∀ (A : Around) (i : Nat) (s : Shared) (Q : Value → Shared → Prop) (E : Value → Shared → Prop), s.heap.IsStrIter it ty x t i → Q (.ref it) s → wpAny (model P w) A (pyIter (.ref it)) Q E s)
    (hn : ["enumerate", "zip", "dict_itemiterator", "dict_reverseitemiterator", "odict_iterator", "itertools.zip_longest", "itertools.pairwise"].contains ty = false) :
    Turn P w K tg (Its x) [it] it (fun i h => h.IsStrIter it ty x t i) where
  mem := by simp
  obj := fun i h st b hb => by
    have e : b = it := by simpa using hb
    subst e
    obtain ⟨o, e, c, d⟩ := st
    exact ⟨o, e, fun v z => by rw [d] at z; cases z⟩
  keep := fun i h h' st k => let ⟨o, e, r⟩ := st; ⟨o, k it (by simp) o e, r⟩
  item := by
    intro X hP hw' hK hc i pins s σ H E I hf st hg
    subst hP hw' hK
    obtain ⟨f0, f1, f2, f3, f4, f5⟩ := hf it (by simp)
    refine (hw X.A (I.ok.hd hc)).item i s _ _ hg st fun v h' tk hv st' kk => ?_
    obtain ⟨c, u, hc', rfl⟩ := hv
    have I1 : Inv X pins σ H { s with heap := h', toks := tk } := I.turned (fun b o hb e => kk b o (by simpa using hb) e) f0 f1 f3 f4 f5
    obtain ⟨o, e, cc, d⟩ := id st'
    exact ⟨_, rfl, go_of (s := { s with heap := h', toks := tk }) e cc d hn ⟨.str ⟨#[c]⟩, H, I1, ⟨u, rfl⟩, ⟨rfl, c, hc', rfl⟩, st', fun b hb => (hf b hb).1⟩⟩
  done := by
    intro X hP hw' hK hc i pins s σ H E I hf st hg
    subst hP hw' hK
    obtain ⟨f0, f1, f2, f3, f4, f5⟩ := hf it (by simp)
    have hg' : i = x.cps.size := hg
    subst hg'
    exact (hw X.A (I.ok.hd hc)).done s _ _ st fun h' tk kk => ⟨rfl, I.turned (fun b o hb e => kk b o (by simpa using hb) e) f0 f1 f3 f4 f5⟩
  self := hself
theorem for_str {x : Str} {g : TG} {tb : TS} {D : Ends} {σ : St} {H : Hp} (Pv : Nat → St → Hp → Prop) (h0 : Pv 0 σ H)
    (hs : ∀ i c σ H, x.cps[i]? = some c → Pv i σ H → g (.str ⟨#[c]⟩) σ H fun σ2 H2 => tb { D with nx := Pv (i + 1), ct := Pv (i + 1), bk := D.nx } σ2 H2) (hd : ∀ σ H, Pv x.cps.size σ H → D.nx σ H) :
    ∃ W : Nat → Nat → St → Hp → Prop, (∃ m, W 0 m σ H) ∧ ∀ i m σ H, W i m σ H →
      ((Its x).stop i H ∧ D.nx σ H) ∨ ((Its x).go i H ∧ ∃ N : St → Hp → Prop, (∀ σ' H', N σ' H' → ∃ m', m' < m ∧ W (i + 1) m' σ' H') ∧ ∀ v H', (Its x).yld i H v H' → g v σ H' fun σ2 H2 => tb { D with nx := N, ct := N, bk := D.nx } σ2 H2) := by
  refine ⟨fun i m σ H => m = x.cps.size - i ∧ i ≤ x.cps.size ∧ Pv i σ H, ⟨x.cps.size, by simp, Nat.zero_le _, h0⟩, ?_⟩
  rintro i m σ H ⟨rfl, hi, p⟩
  by_cases hlt : i < x.cps.size
  · refine .inr ⟨hlt, Pv (i + 1), fun σ' H' p' => ⟨x.cps.size - (i + 1), by omega, rfl, hlt, p'⟩, fun v H' y => ?_⟩
    obtain ⟨e, c, hc, rfl⟩ := y
    subst e
    exact hs i c σ _ hc p
  · have e : i = x.cps.size := by omega
    subst e
    exact .inl ⟨rfl, hd σ H p⟩

section
variable {X : Cx}
theorem op_le_str : OpR X (compareOp .LtE) (fun x y H Q => ∃ i j, x = .str i ∧ y = .str j ∧ Q (.bl (!decide (j.cps.toList < i.cps.toList))) H) := by
  intro pins s σ H x y v u Q I r1 r2 h
  obtain ⟨i, j, rfl, rfl, q⟩ := h
  obtain ⟨t, rfl⟩ := r1
  obtain ⟨t', rfl⟩ := r2
  exact PySem.P.le_str ⟨.bl _, H, I, rfl, q⟩
theorem op_mul_str : OpR X (binaryOp .Mult) (fun x y H Q => ∃ z n, x = .str z ∧ y = .int n ∧ MulOk z n ∧ Q (.str (Txt.mul z n)) H) := by
  intro pins s σ H x y v u Q I r1 r2 h
  obtain ⟨z, n, rfl, rfl, ok, q⟩ := h
  obtain ⟨t, rfl⟩ := r1
  obtain ⟨t', rfl⟩ := r2
  exact SB.mul ok fun t' k => ⟨.str _, H, I.tok k, ⟨t', rfl⟩, q⟩
theorem vals_strs : ∀ {texts : List Str} {its : List Value}, Vals (texts.map V.str) its → ∃ l : List (Str × Tok), its = strValues l ∧ l.map (·.1) = texts
  | [], _, r => by rw [List.map_nil] at r; cases r; exact ⟨[], rfl, rfl⟩
  | x :: xs, _, r => by
    rw [List.map_cons] at r
    cases r with
    | cons r1 r2 =>
      obtain ⟨t, rfl⟩ := r1
      obtain ⟨l, e1, e2⟩ := vals_strs r2
      exact ⟨(x, t) :: l, by rw [e1]; rfl, by rw [List.map_cons, e2]⟩
theorem strs_vals : ∀ (l : List (Str × Tok)), Vals (l.map fun p => V.str p.1) (strValues l)
  | [] => .nil
  | (x, t) :: l => .cons ⟨t, rfl⟩ (strs_vals l)
def rJoin (K : PySem.W.Frag) : V → List V → Hp → VK → Prop := fun x vs H Q => ∃ sep l texts, x = .str sep ∧ vs = [.ref l] ∧ SqL K H l (texts.map V.str) ∧ JoinOk sep texts = true ∧ Q (.str (Txt.join sep texts)) H
theorem mt_join : MtR X "str.join" (rJoin X.K) := by
  intro pins s σ H x xs v us Q I rx rs h
  obtain ⟨sep, l, texts, rfl, rfl, hq, hok, q⟩ := h
  obtain ⟨t, rfl⟩ := rx
  obtain ⟨u, rfl, ru⟩ := vals1 rs
  cases ru
  obtain ⟨its, rv, pl, hz⟩ := I.list hq
  obtain ⟨ls, e1, e2⟩ := vals_strs rv
  subst e1
  exact SC.join (D := l) (l := ls) pl.isList e2 hok fun t' k => ⟨.str _, H, I.tok k, ⟨t', rfl⟩, q⟩
def rSplit : V → List V → Hp → VK → Prop := fun x vs H Q => ∃ z y, x = .str z ∧ vs = [.str y] ∧ y.length ≠ 0 ∧ z.length < sizeLine ∧ (Txt.split z y).length ≤ sizeLine ∧ ∀ l, H l = none → Q (.ref l) (upd H l (.lst ((Txt.split z y).map V.str)))
theorem split_laid {pins : List (Addr × Obj)} {σ : St} {H : Hp} {s : Shared} {l : List (Str × Tok)} {ts : List Str} {tk : Nat} {Q : VK} (I : Inv X pins σ H s) (e : l.map (·.1) = ts) (hz : ts.length ≤ sizeLine) (q : ∀ l, H l = none → Q (.ref l) (upd H l (.lst (ts.map V.str)))) :
    EP X pins σ Q (.ref s.heap.objs.size) { s with heap := s.heap.push { cls := .type "list", data := .seq (strValues l).toArray }, toks := tk } := by
  subst e
  refine ⟨.ref s.heap.objs.size, _, I.laid (o := .lst ((l.map (·.1)).map V.str)) (fun b ob q => Heap.get?_push_of_some _ q) (Nat.le_refl _) ?_, rfl, q _ (I.hok.fresh (Nat.le_refl _))⟩
  refine ⟨by rw [List.length_map]; exact hz, strValues l, 0, ?_, Heap.get?_push_size _ rfl⟩
  have := strs_vals l
  rw [List.map_map]
  exact this
open Builtin Builtin.Str in
theorem mt_split : MtR X "str.split" rSplit := by
  intro pins s σ H x xs v us Q I rx rs h
  obtain ⟨z, y, rfl, rfl, hy0, hz, hl, q⟩ := h
  obtain ⟨t, rfl⟩ := rx
  obtain ⟨uu, rfl, ru⟩ := vals1 rs
  obtain ⟨u, rfl⟩ := ru
  have hy : (y.length == 0) = false := by simpa using hy0
  have hz' : z.length ≤ sizeLine := Nat.le_of_lt hz
  unfold Txt.split at hl q
  cases h1 : (decide (z.length < y.length) || decide (strKind z < strKind y))
  · rw [h1] at hl q
    simp only [Bool.false_eq_true, if_false] at hl q
    cases hf : (occurrences z y 0 z.length (z.length + 1)).isEmpty
    · rw [hf] at hl q
      simp only [Bool.false_eq_true, if_false] at hl q
      refine call_meets F.slot_str_split (typeIs_str _ _ _) F.entry_str_split (F.args_str_split_2 _ _) (meets_str_split_sep z y t u h1 hy hf hz' hl) ?_
      show wants _ _ _ { s with toks := _, heap := s.heap.push { cls := .type "list", data := .seq (strsFrom s.toks (partsBetween z (occurrences z y 0 z.length (z.length + 1)) y.length)).toArray } }
      rw [strsFrom_eq]
      exact split_laid (l := numbered s.toks _) I (numbered_texts _ _) hl q
    · rw [hf] at hl q
      simp only [if_true] at hl q
      exact call_meets F.slot_str_split (typeIs_str _ _ _) F.entry_str_split (F.args_str_split_2 _ _) (meets_str_split_not_found z y t u h1 hy hf)
        (split_laid (l := [(z, t)]) (tk := s.toks) I rfl hl q)
  · rw [h1] at hl q
    simp only [if_true] at hl q
    exact call_meets F.slot_str_split (typeIs_str _ _ _) F.entry_str_split (F.args_str_split_2 _ _) (meets_str_split_cannot_occur z y t u h1)
      (split_laid (l := [(z, t)]) (tk := s.toks) I rfl hl q)
def rSlS : V → Option Int → Option Int → Hp → VK → Prop := fun x lo hi H Q => ∃ z, x = .str z ∧ z.length ≤ sizeLine ∧ Q (.str (Txt.slice z lo hi)) H
theorem sl_str : SlR X rSlS := by
  intro pins s σ H x v vl vu lo hi sl Q I rx hs pl pu h
  obtain ⟨z, rfl, hz, q⟩ := h
  obtain ⟨t, rfl⟩ := rx
  refine ⟨"str", _, F.slot_str_getitem.lookup, typeIs_str _ _ _, ?_⟩
  have fin : ∀ t' k, EP X pins σ Q (.str (Txt.slice z lo hi) t') { s with toks := k } := fun t' k => ⟨.str _, H, I.tok k, ⟨t', rfl⟩, q⟩
  cases pl with
  | none =>
    cases pu with
    | none => exact wpAny_getItem_str_slice (l := none) (u := none) (st := none) hs rfl (post_val_or_str ⟨Nat.le_trans (Txt.slice_le z _ _) hz, fin⟩)
    | int j uj => exact wpAny_getItem_str_slice (l := none) (u := some (j, uj)) (st := none) hs rfl (post_val_or_str ⟨Nat.le_trans (Txt.slice_le z _ _) hz, fin⟩)
  | int i ui =>
    cases pu with
    | none => exact wpAny_getItem_str_slice (l := some (i, ui)) (u := none) (st := none) hs rfl (post_val_or_str ⟨Nat.le_trans (Txt.slice_le z _ _) hz, fin⟩)
    | int j uj => exact wpAny_getItem_str_slice (l := some (i, ui)) (u := some (j, uj)) (st := none) hs rfl (post_val_or_str ⟨Nat.le_trans (Txt.slice_le z _ _) hz, fin⟩)

end

mutual
inductive DatV (K : PySem.W.Frag) (H : Hp) : V → PyData → Prop
  | none : DatV K H .non .none
  | bool (b : Bool) : DatV K H (.bl b) (.bool b)
  | int (i : Int) : DatV K H (.int i) (.int i)
  | str (x : Str) : DatV K H (.str x) (.str x)
  | list {a : Addr} {xs : List V} {ds : List PyData} : SqL K H a xs → DatVs K H xs ds → DatV K H (.ref a) (.list ds)
  | tuple {a : Addr} {xs : List V} {ds : List PyData} : SqT K H a xs → DatVs K H xs ds → DatV K H (.ref a) (.tuple ds)
inductive DatVs (K : PySem.W.Frag) (H : Hp) : List V → List PyData → Prop
  | nil : DatVs K H [] []
  | cons {x : V} {xs : List V} {d : PyData} {ds : List PyData} : DatV K H x d → DatVs K H xs ds → DatVs K H (x :: xs) (d :: ds)
end
theorem Same.seqT {K : PySem.W.Frag} {H H' : Hp} {a : Addr} {xs : List V} (e : Same H H') (h : SqT K H a xs) : SqT K H' a xs := by
  rcases h with (h | ⟨o, h⟩) | h
  · exact .inl (.inl (e _ _ h))
  · exact .inl (.inr ⟨o, e _ _ h⟩)
  · exact .inr h
mutual
theorem DatV.same {K : PySem.W.Frag} {H H' : Hp} (e : Same H H') : ∀ {x : V} {d : PyData}, DatV K H x d → DatV K H' x d
  | _, _, .none => .none
  | _, _, .bool b => .bool b
  | _, _, .int i => .int i
  | _, _, .str x => .str x
  | _, _, .list h hs => .list (e.seq h) (DatVs.same e hs)
  | _, _, .tuple h hs => .tuple (e.seqT h) (DatVs.same e hs)
theorem DatVs.same {K : PySem.W.Frag} {H H' : Hp} (e : Same H H') : ∀ {xs : List V} {ds : List PyData}, DatVs K H xs ds → DatVs K H' xs ds
  | _, _, .nil => .nil
  | _, _, .cons h hs => .cons (DatV.same e h) (DatVs.same e hs)
end
mutual
theorem DatV.reads {X : Cx} {pins : List (Addr × Obj)} {σ : St} {H : Hp} {s : Shared} (I : Inv X pins σ H s) : ∀ {x : V} {d : PyData} {u : Value}, DatV X.K H x d → RelV x u → ∃ as, Reads s.heap u d as
  | _, _, _, .none, r => by cases r; exact ⟨_, .none⟩
  | _, _, _, .bool b, r => by cases r; exact ⟨_, .bool b⟩
  | _, _, _, .int i, r => by obtain ⟨t, rfl⟩ := r; exact ⟨_, .int i t⟩
  | _, _, _, .str x, r => by obtain ⟨t, rfl⟩ := r; exact ⟨_, .str x t⟩
  | _, _, _, .list h hs, r => by
    cases r
    obtain ⟨its, rv, ⟨o, n, h1, h2, h3, h4⟩, hz⟩ := I.list h
    obtain ⟨as, ra⟩ := DatVs.reads I hs rv
    exact ⟨_, .list h1 h2 h4 ra⟩
  | _, _, _, .tuple h hs, r => by
    cases r
    obtain ⟨its, rv, ⟨o, h1, h2, n, h4⟩, hz⟩ := I.tuple h
    obtain ⟨as, ra⟩ := DatVs.reads I hs rv
    exact ⟨_, .tuple h1 h2 h4 ra⟩
theorem DatVs.reads {X : Cx} {pins : List (Addr × Obj)} {σ : St} {H : Hp} {s : Shared} (I : Inv X pins σ H s) : ∀ {xs : List V} {ds : List PyData} {us : List Value}, DatVs X.K H xs ds → Vals xs us → ∃ as, ReadsAll s.heap us ds as
  | _, _, _, .nil, r => by cases r; exact ⟨_, .nil⟩
  | _, _, _, .cons h hs, r => by
    cases r with
    | cons r1 r2 =>
      obtain ⟨as, ra⟩ := DatV.reads I h r1
      obtain ⟨bs, rb⟩ := DatVs.reads I hs r2
      exact ⟨_, .cons ra rb⟩
end
theorem DatVs.length {K : PySem.W.Frag} {H : Hp} : ∀ {xs : List V} {ds : List PyData}, DatVs K H xs ds → xs.length = ds.length
  | _, _, .nil => rfl
  | _, _, .cons _ hs => by rw [List.length_cons, List.length_cons, DatVs.length hs]
theorem DatVs.get {K : PySem.W.Frag} {H : Hp} : ∀ {xs : List V} {ds : List PyData} {i : Nat} {x : V}, DatVs K H xs ds → xs[i]? = some x → ∃ d, ds[i]? = some d ∧ DatV K H x d
  | _, _, _, _, .nil, e => by simp at e
  | _, _, 0, _, .cons h _, e => by simp at e; subst e; exact ⟨_, rfl, h⟩
  | _, _, i + 1, x, .cons _ hs, e => by
    obtain ⟨d, h1, h2⟩ := DatVs.get (i := i) (x := x) hs (by simpa using e)
    exact ⟨d, by simpa using h1, h2⟩
theorem DatVs.snoc {K : PySem.W.Frag} {H : Hp} {x : V} {d : PyData} (h : DatV K H x d) : ∀ {xs : List V} {ds : List PyData}, DatVs K H xs ds → DatVs K H (xs ++ [x]) (ds ++ [d])
  | _, _, .nil => .cons h .nil
  | _, _, .cons h' hs => .cons h' (DatVs.snoc h hs)
def rEqD (K : PySem.W.Frag) : R2 := fun x y H Q => ∃ da db, DatV K H x da ∧ DatV K H y db ∧ da.canLay0 = true ∧ db.canLay0 = true ∧ min da.depth db.depth ≤ 60 ∧ Q (.bl (PyData.eqv da db)) H
def rNeD (K : PySem.W.Frag) : R2 := fun x y H Q => ∃ da db, DatV K H x da ∧ DatV K H y db ∧ da.canLay0 = true ∧ db.canLay0 = true ∧ min da.depth db.depth ≤ 60 ∧ Q (.bl (!PyData.eqv da db)) H
theorem op_eqD {X : Cx} (hu : X.A.units + 64 < cLine) : OpR X (compareOp .Eq) (rEqD X.K) := by
  intro pins s σ H x y v u Q I rx ry h
  obtain ⟨da, db, h1, h2, l1, l2, hd, q⟩ := h
  obtain ⟨as, ra⟩ := h1.reads I rx
  obtain ⟨bs, rb⟩ := h2.reads I ry
  exact SeqAt.compareEq_reads ra rb l1 l2 (by omega) ⟨.bl _, H, I, rfl, q⟩
theorem op_neD {X : Cx} (hu : X.A.units + 64 < cLine) : OpR X (compareOp .NotEq) (rNeD X.K) := by
  intro pins s σ H x y v u Q I rx ry h
  obtain ⟨da, db, h1, h2, l1, l2, hd, q⟩ := h
  obtain ⟨as, ra⟩ := h1.reads I rx
  obtain ⟨bs, rb⟩ := h2.reads I ry
  exact SeqAt.compareNe_reads ra rb l1 l2 (by omega) ⟨.bl _, H, I, rfl, q⟩
end L2

set_option Elab.async false
set_option linter.all false
set_option maxRecDepth 100000
set_option maxHeartbeats 4000000
namespace L2
open PySem PySem.Spec PyProof.Rows

structure KTab (K : PySem.W.Frag) (w : World) (a : Addr) (kvs : List (Str × V)) : Prop where
  ex : ∃ es n, K.lookup a = some ⟨.type "dict", none, .dict es n, #[]⟩ ∧ PySem.W.KeysLit w.params es.toList ∧ Paired (fun (p : Str × V) (e : DictEntry) => (∃ t, e.key = .str p.1 t) ∧ RelV p.2 e.val) kvs es.toList
  lo : (a == sysModules) = false
theorem findBy_rel {kvs : List (Str × V)} {es : List DictEntry} (r : Paired (fun (p : Str × V) (e : DictEntry) => (∃ t, e.key = .str p.1 t) ∧ RelV p.2 e.val) kvs es) (x : Str) : RelO (kvs.lookup x) (findBy Value.isStrOf es.toArray x) := by
  unfold findBy
  rw [List.find?_toArray]
  induction r with
  | nil => exact True.intro
  | @cons p e ps qs h t ih =>
    obtain ⟨⟨tk, hk⟩, hv⟩ := h
    rw [List.lookup_cons, List.find?_cons, hk]
    by_cases q : x = p.1
    · subst q
      simp only [beq_self_eq_true]
      have : Value.isStrOf p.1 (.str p.1 tk) = true := by simp [Value.isStrOf]
      rw [this]
      exact hv
    · have h1 : (x == p.1) = false := by simpa using q
      have h2 : Value.isStrOf x (.str p.1 tk) = false := by
        simp only [Value.isStrOf]
        simpa using fun z => q z.symm
      rw [h1, h2]
      exact ih
theorem KTab.map {X : Cx} {pins : List (Addr × Obj)} {σ : St} {H : Hp} {s : Shared} {a : Addr} {kvs : List (Str × V)} (T : KTab X.K X.w a kvs) (I : Inv X pins σ H s) :
    ∃ f : Str → Option Value, s.heap.MapOf (strKind X.prog X.w) a f ∧ ∀ x, RelO (kvs.lookup x) (f x) := by
  obtain ⟨es, n, hl, hk, r⟩ := T.ex
  refine ⟨_, PySem.W.mapOf_K (prog := X.prog) I.kIn hl hk, fun x => ?_⟩
  have := findBy_rel r x
  simpa using this
section
variable {X : Cx} {o e f : Expr} {apos cpos pos : Pos} {td ty tx : TE}
def tKGet1 (K : PySem.W.Frag) (w : World) (td ty : TE) : TE := fun σ H Q => td σ H fun x H1 => ∃ a kvs, x = .ref a ∧ KTab K w a kvs ∧ ty σ H1 fun y H2 => ∃ k, y = .str k ∧ Q ((kvs.lookup k).getD .non) H2
theorem MapOf.dict {h : Heap} {P : Program} {w : World} {a : Addr} {f : Str → Option Value} (m : h.MapOf (strKind P w) a f) : ∀ b, Value.ref a = .ref b → ∃ ob, h.get? b = some ob ∧ ob.dict = none := fun b q => by
  cases q
  obtain ⟨ob, _, _, h1, h2, _⟩ := m
  exact ⟨ob, h1, h2.2.1⟩
theorem pe_kget1 (ho : PE X o td) (he : PE X e ty) (m : M1 X o "get" apos e cpos) : PE X (.Call (.Attribute o "get" apos) [e] [] cpos) (tKGet1 X.K X.w td ty) := by
  intro pins s σ H Q I h
  refine wpAny_Call_method m.base m.few m.line PySem.F.plainAttrs_dict PySem.F.slot_dict_get PySem.F.type_dict_get (thn (ho pins s σ H _ I h) fun u s1 ⟨x, H1, I1, rx, a, kvs, ex, T, q1⟩ => ?_)
  subst ex
  obtain rfl : u = Value.ref a := rx
  obtain ⟨f0, m0, _⟩ := T.map I1
  refine ⟨m0.typeIs, MapOf.dict m0, ?_⟩
  rw [m.trees]
  refine Calls.callWith_builtin rfl (Calls.evalArgs_plain (Calls.spliced_cons (thn (he pins s1 σ H1 _ I1 q1) fun iv s2 ⟨y, H2, I2, ry, k, ey, q2⟩ => Calls.spliced_nil ?_)))
  subst ey
  obtain ⟨t, rfl⟩ := ry
  obtain ⟨f2, m2, r2⟩ := T.map I2
  refine call_meetsIn PySem.F.slot_dict_get m2.typeIs PySem.F.entry_dict_get (PySem.F.args_dict_get_2 _ _) (meets_dict_get (strKind X.prog X.w) a (strKind_is X.prog X.w k t) T.lo) ⟨_, m2, ?_⟩
  exact ⟨_, H2, I2.tok _, (r2 k).getD (d := .non) (show RelV .non Value.none from rfl), q2⟩
def rIxK (K : PySem.W.Frag) (w : World) : R2 := fun x y H Q => ∃ a kvs k v, x = .ref a ∧ y = .str k ∧ KTab K w a kvs ∧ kvs.lookup k = some v ∧ Q v H
theorem ix_ktab : IxR X (rIxK X.K X.w) := by
  intro value slice pins s σ H x y v u Q I rx ry h hs
  obtain ⟨a, kvs, k, z, rfl, rfl, T, hl, q⟩ := h
  cases rx
  obtain ⟨t, rfl⟩ := ry
  obtain ⟨f2, m2, r2⟩ := T.map I
  obtain ⟨w', hw, rw'⟩ := RelO.some_of (v := z) (o := f2 k) (by rw [← hl]; exact r2 k)
  exact tail_any m2.typeIs slot_dict_getitem.lookup (wpAny_getItem_of (strKind_is X.prog X.w k t) m2 hw ⟨z, H, I.tok _, rw', q⟩) hs
end
end L2

set_option Elab.async false
set_option linter.all false
set_option maxRecDepth 100000
set_option maxHeartbeats 4000000
namespace L2
open PySem PySem.Spec PyProof.Rows
section
variable {X : Cx} {a b c e o : Expr} {ta tb tc te : TE} {pos p : Pos}

def mVar (i : Nat) : TE := fun σ H Q => match σ[i]? with
  | some (some v) => Q v H
  | _ => False
theorem mVar_eq (i : Nat) : mVar i = tVar i := by
  funext σ H Q
  refine propext ⟨fun h => ?_, fun ⟨v, e, h⟩ => ?_⟩
  · unfold mVar at h
    split at h
    · exact ⟨_, ‹_›, h⟩
    · exact h.elim
  · unfold mVar
    rw [e]
    exact h
theorem pn (i : Nat) {x : Str} {pos : Pos} (hN : X.N[i]? = some x := by rfl) (hv : Vis X.env.scope x := by first | exact Or.inl rfl | exact Or.inr (Or.inl rfl) | exact Or.inr (Or.inr rfl)) (hd : (x == ("__debug__" : Str)) = false := by decide)
    (hcd : (x == ("__classdict__" : Str)) = false := by decide) : PE X (.Name x pos) (mVar i) := by
  rw [mVar_eq]
  exact pe_var hN hv hd hcd

def mTest (t : TE) : TT := fun σ H Q => t σ H fun x H' => match x with
  | .bl k => Q k H'
  | _ => False
theorem mTest_eq (t : TE) : mTest t = tTest t := by
  funext σ H Q
  unfold mTest tTest
  congr 1
  funext x H'
  refine propext ⟨fun h => ?_, fun ⟨k, e, h⟩ => ?_⟩
  · split at h
    · exact ⟨_, rfl, h⟩
    · exact h.elim
  · subst e
    exact h
theorem mTest_eqB (t : TE) : mTest t = tB t := by rw [mTest_eq]; rfl
theorem pt_cmpM {op : CmpOp} {r : R2} (ho : OpR X (compareOp op) r) (ha : PE X a ta) (hb : PE X b tb) (hm : behindInMarks op b = false := by first | exact nomark _ | rfl) : PT X (.Compare a [op] [b] pos) (mTest (tOp r ta tb)) := by
  rw [mTest_eq]
  exact pt_cmpR ho ha hb hm
theorem pt_chainM {op op' : CmpOp} {r r' : R2} (ho : OpR X (compareOp op) r) (ho' : OpR X (compareOp op') r') (ha : PE X a ta) (hb : PE X b tb) (hc : PE X c tc)
    (hm : lastMarks [op, op'] [b, c] = false := by with_unfolding_all rfl) : PT X (.Compare a [op, op'] [b, c] pos) (mTest (tChain r r' ta tb tc)) := by
  rw [mTest_eq]
  exact pt_chain ho ho' ha hb hc hm
theorem pt_valM {e : Expr} {t : TE} (h : PE X e t) (he : ∀ whole, isTrue e X.env whole = (do let v ← whole; standAt e.pos; holding [v] (truthy v)) := by intro _; rfl) : PT X e (mTest t) := by
  rw [mTest_eqB]
  exact pt_val h he
def mTruth (K : PySem.W.Frag) (t : TE) : TT := fun σ H Q => t σ H fun x H' => ∃ k, TruV K x H' k ∧ Q k H'
def mAndV (ta tb : TE) : TE := fun σ H Q => ta σ H fun x H1 => match x with
  | .bl c => if c = true then tb σ H1 Q else Q (.bl false) H1
  | _ => False
def mOrV (ta tb : TE) : TE := fun σ H Q => ta σ H fun x H1 => match x with
  | .bl c => if c = true then Q (.bl true) H1 else tb σ H1 Q
  | _ => False
def mNotV (ta : TE) : TE := fun σ H Q => ta σ H fun x H1 => match x with
  | .bl c => Q (.bl (!c)) H1
  | _ => False
theorem mAndV_eq (ta tb : TE) : mAndV ta tb = tAndV ta tb := by
  funext σ H Q
  unfold mAndV tAndV
  congr 1
  funext x H'
  refine propext ⟨fun h => ?_, fun ⟨k, e, h⟩ => ?_⟩
  · split at h
    · exact ⟨_, rfl, h⟩
    · exact h.elim
  · subst e; exact h
theorem mOrV_eq (ta tb : TE) : mOrV ta tb = tOrV ta tb := by
  funext σ H Q
  unfold mOrV tOrV
  congr 1
  funext x H'
  refine propext ⟨fun h => ?_, fun ⟨k, e, h⟩ => ?_⟩
  · split at h
    · exact ⟨_, rfl, h⟩
    · exact h.elim
  · subst e; exact h
theorem mNotV_eq (ta : TE) : mNotV ta = tNotV ta := by
  funext σ H Q
  unfold mNotV tNotV
  congr 1
  funext x H'
  refine propext ⟨fun h => ?_, fun ⟨k, e, h⟩ => ?_⟩
  · split at h
    · exact ⟨_, rfl, h⟩
    · exact h.elim
  · subst e; exact h
theorem pe_andM {rest : List Expr} (ha : PE X a ta) (hb : PE X (.BoolOp .And (b :: rest) pos) tb) : PE X (.BoolOp .And (a :: b :: rest) pos) (mAndV ta tb) := by rw [mAndV_eq]; exact pe_and ha hb
theorem pe_orM {rest : List Expr} (ha : PE X a ta) (hb : PE X (.BoolOp .Or (b :: rest) pos) tb) : PE X (.BoolOp .Or (a :: b :: rest) pos) (mOrV ta tb) := by rw [mOrV_eq]; exact pe_or ha hb
theorem pe_notM (ha : PE X a ta) : PE X (.UnaryOp .Not a pos) (mNotV ta) := by rw [mNotV_eq]; exact pe_not ha
def mChain (r r' : R2) (ta tb tc : TE) : TE := fun σ H Q => ta σ H fun x H1 => tb σ H1 fun y H2 => r x y H2 fun z H3 => match z with
  | .bl k => if k = true then tc σ H3 fun w' H4 => r' y w' H4 Q else Q (.bl false) H3
  | _ => False
theorem mChain_eq (r r' : R2) (ta tb tc : TE) : mChain r r' ta tb tc = tChain r r' ta tb tc := by
  funext σ H Q
  unfold mChain tChain
  congr 1
  funext x H1
  congr 1
  funext y H2
  congr 1
  funext z H3
  refine propext ⟨fun h => ?_, fun ⟨k, e, h⟩ => ?_⟩
  · split at h
    · exact ⟨_, rfl, h⟩
    · exact h.elim
  · subst e; exact h
theorem pe_chainM {op op' : CmpOp} {r r' : R2} (ho : OpR X (compareOp op) r) (ho' : OpR X (compareOp op') r') (ha : PE X a ta) (hb : PE X b tb) (hc : PE X c tc)
    (hm : lastMarks [op, op'] [b, c] = false := by with_unfolding_all rfl) : PE X (.Compare a [op, op'] [b, c] pos) (mChain r r' ta tb tc) := by
  rw [mChain_eq]; exact pe_chain ho ho' ha hb hc hm

def gAdd (K : PySem.W.Frag) : R2 := fun x y H Q => match x, y with
  | .int i, .int j => Q (.int (i + j)) H
  | .str i, .str j => i.length + j.length ≤ sizeLine ∧ Q (.str (i ++ j)) H
  | .ref l, .ref b => (∃ xs zs, H l = some (.lst xs) ∧ H b = some (.lst zs) ∧ xs.length + zs.length ≤ sizeLine ∧ ∀ p, H p = none → Q (.ref p) (upd H p (.lst (xs ++ zs)))) ∨
      ∃ xs ys, SqT K H l xs ∧ SqT K H b ys ∧ xs ≠ [] ∧ xs.length + ys.length ≤ sizeLine ∧ (ys = [] → Q (.ref l) H) ∧ (ys ≠ [] → ∀ p, H p = none → Q (.ref p) (upd H p (.tup (xs ++ ys))))
  | _, _ => False
theorem og_add {K : PySem.W.Frag} (hK : X.K = K := by rfl) : OpR X (binaryOp .Add) (gAdd K) := by
  subst hK
  intro pins s σ H x y v u Q I rx ry h
  unfold gAdd at h
  split at h
  · exact op_add pins s σ H _ _ v u Q I rx ry ⟨_, _, rfl, rfl, h⟩
  · exact op_add_str pins s σ H _ _ v u Q I rx ry ⟨_, _, rfl, rfl, h.1, h.2⟩
  · rcases h with ⟨xs, zs, h1, h2, h3, h4⟩ | ⟨xs, ys, h1, h2, h3, h4, h5, h6⟩
    · exact op_cat pins s σ H _ _ v u Q I rx ry ⟨_, _, xs, zs, rfl, rfl, h1, h2, h3, h4⟩
    · exact op_catT pins s σ H _ _ v u Q I rx ry ⟨_, _, xs, ys, rfl, rfl, h1, h2, h3, h4, h5, h6⟩
  · exact h.elim
def gMinus : R2 := fun x y H Q => match x, y with
  | .int i, .int j => Q (.int (i - j)) H
  | _, _ => False
theorem og_sub : OpR X (binaryOp .Sub) gMinus := by
  intro pins s σ H x y v u Q I rx ry h
  unfold gMinus at h
  split at h
  · exact op_sub pins s σ H _ _ v u Q I rx ry ⟨_, _, rfl, rfl, h⟩
  · exact h.elim
def gMul : R2 := fun x y H Q => match x, y with
  | .int i, .int j => CMul i j ∧ Q (.int (i * j)) H
  | .str z, .int n => MulOk z n ∧ Q (.str (Txt.mul z n)) H
  | .ref l, .int k => ∃ xs, H l = some (.lst xs) ∧ -(2 ^ 63) ≤ k ∧ k < 2 ^ 63 ∧ xs.length * k.toNat ≤ sizeLine ∧ ∀ p, H p = none → Q (.ref p) (upd H p (.lst (List.replicate k.toNat xs).flatten))
  | _, _ => False
theorem og_mul : OpR X (binaryOp .Mult) gMul := by
  intro pins s σ H x y v u Q I rx ry h
  unfold gMul at h
  split at h
  · exact op_mul pins s σ H _ _ v u Q I rx ry ⟨_, _, rfl, rfl, h.1, h.2⟩
  · exact op_mul_str pins s σ H _ _ v u Q I rx ry ⟨_, _, rfl, rfl, h.1, h.2⟩
  · obtain ⟨xs, h1, h2, h3, h4, h5⟩ := h
    exact op_rep pins s σ H _ _ v u Q I rx ry ⟨_, _, xs, rfl, rfl, h1, h2, h3, h4, h5⟩
  · exact h.elim
def gDiv : R2 := fun x y H Q => match x, y with
  | .int i, .int j => CDiv i j ∧ Q (.int (i / j)) H
  | _, _ => False
theorem og_div : OpR X (binaryOp .FloorDiv) gDiv := by
  intro pins s σ H x y v u Q I rx ry h
  unfold gDiv at h
  split at h
  · exact op_fdiv pins s σ H _ _ v u Q I rx ry ⟨_, _, rfl, rfl, h.1, h.2⟩
  · exact h.elim
def gMod : R2 := fun x y H Q => match x, y with
  | .int i, .int j => 0 < j ∧ Q (.int (i % j)) H
  | _, _ => False
theorem og_mod : OpR X (binaryOp .Mod) gMod := by
  intro pins s σ H x y v u Q I rx ry h
  unfold gMod at h
  split at h
  · exact op_mod pins s σ H _ _ v u Q I rx ry ⟨_, _, rfl, rfl, h.1, h.2⟩
  · exact h.elim
def gIadd : R2 := fun x y H Q => match x, y with
  | .int i, .int j => Q (.int (i + j)) H
  | .str i, .str j => i.length + j.length ≤ sizeLine ∧ Q (.str (i ++ j)) H
  | _, _ => False
theorem og_iadd : PIp X .Add gIadd := by
  intro pins s σ H x y v u Q I rx ry h
  unfold gIadd at h
  split at h
  · exact iop_add pins s σ H _ _ v u Q I rx ry ⟨_, _, rfl, rfl, h⟩
  · exact iop_add_str pins s σ H _ _ v u Q I rx ry ⟨_, _, rfl, rfl, h.1, h.2⟩
  · exact h.elim
def mAug (i : Nat) (te : TE) (ti : TIp) : TS := fun D σ H => match σ[i]? with
  | some (some x) => te σ H fun y H1 => ti x y H1 fun z H2 => D.nx (σ.set i (some z)) H2
  | _ => False
theorem mAug_eq (i : Nat) (te : TE) (ti : TIp) : mAug i te ti = tAug i te ti := by
  funext D σ H
  refine propext ⟨fun h => ?_, fun ⟨v, e, h⟩ => ?_⟩
  · unfold mAug at h
    split at h
    · exact ⟨_, ‹_›, h⟩
    · exact h.elim
  · unfold mAug
    rw [e]
    exact h
theorem ps_augM {i : Nat} {x : Str} {op : Operator} {ti : TIp} {pos' : Pos} (hN : X.N.Nodup) (hi : X.N[i]? = some x) (hx : Loc X.env.scope x) (he : PE X e te) (ho : PIp X op ti) (hf : X.fn x = true ∨ X.env.scope.names.lookup x = some .local := by first | exact .inl rfl | exact .inr rfl | assumption) :
    PS X (.AugAssign (.Name x pos') op e pos) (mAug i te ti) := by
  rw [mAug_eq]; exact ps_aug hN hi hx he ho hf

def gEq (K : PySem.W.Frag) (neg : Bool) : R2 := fun x y H Q => match x, y with
  | .int i, .int j => Q (.bl (neg ^^ decide (i = j))) H
  | .str i, .str j => Q (.bl (neg ^^ decide (i = j))) H
  | .bl i, .bl j => Q (.bl (neg ^^ decide (i = j))) H
  | .ref i, .ref j => ∃ da db, DatV K H (.ref i) da ∧ DatV K H (.ref j) db ∧ da.canLay0 = true ∧ db.canLay0 = true ∧ min da.depth db.depth ≤ 60 ∧ Q (.bl (neg ^^ PyData.eqv da db)) H
  | _, _ => False
theorem og_eq (hu : X.A.units + 64 < cLine) {K : PySem.W.Frag} (hK : X.K = K := by rfl) : OpR X (compareOp .Eq) (gEq K false) := by
  subst hK
  intro pins s σ H x y v u Q I rx ry h
  unfold gEq at h
  split at h
  · refine op_eq pins s σ H _ _ v u Q I rx ry ⟨rfl, ?_⟩
    simpa using h
  · refine op_eq pins s σ H _ _ v u Q I rx ry ⟨rfl, ?_⟩
    simpa using h
  · refine op_eq pins s σ H _ _ v u Q I rx ry ⟨rfl, ?_⟩
    simpa using h
  · obtain ⟨da, db, h1, h2, h3, h4, h5, h6⟩ := h
    exact op_eqD hu pins s σ H _ _ v u Q I rx ry ⟨da, db, h1, h2, h3, h4, h5, by simpa using h6⟩
  · exact h.elim
theorem og_ne (hu : X.A.units + 64 < cLine) {K : PySem.W.Frag} (hK : X.K = K := by rfl) : OpR X (compareOp .NotEq) (gEq K true) := by
  subst hK
  intro pins s σ H x y v u Q I rx ry h
  unfold gEq at h
  split at h
  · refine op_ne pins s σ H _ _ v u Q I rx ry ⟨rfl, ?_⟩
    simpa using h
  · refine op_ne pins s σ H _ _ v u Q I rx ry ⟨rfl, ?_⟩
    simpa using h
  · refine op_ne pins s σ H _ _ v u Q I rx ry ⟨rfl, ?_⟩
    simpa using h
  · obtain ⟨da, db, h1, h2, h3, h4, h5, h6⟩ := h
    exact op_neD hu pins s σ H _ _ v u Q I rx ry ⟨da, db, h1, h2, h3, h4, h5, by simpa using h6⟩
  · exact h.elim
def gLt : R2 := fun x y H Q => match x, y with
  | .int i, .int j => Q (.bl (decide (i < j))) H
  | .str i, .str j => Q (.bl (decide (i.cps.toList < j.cps.toList))) H
  | _, _ => False
theorem og_lt : OpR X (compareOp .Lt) gLt := by
  intro pins s σ H x y v u Q I rx ry h
  unfold gLt at h
  split at h
  · exact op_lt pins s σ H _ _ v u Q I rx ry ⟨_, _, rfl, rfl, h⟩
  · exact op_lt_str pins s σ H _ _ v u Q I rx ry ⟨_, _, rfl, rfl, h⟩
  · exact h.elim
def gLe : R2 := fun x y H Q => match x, y with
  | .int i, .int j => Q (.bl (decide (i ≤ j))) H
  | .str i, .str j => Q (.bl (!decide (j.cps.toList < i.cps.toList))) H
  | _, _ => False
theorem og_le : OpR X (compareOp .LtE) gLe := by
  intro pins s σ H x y v u Q I rx ry h
  unfold gLe at h
  split at h
  · exact op_le pins s σ H _ _ v u Q I rx ry ⟨_, _, rfl, rfl, h⟩
  · exact op_le_str pins s σ H _ _ v u Q I rx ry ⟨_, _, rfl, rfl, h⟩
  · exact h.elim
def gGt : R2 := fun x y H Q => match x, y with
  | .int i, .int j => Q (.bl (decide (j < i))) H
  | _, _ => False
theorem og_gt : OpR X (compareOp .Gt) gGt := by
  intro pins s σ H x y v u Q I rx ry h
  unfold gGt at h
  split at h
  · exact op_gt pins s σ H _ _ v u Q I rx ry ⟨_, _, rfl, rfl, h⟩
  · exact h.elim
def gGe : R2 := fun x y H Q => match x, y with
  | .int i, .int j => Q (.bl (decide (j ≤ i))) H
  | _, _ => False
theorem og_ge : OpR X (compareOp .GtE) gGe := by
  intro pins s σ H x y v u Q I rx ry h
  unfold gGe at h
  split at h
  · exact op_ge pins s σ H _ _ v u Q I rx ry ⟨_, _, rfl, rfl, h⟩
  · exact h.elim
def gIn (K : PySem.W.Frag) (neg : Bool) : R2 := fun x y H Q => match y with
  | .str j => (match x with
    | .str i => Q (.bl (neg ^^ !(Builtin.Str.occurrences j i 0 j.length 1).isEmpty)) H
    | _ => False)
  | .ref p => ∃ xs, (SqL K H p xs ∨ SqT K H p xs) ∧ flatV x = true ∧ xs.all flatV = true ∧ Q (.bl (neg ^^ inV x xs)) H
  | _ => False
theorem og_in {K : PySem.W.Frag} (hK : X.K = K := by rfl) : OpR X (compareOp .In) (gIn K false) := by
  subst hK
  intro pins s σ H x y v u Q I rx ry h
  unfold gIn at h
  split at h
  · split at h
    · refine op_in_str pins s σ H _ _ v u Q I rx ry ⟨_, _, rfl, rfl, ?_⟩
      simpa using h
    · exact h.elim
  · obtain ⟨xs, h1, h2, h3, h4⟩ := h
    exact op_in_seq pins s σ H _ _ v u Q I rx ry ⟨_, xs, rfl, h1, h2, h3, by simpa using h4⟩
  · exact h.elim
theorem og_notin {K : PySem.W.Frag} (hK : X.K = K := by rfl) : OpR X (compareOp .NotIn) (gIn K true) := by
  subst hK
  intro pins s σ H x y v u Q I rx ry h
  unfold gIn at h
  split at h
  · split at h
    · refine op_notin_str pins s σ H _ _ v u Q I rx ry ⟨_, _, rfl, rfl, ?_⟩
      simpa using h
    · exact h.elim
  · obtain ⟨xs, h1, h2, h3, h4⟩ := h
    exact op_notIn_seq pins s σ H _ _ v u Q I rx ry ⟨_, xs, rfl, h1, h2, h3, by simpa using h4⟩
  · exact h.elim
def gIs (neg : Bool) : R2 := fun x y H Q => match y with
  | .non => (match x with
    | .non => Q (.bl (neg ^^ true)) H
    | _ => Q (.bl (neg ^^ false)) H)
  | _ => False
theorem og_is : OpR X (compareOp .Is) (gIs false) := by
  intro pins s σ H x y v u Q I rx ry h
  unfold gIs at h
  split at h
  · refine op_isN pins s σ H _ _ v u Q I rx ry ⟨rfl, ?_⟩
    split at h
    · exact h
    · rename_i hn
      have e : decide (x = V.non) = false := decide_eq_false hn
      rw [e]
      exact h
  · exact h.elim
def gIx (K : PySem.W.Frag) (w : World) : R2 := fun x y H Q => match x, y with
  | .ref q, .int i => (∃ xs v, SqL K H q xs ∧ atI xs i = some v ∧ Q v H) ∨ ∃ xs v, SqT K H q xs ∧ atI xs i = some v ∧ Q v H
  | .str z, .int i => z.length ≤ sizeLine ∧ ∃ c, atI z.cps.toList i = some c ∧ Q (.str ⟨#[c]⟩) H
  | .ref q, .str k => (∃ kvs v, KTab K w q kvs ∧ kvs.lookup k = some v ∧ Q v H) ∨ ∃ (kvs : List (Key × V)) (v : V), H q = some (.dK kvs) ∧ valV kvs (Sum.inr k) = some v ∧ Q v H
  | _, _ => False
theorem og_ix (hu : X.A.units + 64 < cLine) {K : PySem.W.Frag} {w : World} (hK : X.K = K := by rfl) (hw : X.w = w := by rfl) : IxR X (gIx K w) := by
  subst hK
  subst hw
  intro value slice pins s σ H x y v u Q I rx ry h hs
  unfold gIx at h
  split at h
  · rcases h with ⟨xs, z, h1, h2, h3⟩ | ⟨xs, z, h1, h2, h3⟩
    · exact ix_list value slice pins s σ H _ _ v u Q I rx ry ⟨_, xs, _, z, rfl, rfl, h1, h2, h3⟩ hs
    · exact ix_tup value slice pins s σ H _ _ v u Q I rx ry ⟨_, xs, _, z, rfl, rfl, h1, h2, h3⟩ hs
  · obtain ⟨hz, c, h1, h2⟩ := h
    exact ix_str value slice pins s σ H _ _ v u Q I rx ry ⟨_, _, c, rfl, rfl, hz, h1, h2⟩ hs
  · rcases h with ⟨kvs, z, h1, h2, h3⟩ | ⟨kvs, z, h1, h2, h3⟩
    · exact ix_ktab value slice pins s σ H _ _ v u Q I rx ry ⟨_, kvs, _, z, rfl, rfl, h1, h2, h3⟩ hs
    · cases rx
      have hd := dk_of I.hok h1
      obtain ⟨_, _, vs, _, dd⟩ := hd
      exact tail_any dd.typeIs slot_dict_getitem.lookup (d_getItem (y := kV (Sum.inr _)) (v := z) (by omega) I (.inl ⟨kvs, _, .inl h1, rfl, h2.symm⟩) ry fun w' s' I' rw' => ⟨z, H, I', rw', h3⟩) hs
  · exact h.elim
def gSl (K : PySem.W.Frag) : V → Option Int → Option Int → Hp → VK → Prop := fun x lo hi H Q => match x with
  | .str z => z.length ≤ sizeLine ∧ Q (.str (Txt.slice z lo hi)) H
  | .ref a => ∃ xs, SqL K H a xs ∧ ∀ p, H p = none → Q (.ref p) (upd H p (.lst (cutV xs lo hi)))
  | _ => False
theorem og_sl {K : PySem.W.Frag} (hK : X.K = K := by rfl) : SlR X (gSl K) := by
  subst hK
  intro pins s σ H x v vl vu lo hi sl Q I rx hs pl pu h
  unfold gSl at h
  split at h
  · exact sl_str pins s σ H _ v vl vu lo hi sl Q I rx hs pl pu ⟨_, rfl, h.1, h.2⟩
  · obtain ⟨xs, h1, h2⟩ := h
    exact sl_list pins s σ H _ v vl vu lo hi sl Q I rx hs pl pu ⟨_, xs, rfl, h1, h2⟩
  · exact h.elim
def mPart (t : TE) : TO := fun σ H Q => t σ H fun x H1 => match x with
  | .int i => Q (some i) H1
  | _ => False
theorem mPart_eq (t : TE) : mPart t = tPart t := by
  funext σ H Q
  unfold mPart tPart
  congr 1
  funext x H'
  refine propext ⟨fun h => ?_, fun ⟨k, e, h⟩ => ?_⟩
  · split at h
    · exact ⟨_, rfl, h⟩
    · exact h.elim
  · subst e; exact h
theorem po_someM (h : PE X e te) : PO X (some e) (mPart te) := by rw [mPart_eq]; exact po_some h

def gLen (K : PySem.W.Frag) : List V → Hp → VK → Prop := fun xs H Q => match xs with
  | [.str y] => y.length ≤ sizeLine ∧ Q (.int y.length) H
  | [.ref p] => ∃ ys, (SqL K H p ys ∨ SqT K H p ys) ∧ Q (.int ys.length) H
  | _ => False
theorem cg_len {K : PySem.W.Frag} (hK : X.K = K := by rfl) : CallR X (.builtin "len") (gLen K) := by
  subst hK
  intro pins s σ H xs us Q I r h
  unfold gLen at h
  split at h
  · exact call_len_str pins s σ H _ us Q I r ⟨_, rfl, h.1, h.2⟩
  · obtain ⟨ys, h1, h2⟩ := h
    exact call_len_seq pins s σ H _ us Q I r ⟨_, ys, rfl, h1, h2⟩
  · exact h.elim
def gOrd : List V → Hp → VK → Prop := fun xs H Q => match xs with
  | [.str x] => x.length = 1 ∧ Q (.int (x.cps.getD 0 0 : Nat)) H
  | _ => False
theorem cg_ord : CallR X (.builtin "ord") gOrd := by
  intro pins s σ H xs us Q I r h
  unfold gOrd at h
  split at h
  · exact call_ord pins s σ H _ us Q I r ⟨_, rfl, h.1, h.2⟩
  · exact h.elim
def gList (K : PySem.W.Frag) : List V → Hp → VK → Prop := fun xs H Q => match xs with
  | [.ref p] => ∃ ys, (SqL K H p ys ∨ SqT K H p ys) ∧ ∀ l, H l = none → Q (.ref l) (upd H l (.lst ys))
  | _ => False
theorem cg_list {K : PySem.W.Frag} (hK : X.K = K := by rfl) : CallR X (.type "list") (gList K) := by
  subst hK
  intro pins s σ H xs us Q I r h
  unfold gList at h
  split at h
  · obtain ⟨ys, h1, h2⟩ := h
    exact call_list_of pins s σ H _ us Q I r ⟨_, ys, rfl, h1, h2⟩
  · exact h.elim

def gJoin (K : PySem.W.Frag) : V → List V → Hp → VK → Prop := fun x vs H Q => match x, vs with
  | .str sep, [.ref l] => ∃ texts : List Str, SqL K H l (texts.map V.str) ∧ JoinOk sep texts = true ∧ Q (.str (Txt.join sep texts)) H
  | _, _ => False
theorem mg_join {K : PySem.W.Frag} (hK : X.K = K := by rfl) : MtR X "str.join" (gJoin K) := by
  subst hK
  intro pins s σ H x xs v us Q I rx rs h
  unfold gJoin at h
  split at h
  · obtain ⟨texts, h1, h2, h3⟩ := h
    exact mt_join pins s σ H _ _ v us Q I rx rs ⟨_, _, texts, rfl, rfl, h1, h2, h3⟩
  · exact h.elim
def gSplit : V → List V → Hp → VK → Prop := fun x vs H Q => match x, vs with
  | .str z, [.str y] => y.length ≠ 0 ∧ z.length < sizeLine ∧ (Txt.split z y).length ≤ sizeLine ∧ ∀ l, H l = none → Q (.ref l) (upd H l (.lst ((Txt.split z y).map V.str)))
  | _, _ => False
theorem mg_split : MtR X "str.split" gSplit := by
  intro pins s σ H x xs v us Q I rx rs h
  unfold gSplit at h
  split at h
  · obtain ⟨h1, h2, h3, h4⟩ := h
    exact mt_split pins s σ H _ _ v us Q I rx rs ⟨_, _, rfl, rfl, h1, h2, h3, h4⟩
  · exact h.elim
def gAppend : V → List V → Hp → VK → Prop := fun x vs H Q => match x, vs with
  | .ref l, [y] => ∃ xs, H l = some (.lst xs) ∧ xs.length < sizeLine ∧ Q .non (upd H l (.lst (xs ++ [y])))
  | _, _ => False
theorem mg_append : MtR X "list.append" gAppend := by
  intro pins s σ H x xs v us Q I rx rs h
  unfold gAppend at h
  split at h
  · obtain ⟨ys, h1, h2, h3⟩ := h
    exact mt_append pins s σ H _ _ v us Q I rx rs ⟨_, ys, _, rfl, rfl, h1, h2, h3⟩
  · exact h.elim
end
end L2

namespace L2
open PySem PySem.Spec PyProof.Rows
section
variable {X : Cx} {tg : Expr}
def iAny (K : PySem.W.Frag) (tl : TE) : TI := fun σ H R => tl σ H fun x H1 => match x with
  | .str z => R (Its z) H1
  | .ref a => ((∃ xs, SqL K H1 a xs) ∧ R (Itl K a) H1) ∨ ((∃ xs, SqT K H1 a xs) ∧ R (Itt K a) H1)
  | _ => False
theorem pi_any {l : Expr} {tl : TE} (hl : PE X l tl) {K : PySem.W.Frag} (hK : X.K = K := by rfl) : PI X tg l (iAny K tl) := by
  subst hK
  intro pins s σ H R I h
  refine thn (hl pins s σ H _ I h) fun v s1 ⟨x, H1, I1, r1, q1⟩ => ?_
  dsimp only at q1
  split at q1
  · rename_i z
    obtain ⟨t, rfl⟩ := r1
    have fin : ∀ b ∈ [s1.heap.objs.size], FpOk X pins H1 b := fun b hb => by
      have e : b = s1.heap.objs.size := by simpa using hb
      subst e
      exact I1.fpOk (Nat.le_refl _) (I1.hok.fresh (Nat.le_refl _))
    cases ha : z.cps.all (· < 128)
    · refine wpAny_pyIter_wide ha ?_
      exact ⟨s1.heap.objs.size, [s1.heap.objs.size], _, _, H1, rfl, I1.kept (t' := s1.toks) fun b o e => Heap.get?_push_of_some _ e,
        turn_str "str_iterator" _ z t (fun A' hA => Walks.strWide hA _ z t) (fun A i s Q E st h => wpAny_pyIter_striter_wide st h) (by decide), ⟨_, Heap.get?_push_size _ rfl, rfl, rfl⟩, fin, q1⟩
    · refine wpAny_pyIter_ascii ha ?_
      exact ⟨s1.heap.objs.size, [s1.heap.objs.size], _, _, H1, rfl, I1.kept (t' := s1.toks) fun b o e => Heap.get?_push_of_some _ e,
        turn_str "str_ascii_iterator" _ z t (fun A' hA => Walks.strAscii hA _ z t) (fun A i s Q E st h => wpAny_pyIter_striter_ascii st h) (by decide), ⟨_, Heap.get?_push_size _ rfl, rfl, rfl⟩, fin, q1⟩
  · rename_i a
    cases r1
    have fin : ∀ b ∈ [s1.heap.objs.size], FpOk X pins H1 b := fun b hb => by
      have e : b = s1.heap.objs.size := by simpa using hb
      subst e
      exact I1.fpOk (Nat.le_refl _) (I1.hok.fresh (Nat.le_refl _))
    rcases q1 with ⟨⟨xs, hq⟩, q⟩ | ⟨⟨xs, hq⟩, q⟩
    · obtain ⟨its, rv, p, hz⟩ := I1.list hq
      refine wpAny_pyIter_list p.isList ?_
      exact ⟨s1.heap.objs.size, [s1.heap.objs.size], _, _, H1, rfl, I1.kept (t' := s1.toks) fun b o e => Heap.get?_push_of_some _ e, turn_list a _, ⟨_, Heap.get?_push_size _ rfl, rfl, rfl⟩, fin, q⟩
    · obtain ⟨its, rv, p, hz⟩ := I1.tuple hq
      refine wpAny_pyIter_tuple (show s1.heap.IsTuple a its.toArray from p) ?_
      exact ⟨s1.heap.objs.size, [s1.heap.objs.size], _, _, H1, rfl, I1.kept (t' := s1.toks) fun b o e => Heap.get?_push_of_some _ e, turn_tuple a _, ⟨_, Heap.get?_push_size _ rfl, rfl, rfl⟩, fin, q⟩
  · exact q1.elim
def mRng1 (ta : TA) : TI := fun σ H R => ta σ H fun vs H1 => match vs with
  | [.int j] => -(2 ^ 62) ≤ j ∧ j < 2 ^ 62 ∧ R (Itr 0 j.toNat) H1
  | _ => False
theorem mRng1_eq (ta : TA) : mRng1 ta = iRng1 ta := by
  funext σ H R
  unfold mRng1 iRng1
  congr 1
  funext vs H'
  refine propext ⟨fun h => ?_, fun ⟨k, e, h⟩ => ?_⟩
  · split at h
    · exact ⟨_, rfl, h⟩
    · exact h.elim
  · subst e; exact h
theorem pi_rng1 {a : Expr} {ta : TA} {p pos : Pos} (hg : Gl X "range") (hm : X.mg "range" = none) (ha : PA X [a] ta) (hs : starEach [a] X.env = [(false, eval a X.env)] := by rfl) : PI X tg (.Call (.Name "range" p) [a] [] pos) (mRng1 ta) := by
  rw [mRng1_eq]; exact pi_range1 hg hm ha hs

def noStar : Expr → Bool
  | .Starred .. => false
  | _ => true
def noStars : List Expr → Bool
  | [] => true
  | e :: r => noStar e && noStars r
theorem starEach_cons {e : Expr} {es : List Expr} {env : Env} (h : noStar e = true) : starEach (e :: es) env = (false, eval e env) :: starEach es env := by
  cases e <;> first | rfl | exact absurd h Bool.false_ne_true
theorem stars_none : ∀ {es : List Expr} {env : Env}, noStars es = true → ∀ x ∈ starEach es env, x.1 = false
  | [], env, _, x, hx => by
    have : starEach [] env = [] := rfl
    rw [this] at hx
    exact nomatch hx
  | e :: r, env, h, x, hx => by
    have h' : noStar e = true ∧ noStars r = true := by simpa [noStars] using h
    rw [starEach_cons h'.1] at hx
    rcases List.mem_cons.mp hx with q | q
    · rw [q]
    · exact stars_none h'.2 x q
theorem back_any {es : List Expr} {env : Env} {pos : Pos} (h : noStars es = true) : (backTo pos (starEach es env)).any (·.1) = false := by
  rw [List.any_eq_false]
  intro x hx
  unfold backTo at hx
  obtain ⟨y, hy, e⟩ := List.mem_map.mp hx
  have := stars_none h y hy
  obtain ⟨b, t⟩ := y
  dsimp only at e this
  rw [← e, this]
  exact Bool.false_ne_true
theorem back_all {es : List Expr} {env : Env} {pos : Pos} (h : noStars es = true) : (backTo pos (starEach es env)).all (fun x => !x.1) = true := by
  rw [List.all_eq_true]
  intro x hx
  unfold backTo at hx
  obtain ⟨y, hy, e⟩ := List.mem_map.mp hx
  have := stars_none h y hy
  obtain ⟨b, t⟩ := y
  dsimp only at e this
  rw [← e, this]
  rfl
def notSuper : Expr → Bool
  | .Call (.Name _ _) [] [] _ => false
  | _ => true
theorem base_of {o : Expr} {attr : Str} {env : Env} {whole : Sem Value} (h : notSuper o = true) : attributeBase o attr env whole = whole := by
  unfold attributeBase
  split
  · exact absurd h Bool.false_ne_true
  · rfl
theorem pa_consM {es : List Expr} {t : TA} (ha : PE X e te) (hr : PA X es t) (h : noStar e = true := by rfl) : PA X (e :: es) (tCons te t) := pa_cons ha hr (starEach_cons h)
theorem pe_callBM {x : Str} {id : String} {r : List V → Hp → VK → Prop} {es : List Expr} {t : TA} {p pos : Pos} (hc : CallR X (.builtin id) r) (hg : Gl X x) (hm : X.mg x = none) (hv : bootBuiltins x = some (.builtin id)) (ha : PA X (e :: es) t) (hn : x ≠ "__name__" := by decide) (hdb : (x == ("__debug__" : Str)) = false := by decide)
    (h : noStars (e :: es) = true := by rfl) : PE X (.Call (.Name x p) (e :: es) [] pos) (tCB r t) := by
  have h' : noStar e = true ∧ noStars es = true := by simpa [noStars] using h
  exact pe_callB hc hg hm hv ha hn hdb (starEach_cons h'.1) (back_any h'.2)
theorem pe_callTyM {x : Str} {T : String} {r : List V → Hp → VK → Prop} {es : List Expr} {t : TA} {p pos : Pos} (hc : CallR X (.type T) r) (hg : Gl X x) (hm : X.mg x = none) (hv : bootBuiltins x = some (.type T)) (ha : PA X (e :: es) t) (hn : x ≠ "__name__" := by decide) (hdb : (x == ("__debug__" : Str)) = false := by decide)
    (h : noStars (e :: es) = true := by rfl) : PE X (.Call (.Name x p) (e :: es) [] pos) (tCB r t) := by
  have h' : noStar e = true ∧ noStars es = true := by simpa [noStars] using h
  exact pe_callTy hc hg hm hv ha hn hdb (starEach_cons h'.1) (back_any h'.2)
theorem pe_bmK {K : PySem.W.Frag} {o e : Expr} {es : List Expr} {to : TE} {t : TA} {name : Str} {apos cpos : Pos} {T id : String} {r : V → List V → Hp → VK → Prop} (pa : PlainAttrs T) (slot : Slot T name id) (hty : typeOf (.builtin id) = pure (.type "method_descriptor")) (hm : MtR X id r) (ho : PE X o to) (ha : PA X (e :: es) t) (hK : X.K = K := by rfl)
    (hsup : notSuper o = true := by rfl) (h : noStars (e :: es) = true := by rfl) (h30 : (e :: es).length < 30 := by decide) (hline : (apos.endLine == cpos.line) = true := by rfl) :
    PE X (.Call (.Attribute o name apos) (e :: es) [] cpos) (tBM K T r to t) := by
  subst hK
  have h' : noStar e = true ∧ noStars es = true := by simpa [noStars] using h
  refine pe_bm pa slot hty hm ho ha (base_of hsup) ?_ hline (starEach_cons h'.1) (back_any h'.2)
  rw [back_all h]
  have e0 : keywordEach [] X.env = [] := rfl
  rw [e0]
  simpa [backToKw] using h30
theorem pe_bm0K {K : PySem.W.Frag} {o : Expr} {to : TE} {name : Str} {apos cpos : Pos} {T id : String} {r : V → List V → Hp → VK → Prop} (pa : PlainAttrs T) (slot : Slot T name id) (hty : typeOf (.builtin id) = pure (.type "method_descriptor")) (hm : MtR X id r) (ho : PE X o to) (hK : X.K = K := by rfl)
    (hsup : notSuper o = true := by rfl) (hline : (apos.endLine == cpos.line) = true := by rfl) : PE X (.Call (.Attribute o name apos) [] [] cpos) (tBM0 K T r to) := by
  subst hK
  exact pe_bm0 pa slot hty hm ho (base_of hsup) hline
theorem pg_tupK {K : PySem.W.Frag} {es : List Expr} {k : Nat} {t : TGs} {n : Nat} {pos : Pos} (hc : X.calm = true) (h : PGs X es t) (hK : X.K = K := by rfl)
    (hn : (assignEach es X.env).length = n := by rfl) (hst : (assignEach es X.env).findIdx? (·.1) = none := by rfl) : PG X (.Tuple es k pos) (gTup K n t) := by
  subst hK
  exact pg_tup hc h hn hst
theorem pe_kget1K {K : PySem.W.Frag} {w : World} {o e : Expr} {apos cpos : Pos} {td ty : TE} (ho : PE X o td) (he : PE X e ty) (m : M1 X o "get" apos e cpos) (hK : X.K = K := by rfl) (hw : X.w = w := by rfl) : PE X (.Call (.Attribute o "get" apos) [e] [] cpos) (tKGet1 K w td ty) := by
  subst hK hw
  exact pe_kget1 ho he m
structure Def (P : Program) (w : World) (K : PySem.W.Frag) (mg : Str → Option Value) (base : Heap) (k : Nat) (x : Str) (ps : List Str) (sp : Sp) : Prop where
  ex : ∃ f fd, mg x = some (.ref f) ∧ PySem.W.keepIn K (.ref f) = true ∧ (∃ oc od osl, K.lookup f = some ⟨oc, od, .func fd, osl⟩) ∧ Binds K fd ps [] ∧ FnOk P w K mg base CX0 k f fd ps sp
theorem pe_def {k : Nat} {x : Str} {ps : List Str} {sp : Sp} {e : Expr} {es : List Expr} {t : TA} {p pos : Pos} (D : Def X.prog X.w X.K X.mg X.base k x ps sp) (hr : Room k X.A) (hg : Gl X x) (ha : PA X (e :: es) t) (hdb : (x == ("__debug__" : Str)) = false := by decide)
    (hst : noStars (e :: es) = true := by rfl) (hx : Passes CX0 X E0 := by exact pass0) :
    PE X (.Call (.Name x p) (e :: es) [] pos) (fun σ H Q => t σ H fun vs H1 => sp vs H1 Q E0) := by
  obtain ⟨f, fd, mgf, kp, _, b, G⟩ := D.ex
  have h' : noStar e = true ∧ noStars es = true := by simpa [noStars] using hst
  have he := starEach_cons (es := es) (env := X.env) h'.1
  have hpl := back_any (env := X.env) (pos := pos) h'.2
  have h := pe_call (X := X) (dvs := []) (E := E0) (p := p) (pos := pos) G hr hg mgf kp b .nil hx ha hdb he hpl
  intro pins s σ H Q I hq
  refine h pins s σ H Q I ?_
  show t σ H fun vs H1 => sp (vs ++ []) H1 Q E0
  have e1 : (fun (vs : List V) H1 => sp (vs ++ []) H1 Q E0) = fun vs H1 => sp vs H1 Q E0 := by funext vs H1; rw [List.append_nil]
  rw [e1]
  exact hq
end
theorem Fun.lk {K : PySem.W.Frag} {x qual : Str} {st : Stmt} {f : Addr} {fd : FuncData} (F : Fun K x qual st f fd) : ∃ oc od osl, K.lookup f = some ⟨oc, od, .func fd, osl⟩ := by
  obtain ⟨oc, od, kV, doc, pm, an, cdv, ct, osl, _, lk, _⟩ := F.ex
  exact ⟨oc, od, osl, lk⟩
structure Raw (K : PySem.W.Frag) (mg : Str → Option Value) (x : Str) (st : Stmt) (ps : List Str) : Prop where
  ex : ∃ f fd, mg x = some (.ref f) ∧ Fun K x x st f fd ∧ ∀ (us : List Value), us.length = ps.length → bindArgs fd ⟨us, []⟩ = pure (ps.zip us)
theorem Raw.mk' {K : PySem.W.Frag} {mg : Str → Option Value} {h : Heap} {x : Str} {st : Stmt} {ps : List Str} {f : Addr} {oc : Value} {od an : Option Addr} {osl : Array (Option Value)} {kV doc pm cdv ct : Value} (X : K.In h) (G : h.Ns mainGlobals mg)
    (a : PySem.W.nsIn K mainGlobals x = some (some (.ref f))) (l : K.lookup f = some ⟨oc, od, .func (PySem.W.fnOf x x (defArgs st) (defBody st) (defScope st) .none kV doc pm an cdv ct), osl⟩)
    (c : PySem.W.codeIn K cdv x = true) (k : PySem.W.keepIn K (.ref f) = true)
    (hb : ∀ (us : List Value), us.length = ps.length → bindArgs (PySem.W.fnOf x x (defArgs st) (defBody st) (defScope st) .none kV doc pm an cdv ct) ⟨us, []⟩ = pure (ps.zip us)) : Raw K mg x st ps :=
  ⟨⟨f, _, PySem.W.mg_of X G a, fun_mk l c k, hb⟩⟩
theorem Raw.def {P : Program} {w : World} {K : PySem.W.Frag} {mg : Str → Option Value} {base : Heap} {x : Str} {st : Stmt} {N ps : List Str} {k : Nat} {sp : Sp} (R : Raw K mg x st ps) (S : FnScope N ps (defScope st)) (len : ∀ vs H Q E, sp vs H Q E → vs.length = ps.length)
    (hbody : ∀ (f : Addr) (cdv : Value) (A : Around) (outer : List Env) (s : Shared) (H : Hp) (vs : List V) (Q : VK) (E : XK), Room k (A.deeper (envOfC x (defScope st) s.heap.objs.size f cdv)) → sp vs H Q E →
      ∃ t, PSs (cxOf CX0 P w K mg base N x (defScope st) f cdv A outer s H E).nox (defBody st) t ∧ t { nx := fun _ H' => Q .non H', rt := Q } (start N vs) H) : Def P w K mg base (k + 1) x ps sp := by
  obtain ⟨f, fd, h1, F, b⟩ := R.ex
  exact ⟨f, fd, h1, F.kp, F.lk, .all b, F.ok S len (fun cdv => hbody f cdv)⟩
theorem Def.at {P : Program} {w : World} {K : PySem.W.Frag} {mg : Str → Option Value} {base : Heap} {k : Nat} {x : Str} {ps : List Str} {sp : Sp} {f : Addr} {fd : FuncData} (D : Def P w K mg base k x ps sp) (h : mg x = some (.ref f))
    (l : ∃ oc od osl, K.lookup f = some ⟨oc, od, .func fd, osl⟩) : FnOk P w K mg base CX0 k f fd ps sp := by
  obtain ⟨f', fd', h', _, ⟨oc', od', osl', l'⟩, _, F⟩ := D.ex
  obtain ⟨oc, od, osl, l⟩ := l
  cases h.symm.trans h'
  have e := l.symm.trans l'
  simp only [Option.some.injEq, Obj.mk.injEq, Data.func.injEq] at e
  rw [e.2.2.1]
  exact F
section
variable {K : PySem.W.Frag} {w : World} {mg : Str → Option Value} {h : Heap} {x : Str}
theorem int_mk {i : Int} {t : Tok} (X : K.In h) (G : h.Ns mainGlobals mg) (a : PySem.W.nsIn K mainGlobals x = some (some (.int i t))) : ∃ t, mg x = some (.int i t) := ⟨_, PySem.W.mg_of X G a⟩
theorem str_mk {i : Str} {t : Tok} (X : K.In h) (G : h.Ns mainGlobals mg) (a : PySem.W.nsIn K mainGlobals x = some (some (.str i t))) : ∃ t, mg x = some (.str i t) := ⟨_, PySem.W.mg_of X G a⟩
theorem dict_mk {b : Addr} {es : Array DictEntry} {n : Nat} {kvs : List (Str × V)} (X : K.In h) (G : h.Ns mainGlobals mg) (a : PySem.W.nsIn K mainGlobals x = some (some (.ref b))) (l : K.lookup b = some ⟨.type "dict", none, .dict es n, #[]⟩)
    (k : PySem.W.KeysLit w.params es.toList) (p : Paired (fun (p : Str × V) (e : DictEntry) => (∃ t, e.key = .str p.1 t) ∧ RelV p.2 e.val) kvs es.toList) (s : (b == sysModules) = false) : ∃ t, mg x = some (.ref t) ∧ KTab K w t kvs :=
  ⟨_, PySem.W.mg_of X G a, ⟨es, n, l, k, p⟩, s⟩
theorem tup_mk {b : Addr} {od : Option Addr} {its : Array Value} {n : Nat} {osl : Array (Option Value)} {xs : List V} (X : K.In h) (G : h.Ns mainGlobals mg) (a : PySem.W.nsIn K mainGlobals x = some (some (.ref b))) (l : K.lookup b = some ⟨.type "tuple", od, .seq its n, osl⟩)
    (z : its.size ≤ sizeLine) (v : Vals xs its.toList) : ∃ t, mg x = some (.ref t) ∧ ∀ H, SqT K H t xs :=
  ⟨_, PySem.W.mg_of X G a, fun H => .inr ⟨_, its, n, l, rfl, rfl, z, v⟩⟩
end
end L2

set_option Elab.async false
set_option linter.all false
set_option maxRecDepth 100000
set_option maxHeartbeats 4000000
namespace L2
open PySem PySem.Spec PyProof.Rows

theorem same_upd {H H' : Hp} {p : Addr} {o : HO} (e : Same H H') (h : H p = none) : Same H (upd H' p o) := fun b u q => by
  rw [upd_ne (ne_of_none q h)]
  exact e b u q
theorem same_new {H : Hp} {p : Addr} {o : HO} (h : H p = none) : Same H (upd H p o) := same_upd (Same.refl H) h
section
variable {cap : List (Option Nat)} {g : TG} {tc : TT} {te : TE} {Q : Addr → Hp → Prop} {σ : St} {H : Hp}
theorem gath_of {J : It} {n : Nat} {item : Nat → V → Prop} (Pv : Nat → List V → St → Hp → Prop) (hn : n ≤ 1000000) (h0 : Pv 0 [] (capt cap σ) H) (hlen : ∀ i ys σ' H', Pv i ys σ' H' → ys.length ≤ i)
    (hgo : ∀ i ys σ' H', i < n → Pv i ys σ' H' → J.go i H') (hyld : ∀ i ys σ' H' x H2, i < n → Pv i ys σ' H' → J.yld i H' x H2 → item i x ∧ H2 = H') (hstop : ∀ ys σ' H', Pv n ys σ' H' → J.stop n H')
    (hs : ∀ i x ys σ' H', i < n → item i x → Pv i ys σ' H' → g x σ' H' fun σ3 H3 => tc σ3 H3 fun b H4 => if b = true then te σ3 H4 fun y H5 => Pv (i + 1) (ys ++ [y]) σ3 H5 else Pv (i + 1) ys σ3 H4)
    (hd : ∀ ys σ' H', Pv n ys σ' H' → ∀ D, H' D = none → Q D (upd H' D (.lst ys))) : Gath J cap g tc te Q σ H := by
  have big : (1000000 : Nat) < sizeLine := by rw [sizeLine_eq]; decide
  refine ⟨fun i m ys σ' H' => m = n - i ∧ i ≤ n ∧ Pv i ys σ' H', ⟨n, by simp, Nat.zero_le _, h0⟩, ?_⟩
  rintro i m ys σ' H' ⟨rfl, hi, p⟩
  have hl := hlen i ys σ' H' p
  by_cases hlt : i < n
  · refine .inr ⟨hgo i ys σ' H' hlt p, by omega, Pv (i + 1), fun ys2 σ2 H2 p' => ⟨n - (i + 1), by omega, rfl, hlt, p'⟩, fun x H2 y => ?_⟩
    obtain ⟨h1, h2⟩ := hyld i ys σ' H' x H2 hlt p y
    subst h2
    exact hs i x ys σ' _ hlt h1 p
  · have e : i = n := by omega
    subst e
    exact .inl ⟨hstop ys σ' H' p, by omega, hd ys σ' H' p⟩
theorem gath_range {lo : Int} {n : Nat} (Pv : Nat → List V → St → Hp → Prop) (hn : n ≤ 1000000) (h0 : Pv 0 [] (capt cap σ) H) (hlen : ∀ i ys σ' H', Pv i ys σ' H' → ys.length ≤ i)
    (hs : ∀ i ys σ' H', i < n → Pv i ys σ' H' → g (.int (lo + i)) σ' H' fun σ3 H3 => tc σ3 H3 fun b H4 => if b = true then te σ3 H4 fun y H5 => Pv (i + 1) (ys ++ [y]) σ3 H5 else Pv (i + 1) ys σ3 H4)
    (hd : ∀ ys σ' H', Pv n ys σ' H' → ∀ D, H' D = none → Q D (upd H' D (.lst ys))) : Gath (Itr lo n) cap g tc te Q σ H :=
  gath_of (item := fun i x => x = .int (lo + i)) Pv hn h0 hlen (fun i ys σ' H' hi _ => hi) (fun i ys σ' H' x H2 _ _ y => ⟨y.2, y.1⟩) (fun _ _ _ _ => Nat.le_refl n) (fun i x ys σ' H' hi e p => by subst e; exact hs i ys σ' H' hi p) hd
theorem gath_list {K : PySem.W.Frag} {a : Addr} {xs : List V} (Pv : Nat → List V → St → Hp → Prop) (hn : xs.length ≤ 1000000) (h0 : Pv 0 [] (capt cap σ) H) (hlen : ∀ i ys σ' H', Pv i ys σ' H' → ys.length ≤ i)
    (hl : ∀ i ys σ' H', Pv i ys σ' H' → SqL K H' a xs)
    (hs : ∀ i x ys σ' H', xs[i]? = some x → Pv i ys σ' H' → g x σ' H' fun σ3 H3 => tc σ3 H3 fun b H4 => if b = true then te σ3 H4 fun y H5 => Pv (i + 1) (ys ++ [y]) σ3 H5 else Pv (i + 1) ys σ3 H4)
    (hd : ∀ ys σ' H', Pv xs.length ys σ' H' → ∀ D, H' D = none → Q D (upd H' D (.lst ys))) : Gath (Itl K a) cap g tc te Q σ H :=
  gath_of (item := fun i x => xs[i]? = some x) Pv hn h0 hlen (fun i ys σ' H' hi p => ⟨xs, xs[i], hl i ys σ' H' p, by simp [hi]⟩) (fun i ys σ' H' x H2 _ p y => ⟨y.2 xs (hl i ys σ' H' p), y.1⟩)
    (fun ys σ' H' p => ⟨xs, hl _ ys σ' H' p, Nat.le_refl _⟩) (fun i x ys σ' H' hi e p => hs i x ys σ' H' e p) hd
theorem gath_str {x : Str} (Pv : Nat → List V → St → Hp → Prop) (hn : x.cps.size ≤ 1000000) (h0 : Pv 0 [] (capt cap σ) H) (hlen : ∀ i ys σ' H', Pv i ys σ' H' → ys.length ≤ i)
    (hs : ∀ i c ys σ' H', x.cps[i]? = some c → Pv i ys σ' H' → g (.str ⟨#[c]⟩) σ' H' fun σ3 H3 => tc σ3 H3 fun b H4 => if b = true then te σ3 H4 fun y H5 => Pv (i + 1) (ys ++ [y]) σ3 H5 else Pv (i + 1) ys σ3 H4)
    (hd : ∀ ys σ' H', Pv x.cps.size ys σ' H' → ∀ D, H' D = none → Q D (upd H' D (.lst ys))) : Gath (Its x) cap g tc te Q σ H :=
  gath_of (item := fun i v => ∃ c, x.cps[i]? = some c ∧ v = .str ⟨#[c]⟩) Pv hn h0 hlen (fun i ys σ' H' hi _ => hi) (fun i ys σ' H' v H2 _ _ y => ⟨y.2, y.1⟩)
    (fun _ _ _ _ => rfl) (fun i v ys σ' H' hi ⟨c, e, q⟩ p => by subst q; exact hs i c ys σ' H' e p) hd
end
end L2

set_option Elab.async false
set_option linter.all false
set_option maxRecDepth 100000
set_option maxHeartbeats 4000000
namespace L2
open PySem PySem.Spec PyProof.Rows
@[irreducible] def Irr (p : Prop) : Prop := p
theorem Irr.mk {p : Prop} (h : p) : Irr p := by unfold Irr; exact h
theorem Irr.out {p : Prop} (h : Irr p) : p := by unfold Irr at h; exact h
abbrev JE (X : Cx) (e : Expr) (t : TE) : Prop := Irr (PE X e t)
abbrev JT (X : Cx) (e : Expr) (t : TT) : Prop := Irr (PT X e t)
abbrev JW (X : Cx) (e : Expr) (t : TT) : Prop := Irr (PW X e t)
abbrev JA (X : Cx) (es : List Expr) (t : TA) : Prop := Irr (PA X es t)
abbrev JO (X : Cx) (e : Option Expr) (t : TO) : Prop := Irr (PO X e t)
abbrev JS (X : Cx) (st : Stmt) (t : TS) : Prop := Irr (PS X st t)
abbrev JSs (X : Cx) (st : List Stmt) (t : TS) : Prop := Irr (PSs X st t)
abbrev JG (X : Cx) (e : Expr) (t : TG) : Prop := Irr (PG X e t)
abbrev JGs (X : Cx) (e : List Expr) (t : TGs) : Prop := Irr (PGs X e t)
abbrev JI (X : Cx) (tg it : Expr) (t : TI) : Prop := Irr (PI X tg it t)
section
variable {X : Cx} {a b c e f k o v tg it : Expr} {es : List Expr} {ta tb tc te td ty tx tk tv : TE} {tA tB' : TT} {t : TA} {u u' : TS} {pos pos' p p2 apos cpos spos : Pos} {st : Stmt} {sts sts' : List Stmt} {K : PySem.W.Frag} {w : World}

theorem o_add (hK : X.K = K := by rfl) : Irr (OpR X (binaryOp .Add) (gAdd K)) := .mk (og_add hK)
theorem o_sub : Irr (OpR X (binaryOp .Sub) gMinus) := .mk og_sub
theorem o_mul : Irr (OpR X (binaryOp .Mult) gMul) := .mk og_mul
theorem o_div : Irr (OpR X (binaryOp .FloorDiv) gDiv) := .mk og_div
theorem o_mod : Irr (OpR X (binaryOp .Mod) gMod) := .mk og_mod
theorem o_iadd : Irr (PIp X .Add gIadd) := .mk og_iadd
theorem o_eq (hu : X.A.units + 64 < cLine) (hK : X.K = K := by rfl) : Irr (OpR X (compareOp .Eq) (gEq K false)) := .mk (og_eq hu hK)
theorem o_ne (hu : X.A.units + 64 < cLine) (hK : X.K = K := by rfl) : Irr (OpR X (compareOp .NotEq) (gEq K true)) := .mk (og_ne hu hK)
theorem o_lt : Irr (OpR X (compareOp .Lt) gLt) := .mk og_lt
theorem o_le : Irr (OpR X (compareOp .LtE) gLe) := .mk og_le
theorem o_gt : Irr (OpR X (compareOp .Gt) gGt) := .mk og_gt
theorem o_ge : Irr (OpR X (compareOp .GtE) gGe) := .mk og_ge
theorem o_notin (hK : X.K = K := by rfl) : Irr (OpR X (compareOp .NotIn) (gIn K true)) := .mk (og_notin hK)
theorem o_is : Irr (OpR X (compareOp .Is) (gIs false)) := .mk og_is
theorem o_ix (hu : X.A.units + 64 < cLine) (hK : X.K = K := by rfl) (hw : X.w = w := by rfl) : Irr (IxR X (gIx K w)) := .mk (og_ix hu hK hw)
theorem o_sl (hK : X.K = K := by rfl) : Irr (SlR X (gSl K)) := .mk (og_sl hK)
theorem c_len (hK : X.K = K := by rfl) : Irr (CallR X (.builtin "len") (gLen K)) := .mk (cg_len hK)
theorem c_ord : Irr (CallR X (.builtin "ord") gOrd) := .mk cg_ord
theorem c_list (hK : X.K = K := by rfl) : Irr (CallR X (.type "list") (gList K)) := .mk (cg_list hK)
theorem m_join (hK : X.K = K := by rfl) : Irr (MtR X "str.join" (gJoin K)) := .mk (mg_join hK)
theorem m_split : Irr (MtR X "str.split" gSplit) := .mk mg_split
theorem m_append : Irr (MtR X "list.append" gAppend) := .mk mg_append
theorem jn (i : Nat) {x : Str} (hN : X.N[i]? = some x := by rfl) (hv : Vis X.env.scope x := by first | exact Or.inl rfl | exact Or.inr (Or.inl rfl) | exact Or.inr (Or.inr rfl)) (hd : (x == ("__debug__" : Str)) = false := by decide)
    (hcd : (x == ("__classdict__" : Str)) = false := by decide) : JE X (.Name x pos) (mVar i) := .mk (pn i hN hv hd hcd)
theorem j_int {i : Int} {j : Nat} : JE X (.Constant (.int i) j pos) (tC (.int i)) := .mk pe_int
theorem j_bl {b : Bool} {j : Nat} : JE X (.Constant (.bool b) j pos) (tC (.bl b)) := .mk pe_bl
theorem j_non {j : Nat} : JE X (.Constant .none j pos) (tC .non) := .mk pe_non
theorem j_str {x : Str} {j : Nat} : JE X (.Constant (.str x) j pos) (tC (.str x)) := .mk pe_str
theorem j_glob {x : Str} {v : V} {u : Value} (hg : Gl X x) (hm : X.mg x = some u) (r : RelV v u) (hd : (x == ("__debug__" : Str)) = false := by decide) : JE X (.Name x pos) (tC v) := .mk (pe_glob hg hm r hd)
theorem j_bltn {x : Str} {v : V} {u : Value} (hg : Gl X x) (hm : X.mg x = none) (hv : bootBuiltins x = some u) (r : RelV v u) (hn : x ≠ "__name__" := by decide) (hd : (x == ("__debug__" : Str)) = false := by decide) : JE X (.Name x pos) (tC v) := .mk (pe_bltn hg hm hv r hn hd)
theorem j_op {op : Operator} {r : R2} (ho : Irr (OpR X (binaryOp op) r)) (ha : JE X a ta) (hb : JE X b tb) : JE X (.BinOp a op b pos) (tOp r ta tb) := .mk (pe_op ho.out ha.out hb.out)
theorem j_cmp {op : CmpOp} {r : R2} (ho : Irr (OpR X (compareOp op) r)) (ha : JE X a ta) (hb : JE X b tb) (hm : behindInMarks op b = false := by first | exact nomark _ | rfl) : JE X (.Compare a [op] [b] pos) (tOp r ta tb) := .mk (pe_cmpR ho.out ha.out hb.out hm)
theorem j_chain {op op' : CmpOp} {r r' : R2} (ho : Irr (OpR X (compareOp op) r)) (ho' : Irr (OpR X (compareOp op') r')) (ha : JE X a ta) (hb : JE X b tb) (hc : JE X c tc)
    (hm : lastMarks [op, op'] [b, c] = false := by with_unfolding_all rfl) : JE X (.Compare a [op, op'] [b, c] pos) (mChain r r' ta tb tc) := .mk (pe_chainM ho.out ho'.out ha.out hb.out hc.out hm)
theorem j_and (ha : JE X a ta) (hb : JE X (.BoolOp .And (b :: es) pos) tb) : JE X (.BoolOp .And (a :: b :: es) pos) (mAndV ta tb) := .mk (pe_andM ha.out hb.out)
theorem j_or (ha : JE X a ta) (hb : JE X (.BoolOp .Or (b :: es) pos) tb) : JE X (.BoolOp .Or (a :: b :: es) pos) (mOrV ta tb) := .mk (pe_orM ha.out hb.out)
theorem j_one {op : BoolOp} (h : JE X a ta) : JE X (.BoolOp op [a] pos) ta := .mk (pe_one h.out)
theorem j_not (ha : JE X a ta) : JE X (.UnaryOp .Not a pos) (mNotV ta) := .mk (pe_notM ha.out)
theorem j_ife (hc : JT X c tA) (ha : JE X a ta) (hb : JE X b tb) : JE X (.IfExp c a b pos) (tIf tA ta tb) := .mk (pe_ifExp hc.out ha.out hb.out)
theorem ja_nil : JA X [] tNil := .mk pa_nil
theorem ja_cons (ha : JE X e te) (hr : JA X es t) (h : noStar e = true := by rfl) : JA X (e :: es) (tCons te t) := .mk (pa_consM ha.out hr.out h)
theorem j_tup {x1 : Nat} (h : JA X es t) : JE X (.Tuple es x1 pos) (tTup t) := .mk (pe_tup h.out)
theorem j_lst (h : JA X es t) : JE X (.List es pos) (tLst t) := .mk (pe_lst h.out)
theorem jo_none : JO X none tNoPart := .mk po_none
theorem jo_some (h : JE X e te) : JO X (some e) (mPart te) := .mk (po_someM h.out)
theorem j_slice {r : V → Option Int → Option Int → Hp → VK → Prop} {lo hi : Option Expr} {tl th : TO} (hr : Irr (SlR X r)) (he : JE X e te) (hl : JO X lo tl) (hu : JO X hi th) : JE X (.Subscript e (.Slice lo hi none p2) pos) (tSl r te tl th) := .mk (pe_slice hr.out he.out hl.out hu.out)
theorem j_ix {r : R2} (hr : Irr (IxR X r)) (ha : JE X a ta) (hb : JE X b tb) (hs : PlainIx b := by exact fun _ _ => rfl) : JE X (.Subscript a b pos) (tOp r ta tb) := .mk (pe_ix hr.out ha.out hb.out hs)
theorem j_def {k : Nat} {x : Str} {ps : List Str} {sp : Sp} (D : Def X.prog X.w X.K X.mg X.base k x ps sp) (hr : Room k X.A) (hg : Gl X x) (ha : JA X (e :: es) t) (hdb : (x == ("__debug__" : Str)) = false := by decide)
    (hst : noStars (e :: es) = true := by rfl) : JE X (.Call (.Name x p) (e :: es) [] pos) (fun σ H Q => t σ H fun vs H1 => sp vs H1 Q E0) := .mk (pe_def D hr hg ha.out hdb hst)
theorem j_callB {x : Str} {id : String} {r : List V → Hp → VK → Prop} (hc : Irr (CallR X (.builtin id) r)) (hg : Gl X x) (hm : X.mg x = none) (hv : bootBuiltins x = some (.builtin id)) (ha : JA X (e :: es) t) (hn : x ≠ "__name__" := by decide) (hdb : (x == ("__debug__" : Str)) = false := by decide)
    (h : noStars (e :: es) = true := by rfl) : JE X (.Call (.Name x p) (e :: es) [] pos) (tCB r t) := .mk (pe_callBM hc.out hg hm hv ha.out hn hdb h)
theorem j_callTy {x : Str} {T : String} {r : List V → Hp → VK → Prop} (hc : Irr (CallR X (.type T) r)) (hg : Gl X x) (hm : X.mg x = none) (hv : bootBuiltins x = some (.type T)) (ha : JA X (e :: es) t) (hn : x ≠ "__name__" := by decide) (hdb : (x == ("__debug__" : Str)) = false := by decide)
    (h : noStars (e :: es) = true := by rfl) : JE X (.Call (.Name x p) (e :: es) [] pos) (tCB r t) := .mk (pe_callTyM hc.out hg hm hv ha.out hn hdb h)
theorem j_kget1 (ho : JE X o td) (he : JE X e ty) (m : M1 X o "get" apos e cpos := by exact ⟨rfl, rfl, rfl, rfl⟩) (hK : X.K = K := by rfl) (hw : X.w = w := by rfl) : JE X (.Call (.Attribute o "get" apos) [e] [] cpos) (tKGet1 K w td ty) := .mk (pe_kget1K ho.out he.out m hK hw)
theorem j_bm {name : Str} {T id : String} {r : V → List V → Hp → VK → Prop} {to : TE} (pa : PlainAttrs T) (slot : Slot T name id) (hty : typeOf (.builtin id) = pure (.type "method_descriptor")) (hm : Irr (MtR X id r)) (ho : JE X o to) (ha : JA X (e :: es) t) (hK : X.K = K := by rfl)
    (hsup : notSuper o = true := by rfl) (h : noStars (e :: es) = true := by rfl) (h30 : (e :: es).length < 30 := by decide) (hline : (apos.endLine == cpos.line) = true := by rfl) :
    JE X (.Call (.Attribute o name apos) (e :: es) [] cpos) (tBM K T r to t) := .mk (pe_bmK pa slot hty hm.out ho.out ha.out hK hsup h h30 hline)
theorem j_bm0 {name : Str} {T id : String} {r : V → List V → Hp → VK → Prop} {to : TE} (pa : PlainAttrs T) (slot : Slot T name id) (hty : typeOf (.builtin id) = pure (.type "method_descriptor")) (hm : Irr (MtR X id r)) (ho : JE X o to) (hK : X.K = K := by rfl)
    (hsup : notSuper o = true := by rfl) (hline : (apos.endLine == cpos.line) = true := by rfl) : JE X (.Call (.Attribute o name apos) [] [] cpos) (tBM0 K T r to) := .mk (pe_bm0K pa slot hty hm.out ho.out hK hsup hline)
theorem jt_cmp {op : CmpOp} {r : R2} (ho : Irr (OpR X (compareOp op) r)) (ha : JE X a ta) (hb : JE X b tb) (hm : behindInMarks op b = false := by first | exact nomark _ | rfl) : JT X (.Compare a [op] [b] pos) (mTest (tOp r ta tb)) := .mk (pt_cmpM ho.out ha.out hb.out hm)
theorem jt_chain {op op' : CmpOp} {r r' : R2} (ho : Irr (OpR X (compareOp op) r)) (ho' : Irr (OpR X (compareOp op') r')) (ha : JE X a ta) (hb : JE X b tb) (hc : JE X c tc)
    (hm : lastMarks [op, op'] [b, c] = false := by with_unfolding_all rfl) : JT X (.Compare a [op, op'] [b, c] pos) (mTest (mChain r r' ta tb tc)) := .mk (by rw [mChain_eq]; exact pt_chainM ho.out ho'.out ha.out hb.out hc.out hm)
theorem jt_val (h : JE X e te) (he : ∀ whole, isTrue e X.env whole = (do let v ← whole; standAt e.pos; holding [v] (truthy v)) := by intro _; rfl) : JT X e (mTest te) := .mk (pt_valM h.out he)
theorem jt_not (ha : JT X a tA) : JT X (.UnaryOp .Not a pos) (tNot tA) := .mk (pt_not ha.out)
theorem jw_and1 (ha : JT X a tA) : JW X (.BoolOp .And [a] pos) tA := .mk (pw_and1 ha.out)
theorem jw_or1 (ha : JT X a tA) : JW X (.BoolOp .Or [a] pos) tA := .mk (pw_or1 ha.out)
theorem jw_and (ha : JT X a tA) (hb : JW X (.BoolOp .And (b :: es) pos) tB') : JW X (.BoolOp .And (a :: b :: es) pos) (tAnd tA tB') := .mk (pw_and ha.out hb.out)
theorem jw_or (ha : JT X a tA) (hb : JW X (.BoolOp .Or (b :: es) pos) tB') : JW X (.BoolOp .Or (a :: b :: es) pos) (tOr tA tB') := .mk (pw_or ha.out hb.out)
theorem jw_t (h : JW X e tA) : JT X e tA := .mk h.out.pt

theorem ji_any (h : JE X e te) (hK : X.K = K := by rfl) : JI X tg e (iAny K te) := .mk (pi_any h.out hK)
theorem ji_rng1 (hg : Gl X "range") (hm : X.mg "range" = none) (ha : JA X [a] t) (h : noStar a = true := by rfl) : JI X tg (.Call (.Name "range" p) [a] [] pos) (mRng1 t) := .mk (pi_rng1 hg hm ha.out (starEach_cons h))
theorem jg_name {i : Nat} {x : Str} (hN : X.N.Nodup) (hi : X.N[i]? = some x) (hx : Loc X.env.scope x) (hf : X.fn x = true ∨ X.env.scope.names.lookup x = some .local := by first | exact .inl rfl | exact .inr rfl | assumption) : JG X (.Name x pos) (gName i) := .mk (pg_name hN hi hx hf)
theorem jgs_nil : JGs X [] gNil := .mk pgs_nil
theorem jgs_cons {g : TG} {gs : TGs} (h1 : JG X e g) (h2 : JGs X es gs) (hs : (assignEach (e :: es) X.env).map (·.2) = assign e X.env :: (assignEach es X.env).map (·.2) := by rfl) : JGs X (e :: es) (gCons g gs) := .mk (pgs_cons h1.out h2.out hs)
theorem jg_tup {k : Nat} {gs : TGs} {n : Nat} (hc : X.calm = true) (h : JGs X es gs) (hK : X.K = K := by rfl) (hn : (assignEach es X.env).length = n := by rfl) (hst : (assignEach es X.env).findIdx? (·.1) = none := by rfl) : JG X (.Tuple es k pos) (gTup K n gs) := .mk (pg_tupK hc h.out hK hn hst)
theorem jg_sub (ho : JE X o ta) (hi : JE X k tb) (ha : ∀ v, assign (.Subscript o k pos) X.env v = (do
      let ov ← holding [v] (eval o X.env)
      let iv ← holding [v, ov] (eval k X.env)
      standAt pos
      holding [v, ov, iv] (setItem ov iv v)
      release [v, ov, iv] []) := by intro _; rfl) : JG X (.Subscript o k pos) (L2.gSub ta tb rSetL) := .mk (pg_sub ho.out hi.out set_list ha)
abbrev JTs (X : Cx) (ifs : List Expr) (t : TT) : Prop := Irr (PTs X ifs t)
theorem jts_nil : JTs X [] tTrue := .mk pts_nil
theorem jts_one (h : JT X c tA) : JTs X [c] tA := .mk (pts_one h.out)
theorem j_comp {N : List Str} {cap : List (Option Nat)} {scope : Scope} {ifs : List Expr} {wi : TI} {g : TG} (hc : X.calm = true) (S : CompScope X N cap scope) (hi : JI X tg it wi)
    (hg : ∀ C s₀ H₀ ex, JG (cxComp X N scope C s₀ H₀ ex) tg g) (ht : ∀ C s₀ H₀ ex, JTs (cxComp X N scope C s₀ H₀ ex) ifs tA) (he : ∀ C s₀ H₀ ex, JE (cxComp X N scope C s₀ H₀ ex) e te)
    (hs : ∀ x, foldedSetIterable it X.env x = pure x := by intro _; rfl) :
    JE X (.ListComp e [⟨tg, it, ifs, 0⟩] scope pos) (fun σ H Q => tComp cap wi g tA te (fun D H' => Q (.ref D) H') σ H) :=
  .mk (pe_comp hc S hi.out (fun C s₀ H₀ ex => (hg C s₀ H₀ ex).out) (fun C s₀ H₀ ex => (ht C s₀ H₀ ex).out) (fun C s₀ H₀ ex => (he C s₀ H₀ ex).out) hs)
theorem js_comp {N : List Str} {cap : List (Option Nat)} {scope : Scope} {ifs : List Expr} {wi : TI} {g : TG} {i : Nat} {x : Str} (hc : X.calm = true) (S : CompScope X N cap scope) (hi : JI X tg it wi)
    (hg : ∀ C s₀ H₀ ex, JG (cxComp X N scope C s₀ H₀ ex) tg g) (ht : ∀ C s₀ H₀ ex, JTs (cxComp X N scope C s₀ H₀ ex) ifs tA) (he : ∀ C s₀ H₀ ex, JE (cxComp X N scope C s₀ H₀ ex) e te)
    (hN : X.N.Nodup) (hix : X.N[i]? = some x) (hx : X.env.scope.names.lookup x = some .local) (hsw : swapsWith (.ListComp e [⟨tg, it, ifs, 0⟩] scope pos) (some (.Name x pos')) spos.line X.env = pure true := by rfl)
    (hs : ∀ x, foldedSetIterable it X.env x = pure x := by intro _; rfl) :
    JS X (.Assign [.Name x pos'] (.ListComp e [⟨tg, it, ifs, 0⟩] scope pos) spos) (fun D σ H => tComp cap wi g tA te (fun d H' => D.nx (σ.set i (some (.ref d))) H') σ H) :=
  .mk (ps_comp hc S hi.out (fun C s₀ H₀ ex => (hg C s₀ H₀ ex).out) (fun C s₀ H₀ ex => (ht C s₀ H₀ ex).out) (fun C s₀ H₀ ex => (he C s₀ H₀ ex).out) hN hix hx hsw hs)

theorem jss_nil : JSs X [] tNext := .mk pss_nil
theorem jss_cons (h1 : JS X st u) (h2 : JSs X sts u') : JSs X (st :: sts) (tSeq u u') := .mk (pss_cons h1.out h2.out)
theorem jss_one (h1 : JS X st u) : JSs X [st] u := .mk (pss_one h1.out)
theorem js_set {i : Nat} {x : Str} (hN : X.N.Nodup) (hi : X.N[i]? = some x) (hx : Loc X.env.scope x) (he : JE X e te) (hs : swapsWith e (some (.Name x pos')) pos.line X.env = pure false := by rfl) (hf : X.fn x = true ∨ X.env.scope.names.lookup x = some .local := by first | exact .inl rfl | exact .inr rfl | assumption) :
    JS X (.Assign [.Name x pos'] e pos) (tAsg te (gName i)) := .mk (ps_set hN hi hx he.out hs hf)
theorem js_asg {g : TG} (he : JE X e te) (hg : JG X tg g) (hs : swapsWithSole [tg] e pos.line X.env = pure false := by rfl) (hw : swappedStores [tg] e X.env = pure none := by rfl)
    (h1 : (assignEach [tg] X.env).map (·.2) = [assign tg X.env] := by rfl) : JS X (.Assign [tg] e pos) (tAsg te g) := .mk (ps_asg he.out hg.out hs hw h1)
theorem js_aug {i : Nat} {x : Str} {op : Operator} {ti : TIp} (hN : X.N.Nodup) (hi : X.N[i]? = some x) (hx : Loc X.env.scope x) (he : JE X e te) (ho : Irr (PIp X op ti)) (hf : X.fn x = true ∨ X.env.scope.names.lookup x = some .local := by first | exact .inl rfl | exact .inr rfl | assumption) :
    JS X (.AugAssign (.Name x pos') op e pos) (mAug i te ti) := .mk (ps_augM hN hi hx he.out ho.out hf)
theorem js_if (hc : JT X c tA) (ha : JSs X sts u) (hb : JSs X sts' u') : JS X (.If c sts sts' pos) (tIfS tA u u') := .mk (ps_if hc.out ha.out hb.out)
theorem js_ret (he : JE X e te) : JS X (.Return (some e) pos) (tRet te) := .mk (ps_ret he.out)
theorem js_expr (he : JE X e te) (hs : swapsWith e none pos.line X.env = pure false := by rfl) : JS X (.Expr e pos) (tDrop te) := .mk (ps_expr he.out hs)
theorem js_never : JS X st tNever := .mk ps_never
theorem js_continue : JS X (.Continue pos) tCont := .mk ps_continue
theorem js_for {wi : TI} {g : TG} (hp : PassesOwn (model X.prog X.w) X.A X.env X.xe) (hc : X.calm = true) (hi : JI X tg it wi) (hg : JG X tg g) (hb : JSs X sts u)
    (hs : ∀ x, foldedSetIterable it X.env x = pure x := by intro _; rfl) : JS X (.For tg it sts [] pos) (tFor wi g u) := .mk (ps_for hp hc hi.out hg.out hb.out hs)
end
theorem Raw.defJ {P : Program} {w : World} {K : PySem.W.Frag} {mg : Str → Option Value} {base : Heap} {x : Str} {st : Stmt} {N ps : List Str} {k : Nat} {sp : Sp} (R : Raw K mg x st ps) (S : FnScope N ps (defScope st)) (len : ∀ vs H Q E, sp vs H Q E → vs.length = ps.length)
    (hbody : ∀ (f : Addr) (cdv : Value) (A : Around) (outer : List Env) (s : Shared) (H : Hp) (vs : List V) (Q : VK) (E : XK), Room k (A.deeper (envOfC x (defScope st) s.heap.objs.size f cdv)) → sp vs H Q E →
      ∃ t, JSs (cxOf CX0 P w K mg base N x (defScope st) f cdv A outer s H E).nox (defBody st) t ∧ t { nx := fun _ H' => Q .non H', rt := Q } (start N vs) H) : Def P w K mg base (k + 1) x ps sp :=
  R.def S len fun f cdv A outer s H vs Q E hr h => let ⟨t, h1, h2⟩ := hbody f cdv A outer s H vs Q E hr h; ⟨t, h1.out, h2⟩
end L2

namespace L2
open PySem PySem.Spec PyProof.Rows
inductive TyD (K : PySem.W.Frag) (H : Hp) : V → String → Prop where
  | non : TyD K H .non "NoneType"
  | bl (x : Bool) : TyD K H (.bl x) "bool"
  | int (i : Int) : TyD K H (.int i) "int"
  | str (x : Str) : TyD K H (.str x) "str"
  | list {a : Addr} {xs : List V} (e : SqL K H a xs) : TyD K H (.ref a) "list"
  | tuple {a : Addr} {xs : List V} (e : SqT K H a xs) : TyD K H (.ref a) "tuple"
theorem isinst_okD {X : Cx} {pins : List (Addr × Obj)} {σ : St} {H : Hp} {s : Shared} {A : Around} {E : Value → Shared → Prop} {Q : Value → Shared → Prop} {c : Value} {b : Bool} {x : V} {u : Value} {t : String} (I : Inv X pins σ H s) (rx : RelV x u) (ty : TyD X.K H x t) (e : PySem.W.kitOne X.K (.type t) c = some b) (h : ∀ tk, Q (.bool b) { s with toks := tk }) :
    wpAny (model X.prog X.w) A (call (.builtin "isinstance") [u, c]) Q E s := by
  cases ty with
  | non => exact isinst_ok I rx .non e h
  | bl y => exact isinst_ok I rx (.bl y) e h
  | int i => exact isinst_ok I rx (.int i) e h
  | str y => exact isinst_ok I rx (.str y) e h
  | @list a xs ea =>
    cases (show u = Value.ref a from rx)
    obtain ⟨its, rv, ⟨o, n, h1, h2, h3, h4⟩, hz⟩ := I.list ea
    exact PySem.W.kia_one PySem.W.kitx_list I.kIn ⟨o, h1, h2⟩ e (fun z => nomatch z) h
  | @tuple a xs ea =>
    cases (show u = Value.ref a from rx)
    obtain ⟨its, rv, ⟨o, h1, h2, n, h4⟩, hz⟩ := I.tuple ea
    exact PySem.W.kia_one PySem.W.kitx_tuple I.kIn ⟨o, h1, h2⟩ e (fun z => nomatch z) h
def gIsi (K : PySem.W.Frag) : List V → Hp → VK → Prop := fun xs H Q => match xs with
  | [x, .ty Tn] => ∃ ty b, TyD K H x ty ∧ PySem.W.kitOne K (.type ty) (.type Tn) = some b ∧ Q (.bl b) H
  | _ => False
theorem c_isiD {X : Cx} {K : PySem.W.Frag} (hK : X.K = K := by rfl) : Irr (CallR X (.builtin "isinstance") (gIsi K)) := by
  refine .mk ?_
  subst hK
  intro pins s σ H xs us Q I r h
  unfold gIsi at h
  split at h
  · obtain ⟨ty, b, h1, h2, q⟩ := h
    obtain ⟨u, w', rfl, r1, r2⟩ := vals2 r
    cases r2
    exact isinst_okD I r1 h1 h2 fun tk => ⟨.bl b, H, I.tok tk, rfl, q⟩
  · exact h.elim
end L2

set_option Elab.async false
set_option linter.all false
set_option maxRecDepth 100000
set_option maxHeartbeats 4000000
namespace L2
open PySem PySem.Spec PyProof.Rows

abbrev anyHO : HO := .ext fun _ => True
def Kn (H : Hp) (a : Addr) (o : Obj) : Prop := H a = some (.frz o anyHO)
theorem Kn.get {P : Program} {w : World} {H : Hp} {h : Heap} {a : Addr} {o : Obj} (k : Kn H a o) (x : HOk P w H h) : h.get? a = some o := (x a _ k).1
def rem (cs : List Addr) (H : Hp) : Hp := fun b => if b ∈ cs then none else H b
theorem rem_in {cs : List Addr} {H : Hp} {b : Addr} (h : b ∈ cs) : rem cs H b = none := if_pos h
theorem rem_out {cs : List Addr} {H : Hp} {b : Addr} (h : b ∉ cs) : rem cs H b = H b := if_neg h
section
variable {P : Program} {w : World} {H H' : Hp} {h h' : Heap} {cs fs : List Addr}
theorem kn_not {c : Addr} {u : HO} (k : ∀ c ∈ cs, ∃ o, Kn H c o) (e : H c = some u) (n : ∀ o, u ≠ .frz o anyHO) : c ∉ cs := fun m => by
  obtain ⟨o, q⟩ := k c m
  unfold Kn at q
  rw [e] at q
  exact n o (Option.some.inj q)
theorem HOk.rem (x : HOk P w H h) (k : ∀ c ∈ cs, ∃ o, Kn H c o) : HOk P w (rem cs H) h := fun b u e => by
  have nb : b ∉ cs := fun m => by rw [rem_in m] at e; cases e
  rw [rem_out nb] at e
  refine (x b u e).stay (fun c v _ q => q) (fun c q => ?_) fun c xs q => ?_
  · rw [rem_out (kn_not k q fun o z => by cases z)]; exact q
  · rw [rem_out (kn_not k q fun o z => by cases z)]; exact q
end

structure CloScope (ps ls fr : List Str) (sc : Scope) : Prop where
  kind : sc.kind = .function
  co : sc.isCoroutine = false
  gen : sc.isGenerator = false
  nd : (ps ++ ls ++ fr).Nodup
  par : ∀ x ∈ ps, sc.names.lookup x = some .local
  nocell : ∀ y ∈ sc.names, y.2 ≠ .cell
  fre : ∀ x ∈ fr, sc.names.lookup x = some .free
  all : ∀ y ∈ sc.names, y.2 = .free → y.1 ∈ fr
structure Made (H : Hp) (f : Addr) (name qual : Str) (st : Stmt) (cl : List (Str × Addr)) : Prop where
  ex : ∃ (doc pm : Value) (c' : Addr) (ctv : Value) (oc : Obj) (vs : Array Value) (t : Tok), Kn H f (PySem.W.fnMade name qual (defArgs st) (defBody st) (defScope st) cl doc pm c' ctv) ∧ Kn H c' oc ∧ oc.data = .fields vs ∧ vs[1]? = some (.str qual t)
structure CloAt (H : Hp) (f : Addr) (name qual : Str) (st : Stmt) (fr : List Str) (cs : List Addr) (ws : List V) : Prop where
  ex : ∃ cl, Made H f name qual st cl ∧ (∀ x c, cl.lookup x = some c → ∃ j : Nat, fr[j]? = some x ∧ cs[j]? = some c) ∧ ∀ (j : Nat) x, fr[j]? = some x → ∃ c, cl.lookup x = some c ∧ cs[j]? = some c
  cells : ∀ (j : Nat) x, ws[j]? = some x → ∃ c o u, cs[j]? = some c ∧ Kn H c o ∧ o.data = .cell (some u) ∧ RelV x u
  l1 : cs.length = fr.length
  l2 : ws.length = fr.length
  nd : cs.Nodup
theorem CloAt.same {H H' : Hp} {f : Addr} {name qual : Str} {st : Stmt} {fr : List Str} {cs : List Addr} {ws : List V} (C : CloAt H f name qual st fr cs ws) (h : ∀ b o, Kn H b o → Kn H' b o) : CloAt H' f name qual st fr cs ws := by
  obtain ⟨cl, ⟨doc, pm, c', ctv, oc, vs, t, h1, h2, h3, h4⟩, h5, h6⟩ := C.ex
  refine ⟨⟨cl, ⟨doc, pm, c', ctv, oc, vs, t, h _ _ h1, h _ _ h2, h3, h4⟩, h5, h6⟩, fun j x e => ?_, C.l1, C.l2, C.nd⟩
  obtain ⟨c, o, u, q1, q2, q3, q4⟩ := C.cells j x e
  exact ⟨c, o, u, q1, h _ _ q2, q3, q4⟩

end L2

set_option Elab.async false
set_option linter.all false
set_option maxRecDepth 100000
set_option maxHeartbeats 4000000
namespace L2
open PySem PySem.Spec PyProof.Rows

structure FnV (P : Program) (w : World) (K : PySem.W.Frag) (mg : Str → Option Value) (base : Heap) (k : Nat) (f : Addr) (sp : Sp) : Prop where
  fn : ∀ vs H Q E, sp vs H Q E → ∃ oc od fd sl, Kn H f ⟨oc, od, .func fd, sl⟩
  run : ∀ (A : Around) (outer : List Env) (s : Shared) (H : Hp) (us : List Value) (vs : List V) (Q : VK) (E : XK), Room k A → Env0 P w K mg base A outer s H → Vals vs us → sp vs H Q E →
    codeAny (model P w) A (.call (.ref f) ⟨us, []⟩) (CR CX0 outer P w H s Q E) s
section
variable {X : Cx} {e : Expr} {es : List Expr} {t : TA} {p pos : Pos}
end

structure TabOk (H : Hp) (Pt : Addr) (qs : List (Pos × Str)) : Prop where
  ex : ∃ l : List (Pos × Addr), H Pt = some (.tbl (triples l).toArray) ∧ ∀ q ∈ l, ∃ qual oc vs t, (q.1, qual) ∈ qs ∧ Kn H q.2 oc ∧ oc.data = .fields vs ∧ vs[1]? = some (.str qual t)
theorem TabOk.same {H H' : Hp} {Pt : Addr} {qs : List (Pos × Str)} (T : TabOk H Pt qs) (h1 : H' Pt = H Pt) (h2 : ∀ b o, Kn H b o → Kn H' b o) : TabOk H' Pt qs := by
  obtain ⟨l, e, h⟩ := T.ex
  refine ⟨l, h1.trans e, fun q m => ?_⟩
  obtain ⟨qual, oc, vs, t, a, b, c⟩ := h q m
  exact ⟨qual, oc, vs, t, a, h2 _ _ b, c⟩
section
variable {X : Cx}
end
end L2

set_option Elab.async false
set_option linter.all false
set_option maxRecDepth 100000
set_option maxHeartbeats 4000000
namespace L2
open PySem PySem.Spec PyProof.Rows

structure Froz (env : Env) (N : List Str) (σ : St) (fr : List Str) (cs : List Addr) (os : List Obj) : Prop where
  l1 : cs.length = fr.length
  l2 : os.length = fr.length
  at_ : ∀ (j : Nat) x, fr[j]? = some x → ∃ (c : Addr) (o : Obj) (i : Nat) (v : V) (u : Value), cs[j]? = some c ∧ os[j]? = some o ∧ env.cells.lookup x = some c ∧ N[i]? = some x ∧ σ[i]? = some (some v) ∧ o.data = .cell (some u) ∧ RelV v u
  nd : cs.Nodup
section
variable {X : Cx} {e : Expr} {es : List Expr} {t : TA} {p pos : Pos}
end
structure Only2 (ts : List (Addr × Addr)) (H : Hp) : Prop where
  tabs : ∀ q ∈ ts, H q.2 = some (.tbl #[])
  rest : ∀ b, H b = none ∨ (∃ q ∈ ts, q.2 = b) ∨ ∃ o xs, H b = some (.frz o (.lst xs))
end L2

set_option Elab.async false
set_option linter.all false
set_option maxRecDepth 100000
set_option maxHeartbeats 4000000
namespace L2
open PySem PySem.Spec PyProof.Rows
section
variable {X : Cx} {e a : Expr} {es : List Expr} {t : TA} {ta te : TE} {p pos : Pos} {K : PySem.W.Frag}

def mNeg (ta : TE) : TE := fun σ H Q => ta σ H fun x H1 => match x with
  | .int i => Q (.int (-i)) H1
  | _ => False
theorem j_neg (ha : JE X a ta) : JE X (.UnaryOp .USub a pos) (mNeg ta) := by
  refine .mk ?_
  have h := pe_un (pos := pos) un_neg ha.out
  intro pins s σ H Q I q
  refine h pins s σ H Q I ?_
  unfold mNeg at q
  unfold tUn
  refine cast (congrArg (ta σ H) ?_) q
  funext x H1
  refine propext ⟨fun z => ?_, fun z => ?_⟩
  · split at z
    · exact ⟨_, rfl, z⟩
    · exact z.elim
  · obtain ⟨i, rfl, z⟩ := z
    exact z

end

structure FunC (K : PySem.W.Frag) (x : Str) (st : Stmt) (f : Addr) (fd : FuncData) (c : Addr) : Prop where
  ex : ∃ (oc : Value) (od : Option Addr) (kV doc pm : Value) (an : Option Addr) (ct : Value) (osl : Array (Option Value)),
    fd = PySem.W.fnOf x x (defArgs st) (defBody st) (defScope st) .none kV doc pm an (.ref c) ct ∧ K.lookup f = some ⟨oc, od, .func fd, osl⟩ ∧ PySem.W.codeIn K (.ref c) x = true
  kp : PySem.W.keepIn K (.ref f) = true
structure RawC (K : PySem.W.Frag) (mg : Str → Option Value) (x : Str) (st : Stmt) (ps : List Str) (c Pt : Addr) : Prop where
  ex : ∃ f fd, mg x = some (.ref f) ∧ FunC K x st f fd c ∧ ∀ (us : List Value), us.length = ps.length → bindArgs fd ⟨us, []⟩ = pure (ps.zip us)
  hd : PySem.W.codeHdIn K c Pt = true
theorem RawC.mk' {K : PySem.W.Frag} {mg : Str → Option Value} {h : Heap} {x : Str} {st : Stmt} {ps : List Str} {f c Pt : Addr} {oc : Value} {od an : Option Addr} {osl : Array (Option Value)} {kV doc pm ct : Value} (X : K.In h) (G : h.Ns mainGlobals mg)
    (a : PySem.W.nsIn K mainGlobals x = some (some (.ref f))) (l : K.lookup f = some ⟨oc, od, .func (PySem.W.fnOf x x (defArgs st) (defBody st) (defScope st) .none kV doc pm an (.ref c) ct), osl⟩)
    (cd : PySem.W.codeIn K (.ref c) x = true) (k : PySem.W.keepIn K (.ref f) = true) (hd : PySem.W.codeHdIn K c Pt = true)
    (hb : ∀ (us : List Value), us.length = ps.length → bindArgs (PySem.W.fnOf x x (defArgs st) (defBody st) (defScope st) .none kV doc pm an (.ref c) ct) ⟨us, []⟩ = pure (ps.zip us)) : RawC K mg x st ps c Pt :=
  ⟨⟨f, _, PySem.W.mg_of X G a, ⟨⟨oc, od, kV, doc, pm, an, ct, osl, rfl, l, cd⟩, k⟩, hb⟩, hd⟩
theorem FunC.lk {K : PySem.W.Frag} {x : Str} {st : Stmt} {f c : Addr} {fd : FuncData} (F : FunC K x st f fd c) : ∃ oc od osl, K.lookup f = some ⟨oc, od, .func fd, osl⟩ := by
  obtain ⟨oc, od, kV, doc, pm, an, ct, osl, _, lk, _⟩ := F.ex
  exact ⟨oc, od, osl, lk⟩
theorem RawC.defJ {P : Program} {w : World} {K : PySem.W.Frag} {mg : Str → Option Value} {base : Heap} {x : Str} {st : Stmt} {N ps : List Str} {k : Nat} {sp : Sp} {c Pt : Addr} (R : RawC K mg x st ps c Pt) (S : FnScope N ps (defScope st)) (len : ∀ vs H Q E, sp vs H Q E → vs.length = ps.length)
    (hbody : ∀ (f : Addr) (A : Around) (outer : List Env) (s : Shared) (H : Hp) (vs : List V) (Q : VK) (E : XK), Room k (A.deeper (envOfC x (defScope st) s.heap.objs.size f (.ref c))) → sp vs H Q E →
      ∃ t, JSs (cxOf CX0 P w K mg base N x (defScope st) f (.ref c) A outer s H E).nox (defBody st) t ∧ t { nx := fun _ H' => Q .non H', rt := Q } (start N vs) H) : Def P w K mg base (k + 1) x ps sp := by
  obtain ⟨f, fd, h1, F, b⟩ := R.ex
  have lk := F.lk
  obtain ⟨oc, od, kV, doc, pm, an, ct, osl, rfl, l, hcd⟩ := F.ex
  refine ⟨f, _, h1, F.kp, lk, .all b, fn_of l hcd S len fun A outer s H vs Q E hr hsp => ?_⟩
  obtain ⟨t, h, q⟩ := hbody f A outer s H vs Q E hr hsp
  exact ⟨t, h.out.nox, q⟩
end L2
namespace L2
open PySem
end L2

set_option Elab.async false
set_option linter.all false
set_option maxRecDepth 100000
set_option maxHeartbeats 4000000
namespace L2
open PySem PySem.Spec PyProof.Rows
section
variable {X : Cx} {e k : Expr} {es : List Expr} {t : TA} {te tk : TE} {p pos p2 : Pos} {K : PySem.W.Frag}
end
end L2

set_option Elab.async false
set_option linter.all false
set_option maxRecDepth 100000
set_option maxHeartbeats 4000000
namespace L2
open PySem PySem.Spec PyProof.Rows

theorem Inv.turnedL {X : Cx} {pins : List (Addr × Obj)} {σ : List (Option V)} {H : Hp} {s : Shared} {h' : Heap} {t' : Nat} {fp : List Addr} (I : Inv X pins σ H s) (k : ∀ b o, b ∉ fp → s.heap.get? b = some o → h'.get? b = some o)
    (hf : ∀ b ∈ fp, FpOk X pins H b) : Inv X pins σ H { s with heap := h', toks := t' } := by
  have nit : ∀ b u, H b = some u → b ∉ fp := fun b u e z => by rw [(hf b z).1] at e; cases e
  refine I.step (g' := s.gens) (d' := s.drawn) (ch := fp) (fun b hb => ?_) (fun b o _ _ hc e _ => k b o hc e) (fun b o _ _ hc e _ => ⟨o.slots, k b o hc e⟩) (fun _ _ _ _ n => n)
    (fun b o hc e => ⟨o, k b o hc e⟩) (fun _ _ e => e) (fun _ _ _ e => e) (fun b ps e => ⟨#[], by rw [e]; simp⟩) (fun m hm => ?_) (fun b u e => ?_) I.bare
  · obtain ⟨_, f1, _, f3, f4, f5⟩ := hf b hb
    exact ⟨f3, f1, f4, f5⟩
  · obtain ⟨o, es, ep, ho, r⟩ := hm
    exact ⟨o, es, ep, k _ o (fun z => (hf _ z).2.1 rfl) ho, r⟩
  · refine (I.hok b u e).stay (fun c v hc q => k c v ?_ q) (fun _ q => q) fun _ _ q => q
    rcases hc with z | z
    · rw [z]; exact nit b u e
    · exact nit c _ z

section
variable {prog : Program} {w : World} {A : Around} {E : Value → Shared → Prop} {s : Shared}
theorem nextOf_tup_item {it l : Addr} {i : Nat} {items} {x : Value} {Q : Value → Shared → Prop} (hit : s.heap.IsTupleIter it l i)
    (hl : s.heap.IsTuple l items) (hx : items[i]? = some x)
    (hQ : ∀ h', h'.IsTupleIter it l (i + 1) → Heap.SameBut it s.heap h' → Q x { s with heap := h' }) :
    wpAny (model prog w) A (Builtin.SmallTypes.nextOf (.ref it)) Q E s := by
  obtain ⟨o, ho, hc, hd⟩ := id hit
  obtain ⟨ol, hol, _, nl, hdl⟩ := hl
  unfold Builtin.SmallTypes.nextOf
  refine wpAny_bind (wpAny_callSpecial?_slot (name := Str.ofString "__next__") hit.typeIs F.slot_tuple_iterator_next
    (wpAny_call_entry F.slot_tuple_iterator_next hit.typeIs F.entry_tuple_iterator_next ?_ (F.args_tuple_iterator_next_1 _)))
  show wpAny _ _ (field (.ref it) 0 >>= _) _ _ s
  refine wpAny_bind (wpAny_field ho hd (x := .ref l) rfl ?_)
  show wpAny _ _ (if (Value.ref l == Value.none) = true then _ else _) _ _ s
  rw [if_neg (show ¬ ((Value.ref l == Value.none) = true) from Bool.false_ne_true)]
  show wpAny _ _ (field (.ref it) 1 >>= _) _ _ s
  refine wpAny_bind (wpAny_field ho hd (x := .int i 0) rfl ?_)
  show wpAny _ _ (seqItems? (.ref l) >>= _) _ _ s
  refine wpAny_bind (wpAny_seqItems hol hdl ?_)
  simp only [Int.toNat_natCast, hx]
  refine wpAny_bind (wpAny_setField ho hd (by simp) (wpAny_pure ⟨x, rfl, wpAny_pure (hQ _ ?_ (Heap.SameBut.update ..))⟩))
  exact ⟨_, Heap.get?_update_self _ ho (Obj.isFreed_of_fields (Obj.data_mapFields hd _)), (Obj.cls_mapFields ..).trans hc, by
    rw [Obj.data_mapFields hd]; simp [rawInt]⟩
theorem nextOf_tup_end {it l : Addr} {i : Nat} {items} {Q : Value → Shared → Prop} (hh : A.handled = none)
    (hit : s.heap.IsTupleIter it l i) (hl : s.heap.IsTuple l items) (hx : items[i]? = none)
    (hE : ∀ h' e, Heap.ExtBut it s.heap h' → (∃ o, h'.get? e = some o ∧ o.cls = .type "StopIteration") → E (.ref e) { s with heap := h' }) :
    wpAny (model prog w) A (Builtin.SmallTypes.nextOf (.ref it)) Q E s := by
  obtain ⟨o, ho, hc, hd⟩ := id hit
  obtain ⟨ol, hol, _, nl, hdl⟩ := hl
  unfold Builtin.SmallTypes.nextOf
  refine wpAny_bind (wpAny_callSpecial?_slot (name := Str.ofString "__next__") hit.typeIs F.slot_tuple_iterator_next
    (wpAny_call_entry F.slot_tuple_iterator_next hit.typeIs F.entry_tuple_iterator_next ?_ (F.args_tuple_iterator_next_1 _)))
  show wpAny _ _ (field (.ref it) 0 >>= _) _ _ s
  refine wpAny_bind (wpAny_field ho hd (x := .ref l) rfl ?_)
  show wpAny _ _ (if (Value.ref l == Value.none) = true then _ else _) _ _ s
  rw [if_neg (show ¬ ((Value.ref l == Value.none) = true) from Bool.false_ne_true)]
  show wpAny _ _ (field (.ref it) 1 >>= _) _ _ s
  refine wpAny_bind (wpAny_field ho hd (x := .int i 0) rfl ?_)
  show wpAny _ _ (seqItems? (.ref l) >>= _) _ _ s
  refine wpAny_bind (wpAny_seqItems hol hdl ?_)
  simp only [Int.toNat_natCast, hx]
  refine wpAny_bind (wpAny_rule (wpAny_bind (wpAny_setField ho hd (by simp) ?_)))
  show wpAny _ _ (newExc (.type "StopIteration") [] >>= _) _ _ _
  refine wpAny_bind ?_
  simp only [newExc, newTuple]
  refine wpAny_bind (wpAny_newObj_type ?_ (by size_fits))
  refine wpAny_bind (m := firstArgMember _ _) (wpAny_of_eq (a := Value.none) (by first | rfl | (simp only [firstArgMember]; rfl)) ?_)
  refine wpAny_newObj_type ?_ (by size_fits)
  simp only [raiseNew]
  refine wpAny_bind (wpAny_handled ?_)
  first | rw [show A.in1.handled = none from hh] | rw [hh]
  refine wpAny_bind (wpAny_pure (wpAny_throw ?_))
  exact hE _ _ (((Heap.SameBut.update ..).extBut.push _).push _) ⟨_, Heap.get?_push_size _ rfl, rfl⟩

def ItAt (t : Bool) (h : Heap) (it a : Addr) (k : Nat) : Prop := match t with
  | true => h.IsTupleIter it a k
  | false => h.IsListIter it a k
def SrcAt (t : Bool) (h : Heap) (a : Addr) (xs : Array Value) : Prop := match t with
  | true => h.IsTuple a xs
  | false => h.IsList a xs
def itCls (t : Bool) : String := match t with
  | true => "tuple_iterator"
  | false => "list_iterator"
theorem ItAt.at {t : Bool} {h h' : Heap} {it a : Addr} {k : Nat} (x : ItAt t h it a k) (e : ∀ o, h.get? it = some o → h'.get? it = some o) : ItAt t h' it a k := by
  cases t with
  | true => obtain ⟨o, ho, r⟩ := x; exact ⟨o, e o ho, r⟩
  | false => obtain ⟨o, ho, r⟩ := x; exact ⟨o, e o ho, r⟩
theorem ItAt.obj {t : Bool} {h : Heap} {it a : Addr} {k : Nat} (x : ItAt t h it a k) : ∃ o, h.get? it = some o ∧ ∀ v, o.data ≠ .cell v := by
  cases t with
  | true => obtain ⟨o, ho, _, d⟩ := x; exact ⟨o, ho, fun v z => by rw [d] at z; cases z⟩
  | false => obtain ⟨o, ho, _, d⟩ := x; exact ⟨o, ho, fun v z => by rw [d] at z; cases z⟩
theorem SrcAt.at {t : Bool} {h h' : Heap} {a : Addr} {xs : Array Value} (x : SrcAt t h a xs) (e : ∀ o, h.get? a = some o → h'.get? a = some o) : SrcAt t h' a xs := by
  cases t with
  | true => obtain ⟨o, ho, r⟩ := x; exact ⟨o, e o ho, r⟩
  | false => obtain ⟨o, ho, r⟩ := x; exact ⟨o, e o ho, r⟩
theorem SrcAt.lt {t : Bool} {h : Heap} {a : Addr} {xs : Array Value} (x : SrcAt t h a xs) : a < h.objs.size := by
  cases t with
  | true => obtain ⟨o, ho, _⟩ := x; exact Heap.lt_size ho
  | false => obtain ⟨o, ho, _⟩ := x; exact Heap.lt_size ho
theorem nextOf_item {t : Bool} {it a : Addr} {k : Nat} {xs : Array Value} {x : Value} {Q : Value → Shared → Prop} (hit : ItAt t s.heap it a k) (hs : SrcAt t s.heap a xs) (hx : xs[k]? = some x)
    (hQ : ∀ h', ItAt t h' it a (k + 1) → Heap.SameBut it s.heap h' → Q x { s with heap := h' }) : wpAny (model prog w) A (Builtin.SmallTypes.nextOf (.ref it)) Q E s := by
  cases t with
  | true => exact nextOf_tup_item hit hs hx hQ
  | false => exact wpAny_nextOf_list_item hit hs hx hQ
theorem nextOf_end {t : Bool} {it a : Addr} {k : Nat} {xs : Array Value} {Q : Value → Shared → Prop} (hh : A.handled = none) (hit : ItAt t s.heap it a k) (hs : SrcAt t s.heap a xs) (hx : xs[k]? = none)
    (hE : ∀ h' e, Heap.ExtBut it s.heap h' → (∃ o, h'.get? e = some o ∧ o.cls = .type "StopIteration") → E (.ref e) { s with heap := h' }) : wpAny (model prog w) A (Builtin.SmallTypes.nextOf (.ref it)) Q E s := by
  cases t with
  | true => exact nextOf_tup_end hh hit hs hx hE
  | false => exact wpAny_nextOf_list_end hh hit hs hx hE
theorem pyIter_src {t : Bool} {a : Addr} {xs : Array Value} {Q : Value → Shared → Prop} (hs : SrcAt t s.heap a xs)
    (hQ : Q (.ref s.heap.objs.size) { s with heap := s.heap.push { cls := .type (itCls t), data := .fields #[.ref a, .int 0 0] } }) : wpAny (model prog w) A (pyIter (.ref a)) Q E s := by
  cases t with
  | true => exact wpAny_pyIter_tuple hs hQ
  | false => exact wpAny_pyIter_list hs hQ
theorem ItAt.new {t : Bool} {h : Heap} {it a : Addr} (e : h.get? it = some { cls := .type (itCls t), data := .fields #[.ref a, .int 0 0] }) : ItAt t h it a 0 := by
  cases t with
  | true => exact ⟨_, e, rfl, rfl⟩
  | false => exact ⟨_, e, rfl, rfl⟩

theorem zipN_item {t1 t2 : Bool} {z TI TO i1 i2 l1 l2 : Addr} {k1 k2 : Nat} {xs ys : Array Value} {x y a b : Value} {Q : Option Value → Shared → Prop} (D : ZipApart z TI TO i1 i2 l1 l2)
    (hz : IsZip s.heap z TI TO .none) (hTI : IsPair s.heap TI (.ref i1) (.ref i2)) (hTO : IsPair s.heap TO a b)
    (h1 : ItAt t1 s.heap i1 l1 k1) (h2 : ItAt t2 s.heap i2 l2 k2) (hl1 : SrcAt t1 s.heap l1 xs) (hl2 : SrcAt t2 s.heap l2 ys) (hx : xs[k1]? = some x) (hy : ys[k2]? = some y)
    (hQ : ∀ h', IsZip h' z TI TO (rawInt s.heap.objs.size) → IsPair h' TO x y → ItAt t1 h' i1 l1 (k1 + 1) → ItAt t2 h' i2 l2 (k2 + 1) → IsPair h' s.heap.objs.size x y → h'.objs.size = s.heap.objs.size + 1 →
      (∀ c o, c ≠ z → c ≠ TO → c ≠ i1 → c ≠ i2 → s.heap.get? c = some o → h'.get? c = some o) → Q (some (.ref s.heap.objs.size)) { s with heap := h' }) :
    wpAny (model prog w) A (pyNext (.ref z)) Q E s := by
  have hT : s.TypeIs (.ref z) "zip" := ⟨_, hz, rfl⟩
  unfold pyNext
  refine wpAny_bind (wpAny_attempt (wpAny_callSpecial?_slot (name := Str.ofString "__next__") hT F.slot_zip_next
    (wpAny_call_entry F.slot_zip_next hT F.entry_zip_next ?_ (F.args_zip_next_1 _))))
  show wpAny _ _ (field (.ref z) 2 >>= _) _ _ _
  refine wpAny_bind (wpAny_field hz rfl (x := .bool false) rfl ?_)
  show wpAny _ _ (field (.ref z) 3 >>= _) _ _ _
  refine wpAny_bind (wpAny_field hz rfl (x := .ref TI) rfl ?_)
  refine wpAny_bind (wpAny_seqItems hTI rfl ?_)
  show wpAny _ _ (Builtin.SmallTypes.ownedTupleIsFree (.ref z) >>= _) _ _ _
  refine wpAny_bind ?_
  unfold Builtin.SmallTypes.ownedTupleIsFree
  refine wpAny_bind (wpAny_field hz rfl (x := .none) rfl (wpAny_pure ?_))
  simp only [if_true]
  refine wpAny_bind (wpAny_rule ?_)
  refine wpAny_bind (wpAny_field hz rfl (x := .ref TO) rfl ?_)
  refine wpAny_bind (wpAny_setField_rec hz (by simp) fun h₁ hz₁ hs₁ => ?_)
  replace hz₁ : IsZip h₁ z TI TO .ellipsis := hz₁
  refine wpAny_bind ?_
  simp only [List.zipIdx_cons, List.zipIdx_nil, List.forIn_cons, List.forIn_nil]
  refine wpAny_bind (wpAny_bind (wpAny_onRaise ?_))
  show wpAny _ _ (Builtin.SmallTypes.nextOf (.ref i1) >>= _) _ _ _
  refine wpAny_bind (nextOf_item (h1.at fun o e => hs₁.extBut _ _ D.i1z e) (hl1.at fun o e => hs₁.extBut _ _ D.l1z e) hx fun h₂ h1₂ hs₂ => wpAny_pure ?_)
  have hTO₂ : IsPair h₂ TO a b := hs₂.extBut _ _ D.TOi1 (hs₁.extBut _ _ D.TOz hTO)
  refine wpAny_bind (wpAny_seqItems hTO₂ rfl ?_)
  refine wpAny_bind (wpAny_updateSeq_pair hTO₂ fun h₃ hTO₃ hs₃ => ?_)
  replace hTO₃ : IsPair h₃ TO x b := hTO₃
  refine wpAny_bind (wpAny_letGo (wpAny_pure ?_))
  refine wpAny_bind (wpAny_bind (wpAny_onRaise ?_))
  show wpAny _ _ (Builtin.SmallTypes.nextOf (.ref i2) >>= _) _ _ _
  refine wpAny_bind (nextOf_item (h2.at fun o e => hs₃.extBut _ _ D.TOi2.symm (hs₂.extBut _ _ D.i12.symm (hs₁.extBut _ _ D.i2z e)))
    (hl2.at fun o e => hs₃.extBut _ _ D.l2TO (hs₂.extBut _ _ D.l2i1 (hs₁.extBut _ _ D.l2z e))) hy fun h₄ h2₄ hs₄ => wpAny_pure ?_)
  have hTO₄ : IsPair h₄ TO x b := hs₄.extBut _ _ D.TOi2 hTO₃
  refine wpAny_bind (wpAny_seqItems hTO₄ rfl ?_)
  refine wpAny_bind (wpAny_updateSeq_pair hTO₄ fun h₅ hTO₅ hs₅ => ?_)
  replace hTO₅ : IsPair h₅ TO x y := hTO₅
  refine wpAny_bind (wpAny_letGo (wpAny_pure (wpAny_pure ?_)))
  refine wpAny_bind (wpAny_seqItems hTO₅ rfl ?_)
  refine wpAny_bind (wpAny_newTuple ?_)
  have hsz : h₅.objs.size = s.heap.objs.size := by rw [hs₅.1, hs₄.1, hs₃.1, hs₂.1, hs₁.1]
  have hz₅ : IsZip h₅ z TI TO .ellipsis := hs₅.extBut _ _ D.TOz.symm (hs₄.extBut _ _ D.i2z.symm (hs₃.extBut _ _ D.TOz.symm (hs₂.extBut _ _ D.i1z.symm hz₁)))
  have hk₅ : ∀ c o, c ≠ z → c ≠ TO → c ≠ i1 → c ≠ i2 → s.heap.get? c = some o → h₅.get? c = some o := fun c o c1 c2 c3 c4 e =>
    hs₅.extBut _ _ c2 (hs₄.extBut _ _ c4 (hs₃.extBut _ _ c2 (hs₂.extBut _ _ c3 (hs₁.extBut _ _ c1 e))))
  have h1₅ : ItAt t1 h₅ i1 l1 (k1 + 1) := h1₂.at fun o e => hs₅.extBut _ _ D.TOi1.symm (hs₄.extBut _ _ D.i12 (hs₃.extBut _ _ D.TOi1.symm e))
  have h2₅ : ItAt t2 h₅ i2 l2 (k2 + 1) := h2₄.at fun o e => hs₅.extBut _ _ D.TOi2.symm e
  have hzlt : z < h₅.objs.size := Heap.lt_size hz₅
  show wpAny _ _ (Builtin.SmallTypes.ownedTupleHandOut (.ref z) (.ref h₅.objs.size) >>= _) _ _ _
  refine wpAny_bind ?_
  unfold Builtin.SmallTypes.ownedTupleHandOut
  have hz₆ : IsZip (h₅.push { cls := .type "tuple", data := .seq #[x, y] }) z TI TO .ellipsis := Heap.get?_push_of_some _ hz₅
  refine wpAny_bind (wpAny_setField_rec hz₆ (by simp) fun h₇ hz₇ hs₇ => ?_)
  replace hz₇ : IsZip h₇ z TI TO (rawInt h₅.objs.size) := hz₇
  refine wpAny_setField_rec hz₇ (by simp) fun h₈ hz₈ hs₈ => ?_
  replace hz₈ : IsZip h₈ z TI TO (rawInt h₅.objs.size) := hz₈
  have up : ∀ c o, c ≠ z → h₅.get? c = some o → h₈.get? c = some o := fun c o c1 e => hs₈.extBut _ _ c1 (hs₇.extBut _ _ c1 (Heap.get?_push_of_some _ e))
  have hT₈ : IsPair h₈ h₅.objs.size x y := hs₈.extBut _ _ (Nat.ne_of_gt hzlt) (hs₇.extBut _ _ (Nat.ne_of_gt hzlt) (Heap.get?_push_size _ rfl))
  have hz8 : h₈.objs.size = h₅.objs.size + 1 := by rw [hs₈.1, hs₇.1, Heap.size_push]
  rw [hsz] at hz₈ hT₈ hz8
  refine wpAny_pure ⟨_, rfl, ?_⟩
  refine wpAny_pure ?_
  show Q (some (.ref h₅.objs.size)) _
  rw [hsz]
  exact hQ h₈ hz₈ (up _ _ D.TOz hTO₅) (h1₅.at fun o e => up _ o D.i1z e) (h2₅.at fun o e => up _ o D.i2z e) hT₈ hz8 fun c o c1 c2 c3 c4 e => up c o c1 (hk₅ c o c1 c2 c3 c4 e)
theorem zipN_end {t1 t2 : Bool} {z TI TO i1 i2 l1 l2 : Addr} {k1 k2 : Nat} {xs ys : Array Value} {a b : Value} {Q : Option Value → Shared → Prop} (hh : A.handled = none) (D : ZipApart z TI TO i1 i2 l1 l2)
    (hz : IsZip s.heap z TI TO .none) (hTI : IsPair s.heap TI (.ref i1) (.ref i2)) (hTO : IsPair s.heap TO a b)
    (h1 : ItAt t1 s.heap i1 l1 k1) (h2 : ItAt t2 s.heap i2 l2 k2) (hl1 : SrcAt t1 s.heap l1 xs) (hl2 : SrcAt t2 s.heap l2 ys) (hend : xs[k1]? = none ∨ ys[k2]? = none)
    (hQ : ∀ h', (∀ c o, c ≠ z → c ≠ TO → c ≠ i1 → c ≠ i2 → s.heap.get? c = some o → h'.get? c = some o) → Q none { s with heap := h' }) : wpAny (model prog w) A (pyNext (.ref z)) Q E s := by
  have hT : s.TypeIs (.ref z) "zip" := ⟨_, hz, rfl⟩
  have hE : ∀ h' e, (∀ c o, c ≠ z → c ≠ TO → c ≠ i1 → c ≠ i2 → s.heap.get? c = some o → h'.get? c = some o) → (∃ o, h'.get? e = some o ∧ o.cls = .type "StopIteration") →
      wpAny (model prog w) A (do if (← isInstance (.ref e) (.type "StopIteration")) then pure none else throw (.ref e)) Q E { s with heap := h' } := fun h' e hk he => by
    obtain ⟨o, ho, hc⟩ := he
    exact wpAny_bind (wpAny_isInstance (T := "StopIteration") (b := true) ⟨o, ho, hc⟩ isSubtype_stop (wpAny_pure (hQ _ hk)))
  unfold pyNext
  refine wpAny_bind (wpAny_attempt (wpAny_callSpecial?_slot (name := Str.ofString "__next__") hT F.slot_zip_next
    (wpAny_call_entry F.slot_zip_next hT F.entry_zip_next ?_ (F.args_zip_next_1 _))))
  show wpAny _ _ (field (.ref z) 2 >>= _) _ _ _
  refine wpAny_bind (wpAny_field hz rfl (x := .bool false) rfl ?_)
  show wpAny _ _ (field (.ref z) 3 >>= _) _ _ _
  refine wpAny_bind (wpAny_field hz rfl (x := .ref TI) rfl ?_)
  refine wpAny_bind (wpAny_seqItems hTI rfl ?_)
  show wpAny _ _ (Builtin.SmallTypes.ownedTupleIsFree (.ref z) >>= _) _ _ _
  refine wpAny_bind ?_
  unfold Builtin.SmallTypes.ownedTupleIsFree
  refine wpAny_bind (wpAny_field hz rfl (x := .none) rfl (wpAny_pure ?_))
  simp only [if_true]
  refine wpAny_bind (wpAny_rule ?_)
  refine wpAny_bind (wpAny_field hz rfl (x := .ref TO) rfl ?_)
  refine wpAny_bind (wpAny_setField_rec hz (by simp) fun h₁ hz₁ hs₁ => ?_)
  replace hz₁ : IsZip h₁ z TI TO .ellipsis := hz₁
  refine wpAny_bind ?_
  simp only [List.zipIdx_cons, List.zipIdx_nil, List.forIn_cons, List.forIn_nil]
  refine wpAny_bind (wpAny_bind (wpAny_onRaise ?_))
  show wpAny _ _ (Builtin.SmallTypes.nextOf (.ref i1) >>= _) _ _ _
  cases hx : xs[k1]? with
  | none =>
    refine wpAny_bind (nextOf_end hh (h1.at fun o e => hs₁.extBut _ _ D.i1z e) (hl1.at fun o e => hs₁.extBut _ _ D.l1z e) hx fun h₂ e hs₂ he => ?_)
    obtain ⟨oe, hoe, hce⟩ := he
    have hz₂ : IsZip h₂ z TI TO .ellipsis := hs₂ _ _ D.i1z.symm hz₁
    have hez : e ≠ z := fun x => by subst x; rw [hz₂] at hoe; cases hoe; simp at hce
    refine wpAny_setField_rec hz₂ (by simp) fun h₃ _ hs₃ => hE h₃ e (fun c o c1 _ c3 _ x => hs₃.extBut _ _ c1 (hs₂ _ _ c3 (hs₁.extBut _ _ c1 x))) ⟨oe, hs₃.extBut _ _ hez hoe, hce⟩
  | some x =>
    have hy : ys[k2]? = none := by rcases hend with h | h; rw [hx] at h; cases h; exact h
    refine wpAny_bind (nextOf_item (h1.at fun o e => hs₁.extBut _ _ D.i1z e) (hl1.at fun o e => hs₁.extBut _ _ D.l1z e) hx fun h₂ h1₂ hs₂ => wpAny_pure ?_)
    have hTO₂ : IsPair h₂ TO a b := hs₂.extBut _ _ D.TOi1 (hs₁.extBut _ _ D.TOz hTO)
    refine wpAny_bind (wpAny_seqItems hTO₂ rfl ?_)
    refine wpAny_bind (wpAny_updateSeq_pair hTO₂ fun h₃ hTO₃ hs₃ => ?_)
    refine wpAny_bind (wpAny_letGo (wpAny_pure ?_))
    refine wpAny_bind (wpAny_bind (wpAny_onRaise ?_))
    show wpAny _ _ (Builtin.SmallTypes.nextOf (.ref i2) >>= _) _ _ _
    refine wpAny_bind (nextOf_end hh (h2.at fun o e => hs₃.extBut _ _ D.TOi2.symm (hs₂.extBut _ _ D.i12.symm (hs₁.extBut _ _ D.i2z e)))
      (hl2.at fun o e => hs₃.extBut _ _ D.l2TO (hs₂.extBut _ _ D.l2i1 (hs₁.extBut _ _ D.l2z e))) hy fun h₄ e hs₄ he => ?_)
    obtain ⟨oe, hoe, hce⟩ := he
    have hz₄ : IsZip h₄ z TI TO .ellipsis := hs₄ _ _ D.i2z.symm (hs₃.extBut _ _ D.TOz.symm (hs₂.extBut _ _ D.i1z.symm hz₁))
    have hez : e ≠ z := fun x => by subst x; rw [hz₄] at hoe; cases hoe; simp at hce
    refine wpAny_setField_rec hz₄ (by simp) fun h₅ _ hs₅ => hE h₅ e (fun c o c1 c2 c3 c4 x => hs₅.extBut _ _ c1 (hs₄ _ _ c4 (hs₃.extBut _ _ c2 (hs₂.extBut _ _ c3 (hs₁.extBut _ _ c1 x))))) ⟨oe, hs₅.extBut _ _ hez hoe, hce⟩
end

def zipI (t1 : Bool) (h : Heap) (l1 : Addr) : Heap := h.push { cls := .type (itCls t1), data := .fields #[.ref l1, .int 0 0] }
def zipJ (t1 t2 : Bool) (h : Heap) (l1 l2 : Addr) : Heap := (zipI t1 h l1).push { cls := .type (itCls t2), data := .fields #[.ref l2, .int 0 0] }
def zipK (t1 t2 : Bool) (h : Heap) (l1 l2 : Addr) : Heap := (zipJ t1 t2 h l1 l2).push { cls := .type "tuple", data := .seq #[.ref h.objs.size, .ref (zipI t1 h l1).objs.size] }
def zipL (t1 t2 : Bool) (h : Heap) (l1 l2 : Addr) : Heap := (zipK t1 t2 h l1 l2).push { cls := .type "tuple", data := .seq #[.none, .none] }
def zipM (t1 t2 : Bool) (h : Heap) (l1 l2 : Addr) : Heap := (zipL t1 t2 h l1 l2).push { cls := .type "zip", data := .fields #[.none, .bool false, .bool false, .ref (zipJ t1 t2 h l1 l2).objs.size, .ref (zipK t1 t2 h l1 l2).objs.size] }
theorem meets_zip (t1 t2 : Bool) (l1 l2 : Addr) (xs ys : Array Value) :
    Meets (Builtin.«zip.__new__» ⟨[.type "zip", .ref l1, .ref l2], []⟩) (fun _ R s => SrcAt t1 s.heap l1 xs ∧ SrcAt t2 s.heap l2 ys ∧
      R (.ok (.ret (.ref (zipL t1 t2 s.heap l1 l2).objs.size))) { s with heap := zipM t1 t2 s.heap l1 l2 }) :=
  .of_wp fun prog w A R s h => by
    obtain ⟨hp, g, d, tk, os⟩ := s; obtain ⟨hl1, hl2, h⟩ := h
    have hsub := sub_zip
    have hL1 : SrcAt t1 (Shared.heap ⟨hp, g, d, tk, os⟩) l1 xs := hl1
    have hL2 : SrcAt t2 (Shared.heap ⟨hp.push { cls := .type (itCls t1), data := .fields #[.ref l1, .int 0 0] }, g, d, tk, os⟩) l2 ys := hl2.at fun o e => Heap.get?_push_of_some _ e
    wp_walk using pyIter_src hL1, pyIter_src hL2
    exact ⟨_, rfl, h⟩
end L2

set_option Elab.async false
set_option linter.all false
set_option maxRecDepth 100000
set_option maxHeartbeats 4000000
namespace L2
open PySem PySem.Spec PyProof.Rows
section
variable {prog : Program} {w : World} {A : Around} {E : Value → Shared → Prop} {s : Shared}
theorem call_zip {t1 t2 : Bool} {l1 l2 : Addr} {xs ys : Array Value} {Q : Value → Shared → Prop} (hl1 : SrcAt t1 s.heap l1 xs) (hl2 : SrcAt t2 s.heap l2 ys)
    (h : ∀ h', IsZip h' (s.heap.objs.size + 4) (s.heap.objs.size + 2) (s.heap.objs.size + 3) .none → IsPair h' (s.heap.objs.size + 2) (.ref s.heap.objs.size) (.ref (s.heap.objs.size + 1)) →
      IsPair h' (s.heap.objs.size + 3) .none .none → ItAt t1 h' s.heap.objs.size l1 0 → ItAt t2 h' (s.heap.objs.size + 1) l2 0 →
      (∀ c o, s.heap.get? c = some o → h'.get? c = some o) → Q (.ref (s.heap.objs.size + 4)) { s with heap := h' }) :
    wpAny (model prog w) A (call (.type "zip") [.ref l1, .ref l2]) Q E s := by
  refine callType_new F.called_zip (by decide) (F.typeCall_zip_2 _ _) (F.newCall_zip_2 _ _) (fun obj => F.args_object_init_3 obj _ _) F.entry_zip_new
    (meets_zip t1 t2 l1 l2 xs ys) ⟨hl1, hl2, ?_⟩
  have z1 : (zipI t1 s.heap l1).objs.size = s.heap.objs.size + 1 := Heap.size_push ..
  have z2 : (zipJ t1 t2 s.heap l1 l2).objs.size = s.heap.objs.size + 2 := by rw [zipJ, Heap.size_push, z1]
  have z3 : (zipK t1 t2 s.heap l1 l2).objs.size = s.heap.objs.size + 3 := by rw [zipK, Heap.size_push, z2]
  have z4 : (zipL t1 t2 s.heap l1 l2).objs.size = s.heap.objs.size + 4 := by rw [zipL, Heap.size_push, z3]
  have g5 : (zipM t1 t2 s.heap l1 l2).get? (zipL t1 t2 s.heap l1 l2).objs.size = some _ := Heap.get?_push_size _ rfl
  have g4 : (zipM t1 t2 s.heap l1 l2).get? (zipK t1 t2 s.heap l1 l2).objs.size = some _ := Heap.get?_push_of_some _ (Heap.get?_push_size _ rfl)
  have g3 : (zipM t1 t2 s.heap l1 l2).get? (zipJ t1 t2 s.heap l1 l2).objs.size = some _ := Heap.get?_push_of_some _ (Heap.get?_push_of_some _ (Heap.get?_push_size _ rfl))
  have g2 : (zipM t1 t2 s.heap l1 l2).get? (zipI t1 s.heap l1).objs.size = some _ := Heap.get?_push_of_some _ (Heap.get?_push_of_some _ (Heap.get?_push_of_some _ (Heap.get?_push_size _ rfl)))
  have g1 : (zipM t1 t2 s.heap l1 l2).get? s.heap.objs.size = some _ := Heap.get?_push_of_some _ (Heap.get?_push_of_some _ (Heap.get?_push_of_some _ (Heap.get?_push_of_some _ (Heap.get?_push_size _ rfl))))
  show _ ∧ _
  rw [z2, z3, z4] at g5
  rw [z1, z2] at g3
  rw [z3] at g4
  rw [z1] at g2
  rw [z4]
  exact ⟨⟨_, g5, rfl⟩, h _ g5 g3 g4 (ItAt.new g1) (ItAt.new g2) fun c o x =>
    Heap.get?_push_of_some _ (Heap.get?_push_of_some _ (Heap.get?_push_of_some _ (Heap.get?_push_of_some _ (Heap.get?_push_of_some _ x))))⟩
end

def SqA (t : Bool) (K : PySem.W.Frag) (H : Hp) (a : Addr) (xs : List V) : Prop := match t with
  | true => SqT K H a xs
  | false => SqL K H a xs
theorem Inv.src {X : Cx} {pins : List (Addr × Obj)} {σ : List (Option V)} {H : Hp} {s : Shared} {t : Bool} {a : Addr} {xs : List V} (I : Inv X pins σ H s) (h : SqA t X.K H a xs) : ∃ its : List Value, Vals xs its ∧ SrcAt t s.heap a its.toArray := by
  cases t with
  | true => obtain ⟨its, rv, p, _⟩ := I.tuple h; exact ⟨its, rv, p⟩
  | false => obtain ⟨its, rv, p, _⟩ := I.list h; exact ⟨its, rv, p.isList⟩
theorem Inv.src_inj {X : Cx} {pins : List (Addr × Obj)} {σ : List (Option V)} {H : Hp} {s : Shared} {t : Bool} {a : Addr} {xs ys : List V} (I : Inv X pins σ H s) (h : SqA t X.K H a xs) (h' : SqA t X.K H a ys) : xs = ys := by
  cases t with
  | true => exact I.tuple_inj h h'
  | false => exact I.list_inj h h'
def Itz (K : PySem.W.Frag) (t1 t2 : Bool) (a b : Addr) : It :=
  ⟨fun i H => ∃ xs x ys y, SqA t1 K H a xs ∧ xs[i]? = some x ∧ SqA t2 K H b ys ∧ ys[i]? = some y,
   fun i H v H' => ∃ T x y, (∀ xs, SqA t1 K H a xs → xs[i]? = some x) ∧ (∀ ys, SqA t2 K H b ys → ys[i]? = some y) ∧ H T = none ∧ v = .ref T ∧ H' = upd H T (.tup [x, y]),
   fun i H => ∃ xs ys, SqA t1 K H a xs ∧ SqA t2 K H b ys ∧ (xs.length ≤ i ∨ ys.length ≤ i)⟩
theorem turn_zip {P : Program} {w : World} {K : PySem.W.Frag} {elts : List Expr} {x1} {pos : Pos} {t1 t2 : Bool} {a b z TI TO i1 i2 : Addr} (D : ZipApart z TI TO i1 i2 a b) :
    Turn P w K (.Tuple elts x1 pos) (Itz K t1 t2 a b) [z, TI, TO, i1, i2] z (fun i h => IsZip h z TI TO .none ∧ IsPair h TI (.ref i1) (.ref i2) ∧ (∃ u v, IsPair h TO u v) ∧ ItAt t1 h i1 a i ∧ ItAt t2 h i2 b i) where
  mem := by simp
  obj := by
    rintro i h ⟨hz, hTI, ⟨u, v, hTO⟩, h1, h2⟩ c hc
    simp only [List.mem_cons, List.not_mem_nil, or_false] at hc
    rcases hc with rfl | rfl | rfl | rfl | rfl
    · exact ⟨_, hz, fun v z => by cases z⟩
    · exact ⟨_, hTI, fun v z => by cases z⟩
    · exact ⟨_, hTO, fun v z => by cases z⟩
    · exact h1.obj
    · exact h2.obj
  keep := by
    rintro i h h' ⟨hz, hTI, ⟨u, v, hTO⟩, h1, h2⟩ k
    exact ⟨k z (by simp) _ hz, k TI (by simp) _ hTI, ⟨u, v, k TO (by simp) _ hTO⟩, h1.at fun o e => k i1 (by simp) o e, h2.at fun o e => k i2 (by simp) o e⟩
  item := by
    rintro X hP hw hK hc i pins s σ H E I hf ⟨hz, hTI, ⟨u, v, hTO⟩, h1, h2⟩ ⟨xs, x, ys, y, q1, hx, q2, hy⟩
    subst hP hw hK
    obtain ⟨its1, rv1, p1⟩ := I.src q1
    obtain ⟨its2, rv2, p2⟩ := I.src q2
    obtain ⟨ux, hux, rx⟩ := rv1.get hx
    obtain ⟨uy, huy, ry⟩ := rv2.get hy
    refine zipN_item D hz hTI hTO h1 h2 p1 p2 (x := ux) (y := uy) (by simpa using hux) (by simpa using huy) fun h' a1 a2 a3 a4 a5 a6 a7 => ?_
    have hT : H s.heap.objs.size = none := I.hok.fresh (Nat.le_refl _)
    have I1 : Inv X pins σ (upd H s.heap.objs.size (.tup [x, y])) { s with heap := s.heap.push { cls := .type "tuple", data := .seq [ux, uy].toArray } } :=
      I.laid (t' := s.toks) (fun b o e => Heap.get?_push_of_some _ e) (Nat.le_refl _) (show ObjOk X.prog X.w _ _ _ (.tup [x, y]) from ⟨by show 2 ≤ sizeLine; decide, [ux, uy], .cons rx (.cons ry .nil), IsTup.new _ _⟩)
    have hlt : ∀ c ∈ [z, TI, TO, i1, i2], c < s.heap.objs.size := by
      intro c hc
      simp only [List.mem_cons, List.not_mem_nil, or_false] at hc
      rcases hc with rfl | rfl | rfl | rfl | rfl
      · exact Heap.lt_size hz
      · exact Heap.lt_size hTI
      · exact Heap.lt_size hTO
      · obtain ⟨o, e, _⟩ := h1.obj; exact Heap.lt_size e
      · obtain ⟨o, e, _⟩ := h2.obj; exact Heap.lt_size e
    have hf' : ∀ c ∈ [z, TI, TO, i1, i2], FpOk X pins (upd H s.heap.objs.size (.tup [x, y])) c := fun c hc => by
      obtain ⟨f0, fr⟩ := hf c hc
      exact ⟨by rw [upd_ne (Nat.ne_of_lt (hlt c hc))]; exact f0, fr⟩
    have kept : ∀ c o, c ∉ [z, TI, TO, i1, i2] → (s.heap.push { cls := .type "tuple", data := .seq [ux, uy].toArray }).get? c = some o → h'.get? c = some o := by
      intro c o hc e
      have hc' : c ≠ z ∧ c ≠ TI ∧ c ≠ TO ∧ c ≠ i1 ∧ c ≠ i2 := by simpa using hc
      by_cases hn : c = s.heap.objs.size
      · subst hn
        have e0 : (s.heap.push { cls := .type "tuple", data := .seq [ux, uy].toArray }).get? s.heap.objs.size = some { cls := .type "tuple", data := .seq [ux, uy].toArray } := Heap.get?_push_size _ rfl
        rw [e0] at e
        cases e
        exact a5
      · have e1 : s.heap.get? c = some o := by
          rw [Heap.get?_push_ne _ _ _ hn] at e
          exact e
        exact a7 c o hc'.1 hc'.2.2.1 hc'.2.2.2.1 hc'.2.2.2.2 e1
    have I2 : Inv X pins σ (upd H s.heap.objs.size (.tup [x, y])) { s with heap := h' } := I1.turnedL (t' := s.toks) kept hf'
    refine ⟨_, rfl, ?_⟩
    refine wpAny_letOwnedTupleGo_zip a1 fun h2' hz2 hs2 => ?_
    have I3 : Inv X pins σ (upd H s.heap.objs.size (.tup [x, y])) { s with heap := h2' } := Inv.turnedL (s := { s with heap := h' }) (h' := h2') (t' := s.toks) (fp := [z, TI, TO, i1, i2]) I2 (fun c o hc e => hs2.extBut _ _ (fun q => hc (by simp [q])) e) hf'
    refine ⟨.ref s.heap.objs.size, _, I3, rfl, ⟨_, x, y, fun zs hq => by rw [I.src_inj hq q1]; exact hx, fun zs hq => by rw [I.src_inj hq q2]; exact hy, hT, rfl, rfl⟩, ?_, fun c hc => (hf' c hc).1⟩
    exact ⟨hz2, hs2.extBut _ _ D.TIz (a7 _ _ D.TIz D.TITO D.TIi1 D.TIi2 hTI), ⟨_, _, hs2.extBut _ _ D.TOz a2⟩, a3.at fun o e => hs2.extBut _ _ D.i1z e, a4.at fun o e => hs2.extBut _ _ D.i2z e⟩
  done := by
    rintro X hP hw hK hc i pins s σ H E I hf ⟨hz, hTI, ⟨u, v, hTO⟩, h1, h2⟩ ⟨xs, ys, q1, q2, hend⟩
    subst hP hw hK
    obtain ⟨its1, rv1, p1⟩ := I.src q1
    obtain ⟨its2, rv2, p2⟩ := I.src q2
    have l1 := rv1.length
    have l2 := rv2.length
    refine zipN_end (I.ok.hd hc) D hz hTI hTO h1 h2 p1 p2 (by simp; omega) fun h' hk => ⟨rfl, I.turnedL (t' := s.toks) (fp := [z, TI, TO, i1, i2]) (fun c o hc e => ?_) hf⟩
    have hc' : c ≠ z ∧ c ≠ TI ∧ c ≠ TO ∧ c ≠ i1 ∧ c ≠ i2 := by simpa using hc
    exact hk c o hc'.1 hc'.2.2.1 hc'.2.2.2.1 hc'.2.2.2.2 e
  self := fun _ _ _ _ _ st h => wpAny_pyIter_zip st.1 h

section
variable {X : Cx} {K : PySem.W.Frag}
def iZip (K : PySem.W.Frag) (ta : TA) : TI := fun σ H R => ta σ H fun vs H1 => match vs with
  | [.ref a, .ref b] => ∃ t1 t2, (∃ xs, SqA t1 K H1 a xs) ∧ (∃ ys, SqA t2 K H1 b ys) ∧ R (Itz K t1 t2 a b) H1
  | _ => False
theorem pi_zip {a b : Expr} {ta : TA} {p pos : Pos} {elts : List Expr} {x1} {pos' : Pos} (hg : Gl X "zip") (hm : X.mg "zip" = none) (ha : PA X [a, b] ta) (hK : X.K = K := by rfl) (hs : starEach [a, b] X.env = [(false, eval a X.env), (false, eval b X.env)] := by rfl) (hs2 : starEach [b] X.env = [(false, eval b X.env)] := by rfl) :
    PI X (.Tuple elts x1 pos') (.Call (.Name "zip" p) [a, b] [] pos) (iZip K ta) := by
  subst hK
  intro pins s σ H R I h
  refine Call_ (ld_blt I hg hm boot_zip (PyProof.Rows.callWith_type1 (thn (ha pos pins s σ H _ I h) fun us s1 ⟨vs, H1, I1, r1, q1⟩ => ?_) (by rw [hs, hs2]) (by rw [hs2]; rfl)))
  dsimp only at q1
  split at q1
  · obtain ⟨u, u', rfl, r, r'⟩ := vals2 r1
    cases r
    cases r'
    obtain ⟨t1, t2, ⟨xs, hx⟩, ⟨ys, hy⟩, q⟩ := q1
    obtain ⟨its1, rv1, p1⟩ := I1.src hx
    obtain ⟨its2, rv2, p2⟩ := I1.src hy
    refine call_zip p1 p2 fun h' hz hTI hTO h1 h2 hk => ?_
    refine wpAny_pyIter_zip hz ?_
    refine ⟨_, [s1.heap.objs.size + 4, s1.heap.objs.size + 2, s1.heap.objs.size + 3, s1.heap.objs.size, s1.heap.objs.size + 1], _, _, H1, rfl, I1.kept (t' := s1.toks) hk, turn_zip (zipApart_new p1.lt p2.lt), ⟨hz, hTI, ⟨_, _, hTO⟩, h1, h2⟩, fun c hc => ?_, q⟩
    have hge : s1.heap.objs.size ≤ c := by
      simp only [List.mem_cons, List.not_mem_nil, or_false] at hc
      rcases hc with rfl | rfl | rfl | rfl | rfl
      · exact Nat.le_add_right _ 4
      · exact Nat.le_add_right _ 2
      · exact Nat.le_add_right _ 3
      · exact Nat.le_refl _
      · exact Nat.le_add_right _ 1
    exact I1.fpOk hge (I1.hok.fresh hge)
  · exact q1.elim
theorem ji_zip {a b : Expr} {ta : TA} {p pos : Pos} {elts : List Expr} {x1} {pos' : Pos} (hg : Gl X "zip") (hm : X.mg "zip" = none) (ha : JA X [a, b] ta) (hK : X.K = K := by rfl) (h1 : noStar a = true := by rfl) (h2 : noStar b = true := by rfl) :
    JI X (.Tuple elts x1 pos') (.Call (.Name "zip" p) [a, b] [] pos) (iZip K ta) := .mk (pi_zip hg hm ha.out hK (by rw [starEach_cons h1, starEach_cons h2]; rfl) (by rw [starEach_cons h2]; rfl))
end
theorem for_zip {K : PySem.W.Frag} {t1 t2 : Bool} {a b : Addr} {xs ys : List V} {g : TG} {tb : TS} {D : Ends} {σ : St} {H : Hp} (Pv : Nat → St → Hp → Prop) (h0 : Pv 0 σ H) (hle : xs.length = ys.length)
    (hl : ∀ i σ H, i ≤ xs.length → Pv i σ H → SqA t1 K H a xs ∧ SqA t2 K H b ys)
    (hs : ∀ i x y σ H, xs[i]? = some x → ys[i]? = some y → Pv i σ H → ∀ T, H T = none → g (.ref T) σ (upd H T (.tup [x, y])) fun σ2 H2 => tb { D with nx := Pv (i + 1), ct := Pv (i + 1), bk := D.nx } σ2 H2) (hd : ∀ σ H, Pv xs.length σ H → D.nx σ H) :
    ∃ W : Nat → Nat → St → Hp → Prop, (∃ m, W 0 m σ H) ∧ ∀ i m σ H, W i m σ H →
      ((Itz K t1 t2 a b).stop i H ∧ D.nx σ H) ∨ ((Itz K t1 t2 a b).go i H ∧ ∃ N : St → Hp → Prop, (∀ σ' H', N σ' H' → ∃ m', m' < m ∧ W (i + 1) m' σ' H') ∧ ∀ x H', (Itz K t1 t2 a b).yld i H x H' → g x σ H' fun σ2 H2 => tb { D with nx := N, ct := N, bk := D.nx } σ2 H2) := by
  refine ⟨fun i m σ H => m = xs.length - i ∧ i ≤ xs.length ∧ Pv i σ H, ⟨xs.length, by simp, Nat.zero_le _, h0⟩, ?_⟩
  rintro i m σ H ⟨rfl, hi, p⟩
  obtain ⟨q1, q2⟩ := hl i σ H hi p
  by_cases hlt : i < xs.length
  · have hlt2 : i < ys.length := by omega
    refine .inr ⟨⟨xs, xs[i], ys, ys[i], q1, by simp [hlt], q2, by simp [hlt2]⟩, Pv (i + 1), fun σ' H' p' => ⟨xs.length - (i + 1), by omega, rfl, hlt, p'⟩, fun v H' y => ?_⟩
    obtain ⟨T, x, y, e1, e2, hT, rfl, rfl⟩ := y
    exact hs i x y σ H (e1 xs q1) (e2 ys q2) p T hT
  · have e : i = xs.length := by omega
    subst e
    exact .inl ⟨⟨xs, ys, q1, q2, .inl (Nat.le_refl _)⟩, hd σ H p⟩
end L2

namespace Rg

def splitOn (c : Nat) : List Nat → List (List Nat)
  | [] => [[]]
  | x :: r => if x = c then [] :: splitOn c r else match splitOn c r with
    | [] => [[x]]
    | p :: ps => (x :: p) :: ps
def joinWith (sep : List Nat) : List (List Nat) → List Nat
  | [] => []
  | [p] => p
  | p :: q :: r => p ++ sep ++ joinWith sep (q :: r)
theorem splitOn_ne (c : Nat) (l : List Nat) : splitOn c l ≠ [] := by
  cases l with
  | nil => simp [splitOn]
  | cons x r =>
    unfold splitOn
    split
    · simp
    · split <;> simp
theorem splitOn_none {c : Nat} : ∀ {l : List Nat}, c ∉ l → splitOn c l = [l]
  | [], _ => rfl
  | x :: r, h => by
    have hx : x ≠ c := fun e => h (by simp [e])
    have hr : c ∉ r := fun m => h (List.mem_cons_of_mem _ m)
    unfold splitOn
    rw [if_neg hx, splitOn_none hr]
theorem splitOn_append {c : Nat} : ∀ {p : List Nat} {l : List Nat}, c ∉ p → splitOn c (p ++ c :: l) = p :: splitOn c l
  | [], l, _ => by simp [splitOn]
  | x :: p, l, h => by
    have hx : x ≠ c := fun e => h (by simp [e])
    have hr : c ∉ p := fun m => h (List.mem_cons_of_mem _ m)
    show (if x = c then [] :: splitOn c (p ++ c :: l) else match splitOn c (p ++ c :: l) with | [] => [[x]] | q :: qs => (x :: q) :: qs) = _
    rw [if_neg hx, splitOn_append hr]
theorem splitOn_join {c : Nat} : ∀ {ps : List (List Nat)}, ps ≠ [] → (∀ p ∈ ps, c ∉ p) → splitOn c (joinWith [c] ps) = ps
  | [], h, _ => absurd rfl h
  | [p], _, h => by
    unfold joinWith
    exact splitOn_none (h p (by simp))
  | p :: q :: r, _, h => by
    unfold joinWith
    rw [List.append_assoc]
    show splitOn c (p ++ c :: joinWith [c] (q :: r)) = _
    rw [splitOn_append (h p (by simp)), splitOn_join (by simp) fun x hx => h x (List.mem_cons_of_mem _ hx)]
theorem splitOn_unique {c : Nat} {l : List Nat} {ps : List (List Nat)} (h0 : ps ≠ []) (h1 : ∀ p ∈ ps, c ∉ p) (h2 : joinWith [c] ps = l) : ps = splitOn c l := by
  rw [← h2, splitOn_join h0 h1]

def enc1 (c : Nat) : List Nat := if c = 32 then [126, 98] else if c = 10 then [126, 110] else if c = 126 then [126, 116] else [c]
def enc (l : List Nat) : List Nat := l.flatMap enc1
def small : List Nat := (List.range 26).map (· + 97)
def great : List Nat := (List.range 26).map (· + 65)
def figs : List Nat := (List.range 10).map (· + 48)
def meant (c : Nat) : Option (List Nat) :=
  if c = 98 then some [32] else if c = 110 then some [10] else if c = 116 then some [126] else if c = 97 then some small else if c = 65 then some great else if c = 48 then some figs else none
def decGo : List (List Nat) → Option (List Nat)
  | [] => some []
  | [] :: _ => none
  | (c :: r) :: ps => match meant c with
    | none => none
    | some m => (decGo ps).map fun t => m ++ r ++ t
def dec (l : List Nat) : Option (List Nat) := match splitOn 126 l with
  | [] => none
  | p :: ps => (decGo ps).map (p ++ ·)
theorem enc_cons (c : Nat) (l : List Nat) : enc (c :: l) = enc1 c ++ enc l := by simp [enc]
theorem dec_plain {c : Nat} (h : c ≠ 126) (l : List Nat) : dec (c :: l) = (dec l).map (c :: ·) := by
  unfold dec
  show (match (if c = 126 then [] :: splitOn 126 l else match splitOn 126 l with | [] => [[c]] | p :: ps => (c :: p) :: ps) with | [] => none | p :: ps => (decGo ps).map (p ++ ·)) = _
  rw [if_neg h]
  cases e : splitOn 126 l with
  | nil => exact absurd e (splitOn_ne _ _)
  | cons p ps =>
    dsimp only
    cases decGo ps <;> rfl
theorem dec_code {x : Nat} {m : List Nat} (hx : x ≠ 126) (hm : meant x = some m) (l : List Nat) : dec (126 :: x :: l) = (dec l).map (m ++ ·) := by
  unfold dec
  have e0 : splitOn 126 (126 :: x :: l) = [] :: splitOn 126 (x :: l) := by
    show (if 126 = 126 then [] :: splitOn 126 (x :: l) else _) = _
    rw [if_pos rfl]
  rw [e0]
  dsimp only
  show Option.map _ (decGo (if x = 126 then [] :: splitOn 126 l else match splitOn 126 l with | [] => [[x]] | p :: ps => (x :: p) :: ps)) = _
  rw [if_neg hx]
  cases e : splitOn 126 l with
  | nil => exact absurd e (splitOn_ne _ _)
  | cons p ps =>
    dsimp only
    show Option.map _ (match meant x with | none => none | some m => (decGo ps).map fun t => m ++ p ++ t) = _
    rw [hm]
    dsimp only
    cases decGo ps with
    | none => rfl
    | some t => simp
theorem dec_enc : ∀ l : List Nat, dec (enc l) = some l
  | [] => by decide
  | c :: l => by
    have ih := dec_enc l
    rw [enc_cons]
    unfold enc1
    by_cases h1 : c = 32
    · rw [if_pos h1]
      show dec (126 :: 98 :: enc l) = _
      rw [dec_code (m := [32]) (by decide) (by decide), ih, h1]; rfl
    · rw [if_neg h1]
      by_cases h2 : c = 10
      · rw [if_pos h2]
        show dec (126 :: 110 :: enc l) = _
        rw [dec_code (m := [10]) (by decide) (by decide), ih, h2]; rfl
      · rw [if_neg h2]
        by_cases h3 : c = 126
        · rw [if_pos h3]
          show dec (126 :: 116 :: enc l) = _
          rw [dec_code (m := [126]) (by decide) (by decide), ih, h3]; rfl
        · rw [if_neg h3]
          show dec (c :: enc l) = _
          rw [dec_plain h3, ih]; rfl
def okSign (c : Nat) : Prop := (32 ≤ c ∧ c ≤ 126 ∧ c ≠ 37) ∨ c = 10
def wr (c : Nat) : Prop := 32 ≤ c ∧ c ≤ 126 ∧ c ≠ 37
end Rg

set_option linter.all false
namespace Rg
open PySem PySem.Builtin PySem.Builtin.Str

abbrev S (l : List Nat) : Str := ⟨l.toArray⟩
theorem S_inj {a b : List Nat} (h : S a = S b) : a = b := by
  have : (S a).cps.toList = (S b).cps.toList := by rw [h]
  simpa using this
theorem S_of (x : Str) : x = S x.cps.toList := by cases x; simp [S]
theorem S_app (a b : List Nat) : S a ++ S b = S (a ++ b) := Str.ext' (by rw [Str.cps_append]; simp)
theorem S_len (a : List Nat) : (S a).length = a.length := by simp [Str.length]
theorem join_S (sep : List Nat) : ∀ ps : List (List Nat), Str.join (S sep) (ps.map S) = S (joinWith sep ps)
  | [] => rfl
  | [p] => rfl
  | p :: q :: r => by
    show S p ++ S sep ++ Str.join (S sep) ((q :: r).map S) = _
    rw [join_S sep (q :: r), S_app, S_app]
    rfl
theorem txtJoin_S (sep : List Nat) (ps : List (List Nat)) : Txt.join (S sep) (ps.map S) = S (joinWith sep ps) := by
  unfold Txt.join
  rw [StrLaws.glued_eq_join, join_S]

theorem occ_all (x : Str) (c : Nat) (limit : Nat) : ∀ (l : List Nat) (st : Array Nat × Nat), (∀ i ∈ l, st.snd ≤ i) → l.Pairwise (· < ·) → st.fst.size + l.length < limit + 1 →
    ∀ i, (i ∈ st.fst.toList ∨ (i ∈ l ∧ StrLaws.At x (S [c]) x.length i)) → i ∈ (forIn l st (StrLaws.occBody x (S [c]) x.length limit)).run.fst.toList
  | [], st, _, _, _, i, h => by
    rcases h with h | h
    · exact h
    · exact absurd h.1 (by simp)
  | a :: l, st, hle, hp, hsz, i, h => by
    obtain ⟨hp1, hp2⟩ := List.pairwise_cons.mp hp
    rw [List.forIn_cons]
    unfold StrLaws.occBody
    by_cases hc : ((st.fst.size < limit ∧ st.snd ≤ a) ∧ a + (S [c]).length ≤ x.length) ∧ subAt x (S [c]) a = true
    · rw [if_pos hc]
      refine occ_all x c limit l _ (fun j hj => ?_) hp2 ?_ i ?_
      · have := hp1 j hj
        show a + (S [c]).length ≤ j
        rw [S_len]
        simp
        omega
      · show (st.fst.push a).size + l.length < limit + 1
        rw [Array.size_push]
        rw [List.length_cons] at hsz
        omega
      · show i ∈ (st.fst.push a).toList ∨ _
        rw [Array.toList_push]
        rcases h with h | ⟨h1, h2⟩
        · exact .inl (List.mem_append_left _ h)
        · rcases List.mem_cons.mp h1 with e | e
          · exact .inl (List.mem_append_right _ (by simp [e]))
          · exact .inr ⟨e, h2⟩
    · rw [if_neg hc]
      refine occ_all x c limit l _ (fun j hj => hle j (List.mem_cons_of_mem _ hj)) hp2 ?_ i ?_
      · show st.fst.size + l.length < limit + 1
        rw [List.length_cons] at hsz
        omega
      · rcases h with h | ⟨h1, h2⟩
        · exact .inl h
        · rcases List.mem_cons.mp h1 with e | e
          · subst e
            refine absurd ⟨⟨⟨?_, hle i List.mem_cons_self⟩, h2.1⟩, h2.2⟩ hc
            rw [List.length_cons] at hsz
            omega
          · exact .inr ⟨e, h2⟩

theorem at_iff (x : Str) (c i : Nat) : StrLaws.At x (S [c]) x.length i ↔ x.cps.toList[i]? = some c := by
  unfold StrLaws.At
  rw [StrLaws.subAt_eq, S_len]
  simp only [List.length_singleton]
  have hl : x.cps.toList.length = x.length := by simp [Str.length]
  constructor
  · rintro ⟨h1, h2⟩
    have e := eq_of_beq h2
    have hi : i < x.cps.toList.length := by omega
    rw [List.drop_eq_getElem_cons hi] at e
    simp at e
    rw [List.getElem?_eq_getElem hi]
    simp [e]
  · intro h
    obtain ⟨hi, e⟩ := List.getElem?_eq_some_iff.mp h
    refine ⟨by omega, ?_⟩
    rw [List.drop_eq_getElem_cons hi, e]
    simp

theorem occ_mem (x : Str) (c i : Nat) (h : x.cps.toList[i]? = some c) : i ∈ occurrences x (S [c]) 0 x.length (x.length + 1) := by
  rw [StrLaws.occ_eq]
  have hi : i < x.length := by
    obtain ⟨hi, _⟩ := List.getElem?_eq_some_iff.mp h
    simpa [Str.length] using hi
  refine occ_all x c (x.length + 1) _ (#[], 0) (fun j _ => Nat.zero_le _) List.pairwise_lt_range' ?_ i (.inr ⟨?_, (at_iff x c i).mpr h⟩)
  · rw [List.length_range']
    simp
  · rw [List.mem_range']
    exact ⟨i, by omega, by omega⟩

theorem partsFrom_free (x : Str) (c : Nat) : ∀ (cuts : List Nat) (a f : Nat), StrLaws.ChainTo x (S [c]) x.length a cuts f → (∀ i, a ≤ i → x.cps.toList[i]? = some c → i ∈ cuts) → cuts.Pairwise (· < ·) →
    ∀ p ∈ StrLaws.partsFrom x 1 a cuts, c ∉ p.cps.toList
  | [], a, f, _, hall, _, p, hp => by
    have hp' : p = strSub x a x.length := by simpa [StrLaws.partsFrom] using hp
    subst hp'
    rw [StrLaws.strSub_toList]
    intro m
    obtain ⟨k, hk, e⟩ := List.getElem_of_mem m
    have h2 : (x.cps.toList.drop a)[k]? = some c := by
      rw [List.getElem_take] at e
      rw [List.getElem?_eq_getElem (by rw [List.length_take] at hk; omega), e]
    rw [List.getElem?_drop] at h2
    exact absurd (hall (a + k) (by omega) h2) (by simp)
  | b :: r, a, f, h, hall, hp, p, hm => by
    obtain ⟨h1, h2, h3⟩ := h
    obtain ⟨hp1, hp2⟩ := List.pairwise_cons.mp hp
    have hm' : p = strSub x a b ∨ p ∈ StrLaws.partsFrom x 1 (b + 1) r := by simpa [StrLaws.partsFrom] using hm
    rcases hm' with e | e
    · subst e
      rw [StrLaws.strSub_toList]
      intro m
      obtain ⟨k, hk, e⟩ := List.getElem_of_mem m
      have hk' : k < b - a := by rw [List.length_take] at hk; omega
      have h4 : (x.cps.toList.drop a)[k]? = some c := by
        rw [List.getElem_take] at e
        rw [List.getElem?_eq_getElem (by rw [List.length_take] at hk; omega), e]
      rw [List.getElem?_drop] at h4
      rcases List.mem_cons.mp (hall (a + k) (by omega) h4) with z | z
      · omega
      · have := hp1 _ z
        omega
    · refine partsFrom_free x c r (b + 1) f ?_ (fun i hi hc => ?_) hp2 p e
      · have e1 : (S [c]).length = 1 := S_len [c]
        rw [e1] at h3
        exact h3
      · rcases List.mem_cons.mp (hall i (by omega) hc) with z | z
        · omega
        · exact z
theorem chain_sorted (x : Str) (c : Nat) : ∀ (cuts : List Nat) (a f : Nat), StrLaws.ChainTo x (S [c]) x.length a cuts f → cuts.Pairwise (· < ·) ∧ ∀ i ∈ cuts, a ≤ i
  | [], _, _, _ => ⟨.nil, by simp⟩
  | b :: r, a, f, h => by
    obtain ⟨h1, _, h3⟩ := h
    have e1 : (S [c]).length = 1 := S_len [c]
    rw [e1] at h3
    obtain ⟨p, q⟩ := chain_sorted x c r _ f h3
    refine ⟨List.pairwise_cons.mpr ⟨fun i hi => ?_, p⟩, fun i hi => ?_⟩
    · have := q i hi
      omega
    · rcases List.mem_cons.mp hi with e | e
      · omega
      · have := q i e
        omega
theorem split_S (l : List Nat) (c : Nat) (hc : c < 256) : Txt.split (S l) (S [c]) = (splitOn c l).map S := by
  have one : c ∉ l → [S l] = (splitOn c l).map S := fun h => by rw [splitOn_none h]; rfl
  have big : ∀ ts : List Str, ts ≠ [] → (∀ t ∈ ts, c ∉ t.cps.toList) → Str.join (S [c]) ts = S l → ts = (splitOn c l).map S := fun ts h0 h1 h2 => by
    have e : ts = (ts.map fun t => t.cps.toList).map S := by
      rw [List.map_map]
      conv => lhs; rw [← List.map_id ts]
      exact List.map_congr_left fun t _ => S_of t
    have e2 : joinWith [c] (ts.map fun t => t.cps.toList) = l := by
      rw [e, join_S] at h2
      exact S_inj h2
    rw [e, ← splitOn_unique (by simpa using h0) (fun p hp => by
      obtain ⟨t, ht, rfl⟩ := List.mem_map.mp hp
      exact h1 t ht) e2]
  unfold Txt.split
  split
  · rename_i h
    refine one fun m => ?_
    rw [Bool.or_eq_true, decide_eq_true_iff, decide_eq_true_iff, S_len, S_len] at h
    rcases h with h | h
    · cases l with
      | nil => simp at m
      | cons _ _ => simp at h
    · have : PySem.Builtin.Str.strKind (S [c]) = 1 := by simp [PySem.Builtin.Str.strKind, hc]
      rw [this] at h
      unfold PySem.Builtin.Str.strKind at h
      split at h <;> (try split at h) <;> omega
  · split
    · rename_i h
      refine one fun m => ?_
      obtain ⟨i, hi, e⟩ := List.getElem_of_mem m
      have := occ_mem (S l) c i (by simp [hi, e])
      rw [List.isEmpty_iff] at h
      rw [h] at this
      simp at this
    · refine big _ ?_ ?_ ?_
      · rw [StrLaws.partsBetween_eq]
        obtain ⟨p, r, e⟩ := StrLaws.partsFrom_ne (S l) (S [c]).length 0 (occurrences (S l) (S [c]) 0 (S l).length ((S l).length + 1))
        rw [e]
        simp
      · obtain ⟨f, h⟩ := StrLaws.occ_chain (S l) (S [c]) ((S l).length + 1)
        rw [StrLaws.partsBetween_eq, S_len [c]]
        exact partsFrom_free (S l) c _ 0 f h (fun i _ hi => occ_mem (S l) c i hi) (chain_sorted (S l) c _ 0 f h).1
      · obtain ⟨f, h⟩ := StrLaws.occ_chain (S l) (S [c]) ((S l).length + 1)
        rw [StrLaws.partsBetween_eq, StrLaws.join_partsFrom (S l) (S [c]) _ 0 f h, StrLaws.sub_whole]
def clipN (n : Nat) (d : Nat) : Option Int → Nat
  | none => d
  | some i => if i < 0 then (i + n).toNat else min i.toNat n
theorem sliceIdx (lo hi : Option Int) (n : Nat) : strSliceIndices lo hi 1 n = (List.range (clipN n n hi - clipN n 0 lo)).map (fun k => clipN n 0 lo + k) := by
  have clip : ∀ (v : Option Int) (d : Nat), (match v with | none => ((d : Nat) : Int) | some i => let i := if i < 0 then i + (n : Int) else i; if (1 : Int) > 0 then max 0 (min i n) else max (-1) (min i (n - 1))) = (clipN n d v : Int) := by
    intro v d
    cases v with
    | none => rfl
    | some i =>
      unfold clipN
      dsimp only
      rw [if_pos (by decide)]
      by_cases h : i < 0
      · rw [if_pos h, if_pos h]; omega
      · rw [if_neg h, if_neg h]; omega
  have e : strSliceIndices lo hi 1 n = sliceRange (clipN n 0 lo : Int) (clipN n n hi : Int) 1 := by
    rw [← clip lo 0, ← clip hi n]
    unfold strSliceIndices
    cases lo <;> cases hi <;> rfl
  rw [e]
  unfold sliceRange
  dsimp only
  rw [if_pos (by decide)]
  by_cases hlt : ((clipN n 0 lo : Nat) : Int) < (clipN n n hi : Int)
  · rw [if_pos hlt]
    have e3 : ((((clipN n n hi : Nat) : Int) - (clipN n 0 lo : Nat) + 1 - 1) / 1).toNat = clipN n n hi - clipN n 0 lo := by
      rw [Int.ediv_one]; omega
    rw [e3]
    refine List.map_congr_left fun k _ => ?_
    omega
  · rw [if_neg hlt]
    have : clipN n n hi - clipN n 0 lo = 0 := by omega
    rw [this]
    simp
theorem clipN_le {n d : Nat} (hd : d ≤ n) (v : Option Int) : clipN n d v ≤ n := by
  cases v with
  | none => exact hd
  | some i => unfold clipN; dsimp only; split <;> omega
def cut (l : List Nat) (lo hi : Option Int) : List Nat := (l.drop (clipN l.length 0 lo)).take (clipN l.length l.length hi - clipN l.length 0 lo)
theorem slice_S (l : List Nat) (lo hi : Option Int) : Txt.slice (S l) lo hi = S (cut l lo hi) := by
  have h1 := clipN_le (Nat.zero_le l.length) lo
  have h2 := clipN_le (Nat.le_refl l.length) hi
  have hp : (strSliceIndices lo hi 1 (S l).length).filterMap ((S l).cps[·]?) = cut l lo hi := by
    rw [S_len, sliceIdx]
    unfold cut
    by_cases h : clipN l.length 0 lo ≤ clipN l.length l.length hi
    · have := StrLaws.picks l (clipN l.length l.length hi - clipN l.length 0 lo) (clipN l.length 0 lo) (by omega)
      simpa using this
    · have e : clipN l.length l.length hi - clipN l.length 0 lo = 0 := by omega
      rw [e]
      simp
  unfold Txt.slice
  split
  · rename_i h
    have h3 : (strSliceIndices lo hi 1 (S l).length).length = (S l).length := by simpa using h
    rw [S_len, sliceIdx, List.length_map, List.length_range] at h3
    have e1 : clipN l.length 0 lo = 0 := by omega
    have e2 : clipN l.length l.length hi = l.length := by omega
    unfold cut
    rw [e1, e2]
    simp
  · rw [hp]
theorem clipN_nat (n d a : Nat) : clipN n d (some (a : Int)) = min a n := by
  unfold clipN
  dsimp only
  rw [if_neg (by omega), Int.toNat_natCast]
theorem clipN_none (n d : Nat) : clipN n d none = d := rfl
theorem cut_some (l : List Nat) (a b : Nat) : cut l (some (a : Int)) (some (b : Int)) = (l.drop a).take (b - a) := by
  unfold cut
  rw [clipN_nat, clipN_nat]
  by_cases h : a ≤ l.length
  · have e : min a l.length = a := by omega
    rw [e]
    by_cases h2 : b ≤ l.length
    · rw [show min b l.length = b by omega]
    · rw [show min b l.length = l.length by omega, List.take_of_length_le (by simp), List.take_of_length_le (by simp; omega)]
  · rw [List.drop_eq_nil_of_le (by omega : l.length ≤ a), List.drop_eq_nil_of_le (by omega : l.length ≤ min a l.length)]
    simp
theorem cut_from (l : List Nat) (a : Nat) : cut l (some (a : Int)) none = l.drop a := by
  unfold cut
  rw [clipN_nat, clipN_none]
  by_cases h : a ≤ l.length
  · rw [show min a l.length = a by omega]
    exact List.take_of_length_le (by simp)
  · rw [List.drop_eq_nil_of_le (by omega : l.length ≤ a), List.drop_eq_nil_of_le (by omega : l.length ≤ min a l.length)]
    simp
theorem cut_to (l : List Nat) (b : Nat) : cut l none (some (b : Int)) = l.take b := by
  unfold cut
  rw [clipN_nat, clipN_none, List.drop_zero, Nat.sub_zero]
  by_cases h : b ≤ l.length
  · rw [show min b l.length = b by omega]
  · rw [show min b l.length = l.length by omega, List.take_of_length_le (Nat.le_refl _), List.take_of_length_le (by omega)]
end Rg

set_option Elab.async false
set_option linter.all false
set_option maxRecDepth 100000
set_option maxHeartbeats 4000000
namespace L2
open PySem PySem.Spec PyProof.Rows

def lamArgs (e : Expr) : Arguments := match e with
  | .Lambda a _ _ _ => a
  | _ => { posonlyargs := [], args := [], vararg := none, kwonlyargs := [], kw_defaults := [], kwarg := none, defaults := [] }
def lamBody (e : Expr) : Expr := match e with
  | .Lambda _ b _ _ => b
  | _ => e
def lamScope (e : Expr) : Scope := match e with
  | .Lambda _ _ sc _ => sc
  | _ => { kind := .function, names := [], isGenerator := false, isCoroutine := false }
structure MadeL (H : Hp) (f : Addr) (qual : Str) (le : Expr) (cl : List (Str × Addr)) : Prop where
  ex : ∃ (pm : Value) (c' : Addr) (ctv : Value) (oc : Obj) (vs : Array Value) (t : Tok), Kn H f (PySem.W.kla_obj "<lambda>" qual (lamArgs le) (lamBody le) (lamScope le) cl pm c' ctv) ∧ Kn H c' oc ∧ oc.data = .fields vs ∧ vs[1]? = some (.str qual t)
structure CloAtL (H : Hp) (f : Addr) (qual : Str) (le : Expr) (fr : List Str) (cs : List Addr) (ws : List V) : Prop where
  ex : ∃ cl, MadeL H f qual le cl ∧ (∀ x c, cl.lookup x = some c → ∃ j : Nat, fr[j]? = some x ∧ cs[j]? = some c) ∧ ∀ (j : Nat) x, fr[j]? = some x → ∃ c, cl.lookup x = some c ∧ cs[j]? = some c
  cells : ∀ (j : Nat) x, ws[j]? = some x → ∃ c o u, cs[j]? = some c ∧ Kn H c o ∧ o.data = .cell (some u) ∧ RelV x u
  l1 : cs.length = fr.length
  l2 : ws.length = fr.length
  nd : cs.Nodup
theorem CloAtL.same {H H' : Hp} {f : Addr} {qual : Str} {le : Expr} {fr : List Str} {cs : List Addr} {ws : List V} (C : CloAtL H f qual le fr cs ws) (h : ∀ b o, Kn H b o → Kn H' b o) : CloAtL H' f qual le fr cs ws := by
  obtain ⟨cl, ⟨pm, c', ctv, oc, vs, t, h1, h2, h3, h4⟩, h5, h6⟩ := C.ex
  refine ⟨⟨cl, ⟨pm, c', ctv, oc, vs, t, h _ _ h1, h _ _ h2, h3, h4⟩, h5, h6⟩, fun j x e => ?_, C.l1, C.l2, C.nd⟩
  obtain ⟨c, o, u, q1, q2, q3, q4⟩ := C.cells j x e
  exact ⟨c, o, u, q1, h _ _ q2, q3, q4⟩
theorem CloAtL.fn {H : Hp} {f : Addr} {qual : Str} {le : Expr} {fr : List Str} {cs : List Addr} {ws : List V} (C : CloAtL H f qual le fr cs ws) : ∃ oc od fd sl, Kn H f ⟨oc, od, .func fd, sl⟩ := by
  obtain ⟨cl, ⟨pm, c', ctv, oc, vs, t, h1, _⟩, _⟩ := C.ex
  exact ⟨_, _, _, _, h1⟩
section
variable {X : Cx}
end
end L2

set_option Elab.async false
set_option linter.all false
set_option maxRecDepth 100000
set_option maxHeartbeats 4000000
namespace L2
open PySem PySem.Spec PyProof.Rows
section
variable {X : Cx} {pos : Pos} {K : PySem.W.Frag}
def gSlA (K : PySem.W.Frag) : V → Option Int → Option Int → Hp → VK → Prop := fun x lo hi H Q => match x with
  | .str z => z.length ≤ sizeLine ∧ Q (.str (Txt.slice z lo hi)) H
  | .ref a => (∃ xs, SqL K H a xs ∧ ∀ p, H p = none → Q (.ref p) (upd H p (.lst (cutV xs lo hi)))) ∨ ∃ xs, SqT K H a xs ∧ ¬ (HT.sIx xs.length 0 lo = 0 ∧ HT.sIx xs.length xs.length hi = xs.length) ∧ ∀ p, H p = none → Q (.ref p) (upd H p (.tup (cutV xs lo hi)))
  | _ => False
theorem o_slA (hK : X.K = K := by rfl) : Irr (SlR X (gSlA K)) := by
  refine .mk ?_
  subst hK
  intro pins s σ H x v vl vu lo hi sl Q I rx hs pl pu h
  unfold gSlA at h
  split at h
  · exact sl_str pins s σ H _ v vl vu lo hi sl Q I rx hs pl pu ⟨_, rfl, h.1, h.2⟩
  · rcases h with ⟨xs, h1, h2⟩ | ⟨xs, h1, h2, h3⟩
    · exact sl_list pins s σ H _ v vl vu lo hi sl Q I rx hs pl pu ⟨_, xs, rfl, h1, h2⟩
    · exact sl_tup pins s σ H _ v vl vu lo hi sl Q I rx hs pl pu ⟨_, xs, rfl, h1, h2, h3⟩
  · exact h.elim
theorem j_gstr {x : Str} {v : Str} (hg : Gl X x) (hm : ∃ t, X.mg x = some (.str v t)) (hd : (x == ("__debug__" : Str)) = false := by decide) : JE X (.Name x pos) (tC (.str v)) := by
  obtain ⟨t, h⟩ := hm
  exact j_glob hg h ⟨_, rfl⟩ hd
theorem j_gint {x : Str} {v : Int} (hg : Gl X x) (hm : ∃ t, X.mg x = some (.int v t)) (hd : (x == ("__debug__" : Str)) = false := by decide) : JE X (.Name x pos) (tC (.int v)) := by
  obtain ⟨t, h⟩ := hm
  exact j_glob hg h ⟨_, rfl⟩ hd
end
end L2

set_option Elab.async false
set_option linter.all false
set_option maxRecDepth 100000
set_option maxHeartbeats 4000000
namespace L2
open PySem PySem.Spec PyProof.Rows
section
variable {X : Cx} {a b c e f i o k v value : Expr} {ta tb te td ty tv tx : TE} {K : PySem.W.Frag} {w : World} {pos pos' p2 apos cpos : Pos}
def gInA (K : PySem.W.Frag) (neg : Bool) : R2 := fun x y H Q => match y with
  | .str j => (match x with
    | .str i => Q (.bl (neg ^^ !(Builtin.Str.occurrences j i 0 j.length 1).isEmpty)) H
    | _ => False)
  | .ref p => (∃ xs, (SqL K H p xs ∨ SqT K H p xs) ∧ flatV x = true ∧ xs.all flatV = true ∧ Q (.bl (neg ^^ inV x xs)) H) ∨ ∃ o, DGet H p x o ∧ Q (.bl (neg ^^ o.isSome)) H
  | _ => False
theorem o_inA (hu : X.A.units + 64 < cLine) (hK : X.K = K := by rfl) : Irr (OpR X (compareOp .In) (gInA K false)) := by
  refine .mk ?_
  subst hK
  intro pins s σ H x y v u Q I rx ry h
  cases y with
  | str j => exact og_in rfl pins s σ H x (.str j) v u Q I rx ry h
  | ref p =>
    rcases h with h | ⟨ov, g, q⟩
    · exact og_in rfl pins s σ H x (.ref p) v u Q I rx ry h
    · obtain rfl : u = Value.ref p := ry
      exact d_in (by omega) I g rx fun s3 I3 => ⟨.bl ov.isSome, H, I3, rfl, by simpa using q⟩
  | _ => exact False.elim h
theorem o_notinA (hu : X.A.units + 64 < cLine) (hK : X.K = K := by rfl) : Irr (OpR X (compareOp .NotIn) (gInA K true)) := by
  refine .mk ?_
  subst hK
  intro pins s σ H x y v u Q I rx ry h
  cases y with
  | str j => exact og_notin rfl pins s σ H x (.str j) v u Q I rx ry h
  | ref p =>
    rcases h with h | ⟨ov, g, q⟩
    · exact og_notin rfl pins s σ H x (.ref p) v u Q I rx ry h
    · obtain rfl : u = Value.ref p := ry
      exact d_notIn (by omega) I g rx fun s3 I3 => ⟨.bl (!ov.isSome), H, I3, rfl, by simpa using q⟩
  | _ => exact False.elim h
theorem IsD.kd {H : Hp} {a : Addr} {kvs : List (Key × V)} (e : H a = some (.dK kvs)) : IsD H a := .inl ⟨kvs, .inl e⟩
theorem IsD.tk {H : Hp} {a : Addr} {kvs : List (List Key × V)} (e : H a = some (.dT kvs)) : IsD H a := .inr ⟨kvs, .inl e⟩
def gInt : List V → Hp → VK → Prop := fun xs H Q => match xs with
  | [.int i] => Q (.int i) H
  | [.bl b] => Q (.int (if b then 1 else 0)) H
  | _ => False
theorem c_int : Irr (CallR X (.type "int") gInt) := by
  refine .mk ?_
  intro pins s σ H xs us Q I r h
  unfold gInt at h
  split at h
  · exact call_int1 pins s σ H _ us Q I r (.inl ⟨_, rfl, h⟩)
  · exact call_int1 pins s σ H _ us Q I r (.inr ⟨_, rfl, h⟩)
  · exact h.elim
def gTuple (K : PySem.W.Frag) : List V → Hp → VK → Prop := fun xs H Q => match xs with
  | [.ref p] => ∃ ys, (SqL K H p ys ∧ ∀ l, H l = none → Q (.ref l) (upd H l (.tup ys))) ∨ (SqT K H p ys ∧ Q (.ref p) H)
  | _ => False
theorem c_tuple (hK : X.K = K := by rfl) : Irr (CallR X (.type "tuple") (gTuple K)) := by
  refine .mk ?_
  subst hK
  intro pins s σ H xs us Q I r h
  unfold gTuple at h
  split at h
  · obtain ⟨ys, h⟩ := h
    exact call_tuple_of pins s σ H _ us Q I r ⟨_, ys, rfl, h⟩
  · exact h.elim
end
end L2

set_option Elab.async false
set_option linter.all false
set_option maxRecDepth 100000
set_option maxHeartbeats 4000000
namespace L2
open PySem PySem.Spec PyProof.Rows
section
variable {X : Cx} {K : PySem.W.Frag}
end
end L2

set_option Elab.async false
set_option linter.all false
set_option maxRecDepth 100000
set_option maxHeartbeats 4000000
namespace L2
open PySem PySem.Spec PyProof.Rows
def Ite (K : PySem.W.Frag) (a : Addr) : It :=
  ⟨fun i H => ∃ xs x, SqL K H a xs ∧ xs[i]? = some x,
   fun i H v H' => ∃ T x, (∀ xs, SqL K H a xs → xs[i]? = some x) ∧ H T = none ∧ v = .ref T ∧ H' = upd H T (.tup [.int (i : Nat), x]),
   fun i H => ∃ xs, SqL K H a xs ∧ xs.length ≤ i⟩
theorem turn_enum {P : Program} {w : World} {K : PySem.W.Frag} {elts : List Expr} {x1} {pos : Pos} {a e it : Addr} (hne : e ≠ it) :
    Turn P w K (.Tuple elts x1 pos) (Ite K a) [e, it] e (fun i h => (∃ old, IsEnum h e it (i : Nat) old) ∧ h.IsListIter it a i) where
  mem := by simp
  obj := by
    rintro i h ⟨⟨old, he⟩, hi⟩ c hc
    simp only [List.mem_cons, List.not_mem_nil, or_false] at hc
    rcases hc with rfl | rfl
    · exact ⟨_, he, fun v z => by cases z⟩
    · obtain ⟨o, ho, _, d⟩ := hi
      exact ⟨o, ho, fun v z => by rw [d] at z; cases z⟩
  keep := by
    rintro i h h' ⟨⟨old, he⟩, hi⟩ k
    refine ⟨⟨old, k e (by simp) _ he⟩, ?_⟩
    obtain ⟨o, ho, r⟩ := hi
    exact ⟨o, k it (by simp) _ ho, r⟩
  item := by
    rintro X hP hw hK hc i pins s σ H E I hf ⟨⟨old, he⟩, hi⟩ ⟨xs, x, q1, hx⟩
    subst hP hw hK
    obtain ⟨its, rv, p1, _⟩ := I.list q1
    obtain ⟨ux, hux, rx⟩ := rv.get hx
    refine wpAny_pyNext_enum_item he hi p1.isList (x := ux) (by simpa using hux) hne fun h' a1 a2 a3 a4 a5 => ?_
    have hT : H s.heap.objs.size = none := I.hok.fresh (Nat.le_refl _)
    have I1 : Inv X pins σ (upd H s.heap.objs.size (.tup [.int (i : Nat), x])) { s with heap := s.heap.push { cls := .type "tuple", data := .seq [.int (i : Nat) s.toks, ux].toArray }, toks := s.toks + 1 } :=
      I.laid (t' := s.toks + 1) (fun b o q => Heap.get?_push_of_some _ q) (Nat.le_refl _) (show ObjOk X.prog X.w _ _ _ (.tup [.int (i : Nat), x]) from ⟨by show 2 ≤ sizeLine; decide, [.int (i : Nat) s.toks, ux], .cons ⟨_, rfl⟩ (.cons rx .nil), IsTup.new _ _⟩)
    have hlt : ∀ c ∈ [e, it], c < s.heap.objs.size := by
      intro c hc
      simp only [List.mem_cons, List.not_mem_nil, or_false] at hc
      rcases hc with rfl | rfl
      · exact Heap.lt_size he
      · obtain ⟨o, ho, _⟩ := hi; exact Heap.lt_size ho
    have hf' : ∀ c ∈ [e, it], FpOk X pins (upd H s.heap.objs.size (.tup [.int (i : Nat), x])) c := fun c hc => by
      obtain ⟨f0, fr⟩ := hf c hc
      exact ⟨by rw [upd_ne (Nat.ne_of_lt (hlt c hc))]; exact f0, fr⟩
    have kept : ∀ c o, c ∉ [e, it] → (s.heap.push { cls := .type "tuple", data := .seq [.int (i : Nat) s.toks, ux].toArray }).get? c = some o → h'.get? c = some o := by
      intro c o hc q
      have hc' : c ≠ e ∧ c ≠ it := by simpa using hc
      by_cases hn : c = s.heap.objs.size
      · subst hn
        have e0 : (s.heap.push { cls := .type "tuple", data := .seq [.int (i : Nat) s.toks, ux].toArray }).get? s.heap.objs.size = some { cls := .type "tuple", data := .seq [.int (i : Nat) s.toks, ux].toArray } := Heap.get?_push_size _ rfl
        rw [e0] at q
        cases q
        exact a3
      · rw [Heap.get?_push_ne _ _ _ hn] at q
        exact a5 c o hc'.1 hc'.2 q
    have I2 : Inv X pins σ (upd H s.heap.objs.size (.tup [.int (i : Nat), x])) { s with heap := h', toks := s.toks + 1 } := I1.turnedL (t' := s.toks + 1) kept hf'
    refine ⟨_, rfl, ?_⟩
    refine wpAny_letOwnedTupleGo_enum a1 fun h2' he2 hs2 => ?_
    have I3 : Inv X pins σ (upd H s.heap.objs.size (.tup [.int (i : Nat), x])) { s with heap := h2', toks := s.toks + 1 } := Inv.turnedL (s := { s with heap := h', toks := s.toks + 1 }) (h' := h2') (t' := s.toks + 1) (fp := [e, it]) I2 (fun c o hc q => hs2.extBut _ _ (fun z => hc (by simp [z])) q) hf'
    refine ⟨.ref s.heap.objs.size, _, I3, rfl, ⟨_, x, fun zs hq => by rw [I.list_inj hq q1]; exact hx, hT, rfl, rfl⟩, ⟨⟨_, he2⟩, ?_⟩, fun c hc => (hf' c hc).1⟩
    obtain ⟨o, ho, r⟩ := a2
    exact ⟨o, hs2.extBut _ _ hne.symm ho, r⟩
  done := by
    rintro X hP hw hK hc i pins s σ H E I hf ⟨⟨old, he⟩, hi⟩ ⟨xs, q1, hend⟩
    subst hP hw hK
    obtain ⟨its, rv, p1, _⟩ := I.list q1
    have l1 := rv.length
    refine wpAny_pyNext_enum_end (I.ok.hd hc) he hi p1.isList (by simp; omega) fun h' hk => ⟨rfl, I.turnedL (t' := s.toks) (fp := [e, it]) (fun c o hc q => ?_) hf⟩
    have hc' : c ≠ e ∧ c ≠ it := by simpa using hc
    exact hk c o hc'.2 q
  self := fun _ _ _ _ _ st h => by
    obtain ⟨⟨old, he⟩, _⟩ := st
    exact wpAny_pyIter_enum he h
section
variable {X : Cx} {K : PySem.W.Frag}
def iEnum (K : PySem.W.Frag) (ta : TA) : TI := fun σ H R => ta σ H fun vs H1 => match vs with
  | [.ref a] => (∃ xs, SqL K H1 a xs) ∧ R (Ite K a) H1
  | _ => False
theorem pi_enum {a : Expr} {ta : TA} {p pos : Pos} {elts : List Expr} {x1} {pos' : Pos} (hg : Gl X "enumerate") (hm : X.mg "enumerate" = none) (ha : PA X [a] ta) (hK : X.K = K := by rfl) (hs : starEach [a] X.env = [(false, eval a X.env)] := by rfl) :
    PI X (.Tuple elts x1 pos') (.Call (.Name "enumerate" p) [a] [] pos) (iEnum K ta) := by
  subst hK
  intro pins s σ H R I h
  refine Call_ (ld_blt I hg hm boot_enumerate (PyProof.Rows.callWith_type1 (thn (ha pos pins s σ H _ I h) fun us s1 ⟨vs, H1, I1, r1, q1⟩ => ?_) (by rw [hs]; rfl) rfl))
  dsimp only at q1
  split at q1
  · obtain ⟨u, rfl, r⟩ := vals1 r1
    cases r
    obtain ⟨⟨xs, hx⟩, q⟩ := q1
    obtain ⟨its, rv, p1, _⟩ := I1.list hx
    refine call_enumerate_list p1.isList fun h' he hi hz hk => ?_
    refine wpAny_pyIter_enum he ?_
    refine ⟨_, [s1.heap.objs.size + 1, s1.heap.objs.size], _, _, H1, rfl, I1.kept (t' := s1.toks) hk, turn_enum (Nat.succ_ne_self _), ⟨⟨_, he⟩, hi⟩, fun c hc => ?_, q⟩
    have hge : s1.heap.objs.size ≤ c := by
      simp only [List.mem_cons, List.not_mem_nil, or_false] at hc
      rcases hc with rfl | rfl
      · exact Nat.le_succ _
      · exact Nat.le_refl _
    exact I1.fpOk hge (I1.hok.fresh hge)
  · exact q1.elim
theorem ji_enum {a : Expr} {ta : TA} {p pos : Pos} {elts : List Expr} {x1} {pos' : Pos} (hg : Gl X "enumerate") (hm : X.mg "enumerate" = none) (ha : JA X [a] ta) (hK : X.K = K := by rfl) (h1 : noStar a = true := by rfl) :
    JI X (.Tuple elts x1 pos') (.Call (.Name "enumerate" p) [a] [] pos) (iEnum K ta) := .mk (pi_enum hg hm ha.out hK (by rw [starEach_cons h1]; rfl))
def gClear : V → List V → Hp → VK → Prop := fun x vs H Q => match x, vs with
  | .ref l, [] => ∃ xs, H l = some (.lst xs) ∧ Q .non (upd H l (.lst []))
  | _, _ => False
theorem m_clear : Irr (MtR X "list.clear" gClear) := by
  refine .mk ?_
  intro pins s σ H x xs v us Q I rx rs h
  unfold gClear at h
  split at h
  · obtain ⟨xs, h1, h2⟩ := h
    exact mt_clear pins s σ H _ _ v us Q I rx rs ⟨_, xs, rfl, rfl, h1, h2⟩
  · exact h.elim
end
end L2

set_option Elab.async false
set_option linter.all false
set_option maxRecDepth 100000
set_option maxHeartbeats 4000000
namespace L2
open PySem PySem.Spec PyProof.Rows
namespace FX
end FX
section
variable {prog : Program} {w : World} {A : Around} {E : Value → Shared → Prop} {s : Shared}
end
section
variable {X : Cx} {K : PySem.W.Frag}
end
end L2

set_option Elab.async false
set_option linter.all false
set_option maxRecDepth 100000
set_option maxHeartbeats 4000000
namespace L2
open PySem PySem.Spec PyProof.Rows
section
variable {X : Cx}
end
end L2

set_option Elab.async false
set_option linter.all false
set_option maxRecDepth 100000
set_option maxHeartbeats 4000000
namespace L2
open PySem PySem.Spec PyProof.Rows
section
variable {X : Cx} {K : PySem.W.Frag}
end
end L2

set_option Elab.async false
set_option linter.all false
set_option maxRecDepth 100000
set_option maxHeartbeats 4000000
namespace L2
open PySem PySem.Spec PyProof.Rows
section
variable {X : Cx} {K : PySem.W.Frag}
def bls (bs : List Bool) : List V := bs.map V.bl
def gAll (K : PySem.W.Frag) : List V → Hp → VK → Prop := fun xs H Q => match xs with
  | [.ref a] => ∃ bs : List Bool, SqL K H a (bls bs) ∧ Q (.bl (bs.all id)) H
  | _ => False
def gAny (K : PySem.W.Frag) : List V → Hp → VK → Prop := fun xs H Q => match xs with
  | [.ref a] => ∃ bs : List Bool, SqL K H a (bls bs) ∧ Q (.bl (bs.any id)) H
  | _ => False
theorem bls_at : ∀ {bs : List Bool} {its : List Value} {i : Nat} {v : Value}, Vals (bls bs) its → its[i]? = some v → v = .bool (bs.getD i false)
  | [], _, i, v, h, e => by cases h; simp at e
  | b :: r, _, 0, v, h, e => by
    cases h with
    | cons a t => simp at e; subst e; exact a
  | b :: r, _, i + 1, v, h, e => by
    cases h with
    | cons a t =>
      simp at e
      have := bls_at (bs := r) t e
      simpa using this
theorem range_bs (bs : List Bool) : (List.range bs.length).map (fun i => bs.getD i false) = bs := by
  refine List.ext_getElem (by simp) fun i h1 h2 => ?_
  simp [List.getD, h2]
theorem all_bs (bs : List Bool) : (List.range bs.length).all (fun i => bs.getD i false) = bs.all id := by
  have h := List.all_map (f := fun i => bs.getD i false) (p := id) (l := List.range bs.length)
  rw [range_bs] at h
  exact h.symm
theorem any_bs (bs : List Bool) : (List.range bs.length).any (fun i => bs.getD i false) = bs.any id := by
  have h := List.any_map (f := fun i => bs.getD i false) (p := id) (l := List.range bs.length)
  rw [range_bs] at h
  exact h.symm
theorem c_all (hc : X.calm = true) (hK : X.K = K := by rfl) : Irr (CallR X (.builtin "all") (gAll K)) := by
  refine .mk ?_
  subst hK
  intro pins s σ H xs us Q I r h
  unfold gAll at h
  split at h
  · rename_i la
    obtain ⟨bs, hS, q⟩ := h
    obtain ⟨u, rfl, rx⟩ := vals1 r
    cases rx
    obtain ⟨its, rv, pl, _⟩ := I.list hS
    have hlen : its.length = bs.length := by have := rv.length; unfold bls at this; rw [List.length_map] at this; exact this.symm
    have hll : la < s.heap.objs.size := by obtain ⟨o, n, e, _⟩ := pl; exact Heap.lt_size e
    refine call_all_walk (wpAny_pyIter_list pl.isList ?_)
    refine ⟨_, _, _, _, _, _, fun i => bs.getD i false, rfl, Walks.list (A := X.A.in1) (I.ok.hd hc) s.heap.objs.size la (Nat.ne_of_lt hll) its.toArray, ⟨⟨_, Heap.get?_push_size _ rfl, rfl, rfl⟩, pl.isList.push _⟩, fun i v s2 Q2 E2 hv hq => ?_, fun h' tk hk => ?_⟩
    · have e := bls_at (i := i) (v := v) rv (by simpa using hv)
      rw [e]
      exact wpAny_truthy_bool hq
    · refine ⟨.bl (bs.all id), H, I.kept (t' := tk) (fun b o e => hk b o (fun m => ?_) (Heap.get?_push_of_some _ e)), ?_, q⟩
      · rw [List.mem_singleton.mp m] at e; exact absurd (Heap.lt_size e) (Nat.lt_irrefl _)
      · show Value.bool _ = Value.bool _
        rw [List.size_toArray, hlen, all_bs]
  · exact h.elim
theorem c_any (hc : X.calm = true) (hK : X.K = K := by rfl) : Irr (CallR X (.builtin "any") (gAny K)) := by
  refine .mk ?_
  subst hK
  intro pins s σ H xs us Q I r h
  unfold gAny at h
  split at h
  · rename_i la
    obtain ⟨bs, hS, q⟩ := h
    obtain ⟨u, rfl, rx⟩ := vals1 r
    cases rx
    obtain ⟨its, rv, pl, _⟩ := I.list hS
    have hlen : its.length = bs.length := by have := rv.length; unfold bls at this; rw [List.length_map] at this; exact this.symm
    have hll : la < s.heap.objs.size := by obtain ⟨o, n, e, _⟩ := pl; exact Heap.lt_size e
    refine call_any_walk (wpAny_pyIter_list pl.isList ?_)
    refine ⟨_, _, _, _, _, _, fun i => bs.getD i false, rfl, Walks.list (A := X.A.in1) (I.ok.hd hc) s.heap.objs.size la (Nat.ne_of_lt hll) its.toArray, ⟨⟨_, Heap.get?_push_size _ rfl, rfl, rfl⟩, pl.isList.push _⟩, fun i v s2 Q2 E2 hv hq => ?_, fun h' tk hk => ?_⟩
    · have e := bls_at (i := i) (v := v) rv (by simpa using hv)
      rw [e]
      exact wpAny_truthy_bool hq
    · refine ⟨.bl (bs.any id), H, I.kept (t' := tk) (fun b o e => hk b o (fun m => ?_) (Heap.get?_push_of_some _ e)), ?_, q⟩
      · rw [List.mem_singleton.mp m] at e; exact absurd (Heap.lt_size e) (Nat.lt_irrefl _)
      · show Value.bool _ = Value.bool _
        rw [List.size_toArray, hlen, any_bs]
  · exact h.elim
def gStrI : List V → Hp → VK → Prop := fun xs H Q => match xs with
  | [.int n] => n.natAbs.log2 < 1920 ∧ Q (.str (Str.ofString (toString n))) H
  | _ => False
theorem c_strI : Irr (CallR X (.type "str") gStrI) := by
  refine .mk ?_
  intro pins s σ H xs us Q I r h
  unfold gStrI at h
  split at h
  · obtain ⟨h1, q⟩ := h
    obtain ⟨u, rfl, rx⟩ := vals1 r
    obtain ⟨t, rfl⟩ := rx
    exact PySem.P.str_of_int h1 ⟨.str _, H, I.tok _, ⟨_, rfl⟩, q⟩
  · exact h.elim
def gIntT : List V → Hp → VK → Prop := fun xs H Q => match xs with
  | [.str z] => ∃ n : Int, z = Str.ofString (toString n) ∧ 0 ≤ n ∧ n < 10 ^ 10 ∧ Q (.int n) H
  | [.int i] => Q (.int i) H
  | [.bl b] => Q (.int (if b then 1 else 0)) H
  | _ => False
theorem c_intT : Irr (CallR X (.type "int") gIntT) := by
  refine .mk ?_
  intro pins s σ H xs us Q I r h
  unfold gIntT at h
  split at h
  · obtain ⟨n, rfl, h0, h1, q⟩ := h
    obtain ⟨u, rfl, rx⟩ := vals1 r
    obtain ⟨t, rfl⟩ := rx
    exact PySem.W.KIN.call_num h0 h1 ⟨.int _, H, I.tok _, ⟨_, rfl⟩, q⟩
  · exact (c_int (X := X)).out pins s σ H _ us Q I r h
  · exact (c_int (X := X)).out pins s σ H _ us Q I r h
  · exact h.elim
end
section
variable {X : Cx} {p pos : Pos}
theorem j_def0 {k : Nat} {x : Str} {ps : List Str} {sp : Sp} (D : Def X.prog X.w X.K X.mg X.base k x ps sp) (hr : Room k X.A) (hg : Gl X x) (hdb : (x == ("__debug__" : Str)) = false := by decide) (hx : Passes CX0 X E0 := by exact pass0) :
    JE X (.Call (.Name x p) [] [] pos) (fun σ H Q => sp [] H Q E0) := by
  refine .mk ?_
  obtain ⟨f, fd, mgf, kp, _, b, G⟩ := D.ex
  exact pe_call0 (dvs := []) (ds := []) G hr hg mgf kp b .nil hx hdb
end
section
variable {cap : List (Option Nat)} {g : TG} {tc : TT} {te : TE} {Q : Addr → Hp → Prop} {σ : St} {H : Hp} {K : PySem.W.Frag}
theorem gath_enum {a : Addr} {xs : List V} (Pv : Nat → List V → St → Hp → Prop) (hn : xs.length ≤ 1000000) (h0 : Pv 0 [] (capt cap σ) H) (hlen : ∀ i ys σ' H', Pv i ys σ' H' → ys.length ≤ i)
    (hl : ∀ i ys σ' H', Pv i ys σ' H' → SqL K H' a xs)
    (hs : ∀ i x ys σ' H', xs[i]? = some x → Pv i ys σ' H' → ∀ T, H' T = none → g (.ref T) σ' (upd H' T (.tup [.int (i : Nat), x])) fun σ3 H3 => tc σ3 H3 fun b H4 => if b = true then te σ3 H4 fun y H5 => Pv (i + 1) (ys ++ [y]) σ3 H5 else Pv (i + 1) ys σ3 H4)
    (hd : ∀ ys σ' H', Pv xs.length ys σ' H' → ∀ D, H' D = none → Q D (upd H' D (.lst ys))) : Gath (Ite K a) cap g tc te Q σ H := by
  have big : (1000000 : Nat) < sizeLine := by rw [sizeLine_eq]; decide
  refine ⟨fun i m ys σ' H' => m = xs.length - i ∧ i ≤ xs.length ∧ Pv i ys σ' H', ⟨xs.length, by simp, Nat.zero_le _, h0⟩, ?_⟩
  rintro i m ys σ' H' ⟨rfl, hi, p⟩
  have hle := hlen i ys σ' H' p
  have q1 := hl i ys σ' H' p
  by_cases hlt : i < xs.length
  · refine .inr ⟨⟨xs, xs[i], q1, by simp [hlt]⟩, by omega, Pv (i + 1), fun ys2 σ2 H2 p' => ⟨xs.length - (i + 1), by omega, rfl, hlt, p'⟩, fun v H2 y => ?_⟩
    obtain ⟨T, x, e1, hT, rfl, rfl⟩ := y
    exact hs i x ys σ' H' (e1 xs q1) p T hT
  · have e : i = xs.length := by omega
    subst e
    exact .inl ⟨⟨xs, q1, Nat.le_refl _⟩, by omega, hd ys σ' H' p⟩
theorem gath_zip {t1 t2 : Bool} {a b : Addr} {xs zs : List V} (Pv : Nat → List V → St → Hp → Prop) (hn : xs.length ≤ 1000000) (he : xs.length = zs.length) (h0 : Pv 0 [] (capt cap σ) H) (hlen : ∀ i ys σ' H', Pv i ys σ' H' → ys.length ≤ i)
    (hl : ∀ i ys σ' H', Pv i ys σ' H' → SqA t1 K H' a xs ∧ SqA t2 K H' b zs)
    (hs : ∀ i x z ys σ' H', xs[i]? = some x → zs[i]? = some z → Pv i ys σ' H' → ∀ T, H' T = none → g (.ref T) σ' (upd H' T (.tup [x, z])) fun σ3 H3 => tc σ3 H3 fun b H4 => if b = true then te σ3 H4 fun y H5 => Pv (i + 1) (ys ++ [y]) σ3 H5 else Pv (i + 1) ys σ3 H4)
    (hd : ∀ ys σ' H', Pv xs.length ys σ' H' → ∀ D, H' D = none → Q D (upd H' D (.lst ys))) : Gath (Itz K t1 t2 a b) cap g tc te Q σ H := by
  have big : (1000000 : Nat) < sizeLine := by rw [sizeLine_eq]; decide
  refine ⟨fun i m ys σ' H' => m = xs.length - i ∧ i ≤ xs.length ∧ Pv i ys σ' H', ⟨xs.length, by simp, Nat.zero_le _, h0⟩, ?_⟩
  rintro i m ys σ' H' ⟨rfl, hi, p⟩
  have hle := hlen i ys σ' H' p
  obtain ⟨q1, q2⟩ := hl i ys σ' H' p
  by_cases hlt : i < xs.length
  · have hlt2 : i < zs.length := by omega
    refine .inr ⟨⟨xs, xs[i], zs, zs[i], q1, by simp [hlt], q2, by simp [hlt2]⟩, by omega, Pv (i + 1), fun ys2 σ2 H2 p' => ⟨xs.length - (i + 1), by omega, rfl, hlt, p'⟩, fun v H2 y => ?_⟩
    obtain ⟨T, x, z, e1, e2, hT, rfl, rfl⟩ := y
    exact hs i x z ys σ' H' (e1 xs q1) (e2 zs q2) p T hT
  · have e : i = xs.length := by omega
    subst e
    exact .inl ⟨⟨xs, zs, q1, q2, .inl (Nat.le_refl _)⟩, by omega, hd ys σ' H' p⟩
end
end L2

set_option Elab.async false
set_option linter.all false
namespace L2
open PySem PySem.Spec PyProof.Rows
section
variable {X : Cx} {K : PySem.W.Frag} {e : Expr} {te : TE}
theorem jt_tru (h : JE X e te) (hK : X.K = K := by rfl) (he : ∀ whole, isTrue e X.env whole = (do let v ← whole; standAt e.pos; holding [v] (truthy v)) := by intro _; rfl) : JT X e (mTruth K te) := by
  refine .mk ?_
  subst hK
  exact pt_truth h.out he
end
end L2

set_option linter.all false
namespace Rg
def lt26 (x : Int) : Nat := 97 + (x % 26).toNat
theorem lt26_ok (x : Int) : 97 ≤ lt26 x ∧ lt26 x ≤ 122 := by unfold lt26; omega
theorem lt26_inj {x y : Int} (h : lt26 x = lt26 y) : x % 26 = y % 26 := by unfold lt26 at h; omega
def sz12 (c : Int) : Nat := (1 + c % 12).toNat
def at12 (c : Int) : Nat := (c / 12 % (1 + c % 12)).toNat
theorem sz12_eq (c : Int) : ((sz12 c : Nat) : Int) = 1 + c % 12 ∧ 1 ≤ sz12 c ∧ sz12 c ≤ 12 := by unfold sz12; omega
theorem at12_eq (c : Int) : ((at12 c : Nat) : Int) = c / 12 % (1 + c % 12) ∧ at12 c < sz12 c := by
  have h0 := Int.emod_nonneg (c / 12) (show 1 + c % 12 ≠ 0 by omega)
  have h1 := Int.emod_lt_of_pos (c / 12) (show 0 < 1 + c % 12 by omega)
  unfold at12 sz12
  omega
def nl12 (c : Int) (k j : Nat) : Nat := lt26 (c / 144 + ((j : Int) * (j : Int) + (k : Int) * (if j = at12 c then 1 else 0)))
def nm12 (c : Int) (k : Nat) : List Nat := (List.range (sz12 c)).map (nl12 c k)
structure KOk (l : List Nat) : Prop where
  l1 : 1 ≤ l.length
  l2 : l.length ≤ 12
  az : ∀ c ∈ l, 97 ≤ c ∧ c ≤ 122
  ne : l ≠ [101, 110, 100]
  ns : l ≠ [115, 116, 114, 97, 121]
theorem nm12_len (c : Int) (k : Nat) : (nm12 c k).length = sz12 c := by unfold nm12; simp
theorem nm12_at (c : Int) (k : Nat) {j : Nat} (h : j < sz12 c) : (nm12 c k)[j]? = some (nl12 c k j) := by
  unfold nm12
  rw [List.getElem?_map, List.getElem?_range h]
  rfl
theorem nm12_inj {c : Int} {k k' : Nat} (hk : k < 26) (hk' : k' < 26) (h : nm12 c k = nm12 c k') : k = k' := by
  have hlt := (at12_eq c).2
  have h1 : (nm12 c k)[at12 c]? = (nm12 c k')[at12 c]? := by rw [h]
  rw [nm12_at c k hlt, nm12_at c k' hlt] at h1
  have h2 := lt26_inj (Option.some.inj h1)
  rw [if_pos rfl] at h2
  omega
theorem nl_val {c : Int} {k j : Nat} : (nl12 c k j : Nat) = 97 + ((c / 144 + ((j : Int) * (j : Int) + (k : Int) * (if j = at12 c then 1 else 0))) % 26).toNat := rfl
theorem nm12_ok (c : Int) (k : Nat) : KOk (nm12 c k) := by
  have h1 := sz12_eq c
  have hat := (at12_eq c).2
  refine ⟨by rw [nm12_len]; omega, by rw [nm12_len]; omega, fun x hx => ?_, fun h => ?_, fun h => ?_⟩
  · unfold nm12 at hx
    obtain ⟨j, _, rfl⟩ := List.mem_map.mp hx
    exact lt26_ok _
  · have hl := congrArg List.length h
    rw [nm12_len] at hl
    have hl : sz12 c = 3 := hl
    have e0 := nm12_at c k (show 0 < sz12 c by omega)
    have e1 := nm12_at c k (show 1 < sz12 c by omega)
    have e2 := nm12_at c k (show 2 < sz12 c by omega)
    rw [h] at e0 e1 e2
    have e0 : 101 = nl12 c k 0 := Option.some.inj e0
    have e1 : 110 = nl12 c k 1 := Option.some.inj e1
    have e2 : 100 = nl12 c k 2 := Option.some.inj e2
    rw [nl_val] at e0 e1 e2
    have ha : at12 c = 0 ∨ at12 c = 1 ∨ at12 c = 2 := by omega
    rcases ha with a | a | a <;> rw [a] at e0 e1 e2 <;> simp at e0 e1 e2 <;> omega
  · have hl := congrArg List.length h
    rw [nm12_len] at hl
    have hl : sz12 c = 5 := hl
    have e0 := nm12_at c k (show 0 < sz12 c by omega)
    have e1 := nm12_at c k (show 1 < sz12 c by omega)
    have e2 := nm12_at c k (show 2 < sz12 c by omega)
    have e3 := nm12_at c k (show 3 < sz12 c by omega)
    rw [h] at e0 e1 e2 e3
    have e0 : 115 = nl12 c k 0 := Option.some.inj e0
    have e1 : 116 = nl12 c k 1 := Option.some.inj e1
    have e2 : 114 = nl12 c k 2 := Option.some.inj e2
    have e3 : 97 = nl12 c k 3 := Option.some.inj e3
    rw [nl_val] at e0 e1 e2 e3
    have ha : at12 c = 0 ∨ at12 c = 1 ∨ at12 c = 2 ∨ at12 c = 3 ∨ at12 c = 4 := by omega
    rcases ha with a | a | a | a | a <;> rw [a] at e0 e1 e2 e3 <;> simp at e0 e1 e2 e3 <;> omega
theorem KOk.wr {l : List Nat} (h : KOk l) : ∀ c ∈ l, c ≠ 32 ∧ c ≠ 10 := fun c hc => by have := h.az c hc; omega
theorem KOk.sign {l : List Nat} (h : KOk l) : ∀ c ∈ l, okSign c := fun c hc => .inl (by have := h.az c hc; omega)
end Rg

set_option Elab.async false
set_option linter.all false
set_option maxRecDepth 100000
set_option maxHeartbeats 4000000
namespace K80
open PySem PySem.Spec PyProof.Rows L2 Rg

def top (i : Nat) : Stmt := PySem.Challenge.pw_regrowth_k80_grammars_read.main.body.getD i (.Pass ⟨0, 0, 0, 0⟩)
def deedS : Nat → Str
  | 0 => "in"
  | 1 => "out"
  | _ => "row"
def manyS : Nat → Str
  | 0 => "once"
  | 1 => "maybe"
  | 2 => "some"
  | 3 => "any"
  | 4 => "ahead"
  | _ => "not"
def deedC : Nat → Nat
  | 0 => 64
  | 1 => 94
  | _ => 61
def manyC : Nat → Nat
  | 0 => 46
  | 1 => 63
  | 2 => 43
  | 3 => 42
  | 4 => 62
  | _ => 45
structure Pt where
  d : Nat
  m : Nat
  l : List Nat
  t : List Nat
structure Pt.Ok (p : Pt) : Prop where
  hd : p.d < 3
  hm : p.m < 6
  row : p.d = 2 → p.m = 0 ∨ p.m = 4 ∨ p.m = 5
  l1 : 1 ≤ p.l.length
  l2 : p.l.length ≤ 100
  ok : ∀ c ∈ p.l, okSign c
  rd : dec p.t = some p.l
  t2 : p.t.length ≤ 200
  wt : ∀ c ∈ p.t, wr c ∧ c ≠ 32
def Pt.dat (p : Pt) : PyData := .tuple [.str (deedS p.d), .str (S p.l), .str (manyS p.m)]
def Pt.txt (p : Pt) : List Nat := deedC p.d :: manyC p.m :: p.t

abbrev kvDeeds : List (Str × V) := [("@", .str "in"), ("^", .str "out"), ("=", .str "row")]
abbrev kvManies : List (Str × V) := [(".", .str "once"), ("?", .str "maybe"), ("+", .str "some"), ("*", .str "any"), (">", .str "ahead"), ("-", .str "not")]
abbrev kvMeant : List (Str × V) := [("b", .str " "), ("n", .str "\n"), ("t", .str "~"), ("a", .str "abcdefghijklmnopqrstuvwxyz"), ("A", .str "ABCDEFGHIJKLMNOPQRSTUVWXYZ"), ("0", .str "0123456789")]

structure Txt (K : PySem.W.Frag) (w : World) (mg : Str → Option Value) (tD tM tR tN : Addr) (t1 t2 t3 : Tok) : Prop where
  n_len : mg "len" = none
  n_ord : mg "ord" = none
  n_list : mg "list" = none
  n_tuple : mg "tuple" = none
  n_str : mg "str" = none
  n_isinstance : mg "isinstance" = none
  n_zip : mg "zip" = none
  g_MOST_PARTS : mg "MOST_PARTS" = some (.int 12 t1)
  g_MOST_SIGNS : mg "MOST_SIGNS" = some (.int 100 t2)
  g_PERCENT : mg "PERCENT" = some (.int 37 t3)
  g_DEEDS_forms : mg "DEEDS_forms" = some (.ref tD)
  g_MANIES : mg "MANIES" = some (.ref tM)
  g_ROW_MANIES : mg "ROW_MANIES" = some (.ref tR)
  g_MEANT : mg "MEANT" = some (.ref tN)
  k_DEEDS : KTab K w tD kvDeeds
  k_MANIES : KTab K w tM kvManies
  k_MEANT : KTab K w tN kvMeant
  k_ROW : ∀ H, SqT K H tR [.str "once", .str "ahead", .str "not"]

theorem big : (1000000 : Nat) < sizeLine := by rw [sizeLine_eq]; decide
section
variable {P : Program} {w : World} {K : PySem.W.Frag} {mg : Str → Option Value} {base : Heap} {tD tM tR tN : Addr} {t1 t2 t3 : Tok}

def spCell (K : PySem.W.Frag) : Sp := fun vs H Q _ => ∃ (a : Addr) (ns : List Int) (k : Nat), vs = [.ref a, .int k] ∧ SqL K H a (ns.map V.int) ∧ Q (.int (ns.getD k 0)) H
abbrev st__law_cell_at : Stmt := top 36
theorem sc__law_cell_at : FnScope ["_law_script", "_law_k"] ["_law_script", "_law_k"] (defScope st__law_cell_at) := ⟨rfl, rfl, rfl, by decide +kernel, rfl, by decide +kernel, by decide +kernel⟩
theorem def_cell (R : Raw K mg "_law_cell_at" st__law_cell_at ["_law_script", "_law_k"]) (T : Txt K w mg tD tM tR tN t1 t2 t3) : Def P w K mg base 1 "_law_cell_at" ["_law_script", "_law_k"] (spCell K) := by
  refine R.defJ sc__law_cell_at (fun vs H Q E h => ?_) (fun f cdv A outer s H vs Q E hr h => ?_)
  · obtain ⟨a, ns, k, rfl, _⟩ := h
    rfl
  · obtain ⟨a, ns, k, rfl, hS, q⟩ := h
    have sc := sc__law_cell_at
    have hu := hr.units
    refine ⟨_, (jss_cons (js_if (jt_cmp o_lt (jn 1) (j_callB (c_len (K := K)) rfl T.n_len PySem.boot_len (ja_cons (jn 0) ja_nil)))
    (jss_one (js_ret (j_ix (o_ix hu (K := K) (w := w)) (jn 0) (jn 1))))
    jss_nil)
    (jss_one (js_ret j_int))), ?_⟩
    refine ⟨_, .inl hS, ?_⟩
    rw [List.length_map]
    show if decide ((k : Int) < (ns.length : Int)) = true then _ else _
    refine ite2 (fun h => ?_) (fun h => ?_)
    · have hk : k < ns.length := by
        have := of_decide_eq_true h
        omega
      refine .inl ⟨_, .int (ns.getD k 0), hS, atI_nat ?_, q⟩
      rw [List.getElem?_map, List.getElem?_eq_getElem hk]
      simp [List.getD, hk]
    · have hk : ¬ k < ns.length := fun z => h (decide_eq_true (by omega))
      have e : ns.getD k 0 = 0 := by simp [List.getD, List.getElem?_eq_none (by omega : ns.length ≤ k)]
      rw [e] at q
      exact q

theorem joinOk_of {sep : Str} {texts : List Str} {B : Nat} (hB : ∀ y ∈ texts, y.length ≤ B) (h : texts.length * B + texts.length * sep.length ≤ 16777216) : JoinOk sep texts = true := by
  unfold JoinOk
  rw [Bool.not_eq_true']
  exact StrLaws.joinFits hB h
theorem lt1 (a b : Nat) : decide (([a] : List Nat) < [b]) = decide (a < b) := by
  rw [StrLaws.lt_cons_cons]
  by_cases h : a < b
  · simp [h]
  · simp [h]
def spMay : Sp := fun vs H Q _ => ∃ c : Nat, vs = [.str (S [c])] ∧ wr c ∧ Q (.bl true) H
abbrev st_may_write : Stmt := top 13
theorem sc_may_write : FnScope ["sign"] ["sign"] (defScope st_may_write) := ⟨rfl, rfl, rfl, by decide +kernel, rfl, by decide +kernel, by decide +kernel⟩
theorem def_may (R : Raw K mg "may_write" st_may_write ["sign"]) (T : Txt K w mg tD tM tR tN t1 t2 t3) : Def P w K mg base 1 "may_write" ["sign"] spMay := by
  refine R.defJ sc_may_write (fun vs H Q E h => ?_) (fun f cdv A outer s H vs Q E hr h => ?_)
  · obtain ⟨c, rfl, _⟩ := h
    rfl
  · obtain ⟨c, rfl, ⟨h1, h2, h3⟩, q⟩ := h
    have sc := sc_may_write
    have hu := hr.units
    refine ⟨_, (jss_one (js_ret (j_and (j_chain o_le o_le j_str (jn 0) j_str) (j_one (j_cmp (o_ne hu (K := K)) (j_callB c_ord rfl T.n_ord boot_ord (ja_cons (jn 0) ja_nil)) (j_glob (v := .int 37) rfl T.g_PERCENT ⟨_, rfl⟩)))))), ?_⟩
    have e1 : (!decide ((S [c]).cps.toList < (Str.ofString " ").cps.toList)) = true := by
      show (!decide (([c] : List Nat) < [32])) = true
      rw [lt1, decide_eq_false (by omega)]; rfl
    have e2 : (!decide ((Str.ofString "~").cps.toList < (S [c]).cps.toList)) = true := by
      show (!decide (([126] : List Nat) < [c])) = true
      rw [lt1, decide_eq_false (by omega)]; rfl
    refine (if_pos e1).mpr ?_
    refine (if_pos e2).mpr ?_
    refine ⟨by rw [S_len]; rfl, ?_⟩
    have e3 : (true ^^ decide (((c : Nat) : Int) = 37)) = true := by
      rw [decide_eq_false (by omega)]; rfl
    have q' : Q (.bl (true ^^ decide (((c : Nat) : Int) = 37))) H := by rw [e3]; exact q
    exact q'

theorem meant_lookup {c : Nat} {m : List Nat} (h : meant c = some m) : kvMeant.lookup (S [c]) = some (.str (S m)) ∧ m.length ≤ 26 := by
  unfold meant at h
  split at h
  · rename_i e; subst e; cases h; exact ⟨by decide +kernel, by decide⟩
  · split at h
    · rename_i e; subst e; cases h; exact ⟨by decide +kernel, by decide⟩
    · split at h
      · rename_i e; subst e; cases h; exact ⟨by decide +kernel, by decide⟩
      · split at h
        · rename_i e; subst e; cases h; exact ⟨by decide +kernel, by decide⟩
        · split at h
          · rename_i e; subst e; cases h; exact ⟨by decide +kernel, by decide⟩
          · split at h
            · rename_i e; subst e; cases h; exact ⟨by decide +kernel, by decide⟩
            · cases h
theorem splitOn_len (c : Nat) : ∀ l : List Nat, (splitOn c l).length ≤ l.length + 1
  | [] => by simp [splitOn]
  | x :: r => by
    have ih := splitOn_len c r
    unfold splitOn
    split
    · simp; omega
    · split
      · simp
      · rename_i e
        rw [e] at ih
        simp at ih ⊢
        omega
theorem cutV_from1 (x : V) (xs : List V) : cutV (x :: xs) (some 1) none = xs := by
  unfold cutV
  have h1 : HT.sIx (x :: xs).length 0 (some 1) = 1 := by
    have := HT.sIx_nat (x :: xs).length 0 1
    rw [show ((1 : Nat) : Int) = 1 from rfl] at this
    rw [this]
    simp
  rw [h1, HT.sIx_none]
  simp
def spSigns : Sp := fun vs H Q _ => ∃ t l : List Nat, vs = [.str (S t)] ∧ dec t = some l ∧ t.length ≤ 200 ∧ l.length ≤ 100 ∧ ∀ H', Same H H' → Q (.str (S l)) H'
abbrev st_signs_of : Stmt := top 15
theorem sc_signs_of : FnScope ["text", "pieces", "signs", "piece", "meant"] ["text"] (defScope st_signs_of) := ⟨rfl, rfl, rfl, by decide +kernel, rfl, by decide +kernel, by decide +kernel⟩
theorem def_signs (R : Raw K mg "signs_of" st_signs_of ["text"]) (T : Txt K w mg tD tM tR tN t1 t2 t3) : Def P w K mg base 1 "signs_of" ["text"] spSigns := by
  refine R.defJ sc_signs_of (fun vs H Q E h => ?_) (fun f cdv A outer s H vs Q E hr h => ?_)
  · obtain ⟨t, l, rfl, _⟩ := h
    rfl
  · obtain ⟨t, l, rfl, hdec, el, hl, q⟩ := h
    have sc := sc_signs_of
    have hu := hr.units
    refine ⟨_, (jss_cons (js_set (i := 1) sc.nd rfl (Or.inl rfl) (j_bm (K := K) PySem.F.plainAttrs_str PySem.F.slot_str_split PySem.F.type_str_split m_split (jn 0) (ja_cons j_str ja_nil)))
    (jss_cons (js_set (i := 2) sc.nd rfl (Or.inl rfl) (j_ix (o_ix hu (K := K) (w := w)) (jn 1) j_int))
    (jss_cons (js_for PassesOwn.never rfl (ji_any (K := K) (j_slice (o_sl (K := K)) (jn 1) (jo_some j_int) jo_none)) (jg_name (i := 3) sc.nd rfl (Or.inl rfl))
    (jss_cons (js_set (i := 4) sc.nd rfl (Or.inl rfl) (j_kget1 (K := K) (w := w) (j_glob (v := .ref _) rfl T.g_MEANT rfl) (j_slice (o_sl (K := K)) (jn 3) jo_none (jo_some j_int))))
    (jss_cons (js_if (jt_cmp o_is (jn 4) j_non)
    (jss_one js_never)
    jss_nil)
    (jss_one (js_aug (i := 2) sc.nd rfl (Or.inl rfl) (j_op (o_add (K := K)) (jn 4) (j_slice (o_sl (K := K)) (jn 3) (jo_some j_int) jo_none)) o_iadd)))))
    (jss_one (js_ret (jn 2)))))), ?_⟩
    have hb := big
    have e1 : Txt.split (S t) (Str.ofString "~") = (splitOn 126 t).map S := split_S t 126 (by decide)
    have hlen : (splitOn 126 t).length ≤ 201 := by have := splitOn_len 126 t; omega
    refine ⟨rfl, by decide, by rw [S_len]; omega, by rw [e1, List.length_map]; omega, fun p hp => ?_⟩
    rw [e1]
    unfold dec at hdec
    cases es : splitOn 126 t with
    | nil => exact absurd es (splitOn_ne _ _)
    | cons p0 ps =>
      rw [es] at hdec hlen
      dsimp only at hdec
      have s1 : Same H (upd H p (.lst (((p0 :: ps).map S).map V.str))) := same_new hp
      have hp1 : upd H p (.lst (((p0 :: ps).map S).map V.str)) p = some (.lst (((p0 :: ps).map S).map V.str)) := upd_same
      generalize upd H p (.lst (((p0 :: ps).map S).map V.str)) = H1 at s1 hp1 ⊢
      refine .inl ⟨_, .str (S p0), SqL.of hp1, atI_nat (j := 0) rfl, ?_⟩
      refine ⟨_, SqL.of hp1, fun p2 hp2 => ?_⟩
      have ec : cutV (((p0 :: ps).map S).map V.str) (some 1) none = (ps.map S).map V.str := cutV_from1 _ _
      rw [ec]
      have s2 : Same H (upd H1 p2 (.lst ((ps.map S).map V.str))) := s1.trans (same_new hp2)
      have hp3 : upd H1 p2 (.lst ((ps.map S).map V.str)) p2 = some (.lst ((ps.map S).map V.str)) := upd_same
      generalize upd H1 p2 (.lst ((ps.map S).map V.str)) = H2 at s2 hp3 ⊢
      refine .inl ⟨⟨_, SqL.of hp3⟩, for_list (K := K) (a := p2) (xs := (ps.map S).map V.str) (fun i σ H' => H' = H2 ∧ ∃ (acc rem : List Nat) (v3 v4 : Option V), σ = [some (.str (S t)), some (.ref p), some (.str (S acc)), v3, v4] ∧ decGo (ps.drop i) = some rem ∧ acc ++ rem = l)
        ?_ (fun i σ H' _ h => by rw [h.1]; exact SqL.of hp3) ?_ ?_⟩
      · cases eg : decGo ps with
        | none => rw [eg] at hdec; cases hdec
        | some rem =>
          rw [eg] at hdec
          exact ⟨rfl, p0, rem, none, none, rfl, by simpa using eg, Option.some.inj hdec⟩
      · rintro i x σ H' hi ⟨rfl, acc, rem, v3, v4, rfl, hg, ha⟩
        rw [List.map_map, List.getElem?_map] at hi
        cases ei : ps[i]? with
        | none => rw [ei] at hi; cases hi
        | some pc =>
          rw [ei] at hi
          have ex : x = .str (S pc) := (Option.some.inj hi).symm
          subst ex
          obtain ⟨hlt, epc⟩ := List.getElem?_eq_some_iff.mp ei
          rw [List.drop_eq_getElem_cons hlt, epc] at hg
          cases pc with
          | nil => cases hg
          | cons c r =>
            have hg' : (match meant c with | none => none | some m => (decGo (ps.drop (i + 1))).map fun t => m ++ r ++ t) = some rem := hg
            cases em : meant c with
            | none => rw [em] at hg'; cases hg'
            | some m =>
              rw [em] at hg'
              dsimp only at hg'
              cases eg : decGo (ps.drop (i + 1)) with
              | none => rw [eg] at hg'; cases hg'
              | some rem' =>
                rw [eg] at hg'
                have er : m ++ r ++ rem' = rem := Option.some.inj hg'
                obtain ⟨hk, hm⟩ := meant_lookup em
                have htot : acc.length + (m.length + r.length + rem'.length) ≤ 100 := by
                  rw [← ha, ← er] at hl
                  simp at hl
                  omega
                have hlenS : (S (c :: r)).length ≤ sizeLine := by rw [S_len]; simp; omega
                refine ⟨tN, kvMeant, rfl, T.k_MEANT, hlenS, _, rfl, ?_⟩
                have e3 : Txt.slice (S (c :: r)) none (some 1) = S [c] := by
                  rw [slice_S]
                  have := cut_to (c :: r) 1
                  rw [show ((1 : Nat) : Int) = 1 from rfl] at this
                  rw [this]; rfl
                rw [e3, hk]
                refine ⟨hlenS, ?_⟩
                have e4 : Txt.slice (S (c :: r)) (some 1) none = S r := by
                  rw [slice_S]
                  have := cut_from (c :: r) 1
                  rw [show ((1 : Nat) : Int) = 1 from rfl] at this
                  rw [this]; rfl
                rw [e4]
                refine ⟨by rw [S_len, S_len]; omega, ?_⟩
                rw [S_app]
                refine ⟨by rw [S_len, S_len]; simp; omega, ?_⟩
                rw [S_app]
                exact ⟨rfl, acc ++ (m ++ r), rem', _, _, rfl, rfl, by rw [List.append_assoc, er]; exact ha⟩
      · rintro σ H' ⟨rfl, acc, rem, v3, v4, rfl, hg, ha⟩
        rw [List.length_map, List.length_map, List.drop_length] at hg
        cases hg
        rw [List.append_nil] at ha
        subst ha
        exact q _ s2

theorem deed_lookup {d : Nat} (h : d < 3) : kvDeeds.lookup (S [deedC d]) = some (.str (deedS d)) := by
  have h3 : d = 0 ∨ d = 1 ∨ d = 2 := by omega
  rcases h3 with rfl | rfl | rfl <;> decide +kernel
theorem many_lookup {m : Nat} (h : m < 6) : kvManies.lookup (S [manyC m]) = some (.str (manyS m)) := by
  have h6 : m = 0 ∨ m = 1 ∨ m = 2 ∨ m = 3 ∨ m = 4 ∨ m = 5 := by omega
  rcases h6 with rfl | rfl | rfl | rfl | rfl | rfl <;> decide +kernel
theorem slice01 (a b : Nat) (r : List Nat) : Txt.slice (S (a :: b :: r)) none (some 1) = S [a] ∧ Txt.slice (S (a :: b :: r)) (some 1) (some 2) = S [b] ∧ Txt.slice (S (a :: b :: r)) (some 2) none = S r := by
  rw [slice_S, slice_S, slice_S]
  have h1 := cut_to (a :: b :: r) 1
  have h2 := cut_some (a :: b :: r) 1 2
  have h3 := cut_from (a :: b :: r) 2
  rw [show ((1 : Nat) : Int) = 1 from rfl] at h1 h2
  rw [show ((2 : Nat) : Int) = 2 from rfl] at h2 h3
  rw [h1, h2, h3]
  exact ⟨rfl, rfl, rfl⟩
def spPartOf (K : PySem.W.Frag) : Sp := fun vs H Q _ => ∃ p : Pt, vs = [.str (S p.txt)] ∧ p.Ok ∧ ∀ r H', Same H H' → DatV K H' r p.dat → Q r H'
abbrev st_part_of : Stmt := top 14
theorem sc_part_of : FnScope ["text", "deed", "many", "signs"] ["text"] (defScope st_part_of) := ⟨rfl, rfl, rfl, by decide +kernel, rfl, by decide +kernel, by decide +kernel⟩
theorem def_partOf (R : Raw K mg "part_of" st_part_of ["text"]) (T : Txt K w mg tD tM tR tN t1 t2 t3) (D_signs_of : Def P w K mg base 1 "signs_of" ["text"] spSigns) : Def P w K mg base 2 "part_of" ["text"] (spPartOf K) := by
  refine R.defJ sc_part_of (fun vs H Q E h => ?_) (fun f cdv A outer s H vs Q E hr h => ?_)
  · obtain ⟨p, rfl, _⟩ := h
    rfl
  · obtain ⟨⟨d, m, l, t⟩, rfl, ok, q⟩ := h
    have hd : d < 3 := ok.hd
    have hm : m < 6 := ok.hm
    have hl2 : l.length ≤ 100 := ok.l2
    have hl1 : 1 ≤ l.length := ok.l1
    have sc := sc_part_of
    have hu := hr.units
    have el : t.length ≤ 200 := ok.t2
    have hdec : dec t = some l := ok.rd
    have hb := big
    have hz : (S (Pt.txt ⟨d, m, l, t⟩)).length ≤ sizeLine := by rw [S_len]; unfold Pt.txt; simp; omega
    have hsl := slice01 (deedC d) (manyC m) t
    obtain ⟨u, hP, hq⟩ : ∃ u, JSs (cxOf CX0 P w K mg base ["text", "deed", "many", "signs"] "part_of" (defScope st_part_of) f cdv A outer s H E).nox ((defBody st_part_of).drop 4) u ∧
        u { nx := fun _ H' => Q .non H', rt := Q } [some (.str (S (Pt.txt ⟨d, m, l, t⟩))), some (.str (deedS d)), some (.str (manyS m)), none] H := by
      refine ⟨_, (jss_cons (js_set (i := 3) sc.nd rfl (Or.inl rfl) (j_def D_signs_of (hr.mono (by decide)) rfl (ja_cons (j_slice (o_sl (K := K)) (jn 0) (jo_some j_int) jo_none) ja_nil)))
    (jss_cons (js_if (jt_not (jt_chain o_le o_le j_int (j_callB (c_len (K := K)) rfl T.n_len PySem.boot_len (ja_cons (jn 3) ja_nil)) (j_glob (v := .int 100) rfl T.g_MOST_SIGNS ⟨_, rfl⟩)))
    (jss_one js_never)
    jss_nil)
    (jss_one (js_ret (j_tup (ja_cons (jn 1) (ja_cons (jn 3) (ja_cons (jn 2) ja_nil)))))))), ?_⟩
      refine ⟨hz, ?_⟩
      refine ⟨t, l, by rw [show Txt.slice (S (Pt.txt ⟨d, m, l, t⟩)) (some 2) none = S t from hsl.2.2], hdec, el, hl2, fun H1 s1 => ?_⟩
      refine ⟨by rw [S_len]; omega, ?_⟩
      have e1 : decide ((1 : Int) ≤ ((S l).length : Nat)) = true := decide_eq_true (by rw [S_len]; omega)
      refine (if_pos e1).mpr ?_
      have e2 : (!decide (((S l).length : Int) ≤ 100)) = false := by rw [decide_eq_true (by rw [S_len]; omega)]; rfl
      refine (if_neg (by rw [e2]; exact Bool.false_ne_true)).mpr ?_
      refine ⟨(show 3 ≤ sizeLine by decide), fun p3 hp3 => ?_⟩
      exact q _ _ (s1.trans (same_new hp3)) (.tuple (SqT.of upd_same) (.cons (.str _) (.cons (.str _) (.cons (.str _) .nil))))
    refine ⟨_, (jss_cons (js_set (i := 1) sc.nd rfl (Or.inl rfl) (j_kget1 (K := K) (w := w) (j_glob (v := .ref _) rfl T.g_DEEDS_forms rfl) (j_slice (o_sl (K := K)) (jn 0) jo_none (jo_some j_int))))
    (jss_cons (js_set (i := 2) sc.nd rfl (Or.inl rfl) (j_kget1 (K := K) (w := w) (j_glob (v := .ref _) rfl T.g_MANIES rfl) (j_slice (o_sl (K := K)) (jn 0) (jo_some j_int) (jo_some j_int))))
    (jss_cons (js_if (jw_t (jw_or (jt_cmp o_is (jn 1) j_non) (jw_or1 (jt_cmp o_is (jn 2) j_non))))
    (jss_one js_never)
    jss_nil)
    (jss_cons (js_if (jw_t (jw_and (jt_cmp (o_eq hu (K := K)) (jn 1) j_str) (jw_and1 (jt_cmp (o_notin (K := K)) (jn 2) (j_glob (v := .ref _) rfl T.g_ROW_MANIES rfl)))))
    (jss_one js_never)
    jss_nil)
    hP)))), ?_⟩
    refine ⟨tD, kvDeeds, rfl, T.k_DEEDS, hz, _, rfl, ?_⟩
    rw [show Txt.slice (S (Pt.txt ⟨d, m, l, t⟩)) none (some 1) = S [deedC d] from hsl.1, deed_lookup hd]
    refine ⟨tM, kvManies, rfl, T.k_MANIES, hz, _, rfl, ?_⟩
    rw [show Txt.slice (S (Pt.txt ⟨d, m, l, t⟩)) (some 1) (some 2) = S [manyC m] from hsl.2.1, many_lookup hm]
    have row : (false ^^ decide (deedS d = "row")) = true → d = 2 := fun h => by
      have h3 : d = 0 ∨ d = 1 ∨ d = 2 := by omega
      rcases h3 with rfl | rfl | rfl
      · exact absurd h (by decide +kernel)
      · exact absurd h (by decide +kernel)
      · rfl
    conv => whnf
    refine ite2 (fun h => ?_) (fun h => hq)
    have hin : inV (.str (manyS m)) [.str "once", .str "ahead", .str "not"] = true := by
      rcases ok.row (row h) with e | e | e
      · have e' : m = 0 := e
        subst e'; decide +kernel
      · have e' : m = 4 := e
        subst e'; decide +kernel
      · have e' : m = 5 := e
        subst e'; decide +kernel
    refine ⟨_, .inr (T.k_ROW _), rfl, rfl, ?_⟩
    conv => whnf
    refine ite2 (fun h5 => ?_) (fun _ => hq)
    have h6 : (true ^^ inV (.str (manyS m)) [.str "once", .str "ahead", .str "not"]) = true := h5
    rw [hin] at h6
    exact absurd h6 (by decide)

theorem txt_len {p : Pt} (h : p.Ok) : p.txt.length ≤ 202 := by
  have := h.t2
  unfold Pt.txt
  simp
  omega
theorem joinOk12 {ps : List Pt} (hok : ∀ p ∈ ps, p.Ok) (h : ps.length ≤ 12) : JoinOk (Str.ofString " ") (ps.map fun p => S p.txt) = true := by
  refine joinOk_of (B := 202) (fun y hy => ?_) ?_
  · obtain ⟨p, hp, rfl⟩ := List.mem_map.mp hy
    rw [S_len]; exact txt_len (hok p hp)
  · rw [List.length_map]
    show ps.length * 202 + ps.length * 1 ≤ _
    omega
theorem join12 (ps : List Pt) : Txt.join (Str.ofString " ") (ps.map fun p => S p.txt) = S (joinWith [32] (ps.map Pt.txt)) := by
  have := txtJoin_S [32] (ps.map Pt.txt)
  rw [List.map_map] at this
  exact this
theorem deedC_wr (d : Nat) : wr (deedC d) ∧ deedC d ≠ 32 := by
  unfold deedC wr
  split <;> decide
theorem manyC_wr (d : Nat) : wr (manyC d) ∧ manyC d ≠ 32 := by
  unfold manyC wr
  split <;> decide
theorem txt_wr {p : Pt} (h : p.Ok) : ∀ c ∈ p.txt, wr c ∧ c ≠ 32 := by
  intro c hc
  unfold Pt.txt at hc
  rcases List.mem_cons.mp hc with e | hc
  · rw [e]; exact deedC_wr _
  · rcases List.mem_cons.mp hc with e | hc
    · rw [e]; exact manyC_wr _
    · exact h.wt c hc
theorem join_wr : ∀ {ps : List (List Nat)}, (∀ p ∈ ps, ∀ c ∈ p, wr c) → ∀ c ∈ joinWith [32] ps, wr c
  | [], _, c, h => by simp [joinWith] at h
  | [p], hp, c, h => hp p List.mem_cons_self c h
  | p :: q :: r, hp, c, h => by
    have h' : c ∈ p ++ [32] ++ joinWith [32] (q :: r) := h
    rcases List.mem_append.mp h' with h' | h'
    · rcases List.mem_append.mp h' with h' | h'
      · exact hp p List.mem_cons_self c h'
      · rw [List.mem_singleton.mp h']; unfold wr; decide
    · exact join_wr (fun x hx => hp x (List.mem_cons_of_mem _ hx)) c h'
theorem join_len : ∀ {ps : List (List Nat)} {B : Nat}, (∀ p ∈ ps, p.length ≤ B) → (joinWith [32] ps).length ≤ ps.length * (B + 1)
  | [], _, _ => by simp [joinWith]
  | [p], B, h => by
    have := h p List.mem_cons_self
    show p.length ≤ _
    simp; omega
  | p :: q :: r, B, h => by
    have h1 := h p List.mem_cons_self
    have h2 := join_len (ps := q :: r) fun x hx => h x (List.mem_cons_of_mem _ hx)
    show (p ++ [32] ++ joinWith [32] (q :: r)).length ≤ _
    have e : (p :: q :: r).length * (B + 1) = (q :: r).length * (B + 1) + (B + 1) := by rw [List.length_cons (a := p), Nat.add_mul, Nat.one_mul]
    rw [e, List.length_append, List.length_append]
    generalize (q :: r).length * (B + 1) = z at h2 ⊢
    show p.length + 1 + _ ≤ _
    omega
def spFO (K : PySem.W.Frag) : Sp := fun vs H Q _ => ∃ (ps : List Pt), vs = [.str (S (joinWith [32] (ps.map Pt.txt)))] ∧ ps ≠ [] ∧ (∀ p ∈ ps, p.Ok) ∧ ps.length ≤ 12 ∧
  ∀ a xs H', H a = none → Same H H' → H' a = some (.lst xs) → DatVs K H' xs (ps.map Pt.dat) → Q (.ref a) H'
abbrev st_form_of : Stmt := top 12
theorem sc_form_of : FnScope ["text", "sign", "parts"] ["text"] (defScope st_form_of) := ⟨rfl, rfl, rfl, by decide +kernel, rfl, by decide +kernel, by decide +kernel⟩
theorem def_formOf (R : Raw K mg "form_of" st_form_of ["text"]) (T : Txt K w mg tD tM tR tN t1 t2 t3) (D_may_write : Def P w K mg base 1 "may_write" ["sign"] spMay) (D_part_of : Def P w K mg base 2 "part_of" ["text"] (spPartOf K)) : Def P w K mg base 3 "form_of" ["text"] (spFO K) := by
  refine R.defJ sc_form_of (fun vs H Q E h => ?_) (fun f cdv A outer s H vs Q E hr h => ?_)
  · obtain ⟨ps, rfl, _⟩ := h
    rfl
  · obtain ⟨ps, rfl, h0, hok, h12, q⟩ := h
    have sc := sc_form_of
    have hu := hr.units
    have hb := big
    have hwr : ∀ c ∈ joinWith [32] (ps.map Pt.txt), wr c := join_wr fun p hp c hc => by
      obtain ⟨x, hx, rfl⟩ := List.mem_map.mp hp
      exact (txt_wr (hok x hx) c hc).1
    have hjl : (joinWith [32] (ps.map Pt.txt)).length ≤ 2436 := by
      have := join_len (ps := ps.map Pt.txt) (B := 202) fun p hp => by
        obtain ⟨x, hx, rfl⟩ := List.mem_map.mp hp
        exact txt_len (hok x hx)
      rw [List.length_map] at this
      omega
    have esp : Txt.split (S (joinWith [32] (ps.map Pt.txt))) (Str.ofString " ") = ps.map fun p => S p.txt := by
      have e1 := split_S (joinWith [32] (ps.map Pt.txt)) 32 (by decide)
      rw [splitOn_join (by simpa using h0) (fun p hp m => by
        obtain ⟨x, hx, rfl⟩ := List.mem_map.mp hp
        exact (txt_wr (hok x hx) 32 m).2 rfl), List.map_map] at e1
      exact e1
    generalize joinWith [32] (ps.map Pt.txt) = tx at hwr hjl esp ⊢
    refine ⟨_, (jss_cons (js_for PassesOwn.never rfl (ji_any (K := K) (jn 0)) (jg_name (i := 1) sc.nd rfl (Or.inl rfl))
    (jss_one (js_if (jt_not (jt_val (j_def D_may_write (hr.mono (by decide)) rfl (ja_cons (jn 1) ja_nil))))
    (jss_one js_never)
    jss_nil)))
    (jss_cons (js_set (i := 2) sc.nd rfl (Or.inl rfl) (j_bm (K := K) PySem.F.plainAttrs_str PySem.F.slot_str_split PySem.F.type_str_split m_split (jn 0) (ja_cons j_str ja_nil)))
    (jss_cons (js_if (jt_cmp o_gt (j_callB (c_len (K := K)) rfl T.n_len PySem.boot_len (ja_cons (jn 2) ja_nil)) (j_glob (v := .int 12) rfl T.g_MOST_PARTS ⟨_, rfl⟩))
    (jss_one js_never)
    jss_nil)
    (jss_one (js_ret (j_comp (N := ["part"]) (cap := [none]) rfl (CompScope.of rfl (by rfl)) (ji_any (K := K) (jn 2)) (fun _ _ _ _ => (jg_name (i := 0) (show List.Nodup [("part" : Str)] by decide +kernel) rfl (Or.inl rfl))) (fun _ _ _ _ => jts_nil) (fun _ _ _ _ => (j_def D_part_of (hr.mono (by decide)) rfl (ja_cons (jn 0) ja_nil))))))))), ?_⟩
    refine for_str (x := S tx) (fun i σ H' => H' = H ∧ ∃ v : Option V, σ = [some (.str (S tx)), v, none]) ⟨rfl, none, rfl⟩ ?_ ?_
    · rintro i c σ H' hi ⟨rfl, v, rfl⟩
      have hc : c ∈ tx := by
        have : tx[i]? = some c := by simpa using hi
        exact List.mem_of_getElem? this
      exact ⟨c, rfl, hwr c hc, rfl, _, rfl⟩
    · rintro σ H' ⟨rfl, v, rfl⟩
      refine ⟨rfl, by decide, by rw [S_len]; omega, by rw [esp, List.length_map]; omega, fun p hp => ?_⟩
      rw [esp]
      have s1 : Same H' (upd H' p (.lst ((ps.map fun p => S p.txt).map V.str))) := same_new hp
      have hp1 : upd H' p (.lst ((ps.map fun p => S p.txt).map V.str)) p = some (.lst ((ps.map fun p => S p.txt).map V.str)) := upd_same
      generalize upd H' p (.lst ((ps.map fun p => S p.txt).map V.str)) = H1 at s1 hp1 ⊢
      refine ⟨_, .inl (SqL.of hp1), ?_⟩
      rw [List.length_map, List.length_map]
      conv => whnf
      refine ite2 (fun h => ?_) (fun _ => ?_)
      · have h' := of_decide_eq_true h
        have h'' : (12 : Int) < (ps.length : Nat) := h'
        omega
      refine .inl ⟨⟨_, SqL.of hp1⟩, ?_⟩
      refine gath_list (xs := (ps.map fun p => S p.txt).map V.str) (fun i ys σ' H' => Same H1 H' ∧ ∃ v1 : Option V, DatVs K H' ys ((ps.take i).map Pt.dat) ∧ σ' = [v1]) (by rw [List.length_map, List.length_map]; omega) ⟨Same.refl H1, none, .nil, rfl⟩
        (fun i ys σ' H' h => by obtain ⟨_, v1, hd, _⟩ := h; have := hd.length; simp at this; omega) (fun i ys σ' H' h => h.1.seq (SqL.of hp1)) ?_ ?_
      · rintro i x ys σ' H' hi ⟨s2, v1, hd, rfl⟩
        rw [List.map_map, List.getElem?_map] at hi
        cases ep : ps[i]? with
        | none => rw [ep] at hi; cases hi
        | some pp =>
          rw [ep] at hi
          have ex : x = .str (S pp.txt) := (Option.some.inj hi).symm
          subst ex
          refine ⟨pp, rfl, hok pp (List.mem_of_getElem? ep), fun r H2 s3 hr2 => ?_⟩
          refine ⟨s2.trans s3, _, ?_, rfl⟩
          rw [List.take_add_one, ep, List.map_append]
          exact DatVs.snoc hr2 (hd.same s3)
      · rintro ys σ' H' ⟨s2, v1, hd, rfl⟩ D hD
        rw [List.length_map, List.length_map, List.take_length] at hd
        exact q D ys _ ((s1.trans s2).free hD) ((s1.trans s2).trans (same_new hD)) upd_same (hd.same (same_new hD))

end
end K80

set_option Elab.async false
set_option linter.all false
set_option maxRecDepth 100000
set_option maxHeartbeats 4000000



namespace K80
open PySem PySem.Spec PyProof.Rows L2 Rg
structure Txt2 (K : PySem.W.Frag) (w : World) (mg : Str → Option Value) (aN aD aS : Addr) : Prop where
  n_len : mg "len" = none
  n_range : mg "range" = none
  n_isinstance : mg "isinstance" = none
  n_int : mg "int" = none
  n_bool : mg "bool" = none
  n_str : mg "str" = none
  n_tuple : mg "tuple" = none
  n_list : mg "list" = none
  n_all : mg "all" = none
  n_any : mg "any" = none
  n_enumerate : mg "enumerate" = none
  n_zip : mg "zip" = none
  g_GAP : ∃ t, mg "GAP" = some (.str "" t)
  g_MOST_FORMS : ∃ t, mg "MOST_FORMS" = some (.int 24 t)
  g_MOST_ENDS : ∃ t, mg "MOST_ENDS" = some (.int 24 t)
  g_MOST_LETTERS : ∃ t, mg "MOST_LETTERS" = some (.int 12 t)
  g_NO_KINDS : mg "NO_KINDS" = some (.ref aN)
  g_DEEDS_grammars : mg "DEEDS_grammars" = some (.ref aD)
  g_SIDES : mg "SIDES" = some (.ref aS)
  k_NO : ∀ H, SqT K H aN [.str "end", .str "stray"]
  k_DE : ∀ H, SqT K H aD [.str "stop", .str "open", .str "close"]
  k_SI : ∀ H, SqT K H aS [.str "left", .str "right", .str "none"]
theorem dec_append : ∀ (n : Nat) (t l w g : List Nat), t.length ≤ n → dec t = some l → dec w = some g → dec (t ++ w) = some (l ++ g)
  | _, [], l, w, g, _, h, hw => by
    have e : l = [] := by
      have h0 : dec [] = some [] := by decide
      rw [h0] at h
      exact (Option.some.inj h).symm
    rw [e]; exact hw
  | 0, _ :: _, _, _, _, hn, _, _ => by simp at hn
  | n + 1, c :: t, l, w, g, hn, h, hw => by
    by_cases hc : c = 126
    · subst hc
      cases t with
      | nil =>
        have h0 : dec [126] = none := by decide
        rw [h0] at h
        cases h
      | cons x t =>
        by_cases hx : x = 126
        · subst hx
          unfold dec at h
          have e0 : splitOn 126 (126 :: 126 :: t) = [] :: [] :: splitOn 126 t := by
            show (if 126 = 126 then [] :: (if 126 = 126 then [] :: splitOn 126 t else _) else _) = _
            rw [if_pos rfl, if_pos rfl]
          rw [e0] at h
          cases h
        · cases hm : meant x with
          | none =>
            unfold dec at h
            have e0 : splitOn 126 (126 :: x :: t) = [] :: splitOn 126 (x :: t) := by
              show (if 126 = 126 then [] :: splitOn 126 (x :: t) else _) = _
              rw [if_pos rfl]
            rw [e0] at h
            dsimp only at h
            have e1 : ∃ r ps, splitOn 126 (x :: t) = (x :: r) :: ps := by
              show ∃ r ps, (if x = 126 then [] :: splitOn 126 t else match splitOn 126 t with | [] => [[x]] | p :: ps => (x :: p) :: ps) = _
              rw [if_neg hx]
              cases splitOn 126 t with
              | nil => exact ⟨[], [], rfl⟩
              | cons p ps => exact ⟨p, ps, rfl⟩
            obtain ⟨r, ps, e1⟩ := e1
            rw [e1] at h
            have e2 : decGo ((x :: r) :: ps) = none := by
              show (match meant x with | none => none | some m => (decGo ps).map fun t => m ++ r ++ t) = none
              rw [hm]
            rw [e2] at h
            cases h
          | some m =>
            rw [dec_code hx hm] at h
            show dec (126 :: x :: (t ++ w)) = _
            rw [dec_code hx hm]
            cases ht : dec t with
            | none => rw [ht] at h; cases h
            | some l' =>
              rw [ht] at h
              have e : m ++ l' = l := Option.some.inj h
              rw [dec_append n t l' w g (by simp at hn; omega) ht hw, ← e]
              simp
    · rw [dec_plain hc] at h
      show dec (c :: (t ++ w)) = _
      rw [dec_plain hc]
      cases ht : dec t with
      | none => rw [ht] at h; cases h
      | some l' =>
        rw [ht] at h
        have e : c :: l' = l := Option.some.inj h
        rw [dec_append n t l' w g (by simp at hn; omega) ht hw, ← e]
        simp
theorem ifS_of {c : TT} {t1 t2 : TS} {D : Ends} {σ : L2.St} {H : Hp} (R : Bool → Hp → Prop) (h1 : ∀ H', R true H' → t1 D σ H') (h2 : ∀ H', R false H' → t2 D σ H')
    (hc : (∀ H', R true H' → t1 D σ H') → (∀ H', R false H' → t2 D σ H') → c σ H fun b H' => if b = true then t1 D σ H' else t2 D σ H') : tIfS c t1 t2 D σ H := hc h1 h2
theorem rem_le {cs : List Addr} {H H' : Hp} (s : Same H H') : Same (rem cs H) (rem cs H') := fun b u e => by
  have nb : b ∉ cs := fun m => by rw [rem_in m] at e; cases e
  rw [rem_out nb] at e ⊢
  exact s b u e
theorem rem_same {cs : List Addr} {H : Hp} : Same (rem cs H) H := fun b u e => by
  have nb : b ∉ cs := fun m => by rw [rem_in m] at e; cases e
  rw [rem_out nb] at e
  exact e
theorem rem_upd_in {cs : List Addr} {H : Hp} {a : Addr} {o : HO} (h : a ∈ cs) : rem cs (upd H a o) = rem cs H := by
  funext b
  by_cases m : b ∈ cs
  · rw [rem_in m, rem_in m]
  · rw [rem_out m, rem_out m, upd_ne fun z => m (by rw [z]; exact h)]
abbrev let26 : List Nat := ("abcdefghijklmnopqrstuvwxyz" : Str).cps.toList
theorem let26_eq : let26 = (List.range 26).map (97 + ·) := by decide +kernel
theorem let26_at (x : Int) : atI let26 (x % 26) = some (lt26 x) := by
  have h : (x % 26).toNat < 26 := by omega
  have key := atI_nat (xs := let26) (j := (x % 26).toNat) (v := lt26 x) (by rw [let26_eq, List.getElem?_map, List.getElem?_range h]; rfl)
  rw [show (((x % 26).toNat : Nat) : Int) = x % 26 by omega] at key
  exact key
section
variable {P : Program} {w : World} {K : PySem.W.Frag} {mg : Str → Option Value} {base : Heap} {aN aD aS : Addr}
def spNames (K : PySem.W.Frag) : Sp := fun vs H Q _ => ∃ (c : Int) (m : Nat), vs = [.int c, .int (m : Nat)] ∧ m ≤ 30 ∧ ∀ (H' : Hp) (p : Addr), Same H H' → H' p = some (.lst ((List.range m).map fun k => V.str (S (nm12 c k)))) → Q (.ref p) H'
abbrev st__law_names : Stmt := top 37
theorem sc__law_names : FnScope ["_law_cell", "_law_many", "_law_letters", "_law_size", "_law_at", "_law_names_here", "_law_k", "_law_name", "_law_j", "_law_step"] ["_law_cell", "_law_many"] (defScope st__law_names) := ⟨rfl, rfl, rfl, by decide +kernel, rfl, by decide +kernel, by decide +kernel⟩
theorem def_names (R : Raw K mg "_law_names" st__law_names ["_law_cell", "_law_many"]) (T : Txt2 K w mg aN aD aS) : Def P w K mg base 1 "_law_names" ["_law_cell", "_law_many"] (spNames K) := by
  refine R.defJ sc__law_names (fun vs H Q E h => ?_) (fun f cdv A outer s H vs Q E hr h => ?_)
  · obtain ⟨c, m, rfl, _⟩ := h
    rfl
  · obtain ⟨c, m, rfl, hm, q⟩ := h
    have sc := sc__law_names
    have hu := hr.units
    have hb := big
    have hsz := sz12_eq c
    have hat := at12_eq c
    refine ⟨_, (jss_cons (js_set (i := 2) sc.nd rfl (Or.inl rfl) j_str)
    (jss_cons (js_set (i := 3) sc.nd rfl (Or.inl rfl) (j_op (o_add (K := K)) j_int (j_op o_mod (jn 0) j_int)))
    (jss_cons (js_set (i := 4) sc.nd rfl (Or.inl rfl) (j_op o_mod (j_op o_div (jn 0) j_int) (jn 3)))
    (jss_cons (js_set (i := 5) sc.nd rfl (Or.inl rfl) (j_lst ja_nil))
    (jss_cons (js_for PassesOwn.never rfl (ji_rng1 rfl T.n_range (ja_cons (jn 1) ja_nil)) (jg_name (i := 6) sc.nd rfl (Or.inl rfl))
    (jss_cons (js_set (i := 7) sc.nd rfl (Or.inl rfl) j_str)
    (jss_cons (js_for PassesOwn.never rfl (ji_rng1 rfl T.n_range (ja_cons (jn 3) ja_nil)) (jg_name (i := 8) sc.nd rfl (Or.inl rfl))
    (jss_cons (js_set (i := 9) sc.nd rfl (Or.inl rfl) (j_op (o_add (K := K)) (j_op o_mul (jn 8) (jn 8)) (j_op o_mul (jn 6) (j_callTy c_intT rfl T.n_int boot_int (ja_cons (j_cmp (o_eq hu (K := K)) (jn 8) (jn 4)) ja_nil)))))
    (jss_one (js_set (i := 7) sc.nd rfl (Or.inl rfl) (j_op (o_add (K := K)) (jn 7) (j_ix (o_ix hu (K := K) (w := w)) (jn 2) (j_op o_mod (j_op (o_add (K := K)) (j_op o_div (jn 0) j_int) (jn 9)) j_int)))))))
    (jss_one (js_expr (j_bm (K := K) PySem.F.plainAttrs_list PySem.F.slot_list_append PySem.F.type_list_append m_append (jn 5) (ja_cons (jn 7) ja_nil)))))))
    (jss_one (js_ret (jn 5)))))))), ?_⟩
    refine ⟨by decide, ⟨by decide, by decide⟩, show (0 : Int) < 1 + c % 12 by omega, ?_⟩
    refine ⟨(show 0 ≤ sizeLine by decide), fun p hp => ?_⟩
    have s1 : Same H (upd H p (.lst [])) := same_new hp
    have h1 : upd H p (.lst []) p = some (.lst []) := upd_same
    generalize upd H p (.lst []) = H1 at s1 h1 ⊢
    refine ⟨by omega, by omega, ?_⟩
    refine for_range (n := ((m : Nat) : Int).toNat) (fun i σ H' => ∃ (v6 v7 v8 v9 : Option V), Same H H' ∧ H' p = some (.lst ((List.range i).map fun k => V.str (S (nm12 c k)))) ∧ σ = [some (.int c), some (.int (m : Nat)), some (.str "abcdefghijklmnopqrstuvwxyz"), some (.int (sz12 c : Nat)), some (.int (at12 c : Nat)), some (.ref p), v6, v7, v8, v9])
      ⟨none, none, none, none, s1, h1, by rw [hsz.1, hat.1]; rfl⟩ ?_ ?_
    · rintro i σ H' hi ⟨v6, v7, v8, v9, s2, hp2, rfl⟩
      refine ⟨show -(2 ^ 62) ≤ ((sz12 c : Nat) : Int) by omega, show ((sz12 c : Nat) : Int) < 2 ^ 62 by omega, ?_⟩
      refine for_range (n := ((sz12 c : Nat) : Int).toNat) (fun j σ H2 => H2 = H' ∧ ∃ (v8 v9 : Option V), σ = [some (.int c), some (.int (m : Nat)), some (.str "abcdefghijklmnopqrstuvwxyz"), some (.int (sz12 c : Nat)), some (.int (at12 c : Nat)), some (.ref p), some (.int (0 + (i : Nat))), some (.str (S ((List.range j).map (nl12 c i)))), v8, v9])
        ⟨rfl, v8, v9, rfl⟩ ?_ ?_
      · rintro j σ H2 hj ⟨rfl, v8, v9, rfl⟩
        have hj12 : j < 12 := by omega
        refine ⟨.inl ⟨by omega, by omega⟩, .inl ⟨by omega, by omega⟩, ⟨by decide, by decide⟩, by decide, by decide +kernel, ?_⟩
        have ev : (0 + (j : Int)) * (0 + (j : Int)) + (0 + ((i : Nat) : Int)) * (if (false ^^ decide ((0 : Int) + (j : Nat) = ((at12 c : Nat) : Int))) = true then 1 else 0) = (j : Int) * (j : Int) + (i : Int) * (if j = at12 c then 1 else 0) := by
          rw [Int.zero_add, Int.zero_add, Bool.false_xor]
          by_cases h : j = at12 c
          · rw [if_pos h, if_pos (decide_eq_true (by omega))]
          · rw [if_neg h, if_neg (fun z => h (by have := of_decide_eq_true z; omega))]
        refine ⟨nl12 c i j, (congrArg (fun z => atI let26 ((c / 144 + z) % 26)) ev).trans (let26_at _), by rw [S_len, List.length_map, List.length_range]; show j + 1 ≤ sizeLine; omega, ?_⟩
        have es : S ((List.range j).map (nl12 c i)) ++ (⟨#[nl12 c i j]⟩ : Str) = S ((List.range (j + 1)).map (nl12 c i)) := by
          rw [List.range_succ, List.map_append]
          exact S_app _ [nl12 c i j]
        rw [es]
        exact ⟨rfl, _, _, rfl⟩
      · rintro σ H2 ⟨rfl, v8, v9, rfl⟩
        refine ⟨.inl ⟨rfl, _, SqL.of hp2⟩, _, hp2, by rw [List.length_map, List.length_range]; omega, ?_⟩
        refine ⟨_, _, _, _, fun b u e => ?_, ?_, rfl⟩
        · rw [upd_ne fun z => by rw [z, hp] at e; cases e]; exact s2 b u e
        · rw [upd_same, List.range_succ, List.map_append]
          rfl
    · rintro σ H' ⟨v6, v7, v8, v9, s2, hp2, rfl⟩
      exact q H' p s2 (by simpa using hp2)
def spMixed : Sp := fun vs H Q _ => ∃ (c k : Int), vs = [.int c, .int k] ∧ ∀ x : Int, 0 ≤ x → x < 2147483587 → Q (.int x) H
abbrev st__law_mixed : Stmt := top 38
theorem sc__law_mixed : FnScope ["_law_cell", "_law_k", "_law_number"] ["_law_cell", "_law_k"] (defScope st__law_mixed) := ⟨rfl, rfl, rfl, by decide +kernel, rfl, by decide +kernel, by decide +kernel⟩
theorem def_mixed (R : Raw K mg "_law_mixed" st__law_mixed ["_law_cell", "_law_k"]) : Def P w K mg base 1 "_law_mixed" ["_law_cell", "_law_k"] spMixed := by
  refine R.defJ sc__law_mixed (fun vs H Q E h => ?_) (fun f cdv A outer s H vs Q E hr h => ?_)
  · obtain ⟨c, k, rfl, _⟩ := h
    rfl
  · obtain ⟨c, k, rfl, q⟩ := h
    have sc := sc__law_mixed
    have hu := hr.units
    refine ⟨_, (jss_cons (js_set (i := 2) sc.nd rfl (Or.inl rfl) (j_op o_mod (j_op (o_add (K := K)) (j_op (o_add (K := K)) (j_op o_mul (j_op o_mod (jn 0) j_int) j_int) (j_op o_mul j_int (jn 1))) j_int) j_int))
    (jss_one (js_ret (j_op o_mod (j_op (o_add (K := K)) (j_op o_mul (jn 2) (jn 2)) (jn 1)) j_int)))), ?_⟩
    refine ⟨by decide, .inr ⟨by decide, by decide⟩, .inl ⟨by decide, by decide⟩, by decide, ?_⟩
    refine ⟨.inl ⟨by omega, by omega⟩, by decide, ?_⟩
    exact q _ (by omega) (by omega)
abbrev sgA : Str := " !\"#$&'()*+,-./0123456789:;<=>?@ABCDEFGHIJKLMNOPQRSTUVWXYZ"
abbrev sgB : Str := "[\\]^_`abcdefghijklmnopqrstuvwxyz{|}~\n"
def okB (c : Nat) : Bool := (decide (32 ≤ c) && decide (c ≤ 126) && c != 37) || c == 10
theorem okB_ok {c : Nat} (h : okB c = true) : okSign c := by
  unfold okB at h
  simp at h
  rcases h with h | h
  · exact .inl ⟨by omega, by omega, by omega⟩
  · exact .inr h
theorem sg_at {x : Int} (h0 : 0 ≤ x) (h1 : x < 95) : ∃ c, atI (sgA ++ sgB).cps.toList x = some c ∧ okSign c := by
  have hl : (sgA ++ sgB).cps.toList.length = 95 := by decide +kernel
  have ha : (sgA ++ sgB).cps.toList.all okB = true := by decide +kernel
  have h2 : x.toNat < (sgA ++ sgB).cps.toList.length := by omega
  have e := List.getElem?_eq_getElem h2
  have hm := List.getElem_mem h2
  generalize (sgA ++ sgB).cps.toList[x.toNat] = v at e hm
  refine ⟨v, ?_, okB_ok (List.all_eq_true.mp ha v hm)⟩
  have key := atI_nat e
  rw [show ((x.toNat : Nat) : Int) = x by omega] at key
  exact key
def spSg : Sp := fun vs H Q _ => vs = [] ∧ Q (.str (sgA ++ sgB)) H
abbrev st__law_signs : Stmt := top 39
theorem sc__law_signs : FnScope ["_law_signs_here"] [] (defScope st__law_signs) := ⟨rfl, rfl, rfl, by decide +kernel, rfl, by decide +kernel, by decide +kernel⟩
theorem def_sg (R : Raw K mg "_law_signs" st__law_signs []) : Def P w K mg base 1 "_law_signs" [] spSg := by
  refine R.defJ sc__law_signs (fun vs H Q E h => ?_) (fun f cdv A outer s H vs Q E hr h => ?_)
  · obtain ⟨rfl, _⟩ := h
    rfl
  · obtain ⟨rfl, q⟩ := h
    have sc := sc__law_signs
    have hu := hr.units
    refine ⟨_, (jss_cons (js_set (i := 0) sc.nd rfl (Or.inl rfl) j_str)
    (jss_one (js_ret (j_op (o_add (K := K)) (jn 0) j_str)))), ?_⟩
    exact ⟨by decide +kernel, q⟩
theorem one_eq (c d : Nat) : decide ((S [c] : Str) = S [d]) = decide (c = d) := by
  by_cases h : c = d
  · subst h; rw [decide_eq_true rfl, decide_eq_true rfl]
  · have h' : ¬ (S [c] : Str) = S [d] := fun z => h (by have := S_inj (a := [c]) (b := [d]) z; simpa using this)
    rw [decide_eq_false h, decide_eq_false h']
def spWr : Sp := fun vs H Q _ => ∃ c : Nat, vs = [.str (S [c])] ∧ Q (.str (S (enc1 c))) H
abbrev st__law_written : Stmt := top 40
theorem sc__law_written : FnScope ["_law_sign"] ["_law_sign"] (defScope st__law_written) := ⟨rfl, rfl, rfl, by decide +kernel, rfl, by decide +kernel, by decide +kernel⟩
theorem def_wr (R : Raw K mg "_law_written" st__law_written ["_law_sign"]) : Def P w K mg base 1 "_law_written" ["_law_sign"] spWr := by
  refine R.defJ sc__law_written (fun vs H Q E h => ?_) (fun f cdv A outer s H vs Q E hr h => ?_)
  · obtain ⟨c, rfl, _⟩ := h
    rfl
  · obtain ⟨c, rfl, q⟩ := h
    have sc := sc__law_written
    have hu := hr.units
    refine ⟨_, (jss_cons (js_if (jt_cmp (o_eq hu (K := K)) (jn 0) j_str)
    (jss_one (js_ret j_str))
    jss_nil)
    (jss_cons (js_if (jt_cmp (o_eq hu (K := K)) (jn 0) j_str)
    (jss_one (js_ret j_str))
    jss_nil)
    (jss_cons (js_if (jt_cmp (o_eq hu (K := K)) (jn 0) j_str)
    (jss_one (js_ret j_str))
    jss_nil)
    (jss_one (js_ret (jn 0)))))), ?_⟩
    show if (false ^^ decide ((S [c] : Str) = S [32])) = true then _ else _
    rw [Bool.false_xor, one_eq]
    refine ite2 (fun h => ?_) (fun h => ?_)
    · have e : c = 32 := of_decide_eq_true h
      subst e
      exact q
    · have n1 : ¬ c = 32 := fun z => h (decide_eq_true z)
      show if (false ^^ decide ((S [c] : Str) = S [10])) = true then _ else _
      rw [Bool.false_xor, one_eq]
      refine ite2 (fun h => ?_) (fun h => ?_)
      · have e : c = 10 := of_decide_eq_true h
        subst e
        exact q
      · have n2 : ¬ c = 10 := fun z => h (decide_eq_true z)
        show if (false ^^ decide ((S [c] : Str) = S [126])) = true then _ else _
        rw [Bool.false_xor, one_eq]
        refine ite2 (fun h => ?_) (fun h => ?_)
        · have e : c = 126 := of_decide_eq_true h
          subst e
          exact q
        · have n3 : ¬ c = 126 := fun z => h (decide_eq_true z)
          have e : enc1 c = [c] := by unfold enc1; simp [n1, n2, n3]
          rw [e] at q
          exact q
end
end K80

set_option Elab.async false
set_option linter.all false
set_option maxRecDepth 100000
set_option maxHeartbeats 4000000



namespace K80
open PySem PySem.Spec PyProof.Rows L2 Rg
theorem wr_enc {c : Nat} (h : okSign c) : ∀ x ∈ enc1 c, wr x ∧ x ≠ 32 := by
  intro x hx
  unfold enc1 at hx
  unfold wr
  rcases h with ⟨h1, h2, h3⟩ | h
  · split at hx
    · simp at hx; omega
    · split at hx
      · simp at hx; omega
      · split at hx
        · simp at hx; omega
        · simp at hx; omega
  · subst h; simp at hx; omega
theorem dec_one (c : Nat) : dec (enc1 c) = some [c] := by
  have := dec_enc [c]
  rw [enc_cons] at this
  simpa [enc] using this
theorem enc1_len (c : Nat) : (enc1 c).length ≤ 2 := by unfold enc1; split <;> (try split) <;> (try split) <;> simp
def runL : Nat → List Nat
  | 0 => small
  | 1 => great
  | _ => figs
def runC : Nat → Nat
  | 0 => 97
  | 1 => 65
  | _ => 48
theorem run_dec : ∀ {r : Nat}, r < 3 → dec [126, runC r] = some (runL r)
  | 0, _ => by decide
  | 1, _ => by decide
  | 2, _ => by decide
  | r + 3, h => by omega
theorem run_len (r : Nat) : (runL r).length = 26 ∨ (runL r).length = 10 := by unfold runL; split <;> decide
theorem run_ok (r : Nat) : ∀ c ∈ runL r, okSign c := by
  have h : ∀ r, (runL r).all okB = true := fun r => by unfold runL; split <;> decide +kernel
  exact fun c hc => okB_ok (List.all_eq_true.mp (h r) c hc)
theorem run_at : ∀ {r : Nat}, r < 3 → atI [V.str "abcdefghijklmnopqrstuvwxyz", .str "ABCDEFGHIJKLMNOPQRSTUVWXYZ", .str "0123456789"] (r : Int) = some (.str (S (runL r))) ∧ atI ("aA0" : Str).cps.toList (r : Int) = some (runC r)
  | 0, _ => ⟨rfl, rfl⟩
  | 1, _ => ⟨rfl, rfl⟩
  | 2, _ => ⟨rfl, rfl⟩
  | r + 3, h => by omega
theorem runC_wr (r : Nat) : wr (runC r) ∧ runC r ≠ 32 := by unfold runC wr; split <;> decide
theorem deed_at : ∀ {d : Nat}, d < 3 → atI ("@^=" : Str).cps.toList (d : Int) = some (deedC d) ∧ atI [V.str "in", .str "out", .str "row"] (d : Int) = some (.str (deedS d))
  | 0, _ => ⟨rfl, rfl⟩
  | 1, _ => ⟨rfl, rfl⟩
  | 2, _ => ⟨rfl, rfl⟩
  | r + 3, h => by omega
abbrev manyVs : List V := [.str "once", .str "maybe", .str "some", .str "any", .str "ahead", .str "not"]
theorem many_at : ∀ {m : Nat}, m < 6 → atI (".?+*>-" : Str).cps.toList (m : Int) = some (manyC m) ∧ atI manyVs (m : Int) = some (.str (manyS m))
  | 0, _ => ⟨rfl, rfl⟩
  | 1, _ => ⟨rfl, rfl⟩
  | 2, _ => ⟨rfl, rfl⟩
  | 3, _ => ⟨rfl, rfl⟩
  | 4, _ => ⟨rfl, rfl⟩
  | 5, _ => ⟨rfl, rfl⟩
  | r + 6, h => by omega
section
variable {P : Program} {w : World} {K : PySem.W.Frag} {mg : Str → Option Value} {base : Heap} {aN aD aS : Addr}
def spPart (K : PySem.W.Frag) : Sp := fun vs H Q _ => ∃ (c : Int), vs = [.int c] ∧ ∀ (H' : Hp) (t tp : Addr) (p : Pt), Same H H' → H' t = some (.tup [.ref tp, .str (S p.txt)]) → H' tp = some (.tup [.str (deedS p.d), .str (S p.l), .str (manyS p.m)]) → p.Ok → Q (.ref t) H'
abbrev st__law_part : Stmt := top 41
theorem sc__law_part : FnScope ["_law_cell", "_law_number", "_law_deed", "_law_many", "_law_signs_here", "_law_told", "_law_k", "_law_at", "_law_run", "_law_kinds"] ["_law_cell"] (defScope st__law_part) := ⟨rfl, rfl, rfl, by decide +kernel, rfl, by decide +kernel, by decide +kernel⟩
theorem def_part (R : Raw K mg "_law_part" st__law_part ["_law_cell"]) (T : Txt2 K w mg aN aD aS) (D__law_mixed : Def P w K mg base 1 "_law_mixed" ["_law_cell", "_law_k"] spMixed) (D__law_signs : Def P w K mg base 1 "_law_signs" [] spSg) (D__law_written : Def P w K mg base 1 "_law_written" ["_law_sign"] spWr) : Def P w K mg base 2 "_law_part" ["_law_cell"] (spPart K) := by
  refine R.defJ sc__law_part (fun vs H Q E h => ?_) (fun f cdv A outer s H vs Q E hr h => ?_)
  · obtain ⟨c, rfl, _⟩ := h
    rfl
  · obtain ⟨c, rfl, q⟩ := h
    have sc := sc__law_part
    have hu := hr.units
    have hb := big
    obtain ⟨u4, hP4, hq4⟩ : ∃ u, JSs (cxOf CX0 P w K mg base ["_law_cell", "_law_number", "_law_deed", "_law_many", "_law_signs_here", "_law_told", "_law_k", "_law_at", "_law_run", "_law_kinds"] "_law_part" (defScope st__law_part) f cdv A outer s H E).nox ((defBody st__law_part).drop 4) u ∧
        ∀ (H1 : Hp) (nu : Int) (d m : Nat), Same H H1 → 0 ≤ nu → d < 3 → m < 6 → (d = 2 → m = 0 ∨ m = 4 ∨ m = 5) → u { nx := fun _ H' => Q .non H', rt := Q } [some (.int c), some (.int nu), some (.int (d : Nat)), some (.int (m : Nat)), none, none, none, none, none, none] H1 := by
      refine ⟨_, (jss_cons (js_set (i := 4) sc.nd rfl (Or.inl rfl) j_str)
    (jss_cons (js_set (i := 5) sc.nd rfl (Or.inl rfl) (j_op (o_add (K := K)) (j_ix (o_ix hu (K := K) (w := w)) j_str (jn 2)) (j_ix (o_ix hu (K := K) (w := w)) j_str (jn 3))))
    (jss_cons (js_for PassesOwn.never rfl (ji_rng1 rfl T.n_range (ja_cons (j_op (o_add (K := K)) j_int (j_op o_mod (j_op o_div (jn 1) j_int) j_int)) ja_nil)) (jg_name (i := 6) sc.nd rfl (Or.inl rfl))
    (jss_cons (js_set (i := 7) sc.nd rfl (Or.inl rfl) (j_op o_mod (j_def D__law_mixed (hr.mono (by decide)) rfl (ja_cons (jn 0) (ja_cons (j_op (o_add (K := K)) j_int (jn 6)) ja_nil))) j_int))
    (jss_one (js_if (jt_cmp o_lt (jn 7) j_int)
    (jss_cons (js_set (i := 4) sc.nd rfl (Or.inl rfl) (j_op (o_add (K := K)) (jn 4) (j_ix (o_ix hu (K := K) (w := w)) (j_def0 D__law_signs (hr.mono (by decide)) rfl) (jn 7))))
    (jss_one (js_set (i := 5) sc.nd rfl (Or.inl rfl) (j_op (o_add (K := K)) (jn 5) (j_def D__law_written (hr.mono (by decide)) rfl (ja_cons (j_ix (o_ix hu (K := K) (w := w)) (j_def0 D__law_signs (hr.mono (by decide)) rfl) (jn 7)) ja_nil))))))
    (jss_one (js_if (jt_cmp o_le (j_callB (c_len (K := K)) rfl T.n_len PySem.boot_len (ja_cons (jn 4) ja_nil)) j_int)
    (jss_cons (js_set (i := 8) sc.nd rfl (Or.inl rfl) (j_ix (o_ix hu (K := K) (w := w)) (j_lst (ja_cons j_str (ja_cons j_str (ja_cons j_str ja_nil)))) (j_op o_sub (jn 7) j_int)))
    (jss_cons (js_set (i := 4) sc.nd rfl (Or.inl rfl) (j_op (o_add (K := K)) (jn 4) (jn 8)))
    (jss_one (js_set (i := 5) sc.nd rfl (Or.inl rfl) (j_op (o_add (K := K)) (j_op (o_add (K := K)) (jn 5) j_str) (j_ix (o_ix hu (K := K) (w := w)) j_str (j_op o_sub (jn 7) j_int)))))))
    jss_nil))))))
    (jss_cons (js_set (i := 9) sc.nd rfl (Or.inl rfl) (j_lst (ja_cons j_str (ja_cons j_str (ja_cons j_str (ja_cons j_str (ja_cons j_str (ja_cons j_str ja_nil))))))))
    (jss_one (js_ret (j_tup (ja_cons (j_tup (ja_cons (j_ix (o_ix hu (K := K) (w := w)) (j_lst (ja_cons j_str (ja_cons j_str (ja_cons j_str ja_nil)))) (jn 2)) (ja_cons (jn 4) (ja_cons (j_ix (o_ix hu (K := K) (w := w)) (jn 9) (jn 3)) ja_nil)))) (ja_cons (jn 5) ja_nil))))))))), ?_⟩
      intro H1 nu d m s1 hnu hd hm hrow
      refine ⟨by decide +kernel, deedC d, (deed_at hd).1, by decide +kernel, manyC m, (many_at hm).1, (show 2 ≤ sizeLine by decide), ?_⟩
      refine ⟨⟨by decide, by decide⟩, by decide, show -(2 ^ 62) ≤ 1 + nu / 18 % 6 by omega, show 1 + nu / 18 % 6 < 2 ^ 62 by omega, ?_⟩
      refine for_range (n := (1 + nu / 18 % 6).toNat) (fun j σ H' => ∃ (l t : List Nat) (a b e : Nat) (v6 v7 v8 : Option V), Same H1 H' ∧ l.length = a + 10 * b + 26 * e ∧ a + b + e ≤ j ∧ l.length ≤ 94 + j ∧ (0 < j → 1 ≤ l.length) ∧ (∀ c ∈ l, okSign c) ∧ dec t = some l ∧ t.length ≤ 2 * j ∧ (∀ c ∈ t, wr c ∧ c ≠ 32) ∧
          σ = [some (.int c), some (.int nu), some (.int (d : Nat)), some (.int (m : Nat)), some (.str (S l)), some (.str (S (deedC d :: manyC m :: t))), v6, v7, v8, none])
        ⟨[], [], 0, 0, 0, none, none, none, Same.refl _, rfl, Nat.le_refl _, by simp, (fun z => by omega), (fun c hc => by cases hc), by decide, Nat.le_refl _, (fun c hc => by cases hc), rfl⟩ ?_ ?_
      · rintro j σ H' hj ⟨l, t, a, b, e, v6, v7, v8, s2, hle, hj', hlb, hl1, hlok, hdec, htl, htw, rfl⟩
        have hj6 : j < 6 := by omega
        refine ⟨_, _, rfl, fun x hx0 hx1 => ?_⟩
        refine ⟨by decide, ?_⟩
        have ha0 : 0 ≤ x % 98 := by omega
        have ha1 : x % 98 < 98 := by omega
        generalize hxa : x % 98 = xa at ha0 ha1
        dsimp only [gName]
        show if decide (xa < (95 : Int)) = true then _ else _
        refine ite2 (fun h => ?_) (fun h => ?_)
        · obtain ⟨ch, ec, hok⟩ := sg_at ha0 (of_decide_eq_true h)
          refine ⟨rfl, by decide +kernel, ch, ec, by rw [S_len]; show l.length + 1 ≤ sizeLine; omega, ?_⟩
          refine ⟨rfl, by decide +kernel, ch, ec, ?_⟩
          refine ⟨ch, rfl, ?_⟩
          have hel := enc1_len ch
          refine ⟨by rw [S_len, S_len]; simp; omega, ?_⟩
          have e1 : S l ++ (⟨#[ch]⟩ : Str) = S (l ++ [ch]) := S_app l [ch]
          have e2 : S (deedC d :: manyC m :: t) ++ S (enc1 ch) = S (deedC d :: manyC m :: (t ++ enc1 ch)) := by rw [S_app]; rfl
          rw [e1, e2]
          refine ⟨l ++ [ch], t ++ enc1 ch, a + 1, b, e, _, _, _, s2, by rw [List.length_append]; show l.length + 1 = _; omega, by omega, by rw [List.length_append]; show l.length + 1 ≤ _; omega, fun _ => by rw [List.length_append]; show 1 ≤ l.length + 1; omega, fun z hz => ?_, dec_append _ t l _ _ (Nat.le_refl _) hdec (dec_one ch), by rw [List.length_append]; omega, fun z hz => ?_, rfl⟩
          · rcases List.mem_append.mp hz with y | y
            · exact hlok z y
            · rw [List.mem_singleton.mp y]; exact hok
          · rcases List.mem_append.mp hz with y | y
            · exact htw z y
            · exact wr_enc hok z y
        · have h95 : ¬ xa < 95 := fun z => h (decide_eq_true z)
          refine ⟨by rw [S_len]; omega, ?_⟩
          rw [S_len]
          show if decide (((l.length : Nat) : Int) ≤ (74 : Int)) = true then _ else _
          refine ite2 (fun h => ?_) (fun h => ?_)
          · have h74 : l.length ≤ 74 := by have := of_decide_eq_true h; omega
            obtain ⟨r, hr3, er⟩ : ∃ r : Nat, r < 3 ∧ xa - 95 = ((r : Nat) : Int) := ⟨(xa - 95).toNat, by omega, by omega⟩
            refine ⟨(show 3 ≤ sizeLine by decide), fun p3 hp3 => ?_⟩
            have s3 : Same H' (upd H' p3 (.lst [.str "abcdefghijklmnopqrstuvwxyz", .str "ABCDEFGHIJKLMNOPQRSTUVWXYZ", .str "0123456789"])) := same_new hp3
            have h3 : upd H' p3 (.lst [.str "abcdefghijklmnopqrstuvwxyz", .str "ABCDEFGHIJKLMNOPQRSTUVWXYZ", .str "0123456789"]) p3 = some (.lst [.str "abcdefghijklmnopqrstuvwxyz", .str "ABCDEFGHIJKLMNOPQRSTUVWXYZ", .str "0123456789"]) := upd_same
            generalize upd H' p3 (.lst [.str "abcdefghijklmnopqrstuvwxyz", .str "ABCDEFGHIJKLMNOPQRSTUVWXYZ", .str "0123456789"]) = H3 at s3 h3 ⊢
            have hrl := run_len r
            refine .inl ⟨_, .str (S (runL r)), SqL.of h3, by rw [er]; exact (run_at hr3).1, by rw [S_len, S_len]; omega, ?_⟩
            refine ⟨by rw [show ("~" : Str).length = 1 by decide +kernel, S_len]; simp; omega, by decide +kernel, runC r, by rw [er]; exact (run_at hr3).2, ?_⟩
            have e0 : S (deedC d :: manyC m :: t) ++ ("~" : Str) = S (deedC d :: manyC m :: (t ++ [126])) := by rw [show ("~" : Str) = S [126] from rfl, S_app]; rfl
            rw [e0]
            refine ⟨by rw [S_len]; show _ + 1 ≤ sizeLine; simp; omega, ?_⟩
            have e1 : S l ++ S (runL r) = S (l ++ runL r) := S_app _ _
            have e2 : S (deedC d :: manyC m :: (t ++ [126])) ++ (⟨#[runC r]⟩ : Str) = S (deedC d :: manyC m :: (t ++ [126, runC r])) := by
              have := S_app (deedC d :: manyC m :: (t ++ [126])) [runC r]
              rw [show (⟨#[runC r]⟩ : Str) = S [runC r] from rfl, this]
              simp
            rw [e1, e2]
            have hd2 := dec_append _ t l _ _ (Nat.le_refl _) hdec (run_dec hr3)
            have hw2 : ∀ z ∈ t ++ [126, runC r], wr z ∧ z ≠ 32 := fun z hz => by
              rcases List.mem_append.mp hz with y | y
              · exact htw z y
              · simp at y
                rcases y with y | y
                · rw [y]; exact ⟨⟨by decide, by decide, by decide⟩, by decide⟩
                · rw [y]; exact runC_wr r
            have hl2 : ∀ z ∈ l ++ runL r, okSign z := fun z hz => by
              rcases List.mem_append.mp hz with y | y
              · exact hlok z y
              · exact run_ok r z y
            rcases hrl with hrl | hrl
            · exact ⟨l ++ runL r, t ++ [126, runC r], a, b, e + 1, _, _, _, s2.trans s3, by rw [List.length_append]; omega, by omega, by rw [List.length_append]; omega, (fun _ => by rw [List.length_append]; omega), hl2, hd2, by rw [List.length_append]; simp; omega, hw2, rfl⟩
            · exact ⟨l ++ runL r, t ++ [126, runC r], a, b + 1, e, _, _, _, s2.trans s3, by rw [List.length_append]; omega, by omega, by rw [List.length_append]; omega, (fun _ => by rw [List.length_append]; omega), hl2, hd2, by rw [List.length_append]; simp; omega, hw2, rfl⟩
          · have h74 : ¬ l.length ≤ 74 := fun z => h (decide_eq_true (by omega))
            exact ⟨l, t, a, b, e, _, _, _, s2, hle, by omega, by omega, (fun _ => by omega), hlok, hdec, by omega, htw, rfl⟩
      · rintro σ H' ⟨l, t, a, b, e, v6, v7, v8, s2, hle, hj', hlb, hl1, hlok, hdec, htl, htw, rfl⟩
        have hn6 : (1 + nu / 18 % 6).toNat ≤ 6 := by omega
        have hn1 : 0 < (1 + nu / 18 % 6).toNat := by omega
        have hok : Pt.Ok ⟨d, m, l, t⟩ := ⟨hd, hm, hrow, hl1 hn1, by show l.length ≤ 100; omega, hlok, hdec, by show t.length ≤ 200; omega, htw⟩
        refine ⟨(show 6 ≤ sizeLine by decide), fun p3 hp3 => ?_⟩
        have s3 : Same H' (upd H' p3 (.lst manyVs)) := same_new hp3
        have h3 : upd H' p3 (.lst manyVs) p3 = some (.lst manyVs) := upd_same
        generalize upd H' p3 (.lst manyVs) = H3 at s3 h3 ⊢
        refine ⟨(show 3 ≤ sizeLine by decide), fun p4 hp4 => ?_⟩
        have s4 : Same H3 (upd H3 p4 (.lst [.str "in", .str "out", .str "row"])) := same_new hp4
        have h4 : upd H3 p4 (.lst [.str "in", .str "out", .str "row"]) p4 = some (.lst [.str "in", .str "out", .str "row"]) := upd_same
        generalize upd H3 p4 (.lst [.str "in", .str "out", .str "row"]) = H4 at s4 h4 ⊢
        refine .inl ⟨_, .str (deedS d), SqL.of h4, (deed_at hd).2, .inl ⟨_, .str (manyS m), SqL.of (s4 _ _ h3), (many_at hm).2, ?_⟩⟩
        refine ⟨(show 3 ≤ sizeLine by decide), fun t5 ht5 => ?_⟩
        have s5 : Same H4 (upd H4 t5 (.tup [.str (deedS d), .str (S l), .str (manyS m)])) := same_new ht5
        have h5 : upd H4 t5 (.tup [.str (deedS d), .str (S l), .str (manyS m)]) t5 = some (.tup [.str (deedS d), .str (S l), .str (manyS m)]) := upd_same
        generalize upd H4 t5 (.tup [.str (deedS d), .str (S l), .str (manyS m)]) = H5 at s5 h5 ⊢
        refine ⟨(show 2 ≤ sizeLine by decide), fun t6 ht6 => ?_⟩
        have s6 : Same H5 (upd H5 t6 (.tup [.ref t5, .str (S (deedC d :: manyC m :: t))])) := same_new ht6
        exact q _ t6 t5 ⟨d, m, l, t⟩ ((((s1.trans s2).trans s3).trans s4).trans (s5.trans s6)) upd_same (s6 _ _ h5) hok
    refine ⟨_, (jss_cons (js_set (i := 1) sc.nd rfl (Or.inl rfl) (j_def D__law_mixed (hr.mono (by decide)) rfl (ja_cons (jn 0) (ja_cons j_int ja_nil))))
    (jss_cons (js_set (i := 2) sc.nd rfl (Or.inl rfl) (j_op o_mod (jn 1) j_int))
    (jss_cons (js_set (i := 3) sc.nd rfl (Or.inl rfl) (j_op o_mod (j_op o_div (jn 1) j_int) j_int))
    (jss_cons (js_if (jt_cmp (o_eq hu (K := K)) (jn 2) j_int)
    (jss_one (js_set (i := 3) sc.nd rfl (Or.inl rfl) (j_ix (o_ix hu (K := K) (w := w)) (j_lst (ja_cons j_int (ja_cons j_int (ja_cons j_int ja_nil)))) (j_op o_mod (j_op o_div (jn 1) j_int) j_int))))
    jss_nil)
    hP4)))), ?_⟩
    refine ⟨_, _, rfl, fun nu hn0 hn1 => ?_⟩
    refine ⟨by decide, ⟨by decide, by decide⟩, by decide, ?_⟩
    obtain ⟨d, ed, hd⟩ : ∃ d : Nat, nu % 3 = ((d : Nat) : Int) ∧ d < 3 := ⟨(nu % 3).toNat, by omega, by omega⟩
    obtain ⟨m, em, hm⟩ : ∃ m : Nat, nu / 3 % 6 = ((m : Nat) : Int) ∧ m < 6 := ⟨(nu / 3 % 6).toNat, by omega, by omega⟩
    dsimp only [gName]
    rw [ed, em]
    show if (false ^^ decide (((d : Nat) : Int) = 2)) = true then _ else _
    rw [Bool.false_xor]
    refine ite2 (fun h => ?_) (fun h => ?_)
    · have h2 : d = 2 := by have := of_decide_eq_true h; omega
      refine ⟨(show 3 ≤ sizeLine by decide), fun p3 hp3 => ?_⟩
      have s3 : Same H (upd H p3 (.lst [.int 0, .int 4, .int 5])) := same_new hp3
      have h3 : upd H p3 (.lst [.int 0, .int 4, .int 5]) p3 = some (.lst [.int 0, .int 4, .int 5]) := upd_same
      generalize upd H p3 (.lst [.int 0, .int 4, .int 5]) = H3 at s3 h3 ⊢
      obtain ⟨m2, em2, hm2⟩ : ∃ m2 : Nat, atI [V.int 0, .int 4, .int 5] (nu / 3 % 3) = some (.int (m2 : Nat)) ∧ (m2 = 0 ∨ m2 = 4 ∨ m2 = 5) := by
        have : nu / 3 % 3 = 0 ∨ nu / 3 % 3 = 1 ∨ nu / 3 % 3 = 2 := by omega
        rcases this with e | e | e <;> rw [e]
        · exact ⟨0, rfl, .inl rfl⟩
        · exact ⟨4, rfl, .inr (.inl rfl)⟩
        · exact ⟨5, rfl, .inr (.inr rfl)⟩
      refine ⟨⟨by decide, by decide⟩, by decide, .inl ⟨_, _, SqL.of h3, em2, ?_⟩⟩
      exact hq4 H3 nu d m2 s3 hn0 hd (by omega) (fun _ => hm2)
    · exact hq4 H nu d m (Same.refl _) hn0 hd hm (fun z => absurd (decide_eq_true (by omega)) h)
def spForm (K : PySem.W.Frag) : Sp := fun vs H Q _ => ∃ (c : Int), vs = [.int c] ∧ ∀ (H' : Hp) (t fp : Addr) (fv : List V) (ps : List Pt), Same H H' → H' t = some (.tup [.ref fp, .str (S (joinWith [32] (ps.map Pt.txt)))]) → H' fp = some (.lst fv) → H fp = none → DatVs K (rem [fp] H') fv (ps.map Pt.dat) → (∀ p ∈ ps, p.Ok) → ps ≠ [] → ps.length ≤ 12 → Q (.ref t) H'
abbrev st__law_form : Stmt := top 42
theorem sc__law_form : FnScope ["_law_cell", "_law_form_here", "_law_told", "_law_k", "_law_part_here", "_law_text"] ["_law_cell"] (defScope st__law_form) := ⟨rfl, rfl, rfl, by decide +kernel, rfl, by decide +kernel, by decide +kernel⟩
theorem def_form (R : Raw K mg "_law_form" st__law_form ["_law_cell"]) (T : Txt2 K w mg aN aD aS) (D__law_mixed : Def P w K mg base 1 "_law_mixed" ["_law_cell", "_law_k"] spMixed) (D__law_part : Def P w K mg base 2 "_law_part" ["_law_cell"] (spPart K)) : Def P w K mg base 3 "_law_form" ["_law_cell"] (spForm K) := by
  refine R.defJ sc__law_form (fun vs H Q E h => ?_) (fun f cdv A outer s H vs Q E hr h => ?_)
  · obtain ⟨c, rfl, _⟩ := h
    rfl
  · obtain ⟨c, rfl, q⟩ := h
    have sc := sc__law_form
    have hu := hr.units
    have hb := big
    refine ⟨_, (jss_cons (js_set (i := 1) sc.nd rfl (Or.inl rfl) (j_lst ja_nil))
    (jss_cons (js_set (i := 2) sc.nd rfl (Or.inl rfl) (j_lst ja_nil))
    (jss_cons (js_for PassesOwn.never rfl (ji_rng1 rfl T.n_range (ja_cons (j_op (o_add (K := K)) j_int (j_op o_mod (j_def D__law_mixed (hr.mono (by decide)) rfl (ja_cons (jn 0) (ja_cons j_int ja_nil))) j_int)) ja_nil)) (jg_name (i := 3) sc.nd rfl (Or.inl rfl))
    (jss_cons (js_asg (j_def D__law_part (hr.mono (by decide)) rfl (ja_cons (j_def D__law_mixed (hr.mono (by decide)) rfl (ja_cons (jn 0) (ja_cons (j_op (o_add (K := K)) j_int (jn 3)) ja_nil))) ja_nil)) (jg_tup (K := K) (n := 2) rfl (jgs_cons (jg_name (i := 4) sc.nd rfl (Or.inl rfl)) (jgs_cons (jg_name (i := 5) sc.nd rfl (Or.inl rfl)) jgs_nil))))
    (jss_cons (js_expr (j_bm (K := K) PySem.F.plainAttrs_list PySem.F.slot_list_append PySem.F.type_list_append m_append (jn 1) (ja_cons (jn 4) ja_nil)))
    (jss_one (js_expr (j_bm (K := K) PySem.F.plainAttrs_list PySem.F.slot_list_append PySem.F.type_list_append m_append (jn 2) (ja_cons (jn 5) ja_nil)))))))
    (jss_one (js_ret (j_tup (ja_cons (jn 1) (ja_cons (j_bm (K := K) PySem.F.plainAttrs_str PySem.F.slot_str_join PySem.F.type_str_join (m_join (K := K)) j_str (ja_cons (jn 2) ja_nil)) ja_nil)))))))), ?_⟩
    refine ⟨(show 0 ≤ sizeLine by decide), fun fp hfp => ?_⟩
    have s1 : Same H (upd H fp (.lst [])) := same_new hfp
    have h1 : upd H fp (.lst []) fp = some (.lst []) := upd_same
    generalize upd H fp (.lst []) = H1 at s1 h1 ⊢
    refine ⟨(show 0 ≤ sizeLine by decide), fun tp htp => ?_⟩
    have s2 : Same H1 (upd H1 tp (.lst [])) := same_new htp
    have h2 : upd H1 tp (.lst []) tp = some (.lst []) := upd_same
    have nft : fp ≠ tp := fun z => by rw [← z, h1] at htp; cases htp
    have htp0 : H tp = none := s1.free htp
    generalize upd H1 tp (.lst []) = H2 at s2 h2 ⊢
    refine ⟨_, _, rfl, fun x0 hx0 hx1 => ?_⟩
    refine ⟨by decide, show -(2 ^ 62) ≤ 1 + x0 % 12 by omega, show 1 + x0 % 12 < 2 ^ 62 by omega, ?_⟩
    refine for_range (n := (1 + x0 % 12).toNat) (fun j σ H' => ∃ (fv : List V) (ps : List Pt) (v3 v4 v5 : Option V), Same H H' ∧ H' fp = some (.lst fv) ∧ H' tp = some (.lst (ps.map fun p => V.str (S p.txt))) ∧ DatVs K (rem [fp, tp] H') fv (ps.map Pt.dat) ∧ ps.length = j ∧ (∀ p ∈ ps, p.Ok) ∧
        σ = [some (.int c), some (.ref fp), some (.ref tp), v3, v4, v5])
      ⟨[], [], none, none, none, s1.trans s2, s2 _ _ h1, h2, .nil, rfl, (fun p hp => by cases hp), rfl⟩ ?_ ?_
    · rintro j σ H' hj ⟨fv, ps, v3, v4, v5, sm, hfv, htv, hD, hpl, hok, rfl⟩
      have hfl : fv.length = ps.length := by have := hD.length; rw [List.length_map] at this; exact this
      refine ⟨_, _, rfl, fun x hx0 hx1 => ?_⟩
      refine ⟨_, rfl, fun H3 t ta p s3 hT hTa hp => ?_⟩
      refine ⟨t, _, rfl, SqT.of hT, rfl, _, _, rfl, _, _, rfl, rfl, ?_⟩
      refine ⟨.inl ⟨rfl, _, SqL.of (s3 _ _ hfv)⟩, fv, s3 _ _ hfv, by omega, ?_⟩
      have t4 : upd H3 fp (.lst (fv ++ [.ref ta])) tp = some (.lst (ps.map fun p => V.str (S p.txt))) := by rw [upd_ne nft.symm]; exact s3 _ _ htv
      have f4 : upd H3 fp (.lst (fv ++ [.ref ta])) fp = some (.lst (fv ++ [.ref ta])) := upd_same
      have e4 : rem [fp, tp] (upd H3 fp (.lst (fv ++ [.ref ta]))) = rem [fp, tp] H3 := rem_upd_in List.mem_cons_self
      have s4 : Same H (upd H3 fp (.lst (fv ++ [.ref ta]))) := fun b u e => by rw [upd_ne fun z => by rw [z, hfp] at e; cases e]; exact s3 _ _ (sm b u e)
      generalize upd H3 fp (.lst (fv ++ [.ref ta])) = H4 at t4 f4 e4 s4 ⊢
      refine ⟨.inl ⟨rfl, _, SqL.of t4⟩, _, t4, by rw [List.length_map]; omega, ?_⟩
      refine ⟨fv ++ [.ref ta], ps ++ [p], _, _, _, fun b u e => ?_, by rw [upd_ne nft]; exact f4, by rw [upd_same, List.map_append]; rfl, ?_, by rw [List.length_append, hpl]; rfl, fun x hx => ?_, rfl⟩
      · rw [upd_ne fun z => by rw [z, htp0] at e; cases e]; exact s4 b u e
      · rw [rem_upd_in (List.mem_cons_of_mem _ List.mem_cons_self), e4, List.map_append]
        have n1 : ta ≠ fp := fun z => by rw [z, s3 _ _ hfv] at hTa; cases hTa
        have n2 : ta ≠ tp := fun z => by rw [z, s3 _ _ htv] at hTa; cases hTa
        have r1 : rem [fp, tp] H3 ta = some (.tup [.str (deedS p.d), .str (S p.l), .str (manyS p.m)]) := by rw [rem_out (by simp [n1, n2])]; exact hTa
        exact DatVs.snoc (.tuple (SqT.of r1) (.cons (.str _) (.cons (.str _) (.cons (.str _) .nil)))) (hD.same (rem_le s3))
      · rcases List.mem_append.mp hx with z | z
        · exact hok x z
        · rw [List.mem_singleton.mp z]; exact hp
    · rintro σ H' ⟨fv, ps, v3, v4, v5, sm, hfv, htv, hD, hpl, hok, rfl⟩
      have h12 : ps.length ≤ 12 := by omega
      have hne : ps ≠ [] := fun z => by rw [z] at hpl; simp at hpl; omega
      refine ⟨rfl, ps.map fun p => S p.txt, by rw [List.map_map]; exact SqL.of htv, joinOk12 hok h12, ?_⟩
      rw [join12]
      refine ⟨(show 2 ≤ sizeLine by decide), fun t ht => ?_⟩
      have s3 : Same H' (upd H' t (.tup [.ref fp, .str (S (joinWith [32] (ps.map Pt.txt)))])) := same_new ht
      refine q _ t fp fv ps (sm.trans s3) upd_same (s3 _ _ hfv) hfp ((hD.same fun b u e => ?_).same (rem_le s3)) hok hne h12
      have nb : b ∉ [fp, tp] := fun m => by rw [rem_in m] at e; cases e
      rw [rem_out nb] at e
      rw [rem_out (fun m => nb (by rw [List.mem_singleton.mp m]; simp))]
      exact e
end
end K80

set_option Elab.async false
set_option linter.all false
set_option maxRecDepth 100000
set_option maxHeartbeats 4000000




namespace K80
open PySem PySem.Spec PyProof.Rows L2 Rg
section
variable {P : Program} {w : World} {K : PySem.W.Frag} {mg : Str → Option Value} {base : Heap} {aN aD aS : Addr}
theorem le1 {c d : Nat} (h : c ≤ d) : (!decide ((S [d]).cps.toList < (S [c]).cps.toList)) = true := by
  show (!decide (([d] : List Nat) < [c])) = true
  rw [lt1, decide_eq_false (by omega)]; rfl
theorem eqS_ne {l m : List Nat} (h : l ≠ m) : decide ((S l : Str) = S m) = false := decide_eq_false fun z => h (S_inj z)
theorem eqS_eq {l m : List Nat} : decide ((S l : Str) = S m) = decide (l = m) := by
  by_cases h : l = m
  · rw [decide_eq_true h, h]; exact decide_eq_true rfl
  · rw [decide_eq_false h, eqS_ne h]
theorem beqS {l m : List Nat} : ((S l : Str) == S m) = decide (l = m) := by
  rw [← eqS_eq]
  by_cases h : (S l : Str) = S m
  · rw [decide_eq_true h]; exact beq_iff_eq.mpr h
  · rw [decide_eq_false h]; exact Bool.eq_false_iff.mpr fun z => h (beq_iff_eq.mp z)
theorem bls_true (i : Nat) : bls (List.replicate i true) ++ [V.bl true] = bls (List.replicate (i + 1) true) := by
  unfold bls
  rw [List.replicate_succ', List.map_append]
  rfl
theorem all_true (i : Nat) : (List.replicate i true).all id = true := by simp
def spIsK : Sp := fun vs H Q _ => ∃ l : List Nat, vs = [.str (S l)] ∧ KOk l ∧ ∀ H', Same H H' → Q (.bl true) H'
abbrev st_is_kind : Stmt := top 26
theorem sc_is_kind : FnScope ["word"] ["word"] (defScope st_is_kind) := ⟨rfl, rfl, rfl, by decide +kernel, rfl, by decide +kernel, by decide +kernel⟩
theorem def_isK (R : Raw K mg "is_kind" st_is_kind ["word"]) (T : Txt2 K w mg aN aD aS) : Def P w K mg base 1 "is_kind" ["word"] spIsK := by
  refine R.defJ sc_is_kind (fun vs H Q E h => ?_) (fun f cdv A outer s H vs Q E hr h => ?_)
  · obtain ⟨l, rfl, _⟩ := h
    rfl
  · obtain ⟨l, rfl, hk, q⟩ := h
    have sc := sc_is_kind
    have hu := hr.units
    have hb := big
    have h12 := hk.l2
    have h1 := hk.l1
    refine ⟨_, (jss_one (js_ret (j_and (j_chain o_le o_le j_int (j_callB (c_len (K := K)) rfl T.n_len PySem.boot_len (ja_cons (jn 0) ja_nil)) (j_gint rfl T.g_MOST_LETTERS)) (j_and (j_callB (c_all rfl (K := K)) rfl T.n_all boot_all (ja_cons (j_comp (N := ["sign"]) (cap := [none]) rfl (CompScope.of rfl (by rfl)) (ji_any (K := K) (jn 0)) (fun _ _ _ _ => (jg_name (i := 0) (show List.Nodup [("sign" : Str)] by decide +kernel) rfl (Or.inl rfl))) (fun _ _ _ _ => jts_nil) (fun _ _ _ _ => (j_chain o_le o_le j_str (jn 0) j_str))) ja_nil)) (j_one (j_cmp (o_notinA hu (K := K)) (jn 0) (j_glob (v := .ref _) rfl T.g_NO_KINDS rfl))))))), ?_⟩
    refine ⟨by rw [S_len]; omega, ?_⟩
    rw [S_len]
    refine (if_pos (show decide ((1 : Int) ≤ ((l.length : Nat) : Int)) = true from decide_eq_true (by omega))).mpr ?_
    refine (if_pos (show decide (((l.length : Nat) : Int) ≤ 12) = true from decide_eq_true (by omega))).mpr ?_
    refine gath_str (x := S l) (fun i ys σ' H' => H' = H ∧ ys = bls (List.replicate i true) ∧ ∃ v, σ' = [v]) (by show l.toArray.size ≤ _; simp; omega) ⟨rfl, rfl, none, rfl⟩ (fun i ys σ' H' h => by rw [h.2.1]; unfold bls; simp) ?_ ?_
    · rintro i c ys σ' H' hi ⟨rfl, rfl, v, rfl⟩
      have hc : c ∈ l := by
        have : l[i]? = some c := by simpa using hi
        exact List.mem_of_getElem? this
      have haz := hk.az c hc
      refine (if_pos (le1 (c := 97) (d := c) haz.1)).mpr ?_
      refine ⟨rfl, ?_, _, rfl⟩
      rw [← bls_true i]
      have := le1 (c := c) (d := 122) haz.2
      exact congrArg (fun z => bls (List.replicate i true) ++ [V.bl z]) this
    · rintro ys σ' H' ⟨rfl, rfl, v, rfl⟩ D hD
      refine ⟨List.replicate (S l).cps.size true, SqL.of upd_same, ?_⟩
      rw [all_true]
      refine (if_pos rfl).mpr ?_
      refine .inl ⟨_, .inr (T.k_NO _), rfl, rfl, ?_⟩
      have e : (true ^^ inV (.str (S l)) [.str "end", .str "stray"]) = true := by
        have e1 : ((S [101, 110, 100] : Str) == S l) = false := by rw [beqS]; exact decide_eq_false fun z => hk.ne z.symm
        have e2 : ((S [115, 116, 114, 97, 121] : Str) == S l) = false := by rw [beqS]; exact decide_eq_false fun z => hk.ns z.symm
        show (true ^^ (((S [101, 110, 100] : Str) == S l) || (((S [115, 116, 114, 97, 121] : Str) == S l) || false))) = true
        rw [e1, e2]; rfl
      have q' := q _ (same_new (o := .lst (bls (List.replicate (S l).cps.size true))) hD)
      exact Eq.mpr (congrArg (fun z => Q (.bl z) _) e) q'
def spKA (K : PySem.W.Frag) : Sp := fun vs H Q _ => ∃ (a : Addr) (xs : List V) (k : Nat) (l : List Nat), vs = [.ref a, .int (k : Nat)] ∧ SqL K H a xs ∧ xs[k]? = some (.str (S l)) ∧ KOk l ∧ ∀ H', Same H H' → Q (.str (S l)) H'
abbrev st_kind_at : Stmt := top 25
theorem sc_kind_at : FnScope ["words", "place", "word"] ["words", "place"] (defScope st_kind_at) := ⟨rfl, rfl, rfl, by decide +kernel, rfl, by decide +kernel, by decide +kernel⟩
theorem def_kAt (R : Raw K mg "kind_at" st_kind_at ["words", "place"]) (T : Txt2 K w mg aN aD aS) (D_is_kind : Def P w K mg base 1 "is_kind" ["word"] spIsK) : Def P w K mg base 2 "kind_at" ["words", "place"] (spKA K) := by
  refine R.defJ sc_kind_at (fun vs H Q E h => ?_) (fun f cdv A outer s H vs Q E hr h => ?_)
  · obtain ⟨a, xs, k, l, rfl, _⟩ := h
    rfl
  · obtain ⟨a, xs, k, l, rfl, hS, hk, ok, q⟩ := h
    have sc := sc_kind_at
    have hu := hr.units
    refine ⟨_, (jss_cons (js_set (i := 2) sc.nd rfl (Or.inl rfl) (j_ife (jt_cmp o_lt (jn 1) (j_callB (c_len (K := K)) rfl T.n_len PySem.boot_len (ja_cons (jn 0) ja_nil))) (j_ix (o_ix hu (K := K) (w := w)) (jn 0) (jn 1)) j_str))
    (jss_cons (js_if (jt_not (jt_val (j_def D_is_kind (hr.mono (by decide)) rfl (ja_cons (jn 2) ja_nil))))
    (jss_one js_never)
    jss_nil)
    (jss_one (js_ret (jn 2))))), ?_⟩
    have hkl := (List.getElem?_eq_some_iff.mp hk).1
    refine ⟨_, .inl hS, ?_⟩
    refine (if_pos (show decide (((k : Nat) : Int) < ((xs.length : Nat) : Int)) = true from decide_eq_true (by omega))).mpr ?_
    refine .inl ⟨_, _, hS, atI_nat hk, ?_⟩
    refine ⟨l, rfl, ok, fun H' s' => ?_⟩
    exact q H' s'
def rk (n : Nat) : List Nat := (Str.ofString (toString ((n : Nat) : Int))).cps.toList
def rkB (n : Nat) : Bool := (rk n).all (fun c => decide (48 ≤ c) && decide (c ≤ 57)) && (decide ((rk n).length = 1) || (decide ((rk n).length = 2) && decide ((rk n)[0]? ≠ some 48)))
theorem rk_all : (List.range 100).all rkB = true := by decide +kernel
theorem rk_ok {n : Nat} (h : n < 100) : (∀ c ∈ rk n, 48 ≤ c ∧ c ≤ 57) ∧ ((rk n).length = 1 ∨ (rk n).length = 2 ∧ (rk n)[0]? ≠ some 48) := by
  have h1 := List.all_eq_true.mp rk_all n (List.mem_range.mpr h)
  unfold rkB at h1
  simp only [Bool.and_eq_true, Bool.or_eq_true, decide_eq_true_eq, List.all_eq_true] at h1
  exact h1
theorem rk_S (n : Nat) : S (rk n) = Str.ofString (toString ((n : Nat) : Int)) := (S_of _).symm
def spRank : Sp := fun vs H Q _ => ∃ n : Nat, vs = [.str (S (rk n))] ∧ n < 100 ∧ ∀ H', Same H H' → Q (.bl true) H'
abbrev st_is_rank : Stmt := top 30
theorem sc_is_rank : FnScope ["word"] ["word"] (defScope st_is_rank) := ⟨rfl, rfl, rfl, by decide +kernel, rfl, by decide +kernel, by decide +kernel⟩
theorem def_rank (R : Raw K mg "is_rank" st_is_rank ["word"]) (T : Txt2 K w mg aN aD aS) : Def P w K mg base 1 "is_rank" ["word"] spRank := by
  refine R.defJ sc_is_rank (fun vs H Q E h => ?_) (fun f cdv A outer s H vs Q E hr h => ?_)
  · obtain ⟨n, rfl, _⟩ := h
    rfl
  · obtain ⟨n, rfl, hn, q⟩ := h
    have sc := sc_is_rank
    have hu := hr.units
    have hb := big
    obtain ⟨hc, hl⟩ := rk_ok hn
    generalize rk n = l at hc hl ⊢
    have hl2 : l.length ≤ 2 := by omega
    refine ⟨_, (jss_cons (js_if (jt_not (jt_val (j_callB (c_all rfl (K := K)) rfl T.n_all boot_all (ja_cons (j_comp (N := ["sign"]) (cap := [none]) rfl (CompScope.of rfl (by rfl)) (ji_any (K := K) (jn 0)) (fun _ _ _ _ => (jg_name (i := 0) (show List.Nodup [("sign" : Str)] by decide +kernel) rfl (Or.inl rfl))) (fun _ _ _ _ => jts_nil) (fun _ _ _ _ => (j_chain o_le o_le j_str (jn 0) j_str))) ja_nil))))
    (jss_one (js_ret j_bl))
    jss_nil)
    (jss_one (js_ret (j_or (j_cmp (o_eq hu (K := K)) (j_callB (c_len (K := K)) rfl T.n_len PySem.boot_len (ja_cons (jn 0) ja_nil)) j_int) (j_one (j_and (j_cmp (o_eq hu (K := K)) (j_callB (c_len (K := K)) rfl T.n_len PySem.boot_len (ja_cons (jn 0) ja_nil)) j_int) (j_one (j_cmp (o_ne hu (K := K)) (j_ix (o_ix hu (K := K) (w := w)) (jn 0) j_int) j_str)))))))), ?_⟩
    refine gath_str (x := S l) (fun i ys σ' H' => H' = H ∧ ys = bls (List.replicate i true) ∧ ∃ v, σ' = [v]) (by show l.toArray.size ≤ _; simp; omega) ⟨rfl, rfl, none, rfl⟩ (fun i ys σ' H' h => by rw [h.2.1]; unfold bls; simp) ?_ ?_
    · rintro i c ys σ' H' hi ⟨rfl, rfl, v, rfl⟩
      have hc' : c ∈ l := by
        have : l[i]? = some c := by simpa using hi
        exact List.mem_of_getElem? this
      have haz := hc c hc'
      refine (if_pos (le1 (c := 48) (d := c) haz.1)).mpr ?_
      refine ⟨rfl, ?_, _, rfl⟩
      rw [← bls_true i]
      have := le1 (c := c) (d := 57) haz.2
      exact congrArg (fun z => bls (List.replicate i true) ++ [V.bl z]) this
    · rintro ys σ' H' ⟨rfl, rfl, v, rfl⟩ D hD
      refine ⟨List.replicate (S l).cps.size true, SqL.of upd_same, ?_⟩
      rw [all_true]
      have q' := q _ (same_new (o := .lst (bls (List.replicate (S l).cps.size true))) hD)
      refine ⟨by rw [S_len]; omega, ?_⟩
      rw [S_len]
      show if (false ^^ decide (((l.length : Nat) : Int) = 1)) = true then _ else _
      rw [Bool.false_xor]
      refine ite2 (fun h => q') (fun h => ?_)
      rcases hl with hl | ⟨hl, h0⟩
      · exact absurd (decide_eq_true (by omega)) h
      · refine ⟨by rw [S_len]; omega, ?_⟩
        rw [S_len]
        show if (false ^^ decide (((l.length : Nat) : Int) = 2)) = true then _ else _
        rw [Bool.false_xor]
        refine (if_pos (decide_eq_true (by omega))).mpr ?_
        cases l with
        | nil => simp at hl
        | cons x r =>
          refine ⟨by rw [S_len]; omega, x, atI_nat (j := 0) rfl, ?_⟩
          have e : (true ^^ decide ((S [x] : Str) = S [48])) = true := by
            rw [eqS_ne (fun z => h0 (by simp at z; simp [z]))]; rfl
          exact Eq.mpr (congrArg (fun z => Q (.bl z) _) e) q'
def Told (l t : List Nat) : Prop := t = l ∨ t = 63 :: l ∨ t = 33 :: l
def spBare : Sp := fun vs H Q _ => ∃ l t : List Nat, vs = [.str (S t)] ∧ KOk l ∧ Told l t ∧ ∀ H', Same H H' → Q (.str (S l)) H'
abbrev st_bare_part : Stmt := top 31
theorem sc_bare_part : FnScope ["word"] ["word"] (defScope st_bare_part) := ⟨rfl, rfl, rfl, by decide +kernel, rfl, by decide +kernel, by decide +kernel⟩
theorem def_bare (R : Raw K mg "bare_part" st_bare_part ["word"]) (T : Txt2 K w mg aN aD aS) : Def P w K mg base 1 "bare_part" ["word"] spBare := by
  refine R.defJ sc_bare_part (fun vs H Q E h => ?_) (fun f cdv A outer s H vs Q E hr h => ?_)
  · obtain ⟨l, t, rfl, _⟩ := h
    rfl
  · obtain ⟨l, t, rfl, hk, ht, q⟩ := h
    have sc := sc_bare_part
    have hu := hr.units
    have hb := big
    have h12 := hk.l2
    have htl : t.length ≤ 13 := by rcases ht with rfl | rfl | rfl <;> first | omega | (simp; omega)
    refine ⟨_, (jss_one (js_ret (j_ife (jt_cmp (o_inA hu (K := K)) (j_slice (o_slA (K := K)) (jn 0) jo_none (jo_some j_int)) (j_tup (ja_cons j_str (ja_cons j_str ja_nil)))) (j_slice (o_slA (K := K)) (jn 0) (jo_some j_int) jo_none) (jn 0)))), ?_⟩
    refine ⟨by rw [S_len]; omega, (show 2 ≤ sizeLine by decide), fun p hp => ?_⟩
    have s1 : Same H (upd H p (.tup [.str "?", .str "!"])) := same_new hp
    have h1 : upd H p (.tup [.str "?", .str "!"]) p = some (.tup [.str "?", .str "!"]) := upd_same
    generalize upd H p (.tup [.str "?", .str "!"]) = H1 at s1 h1 ⊢
    refine .inl ⟨_, .inr (SqT.of h1), rfl, rfl, ?_⟩
    have e1 : Txt.slice (S t) none (some 1) = S (t.take 1) := by
      rw [slice_S]
      have := cut_to t 1
      rw [show ((1 : Nat) : Int) = 1 from rfl] at this
      rw [this]
    rw [e1]
    have ev : (false ^^ inV (.str (S (t.take 1))) [.str "?", .str "!"]) = (decide (t.take 1 = [63]) || decide (t.take 1 = [33])) := by
      show (false ^^ (((S [63] : Str) == S (t.take 1)) || (((S [33] : Str) == S (t.take 1)) || false))) = _
      rw [beqS, beqS, Bool.false_xor, Bool.or_false]
      congr 1 <;> (congr 1; exact propext ⟨Eq.symm, Eq.symm⟩)
    show if (false ^^ inV (.str (S (t.take 1))) [.str "?", .str "!"]) = true then _ else _
    rw [ev]
    have hn : l.take 1 ≠ [63] ∧ l.take 1 ≠ [33] := by
      have h1 := hk.l1
      cases l with
      | nil => simp at h1
      | cons x r =>
        have := hk.az x List.mem_cons_self
        simp
        omega
    rcases ht with rfl | rfl | rfl
    · refine (if_neg (by rw [decide_eq_false hn.1, decide_eq_false hn.2]; exact Bool.false_ne_true)).mpr ?_
      exact q _ s1
    · refine (if_pos (by simp)).mpr ?_
      refine ⟨by rw [S_len]; omega, ?_⟩
      have e4 : Txt.slice (S (63 :: l)) (some 1) none = S l := by
        rw [slice_S]
        have := cut_from (63 :: l) 1
        rw [show ((1 : Nat) : Int) = 1 from rfl] at this
        rw [this]; rfl
      rw [e4]
      exact q _ s1
    · refine (if_pos (by simp)).mpr ?_
      refine ⟨by rw [S_len]; omega, ?_⟩
      have e4 : Txt.slice (S (33 :: l)) (some 1) none = S l := by
        rw [slice_S]
        have := cut_from (33 :: l) 1
        rw [show ((1 : Nat) : Int) = 1 from rfl] at this
        rw [this]; rfl
      rw [e4]
      exact q _ s1
structure Pl (ws : List (List Nat)) (c : Nat) (r : Int) : Prop where
  at_ : ∀ (i : Nat) (t : List Nat), ws[i]? = some t → (t.take 1 = [c] ↔ ((i : Nat) : Int) = r)
  rng : r = -1 ∨ (0 ≤ r ∧ r < ws.length)
def pls (r : Int) (i : Nat) : List V := if 0 ≤ r ∧ r < (i : Int) then [.int r] else []
def spPS (K : PySem.W.Frag) : Sp := fun vs H Q _ => ∃ (a : Addr) (ws : List (List Nat)) (c : Nat) (r : Int), vs = [.ref a, .str (S [c])] ∧ SqL K H a (ws.map fun t => V.str (S t)) ∧ ws.length ≤ 10 ∧ (∀ t ∈ ws, t.length ≤ 13) ∧ Pl ws c r ∧ ∀ H', Same H H' → Q (.int r) H'
abbrev st_place_signed : Stmt := top 33
theorem sc_place_signed : FnScope ["words", "sign", "places"] ["words", "sign"] (defScope st_place_signed) := ⟨rfl, rfl, rfl, by decide +kernel, rfl, by decide +kernel, by decide +kernel⟩
theorem def_ps (R : Raw K mg "place_signed" st_place_signed ["words", "sign"]) (T : Txt2 K w mg aN aD aS) : Def P w K mg base 1 "place_signed" ["words", "sign"] (spPS K) := by
  refine R.defJ sc_place_signed (fun vs H Q E h => ?_) (fun f cdv A outer s H vs Q E hr h => ?_)
  · obtain ⟨a, ws, c, r, rfl, _⟩ := h
    rfl
  · obtain ⟨a, ws, c, r, rfl, hS, hl, htl, hp, q⟩ := h
    have sc := sc_place_signed
    have hu := hr.units
    have hb := big
    refine ⟨_, (jss_cons (js_comp (i := 2) (N := ["place", "word", "sign"]) (cap := [none, none, some 1]) rfl (CompScope.of rfl (by rfl)) (ji_enum (K := K) rfl T.n_enumerate (ja_cons (jn 0) ja_nil)) (fun _ _ _ _ => (jg_tup (K := K) (n := 2) rfl (jgs_cons (jg_name (i := 0) (show List.Nodup [("place" : Str), ("word" : Str), ("sign" : Str)] by decide +kernel) rfl (Or.inl rfl)) (jgs_cons (jg_name (i := 1) (show List.Nodup [("place" : Str), ("word" : Str), ("sign" : Str)] by decide +kernel) rfl (Or.inl rfl)) jgs_nil)))) (fun _ _ _ _ => (jts_one (jt_cmp (o_eq hu (K := K)) (j_slice (o_slA (K := K)) (jn 1) jo_none (jo_some j_int)) (jn 2)))) (fun _ _ _ _ => (jn 0)) sc.nd rfl rfl)
    (jss_cons (js_if (jt_cmp o_gt (j_callB (c_len (K := K)) rfl T.n_len PySem.boot_len (ja_cons (jn 2) ja_nil)) j_int)
    (jss_one js_never)
    jss_nil)
    (jss_one (js_ret (j_ife (jt_tru (K := K) (jn 2)) (j_ix (o_ix hu (K := K) (w := w)) (jn 2) j_int) (j_neg j_int)))))), ?_⟩
    refine ⟨⟨_, hS⟩, ?_⟩
    refine gath_enum (xs := ws.map fun t => V.str (S t)) (fun i ys σ' H' => Same H H' ∧ ys = pls r i ∧ ∃ v1 v2, σ' = [v1, v2, some (.str (S [c]))]) (by rw [List.length_map]; omega) ⟨Same.refl _, by unfold pls; rw [if_neg (by omega)], none, none, rfl⟩
      (fun i ys σ' H' h => by rw [h.2.1]; unfold pls; split <;> simp; omega) (fun i ys σ' H' h => h.1.seq hS) ?_ ?_
    · rintro i x ys σ' H' hi ⟨s2, rfl, v1, v2, rfl⟩ T hT
      rw [List.getElem?_map] at hi
      cases et : ws[i]? with
      | none => rw [et] at hi; cases hi
      | some t =>
        rw [et] at hi
        have ex : x = .str (S t) := (Option.some.inj hi).symm
        subst ex
        have h13 := htl t (List.mem_of_getElem? et)
        refine ⟨T, _, rfl, SqT.of upd_same, rfl, _, _, rfl, _, _, rfl, rfl, ?_⟩
        refine ⟨by rw [S_len]; omega, ?_⟩
        have e1 : Txt.slice (S t) none (some 1) = S (t.take 1) := by
          rw [slice_S]
          have := cut_to t 1
          rw [show ((1 : Nat) : Int) = 1 from rfl] at this
          rw [this]
        rw [e1]
        have hat := hp.at_ i t et
        show if (false ^^ decide ((S (t.take 1) : Str) = S [c])) = true then _ else _
        rw [Bool.false_xor, eqS_eq]
        refine ite2 (fun h => ?_) (fun h => ?_)
        · have e : ((i : Nat) : Int) = r := hat.mp (of_decide_eq_true h)
          refine ⟨s2.trans (same_new hT), ?_, _, _, rfl⟩
          unfold pls
          rw [if_neg (by omega), if_pos (by omega), e]
          rfl
        · have e : ¬ ((i : Nat) : Int) = r := fun z => h (decide_eq_true (hat.mpr z))
          refine ⟨s2.trans (same_new hT), ?_, _, _, rfl⟩
          unfold pls
          by_cases h2 : 0 ≤ r ∧ r < ((i : Nat) : Int)
          · rw [if_pos h2, if_pos (by omega)]
          · rw [if_neg h2, if_neg (by omega)]
    · rintro ys σ' H' ⟨s2, rfl, v1, v2, rfl⟩ D hD
      rw [List.length_map]
      have s3 := s2.trans (same_new (o := .lst (pls r ws.length)) hD)
      have h3 : upd H' D (.lst (pls r ws.length)) D = some (.lst (pls r ws.length)) := upd_same
      generalize upd H' D (.lst (pls r ws.length)) = H3 at s3 h3 ⊢
      have hr := hp.rng
      refine ⟨_, .inl (SqL.of h3), ?_⟩
      by_cases h2 : 0 ≤ r ∧ r < (ws.length : Int)
      · have ep : pls r ws.length = [.int r] := by unfold pls; rw [if_pos h2]
        rw [ep] at h3 ⊢
        refine ⟨true, .inl ⟨_, SqL.of h3, rfl⟩, ?_⟩
        refine .inl ⟨_, _, SqL.of h3, atI_nat (j := 0) rfl, ?_⟩
        exact q _ s3
      · have ep : pls r ws.length = [] := by unfold pls; rw [if_neg h2]
        have er : r = -1 := by omega
        subst er
        rw [ep] at h3 ⊢
        refine ⟨false, .inl ⟨_, SqL.of h3, rfl⟩, ?_⟩
        exact q _ s3
def spNote (K : PySem.W.Frag) : Sp := fun vs H Q _ => ∃ (a : Addr) (ws : List (List Nat)) (r0 r1 : Int), vs = [.ref a] ∧ SqL K H a (ws.map fun t => V.str (S t)) ∧ ws.length ≤ 10 ∧ (∀ t ∈ ws, t.length ≤ 13) ∧ Pl ws 63 r0 ∧ Pl ws 33 r1 ∧ ∀ H' t, Same H H' → H' t = some (.tup [.int r0, .int r1]) → Q (.ref t) H'
abbrev st_note_of : Stmt := top 32
theorem sc_note_of : FnScope ["words"] ["words"] (defScope st_note_of) := ⟨rfl, rfl, rfl, by decide +kernel, rfl, by decide +kernel, by decide +kernel⟩
theorem def_note (R : Raw K mg "note_of" st_note_of ["words"]) (T : Txt2 K w mg aN aD aS) (D_place_signed : Def P w K mg base 1 "place_signed" ["words", "sign"] (spPS K)) : Def P w K mg base 2 "note_of" ["words"] (spNote K) := by
  refine R.defJ sc_note_of (fun vs H Q E h => ?_) (fun f cdv A outer s H vs Q E hr h => ?_)
  · obtain ⟨a, ws, r0, r1, rfl, _⟩ := h
    rfl
  · obtain ⟨a, ws, r0, r1, rfl, hS, hl, htl, hp0, hp1, q⟩ := h
    have sc := sc_note_of
    have hu := hr.units
    refine ⟨_, (jss_one (js_ret (j_tup (ja_cons (j_def D_place_signed (hr.mono (by decide)) rfl (ja_cons (jn 0) (ja_cons j_str ja_nil))) (ja_cons (j_def D_place_signed (hr.mono (by decide)) rfl (ja_cons (jn 0) (ja_cons j_str ja_nil))) ja_nil))))), ?_⟩
    refine ⟨a, ws, 63, r0, rfl, hS, hl, htl, hp0, fun H1 s1 => ?_⟩
    refine ⟨a, ws, 33, r1, rfl, s1.seq hS, hl, htl, hp1, fun H2 s2 => ?_⟩
    refine ⟨(show 2 ≤ sizeLine by decide), fun t ht => ?_⟩
    exact q _ t ((s1.trans s2).trans (same_new ht)) upd_same
def Lsts (H : Hp) (cs : List Addr) : Prop := ∀ c ∈ cs, ∃ l, H c = some (.lst l)
theorem sqT_rem {H : Hp} {cs : List Addr} (hc : Lsts H cs) {a : Addr} {xs : List V} (h : SqT K H a xs) : SqT K (rem cs H) a xs := by
  rcases h with (h | ⟨o, h⟩) | h
  · refine .inl (.inl ?_)
    rw [rem_out fun m => by obtain ⟨l, e⟩ := hc a m; rw [h] at e; cases e]
    exact h
  · refine .inl (.inr ⟨o, ?_⟩)
    rw [rem_out fun m => by obtain ⟨l, e⟩ := hc a m; rw [h] at e; cases e]
    exact h
  · exact .inr h
theorem parts_rem {H : Hp} {cs : List Addr} (hc : Lsts H cs) : ∀ {fv : List V} {ps : List Pt}, DatVs K H fv (ps.map Pt.dat) → DatVs K (rem cs H) fv (ps.map Pt.dat)
  | _, [], h => by cases h; exact .nil
  | _, p :: r, h => by
    cases h with
    | cons hx ht =>
      refine .cons ?_ (parts_rem hc ht)
      unfold Pt.dat at hx ⊢
      cases hx with
      | tuple hS hd =>
        refine .tuple (sqT_rem hc hS) ?_
        cases hd with
        | cons h1 hd => cases h1; cases hd with
          | cons h2 hd => cases h2; cases hd with
            | cons h3 hd => cases h3; cases hd; exact .cons (.str _) (.cons (.str _) (.cons (.str _) .nil))
def spPF (K : PySem.W.Frag) : Sp := fun vs H Q _ => ∃ (b wa : Addr) (bl : List V) (kd : Str) (ps : List Pt), vs = [.ref b, .str kd, .ref wa] ∧ H b = some (.lst bl) ∧ bl.length < 24 ∧ SqL K H wa (ps.map fun p => V.str (S p.txt)) ∧ ps ≠ [] ∧ (∀ p ∈ ps, p.Ok) ∧ ps.length ≤ 12 ∧
  ∀ H' t fa fv, Same (rem [b] H) H' → H' b = some (.lst (bl ++ [.ref t])) → H fa = none → H' t = some (.tup [.str kd, .ref fa]) → H' fa = some (.lst fv) → DatVs K H' fv (ps.map Pt.dat) → Q .non H'
abbrev st_put_form : Stmt := top 27
theorem sc_put_form : FnScope ["book", "kind", "words"] ["book", "kind", "words"] (defScope st_put_form) := ⟨rfl, rfl, rfl, by decide +kernel, rfl, by decide +kernel, by decide +kernel⟩
theorem def_pf (R : Raw K mg "put_form" st_put_form ["book", "kind", "words"]) (T : Txt2 K w mg aN aD aS) (D_form_of : Def P w K mg base 3 "form_of" ["text"] (spFO K)) : Def P w K mg base 4 "put_form" ["book", "kind", "words"] (spPF K) := by
  refine R.defJ sc_put_form (fun vs H Q E h => ?_) (fun f cdv A outer s H vs Q E hr h => ?_)
  · obtain ⟨b, wa, bl, kd, ps, rfl, _⟩ := h
    rfl
  · obtain ⟨b, wa, bl, kd, ps, rfl, hB, hbl, hS, hne, hok, h12, q⟩ := h
    have sc := sc_put_form
    have hu := hr.units
    have hb := big
    refine ⟨_, (jss_cons (js_if (jt_not (jt_tru (K := K) (jn 2)))
    (jss_one js_never)
    jss_nil)
    (jss_cons (js_if (jt_cmp (o_eq hu (K := K)) (j_callB (c_len (K := K)) rfl T.n_len PySem.boot_len (ja_cons (jn 0) ja_nil)) (j_gint rfl T.g_MOST_FORMS))
    (jss_one js_never)
    jss_nil)
    (jss_one (js_expr (j_bm (K := K) PySem.F.plainAttrs_list PySem.F.slot_list_append PySem.F.type_list_append m_append (jn 0) (ja_cons (j_tup (ja_cons (jn 1) (ja_cons (j_def D_form_of (hr.mono (by decide)) rfl (ja_cons (j_bm (K := K) PySem.F.plainAttrs_str PySem.F.slot_str_join PySem.F.type_str_join (m_join (K := K)) j_str (ja_cons (jn 2) ja_nil)) ja_nil)) ja_nil))) ja_nil)))))), ?_⟩
    refine ⟨true, .inl ⟨_, hS, by cases ps with | nil => exact absurd rfl hne | cons p r => rfl⟩, ?_⟩
    refine ⟨_, .inl (SqL.of hB), ?_⟩
    refine (if_neg (show ¬ (false ^^ decide (((bl.length : Nat) : Int) = 24)) = true by rw [decide_eq_false (by omega)]; decide)).mpr ?_
    refine ⟨.inl ⟨rfl, _, SqL.of hB⟩, ?_⟩
    refine ⟨rfl, ps.map fun p => S p.txt, by rw [List.map_map]; exact hS, joinOk12 hok h12, ?_⟩
    rw [join12]
    refine ⟨ps, rfl, hne, hok, h12, fun fa fv H1 hfa s1 hfv hD => ?_⟩
    refine ⟨(show 2 ≤ sizeLine by decide), fun t ht => ?_⟩
    have s2 : Same H1 (upd H1 t (.tup [.str kd, .ref fa])) := same_new ht
    have h2 : upd H1 t (.tup [.str kd, .ref fa]) t = some (.tup [.str kd, .ref fa]) := upd_same
    generalize upd H1 t (.tup [.str kd, .ref fa]) = H2 at s2 h2 ⊢
    have hB2 := s2 _ _ (s1 _ _ hB)
    refine ⟨_, hB2, by omega, ?_⟩
    have nt : t ≠ b := fun z => by rw [z, s1 _ _ hB] at ht; cases ht
    have nf : fa ≠ b := fun z => by rw [z, hB] at hfa; cases hfa
    have hc : Lsts H2 [b] := fun c hc => by rw [List.mem_singleton.mp hc]; exact ⟨_, hB2⟩
    have sB : Same (rem [b] H2) (upd H2 b (.lst (bl ++ [.ref t]))) := fun x u e => by
      have nb : x ∉ [b] := fun m => by rw [rem_in m] at e; cases e
      rw [rem_out nb] at e
      rw [upd_ne fun z => nb (by rw [z]; exact List.mem_singleton.mpr rfl)]
      exact e
    refine q _ t fa fv ((rem_le (s1.trans s2)).trans sB) upd_same hfa (by rw [upd_ne nt]; exact h2) (by rw [upd_ne nf]; exact s2 _ _ hfv) ?_
    exact (parts_rem hc (hD.same s2)).same sB
def eDeed : Nat → Str
  | 0 => "stop"
  | 1 => "open"
  | _ => "close"
def eDat (x : List Nat × Nat) : PyData := .tuple [.str (S x.1), .str (eDeed x.2)]
theorem dat_end {H : Hp} {x : V} {e : List Nat × Nat} (h : DatV K H x (eDat e)) : ∃ t, x = .ref t ∧ SqT K H t [.str (S e.1), .str (eDeed e.2)] := by
  unfold eDat at h
  cases h with
  | tuple hS hd =>
    cases hd with
    | cons h1 hd => cases h1; cases hd with
      | cons h2 hd => cases h2; cases hd; exact ⟨_, rfl, hS⟩
theorem any_false (i : Nat) : (List.replicate i false).any id = false := by simp
theorem bls_false (i : Nat) : bls (List.replicate i false) ++ [V.bl false] = bls (List.replicate (i + 1) false) := by
  unfold bls
  rw [List.replicate_succ', List.map_append]
  rfl
def spPE (K : PySem.W.Frag) : Sp := fun vs H Q _ => ∃ (e wa : Addr) (el : List V) (es : List (List Nat × Nat)) (k : List Nat) (d : Nat), vs = [.ref e, .ref wa] ∧ H e = some (.lst el) ∧ DatVs K H el (es.map eDat) ∧ es.length < 24 ∧ SqL K H wa [.str (eDeed d), .str (S k)] ∧ KOk k ∧ (∀ x ∈ es, x.1 ≠ k) ∧
  ∀ H' t, Same (rem [e] H) H' → H' e = some (.lst (el ++ [.ref t])) → H' t = some (.tup [.str (S k), .str (eDeed d)]) → Q .non H'
abbrev st_put_end : Stmt := top 28
theorem sc_put_end : FnScope ["ends", "words", "kind"] ["ends", "words"] (defScope st_put_end) := ⟨rfl, rfl, rfl, by decide +kernel, rfl, by decide +kernel, by decide +kernel⟩
theorem def_pe (R : Raw K mg "put_end" st_put_end ["ends", "words"]) (T : Txt2 K w mg aN aD aS) (D_kind_at : Def P w K mg base 2 "kind_at" ["words", "place"] (spKA K)) : Def P w K mg base 3 "put_end" ["ends", "words"] (spPE K) := by
  refine R.defJ sc_put_end (fun vs H Q E h => ?_) (fun f cdv A outer s H vs Q E hr h => ?_)
  · obtain ⟨e, wa, el, es, k, d, rfl, _⟩ := h
    rfl
  · obtain ⟨e, wa, el, es, k, d, rfl, hE, hD, hel, hS, hk, hne, q⟩ := h
    have sc := sc_put_end
    have hu := hr.units
    have hb := big
    have hll : el.length = es.length := by have := hD.length; rw [List.length_map] at this; exact this
    refine ⟨_, (jss_cons (js_set (i := 2) sc.nd rfl (Or.inr rfl) (j_def D_kind_at (hr.mono (by decide)) rfl (ja_cons (jn 1) (ja_cons j_int ja_nil))))
    (jss_cons (js_if (jt_cmp o_gt (j_callB (c_len (K := K)) rfl T.n_len PySem.boot_len (ja_cons (jn 1) ja_nil)) j_int)
    (jss_one js_never)
    jss_nil)
    (jss_cons (js_if (jt_val (j_callB (c_any rfl (K := K)) rfl T.n_any boot_any (ja_cons (j_comp (N := ["end", "kind"]) (cap := [none, some 2]) rfl (CompScope.of rfl (by rfl)) (ji_any (K := K) (jn 0)) (fun _ _ _ _ => (jg_name (i := 0) (show List.Nodup [("end" : Str), ("kind" : Str)] by decide +kernel) rfl (Or.inl rfl))) (fun _ _ _ _ => jts_nil) (fun _ _ _ _ => (j_cmp (o_eq hu (K := K)) (j_ix (o_ix hu (K := K) (w := w)) (jn 0) j_int) (jn 1)))) ja_nil)))
    (jss_one js_never)
    jss_nil)
    (jss_cons (js_if (jt_cmp (o_eq hu (K := K)) (j_callB (c_len (K := K)) rfl T.n_len PySem.boot_len (ja_cons (jn 0) ja_nil)) (j_gint rfl T.g_MOST_ENDS))
    (jss_one js_never)
    jss_nil)
    (jss_one (js_expr (j_bm (K := K) PySem.F.plainAttrs_list PySem.F.slot_list_append PySem.F.type_list_append m_append (jn 0) (ja_cons (j_tup (ja_cons (jn 2) (ja_cons (j_ix (o_ix hu (K := K) (w := w)) (jn 1) j_int) ja_nil))) ja_nil)))))))), ?_⟩
    refine ⟨wa, _, 1, k, rfl, hS, rfl, hk, fun H1 s1 => ?_⟩
    refine ⟨_, .inl (s1.seq hS), ?_⟩
    refine .inl ⟨⟨_, SqL.of (s1 _ _ hE)⟩, ?_⟩
    refine gath_list (xs := el) (fun i ys σ' H' => H' = H1 ∧ ys = bls (List.replicate i false) ∧ ∃ v, σ' = [v, some (.str (S k))]) (by omega) ⟨rfl, rfl, none, rfl⟩ (fun i ys σ' H' h => by rw [h.2.1]; unfold bls; simp) (fun i ys σ' H' h => by rw [h.1]; exact SqL.of (s1 _ _ hE)) ?_ ?_
    · rintro i x ys σ' H' hi ⟨rfl, rfl, v, rfl⟩
      obtain ⟨dd, hdd, hx⟩ := (hD.same s1).get hi
      rw [List.getElem?_map] at hdd
      cases ee : es[i]? with
      | none => rw [ee] at hdd; cases hdd
      | some en =>
        rw [ee] at hdd
        have ed : dd = eDat en := (Option.some.inj hdd).symm
        subst ed
        obtain ⟨t, rfl, hT⟩ := dat_end hx
        refine .inr ⟨_, _, hT, atI_nat (j := 0) rfl, ?_⟩
        refine ⟨rfl, ?_, _, rfl⟩
        rw [← bls_false i]
        have e1 : (false ^^ decide ((S en.1 : Str) = S k)) = false := by rw [eqS_ne (hne en (List.mem_of_getElem? ee))]; rfl
        exact congrArg (fun z => bls (List.replicate i false) ++ [V.bl z]) e1
    · rintro ys σ' H' ⟨rfl, rfl, v, rfl⟩ D hD1
      refine ⟨List.replicate el.length false, SqL.of upd_same, ?_⟩
      rw [any_false]
      have s2 := s1.trans (same_new (o := .lst (bls (List.replicate el.length false))) hD1)
      generalize upd H' D (.lst (bls (List.replicate el.length false))) = H2 at s2 ⊢
      refine ⟨_, .inl (SqL.of (s2 _ _ hE)), ?_⟩
      refine (if_neg (show ¬ (false ^^ decide (((el.length : Nat) : Int) = 24)) = true by rw [decide_eq_false (by omega)]; decide)).mpr ?_
      refine ⟨.inl ⟨rfl, _, SqL.of (s2 _ _ hE)⟩, ?_⟩
      refine .inl ⟨_, .str (eDeed d), s2.seq hS, atI_nat (j := 0) rfl, ?_⟩
      refine ⟨(show 2 ≤ sizeLine by decide), fun t ht => ?_⟩
      have s3 : Same H2 (upd H2 t (.tup [.str (S k), .str (eDeed d)])) := same_new ht
      have h3 : upd H2 t (.tup [.str (S k), .str (eDeed d)]) t = some (.tup [.str (S k), .str (eDeed d)]) := upd_same
      have nt : t ≠ e := fun z => by rw [z, s2 _ _ hE] at ht; cases ht
      generalize upd H2 t (.tup [.str (S k), .str (eDeed d)]) = H3 at s3 h3 ⊢
      have hE3 := s3 _ _ (s2 _ _ hE)
      refine ⟨_, hE3, by omega, ?_⟩
      have sB : Same (rem [e] H3) (upd H3 e (.lst (el ++ [.ref t]))) := fun x u ex => by
        have nb : x ∉ [e] := fun m => by rw [rem_in m] at ex; cases ex
        rw [rem_out nb] at ex
        rw [upd_ne fun z => nb (by rw [z]; exact List.mem_singleton.mpr rfl)]
        exact ex
      exact q _ t ((rem_le (s2.trans s3)).trans sB) upd_same (by rw [upd_ne nt]; exact h3)
end
end K80

set_option Elab.async false
set_option linter.all false
set_option maxRecDepth 100000
set_option maxHeartbeats 4000000




namespace K80
open PySem PySem.Spec PyProof.Rows L2 Rg
structure GR where
  sort : List Nat
  n : Nat
  sd : Nat
  ps : List (List Nat)
  ts : List (List Nat)
  r0 : Int
  r1 : Int
structure GR.Ok (q : GR) : Prop where
  ks : KOk q.sort
  hn : q.n < 100
  hs : q.sd < 3
  ln : q.ts.length = q.ps.length
  le : q.ps.length ≤ 9
  td : ∀ (i : Nat) (l t : List Nat), q.ps[i]? = some l → q.ts[i]? = some t → Told l t
  kp : ∀ l ∈ q.ps, KOk l
  p0 : Pl q.ts 63 q.r0
  p1 : Pl q.ts 33 q.r1
def sideL : Nat → List Nat
  | 0 => [108, 101, 102, 116]
  | 1 => [114, 105, 103, 104, 116]
  | _ => [110, 111, 110, 101]
def GR.dat (q : GR) : PyData := .tuple [.str (S q.sort), .int (q.n : Nat), .str (S (sideL q.sd)), .tuple (q.ps.map fun l => .str (S l))]
def GR.nDat (q : GR) : PyData := .tuple [.int q.r0, .int q.r1]
def GR.words (q : GR) : List (List Nat) := [114, 117, 108, 101] :: q.sort :: rk q.n :: sideL q.sd :: q.ts
theorem GR.Ok.tl {q : GR} (h : q.Ok) : ∀ t ∈ q.ts, t.length ≤ 13 := fun t ht => by
  obtain ⟨i, hi⟩ := List.mem_iff_getElem?.mp ht
  have hlt := (List.getElem?_eq_some_iff.mp hi).1
  have e := List.getElem?_eq_getElem (l := q.ps) (i := i) (by rw [← h.ln]; exact hlt)
  have hk := (h.kp _ (List.mem_of_getElem? e)).l2
  rcases h.td i _ t e hi with z | z | z <;> rw [z] <;> simp <;> omega
theorem cutV_nat (xs : List V) (k : Nat) : cutV xs (some (k : Int)) none = xs.drop k := by
  unfold cutV
  rw [HT.sIx_nat, HT.sIx_none]
  by_cases h : k ≤ xs.length
  · rw [Nat.min_eq_left h]
    exact List.take_of_length_le (by rw [List.length_drop]; exact Nat.le_refl _)
  · rw [Nat.min_eq_right (by omega), List.drop_length, List.drop_of_length_le (by omega)]
    simp
section
variable {P : Program} {w : World} {K : PySem.W.Frag} {mg : Str → Option Value} {base : Heap} {aN aD aS : Addr}
theorem side_in : ∀ {d : Nat}, d < 3 → inV (.str (S (sideL d))) [.str "left", .str "right", .str "none"] = true
  | 0, _ => by decide +kernel
  | 1, _ => by decide +kernel
  | 2, _ => by decide +kernel
  | d + 3, h => by omega
theorem dat_strs {H : Hp} : ∀ ls : List (List Nat), DatVs K H (ls.map fun l => V.str (S l)) (ls.map fun l => PyData.str (S l))
  | [] => .nil
  | l :: r => .cons (.str _) (dat_strs r)
def spRule (K : PySem.W.Frag) : Sp := fun vs H Q _ => ∃ (a : Addr) (q : GR), vs = [.ref a] ∧ SqL K H a (q.words.map fun t => V.str (S t)) ∧ q.Ok ∧
  ∀ H' t tp, Same H H' → H' t = some (.tup [.str (S q.sort), .int (q.n : Nat), .str (S (sideL q.sd)), .ref tp]) → H' tp = some (.tup (q.ps.map fun l => V.str (S l))) → Q (.ref t) H'
abbrev st_rule_of : Stmt := top 29
theorem sc_rule_of : FnScope ["words", "sort", "parts"] ["words"] (defScope st_rule_of) := ⟨rfl, rfl, rfl, by decide +kernel, rfl, by decide +kernel, by decide +kernel⟩
theorem def_rule (R : Raw K mg "rule_of" st_rule_of ["words"]) (T : Txt2 K w mg aN aD aS) (D_kind_at : Def P w K mg base 2 "kind_at" ["words", "place"] (spKA K)) (D_is_rank : Def P w K mg base 1 "is_rank" ["word"] spRank) (D_bare_part : Def P w K mg base 1 "bare_part" ["word"] spBare) : Def P w K mg base 3 "rule_of" ["words"] (spRule K) := by
  refine R.defJ sc_rule_of (fun vs H Q E h => ?_) (fun f cdv A outer s H vs Q E hr h => ?_)
  · obtain ⟨a, g, rfl, _⟩ := h
    rfl
  · obtain ⟨a, g, rfl, hS, ok, q⟩ := h
    have sc := sc_rule_of
    have hu := hr.units
    have hb := big
    have hle := ok.le
    have hln := ok.ln
    refine ⟨_, (jss_cons (js_if (jt_cmp o_lt (j_callB (c_len (K := K)) rfl T.n_len PySem.boot_len (ja_cons (jn 0) ja_nil)) j_int)
    (jss_one js_never)
    jss_nil)
    (jss_cons (js_set (i := 1) sc.nd rfl (Or.inl rfl) (j_def D_kind_at (hr.mono (by decide)) rfl (ja_cons (jn 0) (ja_cons j_int ja_nil))))
    (jss_cons (js_if (jt_not (jt_val (j_def D_is_rank (hr.mono (by decide)) rfl (ja_cons (j_ix (o_ix hu (K := K) (w := w)) (jn 0) j_int) ja_nil))))
    (jss_one js_never)
    jss_nil)
    (jss_cons (js_if (jt_cmp (o_notinA hu (K := K)) (j_ix (o_ix hu (K := K) (w := w)) (jn 0) j_int) (j_glob (v := .ref _) rfl T.g_SIDES rfl))
    (jss_one js_never)
    jss_nil)
    (jss_cons (js_set (i := 2) sc.nd rfl (Or.inr rfl) (j_comp (N := ["word"]) (cap := [none]) rfl (CompScope.of rfl (by rfl)) (ji_any (K := K) (j_slice (o_slA (K := K)) (jn 0) (jo_some j_int) jo_none)) (fun _ _ _ _ => (jg_name (i := 0) (show List.Nodup [("word" : Str)] by decide +kernel) rfl (Or.inl rfl))) (fun _ _ _ _ => jts_nil) (fun _ _ _ _ => (j_def D_bare_part (hr.mono (by decide)) rfl (ja_cons (jn 0) ja_nil)))))
    (jss_one (js_ret (j_tup (ja_cons (jn 1) (ja_cons (j_callTy c_intT rfl T.n_int boot_int (ja_cons (j_ix (o_ix hu (K := K) (w := w)) (jn 0) j_int) ja_nil)) (ja_cons (j_ix (o_ix hu (K := K) (w := w)) (jn 0) j_int) (ja_cons (j_callTy (c_tuple (K := K)) rfl T.n_tuple boot_tuple (ja_cons (j_comp (N := ["place", "parts"]) (cap := [none, some 2]) rfl (CompScope.of rfl (by rfl)) (ji_rng1 rfl T.n_range (ja_cons (j_callB (c_len (K := K)) rfl T.n_len PySem.boot_len (ja_cons (jn 2) ja_nil)) ja_nil)) (fun _ _ _ _ => (jg_name (i := 0) (show List.Nodup [("place" : Str), ("parts" : Str)] by decide +kernel) rfl (Or.inl rfl))) (fun _ _ _ _ => jts_nil) (fun _ _ _ _ => (j_def D_kind_at (hr.mono (by decide)) rfl (ja_cons (jn 1) (ja_cons (jn 0) ja_nil))))) ja_nil)) ja_nil)))))))))))), ?_⟩
    refine ⟨_, .inl hS, ?_⟩
    refine ⟨a, _, 1, g.sort, rfl, hS, rfl, ok.ks, fun H1 s1 => ?_⟩
    refine .inl ⟨_, .str (S (rk g.n)), s1.seq hS, atI_nat (j := 2) rfl, ?_⟩
    refine ⟨g.n, rfl, ok.hn, fun H2 s2 => ?_⟩
    have hS2 := (s1.trans s2).seq hS
    refine .inl ⟨_, .str (S (sideL g.sd)), hS2, atI_nat (j := 3) rfl, ?_⟩
    refine .inl ⟨_, .inr (T.k_SI _), rfl, rfl, ?_⟩
    refine (if_neg (show ¬ (true ^^ inV (.str (S (sideL g.sd))) [.str "left", .str "right", .str "none"]) = true by rw [side_in ok.hs]; decide)).mpr ?_
    refine .inl ⟨_, hS2, fun p hp => ?_⟩
    have ec : cutV (g.words.map fun t => V.str (S t)) (some 4) none = g.ts.map fun t => V.str (S t) := cutV_nat _ 4
    rw [ec]
    have s3 : Same H2 (upd H2 p (.lst (g.ts.map fun t => V.str (S t)))) := same_new hp
    have h3 : upd H2 p (.lst (g.ts.map fun t => V.str (S t))) p = some (.lst (g.ts.map fun t => V.str (S t))) := upd_same
    generalize upd H2 p (.lst (g.ts.map fun t => V.str (S t))) = H3 at s3 h3 ⊢
    refine .inl ⟨⟨_, SqL.of h3⟩, ?_⟩
    refine gath_list (xs := g.ts.map fun t => V.str (S t)) (fun i ys σ' H' => Same H3 H' ∧ ys = (g.ps.take i).map (fun l => V.str (S l)) ∧ ∃ v, σ' = [v]) (by rw [List.length_map]; omega) ⟨Same.refl _, rfl, none, rfl⟩
      (fun i ys σ' H' h => by rw [h.2.1, List.length_map, List.length_take]; omega) (fun i ys σ' H' h => h.1.seq (SqL.of h3)) ?_ ?_
    · rintro i x ys σ' H' hi ⟨s4, rfl, v, rfl⟩
      rw [List.getElem?_map] at hi
      cases et : g.ts[i]? with
      | none => rw [et] at hi; cases hi
      | some t =>
        rw [et] at hi
        have ex : x = .str (S t) := (Option.some.inj hi).symm
        subst ex
        have hlt := (List.getElem?_eq_some_iff.mp et).1
        have el := List.getElem?_eq_getElem (l := g.ps) (i := i) (by rw [← hln]; exact hlt)
        generalize g.ps[i] = l at el
        refine ⟨l, t, rfl, ok.kp l (List.mem_of_getElem? el), ok.td i l t el et, fun H5 s5 => ?_⟩
        refine ⟨s4.trans s5, ?_, _, rfl⟩
        rw [List.take_add_one, el, List.map_append]
        rfl
    · rintro ys σ' H' ⟨s4, rfl, v, rfl⟩ D hD
      rw [List.length_map, hln, List.take_length]
      have s5 : Same H' (upd H' D (.lst (g.ps.map fun l => V.str (S l)))) := same_new hD
      have h5 : upd H' D (.lst (g.ps.map fun l => V.str (S l))) D = some (.lst (g.ps.map fun l => V.str (S l))) := upd_same
      generalize upd H' D (.lst (g.ps.map fun l => V.str (S l))) = H5 at s5 h5 ⊢
      have s15 : Same H H5 := (((s1.trans s2).trans s3).trans s4).trans s5
      have hS5 := s15.seq hS
      refine .inl ⟨_, .str (S (rk g.n)), hS5, atI_nat (j := 2) rfl, ?_⟩
      have hn := ok.hn
      refine ⟨((g.n : Nat) : Int), rk_S _, by omega, by omega, ?_⟩
      refine .inl ⟨_, .str (S (sideL g.sd)), hS5, atI_nat (j := 3) rfl, ?_⟩
      refine ⟨_, .inl (SqL.of h5), ?_⟩
      rw [List.length_map]
      refine ⟨by omega, by omega, ?_⟩
      refine gath_range (n := ((g.ps.length : Nat) : Int).toNat) (fun i ys σ' H' => Same H5 H' ∧ ys = (g.ps.take i).map (fun l => V.str (S l)) ∧ ∃ v, σ' = [v, some (.ref D)]) (by omega) ⟨Same.refl _, rfl, none, rfl⟩
        (fun i ys σ' H' h => by rw [h.2.1, List.length_map, List.length_take]; omega) ?_ ?_
      · rintro i ys σ' H' hi ⟨s6, rfl, v, rfl⟩
        have hi' : i < g.ps.length := by omega
        have el := List.getElem?_eq_getElem hi'
        generalize g.ps[i] = l at el
        refine ⟨D, _, i, l, by rw [Int.zero_add], s6.seq (SqL.of h5), by rw [List.getElem?_map, el]; rfl, ok.kp l (List.mem_of_getElem? el), fun H7 s7 => ?_⟩
        refine ⟨s6.trans s7, ?_, _, rfl⟩
        rw [List.take_add_one, el, List.map_append]
        rfl
      · rintro ys σ' H' ⟨s6, rfl, v, rfl⟩ D2 hD2
        rw [show ((g.ps.length : Nat) : Int).toNat = g.ps.length by omega, List.take_length]
        have s7 : Same H' (upd H' D2 (.lst (g.ps.map fun l => V.str (S l)))) := same_new hD2
        have h7 : upd H' D2 (.lst (g.ps.map fun l => V.str (S l))) D2 = some (.lst (g.ps.map fun l => V.str (S l))) := upd_same
        generalize upd H' D2 (.lst (g.ps.map fun l => V.str (S l))) = H7 at s7 h7 ⊢
        refine ⟨_, .inl ⟨SqL.of h7, fun tp htp => ?_⟩⟩
        have s8 : Same H7 (upd H7 tp (.tup (g.ps.map fun l => V.str (S l)))) := same_new htp
        have h8 : upd H7 tp (.tup (g.ps.map fun l => V.str (S l))) tp = some (.tup (g.ps.map fun l => V.str (S l))) := upd_same
        generalize upd H7 tp (.tup (g.ps.map fun l => V.str (S l))) = H8 at s8 h8 ⊢
        refine ⟨(show 4 ≤ sizeLine by decide), fun t ht => ?_⟩
        have s9 : Same H8 (upd H8 t (.tup [.str (S g.sort), .int (g.n : Nat), .str (S (sideL g.sd)), .ref tp])) := same_new ht
        exact q _ t tp ((((s15.trans s6).trans s7).trans s8).trans s9) upd_same (s9 _ _ h8)
theorem dat_rule {H : Hp} {x : V} {q : GR} (h : DatV K H x q.dat) : ∃ t tp, x = .ref t ∧ SqT K H t [.str (S q.sort), .int (q.n : Nat), .str (S (sideL q.sd)), .ref tp] ∧ SqT K H tp (q.ps.map fun l => V.str (S l)) := by
  unfold GR.dat at h
  cases h with
  | tuple hS hd =>
    cases hd with
    | cons h1 hd => cases h1; cases hd with
      | cons h2 hd => cases h2; cases hd with
        | cons h3 hd => cases h3; cases hd with
          | cons h4 hd => cases hd; cases h4 with
            | tuple hS2 hd2 =>
              rename_i xs
              have e : ∀ {xs : List V} (ls : List (List Nat)), DatVs K H xs (ls.map fun l => PyData.str (S l)) → xs = ls.map fun l => V.str (S l) := by
                intro xs ls
                induction ls generalizing xs with
                | nil => intro h; cases h; rfl
                | cons l r ih =>
                  intro h
                  cases h with
                  | cons h1 ht => cases h1; rw [ih ht]; rfl
              rw [e _ hd2] at hS2
              exact ⟨_, _, rfl, hS, hS2⟩
theorem dat_note {H : Hp} {x : V} {q : GR} (h : DatV K H x q.nDat) : ∃ t, x = .ref t ∧ SqT K H t [.int q.r0, .int q.r1] := by
  unfold GR.nDat at h
  cases h with
  | tuple hS hd =>
    cases hd with
    | cons h1 hd => cases h1; cases hd with
      | cons h2 hd => cases h2; cases hd; exact ⟨_, rfl, hS⟩
def NotesOk (qs : List GR) : Prop := ∀ q ∈ qs, ∀ q' ∈ qs, ∀ r : Int, (r = q.r0 ∨ r = q.r1) → 0 ≤ r → ∀ l, q.ps[r.toNat]? = some l → l ≠ q'.sort
theorem inV_sorts {l : List Nat} : ∀ {qs : List GR}, (∀ q' ∈ qs, l ≠ q'.sort) → inV (.str (S l)) (qs.map fun q => V.str (S q.sort)) = false
  | [], _ => rfl
  | q :: r, h => by
    have h1 : ((S q.sort : Str) == S l) = false := by rw [beqS]; exact decide_eq_false fun z => h q List.mem_cons_self z.symm
    have h2 := inV_sorts (l := l) (qs := r) fun q' hq => h q' (List.mem_cons_of_mem _ hq)
    show (((S q.sort : Str) == S l) || inV (.str (S l)) (r.map fun q => V.str (S q.sort))) = false
    rw [h1, h2]; rfl
theorem flat_sorts (qs : List GR) : (qs.map fun q => V.str (S q.sort)).all flatV = true := by
  rw [List.all_eq_true]
  intro x hx
  obtain ⟨q, _, rfl⟩ := List.mem_map.mp hx
  rfl
def spCN (K : PySem.W.Frag) : Sp := fun vs H Q _ => ∃ (ra na : Addr) (rl nl : List V) (qs : List GR), vs = [.ref ra, .ref na] ∧ H ra = some (.lst rl) ∧ H na = some (.lst nl) ∧ DatVs K H rl (qs.map GR.dat) ∧ DatVs K H nl (qs.map GR.nDat) ∧ qs.length ≤ 60 ∧ (∀ q ∈ qs, q.Ok) ∧ NotesOk qs ∧
  ∀ H', Same H H' → Q .non H'
abbrev st_check_notes : Stmt := top 34
theorem sc_check_notes : FnScope ["rules", "notes", "rule", "sorts", "note", "place", "sort"] ["rules", "notes"] (defScope st_check_notes) := ⟨rfl, rfl, rfl, by decide +kernel, rfl, by decide +kernel, by decide +kernel⟩
theorem def_cn (R : Raw K mg "check_notes" st_check_notes ["rules", "notes"]) (T : Txt2 K w mg aN aD aS) : Def P w K mg base 1 "check_notes" ["rules", "notes"] (spCN K) := by
  refine R.defJ sc_check_notes (fun vs H Q E h => ?_) (fun f cdv A outer s H vs Q E hr h => ?_)
  · obtain ⟨ra, na, rl, nl, qs, rfl, _⟩ := h
    rfl
  · obtain ⟨ra, na, rl, nl, qs, rfl, hR, hN, hDr, hDn, hql, hok, hno, q⟩ := h
    have sc := sc_check_notes
    have hu := hr.units
    have hb := big
    have hrl : rl.length = qs.length := by have := hDr.length; rw [List.length_map] at this; exact this
    have hnl : nl.length = qs.length := by have := hDn.length; rw [List.length_map] at this; exact this
    refine ⟨_, (jss_cons (js_comp (i := 3) (N := ["rule"]) (cap := [none]) rfl (CompScope.of rfl (by rfl)) (ji_any (K := K) (jn 0)) (fun _ _ _ _ => (jg_name (i := 0) (show List.Nodup [("rule" : Str)] by decide +kernel) rfl (Or.inl rfl))) (fun _ _ _ _ => jts_nil) (fun _ _ _ _ => (j_ix (o_ix hu (K := K) (w := w)) (jn 0) j_int)) sc.nd rfl rfl)
    (jss_one (js_for PassesOwn.never rfl (ji_zip (K := K) rfl T.n_zip (ja_cons (jn 0) (ja_cons (jn 1) ja_nil))) (jg_tup (K := K) (n := 2) rfl (jgs_cons (jg_name (i := 2) sc.nd rfl (Or.inl rfl)) (jgs_cons (jg_name (i := 4) sc.nd rfl (Or.inl rfl)) jgs_nil)))
    (jss_one (js_for PassesOwn.never rfl (ji_any (K := K) (jn 4)) (jg_name (i := 5) sc.nd rfl (Or.inl rfl))
    (jss_one (js_if (jw_t (jw_and (jt_cmp o_ge (jn 5) j_int) (jw_and1 (jt_cmp (o_inA hu (K := K)) (j_ix (o_ix hu (K := K) (w := w)) (j_ix (o_ix hu (K := K) (w := w)) (jn 2) j_int) (jn 5)) (jn 3)))))
    (jss_cons (js_set (i := 6) sc.nd rfl (Or.inl rfl) (j_ix (o_ix hu (K := K) (w := w)) (j_ix (o_ix hu (K := K) (w := w)) (jn 2) j_int) (jn 5)))
    (jss_one js_never))
    jss_nil))))))), ?_⟩
    refine .inl ⟨⟨_, SqL.of hR⟩, ?_⟩
    refine gath_list (xs := rl) (fun i ys σ' H' => H' = H ∧ ys = (qs.take i).map (fun q => V.str (S q.sort)) ∧ ∃ v, σ' = [v]) (by omega) ⟨rfl, rfl, none, rfl⟩
      (fun i ys σ' H' h => by rw [h.2.1, List.length_map, List.length_take]; omega) (fun i ys σ' H' h => by rw [h.1]; exact SqL.of hR) ?_ ?_
    · rintro i x ys σ' H' hi ⟨rfl, rfl, v, rfl⟩
      obtain ⟨dd, hdd, hx⟩ := hDr.get hi
      rw [List.getElem?_map] at hdd
      cases ee : qs[i]? with
      | none => rw [ee] at hdd; cases hdd
      | some g =>
        rw [ee] at hdd
        have ed : dd = g.dat := (Option.some.inj hdd).symm
        subst ed
        obtain ⟨t, tp, rfl, hT, _⟩ := dat_rule hx
        refine .inr ⟨_, .str (S g.sort), hT, atI_nat (j := 0) rfl, ?_⟩
        refine ⟨rfl, ?_, _, rfl⟩
        rw [List.take_add_one, ee, List.map_append]
        rfl
    · rintro ys σ' H' ⟨rfl, rfl, v, rfl⟩ D hD
      rw [hrl, List.take_length]
      have s1 : Same H' (upd H' D (.lst (qs.map fun q => V.str (S q.sort)))) := same_new hD
      have h1 : upd H' D (.lst (qs.map fun q => V.str (S q.sort))) D = some (.lst (qs.map fun q => V.str (S q.sort))) := upd_same
      generalize upd H' D (.lst (qs.map fun q => V.str (S q.sort))) = H1 at s1 h1 ⊢
      refine ⟨false, false, ⟨_, SqL.of (s1 _ _ hR)⟩, ⟨_, SqL.of (s1 _ _ hN)⟩, ?_⟩
      refine for_zip (K := K) (t1 := false) (t2 := false) (a := ra) (b := na) (xs := rl) (ys := nl) (fun i σ H2 => Same H1 H2 ∧ ∃ (v2 v4 v5 v6 : Option V), σ = [some (.ref ra), some (.ref na), v2, some (.ref D), v4, v5, v6]) ⟨Same.refl _, none, none, none, none, rfl⟩ (by omega)
        (fun i σ H2 _ h => ⟨SqL.of (h.1 _ _ (s1 _ _ hR)), SqL.of (h.1 _ _ (s1 _ _ hN))⟩) ?_ ?_
      · rintro i x y σ H2 hi hy ⟨s2, v2, v4, v5, v6, rfl⟩ T3 hT3
        obtain ⟨dd, hdd, hx⟩ := hDr.get hi
        obtain ⟨de, hde, hyd⟩ := hDn.get hy
        rw [List.getElem?_map] at hdd hde
        cases ee : qs[i]? with
        | none => rw [ee] at hdd; cases hdd
        | some g =>
          rw [ee] at hdd hde
          have ed : dd = g.dat := (Option.some.inj hdd).symm
          subst ed
          have ed2 : de = g.nDat := (Option.some.inj hde).symm
          subst ed2
          have hg := List.mem_of_getElem? ee
          have gok := hok g hg
          obtain ⟨t, tp, rfl, hT, hTp⟩ := dat_rule hx
          obtain ⟨tn, rfl, hTn⟩ := dat_note hyd
          have s3 : Same H2 (upd H2 T3 (.tup [.ref t, .ref tn])) := same_new hT3
          have h3 : upd H2 T3 (.tup [.ref t, .ref tn]) T3 = some (.tup [.ref t, .ref tn]) := upd_same
          generalize upd H2 T3 (.tup [.ref t, .ref tn]) = H3 at s3 h3 ⊢
          have s13 : Same H' H3 := (s1.trans s2).trans s3
          refine ⟨T3, _, rfl, SqT.of h3, rfl, _, _, rfl, _, _, rfl, rfl, ?_⟩
          refine .inr ⟨⟨_, s13.seqT hTn⟩, ?_⟩
          refine for_tup (K := K) (a := tn) (xs := [.int g.r0, .int g.r1]) (fun j σ H4 => H4 = H3 ∧ ∃ (v5 v6 : Option V), σ = [some (.ref ra), some (.ref na), some (.ref t), some (.ref D), some (.ref tn), v5, v6]) ⟨rfl, v5, v6, rfl⟩
            (fun j σ H4 _ h => by rw [h.1]; exact s13.seqT hTn) ?_ ?_
          · rintro j z σ H4 hj ⟨rfl, v5, v6, rfl⟩
            obtain ⟨r, rfl, hr, hrr⟩ : ∃ r : Int, z = .int r ∧ (r = g.r0 ∨ r = g.r1) ∧ (r = -1 ∨ (0 ≤ r ∧ r < g.ps.length)) := by
              have e0 := gok.p0.rng
              have e1 := gok.p1.rng
              rw [gok.ln] at e0 e1
              have hz := List.mem_of_getElem? hj
              simp at hz
              rcases hz with rfl | rfl
              · exact ⟨_, rfl, .inl rfl, e0⟩
              · exact ⟨_, rfl, .inr rfl, e1⟩
            show if decide ((0 : Int) ≤ r) = true then _ else _
            refine ite2 (fun h => ?_) (fun h => ?_)
            · have h0 : 0 ≤ r := of_decide_eq_true h
              have hlt : r.toNat < g.ps.length := by omega
              have el := List.getElem?_eq_getElem hlt
              generalize g.ps[r.toNat] = l at el
              have hne : ∀ q' ∈ qs, l ≠ q'.sort := fun q' hq' => hno g hg q' hq' r hr h0 l el
              refine .inr ⟨_, .ref tp, s13.seqT hT, atI_nat (j := 3) rfl, ?_⟩
              refine .inr ⟨_, .str (S l), s13.seqT hTp, ?_, ?_⟩
              · have key := atI_nat (xs := g.ps.map fun l => V.str (S l)) (j := r.toNat) (v := .str (S l)) (by rw [List.getElem?_map, el]; rfl)
                rw [show ((r.toNat : Nat) : Int) = r by omega] at key
                exact key
              refine .inl ⟨_, .inl (SqL.of ((s2.trans s3) _ _ h1)), rfl, flat_sorts _, ?_⟩
              refine (if_neg (show ¬ (false ^^ inV (.str (S l)) (qs.map fun q => V.str (S q.sort))) = true by rw [inV_sorts hne]; decide)).mpr ?_
              exact ⟨rfl, _, _, rfl⟩
            · exact ⟨rfl, _, _, rfl⟩
          · rintro σ H4 ⟨rfl, v5, v6, rfl⟩
            exact ⟨s2.trans s3, _, _, _, _, rfl⟩
      · rintro σ H2 ⟨s2, v2, v4, v5, v6, rfl⟩
        exact q _ (s1.trans s2)
end
end K80

set_option Elab.async false
set_option linter.all false
set_option maxRecDepth 100000
set_option maxHeartbeats 4000000




namespace K80
open PySem PySem.Spec PyProof.Rows L2 Rg
inductive GRow where
  | gap (ps : List Pt)
  | word (k : List Nat) (ps : List Pt)
  | fin (k : List Nat) (d : Nat)
  | rule (q : GR)
  | emp
def eDL : Nat → List Nat
  | 0 => [115, 116, 111, 112]
  | 1 => [111, 112, 101, 110]
  | _ => [99, 108, 111, 115, 101]
theorem eDL_S : ∀ d : Nat, eDeed d = S (eDL d)
  | 0 => rfl
  | 1 => rfl
  | _ + 2 => rfl
abbrev gapL : List Nat := [103, 97, 112]
abbrev wordL : List Nat := [119, 111, 114, 100]
abbrev ruleL : List Nat := [114, 117, 108, 101]
def GRow.words : GRow → List (List Nat)
  | .gap ps => gapL :: ps.map Pt.txt
  | .word k ps => wordL :: k :: ps.map Pt.txt
  | .fin k d => [eDL d, k]
  | .rule q => q.words
  | .emp => [[]]
def FormOk (ps : List Pt) : Prop := ps ≠ [] ∧ (∀ p ∈ ps, p.Ok) ∧ ps.length ≤ 12
def GRow.Ok : GRow → Prop
  | .gap ps => FormOk ps
  | .word k ps => KOk k ∧ FormOk ps
  | .fin k d => KOk k ∧ d < 3
  | .rule q => q.Ok
  | .emp => True
def GRow.txt (r : GRow) : List Nat := joinWith [32] r.words
def gBook : GRow → List (List Nat × List Pt)
  | .gap ps => [([], ps)]
  | .word k ps => [(k, ps)]
  | _ => []
def gRule : GRow → List GR
  | .rule q => [q]
  | _ => []
def gEnd : GRow → List (List Nat × Nat)
  | .fin k d => [(k, d)]
  | _ => []
def bDat (x : List Nat × List Pt) : PyData := .tuple [.str (S x.1), .list (x.2.map Pt.dat)]
def WOk (t : List Nat) : Prop := t ≠ [] ∧ 32 ∉ t ∧ 10 ∉ t
theorem wok_kind {l : List Nat} (h : KOk l) : WOk l := ⟨fun z => by have := h.l1; rw [z] at this; simp at this, fun m => by have := h.az _ m; omega, fun m => by have := h.az _ m; omega⟩
theorem wok_part {p : Pt} (h : p.Ok) : WOk p.txt := ⟨by unfold Pt.txt; simp, fun m => (txt_wr h 32 m).2 rfl, fun m => by have := (txt_wr h 10 m).1; unfold wr at this; omega⟩
theorem wok_rk {n : Nat} (h : n < 100) : WOk (rk n) := by
  obtain ⟨h1, h2⟩ := rk_ok h
  exact ⟨fun z => by rw [z] at h2; simp at h2, fun m => by have := h1 _ m; omega, fun m => by have := h1 _ m; omega⟩
theorem wok_side (d : Nat) : WOk (sideL d) := by unfold sideL WOk; split <;> decide
theorem wok_deed (d : Nat) : WOk (eDL d) := by unfold eDL WOk; split <;> decide
theorem wok_told {l t : List Nat} (h : KOk l) (ht : Told l t) : WOk t := by
  have hl := wok_kind h
  unfold WOk at hl ⊢
  rcases ht with rfl | rfl | rfl
  · exact hl
  · simp [hl.2]
  · simp [hl.2]
theorem GR.Ok.wok {q : GR} (h : q.Ok) : ∀ t ∈ q.words, WOk t := fun t ht => by
  unfold GR.words at ht
  rcases List.mem_cons.mp ht with rfl | ht
  · unfold WOk; decide
  rcases List.mem_cons.mp ht with rfl | ht
  · exact wok_kind h.ks
  rcases List.mem_cons.mp ht with rfl | ht
  · exact wok_rk h.hn
  rcases List.mem_cons.mp ht with rfl | ht
  · exact wok_side _
  obtain ⟨i, hi⟩ := List.mem_iff_getElem?.mp ht
  have hlt := (List.getElem?_eq_some_iff.mp hi).1
  have e := List.getElem?_eq_getElem (l := q.ps) (i := i) (by rw [← h.ln]; exact hlt)
  exact wok_told (h.kp _ (List.mem_of_getElem? e)) (h.td i _ t e hi)
theorem parts_wok {ps : List Pt} (h : FormOk ps) : ∀ t ∈ ps.map Pt.txt, WOk t := fun t ht => by
  obtain ⟨p, hp, rfl⟩ := List.mem_map.mp ht
  exact wok_part (h.2.1 p hp)
theorem GRow.Ok.wok {r : GRow} (h : r.Ok) (hr : r ≠ .emp) : ∀ t ∈ r.words, WOk t := by
  cases r with
  | gap ps =>
    intro t ht
    rcases List.mem_cons.mp ht with rfl | ht
    · unfold WOk; decide
    · exact parts_wok h t ht
  | word k ps =>
    intro t ht
    rcases List.mem_cons.mp ht with rfl | ht
    · unfold WOk; decide
    rcases List.mem_cons.mp ht with rfl | ht
    · exact wok_kind h.1
    · exact parts_wok h.2 t ht
  | fin k d =>
    intro t ht
    rcases List.mem_cons.mp ht with rfl | ht
    · exact wok_deed d
    · rw [List.mem_singleton.mp ht]; exact wok_kind h.1
  | rule q => exact GR.Ok.wok h
  | emp => exact absurd rfl hr
theorem words_ne (r : GRow) : r.words ≠ [] := by cases r <;> simp [GRow.words, GR.words]
theorem join_nil {ps : List (List Nat)} : ∀ {t : List Nat}, t ≠ [] → joinWith [32] (t :: ps) ≠ [] := by
  intro t ht
  cases ps with
  | nil => exact ht
  | cons q r => intro z; have : t ++ [32] ++ joinWith [32] (q :: r) = [] := z; simp at this
theorem txt_ne {r : GRow} (h : r.Ok) (hr : r ≠ .emp) : r.txt ≠ [] := by
  have hw := h.wok hr
  unfold GRow.txt
  cases e : r.words with
  | nil => exact absurd e (words_ne r)
  | cons t ts => exact join_nil (hw t (by rw [e]; exact List.mem_cons_self)).1
theorem txt_split {r : GRow} (h : r.Ok) : splitOn 32 r.txt = r.words := by
  unfold GRow.txt
  refine splitOn_join (words_ne r) fun t ht => ?_
  by_cases hr : r = .emp
  · subst hr
    rw [List.mem_singleton.mp ht]
    simp
  · exact (h.wok hr t ht).2.1
theorem txt_ten {r : GRow} (h : r.Ok) : 10 ∉ r.txt := by
  by_cases hr : r = .emp
  · subst hr
    show 10 ∉ ([] : List Nat)
    simp
  · unfold GRow.txt
    have hw := h.wok hr
    generalize r.words = ws at hw
    have key : ∀ ws : List (List Nat), (∀ t ∈ ws, WOk t) → 10 ∉ joinWith [32] ws := by
      intro ws
      induction ws with
      | nil => intro _; simp [joinWith]
      | cons t r ih =>
        intro hw
        cases r with
        | nil => exact (hw t List.mem_cons_self).2.2
        | cons u r =>
          intro m
          have m' : 10 ∈ t ++ [32] ++ joinWith [32] (u :: r) := m
          rcases List.mem_append.mp m' with m' | m'
          · rcases List.mem_append.mp m' with m' | m'
            · exact (hw t List.mem_cons_self).2.2 m'
            · simp at m'
          · exact ih (fun x hx => hw x (List.mem_cons_of_mem _ hx)) m'
    exact key ws hw
theorem first {r : GRow} (h : r.Ok) (hr : r ≠ .emp) : ∃ w0, r.words[0]? = some w0 ∧ (w0 = gapL → ∃ ps, r = .gap ps) ∧ (w0 = wordL → ∃ k ps, r = .word k ps) ∧ ((w0 = eDL 0 ∨ w0 = eDL 1 ∨ w0 = eDL 2) → ∃ k d, r = .fin k d) ∧ (w0 = ruleL → ∃ q, r = .rule q) ∧ (w0 = gapL ∨ w0 = wordL ∨ (w0 = eDL 0 ∨ w0 = eDL 1 ∨ w0 = eDL 2) ∨ w0 = ruleL) := by
  cases r with
  | gap ps => exact ⟨gapL, rfl, fun _ => ⟨ps, rfl⟩, fun z => absurd z (by decide), fun z => absurd z (by decide), fun z => absurd z (by decide), .inl rfl⟩
  | word k ps => exact ⟨wordL, rfl, fun z => absurd z (by decide), fun _ => ⟨k, ps, rfl⟩, fun z => absurd z (by decide), fun z => absurd z (by decide), .inr (.inl rfl)⟩
  | fin k d =>
    have h3 : d < 3 := h.2
    have hd : eDL d = eDL 0 ∨ eDL d = eDL 1 ∨ eDL d = eDL 2 := by
      have : d = 0 ∨ d = 1 ∨ d = 2 := by omega
      rcases this with rfl | rfl | rfl <;> simp
    refine ⟨eDL d, rfl, fun z => ?_, fun z => ?_, fun _ => ⟨k, d, rfl⟩, fun z => ?_, .inr (.inr (.inl hd))⟩
    · rcases hd with e | e | e <;> rw [e] at z <;> exact absurd z (by decide)
    · rcases hd with e | e | e <;> rw [e] at z <;> exact absurd z (by decide)
    · rcases hd with e | e | e <;> rw [e] at z <;> exact absurd z (by decide)
  | rule q => exact ⟨ruleL, rfl, fun z => absurd z (by decide), fun z => absurd z (by decide), fun z => absurd z (by decide), fun _ => ⟨q, rfl⟩, .inr (.inr (.inr rfl))⟩
  | emp => exact absurd rfl hr
structure RowsOk (rows : List GRow) : Prop where
  ok : ∀ r ∈ rows, r.Ok
  sz : ∀ r ∈ rows, r.txt.length ≤ 10000
  nb : (rows.flatMap gBook).length ≤ 24
  ne : (rows.flatMap gEnd).length ≤ 24
  nd : ((rows.flatMap gEnd).map Prod.fst).Nodup
  no : NotesOk (rows.flatMap gRule)
theorem cutRow {rows : List GRow} {i : Nat} {r : GRow} (e : rows[i]? = some r) : rows = rows.take i ++ r :: rows.drop (i + 1) := by
  obtain ⟨hlt, er⟩ := List.getElem?_eq_some_iff.mp e
  rw [← er, ← List.drop_eq_getElem_cons hlt, List.take_append_drop]
theorem RowsOk.book {rows : List GRow} (h : RowsOk rows) {i : Nat} {r : GRow} (e : rows[i]? = some r) {x : List Nat × List Pt} (hx : gBook r = [x]) : ((rows.take i).flatMap gBook).length < 24 := by
  have h1 := h.nb
  rw [cutRow e, List.flatMap_append, List.flatMap_cons, hx, List.length_append, List.length_append] at h1
  simp only [List.length_cons] at h1
  omega
theorem RowsOk.ends {rows : List GRow} (h : RowsOk rows) {i : Nat} {r : GRow} (e : rows[i]? = some r) {x : List Nat × Nat} (hx : gEnd r = [x]) : ((rows.take i).flatMap gEnd).length < 24 ∧ ∀ y ∈ (rows.take i).flatMap gEnd, y.1 ≠ x.1 := by
  have h1 := h.ne
  have h2 := h.nd
  rw [cutRow e, List.flatMap_append, List.flatMap_cons, hx] at h1 h2
  refine ⟨by simp only [List.length_append, List.length_cons] at h1; omega, fun y hy z => ?_⟩
  rw [List.map_append, List.nodup_append] at h2
  exact h2.2.2 y.1 (List.mem_map.mpr ⟨y, hy, rfl⟩) x.1 (by simp) z
theorem take1 {rows : List GRow} {i : Nat} {r : GRow} (e : rows[i]? = some r) : rows.take (i + 1) = rows.take i ++ [r] := by rw [List.take_add_one, e]; rfl
section
variable {P : Program} {w : World} {K : PySem.W.Frag} {mg : Str → Option Value} {base : Heap} {aN aD aS : Addr}
structure Four (K : PySem.W.Frag) (H : Hp) (b1 b2 b3 b4 : Addr) (l1 l2 l3 l4 : List V) (pre : List GRow) : Prop where
  h1 : H b1 = some (.lst l1)
  h2 : H b2 = some (.lst l2)
  h3 : H b3 = some (.lst l3)
  h4 : H b4 = some (.lst l4)
  d1 : DatVs K (rem [b1, b2, b3, b4] H) l1 ((pre.flatMap gBook).map bDat)
  d2 : DatVs K (rem [b1, b2, b3, b4] H) l2 ((pre.flatMap gRule).map GR.dat)
  d3 : DatVs K (rem [b1, b2, b3, b4] H) l3 ((pre.flatMap gEnd).map eDat)
  d4 : DatVs K (rem [b1, b2, b3, b4] H) l4 ((pre.flatMap gRule).map GR.nDat)
variable {H H' : Hp} {b1 b2 b3 b4 : Addr} {l1 l2 l3 l4 : List V} {pre : List GRow} {r : GRow} {t : Addr}
theorem Four.same (F : Four K H b1 b2 b3 b4 l1 l2 l3 l4 pre) (s : Same H H') : Four K H' b1 b2 b3 b4 l1 l2 l3 l4 pre :=
  ⟨s _ _ F.h1, s _ _ F.h2, s _ _ F.h3, s _ _ F.h4, F.d1.same (rem_le s), F.d2.same (rem_le s), F.d3.same (rem_le s), F.d4.same (rem_le s)⟩
theorem rem_le1 {cs : List Addr} {b : Addr} (hb : b ∈ cs) (s : Same (rem [b] H) H') : Same (rem cs H) (rem cs H') := fun x u e => by
  have nb : x ∉ cs := fun m => by rw [rem_in m] at e; cases e
  rw [rem_out nb] at e ⊢
  exact s x u (by rw [rem_out fun m => nb (by rw [List.mem_singleton.mp m]; exact hb)]; exact e)
theorem rem_ne {b c : Addr} {o : HO} (s : Same (rem [b] H) H') (n : c ≠ b) (h : H c = some o) : H' c = some o := s c o (by rw [rem_out fun m => n (List.mem_singleton.mp m)]; exact h)
theorem Four.lsts (F : Four K H b1 b2 b3 b4 l1 l2 l3 l4 pre) : Lsts H [b1, b2, b3, b4] := fun c hc => by
  simp at hc
  rcases hc with rfl | rfl | rfl | rfl
  · exact ⟨_, F.h1⟩
  · exact ⟨_, F.h2⟩
  · exact ⟨_, F.h3⟩
  · exact ⟨_, F.h4⟩
theorem Four.put1 (F : Four K H b1 b2 b3 b4 l1 l2 l3 l4 pre) (n2 : b2 ≠ b1) (n3 : b3 ≠ b1) (n4 : b4 ≠ b1) (s : Same (rem [b1] H) H') (h : H' b1 = some (.lst (l1 ++ [.ref t]))) {x : List Nat × List Pt} (e1 : gBook r = [x]) (e2 : gRule r = []) (e3 : gEnd r = [])
    (d : DatV K (rem [b1, b2, b3, b4] H') (.ref t) (bDat x)) : Four K H' b1 b2 b3 b4 (l1 ++ [.ref t]) l2 l3 l4 (pre ++ [r]) := by
  have sr := rem_le1 (cs := [b1, b2, b3, b4]) (by simp) s
  refine ⟨h, rem_ne s n2 F.h2, rem_ne s n3 F.h3, rem_ne s n4 F.h4, ?_, ?_, ?_, ?_⟩
  · rw [List.flatMap_append, List.flatMap_singleton, e1, List.map_append]; exact DatVs.snoc d (F.d1.same sr)
  · rw [List.flatMap_append, List.flatMap_singleton, e2, List.append_nil]; exact F.d2.same sr
  · rw [List.flatMap_append, List.flatMap_singleton, e3, List.append_nil]; exact F.d3.same sr
  · rw [List.flatMap_append, List.flatMap_singleton, e2, List.append_nil]; exact F.d4.same sr
theorem Four.put3 (F : Four K H b1 b2 b3 b4 l1 l2 l3 l4 pre) (n1 : b1 ≠ b3) (n2 : b2 ≠ b3) (n4 : b4 ≠ b3) (s : Same (rem [b3] H) H') (h : H' b3 = some (.lst (l3 ++ [.ref t]))) {x : List Nat × Nat} (e1 : gBook r = []) (e2 : gRule r = []) (e3 : gEnd r = [x])
    (d : DatV K (rem [b1, b2, b3, b4] H') (.ref t) (eDat x)) : Four K H' b1 b2 b3 b4 l1 l2 (l3 ++ [.ref t]) l4 (pre ++ [r]) := by
  have sr := rem_le1 (cs := [b1, b2, b3, b4]) (by simp) s
  refine ⟨rem_ne s n1 F.h1, rem_ne s n2 F.h2, h, rem_ne s n4 F.h4, ?_, ?_, ?_, ?_⟩
  · rw [List.flatMap_append, List.flatMap_singleton, e1, List.append_nil]; exact F.d1.same sr
  · rw [List.flatMap_append, List.flatMap_singleton, e2, List.append_nil]; exact F.d2.same sr
  · rw [List.flatMap_append, List.flatMap_singleton, e3, List.map_append]; exact DatVs.snoc d (F.d3.same sr)
  · rw [List.flatMap_append, List.flatMap_singleton, e2, List.append_nil]; exact F.d4.same sr
theorem Four.put24 (F : Four K H b1 b2 b3 b4 l1 l2 l3 l4 pre) (s : ∀ x u, x ∉ [b2, b4] → H x = some u → H' x = some u) (n1 : b1 ∉ [b2, b4]) (n3 : b3 ∉ [b2, b4]) {tn : Addr} (h : H' b2 = some (.lst (l2 ++ [.ref t]))) (h' : H' b4 = some (.lst (l4 ++ [.ref tn]))) {x : GR} (e1 : gBook r = []) (e2 : gRule r = [x]) (e3 : gEnd r = [])
    (d : DatV K (rem [b1, b2, b3, b4] H') (.ref t) x.dat) (d' : DatV K (rem [b1, b2, b3, b4] H') (.ref tn) x.nDat) : Four K H' b1 b2 b3 b4 l1 (l2 ++ [.ref t]) l3 (l4 ++ [.ref tn]) (pre ++ [r]) := by
  have sr : Same (rem [b1, b2, b3, b4] H) (rem [b1, b2, b3, b4] H') := fun x u e => by
    have nb : x ∉ [b1, b2, b3, b4] := fun m => by rw [rem_in m] at e; cases e
    rw [rem_out nb] at e ⊢
    exact s x u (fun m => nb (by simp at m ⊢; rcases m with m | m <;> simp [m])) e
  refine ⟨s _ _ n1 F.h1, h, s _ _ n3 F.h3, h', ?_, ?_, ?_, ?_⟩
  · rw [List.flatMap_append, List.flatMap_singleton, e1, List.append_nil]; exact F.d1.same sr
  · rw [List.flatMap_append, List.flatMap_singleton, e2, List.map_append]; exact DatVs.snoc d (F.d2.same sr)
  · rw [List.flatMap_append, List.flatMap_singleton, e3, List.append_nil]; exact F.d3.same sr
  · rw [List.flatMap_append, List.flatMap_singleton, e2, List.map_append]; exact DatVs.snoc d' (F.d4.same sr)
theorem Four.emp (F : Four K H b1 b2 b3 b4 l1 l2 l3 l4 pre) : Four K H b1 b2 b3 b4 l1 l2 l3 l4 (pre ++ [.emp]) := by
  refine ⟨F.h1, F.h2, F.h3, F.h4, ?_, ?_, ?_, ?_⟩ <;> rw [List.flatMap_append, List.flatMap_singleton]
  · exact (List.append_nil (pre.flatMap gBook)).symm ▸ F.d1
  · exact (List.append_nil (pre.flatMap gRule)).symm ▸ F.d2
  · exact (List.append_nil (pre.flatMap gEnd)).symm ▸ F.d3
  · exact (List.append_nil (pre.flatMap gRule)).symm ▸ F.d4
theorem form_dat {cs : List Addr} (hc : Lsts H' cs) {k : List Nat} {ps : List Pt} {fa : Addr} {fv : List V} (hn : fa ∉ cs) (ht : H' t = some (.tup [.str (S k), .ref fa])) (hf : H' fa = some (.lst fv)) (hd : DatVs K H' fv (ps.map Pt.dat)) : DatV K (rem cs H') (.ref t) (bDat (k, ps)) := by
  refine .tuple (sqT_rem hc (SqT.of ht)) (.cons (.str _) (.cons (.list (SqL.of ?_) (parts_rem hc hd)) .nil))
  rw [rem_out hn]; exact hf
theorem end_dat {cs : List Addr} (hc : Lsts H' cs) {k : List Nat} {d : Nat} (ht : H' t = some (.tup [.str (S k), .str (eDeed d)])) : DatV K (rem cs H') (.ref t) (eDat (k, d)) := .tuple (sqT_rem hc (SqT.of ht)) (.cons (.str _) (.cons (.str _) .nil))
theorem rule_dat {cs : List Addr} (hc : Lsts H' cs) {q : GR} {tp : Addr} (ht : H' t = some (.tup [.str (S q.sort), .int (q.n : Nat), .str (S (sideL q.sd)), .ref tp])) (hp : H' tp = some (.tup (q.ps.map fun l => V.str (S l)))) : DatV K (rem cs H') (.ref t) q.dat :=
  .tuple (sqT_rem hc (SqT.of ht)) (.cons (.str _) (.cons (.int _) (.cons (.str _) (.cons (.tuple (sqT_rem hc (SqT.of hp)) (dat_strs _)) .nil))))
theorem note_dat {cs : List Addr} (hc : Lsts H' cs) {q : GR} (ht : H' t = some (.tup [.int q.r0, .int q.r1])) : DatV K (rem cs H') (.ref t) q.nDat := .tuple (sqT_rem hc (SqT.of ht)) (.cons (.int _) (.cons (.int _) .nil))
theorem inV_none {ws : List (List Nat)} (h : ∀ t ∈ ws, t ≠ []) : inV (.str "") (ws.map fun t => V.str (S t)) = false := by
  induction ws with
  | nil => rfl
  | cons t r ih =>
    have h1 : ((S t : Str) == S []) = false := by rw [beqS]; exact decide_eq_false (h t List.mem_cons_self)
    show (((S t : Str) == S []) || inV (.str "") (r.map fun t => V.str (S t))) = false
    rw [h1, ih fun x hx => h x (List.mem_cons_of_mem _ hx)]; rfl
theorem flat_strs (ws : List (List Nat)) : (ws.map fun t => V.str (S t)).all flatV = true := by
  rw [List.all_eq_true]
  intro x hx
  obtain ⟨q, _, rfl⟩ := List.mem_map.mp hx
  rfl
theorem in_deeds (w0 : List Nat) : inV (.str (S w0)) [.str "stop", .str "open", .str "close"] = decide (w0 = eDL 0 ∨ w0 = eDL 1 ∨ w0 = eDL 2) := by
  show (((S (eDL 0) : Str) == S w0) || (((S (eDL 1) : Str) == S w0) || (((S (eDL 2) : Str) == S w0) || false))) = _
  rw [beqS, beqS, beqS, Bool.or_false]
  by_cases h0 : eDL 0 = w0
  · simp [h0]
  · by_cases h1 : eDL 1 = w0
    · simp [h1]
    · by_cases h2 : eDL 2 = w0
      · simp [h2]
      · rw [decide_eq_false h0, decide_eq_false h1, decide_eq_false h2]
        exact (decide_eq_false (fun z => by rcases z with z | z | z; exact h0 z.symm; exact h1 z.symm; exact h2 z.symm)).symm
end
end K80

set_option Elab.async false
set_option linter.all false
set_option maxRecDepth 100000
set_option maxHeartbeats 4000000




namespace K80
open PySem PySem.Spec PyProof.Rows L2 Rg
section
variable {P : Program} {w : World} {K : PySem.W.Frag} {mg : Str → Option Value} {base : Heap} {aN aD aS : Addr}
theorem gRules_mem {rows : List GRow} (h : ∀ r ∈ rows, r.Ok) : ∀ q ∈ rows.flatMap gRule, q.Ok := fun q hq => by
  obtain ⟨r, hr, hq⟩ := List.mem_flatMap.mp hq
  cases r with
  | rule q' => rw [show gRule (.rule q') = [q'] from rfl] at hq; rw [List.mem_singleton.mp hq]; exact h _ hr
  | gap ps => cases hq
  | word k ps => cases hq
  | fin k d => cases hq
  | emp => cases hq
theorem gRules_len : ∀ rows : List GRow, (rows.flatMap gRule).length ≤ rows.length
  | [] => by simp
  | r :: rs => by
    have ih := gRules_len rs
    rw [List.flatMap_cons, List.length_append, List.length_cons]
    have : (gRule r).length ≤ 1 := by cases r <;> simp [gRule]
    omega
def spGO (K : PySem.W.Frag) : Sp := fun vs H Q _ => ∃ (tx : List Nat) (rows : List GRow), vs = [.str (S tx)] ∧ splitOn 10 tx = rows.map GRow.txt ∧ tx.length ≤ 300000 ∧ rows.length ≤ 60 ∧ RowsOk rows ∧
  ∀ (H' : Hp) (t b1 b2 b3 b4 : Addr) (l1 l2 l3 l4 : List V), Same H H' → H b1 = none → H b2 = none → H b3 = none → H b4 = none → H' t = some (.tup [.ref b1, .ref b2, .ref b3, .ref b4]) → Four K H' b1 b2 b3 b4 l1 l2 l3 l4 rows → Q (.ref t) H'
abbrev st_grammar_of : Stmt := top 24
theorem sc_grammar_of : FnScope ["text", "book", "rules", "ends", "notes", "row", "words"] ["text"] (defScope st_grammar_of) := ⟨rfl, rfl, rfl, by decide +kernel, rfl, by decide +kernel, by decide +kernel⟩
theorem def_go (R : Raw K mg "grammar_of" st_grammar_of ["text"]) (T : Txt2 K w mg aN aD aS) (D_check_notes : Def P w K mg base 1 "check_notes" ["rules", "notes"] (spCN K)) (D_kind_at : Def P w K mg base 2 "kind_at" ["words", "place"] (spKA K)) (D_note_of : Def P w K mg base 2 "note_of" ["words"] (spNote K))
    (D_put_end : Def P w K mg base 3 "put_end" ["ends", "words"] (spPE K)) (D_put_form : Def P w K mg base 4 "put_form" ["book", "kind", "words"] (spPF K)) (D_rule_of : Def P w K mg base 3 "rule_of" ["words"] (spRule K)) : Def P w K mg base 5 "grammar_of" ["text"] (spGO K) := by
  refine R.defJ sc_grammar_of (fun vs H Q E h => ?_) (fun f cdv A outer s H vs Q E hr h => ?_)
  · obtain ⟨tx, rows, rfl, _⟩ := h
    rfl
  · obtain ⟨tx, rows, rfl, h10, htx, hrl, rok, q⟩ := h
    have sc := sc_grammar_of
    have hu := hr.units
    have hb := big
    refine ⟨_, (jss_cons (js_set (i := 1) sc.nd rfl (Or.inl rfl) (j_lst ja_nil))
    (jss_cons (js_set (i := 2) sc.nd rfl (Or.inl rfl) (j_lst ja_nil))
    (jss_cons (js_set (i := 3) sc.nd rfl (Or.inl rfl) (j_lst ja_nil))
    (jss_cons (js_set (i := 4) sc.nd rfl (Or.inl rfl) (j_lst ja_nil))
    (jss_cons (js_for PassesOwn.never rfl (ji_any (K := K) (j_bm (K := K) PySem.F.plainAttrs_str PySem.F.slot_str_split PySem.F.type_str_split m_split (jn 0) (ja_cons j_str ja_nil))) (jg_name (i := 5) sc.nd rfl (Or.inl rfl))
    (jss_cons (js_set (i := 6) sc.nd rfl (Or.inl rfl) (j_bm (K := K) PySem.F.plainAttrs_str PySem.F.slot_str_split PySem.F.type_str_split m_split (jn 5) (ja_cons j_str ja_nil)))
    (jss_cons (js_if (jt_cmp (o_eq hu (K := K)) (jn 5) j_str)
    (jss_one js_continue)
    jss_nil)
    (jss_cons (js_if (jt_cmp (o_inA hu (K := K)) j_str (jn 6))
    (jss_one js_never)
    jss_nil)
    (jss_one (js_if (jt_cmp (o_eq hu (K := K)) (j_ix (o_ix hu (K := K) (w := w)) (jn 6) j_int) j_str)
    (jss_one (js_expr (j_def D_put_form (hr.mono (by decide)) rfl (ja_cons (jn 1) (ja_cons (j_gstr rfl T.g_GAP) (ja_cons (j_slice (o_slA (K := K)) (jn 6) (jo_some j_int) jo_none) ja_nil))))))
    (jss_one (js_if (jt_cmp (o_eq hu (K := K)) (j_ix (o_ix hu (K := K) (w := w)) (jn 6) j_int) j_str)
    (jss_one (js_expr (j_def D_put_form (hr.mono (by decide)) rfl (ja_cons (jn 1) (ja_cons (j_def D_kind_at (hr.mono (by decide)) rfl (ja_cons (jn 6) (ja_cons j_int ja_nil))) (ja_cons (j_slice (o_slA (K := K)) (jn 6) (jo_some j_int) jo_none) ja_nil))))))
    (jss_one (js_if (jt_cmp (o_inA hu (K := K)) (j_ix (o_ix hu (K := K) (w := w)) (jn 6) j_int) (j_glob (v := .ref _) rfl T.g_DEEDS_grammars rfl))
    (jss_one (js_expr (j_def D_put_end (hr.mono (by decide)) rfl (ja_cons (jn 3) (ja_cons (jn 6) ja_nil)))))
    (jss_one (js_if (jt_cmp (o_eq hu (K := K)) (j_ix (o_ix hu (K := K) (w := w)) (jn 6) j_int) j_str)
    (jss_cons (js_expr (j_bm (K := K) PySem.F.plainAttrs_list PySem.F.slot_list_append PySem.F.type_list_append m_append (jn 2) (ja_cons (j_def D_rule_of (hr.mono (by decide)) rfl (ja_cons (jn 6) ja_nil)) ja_nil)))
    (jss_one (js_expr (j_bm (K := K) PySem.F.plainAttrs_list PySem.F.slot_list_append PySem.F.type_list_append m_append (jn 4) (ja_cons (j_def D_note_of (hr.mono (by decide)) rfl (ja_cons (j_slice (o_slA (K := K)) (jn 6) (jo_some j_int) jo_none) ja_nil)) ja_nil)))))
    (jss_one js_never)))))))))))))
    (jss_cons (js_expr (j_def D_check_notes (hr.mono (by decide)) rfl (ja_cons (jn 2) (ja_cons (jn 4) ja_nil))))
    (jss_one (js_ret (j_tup (ja_cons (jn 1) (ja_cons (jn 2) (ja_cons (jn 3) (ja_cons (jn 4) ja_nil))))))))))))), ?_⟩
    refine ⟨(show 0 ≤ sizeLine by decide), fun b1 hb1 => ?_⟩
    have s1 : Same H (upd H b1 (.lst [])) := same_new hb1
    have h1 : upd H b1 (.lst []) b1 = some (.lst []) := upd_same
    generalize upd H b1 (.lst []) = H1 at s1 h1 ⊢
    refine ⟨(show 0 ≤ sizeLine by decide), fun b2 hb2 => ?_⟩
    have s2 : Same H1 (upd H1 b2 (.lst [])) := same_new hb2
    have h2 : upd H1 b2 (.lst []) b2 = some (.lst []) := upd_same
    generalize upd H1 b2 (.lst []) = H2 at s2 h2 ⊢
    refine ⟨(show 0 ≤ sizeLine by decide), fun b3 hb3 => ?_⟩
    have s3 : Same H2 (upd H2 b3 (.lst [])) := same_new hb3
    have h3 : upd H2 b3 (.lst []) b3 = some (.lst []) := upd_same
    generalize upd H2 b3 (.lst []) = H3 at s3 h3 ⊢
    refine ⟨(show 0 ≤ sizeLine by decide), fun b4 hb4 => ?_⟩
    have s4 : Same H3 (upd H3 b4 (.lst [])) := same_new hb4
    have h4 : upd H3 b4 (.lst []) b4 = some (.lst []) := upd_same
    generalize upd H3 b4 (.lst []) = H4 at s4 h4 ⊢
    have n21 : b2 ≠ b1 := fun z => by rw [z, h1] at hb2; cases hb2
    have n31 : b3 ≠ b1 := fun z => by rw [z, s2 _ _ h1] at hb3; cases hb3
    have n32 : b3 ≠ b2 := fun z => by rw [z, h2] at hb3; cases hb3
    have n41 : b4 ≠ b1 := fun z => by rw [z, s3 _ _ (s2 _ _ h1)] at hb4; cases hb4
    have n42 : b4 ≠ b2 := fun z => by rw [z, s3 _ _ h2] at hb4; cases hb4
    have n43 : b4 ≠ b3 := fun z => by rw [z, h3] at hb4; cases hb4
    have k2 : H b2 = none := s1.free hb2
    have k3 : H b3 = none := (s1.trans s2).free hb3
    have k4 : H b4 = none := ((s1.trans s2).trans s3).free hb4
    have s04 : Same H H4 := ((s1.trans s2).trans s3).trans s4
    have F0 : Four K H4 b1 b2 b3 b4 [] [] [] [] [] := ⟨s4 _ _ (s3 _ _ (s2 _ _ h1)), s4 _ _ (s3 _ _ h2), s4 _ _ h3, h4, .nil, .nil, .nil, .nil⟩
    clear h1 h2 h3 h4 s1 s2 s3 s4 hb2 hb3 hb4
    have esp : Txt.split (S tx) (Str.ofString "\n") = rows.map fun r => S r.txt := by
      have e1 := split_S tx 10 (by decide)
      rw [h10, List.map_map] at e1
      exact e1
    refine ⟨rfl, by decide, by rw [S_len]; omega, by rw [esp, List.length_map]; omega, fun p hp => ?_⟩
    rw [esp, List.map_map]
    have s5 : Same H4 (upd H4 p (.lst (rows.map (V.str ∘ fun r => S r.txt)))) := same_new hp
    have h5 : upd H4 p (.lst (rows.map (V.str ∘ fun r => S r.txt))) p = some (.lst (rows.map (V.str ∘ fun r => S r.txt))) := upd_same
    have np1 : p ≠ b1 := fun z => by rw [z, F0.h1] at hp; cases hp
    have np2 : p ≠ b2 := fun z => by rw [z, F0.h2] at hp; cases hp
    have np3 : p ≠ b3 := fun z => by rw [z, F0.h3] at hp; cases hp
    have np4 : p ≠ b4 := fun z => by rw [z, F0.h4] at hp; cases hp
    generalize upd H4 p (.lst (rows.map (V.str ∘ fun r => S r.txt))) = H5 at s5 h5 ⊢
    refine .inl ⟨⟨_, SqL.of h5⟩, ?_⟩
    refine for_list (K := K) (a := p) (xs := rows.map (V.str ∘ fun r => S r.txt)) (fun i σ H' => ∃ (l1 l2 l3 l4 : List V) (v5 v6 : Option V), Same H H' ∧ H' p = some (.lst (rows.map (V.str ∘ fun r => S r.txt))) ∧ Four K H' b1 b2 b3 b4 l1 l2 l3 l4 (rows.take i) ∧ σ = [some (.str (S tx)), some (.ref b1), some (.ref b2), some (.ref b3), some (.ref b4), v5, v6])
      ⟨[], [], [], [], none, none, s04.trans s5, h5, F0.same s5, rfl⟩ (fun i σ H' _ h => by obtain ⟨l1, l2, l3, l4, v5, v6, _, hh, _⟩ := h; exact SqL.of hh) ?_ ?_
    · rintro i x σ H' hi ⟨l1, l2, l3, l4, v5, v6, sm, hP, F, rfl⟩
      rw [List.getElem?_map] at hi
      cases er : rows[i]? with
      | none => rw [er] at hi; cases hi
      | some r =>
        rw [er] at hi
        have ex : x = .str (S r.txt) := (Option.some.inj hi).symm
        subst ex
        have hmr := List.mem_of_getElem? er
        have ok := rok.ok r hmr
        have hsz := rok.sz r hmr
        have esr : Txt.split (S r.txt) (Str.ofString " ") = r.words.map S := by
          have e1 := split_S r.txt 32 (by decide)
          rw [txt_split ok] at e1
          exact e1
        have hwl : r.words.length ≤ 10001 := by have := splitOn_len 32 r.txt; rw [txt_split ok] at this; omega
        refine ⟨rfl, by decide, by rw [S_len]; omega, by rw [esr, List.length_map]; omega, fun pw hpw => ?_⟩
        rw [esr, List.map_map]
        have s6 : Same H' (upd H' pw (.lst (r.words.map (V.str ∘ S)))) := same_new hpw
        have h6 : upd H' pw (.lst (r.words.map (V.str ∘ S))) pw = some (.lst (r.words.map fun t => V.str (S t))) := upd_same
        generalize upd H' pw (.lst (r.words.map (V.str ∘ S))) = H6 at s6 h6 ⊢
        have hP6 := s6 _ _ hP
        have F6 := F.same s6
        have sm6 := sm.trans s6
        have hnw : pw ≠ b1 ∧ pw ≠ b2 ∧ pw ≠ b3 ∧ pw ≠ b4 := ⟨(fun z => by rw [z, F.h1] at hpw; cases hpw), (fun z => by rw [z, F.h2] at hpw; cases hpw), (fun z => by rw [z, F.h3] at hpw; cases hpw), (fun z => by rw [z, F.h4] at hpw; cases hpw)⟩
        clear F hP sm s6
        show if (false ^^ decide ((S r.txt : Str) = S [])) = true then _ else _
        rw [Bool.false_xor, eqS_eq]
        refine ite2 (fun h => ?_) (fun h => ?_)
        · have e : r = .emp := Classical.byContradiction fun z => txt_ne ok z (of_decide_eq_true h)
          subst e
          exact ⟨l1, l2, l3, l4, _, _, sm6, hP6, by rw [take1 er]; exact F6.emp, rfl⟩
        have hne : r ≠ .emp := fun z => h (by rw [z]; rfl)
        have hwk := ok.wok hne
        refine .inl ⟨_, .inl (SqL.of h6), rfl, flat_strs _, ?_⟩
        refine (if_neg (show ¬ (false ^^ inV (.str "") (r.words.map fun t => V.str (S t))) = true by rw [inV_none fun t ht => (hwk t ht).1]; decide)).mpr ?_
        obtain ⟨w0, hw0, c1, c2, c3, c4, call⟩ := first ok hne
        have ha0 : atI (r.words.map fun t => V.str (S t)) 0 = some (.str (S w0)) := atI_nat (j := 0) (by rw [List.getElem?_map, hw0]; rfl)
        refine .inl ⟨_, .str (S w0), SqL.of h6, ha0, ?_⟩
        show if (false ^^ decide ((S w0 : Str) = S gapL)) = true then _ else _
        rw [Bool.false_xor, eqS_eq]
        refine ite2 (fun h => ?_) (fun h => ?_)
        · obtain ⟨ps, rfl⟩ := c1 (of_decide_eq_true h)
          refine .inl ⟨_, SqL.of h6, fun p2 hp2 => ?_⟩
          have ec : cutV ((GRow.gap ps).words.map fun t => V.str (S t)) (some 1) none = ps.map fun p => V.str (S p.txt) := (cutV_nat _ 1).trans (by show (ps.map Pt.txt).map _ = _; rw [List.map_map]; rfl)
          rw [ec]
          have s7 : Same H6 (upd H6 p2 (.lst (ps.map fun p => V.str (S p.txt)))) := same_new hp2
          have h7 : upd H6 p2 (.lst (ps.map fun p => V.str (S p.txt))) p2 = some (.lst (ps.map fun p => V.str (S p.txt))) := upd_same
          generalize upd H6 p2 (.lst (ps.map fun p => V.str (S p.txt))) = H7 at s7 h7 ⊢
          have F7 := F6.same s7
          have hl1 : l1.length < 24 := by have h1 := F6.d1.length; have h2 := rok.book er (x := ([], ps)) rfl; rw [List.length_map] at h1; omega
          refine ⟨b1, p2, l1, "", ps, rfl, F7.h1, hl1, SqL.of h7, ok.1, ok.2.1, ok.2.2, fun H8 t fa fv sR e8 hfa ht hfv hD => ?_⟩
          have nfa : fa ∉ [b1, b2, b3, b4] := fun m => by obtain ⟨l, e⟩ := F7.lsts fa m; rw [hfa] at e; cases e
          have hc : Lsts H8 [b1, b2, b3, b4] := fun c hc => by
            by_cases z : c = b1
            · rw [z]; exact ⟨_, e8⟩
            · obtain ⟨l, e⟩ := F7.lsts c hc; exact ⟨l, rem_ne sR z e⟩
          refine ⟨l1 ++ [.ref t], l2, l3, l4, _, _, fun b u e => rem_ne sR (fun z => by rw [z, hb1] at e; cases e) (s7 _ _ (sm6 _ _ e)), rem_ne sR np1 (s7 _ _ hP6), ?_, rfl⟩
          rw [take1 er]
          exact F7.put1 n21 n31 n41 sR e8 (x := ([], ps)) rfl rfl rfl (form_dat hc nfa ht hfv hD)
        have g1 : w0 ≠ gapL := fun z => h (decide_eq_true z)
        refine .inl ⟨_, .str (S w0), SqL.of h6, ha0, ?_⟩
        show if (false ^^ decide ((S w0 : Str) = S wordL)) = true then _ else _
        rw [Bool.false_xor, eqS_eq]
        refine ite2 (fun h => ?_) (fun h => ?_)
        · obtain ⟨k, ps, rfl⟩ := c2 (of_decide_eq_true h)
          refine ⟨pw, _, 1, k, rfl, SqL.of h6, rfl, ok.1, fun H65 s65 => ?_⟩
          have h65 := s65 _ _ h6
          refine .inl ⟨_, SqL.of h65, fun p2 hp2 => ?_⟩
          have ec : cutV ((GRow.word k ps).words.map fun t => V.str (S t)) (some 2) none = ps.map fun p => V.str (S p.txt) := (cutV_nat _ 2).trans (by show (ps.map Pt.txt).map _ = _; rw [List.map_map]; rfl)
          rw [ec]
          have s7 : Same H6 (upd H65 p2 (.lst (ps.map fun p => V.str (S p.txt)))) := s65.trans (same_new hp2)
          have h7 : upd H65 p2 (.lst (ps.map fun p => V.str (S p.txt))) p2 = some (.lst (ps.map fun p => V.str (S p.txt))) := upd_same
          generalize upd H65 p2 (.lst (ps.map fun p => V.str (S p.txt))) = H7 at s7 h7 ⊢
          have F7 := F6.same s7
          have hl1 : l1.length < 24 := by have h1 := F6.d1.length; have h2 := rok.book er (x := (k, ps)) rfl; rw [List.length_map] at h1; omega
          refine ⟨b1, p2, l1, S k, ps, rfl, F7.h1, hl1, SqL.of h7, ok.2.1, ok.2.2.1, ok.2.2.2, fun H8 t fa fv sR e8 hfa ht hfv hD => ?_⟩
          have nfa : fa ∉ [b1, b2, b3, b4] := fun m => by obtain ⟨l, e⟩ := F7.lsts fa m; rw [hfa] at e; cases e
          have hc : Lsts H8 [b1, b2, b3, b4] := fun c hc => by
            by_cases z : c = b1
            · rw [z]; exact ⟨_, e8⟩
            · obtain ⟨l, e⟩ := F7.lsts c hc; exact ⟨l, rem_ne sR z e⟩
          refine ⟨l1 ++ [.ref t], l2, l3, l4, _, _, fun b u e => rem_ne sR (fun z => by rw [z, hb1] at e; cases e) (s7 _ _ (sm6 _ _ e)), rem_ne sR np1 (s7 _ _ hP6), ?_, rfl⟩
          rw [take1 er]
          exact F7.put1 n21 n31 n41 sR e8 (x := (k, ps)) rfl rfl rfl (form_dat hc nfa ht hfv hD)
        have g2 : w0 ≠ wordL := fun z => h (decide_eq_true z)
        refine .inl ⟨_, .str (S w0), SqL.of h6, ha0, ?_⟩
        refine .inl ⟨_, .inr (T.k_DE _), rfl, rfl, ?_⟩
        show if (false ^^ inV (.str (S w0)) [.str "stop", .str "open", .str "close"]) = true then _ else _
        rw [Bool.false_xor, in_deeds]
        refine ite2 (fun h => ?_) (fun h => ?_)
        · obtain ⟨k, d, rfl⟩ := c3 (of_decide_eq_true h)
          obtain ⟨hel, hek⟩ := rok.ends er (x := (k, d)) rfl
          refine ⟨b3, pw, l3, (rows.take i).flatMap gEnd, k, d, rfl, F6.h3, F6.d3.same rem_same, hel, by rw [eDL_S]; exact SqL.of h6, ok.1, hek, fun H8 t sR e8 ht => ?_⟩
          have hc : Lsts H8 [b1, b2, b3, b4] := fun c hc => by
            by_cases z : c = b3
            · rw [z]; exact ⟨_, e8⟩
            · obtain ⟨l, e⟩ := F6.lsts c hc; exact ⟨l, rem_ne sR z e⟩
          refine ⟨l1, l2, l3 ++ [.ref t], l4, _, _, fun b u e => rem_ne sR (fun z => by rw [z, k3] at e; cases e) (sm6 _ _ e), rem_ne sR np3 hP6, ?_, rfl⟩
          rw [take1 er]
          exact F6.put3 n31.symm n32.symm n43 sR e8 (x := (k, d)) rfl rfl rfl (end_dat hc ht)
        have g3 : ¬ (w0 = eDL 0 ∨ w0 = eDL 1 ∨ w0 = eDL 2) := fun z => h (decide_eq_true z)
        refine .inl ⟨_, .str (S w0), SqL.of h6, ha0, ?_⟩
        show if (false ^^ decide ((S w0 : Str) = S ruleL)) = true then _ else _
        rw [Bool.false_xor, eqS_eq]
        refine ite2 (fun h => ?_) (fun h => ?_)
        · obtain ⟨g, rfl⟩ := c4 (of_decide_eq_true h)
          have gok : g.Ok := ok
          have hle := gok.le
          have hln := gok.ln
          refine ⟨.inl ⟨rfl, _, SqL.of F6.h2⟩, ?_⟩
          refine ⟨pw, g, rfl, SqL.of h6, gok, fun H7 t tp s7 ht htp => ?_⟩
          have F7 := F6.same s7
          have hl2 : l2.length ≤ 60 := by
            have h1 := F6.d2.length
            have h2 := gRules_len (rows.take i)
            rw [List.length_map] at h1
            rw [List.length_take] at h2
            omega
          have hl4 : l4.length ≤ 60 := by
            have h1 := F6.d4.length
            have h2 := gRules_len (rows.take i)
            rw [List.length_map] at h1
            rw [List.length_take] at h2
            omega
          refine ⟨_, F7.h2, by omega, ?_⟩
          have u8 : ∀ b u, b ≠ b2 → H7 b = some u → upd H7 b2 (.lst (l2 ++ [.ref t])) b = some u := fun b u n e => by rw [upd_ne n]; exact e
          have h8 : upd H7 b2 (.lst (l2 ++ [.ref t])) b2 = some (.lst (l2 ++ [.ref t])) := upd_same
          generalize upd H7 b2 (.lst (l2 ++ [.ref t])) = H8 at u8 h8 ⊢
          have npw2 : pw ≠ b2 := fun z => hnw.2.1 z
          refine ⟨.inl ⟨rfl, _, SqL.of (u8 _ _ n42 F7.h4)⟩, ?_⟩
          refine .inl ⟨_, SqL.of (u8 _ _ npw2 (s7 _ _ h6)), fun p9 hp9 => ?_⟩
          have ec : cutV ((GRow.rule g).words.map fun t => V.str (S t)) (some 4) none = g.ts.map fun t => V.str (S t) := cutV_nat _ 4
          rw [ec]
          have s9 : Same H8 (upd H8 p9 (.lst (g.ts.map fun t => V.str (S t)))) := same_new hp9
          have h9 : upd H8 p9 (.lst (g.ts.map fun t => V.str (S t))) p9 = some (.lst (g.ts.map fun t => V.str (S t))) := upd_same
          generalize upd H8 p9 (.lst (g.ts.map fun t => V.str (S t))) = H9 at s9 h9 ⊢
          refine ⟨p9, g.ts, g.r0, g.r1, rfl, SqL.of h9, by omega, gok.tl, gok.p0, gok.p1, fun H10 tn s10 htn => ?_⟩
          have s810 := s9.trans s10
          refine ⟨_, s810 _ _ (u8 _ _ n42 F7.h4), by omega, ?_⟩
          have u11 : ∀ b u, b ∉ [b2, b4] → H7 b = some u → upd H10 b4 (.lst (l4 ++ [.ref tn])) b = some u := fun b u n e => by
            simp at n
            rw [upd_ne n.2]
            exact s810 _ _ (u8 _ _ n.1 e)
          have e2 : upd H10 b4 (.lst (l4 ++ [.ref tn])) b2 = some (.lst (l2 ++ [.ref t])) := by rw [upd_ne n42.symm]; exact s810 _ _ h8
          have e4 : upd H10 b4 (.lst (l4 ++ [.ref tn])) b4 = some (.lst (l4 ++ [.ref tn])) := upd_same
          have ntn : tn ≠ b4 := fun z => by rw [z, s810 _ _ (u8 _ _ n42 F7.h4)] at htn; cases htn
          have etn : upd H10 b4 (.lst (l4 ++ [.ref tn])) tn = some (.tup [.int g.r0, .int g.r1]) := by rw [upd_ne ntn]; exact htn
          generalize upd H10 b4 (.lst (l4 ++ [.ref tn])) = H11 at u11 e2 e4 etn ⊢
          have nt : t ∉ [b2, b4] := fun m => by
            obtain ⟨l, e⟩ := F7.lsts t (by simp at m ⊢; rcases m with m | m <;> simp [m])
            rw [ht] at e; cases e
          have ntp : tp ∉ [b2, b4] := fun m => by
            obtain ⟨l, e⟩ := F7.lsts tp (by simp at m ⊢; rcases m with m | m <;> simp [m])
            rw [htp] at e; cases e
          have n1 : b1 ∉ [b2, b4] := by simp [n21.symm, n41.symm]
          have n3 : b3 ∉ [b2, b4] := by simp [n32, n43.symm]
          have hc : Lsts H11 [b1, b2, b3, b4] := fun c hc => by
            simp at hc
            rcases hc with rfl | rfl | rfl | rfl
            · exact ⟨_, u11 _ _ n1 F7.h1⟩
            · exact ⟨_, e2⟩
            · exact ⟨_, u11 _ _ n3 F7.h3⟩
            · exact ⟨_, e4⟩
          refine ⟨l1, l2 ++ [.ref t], l3, l4 ++ [.ref tn], _, _, fun b u e => u11 b u (fun m => by simp at m; rcases m with m | m; rw [m, k2] at e; cases e; rw [m, k4] at e; cases e) (s7 _ _ (sm6 _ _ e)), u11 _ _ (by simp [np2, np4]) (s7 _ _ hP6), ?_, rfl⟩
          rw [take1 er]
          exact F7.put24 u11 n1 n3 e2 e4 (x := g) rfl rfl rfl (rule_dat hc (u11 _ _ nt ht) (u11 _ _ ntp htp)) (note_dat hc etn)
        · have g4 : w0 ≠ ruleL := fun z => h (decide_eq_true z)
          exact absurd call (by simp [g1, g2, g3, g4])
    · rintro σ H' ⟨l1, l2, l3, l4, v5, v6, sm, hP, F, rfl⟩
      rw [List.length_map, List.take_length] at F
      have hgl := gRules_len rows
      refine ⟨b2, b4, l2, l4, rows.flatMap gRule, rfl, F.h2, F.h4, F.d2.same rem_same, F.d4.same rem_same, by omega, gRules_mem rok.ok, rok.no, fun H7 s7 => ?_⟩
      refine ⟨(show 4 ≤ sizeLine by decide), fun t ht => ?_⟩
      have s8 : Same H7 (upd H7 t (.tup [.ref b1, .ref b2, .ref b3, .ref b4])) := same_new ht
      exact q _ t b1 b2 b3 b4 l1 l2 l3 l4 ((sm.trans s7).trans s8) hb1 k2 k3 k4 upd_same (F.same (s7.trans s8))
end
end K80

set_option Elab.async false
set_option linter.all false
set_option maxRecDepth 100000
set_option maxHeartbeats 4000000





namespace K80
open PySem PySem.Spec PyProof.Rows L2 Rg
def GD : Nat → PyData → Prop
  | 0, _ => False
  | n + 1, d => (∃ x, d = .str x) ∨ (∃ i, d = .int i) ∨ ∃ ds, (d = .list ds ∨ d = .tuple ds) ∧ ds.length ≤ 1000 ∧ ∀ e ∈ ds, GD n e
section
variable {P : Program} {w : World} {K : PySem.W.Frag} {mg : Str → Option Value} {base : Heap} {aN aD aS : Addr}
def spSame (K : PySem.W.Frag) (n : Nat) : Sp := fun vs H Q _ => ∃ (x y : V) (d : PyData), vs = [x, y] ∧ DatV K H x d ∧ DatV K H y d ∧ GD n d ∧ ∀ H', Same H H' → Q (.bl true) H'
abbrev st__law_same : Stmt := top 44
theorem sc__law_same : FnScope ["_law_found", "_law_due"] ["_law_found", "_law_due"] (defScope st__law_same) := ⟨rfl, rfl, rfl, by decide +kernel, rfl, by decide +kernel, by decide +kernel⟩
theorem def_same (R : Raw K mg "_law_same" st__law_same ["_law_found", "_law_due"]) (T : Txt2 K w mg aN aD aS) : ∀ n : Nat, Def P w K mg base (n + 1) "_law_same" ["_law_found", "_law_due"] (spSame K n)
  | 0 => by
    refine R.defJ sc__law_same (fun vs H Q E h => ?_) (fun f cdv A outer s H vs Q E hr h => ?_)
    · obtain ⟨x, y, d, rfl, _⟩ := h
      rfl
    · obtain ⟨x, y, d, rfl, _, _, hg, _⟩ := h
      exact hg.elim
  | n + 1 => by
    have D__law_same := def_same R T n
    refine R.defJ sc__law_same (fun vs H Q E h => ?_) (fun f cdv A outer s H vs Q E hr h => ?_)
    · obtain ⟨x, y, d, rfl, _⟩ := h
      rfl
    · obtain ⟨x, y, d, rfl, hx, hy, hg, q⟩ := h
      have sc := sc__law_same
      have hu := hr.units
      have hb := big
      refine ⟨_, (jss_cons (js_if (jw_t (jw_or (jt_val (j_callB (c_isiD (K := K)) rfl T.n_isinstance boot_isinstance (ja_cons (jn 1) (ja_cons (j_bltn (v := .ty "list") rfl T.n_list boot_list rfl) ja_nil)))) (jw_or1 (jt_val (j_callB (c_isiD (K := K)) rfl T.n_isinstance boot_isinstance (ja_cons (jn 1) (ja_cons (j_bltn (v := .ty "tuple") rfl T.n_tuple boot_tuple rfl) ja_nil)))))))
    (jss_cons (js_if (jw_t (jw_or (jt_cmp (o_ne hu (K := K)) (j_callB (c_isiD (K := K)) rfl T.n_isinstance boot_isinstance (ja_cons (jn 1) (ja_cons (j_bltn (v := .ty "list") rfl T.n_list boot_list rfl) ja_nil))) (j_callB (c_isiD (K := K)) rfl T.n_isinstance boot_isinstance (ja_cons (jn 0) (ja_cons (j_bltn (v := .ty "list") rfl T.n_list boot_list rfl) ja_nil)))) (jw_or1 (jt_cmp (o_ne hu (K := K)) (j_callB (c_isiD (K := K)) rfl T.n_isinstance boot_isinstance (ja_cons (jn 1) (ja_cons (j_bltn (v := .ty "tuple") rfl T.n_tuple boot_tuple rfl) ja_nil))) (j_callB (c_isiD (K := K)) rfl T.n_isinstance boot_isinstance (ja_cons (jn 0) (ja_cons (j_bltn (v := .ty "tuple") rfl T.n_tuple boot_tuple rfl) ja_nil)))))))
    (jss_one (js_ret j_bl))
    jss_nil)
    (jss_cons (js_if (jt_cmp (o_ne hu (K := K)) (j_callB (c_len (K := K)) rfl T.n_len PySem.boot_len (ja_cons (jn 0) ja_nil)) (j_callB (c_len (K := K)) rfl T.n_len PySem.boot_len (ja_cons (jn 1) ja_nil)))
    (jss_one (js_ret j_bl))
    jss_nil)
    (jss_one (js_ret (j_callB (c_all rfl (K := K)) rfl T.n_all boot_all (ja_cons (j_comp (N := ["_law_one", "_law_other"]) (cap := [none, none]) rfl (CompScope.of rfl (by rfl)) (ji_zip (K := K) rfl T.n_zip (ja_cons (jn 0) (ja_cons (jn 1) ja_nil))) (fun _ _ _ _ => (jg_tup (K := K) (n := 2) rfl (jgs_cons (jg_name (i := 0) (show List.Nodup [("_law_one" : Str), ("_law_other" : Str)] by decide +kernel) rfl (Or.inl rfl)) (jgs_cons (jg_name (i := 1) (show List.Nodup [("_law_one" : Str), ("_law_other" : Str)] by decide +kernel) rfl (Or.inl rfl)) jgs_nil)))) (fun _ _ _ _ => jts_nil) (fun _ _ _ _ => (j_def D__law_same (hr.mono (Nat.le_refl _)) rfl (ja_cons (jn 0) (ja_cons (jn 1) ja_nil))))) ja_nil))))))
    jss_nil)
    (jss_cons (js_if (jt_val (j_callB (c_isiD (K := K)) rfl T.n_isinstance boot_isinstance (ja_cons (jn 1) (ja_cons (j_bltn (v := .ty "str") rfl T.n_str boot_str rfl) ja_nil))))
    (jss_one (js_ret (j_and (j_callB (c_isiD (K := K)) rfl T.n_isinstance boot_isinstance (ja_cons (jn 0) (ja_cons (j_bltn (v := .ty "str") rfl T.n_str boot_str rfl) ja_nil))) (j_one (j_cmp (o_eq hu (K := K)) (jn 0) (jn 1))))))
    jss_nil)
    (jss_one (js_ret (j_and (j_callB (c_isiD (K := K)) rfl T.n_isinstance boot_isinstance (ja_cons (jn 0) (ja_cons (j_bltn (v := .ty "int") rfl T.n_int boot_int rfl) ja_nil))) (j_and (j_not (j_callB (c_isiD (K := K)) rfl T.n_isinstance boot_isinstance (ja_cons (jn 0) (ja_cons (j_bltn (v := .ty "bool") rfl T.n_bool boot_bool rfl) ja_nil)))) (j_one (j_cmp (o_eq hu (K := K)) (jn 0) (jn 1))))))))), ?_⟩
      have fin : ∀ (t : Bool) (a b : Addr) (xs ys : List V) (ds : List PyData), SqA t K H a xs → SqA t K H b ys → DatVs K H xs ds → DatVs K H ys ds → ds.length ≤ 1000 → (∀ e ∈ ds, GD n e) →
          Gath (Itz K t t a b) [none, none] (gTup K 2 (gCons (gName 0) (gCons (gName 1) gNil))) tTrue (fun σ H Q => tCons (mVar 0) (tCons (mVar 1) tNil) σ H fun vs H1 => spSame K n vs H1 Q E0) (fun D H' => gAll K [.ref D] H' Q) (start ["_law_found", "_law_due"] [.ref a, .ref b]) H := by
        intro t a b xs ys ds hS hS' hd hd' hl hG
        have l1 := hd.length
        have l2 := hd'.length
        refine gath_zip (xs := xs) (zs := ys) (fun i zs σ' H' => Same H H' ∧ zs = bls (List.replicate i true) ∧ ∃ v1 v2, σ' = [v1, v2]) (by omega) (by omega) ⟨Same.refl _, rfl, none, none, rfl⟩ (fun i zs σ' H' h => by rw [h.2.1]; unfold bls; simp)
          (fun i zs σ' H' h => ?_) ?_ ?_
        · cases t with
          | true => exact ⟨h.1.seqT hS, h.1.seqT hS'⟩
          | false => exact ⟨h.1.seq hS, h.1.seq hS'⟩
        · rintro i x z zs σ' H' hi hz ⟨s2, rfl, v1, v2, rfl⟩ T2 hT2
          obtain ⟨e1, he1, hx1⟩ := hd.get hi
          obtain ⟨e2, he2, hx2⟩ := hd'.get hz
          have ee : e2 = e1 := by rw [he1] at he2; exact (Option.some.inj he2).symm
          subst ee
          have s3 : Same H (upd H' T2 (.tup [x, z])) := s2.trans (same_new hT2)
          have h3 : upd H' T2 (.tup [x, z]) T2 = some (.tup [x, z]) := upd_same
          generalize upd H' T2 (.tup [x, z]) = H3 at s3 h3 ⊢
          refine ⟨T2, _, rfl, SqT.of h3, rfl, _, _, rfl, _, _, rfl, rfl, ?_⟩
          refine ⟨x, z, e2, rfl, hx1.same s3, hx2.same s3, hG e2 (List.mem_of_getElem? he1), fun H4 s4 => ?_⟩
          exact ⟨s3.trans s4, bls_true i, _, _, rfl⟩
        · rintro zs σ' H' ⟨s2, rfl, v1, v2, rfl⟩ D hD
          refine ⟨List.replicate xs.length true, SqL.of upd_same, ?_⟩
          rw [all_true]
          exact q _ (s2.trans (same_new hD))
      rcases hg with ⟨z, rfl⟩ | ⟨z, rfl⟩ | ⟨ds, hd | hd, hl, hG⟩
      · cases hx
        cases hy
        refine ⟨"str", false, .str _, rfl, ?_⟩
        refine ⟨"str", false, .str _, rfl, ?_⟩
        refine ⟨"str", true, .str _, rfl, ?_⟩
        refine ⟨"str", true, .str _, rfl, ?_⟩
        have e : (false ^^ decide (z = z)) = true := by simp
        exact Eq.mpr (congrArg (fun b => Q (.bl b) _) e) (q _ (Same.refl _))
      · cases hx
        cases hy
        refine ⟨"int", false, .int _, rfl, ?_⟩
        refine ⟨"int", false, .int _, rfl, ?_⟩
        refine ⟨"int", false, .int _, rfl, ?_⟩
        refine ⟨"int", true, .int _, rfl, ?_⟩
        refine ⟨"int", false, .int _, rfl, ?_⟩
        have e : (false ^^ decide (z = z)) = true := by simp
        exact Eq.mpr (congrArg (fun b => Q (.bl b) _) e) (q _ (Same.refl _))
      · subst hd
        cases hx with
        | list hS hd =>
          cases hy with
          | list hS' hd' =>
            rename_i a xs b ys
            have l1 := hd.length
            have l2 := hd'.length
            refine ⟨"list", true, .list hS', rfl, ?_⟩
            refine ⟨"list", true, .list hS', rfl, "list", true, .list hS, rfl, ?_⟩
            refine ⟨"list", false, .list hS', rfl, "list", false, .list hS, rfl, ?_⟩
            refine ⟨_, .inl hS, _, .inl hS', ?_⟩
            refine (if_neg (show ¬ (true ^^ decide (((xs.length : Nat) : Int) = ((ys.length : Nat) : Int))) = true by rw [l1, l2]; simp)).mpr ?_
            exact ⟨false, false, ⟨_, hS⟩, ⟨_, hS'⟩, fin false a b xs ys ds hS hS' hd hd' hl hG⟩
      · subst hd
        cases hx with
        | tuple hS hd =>
          cases hy with
          | tuple hS' hd' =>
            rename_i a xs b ys
            have l1 := hd.length
            have l2 := hd'.length
            refine ⟨"tuple", false, .tuple hS', rfl, ?_⟩
            refine ⟨"tuple", true, .tuple hS', rfl, ?_⟩
            refine ⟨"tuple", false, .tuple hS', rfl, "tuple", false, .tuple hS, rfl, ?_⟩
            refine ⟨"tuple", true, .tuple hS', rfl, "tuple", true, .tuple hS, rfl, ?_⟩
            refine ⟨_, .inr hS, _, .inr hS', ?_⟩
            refine (if_neg (show ¬ (true ^^ decide (((xs.length : Nat) : Int) = ((ys.length : Nat) : Int))) = true by rw [l1, l2]; simp)).mpr ?_
            exact ⟨true, true, ⟨_, hS⟩, ⟨_, hS'⟩, fin true a b xs ys ds hS hS' hd hd' hl hG⟩
end
end K80

set_option Elab.async false
set_option linter.all false
set_option maxRecDepth 100000
set_option maxHeartbeats 4000000




namespace K80
open PySem PySem.Spec PyProof.Rows L2 Rg
abbrev nmV (c0 : Int) : List V := (List.range 26).map fun k => V.str (S (nm12 c0 k))
theorem nm_at (c0 : Int) {i : Int} (h0 : 0 ≤ i) (h1 : i < 26) : ∃ j : Nat, ((j : Nat) : Int) = i ∧ j < 26 ∧ atI (nmV c0) i = some (.str (S (nm12 c0 j))) := by
  refine ⟨i.toNat, by omega, by omega, ?_⟩
  have h : i.toNat < 26 := by omega
  have key := atI_nat (xs := nmV c0) (j := i.toNat) (v := .str (S (nm12 c0 i.toNat))) (by rw [List.getElem?_map, List.getElem?_range h]; rfl)
  rw [show ((i.toNat : Nat) : Int) = i by omega] at key
  exact key
theorem side_at : ∀ {d : Nat}, d < 3 → atI [V.str "left", .str "right", .str "none"] (d : Int) = some (.str (S (sideL d)))
  | 0, _ => rfl
  | 1, _ => rfl
  | 2, _ => rfl
  | d + 3, h => by omega
theorem ixN_nat {n j : Nat} (h : j < n) : ixN n ((j : Nat) : Int) = some j := by
  unfold ixN
  rw [if_pos (by omega), if_pos (by omega)]
  rfl
theorem Pl.hit {ts : List (List Nat)} {c : Nat} {p : List Nat} {j : Nat} (h : Pl ts c (-1)) (hj : j < ts.length) : Pl (ts.set j (c :: p)) c ((j : Nat) : Int) := by
  refine ⟨fun i t e => ?_, .inr ⟨by omega, by rw [List.length_set]; omega⟩⟩
  by_cases hi : i = j
  · subst hi
    rw [List.getElem?_set_self hj] at e
    rw [← Option.some.inj e]
    simp
  · rw [List.getElem?_set_ne (Ne.symm hi)] at e
    have := h.at_ i t e
    constructor
    · intro z; have := this.mp z; omega
    · intro z; omega
theorem Pl.miss {ts : List (List Nat)} {c c' : Nat} {p : List Nat} {j : Nat} {r : Int} (h : Pl ts c r) (hj : j < ts.length) (hr : ((j : Nat) : Int) ≠ r) (hc : c' ≠ c) : Pl (ts.set j (c' :: p)) c r := by
  refine ⟨fun i t e => ?_, by rw [List.length_set]; exact h.rng⟩
  by_cases hi : i = j
  · subst hi
    rw [List.getElem?_set_self hj] at e
    rw [← Option.some.inj e]
    simp
    exact ⟨fun z => absurd z hc, fun z => absurd z hr⟩
  · rw [List.getElem?_set_ne (Ne.symm hi)] at e
    exact h.at_ i t e
structure PT (c0 : Int) (m : Nat) (ps ts : List (List Nat)) (r0 r1 : Int) : Prop where
  lp : ps.length = m
  lt : ts.length = m
  kp : ∀ l ∈ ps, KOk l
  td : ∀ (i : Nat) (l t : List Nat), ps[i]? = some l → ts[i]? = some t → Told l t
  p0 : Pl ts 63 r0
  p1 : Pl ts 33 r1
  nn : ∀ r : Int, (r = r0 ∨ r = r1) → 0 ≤ r → ∃ j, j < 20 ∧ ps[r.toNat]? = some (nm12 c0 j)
theorem told_set {ps ts : List (List Nat)} (td : ∀ (i : Nat) (l t : List Nat), ps[i]? = some l → ts[i]? = some t → Told l t) {a c : Nat} {p : List Nat} (hp : a < ps.length) (ht : a < ts.length) (hc : c = 63 ∨ c = 33) : ∀ (i : Nat) (l t : List Nat), (ps.set a p)[i]? = some l → (ts.set a (c :: p))[i]? = some t → Told l t := by
  intro i l t e1 e2
  by_cases hi : i = a
  · subst hi
    rw [List.getElem?_set_self hp] at e1
    rw [List.getElem?_set_self ht] at e2
    rw [← Option.some.inj e1, ← Option.some.inj e2]
    rcases hc with rfl | rfl
    · exact .inr (.inl rfl)
    · exact .inr (.inr rfl)
  · rw [List.getElem?_set_ne (Ne.symm hi)] at e1 e2
    exact td i l t e1 e2
theorem PT.ask {c0 : Int} {m : Nat} {ps ts : List (List Nat)} (h : PT c0 m ps ts (-1) (-1)) {a j : Nat} (ha : a < m) (hj : j < 20) : PT c0 m (ps.set a (nm12 c0 j)) (ts.set a (63 :: nm12 c0 j)) ((a : Nat) : Int) (-1) := by
  refine ⟨by rw [List.length_set]; exact h.lp, by rw [List.length_set]; exact h.lt, fun l hl => ?_, told_set h.td (by rw [h.lp]; exact ha) (by rw [h.lt]; exact ha) (.inl rfl), h.p0.hit (by rw [h.lt]; exact ha), h.p1.miss (by rw [h.lt]; exact ha) (by omega) (by decide), fun r hr h0 => ?_⟩
  · rcases List.mem_or_eq_of_mem_set hl with z | z
    · exact h.kp l z
    · rw [z]; exact nm12_ok _ _
  · have e : r = ((a : Nat) : Int) := by omega
    subst e
    exact ⟨j, hj, by rw [Int.toNat_natCast, List.getElem?_set_self (by rw [h.lp]; exact ha)]⟩
theorem PT.bind {c0 : Int} {m : Nat} {ps ts : List (List Nat)} {r0 : Int} (h : PT c0 m ps ts r0 (-1)) {a j : Nat} (ha : a < m) (hj : j < 20) (hn : ((a : Nat) : Int) ≠ r0) : PT c0 m (ps.set a (nm12 c0 j)) (ts.set a (33 :: nm12 c0 j)) r0 ((a : Nat) : Int) := by
  refine ⟨by rw [List.length_set]; exact h.lp, by rw [List.length_set]; exact h.lt, fun l hl => ?_, told_set h.td (by rw [h.lp]; exact ha) (by rw [h.lt]; exact ha) (.inr rfl), h.p0.miss (by rw [h.lt]; exact ha) hn (by decide), h.p1.hit (by rw [h.lt]; exact ha), fun r hr h0 => ?_⟩
  · rcases List.mem_or_eq_of_mem_set hl with z | z
    · exact h.kp l z
    · rw [z]; exact nm12_ok _ _
  · by_cases e : r = ((a : Nat) : Int)
    · subst e
      exact ⟨j, hj, by rw [Int.toNat_natCast, List.getElem?_set_self (by rw [h.lp]; exact ha)]⟩
    · have hr' : r = r0 := by rcases hr with z | z; exact z; exact absurd z e
      obtain ⟨j', hj', e'⟩ := h.nn r (.inl hr') h0
      exact ⟨j', hj', by rw [List.getElem?_set_ne (by omega)]; exact e'⟩
theorem PT.start {c0 : Int} {m : Nat} {ps : List (List Nat)} (lp : ps.length = m) (kp : ∀ l ∈ ps, KOk l) : PT c0 m ps ps (-1) (-1) := by
  have hpl : ∀ c, (c < 97) → Pl ps c (-1) := fun c hc => ⟨fun i t e => by
    have hk := kp t (List.mem_of_getElem? e)
    constructor
    · intro z
      cases t with
      | nil => simp at z
      | cons x r =>
        have := hk.az x List.mem_cons_self
        simp at z
        omega
    · intro z; omega, .inl rfl⟩
  refine ⟨lp, lp, kp, fun i l t e1 e2 => ?_, hpl 63 (by decide), hpl 33 (by decide), fun r hr h0 => by omega⟩
  rw [e1] at e2
  exact .inl (Option.some.inj e2).symm
def RuleN (c0 : Int) (q : GR) : Prop := q.Ok ∧ (∃ j, 20 ≤ j ∧ j < 26 ∧ q.sort = nm12 c0 j) ∧ ∀ r : Int, (r = q.r0 ∨ r = q.r1) → 0 ≤ r → ∃ j, j < 20 ∧ q.ps[r.toNat]? = some (nm12 c0 j)
theorem notes_of {c0 : Int} {qs : List GR} (h : ∀ q ∈ qs, RuleN c0 q) : NotesOk qs := fun q hq q' hq' r hr h0 l e z => by
  obtain ⟨_, _, h2⟩ := h q hq
  obtain ⟨_, ⟨j', h20, h26, es⟩, _⟩ := h q' hq'
  obtain ⟨j, hj, e2⟩ := h2 r hr h0
  rw [e] at e2
  have e3 := Option.some.inj e2
  rw [e3, es] at z
  have := nm12_inj (by omega) h26 z
  omega
theorem rule_len {q : GR} (h : q.Ok) : ∀ t ∈ q.words, t.length ≤ 13 := fun t ht => by
  unfold GR.words at ht
  rcases List.mem_cons.mp ht with rfl | ht
  · decide
  rcases List.mem_cons.mp ht with rfl | ht
  · have := h.ks.l2; omega
  rcases List.mem_cons.mp ht with rfl | ht
  · have := (rk_ok h.hn).2; omega
  rcases List.mem_cons.mp ht with rfl | ht
  · unfold sideL; split <;> decide
  exact h.tl t ht
section
variable {P : Program} {w : World} {K : PySem.W.Frag} {mg : Str → Option Value} {base : Heap} {aN aD aS : Addr}
def spLR (K : PySem.W.Frag) : Sp := fun vs H Q _ => ∃ (c c0 : Int) (na : Addr), vs = [.int c, .ref na] ∧ H na = some (.lst (nmV c0)) ∧
  ∀ (H' : Hp) (t tr tp tn : Addr) (q : GR), Same H H' → H' t = some (.tup [.str (S (GRow.rule q).txt), .ref tr, .ref tn]) → H' tr = some (.tup [.str (S q.sort), .int (q.n : Nat), .str (S (sideL q.sd)), .ref tp]) → H' tp = some (.tup (q.ps.map fun l => V.str (S l))) → H' tn = some (.tup [.int q.r0, .int q.r1]) → RuleN c0 q → Q (.ref t) H'
abbrev st__law_rule : Stmt := top 43
theorem sc__law_rule : FnScope ["_law_cell", "_law_names_here", "_law_number", "_law_sort", "_law_rank", "_law_side", "_law_k", "_law_parts", "_law_told", "_law_note", "_law_at", "_law_row_here"] ["_law_cell", "_law_names_here"] (defScope st__law_rule) := ⟨rfl, rfl, rfl, by decide +kernel, rfl, by decide +kernel, by decide +kernel⟩
theorem def_lr (R : Raw K mg "_law_rule" st__law_rule ["_law_cell", "_law_names_here"]) (T : Txt2 K w mg aN aD aS) (D__law_mixed : Def P w K mg base 1 "_law_mixed" ["_law_cell", "_law_k"] spMixed) : Def P w K mg base 2 "_law_rule" ["_law_cell", "_law_names_here"] (spLR K) := by
  refine R.defJ sc__law_rule (fun vs H Q E h => ?_) (fun f cdv A outer s H vs Q E hr h => ?_)
  · obtain ⟨c, c0, na, rfl, _⟩ := h
    rfl
  · obtain ⟨c, c0, na, rfl, hN, q⟩ := h
    have sc := sc__law_rule
    have hu := hr.units
    have hb := big
    refine ⟨_, (jss_cons (js_set (i := 2) sc.nd rfl (Or.inl rfl) (j_def D__law_mixed (hr.mono (by decide)) rfl (ja_cons (jn 0) (ja_cons j_int ja_nil))))
    (jss_cons (js_set (i := 3) sc.nd rfl (Or.inl rfl) (j_ix (o_ix hu (K := K) (w := w)) (jn 1) (j_op (o_add (K := K)) j_int (j_op o_mod (jn 2) j_int))))
    (jss_cons (js_set (i := 4) sc.nd rfl (Or.inl rfl) (j_op o_mod (j_op o_div (jn 2) j_int) j_int))
    (jss_cons (js_set (i := 5) sc.nd rfl (Or.inl rfl) (j_ix (o_ix hu (K := K) (w := w)) (j_lst (ja_cons j_str (ja_cons j_str (ja_cons j_str ja_nil)))) (j_op o_mod (j_op o_div (jn 2) j_int) j_int)))
    (jss_cons (js_comp (i := 7) (N := ["_law_k", "_law_cell", "_law_names_here"]) (cap := [none, some 0, some 1]) rfl (CompScope.of rfl (by rfl)) (ji_rng1 rfl T.n_range (ja_cons (j_op o_mod (j_op o_div (jn 2) j_int) j_int) ja_nil)) (fun _ _ _ _ => (jg_name (i := 0) (show List.Nodup [("_law_k" : Str), ("_law_cell" : Str), ("_law_names_here" : Str)] by decide +kernel) rfl (Or.inl rfl))) (fun _ _ _ _ => jts_nil) (fun _ _ _ _ => (j_ix (o_ix hu (K := K) (w := w)) (jn 2) (j_op o_mod (j_def D__law_mixed (hr.mono (by decide)) rfl (ja_cons (jn 1) (ja_cons (j_op (o_add (K := K)) j_int (jn 0)) ja_nil))) j_int))) sc.nd rfl rfl)
    (jss_cons (js_set (i := 8) sc.nd rfl (Or.inl rfl) (j_callTy (c_list (K := K)) rfl T.n_list boot_list (ja_cons (jn 7) ja_nil)))
    (jss_cons (js_set (i := 9) sc.nd rfl (Or.inl rfl) (j_lst (ja_cons (j_neg j_int) (ja_cons (j_neg j_int) ja_nil))))
    (jss_cons (js_for PassesOwn.never rfl (ji_rng1 rfl T.n_range (ja_cons j_int ja_nil)) (jg_name (i := 6) sc.nd rfl (Or.inl rfl))
    (jss_cons (js_set (i := 10) sc.nd rfl (Or.inl rfl) (j_op o_mod (j_def D__law_mixed (hr.mono (by decide)) rfl (ja_cons (jn 0) (ja_cons (j_op (o_add (K := K)) j_int (jn 6)) ja_nil))) j_int))
    (jss_one (js_if (jw_t (jw_and (jt_cmp o_lt (jn 10) (j_callB (c_len (K := K)) rfl T.n_len PySem.boot_len (ja_cons (jn 7) ja_nil))) (jw_and1 (jt_cmp (o_notinA hu (K := K)) (jn 10) (jn 9)))))
    (jss_cons (js_asg (jn 10) (jg_sub (jn 9) (jn 6)))
    (jss_cons (js_asg (j_ix (o_ix hu (K := K) (w := w)) (jn 1) (j_op o_mod (j_def D__law_mixed (hr.mono (by decide)) rfl (ja_cons (jn 0) (ja_cons (j_op (o_add (K := K)) j_int (jn 6)) ja_nil))) j_int)) (jg_sub (jn 7) (jn 10)))
    (jss_one (js_asg (j_op (o_add (K := K)) (j_ix (o_ix hu (K := K) (w := w)) j_str (jn 6)) (j_ix (o_ix hu (K := K) (w := w)) (jn 7) (jn 10))) (jg_sub (jn 8) (jn 10))))))
    jss_nil))))
    (jss_cons (js_set (i := 11) sc.nd rfl (Or.inl rfl) (j_bm (K := K) PySem.F.plainAttrs_str PySem.F.slot_str_join PySem.F.type_str_join (m_join (K := K)) j_str (ja_cons (j_op (o_add (K := K)) (j_lst (ja_cons j_str (ja_cons (jn 3) (ja_cons (j_callTy c_strI rfl T.n_str boot_str (ja_cons (jn 4) ja_nil)) (ja_cons (jn 5) ja_nil))))) (jn 8)) ja_nil)))
    (jss_one (js_ret (j_tup (ja_cons (jn 11) (ja_cons (j_tup (ja_cons (jn 3) (ja_cons (jn 4) (ja_cons (jn 5) (ja_cons (j_callTy (c_tuple (K := K)) rfl T.n_tuple boot_tuple (ja_cons (jn 7) ja_nil)) ja_nil))))) (ja_cons (j_tup (ja_cons (j_ix (o_ix hu (K := K) (w := w)) (jn 9) j_int) (ja_cons (j_ix (o_ix hu (K := K) (w := w)) (jn 9) j_int) ja_nil))) ja_nil))))))))))))))), ?_⟩
    refine ⟨_, _, rfl, fun nu hn0 hn1 => ?_⟩
    refine ⟨by decide, ?_⟩
    obtain ⟨js, ejs, hjs, eA⟩ := nm_at c0 (i := 20 + nu % 6) (by omega) (by omega)
    have hj20 : 20 ≤ js := by omega
    refine .inl ⟨_, .str (S (nm12 c0 js)), SqL.of hN, eA, ?_⟩
    refine ⟨⟨by decide, by decide⟩, by decide, ?_⟩
    obtain ⟨n, en, hn⟩ : ∃ n : Nat, nu / 6 % 100 = ((n : Nat) : Int) ∧ n < 100 := ⟨(nu / 6 % 100).toNat, by omega, by omega⟩
    dsimp only [gName]
    rw [en]
    refine ⟨(show 3 ≤ sizeLine by decide), fun p3 hp3 => ?_⟩
    have s3 : Same H (upd H p3 (.lst [.str "left", .str "right", .str "none"])) := same_new hp3
    have h3 : upd H p3 (.lst [.str "left", .str "right", .str "none"]) p3 = some (.lst [.str "left", .str "right", .str "none"]) := upd_same
    generalize upd H p3 (.lst [.str "left", .str "right", .str "none"]) = H3 at s3 h3 ⊢
    obtain ⟨sd, esd, hsd⟩ : ∃ sd : Nat, nu / 600 % 3 = ((sd : Nat) : Int) ∧ sd < 3 := ⟨(nu / 600 % 3).toNat, by omega, by omega⟩
    refine ⟨⟨by decide, by decide⟩, by decide, .inl ⟨_, .str (S (sideL sd)), SqL.of h3, by rw [esd]; exact side_at hsd, ?_⟩⟩
    obtain ⟨m, em, hm⟩ : ∃ m : Nat, nu / 1800 % 10 = ((m : Nat) : Int) ∧ m < 10 := ⟨(nu / 1800 % 10).toNat, by omega, by omega⟩
    refine ⟨⟨by decide, by decide⟩, by decide, show -(2 ^ 62) ≤ nu / 1800 % 10 by omega, show nu / 1800 % 10 < 2 ^ 62 by omega, ?_⟩
    refine gath_range (n := (nu / 1800 % 10).toNat) (fun i ys σ' H' => H' = H3 ∧ ∃ (ps : List (List Nat)) (v : Option V), ps.length = i ∧ (∀ l ∈ ps, KOk l) ∧ ys = ps.map (fun l => V.str (S l)) ∧ σ' = [v, some (.int c), some (.ref na)]) (by omega) ⟨rfl, [], none, rfl, (fun l hl => by cases hl), rfl, rfl⟩
      (fun i ys σ' H' h => by obtain ⟨_, ps, v, e1, _, e2, _⟩ := h; rw [e2, List.length_map]; omega) ?_ ?_
    · rintro i ys σ' H' hi ⟨rfl, ps, v, hpl, hpk, rfl, rfl⟩
      refine ⟨_, _, rfl, fun x hx0 hx1 => ?_⟩
      obtain ⟨j, ej, hj, ea⟩ := nm_at c0 (i := x % 26) (by omega) (by omega)
      refine ⟨by decide, .inl ⟨_, .str (S (nm12 c0 j)), SqL.of (s3 _ _ hN), ea, ?_⟩⟩
      refine ⟨rfl, ps ++ [nm12 c0 j], _, by rw [List.length_append, hpl]; rfl, fun l hl => ?_, by rw [List.map_append]; rfl, rfl⟩
      rcases List.mem_append.mp hl with z | z
      · exact hpk l z
      · rw [List.mem_singleton.mp z]; exact nm12_ok _ _
    · rintro ys σ' H' ⟨rfl, ps, v, hpl, hpk, rfl, rfl⟩ pa hpa
      have hpl : ps.length = m := by omega
      have s4 : Same H (upd H' pa (.lst (ps.map fun l => V.str (S l)))) := s3.trans (same_new hpa)
      have h4 : upd H' pa (.lst (ps.map fun l => V.str (S l))) pa = some (.lst (ps.map fun l => V.str (S l))) := upd_same
      have kpa : H pa = none := s3.free hpa
      generalize upd H' pa (.lst (ps.map fun l => V.str (S l))) = H4 at s4 h4 ⊢
      refine ⟨_, .inl (SqL.of h4), fun ta hta => ?_⟩
      have s5 : Same H4 (upd H4 ta (.lst (ps.map fun l => V.str (S l)))) := same_new hta
      have h5 : upd H4 ta (.lst (ps.map fun l => V.str (S l))) ta = some (.lst (ps.map fun l => V.str (S l))) := upd_same
      have kta : H ta = none := s4.free hta
      have nta : ta ≠ pa := fun z => by rw [z, h4] at hta; cases hta
      generalize upd H4 ta (.lst (ps.map fun l => V.str (S l))) = H5 at s5 h5 ⊢
      refine ⟨(show 2 ≤ sizeLine by decide), fun no hno => ?_⟩
      have s6 : Same H5 (upd H5 no (.lst [.int (-1), .int (-1)])) := same_new hno
      have h6 : upd H5 no (.lst [.int (-1), .int (-1)]) no = some (.lst [.int (-1), .int (-1)]) := upd_same
      have kno : H no = none := (s4.trans s5).free hno
      have nno1 : no ≠ pa := fun z => by rw [z, s5 _ _ h4] at hno; cases hno
      have nno2 : no ≠ ta := fun z => by rw [z, h5] at hno; cases hno
      generalize upd H5 no (.lst [.int (-1), .int (-1)]) = H6 at s6 h6 ⊢
      refine ⟨by decide, by decide, ?_⟩
      refine for_range (n := (2 : Int).toNat) (fun i σ H' => ∃ (ps ts : List (List Nat)) (r0 r1 : Int) (v6 v10 : Option V), Same H H' ∧ H' pa = some (.lst (ps.map fun l => V.str (S l))) ∧ H' ta = some (.lst (ts.map fun l => V.str (S l))) ∧ H' no = some (.lst [.int r0, .int r1]) ∧ PT c0 m ps ts r0 r1 ∧ (i = 0 → r0 = -1) ∧ (i ≤ 1 → r1 = -1) ∧
          σ = [some (.int c), some (.ref na), some (.int nu), some (.str (S (nm12 c0 js))), some (.int (n : Nat)), some (.str (S (sideL sd))), v6, some (.ref pa), some (.ref ta), some (.ref no), v10, none])
        ⟨ps, ps, -1, -1, none, none, (s4.trans s5).trans s6, s6 _ _ (s5 _ _ h4), s6 _ _ h5, h6, PT.start hpl hpk, fun _ => rfl, fun _ => rfl, rfl⟩ ?_ ?_
      · rintro i σ H7 hi ⟨ps, ts, r0, r1, v6, v10, sm, hP, hT, hO, pt, hr0, hr1, rfl⟩
        have hi2 : i = 0 ∨ i = 1 := by have : i < 2 := hi; omega
        refine ⟨_, _, rfl, fun x hx0 hx1 => ?_⟩
        refine ⟨by decide, ?_⟩
        obtain ⟨a, ea, ha⟩ : ∃ a : Nat, x % 12 = ((a : Nat) : Int) ∧ a < 12 := ⟨(x % 12).toNat, by omega, by omega⟩
        dsimp only [gName]
        rw [ea]
        have lp := pt.lp
        have lt := pt.lt
        refine ⟨_, .inl (SqL.of hP), ?_⟩
        rw [List.length_map]
        show if decide (((a : Nat) : Int) < ((ps.length : Nat) : Int)) = true then _ else _
        refine ite2 (fun h => ?_) (fun h => ?_)
        · have ham : a < m := by have := of_decide_eq_true h; omega
          refine .inl ⟨_, .inl (SqL.of hO), rfl, rfl, ?_⟩
          show if (true ^^ inV (.int ((a : Nat) : Int)) [.int r0, .int r1]) = true then _ else _
          refine ite2 (fun h => ?_) (fun h => ?_)
          · have hn0' : ((a : Nat) : Int) ≠ r0 := fun z => by
              rw [z] at h
              have : inV (.int r0) [.int r0, .int r1] = true := by
                show ((r0 == r0) || ((r1 == r0) || false)) = true
                simp
              rw [this] at h
              exact absurd h (by decide)
            obtain ⟨ch, hch, hst⟩ : ∃ ch : Nat, atI ("?!" : Str).cps.toList (0 + ((i : Nat) : Int)) = some ch ∧ ∀ j, j < 20 → ∃ q0 q1 : Int, [V.int r0, V.int r1].set i (.int ((a : Nat) : Int)) = [.int q0, .int q1] ∧ PT c0 m (ps.set a (nm12 c0 j)) (ts.set a (ch :: nm12 c0 j)) q0 q1 ∧ (i + 1 ≤ 1 → q1 = -1) := by
              have e1 := hr1 (by omega)
              rw [e1] at pt
              rcases hi2 with rfl | rfl
              · rw [hr0 rfl] at pt
                exact ⟨63, by decide +kernel, fun j hj => ⟨_, r1, rfl, by rw [e1]; exact pt.ask ham hj, fun _ => e1⟩⟩
              · exact ⟨33, by decide +kernel, fun j hj => ⟨r0, _, rfl, pt.bind ham hj hn0', fun z => by omega⟩⟩
            refine ⟨no, _, _, i, rfl, rfl, hO, by rw [Int.zero_add]; exact ixN_nat (n := 2) (by omega), ?_⟩
            have u8 : ∀ b u, b ≠ no → H7 b = some u → upd H7 no (.lst ([V.int r0, V.int r1].set i (.int ((a : Nat) : Int)))) b = some u := fun b u z e => by rw [upd_ne z]; exact e
            have h8 : upd H7 no (.lst ([V.int r0, V.int r1].set i (.int ((a : Nat) : Int)))) no = some (.lst ([V.int r0, V.int r1].set i (.int ((a : Nat) : Int)))) := upd_same
            generalize upd H7 no (.lst ([V.int r0, V.int r1].set i (.int ((a : Nat) : Int)))) = H8 at u8 h8 ⊢
            have sm8 : Same H H8 := fun b u e => u8 b u (fun z => by rw [z, kno] at e; cases e) (sm _ _ e)
            refine ⟨_, _, rfl, fun y hy0 hy1 => ?_⟩
            obtain ⟨j, ej, hj, eb⟩ := nm_at c0 (i := y % 20) (by omega) (by omega)
            obtain ⟨q0, q1, eq8, pt', hq1⟩ := hst j (by omega)
            rw [eq8] at h8
            refine ⟨by decide, .inl ⟨_, .str (S (nm12 c0 j)), SqL.of (sm8 _ _ hN), eb, ?_⟩⟩
            refine ⟨pa, _, _, a, rfl, rfl, u8 _ _ nno1.symm hP, by rw [List.length_map]; exact ixN_nat (by omega), ?_⟩
            have u9 : ∀ b u, b ≠ pa → H8 b = some u → upd H8 pa (.lst ((ps.map fun l => V.str (S l)).set a (.str (S (nm12 c0 j))))) b = some u := fun b u z e => by rw [upd_ne z]; exact e
            have h9 : upd H8 pa (.lst ((ps.map fun l => V.str (S l)).set a (.str (S (nm12 c0 j))))) pa = some (.lst ((ps.set a (nm12 c0 j)).map fun l => V.str (S l))) := by rw [upd_same, List.map_set]
            generalize upd H8 pa (.lst ((ps.map fun l => V.str (S l)).set a (.str (S (nm12 c0 j))))) = H9 at u9 h9 ⊢
            have sm9 : Same H H9 := fun b u e => u9 b u (fun z => by rw [z, kpa] at e; cases e) (sm8 _ _ e)
            refine ⟨by decide +kernel, ch, hch, ?_⟩
            refine .inl ⟨_, .str (S (nm12 c0 j)), SqL.of h9, atI_nat (by rw [List.getElem?_map, List.getElem?_set_self (by omega)]; rfl), ?_⟩
            have hk12 := (nm12_ok c0 j).l2
            refine ⟨by rw [S_len (nm12 c0 j)]; show 1 + _ ≤ sizeLine; omega, ?_⟩
            rw [show (⟨#[ch]⟩ : Str) ++ S (nm12 c0 j) = S (ch :: nm12 c0 j) from S_app [ch] _]
            refine ⟨ta, _, _, a, rfl, rfl, u9 _ _ nta (u8 _ _ nno2.symm hT), by rw [List.length_map]; exact ixN_nat (by omega), ?_⟩
            have u10 : ∀ b u, b ≠ ta → H9 b = some u → upd H9 ta (.lst ((ts.map fun l => V.str (S l)).set a (.str (S (ch :: nm12 c0 j))))) b = some u := fun b u z e => by rw [upd_ne z]; exact e
            have h10 : upd H9 ta (.lst ((ts.map fun l => V.str (S l)).set a (.str (S (ch :: nm12 c0 j))))) ta = some (.lst ((ts.set a (ch :: nm12 c0 j)).map fun l => V.str (S l))) := by rw [upd_same, List.map_set]
            generalize upd H9 ta (.lst ((ts.map fun l => V.str (S l)).set a (.str (S (ch :: nm12 c0 j))))) = H10 at u10 h10 ⊢
            have sm10 : Same H H10 := fun b u e => u10 b u (fun z => by rw [z, kta] at e; cases e) (sm9 _ _ e)
            exact ⟨_, _, q0, q1, _, _, sm10, u10 _ _ nta.symm h9, h10, u10 _ _ nno2 (u9 _ _ nno1 h8), pt', (fun z => by omega), hq1, rfl⟩
          · exact ⟨ps, ts, r0, r1, _, _, sm, hP, hT, hO, pt, (fun z => by omega), (fun z => hr1 (by omega)), rfl⟩
        · exact ⟨ps, ts, r0, r1, _, _, sm, hP, hT, hO, pt, (fun z => by omega), (fun z => hr1 (by omega)), rfl⟩
      · rintro σ H7 ⟨ps, ts, r0, r1, v6, v10, sm, hP, hT, hO, pt, hr0, hr1, rfl⟩
        have lp := pt.lp
        have lt := pt.lt
        obtain ⟨g, eg⟩ : ∃ g : GR, g = ⟨nm12 c0 js, n, sd, ps, ts, r0, r1⟩ := ⟨_, rfl⟩
        have gok : g.Ok := by subst eg; exact ⟨nm12_ok _ _, hn, hsd, lt.trans lp.symm, by show ps.length ≤ 9; omega, pt.td, pt.kp, pt.p0, pt.p1⟩
        have gN : RuleN c0 g := ⟨gok, by subst eg; exact ⟨js, hj20, hjs, rfl⟩, by subst eg; exact pt.nn⟩
        have hlog : ((n : Nat) : Int).natAbs.log2 < 1920 := by
          have := Nat.log2_le_self ((n : Nat) : Int).natAbs
          omega
        refine ⟨rfl, hlog, ?_⟩
        rw [← rk_S n]
        refine ⟨(show 4 ≤ sizeLine by decide), fun p8 hp8 => ?_⟩
        have s8 : Same H7 (upd H7 p8 (.lst [.str "rule", .str (S (nm12 c0 js)), .str (S (rk n)), .str (S (sideL sd))])) := same_new hp8
        have h8 : upd H7 p8 (.lst [.str "rule", .str (S (nm12 c0 js)), .str (S (rk n)), .str (S (sideL sd))]) p8 = some (.lst [.str "rule", .str (S (nm12 c0 js)), .str (S (rk n)), .str (S (sideL sd))]) := upd_same
        generalize upd H7 p8 (.lst [.str "rule", .str (S (nm12 c0 js)), .str (S (rk n)), .str (S (sideL sd))]) = H8 at s8 h8 ⊢
        refine .inl ⟨_, _, h8, s8 _ _ hT, by rw [List.length_map]; show 4 + ts.length ≤ sizeLine; omega, fun p9 hp9 => ?_⟩
        have ew : [V.str "rule", .str (S (nm12 c0 js)), .str (S (rk n)), .str (S (sideL sd))] ++ ts.map (fun l => V.str (S l)) = g.words.map fun l => V.str (S l) := by subst eg; rfl
        rw [ew]
        have s9 : Same H8 (upd H8 p9 (.lst (g.words.map fun l => V.str (S l)))) := same_new hp9
        have h9 : upd H8 p9 (.lst (g.words.map fun l => V.str (S l))) p9 = some (.lst (g.words.map fun l => V.str (S l))) := upd_same
        generalize upd H8 p9 (.lst (g.words.map fun l => V.str (S l))) = H9 at s9 h9 ⊢
        have hwl : g.words.length ≤ 13 := by subst eg; show ts.length + 4 ≤ 13; omega
        refine ⟨g.words.map S, by rw [List.map_map]; exact SqL.of h9, joinOk_of (B := 13) (fun y hy => ?_) ?_, ?_⟩
        · obtain ⟨t, ht, rfl⟩ := List.mem_map.mp hy
          rw [S_len]; exact rule_len gok t ht
        · rw [List.length_map]
          show g.words.length * 13 + g.words.length * 1 ≤ _
          omega
        rw [show Txt.join (Str.ofString " ") (g.words.map S) = S (joinWith [32] g.words) from txtJoin_S [32] _]
        have s79 : Same H7 H9 := s8.trans s9
        refine ⟨_, .inl ⟨SqL.of (s79 _ _ hP), fun tp htp => ?_⟩⟩
        have s10 : Same H9 (upd H9 tp (.tup (ps.map fun l => V.str (S l)))) := same_new htp
        have h10 : upd H9 tp (.tup (ps.map fun l => V.str (S l))) tp = some (.tup (ps.map fun l => V.str (S l))) := upd_same
        generalize upd H9 tp (.tup (ps.map fun l => V.str (S l))) = H10 at s10 h10 ⊢
        refine ⟨(show 4 ≤ sizeLine by decide), fun tr htr => ?_⟩
        have s11 : Same H10 (upd H10 tr (.tup [.str (S (nm12 c0 js)), .int (n : Nat), .str (S (sideL sd)), .ref tp])) := same_new htr
        have h11 : upd H10 tr (.tup [.str (S (nm12 c0 js)), .int (n : Nat), .str (S (sideL sd)), .ref tp]) tr = some (.tup [.str (S (nm12 c0 js)), .int (n : Nat), .str (S (sideL sd)), .ref tp]) := upd_same
        generalize upd H10 tr (.tup [.str (S (nm12 c0 js)), .int (n : Nat), .str (S (sideL sd)), .ref tp]) = H11 at s11 h11 ⊢
        have hO11 := s11 _ _ (s10 _ _ (s79 _ _ hO))
        refine .inl ⟨_, .int r0, SqL.of hO11, atI_nat (j := 0) rfl, .inl ⟨_, .int r1, SqL.of hO11, atI_nat (j := 1) rfl, ?_⟩⟩
        refine ⟨(show 2 ≤ sizeLine by decide), fun tn htn => ?_⟩
        have s12 : Same H11 (upd H11 tn (.tup [.int r0, .int r1])) := same_new htn
        have h12 : upd H11 tn (.tup [.int r0, .int r1]) tn = some (.tup [.int r0, .int r1]) := upd_same
        generalize upd H11 tn (.tup [.int r0, .int r1]) = H12 at s12 h12 ⊢
        refine ⟨(show 3 ≤ sizeLine by decide), fun t ht => ?_⟩
        have s13 : Same H12 (upd H12 t (.tup [.str (S (joinWith [32] g.words)), .ref tr, .ref tn])) := same_new ht
        have r1' := s13 _ _ (s12 _ _ h11)
        have r2' := s13 _ _ (s12 _ _ (s11 _ _ h10))
        have r3' := s13 _ _ h12
        refine q _ t tr tp tn g (sm.trans (s79.trans (s10.trans (s11.trans (s12.trans s13))))) upd_same ?_ ?_ ?_ gN
        · subst eg; exact r1'
        · subst eg; exact r2'
        · subst eg; exact r3'
end
end K80

set_option Elab.async false
set_option linter.all false
set_option maxRecDepth 100000
set_option maxHeartbeats 4000000




namespace K80
open PySem PySem.Spec PyProof.Rows L2 Rg
theorem join_cons (w : List Nat) {ps : List (List Nat)} (h : ps ≠ []) : joinWith [32] (w :: ps) = w ++ [32] ++ joinWith [32] ps := by
  cases ps with
  | nil => exact absurd rfl h
  | cons p r => rfl
theorem form_len {ps : List Pt} (h : FormOk ps) : (joinWith [32] (ps.map Pt.txt)).length ≤ 2436 := by
  have := join_len (ps := ps.map Pt.txt) (B := 202) fun p hp => by
    obtain ⟨x, hx, rfl⟩ := List.mem_map.mp hp
    exact txt_len (h.2.1 x hx)
  rw [List.length_map] at this
  have := h.2.2
  omega
theorem gap_txt {ps : List Pt} (h : ps ≠ []) : (GRow.gap ps).txt = [103, 97, 112, 32] ++ joinWith [32] (ps.map Pt.txt) := by
  unfold GRow.txt GRow.words
  rw [join_cons _ (by simpa using h)]; rfl
theorem word_txt {k : List Nat} {ps : List Pt} (h : ps ≠ []) : (GRow.word k ps).txt = [119, 111, 114, 100, 32] ++ k ++ [32] ++ joinWith [32] (ps.map Pt.txt) := by
  unfold GRow.txt GRow.words
  rw [join_cons _ (by simp), join_cons _ (by simpa using h)]
  simp
theorem fin_txt (k : List Nat) (d : Nat) : (GRow.fin k d).txt = eDL d ++ [32] ++ k := rfl
theorem eDL_at : ∀ {d : Nat}, d < 3 → atI [V.str "stop", .str "open", .str "close"] (d : Int) = some (.str (eDeed d))
  | 0, _ => rfl
  | 1, _ => rfl
  | 2, _ => rfl
  | d + 3, h => by omega
theorem eDL_len (d : Nat) : (eDL d).length ≤ 5 := by unfold eDL; split <;> decide
section
variable {P : Program} {w : World} {K : PySem.W.Frag} {mg : Str → Option Value} {base : Heap} {aN aD aS : Addr}
def spRow (K : PySem.W.Frag) : Sp := fun vs H Q _ => ∃ (c c0 : Int) (na : Addr) (mf me : Nat), vs = [.int c, .ref na, .int (mf : Nat), .int (me : Nat)] ∧ H na = some (.lst (nmV c0)) ∧
  (∀ (H' : Hp) (t tt fa : Addr) (fv : List V) (k : List Nat) (ps : List Pt) (r : GRow), mf < 24 → Same H H' → H' t = some (.tup [.str (S r.txt), .int 0, .ref tt, .non]) → H' tt = some (.tup [.str (S k), .ref fa]) → H' fa = some (.lst fv) → H fa = none → DatVs K H' fv (ps.map Pt.dat) → (r = .gap ps ∧ k = [] ∨ r = .word k ps) → r.Ok → Q (.ref t) H') ∧
  (∀ (H' : Hp) (t tt : Addr) (d : Nat), me < 24 → d < 3 → Same H H' → H' t = some (.tup [.str (S (GRow.fin (nm12 c0 me) d).txt), .int 2, .ref tt, .non]) → H' tt = some (.tup [.str (S (nm12 c0 me)), .str (eDeed d)]) → Q (.ref t) H') ∧
  (∀ (H' : Hp) (t tr tp tn : Addr) (q : GR), Same H H' → H' t = some (.tup [.str (S (GRow.rule q).txt), .int 1, .ref tr, .ref tn]) → H' tr = some (.tup [.str (S q.sort), .int (q.n : Nat), .str (S (sideL q.sd)), .ref tp]) → H' tp = some (.tup (q.ps.map fun l => V.str (S l))) → H' tn = some (.tup [.int q.r0, .int q.r1]) → RuleN c0 q → Q (.ref t) H') ∧
  (∀ (H' : Hp) (t : Addr), Same H H' → H' t = some (.tup [.str (S GRow.emp.txt), .int 4, .non, .non]) → Q (.ref t) H')
abbrev st__law_row : Stmt := top 45
theorem sc__law_row : FnScope ["_law_cell", "_law_names_here", "_law_many_forms", "_law_many_ends", "_law_way", "_law_form_here", "_law_told", "_law_kind", "_law_deed", "_law_row_here", "_law_rule_here", "_law_note"] ["_law_cell", "_law_names_here", "_law_many_forms", "_law_many_ends"] (defScope st__law_row) := ⟨rfl, rfl, rfl, by decide +kernel, rfl, by decide +kernel, by decide +kernel⟩
theorem def_row (R : Raw K mg "_law_row" st__law_row ["_law_cell", "_law_names_here", "_law_many_forms", "_law_many_ends"]) (T : Txt2 K w mg aN aD aS) (D__law_form : Def P w K mg base 3 "_law_form" ["_law_cell"] (spForm K)) (D__law_rule : Def P w K mg base 2 "_law_rule" ["_law_cell", "_law_names_here"] (spLR K)) : Def P w K mg base 4 "_law_row" ["_law_cell", "_law_names_here", "_law_many_forms", "_law_many_ends"] (spRow K) := by
  refine R.defJ sc__law_row (fun vs H Q E h => ?_) (fun f cdv A outer s H vs Q E hr h => ?_)
  · obtain ⟨c, c0, na, mf, me, rfl, _⟩ := h
    rfl
  · obtain ⟨c, c0, na, mf, me, rfl, hN, q1, q2, q3, q4⟩ := h
    have sc := sc__law_row
    have hu := hr.units
    have hb := big
    refine ⟨_, (jss_cons (js_set (i := 4) sc.nd rfl (Or.inl rfl) (j_op o_mod (jn 0) j_int))
    (jss_cons (js_if (jw_t (jw_and (jt_cmp o_lt (jn 4) j_int) (jw_and1 (jt_cmp o_lt (jn 2) j_int))))
    (jss_cons (js_asg (j_def D__law_form (hr.mono (by decide)) rfl (ja_cons (j_op o_div (jn 0) j_int) ja_nil)) (jg_tup (K := K) (n := 2) rfl (jgs_cons (jg_name (i := 5) sc.nd rfl (Or.inl rfl)) (jgs_cons (jg_name (i := 6) sc.nd rfl (Or.inl rfl)) jgs_nil))))
    (jss_cons (js_set (i := 7) sc.nd rfl (Or.inl rfl) (j_ix (o_ix hu (K := K) (w := w)) (j_lst (ja_cons j_str (ja_cons (j_ix (o_ix hu (K := K) (w := w)) (jn 1) (j_op o_mod (j_op o_div (jn 0) j_int) j_int)) (ja_cons (j_ix (o_ix hu (K := K) (w := w)) (jn 1) (j_op o_mod (j_op o_div (jn 0) j_int) j_int)) ja_nil)))) (jn 4)))
    (jss_one (js_ret (j_tup (ja_cons (j_op (o_add (K := K)) (j_ix (o_ix hu (K := K) (w := w)) (j_lst (ja_cons j_str (ja_cons (j_op (o_add (K := K)) (j_op (o_add (K := K)) j_str (jn 7)) j_str) ja_nil))) (j_callTy c_intT rfl T.n_int boot_int (ja_cons (j_cmp o_gt (jn 4) j_int) ja_nil))) (jn 6)) (ja_cons j_int (ja_cons (j_tup (ja_cons (jn 7) (ja_cons (jn 5) ja_nil))) (ja_cons j_non ja_nil)))))))))
    jss_nil)
    (jss_cons (js_if (jw_t (jw_and (jt_cmp o_lt (jn 4) j_int) (jw_and1 (jt_cmp o_lt (jn 3) j_int))))
    (jss_cons (js_set (i := 8) sc.nd rfl (Or.inl rfl) (j_ix (o_ix hu (K := K) (w := w)) (j_lst (ja_cons j_str (ja_cons j_str (ja_cons j_str ja_nil)))) (j_op o_mod (j_op o_div (jn 0) j_int) j_int)))
    (jss_cons (js_set (i := 7) sc.nd rfl (Or.inl rfl) (j_ix (o_ix hu (K := K) (w := w)) (jn 1) (jn 3)))
    (jss_one (js_ret (j_tup (ja_cons (j_op (o_add (K := K)) (j_op (o_add (K := K)) (jn 8) j_str) (jn 7)) (ja_cons j_int (ja_cons (j_tup (ja_cons (jn 7) (ja_cons (jn 8) ja_nil))) (ja_cons j_non ja_nil)))))))))
    jss_nil)
    (jss_cons (js_if (jt_cmp o_lt (jn 4) j_int)
    (jss_cons (js_asg (j_def D__law_rule (hr.mono (by decide)) rfl (ja_cons (j_op o_div (jn 0) j_int) (ja_cons (jn 1) ja_nil))) (jg_tup (K := K) (n := 3) rfl (jgs_cons (jg_name (i := 9) sc.nd rfl (Or.inl rfl)) (jgs_cons (jg_name (i := 10) sc.nd rfl (Or.inl rfl)) (jgs_cons (jg_name (i := 11) sc.nd rfl (Or.inl rfl)) jgs_nil)))))
    (jss_one (js_ret (j_tup (ja_cons (jn 9) (ja_cons j_int (ja_cons (jn 10) (ja_cons (jn 11) ja_nil))))))))
    jss_nil)
    (jss_one (js_ret (j_tup (ja_cons j_str (ja_cons j_int (ja_cons j_non (ja_cons j_non ja_nil))))))))))), ?_⟩
    refine ⟨by decide, ?_⟩
    dsimp only [gName, tSeq, tAsg]
    refine ifS_of (fun b H' => H' = H ∧ (b = true → c % 9 < 3 ∧ mf < 24)) ?_ ?_ ?_
    · rintro H' ⟨rfl, hh⟩
      obtain ⟨hw3, hmf⟩ := hh rfl
      refine ⟨⟨by decide, by decide⟩, ?_⟩
      refine ⟨_, rfl, fun H1 t1 fp fv ps s1 ht hfv hfp hD hok hne h12 => ?_⟩
      have fok : FormOk ps := ⟨hne, hok, h12⟩
      have hfl := form_len fok
      refine ⟨t1, _, rfl, SqT.of ht, rfl, _, _, rfl, _, _, rfl, rfl, ?_⟩
      obtain ⟨ja, eja, hja, eA⟩ := nm_at c0 (i := c / 9 % 26) (by omega) (by omega)
      obtain ⟨jb, ejb, hjb, eB⟩ := nm_at c0 (i := c / 18 % 26) (by omega) (by omega)
      refine ⟨⟨by decide, by decide⟩, by decide, .inl ⟨_, .str (S (nm12 c0 ja)), SqL.of (s1 _ _ hN), eA, ?_⟩⟩
      refine ⟨⟨by decide, by decide⟩, by decide, .inl ⟨_, .str (S (nm12 c0 jb)), SqL.of (s1 _ _ hN), eB, ?_⟩⟩
      refine ⟨(show 3 ≤ sizeLine by decide), fun p2 hp2 => ?_⟩
      have s2 : Same H1 (upd H1 p2 (.lst [.str "", .str (S (nm12 c0 ja)), .str (S (nm12 c0 jb))])) := same_new hp2
      have h2 : upd H1 p2 (.lst [.str "", .str (S (nm12 c0 ja)), .str (S (nm12 c0 jb))]) p2 = some (.lst [.str "", .str (S (nm12 c0 ja)), .str (S (nm12 c0 jb))]) := upd_same
      generalize upd H1 p2 (.lst [.str "", .str (S (nm12 c0 ja)), .str (S (nm12 c0 jb))]) = H2 at s2 h2 ⊢
      obtain ⟨k, r, hkat, hk12, hrk, hrt, rok⟩ : ∃ (k : List Nat) (r : GRow), atI [V.str "", .str (S (nm12 c0 ja)), .str (S (nm12 c0 jb))] (c % 9) = some (.str (S k)) ∧ k.length ≤ 12 ∧ (r = .gap ps ∧ k = [] ∨ r = .word k ps) ∧
          r.txt = (if decide ((0 : Int) < c % 9) = true then [119, 111, 114, 100, 32] ++ k ++ [32] else [103, 97, 112, 32]) ++ joinWith [32] (ps.map Pt.txt) ∧ r.Ok := by
        have : c % 9 = 0 ∨ c % 9 = 1 ∨ c % 9 = 2 := by omega
        rcases this with e | e | e
        · exact ⟨[], .gap ps, by rw [e]; rfl, by decide, .inl ⟨rfl, rfl⟩, by rw [e, if_neg (by decide)]; exact gap_txt hne, fok⟩
        · exact ⟨nm12 c0 ja, .word (nm12 c0 ja) ps, by rw [e]; rfl, (nm12_ok _ _).l2, .inr rfl, by rw [e, if_pos (by decide)]; exact word_txt hne, nm12_ok _ _, fok⟩
        · exact ⟨nm12 c0 jb, .word (nm12 c0 jb) ps, by rw [e]; rfl, (nm12_ok _ _).l2, .inr rfl, by rw [e, if_pos (by decide)]; exact word_txt hne, nm12_ok _ _, fok⟩
      refine .inl ⟨_, .str (S k), SqL.of h2, hkat, ?_⟩
      have el : S [119, 111, 114, 100, 32] ++ S k = S ([119, 111, 114, 100, 32] ++ k) := S_app _ _
      refine ⟨by rw [S_len k]; show 5 + _ ≤ sizeLine; omega, ?_⟩
      refine ⟨by rw [show ("word " : Str) ++ S k = S ([119, 111, 114, 100, 32] ++ k) from el, S_len]; show _ + 1 ≤ sizeLine; simp; omega, ?_⟩
      rw [show ("word " : Str) ++ S k ++ (" " : Str) = S ([119, 111, 114, 100, 32] ++ k ++ [32]) from (congrArg (· ++ S [32]) el).trans (S_app _ _)]
      refine ⟨(show 2 ≤ sizeLine by decide), fun p3 hp3 => ?_⟩
      have s3 : Same H2 (upd H2 p3 (.lst [.str "gap ", .str (S ([119, 111, 114, 100, 32] ++ k ++ [32]))])) := same_new hp3
      have h3 : upd H2 p3 (.lst [.str "gap ", .str (S ([119, 111, 114, 100, 32] ++ k ++ [32]))]) p3 = some (.lst [.str "gap ", .str (S ([119, 111, 114, 100, 32] ++ k ++ [32]))]) := upd_same
      generalize upd H2 p3 (.lst [.str "gap ", .str (S ([119, 111, 114, 100, 32] ++ k ++ [32]))]) = H3 at s3 h3 ⊢
      refine .inl ⟨_, .str (S (if decide ((0 : Int) < c % 9) = true then [119, 111, 114, 100, 32] ++ k ++ [32] else [103, 97, 112, 32])), SqL.of h3, ?_, ?_⟩
      · show atI _ (if decide ((0 : Int) < c % 9) = true then 1 else 0) = _
        by_cases z : decide ((0 : Int) < c % 9) = true
        · rw [if_pos z, if_pos z]; rfl
        · rw [if_neg z, if_neg z]; rfl
      have hpre : (if decide ((0 : Int) < c % 9) = true then [119, 111, 114, 100, 32] ++ k ++ [32] else [103, 97, 112, 32]).length ≤ 18 := by
        split
        · simp; omega
        · decide
      generalize (if decide ((0 : Int) < c % 9) = true then [119, 111, 114, 100, 32] ++ k ++ [32] else [103, 97, 112, 32]) = pre at hrt hpre ⊢
      refine ⟨by rw [S_len, S_len]; omega, ?_⟩
      rw [S_app, ← hrt]
      refine ⟨(show 2 ≤ sizeLine by decide), fun tt htt => ?_⟩
      have s4 : Same H3 (upd H3 tt (.tup [.str (S k), .ref fp])) := same_new htt
      have h4 : upd H3 tt (.tup [.str (S k), .ref fp]) tt = some (.tup [.str (S k), .ref fp]) := upd_same
      generalize upd H3 tt (.tup [.str (S k), .ref fp]) = H4 at s4 h4 ⊢
      refine ⟨(show 4 ≤ sizeLine by decide), fun t5 ht5 => ?_⟩
      have s5 : Same H4 (upd H4 t5 (.tup [.str (S r.txt), .int 0, .ref tt, .non])) := same_new ht5
      have s15 : Same H1 (upd H4 t5 (.tup [.str (S r.txt), .int 0, .ref tt, .non])) := s2.trans (s3.trans (s4.trans s5))
      exact q1 _ t5 tt fp fv k ps r hmf (s1.trans s15) upd_same (s5 _ _ h4) (s15 _ _ hfv) hfp ((hD.same rem_same).same s15) hrk rok
    · rintro H' ⟨rfl, _⟩
      dsimp only [gName, tSeq, tAsg, tNext]
      refine ifS_of (fun b H2 => H2 = H' ∧ (b = true → c % 9 < 5 ∧ me < 24)) ?_ ?_ ?_
      · rintro H2 ⟨rfl, hh⟩
        obtain ⟨_, hme⟩ := hh rfl
        obtain ⟨d, ed, hd⟩ : ∃ d : Nat, c / 9 % 3 = ((d : Nat) : Int) ∧ d < 3 := ⟨(c / 9 % 3).toNat, by omega, by omega⟩
        refine ⟨(show 3 ≤ sizeLine by decide), fun p3 hp3 => ?_⟩
        have s3 : Same H2 (upd H2 p3 (.lst [.str "stop", .str "open", .str "close"])) := same_new hp3
        have h3 : upd H2 p3 (.lst [.str "stop", .str "open", .str "close"]) p3 = some (.lst [.str "stop", .str "open", .str "close"]) := upd_same
        generalize upd H2 p3 (.lst [.str "stop", .str "open", .str "close"]) = H3 at s3 h3 ⊢
        refine ⟨⟨by decide, by decide⟩, by decide, .inl ⟨_, .str (eDeed d), SqL.of h3, by rw [ed]; exact eDL_at hd, ?_⟩⟩
        obtain ⟨j, ej, hj, eA⟩ := nm_at c0 (i := ((me : Nat) : Int)) (by omega) (by omega)
        have ej' : j = me := by omega
        subst ej'
        refine .inl ⟨_, .str (S (nm12 c0 j)), SqL.of (s3 _ _ hN), eA, ?_⟩
        have hdl := eDL_len d
        have hk12 := (nm12_ok c0 j).l2
        have e1 : eDeed d ++ (" " : Str) = S (eDL d ++ [32]) := by rw [eDL_S]; exact S_app _ [32]
        refine ⟨by rw [eDL_S, S_len]; show _ + 1 ≤ sizeLine; omega, ?_⟩
        rw [e1]
        refine ⟨by rw [S_len, S_len]; simp; omega, ?_⟩
        rw [S_app, ← fin_txt]
        refine ⟨(show 2 ≤ sizeLine by decide), fun tt htt => ?_⟩
        have s4 : Same H3 (upd H3 tt (.tup [.str (S (nm12 c0 j)), .str (eDeed d)])) := same_new htt
        have h4 : upd H3 tt (.tup [.str (S (nm12 c0 j)), .str (eDeed d)]) tt = some (.tup [.str (S (nm12 c0 j)), .str (eDeed d)]) := upd_same
        generalize upd H3 tt (.tup [.str (S (nm12 c0 j)), .str (eDeed d)]) = H4 at s4 h4 ⊢
        refine ⟨(show 4 ≤ sizeLine by decide), fun t5 ht5 => ?_⟩
        have s5 : Same H4 (upd H4 t5 (.tup [.str (S (GRow.fin (nm12 c0 j) d).txt), .int 2, .ref tt, .non])) := same_new ht5
        exact q2 _ t5 tt d hme hd (s3.trans (s4.trans s5)) upd_same (s5 _ _ h4)
      · rintro H2 ⟨rfl, _⟩
        dsimp only [gName, tSeq, tAsg, tNext]
        show if decide (c % 9 < (8 : Int)) = true then _ else _
        refine ite2 (fun h => ?_) (fun h => ?_)
        · refine ⟨⟨by decide, by decide⟩, ?_⟩
          refine ⟨_, c0, na, rfl, hN, fun H3 t3 tr tp tn g s3 h3 htr htp htn gN => ?_⟩
          refine ⟨t3, _, rfl, SqT.of h3, rfl, _, _, rfl, _, _, rfl, _, _, rfl, rfl, ?_⟩
          refine ⟨(show 4 ≤ sizeLine by decide), fun t5 ht5 => ?_⟩
          have s5 : Same H3 (upd H3 t5 (.tup [.str (S (GRow.rule g).txt), .int 1, .ref tr, .ref tn])) := same_new ht5
          exact q3 _ t5 tr tp tn g (s3.trans s5) upd_same (s5 _ _ htr) (s5 _ _ htp) (s5 _ _ htn) gN
        · refine ⟨(show 4 ≤ sizeLine by decide), fun t5 ht5 => ?_⟩
          exact q4 _ t5 (same_new ht5) upd_same
      · intro t1 t2
        show if decide (c % 9 < (5 : Int)) = true then _ else _
        refine ite2 (fun h => ?_) (fun h => ?_)
        · show if decide (((me : Nat) : Int) < (24 : Int)) = true then _ else _
          refine ite2 (fun h' => ?_) (fun h' => ?_)
          · exact t1 _ ⟨rfl, fun _ => ⟨of_decide_eq_true h, by have := of_decide_eq_true h'; omega⟩⟩
          · exact t2 _ ⟨rfl, fun z => by cases z⟩
        · exact t2 _ ⟨rfl, fun z => by cases z⟩
    · intro t1 t2
      show if decide (c % 9 < (3 : Int)) = true then _ else _
      refine ite2 (fun h => ?_) (fun h => ?_)
      · show if decide (((mf : Nat) : Int) < (24 : Int)) = true then _ else _
        refine ite2 (fun h' => ?_) (fun h' => ?_)
        · exact t1 _ ⟨rfl, fun _ => ⟨of_decide_eq_true h, by have := of_decide_eq_true h'; omega⟩⟩
        · exact t2 _ ⟨rfl, fun z => by cases z⟩
      · exact t2 _ ⟨rfl, fun z => by cases z⟩
end
end K80

set_option Elab.async false
set_option linter.all false
set_option maxRecDepth 100000
set_option maxHeartbeats 4000000




namespace K80
open PySem PySem.Spec PyProof.Rows L2 Rg
theorem rem_upd_out {cs : List Addr} {H : Hp} {a : Addr} {o : HO} (h : a ∉ cs) : rem cs (upd H a o) = upd (rem cs H) a o := by
  funext b
  by_cases e : b = a
  · subst e
    rw [rem_out h, upd_same, upd_same]
  · rw [upd_ne e]
    by_cases m : b ∈ cs
    · rw [rem_in m, rem_in m]
    · rw [rem_out m, rem_out m, upd_ne e]
theorem same_upd {H : Hp} {b : Addr} {o : HO} : Same (rem [b] H) (upd H b o) := fun x u e => by
  have nb : x ∉ [b] := fun m => by rw [rem_in m] at e; cases e
  rw [rem_out nb] at e
  rw [upd_ne fun z => nb (by rw [z]; exact List.mem_singleton.mpr rfl)]
  exact e
theorem words_bd {r : GRow} (h : r.Ok) : r.words.length ≤ 14 ∧ ∀ t ∈ r.words, t.length ≤ 202 := by
  have parts : ∀ {ps : List Pt}, FormOk ps → ∀ t ∈ ps.map Pt.txt, t.length ≤ 202 := fun {ps} hf t ht => by
    obtain ⟨p, hp, rfl⟩ := List.mem_map.mp ht
    exact txt_len (hf.2.1 p hp)
  cases r with
  | gap ps =>
    have h12 : ps.length ≤ 12 := h.2.2
    refine ⟨by show (ps.map Pt.txt).length + 1 ≤ 14; rw [List.length_map]; omega, fun t ht => ?_⟩
    rcases List.mem_cons.mp ht with rfl | ht
    · decide
    · exact parts h t ht
  | word k ps =>
    have h12 : ps.length ≤ 12 := h.2.2.2
    have hk := h.1.l2
    refine ⟨by show (ps.map Pt.txt).length + 1 + 1 ≤ 14; rw [List.length_map]; omega, fun t ht => ?_⟩
    rcases List.mem_cons.mp ht with rfl | ht
    · decide
    rcases List.mem_cons.mp ht with rfl | ht
    · omega
    · exact parts h.2 t ht
  | fin k d =>
    have hk := h.1.l2
    have hd := eDL_len d
    refine ⟨by show 2 ≤ 14; decide, fun t ht => ?_⟩
    rcases List.mem_cons.mp ht with rfl | ht
    · omega
    · rw [List.mem_singleton.mp ht]; omega
  | rule q =>
    have h1 := GR.Ok.le h
    have h2 := GR.Ok.ln h
    refine ⟨by show q.ts.length + 4 ≤ 14; omega, fun t ht => ?_⟩
    have := rule_len h t ht
    omega
  | emp => exact ⟨by decide, fun t ht => by rw [List.mem_singleton.mp ht]; decide⟩
theorem txt_bd {r : GRow} (h : r.Ok) : r.txt.length ≤ 3000 := by
  obtain ⟨h1, h2⟩ := words_bd h
  have := join_len (ps := r.words) (B := 202) h2
  show (joinWith [32] r.words).length ≤ 3000
  have h3 : r.words.length * (202 + 1) ≤ 14 * 203 := Nat.mul_le_mul_right 203 h1
  omega
theorem join_len10 : ∀ {ps : List (List Nat)} {B : Nat}, (∀ p ∈ ps, p.length ≤ B) → (joinWith [10] ps).length ≤ ps.length * (B + 1)
  | [], _, _ => by simp [joinWith]
  | [p], B, h => by
    have := h p List.mem_cons_self
    show p.length ≤ _
    simp; omega
  | p :: q :: r, B, h => by
    have h1 := h p List.mem_cons_self
    have h2 := join_len10 (ps := q :: r) fun x hx => h x (List.mem_cons_of_mem _ hx)
    show (p ++ [10] ++ joinWith [10] (q :: r)).length ≤ _
    have e : (p :: q :: r).length * (B + 1) = (q :: r).length * (B + 1) + (B + 1) := by rw [List.length_cons (a := p), Nat.add_mul, Nat.one_mul]
    rw [e, List.length_append, List.length_append]
    generalize (q :: r).length * (B + 1) = z at h2 ⊢
    show p.length + 1 + _ ≤ _
    omega
structure LRows (c0 : Int) (rows : List GRow) : Prop where
  ok : ∀ r ∈ rows, r.Ok
  nb : (rows.flatMap gBook).length ≤ 24
  ne : (rows.flatMap gEnd).length ≤ 24
  en : (rows.flatMap gEnd).map Prod.fst = (List.range (rows.flatMap gEnd).length).map (nm12 c0)
  ru : ∀ q ∈ rows.flatMap gRule, RuleN c0 q
theorem LRows.nil (c0 : Int) : LRows c0 [] := ⟨(fun r h => by cases h), by simp, by simp, rfl, (fun q h => by cases h)⟩
theorem range_nd {c0 : Int} {n : Nat} (h : n ≤ 24) : ((List.range n).map (nm12 c0)).Nodup := by
  have e : (List.range n).Pairwise (fun i j => nm12 c0 i ≠ nm12 c0 j) := by
    refine List.Pairwise.imp_of_mem ?_ (List.nodup_range (n := n))
    intro a b ha hb hab z
    have h1 := List.mem_range.mp ha
    have h2 := List.mem_range.mp hb
    exact hab (nm12_inj (by omega) (by omega) z)
  exact List.pairwise_map.mpr e
theorem LRows.rows {c0 : Int} {rows : List GRow} (h : LRows c0 rows) : RowsOk rows := by
  refine ⟨h.ok, fun r hr => by have := txt_bd (h.ok r hr); omega, h.nb, h.ne, ?_, notes_of h.ru⟩
  rw [h.en]
  exact range_nd h.ne
theorem LRows.add {c0 : Int} {rows : List GRow} (h : LRows c0 rows) {r : GRow} (hr : r.Ok) (hb : ((rows.flatMap gBook).length + (gBook r).length) ≤ 24)
    (he : gEnd r = [] ∨ (rows.flatMap gEnd).length < 24 ∧ ∃ d, gEnd r = [(nm12 c0 (rows.flatMap gEnd).length, d)]) (hq : ∀ q ∈ gRule r, RuleN c0 q) : LRows c0 (rows ++ [r]) := by
  refine ⟨fun x hx => ?_, by rw [List.flatMap_append, List.flatMap_singleton, List.length_append]; exact hb, ?_, ?_, fun q hq' => ?_⟩
  · rcases List.mem_append.mp hx with z | z
    · exact h.ok x z
    · rw [List.mem_singleton.mp z]; exact hr
  · rw [List.flatMap_append, List.flatMap_singleton, List.length_append]
    have := h.ne
    rcases he with e | ⟨h24, d, e⟩
    · rw [e]; simpa using this
    · rw [e]; show _ + 1 ≤ 24; omega
  · rw [List.flatMap_append, List.flatMap_singleton]
    rcases he with e | ⟨h24, d, e⟩
    · rw [e, List.append_nil]; exact h.en
    · rw [e, List.map_append, h.en, List.length_append]
      show _ ++ [nm12 c0 _] = (List.range (_ + 1)).map _
      rw [List.range_succ, List.map_append]
      rfl
  · rw [List.flatMap_append, List.flatMap_singleton] at hq'
    rcases List.mem_append.mp hq' with z | z
    · exact h.ru q z
    · exact hq q z
section
variable {P : Program} {w : World} {K : PySem.W.Frag} {mg : Str → Option Value} {base : Heap} {aN aD aS : Addr}
theorem cut48 (ns : List Int) : ∃ ms : List Int, cutV (ns.map V.int) (some 2) (some 50) = ms.map V.int ∧ ms.length ≤ 48 := by
  unfold cutV
  have a1 := HT.sIx_nat (ns.map V.int).length 0 2
  have a2 := HT.sIx_nat (ns.map V.int).length (ns.map V.int).length 50
  rw [show ((2 : Nat) : Int) = 2 from rfl] at a1
  rw [show ((50 : Nat) : Int) = 50 from rfl] at a2
  rw [a1, a2, ← List.map_drop, ← List.map_take]
  exact ⟨_, rfl, by rw [List.length_take]; omega⟩
theorem five {H : Hp} {ra b1 b2 b3 b4 : Addr} {l l1 l2 l3 l4 : List V} {rows : List GRow} (F : Four K (rem [ra] H) b1 b2 b3 b4 l1 l2 l3 l4 rows) (hR : H ra = some (.lst l)) : Lsts H [ra, b1, b2, b3, b4] := fun c hc => by
  rcases List.mem_cons.mp hc with rfl | hc
  · exact ⟨_, hR⟩
  · obtain ⟨l, e⟩ := F.lsts c hc
    exact ⟨l, rem_same _ _ e⟩
theorem notTup {H : Hp} {cs : List Addr} {y : Addr} {o : List V} (h : Lsts H cs) (e : H y = some (.tup o)) : y ∉ cs := fun m => by
  obtain ⟨l, z⟩ := h y m
  rw [e] at z; cases z
theorem notNone {H : Hp} {cs : List Addr} {y : Addr} (h : Lsts H cs) (e : H y = none) : y ∉ cs := fun m => by
  obtain ⟨l, z⟩ := h y m
  rw [e] at z; cases z
theorem nin5 {y a b c d e : Addr} (h : y ∉ [a, b, c, d, e]) : y ≠ a ∧ y ≠ b ∧ y ≠ c ∧ y ≠ d ∧ y ≠ e := by simpa using h
theorem lsts_upd {H : Hp} {cs : List Addr} {b : Addr} {l : List V} (h : Lsts H cs) : Lsts (upd H b (.lst l)) cs := fun c hc => by
  by_cases z : c = b
  · rw [z]; exact ⟨_, upd_same⟩
  · obtain ⟨l', e⟩ := h c hc; exact ⟨l', by rw [upd_ne z]; exact e⟩
theorem rem1 {H : Hp} {ra y : Addr} (h : y ≠ ra) : rem [ra] H y = H y := rem_out fun m => h (List.mem_singleton.mp m)
def spRows (K : PySem.W.Frag) : Sp := fun vs H Q _ => ∃ (a na : Addr) (ns : List Int) (c0 : Int), vs = [.ref a, .ref na] ∧ SqL K H a (ns.map V.int) ∧ H na = some (.lst (nmV c0)) ∧
  ∀ (H' : Hp) (t td b1 b2 b3 b4 : Addr) (l1 l2 l3 l4 : List V) (rows : List GRow), Same H H' → H' t = some (.tup [.str (S (joinWith [10] (rows.map GRow.txt))), .ref td]) → H' td = some (.tup [.ref b1, .ref b2, .ref b3, .ref b4]) → Four K H' b1 b2 b3 b4 l1 l2 l3 l4 rows → LRows c0 rows → rows.length ≤ 48 → Q (.ref t) H'
abbrev st__law_rows : Stmt := top 46
theorem sc__law_rows : FnScope ["_law_script", "_law_names_here", "_law_rows_here", "_law_size", "_law_due", "_law_cell", "_law_row_here", "_law_where", "_law_thing", "_law_note"] ["_law_script", "_law_names_here"] (defScope st__law_rows) := ⟨rfl, rfl, rfl, by decide +kernel, rfl, by decide +kernel, by decide +kernel⟩
theorem def_rows (R : Raw K mg "_law_rows" st__law_rows ["_law_script", "_law_names_here"]) (T : Txt2 K w mg aN aD aS) (D__law_row : Def P w K mg base 4 "_law_row" ["_law_cell", "_law_names_here", "_law_many_forms", "_law_many_ends"] (spRow K)) : Def P w K mg base 5 "_law_rows" ["_law_script", "_law_names_here"] (spRows K) := by
  refine R.defJ sc__law_rows (fun vs H Q E h => ?_) (fun f cdv A outer s H vs Q E hr h => ?_)
  · obtain ⟨a, na, ns, c0, rfl, _⟩ := h
    rfl
  · obtain ⟨a, na, ns, c0, rfl, hS, hN, q⟩ := h
    have sc := sc__law_rows
    have hu := hr.units
    have hb := big
    refine ⟨_, (jss_cons (js_set (i := 2) sc.nd rfl (Or.inl rfl) (j_lst ja_nil))
    (jss_cons (js_set (i := 3) sc.nd rfl (Or.inl rfl) j_int)
    (jss_cons (js_set (i := 4) sc.nd rfl (Or.inl rfl) (j_tup (ja_cons (j_lst ja_nil) (ja_cons (j_lst ja_nil) (ja_cons (j_lst ja_nil) (ja_cons (j_lst ja_nil) ja_nil))))))
    (jss_cons (js_for PassesOwn.never rfl (ji_any (K := K) (j_slice (o_slA (K := K)) (jn 0) (jo_some j_int) (jo_some j_int))) (jg_name (i := 5) sc.nd rfl (Or.inl rfl))
    (jss_cons (js_asg (j_def D__law_row (hr.mono (by decide)) rfl (ja_cons (jn 5) (ja_cons (jn 1) (ja_cons (j_callB (c_len (K := K)) rfl T.n_len PySem.boot_len (ja_cons (j_ix (o_ix hu (K := K) (w := w)) (jn 4) j_int) ja_nil)) (ja_cons (j_callB (c_len (K := K)) rfl T.n_len PySem.boot_len (ja_cons (j_ix (o_ix hu (K := K) (w := w)) (jn 4) j_int) ja_nil)) ja_nil))))) (jg_tup (K := K) (n := 4) rfl (jgs_cons (jg_name (i := 6) sc.nd rfl (Or.inl rfl)) (jgs_cons (jg_name (i := 7) sc.nd rfl (Or.inl rfl)) (jgs_cons (jg_name (i := 8) sc.nd rfl (Or.inl rfl)) (jgs_cons (jg_name (i := 9) sc.nd rfl (Or.inl rfl)) jgs_nil))))))
    (jss_one (js_if (jt_cmp o_lt (j_op (o_add (K := K)) (jn 3) (j_callB (c_len (K := K)) rfl T.n_len PySem.boot_len (ja_cons (jn 6) ja_nil))) j_int)
    (jss_cons (js_set (i := 3) sc.nd rfl (Or.inl rfl) (j_op (o_add (K := K)) (j_op (o_add (K := K)) (jn 3) (j_callB (c_len (K := K)) rfl T.n_len PySem.boot_len (ja_cons (jn 6) ja_nil))) j_int))
    (jss_cons (js_expr (j_bm (K := K) PySem.F.plainAttrs_list PySem.F.slot_list_append PySem.F.type_list_append m_append (jn 2) (ja_cons (jn 6) ja_nil)))
    (jss_cons (js_if (jt_cmp o_lt (jn 7) j_int)
    (jss_one (js_expr (j_bm (K := K) PySem.F.plainAttrs_list PySem.F.slot_list_append PySem.F.type_list_append m_append (j_ix (o_ix hu (K := K) (w := w)) (jn 4) (jn 7)) (ja_cons (jn 8) ja_nil))))
    jss_nil)
    (jss_one (js_if (jt_cmp (o_eq hu (K := K)) (jn 7) j_int)
    (jss_one (js_expr (j_bm (K := K) PySem.F.plainAttrs_list PySem.F.slot_list_append PySem.F.type_list_append m_append (j_ix (o_ix hu (K := K) (w := w)) (jn 4) j_int) (ja_cons (jn 9) ja_nil))))
    jss_nil)))))
    jss_nil))))
    (jss_one (js_ret (j_tup (ja_cons (j_bm (K := K) PySem.F.plainAttrs_str PySem.F.slot_str_join PySem.F.type_str_join (m_join (K := K)) j_str (ja_cons (jn 2) ja_nil)) (ja_cons (jn 4) ja_nil))))))))), ?_⟩
    refine ⟨(show 0 ≤ sizeLine by decide), fun ra hra => ?_⟩
    have s0 : Same H (upd H ra (.lst [])) := same_new hra
    have h0 : upd H ra (.lst []) ra = some (.lst []) := upd_same
    generalize upd H ra (.lst []) = H0 at s0 h0 ⊢
    refine ⟨(show 0 ≤ sizeLine by decide), fun b1 hb1 => ?_⟩
    have s1 : Same H0 (upd H0 b1 (.lst [])) := same_new hb1
    have h1 : upd H0 b1 (.lst []) b1 = some (.lst []) := upd_same
    generalize upd H0 b1 (.lst []) = H1 at s1 h1 ⊢
    refine ⟨(show 0 ≤ sizeLine by decide), fun b2 hb2 => ?_⟩
    have s2 : Same H1 (upd H1 b2 (.lst [])) := same_new hb2
    have h2 : upd H1 b2 (.lst []) b2 = some (.lst []) := upd_same
    generalize upd H1 b2 (.lst []) = H2 at s2 h2 ⊢
    refine ⟨(show 0 ≤ sizeLine by decide), fun b3 hb3 => ?_⟩
    have s3 : Same H2 (upd H2 b3 (.lst [])) := same_new hb3
    have h3 : upd H2 b3 (.lst []) b3 = some (.lst []) := upd_same
    generalize upd H2 b3 (.lst []) = H3 at s3 h3 ⊢
    refine ⟨(show 0 ≤ sizeLine by decide), fun b4 hb4 => ?_⟩
    have s4 : Same H3 (upd H3 b4 (.lst [])) := same_new hb4
    have h4 : upd H3 b4 (.lst []) b4 = some (.lst []) := upd_same
    generalize upd H3 b4 (.lst []) = H4 at s4 h4 ⊢
    refine ⟨(show 4 ≤ sizeLine by decide), fun td htd => ?_⟩
    have s5 : Same H4 (upd H4 td (.tup [.ref b1, .ref b2, .ref b3, .ref b4])) := same_new htd
    have h5 : upd H4 td (.tup [.ref b1, .ref b2, .ref b3, .ref b4]) td = some (.tup [.ref b1, .ref b2, .ref b3, .ref b4]) := upd_same
    generalize upd H4 td (.tup [.ref b1, .ref b2, .ref b3, .ref b4]) = H5 at s5 h5 ⊢
    have n1r : b1 ≠ ra := fun z => by rw [z, h0] at hb1; cases hb1
    have n2r : b2 ≠ ra := fun z => by rw [z, s1 _ _ h0] at hb2; cases hb2
    have n3r : b3 ≠ ra := fun z => by rw [z, s2 _ _ (s1 _ _ h0)] at hb3; cases hb3
    have n4r : b4 ≠ ra := fun z => by rw [z, s3 _ _ (s2 _ _ (s1 _ _ h0))] at hb4; cases hb4
    have n21 : b2 ≠ b1 := fun z => by rw [z, h1] at hb2; cases hb2
    have n31 : b3 ≠ b1 := fun z => by rw [z, s2 _ _ h1] at hb3; cases hb3
    have n32 : b3 ≠ b2 := fun z => by rw [z, h2] at hb3; cases hb3
    have n41 : b4 ≠ b1 := fun z => by rw [z, s3 _ _ (s2 _ _ h1)] at hb4; cases hb4
    have n42 : b4 ≠ b2 := fun z => by rw [z, s3 _ _ h2] at hb4; cases hb4
    have n43 : b4 ≠ b3 := fun z => by rw [z, h3] at hb4; cases hb4
    have k1 : H b1 = none := s0.free hb1
    have k2 : H b2 = none := (s0.trans s1).free hb2
    have k3 : H b3 = none := ((s0.trans s1).trans s2).free hb3
    have k4 : H b4 = none := (((s0.trans s1).trans s2).trans s3).free hb4
    have s05 : Same H H5 := ((((s0.trans s1).trans s2).trans s3).trans s4).trans s5
    have F0 : Four K (rem [ra] H5) b1 b2 b3 b4 [] [] [] [] [] := by
      refine ⟨?_, ?_, ?_, ?_, .nil, .nil, .nil, .nil⟩
      · rw [rem_out (by simp [n1r])]; exact s5 _ _ (s4 _ _ (s3 _ _ (s2 _ _ h1)))
      · rw [rem_out (by simp [n2r])]; exact s5 _ _ (s4 _ _ (s3 _ _ h2))
      · rw [rem_out (by simp [n3r])]; exact s5 _ _ (s4 _ _ h3)
      · rw [rem_out (by simp [n4r])]; exact s5 _ _ h4
    have hr5 : H5 ra = some (.lst []) := s5 _ _ (s4 _ _ (s3 _ _ (s2 _ _ (s1 _ _ h0))))
    clear s0 s1 s2 s3 s4 s5 h0 h1 h2 h3 h4 hb1 hb2 hb3 hb4
    obtain ⟨ms, ems, hms⟩ := cut48 ns
    refine .inl ⟨_, s05.seq hS, fun p6 hp6 => ?_⟩
    rw [ems]
    have s6 : Same H5 (upd H5 p6 (.lst (ms.map V.int))) := same_new hp6
    have h6 : upd H5 p6 (.lst (ms.map V.int)) p6 = some (.lst (ms.map V.int)) := upd_same
    obtain ⟨n60, n61, n62, n63, n64⟩ := nin5 (notNone (five F0 hr5) hp6)
    generalize upd H5 p6 (.lst (ms.map V.int)) = H6 at s6 h6 ⊢
    refine .inl ⟨⟨_, SqL.of h6⟩, ?_⟩
    refine for_list (K := K) (a := p6) (xs := ms.map V.int) (fun i σ H' => ∃ (l1 l2 l3 l4 : List V) (rows : List GRow) (sz : Nat) (v5 v6 v7 v8 v9 : Option V), Same H H' ∧ H' p6 = some (.lst (ms.map V.int)) ∧ H' ra = some (.lst (rows.map fun r => V.str (S r.txt))) ∧ H' td = some (.tup [.ref b1, .ref b2, .ref b3, .ref b4]) ∧ Four K (rem [ra] H') b1 b2 b3 b4 l1 l2 l3 l4 rows ∧ LRows c0 rows ∧ rows.length ≤ i ∧
        σ = [some (.ref a), some (.ref na), some (.ref ra), some (.int (sz : Nat)), some (.ref td), v5, v6, v7, v8, v9])
      ⟨[], [], [], [], [], 0, none, none, none, none, none, s05.trans s6, h6, s6 _ _ hr5, s6 _ _ h5, F0.same (rem_le s6), LRows.nil c0, Nat.le_refl _, rfl⟩ (fun i σ H' _ h => by obtain ⟨l1, l2, l3, l4, rows, sz, v5, v6, v7, v8, v9, _, hh, _⟩ := h; exact SqL.of hh) ?_ ?_
    · rintro i x σ H' hi ⟨l1, l2, l3, l4, rows, sz, v5, v6, v7, v8, v9, sm, hP, hR, hT, F, L, hrl, rfl⟩
      rw [List.getElem?_map] at hi
      cases er : ms[i]? with
      | none => rw [er] at hi; cases hi
      | some c =>
        rw [er] at hi
        have ex : x = .int c := (Option.some.inj hi).symm
        subst ex
        have hi48 : i < 48 := by have := (List.getElem?_eq_some_iff.mp er).1; omega
        have e1 : l1.length = (rows.flatMap gBook).length := by have := F.d1.length; rw [List.length_map] at this; exact this
        have e3 : l3.length = (rows.flatMap gEnd).length := by have := F.d3.length; rw [List.length_map] at this; exact this
        have hb1' := rem_same _ _ F.h1
        have hb3' := rem_same _ _ F.h3
        refine .inr ⟨_, .ref b1, SqT.of hT, atI_nat (j := 0) rfl, ?_⟩
        refine ⟨_, .inl (SqL.of hb1'), ?_⟩
        refine .inr ⟨_, .ref b3, SqT.of hT, atI_nat (j := 2) rfl, ?_⟩
        refine ⟨_, .inl (SqL.of hb3'), ?_⟩
        refine ⟨c, c0, na, l1.length, l3.length, rfl, sm _ _ hN, ?_, ?_, ?_, ?_⟩
        · intro H7 t tt fa fv k ps r hmf s7 ht htt hfa hfn hD hrk rok
          have hlen := txt_bd (rok)
          have hR7 := s7 _ _ hR
          have F7 := F.same (rem_le (cs := [ra]) s7)
          have sm7 := sm.trans s7
          have hT7 := s7 _ _ hT
          have hP7 := s7 _ _ hP
          have L5 := five F7 hR7
          obtain ⟨nt0, nt1, nt2, nt3, nt4⟩ := nin5 (notTup L5 hT7)
          have hLr : Lsts H7 [ra] := fun c hc => by rw [List.mem_singleton.mp hc]; exact ⟨_, hR7⟩
          refine ⟨t, _, rfl, SqT.of ht, rfl, _, _, rfl, _, _, rfl, _, _, rfl, _, _, rfl, rfl, ?_⟩
          refine ⟨by rw [S_len]; omega, ?_⟩
          rw [S_len]
          show if decide (((sz : Nat) : Int) + ((r.txt.length : Nat) : Int) < 3900) = true then _ else _
          refine ite2 (fun h => ?_) (fun h => ?_)
          · refine ⟨by rw [S_len]; omega, ?_⟩
            rw [S_len]
            refine ⟨.inl ⟨rfl, _, SqL.of hR7⟩, _, hR7, by rw [List.length_map]; omega, ?_⟩
            have eR : (rows.map fun r => V.str (S r.txt)) ++ [V.str (S r.txt)] = (rows ++ [r]).map fun r => V.str (S r.txt) := by rw [List.map_append]; rfl
            rw [eR]
            have u8 : ∀ b u, b ≠ ra → H7 b = some u → upd H7 ra (.lst ((rows ++ [r]).map fun r => V.str (S r.txt))) b = some u := fun b u z e => by rw [upd_ne z]; exact e
            have h8 : upd H7 ra (.lst ((rows ++ [r]).map fun r => V.str (S r.txt))) ra = some (.lst ((rows ++ [r]).map fun r => V.str (S r.txt))) := upd_same
            have eG : rem [ra] (upd H7 ra (.lst ((rows ++ [r]).map fun r => V.str (S r.txt)))) = rem [ra] H7 := rem_upd_in List.mem_cons_self
            generalize upd H7 ra (.lst ((rows ++ [r]).map fun r => V.str (S r.txt))) = H8 at u8 h8 eG ⊢
            have sm8 : Same H H8 := fun b u e => u8 b u (fun z => by rw [z, hra] at e; cases e) (sm7 _ _ e)
            have esz : ((sz : Nat) : Int) + ((r.txt.length : Nat) : Int) + 1 = ((sz + r.txt.length + 1 : Nat) : Int) := by omega
            have hb18 := u8 _ _ n1r (rem_same _ _ F7.h1)
            refine .inr ⟨_, .ref b1, SqT.of (u8 _ _ nt0 hT7), atI_nat (j := 0) rfl, ?_⟩
            refine ⟨.inl ⟨rfl, _, SqL.of hb18⟩, _, hb18, by omega, ?_⟩
            have nfa := notNone (five F hR) hfn
            obtain ⟨fa0, fa1, _, _, _⟩ := nin5 nfa
            obtain ⟨tt0, tt1, _, _, _⟩ := nin5 (notTup L5 htt)
            have eG9 : rem [ra] (upd H8 b1 (.lst (l1 ++ [.ref tt]))) = upd (rem [ra] H7) b1 (.lst (l1 ++ [.ref tt])) := by rw [rem_upd_out (by simp [n1r]), eG]
            have hc9 : Lsts (upd (rem [ra] H7) b1 (.lst (l1 ++ [.ref tt]))) [b1, b2, b3, b4] := lsts_upd F7.lsts
            have hcb : Lsts (rem [ra] H7) [b1] := fun c hc => by rw [List.mem_singleton.mp hc]; exact ⟨_, F7.h1⟩
            have hd9 : DatV K (rem [b1, b2, b3, b4] (upd (rem [ra] H7) b1 (.lst (l1 ++ [.ref tt])))) (.ref tt) (bDat (k, ps)) := by
              refine form_dat (fv := fv) hc9 (fun m => nfa (List.mem_cons_of_mem _ m)) ?_ ?_ ((parts_rem hcb (parts_rem hLr hD)).same same_upd)
              · rw [upd_ne tt1, rem1 tt0]; exact htt
              · rw [upd_ne fa1, rem1 fa0]; exact hfa
            have F9 : Four K (rem [ra] (upd H8 b1 (.lst (l1 ++ [.ref tt])))) b1 b2 b3 b4 (l1 ++ [.ref tt]) l2 l3 l4 (rows ++ [r]) := by
              rw [eG9]
              rcases hrk with ⟨e, ek⟩ | e
              · subst e; subst ek; exact F7.put1 n21 n31 n41 same_upd upd_same rfl rfl rfl hd9
              · subst e; exact F7.put1 n21 n31 n41 same_upd upd_same rfl rfl rfl hd9
            have L9 : LRows c0 (rows ++ [r]) := by
              rcases hrk with ⟨e, ek⟩ | e
              · subst e; exact L.add rok (by show _ + 1 ≤ 24; omega) (.inl rfl) (fun q hq => by cases hq)
              · subst e; exact L.add rok (by show _ + 1 ≤ 24; omega) (.inl rfl) (fun q hq => by cases hq)
            have u9 : ∀ b u, b ≠ b1 → H8 b = some u → upd H8 b1 (.lst (l1 ++ [.ref tt])) b = some u := fun b u z e => by rw [upd_ne z]; exact e
            exact ⟨l1 ++ [.ref tt], l2, l3, l4, rows ++ [r], sz + r.txt.length + 1, _, _, _, _, _, fun b u e => u9 b u (fun z => by rw [z, k1] at e; cases e) (sm8 _ _ e), u9 _ _ n61 (u8 _ _ n60 hP7), u9 _ _ n1r.symm h8, u9 _ _ nt1 (u8 _ _ nt0 hT7), F9, L9, by rw [List.length_append]; show _ + 1 ≤ _; omega, by rw [← esz]; rfl⟩
          · exact ⟨l1, l2, l3, l4, rows, sz, _, _, _, _, _, sm7, hP7, hR7, hT7, F7, L, by omega, rfl⟩
        · intro H7 t tt d hme hd s7 ht htt
          obtain ⟨r, er'⟩ : ∃ r : GRow, r = .fin (nm12 c0 l3.length) d := ⟨_, rfl⟩
          have rok : r.Ok := by rw [er']; exact ⟨nm12_ok _ _, hd⟩
          rw [← er'] at ht
          have hlen := txt_bd (rok)
          have hR7 := s7 _ _ hR
          have F7 := F.same (rem_le (cs := [ra]) s7)
          have sm7 := sm.trans s7
          have hT7 := s7 _ _ hT
          have hP7 := s7 _ _ hP
          have L5 := five F7 hR7
          obtain ⟨nt0, nt1, nt2, nt3, nt4⟩ := nin5 (notTup L5 hT7)
          have hLr : Lsts H7 [ra] := fun c hc => by rw [List.mem_singleton.mp hc]; exact ⟨_, hR7⟩
          refine ⟨t, _, rfl, SqT.of ht, rfl, _, _, rfl, _, _, rfl, _, _, rfl, _, _, rfl, rfl, ?_⟩
          refine ⟨by rw [S_len]; omega, ?_⟩
          rw [S_len]
          show if decide (((sz : Nat) : Int) + ((r.txt.length : Nat) : Int) < 3900) = true then _ else _
          refine ite2 (fun h => ?_) (fun h => ?_)
          · refine ⟨by rw [S_len]; omega, ?_⟩
            rw [S_len]
            refine ⟨.inl ⟨rfl, _, SqL.of hR7⟩, _, hR7, by rw [List.length_map]; omega, ?_⟩
            have eR : (rows.map fun r => V.str (S r.txt)) ++ [V.str (S r.txt)] = (rows ++ [r]).map fun r => V.str (S r.txt) := by rw [List.map_append]; rfl
            rw [eR]
            have u8 : ∀ b u, b ≠ ra → H7 b = some u → upd H7 ra (.lst ((rows ++ [r]).map fun r => V.str (S r.txt))) b = some u := fun b u z e => by rw [upd_ne z]; exact e
            have h8 : upd H7 ra (.lst ((rows ++ [r]).map fun r => V.str (S r.txt))) ra = some (.lst ((rows ++ [r]).map fun r => V.str (S r.txt))) := upd_same
            have eG : rem [ra] (upd H7 ra (.lst ((rows ++ [r]).map fun r => V.str (S r.txt)))) = rem [ra] H7 := rem_upd_in List.mem_cons_self
            generalize upd H7 ra (.lst ((rows ++ [r]).map fun r => V.str (S r.txt))) = H8 at u8 h8 eG ⊢
            have sm8 : Same H H8 := fun b u e => u8 b u (fun z => by rw [z, hra] at e; cases e) (sm7 _ _ e)
            have esz : ((sz : Nat) : Int) + ((r.txt.length : Nat) : Int) + 1 = ((sz + r.txt.length + 1 : Nat) : Int) := by omega
            have hb38 := u8 _ _ n3r (rem_same _ _ F7.h3)
            refine .inr ⟨_, .ref b3, SqT.of (u8 _ _ nt0 hT7), atI_nat (j := 2) rfl, ?_⟩
            refine ⟨.inl ⟨rfl, _, SqL.of hb38⟩, _, hb38, by omega, ?_⟩
            obtain ⟨tt0, _, _, tt3, _⟩ := nin5 (notTup L5 htt)
            have eG9 : rem [ra] (upd H8 b3 (.lst (l3 ++ [.ref tt]))) = upd (rem [ra] H7) b3 (.lst (l3 ++ [.ref tt])) := by rw [rem_upd_out (by simp [n3r]), eG]
            have hc9 : Lsts (upd (rem [ra] H7) b3 (.lst (l3 ++ [.ref tt]))) [b1, b2, b3, b4] := lsts_upd F7.lsts
            have hd9 : DatV K (rem [b1, b2, b3, b4] (upd (rem [ra] H7) b3 (.lst (l3 ++ [.ref tt])))) (.ref tt) (eDat (nm12 c0 l3.length, d)) := by
              refine end_dat hc9 ?_
              rw [upd_ne tt3, rem1 tt0]; exact htt
            have F9 : Four K (rem [ra] (upd H8 b3 (.lst (l3 ++ [.ref tt])))) b1 b2 b3 b4 l1 l2 (l3 ++ [.ref tt]) l4 (rows ++ [r]) := by
              rw [eG9]
              exact F7.put3 n31.symm n32.symm n43 same_upd upd_same (by rw [er']; rfl) (by rw [er']; rfl) (by rw [er']; rfl) hd9
            have L9 : LRows c0 (rows ++ [r]) := L.add rok (by rw [er']; exact L.nb) (.inr ⟨by omega, d, by rw [er', ← e3]; rfl⟩) (fun q hq => by rw [er'] at hq; cases hq)
            have u9 : ∀ b u, b ≠ b3 → H8 b = some u → upd H8 b3 (.lst (l3 ++ [.ref tt])) b = some u := fun b u z e => by rw [upd_ne z]; exact e
            exact ⟨l1, l2, l3 ++ [.ref tt], l4, rows ++ [r], sz + r.txt.length + 1, _, _, _, _, _, fun b u e => u9 b u (fun z => by rw [z, k3] at e; cases e) (sm8 _ _ e), u9 _ _ n63 (u8 _ _ n60 hP7), u9 _ _ n3r.symm h8, u9 _ _ nt3 (u8 _ _ nt0 hT7), F9, L9, by rw [List.length_append]; show _ + 1 ≤ _; omega, by rw [← esz]; rfl⟩
          · exact ⟨l1, l2, l3, l4, rows, sz, _, _, _, _, _, sm7, hP7, hR7, hT7, F7, L, by omega, rfl⟩
        · intro H7 t tr tp tn g s7 ht htr htp htn gN
          obtain ⟨r, er'⟩ : ∃ r : GRow, r = .rule g := ⟨_, rfl⟩
          have rok : r.Ok := by rw [er']; exact gN.1
          rw [← er'] at ht
          have hlen := txt_bd (rok)
          have hR7 := s7 _ _ hR
          have F7 := F.same (rem_le (cs := [ra]) s7)
          have sm7 := sm.trans s7
          have hT7 := s7 _ _ hT
          have hP7 := s7 _ _ hP
          have L5 := five F7 hR7
          obtain ⟨nt0, nt1, nt2, nt3, nt4⟩ := nin5 (notTup L5 hT7)
          have hLr : Lsts H7 [ra] := fun c hc => by rw [List.mem_singleton.mp hc]; exact ⟨_, hR7⟩
          refine ⟨t, _, rfl, SqT.of ht, rfl, _, _, rfl, _, _, rfl, _, _, rfl, _, _, rfl, rfl, ?_⟩
          refine ⟨by rw [S_len]; omega, ?_⟩
          rw [S_len]
          show if decide (((sz : Nat) : Int) + ((r.txt.length : Nat) : Int) < 3900) = true then _ else _
          refine ite2 (fun h => ?_) (fun h => ?_)
          · refine ⟨by rw [S_len]; omega, ?_⟩
            rw [S_len]
            refine ⟨.inl ⟨rfl, _, SqL.of hR7⟩, _, hR7, by rw [List.length_map]; omega, ?_⟩
            have eR : (rows.map fun r => V.str (S r.txt)) ++ [V.str (S r.txt)] = (rows ++ [r]).map fun r => V.str (S r.txt) := by rw [List.map_append]; rfl
            rw [eR]
            have u8 : ∀ b u, b ≠ ra → H7 b = some u → upd H7 ra (.lst ((rows ++ [r]).map fun r => V.str (S r.txt))) b = some u := fun b u z e => by rw [upd_ne z]; exact e
            have h8 : upd H7 ra (.lst ((rows ++ [r]).map fun r => V.str (S r.txt))) ra = some (.lst ((rows ++ [r]).map fun r => V.str (S r.txt))) := upd_same
            have eG : rem [ra] (upd H7 ra (.lst ((rows ++ [r]).map fun r => V.str (S r.txt)))) = rem [ra] H7 := rem_upd_in List.mem_cons_self
            generalize upd H7 ra (.lst ((rows ++ [r]).map fun r => V.str (S r.txt))) = H8 at u8 h8 eG ⊢
            have sm8 : Same H H8 := fun b u e => u8 b u (fun z => by rw [z, hra] at e; cases e) (sm7 _ _ e)
            have esz : ((sz : Nat) : Int) + ((r.txt.length : Nat) : Int) + 1 = ((sz + r.txt.length + 1 : Nat) : Int) := by omega
            have e2 : l2.length ≤ 60 := by
              have h1 := F7.d2.length
              have h2 := gRules_len rows
              rw [List.length_map] at h1
              omega
            have e4 : l4.length ≤ 60 := by
              have h1 := F7.d4.length
              have h2 := gRules_len rows
              rw [List.length_map] at h1
              omega
            have hb28 := u8 _ _ n2r (rem_same _ _ F7.h2)
            refine .inr ⟨_, .ref b2, SqT.of (u8 _ _ nt0 hT7), atI_nat (j := 1) rfl, ?_⟩
            refine ⟨.inl ⟨rfl, _, SqL.of hb28⟩, _, hb28, by omega, ?_⟩
            have u9 : ∀ b u, b ≠ b2 → H8 b = some u → upd H8 b2 (.lst (l2 ++ [.ref tr])) b = some u := fun b u z e => by rw [upd_ne z]; exact e
            have h9 : upd H8 b2 (.lst (l2 ++ [.ref tr])) b2 = some (.lst (l2 ++ [.ref tr])) := upd_same
            have eG9 : rem [ra] (upd H8 b2 (.lst (l2 ++ [.ref tr]))) = upd (rem [ra] H7) b2 (.lst (l2 ++ [.ref tr])) := by rw [rem_upd_out (by simp [n2r]), eG]
            generalize upd H8 b2 (.lst (l2 ++ [.ref tr])) = H9 at u9 h9 eG9 ⊢
            have hb49 := u9 _ _ n42 (u8 _ _ n4r (rem_same _ _ F7.h4))
            refine .inr ⟨_, .ref b4, SqT.of (u9 _ _ nt2 (u8 _ _ nt0 hT7)), atI_nat (j := 3) rfl, ?_⟩
            refine ⟨.inl ⟨rfl, _, SqL.of hb49⟩, _, hb49, by omega, ?_⟩
            have u10 : ∀ b u, b ≠ b4 → H9 b = some u → upd H9 b4 (.lst (l4 ++ [.ref tn])) b = some u := fun b u z e => by rw [upd_ne z]; exact e
            have eG10 : rem [ra] (upd H9 b4 (.lst (l4 ++ [.ref tn]))) = upd (upd (rem [ra] H7) b2 (.lst (l2 ++ [.ref tr]))) b4 (.lst (l4 ++ [.ref tn])) := by rw [rem_upd_out (by simp [n4r]), eG9]
            have uG : ∀ y u, y ∉ [b2, b4] → rem [ra] H7 y = some u → upd (upd (rem [ra] H7) b2 (.lst (l2 ++ [.ref tr]))) b4 (.lst (l4 ++ [.ref tn])) y = some u := fun y u z e => by
              simp at z
              rw [upd_ne z.2, upd_ne z.1]; exact e
            have g2 : upd (upd (rem [ra] H7) b2 (.lst (l2 ++ [.ref tr]))) b4 (.lst (l4 ++ [.ref tn])) b2 = some (.lst (l2 ++ [.ref tr])) := by rw [upd_ne n42.symm, upd_same]
            have g4 : upd (upd (rem [ra] H7) b2 (.lst (l2 ++ [.ref tr]))) b4 (.lst (l4 ++ [.ref tn])) b4 = some (.lst (l4 ++ [.ref tn])) := upd_same
            have n1 : b1 ∉ [b2, b4] := by simp [n21.symm, n41.symm]
            have n3 : b3 ∉ [b2, b4] := by simp [n32, n43.symm]
            have hc10 : Lsts (upd (upd (rem [ra] H7) b2 (.lst (l2 ++ [.ref tr]))) b4 (.lst (l4 ++ [.ref tn]))) [b1, b2, b3, b4] := lsts_upd (lsts_upd F7.lsts)
            have tu : ∀ y o, H7 y = some (.tup o) → upd (upd (rem [ra] H7) b2 (.lst (l2 ++ [.ref tr]))) b4 (.lst (l4 ++ [.ref tn])) y = some (.tup o) := fun y o ey => by
              obtain ⟨m0, _, m2, _, m4⟩ := nin5 (notTup L5 ey)
              rw [upd_ne m4, upd_ne m2, rem1 m0]; exact ey
            have F10 : Four K (rem [ra] (upd H9 b4 (.lst (l4 ++ [.ref tn])))) b1 b2 b3 b4 l1 (l2 ++ [.ref tr]) l3 (l4 ++ [.ref tn]) (rows ++ [r]) := by
              rw [eG10]
              exact F7.put24 uG n1 n3 g2 g4 (x := g) (by rw [er']; rfl) (by rw [er']; rfl) (by rw [er']; rfl) (rule_dat hc10 (tu _ _ htr) (tu _ _ htp)) (note_dat hc10 (tu _ _ htn))
            have L9 : LRows c0 (rows ++ [r]) := L.add rok (by rw [er']; exact L.nb) (.inl (by rw [er']; rfl)) (fun q hq => by rw [er'] at hq; rw [show gRule (.rule g) = [g] from rfl] at hq; rw [List.mem_singleton.mp hq]; exact gN)
            exact ⟨l1, l2 ++ [.ref tr], l3, l4 ++ [.ref tn], rows ++ [r], sz + r.txt.length + 1, _, _, _, _, _, fun b u e => u10 b u (fun z => by rw [z, k4] at e; cases e) (u9 b u (fun z => by rw [z, k2] at e; cases e) (sm8 _ _ e)), u10 _ _ n64 (u9 _ _ n62 (u8 _ _ n60 hP7)), u10 _ _ n4r.symm (u9 _ _ n2r.symm h8), u10 _ _ nt4 (u9 _ _ nt2 (u8 _ _ nt0 hT7)), F10, L9, by rw [List.length_append]; show _ + 1 ≤ _; omega, by rw [← esz]; rfl⟩
          · exact ⟨l1, l2, l3, l4, rows, sz, _, _, _, _, _, sm7, hP7, hR7, hT7, F7, L, by omega, rfl⟩
        · intro H7 t s7 ht
          obtain ⟨r, er'⟩ : ∃ r : GRow, r = .emp := ⟨_, rfl⟩
          have rok : r.Ok := by rw [er']; trivial
          rw [← er'] at ht
          have hlen := txt_bd (rok)
          have hR7 := s7 _ _ hR
          have F7 := F.same (rem_le (cs := [ra]) s7)
          have sm7 := sm.trans s7
          have hT7 := s7 _ _ hT
          have hP7 := s7 _ _ hP
          have L5 := five F7 hR7
          obtain ⟨nt0, nt1, nt2, nt3, nt4⟩ := nin5 (notTup L5 hT7)
          have hLr : Lsts H7 [ra] := fun c hc => by rw [List.mem_singleton.mp hc]; exact ⟨_, hR7⟩
          refine ⟨t, _, rfl, SqT.of ht, rfl, _, _, rfl, _, _, rfl, _, _, rfl, _, _, rfl, rfl, ?_⟩
          refine ⟨by rw [S_len]; omega, ?_⟩
          rw [S_len]
          show if decide (((sz : Nat) : Int) + ((r.txt.length : Nat) : Int) < 3900) = true then _ else _
          refine ite2 (fun h => ?_) (fun h => ?_)
          · refine ⟨by rw [S_len]; omega, ?_⟩
            rw [S_len]
            refine ⟨.inl ⟨rfl, _, SqL.of hR7⟩, _, hR7, by rw [List.length_map]; omega, ?_⟩
            have eR : (rows.map fun r => V.str (S r.txt)) ++ [V.str (S r.txt)] = (rows ++ [r]).map fun r => V.str (S r.txt) := by rw [List.map_append]; rfl
            rw [eR]
            have u8 : ∀ b u, b ≠ ra → H7 b = some u → upd H7 ra (.lst ((rows ++ [r]).map fun r => V.str (S r.txt))) b = some u := fun b u z e => by rw [upd_ne z]; exact e
            have h8 : upd H7 ra (.lst ((rows ++ [r]).map fun r => V.str (S r.txt))) ra = some (.lst ((rows ++ [r]).map fun r => V.str (S r.txt))) := upd_same
            have eG : rem [ra] (upd H7 ra (.lst ((rows ++ [r]).map fun r => V.str (S r.txt)))) = rem [ra] H7 := rem_upd_in List.mem_cons_self
            generalize upd H7 ra (.lst ((rows ++ [r]).map fun r => V.str (S r.txt))) = H8 at u8 h8 eG ⊢
            have sm8 : Same H H8 := fun b u e => u8 b u (fun z => by rw [z, hra] at e; cases e) (sm7 _ _ e)
            have esz : ((sz : Nat) : Int) + ((r.txt.length : Nat) : Int) + 1 = ((sz + r.txt.length + 1 : Nat) : Int) := by omega
            have F9 : Four K (rem [ra] H8) b1 b2 b3 b4 l1 l2 l3 l4 (rows ++ [r]) := by rw [eG, er']; exact F7.emp
            have L9 : LRows c0 (rows ++ [r]) := L.add rok (by rw [er']; exact L.nb) (.inl (by rw [er']; rfl)) (fun q hq => by rw [er'] at hq; cases hq)
            exact ⟨l1, l2, l3, l4, rows ++ [r], sz + r.txt.length + 1, _, _, _, _, _, sm8, u8 _ _ n60 hP7, h8, u8 _ _ nt0 hT7, F9, L9, by rw [List.length_append]; show _ + 1 ≤ _; omega, by rw [← esz]; rfl⟩
          · exact ⟨l1, l2, l3, l4, rows, sz, _, _, _, _, _, sm7, hP7, hR7, hT7, F7, L, by omega, rfl⟩
    · rintro σ H' ⟨l1, l2, l3, l4, rows, sz, v5, v6, v7, v8, v9, sm, hP, hR, hT, F, L, hrl, rfl⟩
      rw [List.length_map] at hrl
      have hrow := L.rows
      refine ⟨rfl, rows.map fun r => S r.txt, by rw [List.map_map]; exact SqL.of hR, joinOk_of (B := 3000) (fun y hy => ?_) ?_, ?_⟩
      · obtain ⟨r, hr', rfl⟩ := List.mem_map.mp hy
        rw [S_len]; exact txt_bd (L.ok r hr')
      · rw [List.length_map]
        show rows.length * 3000 + rows.length * 1 ≤ _
        omega
      have ej : Txt.join (Str.ofString "\n") (rows.map fun r => S r.txt) = S (joinWith [10] (rows.map GRow.txt)) := by
        have := txtJoin_S [10] (rows.map GRow.txt)
        rw [List.map_map] at this
        exact this
      rw [ej]
      refine ⟨(show 2 ≤ sizeLine by decide), fun t ht => ?_⟩
      have s7 : Same H' (upd H' t (.tup [.str (S (joinWith [10] (rows.map GRow.txt))), .ref td])) := same_new ht
      exact q _ t td b1 b2 b3 b4 l1 l2 l3 l4 rows (sm.trans s7) upd_same (s7 _ _ hT) ((F.same rem_same).same s7) L (by omega)
end
end K80

set_option Elab.async false
set_option linter.all false
set_option maxRecDepth 100000
set_option maxHeartbeats 4000000




namespace K80
open PySem PySem.Spec PyProof.Rows L2 Rg
theorem splitOn_snoc (c : Nat) : ∀ t : List Nat, splitOn c (t ++ [c]) = splitOn c t ++ [[]]
  | [] => by
    show (if c = c then [] :: splitOn c [] else _) = _
    rw [if_pos rfl]; rfl
  | x :: r => by
    have ih := splitOn_snoc c r
    show (if x = c then [] :: splitOn c (r ++ [c]) else match splitOn c (r ++ [c]) with | [] => [[x]] | p :: ps => (x :: p) :: ps) = (if x = c then [] :: splitOn c r else match splitOn c r with | [] => [[x]] | p :: ps => (x :: p) :: ps) ++ [[]]
    by_cases h : x = c
    · rw [if_pos h, if_pos h, ih]; rfl
    · rw [if_neg h, if_neg h, ih]
      cases e : splitOn c r with
      | nil => exact absurd e (splitOn_ne c r)
      | cons p ps => rfl
def datG (rows : List GRow) : PyData := .tuple [.list ((rows.flatMap gBook).map bDat), .list ((rows.flatMap gRule).map GR.dat), .list ((rows.flatMap gEnd).map eDat), .list ((rows.flatMap gRule).map GR.nDat)]
theorem datG_emp (rows : List GRow) : datG (rows ++ [.emp]) = datG rows := by
  have e1 : (rows ++ [GRow.emp]).flatMap gBook = rows.flatMap gBook := by rw [List.flatMap_append, List.flatMap_singleton]; exact List.append_nil _
  have e2 : (rows ++ [GRow.emp]).flatMap gRule = rows.flatMap gRule := by rw [List.flatMap_append, List.flatMap_singleton]; exact List.append_nil _
  have e3 : (rows ++ [GRow.emp]).flatMap gEnd = rows.flatMap gEnd := by rw [List.flatMap_append, List.flatMap_singleton]; exact List.append_nil _
  unfold datG
  rw [e1, e2, e3]
theorem LRows.emp {c0 : Int} {rows : List GRow} (h : LRows c0 rows) : LRows c0 (rows ++ [.emp]) := h.add trivial h.nb (.inl rfl) (fun q hq => by cases hq)
theorem text_of {c0 : Int} {rows : List GRow} (h : LRows c0 rows) : ∃ rows', splitOn 10 (joinWith [10] (rows.map GRow.txt)) = rows'.map GRow.txt ∧ LRows c0 rows' ∧ datG rows' = datG rows ∧ rows'.length ≤ rows.length + 1 := by
  cases rows with
  | nil => exact ⟨[.emp], rfl, h.emp, rfl, Nat.le_refl _⟩
  | cons r rs => exact ⟨r :: rs, splitOn_join (by simp) (fun p hp => by obtain ⟨x, hx, rfl⟩ := List.mem_map.mp hp; exact txt_ten (h.ok x hx)), h, rfl, Nat.le_succ _⟩
theorem text_more {c0 : Int} {rows rows' : List GRow} {tx : List Nat} (h : splitOn 10 tx = rows'.map GRow.txt) (hL : LRows c0 rows') (hd : datG rows' = datG rows) : splitOn 10 (tx ++ [10]) = (rows' ++ [GRow.emp]).map GRow.txt ∧ LRows c0 (rows' ++ [GRow.emp]) ∧ datG (rows' ++ [GRow.emp]) = datG rows := by
  refine ⟨by rw [splitOn_snoc, h, List.map_append]; rfl, hL.emp, (datG_emp _).trans hd⟩
theorem gd_str (n : Nat) (x : Str) : GD (n + 1) (.str x) := .inl ⟨x, rfl⟩
theorem gd_int (n : Nat) (i : Int) : GD (n + 1) (.int i) := .inr (.inl ⟨i, rfl⟩)
theorem gd_list {n : Nat} {ds : List PyData} (h : ds.length ≤ 1000) (hd : ∀ e ∈ ds, GD n e) : GD (n + 1) (.list ds) := .inr (.inr ⟨ds, .inl rfl, h, hd⟩)
theorem gd_tup {n : Nat} {ds : List PyData} (h : ds.length ≤ 1000) (hd : ∀ e ∈ ds, GD n e) : GD (n + 1) (.tuple ds) := .inr (.inr ⟨ds, .inr rfl, h, hd⟩)
theorem gBook_ok {rows : List GRow} (h : ∀ r ∈ rows, r.Ok) : ∀ x ∈ rows.flatMap gBook, x.2.length ≤ 12 := fun x hx => by
  obtain ⟨r, hr, hq⟩ := List.mem_flatMap.mp hx
  cases r with
  | gap ps => rw [show gBook (.gap ps) = [([], ps)] from rfl] at hq; rw [List.mem_singleton.mp hq]; exact (h _ hr).2.2
  | word k ps => rw [show gBook (.word k ps) = [(k, ps)] from rfl] at hq; rw [List.mem_singleton.mp hq]; exact (h _ hr).2.2.2
  | rule q => cases hq
  | fin k d => cases hq
  | emp => cases hq
theorem datG_gd {c0 : Int} {rows : List GRow} (h : LRows c0 rows) (hl : rows.length ≤ 60) : GD 6 (datG rows) := by
  have hb := h.nb
  have he := h.ne
  have hr := gRules_len rows
  refine gd_tup (by simp) fun e hm => ?_
  simp at hm
  rcases hm with rfl | rfl | rfl | rfl
  · refine gd_list (by rw [List.length_map]; omega) fun e hm => ?_
    obtain ⟨x, hx, rfl⟩ := List.mem_map.mp hm
    have h12 := gBook_ok h.ok x hx
    refine gd_tup (by simp) fun e hm => ?_
    simp at hm
    rcases hm with rfl | rfl
    · exact gd_str _ _
    · refine gd_list (by rw [List.length_map]; omega) fun e hm => ?_
      obtain ⟨p, _, rfl⟩ := List.mem_map.mp hm
      refine gd_tup (by simp) fun e hm => ?_
      simp at hm
      rcases hm with rfl | rfl | rfl <;> exact gd_str _ _
  · refine gd_list (by rw [List.length_map]; omega) fun e hm => ?_
    obtain ⟨q, hq, rfl⟩ := List.mem_map.mp hm
    have h9 := (h.ru q hq).1.le
    refine gd_tup (by simp) fun e hm => ?_
    simp at hm
    rcases hm with rfl | rfl | rfl | rfl
    · exact gd_str _ _
    · exact gd_int _ _
    · exact gd_str _ _
    · refine gd_tup (by rw [List.length_map]; omega) fun e hm => ?_
      obtain ⟨l, _, rfl⟩ := List.mem_map.mp hm
      exact gd_str _ _
  · refine gd_list (by rw [List.length_map]; omega) fun e hm => ?_
    obtain ⟨x, hx, rfl⟩ := List.mem_map.mp hm
    refine gd_tup (by simp) fun e hm => ?_
    simp at hm
    rcases hm with rfl | rfl <;> exact gd_str _ _
  · refine gd_list (by rw [List.length_map]; omega) fun e hm => ?_
    obtain ⟨q, hq, rfl⟩ := List.mem_map.mp hm
    refine gd_tup (by simp) fun e hm => ?_
    simp at hm
    rcases hm with rfl | rfl <;> exact gd_int _ _
section
variable {P : Program} {w : World} {K : PySem.W.Frag} {mg : Str → Option Value} {base : Heap} {aN aD aS : Addr}
theorem Four.dat {H : Hp} {b1 b2 b3 b4 t : Addr} {l1 l2 l3 l4 : List V} {rows : List GRow} (F : Four K H b1 b2 b3 b4 l1 l2 l3 l4 rows) (h : H t = some (.tup [.ref b1, .ref b2, .ref b3, .ref b4])) : DatV K H (.ref t) (datG rows) :=
  .tuple (SqT.of h) (.cons (.list (SqL.of F.h1) (F.d1.same rem_same)) (.cons (.list (SqL.of F.h2) (F.d2.same rem_same)) (.cons (.list (SqL.of F.h3) (F.d3.same rem_same)) (.cons (.list (SqL.of F.h4) (F.d4.same rem_same)) .nil))))
def spLaw (K : PySem.W.Frag) : Sp := fun vs H Q _ => ∃ (a : Addr) (ns : List Int), vs = [.ref a] ∧ SqL K H a (ns.map V.int) ∧ ns.length ≤ 63 ∧ ∀ H', Q (.bl true) H'
abbrev st_law : Stmt := top 47
theorem sc_law : FnScope ["_law_script", "_law_names_here", "_law_text", "_law_due", "_law_found", "_law_told"] ["_law_script"] (defScope st_law) := ⟨rfl, rfl, rfl, by decide +kernel, rfl, by decide +kernel, by decide +kernel⟩
theorem def_law (R : Raw K mg "law" st_law ["_law_script"]) (T : Txt2 K w mg aN aD aS) (D__law_cell_at : Def P w K mg base 1 "_law_cell_at" ["_law_script", "_law_k"] (spCell K)) (D__law_names : Def P w K mg base 1 "_law_names" ["_law_cell", "_law_many"] (spNames K))
    (D__law_rows : Def P w K mg base 5 "_law_rows" ["_law_script", "_law_names_here"] (spRows K)) (D__law_same : Def P w K mg base 7 "_law_same" ["_law_found", "_law_due"] (spSame K 6)) (D_grammar_of : Def P w K mg base 5 "grammar_of" ["text"] (spGO K)) : Def P w K mg base 8 "law" ["_law_script"] (spLaw K) := by
  refine R.defJ sc_law (fun vs H Q E h => ?_) (fun f cdv A outer s H vs Q E hr h => ?_)
  · obtain ⟨a, ns, rfl, _⟩ := h
    rfl
  · obtain ⟨a, ns, rfl, hS, _, q⟩ := h
    have sc := sc_law
    have hu := hr.units
    have hb := big
    obtain ⟨u3, hP3, hq3⟩ : ∃ u, JSs (cxOf CX0 P w K mg base ["_law_script", "_law_names_here", "_law_text", "_law_due", "_law_found", "_law_told"] "law" (defScope st_law) f cdv A outer s H E).nox ((defBody st_law).drop 3) u ∧
        ∀ (H1 : Hp) (na td : Addr) (tx : List Nat) (c0 : Int) (rows rows' : List GRow), DatV K H1 (.ref td) (datG rows) → splitOn 10 tx = rows'.map GRow.txt → LRows c0 rows' → datG rows' = datG rows → rows'.length ≤ 60 → tx.length ≤ 300000 →
          u { nx := fun _ H' => Q .non H', rt := Q } [some (.ref a), some (.ref na), some (.str (S tx)), some (.ref td), none, none] H1 := by
      refine ⟨_, (jss_cons (js_set (i := 4) sc.nd rfl (Or.inl rfl) (j_def D_grammar_of (hr.mono (by decide)) rfl (ja_cons (jn 2) ja_nil)))
    (jss_cons (js_if (jt_not (jt_val (j_def D__law_same (hr.mono (by decide)) rfl (ja_cons (jn 4) (ja_cons (jn 3) ja_nil)))))
    (jss_one (js_ret j_bl))
    jss_nil)
    (jss_cons (js_for PassesOwn.never rfl (ji_any (K := K) (jn 4)) (jg_name (i := 5) sc.nd rfl (Or.inl rfl))
    (jss_one (js_expr (j_bm0 (K := K) PySem.F.plainAttrs_list PySem.F.slot_list_clear PySem.F.type_list_clear m_clear (jn 5)))))
    (jss_one (js_ret (j_def D__law_same (hr.mono (by decide)) rfl (ja_cons (j_def D_grammar_of (hr.mono (by decide)) rfl (ja_cons (jn 2) ja_nil)) (ja_cons (jn 3) ja_nil)))))))), ?_⟩
      intro H1 na td tx c0 rows rows' hD htx hL hd hl htl
      have gd : GD 6 (datG rows) := by rw [← hd]; exact datG_gd hL hl
      refine ⟨tx, rows', rfl, htx, htl, hl, hL.rows, fun H2 t b1 b2 b3 b4 l1 l2 l3 l4 s2 k1 k2 k3 k4 ht F => ?_⟩
      have hF := F.dat ht
      rw [hd] at hF
      refine ⟨.ref t, .ref td, datG rows, rfl, hF, hD.same s2, gd, fun H3 s3 => ?_⟩
      have ht3 := s3 _ _ ht
      have F3 := F.same s3
      have s13 : Same H1 (rem [b1, b2, b3, b4] H3) := fun x u e => by
        rw [rem_out fun m => ?_]
        · exact s3 _ _ (s2 _ _ e)
        · simp at m
          rcases m with rfl | rfl | rfl | rfl
          · rw [k1] at e; cases e
          · rw [k2] at e; cases e
          · rw [k3] at e; cases e
          · rw [k4] at e; cases e
      have hD3 := hD.same s13
      refine .inr ⟨⟨_, SqT.of ht3⟩, ?_⟩
      refine for_tup (K := K) (a := t) (xs := [.ref b1, .ref b2, .ref b3, .ref b4]) (fun i σ H4 => ∃ v5 : Option V, rem [b1, b2, b3, b4] H4 = rem [b1, b2, b3, b4] H3 ∧ Lsts H4 [b1, b2, b3, b4] ∧ σ = [some (.ref a), some (.ref na), some (.str (S tx)), some (.ref td), some (.ref t), v5])
        ⟨none, rfl, F3.lsts, rfl⟩ (fun i σ H4 _ h => ?_) ?_ ?_
      · obtain ⟨v5, e4, hl4, _⟩ := h
        have nt : t ∉ [b1, b2, b3, b4] := fun m => by obtain ⟨l, e⟩ := F3.lsts t m; rw [ht3] at e; cases e
        refine SqT.of ?_
        have := congrFun e4 t
        rw [rem_out nt, rem_out nt, ht3] at this
        exact this
      · rintro i x σ H4 hi ⟨v5, e4, hl4, rfl⟩
        have hx := List.mem_of_getElem? hi
        obtain ⟨b, hb, rfl⟩ : ∃ b, b ∈ [b1, b2, b3, b4] ∧ x = .ref b := by
          simp at hx
          rcases hx with rfl | rfl | rfl | rfl
          · exact ⟨b1, by simp, rfl⟩
          · exact ⟨b2, by simp, rfl⟩
          · exact ⟨b3, by simp, rfl⟩
          · exact ⟨b4, by simp, rfl⟩
        obtain ⟨l, e⟩ := hl4 b hb
        refine ⟨.inl ⟨rfl, _, SqL.of e⟩, l, e, ?_⟩
        refine ⟨_, by rw [rem_upd_in hb]; exact e4, fun c hc => ?_, rfl⟩
        by_cases z : c = b
        · rw [z]; exact ⟨_, upd_same⟩
        · obtain ⟨l', e'⟩ := hl4 c hc; exact ⟨l', by rw [upd_ne z]; exact e'⟩
      · rintro σ H4 ⟨v5, e4, hl4, rfl⟩
        have hD4 : DatV K H4 (.ref td) (datG rows) := by rw [← e4] at hD3; exact hD3.same rem_same
        refine ⟨tx, rows', rfl, htx, htl, hl, hL.rows, fun H5 t5 c1 c2 c3 c4 m1 m2 m3 m4 s5 _ _ _ _ ht5 F5 => ?_⟩
        have hF5 := F5.dat ht5
        rw [hd] at hF5
        exact ⟨.ref t5, .ref td, datG rows, rfl, hF5, hD4.same s5, gd, fun H6 s6 => q H6⟩
    refine ⟨_, (jss_cons (js_set (i := 1) sc.nd rfl (Or.inl rfl) (j_def D__law_names (hr.mono (by decide)) rfl (ja_cons (j_def D__law_cell_at (hr.mono (by decide)) rfl (ja_cons (jn 0) (ja_cons j_int ja_nil))) (ja_cons j_int ja_nil))))
    (jss_cons (js_asg (j_def D__law_rows (hr.mono (by decide)) rfl (ja_cons (jn 0) (ja_cons (jn 1) ja_nil))) (jg_tup (K := K) (n := 2) rfl (jgs_cons (jg_name (i := 2) sc.nd rfl (Or.inl rfl)) (jgs_cons (jg_name (i := 3) sc.nd rfl (Or.inl rfl)) jgs_nil))))
    (jss_cons (js_if (jt_cmp (o_eq hu (K := K)) (j_op o_mod (j_def D__law_cell_at (hr.mono (by decide)) rfl (ja_cons (jn 0) (ja_cons j_int ja_nil))) j_int) j_int)
    (jss_one (js_set (i := 2) sc.nd rfl (Or.inl rfl) (j_op (o_add (K := K)) (jn 2) j_str)))
    jss_nil)
    hP3))), ?_⟩
    refine ⟨a, ns, 0, rfl, hS, ?_⟩
    refine ⟨ns.getD 0 0, 26, rfl, by decide, fun H1 na s1 hna => ?_⟩
    refine ⟨a, na, ns, ns.getD 0 0, rfl, s1.seq hS, hna, fun H2 t td b1 b2 b3 b4 l1 l2 l3 l4 rows s2 ht htd F L hrl => ?_⟩
    refine ⟨t, _, rfl, SqT.of ht, rfl, _, _, rfl, _, _, rfl, rfl, ?_⟩
    obtain ⟨rows', e1, L1, d1, n1⟩ := text_of L
    have hjl : (joinWith [10] (rows.map GRow.txt)).length ≤ 200000 := by
      have := join_len10 (ps := rows.map GRow.txt) (B := 3000) fun p hp => by
        obtain ⟨x, hx, rfl⟩ := List.mem_map.mp hp
        exact txt_bd (L.ok x hx)
      rw [List.length_map] at this
      omega
    generalize joinWith [10] (rows.map GRow.txt) = tx at e1 hjl ⊢
    refine ⟨a, ns, 1, rfl, (s1.trans s2).seq hS, by decide, ?_⟩
    show if (false ^^ decide (ns.getD 1 0 % 2 = 1)) = true then _ else _
    rw [Bool.false_xor]
    refine ite2 (fun h => ?_) (fun h => ?_)
    · obtain ⟨e2, L2', d2⟩ := text_more e1 L1 d1
      refine ⟨by rw [S_len]; show _ + 1 ≤ sizeLine; omega, ?_⟩
      rw [show S tx ++ (Str.ofString "\n") = S (tx ++ [10]) from S_app tx [10]]
      exact hq3 H2 na td (tx ++ [10]) _ rows (rows' ++ [GRow.emp]) (F.dat htd) e2 L2' d2 (by rw [List.length_append]; show _ + 1 ≤ 60; omega) (by rw [List.length_append]; show _ + 1 ≤ 300000; omega)
    · exact hq3 H2 na td tx _ rows rows' (F.dat htd) e1 L1 d1 (by omega) (by omega)
variable {tD tM tR tN : Addr} {t1 t2 t3 : Tok}
theorem law_of (R_form_of : Raw K mg "form_of" st_form_of ["text"]) (R_may_write : Raw K mg "may_write" st_may_write ["sign"]) (R_part_of : Raw K mg "part_of" st_part_of ["text"]) (R_signs_of : Raw K mg "signs_of" st_signs_of ["text"])
    (R_grammar_of : Raw K mg "grammar_of" st_grammar_of ["text"]) (R_kind_at : Raw K mg "kind_at" st_kind_at ["words", "place"]) (R_is_kind : Raw K mg "is_kind" st_is_kind ["word"]) (R_put_form : Raw K mg "put_form" st_put_form ["book", "kind", "words"]) (R_put_end : Raw K mg "put_end" st_put_end ["ends", "words"])
    (R_rule_of : Raw K mg "rule_of" st_rule_of ["words"]) (R_is_rank : Raw K mg "is_rank" st_is_rank ["word"]) (R_bare_part : Raw K mg "bare_part" st_bare_part ["word"]) (R_note_of : Raw K mg "note_of" st_note_of ["words"]) (R_place_signed : Raw K mg "place_signed" st_place_signed ["words", "sign"]) (R_check_notes : Raw K mg "check_notes" st_check_notes ["rules", "notes"])
    (R__law_cell_at : Raw K mg "_law_cell_at" st__law_cell_at ["_law_script", "_law_k"]) (R__law_names : Raw K mg "_law_names" st__law_names ["_law_cell", "_law_many"]) (R__law_mixed : Raw K mg "_law_mixed" st__law_mixed ["_law_cell", "_law_k"]) (R__law_signs : Raw K mg "_law_signs" st__law_signs []) (R__law_written : Raw K mg "_law_written" st__law_written ["_law_sign"])
    (R__law_part : Raw K mg "_law_part" st__law_part ["_law_cell"]) (R__law_form : Raw K mg "_law_form" st__law_form ["_law_cell"]) (R__law_rule : Raw K mg "_law_rule" st__law_rule ["_law_cell", "_law_names_here"]) (R__law_same : Raw K mg "_law_same" st__law_same ["_law_found", "_law_due"])
    (R__law_row : Raw K mg "_law_row" st__law_row ["_law_cell", "_law_names_here", "_law_many_forms", "_law_many_ends"]) (R__law_rows : Raw K mg "_law_rows" st__law_rows ["_law_script", "_law_names_here"]) (R_law : Raw K mg "law" st_law ["_law_script"]) (T : Txt K w mg tD tM tR tN t1 t2 t3) (T2 : Txt2 K w mg aN aD aS) : Def P w K mg base 8 "law" ["_law_script"] (spLaw K) :=
  have Dk : Def P w K mg base 2 "kind_at" ["words", "place"] (spKA K) := def_kAt R_kind_at T2 (def_isK R_is_kind T2)
  have Df : Def P w K mg base 3 "form_of" ["text"] (spFO K) := def_formOf R_form_of T (def_may R_may_write T) (def_partOf R_part_of T (def_signs R_signs_of T))
  have Dg : Def P w K mg base 5 "grammar_of" ["text"] (spGO K) := def_go R_grammar_of T2 (def_cn R_check_notes T2) Dk (def_note R_note_of T2 (def_ps R_place_signed T2)) (def_pe R_put_end T2 Dk) (def_pf R_put_form T2 Df) (def_rule R_rule_of T2 Dk (def_rank R_is_rank T2) (def_bare R_bare_part T2))
  have Dm : Def P w K mg base 1 "_law_mixed" ["_law_cell", "_law_k"] spMixed := def_mixed R__law_mixed
  have Dr : Def P w K mg base 4 "_law_row" ["_law_cell", "_law_names_here", "_law_many_forms", "_law_many_ends"] (spRow K) := def_row R__law_row T2 (def_form R__law_form T2 Dm (def_part R__law_part T2 Dm (def_sg R__law_signs) (def_wr R__law_written))) (def_lr R__law_rule T2 Dm)
  def_law R_law T2 (def_cell R__law_cell_at T) (def_names R__law_names T2) (def_rows R__law_rows T2 Dr) (def_same R__law_same T2 6) Dg
end
end K80

open PySem PySem.W PyProof.Rows
set_option Elab.async false
set_option linter.all false
namespace L2
theorem ofLen0 {p : List Value → Prop} (h : Unit → p []) : ∀ us, us.length = 0 → p us := fun us e => by rw [List.length_eq_zero_iff.mp e]; exact h ()
theorem ofLen1 {p : List Value → Prop} (h : ∀ a, p [a]) : ∀ us, us.length = 1 → p us := fun us e => by obtain ⟨a, rfl⟩ := List.length_eq_one_iff.mp e; exact h a
theorem ofLen2 {p : List Value → Prop} (h : ∀ a b, p [a, b]) : ∀ us, us.length = 2 → p us := fun us e => match us with
  | [] => by cases e
  | a :: r => ofLen1 (p := fun z => p (a :: z)) (h a) r (Nat.succ.inj e)
theorem ofLen3 {p : List Value → Prop} (h : ∀ a b c, p [a, b, c]) : ∀ us, us.length = 3 → p us := fun us e => match us with
  | [] => by cases e
  | a :: r => ofLen2 (p := fun z => p (a :: z)) (h a) r (Nat.succ.inj e)
theorem ofLen4 {p : List Value → Prop} (h : ∀ a b c d, p [a, b, c, d]) : ∀ us, us.length = 4 → p us := fun us e => match us with
  | [] => by cases e
  | a :: r => ofLen3 (p := fun z => p (a :: z)) (h a) r (Nat.succ.inj e)
end L2
set_option maxRecDepth 100000 in
set_option maxHeartbeats 0 in
theorem PySem.Challenge.cw_regrowth_k80_grammars_read_holds : PySem.Challenge.rw_regrowth_k80_grammars_read.Holds := by
  w_on; o_law; k_head; (case hw => w_witness2)
  k_fill
  refine L2.walk_ofK (l := PySem.Challenge.rw_regrowth_k80_grammars_read) (n := 63) (k := 8) (x := "_law_script") (CX := L2.CX0) (sp := K80.spLaw) rfl (by decide) rfl ⟨rfl, by decide, by decide⟩ (fun w h Y => PySem.W.kIn_of Y) ?F ?S ?C
  case F =>
    intro w mg fa h KX G hmg
    have R0 : L2.Raw (L2.KOf KX) mg "form_of" K80.st_form_of ["text"] := by
      dsimp only [L2.KOf]
      refine' L2.Raw.mk' KX G ?a0 ?l0 ?c0 ?k0 ?b0
      (case a0 => k_is)
      (case l0 => k_is)
      (case c0 => k_is)
      (case k0 => k_is)
      exact L2.ofLen1 fun _ => rfl
    have R1 : L2.Raw (L2.KOf KX) mg "may_write" K80.st_may_write ["sign"] := by
      dsimp only [L2.KOf]
      refine' L2.Raw.mk' KX G ?a1 ?l1 ?c1 ?k1 ?b1
      (case a1 => k_is)
      (case l1 => k_is)
      (case c1 => k_is)
      (case k1 => k_is)
      exact L2.ofLen1 fun _ => rfl
    have R2 : L2.Raw (L2.KOf KX) mg "part_of" K80.st_part_of ["text"] := by
      dsimp only [L2.KOf]
      refine' L2.Raw.mk' KX G ?a2 ?l2 ?c2 ?k2 ?b2
      (case a2 => k_is)
      (case l2 => k_is)
      (case c2 => k_is)
      (case k2 => k_is)
      exact L2.ofLen1 fun _ => rfl
    have R3 : L2.Raw (L2.KOf KX) mg "signs_of" K80.st_signs_of ["text"] := by
      dsimp only [L2.KOf]
      refine' L2.Raw.mk' KX G ?a3 ?l3 ?c3 ?k3 ?b3
      (case a3 => k_is)
      (case l3 => k_is)
      (case c3 => k_is)
      (case k3 => k_is)
      exact L2.ofLen1 fun _ => rfl
    have R4 : L2.Raw (L2.KOf KX) mg "grammar_of" K80.st_grammar_of ["text"] := by
      dsimp only [L2.KOf]
      refine' L2.Raw.mk' KX G ?a4 ?l4 ?c4 ?k4 ?b4
      (case a4 => k_is)
      (case l4 => k_is)
      (case c4 => k_is)
      (case k4 => k_is)
      exact L2.ofLen1 fun _ => rfl
    have R5 : L2.Raw (L2.KOf KX) mg "kind_at" K80.st_kind_at ["words", "place"] := by
      dsimp only [L2.KOf]
      refine' L2.Raw.mk' KX G ?a5 ?l5 ?c5 ?k5 ?b5
      (case a5 => k_is)
      (case l5 => k_is)
      (case c5 => k_is)
      (case k5 => k_is)
      exact L2.ofLen2 fun _ _ => rfl
    have R6 : L2.Raw (L2.KOf KX) mg "is_kind" K80.st_is_kind ["word"] := by
      dsimp only [L2.KOf]
      refine' L2.Raw.mk' KX G ?a6 ?l6 ?c6 ?k6 ?b6
      (case a6 => k_is)
      (case l6 => k_is)
      (case c6 => k_is)
      (case k6 => k_is)
      exact L2.ofLen1 fun _ => rfl
    have R7 : L2.Raw (L2.KOf KX) mg "put_form" K80.st_put_form ["book", "kind", "words"] := by
      dsimp only [L2.KOf]
      refine' L2.Raw.mk' KX G ?a7 ?l7 ?c7 ?k7 ?b7
      (case a7 => k_is)
      (case l7 => k_is)
      (case c7 => k_is)
      (case k7 => k_is)
      exact L2.ofLen3 fun _ _ _ => rfl
    have R8 : L2.Raw (L2.KOf KX) mg "put_end" K80.st_put_end ["ends", "words"] := by
      dsimp only [L2.KOf]
      refine' L2.Raw.mk' KX G ?a8 ?l8 ?c8 ?k8 ?b8
      (case a8 => k_is)
      (case l8 => k_is)
      (case c8 => k_is)
      (case k8 => k_is)
      exact L2.ofLen2 fun _ _ => rfl
    have R9 : L2.Raw (L2.KOf KX) mg "rule_of" K80.st_rule_of ["words"] := by
      dsimp only [L2.KOf]
      refine' L2.Raw.mk' KX G ?a9 ?l9 ?c9 ?k9 ?b9
      (case a9 => k_is)
      (case l9 => k_is)
      (case c9 => k_is)
      (case k9 => k_is)
      exact L2.ofLen1 fun _ => rfl
    have R10 : L2.Raw (L2.KOf KX) mg "is_rank" K80.st_is_rank ["word"] := by
      dsimp only [L2.KOf]
      refine' L2.Raw.mk' KX G ?a10 ?l10 ?c10 ?k10 ?b10
      (case a10 => k_is)
      (case l10 => k_is)
      (case c10 => k_is)
      (case k10 => k_is)
      exact L2.ofLen1 fun _ => rfl
    have R11 : L2.Raw (L2.KOf KX) mg "bare_part" K80.st_bare_part ["word"] := by
      dsimp only [L2.KOf]
      refine' L2.Raw.mk' KX G ?a11 ?l11 ?c11 ?k11 ?b11
      (case a11 => k_is)
      (case l11 => k_is)
      (case c11 => k_is)
      (case k11 => k_is)
      exact L2.ofLen1 fun _ => rfl
    have R12 : L2.Raw (L2.KOf KX) mg "note_of" K80.st_note_of ["words"] := by
      dsimp only [L2.KOf]
      refine' L2.Raw.mk' KX G ?a12 ?l12 ?c12 ?k12 ?b12
      (case a12 => k_is)
      (case l12 => k_is)
      (case c12 => k_is)
      (case k12 => k_is)
      exact L2.ofLen1 fun _ => rfl
    have R13 : L2.Raw (L2.KOf KX) mg "place_signed" K80.st_place_signed ["words", "sign"] := by
      dsimp only [L2.KOf]
      refine' L2.Raw.mk' KX G ?a13 ?l13 ?c13 ?k13 ?b13
      (case a13 => k_is)
      (case l13 => k_is)
      (case c13 => k_is)
      (case k13 => k_is)
      exact L2.ofLen2 fun _ _ => rfl
    have R14 : L2.Raw (L2.KOf KX) mg "check_notes" K80.st_check_notes ["rules", "notes"] := by
      dsimp only [L2.KOf]
      refine' L2.Raw.mk' KX G ?a14 ?l14 ?c14 ?k14 ?b14
      (case a14 => k_is)
      (case l14 => k_is)
      (case c14 => k_is)
      (case k14 => k_is)
      exact L2.ofLen2 fun _ _ => rfl
    have R15 : L2.Raw (L2.KOf KX) mg "_law_cell_at" K80.st__law_cell_at ["_law_script", "_law_k"] := by
      dsimp only [L2.KOf]
      refine' L2.Raw.mk' KX G ?a15 ?l15 ?c15 ?k15 ?b15
      (case a15 => k_is)
      (case l15 => k_is)
      (case c15 => k_is)
      (case k15 => k_is)
      exact L2.ofLen2 fun _ _ => rfl
    have R16 : L2.Raw (L2.KOf KX) mg "_law_names" K80.st__law_names ["_law_cell", "_law_many"] := by
      dsimp only [L2.KOf]
      refine' L2.Raw.mk' KX G ?a16 ?l16 ?c16 ?k16 ?b16
      (case a16 => k_is)
      (case l16 => k_is)
      (case c16 => k_is)
      (case k16 => k_is)
      exact L2.ofLen2 fun _ _ => rfl
    have R17 : L2.Raw (L2.KOf KX) mg "_law_mixed" K80.st__law_mixed ["_law_cell", "_law_k"] := by
      dsimp only [L2.KOf]
      refine' L2.Raw.mk' KX G ?a17 ?l17 ?c17 ?k17 ?b17
      (case a17 => k_is)
      (case l17 => k_is)
      (case c17 => k_is)
      (case k17 => k_is)
      exact L2.ofLen2 fun _ _ => rfl
    have R18 : L2.Raw (L2.KOf KX) mg "_law_signs" K80.st__law_signs [] := by
      dsimp only [L2.KOf]
      refine' L2.Raw.mk' KX G ?a18 ?l18 ?c18 ?k18 ?b18
      (case a18 => k_is)
      (case l18 => k_is)
      (case c18 => k_is)
      (case k18 => k_is)
      exact L2.ofLen0 fun (_ : Unit) => rfl
    have R19 : L2.Raw (L2.KOf KX) mg "_law_written" K80.st__law_written ["_law_sign"] := by
      dsimp only [L2.KOf]
      refine' L2.Raw.mk' KX G ?a19 ?l19 ?c19 ?k19 ?b19
      (case a19 => k_is)
      (case l19 => k_is)
      (case c19 => k_is)
      (case k19 => k_is)
      exact L2.ofLen1 fun _ => rfl
    have R20 : L2.Raw (L2.KOf KX) mg "_law_part" K80.st__law_part ["_law_cell"] := by
      dsimp only [L2.KOf]
      refine' L2.Raw.mk' KX G ?a20 ?l20 ?c20 ?k20 ?b20
      (case a20 => k_is)
      (case l20 => k_is)
      (case c20 => k_is)
      (case k20 => k_is)
      exact L2.ofLen1 fun _ => rfl
    have R21 : L2.Raw (L2.KOf KX) mg "_law_form" K80.st__law_form ["_law_cell"] := by
      dsimp only [L2.KOf]
      refine' L2.Raw.mk' KX G ?a21 ?l21 ?c21 ?k21 ?b21
      (case a21 => k_is)
      (case l21 => k_is)
      (case c21 => k_is)
      (case k21 => k_is)
      exact L2.ofLen1 fun _ => rfl
    have R22 : L2.Raw (L2.KOf KX) mg "_law_rule" K80.st__law_rule ["_law_cell", "_law_names_here"] := by
      dsimp only [L2.KOf]
      refine' L2.Raw.mk' KX G ?a22 ?l22 ?c22 ?k22 ?b22
      (case a22 => k_is)
      (case l22 => k_is)
      (case c22 => k_is)
      (case k22 => k_is)
      exact L2.ofLen2 fun _ _ => rfl
    have R23 : L2.Raw (L2.KOf KX) mg "_law_same" K80.st__law_same ["_law_found", "_law_due"] := by
      dsimp only [L2.KOf]
      refine' L2.Raw.mk' KX G ?a23 ?l23 ?c23 ?k23 ?b23
      (case a23 => k_is)
      (case l23 => k_is)
      (case c23 => k_is)
      (case k23 => k_is)
      exact L2.ofLen2 fun _ _ => rfl
    have R24 : L2.Raw (L2.KOf KX) mg "_law_row" K80.st__law_row ["_law_cell", "_law_names_here", "_law_many_forms", "_law_many_ends"] := by
      dsimp only [L2.KOf]
      refine' L2.Raw.mk' KX G ?a24 ?l24 ?c24 ?k24 ?b24
      (case a24 => k_is)
      (case l24 => k_is)
      (case c24 => k_is)
      (case k24 => k_is)
      exact L2.ofLen4 fun _ _ _ _ => rfl
    have R25 : L2.Raw (L2.KOf KX) mg "_law_rows" K80.st__law_rows ["_law_script", "_law_names_here"] := by
      dsimp only [L2.KOf]
      refine' L2.Raw.mk' KX G ?a25 ?l25 ?c25 ?k25 ?b25
      (case a25 => k_is)
      (case l25 => k_is)
      (case c25 => k_is)
      (case k25 => k_is)
      exact L2.ofLen2 fun _ _ => rfl
    have R26 : L2.Raw (L2.KOf KX) mg "law" K80.st_law ["_law_script"] := by
      dsimp only [L2.KOf]
      refine' L2.Raw.mk' KX G ?a26 ?l26 ?c26 ?k26 ?b26
      (case a26 => k_is)
      (case l26 => k_is)
      (case c26 => k_is)
      (case k26 => k_is)
      exact L2.ofLen1 fun _ => rfl
    have n_all : mg "all" = none := PySem.W.mg_none_of KX G (by k_is)
    have n_any : mg "any" = none := PySem.W.mg_none_of KX G (by k_is)
    have n_bool : mg "bool" = none := PySem.W.mg_none_of KX G (by k_is)
    have n_enumerate : mg "enumerate" = none := PySem.W.mg_none_of KX G (by k_is)
    have n_int : mg "int" = none := PySem.W.mg_none_of KX G (by k_is)
    have n_isinstance : mg "isinstance" = none := PySem.W.mg_none_of KX G (by k_is)
    have n_len : mg "len" = none := PySem.W.mg_none_of KX G (by k_is)
    have n_list : mg "list" = none := PySem.W.mg_none_of KX G (by k_is)
    have n_ord : mg "ord" = none := PySem.W.mg_none_of KX G (by k_is)
    have n_range : mg "range" = none := PySem.W.mg_none_of KX G (by k_is)
    have n_str : mg "str" = none := PySem.W.mg_none_of KX G (by k_is)
    have n_tuple : mg "tuple" = none := PySem.W.mg_none_of KX G (by k_is)
    have n_zip : mg "zip" = none := PySem.W.mg_none_of KX G (by k_is)
    have g_MOST_PARTS : ∃ t, mg "MOST_PARTS" = some (.int 12 t) := by
      refine' L2.int_mk KX G ?aMOST_PARTS
      (case aMOST_PARTS => k_is)
    have g_MOST_SIGNS : ∃ t, mg "MOST_SIGNS" = some (.int 100 t) := by
      refine' L2.int_mk KX G ?aMOST_SIGNS
      (case aMOST_SIGNS => k_is)
    have g_PERCENT : ∃ t, mg "PERCENT" = some (.int 37 t) := by
      refine' L2.int_mk KX G ?aPERCENT
      (case aPERCENT => k_is)
    have g_MOST_FORMS : ∃ t, mg "MOST_FORMS" = some (.int 24 t) := by
      refine' L2.int_mk KX G ?aMOST_FORMS
      (case aMOST_FORMS => k_is)
    have g_MOST_ENDS : ∃ t, mg "MOST_ENDS" = some (.int 24 t) := by
      refine' L2.int_mk KX G ?aMOST_ENDS
      (case aMOST_ENDS => k_is)
    have g_MOST_LETTERS : ∃ t, mg "MOST_LETTERS" = some (.int 12 t) := by
      refine' L2.int_mk KX G ?aMOST_LETTERS
      (case aMOST_LETTERS => k_is)
    have g_GAP : ∃ t, mg "GAP" = some (.str "" t) := by
      refine' L2.str_mk KX G ?aGAP
      (case aGAP => k_is)
    have g_DEEDS_forms : ∃ t, mg "DEEDS_forms" = some (.ref t) ∧ L2.KTab (L2.KOf KX) w t K80.kvDeeds := by
      dsimp only [L2.KOf]
      refine' L2.dict_mk KX G ?aDEEDS_forms ?lDEEDS_forms ?kDEEDS_forms ?pDEEDS_forms ?sDEEDS_forms
      (case aDEEDS_forms => k_is)
      (case lDEEDS_forms => k_is)
      (case kDEEDS_forms => repeat (first | exact True.intro | refine And.intro ⟨_, _, rfl, rfl⟩ ?_))
      (case pDEEDS_forms => repeat (first | exact .nil | refine .cons ⟨⟨_, rfl⟩, ⟨_, rfl⟩⟩ ?_))
      (case sDEEDS_forms => decide)
    obtain ⟨a_DEEDS_forms, g_DEEDS_forms, k_DEEDS_forms⟩ := g_DEEDS_forms
    have g_MANIES : ∃ t, mg "MANIES" = some (.ref t) ∧ L2.KTab (L2.KOf KX) w t K80.kvManies := by
      dsimp only [L2.KOf]
      refine' L2.dict_mk KX G ?aMANIES ?lMANIES ?kMANIES ?pMANIES ?sMANIES
      (case aMANIES => k_is)
      (case lMANIES => k_is)
      (case kMANIES => repeat (first | exact True.intro | refine And.intro ⟨_, _, rfl, rfl⟩ ?_))
      (case pMANIES => repeat (first | exact .nil | refine .cons ⟨⟨_, rfl⟩, ⟨_, rfl⟩⟩ ?_))
      (case sMANIES => decide)
    obtain ⟨a_MANIES, g_MANIES, k_MANIES⟩ := g_MANIES
    have g_MEANT : ∃ t, mg "MEANT" = some (.ref t) ∧ L2.KTab (L2.KOf KX) w t K80.kvMeant := by
      dsimp only [L2.KOf]
      refine' L2.dict_mk KX G ?aMEANT ?lMEANT ?kMEANT ?pMEANT ?sMEANT
      (case aMEANT => k_is)
      (case lMEANT => k_is)
      (case kMEANT => repeat (first | exact True.intro | refine And.intro ⟨_, _, rfl, rfl⟩ ?_))
      (case pMEANT => repeat (first | exact .nil | refine .cons ⟨⟨_, rfl⟩, ⟨_, rfl⟩⟩ ?_))
      (case sMEANT => decide)
    obtain ⟨a_MEANT, g_MEANT, k_MEANT⟩ := g_MEANT
    have g_ROW_MANIES : ∃ t, mg "ROW_MANIES" = some (.ref t) ∧ ∀ H, L2.SqT (L2.KOf KX) H t [.str "once", .str "ahead", .str "not"] := by
      dsimp only [L2.KOf]
      refine' L2.tup_mk KX G ?aROW_MANIES ?lROW_MANIES ?zROW_MANIES ?vROW_MANIES
      (case aROW_MANIES => k_is)
      (case lROW_MANIES => k_is)
      (case zROW_MANIES => decide)
      (case vROW_MANIES => exact .cons ⟨_, rfl⟩ (.cons ⟨_, rfl⟩ (.cons ⟨_, rfl⟩ .nil)))
    obtain ⟨a_ROW_MANIES, g_ROW_MANIES, k_ROW_MANIES⟩ := g_ROW_MANIES
    have g_NO_KINDS : ∃ t, mg "NO_KINDS" = some (.ref t) ∧ ∀ H, L2.SqT (L2.KOf KX) H t [.str "end", .str "stray"] := by
      dsimp only [L2.KOf]
      refine' L2.tup_mk KX G ?aNO_KINDS ?lNO_KINDS ?zNO_KINDS ?vNO_KINDS
      (case aNO_KINDS => k_is)
      (case lNO_KINDS => k_is)
      (case zNO_KINDS => decide)
      (case vNO_KINDS => exact .cons ⟨_, rfl⟩ (.cons ⟨_, rfl⟩ .nil))
    obtain ⟨a_NO_KINDS, g_NO_KINDS, k_NO_KINDS⟩ := g_NO_KINDS
    have g_DEEDS_grammars : ∃ t, mg "DEEDS_grammars" = some (.ref t) ∧ ∀ H, L2.SqT (L2.KOf KX) H t [.str "stop", .str "open", .str "close"] := by
      dsimp only [L2.KOf]
      refine' L2.tup_mk KX G ?aDEEDS_grammars ?lDEEDS_grammars ?zDEEDS_grammars ?vDEEDS_grammars
      (case aDEEDS_grammars => k_is)
      (case lDEEDS_grammars => k_is)
      (case zDEEDS_grammars => decide)
      (case vDEEDS_grammars => exact .cons ⟨_, rfl⟩ (.cons ⟨_, rfl⟩ (.cons ⟨_, rfl⟩ .nil)))
    obtain ⟨a_DEEDS_grammars, g_DEEDS_grammars, k_DEEDS_grammars⟩ := g_DEEDS_grammars
    have g_SIDES : ∃ t, mg "SIDES" = some (.ref t) ∧ ∀ H, L2.SqT (L2.KOf KX) H t [.str "left", .str "right", .str "none"] := by
      dsimp only [L2.KOf]
      refine' L2.tup_mk KX G ?aSIDES ?lSIDES ?zSIDES ?vSIDES
      (case aSIDES => k_is)
      (case lSIDES => k_is)
      (case zSIDES => decide)
      (case vSIDES => exact .cons ⟨_, rfl⟩ (.cons ⟨_, rfl⟩ (.cons ⟨_, rfl⟩ .nil)))
    obtain ⟨a_SIDES, g_SIDES, k_SIDES⟩ := g_SIDES
    obtain ⟨i_MP, e_MP⟩ := g_MOST_PARTS
    obtain ⟨i_MS, e_MS⟩ := g_MOST_SIGNS
    obtain ⟨i_PC, e_PC⟩ := g_PERCENT
    have T : K80.Txt (L2.KOf KX) w mg a_DEEDS_forms a_MANIES a_ROW_MANIES a_MEANT i_MP i_MS i_PC := ⟨n_len, n_ord, n_list, n_tuple, n_str, n_isinstance, n_zip, e_MP, e_MS, e_PC, g_DEEDS_forms, g_MANIES, g_ROW_MANIES, g_MEANT, k_DEEDS_forms, k_MANIES, k_MEANT, k_ROW_MANIES⟩
    have T2 : K80.Txt2 (L2.KOf KX) w mg a_NO_KINDS a_DEEDS_grammars a_SIDES := ⟨n_len, n_range, n_isinstance, n_int, n_bool, n_str, n_tuple, n_list, n_all, n_any, n_enumerate, n_zip, g_GAP, g_MOST_FORMS, g_MOST_ENDS, g_MOST_LETTERS, g_NO_KINDS, g_DEEDS_grammars, g_SIDES, k_NO_KINDS, k_DEEDS_grammars, k_SIDES⟩
    obtain ⟨f, fd, hf, Fu, hb⟩ := R26.ex
    have e0 := hmg.symm.trans hf
    cases e0
    refine ⟨fd, fun s u => ?_, fun base kb nb => (K80.law_of R0 R1 R2 R3 R4 R5 R6 R7 R8 R9 R10 R11 R12 R13 R14 R15 R16 R17 R18 R19 R20 R21 R22 R23 R24 R25 ⟨⟨_, fd, hf, Fu, hb⟩⟩ T T2).at hf Fu.lk⟩
    exact .of_eq (hb [u] rfl)
  case S => exact fun K H a ns hl hO hS => ⟨a, ns, rfl, hS, hl, fun _ => rfl⟩
  case C => exact fun _ _ _ _ z => z

