import PyProof.Rows.All
import Wide.All
import OpenK.AllK
import Wide.FinOn
import Lean
import PyProof.EqAt
import PyProof.EqKinds
import PyProof.TupleCall
import PyProof.ListRange
import PyProof.StrLawsChain
import PyProof.StrBlockI
import PyProof.StrBlock2
import PyProof.ZipIter
import PyProof.Rows.ZipGen
import OpenK.KRaise
import OpenK.KOwn
import PyProof.ExcClass3
import PyProof.ExcBaseAll.ValueError
import PyProof.FString
import PyProof.FString4
import PyProof.StrLawsRepr
import PyProof.NsDelKeeps
import PyProof.Rows.Catch
import PyProof.ExcArgsOwn
import PyProof.ExcAttrAll.ValueError
import OpenK.KDescr
import KE.KIsAll
import KE.KLam
import KE.RegKIsAll
import PySem.Challenge.RW_regrowth_k15_changes_that_fit
set_option Elab.async false
set_option linter.all false
set_option maxRecDepth 100000
namespace L2
open PySem PySem.Spec PyProof.Rows

abbrev Key := Sum Int Str
def keyIs : Key → Value → Bool
  | .inl k, v => Value.isInt k v
  | .inr x, v => Value.isStrOf x v
def keyH (w : World) : Key → Int
  | .inl k => hashInt k
  | .inr x => hashStr w x
theorem keyIs_shape : ∀ {k : Key} {v : Value}, keyIs k v = true → (∃ i t, k = Sum.inl i ∧ v = Value.int i t) ∨ (∃ x t, k = Sum.inr x ∧ v = Value.str x t)
  | .inl i, v, h => by
    obtain ⟨t, e⟩ := Value.isInt_shape (k := i) (v := v) h
    exact .inl ⟨i, t, rfl, e⟩
  | .inr x, v, h => by
    obtain ⟨t, e⟩ := Value.isStrOf_shape (x := x) (v := v) h
    exact .inr ⟨x, t, rfl, e⟩
theorem keyIs_int (i : Int) (t : Tok) : keyIs (.inl i) (.int i t) = true := by simp [keyIs, Value.isInt]
theorem keyIs_str (x : Str) (t : Tok) : keyIs (.inr x) (.str x t) = true := by simp [keyIs, Value.isStrOf]
theorem key_ll (a b : Int) : decide ((Sum.inl a : Key) = Sum.inl b) = (a == b) := by
  by_cases e : a = b
  · subst e; simp
  · have h : ¬ (Sum.inl a : Key) = Sum.inl b := fun q => e (Sum.inl.inj q)
    rw [decide_eq_false h]
    exact (beq_eq_false_iff_ne.mpr e).symm
theorem key_rr (a b : Str) : decide ((Sum.inr a : Key) = Sum.inr b) = decide (a = b) := by
  by_cases e : a = b
  · subst e; simp
  · have h : ¬ (Sum.inr a : Key) = Sum.inr b := fun q => e (Sum.inr.inj q)
    rw [decide_eq_false h, decide_eq_false e]
theorem key_lr (a : Int) (b : Str) : decide ((Sum.inl a : Key) = Sum.inr b) = false := decide_eq_false (fun q => nomatch q)
theorem key_rl (a : Str) (b : Int) : decide ((Sum.inr a : Key) = Sum.inl b) = false := decide_eq_false (fun q => nomatch q)

def mixKind (prog : Program) (w : World) : PySem.KeyKind prog w Key where
  is := keyIs
  hash := keyH w
  inj := fun v a b ha hb => by
    rcases keyIs_shape ha with ⟨i, t, rfl, rfl⟩ | ⟨x, t, rfl, rfl⟩
    · rcases keyIs_shape hb with ⟨j, u, rfl, e⟩ | ⟨y, u, rfl, e⟩
      · injection e with e1 _; rw [e1]
      · exact nomatch e
    · rcases keyIs_shape hb with ⟨j, u, rfl, e⟩ | ⟨y, u, rfl, e⟩
      · exact nomatch e
      · injection e with e1 _; rw [e1]
  byValue := fun k v h => by
    rcases keyIs_shape h with ⟨i, t, rfl, rfl⟩ | ⟨x, t, rfl, rfl⟩ <;> rfl
  pyHash := fun hv h => by
    rcases keyIs_shape hv with ⟨i, t, rfl, rfl⟩ | ⟨x, t, rfl, rfl⟩
    · exact wpAny_pyHash_int h
    · exact wpAny_pyHash_str h
  eqBool := fun hu hv h => by
    rcases keyIs_shape hu with ⟨i, t, rfl, rfl⟩ | ⟨x, t, rfl, rfl⟩
    · rcases keyIs_shape hv with ⟨j, u, rfl, rfl⟩ | ⟨y, u, rfl, rfl⟩
      · rw [key_ll] at h; exact wpAny_eqBool_int h
      · rw [key_lr] at h; exact SeqAt.EqAt.int_str i t y u _ _ _ _ h
    · rcases keyIs_shape hv with ⟨j, u, rfl, rfl⟩ | ⟨y, u, rfl, rfl⟩
      · rw [key_rl] at h; exact SeqAt.EqAt.str_int x t j u _ _ _ _ h
      · rw [key_rr] at h; exact wpAny_eqBool_str h
  «strs» := fun k x t v h => by
    rcases keyIs_shape h with ⟨i, u, rfl, e⟩ | ⟨y, u, rfl, e⟩
    · exact nomatch e
    · injection e with e1 _
      subst e1
      cases v <;> rfl

theorem mixKind_int (prog : Program) (w : World) (i : Int) (t : Tok) : (mixKind prog w).is (.inl i) (.int i t) = true := keyIs_int i t
theorem mixKind_str (prog : Program) (w : World) (x : Str) (t : Tok) : (mixKind prog w).is (.inr x) (.str x t) = true := keyIs_str x t
end L2

namespace L2
open PySem PySem.Spec PyProof.Rows

inductive V where
  | non | bl (b : Bool) | int (i : Int) | str (x : Str) | byt (b : Array UInt8) | flt (b : UInt64) | ref (a : Addr) | ty (n : String)
  deriving DecidableEq

def RelV : V → Value → Prop
  | .non, u => u = Value.none
  | .bl b, u => u = Value.bool b
  | .int i, u => ∃ t, u = Value.int i t
  | .str x, u => ∃ t, u = Value.str x t
  | .byt b, u => ∃ t, u = Value.bytes b t
  | .flt b, u => ∃ t, u = Value.float b t
  | .ref a, u => u = Value.ref a
  | .ty n, u => u = Value.type n

abbrev Vals : List V → List Value → Prop := Paired RelV
theorem Vals.length {xs : List V} {us : List Value} (r : Vals xs us) : xs.length = us.length := Paired.length r
theorem Vals.get : ∀ {xs : List V} {us : List Value} {i : Nat} {x : V}, Vals xs us → xs[i]? = some x → ∃ u, us[i]? = some u ∧ RelV x u
  | _, _, _, _, .nil, e => by simp at e
  | _, _, 0, _, .cons r _, e => by simp at e; subst e; exact ⟨_, rfl, r⟩
  | _, _, i + 1, x, .cons _ t, e => by
    obtain ⟨u, h1, h2⟩ := Vals.get (i := i) (x := x) t (by simpa using e)
    exact ⟨u, by simpa using h1, h2⟩
theorem Vals.set {x : V} {u : Value} (r : RelV x u) : ∀ {xs : List V} {us : List Value} (i : Nat), Vals xs us → Vals (xs.set i x) (us.set i u)
  | _, _, _, .nil => .nil
  | _, _, 0, .cons _ t => .cons r t
  | _, _, i + 1, .cons q t => .cons q (Vals.set r i t)
theorem Vals.append : ∀ {xs ys : List V} {us ws : List Value}, Vals xs us → Vals ys ws → Vals (xs ++ ys) (us ++ ws)
  | _, _, _, _, .nil, s => s
  | _, _, _, _, .cons r t, s => .cons r (Vals.append t s)
theorem Vals.take : ∀ {xs : List V} {us : List Value} (n : Nat), Vals xs us → Vals (xs.take n) (us.take n)
  | _, _, 0, _ => .nil
  | _, _, _ + 1, .nil => .nil
  | _, _, n + 1, .cons r t => .cons r (Vals.take n t)
theorem Vals.drop : ∀ {xs : List V} {us : List Value} (n : Nat), Vals xs us → Vals (xs.drop n) (us.drop n)
  | _, _, 0, r => r
  | _, _, _ + 1, .nil => .nil
  | _, _, n + 1, .cons _ t => Vals.drop n t
def RelO : Option V → Option Value → Prop
  | some v, some u => RelV v u
  | none, none => True
  | _, _ => False
def KV {κ : Type} : List (κ × V) → List (κ × Value) → Prop := Paired fun (p : κ × V) (q : κ × Value) => p.1 = q.1 ∧ RelV p.2 q.2

def kV : Key → V
  | .inl i => .int i
  | .inr x => .str x

inductive HO where
  /-- a list -/
  | lst (xs : List V)
  /-- a tuple (never changes) -/
  | tup (xs : List V)
  /-- a dict whose keys are ints and texts; one whose keys are tuples of ints and texts (the empty one is both) -/
  | dK (kvs : List (Key × V)) | dT (kvs : List (List Key × V))
  /-- a set of ints: its members, its size -/
  | set (S : Int → Bool) (n : Nat)
  /-- an instance of the class at C, its dict at dx, its attributes -/
  | ins (C dx : Addr) (fs : List (Str × V))
  /-- the dict of the instance at x -/
  | own (x : Addr)
  /-- the dict of an exception -/
  | xd (fs : List (Str × V))
  /-- a bound method, f of x -/
  | met (f x : Addr)
  /-- a range object lo, lo + 1, .. below hi -/
  | rng (lo hi : Int)
  /-- a thing that is known to the object (the script; a dict while a loop walks it): read, never written while it is so -/
  | frz (o : Obj) (u : HO)
  /-- a code object's table -/
  | tbl (ps : Array Value)
  /-- any other thing, by what is true of its one object (a def of one's own: SetO a S n := HO.ext fun h => ..) -/
  | ext (φ : Heap → Prop)

abbrev Hp := Addr → Option HO
def upd (H : Hp) (a : Addr) (o : HO) : Hp := fun b => if b = a then some o else H b
theorem upd_same {H : Hp} {a : Addr} {o : HO} : upd H a o a = some o := by unfold upd; rw [if_pos rfl]
theorem upd_ne {H : Hp} {a b : Addr} {o : HO} (h : b ≠ a) : upd H a o b = H b := by unfold upd; rw [if_neg h]
theorem ne_of {H : Hp} {a b : Addr} {o u : HO} (h : H a = some o) (h' : H b = some u) (d : o ≠ u) : a ≠ b := by
  intro e; subst e; rw [h] at h'; exact d (Option.some.inj h')
theorem ne_of_none {H : Hp} {a b : Addr} {o : HO} (h : H a = some o) (h' : H b = none) : a ≠ b := by
  intro e; subst e; rw [h] at h'; cases h'

section
variable (P : Program) (w : World)
def ObjOk (H : Hp) (h : Heap) (a : Addr) : HO → Prop
  | .lst xs => xs.length ≤ sizeLine ∧ ∃ (its : List Value) (n : Nat), Vals xs its ∧ h.get? a = some { cls := .type "list", data := .seq its.toArray n }
  | .tup xs => xs.length ≤ sizeLine ∧ ∃ its : List Value, Vals xs its ∧ IsTup h a its.toArray
  | .dK kvs => kvs.length ≤ sizeLine ∧ (a == sysModules) = false ∧ ∃ vs, KV kvs vs ∧ h.DictOf (mixKind P w) a vs
  | .dT kvs => kvs.length ≤ sizeLine ∧ (a == sysModules) = false ∧ ∃ xs : List (List Key × Addr × Value),
      Paired (fun (p : List Key × V) (q : List Key × Addr × Value) => p.1 = q.1 ∧ H q.2.1 = some (.tup (p.1.map kV)) ∧ RelV p.2 q.2.2) kvs xs ∧
      ∃ o es ep, h.get? a = some o ∧ o.ExactDict ∧ o.data = .dict es ep ∧ es.toList = xs.map (entryOfKey (tupleKind (mixKind P w))) ∧ (xs.map (·.1)).Nodup
  | .set S n => h.SetOf (intKind P w) a S n
  | .ins C dx fs => H dx = some (.own a) ∧ fs.length ≤ 1000 ∧ dx ≠ a ∧ h.get? a = some (PySem.W.instObj C dx) ∧
      ∃ mA, h.Ns1 dx mA ∧ (∀ f, RelO (fs.lookup f) (mA f)) ∧ PySem.Within mA (fs.map (·.1))
  | .own _ => ∃ o, h.get? a = some o
  | .xd fs => ∃ mA, h.Ns1 a mA ∧ ∀ f, RelO (fs.lookup f) (mA f)
  | .rng lo hi => ∃ t u v, h.get? a = some { cls := .type "range", data := .fields #[.int lo t, .int hi u, .int 1 v] }
  | .frz o u => h.get? a = some o ∧ ObjOk H h a u
  | .tbl ps => h.get? a = some { cls := .none, data := .fields ps }
  | .met f x => h.get? a = some (PySem.W.methodObj (.ref f) (.ref x))
  | .ext φ => φ h ∧ (∃ o, h.get? a = some o) ∧ ∀ h1 h2 : Heap, φ h1 → (∀ o, h1.get? a = some o → h2.get? a = some o) → φ h2
def HOk (H : Hp) (h : Heap) : Prop := ∀ a o, H a = some o → ObjOk P w H h a o
end

section
variable {P : Program} {w : World} {H H' : Hp} {h h' : Heap} {a : Addr} {o : HO}
theorem ObjOk.lt (x : ObjOk P w H h a o) : a < h.objs.size := by
  cases o with
  | lst xs => obtain ⟨_, _, _, _, e⟩ := x; exact Heap.lt_size e
  | tup xs => obtain ⟨_, _, _, p⟩ := x; exact p.lt
  | dK kvs => obtain ⟨_, _, _, _, o, _, _, e, _⟩ := x; exact Heap.lt_size e
  | dT kvs => obtain ⟨_, _, _, _, o, _, _, e, _⟩ := x; exact Heap.lt_size e
  | set S n => obtain ⟨o, _, _, _, e, _⟩ := x; exact Heap.lt_size e
  | ins C dx fs => obtain ⟨_, _, _, e, _⟩ := x; exact Heap.lt_size e
  | own y => obtain ⟨_, e⟩ := x; exact Heap.lt_size e
  | xd fs => obtain ⟨_, ⟨_, _, _, e, _⟩, _⟩ := x; exact Heap.lt_size e
  | rng lo hi => obtain ⟨_, _, _, e⟩ := x; exact Heap.lt_size e
  | frz ob u => obtain ⟨e, _⟩ := x; exact Heap.lt_size e
  | tbl ps => exact Heap.lt_size (show h.get? a = some _ from x)
  | met f y => exact Heap.lt_size (show h.get? a = some _ from x)
  | ext φ => obtain ⟨_, ⟨_, e⟩, _⟩ := x; exact Heap.lt_size e
theorem Paired.mapP {α β : Type} {F G : α → β → Prop} : ∀ {l₁ : List α} {l₂ : List β}, Paired F l₁ l₂ → (∀ a b, F a b → G a b) → Paired G l₁ l₂
  | _, _, .nil, _ => .nil
  | _, _, .cons r t, f => .cons (f _ _ r) (Paired.mapP t f)
theorem ObjOk.stay (x : ObjOk P w H h a o) (k : ∀ b u, (b = a ∨ H b = some (.own a)) → h.get? b = some u → h'.get? b = some u)
    (ho : ∀ b, H b = some (.own a) → H' b = some (.own a)) (ht : ∀ b xs, H b = some (.tup xs) → H' b = some (.tup xs)) : ObjOk P w H' h' a o := by
  induction o with
  | lst xs => obtain ⟨z, its, n, r, e⟩ := x; exact ⟨z, its, n, r, k _ _ (.inl rfl) e⟩
  | tup xs => obtain ⟨z, its, r, ob, e, c⟩ := x; exact ⟨z, its, r, ob, k _ _ (.inl rfl) e, c⟩
  | dK kvs => obtain ⟨z, y, vs, r, ob, es, ep, e, c⟩ := x; exact ⟨z, y, vs, r, ob, es, ep, k _ _ (.inl rfl) e, c⟩
  | dT kvs =>
    obtain ⟨z, y, xs, r, ob, es, ep, e, c⟩ := x
    exact ⟨z, y, xs, Paired.mapP r fun p q z => ⟨z.1, ht _ _ z.2.1, z.2.2⟩, ob, es, ep, k _ _ (.inl rfl) e, c⟩
  | set S n => obtain ⟨ob, es, ep, t, e, c⟩ := x; exact ⟨ob, es, ep, t, k _ _ (.inl rfl) e, c⟩
  | ins C dx fs =>
    obtain ⟨d, z, ne, e, mA, ⟨od, es, ep, e2, c⟩, r⟩ := x
    exact ⟨ho _ d, z, ne, k _ _ (.inl rfl) e, mA, ⟨od, es, ep, k _ _ (.inr d) e2, c⟩, r⟩
  | own y => obtain ⟨ob, e⟩ := x; exact ⟨ob, k _ _ (.inl rfl) e⟩
  | xd fs => obtain ⟨mA, ⟨od, es, ep, e, c⟩, r⟩ := x; exact ⟨mA, ⟨od, es, ep, k _ _ (.inl rfl) e, c⟩, r⟩
  | rng lo hi => obtain ⟨t, u, v, e⟩ := x; exact ⟨t, u, v, k _ _ (.inl rfl) e⟩
  | frz ob u ih => obtain ⟨e, q⟩ := x; exact ⟨k _ _ (.inl rfl) e, ih q⟩
  | tbl ps =>
    have e : h.get? a = some { cls := .none, data := .fields ps } := x
    show h'.get? a = some { cls := .none, data := .fields ps }
    exact k a _ (.inl rfl) e
  | met f y =>
    have e : h.get? a = some (PySem.W.methodObj (.ref f) (.ref y)) := x
    show h'.get? a = some (PySem.W.methodObj (.ref f) (.ref y))
    exact k a _ (.inl rfl) e
  | ext φ => obtain ⟨p, ⟨o, e⟩, st⟩ := x; exact ⟨st _ _ p fun o q => k _ _ (.inl rfl) q, ⟨o, k _ _ (.inl rfl) e⟩, st⟩
theorem HOk.lt (x : HOk P w H h) (e : H a = some o) : a < h.objs.size := (x a o e).lt
theorem HOk.fresh (x : HOk P w H h) (e : h.objs.size ≤ a) : H a = none := by
  cases q : H a with
  | none => rfl
  | some u => exact absurd (Nat.lt_of_lt_of_le (x.lt q) e) (Nat.lt_irrefl _)
theorem HOk.kept (x : HOk P w H h) (k : ∀ b u, h.get? b = some u → h'.get? b = some u) : HOk P w H h' := fun a o e =>
  (x a o e).stay (fun b u _ q => k b u q) (fun _ q => q) fun _ _ q => q
theorem HOk.laid (x : HOk P w H h) (k : ∀ b u, h.get? b = some u → h'.get? b = some u) (hp : h.objs.size ≤ a) (new : ObjOk P w (upd H a o) h' a o) : HOk P w (upd H a o) h' := fun b u e => by
  have hn := x.fresh hp
  by_cases hb : b = a
  · subst hb; rw [upd_same] at e; cases e; exact new
  · rw [upd_ne hb] at e
    exact (x b u e).stay (fun c v _ q => k c v q) (fun c q => by rw [upd_ne (ne_of_none q hn)]; exact q) fun c xs q => by rw [upd_ne (ne_of_none q hn)]; exact q
end

def Rd (H : Hp) (a : Addr) (u : HO) : Prop := H a = some u ∨ ∃ o, H a = some (.frz o u)
theorem Rd.of {H : Hp} {a : Addr} {u : HO} (h : H a = some u) : Rd H a u := .inl h
theorem Rd.ok {P : Program} {w : World} {H : Hp} {h : Heap} {a : Addr} {u : HO} (r : Rd H a u) (x : HOk P w H h) : ObjOk P w H h a u := by
  rcases r with r | ⟨o, r⟩
  · exact x a u r
  · obtain ⟨_, q⟩ := x a _ r
    exact q
def Mut : Option HO → Prop
  | some (.lst _) => True
  | some (.dK _) => True
  | some (.dT _) => True
  | some (.set _ _) => True
  | some (.ins _ _ _) => True
  | some (.ext _) => True
  | _ => False
section
variable {P : Program} {w : World} {H : Hp} {h h' : Heap} {x e : Addr} {o' : HO}
theorem HOk.write (ok : HOk P w H h) (mu : Mut (H x)) (he : e = x ∨ H e = some (.own x)) (k : ∀ b u, b ≠ e → h.get? b = some u → h'.get? b = some u) (heo : ∃ u, h'.get? e = some u)
    (new : ObjOk P w (upd H x o') h' x o') : HOk P w (upd H x o') h' := fun b u q => by
  have nown : ∀ c y, H c = some (.own y) → c ≠ x := fun c y r z => by subst z; rw [r] at mu; exact mu
  have ntup : ∀ c xs, H c = some (.tup xs) → c ≠ x := fun c xs r z => by subst z; rw [r] at mu; exact mu
  by_cases hb : b = x
  · subst hb; rw [upd_same] at q; cases q; exact new
  · rw [upd_ne hb] at q
    by_cases hbe : b = e
    · have q' : H b = some (.own x) := by
        rcases he with z | z
        · exact absurd (hbe.trans z) hb
        · rw [hbe]; exact z
      rw [q] at q'; cases q'
      obtain ⟨v, hv⟩ := heo
      exact ⟨v, by rw [hbe]; exact hv⟩
    · refine (ok b u q).stay (fun c v hc r => k c v ?_ r) (fun c r => by rw [upd_ne (nown c b r)]; exact r) fun c xs r => by rw [upd_ne (ntup c xs r)]; exact r
      rcases hc with rfl | hc
      · exact hbe
      · rintro rfl
        rcases he with z | z
        · exact nown c b hc z
        · rw [hc] at z; cases z; exact hb rfl
end

structure Un (fs ex : List Addr) (H H' : Hp) (h h' : Heap) : Prop where
  keep : ∀ b o, h.get? b = some o → H b = none → b ∉ fs → b ∉ ex → h'.get? b = some o
  slot : ∀ b o, h.get? b = some o → H b = none → b ∈ fs → b ∉ ex → ∃ sl, h'.get? b = some { o with slots := sl }
  free : ∀ b o, h.get? b = some o → H b = none → b ∉ ex → H' b = none
  there : ∀ b o, h.get? b = some o → b ∉ ex → ∃ o', h'.get? b = some o'
  tups : ∀ b xs, H b = some (.tup xs) → H' b = some (.tup xs)
  frzs : ∀ b o u, H b = some (.frz o u) → H' b = some (.frz o u)
  tbls : ∀ b ps, H b = some (.tbl ps) → ∃ more, H' b = some (.tbl (ps ++ more))
section
variable {fs fs' ex ex' : List Addr} {H H1 H2 : Hp} {h h1 h2 h' : Heap} {a x e : Addr} {o : HO}
theorem Un.any (u : Un fs ex H H1 h h1) {b : Addr} {ob : Obj} (q : h.get? b = some ob) (n : H b = none) (hx : b ∉ ex) : ∃ sl, h1.get? b = some { ob with slots := sl } := by
  by_cases hb : b ∈ fs
  · exact u.slot b ob q n hb hx
  · exact ⟨ob.slots, u.keep b ob q n hb hx⟩
theorem Un.trans (a : Un fs ex H H1 h h1) (b : Un fs ex H1 H2 h1 h2) : Un fs ex H H2 h h2 where
  keep := fun c ob q n hc hx => b.keep c ob (a.keep c ob q n hc hx) (a.free c ob q n hx) hc hx
  slot := fun c ob q n hc hx => by
    obtain ⟨sl, e1⟩ := a.slot c ob q n hc hx
    obtain ⟨sl', e2⟩ := b.slot c _ e1 (a.free c ob q n hx) hc hx
    exact ⟨sl', e2⟩
  free := fun c ob q n hx => by
    obtain ⟨o', e1⟩ := a.there c ob q hx
    exact b.free c o' e1 (a.free c ob q n hx) hx
  there := fun c ob q hx => by
    obtain ⟨o', e1⟩ := a.there c ob q hx
    exact b.there c o' e1 hx
  tups := fun c xs q => b.tups c xs (a.tups c xs q)
  frzs := fun c ob xs q => b.frzs c ob xs (a.frzs c ob xs q)
  tbls := fun c ps q => by
    obtain ⟨m1, e1⟩ := a.tbls c ps q
    obtain ⟨m2, e2⟩ := b.tbls c _ e1
    exact ⟨m1 ++ m2, by rw [e2, Array.append_assoc]⟩
theorem Un.kept (k : ∀ b u, h.get? b = some u → h'.get? b = some u) : Un fs ex H H h h' :=
  ⟨fun b ob q _ _ _ => k b ob q, fun b ob q _ _ _ => ⟨ob.slots, k b ob q⟩, fun _ _ _ n _ => n, fun b ob q _ => ⟨ob, k b ob q⟩, fun _ _ q => q, fun _ _ _ q => q, fun _ ps q => ⟨#[], by rw [q]; simp⟩⟩
theorem Un.refl : Un fs ex H H h h := Un.kept fun _ _ q => q
theorem Un.laid (k : ∀ b u, h.get? b = some u → h'.get? b = some u) (hp : h.objs.size ≤ a) (hn : H a = none) : Un fs ex H (upd H a o) h h' where
  keep := fun b u q _ _ _ => k b u q
  slot := fun b u q _ _ _ => ⟨u.slots, k b u q⟩
  free := fun b u q n _ => by rw [upd_ne (Nat.ne_of_lt (Nat.lt_of_lt_of_le (Heap.lt_size q) hp))]; exact n
  there := fun b u q _ => ⟨u, k b u q⟩
  tups := fun b xs q => by rw [upd_ne (ne_of_none q hn)]; exact q
  frzs := fun b u xs q => by rw [upd_ne (ne_of_none q hn)]; exact q
  tbls := fun b ps q => ⟨#[], by rw [upd_ne (ne_of_none q hn), q]; simp⟩
theorem Un.write (mu : Mut (H x)) (he : e = x ∨ H e = some (.own x)) (k : ∀ b u, b ≠ e → h.get? b = some u → h'.get? b = some u) (heo : ∃ u, h'.get? e = some u) : Un fs ex H (upd H x o) h h' := by
  have hx : ∀ b, H b = none → b ≠ x := fun b n z => by subst z; rw [n] at mu; exact mu
  have hb : ∀ b, H b = none → b ≠ e := fun b n z => by
    subst z
    rcases he with r | r
    · exact hx b n r
    · rw [n] at r; cases r
  have hm : ∀ b u, H b = some u → ¬ Mut (some u) → b ≠ x := fun b u q nm z => by subst z; rw [q] at mu; exact nm mu
  refine ⟨fun b u q n _ _ => k b u (hb b n) q, fun b u q n _ _ => ⟨u.slots, k b u (hb b n) q⟩, fun b u q n _ => by rw [upd_ne (hx b n)]; exact n, fun b u q _ => ?_,
    fun b xs q => by rw [upd_ne (hm b _ q fun z => z)]; exact q, fun b u xs q => by rw [upd_ne (hm b _ q fun z => z)]; exact q, fun b ps q => ⟨#[], by rw [upd_ne (hm b _ q fun z => z), q]; simp⟩⟩
  by_cases hbe : b = e
  · subst hbe; exact heo
  · exact ⟨u, k b u hbe q⟩
theorem Un.mono (u : Un fs ex H H1 h h1) (hs : ∀ b ∈ fs, b ∈ fs') (hx : ∀ b ∈ ex, b ∈ ex') : Un fs' ex' H H1 h h1 :=
  ⟨fun b ob q n hb he => u.keep b ob q n (fun z => hb (hs b z)) fun z => he (hx b z), fun _ _ q n _ he => u.any q n fun z => he (hx _ z), fun b ob q n he => u.free b ob q n fun z => he (hx b z), fun b ob q he => u.there b ob q fun z => he (hx b z), u.tups, u.frzs, u.tbls⟩
end

def trk (h : Heap) (H : Hp) : List Addr := (List.range h.objs.size).filter fun a => (H a).isSome
def hidT (h : Heap) (H : Hp) : Heap := PySem.W.hideAll h (trk h H)
theorem hidT_size (h : Heap) (H : Hp) : (hidT h H).objs.size = h.objs.size := PySem.W.hideAll_size _ _
theorem hidT_get {h : Heap} {H : Hp} {b : Addr} {o : Obj} (e : h.get? b = some o) (n : H b = none) : (hidT h H).get? b = some o :=
  PySem.W.hideAll_get _ e fun hm => by
    have q : (H b).isSome = true := (List.mem_filter.mp hm).2
    rw [n] at q; simp at q
theorem of_hidT {h : Heap} {H : Hp} {b : Addr} {o : Obj} (e : (hidT h H).get? b = some o) : h.get? b = some o ∧ H b = none := by
  have e' : h.get? b = some o := PySem.W.of_hideAll (trk h H) e
  refine ⟨e', ?_⟩
  cases q : H b with
  | none => rfl
  | some x =>
    have hm : b ∈ trk h H := List.mem_filter.mpr ⟨List.mem_range.mpr (Heap.lt_size e'), by simp [q]⟩
    have z : (hidT h H).get? b = none := PySem.W.hideAll_none (trk h H) hm
    rw [z] at e; cases e

def allNews (g h : Heap) (L : Addr) : List (Addr × Obj) := (List.range h.objs.size).filterMap fun a => if a = L ∨ (g.get? a).isSome = true then none else (h.get? a).map fun o => (a, o)
def rest (g h : Heap) (L d : Addr) : List (Addr × Obj) := (allNews g h L).filter fun p => decide (p.1 ≠ d)
end L2

namespace L2
open PySem PySem.Spec PyProof.Rows

structure Mod (K : PySem.W.Frag) (mg : Str → Option Value) (base : Heap) : Prop where
  kin : K.In base
  glob : base.Ns mainGlobals mg
  blt : ∃ mb, base.Ns builtinsNs mb ∧ ∀ x : Str, x ≠ "__name__" → mb x = bootBuiltins x
  nolimit : base.NoLimit

structure Cx where
  prog : Program
  w : World
  K : PySem.W.Frag
  mg : Str → Option Value
  base : Heap
  A : Around
  N : List Str
  s₀ : Shared
  H₀ : Hp
  env : Env
  outer : List Env
  stack : List Env
  ex : List Addr
  fn : Str → Bool
  calm : Bool
  pn : List (Addr × Obj)
  xe : Value → Shared → Prop
def frs (l : List Env) : List Addr := l.filterMap (·.frame)
abbrev Cx.fs (X : Cx) : List Addr := frs X.outer

def Vis (sc : Scope) (x : Str) : Prop := sc.names.lookup x = some .local ∨ sc.names.lookup x = some .cell ∨ sc.names.lookup x = some .free
def Loc (sc : Scope) (x : Str) : Prop := sc.names.lookup x = some .local ∨ sc.names.lookup x = some .cell
def Look (env : Env) (h : Heap) (m : Str → Option Value) (x : Str) (u : Value) : Prop :=
  (env.kindOf x = some .local ∧ m x = some u) ∨ ((env.kindOf x = some .cell ∨ env.kindOf x = some .free) ∧ ∃ c, env.cells.lookup x = some c ∧ h.IsCell c (some u))

structure Cx.Ok (X : Cx) : Prop where
  mod : Mod X.K X.mg X.base
  kind : X.env.scope.kind = .function
  glob : X.env.globals = mainGlobals
  blt : X.env.builtins = builtinsNs
  above : X.s₀.heap.objs.size ≤ X.env.locals
  inj : ∀ x y c, X.env.cells.lookup x = some c → X.env.cells.lookup y = some c → x = y
  has : ∀ x, (X.env.kindOf x = some .cell ∨ X.env.kindOf x = some .free) → ∃ c, X.env.cells.lookup x = some c
  cab : ∀ x c, X.fn x = true → X.env.cells.lookup x = some c → X.s₀.heap.objs.size ≤ c
  hd : X.calm = true → X.A.handled = none
  frames : X.A.frames = some X.stack
  stk : X.stack = X.outer ∨ (X.stack = X.env :: X.outer ∧ X.env.frame = some X.env.locals)
  exf : ∀ b ∈ X.ex, b ≠ X.env.locals ∧ ∀ x c, X.env.cells.lookup x = some c → c ≠ b
  bs : ∀ b o, X.base.get? b = some o → X.s₀.heap.get? b = some o ∧ X.H₀ b = none
  bsz : X.base.objs.size ≤ X.s₀.heap.objs.size
  noex : ∀ b o, X.base.get? b = some o → b ∉ X.ex
  exfs : ∀ b ∈ X.ex, b ∉ X.fs
  funs : X.s₀.heap.FunFrames X.base X.outer
  frf : ∀ b ∈ X.fs, X.H₀ b = none

structure Inv (X : Cx) (pins : List (Addr × Obj)) (σ : List (Option V)) (H : Hp) (s : Shared) : Prop where
  ok : X.Ok
  os : s.os = X.s₀.os
  bare : AllBare s.gens
  base : Un X.fs X.ex X.H₀ H X.s₀.heap s.heap
  loc : ∃ m, s.heap.Ns X.env.locals m ∧ ∀ (i : Nat) (x : Str) (v : V), X.N[i]? = some x → σ[i]? = some (some v) → Vis X.env.scope x → ∃ u, RelV v u ∧ Look X.env s.heap m x u
  cell : ∀ x c, X.env.cells.lookup x = some c → ∃ v, s.heap.IsCell c v
  free : H X.env.locals = none
  freeC : ∀ x c, X.env.cells.lookup x = some c → H c = none
  pin : ∀ p ∈ X.pn ++ pins, s.heap.get? p.1 = some p.2 ∧ H p.1 = none ∧ p.1 ≠ X.env.locals ∧ p.1 ∉ X.fs ∧ ∀ v, p.2.data ≠ .cell v
  hok : HOk X.prog X.w H s.heap
  len : σ.length = X.N.length

section
variable {X : Cx} {pins : List (Addr × Obj)} {σ : List (Option V)} {H H' : Hp} {s : Shared} {h' : Heap}

theorem Cx.Ok.nofr (ok : X.Ok) {b : Addr} {o : Obj} (e : X.base.get? b = some o) : b ∉ X.fs := fun hb => by
  have := (ok.funs.mem hb).1
  rw [e] at this; cases this
theorem Inv.bs (I : Inv X pins σ H s) : ∀ b o, X.base.get? b = some o → s.heap.get? b = some o ∧ H b = none := fun b o e =>
  ⟨I.base.keep b o (I.ok.bs b o e).1 (I.ok.bs b o e).2 (I.ok.nofr e) (I.ok.noex b o e), I.base.free b o (I.ok.bs b o e).1 (I.ok.bs b o e).2 (I.ok.noex b o e)⟩
theorem Inv.bk (I : Inv X pins σ H s) : ∀ b o, X.base.get? b = some o → s.heap.get? b = some o := fun b o e => (I.bs b o e).1
theorem Inv.mod (I : Inv X pins σ H s) : Mod X.K X.mg X.base := I.ok.mod
theorem Inv.kIn (I : Inv X pins σ H s) : X.K.In s.heap := I.ok.mod.kin.keeps I.bk
theorem Inv.nolimit (I : Inv X pins σ H s) : s.heap.NoLimit := I.ok.mod.nolimit.keeps I.bk
theorem Inv.fr (I : Inv X pins σ H s) : ∃ m, Fr X.base X.env.locals s.heap m :=
  let ⟨m, hn, _⟩ := I.loc
  ⟨m, hn, I.bk, Nat.le_trans I.ok.bsz I.ok.above⟩
theorem Inv.lt (I : Inv X pins σ H s) : X.env.locals < s.heap.objs.size := let ⟨_, hn, _⟩ := I.loc; hn.lt
theorem Inv.sz (I : Inv X pins σ H s) : X.s₀.heap.objs.size ≤ s.heap.objs.size := Nat.le_trans I.ok.above (Nat.le_of_lt I.lt)
theorem Inv.nofs (I : Inv X pins σ H s) {a : Addr} (h : s.heap.objs.size ≤ a) : a ∉ X.fs := fun hb => by
  obtain ⟨_, o, ho, _⟩ := I.ok.funs.mem hb
  exact absurd (Nat.lt_of_lt_of_le (Heap.lt_size ho) (Nat.le_trans I.sz h)) (Nat.lt_irrefl _)
theorem Inv.cne (I : Inv X pins σ H s) : ∀ x c, X.env.cells.lookup x = some c → c ≠ X.env.locals := fun x c e z => by
  obtain ⟨v, o, ho, hd⟩ := I.cell x c e
  obtain ⟨m, ⟨o', es, ep, ho', hd', _⟩, _⟩ := I.loc
  rw [z, ho'] at ho; cases ho; rw [hd'] at hd; cases hd
theorem Inv.funs (I : Inv X pins σ H s) : s.heap.FunFrames X.base X.outer := by
  have all : ∀ (l : List Env), (∀ b ∈ frs l, b ∈ X.fs) → X.s₀.heap.FunFrames X.base l → s.heap.FunFrames X.base l := by
    intro l
    induction l with
    | nil => intro _ _; trivial
    | cons env r ih =>
      intro hs hl
      obtain ⟨hk, ⟨L, o, hf, hn, ho, hd⟩, hr⟩ := hl
      have hL : L ∈ X.fs := hs L (by unfold frs; rw [List.filterMap_cons, hf]; exact List.mem_cons_self)
      obtain ⟨sl, e⟩ := I.base.slot L o ho (I.ok.frf L hL) hL fun z => I.ok.exfs L z hL
      exact ⟨hk, ⟨L, _, hf, hn, e, hd⟩, ih (fun b hb => hs b (by unfold frs; rw [List.filterMap_cons, hf]; exact List.mem_cons_of_mem _ hb)) hr⟩
  exact all X.outer (fun _ hb => hb) I.ok.funs

theorem Inv.stack (I : Inv X pins σ H s) : s.heap.FunFrames X.base X.stack := by
  rcases I.ok.stk with e | ⟨e, hf⟩
  · rw [e]; exact I.funs
  · rw [e]
    obtain ⟨m, hn, _⟩ := I.loc
    refine .cons (by rw [I.ok.kind]; decide) hf hn ?_ I.funs
    exact Heap.get?_none_of_le (Nat.le_trans I.ok.bsz I.ok.above)
theorem Inv.stkSub (I : Inv X pins σ H s) : ∀ b ∈ frs X.stack, b ∈ X.env.locals :: X.fs := fun b hb => by
  rcases I.ok.stk with e | ⟨e, hf⟩
  · rw [e] at hb; exact List.mem_cons_of_mem _ hb
  · rw [e] at hb
    unfold frs at hb
    rw [List.filterMap_cons, hf] at hb
    exact hb
theorem Inv.stkFree (I : Inv X pins σ H s) : ∀ b ∈ frs X.stack, H b = none := fun b hb => by
  rcases List.mem_cons.mp (I.stkSub b hb) with e | hb
  · rw [e]; exact I.free
  · obtain ⟨_, o, ho, _⟩ := I.ok.funs.mem hb
    exact I.base.free b o ho (I.ok.frf b hb) fun z => I.ok.exfs b z hb

theorem Inv.step {g' : Array GenState} {t' : Nat} {d' : Drawn} {ch : List Addr} (I : Inv X pins σ H s)
    (hch : ∀ b ∈ ch, (b ∈ X.ex ∨ X.s₀.heap.objs.size ≤ b) ∧ b ≠ X.env.locals ∧ (∀ x c, X.env.cells.lookup x = some c → c ≠ b) ∧ ∀ p ∈ X.pn ++ pins, p.1 ≠ b)
    (keep : ∀ b o, b ≠ X.env.locals → b ∉ X.fs → b ∉ ch → s.heap.get? b = some o → H b = none → h'.get? b = some o)
    (slot : ∀ b o, b ≠ X.env.locals → b ∈ X.fs → b ∉ ch → s.heap.get? b = some o → H b = none → ∃ sl, h'.get? b = some { o with slots := sl }) (free : ∀ b o, b ∉ ch → s.heap.get? b = some o → H b = none → H' b = none)
    (there : ∀ b o, b ∉ ch → s.heap.get? b = some o → ∃ o', h'.get? b = some o')
    (tups : ∀ b xs, H b = some (.tup xs) → H' b = some (.tup xs)) (frzs : ∀ b o u, H b = some (.frz o u) → H' b = some (.frz o u)) (tbls : ∀ b ps, H b = some (.tbl ps) → ∃ more, H' b = some (.tbl (ps ++ more)))
    (ns : ∀ m, s.heap.Ns X.env.locals m → h'.Ns X.env.locals m) (hok : HOk X.prog X.w H' h') (hg : AllBare g') :
    Inv X pins σ H' { s with heap := h', gens := g', drawn := d', toks := t' } := by
  have neL : ∀ b o, X.s₀.heap.get? b = some o → b ≠ X.env.locals := fun b o e => Nat.ne_of_lt (Nat.lt_of_lt_of_le (Heap.lt_size e) I.ok.above)
  have neC : ∀ b o, X.s₀.heap.get? b = some o → b ∉ X.ex → b ∉ ch := fun b o e hx hb => by
    rcases (hch b hb).1 with z | z
    · exact hx z
    · exact absurd (Nat.lt_of_lt_of_le (Heap.lt_size e) z) (Nat.lt_irrefl _)
  have cellK : ∀ x c, X.env.cells.lookup x = some c → ∀ v, s.heap.IsCell c v → h'.IsCell c v := fun x c e v ⟨o, ho, hd⟩ => by
    have nch : c ∉ ch := fun z => (hch c z).2.2.1 x c e rfl
    by_cases hc : c ∈ X.fs
    · obtain ⟨sl, q⟩ := slot c o (I.cne x c e) hc nch ho (I.freeC x c e)
      exact ⟨_, q, hd⟩
    · exact ⟨o, keep c o (I.cne x c e) hc nch ho (I.freeC x c e), hd⟩
  refine ⟨I.ok, I.os, hg, ⟨fun b o e n hb hx => ?_, fun b o e n hb hx => ?_, fun b o e n hx => ?_, fun b o e hx => ?_, fun b xs e => tups b xs (I.base.tups b xs e), fun b o xs e => frzs b o xs (I.base.frzs b o xs e), fun b ps e => ?_⟩, ?_, fun x c e => ?_, ?_, fun x c e => ?_, fun p hp => ?_, hok, I.len⟩
  · exact keep b o (neL b o e) hb (neC b o e hx) (I.base.keep b o e n hb hx) (I.base.free b o e n hx)
  · obtain ⟨sl, e1⟩ := I.base.slot b o e n hb hx
    obtain ⟨sl', e2⟩ := slot b _ (neL b o e) hb (neC b o e hx) e1 (I.base.free b o e n hx)
    exact ⟨sl', e2⟩
  · obtain ⟨o', e1⟩ := I.base.there b o e hx
    exact free b o' (neC b o e hx) e1 (I.base.free b o e n hx)
  · obtain ⟨o', e1⟩ := I.base.there b o e hx
    exact there b o' (neC b o e hx) e1
  · obtain ⟨m1, e1⟩ := I.base.tbls b ps e
    obtain ⟨m2, e2⟩ := tbls b _ e1
    exact ⟨m1 ++ m2, by rw [e2, Array.append_assoc]⟩
  · obtain ⟨m, hn, hl⟩ := I.loc
    refine ⟨m, ns m hn, fun i x v e1 e2 e3 => ?_⟩
    obtain ⟨u, r, l⟩ := hl i x v e1 e2 e3
    refine ⟨u, r, ?_⟩
    rcases l with l | ⟨k, c, e, z⟩
    · exact .inl l
    · exact .inr ⟨k, c, e, cellK x c e _ z⟩
  · obtain ⟨v, z⟩ := I.cell x c e
    exact ⟨v, cellK x c e v z⟩
  · obtain ⟨m, ⟨o, _, _, ho, _⟩, _⟩ := I.loc
    exact free _ o (fun z => (hch _ z).2.1 rfl) ho I.free
  · obtain ⟨v, o, ho, hd⟩ := I.cell x c e
    exact free c o (fun z => (hch c z).2.2.1 x c e rfl) ho (I.freeC x c e)
  · obtain ⟨e, n, ne, nf, d⟩ := I.pin p hp
    have nch : p.1 ∉ ch := fun z => (hch p.1 z).2.2.2 p hp rfl
    exact ⟨keep p.1 p.2 ne nf nch e n, free p.1 p.2 nch e n, ne, nf, d⟩
theorem Inv.un {t' : Nat} (I : Inv X pins σ H s) (u : Un X.fs [] H H' s.heap h') (hok : HOk X.prog X.w H' h') : Inv X pins σ H' { s with heap := h', toks := t' } := by
  obtain ⟨m, ⟨o, es, ep, ho, r⟩, _⟩ := id I.loc
  obtain ⟨sl, hL⟩ := u.any ho I.free (by simp)
  exact I.step (g' := s.gens) (d' := s.drawn) (ch := []) (fun _ z => nomatch z) (fun b o _ hb _ e n => u.keep b o e n hb (by simp)) (fun b o _ hb _ e n => u.slot b o e n hb (by simp)) (fun b o _ e n => u.free b o e n (by simp)) (fun b o _ e => u.there b o e (by simp)) u.tups u.frzs u.tbls (fun m' hm => by
    obtain ⟨o', es', ep', ho', r'⟩ := hm
    rw [ho] at ho'; cases ho'
    exact ⟨_, es', ep', hL, r'⟩) hok I.bare
theorem Inv.call {g' : Array GenState} {t' : Nat} {d' : Drawn} {ch : List Addr} (I : Inv X pins σ H s) (u : Un (frs X.stack) ch H H' s.heap h') (hok : HOk X.prog X.w H' h') (hg : AllBare g')
    (hch : ∀ b ∈ ch, (b ∈ X.ex ∨ X.s₀.heap.objs.size ≤ b) ∧ b ≠ X.env.locals ∧ (∀ x c, X.env.cells.lookup x = some c → c ≠ b) ∧ ∀ p ∈ X.pn ++ pins, p.1 ≠ b) :
    Inv X pins σ H' { s with heap := h', gens := g', drawn := d', toks := t' } := by
  obtain ⟨m, ⟨o, es, ep, ho, r⟩, _⟩ := id I.loc
  obtain ⟨sl, hL⟩ := u.any ho I.free fun z => (hch _ z).2.1 rfl
  exact I.step (ch := ch) hch (fun b o hL hb hc e n => u.keep b o e n (fun z => (List.mem_cons.mp (I.stkSub b z)).elim hL hb) hc) (fun b o _ _ hc e n => u.any e n hc) (fun b o hc e n => u.free b o e n hc) (fun b o hc e => u.there b o e hc) u.tups u.frzs u.tbls (fun m' hm => by
    obtain ⟨o', es', ep', ho', r'⟩ := hm
    rw [ho] at ho'; cases ho'
    exact ⟨_, es', ep', hL, r'⟩) hok hg
theorem Inv.turned {t' : Nat} {it : Addr} (I : Inv X pins σ H s) (k : ∀ b o, b ≠ it → s.heap.get? b = some o → h'.get? b = some o) (hn : H it = none) (hL : it ≠ X.env.locals)
    (h1 : it ∈ X.ex ∨ X.s₀.heap.objs.size ≤ it) (h2 : ∀ x c, X.env.cells.lookup x = some c → c ≠ it) (h3 : ∀ p ∈ X.pn ++ pins, p.1 ≠ it) : Inv X pins σ H { s with heap := h', toks := t' } := by
  have nit : ∀ b u, H b = some u → b ≠ it := fun b u e z => by rw [z, hn] at e; cases e
  refine I.step (g' := s.gens) (d' := s.drawn) (ch := [it]) (fun b hb => ?_) (fun b o _ _ hc e _ => k b o (fun z => hc (by simp [z])) e) (fun b o _ _ hc e _ => ⟨o.slots, k b o (fun z => hc (by simp [z])) e⟩) (fun _ _ _ _ n => n)
    (fun b o hc e => ⟨o, k b o (fun z => hc (by simp [z])) e⟩) (fun _ _ e => e) (fun _ _ _ e => e) (fun b ps e => ⟨#[], by rw [e]; simp⟩) (fun m hm => ?_) (fun b u e => ?_) I.bare
  · have e : b = it := by simpa using hb
    subst e
    exact ⟨h1, hL, h2, h3⟩
  · obtain ⟨o, es, ep, ho, r⟩ := hm
    exact ⟨o, es, ep, k _ o (Ne.symm hL) ho, r⟩
  · refine (I.hok b u e).stay (fun c v hc q => k c v ?_ q) (fun _ q => q) fun _ _ q => q
    rcases hc with z | z
    · rw [z]; exact nit b u e
    · exact nit c _ z
theorem Inv.tok (I : Inv X pins σ H s) (t : Nat) : Inv X pins σ H { s with toks := t } := I.un (h' := s.heap) (t' := t) Un.refl I.hok
theorem Inv.kept {t' : Nat} (I : Inv X pins σ H s) (k : ∀ b u, s.heap.get? b = some u → h'.get? b = some u) : Inv X pins σ H { s with heap := h', toks := t' } := I.un (Un.kept k) (I.hok.kept k)
theorem Inv.laid {a : Addr} {o : HO} {t' : Nat} (I : Inv X pins σ H s) (k : ∀ b u, s.heap.get? b = some u → h'.get? b = some u) (hp : s.heap.objs.size ≤ a) (new : ObjOk X.prog X.w (upd H a o) h' a o) :
    Inv X pins σ (upd H a o) { s with heap := h', toks := t' } := I.un (Un.laid k hp (I.hok.fresh hp)) (I.hok.laid k hp new)
theorem Inv.write {x e : Addr} {o : HO} {t' : Nat} (I : Inv X pins σ H s) (mu : Mut (H x)) (he : e = x ∨ H e = some (.own x)) (k : ∀ b u, b ≠ e → s.heap.get? b = some u → h'.get? b = some u) (heo : ∃ u, h'.get? e = some u)
    (new : ObjOk X.prog X.w (upd H x o) h' x o) : Inv X pins σ (upd H x o) { s with heap := h', toks := t' } := I.un (Un.write mu he k heo) (I.hok.write mu he k heo new)
theorem Inv.pins_of {pins' : List (Addr × Obj)} (I : Inv X pins σ H s) (h : ∀ p ∈ pins', s.heap.get? p.1 = some p.2 ∧ H p.1 = none ∧ p.1 ≠ X.env.locals ∧ p.1 ∉ X.fs ∧ ∀ v, p.2.data ≠ .cell v) : Inv X pins' σ H s :=
  ⟨I.ok, I.os, I.bare, I.base, I.loc, I.cell, I.free, I.freeC, fun p hp => (List.mem_append.mp hp).elim (fun z => I.pin p (List.mem_append_left _ z)) (h p), I.hok, I.len⟩

theorem nodup_ix {N : List Str} (hN : N.Nodup) {i j : Nat} {x : Str} (a : N[i]? = some x) (b : N[j]? = some x) : i = j := by
  obtain ⟨h1, e1⟩ := List.getElem?_eq_some_iff.mp a
  obtain ⟨h2, e2⟩ := List.getElem?_eq_some_iff.mp b
  exact (List.getElem_inj hN).mp (e1.trans e2.symm)

theorem store_ok2 {M : Model} {A : Around} {E : Value → Shared → Prop} {i : Nat} {x : Str} {v : V} {u : Value} {Q : Unit → Shared → Prop} (I : Inv X pins σ H s) (hN : X.N.Nodup) (hi : X.N[i]? = some x) (hx : Loc X.env.scope x) (r : RelV v u)
    (h : ∀ s', Inv X pins (σ.set i (some v)) H s' → (∃ a, Heap.SameBut a s.heap s'.heap ∧ (a = X.env.locals ∨ X.env.cells.lookup x = some a)) → Q () s') (hf : X.fn x = true ∨ X.env.scope.names.lookup x = some .local := by first | exact .inl rfl | exact .inr rfl | assumption) : wpAny M A (storeName X.env x u) Q E s := by
  obtain ⟨m, hn, hl⟩ := id I.loc
  have hcls : (X.env.scope.kind == .class || (X.env.scope.kind == .module && X.env.locals != X.env.globals)) = false := by rw [I.ok.kind]; rfl
  have hiσ : i < σ.length := by rw [I.len]; exact (List.getElem?_eq_some_iff.mp hi).1
  have cne := I.cne
  have tracked : ∀ {a : Addr} {h' : Heap}, (∃ o, s.heap.get? a = some o ∧ H a = none) → Heap.SameBut a s.heap h' → HOk X.prog X.w H h' := fun {a h'} ha hs b ob e => by
    obtain ⟨_, _, hfree⟩ := ha
    refine (I.hok b ob e).stay (fun c w' hc q => (hs.2 c ?_).trans q) (fun _ q => q) fun _ _ q => q
    rintro rfl
    rcases hc with rfl | hc
    · rw [hfree] at e; cases e
    · rw [hfree] at hc; cases hc
  rcases hx with hk | hk
  · refine wpAny_storeName_local hk hn (fun h' hn' hs => ?_) hcls
    obtain ⟨oL, _, _, hoL, _⟩ := id hn
    refine h _ ⟨I.ok, I.os, I.bare, ⟨fun b o e n hb hx => ?_, fun b o e n hb hx => ?_, I.base.free, fun b o e hx => ?_, I.base.tups, I.base.frzs, I.base.tbls⟩, ⟨_, hn', fun j y v' e1 e2 e3 => ?_⟩, fun y c e => ?_, I.free, I.freeC, fun p hp => ?_, tracked ⟨oL, hoL, I.free⟩ hs, by simpa using I.len⟩ ⟨_, hs, .inl rfl⟩
    · exact (hs.2 b (Nat.ne_of_lt (Nat.lt_of_lt_of_le (Heap.lt_size e) I.ok.above))).trans (I.base.keep b o e n hb hx)
    · obtain ⟨sl, e1⟩ := I.base.slot b o e n hb hx
      exact ⟨sl, (hs.2 b (Nat.ne_of_lt (Nat.lt_of_lt_of_le (Heap.lt_size e) I.ok.above))).trans e1⟩
    · obtain ⟨o', e1⟩ := I.base.there b o e hx
      exact ⟨o', (hs.2 b (Nat.ne_of_lt (Nat.lt_of_lt_of_le (Heap.lt_size e) I.ok.above))).trans e1⟩
    · by_cases hj : j = i
      · subst hj
        rw [hi] at e1; cases e1
        rw [List.getElem?_set_self hiσ] at e2
        cases e2
        exact ⟨u, r, .inl ⟨hk, by simp⟩⟩
      · rw [List.getElem?_set_ne (Ne.symm hj)] at e2
        obtain ⟨u', r', q⟩ := hl j y v' e1 e2 e3
        refine ⟨u', r', ?_⟩
        rcases q with ⟨k, e⟩ | ⟨k, c, e, z⟩
        · refine .inl ⟨k, ?_⟩
          have : y ≠ x := fun e => hj (nodup_ix hN e1 (e ▸ hi))
          simp [this, e]
        · exact .inr ⟨k, c, e, z.sameBut hs (cne y c e)⟩
    · obtain ⟨w', z⟩ := I.cell y c e
      exact ⟨w', z.sameBut hs (cne y c e)⟩
    · obtain ⟨e, n, ne, nf, d⟩ := I.pin p hp
      exact ⟨(hs.2 p.1 ne).trans e, n, ne, nf, d⟩
  · have hfn : X.fn x = true := by
      rcases hf with z | z
      · exact z
      · rw [z] at hk; cases hk
    obtain ⟨c, hc⟩ := I.ok.has x (.inl hk)
    obtain ⟨w', z⟩ := I.cell x c hc
    refine wpAny_storeName_cell I.ok.kind hk hc z (fun h' hc' hs => ?_)
    obtain ⟨oc, hoc, hocd⟩ := id z
    refine h { s with heap := h' } ⟨I.ok, I.os, I.bare, ⟨fun b o e n hb hx => ?_, fun b o e n hb hx => ?_, I.base.free, fun b o e hx => ?_, I.base.tups, I.base.frzs, I.base.tbls⟩, ⟨m, hn.sameBut hs (Ne.symm (cne x c hc)), fun j y v' e1 e2 e3 => ?_⟩, fun y c' e => ?_, I.free, I.freeC, fun p hp => ?_, tracked ⟨oc, hoc, I.freeC x c hc⟩ hs, by simpa using I.len⟩ ⟨c, hs, .inr hc⟩
    · exact (hs.2 b (Nat.ne_of_lt (Nat.lt_of_lt_of_le (Heap.lt_size e) (I.ok.cab x c hfn hc)))).trans (I.base.keep b o e n hb hx)
    · obtain ⟨sl, e1⟩ := I.base.slot b o e n hb hx
      exact ⟨sl, (hs.2 b (Nat.ne_of_lt (Nat.lt_of_lt_of_le (Heap.lt_size e) (I.ok.cab x c hfn hc)))).trans e1⟩
    · obtain ⟨o', e1⟩ := I.base.there b o e hx
      exact ⟨o', (hs.2 b (Nat.ne_of_lt (Nat.lt_of_lt_of_le (Heap.lt_size e) (I.ok.cab x c hfn hc)))).trans e1⟩
    · by_cases hj : j = i
      · subst hj
        rw [hi] at e1; cases e1
        rw [List.getElem?_set_self hiσ] at e2
        cases e2
        exact ⟨u, r, .inr ⟨.inl hk, c, hc, hc'⟩⟩
      · rw [List.getElem?_set_ne (Ne.symm hj)] at e2
        obtain ⟨u', r', q⟩ := hl j y v' e1 e2 e3
        refine ⟨u', r', ?_⟩
        rcases q with q | ⟨k, c', e, z'⟩
        · exact .inl q
        · refine .inr ⟨k, c', e, z'.sameBut hs ?_⟩
          rintro rfl
          exact hj (nodup_ix hN e1 (I.ok.inj _ _ _ e hc ▸ hi))
    · by_cases hcc : c' = c
      · subst hcc; exact ⟨_, hc'⟩
      · obtain ⟨w2, z2⟩ := I.cell y c' e
        exact ⟨w2, z2.sameBut hs hcc⟩
    · obtain ⟨e, n, ne, nf, d⟩ := I.pin p hp
      refine ⟨(hs.2 p.1 ?_).trans e, n, ne, nf, d⟩
      intro q
      rw [q, hoc] at e
      have q' : oc = p.2 := Option.some.inj e
      exact d w' (by rw [← q']; exact hocd)
theorem store_ok {M : Model} {A : Around} {E : Value → Shared → Prop} {i : Nat} {x : Str} {v : V} {u : Value} {Q : Unit → Shared → Prop} (I : Inv X pins σ H s) (hN : X.N.Nodup) (hi : X.N[i]? = some x) (hx : Loc X.env.scope x) (r : RelV v u)
    (h : ∀ s', Inv X pins (σ.set i (some v)) H s' → Q () s') (hf : X.fn x = true ∨ X.env.scope.names.lookup x = some .local := by first | exact .inl rfl | exact .inr rfl | assumption) : wpAny M A (storeName X.env x u) Q E s :=
  store_ok2 I hN hi hx r (fun s' I' _ => h s' I') hf
theorem Inv.call' {s' : Shared} {ch : List Addr} (I : Inv X pins σ H s) (ho : s'.os = s.os) (u : Un (frs X.stack) ch H H' s.heap s'.heap) (hok : HOk X.prog X.w H' s'.heap) (hg : AllBare s'.gens)
    (hch : ∀ b ∈ ch, (b ∈ X.ex ∨ X.s₀.heap.objs.size ≤ b) ∧ b ≠ X.env.locals ∧ (∀ x c, X.env.cells.lookup x = some c → c ≠ b) ∧ ∀ p ∈ X.pn ++ pins, p.1 ≠ b) : Inv X pins σ H' s' := by
  obtain ⟨h', g', d', t', o'⟩ := s'
  have e : o' = s.os := ho
  subst e
  exact I.call (g' := g') (t' := t') (d' := d') u hok hg hch
end

abbrev XK := Value → Option Addr → Hp → Prop
abbrev St := List (Option V)
abbrev VK := V → Hp → Prop
abbrev TE := St → Hp → VK → Prop
abbrev TT := St → Hp → (Bool → Hp → Prop) → Prop
abbrev TA := St → Hp → (List V → Hp → Prop) → Prop
structure Ends where
  nx : St → Hp → Prop
  rt : VK
  bk : St → Hp → Prop := fun _ _ => False
  ct : St → Hp → Prop := fun _ _ => False
abbrev TS := Ends → St → Hp → Prop

def EP (X : Cx) (pins : List (Addr × Obj)) (σ : St) (Q : VK) (u : Value) (s' : Shared) : Prop := ∃ v H', Inv X pins σ H' s' ∧ RelV v u ∧ Q v H'
def TP (X : Cx) (pins : List (Addr × Obj)) (σ : St) (Q : Bool → Hp → Prop) (b : Bool) (s' : Shared) : Prop := ∃ H', Inv X pins σ H' s' ∧ Q b H'
def AP (X : Cx) (pins : List (Addr × Obj)) (σ : St) (Q : List V → Hp → Prop) (us : List Value) (s' : Shared) : Prop := ∃ vs H', Inv X pins σ H' s' ∧ Vals vs us ∧ Q vs H'
def SP (X : Cx) (pins : List (Addr × Obj)) (D : Ends) (f : Flow) (s' : Shared) : Prop :=
  match f with
  | .next => ∃ σ' H', Inv X pins σ' H' s' ∧ D.nx σ' H'
  | .brk => ∃ σ' H', Inv X pins σ' H' s' ∧ D.bk σ' H'
  | .cont => ∃ σ' H', Inv X pins σ' H' s' ∧ D.ct σ' H'
  | .ret u => ∃ v σ' H', Inv X pins σ' H' s' ∧ RelV v u ∧ D.rt v H'

def PE (X : Cx) (e : Expr) (t : TE) : Prop :=
  ∀ (pins : List (Addr × Obj)) (s : Shared) (σ : St) (H : Hp) (Q : VK), Inv X pins σ H s → t σ H Q → wpAny (model X.prog X.w) X.A (eval e X.env) (EP X pins σ Q) X.xe s
def PT (X : Cx) (e : Expr) (t : TT) : Prop :=
  ∀ (pins : List (Addr × Obj)) (s : Shared) (σ : St) (H : Hp) (Q : Bool → Hp → Prop), Inv X pins σ H s → t σ H Q → wpAny (model X.prog X.w) X.A (isTrue e X.env (eval e X.env)) (TP X pins σ Q) X.xe s
def PW (X : Cx) (e : Expr) (t : TT) : Prop :=
  ∀ (whole : Sem Value) (pins : List (Addr × Obj)) (s : Shared) (σ : St) (H : Hp) (Q : Bool → Hp → Prop), Inv X pins σ H s → t σ H Q → wpAny (model X.prog X.w) X.A (isTrue e X.env whole) (TP X pins σ Q) X.xe s
theorem PW.pt {X : Cx} {e : Expr} {t : TT} (h : PW X e t) : PT X e t := h _
def PA (X : Cx) (es : List Expr) (t : TA) : Prop :=
  ∀ (pos : Pos) (pins : List (Addr × Obj)) (s : Shared) (σ : St) (H : Hp) (Q : List V → Hp → Prop), Inv X pins σ H s → t σ H Q → wpAny (model X.prog X.w) X.A (spliced (backTo pos (starEach es X.env))) (AP X pins σ Q) X.xe s
def PS (X : Cx) (st : Stmt) (t : TS) : Prop :=
  ∀ (pins : List (Addr × Obj)) (s : Shared) (σ : St) (H : Hp) (D : Ends), Inv X pins σ H s → t D σ H → wpAny (model X.prog X.w) X.A (exec st X.env) (SP X pins D) X.xe s
def PSs (X : Cx) (st : List Stmt) (t : TS) : Prop :=
  ∀ (pins : List (Addr × Obj)) (s : Shared) (σ : St) (H : Hp) (D : Ends), Inv X pins σ H s → t D σ H → wpAny (model X.prog X.w) X.A (execs st X.env) (SP X pins D) X.xe s
theorem thn {α : Type} {t : Sem α} {Q Q' : α → Shared → Prop} {M : Model} {A : Around} {E : Value → Shared → Prop} {s : Shared} (h : wpAny M A t Q E s) (hQ : ∀ a s, Q a s → Q' a s) : wpAny M A t Q' E s := wpAny_mono h hQ fun _ _ x => x
end L2

namespace L2
open PySem PySem.Spec PyProof.Rows
section
variable {X : Cx}

def tVar (i : Nat) : TE := fun σ H Q => ∃ v, σ[i]? = some (some v) ∧ Q v H
def tC (v : V) : TE := fun _ H Q => Q v H
theorem pe_var {i : Nat} {x : Str} {pos : Pos} (hN : X.N[i]? = some x) (hv : Vis X.env.scope x) (hd : (x == ("__debug__" : Str)) = false := by decide) (hcd : (x == ("__classdict__" : Str)) = false := by decide) : PE X (.Name x pos) (tVar i) := by
  intro pins s σ H Q I h
  obtain ⟨v, e, h⟩ := h
  obtain ⟨m, hn, hl⟩ := I.loc
  obtain ⟨u, r, l⟩ := hl i x v hN e hv
  have fin : EP X pins σ Q u s := ⟨v, H, I, r, h⟩
  rcases l with ⟨hk, hm⟩ | ⟨hk, c, hc, hcell⟩
  · exact wpAny_Name (wpAny_loadName_local I.ok.kind hk hn hm fin) hd
  · rcases hk with hk | hk
    · exact wpAny_Name (wpAny_loadName_cell I.ok.kind hk hc hcell fin) hd
    · exact wpAny_Name (wpAny_loadName_free I.ok.kind hk hc hcell fin hcd) hd
theorem pe_int {i j pos} : PE X (.Constant (.int i) j pos) (tC (.int i)) := fun _ _ _ H _ I h => wpAny_Constant_int ⟨.int i, H, I.tok _, ⟨_, rfl⟩, h⟩
theorem pe_bl {b j pos} : PE X (.Constant (.bool b) j pos) (tC (.bl b)) := fun _ _ _ H _ I h => Constant_bool ⟨.bl b, H, I, rfl, h⟩
theorem pe_non {j pos} : PE X (.Constant .none j pos) (tC .non) := fun _ _ _ H _ I h => Constant_none ⟨.non, H, I, rfl, h⟩
theorem pe_str {x j pos} : PE X (.Constant (.str x) j pos) (tC (.str x)) := fun _ _ _ H _ I h => Calls.Constant_str ⟨.str x, H, I.tok _, ⟨_, rfl⟩, h⟩

def Gl (X : Cx) (x : Str) : Prop := X.env.kindOf x = some .globalImplicit
theorem ld_glob {E : Value → Shared → Prop} {pins : List (Addr × Obj)} {s : Shared} {σ : St} {H : Hp} {x : Str} {u : Value} {pos : Pos} {Q : Value → Shared → Prop} (I : Inv X pins σ H s) (hg : Gl X x) (hm : X.mg x = some u) (h : Q u s)
    (hd : (x == ("__debug__" : Str)) = false := by decide) : wpAny (model X.prog X.w) X.A (eval (.Name x pos) X.env) Q E s :=
  Calls.Name_function_global I.ok.kind hg (Calls.loadGlobal_global (by rw [I.ok.glob]; exact I.mod.glob.keeps I.bk) hm h) hd
theorem ld_blt {E : Value → Shared → Prop} {pins : List (Addr × Obj)} {s : Shared} {σ : St} {H : Hp} {x : Str} {u : Value} {pos : Pos} {Q : Value → Shared → Prop} (I : Inv X pins σ H s) (hg : Gl X x) (hm : X.mg x = none) (hv : bootBuiltins x = some u) (h : Q u s)
    (hn : x ≠ "__name__" := by decide) (hd : (x == ("__debug__" : Str)) = false := by decide) : wpAny (model X.prog X.w) X.A (eval (.Name x pos) X.env) Q E s := by
  obtain ⟨mb, h1, h2⟩ := I.mod.blt
  exact Calls.Name_function_global I.ok.kind hg (Calls.loadGlobal_builtin (by rw [I.ok.glob]; exact I.mod.glob.keeps I.bk) hm (by rw [I.ok.blt]; exact h1.keeps I.bk) ((h2 x hn).trans hv) h) hd
theorem pe_glob {x : Str} {v : V} {u : Value} {pos : Pos} (hg : Gl X x) (hm : X.mg x = some u) (r : RelV v u) (hd : (x == ("__debug__" : Str)) = false := by decide) : PE X (.Name x pos) (tC v) :=
  fun _ _ _ H _ I h => ld_glob I hg hm ⟨v, H, I, r, h⟩ hd
theorem pe_bltn {x : Str} {v : V} {u : Value} {pos : Pos} (hg : Gl X x) (hm : X.mg x = none) (hv : bootBuiltins x = some u) (r : RelV v u) (hn : x ≠ "__name__" := by decide) (hd : (x == ("__debug__" : Str)) = false := by decide) : PE X (.Name x pos) (tC v) :=
  fun _ _ _ H _ I h => ld_blt I hg hm hv ⟨v, H, I, r, h⟩ hn hd

variable {a b : Expr} {ta tb : TE} {pos : Pos}
def tB (t : TE) : TT := fun σ H Q => t σ H fun x H1 => ∃ c, x = .bl c ∧ Q c H1
theorem pt_val {e : Expr} {t : TE} (h : PE X e t) (he : ∀ whole, isTrue e X.env whole = (do let v ← whole; standAt e.pos; holding [v] (truthy v)) := by intro _; rfl) : PT X e (tB t) := by
  intro pins s σ H Q I hw
  refine isTrue_plain (thn (h pins s σ H _ I hw) fun v s1 ⟨x, H1, I1, r1, q1⟩ => ?_) (he _)
  obtain ⟨d, rfl, q⟩ := q1
  cases r1
  exact wpAny_truthy_bool ⟨H1, I1, q⟩

variable {tA tB' : TT} {rest : List Expr}
def tAnd (t u : TT) : TT := fun σ H Q => t σ H fun c H1 => if c = true then u σ H1 Q else Q false H1
def tOr (t u : TT) : TT := fun σ H Q => t σ H fun c H1 => if c = true then Q true H1 else u σ H1 Q
def tNot (t : TT) : TT := fun σ H Q => t σ H fun c H1 => Q (!c) H1
theorem pw_and1 (ha : PT X a tA) : PW X (.BoolOp .And [a] pos) tA := by
  intro wh pins s σ H Q I h
  refine isTrue_and (thn (ha pins s σ H Q I h) fun c s1 e => ?_)
  cases c with
  | true => exact isTrue_and_nil e
  | false => exact e
theorem pw_or1 (ha : PT X a tA) : PW X (.BoolOp .Or [a] pos) tA := by
  intro wh pins s σ H Q I h
  refine isTrue_or (thn (ha pins s σ H Q I h) fun c s1 e => ?_)
  cases c with
  | false => exact isTrue_or_nil e
  | true => exact e
theorem pw_and (ha : PT X a tA) (hb : PW X (.BoolOp .And (b :: rest) pos) tB') : PW X (.BoolOp .And (a :: b :: rest) pos) (tAnd tA tB') := by
  intro wh pins s σ H Q I h
  refine isTrue_and (thn (ha pins s σ H _ I h) fun c s1 ⟨H1, I1, q1⟩ => ?_)
  cases c with
  | true => exact hb wh pins s1 σ H1 Q I1 q1
  | false => exact ⟨H1, I1, q1⟩
theorem pw_or (ha : PT X a tA) (hb : PW X (.BoolOp .Or (b :: rest) pos) tB') : PW X (.BoolOp .Or (a :: b :: rest) pos) (tOr tA tB') := by
  intro wh pins s σ H Q I h
  refine isTrue_or (thn (ha pins s σ H _ I h) fun c s1 ⟨H1, I1, q1⟩ => ?_)
  cases c with
  | true => exact ⟨H1, I1, q1⟩
  | false => exact hb wh pins s1 σ H1 Q I1 q1
theorem pt_not (ha : PT X a tA) : PT X (.UnaryOp .Not a pos) (tNot tA) := by
  intro pins s σ H Q I h
  exact isTrue_not (ha pins s σ H (fun c H1 => Q (!c) H1) I h)
def tAndV (ta tb : TE) : TE := fun σ H Q => ta σ H fun x H1 => ∃ c, x = .bl c ∧ if c = true then tb σ H1 Q else Q (.bl false) H1
theorem pe_one {op} {t : TE} (h : PE X a t) : PE X (.BoolOp op [a] pos) t := fun pins s σ H Q I hw => BoolOp_one (h pins s σ H Q I hw)
theorem pe_and (ha : PE X a ta) (hb : PE X (.BoolOp .And (b :: rest) pos) tb) : PE X (.BoolOp .And (a :: b :: rest) pos) (tAndV ta tb) := by
  intro pins s σ H Q I h
  refine BoolOp_and (thn (ha pins s σ H _ I h) fun v s1 ⟨x, H1, I1, r1, q1⟩ => ?_)
  obtain ⟨c, rfl, q1⟩ := q1
  cases r1
  refine wpAny_truthy_bool ?_
  cases c with
  | true => exact hb pins s1 σ H1 Q I1 q1
  | false => exact ⟨.bl false, H1, I1, rfl, q1⟩
def tIf (t : TT) (ta tb : TE) : TE := fun σ H Q => t σ H fun c H1 => if c = true then ta σ H1 Q else tb σ H1 Q
theorem pe_ifExp {c : Expr} (hc : PT X c tA) (ha : PE X a ta) (hb : PE X b tb) : PE X (.IfExp c a b pos) (tIf tA ta tb) := by
  intro pins s σ H Q I h
  refine wpAny_IfExp (thn (hc pins s σ H _ I h) fun d s1 ⟨H1, I1, q1⟩ => ?_)
  cases d with
  | true => exact ha pins s1 σ H1 Q I1 q1
  | false => exact hb pins s1 σ H1 Q I1 q1
end
end L2

namespace L2
open PySem PySem.Spec PyProof.Rows

def SqL (K : PySem.W.Frag) (H : Hp) (a : Addr) (xs : List V) : Prop :=
  Rd H a (.lst xs) ∨
    ∃ (o : Obj) (its : Array Value) (n : Nat), K.lookup a = some o ∧ o.cls = .type "list" ∧ o.dict = none ∧ o.data = .seq its n ∧ its.size ≤ sizeLine ∧ Vals xs its.toList
def SqT (K : PySem.W.Frag) (H : Hp) (a : Addr) (xs : List V) : Prop :=
  Rd H a (.tup xs) ∨
    ∃ (o : Obj) (its : Array Value) (n : Nat), K.lookup a = some o ∧ o.cls = .type "tuple" ∧ o.data = .seq its n ∧ its.size ≤ sizeLine ∧ Vals xs its.toList
def absV : Value → Option V
  | .none => some .non
  | .bool b => some (.bl b)
  | .int i _ => some (.int i)
  | .str x _ => some (.str x)
  | .bytes b _ => some (.byt b)
  | .float b _ => some (.flt b)
  | .ref a => some (.ref a)
  | .type n => some (.ty n)
  | _ => none
theorem RelV.abs {x : V} {u : Value} (r : RelV x u) : absV u = some x := by
  cases x with
  | non => cases r; rfl
  | bl _ => cases r; rfl
  | int _ => obtain ⟨t, rfl⟩ := r; rfl
  | str _ => obtain ⟨t, rfl⟩ := r; rfl
  | byt _ => obtain ⟨t, rfl⟩ := r; rfl
  | flt _ => obtain ⟨t, rfl⟩ := r; rfl
  | ref _ => cases r; rfl
  | ty _ => cases r; rfl
theorem RelV.inj {x y : V} {u : Value} (r : RelV x u) (q : RelV y u) : x = y := Option.some.inj (r.abs.symm.trans q.abs)
theorem Vals.inj : ∀ {xs ys : List V} {us : List Value}, Vals xs us → Vals ys us → xs = ys
  | _, _, _, .nil, .nil => rfl
  | _, _, _, .cons r t, .cons r' t' => by rw [r.inj r', Vals.inj t t']
section
variable {X : Cx} {pins : List (Addr × Obj)} {σ : St} {H : Hp} {s : Shared} {a : Addr} {xs ys : List V}
theorem SqL.of {K : PySem.W.Frag} (h : H a = some (.lst xs)) : SqL K H a xs := .inl (.inl h)
theorem SqT.of {K : PySem.W.Frag} (h : H a = some (.tup xs)) : SqT K H a xs := .inl (.inl h)
theorem Inv.list (I : Inv X pins σ H s) (h : SqL X.K H a xs) : ∃ its : List Value, Vals xs its ∧ PlainL s.heap a its.toArray ∧ xs.length ≤ sizeLine := by
  rcases h with h | ⟨o, its, n, hk, hc, hd, hs, hz, r⟩
  · obtain ⟨z, its, n, r, e⟩ := h.ok I.hok
    exact ⟨its, r, ⟨_, n, e, rfl, rfl, rfl⟩, z⟩
  · refine ⟨its.toList, r, ⟨o, n, I.kIn a o hk, hc, hd, by simpa using hs⟩, ?_⟩
    have e := r.length
    simp only [Array.length_toList] at e
    omega
theorem Inv.tuple (I : Inv X pins σ H s) (h : SqT X.K H a xs) : ∃ its : List Value, Vals xs its ∧ IsTup s.heap a its.toArray ∧ xs.length ≤ sizeLine := by
  rcases h with h | ⟨o, its, n, hk, hc, hs, hz, r⟩
  · obtain ⟨z, its, r, p⟩ := h.ok I.hok
    exact ⟨its, r, p, z⟩
  · refine ⟨its.toList, r, ⟨o, I.kIn a o hk, hc, n, by simpa using hs⟩, ?_⟩
    have e := r.length
    simp only [Array.length_toList] at e
    omega
theorem Inv.list_inj (I : Inv X pins σ H s) (h : SqL X.K H a xs) (h' : SqL X.K H a ys) : xs = ys := by
  obtain ⟨its, r, ⟨o, n, e, _, _, d⟩, _⟩ := I.list h
  obtain ⟨its', r', ⟨o', n', e', _, _, d'⟩, _⟩ := I.list h'
  rw [e] at e'; cases e'
  rw [d] at d'
  injection d' with d1 _
  have : its = its' := by simpa using congrArg Array.toList d1
  subst this
  exact r.inj r'
theorem Inv.tuple_inj (I : Inv X pins σ H s) (h : SqT X.K H a xs) (h' : SqT X.K H a ys) : xs = ys := by
  obtain ⟨its, r, ⟨o, e, _, n, d⟩, _⟩ := I.tuple h
  obtain ⟨its', r', ⟨o', e', _, n', d'⟩, _⟩ := I.tuple h'
  rw [e] at e'; cases e'
  rw [d] at d'
  injection d' with d1 _
  have : its = its' := by simpa using congrArg Array.toList d1
  subst this
  exact r.inj r'
end

abbrev Cx.wish (X : Cx) (E : Value → Shared → Prop) : Cx := { X with xe := E }
abbrev Cx.nox (X : Cx) : Cx := X.wish fun _ _ => False
theorem Cx.Ok.wish {X : Cx} (ok : X.Ok) (E : Value → Shared → Prop) : (X.wish E).Ok :=
  ⟨ok.mod, ok.kind, ok.glob, ok.blt, ok.above, ok.inj, ok.has, ok.cab, ok.hd, ok.frames, ok.stk, ok.exf, ok.bs, ok.bsz, ok.noex, ok.exfs, ok.funs, ok.frf⟩
theorem Cx.Ok.unwish {X : Cx} {E : Value → Shared → Prop} (ok : (X.wish E).Ok) : X.Ok :=
  ⟨ok.mod, ok.kind, ok.glob, ok.blt, ok.above, ok.inj, ok.has, ok.cab, ok.hd, ok.frames, ok.stk, ok.exf, ok.bs, ok.bsz, ok.noex, ok.exfs, ok.funs, ok.frf⟩
section
variable {X : Cx} {pins : List (Addr × Obj)} {σ : St} {H : Hp} {s : Shared} {E : Value → Shared → Prop}
theorem Inv.wish (I : Inv X pins σ H s) (E : Value → Shared → Prop) : Inv (X.wish E) pins σ H s := ⟨I.ok.wish E, I.os, I.bare, I.base, I.loc, I.cell, I.free, I.freeC, I.pin, I.hok, I.len⟩
theorem Inv.unwish (I : Inv (X.wish E) pins σ H s) : Inv X pins σ H s := ⟨I.ok.unwish, I.os, I.bare, I.base, I.loc, I.cell, I.free, I.freeC, I.pin, I.hok, I.len⟩
theorem SP.unwish {D : Ends} {f : Flow} {s' : Shared} (h : SP (X.wish E) pins D f s') : SP X pins D f s' := by
  cases f with
  | next => obtain ⟨σ', H', I, q⟩ := h; exact ⟨σ', H', I.unwish, q⟩
  | brk => obtain ⟨σ', H', I, q⟩ := h; exact ⟨σ', H', I.unwish, q⟩
  | cont => obtain ⟨σ', H', I, q⟩ := h; exact ⟨σ', H', I.unwish, q⟩
  | ret u => obtain ⟨v, σ', H', I, r, q⟩ := h; exact ⟨v, σ', H', I.unwish, r, q⟩
theorem PE.nox {e : Expr} {t : TE} (h : PE X.nox e t) : PE X e t := fun pins s σ H Q I hw =>
  wpAny_mono (h pins s σ H Q (I.wish _) hw) (fun _ _ ⟨v, H', I', r, q⟩ => ⟨v, H', I'.unwish, r, q⟩) fun _ _ z => False.elim z
theorem PT.nox {e : Expr} {t : TT} (h : PT X.nox e t) : PT X e t := fun pins s σ H Q I hw =>
  wpAny_mono (h pins s σ H Q (I.wish _) hw) (fun _ _ ⟨H', I', q⟩ => ⟨H', I'.unwish, q⟩) fun _ _ z => False.elim z
theorem PSs.nox {st : List Stmt} {t : TS} (h : PSs X.nox st t) : PSs X st t := fun pins s σ H D I hw =>
  wpAny_mono (h pins s σ H D (I.wish _) hw) (fun _ _ q => q.unwish) fun _ _ z => False.elim z
end

section
variable {X : Cx} {st : Stmt} {rest : List Stmt} {t u : TS} {e : Expr} {te : TE} {pos : Pos}
def tNext : TS := fun D σ H => D.nx σ H
def tSeq (t u : TS) : TS := fun D σ H => t { D with nx := u D } σ H
theorem pss_nil : PSs X [] tNext := fun _ _ σ H _ I h => wpAny_execs_nil ⟨σ, H, I, h⟩
theorem pss_cons (h1 : PS X st t) (h2 : PSs X rest u) : PSs X (st :: rest) (tSeq t u) := by
  intro pins s σ H D I h
  refine wpAny_execs_cons (thn (h1 pins s σ H { D with nx := u D } I h) fun f s1 q => ?_)
  cases f with
  | next =>
    obtain ⟨σ', H', I', q⟩ := q
    exact h2 pins s1 σ' H' D I' q
  | ret v => exact q
  | brk => exact q
  | cont => exact q
theorem pss_one (h1 : PS X st t) : PSs X [st] t := by
  intro pins s σ H D I h
  refine wpAny_execs_cons (thn (h1 pins s σ H D I h) fun f s1 q => ?_)
  cases f with
  | next => exact wpAny_execs_nil q
  | ret v => exact q
  | brk => exact q
  | cont => exact q
def tBreak : TS := fun D σ H => D.bk σ H
theorem ps_break : PS X (.Break pos) tBreak := fun _ _ σ H _ I h => wpAny_Break ⟨σ, H, I, h⟩
theorem Inv.quiet {pins : List (Addr × Obj)} {σ : St} {H : Hp} {s : Shared} (I : Inv X pins σ H s) : interactive X.env = false := by simp [interactive, I.ok.kind]
def tDrop (te : TE) : TS := fun D σ H => te σ H fun _ H1 => D.nx σ H1
theorem ps_expr (he : PE X e te) (hs : swapsWith e none pos.line X.env = pure false := by rfl) : PS X (.Expr e pos) (tDrop te) := by
  intro pins s σ H D I h
  exact wpAny_Expr_any (thn (he pins s σ H _ I h) fun v s1 ⟨x, H1, I1, r1, q1⟩ => ⟨σ, H1, I1, q1⟩) I.quiet hs
def tRet (te : TE) : TS := fun D σ H => te σ H D.rt
theorem ps_ret (he : PE X e te) : PS X (.Return (some e) pos) (tRet te) := by
  intro pins s σ H D I h
  exact wpAny_Return_some (thn (he pins s σ H _ I h) fun v s1 ⟨x, H1, I1, r1, q1⟩ => ⟨x, σ, H1, I1, r1, q1⟩)
def tIfS (c : TT) (t u : TS) : TS := fun D σ H => c σ H fun b H1 => if b = true then t D σ H1 else u D σ H1
theorem ps_if {c : Expr} {a b : List Stmt} {tc : TT} (hc : PT X c tc) (ha : PSs X a t) (hb : PSs X b u) : PS X (.If c a b pos) (tIfS tc t u) := by
  intro pins s σ H D I h
  refine wpAny_If (thn (hc pins s σ H _ I h) fun d s1 ⟨H1, I1, q1⟩ => ?_)
  cases d with
  | true => exact ha pins s1 σ H1 D I1 q1
  | false => exact hb pins s1 σ H1 D I1 q1
def tNever : TS := fun _ _ _ => False
theorem ps_never : PS X st tNever := fun _ _ _ _ _ _ h => h.elim
end

abbrev TG := V → St → Hp → (St → Hp → Prop) → Prop
abbrev TGs := List V → St → Hp → (St → Hp → Prop) → Prop
def PG (X : Cx) (target : Expr) (t : TG) : Prop :=
  ∀ (pins : List (Addr × Obj)) (s : Shared) (σ : St) (H : Hp) (v : V) (u : Value) (Q : St → Hp → Prop), Inv X pins σ H s → RelV v u → t v σ H Q →
    wpAny (model X.prog X.w) X.A (assign target X.env u) (fun _ s' => ∃ σ' H', Inv X pins σ' H' s' ∧ Q σ' H') X.xe s
def PGs (X : Cx) (ts : List Expr) (t : TGs) : Prop :=
  ∀ (pins : List (Addr × Obj)) (s : Shared) (σ : St) (H : Hp) (vs : List V) (us : List Value) (Q : St → Hp → Prop), Inv X pins σ H s → Vals vs us → t vs σ H Q →
    wpAny (model X.prog X.w) X.A (assignInOrder ((assignEach ts X.env).map (·.2)) us) (fun _ s' => ∃ σ' H', Inv X pins σ' H' s' ∧ Q σ' H') X.xe s
abbrev TIp := V → V → Hp → VK → Prop
def PIp (X : Cx) (op : Operator) (t : TIp) : Prop :=
  ∀ (pins : List (Addr × Obj)) (s : Shared) (σ : St) (H : Hp) (x y : V) (v u : Value) (Q : VK), Inv X pins σ H s → RelV x v → RelV y u → t x y H Q →
    wpAny (model X.prog X.w) X.A (inplaceOp op v u) (EP X pins σ Q) X.xe s
section
variable {X : Cx} {pos : Pos}
def gName (i : Nat) : TG := fun v σ H Q => Q (σ.set i (some v)) H
theorem pg_name {i : Nat} {x : Str} (hN : X.N.Nodup) (hi : X.N[i]? = some x) (hx : Loc X.env.scope x) (hf : X.fn x = true ∨ X.env.scope.names.lookup x = some .local := by first | exact .inl rfl | exact .inr rfl | assumption) : PG X (.Name x pos) (gName i) := by
  intro pins s σ H v u Q I r h
  exact wpAny_assign_Name (store_ok I hN hi hx r (fun s' I' => ⟨_, H, I', h⟩) hf)
def gNil : TGs := fun vs σ H Q => vs = [] ∧ Q σ H
def gCons (t : TG) (u : TGs) : TGs := fun vs σ H Q => ∃ v r, vs = v :: r ∧ t v σ H fun σ' H' => u r σ' H' Q
theorem pgs_nil : PGs X [] gNil := by
  intro pins s σ H vs us Q I r h
  obtain ⟨e, h⟩ := h
  subst e
  cases r
  exact assignInOrder_nil ⟨σ, H, I, h⟩
theorem pgs_cons {e : Expr} {es : List Expr} {t : TG} {u : TGs} (h1 : PG X e t) (h2 : PGs X es u)
    (hs : (assignEach (e :: es) X.env).map (·.2) = assign e X.env :: (assignEach es X.env).map (·.2) := by rfl) : PGs X (e :: es) (gCons t u) := by
  intro pins s σ H vs us Q I r h
  obtain ⟨v, vr, e1, h⟩ := h
  subst e1
  cases r with
  | cons r rr =>
    rw [hs]
    refine assignInOrder_cons (thn (h1 pins s σ H _ _ _ I r h) fun _ s1 ⟨σ1, H1, I1, q1⟩ => ?_)
    exact h2 pins s1 σ1 H1 _ _ Q I1 rr q1
def gTup (K : PySem.W.Frag) (n : Nat) (t : TGs) : TG := fun v σ H Q => ∃ a xs, v = .ref a ∧ SqT K H a xs ∧ xs.length = n ∧ t xs σ H Q
theorem pg_tup {es : List Expr} {k : Nat} {t : TGs} {n : Nat} (hc : X.calm = true) (h : PGs X es t)
    (hn : (assignEach es X.env).length = n := by rfl) (hst : (assignEach es X.env).findIdx? (·.1) = none := by rfl) : PG X (.Tuple es k pos) (gTup X.K n t) := by
  intro pins s σ H v u Q I r hw
  obtain ⟨a, xs, e1, hq, hl, hw⟩ := hw
  subst e1
  cases r
  obtain ⟨its, rv, ht, hz⟩ := I.tuple hq
  refine assign_Tuple_tuple (I.ok.hd hc) ht (by simp [hn, ← hl, rv.length]) hst fun h' hx => ?_
  have I1 : Inv X pins σ H { s with heap := h' } := I.kept (t' := s.toks) fun b o e => hx b o (Nat.ne_of_lt (Heap.lt_size e)) e
  exact h pins _ σ H xs _ Q I1 (by simpa using rv) hw
def tAsg (te : TE) (g : TG) : TS := fun D σ H => te σ H fun x H1 => g x σ H1 D.nx
theorem ps_asg {tg e : Expr} {te : TE} {g : TG} (he : PE X e te) (hg : PG X tg g) (hs : swapsWithSole [tg] e pos.line X.env = pure false := by rfl) (hw : swappedStores [tg] e X.env = pure none := by rfl)
    (h1 : (assignEach [tg] X.env).map (·.2) = [assign tg X.env] := by rfl) : PS X (.Assign [tg] e pos) (tAsg te g) := by
  intro pins s σ H D I h
  refine wpAny_Assign_stores (thn (he pins s σ H _ I h) fun v s1 ⟨x, H1, I1, r1, q1⟩ => ?_) hs hw
  rw [h1]
  exact thn (hg pins s1 σ H1 x v _ I1 r1 q1) fun _ s2 q => q
theorem ps_set {i : Nat} {x : Str} {e : Expr} {te : TE} {pos' : Pos} (hN : X.N.Nodup) (hi : X.N[i]? = some x) (hx : Loc X.env.scope x) (he : PE X e te) (hs : swapsWith e (some (.Name x pos')) pos.line X.env = pure false := by rfl) (hf : X.fn x = true ∨ X.env.scope.names.lookup x = some .local := by first | exact .inl rfl | exact .inr rfl | assumption) :
    PS X (.Assign [.Name x pos'] e pos) (tAsg te (gName i)) := by
  intro pins s σ H D I h
  refine wpAny_Assign_Name (thn (he pins s σ H _ I h) fun v s1 ⟨y, H1, I1, r1, q1⟩ => ?_) hs
  exact store_ok I1 hN hi hx r1 (fun s2 I2 => ⟨_, H1, I2, q1⟩) hf
def tAug (i : Nat) (te : TE) (ti : TIp) : TS := fun D σ H => ∃ x, σ[i]? = some (some x) ∧ te σ H fun y H1 => ti x y H1 fun z H2 => D.nx (σ.set i (some z)) H2
theorem ps_aug {i : Nat} {x : Str} {e : Expr} {te : TE} {op : Operator} {ti : TIp} {pos' : Pos} (hN : X.N.Nodup) (hi : X.N[i]? = some x) (hx : Loc X.env.scope x) (he : PE X e te) (ho : PIp X op ti) (hf : X.fn x = true ∨ X.env.scope.names.lookup x = some .local := by first | exact .inl rfl | exact .inr rfl | assumption) :
    PS X (.AugAssign (.Name x pos') op e pos) (tAug i te ti) := by
  intro pins s σ H D I h
  obtain ⟨v, e1, h⟩ := h
  obtain ⟨m, hn, hl⟩ := I.loc
  have vis : Vis X.env.scope x := by rcases hx with k | k; exact .inl k; exact .inr (.inl k)
  obtain ⟨u, r, l⟩ := hl i x v hi e1 vis
  refine wpAny_AugAssign_Name ?_
  have go : wpAny (model X.prog X.w) X.A (eval e X.env) (fun w s₂ => wpAny (model X.prog X.w) X.A (inplaceOp op u w) (fun r s₃ => wpAny (model X.prog X.w) X.A (storeName X.env x r) (fun _ => SP X pins D .next) X.xe s₃) X.xe s₂) X.xe s := by
    refine thn (he pins s σ H _ I h) fun w s1 ⟨y, H1, I1, r1, q1⟩ => ?_
    refine thn (ho pins s1 σ H1 v y u w _ I1 r r1 q1) fun z s2 ⟨zv, H2, I2, r2, q2⟩ => ?_
    exact store_ok I2 hN hi hx r2 (fun s3 I3 => ⟨_, H2, I3, q2⟩) hf
  rcases l with ⟨hk, hm⟩ | ⟨hk, c, hc, hcell⟩
  · exact wpAny_loadName_local I.ok.kind hk hn hm go
  · rcases hk with hk | hk
    · exact wpAny_loadName_cell I.ok.kind hk hc hcell go
    · rcases hx with k | k
      · have : X.env.scope.names.lookup x = some .free := hk
        rw [k] at this; cases this
      · have : X.env.scope.names.lookup x = some .free := hk
        rw [k] at this; cases this
end

section
variable {X : Cx} {pos : Pos}
def tWhile (c : TT) (tb : TS) : TS := fun D σ H => ∃ W : Nat → St → Hp → Prop, (∃ m, W m σ H) ∧ ∀ m σ H, W m σ H →
  c σ H fun b H1 => if b = true then ∃ N : St → Hp → Prop, (∀ σ' H', N σ' H' → ∃ m', m' < m ∧ W m' σ' H') ∧ tb { D with nx := N, ct := N, bk := D.nx } σ H1 else D.nx σ H1
theorem ps_while {c : Expr} {body : List Stmt} {tc : TT} {tb : TS} (hp : PassesOwn (model X.prog X.w) X.A X.env X.xe) (hc : PT X c tc) (hb : PSs X body tb) : PS X (.While c body [] pos) (tWhile tc tb) := by
  intro pins s σ H D I h
  obtain ⟨W, ⟨m0, w0⟩, turn⟩ := h
  refine wpAny_While (codeAny_whileLoop (fun n s' => ∃ σ' H', Inv X pins σ' H' s' ∧ W n σ' H') ?_ m0 ⟨σ, H, I, w0⟩)
  rintro n s1 ⟨σ1, H1, I1, w1⟩
  refine wpAny_passesOwn hp (thn (hc pins s1 σ1 H1 _ I1 (turn n σ1 H1 w1)) fun b s2 ⟨H2, I2, q2⟩ => ?_)
  cases b with
  | true =>
    obtain ⟨N, hN, q2⟩ := q2
    rw [if_pos rfl]
    refine wpAny_passesOwn hp (thn (hb pins s2 σ1 H2 _ I2 q2) fun f s3 q3 => ?_)
    cases f with
    | next =>
      obtain ⟨σ3, H3, I3, n3⟩ := q3
      obtain ⟨m', hm, w3⟩ := hN σ3 H3 n3
      exact ⟨m', hm, σ3, H3, I3, w3⟩
    | cont =>
      obtain ⟨σ3, H3, I3, n3⟩ := q3
      obtain ⟨m', hm, w3⟩ := hN σ3 H3 n3
      exact ⟨m', hm, σ3, H3, I3, w3⟩
    | brk => exact q3
    | ret v => exact q3
  | false =>
    rw [if_neg Bool.false_ne_true]
    exact wpAny_execs_nil ⟨σ1, H2, I2, q2⟩
end

structure It where
  go : Nat → Hp → Prop
  yld : Nat → Hp → V → Hp → Prop
  stop : Nat → Hp → Prop
def FpOk (X : Cx) (pins : List (Addr × Obj)) (H : Hp) (b : Addr) : Prop :=
  H b = none ∧ b ≠ X.env.locals ∧ b ∉ X.fs ∧ (b ∈ X.ex ∨ X.s₀.heap.objs.size ≤ b) ∧ (∀ x c, X.env.cells.lookup x = some c → c ≠ b) ∧ ∀ p ∈ X.pn ++ pins, p.1 ≠ b
theorem Inv.fpOk {X : Cx} {pins : List (Addr × Obj)} {σ : St} {H H' : Hp} {s : Shared} {b : Addr} (I : Inv X pins σ H s) (hb : s.heap.objs.size ≤ b) (hn : H' b = none) : FpOk X pins H' b := by
  refine ⟨hn, Nat.ne_of_gt (Nat.lt_of_lt_of_le I.lt hb), I.nofs hb, .inr (Nat.le_trans I.sz hb), fun x c e z => ?_, fun p hp z => ?_⟩
  · obtain ⟨v, q⟩ := I.cell x c e
    exact absurd (Nat.lt_of_lt_of_le q.lt (by rw [z]; exact hb)) (Nat.lt_irrefl _)
  · exact absurd (Nat.lt_of_lt_of_le (Heap.lt_size (I.pin p hp).1) (by rw [z]; exact hb)) (Nat.lt_irrefl _)
structure Turn (P : Program) (w : World) (K : PySem.W.Frag) (tg : Expr) (J : It) (fp : List Addr) (it : Addr) (tn : Nat → Heap → Prop) : Prop where
  mem : it ∈ fp
  obj : ∀ i h, tn i h → ∀ b ∈ fp, ∃ o, h.get? b = some o ∧ ∀ v, o.data ≠ .cell v
  keep : ∀ i h h', tn i h → (∀ b ∈ fp, ∀ o, h.get? b = some o → h'.get? b = some o) → tn i h'
  item : ∀ (X : Cx), X.prog = P → X.w = w → X.K = K → X.calm = true → ∀ (i : Nat) (pins : List (Addr × Obj)) (s : Shared) (σ : St) (H : Hp) (E : Value → Shared → Prop), Inv X pins σ H s → (∀ b ∈ fp, FpOk X pins H b) → tn i s.heap → J.go i H →
    wpAny (model P w) X.A (pyNext (.ref it)) (fun r s1 => ∃ u, r = some u ∧
      wpAny (model P w) X.A (letOwnedTupleGo tg (.ref it) u) (fun _ s2 => ∃ x H', Inv X pins σ H' s2 ∧ RelV x u ∧ J.yld i H x H' ∧ tn (i + 1) s2.heap ∧ ∀ b ∈ fp, H' b = none) E s1) E s
  done : ∀ (X : Cx), X.prog = P → X.w = w → X.K = K → X.calm = true → ∀ (i : Nat) (pins : List (Addr × Obj)) (s : Shared) (σ : St) (H : Hp) (E : Value → Shared → Prop), Inv X pins σ H s → (∀ b ∈ fp, FpOk X pins H b) → tn i s.heap → J.stop i H →
    wpAny (model P w) X.A (pyNext (.ref it)) (fun r s1 => r = none ∧ Inv X pins σ H s1) E s
  self : ∀ (A : Around) (i : Nat) (s : Shared) (Q : Value → Shared → Prop) (E : Value → Shared → Prop), tn i s.heap → Q (.ref it) s → wpAny (model P w) A (pyIter (.ref it)) Q E s
abbrev TI := St → Hp → (It → Hp → Prop) → Prop
def PIE (X : Cx) (pins : List (Addr × Obj)) (σ : St) (tg : Expr) (R : It → Hp → Prop) (itv : Value) (s2 : Shared) : Prop :=
  ∃ (it : Addr) (fp : List Addr) (tn : Nat → Heap → Prop) (J : It) (H' : Hp), itv = .ref it ∧ Inv X pins σ H' s2 ∧ Turn X.prog X.w X.K tg J fp it tn ∧ tn 0 s2.heap ∧ (∀ b ∈ fp, FpOk X pins H' b) ∧ R J H'
def PI (X : Cx) (tg iter : Expr) (wi : TI) : Prop :=
  ∀ (pins : List (Addr × Obj)) (s : Shared) (σ : St) (H : Hp) (R : It → Hp → Prop), Inv X pins σ H s → wi σ H R →
    wpAny (model X.prog X.w) X.A (eval iter X.env) (fun v s1 => wpAny (model X.prog X.w) X.A (pyIter v) (PIE X pins σ tg R) X.xe s1) X.xe s

theorem go_of {M : Model} {A : Around} {E : Value → Shared → Prop} {s : Shared} {tg : Expr} {it : Addr} {u : Value} {o : Obj} {n : String} {vs : Array Value} {Q : Unit → Shared → Prop} (ho : s.heap.get? it = some o) (hc : o.cls = .type n) (hd : o.data = .fields vs)
    (hn : ["enumerate", "zip", "dict_itemiterator", "dict_reverseitemiterator", "odict_iterator", "itertools.zip_longest", "itertools.pairwise"].contains n = false) (hQ : Q () s) : wpAny M A (letOwnedTupleGo tg (.ref it) u) Q E s := by
  unfold letOwnedTupleGo
  cases tg <;> first
    | exact wpAny_pure hQ
    | (cases u <;> first
        | exact wpAny_pure hQ
        | (refine wpAny_bind (wpAny_load ho ?_)
           rw [hc, hd]
           show wpAny M A (if (["enumerate", "zip", "dict_itemiterator", "dict_reverseitemiterator", "odict_iterator", "itertools.zip_longest", "itertools.pairwise"].contains n && vs[0]? == some (rawInt _)) = true then _ else _) Q E s
           rw [if_neg (by intro h; rw [hn, Bool.false_and] at h; cases h)]
           exact wpAny_pure hQ))

def Itl (K : PySem.W.Frag) (a : Addr) : It :=
  ⟨fun i H => ∃ xs x, SqL K H a xs ∧ xs[i]? = some x, fun i H x H' => H' = H ∧ ∀ xs, SqL K H a xs → xs[i]? = some x, fun i H => ∃ xs, SqL K H a xs ∧ xs.length ≤ i⟩
def Itt (K : PySem.W.Frag) (a : Addr) : It :=
  ⟨fun i H => ∃ xs x, SqT K H a xs ∧ xs[i]? = some x, fun i H x H' => H' = H ∧ ∀ xs, SqT K H a xs → xs[i]? = some x, fun i H => ∃ xs, SqT K H a xs ∧ xs.length ≤ i⟩
def Itr (lo : Int) (n : Nat) : It := ⟨fun i _ => i < n, fun i H x H' => H' = H ∧ x = .int (lo + i), fun i _ => n ≤ i⟩
theorem turn_list {P : Program} {w : World} {K : PySem.W.Frag} {tg : Expr} (a it : Addr) : Turn P w K tg (Itl K a) [it] it (fun i h => h.IsListIter it a i) where
  mem := by simp
  obj := fun i h st b hb => by
    have e : b = it := by simpa using hb
    subst e
    obtain ⟨o, e, c, d⟩ := st
    exact ⟨o, e, fun v z => by rw [d] at z; cases z⟩
  keep := fun i h h' st k => st.at fun o e => k it (by simp) o e
  item := by
    intro X hP hw hK hc i pins s σ H E I hf st hg
    subst hP hw hK
    obtain ⟨xs, x, hq, hx⟩ := hg
    obtain ⟨its, rv, p, hz⟩ := I.list hq
    obtain ⟨u, hu, ru⟩ := rv.get hx
    obtain ⟨f0, f1, f2, f3, f4, f5⟩ := hf it (by simp)
    refine wpAny_pyNext_list_item st p.isList (x := u) (by simpa using hu) fun h' st' sb => ?_
    have I1 : Inv X pins σ H { s with heap := h' } := I.turned (t' := s.toks) (fun b o hb e => (sb.2 b hb).trans e) f0 f1 f3 f4 f5
    obtain ⟨o, e, c, d⟩ := id st'
    exact ⟨u, rfl, go_of (s := { s with heap := h' }) e c d (by decide) ⟨x, H, I1, ru, ⟨rfl, fun ys hy => by rw [I.list_inj hy hq]; exact hx⟩, st', fun b hb => (hf b hb).1⟩⟩
  done := by
    intro X hP hw hK hc i pins s σ H E I hf st hg
    subst hP hw hK
    obtain ⟨xs, hq, hx⟩ := hg
    obtain ⟨its, rv, p, hz⟩ := I.list hq
    obtain ⟨f0, f1, f2, f3, f4, f5⟩ := hf it (by simp)
    have hl := rv.length
    exact wpAny_pyNext_list_end (I.ok.hd hc) st p.isList (by simp; omega) fun h' eb => ⟨rfl, I.turned (t' := s.toks) (fun b o hb e => eb b o hb e) f0 f1 f3 f4 f5⟩
  self := fun _ _ _ _ _ st h => wpAny_pyIter_listiter st h
theorem turn_tuple {P : Program} {w : World} {K : PySem.W.Frag} {tg : Expr} (a it : Addr) : Turn P w K tg (Itt K a) [it] it (fun i h => h.IsTupleIter it a i) where
  mem := by simp
  obj := fun i h st b hb => by
    have e : b = it := by simpa using hb
    subst e
    obtain ⟨o, e, c, d⟩ := st
    exact ⟨o, e, fun v z => by rw [d] at z; cases z⟩
  keep := fun i h h' st k => st.at fun o e => k it (by simp) o e
  item := by
    intro X hP hw hK hc i pins s σ H E I hf st hg
    subst hP hw hK
    obtain ⟨xs, x, hq, hx⟩ := hg
    obtain ⟨its, rv, p, hz⟩ := I.tuple hq
    obtain ⟨u, hu, ru⟩ := rv.get hx
    obtain ⟨f0, f1, f2, f3, f4, f5⟩ := hf it (by simp)
    refine wpAny_pyNext_tuple_item st (show s.heap.IsTuple a its.toArray from p) (x := u) (by simpa using hu) fun h' st' sb => ?_
    have I1 : Inv X pins σ H { s with heap := h' } := I.turned (t' := s.toks) (fun b o hb e => (sb.2 b hb).trans e) f0 f1 f3 f4 f5
    obtain ⟨o, e, c, d⟩ := id st'
    exact ⟨u, rfl, go_of (s := { s with heap := h' }) e c d (by decide) ⟨x, H, I1, ru, ⟨rfl, fun ys hy => by rw [I.tuple_inj hy hq]; exact hx⟩, st', fun b hb => (hf b hb).1⟩⟩
  done := by
    intro X hP hw hK hc i pins s σ H E I hf st hg
    subst hP hw hK
    obtain ⟨xs, hq, hx⟩ := hg
    obtain ⟨its, rv, p, hz⟩ := I.tuple hq
    obtain ⟨f0, f1, f2, f3, f4, f5⟩ := hf it (by simp)
    have hl := rv.length
    exact wpAny_pyNext_tuple_end (I.ok.hd hc) st (show s.heap.IsTuple a its.toArray from p) (by simp; omega) fun h' eb => ⟨rfl, I.turned (t' := s.toks) (fun b o hb e => eb b o hb e) f0 f1 f3 f4 f5⟩
  self := fun _ _ _ _ _ st h => wpAny_pyIter_tupleiter st h
theorem turn_range {P : Program} {w : World} {K : PySem.W.Frag} {tg : Expr} (it : Addr) (lo : Int) (n : Nat) : Turn P w K tg (Itr lo n) [it] it (fun i h => IsRangeIter h it (lo + (i : Nat) * 1) ((n : Int) - (i : Nat)) 1) where
  mem := by simp
  obj := fun i h st b hb => by
    have e : b = it := by simpa using hb
    subst e
    exact ⟨_, st, fun v z => by
      have z' : Data.fields _ = Data.cell v := z
      cases z'⟩
  keep := fun i h h' st k => k it (by simp) _ st
  item := by
    intro X hP hw hK hc i pins s σ H E I hf st hg
    subst hP hw hK
    obtain ⟨f0, f1, f2, f3, f4, f5⟩ := hf it (by simp)
    have W := Walks.range (prog := X.prog) (w := X.w) (I.ok.hd hc) it lo 1 n
    refine W.item i s _ _ hg st fun v h' tk hv st' kk => ?_
    obtain ⟨t, rfl⟩ := hv
    have I1 : Inv X pins σ H { s with heap := h', toks := tk } := I.turned (fun b o hb e => kk b o (by simpa using hb) e) f0 f1 f3 f4 f5
    refine ⟨_, rfl, go_of (s := { s with heap := h', toks := tk }) (n := "range_iterator") st' rfl rfl (by decide) ⟨.int (lo + i), H, I1, ⟨t, ?_⟩, ⟨rfl, rfl⟩, st', fun b hb => (hf b hb).1⟩⟩
    rw [Int.mul_one]
  done := by
    intro X hP hw hK hc i pins s σ H E I hf st hg
    subst hP hw hK
    obtain ⟨f0, f1, f2, f3, f4, f5⟩ := hf it (by simp)
    exact wpAny_pyNext_range_end (I.ok.hd hc) st (by have : n ≤ i := hg; omega) fun h' eb => ⟨rfl, I.turned (t' := s.toks) (fun b o hb e => eb b o hb e) f0 f1 f3 f4 f5⟩
  self := fun _ _ _ _ _ st h => wpAny_pyIter_rangeiter st h
end L2

namespace L2
open PySem PySem.Spec PyProof.Rows
section
variable {X : Cx} {tg : Expr}
theorem range_it {pins : List (Addr × Obj)} {σ : St} {H : Hp} {s : Shared} {R : It → Hp → Prop} {E : Value → Shared → Prop} {lo hi : Int} {t u v : Tok} {tk : Nat} (I : Inv X pins σ H s) (h1 : -(2 ^ 62) ≤ lo) (h2 : lo < 2 ^ 62) (h3 : -(2 ^ 62) ≤ hi) (h4 : hi < 2 ^ 62)
    (q : R (Itr lo (hi - lo).toNat) H) : wpAny (model X.prog X.w) X.A (pyIter (.ref s.heap.objs.size)) (PIE X pins σ tg R) E { s with heap := s.heap.push { cls := .type "range", data := .fields #[.int lo t, .int hi u, .int 1 v] }, toks := tk } := by
  refine wpAny_pyIter_range (IsRange.new ..) (small_one h1 h2 h3 h4) ?_
  have I1 : Inv X pins σ H { s with heap := s.heap.push { cls := .type "range", data := .fields #[.int lo t, .int hi u, .int 1 v] }, toks := tk } := I.kept fun b o e => Heap.get?_push_of_some _ e
  refine ⟨(s.heap.push { cls := .type "range", data := .fields #[.int lo t, .int hi u, .int 1 v] }).objs.size, [(s.heap.push { cls := .type "range", data := .fields #[.int lo t, .int hi u, .int 1 v] }).objs.size], _, _, H, rfl,
    I1.kept (t' := tk) fun b o e => Heap.get?_push_of_some _ e, turn_range _ lo (hi - lo).toNat, ?_, fun b hb => ?_, q⟩
  · have e1 : lo + ((0 : Nat) : Int) * 1 = lo := by simp
    have e2 : (((hi - lo).toNat : Nat) : Int) - ((0 : Nat) : Int) = Builtin.Range.rangeSize lo hi 1 := by rw [rangeSize_one]; split <;> omega
    show IsRangeIter _ _ (lo + ((0 : Nat) : Int) * 1) ((((hi - lo).toNat : Nat) : Int) - ((0 : Nat) : Int)) 1
    rw [e1, e2]
    exact Heap.get?_push_size _ rfl
  · have e : b = (s.heap.push { cls := .type "range", data := .fields #[.int lo t, .int hi u, .int 1 v] }).objs.size := by simpa using hb
    subst e
    exact I1.fpOk (Nat.le_refl _) (I1.hok.fresh (Nat.le_refl _))
def iRng1 (ta : TA) : TI := fun σ H R => ta σ H fun vs H1 => ∃ j : Int, vs = [.int j] ∧ -(2 ^ 62) ≤ j ∧ j < 2 ^ 62 ∧ R (Itr 0 j.toNat) H1
theorem pi_range1 {a : Expr} {ta : TA} {p pos : Pos} (hg : Gl X "range") (hm : X.mg "range" = none) (ha : PA X [a] ta) (hs : starEach [a] X.env = [(false, eval a X.env)] := by rfl) : PI X tg (.Call (.Name "range" p) [a] [] pos) (iRng1 ta) := by
  intro pins s σ H R I h
  refine Call_ (ld_blt I hg hm boot_range (PyProof.Rows.callWith_type1 (thn (ha pos pins s σ H _ I h) fun us s1 ⟨vs, H1, I1, r1, q1⟩ => ?_) hs rfl))
  obtain ⟨j, e, q1, q2, q⟩ := q1
  subst e
  cases r1 with
  | cons r rr =>
    cases rr
    obtain ⟨t, rfl⟩ := r
    exact call_range_1 (range_it I1 (by omega) (by omega) q1 q2 (by simpa using q))
def tFor (wi : TI) (g : TG) (tb : TS) : TS := fun D σ H => wi σ H fun J H1 => ∃ W : Nat → Nat → St → Hp → Prop, (∃ m, W 0 m σ H1) ∧ ∀ i m σ H, W i m σ H →
  (J.stop i H ∧ D.nx σ H) ∨ (J.go i H ∧ ∃ N : St → Hp → Prop, (∀ σ' H', N σ' H' → ∃ m', m' < m ∧ W (i + 1) m' σ' H') ∧ ∀ x H', J.yld i H x H' → g x σ H' fun σ2 H2 => tb { D with nx := N, ct := N, bk := D.nx } σ2 H2)
def pinsAt (fp : List Addr) (h : Heap) : List (Addr × Obj) := fp.filterMap fun b => (h.get? b).map fun o => (b, o)
theorem mem_pinsAt {fp : List Addr} {h : Heap} {b : Addr} {o : Obj} (hb : b ∈ fp) (e : h.get? b = some o) : (b, o) ∈ pinsAt fp h := List.mem_filterMap.mpr ⟨b, hb, by rw [e]; rfl⟩
theorem of_pinsAt {fp : List Addr} {h : Heap} {p : Addr × Obj} (hp : p ∈ pinsAt fp h) : p.1 ∈ fp ∧ h.get? p.1 = some p.2 := by
  obtain ⟨b, hb, e⟩ := List.mem_filterMap.mp hp
  cases q : h.get? b with
  | none => rw [q] at e; cases e
  | some o =>
    rw [q] at e
    have e' : (b, o) = p := Option.some.inj e
    subst e'
    exact ⟨hb, q⟩
theorem Inv.pinned {pins : List (Addr × Obj)} {σ : St} {H : Hp} {s : Shared} {fp : List Addr} (I : Inv X pins σ H s) (hf : ∀ b ∈ fp, FpOk X pins H b) (ho : ∀ b ∈ fp, ∃ o, s.heap.get? b = some o ∧ ∀ v, o.data ≠ .cell v) : Inv X (pins ++ pinsAt fp s.heap) σ H s :=
  I.pins_of fun p hp => (List.mem_append.mp hp).elim (fun z => I.pin p (List.mem_append_right _ z)) fun z => by
    obtain ⟨hb, e⟩ := of_pinsAt z
    obtain ⟨f0, f1, f2, _⟩ := hf p.1 hb
    obtain ⟨o, e', d⟩ := ho p.1 hb
    rw [e] at e'; cases e'
    exact ⟨e, f0, f1, f2, d⟩
theorem Inv.unpinned {pins pl : List (Addr × Obj)} {σ : St} {H : Hp} {s : Shared} (I : Inv X (pins ++ pl) σ H s) : Inv X pins σ H s := I.pins_of fun p hp => I.pin p (List.mem_append_right _ (List.mem_append_left _ hp))
theorem ps_for {iter : Expr} {body : List Stmt} {wi : TI} {g : TG} {tb : TS} {pos : Pos} (hp : PassesOwn (model X.prog X.w) X.A X.env X.xe) (hc : X.calm = true) (hi : PI X tg iter wi) (hg : PG X tg g) (hb : PSs X body tb)
    (hs : ∀ x, foldedSetIterable iter X.env x = pure x := by intro _; rfl) : PS X (.For tg iter body [] pos) (tFor wi g tb) := by
  intro pins s σ H D I h
  refine wpAny_For (thn (hi pins s σ H _ I h) fun v s1 h1 => thn h1 fun itv s2 h2 => ?_) hs
  obtain ⟨it, fp, tn, J, H2, e, I2, T, st2, f2, W, ⟨m0, w0⟩, turn⟩ := h2
  subst e
  have stat : ∀ {H' : Hp}, (∀ b ∈ fp, H' b = none) → ∀ b ∈ fp, FpOk X pins H' b := fun hn b hb => ⟨hn b hb, (f2 b hb).2⟩
  refine codeAny_forLoop_any (fun n s' => ∃ i σ' H', Inv X pins σ' H' s' ∧ tn i s'.heap ∧ (∀ b ∈ fp, H' b = none) ∧ W i n σ' H') ?_ m0 ⟨0, σ, H2, I2, st2, fun b hb => (f2 b hb).1, w0⟩
  rintro n s3 ⟨i, σ3, H3, I3, st3, fr3, w3⟩
  rcases turn i n σ3 H3 w3 with ⟨stop, qn⟩ | ⟨go, N, hN, step⟩
  · refine wpAny_passesOwn hp (thn (T.done X rfl rfl rfl hc i pins s3 σ3 H3 X.xe I3 (stat fr3) st3 stop) fun r s4 ⟨hr, I4⟩ => ?_)
    subst hr
    exact wpAny_execs_nil ⟨σ3, H3, I4, qn⟩
  · refine wpAny_passesOwn hp (thn (T.item X rfl rfl rfl hc i pins s3 σ3 H3 X.xe I3 (stat fr3) st3 go) fun r s4 ⟨u, hr, h4⟩ => ?_)
    subst hr
    refine wpAny_passesOwn hp (thn h4 fun _ s5 ⟨x, H5, I5, r5, y5, st5, fr5⟩ => ?_)
    have I5' := I5.pinned (stat fr5) (T.obj _ _ st5)
    refine wpAny_passesOwn hp (thn (hg _ s5 σ3 H5 x u _ I5' r5 (step x H5 y5)) fun _ s6 ⟨σ6, H6, I6, q6⟩ => ?_)
    refine wpAny_passesOwn hp (thn (hb _ s6 σ6 H6 _ I6 q6) fun f s7 q7 => ?_)
    have again : ∀ {σ7 : St} {H7 : Hp}, Inv X (pins ++ pinsAt fp s5.heap) σ7 H7 s7 → N σ7 H7 → ∃ m, m < n ∧ ∃ i σ' H', Inv X pins σ' H' s7 ∧ tn i s7.heap ∧ (∀ b ∈ fp, H' b = none) ∧ W i m σ' H' := fun {σ7 H7} I7 n7 => by
      obtain ⟨m', hm, w7⟩ := hN σ7 H7 n7
      refine ⟨m', hm, i + 1, σ7, H7, I7.unpinned, T.keep _ _ _ st5 fun b hb o e => (I7.pin (b, o) (List.mem_append_right _ (List.mem_append_right _ (mem_pinsAt hb e)))).1, fun b hb => ?_, w7⟩
      obtain ⟨o, e, d⟩ := T.obj _ _ st5 b hb
      exact (I7.pin (b, o) (List.mem_append_right _ (List.mem_append_right _ (mem_pinsAt hb e)))).2.1
    cases f with
    | next => obtain ⟨σ7, H7, I7, n7⟩ := q7; exact again I7 n7
    | cont => obtain ⟨σ7, H7, I7, n7⟩ := q7; exact again I7 n7
    | brk => obtain ⟨σ7, H7, I7, q7⟩ := q7; exact ⟨σ7, H7, I7.unpinned, q7⟩
    | ret v => obtain ⟨x7, σ7, H7, I7, r7, q7⟩ := q7; exact ⟨x7, σ7, H7, I7.unpinned, r7, q7⟩
end

theorem for_list {K : PySem.W.Frag} {a : Addr} {xs : List V} {g : TG} {tb : TS} {D : Ends} {σ : St} {H : Hp} (Pv : Nat → St → Hp → Prop) (h0 : Pv 0 σ H) (hl : ∀ i σ H, i ≤ xs.length → Pv i σ H → SqL K H a xs)
    (hs : ∀ i x σ H, xs[i]? = some x → Pv i σ H → g x σ H fun σ2 H2 => tb { D with nx := Pv (i + 1), ct := Pv (i + 1), bk := D.nx } σ2 H2) (hd : ∀ σ H, Pv xs.length σ H → D.nx σ H) :
    ∃ W : Nat → Nat → St → Hp → Prop, (∃ m, W 0 m σ H) ∧ ∀ i m σ H, W i m σ H →
      ((Itl K a).stop i H ∧ D.nx σ H) ∨ ((Itl K a).go i H ∧ ∃ N : St → Hp → Prop, (∀ σ' H', N σ' H' → ∃ m', m' < m ∧ W (i + 1) m' σ' H') ∧ ∀ x H', (Itl K a).yld i H x H' → g x σ H' fun σ2 H2 => tb { D with nx := N, ct := N, bk := D.nx } σ2 H2) := by
  refine ⟨fun i m σ H => m = xs.length - i ∧ i ≤ xs.length ∧ Pv i σ H, ⟨xs.length, by simp, Nat.zero_le _, h0⟩, ?_⟩
  rintro i m σ H ⟨rfl, hi, p⟩
  have q := hl i σ H hi p
  by_cases hlt : i < xs.length
  · refine .inr ⟨⟨xs, xs[i], q, by simp [hlt]⟩, Pv (i + 1), fun σ' H' p' => ⟨xs.length - (i + 1), by omega, rfl, hlt, p'⟩, fun x H' y => ?_⟩
    obtain ⟨e, y⟩ := y
    subst e
    exact hs i x σ _ (y xs q) p
  · have e : i = xs.length := by omega
    subst e
    exact .inl ⟨⟨xs, q, Nat.le_refl _⟩, hd σ H p⟩
end L2

namespace L2
open PySem PySem.Spec PyProof.Rows

abbrev R2 := V → V → Hp → VK → Prop
def OpR (X : Cx) (f : Value → Value → Sem Value) (r : R2) : Prop :=
  ∀ (pins : List (Addr × Obj)) (s : Shared) (σ : St) (H : Hp) (x y : V) (v u : Value) (Q : VK), Inv X pins σ H s → RelV x v → RelV y u → r x y H Q →
    wpAny (model X.prog X.w) X.A (f v u) (EP X pins σ Q) X.xe s
def UnR (X : Cx) (f : Value → Sem Value) (r : V → Hp → VK → Prop) : Prop :=
  ∀ (pins : List (Addr × Obj)) (s : Shared) (σ : St) (H : Hp) (x : V) (v : Value) (Q : VK), Inv X pins σ H s → RelV x v → r x H Q →
    wpAny (model X.prog X.w) X.A (f v) (EP X pins σ Q) X.xe s
def CallR (X : Cx) (f : Value) (r : List V → Hp → VK → Prop) : Prop :=
  ∀ (pins : List (Addr × Obj)) (s : Shared) (σ : St) (H : Hp) (xs : List V) (us : List Value) (Q : VK), Inv X pins σ H s → Vals xs us → r xs H Q →
    wpAny (model X.prog X.w) X.A (call f us) (EP X pins σ Q) X.xe s
def tOp (r : R2) (ta tb : TE) : TE := fun σ H Q => ta σ H fun x H1 => tb σ H1 fun y H2 => r x y H2 Q
def tUn (r : V → Hp → VK → Prop) (ta : TE) : TE := fun σ H Q => ta σ H fun x H1 => r x H1 Q
def rI (C : Int → Int → Prop) (g : Int → Int → V) : R2 := fun x y H Q => ∃ i j, x = .int i ∧ y = .int j ∧ C i j ∧ Q (g i j) H
def rI0 (g : Int → Int → V) : R2 := fun x y H Q => ∃ i j, x = .int i ∧ y = .int j ∧ Q (g i j) H
def rU (g : Int → V) : V → Hp → VK → Prop := fun x H Q => ∃ i, x = .int i ∧ Q (g i) H

section
variable {X : Cx} {a b c : Expr} {ta tb tc : TE} {pos : Pos}

theorem binT (ha : PE X a ta) (hb : PE X b tb) {pins : List (Addr × Obj)} {s : Shared} {σ : St} {H : Hp} {R : V → V → Hp → Prop} (I : Inv X pins σ H s)
    (h : ta σ H fun x H1 => tb σ H1 fun y H2 => R x y H2) {Q : Value → Shared → Prop} {f : Value → Value → Sem Value}
    (hf : ∀ v u s2 x y H2, Inv X pins σ H2 s2 → RelV x v → RelV y u → R x y H2 → wpAny (model X.prog X.w) X.A (f v u) Q X.xe s2) :
    wpAny (model X.prog X.w) X.A (eval a X.env) (fun v s₁ => wpAny (model X.prog X.w) X.A (eval b X.env) (fun u s₂ => wpAny (model X.prog X.w) X.A (f v u) Q X.xe s₂) X.xe s₁) X.xe s := by
  refine thn (ha pins s σ H _ I h) fun v s1 ⟨x, H1, I1, r1, q1⟩ => ?_
  refine thn (hb pins s1 σ H1 _ I1 q1) fun u s2 ⟨y, H2, I2, r2, q2⟩ => ?_
  exact hf v u s2 x y H2 I2 r1 r2 q2

theorem pe_op {op : Operator} {r : R2} (ho : OpR X (binaryOp op) r) (ha : PE X a ta) (hb : PE X b tb) : PE X (.BinOp a op b pos) (tOp r ta tb) := by
  intro pins s σ H Q I h
  exact wpAny_BinOp (binT ha hb I h fun v u s2 x y H2 I2 rx ry q => ho pins s2 σ H2 x y v u Q I2 rx ry q)
theorem pe_un {op : UnaryOp} {r : V → Hp → VK → Prop} (ho : UnR X (unaryOp op) r) (ha : PE X a ta) : PE X (.UnaryOp op a pos) (tUn r ta) := by
  intro pins s σ H Q I h
  exact UnaryOp_ (thn (ha pins s σ H _ I h) fun v s1 ⟨x, H1, I1, r1, q1⟩ => ho pins s1 σ H1 x v Q I1 r1 q1)
theorem opI {f : Value → Value → Sem Value} {C : Int → Int → Prop} {g : Int → Int → Int}
    (rule : ∀ (i j : Int) (t u : Tok) (s : Shared) (Q : Value → Shared → Prop) (E : Value → Shared → Prop), C i j → Q (.int (g i j) s.toks) { s with toks := s.toks + 1 } → wpAny (model X.prog X.w) X.A (f (.int i t) (.int j u)) Q E s) :
    OpR X f (rI C fun i j => .int (g i j)) := by
  intro pins s σ H x y v u Q I rx ry h
  obtain ⟨i, j, rfl, rfl, hc, q⟩ := h
  obtain ⟨t, rfl⟩ := rx
  obtain ⟨t', rfl⟩ := ry
  exact rule i j t t' s _ _ hc ⟨.int (g i j), H, I.tok _, ⟨_, rfl⟩, q⟩
theorem opI0 {f : Value → Value → Sem Value} {g : Int → Int → Int}
    (rule : ∀ (i j : Int) (t u : Tok) (s : Shared) (Q : Value → Shared → Prop) (E : Value → Shared → Prop), Q (.int (g i j) s.toks) { s with toks := s.toks + 1 } → wpAny (model X.prog X.w) X.A (f (.int i t) (.int j u)) Q E s) :
    OpR X f (rI0 fun i j => .int (g i j)) := by
  intro pins s σ H x y v u Q I rx ry h
  obtain ⟨i, j, rfl, rfl, q⟩ := h
  obtain ⟨t, rfl⟩ := rx
  obtain ⟨t', rfl⟩ := ry
  exact rule i j t t' s _ _ ⟨.int (g i j), H, I.tok _, ⟨_, rfl⟩, q⟩
theorem opB0 {f : Value → Value → Sem Value} {g : Int → Int → Bool}
    (rule : ∀ (i j : Int) (t u : Tok) (s : Shared) (Q : Value → Shared → Prop) (E : Value → Shared → Prop), Q (.bool (g i j)) s → wpAny (model X.prog X.w) X.A (f (.int i t) (.int j u)) Q E s) :
    OpR X f (rI0 fun i j => .bl (g i j)) := by
  intro pins s σ H x y v u Q I rx ry h
  obtain ⟨i, j, rfl, rfl, q⟩ := h
  obtain ⟨t, rfl⟩ := rx
  obtain ⟨t', rfl⟩ := ry
  exact rule i j t t' s _ _ ⟨.bl (g i j), H, I, rfl, q⟩

def CDiv (i j : Int) : Prop := 0 < j ∧ j < 1073741824
def CPow (i j : Int) : Prop := 0 ≤ j ∧ j ≤ 1000000 ∧ i.natAbs < 2 ^ 64
def CMul (i j : Int) : Prop := (-(2 ^ 64) < i ∧ i < 2 ^ 64) ∨ (-(2 ^ 64) < j ∧ j < 2 ^ 64)
theorem CMul.ok {i j : Int} (h : CMul i j) : IntMulOk i j := by
  rcases h with ⟨h1, h2⟩ | ⟨h1, h2⟩
  · exact .of_left (intBits_le_64 h1 h2)
  · exact .of_right (intBits_le_64 h1 h2)
theorem op_add : OpR X (binaryOp .Add) (rI0 fun i j => .int (i + j)) := opI0 fun _ _ _ _ _ _ _ q => add_int q
theorem op_sub : OpR X (binaryOp .Sub) (rI0 fun i j => .int (i - j)) := opI0 fun _ _ _ _ _ _ _ q => sub_int q
theorem op_mul : OpR X (binaryOp .Mult) (rI CMul fun i j => .int (i * j)) := opI fun _ _ _ _ _ _ _ hc q => mul_int q hc.ok
theorem op_fdiv : OpR X (binaryOp .FloorDiv) (rI CDiv fun i j => .int (i / j)) := opI fun i j _ _ _ _ _ hc q => by
  have h1 : (0 : Int) < j := hc.1
  have h2 : j < 1073741824 := hc.2
  exact floordiv_int (by omega) (by rw [Int.fdiv_eq_ediv_of_nonneg i (by omega)]; exact q) (.inl (PyProof.noPylong_small (by omega)))
theorem op_mod : OpR X (binaryOp .Mod) (rI (fun _ j => 0 < j) fun i j => .int (i % j)) := opI fun i j _ _ _ _ _ hc q => by
  have h1 : (0 : Int) < j := hc
  exact mod_int' (by omega) (by rw [Int.fmod_eq_emod_of_nonneg i (by omega)]; exact q)
theorem op_pow : OpR X (binaryOp .Pow) (rI CPow fun i j => .int (i ^ j.toNat)) := opI fun _ _ _ _ _ _ _ hc q => pow_int_small hc.1 hc.2.1 hc.2.2 q
theorem iop_add : OpR X (inplaceOp .Add) (rI0 fun i j => .int (i + j)) := opI0 fun _ _ _ _ _ _ _ q => iadd_int q
theorem unI {f : Value → Sem Value} {g : Int → Int}
    (rule : ∀ (i : Int) (t : Tok) (s : Shared) (Q : Value → Shared → Prop) (E : Value → Shared → Prop), Q (.int (g i) s.toks) { s with toks := s.toks + 1 } → wpAny (model X.prog X.w) X.A (f (.int i t)) Q E s) :
    UnR X f (rU fun i => .int (g i)) := by
  intro pins s σ H x v Q I rx h
  obtain ⟨i, rfl, q⟩ := h
  obtain ⟨t, rfl⟩ := rx
  exact rule i t s _ _ ⟨.int (g i), H, I.tok _, ⟨_, rfl⟩, q⟩
theorem un_neg : UnR X (unaryOp .USub) (rU fun i => .int (-i)) := unI fun _ _ _ _ _ q => neg_int q
end

def scal : V → V → Bool
  | .non, .non => true | .non, .int _ => true | .int _, .non => true | .non, .bl _ => true | .bl _, .non => true | .non, .str _ => true | .str _, .non => true
  | .int _, .int _ => true | .bl _, .bl _ => true | .str _, .str _ => true | .byt _, .byt _ => true
  | .int _, .str _ => true | .str _, .int _ => true | .bl _, .str _ => true | .str _, .bl _ => true
  | _, _ => false
def rEq : R2 := fun x y H Q => scal x y = true ∧ Q (.bl (decide (x = y))) H
def rNe : R2 := fun x y H Q => scal x y = true ∧ Q (.bl (!decide (x = y))) H

theorem dec_int {i j : Int} : decide (V.int i = V.int j) = (i == j) := by
  rw [Bool.eq_iff_iff]
  simp
theorem dec_bl {i j : Bool} : decide (V.bl i = V.bl j) = (i == j) := by
  rw [Bool.eq_iff_iff]
  simp
theorem dec_str {i j : Str} : decide (V.str i = V.str j) = (i == j) := by
  rw [Bool.eq_iff_iff]
  simp
theorem dec_byt {i j : Array UInt8} : decide (V.byt i = V.byt j) = (i.toList == j.toList) := by
  rw [Bool.eq_iff_iff]
  cases i
  cases j
  simp

section
variable {X : Cx} {a b c : Expr} {ta tb tc : TE} {pos : Pos}
theorem fin_bl {pins : List (Addr × Obj)} {σ : St} {H : Hp} {s : Shared} {Q : VK} {k k' : Bool} (I : Inv X pins σ H s) (q : Q (.bl k) H) (e : k = k') : EP X pins σ Q (.bool k') s := by
  subst e
  exact ⟨.bl k, H, I, rfl, q⟩
theorem op_eq : OpR X (compareOp .Eq) rEq := by
  intro pins s σ H x y v u Q I rx ry h
  obtain ⟨hs, q⟩ := h
  cases x with
  | non =>
    cases rx
    cases y with
    | non => cases ry; exact PySem.EqNone.eq_none_none (fin_bl I q (by simp))
    | bl j => cases ry; exact PySem.EqNone.eq_none_bool (fin_bl I q (by simp))
    | int j => obtain ⟨t', rfl⟩ := ry; exact PySem.EqNone.eq_none_int (fin_bl I q (by simp))
    | str j => obtain ⟨t', rfl⟩ := ry; exact PySem.EqNone.eq_none_str (fin_bl I q (by simp))
    | _ => exact absurd (show false = true from hs) Bool.false_ne_true
  | bl i =>
    cases rx
    cases y with
    | non => cases ry; exact PySem.EqNone.eq_bool_none (fin_bl I q (by simp))
    | bl j => cases ry; exact eq_bool (fin_bl I q dec_bl)
    | str j => obtain ⟨t', rfl⟩ := ry; exact PySem.EqMixed.eq_bool_str (fin_bl I q (by simp))
    | _ => exact absurd (show false = true from hs) Bool.false_ne_true
  | int i =>
    obtain ⟨t, rfl⟩ := rx
    cases y with
    | non => cases ry; exact PySem.EqNone.eq_int_none (fin_bl I q (by simp))
    | int j => obtain ⟨t', rfl⟩ := ry; exact eq_int (fin_bl I q dec_int)
    | str j => obtain ⟨t', rfl⟩ := ry; exact PySem.EqMixed.eq_int_str (fin_bl I q (by simp))
    | _ => exact absurd (show false = true from hs) Bool.false_ne_true
  | str i =>
    obtain ⟨t, rfl⟩ := rx
    cases y with
    | non => cases ry; exact PySem.EqNone.eq_str_none (fin_bl I q (by simp))
    | bl j => cases ry; exact PySem.EqMixed.eq_str_bool (fin_bl I q (by simp))
    | int j => obtain ⟨t', rfl⟩ := ry; exact PySem.EqMixed.eq_str_int (fin_bl I q (by simp))
    | str j => obtain ⟨t', rfl⟩ := ry; exact eq_str (fin_bl I q dec_str)
    | _ => exact absurd (show false = true from hs) Bool.false_ne_true
  | byt i =>
    obtain ⟨t, rfl⟩ := rx
    cases y with
    | byt j => obtain ⟨t', rfl⟩ := ry; exact PySem.W.eq_bytes (fin_bl I q dec_byt)
    | _ => exact absurd (show false = true from hs) Bool.false_ne_true
  | _ => cases y <;> exact absurd (show false = true from hs) Bool.false_ne_true
theorem op_ne : OpR X (compareOp .NotEq) rNe := by
  intro pins s σ H x y v u Q I rx ry h
  obtain ⟨hs, q⟩ := h
  cases x with
  | non =>
    cases rx
    cases y with
    | non => cases ry; exact PySem.EqNone.ne_none_none (fin_bl I q (by simp))
    | bl j => cases ry; exact PySem.EqNone.ne_none_bool (fin_bl I q (by simp))
    | int j => obtain ⟨t', rfl⟩ := ry; exact PySem.EqNone.ne_none_int (fin_bl I q (by simp))
    | str j => obtain ⟨t', rfl⟩ := ry; exact PySem.EqNone.ne_none_str (fin_bl I q (by simp))
    | _ => exact absurd (show false = true from hs) Bool.false_ne_true
  | bl i =>
    cases rx
    cases y with
    | non => cases ry; exact PySem.EqNone.ne_bool_none (fin_bl I q (by simp))
    | bl j => cases ry; exact ne_bool (fin_bl I q (congrArg not dec_bl))
    | str j => obtain ⟨t', rfl⟩ := ry; exact PySem.EqMixed.ne_bool_str (fin_bl I q (by simp))
    | _ => exact absurd (show false = true from hs) Bool.false_ne_true
  | int i =>
    obtain ⟨t, rfl⟩ := rx
    cases y with
    | non => cases ry; exact PySem.EqNone.ne_int_none (fin_bl I q (by simp))
    | int j => obtain ⟨t', rfl⟩ := ry; exact ne_int (fin_bl I q (congrArg not dec_int))
    | str j => obtain ⟨t', rfl⟩ := ry; exact PySem.EqMixed.ne_int_str (fin_bl I q (by simp))
    | _ => exact absurd (show false = true from hs) Bool.false_ne_true
  | str i =>
    obtain ⟨t, rfl⟩ := rx
    cases y with
    | non => cases ry; exact PySem.EqNone.ne_str_none (fin_bl I q (by simp))
    | bl j => cases ry; exact PySem.EqMixed.ne_str_bool (fin_bl I q (by simp))
    | int j => obtain ⟨t', rfl⟩ := ry; exact PySem.EqMixed.ne_str_int (fin_bl I q (by simp))
    | str j => obtain ⟨t', rfl⟩ := ry; exact ne_str (fin_bl I q (congrArg not dec_str))
    | _ => exact absurd (show false = true from hs) Bool.false_ne_true
  | byt i =>
    obtain ⟨t, rfl⟩ := rx
    cases y with
    | byt j => obtain ⟨t', rfl⟩ := ry; exact PySem.W.ne_bytes (fin_bl I q (congrArg not dec_byt))
    | _ => exact absurd (show false = true from hs) Bool.false_ne_true
  | _ => cases y <;> exact absurd (show false = true from hs) Bool.false_ne_true

theorem op_lt : OpR X (compareOp .Lt) (rI0 fun i j => .bl (decide (i < j))) := opB0 fun _ _ _ _ _ _ _ q => lt_int q
theorem op_le : OpR X (compareOp .LtE) (rI0 fun i j => .bl (decide (i ≤ j))) := opB0 fun _ _ _ _ _ _ _ q => le_int q
theorem op_gt : OpR X (compareOp .Gt) (rI0 fun i j => .bl (decide (j < i))) := opB0 fun _ _ _ _ _ _ _ q => gt_int q
theorem op_ge : OpR X (compareOp .GtE) (rI0 fun i j => .bl (decide (j ≤ i))) := opB0 fun _ _ _ _ _ _ _ q => ge_int q
theorem op_lt_str : OpR X (compareOp .Lt) (fun x y H Q => ∃ i j, x = .str i ∧ y = .str j ∧ Q (.bl (decide (i.cps.toList < j.cps.toList))) H) := by
  intro pins s σ H x y v u Q I rx ry h
  obtain ⟨i, j, rfl, rfl, q⟩ := h
  obtain ⟨t, rfl⟩ := rx
  obtain ⟨t', rfl⟩ := ry
  exact lt_str (fin_bl I q rfl)
theorem op_in_str : OpR X (compareOp .In) (fun x y H Q => ∃ i j, x = .str i ∧ y = .str j ∧ Q (.bl (!(Builtin.Str.occurrences j i 0 j.length 1).isEmpty)) H) := by
  intro pins s σ H x y v u Q I rx ry h
  obtain ⟨i, j, rfl, rfl, q⟩ := h
  obtain ⟨t, rfl⟩ := rx
  obtain ⟨t', rfl⟩ := ry
  exact in_str (fin_bl I q rfl)

theorem op_isN : OpR X (compareOp .Is) (fun x y H Q => y = .non ∧ Q (.bl (decide (x = .non))) H) := by
  intro pins s σ H x y v u Q I rx ry h
  obtain ⟨rfl, q⟩ := h
  cases ry
  refine is_none_gen (fin_bl I q ?_)
  cases x <;> first
    | (cases rx; rfl)
    | (obtain ⟨t, rfl⟩ := rx; rfl)
theorem op_notin_str : OpR X (compareOp .NotIn) (fun x y H Q => ∃ i j, x = .str i ∧ y = .str j ∧ Q (.bl (!(!(Builtin.Str.occurrences j i 0 j.length 1).isEmpty))) H) := by
  intro pins s σ H x y v u Q I rx ry h
  obtain ⟨i, j, rfl, rfl, q⟩ := h
  obtain ⟨t, rfl⟩ := rx
  obtain ⟨t', rfl⟩ := ry
  exact notIn_str (fin_bl I q rfl)
theorem nomark (b : Expr) {op : CmpOp} (h : op ≠ .In := by decide) (h2 : op ≠ .NotIn := by decide) : behindInMarks op b = false := by
  have e1 : (op == CmpOp.In) = false := by cases op <;> first | rfl | exact absurd rfl h
  have e2 : (op == CmpOp.NotIn) = false := by cases op <;> first | rfl | exact absurd rfl h2
  cases b <;> simp [behindInMarks, e1, e2]
theorem pe_cmpR {op : CmpOp} {r : R2} (ho : OpR X (compareOp op) r) (ha : PE X a ta) (hb : PE X b tb) (hm : behindInMarks op b = false) : PE X (.Compare a [op] [b] pos) (tOp r ta tb) := by
  intro pins s σ H Q I h
  exact wpAny_Compare1 (binT ha hb I h fun v u s2 x y H2 I2 rx ry q => ho pins s2 σ H2 x y v u Q I2 rx ry q) hm
def tTest (t : TE) : TT := fun σ H Q => t σ H fun x H' => ∃ k, x = .bl k ∧ Q k H'
theorem pt_cmpR {op : CmpOp} {r : R2} (ho : OpR X (compareOp op) r) (ha : PE X a ta) (hb : PE X b tb) (hm : behindInMarks op b = false) : PT X (.Compare a [op] [b] pos) (tTest (tOp r ta tb)) := by
  intro pins s σ H Q I h
  refine wpAny_isTrue_Compare1 (thn (ha pins s σ H _ I h) fun v s1 ⟨x, H1, I1, r1, q1⟩ => thn (hb pins s1 σ H1 _ I1 q1) fun u s2 ⟨y, H2, I2, r2, q2⟩ =>
    thn (ho pins s2 σ H2 x y v u _ I2 r1 r2 q2) fun c s3 ⟨z, H3, I3, r3, k, e, q3⟩ => ?_) hm
  subst e
  cases r3
  exact wpAny_truthy_bool ⟨H3, I3, q3⟩
theorem line63 : (sizeLine : Nat) < 2 ^ 63 := by rw [sizeLine_eq]; decide
theorem op_add_str : OpR X (binaryOp .Add) (fun x y H Q => ∃ i j, x = .str i ∧ y = .str j ∧ i.length + j.length ≤ sizeLine ∧ Q (.str (i ++ j)) H) := by
  intro pins s σ H x y v u Q I rx ry h
  obtain ⟨i, j, rfl, rfl, hz, q⟩ := h
  obtain ⟨t, rfl⟩ := rx
  obtain ⟨t', rfl⟩ := ry
  exact add_str (fun t' tk => ⟨.str (i ++ j), H, I.tok _, ⟨_, rfl⟩, q⟩) hz
theorem iop_add_str : OpR X (inplaceOp .Add) (fun x y H Q => ∃ i j, x = .str i ∧ y = .str j ∧ i.length + j.length ≤ sizeLine ∧ Q (.str (i ++ j)) H) := by
  intro pins s σ H x y v u Q I rx ry h
  obtain ⟨i, j, rfl, rfl, hz, q⟩ := h
  obtain ⟨t, rfl⟩ := rx
  obtain ⟨t', rfl⟩ := ry
  exact iadd_str (fun t' tk => ⟨.str (i ++ j), H, I.tok _, ⟨_, rfl⟩, q⟩) hz
theorem vals1 {x : V} {us : List Value} (r : Vals [x] us) : ∃ u, us = [u] ∧ RelV x u := by
  cases r with
  | cons r1 r2 => cases r2; exact ⟨_, rfl, r1⟩
theorem vals2 {x y : V} {us : List Value} (r : Vals [x, y] us) : ∃ u w', us = [u, w'] ∧ RelV x u ∧ RelV y w' := by
  cases r with
  | cons r1 r2 =>
    cases r2 with
    | cons r3 r4 => cases r4; exact ⟨_, _, rfl, r1, r3⟩
theorem call_max2 (hc : X.calm = true) : CallR X (.builtin "max") (fun xs H Q => ∃ i j, xs = [.int i, .int j] ∧ Q (.int (if j > i then j else i)) H) := by
  intro pins s σ H xs us Q I r h
  obtain ⟨i, j, rfl, q⟩ := h
  obtain ⟨u, w', rfl, ⟨t, rfl⟩, ⟨t', rfl⟩⟩ := vals2 r
  refine max_two_ints (I.ok.hd hc) fun h' tk k => ⟨_, H, I.kept k, ?_, q⟩
  by_cases hj : j > i
  · rw [if_pos hj, if_pos hj]; exact ⟨_, rfl⟩
  · rw [if_neg hj, if_neg hj]; exact ⟨_, rfl⟩
theorem call_min2 (hc : X.calm = true) : CallR X (.builtin "min") (fun xs H Q => ∃ i j, xs = [.int i, .int j] ∧ Q (.int (if j < i then j else i)) H) := by
  intro pins s σ H xs us Q I r h
  obtain ⟨i, j, rfl, q⟩ := h
  obtain ⟨u, w', rfl, ⟨t, rfl⟩, ⟨t', rfl⟩⟩ := vals2 r
  refine min_two_ints (I.ok.hd hc) fun h' tk k => ⟨_, H, I.kept k, ?_, q⟩
  by_cases hj : j < i
  · rw [if_pos hj, if_pos hj]; exact ⟨_, rfl⟩
  · rw [if_neg hj, if_neg hj]; exact ⟨_, rfl⟩
end
end L2

namespace L2
open PySem PySem.Spec PyProof.Rows

structure ObjM (h : Heap) (x dx C : Addr) (mA : Str → Option Value) : Prop where
  obj : h.get? x = some (PySem.W.instObj C dx)
  ns : h.Ns1 dx mA
  ne : dx ≠ x

section
variable {prog : Program} {w : World} {A : Around} {E : Value → Shared → Prop} {s : Shared} {K : PySem.W.Frag} {x dx C f : Addr} {mA : Str → Option Value} {name : Str} {v : Value}

end

theorem RelO.some_of {v : V} {o : Option Value} (r : RelO (some v) o) : ∃ u, o = some u ∧ RelV v u := by
  cases o with
  | none => exact (show False from r).elim
  | some u => exact ⟨u, rfl, r⟩
section
variable {P : Program} {w : World} {H H' : Hp} {h h' : Heap} {a C dx : Addr} {fs fs' : List (Str × V)}
end

structure Cls (K : PySem.W.Frag) (C : Addr) : Prop where
  pg : PySem.W.plainGet K C Str.empty = true
  hd : PySem.W.hasDictIn K C = true
  po : PySem.W.plainOver K C = true
  sa : PySem.W.findIn K (.ref C) "__setattr__" = some (some (.builtin "object.__setattr__"))
theorem Cls.get {K : PySem.W.Frag} {C : Addr} (c : Cls K C) (f : Str) : PySem.W.plainGet K C f = true := c.pg
structure Con (K : PySem.W.Frag) (C : Addr) (f : Str) (v : V) (u : Value) : Prop where
  at_ : PySem.W.findIn K (.ref C) f = some (some u)
  rel : RelV v u
  get : PySem.W.specialIn K u "__get__" = some none
  cp : PySem.W.copiedNames.contains f = false
structure Meth (K : PySem.W.Frag) (C : Addr) (m : Str) (f : Addr) : Prop where
  at_ : PySem.W.findIn K (.ref C) m = some (some (.ref f))
  fn : PySem.W.isFn K (.ref f) = true
  kp : PySem.W.keepIn K (.ref f) = true

section
variable {X : Cx} {pins : List (Addr × Obj)} {σ : St} {H : Hp} {s : Shared} {a C dx : Addr} {fs : List (Str × V)} {f : Str} {v : V} {A : Around} {E : Value → Shared → Prop}

end

section
variable {X : Cx} {o e value : Expr} {f : Str} {pos pos' tpos : Pos} {ta tv : TE}
end

section
variable {X : Cx} {pins : List (Addr × Obj)} {σ : St} {H : Hp} {s : Shared} {A : Around} {E : Value → Shared → Prop} {Q : Value → Shared → Prop} {c : Value} {b : Bool}
inductive TyOf (K : PySem.W.Frag) (H : Hp) : V → Value → Prop where
  | non : TyOf K H .non (.type "NoneType")
  | bl (x : Bool) : TyOf K H (.bl x) (.type "bool")
  | int (i : Int) : TyOf K H (.int i) (.type "int")
  | str (x : Str) : TyOf K H (.str x) (.type "str")
  | flt (x : UInt64) : TyOf K H (.flt x) (.type "float")
  | lst {a : Addr} {xs : List V} (e : H a = some (.lst xs)) : TyOf K H (.ref a) (.type "list")
  | frz {a : Addr} {o : Obj} {xs : List V} (e : H a = some (.frz o (.lst xs))) : TyOf K H (.ref a) (.type "list")
  | tup {a : Addr} {xs : List V} (e : H a = some (.tup xs)) : TyOf K H (.ref a) (.type "tuple")
  | dK {a : Addr} {kvs : List (Key × V)} (e : H a = some (.dK kvs)) : TyOf K H (.ref a) (.type "dict")
  | dT {a : Addr} {kvs : List (List Key × V)} (e : H a = some (.dT kvs)) : TyOf K H (.ref a) (.type "dict")
  | ins {a C dx : Addr} {fs : List (Str × V)} (e : H a = some (.ins C dx fs)) (cl : Cls K C) (ha : PySem.W.findIn K (.ref C) "__class__" = some (some (.builtin "object.__class__")))
      (hn : PySem.W.specialIn K (.builtin "object.__class__") "__get__" = some (some (.builtin "getset_descriptor.__get__"))) (htk : PySem.W.takesIn K (.builtin "object.__class__") = some true)
      (hm : PySem.W.mroIn K C (.type "object") = some true) : TyOf K H (.ref a) (.ref C)
end
end L2

namespace L2
open PySem PySem.Spec PyProof.Rows

structure Room (k : Nat) (A : Around) : Prop where
  hd : A.handled = none
  dp : A.depth + 3 * k + 5 < recursionLimit
  un : A.units + 16 * k + 200 < cLine
  gd : A.guards = some []
theorem Room.mono {j k : Nat} {A : Around} (r : Room k A) (h : j ≤ k) : Room j A := ⟨r.hd, by have := r.dp; omega, by have := r.un; omega, r.gd⟩
theorem Room.deeper {k : Nat} {A : Around} (r : Room (k + 1) A) (env : Env) : Room k (A.deeper env) :=
  ⟨r.hd, by have := r.dp; show A.depth + 1 + 3 * k + 5 < _; omega, by have := r.un; show A.units + 3 + 16 * k + 200 < _; omega, r.gd⟩
theorem Room.in1 {k : Nat} {A : Around} (r : Room (k + 1) A) : Room k A.in1 :=
  ⟨r.hd, by have := r.dp; show A.depth + 3 * k + 5 < _; omega, by have := r.un; show A.units + 1 + 16 * k + 200 < _; omega, r.gd⟩
theorem Room.depth {k : Nat} {A : Around} (r : Room k A) : A.depth < recursionLimit := by have := r.dp; omega
theorem Room.units {k : Nat} {A : Around} (r : Room k A) : A.units + 64 < cLine := by have := r.un; omega
def tNil : TA := fun _ H Q => Q [] H
def tCons (ta : TE) (tr : TA) : TA := fun σ H Q => ta σ H fun x H1 => tr σ H1 fun xs H2 => Q (x :: xs) H2
section
variable {X : Cx} {e : Expr} {es : List Expr} {te : TE} {t : TA} {pos : Pos}
theorem pa_nil : PA X [] tNil := fun _ _ _ _ H Q I h => Calls.spliced_nil ⟨[], H, I, .nil, h⟩
theorem pa_cons (ha : PE X e te) (hr : PA X es t) (hs : starEach (e :: es) X.env = (false, eval e X.env) :: starEach es X.env := by rfl) : PA X (e :: es) (tCons te t) := by
  intro pos pins s σ H Q I h
  rw [hs]
  show wpAny _ _ (spliced ((false, eval e X.env) :: backTo pos (starEach es X.env))) _ _ s
  refine Calls.spliced_cons (thn (ha pins s σ H _ I h) fun u s1 ⟨x, H1, I1, r1, q1⟩ => ?_)
  exact thn (hr pos pins s1 σ H1 _ I1 q1) fun us s2 ⟨xs, H2, I2, r2, q2⟩ => ⟨x :: xs, H2, I2, .cons r1 r2, q2⟩

def tTup (t : TA) : TE := fun σ H Q => t σ H fun xs H1 => xs.length ≤ sizeLine ∧ ∀ p, H1 p = none → Q (.ref p) (upd H1 p (.tup xs))
def tLst (t : TA) : TE := fun σ H Q => t σ H fun xs H1 => xs.length ≤ sizeLine ∧ ∀ p, H1 p = none → Q (.ref p) (upd H1 p (.lst xs))
theorem pe_tup {x1} (h : PA X es t) : PE X (.Tuple es x1 pos) (tTup t) := by
  intro pins s σ H Q I hq
  refine wpAny_Tuple_spliced (thn (h pos pins s σ H _ I hq) fun us s1 ⟨xs, H1, I1, r, z, q⟩ => ⟨by rw [← r.length]; exact z, ?_⟩)
  have hf : H1 s1.heap.objs.size = none := I1.hok.fresh (Nat.le_refl _)
  refine ⟨.ref s1.heap.objs.size, upd H1 s1.heap.objs.size (.tup xs), I1.laid (t' := s1.toks) (fun b u e => Heap.get?_push_of_some _ e) (Nat.le_refl _) ?_, rfl, q _ hf⟩
  exact ⟨z, us, r, ⟨_, Heap.get?_push_size _ rfl, rfl, _, rfl⟩⟩
theorem pe_lst (h : PA X es t) : PE X (.List es pos) (tLst t) := by
  intro pins s σ H Q I hq
  refine wpAny_List_spliced (thn (h pos pins s σ H _ I hq) fun us s1 ⟨xs, H1, I1, r, z, q⟩ => ⟨by rw [← r.length]; exact z, ?_⟩)
  have hf : H1 s1.heap.objs.size = none := I1.hok.fresh (Nat.le_refl _)
  refine ⟨.ref s1.heap.objs.size, upd H1 s1.heap.objs.size (.lst xs), I1.laid (t' := s1.toks) (fun b u e => Heap.get?_push_of_some _ e) (Nat.le_refl _) ?_, rfl, q _ hf⟩
  exact ⟨z, us, 0, r, Heap.get?_push_size _ rfl⟩
end

abbrev Sp := List V → Hp → VK → XK → Prop
abbrev CXT := List Env → Hp → Shared → XK → Value → Shared → Prop

structure Env0 (P : Program) (w : World) (K : PySem.W.Frag) (mg : Str → Option Value) (base : Heap) (A : Around) (outer : List Env) (s : Shared) (H : Hp) : Prop where
  frames : A.frames = some outer
  mod : Mod K mg base
  bs : ∀ b o, base.get? b = some o → s.heap.get? b = some o ∧ H b = none
  bsz : base.objs.size ≤ s.heap.objs.size
  funs : s.heap.FunFrames base outer
  frf : ∀ b ∈ frs outer, H b = none
  hok : HOk P w H s.heap
  bare : AllBare s.gens
def CE (outer : List Env) (P : Program) (w : World) (H : Hp) (s : Shared) (Q : VK) (u : Value) (s' : Shared) : Prop :=
  ∃ v H', s'.os = s.os ∧ AllBare s'.gens ∧ Un (frs outer) [] H H' s.heap s'.heap ∧ HOk P w H' s'.heap ∧ RelV v u ∧ Q v H'
def CR (CX : CXT) (outer : List Env) (P : Program) (w : World) (H : Hp) (s : Shared) (Q : VK) (E : XK) (r : Result) (s' : Shared) : Prop :=
  match r with
  | .ok (.ret u) => CE outer P w H s Q u s'
  | .ok _ => False
  | .error e => CX outer H s E e s'
structure FnOk (P : Program) (w : World) (K : PySem.W.Frag) (mg : Str → Option Value) (base : Heap) (CX : CXT) (k : Nat) (f : Addr) (fd : FuncData) (ps : List Str) (sp : Sp) : Prop where
  len : ∀ vs H Q E, sp vs H Q E → vs.length = ps.length
  run : ∀ (A : Around) (outer : List Env) (s : Shared) (H : Hp) (args : Args) (us : List Value) (vs : List V) (Q : VK) (E : XK), Room k A → Env0 P w K mg base A outer s H → BindsTo s fd args (ps.zip us) → Vals vs us → sp vs H Q E →
    codeAny (model P w) A (.call (.ref f) args) (CR CX outer P w H s Q E) s
theorem FnOk.mono {P : Program} {w : World} {K : PySem.W.Frag} {mg : Str → Option Value} {base : Heap} {CX : CXT} {j k : Nat} {f : Addr} {fd : FuncData} {ps : List Str} {sp : Sp} (F : FnOk P w K mg base CX j f fd ps sp) (h : j ≤ k) :
    FnOk P w K mg base CX k f fd ps sp := ⟨F.len, fun A outer s H args us vs Q E hr => F.run A outer s H args us vs Q E (hr.mono h)⟩
theorem Env0.in1 {P : Program} {w : World} {K : PySem.W.Frag} {mg : Str → Option Value} {base : Heap} {A : Around} {outer : List Env} {s : Shared} {H : Hp} (e : Env0 P w K mg base A outer s H) :
    Env0 P w K mg base A.in1 outer s H := ⟨e.frames, e.mod, e.bs, e.bsz, e.funs, e.frf, e.hok, e.bare⟩

section
variable {X : Cx} {pins : List (Addr × Obj)} {σ : St} {H : Hp} {s s' : Shared}
theorem Inv.env0 (I : Inv X pins σ H s) : Env0 X.prog X.w X.K X.mg X.base X.A X.stack s H :=
  ⟨I.ok.frames, I.ok.mod, I.bs, Nat.le_trans I.ok.bsz I.sz, I.stack, I.stkFree, I.hok, I.bare⟩
theorem Inv.after {Q : VK} {u : Value} (I : Inv X pins σ H s) (h : CE X.stack X.prog X.w H s Q u s') : EP X pins σ Q u s' := by
  obtain ⟨v, H', os, bare, un, hok, r, q⟩ := h
  obtain ⟨hh, g, d, t, os'⟩ := s'
  obtain rfl : os' = s.os := os
  exact ⟨v, H', I.call (h' := hh) (g' := g) (d' := d) (t' := t) (ch := []) un hok bare (fun b z => absurd z (by simp)), r, q⟩
end

def tCall (sp : Sp) (dvs : List V) (E : XK) (t : TA) : TE := fun σ H Q => t σ H fun vs H1 => sp (vs ++ dvs) H1 Q E
def Binds (K : PySem.W.Frag) (fd : FuncData) (ps : List Str) (ds : List Value) : Prop :=
  ∀ (s : Shared) (us : List Value), K.In s.heap → (us ++ ds).length = ps.length → BindsTo s fd ⟨us, []⟩ (ps.zip (us ++ ds))
theorem Binds.all {K : PySem.W.Frag} {fd : FuncData} {ps : List Str} (h : ∀ us : List Value, us.length = ps.length → bindArgs fd ⟨us, []⟩ = pure (ps.zip us)) : Binds K fd ps [] := fun s us _ hl => by
  rw [List.append_nil] at hl ⊢
  exact .of_eq (h us hl)

def Passes (CX : CXT) (X : Cx) (E : XK) : Prop := ∀ (pins : List (Addr × Obj)) (σ : St) (H : Hp) (s : Shared) (e : Value) (s' : Shared), Inv X pins σ H s → CX X.stack H s E e s' → X.xe e s'

section
variable {X : Cx} {CX : CXT} {k : Nat} {f C : Addr} {fd : FuncData} {ps : List Str} {sp : Sp} {dvs : List V} {ds : List Value} {E : XK} {x m : Str} {p pos apos : Pos} {e o : Expr} {es : List Expr} {ta : TE} {t : TA}

theorem run_fn {pins : List (Addr × Obj)} {σ : St} {H : Hp} {s : Shared} {Q : VK} {us : List Value} {vs : List V} (F : FnOk X.prog X.w X.K X.mg X.base CX k f fd ps sp) (hr : Room k X.A) (hb : Binds X.K fd ps ds) (hd : Vals dvs ds) (hx : Passes CX X E)
    (I : Inv X pins σ H s) (r : Vals vs us) (h : sp (vs ++ dvs) H Q E) : wpAny (model X.prog X.w) X.A (call (.ref f) us) (EP X pins σ Q) X.xe s := by
  have r2 : Vals (vs ++ dvs) (us ++ ds) := r.append hd
  have hl : (us ++ ds).length = ps.length := by rw [← r2.length]; exact F.len _ _ _ _ h
  refine wpAny_call (codeAny_mono (F.run X.A X.stack s H ⟨us, []⟩ (us ++ ds) (vs ++ dvs) Q E hr I.env0 (hb s us I.kIn hl) r2 h) fun r s' hq => ?_)
  cases r with
  | error e => exact hx pins σ H s e s' I hq
  | ok fl =>
    cases fl with
    | ret u => exact I.after hq
    | next => exact False.elim hq
    | brk => exact False.elim hq
    | cont => exact False.elim hq

theorem pe_call (F : FnOk X.prog X.w X.K X.mg X.base CX k f fd ps sp) (hr : Room k X.A) (hg : Gl X x) (hm : X.mg x = some (.ref f)) (hk : PySem.W.keepIn X.K (.ref f) = true) (hb : Binds X.K fd ps ds) (hd : Vals dvs ds) (hx : Passes CX X E)
    (ha : PA X (e :: es) t) (hdb : (x == ("__debug__" : Str)) = false := by decide) (he : starEach (e :: es) X.env = (false, eval e X.env) :: starEach es X.env := by rfl) (hpl : (backTo pos (starEach es X.env)).any (·.1) = false := by rfl) :
    PE X (.Call (.Name x p) (e :: es) [] pos) (tCall sp dvs E t) := by
  intro pins s σ H Q I h
  refine wpAny_Call_Name_kw (ld_glob I hg hm ?_ hdb)
  refine PySem.W.callWith_K (h₀ := X.base) I.ok.mod.kin hk (thn (ha pos pins s σ H _ I h) fun us s1 ⟨vs, H1, I1, r, q⟩ => ⟨I1.kIn, ?_⟩) he hpl
  exact run_fn F hr hb hd hx I1 r q
structure Mk (K : PySem.W.Frag) (C f : Addr) : Prop where
  makes : PySem.W.makesIn K C = true
  init : PySem.W.findIn K (.ref C) "__init__" = some (some (.ref f))
  fn : PySem.W.isFn K (.ref f) = true
  kp : PySem.W.keepIn K (.ref C) = true

end

section
variable {X : Cx} {CX : CXT} {k : Nat} {f C : Addr} {fd : FuncData} {ps ks : List Str} {sp : Sp} {E : XK} {x m : Str} {p pos apos kpos : Pos} {e o : Expr} {es : List Expr} {kws : List Keyword} {te ta : TE} {t tk : TA} {nm : Option Str}
structure KBinds (K : PySem.W.Frag) (fd : FuncData) (ps ks : List Str) (g : List Value → List Value → List Value) (gV : List V → List V → List V) : Prop where
  to : ∀ (s : Shared) (us ws : List Value), K.In s.heap → (g us ws).length = ps.length → BindsTo s fd ⟨us, ks.zip ws⟩ (ps.zip (g us ws))
  rel : ∀ {vs : List V} {us : List Value} {zs : List V} {ws : List Value}, Vals vs us → Vals zs ws → Vals (gV vs zs) (g us ws)
variable {g : List Value → List Value → List Value} {gV : List V → List V → List V}
end

structure FnScope (N P : List Str) (sc : Scope) : Prop where
  kind : sc.kind = .function
  co : sc.isCoroutine = false
  gen : sc.isGenerator = false
  nd : N.Nodup
  pre : N.take P.length = P
  par : ∀ x ∈ P, sc.names.lookup x = some .local ∨ sc.names.lookup x = some .cell
  nofree : ∀ y ∈ sc.names, y.2 ≠ .free

theorem bindL_out {kindOf : Str → Option NameKind} {x : Str} : ∀ {binds : List (Str × Value)} {m : Str → Option Value}, (∀ v, (x, v) ∉ binds) → bindL kindOf binds m x = m x
  | [], _, _ => rfl
  | (n, v) :: r, m, h => by
    unfold bindL
    rw [bindL_out fun w hw => h w (List.mem_cons_of_mem _ hw)]
    split
    · have : x ≠ n := by rintro rfl; exact h v List.mem_cons_self
      simp [this]
    · rfl
theorem bindC_out {kindOf : Str → Option NameKind} {x : Str} : ∀ {binds : List (Str × Value)} {m : Str → Option Value}, (∀ v, (x, v) ∉ binds) → bindC kindOf binds m x = m x
  | [], _, _ => rfl
  | (n, v) :: r, m, h => by
    unfold bindC
    rw [bindC_out fun w hw => h w (List.mem_cons_of_mem _ hw)]
    split
    · rfl
    · have : x ≠ n := by rintro rfl; exact h v List.mem_cons_self
      simp [this]
theorem bindL_get {kindOf : Str → Option NameKind} {x : Str} {v : Value} : ∀ {P : List Str} {vs : List Value} {i : Nat} {m : Str → Option Value}, P.Nodup → P[i]? = some x → vs[i]? = some v → kindOf x = some .local →
    bindL kindOf (P.zip vs) m x = some v
  | [], _, _, _, _, h, _, _ => by simp at h
  | _ :: _, [], _, _, _, _, h, _ => by simp at h
  | p :: P, w :: vs, 0, m, nd, h1, h2, hk => by
    simp at h1 h2; subst h1; subst h2
    show bindL kindOf ((p, w) :: P.zip vs) m p = _
    unfold bindL
    rw [bindL_out fun v hv => (List.nodup_cons.mp nd).1 (List.of_mem_zip hv).1, if_pos hk]
    simp
  | p :: P, w :: vs, i + 1, m, nd, h1, h2, hk => by
    show bindL kindOf ((p, w) :: P.zip vs) m x = _
    unfold bindL
    exact bindL_get (i := i) (List.nodup_cons.mp nd).2 (by simpa using h1) (by simpa using h2) hk
theorem bindC_get {kindOf : Str → Option NameKind} {x : Str} {v : Value} : ∀ {P : List Str} {vs : List Value} {i : Nat} {m : Str → Option Value}, P.Nodup → P[i]? = some x → vs[i]? = some v → kindOf x ≠ some .local →
    bindC kindOf (P.zip vs) m x = some v
  | [], _, _, _, _, h, _, _ => by simp at h
  | _ :: _, [], _, _, _, _, h, _ => by simp at h
  | p :: P, w :: vs, 0, m, nd, h1, h2, hk => by
    simp at h1 h2; subst h1; subst h2
    show bindC kindOf ((p, w) :: P.zip vs) m p = _
    unfold bindC
    rw [bindC_out fun v hv => (List.nodup_cons.mp nd).1 (List.of_mem_zip hv).1, if_neg hk]
    simp
  | p :: P, w :: vs, i + 1, m, nd, h1, h2, hk => by
    show bindC kindOf ((p, w) :: P.zip vs) m x = _
    unfold bindC
    exact bindC_get (i := i) (List.nodup_cons.mp nd).2 (by simpa using h1) (by simpa using h2) hk

def start (N : List Str) (vs : List V) : St := vs.map some ++ List.replicate (N.length - vs.length) none

def cxOf (CX : CXT) (P : Program) (w : World) (K : PySem.W.Frag) (mg : Str → Option Value) (base : Heap) (N : List Str) (qual : Str) (scope : Scope) (f : Addr) (cd : Value) (A : Around) (outer : List Env) (s : Shared) (H : Hp) (E : XK) : Cx where
  prog := P
  w := w
  K := K
  mg := mg
  base := base
  A := A.deeper (envOfC qual scope s.heap.objs.size f cd)
  N := N
  s₀ := s
  H₀ := H
  env := envOfC qual scope s.heap.objs.size f cd
  outer := outer
  stack := envOfC qual scope s.heap.objs.size f cd :: outer
  ex := []
  calm := true
  fn := fun _ => true
  pn := []
  xe := fun e s' => wpAny (model P w) (A.deeper (envOfC qual scope s.heap.objs.size f cd)) (leaving (envOfC qual scope s.heap.objs.size f cd) e) (fun _ s'' => CX outer H s E e s'') (fun e' s'' => CX outer H s E e' s'') s'

theorem cell_has {sc : Scope} {n : Nat} {x : Str} (h : sc.names.lookup x = some .cell) : ∃ c, (cellsFrom n sc.names []).lookup x = some c := by
  have q := PySem.W.cellsFrom_some sc.names n [] (.inl h)
  exact Option.isSome_iff_exists.mp q

theorem inv_start {CX : CXT} {P : Program} {w : World} {K : PySem.W.Frag} {mg : Str → Option Value} {base : Heap} {N ps : List Str} {qual : Str} {scope : Scope} {f : Addr} {cd : Value} {A : Around} {outer : List Env} {s s1 : Shared} {H : Hp} {E : XK} {us : List Value} {vs : List V}
    (S : FnScope N ps scope) (hd : A.handled = none) (e0 : Env0 P w K mg base A outer s H) (hl : vs.length = ps.length) (r : Vals vs us)
    (x : InCallC s s.heap.objs.size (bindL (envOfC qual scope s.heap.objs.size f cd).kindOf (ps.zip us) fun _ => none) (cellsFrom (s.heap.objs.size + 1) scope.names []) (bindC (envOfC qual scope s.heap.objs.size f cd).kindOf (ps.zip us) fun _ => none) s1) :
    Inv (cxOf CX P w K mg base N qual scope f cd A outer s H E) [] (start N vs) H s1 := by
  have hpl : ps.length ≤ N.length := by have := congrArg List.length S.pre; rw [List.length_take] at this; omega
  obtain ⟨h1, tk, rfl, hk⟩ := x.done
  have noA : ∀ b : Addr, b ∉ (cxOf CX P w K mg base N qual scope f cd A outer s H E).ex := fun b z => absurd (show b ∈ ([] : List Addr) from z) (by simp)
  refine ⟨⟨e0.mod, S.kind, rfl, rfl, Nat.le_refl _, fun y z c h1 h2 => ?_, fun y hy => ?_, fun y c _ h => ?_, fun _ => hd, Around.frames_deeper e0.frames, .inr ⟨rfl, rfl⟩, fun b z => absurd z (noA b), e0.bs, e0.bsz, fun b _ _ => noA b, fun b z => absurd z (noA b), e0.funs, e0.frf⟩,
    rfl, e0.bare, Un.kept hk, ⟨_, x.toInCall.ns, fun i y v h1 h2 h3 => ?_⟩, fun y c h => ⟨_, x.cell y c h⟩, e0.hok.fresh (Nat.le_refl _), fun y c h => ?_, fun p hp => absurd (show p ∈ ([] : List (Addr × Obj)) from hp) (by simp), e0.hok.kept hk, ?_⟩
  · exact name_of_addr x.apart (PySem.mem_of_lookup h1) (PySem.mem_of_lookup h2)
  · have hy : scope.names.lookup y = some .cell ∨ scope.names.lookup y = some .free := hy
    rcases hy with hy | hy
    · exact cell_has hy
    · exact absurd rfl (S.nofree _ (PySem.mem_of_lookup hy))
  · exact Nat.le_of_lt (x.above y c (PySem.mem_of_lookup h))
  · have hi : i < vs.length := by
      unfold start at h2
      by_cases hi : i < vs.length
      · exact hi
      · rw [List.getElem?_append_right (by simpa using hi)] at h2
        rw [List.getElem?_replicate] at h2
        split at h2 <;> cases h2
    have ha : vs[i]? = some v := by
      unfold start at h2
      rw [List.getElem?_append_left (by simpa using hi), List.getElem?_map] at h2
      cases e : vs[i]? with
      | none => rw [e] at h2; cases h2
      | some a => rw [e] at h2; cases h2; rfl
    obtain ⟨u, hu, rv⟩ := r.get ha
    have hp : ps[i]? = some y := by
      rw [← S.pre, List.getElem?_take_of_lt (by omega)]; exact h1
    have ndP : ps.Nodup := by rw [← S.pre]; exact S.nd.sublist (List.take_sublist _ _)
    refine ⟨u, rv, ?_⟩
    rcases S.par y (List.mem_of_getElem? hp) with k | k
    · exact .inl ⟨k, bindL_get ndP hp hu k⟩
    · obtain ⟨c, e⟩ := cell_has (n := s.heap.objs.size + 1) k
      refine .inr ⟨.inl k, c, e, ?_⟩
      have q := x.cell y c e
      rw [bindC_get ndP hp hu (by show scope.names.lookup y ≠ _; rw [k]; decide)] at q
      exact q
  · exact e0.hok.fresh (Nat.le_of_lt (x.above y c (PySem.mem_of_lookup h)))
  · unfold start
    show _ = N.length
    rw [List.length_append, List.length_map, List.length_replicate]
    omega

theorem fn_of {CX : CXT} {P : Program} {w : World} {K : PySem.W.Frag} {mg : Str → Option Value} {base : Heap} {k : Nat} {f : Addr} {name qual : Str} {params : Arguments} {body : List Stmt} {scope : Scope} {dV kV doc pm cdv ct oc : Value} {an od : Option Addr}
    {osl : Array (Option Value)} {N ps : List Str} {sp : Sp} (lk : K.lookup f = some ⟨oc, od, .func (PySem.W.fnOf name qual params body scope dV kV doc pm an cdv ct), osl⟩) (hcd : PySem.W.codeIn K cdv qual = true) (S : FnScope N ps scope)
    (len : ∀ vs H Q E, sp vs H Q E → vs.length = ps.length)
    (hbody : ∀ (A : Around) (outer : List Env) (s : Shared) (H : Hp) (vs : List V) (Q : VK) (E : XK), Room k (A.deeper (envOfC qual scope s.heap.objs.size f cdv)) → sp vs H Q E →
      ∃ t, PSs (cxOf CX P w K mg base N qual scope f cdv A outer s H E) body t ∧ t { nx := fun _ H' => Q .non H', rt := Q } (start N vs) H) :
    FnOk P w K mg base CX (k + 1) f (PySem.W.fnOf name qual params body scope dV kV doc pm an cdv ct) ps sp := by
  refine ⟨len, fun A outer s H args us vs Q E hr e0 hb r hsp => ?_⟩
  have hl := len _ _ _ _ hsp
  have KX : K.In s.heap := e0.mod.kin.keeps fun b o e => (e0.bs b o e).1
  have lim : s.heap.NoLimit := e0.mod.nolimit.keeps fun b o e => (e0.bs b o e).1
  have hkind : ∀ y ∈ ps.zip us, scope.names.lookup y.1 = some .local ∨ (scope.names.lookup y.1 = some .cell ∧ ((cellsFrom (s.heap.objs.size + 1) scope.names []).lookup y.1).isSome = true) := fun ⟨n, v⟩ hy => by
    rcases S.par n (List.of_mem_zip hy).1 with q | q
    · exact .inl q
    · exact .inr ⟨q, PySem.W.cellsFrom_some _ _ _ (.inl q)⟩
  refine codeAny_call_function hr.depth (KX _ _ lk) rfl S.co S.gen rfl (PySem.W.codeRec_of KX hcd) (hb _ _ _ _ ?_)
  refine wpAny_newFunctionEnv_cells S.kind hkind fun env he s1 x => ?_
  subst he
  refine ⟨lim.keeps x.toInCall.keep, codeAny_func ?_⟩
  obtain ⟨t, ht, hq⟩ := hbody A outer s H vs Q E (hr.deeper _) hsp
  have I : Inv (cxOf CX P w K mg base N qual scope f cdv A outer s H E) [] (start N vs) H s1 := inv_start S hr.hd e0 hl r x
  refine wpAny_mono (ht [] s1 (start N vs) H _ I hq) (fun fl s' hs => ?_) fun e s' hs => hs
  have fin : ∀ {σ' : St} {H' : Hp} {v : V} {u : Value}, Inv (cxOf CX P w K mg base N qual scope f cdv A outer s H E) [] σ' H' s' → RelV v u → Q v H' → CE outer P w H s Q u s' :=
    fun {σ' H' v u} J rv q => ⟨v, H', J.os, J.bare, J.base, J.hok, rv, q⟩
  cases fl with
  | ret u =>
    obtain ⟨v, σ', H', J, rv, q⟩ := hs
    exact fin J rv q
  | next =>
    obtain ⟨σ', H', J, q⟩ := hs
    exact fin (v := V.non) (u := Value.none) J rfl q
  | brk =>
    obtain ⟨_, _, _, q⟩ := hs
    exact False.elim q
  | cont =>
    obtain ⟨_, _, _, q⟩ := hs
    exact False.elim q
end L2

namespace L2
open PySem PySem.Spec PyProof.Rows
section
variable {X : Cx} {x : Str} {p pos : Pos} {e : Expr} {es : List Expr} {t : TA} {id T : String} {r : List V → Hp → VK → Prop}

def tCB (r : List V → Hp → VK → Prop) (t : TA) : TE := fun σ H Q => t σ H fun vs H1 => r vs H1 Q
theorem pe_callB (hc : CallR X (.builtin id) r) (hg : Gl X x) (hm : X.mg x = none) (hv : bootBuiltins x = some (.builtin id)) (ha : PA X (e :: es) t) (hn : x ≠ "__name__" := by decide) (hdb : (x == ("__debug__" : Str)) = false := by decide)
    (he : starEach (e :: es) X.env = (false, eval e X.env) :: starEach es X.env := by rfl) (hpl : (backTo pos (starEach es X.env)).any (·.1) = false := by rfl) : PE X (.Call (.Name x p) (e :: es) [] pos) (tCB r t) := by
  intro pins s σ H Q I h
  refine wpAny_Call_Name_kw (ld_blt I hg hm hv ?_ hn hdb)
  exact PyProof.Rows.callWith_builtin1 (thn (ha pos pins s σ H _ I h) fun us s1 ⟨vs, H1, I1, r1, q1⟩ => hc pins s1 σ H1 vs us Q I1 r1 q1) he hpl
theorem pe_callTy (hc : CallR X (.type T) r) (hg : Gl X x) (hm : X.mg x = none) (hv : bootBuiltins x = some (.type T)) (ha : PA X (e :: es) t) (hn : x ≠ "__name__" := by decide) (hdb : (x == ("__debug__" : Str)) = false := by decide)
    (he : starEach (e :: es) X.env = (false, eval e X.env) :: starEach es X.env := by rfl) (hpl : (backTo pos (starEach es X.env)).any (·.1) = false := by rfl) : PE X (.Call (.Name x p) (e :: es) [] pos) (tCB r t) := by
  intro pins s σ H Q I h
  refine wpAny_Call_Name_kw (ld_blt I hg hm hv ?_ hn hdb)
  exact PyProof.Rows.callWith_type1 (thn (ha pos pins s σ H _ I h) fun us s1 ⟨vs, H1, I1, r1, q1⟩ => hc pins s1 σ H1 vs us Q I1 r1 q1) he hpl
end
end L2

namespace HT
open PySem PyProof.Rows

section
open PySem.SeqAt
open PySem.AutoSeq1 (wpAny_loadPart')
open PySem.MeetsSeq PySem.MeetsSeq2 PySem.MeetsSeq3

end

section
variable {prog : Program} {w : World} {A : Around} {E : Value → Shared → Prop} {s : Shared}

theorem cat_tup {t b : Addr} {vs ws : List Value} {Q : Value → Shared → Prop} (ht : IsTup s.heap t vs.toArray) (hb : IsTup s.heap b ws.toArray) (hv : vs ≠ [])
    (h1 : ws = [] → Q (.ref t) s) (h2 : ws ≠ [] → Q (.ref s.heap.objs.size) { s with heap := s.heap.push { cls := .type "tuple", data := .seq (vs ++ ws).toArray } })
    (hsz : vs.length + ws.length ≤ sizeLine) : wpAny (model prog w) A (binaryOp .Add (.ref t) (.ref b)) Q E s := by
  obtain ⟨⟨cls, dd, data, sl⟩, ho, hc, n, hd⟩ := id ht
  obtain ⟨⟨cls2, dd2, data2, sl2⟩, ho2, hc2, n2, hd2⟩ := id hb
  simp only at hc hd hc2 hd2
  subst hc hd hc2 hd2
  have e : vs.toArray ++ ws.toArray = (vs ++ ws).toArray := by simp
  by_cases hw : ws = []
  · exact concat_meets ⟨_, ho, rfl⟩ ⟨_, ho2, rfl⟩ noFill_tuple_add seq_tuple_add PySem.F.slot_tuple_add PySem.F.entry_tuple_add (PySem.F.args_tuple_add_2 _ _)
      (tuple_addW1 t b vs.toArray ws.toArray n n2 dd dd2 sl sl2 (by simpa using hv) (by simp [hw])) ⟨ho, ho2, h1 hw⟩
  · refine concat_meets ⟨_, ho, rfl⟩ ⟨_, ho2, rfl⟩ noFill_tuple_add seq_tuple_add PySem.F.slot_tuple_add PySem.F.entry_tuple_add (PySem.F.args_tuple_add_2 _ _)
      (tuple_addW2 t b vs.toArray ws.toArray n n2 dd dd2 sl sl2 (by simpa using hv) (by simpa using hw) (by rw [List.size_toArray, List.size_toArray]; exact hsz)) ⟨ho, ho2, ?_⟩
    rw [e]
    exact h2 hw

def sIx (n d : Nat) : Option Int → Nat
  | none => d
  | some v => if v < 0 then (v + (n : Int)).toNat else min v.toNat n
theorem sIx_le (n d : Nat) (hd : d ≤ n) (o : Option Int) : sIx n d o ≤ n := by
  cases o with
  | none => exact hd
  | some v =>
    show (if v < 0 then (v + (n : Int)).toNat else min v.toNat n) ≤ n
    by_cases hv : v < 0
    · rw [if_pos hv]; omega
    · rw [if_neg hv]; exact Nat.min_le_right _ _
theorem clip_eq (v : Int) (n d : Nat) : (if v < 0 then max (v + (n : Int)) 0 else min v (n : Int)) = ((sIx n d (some v) : Nat) : Int) := by
  show (if v < 0 then max (v + (n : Int)) 0 else min v (n : Int)) = (((if v < 0 then (v + (n : Int)).toNat else min v.toNat n) : Nat) : Int)
  by_cases hv : v < 0
  · simp only [if_pos hv]; omega
  · simp only [if_neg hv]; omega
theorem adjust_gen (lo hi : Option Int) (n : Nat) : Builtin.Slice.sliceAdjust lo hi 1 (n : Int) = (((sIx n 0 lo : Nat) : Int), ((sIx n n hi : Nat) : Int)) := by
  have h1 : ¬ ((1 : Int) < 0) := by omega
  unfold Builtin.Slice.sliceAdjust
  simp only [h1, if_false]
  refine Prod.ext ?_ ?_
  · cases lo with
    | none => rfl
    | some v => exact clip_eq v n 0
  · cases hi with
    | none => rfl
    | some v => exact clip_eq v n n
theorem places_gen (i j : Nat) : Builtin.Slice.slicePlaces (i : Int) (j : Int) 1 = j - i := by
  unfold Builtin.Slice.slicePlaces
  have h1 : (1 : Int) > 0 := by omega
  simp only [h1, if_true, Int.ediv_one]
  split <;> omega
theorem slicePart_ {v : Value} {o : Option Int} {Q : Option Int → Shared → Prop} (p : IsPart v o) (h : Q o s) : wpAny (model prog w) A (Builtin.Slice.slicePartIndex v) Q E s := by
  cases p with
  | none => exact slicePart_none h
  | int i t => exact slicePart_int h
theorem sliceApplied_gen {sl : Addr} {vl vu : Value} {lo hi : Option Int} {n : Nat} {Q : Int × Int × Nat → Shared → Prop} (hs : s.heap.IsSliceOf sl vl vu .none) (pl : IsPart vl lo) (pu : IsPart vu hi)
    (h : Q (((sIx n 0 lo : Nat) : Int), 1, sIx n n hi - sIx n 0 lo) s) : wpAny (model prog w) A (Builtin.Slice.sliceApplied (.ref sl) (pure (n : Int))) Q E s := by
  obtain ⟨os, hos, hcs, hds⟩ := id hs
  unfold Builtin.Slice.sliceApplied Builtin.Slice.sliceFields
  refine wpAny_bind (wpAny_bind (wpAny_field hos hds (x := vl) rfl (wpAny_bind (wpAny_field hos hds (x := vu) rfl (wpAny_bind (wpAny_field hos hds (x := .none) rfl (wpAny_pure ?_)))))))
  refine wpAny_bind (slicePart_none ?_)
  show wpAny _ _ (if ((1 : Int) == 0) = true then _ else _) _ _ s
  rw [if_neg (by decide)]
  refine wpAny_bind (slicePart_ pl (wpAny_bind (slicePart_ pu (wpAny_bind (wpAny_pure ?_)))))
  show wpAny _ _ (match Builtin.Slice.sliceAdjust lo hi 1 (n : Int) with | (lo, hi) => pure (lo, (1 : Int), Builtin.Slice.slicePlaces lo hi 1)) _ _ s
  rw [adjust_gen lo hi n]
  show wpAny _ _ (pure (((sIx n 0 lo : Nat) : Int), (1 : Int), Builtin.Slice.slicePlaces ((sIx n 0 lo : Nat) : Int) ((sIx n n hi : Nat) : Int) 1)) _ _ s
  rw [places_gen]
  exact wpAny_pure h
theorem pick_gen (xs : Array Value) (i k : Nat) : ((List.range k).filterMap fun (m : Nat) => xs[((i : Int) + (m : Int) * 1).toNat]?).toArray = ((xs.toList.drop i).take k).toArray := by
  have e : (fun (m : Nat) => xs[((i : Int) + (m : Int) * 1).toNat]?) = fun m => xs[i + m]? := by
    funext m
    have : ((i : Int) + (m : Int) * 1).toNat = i + m := by omega
    rw [this]
  rw [e]
  have := pick_run xs i k
  rw [List.filterMap_map] at this
  have e2 : ((fun x => xs[x]?) ∘ fun x => i + x) = fun m => xs[i + m]? := rfl
  rw [e2] at this
  rw [this]

theorem getItem_tuple_cut {t sl : Addr} {items : Array Value} {vl vu : Value} {lo hi : Option Int} {Q : Value → Shared → Prop} (ht : IsTup s.heap t items) (hs : s.heap.IsSliceOf sl vl vu .none) (pl : IsPart vl lo) (pu : IsPart vu hi)
    (hw : ¬ (sIx items.size 0 lo = 0 ∧ sIx items.size items.size hi = items.size))
    (h : Q (.ref s.heap.objs.size) { s with heap := s.heap.push { cls := .type "tuple", data := .seq ((items.toList.drop (sIx items.size 0 lo)).take (sIx items.size items.size hi - sIx items.size 0 lo)).toArray } })
    (hsz : items.size ≤ sizeLine) : wpAny (model prog w) A (getItem (.ref t) (.ref sl)) Q E s := by
  have htake : sizeOk (.seq ((items.toList.drop (sIx items.size 0 lo)).take (sIx items.size items.size hi - sIx items.size 0 lo)).toArray) := by
    show ((items.toList.drop (sIx items.size 0 lo)).take (sIx items.size items.size hi - sIx items.size 0 lo)).toArray.size ≤ sizeLine
    rw [List.size_toArray, List.length_take, List.length_drop, Array.length_toList]
    omega
  have hj : sIx items.size items.size hi ≤ items.size := sIx_le _ _ (Nat.le_refl _) hi
  obtain ⟨os, hos, hcs, hds⟩ := id hs
  have hTs : s.TypeIs (.ref sl) "slice" := ⟨os, hos, hcs⟩
  unfold getItem
  try with_reducible refine wpAny_holding ?_
  first | refine wpAny_bind (wpAny_pure ?_) | skip
  refine wpAny_bind (wpAny_sequenceKey ht.typeIs (by decide) ?_)
  refine wpAny_bind (wpAny_callSpecial?_slot (name := Str.ofString "__getitem__") ht.typeIs PyProof.Rows.slot_tuple_getitem
    (wpAny_call_entry PyProof.Rows.slot_tuple_getitem ht.typeIs entry_tuple_getitem ?_ (args_tuple_getitem _ _)))
  show wpAny _ _ (Builtin.Tuple.tupleItemsOf (.ref t) >>= _) _ _ s
  refine wpAny_bind (tupleItemsOf_ ht ?_)
  refine wpAny_bind (wpAny_typeOf hTs ?_)
  rw [if_pos (by decide)]
  refine wpAny_bind (sliceApplied_gen hs pl pu ?_)
  have hno : ¬ ((((sIx items.size 0 lo : Nat) : Int) == 0 && (1 : Int) == 1 && (sIx items.size items.size hi - sIx items.size 0 lo) == items.size) = true) := by
    intro q
    rw [Bool.and_eq_true, Bool.and_eq_true] at q
    have q1 : ((sIx items.size 0 lo : Nat) : Int) = 0 := eq_of_beq q.1.1
    have q2 : sIx items.size items.size hi - sIx items.size 0 lo = items.size := eq_of_beq q.2
    exact hw ⟨by omega, by omega⟩
  show wpAny _ _ (if (((sIx items.size 0 lo : Nat) : Int) == 0 && (1 : Int) == 1 && (sIx items.size items.size hi - sIx items.size 0 lo) == items.size) = true then _ else _) _ _ s
  rw [if_neg hno, pick_gen]
  first
    | exact wpAny_bind (m := Builtin.Tuple.tupleExact _) (wpAny_newObj_type (wpAny_pure ⟨_, rfl, wpAny_pure h⟩) htake)
    | exact wpAny_bind (m := Builtin.Tuple.tupleExact _) (wpAny_newObj_type (wpAny_bind (wpAny_pure (wpAny_pure ⟨_, rfl, wpAny_pure h⟩))) htake)
    | exact wpAny_bind (wpAny_bind (m := Builtin.Tuple.tupleExact _) (wpAny_newObj_type (wpAny_pure (wpAny_pure ⟨_, rfl, wpAny_pure h⟩)) htake))
    | exact wpAny_bind (wpAny_bind (m := Builtin.Tuple.tupleExact _) (wpAny_newObj_type (wpAny_pure ⟨_, rfl, wpAny_pure h⟩) htake))
end
end HT

namespace L2
open PySem PySem.Spec PyProof.Rows

abbrev TO := St → Hp → (Option Int → Hp → Prop) → Prop
def PO (X : Cx) (e : Option Expr) (t : TO) : Prop :=
  ∀ (pins : List (Addr × Obj)) (s : Shared) (σ : St) (H : Hp) (Q : Option Int → Hp → Prop), Inv X pins σ H s → t σ H Q →
    wpAny (model X.prog X.w) X.A (evalPart e X.env) (fun u s' => ∃ o H', Inv X pins σ H' s' ∧ IsPart u o ∧ Q o H') X.xe s
def tNoPart : TO := fun _ H Q => Q none H
def tPart (t : TE) : TO := fun σ H Q => t σ H fun x H1 => ∃ i, x = .int i ∧ Q (some i) H1

section
variable {X : Cx} {e : Expr} {te : TE} {lo hi : Option Expr} {tl th : TO} {pos p2 : Pos}

theorem po_none : PO X none tNoPart := by
  intro pins s σ H Q I h
  rw [evalPart_none]
  exact wpAny_pure ⟨none, H, I, .none, h⟩
theorem po_some (h : PE X e te) : PO X (some e) (tPart te) := by
  intro pins s σ H Q I hw
  rw [evalPart_some]
  refine thn (h pins s σ H _ I hw) fun u s1 ⟨x, H1, I1, r1, q1⟩ => ?_
  obtain ⟨i, rfl, q⟩ := q1
  obtain ⟨t, rfl⟩ := r1
  exact ⟨some i, H1, I1, .int i t, q⟩

def SlR (X : Cx) (r : V → Option Int → Option Int → Hp → VK → Prop) : Prop :=
  ∀ (pins : List (Addr × Obj)) (s : Shared) (σ : St) (H : Hp) (x : V) (v vl vu : Value) (lo hi : Option Int) (sl : Addr) (Q : VK), Inv X pins σ H s → RelV x v → s.heap.IsSliceOf sl vl vu .none → IsPart vl lo → IsPart vu hi → r x lo hi H Q →
    ∃ T id, typeLookup (.type T) "__getitem__" = pure (some (.builtin id)) ∧ s.TypeIs v T ∧ wpAny (model X.prog X.w) X.A (getItem v (.ref sl)) (EP X pins σ Q) X.xe s
def tSl (r : V → Option Int → Option Int → Hp → VK → Prop) (te : TE) (tl th : TO) : TE := fun σ H Q => te σ H fun x H1 => tl σ H1 fun l H2 => th σ H2 fun u H3 => r x l u H3 Q
theorem pe_slice {r : V → Option Int → Option Int → Hp → VK → Prop} (hr : SlR X r) (he : PE X e te) (hl : PO X lo tl) (hu : PO X hi th) : PE X (.Subscript e (.Slice lo hi none p2) pos) (tSl r te tl th) := by
  intro pins s σ H Q I h
  refine Subscript_ (thn (he pins s σ H _ I h) fun v s1 ⟨x, H1, I1, r1, q1⟩ => ?_)
  refine wpAny_Slice (thn (hl pins s1 σ H1 _ I1 q1) fun vl s2 ⟨l, H2, I2, pl, q2⟩ => thn (hu pins s2 σ H2 _ I2 q2) fun vu s3 ⟨u, H3, I3, pu, q3⟩ => ?_)
  rw [evalPart_none]
  refine wpAny_pure ?_
  have I4 : Inv X pins σ H3 { s3 with heap := s3.heap.push { cls := .type "slice", data := .fields #[vl, vu, .none] } } := I3.kept (t' := s3.toks) fun b ob q => Heap.get?_push_of_some _ q
  obtain ⟨T, id, hT, ht, hg⟩ := hr pins { s3 with heap := s3.heap.push { cls := .type "slice", data := .fields #[vl, vu, .none] } } σ H3 x v vl vu l u s3.heap.objs.size Q I4 r1 (Heap.IsSliceOf.new ..) pl pu q3
  show wpAny (model X.prog X.w) X.A (subscriptTail e (.Slice lo hi none p2) v (.ref s3.heap.objs.size)) (EP X pins σ Q) X.xe { s3 with heap := s3.heap.push { cls := .type "slice", data := .fields #[vl, vu, .none] } }
  exact tail_any (ops := [.ref s3.heap.objs.size, v]) ht hT hg (by with_unfolding_all rfl)

def cutV (xs : List V) (lo hi : Option Int) : List V := (xs.drop (HT.sIx xs.length 0 lo)).take (HT.sIx xs.length xs.length hi - HT.sIx xs.length 0 lo)
theorem cutV_length (xs : List V) (lo hi : Option Int) : (cutV xs lo hi).length ≤ xs.length := by
  unfold cutV
  rw [List.length_take, List.length_drop]
  omega
def rSlT (K : PySem.W.Frag) : V → Option Int → Option Int → Hp → VK → Prop := fun x lo hi H Q => ∃ a xs, x = .ref a ∧ SqT K H a xs ∧
  ¬ (HT.sIx xs.length 0 lo = 0 ∧ HT.sIx xs.length xs.length hi = xs.length) ∧ ∀ p, H p = none → Q (.ref p) (upd H p (.tup (cutV xs lo hi)))
theorem sl_tup : SlR X (rSlT X.K) := by
  intro pins s σ H x v vl vu lo hi sl Q I rx hs pl pu h
  obtain ⟨a, xs, rfl, hx, hw, q⟩ := h
  cases rx
  obtain ⟨its, r, ht, hz⟩ := I.tuple hx
  have hlen : its.toArray.size = xs.length := by rw [List.size_toArray]; exact r.length.symm
  refine ⟨"tuple", _, PyProof.Rows.slot_tuple_getitem.lookup, ht.typeIs, ?_⟩
  refine HT.getItem_tuple_cut ht hs pl pu (by rw [hlen]; exact hw) ?_ (by rw [hlen]; exact hz)
  rw [hlen]
  refine ⟨.ref s.heap.objs.size, _, I.laid (t' := s.toks) (o := .tup (cutV xs lo hi)) (fun b ob q => Heap.get?_push_of_some _ q) (Nat.le_refl _) ?_, rfl, q _ (I.hok.fresh (Nat.le_refl _))⟩
  exact ⟨Nat.le_trans (cutV_length xs lo hi) hz, _, (r.drop (HT.sIx xs.length 0 lo)).take (HT.sIx xs.length xs.length hi - HT.sIx xs.length 0 lo), IsTup.new _ _⟩

def rCatT (K : PySem.W.Frag) : R2 := fun x y H Q => ∃ a b xs ys, x = .ref a ∧ y = .ref b ∧ SqT K H a xs ∧ SqT K H b ys ∧ xs ≠ [] ∧ xs.length + ys.length ≤ sizeLine ∧
  (ys = [] → Q (.ref a) H) ∧ (ys ≠ [] → ∀ p, H p = none → Q (.ref p) (upd H p (.tup (xs ++ ys))))
theorem Vals.nil_iff {xs : List V} {us : List Value} (r : Vals xs us) : us = [] ↔ xs = [] := by
  cases r with
  | nil => simp
  | cons _ _ => simp
theorem op_catT : OpR X (binaryOp .Add) (rCatT X.K) := by
  intro pins s σ H x y v u Q I rx ry h
  obtain ⟨a, b, xs, ys, rfl, rfl, ha, hb, hx, hz, q1, q2⟩ := h
  cases rx
  cases ry
  obtain ⟨its, r1, p1, _⟩ := I.tuple ha
  obtain ⟨its2, r2, p2, _⟩ := I.tuple hb
  refine HT.cat_tup p1 p2 (fun z => hx (r1.nil_iff.mp z)) (fun z => ⟨.ref a, H, I, rfl, q1 (r2.nil_iff.mp z)⟩) (fun z => ?_) (by rw [← r1.length, ← r2.length]; exact hz)
  refine ⟨.ref s.heap.objs.size, _, I.laid (t' := s.toks) (o := .tup (xs ++ ys)) (fun b ob q => Heap.get?_push_of_some _ q) (Nat.le_refl _) ?_, rfl, q2 (fun w => z (r2.nil_iff.mpr w)) _ (I.hok.fresh (Nat.le_refl _))⟩
  exact ⟨by rw [List.length_append]; exact hz, _, r1.append r2, IsTup.new _ _⟩
end
end L2

namespace L2
open PySem PySem.Spec PyProof.Rows

def ixN (n : Nat) (i : Int) : Option Nat := if 0 ≤ i then (if i < n then some i.toNat else none) else if -(n : Int) ≤ i then some (i + n).toNat else none
def atI {α : Type} (xs : List α) (i : Int) : Option α := (ixN xs.length i).bind fun j => xs[j]?
theorem ixN_seq {n : Nat} {i : Int} {j : Nat} (h : ixN n i = some j) : seqIndex? i n = some j ∧ j < n ∧ -(n : Int) ≤ i ∧ i < n := by
  unfold ixN at h
  by_cases h0 : 0 ≤ i
  · rw [if_pos h0] at h
    by_cases h1 : i < n
    · rw [if_pos h1] at h
      have e : i.toNat = j := Option.some.inj h
      exact ⟨by rw [seqIndex_of h0 h1, e], by omega, by omega, h1⟩
    · rw [if_neg h1] at h; cases h
  · rw [if_neg h0] at h
    by_cases h1 : -(n : Int) ≤ i
    · rw [if_pos h1] at h
      have e : (i + n).toNat = j := Option.some.inj h
      exact ⟨by rw [seqIndex_neg (by omega) h1, e], by omega, h1, by omega⟩
    · rw [if_neg h1] at h; cases h
theorem atI_get {α : Type} {xs : List α} {i : Int} {v : α} (h : atI xs i = some v) : ∃ j, seqIndex? i xs.length = some j ∧ xs[j]? = some v ∧ j < xs.length ∧ -(xs.length : Int) ≤ i ∧ i < xs.length := by
  unfold atI at h
  cases e : ixN xs.length i with
  | none => rw [e] at h; cases h
  | some j =>
    rw [e] at h
    obtain ⟨h1, h2, h3, h4⟩ := ixN_seq e
    exact ⟨j, h1, h, h2, h3, h4⟩
theorem atI_nat {α : Type} {xs : List α} {j : Nat} {v : α} (h : xs[j]? = some v) : atI xs (j : Int) = some v := by
  have hj : j < xs.length := (List.getElem?_eq_some_iff.mp h).1
  have e : ixN xs.length (j : Int) = some j := by
    unfold ixN
    rw [if_pos (by omega), if_pos (by omega)]; simp
  unfold atI; rw [e]; exact h
theorem atI_last {α : Type} (xs : List α) (v : α) : atI (xs ++ [v]) (-1) = some v := by
  have hl : (xs ++ [v]).length = xs.length + 1 := by simp
  have e : ixN (xs ++ [v]).length (-1) = some xs.length := by
    unfold ixN
    rw [hl, if_neg (by decide), if_pos (by omega)]
    congr 1
    omega
  unfold atI
  rw [e]
  show (xs ++ [v])[xs.length]? = some v
  simp

def PlainIx (b : Expr) : Prop := ∀ o i, subscripted b false o i = operate [o, i] (getItem o i)
def IxR (X : Cx) (r : R2) : Prop :=
  ∀ (value slice : Expr) (pins : List (Addr × Obj)) (s : Shared) (σ : St) (H : Hp) (x y : V) (v u : Value) (Q : VK), Inv X pins σ H s → RelV x v → RelV y u → r x y H Q →
    subscripted slice false v u = operate [v, u] (getItem v u) → wpAny (model X.prog X.w) X.A (subscriptTail value slice v u) (EP X pins σ Q) X.xe s
def MtR (X : Cx) (id : String) (r : V → List V → Hp → VK → Prop) : Prop :=
  ∀ (pins : List (Addr × Obj)) (s : Shared) (σ : St) (H : Hp) (x : V) (xs : List V) (v : Value) (us : List Value) (Q : VK), Inv X pins σ H s → RelV x v → Vals xs us → r x xs H Q →
    wpAny (model X.prog X.w) X.A (call (.builtin id) (v :: us)) (EP X pins σ Q) X.xe s
section
variable {X : Cx} {a b : Expr} {ta tb : TE} {pos : Pos}
theorem pe_ix {r : R2} (hr : IxR X r) (ha : PE X a ta) (hb : PE X b tb) (hs : PlainIx b) : PE X (.Subscript a b pos) (tOp r ta tb) := by
  intro pins s σ H Q I h
  exact Subscript_ (binT ha hb I h fun v u s2 x y H2 I2 rx ry q => hr a b pins s2 σ H2 x y v u Q I2 rx ry q (hs _ _))

def rIxL (K : PySem.W.Frag) : R2 := fun x y H Q => ∃ p xs i v, x = .ref p ∧ y = .int i ∧ SqL K H p xs ∧ atI xs i = some v ∧ Q v H
def rIxT (K : PySem.W.Frag) : R2 := fun x y H Q => ∃ p xs i v, x = .ref p ∧ y = .int i ∧ SqT K H p xs ∧ atI xs i = some v ∧ Q v H
def rIxS : R2 := fun x y H Q => ∃ z i c, x = .str z ∧ y = .int i ∧ z.length ≤ sizeLine ∧ atI z.cps.toList i = some c ∧ Q (.str ⟨#[c]⟩) H
theorem ix_list : IxR X (rIxL X.K) := by
  intro value slice pins s σ H x y v u Q I rx ry h hs
  obtain ⟨p, xs, i, z, rfl, rfl, hq, he, q⟩ := h
  cases rx
  obtain ⟨t, rfl⟩ := ry
  obtain ⟨its, r, pl, hz⟩ := I.list hq
  obtain ⟨j, h1, h2, h3, h4, h5⟩ := atI_get he
  obtain ⟨w, ew, rw'⟩ := r.get h2
  have hl := r.length
  have hn := line63
  have fin : EP X pins σ Q w s := ⟨z, H, I, rw', q⟩
  by_cases h0 : 0 ≤ i
  · have hj : i.toNat = j := by
      rw [seqIndex_of h0 h5] at h1
      exact Option.some.inj h1
    exact item_listR pl.isList h0 (by omega) (by rw [hj]; simpa using ew) fin hs
  · have hj : (i + (its.toArray.size : Int)).toNat = j := by
      rw [seqIndex_neg (by omega) h4] at h1
      rw [List.size_toArray, ← hl]
      exact Option.some.inj h1
    exact subscriptTail_builtinR (x := w) pl.isList.typeIs slot_list_getitem.lookup
      (wpAny_getItem_list_neg (Q := fun r s' => r = w ∧ EP X pins σ Q r s') pl.isList (by omega) (by rw [List.size_toArray] <;> omega) (by omega) (by rw [hj]; simpa using ew) ⟨rfl, fin⟩) hs
theorem ix_tup : IxR X (rIxT X.K) := by
  intro value slice pins s σ H x y v u Q I rx ry h hs
  obtain ⟨p, xs, i, z, rfl, rfl, hq, he, q⟩ := h
  cases rx
  obtain ⟨t, rfl⟩ := ry
  obtain ⟨its, r, pl, hz⟩ := I.tuple hq
  obtain ⟨j, h1, h2, h3, h4, h5⟩ := atI_get he
  obtain ⟨w, ew, rw'⟩ := r.get h2
  have hl := r.length
  have hn := line63
  have fin : EP X pins σ Q w s := ⟨z, H, I, rw', q⟩
  exact subscriptTail_builtinR (x := w) pl.typeIs slot_tuple_getitem.lookup
    (getItem_tuple (j := j) (Q := fun r s' => r = w ∧ EP X pins σ Q r s') pl (by omega) (by omega) (by rw [List.size_toArray, ← hl]; exact h1) (by simpa using ew) ⟨rfl, fin⟩) hs
theorem ix_str : IxR X rIxS := by
  intro value slice pins s σ H x y v u Q I rx ry h hs
  obtain ⟨z, i, c, rfl, rfl, hz, he, q⟩ := h
  obtain ⟨t, rfl⟩ := rx
  obtain ⟨t', rfl⟩ := ry
  obtain ⟨j, h1, h2, h3, h4, h5⟩ := atI_get he
  have hl : z.cps.toList.length = z.length := by simp [Str.length]
  rw [hl] at h1 h4 h5
  have hn := line63
  exact tail_any (typeIs_str s z t) slot_str_getitem.lookup (getItem_str (c := c) (by
    have e1 : decide (i < -(2 ^ 63 : Int)) = false := decide_eq_false (by omega)
    have e2 : decide (i ≥ 2 ^ 63) = false := decide_eq_false (by omega)
    rw [e1, e2, Bool.or_false]) (by rw [h1]; simpa using h2) ⟨.str ⟨#[c]⟩, H, I.tok _, ⟨_, rfl⟩, q⟩) hs
theorem Inv.lst {pins : List (Addr × Obj)} {σ : St} {H : Hp} {s : Shared} {p : Addr} {xs : List V} (I : Inv X pins σ H s) (h : H p = some (.lst xs)) :
    ∃ (its : List Value) (n : Nat), Vals xs its ∧ s.heap.get? p = some { cls := .type "list", data := .seq its.toArray n } ∧ xs.length ≤ sizeLine := by
  obtain ⟨z, its, n, r, e⟩ := I.hok p _ h
  exact ⟨its, n, r, e, z⟩
theorem slice_bounds (lo hi : Option Int) (n : Nat) : (sliceBounds lo hi none n).1 = ((HT.sIx n 0 lo : Nat) : Int) ∧ (sliceBounds lo hi none n).2.1 = ((HT.sIx n n hi : Nat) : Int) ∧ (sliceBounds lo hi none n).2.2 = 1 := by
  refine ⟨?_, ?_, rfl⟩
  · cases lo with
    | none => simp [sliceBounds, HT.sIx]
    | some i =>
      simp only [sliceBounds, HT.sIx, Option.getD_none, show (1 : Int) > 0 by decide, if_true]
      by_cases h : i < 0
      · simp only [h, if_true] <;> omega
      · simp only [h, if_false] <;> omega
  · cases hi with
    | none => simp [sliceBounds, HT.sIx]
    | some i =>
      simp only [sliceBounds, HT.sIx, Option.getD_none, show (1 : Int) > 0 by decide, if_true]
      by_cases h : i < 0
      · simp only [h, if_true] <;> omega
      · simp only [h, if_false] <;> omega
theorem slicePick_cut (its : List Value) (lo hi : Option Int) : slicePick its.toArray lo hi none = ((its.drop (HT.sIx its.length 0 lo)).take (HT.sIx its.length its.length hi - HT.sIx its.length 0 lo)).toArray := by
  obtain ⟨h1, h2, h3⟩ := slice_bounds lo hi its.toArray.size
  unfold slicePick
  rw [h1, h2, h3]
  simp only [sliceRange_one, pick_run, List.size_toArray] <;> rfl
def rSlL (K : PySem.W.Frag) : V → Option Int → Option Int → Hp → VK → Prop := fun x lo hi H Q => ∃ a xs, x = .ref a ∧ SqL K H a xs ∧ ∀ p, H p = none → Q (.ref p) (upd H p (.lst (cutV xs lo hi)))
theorem sl_list : SlR X (rSlL X.K) := by
  intro pins s σ H x v vl vu lo hi sl Q I rx hs pl pu h
  obtain ⟨a, xs, rfl, hx, q⟩ := h
  cases rx
  obtain ⟨its, r, ht, hz⟩ := I.list hx
  have hlen := r.length
  refine ⟨"list", _, slot_list_getitem.lookup, ht.isList.typeIs, ?_⟩
  refine wpAny_getItem_list_slice ht.isList hs pl pu .none (by simp) ?_ (by rw [List.size_toArray] <;> omega)
  rw [slicePick_cut, ← hlen]
  refine ⟨.ref s.heap.objs.size, _, I.laid (t' := s.toks) (o := .lst (cutV xs lo hi)) (fun b ob q => Heap.get?_push_of_some _ q) (Nat.le_refl _) ?_, rfl, q _ (I.hok.fresh (Nat.le_refl _))⟩
  exact ⟨Nat.le_trans (cutV_length xs lo hi) hz, _, 0, (r.drop (HT.sIx xs.length 0 lo)).take (HT.sIx xs.length xs.length hi - HT.sIx xs.length 0 lo), Heap.get?_push_size _ rfl⟩

def flatV : V → Bool
  | .non => true
  | .bl _ => true
  | .int _ => true
  | .str _ => true
  | _ => false
def eqV : V → V → Bool
  | .non, .non => true
  | .bl a, .bl b => a == b
  | .bl a, .int b => (if a then 1 else 0) == b
  | .int a, .bl b => a == (if b then 1 else 0)
  | .int a, .int b => a == b
  | .str a, .str b => a == b
  | _, _ => false
theorem eqAt_V {A : Around} {s : Shared} {y x : V} {u v : Value} (ry : RelV y u) (rx : RelV x v) (fy : flatV y = true) (fx : flatV x = true) : SeqAt.EqAt A s u v (eqV y x) := by
  cases y with
  | non =>
    cases ry
    cases x with
    | non => cases rx; exact SeqAt.EqAt.same _
    | bl b => cases rx; exact SeqAt.EqAt.none_bool b
    | int b => obtain ⟨t, rfl⟩ := rx; exact SeqAt.EqAt.none_int b t
    | str b => obtain ⟨t, rfl⟩ := rx; exact SeqAt.EqAt.none_str b t
    | _ => exact absurd (show false = true from fx) Bool.false_ne_true
  | bl a =>
    cases ry
    cases x with
    | non => cases rx; exact SeqAt.EqAt.bool_none a
    | bl b => cases rx; exact SeqAt.EqAt.bool_bool a b
    | int b => obtain ⟨t, rfl⟩ := rx; exact SeqAt.EqAt.bool_int a b t
    | str b => obtain ⟨t, rfl⟩ := rx; exact SeqAt.EqAt.bool_str a b t
    | _ => exact absurd (show false = true from fx) Bool.false_ne_true
  | int a =>
    obtain ⟨t', rfl⟩ := ry
    cases x with
    | non => cases rx; exact SeqAt.EqAt.int_none a t'
    | bl b => cases rx; exact SeqAt.EqAt.int_bool a t' b
    | int b => obtain ⟨t, rfl⟩ := rx; exact SeqAt.EqAt.int_int a t' b t
    | str b => obtain ⟨t, rfl⟩ := rx; exact SeqAt.EqAt.int_str a t' b t
    | _ => exact absurd (show false = true from fx) Bool.false_ne_true
  | str a =>
    obtain ⟨t', rfl⟩ := ry
    cases x with
    | non => cases rx; exact SeqAt.EqAt.str_none a t'
    | bl b => cases rx; exact SeqAt.EqAt.str_bool a t' b
    | int b => obtain ⟨t, rfl⟩ := rx; exact SeqAt.EqAt.str_int a t' b t
    | str b => obtain ⟨t, rfl⟩ := rx; exact SeqAt.EqAt.str_str a t' b t
    | _ => exact absurd (show false = true from fx) Bool.false_ne_true
  | _ => exact absurd (show false = true from fy) Bool.false_ne_true
def eqU (x : V) (u : Value) : Bool := match u with
  | .none => eqV .non x
  | .bool b => eqV (.bl b) x
  | .int i _ => eqV (.int i) x
  | .str z _ => eqV (.str z) x
  | _ => false
theorem eqU_of {x y : V} {u : Value} (r : RelV y u) (f : flatV y = true) : eqU x u = eqV y x := by
  cases y with
  | non => cases r; rfl
  | bl b => cases r; rfl
  | int i => obtain ⟨t, rfl⟩ := r; rfl
  | str z => obtain ⟨t, rfl⟩ := r; rfl
  | _ => exact absurd (show false = true from f) Bool.false_ne_true
theorem any_eqU {x : V} : ∀ {xs : List V} {us : List Value}, Vals xs us → xs.all flatV = true → us.any (eqU x) = xs.any fun y => eqV y x
  | _, _, .nil, _ => rfl
  | y :: xs, u :: us, .cons r t, f => by
    rw [List.all_cons, Bool.and_eq_true] at f
    rw [List.any_cons, List.any_cons, eqU_of r f.1, any_eqU t f.2]
theorem mem_eqAt {A : Around} {s : Shared} {x : V} {v : Value} (rx : RelV x v) (fx : flatV x = true) : ∀ {xs : List V} {us : List Value}, Vals xs us → xs.all flatV = true → ∀ u ∈ us, SeqAt.EqAt A s u v (eqU x u)
  | _, _, .nil, _ => fun u hu => by cases hu
  | y :: xs, u :: us, .cons r t, f => fun u' hu => by
    rw [List.all_cons, Bool.and_eq_true] at f
    rcases List.mem_cons.mp hu with rfl | hu
    · rw [eqU_of r f.1]; exact eqAt_V r rx f.1 fx
    · exact mem_eqAt rx fx t f.2 u' hu
def inV (x : V) (xs : List V) : Bool := xs.any fun y => eqV y x
def rIn (K : PySem.W.Frag) (neg : Bool) : R2 := fun x y H Q => ∃ p xs, y = .ref p ∧ (SqL K H p xs ∨ SqT K H p xs) ∧ flatV x = true ∧ xs.all flatV = true ∧ Q (.bl (if neg then !inV x xs else inV x xs)) H
theorem op_in_seq : OpR X (compareOp .In) (rIn X.K false) := by
  intro pins s σ H x y v u Q I rx ry h
  obtain ⟨p, xs, rfl, hq, fx, fs, q⟩ := h
  cases ry
  rcases hq with hq | hq
  · obtain ⟨its, r, pl, hz⟩ := I.list hq
    refine SeqAt.in_listAt (eqU x) pl.isList (fun w hw => mem_eqAt rx fx r fs w (by simpa using hw)) ⟨.bl _, H, I, rfl, ?_⟩
    rw [show its.toArray.any (eqU x) = its.any (eqU x) by simp, any_eqU r fs]
    exact q
  · obtain ⟨its, r, pl, hz⟩ := I.tuple hq
    refine SeqAt.in_tupleAt (eqU x) pl (fun w hw => mem_eqAt rx fx r fs w (by simpa using hw)) ⟨.bl _, H, I, rfl, ?_⟩
    rw [show its.toArray.any (eqU x) = its.any (eqU x) by simp, any_eqU r fs]
    exact q
theorem op_notIn_seq : OpR X (compareOp .NotIn) (rIn X.K true) := by
  intro pins s σ H x y v u Q I rx ry h
  obtain ⟨p, xs, rfl, hq, fx, fs, q⟩ := h
  cases ry
  rcases hq with hq | hq
  · obtain ⟨its, r, pl, hz⟩ := I.list hq
    refine SeqAt.notIn_listAt (eqU x) pl.isList (fun w hw => mem_eqAt rx fx r fs w (by simpa using hw)) ⟨.bl _, H, I, rfl, ?_⟩
    rw [show its.toArray.any (eqU x) = its.any (eqU x) by simp, any_eqU r fs]
    exact q
  · obtain ⟨its, r, pl, hz⟩ := I.tuple hq
    refine SeqAt.notIn_tupleAt (eqU x) pl (fun w hw => mem_eqAt rx fx r fs w (by simpa using hw)) ⟨.bl _, H, I, rfl, ?_⟩
    rw [show its.toArray.any (eqU x) = its.any (eqU x) by simp, any_eqU r fs]
    exact q
theorem call_len_seq : CallR X (.builtin "len") (fun xs H Q => ∃ p ys, xs = [.ref p] ∧ (SqL X.K H p ys ∨ SqT X.K H p ys) ∧ Q (.int ys.length) H) := by
  intro pins s σ H xs us Q I r h
  obtain ⟨p, ys, rfl, hq, q⟩ := h
  obtain ⟨u, rfl, rx⟩ := vals1 r
  cases rx
  have hn := line63
  rcases hq with hq | hq
  · obtain ⟨its, r', pl, hz⟩ := I.list hq
    have hlen := r'.length
    exact Calls.call_len_list pl.isList (by simp only [List.size_toArray] <;> omega) ⟨.int ys.length, H, I.tok _, ⟨s.toks + 1, by rw [List.size_toArray, hlen]⟩, q⟩
  · obtain ⟨its, r', pl, hz⟩ := I.tuple hq
    have hlen := r'.length
    exact len_tuple pl (by simp only [List.size_toArray] <;> omega) ⟨.int ys.length, H, I.tok _, ⟨s.toks + 1, by rw [List.size_toArray, hlen]⟩, q⟩
theorem call_len_str : CallR X (.builtin "len") (fun xs H Q => ∃ z, xs = [.str z] ∧ z.length ≤ sizeLine ∧ Q (.int z.length) H) := by
  intro pins s σ H xs us Q I r h
  obtain ⟨z, rfl, hz, q⟩ := h
  obtain ⟨u, rfl, t, rfl⟩ := vals1 r
  have hn := line63
  exact len_str (by omega) ⟨.int z.length, H, I.tok _, ⟨_, rfl⟩, q⟩
theorem call_list_of : CallR X (.type "list") (fun xs H Q => ∃ p ys, xs = [.ref p] ∧ (SqL X.K H p ys ∨ SqT X.K H p ys) ∧ ∀ l, H l = none → Q (.ref l) (upd H l (.lst ys))) := by
  intro pins s σ H xs us Q I r h
  obtain ⟨p, ys, rfl, hq, q⟩ := h
  obtain ⟨u, rfl, rx⟩ := vals1 r
  cases rx
  have fin : ∀ (its : List Value), Vals ys its → ys.length ≤ sizeLine → ∀ (h' : Heap) (c' : Nat), (∀ b o', s.heap.get? b = some o' → h'.get? b = some o') →
      h'.get? s.heap.objs.size = some { cls := .type "list", dict := none, data := .seq its.toArray c', slots := #[] } → EP X pins σ Q (.ref s.heap.objs.size) { s with heap := h' } := fun its r' hz h' c' kp e =>
    ⟨.ref s.heap.objs.size, _, I.laid (t' := s.toks) kp (Nat.le_refl _) (show ObjOk X.prog X.w _ h' _ (.lst ys) from ⟨hz, its, c', r', e⟩), rfl, q _ (I.hok.fresh (Nat.le_refl _))⟩
  rcases hq with hq | hq
  · obtain ⟨its, r', pl, hz⟩ := I.list hq
    have hlen := r'.length
    obtain ⟨o, ho, hc, n, hd⟩ := pl.isList
    exact call_list_seq p (.inl rfl) ho hc hd (fun h' c' kp e => fin its r' hz h' c' kp e) (by simp only [List.size_toArray] <;> omega)
  · obtain ⟨its, r', pl, hz⟩ := I.tuple hq
    have hlen := r'.length
    obtain ⟨o, ho, hc, n, hd⟩ := pl
    exact call_list_seq p (.inr rfl) ho hc hd (fun h' c' kp e => fin its r' hz h' c' kp e) (by simp only [List.size_toArray] <;> omega)
def tyV (K : PySem.W.Frag) (T : String) (x : V) (H : Hp) : Prop := match x with
  | .str _ => T = "str"
  | .int _ => T = "int"
  | .ref p => (T = "list" ∧ ∃ xs, SqL K H p xs) ∨ (T = "tuple" ∧ ∃ o, K.lookup p = some o ∧ o.cls = .type "tuple" ∧ o.dict = none) ∨
      (T = "dict" ∧ ((∃ kvs, H p = some (.dK kvs)) ∨ ∃ kvs, H p = some (.dT kvs))) ∨ (T = "set" ∧ ∃ S n, H p = some (.set S n))
  | _ => False
theorem tyV_is {pins : List (Addr × Obj)} {σ : St} {H : Hp} {s : Shared} {T : String} {x : V} {v : Value} (I : Inv X pins σ H s) (r : RelV x v) (ty : tyV X.K T x H) :
    s.TypeIs v T ∧ ∀ a, v = .ref a → ∃ ob, s.heap.get? a = some ob ∧ ob.dict = none := by
  cases x with
  | str z =>
    obtain ⟨t, rfl⟩ := r
    cases (show T = "str" from ty)
    exact ⟨typeIs_str s z t, fun _ e => nomatch e⟩
  | int i =>
    obtain ⟨t, rfl⟩ := r
    cases (show T = "int" from ty)
    exact ⟨typeIs_int s i t, fun _ e => nomatch e⟩
  | ref p =>
    cases r
    rcases ty with ⟨rfl, xs, hq⟩ | ⟨rfl, o, hk, hc, hd⟩ | ⟨rfl, hk⟩ | ⟨rfl, S, n, hk⟩
    · obtain ⟨its, _, pl, _⟩ := I.list hq
      refine ⟨pl.isList.typeIs, fun a e => ?_⟩
      cases e
      obtain ⟨o, n, e, c, hd, _⟩ := pl
      exact ⟨o, e, hd⟩
    · refine ⟨⟨o, I.kIn p o hk, hc⟩, fun a e => ?_⟩
      cases e
      exact ⟨o, I.kIn _ o hk, hd⟩
    · have z : ∃ o, s.heap.get? p = some o ∧ o.ExactDict := by
        rcases hk with ⟨kvs, hk⟩ | ⟨kvs, hk⟩
        · obtain ⟨_, _, _, _, o, _, _, e, ex, _⟩ := I.hok p _ hk
          exact ⟨o, e, ex⟩
        · obtain ⟨_, _, _, _, o, _, _, e, ex, _⟩ := I.hok p _ hk
          exact ⟨o, e, ex⟩
      obtain ⟨o, e, ex⟩ := z
      refine ⟨⟨o, e, ex.1⟩, fun a e2 => ?_⟩
      cases e2
      exact ⟨o, e, ex.2.1⟩
    · obtain ⟨o, _, _, _, e, ex, _⟩ := I.hok p _ hk
      refine ⟨⟨o, e, ex.1⟩, fun a e2 => ?_⟩
      cases e2
      exact ⟨o, e, ex.2.1⟩
  | _ => exact False.elim ty
def tBM (K : PySem.W.Frag) (T : String) (r : V → List V → Hp → VK → Prop) (to : TE) (t : TA) : TE := fun σ H Q => to σ H fun x H1 => tyV K T x H1 ∧ t σ H1 fun xs H2 => r x xs H2 Q
variable {o e : Expr} {es : List Expr} {to : TE} {t : TA} {name : Str} {apos cpos : Pos} {T id : String} {r : V → List V → Hp → VK → Prop}
theorem pe_bm (pa : PlainAttrs T) (slot : Slot T name id) (hty : typeOf (.builtin id) = pure (.type "method_descriptor")) (hm : MtR X id r) (ho : PE X o to) (ha : PA X (e :: es) t)
    (hbase : attributeBase o name X.env (eval o X.env) = eval o X.env := by rfl)
    (hfew : ((backTo cpos (starEach (e :: es) X.env)).all (fun x => !x.1) && (backToKw cpos (keywordEach [] X.env)).all (fun x => x.1.isSome)
      && decide ((e :: es).length + ([] : List Keyword).length + (if ([] : List Keyword).isEmpty then 0 else 1) < 30)) = true := by rfl)
    (hline : (apos.endLine == cpos.line) = true := by rfl) (hs : starEach (e :: es) X.env = (false, eval e X.env) :: starEach es X.env := by rfl) (hplain : (backTo cpos (starEach es X.env)).any (·.1) = false := by rfl) :
    PE X (.Call (.Attribute o name apos) (e :: es) [] cpos) (tBM X.K T r to t) := by
  intro pins s σ H Q I h
  refine wpAny_Call_method_late hbase hfew hline rfl (thn (ho pins s σ H _ I h) fun v s1 ⟨x, H1, I1, r1, ty, q1⟩ => ?_)
  obtain ⟨h1, h2⟩ := tyV_is I1 r1 ty
  refine ⟨T, id, pa, slot, hty, h1, h2, ?_⟩
  have hA := ha cpos pins s1 σ H1 _ I1 q1
  rw [hs] at hA ⊢
  refine Calls.callWith_builtin (by show (false || (backTo cpos (starEach es X.env)).any (·.1)) = false; rw [hplain] <;> rfl) (Calls.evalArgs_plain ?_)
  exact thn hA fun us s2 ⟨vs, H2, I2, r2, q2⟩ => hm pins s2 σ H2 x vs v us Q I2 r1 r2 q2
end
end L2

namespace L2
open PySem PySem.Spec PyProof.Rows

def MtM (X : Cx) (id : String) (r : V → List V → Hp → VK → Prop) : Prop :=
  ∀ (pins : List (Addr × Obj)) (s : Shared) (σ : St) (H : Hp) (x : V) (xs : List V) (v : Value) (us : List Value) (Q : VK), Inv X pins σ H s → RelV x v → Vals xs us → r x xs H Q →
    wpAny (model X.prog X.w) X.A (call (.builtin id) (v :: us)) (EP X pins σ Q) X.xe s

theorem Vals.one : ∀ {x : V} {us : List Value}, Vals [x] us → ∃ u, us = [u] ∧ RelV x u
  | _, _, .cons r .nil => ⟨_, rfl, r⟩
theorem Vals.zero : ∀ {us : List Value}, Vals [] us → us = []
  | _, .nil => rfl
theorem Vals.reverse {xs : List V} {us : List Value} (h : Vals xs us) : Vals xs.reverse us.reverse := by
  induction h with
  | nil => exact .nil
  | cons r t ih => rw [List.reverse_cons, List.reverse_cons]; exact Vals.append ih (.cons r .nil)
theorem Vals.rep {xs : List V} {us : List Value} (h : Vals xs us) : ∀ k : Nat, Vals (List.replicate k xs).flatten (List.replicate k us).flatten
  | 0 => .nil
  | k + 1 => by
    rw [List.replicate_succ, List.replicate_succ, List.flatten_cons, List.flatten_cons]
    exact Vals.append h (Vals.rep h k)
theorem foldl_rep (its : List Value) : ∀ (k : Nat) (acc : List Value),
    List.foldl (fun x1 x2 => x1 ++ x2) acc.toArray (List.replicate k its.toArray) = (acc ++ (List.replicate k its).flatten).toArray
  | 0, acc => by simp
  | k + 1, acc => by
    have e : acc.toArray ++ its.toArray = (acc ++ its).toArray := by simp
    have e2 : (acc ++ its) ++ (List.replicate k its).flatten = acc ++ (List.replicate (k + 1) its).flatten := by
      rw [List.replicate_succ, List.flatten_cons, List.append_assoc]
    rw [← e2, ← foldl_rep its k (acc ++ its), ← e, List.replicate_succ, List.foldl_cons]

section
variable {X : Cx} {pins : List (Addr × Obj)} {σ : St} {H : Hp} {s : Shared} {l b : Addr} {xs ys zs : List V}

theorem Inv.lset {its its' : List Value} {n : Nat} {f : Array Value → Array Value} {t' : Nat} (I : Inv X pins σ H s) (hH : H l = some (.lst xs))
    (e : s.heap.get? l = some { cls := .type "list", data := .seq its.toArray n }) (hf : f its.toArray = its'.toArray) (hv : Vals ys its') (hz : ys.length ≤ sizeLine) :
    Inv X pins σ (upd H l (.lst ys)) { s with heap := s.heap.update l (Obj.mapSeq f), toks := t' } := by
  have q := PySem.IsL.update e f
  rw [hf] at q
  refine I.write (x := l) (e := l) (by rw [hH]; exact trivial) (.inl rfl) (fun b' u hb hu => (Heap.get?_update_other s.heap (Obj.mapSeq f) (Ne.symm hb)).trans hu) ⟨_, q⟩ ?_
  exact ⟨hz, its', _, hv, q⟩
theorem Inv.lnew {its : List Value} {t' : Nat} (I : Inv X pins σ H s) (hv : Vals ys its) (hz : ys.length ≤ sizeLine) :
    Inv X pins σ (upd H s.heap.objs.size (.lst ys)) { s with heap := s.heap.push { cls := .type "list", data := .seq its.toArray }, toks := t' } :=
  I.laid (fun _ _ q => Heap.get?_push_of_some _ q) (Nat.le_refl _) ⟨hz, its, 0, hv, Heap.get?_push_size _ rfl⟩
theorem Inv.fresh (I : Inv X pins σ H s) : H s.heap.objs.size = none := I.hok.fresh (Nat.le_refl _)
theorem Inv.lstM (I : Inv X pins σ H s) (hH : H l = some (.lst xs)) : xs.length ≤ sizeLine ∧ ∃ (its : List Value) (n : Nat), Vals xs its ∧ xs.length = its.length ∧ s.heap.get? l = some { cls := .type "list", data := .seq its.toArray n } := by
  obtain ⟨z, its, n, r, e⟩ := I.hok l _ hH
  exact ⟨z, its, n, r, r.length, e⟩

theorem notLongL {n : Nat} (h : n ≤ sizeLine) : Builtin.List.listTooLong n = false := by
  unfold Builtin.List.listTooLong
  exact decide_eq_false (by omega)
end

section
variable {X : Cx}

def rAppend : V → List V → Hp → VK → Prop := fun x vs H Q => ∃ l xs y, x = .ref l ∧ vs = [y] ∧ H l = some (.lst xs) ∧ xs.length < sizeLine ∧ Q .non (upd H l (.lst (xs ++ [y])))
theorem mt_append : MtM X "list.append" rAppend := by
  intro pins s σ H x vs v us Q I rx rv h
  obtain ⟨l, xs, y, rfl, rfl, hH, hz, q⟩ := h
  cases rx
  obtain ⟨u, rfl, ru⟩ := rv.one
  obtain ⟨z, its, n, r, hl, e⟩ := I.lstM hH
  refine call_meets F.slot_list_append ⟨_, e, rfl⟩ F.entry_list_append (F.args_list_append_2 _ _) (PySem.list_append l its.toArray n u (by rw [List.size_toArray]; omega)) ⟨e, ?_⟩
  refine ⟨.non, _, I.lset (its' := its ++ [u]) hH e (by simp) (r.append (.cons ru .nil)) ?_, rfl, q⟩
  rw [List.length_append, List.length_singleton]
  omega

def rCat : R2 := fun x y H Q => ∃ l b xs zs, x = .ref l ∧ y = .ref b ∧ H l = some (.lst xs) ∧ H b = some (.lst zs) ∧ xs.length + zs.length ≤ sizeLine ∧ ∀ p, H p = none → Q (.ref p) (upd H p (.lst (xs ++ zs)))
theorem op_cat : OpR X (binaryOp .Add) rCat := by
  intro pins s σ H x y v u Q I rx ry h
  obtain ⟨l, b, xs, zs, rfl, rfl, hH, hB, hz, q⟩ := h
  cases rx
  cases ry
  obtain ⟨z, its, n, r, hl, e⟩ := I.lstM hH
  obtain ⟨z2, its2, n2, r2, hl2, e2⟩ := I.lstM hB
  refine PySem.P.add_list e e2 ?_ (by rw [List.size_toArray, List.size_toArray]; omega)
  have ea : its.toArray ++ its2.toArray = (its ++ its2).toArray := by simp
  rw [ea]
  exact ⟨.ref _, _, I.lnew (t' := s.toks) (r.append r2) (by rw [List.length_append]; omega), rfl, q _ I.fresh⟩
def rRep : R2 := fun x y H Q => ∃ l k xs, x = .ref l ∧ y = .int k ∧ H l = some (.lst xs) ∧ -(2 ^ 63) ≤ k ∧ k < 2 ^ 63 ∧ xs.length * k.toNat ≤ sizeLine ∧
  ∀ p, H p = none → Q (.ref p) (upd H p (.lst (List.replicate k.toNat xs).flatten))
theorem len_rep {α : Type} (xs : List α) (k : Nat) : (List.replicate k xs).flatten.length = k * xs.length := by
  induction k with
  | zero => simp
  | succ k ih => rw [List.replicate_succ, List.flatten_cons, List.length_append, ih, Nat.succ_mul, Nat.add_comm]
theorem op_rep : OpR X (binaryOp .Mult) rRep := by
  intro pins s σ H x y v u Q I rx ry h
  obtain ⟨l, k, xs, rfl, rfl, hH, h1, h2, hz, q⟩ := h
  cases rx
  obtain ⟨t, rfl⟩ := ry
  obtain ⟨z, its, n, r, hl, e⟩ := I.lstM hH
  have hlen : its.toArray.size * k.toNat ≤ sizeLine := by rw [List.size_toArray, ← hl]; exact hz
  have hcap : ¬ its.toArray.size * k.toNat > (2 ^ 63 - 1) / 8 := by
    have : (sizeLine : Nat) ≤ (2 ^ 63 - 1) / 8 := by decide
    omega
  have hfit : ¬ (!Builtin.List.listFitsIndex k) = true := by
    rw [fitsIndex_both h1 h2]
    exact Bool.false_ne_true
  have hlong : ¬ Builtin.List.listTooLong (its.toArray.size * k.toNat) = true := by
    rw [notLongL hlen]
    exact Bool.false_ne_true
  have hnew : List.foldl (fun x1 x2 => x1 ++ x2) #[] (List.replicate (if its.toArray.isEmpty = true then 0 else k.toNat) its.toArray) = (List.replicate k.toNat its).flatten.toArray := by
    have f0 : ∀ m : Nat, List.foldl (fun x1 x2 => x1 ++ x2) #[] (List.replicate m its.toArray) = (List.replicate m its).flatten.toArray := fun m => by
      have := foldl_rep its m []
      rw [List.nil_append] at this
      exact this
    rw [f0]
    cases its with
    | nil => simp
    | cons a r' => rw [if_neg (by simp)]
  refine wpAny_binaryOp_repeat_ref (T := "list") (U := "int") (by decide) ⟨_, e, rfl⟩ (fun s' => typeIs_int s' k t) noFill_list_mul F.fills_int_mul F.slot_int_rmul repeat_list F.slot_int_index.lookup
    (call_meets F.slot_int_rmul (typeIs_int s k t) F.entry_int_rmul (F.args_int_rmul_2 _ _) (int___rmul___int_list k t l its.toArray n)
      ⟨e, rfl, ⟨_, e, rfl⟩, call_meets F.slot_list_mul ⟨_, e, rfl⟩ F.entry_list_mul (F.args_list_mul_2 _ _) (AutoListH.list___mul___list_int_3 l its.toArray n k t hfit hcap hlong) ⟨e, ?_⟩⟩)
  rw [hnew]
  exact ⟨.ref _, _, I.lnew (t' := s.toks) (r.rep k.toNat) (by rw [len_rep, Nat.mul_comm]; exact hz), rfl, q _ I.fresh⟩

end

section
variable {prog : Program} {w : World} {A : Around} {E : Value → Shared → Prop} {s : Shared}
end

section
variable {X : Cx}
end
end L2

namespace L2
open PySem PySem.Spec PyProof.Rows

section
variable {κ : Type} [DecidableEq κ]
def valV (kvs : List (κ × V)) (k : κ) : Option V := (kvs.find? fun kv => decide (kv.1 = k)).map (·.2)
def putK (kvs : List (κ × V)) (k : κ) (v : V) : List (κ × V) :=
  if (kvs.any fun kv => decide (kv.1 = k)) = true then kvs.map (fun kv => if kv.1 = k then (kv.1, v) else kv) else kvs ++ [(k, v)]
def dropK (kvs : List (κ × V)) (k : κ) : List (κ × V) := kvs.filter fun kv => decide (kv.1 ≠ k)

theorem valV_pos {p : κ × V} {r : List (κ × V)} {k : κ} (e : p.1 = k) : valV (p :: r) k = some p.2 := by simp [valV, List.find?_cons, e]
theorem valV_neg {p : κ × V} {r : List (κ × V)} {k : κ} (e : ¬ p.1 = k) : valV (p :: r) k = valV r k := by simp [valV, List.find?_cons, e]
theorem valV_any (k : κ) : ∀ kvs : List (κ × V), (kvs.any fun kv => decide (kv.1 = k)) = (valV kvs k).isSome
  | [] => rfl
  | p :: r => by
    rw [List.any_cons]
    by_cases e : p.1 = k
    · simp only [valV_pos e, decide_eq_true e, Bool.true_or, Option.isSome_some]
    · rw [valV_neg e, decide_eq_false e, Bool.false_or]; exact valV_any k r
theorem valV_map (k j : κ) (y : V) : ∀ kvs : List (κ × V), valV (kvs.map fun kv => if kv.1 = k then (kv.1, y) else kv) j = (valV kvs j).map fun x => if j = k then y else x
  | [] => rfl
  | p :: r => by
    have ih := valV_map k j y r
    rw [List.map_cons]
    by_cases h : p.1 = k
    · rw [if_pos h]
      by_cases e : p.1 = j
      · rw [valV_pos (p := (p.1, y)) e, valV_pos e, Option.map_some, if_pos (e.symm.trans h)]
      · rw [valV_neg (p := (p.1, y)) e, valV_neg e, ih]
    · rw [if_neg h]
      by_cases e : p.1 = j
      · rw [valV_pos (p := p) e, valV_pos e, Option.map_some, if_neg (fun z => h (e.trans z))]
      · rw [valV_neg (p := p) e, valV_neg e, ih]
theorem valV_snoc (k j : κ) (y : V) : ∀ kvs : List (κ × V), valV kvs k = none → valV (kvs ++ [(k, y)]) j = if j = k then some y else valV kvs j
  | [], _ => by
    by_cases e : k = j
    · rw [if_pos e.symm]; exact valV_pos (p := (k, y)) e
    · rw [if_neg (fun z => e z.symm)]; exact valV_neg (p := (k, y)) e
  | p :: r, hn => by
    rw [List.cons_append]
    have hk : ¬ p.1 = k := fun z => by rw [valV_pos z] at hn; cases hn
    rw [valV_neg hk] at hn
    have ih := valV_snoc k j y r hn
    by_cases e : p.1 = j
    · rw [valV_pos e, valV_pos e, if_neg (fun z => hk (e.trans z))]
    · rw [valV_neg e, valV_neg e, ih]
theorem valV_put (kvs : List (κ × V)) (k j : κ) (y : V) : valV (putK kvs k y) j = if j = k then some y else valV kvs j := by
  unfold putK
  by_cases a : (kvs.any fun kv => decide (kv.1 = k)) = true
  · rw [if_pos a, valV_map]
    rw [valV_any] at a
    by_cases e : j = k
    · obtain ⟨x, hx⟩ := Option.isSome_iff_exists.mp a
      rw [if_pos e, e, hx, Option.map_some, if_pos rfl]
    · rw [if_neg e]
      cases valV kvs j with
      | none => rfl
      | some x => rw [Option.map_some, if_neg e]
  · rw [if_neg a]
    refine valV_snoc k j y kvs ?_
    rw [valV_any] at a
    cases q : valV kvs k with
    | none => rfl
    | some x => rw [q] at a; exact (a rfl).elim
theorem length_putK (kvs : List (κ × V)) (k : κ) (v : V) : (putK kvs k v).length ≤ kvs.length + 1 := by
  unfold putK
  split
  · rw [List.length_map]; omega
  · rw [List.length_append, List.length_cons, List.length_nil]; omega
theorem RelO.isSome_eq {o : Option V} {u : Option Value} (r : RelO o u) : o.isSome = u.isSome := by
  cases o with
  | none => cases u with
    | none => rfl
    | some _ => exact (show False from r).elim
  | some _ => cases u with
    | none => exact (show False from r).elim
    | some _ => rfl
theorem RelO.getD {o : Option V} {u : Option Value} {d : V} {d' : Value} (r : RelO o u) (rd : RelV d d') : RelV (o.getD d) (u.getD d') := by
  cases o with
  | none => cases u with
    | none => exact rd
    | some _ => exact (show False from r).elim
  | some _ => cases u with
    | none => exact (show False from r).elim
    | some _ => exact r

theorem KV.val {kvs : List (κ × V)} {vs : List (κ × Value)} (r : KV kvs vs) (k : κ) : RelO (valV kvs k) (valueAt vs k) := by
  unfold KV at r
  induction r with
  | nil => exact True.intro
  | @cons p q ps qs h t ih =>
    obtain ⟨h1, h2⟩ := h
    by_cases e : p.1 = k
    · have e' : q.1 = k := h1.symm.trans e
      have b : valueAt (q :: qs) k = some q.2 := by simp [valueAt, List.find?_cons, e']
      rw [valV_pos e, b]; exact h2
    · have e' : ¬ q.1 = k := fun z => e (h1.trans z)
      have b : valueAt (q :: qs) k = valueAt qs k := by simp [valueAt, List.find?_cons, e']
      rw [valV_neg e, b]; exact ih
theorem KV.any {kvs : List (κ × V)} {vs : List (κ × Value)} (r : KV kvs vs) (k : κ) : (kvs.any fun kv => decide (kv.1 = k)) = vs.any fun kv => decide (kv.1 = k) := by
  unfold KV at r
  induction r with
  | nil => rfl
  | cons h t ih => rw [List.any_cons, List.any_cons, ih, h.1]
theorem KV.repl {kvs : List (κ × V)} {vs : List (κ × Value)} (r : KV kvs vs) (k : κ) {y : V} {u : Value} (ry : RelV y u) :
    KV (kvs.map fun kv => if kv.1 = k then (kv.1, y) else kv) (vs.map fun kv => if kv.1 = k then (kv.1, u) else kv) := by
  unfold KV at r ⊢
  induction r with
  | nil => exact .nil
  | @cons p q ps qs h t ih =>
    rw [List.map_cons, List.map_cons]
    refine .cons ?_ ih
    obtain ⟨h1, h2⟩ := h
    by_cases e : p.1 = k
    · rw [if_pos e, if_pos (h1.symm.trans e)]; exact ⟨h1, ry⟩
    · rw [if_neg e, if_neg (fun z => e (h1.trans z))]; exact ⟨h1, h2⟩
theorem KV.put {kvs : List (κ × V)} {vs : List (κ × Value)} (r : KV kvs vs) (k : κ) {y : V} {u : Value} (ry : RelV y u) : KV (putK kvs k y) (stored vs k u) := by
  unfold putK stored
  rw [r.any k]
  by_cases e : (vs.any fun kv => decide (kv.1 = k)) = true
  · rw [if_pos e, if_pos e]; exact r.repl k ry
  · rw [if_neg e, if_neg e]; exact Paired.snoc r ⟨rfl, ry⟩
theorem KV.drop {kvs : List (κ × V)} {vs : List (κ × Value)} (r : KV kvs vs) (k : κ) : KV (dropK kvs k) (without vs k) := by
  unfold KV at r ⊢
  unfold dropK without
  induction r with
  | nil => exact .nil
  | @cons p q ps qs h t ih =>
    obtain ⟨h1, h2⟩ := h
    rw [List.filter_cons, List.filter_cons]
    by_cases e : p.1 = k
    · have a : ¬ decide (p.1 ≠ k) = true := by simp [e]
      have b : ¬ decide (q.1 ≠ k) = true := by simp [h1.symm.trans e]
      rw [if_neg a, if_neg b]; exact ih
    · have e' : ¬ q.1 = k := fun z => e (h1.trans z)
      have a : decide (p.1 ≠ k) = true := by simp [e]
      have b : decide (q.1 ≠ k) = true := by simp [e']
      rw [if_pos a, if_pos b]; exact .cons ⟨h1, h2⟩ ih
theorem KV.keys {kvs : List (κ × V)} {vs : List (κ × Value)} (r : KV kvs vs) : kvs.map (·.1) = vs.map (·.1) := by
  unfold KV at r
  induction r with
  | nil => rfl
  | cons h t ih => rw [List.map_cons, List.map_cons, ih, h.1]
theorem KV.length {kvs : List (κ × V)} {vs : List (κ × Value)} (r : KV kvs vs) : kvs.length = vs.length := Paired.length r
end


theorem kV_is {P : Program} {w : World} {k : Key} {u : Value} (r : RelV (kV k) u) : (mixKind P w).is k u = true := by
  cases k with
  | inl i => obtain ⟨t, e⟩ := (show ∃ t, u = Value.int i t from r); subst e; exact mixKind_int P w i t
  | inr x => obtain ⟨t, e⟩ := (show ∃ t, u = Value.str x t from r); subst e; exact mixKind_str P w x t
theorem items_are {P : Program} {w : World} : ∀ {ks : List Key} {us : List Value}, Vals (ks.map kV) us → ItemsAre (mixKind P w) ks us
  | [], _, r => by rw [List.map_nil] at r; cases r; exact .nil
  | k :: ks, _, r => by
    rw [List.map_cons] at r
    cases r with
    | cons h t => exact .cons (kV_is h) (items_are t)

abbrev KT (H : Hp) : List (List Key × V) → List (List Key × Addr × Value) → Prop := Paired fun p q => p.1 = q.1 ∧ H q.2.1 = some (.tup (p.1.map kV)) ∧ RelV p.2 q.2.2
theorem KT.val {H : Hp} {kvs : List (List Key × V)} {xs : List (List Key × Addr × Value)} (r : KT H kvs xs) (k : List Key) : RelO (valV kvs k) ((atKey xs k).map (·.2)) := by
  induction r with
  | nil => exact True.intro
  | @cons p q ps qs h t ih =>
    obtain ⟨h1, _, h2⟩ := h
    by_cases e : p.1 = k
    · have e' : q.1 = k := h1.symm.trans e
      have b : atKey (q :: qs) k = some q.2 := by simp [atKey, List.find?_cons, e']
      rw [valV_pos e, b]; exact h2
    · have e' : ¬ q.1 = k := fun z => e (h1.trans z)
      have b : atKey (q :: qs) k = atKey qs k := by simp [atKey, List.find?_cons, e']
      rw [valV_neg e, b]; exact ih
theorem KT.repl {H : Hp} {kvs : List (List Key × V)} {xs : List (List Key × Addr × Value)} (r : KT H kvs xs) (k : List Key) {y : V} {u : Value} (ry : RelV y u) :
    KT H (kvs.map fun kv => if kv.1 = k then (kv.1, y) else kv) (xs.map (putAt k u)) := by
  induction r with
  | nil => exact .nil
  | @cons p q ps qs h t ih =>
    rw [List.map_cons, List.map_cons]
    refine .cons ?_ ih
    obtain ⟨h1, h2, h3⟩ := h
    unfold putAt
    by_cases e : p.1 = k
    · rw [if_pos e, if_pos (h1.symm.trans e)]; exact ⟨h1, h2, ry⟩
    · rw [if_neg e, if_neg (fun z => e (h1.trans z))]; exact ⟨h1, h2, h3⟩
theorem KT.put {H : Hp} {kvs : List (List Key × V)} {xs : List (List Key × Addr × Value)} (r : KT H kvs xs) (k : List Key) {b : Addr} {y : V} {u : Value} (hb : H b = some (.tup (k.map kV))) (ry : RelV y u) :
    KT H (putK kvs k y) (storedH xs k b u) := by
  have e : (kvs.any fun kv => decide (kv.1 = k)) = (atKey xs k).isSome := by
    rw [valV_any, (r.val k).isSome_eq, Option.isSome_map]
  unfold putK storedH
  rw [e]
  by_cases q : (atKey xs k).isSome = true
  · rw [if_pos q, if_pos q]; exact r.repl k ry
  · rw [if_neg q, if_neg q]; exact Paired.snoc r ⟨rfl, hb, ry⟩
theorem KT.keeps {H H' : Hp} {kvs : List (List Key × V)} {xs : List (List Key × Addr × Value)} (r : KT H kvs xs) (ht : ∀ b ys, H b = some (.tup ys) → H' b = some (.tup ys)) : KT H' kvs xs :=
  Paired.mapP r fun _ _ z => ⟨z.1, ht _ _ z.2.1, z.2.2⟩

section
variable {P : Program} {w : World} {H : Hp} {h : Heap} {a : Addr}
theorem rd_of {u : HO} (ok : HOk P w H h) (e : Rd H a u) : ObjOk P w H h a u := e.ok ok
theorem dk_rd {kvs : List (Key × V)} (ok : HOk P w H h) (e : Rd H a (.dK kvs)) : kvs.length ≤ sizeLine ∧ (a == sysModules) = false ∧ ∃ vs, KV kvs vs ∧ h.DictOf (mixKind P w) a vs :=
  show ObjOk P w H h a (.dK kvs) from rd_of ok e
theorem dk_of {kvs : List (Key × V)} (ok : HOk P w H h) (e : H a = some (.dK kvs)) : kvs.length ≤ sizeLine ∧ (a == sysModules) = false ∧ ∃ vs, KV kvs vs ∧ h.DictOf (mixKind P w) a vs := dk_rd ok (.inl e)
theorem key_of {ks : List Key} (ok : HOk P w H h) (e : H a = some (.tup (ks.map kV))) : (tupleKind (mixKind P w)).is h ks a := by
  obtain ⟨_, its, r, o, h1, h2, n, h3⟩ := (show ObjOk P w H h a (.tup (ks.map kV)) from ok a _ e)
  exact ⟨o, its.toArray, n, h1, h2, h3, by simpa using items_are r⟩
theorem dt_rd {kvs : List (List Key × V)} (ok : HOk P w H h) (e : Rd H a (.dT kvs)) : kvs.length ≤ sizeLine ∧ (a == sysModules) = false ∧
    ∃ xs, KT H kvs xs ∧ h.DictOfH (tupleKind (mixKind P w)) a xs := by
  obtain ⟨z, y, xs, r, o, es, ep, h1, h2, h3, h4, h5⟩ := (show ObjOk P w H h a (.dT kvs) from rd_of ok e)
  refine ⟨z, y, xs, r, o, es, ep, h1, h2, h3, h4, fun x hx => ?_, h5⟩
  have all : ∀ {l : List (List Key × V)} {m : List (List Key × Addr × Value)}, KT H l m → ∀ x ∈ m, (tupleKind (mixKind P w)).is h x.1 x.2.1 := by
    intro l m q
    induction q with
    | nil => intro x hx; exact nomatch hx
    | @cons p q ps qs hq t ih =>
      intro x hx
      rcases List.mem_cons.mp hx with e | hx
      · subst e
        exact key_of ok (by rw [← hq.1]; exact hq.2.1)
      · exact ih x hx
  exact all r x hx
theorem dt_of {kvs : List (List Key × V)} (ok : HOk P w H h) (e : H a = some (.dT kvs)) : kvs.length ≤ sizeLine ∧ (a == sysModules) = false ∧
    ∃ xs, KT H kvs xs ∧ h.DictOfH (tupleKind (mixKind P w)) a xs := dt_rd ok (.inl e)
end

def DGet (H : Hp) (a : Addr) (y : V) (r : Option V) : Prop :=
  (∃ kvs k, Rd H a (.dK kvs) ∧ y = kV k ∧ r = valV kvs k) ∨ ∃ kvs k b, Rd H a (.dT kvs) ∧ y = .ref b ∧ H b = some (.tup (k.map kV)) ∧ r = valV kvs k
def DPut (H : Hp) (a : Addr) (y v : V) (H' : Hp) : Prop :=
  (∃ kvs k, H a = some (.dK kvs) ∧ y = kV k ∧ kvs.length < sizeLine ∧ H' = upd H a (.dK (putK kvs k v))) ∨
  ∃ kvs k b, H a = some (.dT kvs) ∧ y = .ref b ∧ H b = some (.tup (k.map kV)) ∧ kvs.length < sizeLine ∧ H' = upd H a (.dT (putK kvs k v))
theorem DGet.k {H : Hp} {a : Addr} {kvs : List (Key × V)} {k : Key} (e : H a = some (.dK kvs)) : DGet H a (kV k) (valV kvs k) := .inl ⟨kvs, k, .inl e, rfl, rfl⟩
theorem DGet.t {H : Hp} {a b : Addr} {kvs : List (List Key × V)} {k : List Key} (e : H a = some (.dT kvs)) (eb : H b = some (.tup (k.map kV))) : DGet H a (.ref b) (valV kvs k) := .inr ⟨kvs, k, b, .inl e, rfl, eb, rfl⟩
theorem DPut.k {H : Hp} {a : Addr} {kvs : List (Key × V)} {k : Key} {v : V} (e : H a = some (.dK kvs)) (hl : kvs.length < sizeLine) : DPut H a (kV k) v (upd H a (.dK (putK kvs k v))) := .inl ⟨kvs, k, e, rfl, hl, rfl⟩
theorem DPut.t {H : Hp} {a b : Addr} {kvs : List (List Key × V)} {k : List Key} {v : V} (e : H a = some (.dT kvs)) (eb : H b = some (.tup (k.map kV))) (hl : kvs.length < sizeLine) :
    DPut H a (.ref b) v (upd H a (.dT (putK kvs k v))) := .inr ⟨kvs, k, b, e, rfl, eb, hl, rfl⟩


section
variable {X : Cx} {pins : List (Addr × Obj)} {σ : St} {H : Hp} {s : Shared} {a : Addr} {y v : V} {u r : Value} {o : Option V} {A : Around} {E : Value → Shared → Prop}

theorem Inv.big (I : Inv X pins σ H s) : sysModules < s.heap.objs.size := by
  have h : mainGlobals < s.heap.objs.size := (I.mod.glob.keeps I.bk).lt
  exact Nat.lt_trans (by decide) h

theorem d_getItem {Q : Value → Shared → Prop} (hu : A.units + 1 < cLine) (I : Inv X pins σ H s) (g : DGet H a y (some v)) (ry : RelV y u) (h : ∀ w' s', Inv X pins σ H s' → RelV v w' → Q w' s') :
    wpAny (model X.prog X.w) A (getItem (.ref a) u) Q E s := by
  rcases g with ⟨kvs, k, e, ey, l⟩ | ⟨kvs, k, b, e, ey, eb, l⟩
  · subst ey
    obtain ⟨z, hd, vs, rel, dd⟩ := dk_rd I.hok e
    obtain ⟨w', hw, rw'⟩ := RelO.some_of (v := v) (o := valueAt vs k) (by rw [l]; exact rel.val k)
    exact wpAny_getItem_of (kV_is ry) dd.mapOf hw (h w' _ (I.tok _) rw')
  · subst ey
    cases (show u = Value.ref b from ry)
    obtain ⟨z, hd, xs, rel, dd⟩ := dt_rd I.hok e
    obtain ⟨w', hw, rw'⟩ := RelO.some_of (v := v) (o := (atKey xs k).map (·.2)) (by rw [l]; exact rel.val k)
    obtain ⟨p, hp, hp2⟩ := Option.map_eq_some_iff.mp hw
    refine wpAny_getItem_heap (tupleKind_room_in1 hu) (key_of I.hok eb) dd hp ?_
    rw [hp2]
    exact h w' _ (I.tok _) rw'
theorem d_write {h' : Heap} {t' : Nat} {ob : HO} (I : Inv X pins σ H s) (mu : Mut (H a)) (hs : Heap.SameBut a s.heap h') (he : ∃ q, h'.get? a = some q) (new : ObjOk X.prog X.w (upd H a ob) h' a ob) :
    Inv X pins σ (upd H a ob) { s with heap := h', toks := t' } :=
  I.write (x := a) (e := a) mu (.inl rfl) (fun b q hb z => (hs.2 b hb).trans z) he new
theorem dk_new {P : Program} {w : World} {H' : Hp} {h' : Heap} {kvs : List (Key × V)} {vs : List (Key × Value)} (z : kvs.length ≤ sizeLine) (hd : (a == sysModules) = false) (rel : KV kvs vs) (dd : h'.DictOf (mixKind P w) a vs) :
    ObjOk P w H' h' a (.dK kvs) := ⟨z, hd, vs, rel, dd⟩
theorem d_setItem {H' : Hp} {Q : Unit → Shared → Prop} (hu : A.units + 1 < cLine) (I : Inv X pins σ H s) (g : DPut H a y v H') (ry : RelV y u) (rv : RelV v r) (h : ∀ s', Inv X pins σ H' s' → Q () s') :
    wpAny (model X.prog X.w) A (setItem (.ref a) u r) Q E s := by
  rcases g with ⟨kvs, k, e, ey, l, eH⟩ | ⟨kvs, k, b, e, ey, eb, l, eH⟩
  · subst ey eH
    obtain ⟨z, hd, vs, rel, dd⟩ := dk_of I.hok e
    have hz : vs.length ≤ sizeLine := by rw [← rel.length]; exact z
    have hl : (putK kvs k v).length ≤ sizeLine := by have := length_putK kvs k v; omega
    refine wpAny_setItem_pairs (hsz := hz) (kV_is ry) dd fun h' dd' hs => h _ ?_
    have he : ∃ q, h'.get? a = some q := let ⟨q, _, _, hq, _⟩ := dd'; ⟨q, hq⟩
    exact d_write I (by rw [e]; exact True.intro) hs he (dk_new hl hd (rel.put k rv) dd')
  · subst ey eH
    cases (show u = Value.ref b from ry)
    obtain ⟨z, hd, xs, rel, dd⟩ := dt_of I.hok e
    have hz : xs.length ≤ sizeLine := by rw [← Paired.length rel]; exact z
    have hl : (putK kvs k v).length ≤ sizeLine := by have := length_putK kvs k v; omega
    refine wpAny_setItem_heap (hsz := hz) (tupleKind_room_in1 hu) (key_of I.hok eb) dd fun h' dd' hs => h _ ?_
    obtain ⟨q, es, ep, hq, h2, h3, h4, _, h5⟩ := dd'
    refine d_write I (by rw [e]; exact True.intro) hs ⟨q, hq⟩ ⟨hl, hd, _, (rel.put k eb rv).keeps fun c ys ec => ?_, q, es, ep, hq, h2, h3, h4, h5⟩
    rw [upd_ne (ne_of ec e (fun z => nomatch z))]
    exact ec
end

section
variable {X : Cx} {pins : List (Addr × Obj)} {σ : St} {H : Hp} {s : Shared} {a : Addr} {kvs : List (Key × V)} {k : Key} {u : Value} {A : Around} {E : Value → Shared → Prop}
end


section
variable {X : Cx} {o i e value : Expr} {pos pos' tpos : Pos} {td ty tv : TE}
end


theorem dk_empty {P : Program} {w : World} {H : Hp} (h : Heap) (hb : sysModules < h.objs.size) : ObjOk P w H (h.push { cls := .type "dict", data := .dict #[] }) h.objs.size (.dK []) :=
  ⟨Nat.zero_le _, beq_eq_false_iff_ne.mpr (Ne.symm (Nat.ne_of_lt hb)), [], .nil, Heap.DictOf.new h⟩
def tDNewK : TE := fun _ H Q => ∀ p, H p = none → Q (.ref p) (upd H p (.dK []))
section
variable {X : Cx} {pos : Pos}
theorem pe_dnewK : PE X (.Dict [] [] pos) tDNewK := fun pins s σ H Q I h =>
  wpAny_Dict_empty ⟨.ref s.heap.objs.size, _, I.laid (a := s.heap.objs.size) (o := .dK []) (t' := s.toks) (fun _ _ q => Heap.get?_push_of_some _ q) (Nat.le_refl _) (dk_empty s.heap I.big), rfl, h _ (I.hok.fresh (Nat.le_refl _))⟩
end

structure M1 (X : Cx) (o : Expr) (m : Str) (apos : Pos) (e : Expr) (cpos : Pos) : Prop where
  base : attributeBase o m X.env (eval o X.env) = eval o X.env
  few : ((backTo cpos (starEach [e] X.env)).all (fun x => !x.1) && (backToKw cpos (keywordEach [] X.env)).all (fun x => x.1.isSome)
    && decide (([e] : List Expr).length + ([] : List Keyword).length + (if ([] : List Keyword).isEmpty then 0 else 1) < 30)) = true
  line : (apos.endLine == cpos.line) = true
  trees : backTo cpos (starEach [e] X.env) = [(false, eval e X.env)]
structure M2 (X : Cx) (o : Expr) (m : Str) (apos : Pos) (e f : Expr) (cpos : Pos) : Prop where
  base : attributeBase o m X.env (eval o X.env) = eval o X.env
  few : ((backTo cpos (starEach [e, f] X.env)).all (fun x => !x.1) && (backToKw cpos (keywordEach [] X.env)).all (fun x => x.1.isSome)
    && decide (([e, f] : List Expr).length + ([] : List Keyword).length + (if ([] : List Keyword).isEmpty then 0 else 1) < 30)) = true
  line : (apos.endLine == cpos.line) = true
  trees : backTo cpos (starEach [e, f] X.env) = [(false, eval e X.env), (false, eval f X.env)]

def IsD (H : Hp) (a : Addr) : Prop := (∃ kvs, Rd H a (.dK kvs)) ∨ ∃ kvs, Rd H a (.dT kvs)
theorem isD_at {X : Cx} {pins : List (Addr × Obj)} {σ : St} {H : Hp} {s : Shared} {a : Addr} (I : Inv X pins σ H s) (d : IsD H a) :
    s.TypeIs (.ref a) "dict" ∧ (∀ b, Value.ref a = .ref b → ∃ ob, s.heap.get? b = some ob ∧ ob.dict = none) ∧ (a == sysModules) = false := by
  rcases d with ⟨kvs, e⟩ | ⟨kvs, e⟩
  · obtain ⟨_, hd, vs, _, dd⟩ := dk_rd I.hok e
    refine ⟨dd.typeIs, fun b q => ?_, hd⟩
    cases q
    obtain ⟨ob, _, _, h1, h2, _⟩ := dd
    exact ⟨ob, h1, h2.2.1⟩
  · obtain ⟨_, hd, xs, _, dd⟩ := dt_rd I.hok e
    refine ⟨dd.typeIs, fun b q => ?_, hd⟩
    cases q
    obtain ⟨ob, _, _, h1, h2, _⟩ := dd
    exact ⟨ob, h1, h2.2.1⟩

section
variable {X : Cx} {pins : List (Addr × Obj)} {σ : St} {H : Hp} {s : Shared} {a : Addr} {y d : V} {u r : Value} {o : Option V} {A : Around} {E : Value → Shared → Prop}
theorem d_get1 {Q : Value → Shared → Prop} (hu : A.units + 1 < cLine) (I : Inv X pins σ H s) (g : DGet H a y o) (ry : RelV y u) (h : ∀ w' s', Inv X pins σ H s' → RelV (o.getD .non) w' → Q w' s') :
    wpAny (model X.prog X.w) A (call (.builtin "dict.get") [.ref a, u]) Q E s := by
  rcases g with ⟨kvs, k, e, ey, l⟩ | ⟨kvs, k, b, e, ey, eb, l⟩
  · subst ey
    obtain ⟨z, hd, vs, rel, dd⟩ := dk_rd I.hok e
    refine call_meetsIn PySem.F.slot_dict_get dd.typeIs PySem.F.entry_dict_get (PySem.F.args_dict_get_2 _ _) (meets_dict_get (mixKind X.prog X.w) a (kV_is ry) hd) ⟨_, dd.mapOf, h _ _ (I.tok _) ?_⟩
    rw [l]
    exact (rel.val k).getD rfl
  · subst ey
    cases (show u = Value.ref b from ry)
    obtain ⟨z, hd, xs, rel, dd⟩ := dt_rd I.hok e
    refine call_meetsIn PySem.F.slot_dict_get dd.typeIs PySem.F.entry_dict_get (PySem.F.args_dict_get_2 _ _) (meetsH_dict_get (tupleKind (mixKind X.prog X.w)) a b hd) ⟨tupleKind_room_in1 hu, k, xs, key_of I.hok eb, dd, h _ _ (I.tok _) ?_⟩
    rw [l]
    exact (rel.val k).getD rfl
end

def tDGet1 (td ty : TE) : TE := fun σ H Q => td σ H fun x H1 => ∃ a, x = .ref a ∧ IsD H1 a ∧ ty σ H1 fun y H2 => ∃ o, DGet H2 a y o ∧ Q (o.getD .non) H2
section
variable {X : Cx} {o e f : Expr} {apos cpos : Pos} {td ty tx : TE}
theorem pe_dget1 (hu : X.A.units + 1 < cLine) (ho : PE X o td) (he : PE X e ty) (m : M1 X o "get" apos e cpos) : PE X (.Call (.Attribute o "get" apos) [e] [] cpos) (tDGet1 td ty) := by
  intro pins s σ H Q I h
  refine wpAny_Call_method m.base m.few m.line PySem.F.plainAttrs_dict PySem.F.slot_dict_get PySem.F.type_dict_get (thn (ho pins s σ H _ I h) fun u s1 ⟨x, H1, I1, rx, a, ex, d, q1⟩ => ?_)
  subst ex
  obtain rfl : u = Value.ref a := rx
  obtain ⟨t1, t2, _⟩ := isD_at I1 d
  refine ⟨t1, t2, ?_⟩
  rw [m.trees]
  refine Calls.callWith_builtin rfl (Calls.evalArgs_plain (Calls.spliced_cons (thn (he pins s1 σ H1 _ I1 q1) fun iv s2 ⟨y, H2, I2, ry, ov, g, q2⟩ => Calls.spliced_nil ?_)))
  exact d_get1 hu I2 g ry fun w' s3 I3 rw' => ⟨_, H2, I3, rw', q2⟩
end

section
variable {X : Cx} {pins : List (Addr × Obj)} {σ : St} {H : Hp} {s : Shared} {a : Addr} {kvs : List (Key × V)} {A : Around} {E : Value → Shared → Prop}
end


section
variable {X : Cx} {pins : List (Addr × Obj)} {σ : St} {H : Hp} {s : Shared} {a : Addr} {y : V} {u : Value} {A : Around} {E : Value → Shared → Prop}
end
end L2

namespace Att
open PySem PySem.W PySem.Calls PyProof.Rows

theorem ints_of_wellAll {P : Params} {h : Heap} : ∀ (ns : List Int) (vs : List Value), WellAll P h vs (ns.map WData.int) → IntsAre vs ns := by
  intro ns
  induction ns with
  | nil =>
    intro vs w
    rw [List.map_nil] at w
    cases w
    exact .nil
  | cons n ns ih =>
    intro vs w
    rw [List.map_cons] at w
    cases w with
    | cons a b =>
      cases a
      exact .cons _ _ (ih _ b)

theorem script_of {l : OpenLaw} {n : Nat} (hn : l.most = some n) {P : Params} {h : Heap} {args : List WData} {vals : List Value}
    (hpre : l.row.toRowW.claim.pre args = true) (hwl : WellAll P h vals args) :
    ∃ a vs ns, vals = [Value.ref a] ∧ args = [WData.list (ns.map WData.int)] ∧ h.get? a = some { cls := .type "list", data := .seq vs.toArray } ∧ IntsAre vs ns ∧ ns.length ≤ n := by
  have hsh : WShape.hasAll [] args [.list .int] = true := (pre_splitW hpre).1
  have hc : l.pre.holds [] { args := args } = true := (pre_splitW hpre).2
  obtain ⟨d, r, rfl, h1, h2⟩ := hasAllW_cons hsh
  obtain rfl := hasAllW_nil h2
  obtain ⟨xs, rfl, h3⟩ := hasW_list h1
  obtain ⟨ns, rfl⟩ := items_int h3
  have hlen : ns.length ≤ n := by
    unfold OpenLaw.pre at hc
    have h4 : (WTm.not (.lt (.lit (.int (n : Int))) (.len (.arg 0)))).holds [] { args := [.list (ns.map .int)] } = true := by
      have h4 := (holds_andW hc).1
      rw [hn] at h4
      exact h4
    have h5 := condW_of h4 (w_not (w_lt w_lit (w_len_list (w_arg rfl))))
    rw [List.length_map] at h5
    refine Nat.le_of_not_lt fun q => ?_
    have q' : (n : Int) < ((ns.length : Nat) : Int) := by omega
    first
      | (rw [decide_eq_true q'] at h5; exact absurd h5 (by decide))
      | (simp at h5; omega)
  cases hwl with
  | cons w1 w2 =>
    cases w2
    cases w1 with
    | list ho hall => exact ⟨_, _, ns, rfl, rfl, ho, ints_of_wellAll ns _ hall, hlen⟩

theorem post_true (l : OpenLaw) (args : List WData) : l.row.toRowW.claim.post args (.bool true) args = true :=
  postW_of (r := l.row.toRowW) (X := (true == true))
    (show WShape.has [] (.bool true) .bool = true by first | rfl | decide | simp [WShape.has, WShape.arms, WShape.armsAll])
    (show (WTm.eq .res (.lit (.bool true))).value [] { args := args, res := some (.bool true), after := args } = some (.bool (true == true)) from w_eq_bool (w_res rfl) w_lit) rfl

theorem attach_call {l : OpenLaw} {n : Nat} {q : Program} {loose : List Str} {XP : (Str → Option Value) → Heap → Prop} {YP : World → Heap → Prop} {d : DefRec}
    (hn : l.most = some n) (hdf : d.params.defaults = [])
    (call : ∀ (w : World) (s₀ s₁ : Shared) (mg mb : Str → Option Value) (fa : Addr) (o : Obj) (pm cd doc : Value) (a : Addr) (vs : List Value) (ns : List Int),
      Ground q loose [] XP w s₀ mg mb s₁.heap → YP w s₁.heap →
      s₁.heap.get? fa = some o → o.data = .func (docDef d.name d.params d.body d.scope pm cd doc) → s₁.heap.CodeRec cd d.name → mg d.name = some (.ref fa) →
      s₁.heap.get? a = some { cls := .type "list", data := .seq vs.toArray } → IntsAre vs ns → ns.length ≤ n → s₁.gens = #[] →
      codeAny (model l.prog w) callerA (.call (.ref fa) ⟨[.ref a], []⟩) (fun r s' => r = .ok (.ret (.bool true)) ∧ OldK s₁.heap s'.heap ∧ s'.os = s₁.os ∧ AllBare s'.gens) s₁) :
    WalkO q loose XP YP l.row.toRowW d [] (fun f vs => PySem.call f vs) := by
  intro w s₀ s₁ mg mb G Y fa o pm cd doc dV kV ho hd hcd hD hmg hg args vals as hpre hlay hrd hwl hlo
  obtain rfl : dV = .none := Dflts.none hD hdf
  obtain rfl : kV = .none := Dflts.noKw hD
  obtain ⟨a, vs, ns, rfl, rfl, hobj, hints, hlen⟩ := script_of hn hpre hwl
  refine enter_call (codeAny_mono (call w s₀ s₁ mg mb fa o pm cd doc a vs ns G Y ho (fd_plain hd) hcd hmg hobj hints hlen hg) fun r s' hq => ?_)
  obtain ⟨rfl, h2, h3, h4⟩ := hq
  exact ⟨.inl ⟨.bool true, .bool true, [], rfl, fun _ => rfl, .bool true, post_true l _, fun _ => ⟨List.Pairwise.nil, fun _ hm => (nomatch hm)⟩⟩, h2, h3, h4⟩

section
variable {prog : Program} {w : World} {A : Around} {E : Value → Shared → Prop} {s : Shared} {K : Frag}

end
end Att

namespace L2
open PySem PySem.Spec PyProof.Rows

theorem vals_ints : ∀ {vs : List Value} {ns : List Int}, IntsAre vs ns → Vals (ns.map V.int) vs
  | _, _, .nil => .nil
  | _, _, .cons n t h => .cons ⟨t, rfl⟩ (vals_ints h)

end L2

namespace L2
open PySem PySem.Spec PyProof.Rows

abbrev KOf {K : PySem.W.Frag} {h : Heap} (_ : K.In h) : PySem.W.Frag := K

end L2


namespace L2
open PySem PySem.Spec PyProof.Rows

def defArgs (s : Stmt) : Arguments := match s with
  | .FunctionDef _ a _ _ _ _ _ _ _ _ => a
  | _ => { posonlyargs := [], args := [], vararg := none, kwonlyargs := [], kw_defaults := [], kwarg := none, defaults := [] }
def defBody (s : Stmt) : List Stmt := match s with
  | .FunctionDef _ _ b _ _ _ _ _ _ _ => b
  | _ => []
def defScope (s : Stmt) : Scope := match s with
  | .FunctionDef _ _ _ _ _ _ sc _ _ _ => sc
  | _ => { kind := .function, names := [], isGenerator := false, isCoroutine := false }

abbrev CX0 : CXT := fun _ _ _ _ _ _ => False
abbrev E0 : XK := fun _ _ _ => False
theorem pass0 {X : Cx} : Passes CX0 X E0 := fun _ _ _ _ _ _ _ h => h.elim

structure Fun (K : PySem.W.Frag) (x qual : Str) (st : Stmt) (f : Addr) (fd : FuncData) : Prop where
  ex : ∃ (oc : Value) (od : Option Addr) (kV doc pm : Value) (an : Option Addr) (cdv ct : Value) (osl : Array (Option Value)),
    fd = PySem.W.fnOf x qual (defArgs st) (defBody st) (defScope st) .none kV doc pm an cdv ct ∧ K.lookup f = some ⟨oc, od, .func fd, osl⟩ ∧ PySem.W.codeIn K cdv qual = true
  kp : PySem.W.keepIn K (.ref f) = true
section
variable {P : Program} {w : World} {K : PySem.W.Frag} {mg : Str → Option Value} {base : Heap}
theorem Fun.ok {x qual : Str} {st : Stmt} {f : Addr} {fd : FuncData} {N ps : List Str} {k : Nat} {sp : Sp} (F : Fun K x qual st f fd) (S : FnScope N ps (defScope st)) (len : ∀ vs H Q E, sp vs H Q E → vs.length = ps.length)
    (hbody : ∀ (cdv : Value) (A : Around) (outer : List Env) (s : Shared) (H : Hp) (vs : List V) (Q : VK) (E : XK), Room k (A.deeper (envOfC qual (defScope st) s.heap.objs.size f cdv)) → sp vs H Q E →
      ∃ t, PSs (cxOf CX0 P w K mg base N qual (defScope st) f cdv A outer s H E).nox (defBody st) t ∧ t { nx := fun _ H' => Q .non H', rt := Q } (start N vs) H) : FnOk P w K mg base CX0 (k + 1) f fd ps sp := by
  obtain ⟨oc, od, kV, doc, pm, an, cdv, ct, osl, rfl, lk, hcd⟩ := F.ex
  refine fn_of lk hcd S len fun A outer s H vs Q E hr hsp => ?_
  obtain ⟨t, h, q⟩ := hbody cdv A outer s H vs Q E hr hsp
  exact ⟨t, h.nox, q⟩
theorem Fun.binds {x qual : Str} {st : Stmt} {f : Addr} {fd : FuncData} {ps : List Str} (F : Fun K x qual st f fd)
    (h : ∀ (kV doc pm : Value) (an : Option Addr) (cdv ct : Value) (us : List Value), us.length = ps.length → bindArgs (PySem.W.fnOf x qual (defArgs st) (defBody st) (defScope st) .none kV doc pm an cdv ct) ⟨us, []⟩ = pure (ps.zip us)) : Binds K fd ps [] := by
  obtain ⟨oc, od, kV, doc, pm, an, cdv, ct, osl, rfl, lk, hcd⟩ := F.ex
  exact .all (h kV doc pm an cdv ct)
theorem fun_mk {x qual : Str} {st : Stmt} {f : Addr} {oc : Value} {od an : Option Addr} {osl : Array (Option Value)} {kV doc pm cdv ct : Value} (l : K.lookup f = some ⟨oc, od, .func (PySem.W.fnOf x qual (defArgs st) (defBody st) (defScope st) .none kV doc pm an cdv ct), osl⟩)
    (c : PySem.W.codeIn K cdv qual = true) (k : PySem.W.keepIn K (.ref f) = true) : Fun K x qual st f (PySem.W.fnOf x qual (defArgs st) (defBody st) (defScope st) .none kV doc pm an cdv ct) := ⟨⟨oc, od, kV, doc, pm, an, cdv, ct, osl, rfl, l, c⟩, k⟩
end
section
variable {X : Cx}
end

theorem ite2 {c A B : Prop} [Decidable c] (h1 : c → A) (h2 : ¬ c → B) : if c then A else B := by
  by_cases h : c
  · rw [if_pos h]
    exact h1 h
  · rw [if_neg h]
    exact h2 h
def Same (H H' : Hp) : Prop := ∀ b o, H b = some o → H' b = some o
theorem Same.refl (H : Hp) : Same H H := fun _ _ h => h
theorem Same.trans {H H1 H2 : Hp} (a : Same H H1) (b : Same H1 H2) : Same H H2 := fun c o h => b c o (a c o h)
theorem Same.free {H H' : Hp} (e : Same H H') {l : Addr} (h : H' l = Option.none) : H l = Option.none := by
  cases q : H l with
  | none => rfl
  | some o =>
    rw [e l o q] at h
    cases h
theorem Same.seq {K : PySem.W.Frag} {H H' : Hp} {a : Addr} {xs : List V} (e : Same H H') (h : SqL K H a xs) : SqL K H' a xs := by
  rcases h with (h | ⟨o, h⟩) | h
  · exact .inl (.inl (e _ _ h))
  · exact .inl (.inr ⟨o, e _ _ h⟩)
  · exact .inr h

section
variable {κ : Type} [DecidableEq κ]
end
end L2

set_option Elab.async false
set_option linter.all false
set_option maxRecDepth 100000
set_option maxHeartbeats 4000000
namespace L2
open PySem PySem.Spec PyProof.Rows

def closOf (env : Env) : List (Str × NameKind) → List (Str × Addr) → List (Str × Addr)
  | [], acc => acc
  | (n, k) :: r, acc => if k == .free then (match env.cells.lookup n with
      | some c => closOf env r ((n, c) :: acc)
      | none => closOf env r acc) else closOf env r acc
theorem closOf_ok {env : Env} : ∀ {names : List (Str × NameKind)} {acc : List (Str × Addr)}, (∀ n c, acc.lookup n = some c → env.cells.lookup n = some c) →
    ∀ n c, (closOf env names acc).lookup n = some c → env.cells.lookup n = some c
  | [], acc, h, n, c, e => h n c e
  | (x, k) :: r, acc, h, n, c, e => by
    unfold closOf at e
    split at e
    · split at e
      · rename_i cx hx
        refine closOf_ok (fun y d q => ?_) n c e
        rw [List.lookup_cons] at q
        cases hb : y == x with
        | true => rw [hb] at q; cases q; rw [beq_iff_eq.mp hb]; exact hx
        | false => rw [hb] at q; exact h y d q
      · exact closOf_ok h n c e
    · exact closOf_ok h n c e
theorem closOf_acc {env : Env} : ∀ {names : List (Str × NameKind)} {acc : List (Str × Addr)} {n : Str}, (acc.lookup n).isSome = true → ((closOf env names acc).lookup n).isSome = true
  | [], _, _, h => h
  | (x, k) :: r, acc, n, h => by
    unfold closOf
    split
    · split
      · refine closOf_acc ?_
        rw [List.lookup_cons]
        cases n == x with
        | true => rfl
        | false => exact h
      · exact closOf_acc h
    · exact closOf_acc h
theorem closOf_has {env : Env} : ∀ {names : List (Str × NameKind)} {acc : List (Str × Addr)} {n : Str} {c : Addr}, (n, NameKind.free) ∈ names → env.cells.lookup n = some c → ((closOf env names acc).lookup n).isSome = true
  | [], _, _, _, h, _ => nomatch h
  | (x, k) :: r, acc, n, c, h, e => by
    rcases List.mem_cons.mp h with q | q
    · cases q
      unfold closOf
      rw [if_pos (by rfl), e]
      refine closOf_acc ?_
      rw [List.lookup_cons, beq_self_eq_true]
      rfl
    · unfold closOf
      split
      · split
        · exact closOf_has q e
        · exact closOf_has q e
      · exact closOf_has q e
theorem closureFor_of {scope : Scope} {env : Env} (h : ∀ y ∈ scope.names, y.2 = .free → ∃ c, env.cells.lookup y.1 = some c) : closureFor scope env = pure (closOf env scope.names []) := by
  simp only [closureFor]
  have go : ∀ (names : List (Str × NameKind)) (acc : List (Str × Addr)), (∀ y ∈ names, y.2 = .free → ∃ c, env.cells.lookup y.1 = some c) →
      (forIn names acc (fun x cs => if (x.2 == NameKind.free) = true then (do let a ← cellOf env x.1; pure (ForInStep.yield ((x.1, a) :: cs))) else pure (ForInStep.yield cs)) : Sem (List (Str × Addr))) = pure (closOf env names acc) := by
    intro names
    induction names with
    | nil => intro acc _; rfl
    | cons p r ih =>
      intro acc hh
      obtain ⟨n, k⟩ := p
      rw [List.forIn_cons]
      unfold closOf
      by_cases hk : (k == NameKind.free) = true
      · obtain ⟨c, hc⟩ := hh (n, k) List.mem_cons_self (by simpa using hk)
        have hc' : env.cells.lookup n = some c := hc
        rw [if_pos hk, if_pos hk, hc']
        have e : cellOf env n = pure c := by unfold cellOf; rw [hc']
        simp only [e, pure_bind]
        exact ih _ fun y hy => hh y (List.mem_cons_of_mem _ hy)
      · rw [if_neg hk, if_neg hk]
        simp only [pure_bind]
        exact ih _ fun y hy => hh y (List.mem_cons_of_mem _ hy)
  have := go scope.names [] h
  simpa using this

theorem lookup_relabel {env : Env} : ∀ {names : List (Str × NameKind)} {x : Str},
    (names.map fun (n, k) => if (k == NameKind.free && env.scope.kind == .function && env.kindOf n == some .cell) then (n, NameKind.cell) else (n, k)).lookup x =
      (names.lookup x).map fun k => if (k == NameKind.free && env.scope.kind == .function && env.kindOf x == some .cell) then NameKind.cell else k
  | [], _ => rfl
  | (n, k) :: r, x => by
    have ih := @lookup_relabel env r x
    rw [List.map_cons]
    show List.lookup x ((if (k == NameKind.free && env.scope.kind == .function && env.kindOf n == some .cell) = true then (n, NameKind.cell) else (n, k)) :: _) = _
    cases hx : x == n with
    | true =>
      have e : x = n := beq_iff_eq.mp hx
      subst e
      by_cases hc : (k == NameKind.free && env.scope.kind == .function && env.kindOf x == some .cell) = true
      · rw [if_pos hc, List.lookup_cons, List.lookup_cons, hx]
        simp only [Option.map_some, hc, if_true]
      · rw [if_neg hc, List.lookup_cons, List.lookup_cons, hx]
        simp only [Option.map_some]
        rw [if_neg hc]
    | false =>
      by_cases hc : (k == NameKind.free && env.scope.kind == .function && env.kindOf n == some .cell) = true
      · rw [if_pos hc, List.lookup_cons, List.lookup_cons, hx]; exact ih
      · rw [if_neg hc, List.lookup_cons, List.lookup_cons, hx]; exact ih

theorem comp_loop {prog : Program} {w : World} {A : Around} {R : Result → Shared → Prop} {s : Shared} {elt target iter : Expr} {ifs : List Expr} {scope : Scope} {pos : Pos} {it acc : Value} {env : Env} (I : Nat → Shared → Prop)
    (turn : ∀ n s, I n s → wpAny (model prog w) A (pyNext it) (fun r s₁ => match r with
      | none => R (.ok .next) s₁
      | some v => wpAny (model prog w) A (letOwnedTupleGo target it v) (fun _ s₁' => wpAny (model prog w) A (assign target env v) (fun _ s₂ =>
          wpAny (model prog w) A (forIn ifs true fun c r => if r = true then do let ok ← isTrue c env (eval c env); pure (ForInStep.yield ok) else pure (ForInStep.yield r)) (fun ok s₃ =>
            if ok = true then wpAny (model prog w) A (eval elt env) (fun x s₄ =>
              wpAny (model prog w) A (call (.builtin "list.append") [acc, x]) (fun _ s₅ => ∃ m, m < n ∧ I m s₅) (notedBy (model prog w) A env fun e s' => R (.error e) s') s₄) (notedBy (model prog w) A env fun e s' => R (.error e) s') s₃
            else ∃ m, m < n ∧ I m s₃) (notedBy (model prog w) A env fun e s' => R (.error e) s') s₂) (notedBy (model prog w) A env fun e s' => R (.error e) s') s₁') (notedBy (model prog w) A env fun e s' => R (.error e) s') s₁) (notedBy (model prog w) A env fun e s' => R (.error e) s') s)
    (n : Nat) (h : I n s) :
    codeAny (model prog w) A (.compLoop (.ListComp elt [⟨target, iter, ifs, 0⟩] scope pos) 0 it acc env) R s := by
  refine codeAny_loop rfl I (fun n s hI => ?_) n h
  show wpAny _ A ((compTurn (.ListComp elt [⟨target, iter, ifs, 0⟩] scope pos) 0 it acc env).onRaise (fun x => do noteFrame x env; theTreesLotGoes x)) _ _ s
  refine wpAny_noted ?_
  rw [compTurn_list]
  refine wpAny_bind (wpAny_standAt (wpAny_bind (wpAny_mono (turn n s hI) (fun r s₁ h₁ => ?_) fun _ _ h' => h')))
  cases r with
  | none => exact wpAny_pure h₁
  | some v =>
    refine wpAny_bind (wpAny_mono h₁ (fun _ s₁' h₁' => ?_) fun _ _ h' => h')
    refine wpAny_bind (wpAny_mono h₁' (fun _ s₂ h₂ => wpAny_bind (wpAny_mono h₂ (fun ok s₃ h₃ => ?_) fun _ _ h' => h')) fun _ _ h' => h')
    cases ok with
    | false => exact wpAny_pure ⟨rfl, h₃⟩
    | true =>
      exact wpAny_bind (wpAny_bind (wpAny_mono h₃ (fun x s₄ h₄ => wpAny_bind (wpAny_mono h₄ (fun _ s₅ h₅ => wpAny_pure (wpAny_pure ⟨rfl, h₅⟩)) fun _ _ h' => h')) fun _ _ h' => h'))

def capt (cap : List (Option Nat)) (σ : St) : St := cap.map fun o => o.bind fun i => (σ[i]?).join

def cxComp (X : Cx) (N : List Str) (scope : Scope) (C : Addr) (s : Shared) (H : Hp) (ex : List Addr) : Cx where
  prog := X.prog
  w := X.w
  K := X.K
  mg := X.mg
  base := X.base
  A := X.A
  N := N
  s₀ := s
  H₀ := H
  env := compEnvC scope (closOf X.env scope.names []) C X.env
  outer := X.stack
  stack := X.stack
  ex := ex
  fn := fun _ => false
  calm := X.calm
  pn := []
  xe := fun _ _ => False

structure CompScope (X : Cx) (N : List Str) (cap : List (Option Nat)) (scope : Scope) : Prop where
  kind : scope.kind = .function
  nocell : ∀ y ∈ scope.names, y.2 ≠ .cell
  loc : ∀ y ∈ scope.names, y.2 = .local → scope.names.lookup y.1 = some .local
  fre : ∀ y ∈ scope.names, y.2 = .free → X.env.scope.names.lookup y.1 = some .cell ∨ X.env.scope.names.lookup y.1 = some .free
  nd : N.Nodup
  len : cap.length = N.length
  cap : ∀ (j i : Nat), cap[j]? = some (some i) → ∃ y, N[j]? = some y ∧ X.N[i]? = some y ∧ scope.names.lookup y = some .free
def compChk (outer : List (Str × NameKind)) (N0 N : List Str) (cap : List (Option Nat)) (names : List (Str × NameKind)) : Bool :=
  names.all (fun y => y.2 != .cell && (y.2 != .local || names.lookup y.1 == some .local) && (y.2 != .free || outer.lookup y.1 == some .cell || outer.lookup y.1 == some .free)) &&
  decide N.Nodup && cap.length == N.length &&
  (List.range cap.length).all fun j => match cap[j]? with
    | some (some i) => (match N[j]? with
      | some y => N0[i]? == some y && names.lookup y == some .free
      | none => false)
    | _ => true
theorem CompScope.of {X : Cx} {N : List Str} {cap : List (Option Nat)} {scope : Scope} (hk : scope.kind = .function) (h : compChk X.env.scope.names X.N N cap scope.names = true) : CompScope X N cap scope := by
  unfold compChk at h
  simp only [Bool.and_eq_true, List.all_eq_true, decide_eq_true_eq, beq_iff_eq] at h
  obtain ⟨⟨⟨h1, h2⟩, h3⟩, h4⟩ := h
  refine ⟨hk, fun y hy e => ?_, fun y hy e => ?_, fun y hy e => ?_, h2, h3, fun j i e => ?_⟩
  · have := (h1 y hy).1.1
    rw [e] at this
    exact absurd this (by decide)
  · have := (h1 y hy).1.2
    rw [e] at this
    simpa using this
  · have := (h1 y hy).2
    rw [e] at this
    simpa using this
  · have hj : j < cap.length := (List.getElem?_eq_some_iff.mp e).1
    have := h4 j (List.mem_range.mpr hj)
    rw [e] at this
    dsimp only at this
    cases q : N[j]? with
    | none => rw [q] at this; exact absurd this Bool.false_ne_true
    | some y =>
      rw [q] at this
      simp only [Bool.and_eq_true, beq_iff_eq] at this
      exact ⟨y, rfl, this.1, this.2⟩

theorem getElem?_capt {cap : List (Option Nat)} {σ : St} {j : Nat} {v : V} (h : (capt cap σ)[j]? = some (some v)) : ∃ i, cap[j]? = some (some i) ∧ σ[i]? = some (some v) := by
  unfold capt at h
  rw [List.getElem?_map] at h
  cases e : cap[j]? with
  | none => rw [e] at h; cases h
  | some o =>
    rw [e] at h
    cases o with
    | none => simp at h
    | some i =>
      refine ⟨i, rfl, ?_⟩
      simp only [Option.map_some, Option.bind_some, Option.some.injEq] at h
      cases q : σ[i]? with
      | none => rw [q] at h; simp at h
      | some z => rw [q] at h; simp at h; rw [h]

theorem inv_comp {X : Cx} {pins : List (Addr × Obj)} {σ : St} {H : Hp} {s : Shared} {N : List Str} {cap : List (Option Nat)} {scope : Scope} {ex : List Addr} {h₁ : Heap} {tk : Nat} {C : Addr} (S : CompScope X N cap scope) (I : Inv X pins σ H s) (hC : s.heap.objs.size ≤ C)
    (hns : h₁.Ns C (fun _ => none)) (hk : ∀ b o, s.heap.get? b = some o → h₁.get? b = some o) (hex : ∀ b ∈ ex, b < s.heap.objs.size ∧ FpOk X pins H b) :
    Inv (cxComp X N scope C s H ex) [] (capt cap σ) H { s with heap := h₁, toks := tk } := by
  have hcl : ∀ n c, (closOf X.env scope.names []).lookup n = some c → X.env.cells.lookup n = some c := closOf_ok (fun n c e => by simp at e)
  have cne : ∀ x c, (closOf X.env scope.names []).lookup x = some c → c < s.heap.objs.size := fun x c e => by
    obtain ⟨v, q⟩ := I.cell x c (hcl x c e)
    exact q.lt
  have nob : ∀ b o, X.base.get? b = some o → b ∉ ex := fun b o e hb => by
    obtain ⟨hlt, f0, f1, f2, f3, f4, f5⟩ := hex b hb
    rcases f3 with z | z
    · exact I.ok.noex b o e z
    · exact absurd (Nat.lt_of_lt_of_le (Heap.lt_size e) (Nat.le_trans I.ok.bsz z)) (Nat.lt_irrefl _)
  refine ⟨⟨I.ok.mod, ?_, I.ok.glob, I.ok.blt, hC, fun x y c h1 h2 => I.ok.inj x y c (hcl x c h1) (hcl y c h2), fun x hx => ?_, fun x c hf _ => ?_, I.ok.hd, I.ok.frames, .inl rfl, fun b hb => ?_, fun b o e => I.bs b o e, Nat.le_trans I.ok.bsz I.sz, nob, fun b hb => ?_, I.stack, I.stkFree⟩,
    rfl, I.bare, Un.kept hk, ⟨_, hns, fun j y v h1 h2 h3 => ?_⟩, fun x c e => ?_, I.hok.fresh hC, fun x c e => ?_, fun p hp => absurd (show p ∈ ([] : List (Addr × Obj)) from hp) (by simp), I.hok.kept hk, ?_⟩
  · exact S.kind
  · have hx : (relabel scope X.env).names.lookup x = some .cell ∨ (relabel scope X.env).names.lookup x = some .free := hx
    unfold relabel at hx
    simp only [lookup_relabel] at hx
    cases q : scope.names.lookup x with
    | none => rw [q] at hx; simp at hx
    | some k =>
      have hm := PySem.mem_of_lookup q
      have hkf : k = .free := by
        rw [q] at hx
        simp only [Option.map_some, Option.some.injEq] at hx
        by_cases z : (k == NameKind.free && X.env.scope.kind == .function && X.env.kindOf x == some .cell) = true
        · have : (k == NameKind.free) = true := by
            rw [Bool.and_eq_true, Bool.and_eq_true] at z
            exact z.1.1
          exact beq_iff_eq.mp this
        · rw [if_neg z] at hx
          rcases hx with hx | hx
          · exact absurd hx (S.nocell _ hm)
          · exact hx
      subst hkf
      obtain ⟨c, hc⟩ := I.ok.has x (S.fre _ hm rfl)
      exact Option.isSome_iff_exists.mp (closOf_has hm hc)
  · exact absurd (show false = true from hf) Bool.false_ne_true
  · obtain ⟨hlt, _⟩ := hex b hb
    refine ⟨Nat.ne_of_lt (Nat.lt_of_lt_of_le hlt hC), fun x c e z => ?_⟩
    exact (hex b hb).2.2.2.2.2.1 x c (hcl x c e) z
  · intro hb2
    rcases List.mem_cons.mp (I.stkSub b hb2) with e | e
    · exact (hex b hb).2.2.1 e
    · exact (hex b hb).2.2.2.1 e
  · obtain ⟨i, e1, e2⟩ := getElem?_capt h2
    obtain ⟨y', e3, e4, e5⟩ := S.cap j i e1
    rw [show N[j]? = some y from h1] at e3
    cases e3
    obtain ⟨m, _, hl⟩ := I.loc
    have hm := PySem.mem_of_lookup e5
    have hv : Vis X.env.scope y := by
      rcases S.fre _ hm rfl with z | z
      · exact .inr (.inl z)
      · exact .inr (.inr z)
    obtain ⟨u, r, l⟩ := hl i y v e4 e2 hv
    refine ⟨u, r, .inr ⟨?_, ?_⟩⟩
    · show (relabel scope X.env).names.lookup y = some .cell ∨ (relabel scope X.env).names.lookup y = some .free
      unfold relabel
      simp only [lookup_relabel, e5, Option.map_some, Option.some.injEq]
      split
      · exact .inl rfl
      · exact .inr rfl
    · rcases l with ⟨hk2, _⟩ | ⟨_, c, hc, hcell⟩
      · rcases S.fre _ hm rfl with z | z
        · rw [show X.env.kindOf y = some .cell from z] at hk2; cases hk2
        · rw [show X.env.kindOf y = some .free from z] at hk2; cases hk2
      · refine ⟨c, ?_, hcell.keeps hk⟩
        obtain ⟨c', hc'⟩ := Option.isSome_iff_exists.mp (closOf_has (acc := []) hm hc)
        have := hcl y c' hc'
        rw [hc] at this
        cases this
        exact hc'
  · obtain ⟨v, q⟩ := I.cell x c (hcl x c e)
    exact ⟨v, q.keeps hk⟩
  · exact I.freeC x c (hcl x c e)
  · show (capt cap σ).length = N.length
    unfold capt
    rw [List.length_map]
    exact S.len

def Gath (J : It) (cap : List (Option Nat)) (g : TG) (tc : TT) (te : TE) (Q : Addr → Hp → Prop) (σ : St) (H : Hp) : Prop :=
  ∃ W : Nat → Nat → List V → St → Hp → Prop, (∃ m, W 0 m [] (capt cap σ) H) ∧ ∀ i m ys σ' H', W i m ys σ' H' →
    (J.stop i H' ∧ ys.length ≤ sizeLine ∧ ∀ D, H' D = none → Q D (upd H' D (.lst ys))) ∨ (J.go i H' ∧ ys.length < sizeLine ∧ ∃ N : List V → St → Hp → Prop, (∀ ys2 σ2 H2, N ys2 σ2 H2 → ∃ m', m' < m ∧ W (i + 1) m' ys2 σ2 H2) ∧
      ∀ x H2, J.yld i H' x H2 → g x σ' H2 fun σ3 H3 => tc σ3 H3 fun b H4 => if b = true then te σ3 H4 fun y H5 => N (ys ++ [y]) σ3 H5 else N ys σ3 H4)
def tComp (cap : List (Option Nat)) (wi : TI) (g : TG) (tc : TT) (te : TE) (Q : Addr → Hp → Prop) : St → Hp → Prop := fun σ H => wi σ H fun J H1 => Gath J cap g tc te Q σ H1

def tTrue : TT := fun _ H Q => Q true H
def PTs (X : Cx) (ifs : List Expr) (t : TT) : Prop :=
  ∀ (pins : List (Addr × Obj)) (s : Shared) (σ : St) (H : Hp) (Q : Bool → Hp → Prop), Inv X pins σ H s → t σ H Q →
    wpAny (model X.prog X.w) X.A (forIn ifs true fun c r => if r = true then do let ok ← isTrue c X.env (eval c X.env); pure (ForInStep.yield ok) else pure (ForInStep.yield r)) (TP X pins σ Q) X.xe s
theorem pts_nil {X : Cx} : PTs X [] tTrue := fun pins s σ H Q I h => wpAny_tests_nil ⟨H, I, h⟩
theorem pts_one {X : Cx} {c : Expr} {t : TT} (h : PT X c t) : PTs X [c] t := fun pins s σ H Q I hw => wpAny_tests_one (h pins s σ H Q I hw)

theorem HOk.add {P : Program} {w : World} {H : Hp} {h : Heap} {a : Addr} {o : HO} (x : HOk P w H h) (hn : H a = none) (new : ObjOk P w (upd H a o) h a o) : HOk P w (upd H a o) h := fun b u e => by
  by_cases hb : b = a
  · subst hb; rw [upd_same] at e; cases e; exact new
  · rw [upd_ne hb] at e
    exact (x b u e).stay (fun c v _ q => q) (fun c q => by rw [upd_ne (ne_of_none q hn)]; exact q) fun c xs q => by rw [upd_ne (ne_of_none q hn)]; exact q
theorem Un.add {fs ex : List Addr} {H H1 : Hp} {h h1 : Heap} {a : Addr} {o : HO} (u : Un fs ex H H1 h h1) (ha : h.objs.size ≤ a) (hn : H1 a = none) : Un fs ex H (upd H1 a o) h h1 where
  keep := u.keep
  slot := u.slot
  free := fun b ob q n hx => by rw [upd_ne (Nat.ne_of_lt (Nat.lt_of_lt_of_le (Heap.lt_size q) ha))]; exact u.free b ob q n hx
  there := u.there
  tups := fun b xs q => by
    have q' := u.tups b xs q
    rw [upd_ne (ne_of_none q' hn)]; exact q'
  frzs := fun b ob xs q => by
    have q' := u.frzs b ob xs q
    rw [upd_ne (ne_of_none q' hn)]; exact q'
  tbls := fun b ps q => by
    obtain ⟨m, q'⟩ := u.tbls b ps q
    exact ⟨m, by rw [upd_ne (ne_of_none q' hn)]; exact q'⟩

abbrev lobj (its : List Value) (k : Nat) : Obj := { cls := .type "list", data := .seq its.toArray k }

theorem comp_block {X : Cx} {pins : List (Addr × Obj)} {σ : St} {H : Hp} {s : Shared} {N : List Str} {cap : List (Option Nat)} {scope : Scope} {elt target iter : Expr} {ifs : List Expr} {pos : Pos} {g : TG} {tc : TT} {te : TE} {J : It} {fp : List Addr} {it : Addr} {tn : Nat → Heap → Prop}
    {Q : Addr → Hp → Prop} {RR : Value → Addr → Result → Shared → Prop} {E : Value → Shared → Prop} (hc : X.calm = true) (S : CompScope X N cap scope) (I : Inv X pins σ H s) (T : Turn X.prog X.w X.K target J fp it tn) (st : tn 0 s.heap) (fo : ∀ b ∈ fp, FpOk X pins H b)
    (hg : ∀ C s₀ H₀, PG (cxComp X N scope C s₀ H₀ fp) target g) (ht : ∀ C s₀ H₀, PTs (cxComp X N scope C s₀ H₀ fp) ifs tc) (he : ∀ C s₀ H₀, PE (cxComp X N scope C s₀ H₀ fp) elt te)
    (h : Gath J cap g tc te Q σ H)
    (hRR : ∀ D C s' H', Inv X pins σ H' s' → Q D H' → (∃ m, s'.heap.Ns C m) → H' C = none → X.s₀.heap.objs.size ≤ C → C ≠ X.env.locals → (∀ x c, X.env.cells.lookup x = some c → c ≠ C) → (∀ p ∈ X.pn ++ pins, p.1 ≠ C) → RR (.ref D) C (.ok .next) s') :
    wpAny (model X.prog X.w) X.A (newList []) (fun acc s₃ => wpAny (model X.prog X.w) X.A (newFunctionEnv scope X.env.globals (closOf X.env scope.names []) [] X.env.qual none .none (some X.env)) (fun cenv s₄ =>
      codeAny (model X.prog X.w) X.A (.compStart (.ListComp elt [⟨target, iter, ifs, 0⟩] scope pos) 0 (.ref it) acc { cenv with scope := relabel scope X.env }) (RR acc cenv.locals) s₄) E s₃) E s := by
  have hfr : ∀ a, s.heap.objs.size ≤ a → H a = none := fun a ha => I.hok.fresh ha
  obtain ⟨W, ⟨m0, w0⟩, turn⟩ := h
  have fol : ∀ b ∈ fp, b < s.heap.objs.size := fun b hb => by
    obtain ⟨o, ho, _⟩ := T.obj 0 _ st b hb
    exact Heap.lt_size ho
  have clt : ∀ x c, X.env.cells.lookup x = some c → c < s.heap.objs.size := fun x c e => by
    obtain ⟨v, q⟩ := I.cell x c e
    exact q.lt
  refine wpAny_newObj_type (wpAny_newFunctionEnv S.nocell (by intro y hy; simp at hy) (fun h₁ hns₁ hsb₁ => ?_) S.kind)
  dsimp only at hns₁ hsb₁ ⊢
  generalize hD : s.heap.objs.size = D at *
  generalize hH3 : s.heap.push { cls := .type "list", data := .seq ([] : List Value).toArray } = H3 at *
  have hC : H3.objs.size = D + 1 := by rw [← hH3, Heap.size_push, hD]
  have keep3 : ∀ b o, s.heap.get? b = some o → H3.get? b = some o := fun b o e => by rw [← hH3]; exact Heap.get?_push_of_some _ e
  have keep4 : ∀ b o, H3.get? b = some o → h₁.get? b = some o := fun b o e => hsb₁.extBut b o (Nat.ne_of_lt (Heap.lt_size e)) (Heap.get?_push_of_some _ e)
  have D4 : h₁.get? D = some (lobj [] 0) := keep4 _ _ (by rw [← hH3, ← hD]; exact Heap.get?_push_size _ rfl)
  generalize hCC : H3.objs.size = C at *
  have hDC : D < C := by omega
  have hDC' : D ≤ C := Nat.le_of_lt hDC
  have hL : X.env.locals < D := by rw [← hD]; exact I.lt
  have I4 : Inv (cxComp X N scope C s H fp) [] (capt cap σ) H { s with heap := h₁, toks := s.toks + ([] : List (Str × Value)).length } :=
    inv_comp S I (by omega) hns₁ (fun b o e => keep4 b o (keep3 b o e)) fun b hb => ⟨by rw [hD]; exact fol b hb, fo b hb⟩
  have fp4 : ∀ {H' : Hp} {ob : Obj}, (∀ b ∈ fp, H' b = none) → ∀ b ∈ fp, FpOk (cxComp X N scope C s H fp) [(D, ob)] H' b := fun {H' ob} hn b hb => by
    obtain ⟨f0, f1, f2, f3, f4, f5⟩ := fo b hb
    have hlt := fol b hb
    refine ⟨hn b hb, ?_, fun z => ?_, .inl hb, fun x c e => f4 x c (closOf_ok (fun n c e => by simp at e) x c e), fun p hp => ?_⟩
    · exact Nat.ne_of_lt (Nat.lt_of_lt_of_le hlt hDC')
    · rcases List.mem_cons.mp (I.stkSub b z) with e | e
      · exact f1 e
      · exact f2 e
    · have hp' : p ∈ [(D, ob)] := hp
      rw [List.mem_singleton.mp hp']
      exact Nat.ne_of_gt hlt
  have st4 : tn 0 h₁ := T.keep _ _ _ st fun b hb o e => keep4 b o (keep3 b o e)
  have nfs : D ∉ (cxComp X N scope C s H fp).fs := fun z => by
    rcases List.mem_cons.mp (I.stkSub D z) with e | e
    · exact Nat.ne_of_gt hL e
    · exact I.nofs (Nat.le_of_eq hD) e
  have pinD : ∀ {σ' : St} {H' : Hp} {s' : Shared} {ob : Obj}, Inv (cxComp X N scope C s H fp) [] σ' H' s' → H' D = none → s'.heap.get? D = some ob → (∀ v, ob.data ≠ .cell v) → Inv (cxComp X N scope C s H fp) [(D, ob)] σ' H' s' := fun {σ' H' s' ob} J hn e nc =>
    J.pins_of fun p hp => by
      rw [List.mem_singleton.mp hp]
      exact ⟨e, hn, Nat.ne_of_lt hDC, nfs, nc⟩
  have loop : ∀ s₄ : Shared, s₄ = { s with heap := h₁, toks := s.toks + ([] : List (Str × Value)).length } →
      codeAny (model X.prog X.w) X.A (.compLoop (.ListComp elt [⟨target, iter, ifs, 0⟩] scope pos) 0 (.ref it) (.ref D) (compEnvC scope (closOf X.env scope.names []) C X.env)) (RR (.ref D) C) s₄ := by
    rintro s₄ rfl
    refine comp_loop (fun n s' => ∃ i ys its k σ' H', Inv (cxComp X N scope C s H fp) [(D, lobj its k)] σ' H' s' ∧ Vals ys its ∧ tn i s'.heap ∧ (∀ b ∈ fp, H' b = none) ∧ W i n ys σ' H') ?_ m0
      ⟨0, [], [], 0, _, _, pinD I4 (hfr D (Nat.le_refl _)) D4 (fun v z => by cases z), .nil, st4, fun b hb => (fo b hb).1, w0⟩
    rintro n s5 ⟨i, ys, its, k, σ5, H5, I5, rv5, st5, fr5, w5⟩
    have hpin := I5.pin (D, lobj its k) (List.mem_append_right _ List.mem_cons_self)
    rcases turn i n ys σ5 H5 w5 with ⟨stop, hz, q⟩ | ⟨go, hz, NN, hNN, step⟩
    · refine thn (T.done (cxComp X N scope C s H fp) rfl rfl rfl hc i _ s5 σ5 H5 _ I5 (fp4 fr5) st5 stop) fun r s6 ⟨hr, I6⟩ => ?_
      subst hr
      have p6 := I6.pin (D, lobj its k) (List.mem_append_right _ List.mem_cons_self)
      have I7 : Inv X pins σ (upd H5 D (.lst ys)) s6 := I.call' (ch := fp) I6.os (I6.base.add (Nat.le_of_eq hD) p6.2.1) (I6.hok.add p6.2.1 ⟨hz, its, k, rv5, p6.1⟩) I6.bare fun b hb => by
        obtain ⟨f0, f1, f2, f3, f4, f5⟩ := fo b hb
        exact ⟨f3, f1, f4, f5⟩
      obtain ⟨m6, hn6, _⟩ := I6.loc
      refine hRR _ C s6 _ I7 (q D p6.2.1) ⟨m6, hn6⟩ ?_ ?_ ?_ ?_ ?_
      · rw [upd_ne (Nat.ne_of_gt hDC)]; exact I6.free
      · exact Nat.le_trans (by rw [← hD]; exact I.sz) hDC'
      · exact Nat.ne_of_gt (Nat.lt_of_lt_of_le hL hDC')
      · intro x c e z
        exact Nat.ne_of_lt (Nat.lt_of_lt_of_le (clt x c e) hDC') z
      · intro p hp z
        have h6 := Heap.lt_size (I.pin p hp).1
        rw [hD] at h6
        exact Nat.ne_of_lt (Nat.lt_of_lt_of_le h6 hDC') z
    · refine thn (T.item (cxComp X N scope C s H fp) rfl rfl rfl hc i _ s5 σ5 H5 _ I5 (fp4 fr5) st5 go) fun r s6 ⟨u, hr, h6⟩ => ?_
      subst hr
      refine thn h6 fun _ s7 ⟨x, H7, I7, r7, y7, st7, fr7⟩ => ?_
      have I7' := I7.pinned (fp4 fr7) (T.obj _ _ st7)
      have kept : ∀ {σ8 : St} {H8 : Hp} {s8 : Shared}, Inv (cxComp X N scope C s H fp) ([(D, lobj its k)] ++ pinsAt fp s7.heap) σ8 H8 s8 → tn (i + 1) s8.heap ∧ ∀ b ∈ fp, H8 b = none := fun {σ8 H8 s8} I8 =>
        ⟨T.keep _ _ _ st7 fun b hb o e => (I8.pin (b, o) (List.mem_append_right _ (List.mem_append_right _ (mem_pinsAt hb e)))).1, fun b hb => by
          obtain ⟨o, e, d⟩ := T.obj _ _ st7 b hb
          exact (I8.pin (b, o) (List.mem_append_right _ (List.mem_append_right _ (mem_pinsAt hb e)))).2.1⟩
      refine wpAny_mono (hg C s H _ s7 σ5 H7 x u _ I7' r7 (step x H7 y7)) (fun _ s8 ⟨σ8, H8, I8, q8⟩ => ?_) fun _ _ f => f.elim
      refine wpAny_mono (ht C s H _ s8 σ8 H8 _ I8 q8) (fun ok s9 ⟨H9, I9, q9⟩ => ?_) fun _ _ f => f.elim
      cases ok with
      | false =>
        rw [if_neg Bool.false_ne_true] at q9 ⊢
        obtain ⟨m', hm, w9⟩ := hNN _ _ _ q9
        exact ⟨m', hm, i + 1, ys, its, k, σ8, H9, I9.unpinned, rv5, (kept I9).1, (kept I9).2, w9⟩
      | true =>
        rw [if_pos rfl] at q9 ⊢
        refine wpAny_mono (he C s H _ s9 σ8 H9 _ I9 q9) (fun y s10 ⟨yv, H10, I10, r10, n10⟩ => ?_) fun _ _ f => f.elim
        obtain ⟨m', hm, w10⟩ := hNN _ _ _ n10
        obtain ⟨k10, f10⟩ := kept I10
        have p10 := I10.pin (D, lobj its k) (List.mem_append_right _ (List.mem_append_left _ List.mem_cons_self))
        have hlen := rv5.length
        refine wpAny_list_append_plain (hsz := by rw [List.size_toArray]; omega) (show s10.heap.PlainList D its.toArray from ⟨k, p10.1⟩) fun h11 hl11 hsb11 => ?_
        obtain ⟨k11, e11⟩ := hl11
        have J0 : Inv (cxComp X N scope C s H fp) [] σ8 H10 s10 := I10.pins_of fun p hp => nomatch hp
        have J1 : Inv (cxComp X N scope C s H fp) [] σ8 H10 { s10 with heap := h11 } := J0.turned (t' := s10.toks) (fun b o hb e => hsb11.extBut b o hb e) p10.2.1 (Nat.ne_of_lt hDC) (.inr (Nat.le_of_eq hD)) (fun x c e z => Nat.ne_of_lt (clt x c (closOf_ok (fun n c e => by simp at e) x c e)) z) fun p hp => nomatch (show p ∈ ([] : List (Addr × Obj)) from hp)
        have e12 : h11.get? D = some (lobj (its ++ [y]) k11) := by rw [e11]; simp [lobj]
        refine ⟨m', hm, i + 1, ys ++ [yv], its ++ [y], k11, σ8, H10, pinD J1 p10.2.1 e12 (fun v z => by cases z), rv5.append (.cons r10 .nil), ?_, f10, w10⟩
        exact T.keep _ _ _ k10 fun b hb o e => hsb11.extBut b o (Nat.ne_of_lt (fol b hb)) e
  refine codeAny_compStart_list (loop _ ?_) (T.self X.A 0 _ _ _ ?_ (loop _ ?_))
  · rfl
  · exact st4
  · rfl

theorem pe_comp {X : Cx} {N : List Str} {cap : List (Option Nat)} {scope : Scope} {elt target iter : Expr} {ifs : List Expr} {pos : Pos} {wi : TI} {g : TG} {tc : TT} {te : TE} (hc : X.calm = true) (S : CompScope X N cap scope) (hi : PI X target iter wi)
    (hg : ∀ C s₀ H₀ ex, PG (cxComp X N scope C s₀ H₀ ex) target g) (ht : ∀ C s₀ H₀ ex, PTs (cxComp X N scope C s₀ H₀ ex) ifs tc) (he : ∀ C s₀ H₀ ex, PE (cxComp X N scope C s₀ H₀ ex) elt te)
    (hs : ∀ x, foldedSetIterable iter X.env x = pure x := by intro _; rfl) :
    PE X (.ListComp elt [⟨target, iter, ifs, 0⟩] scope pos) (fun σ H Q => tComp cap wi g tc te (fun D H' => Q (.ref D) H') σ H) := by
  intro pins s σ H Q I h
  have hclos : closureFor scope X.env = pure (closOf X.env scope.names []) := closureFor_of fun y hy hf => I.ok.has y.1 (S.fre y hy hf)
  rw [eval_ListComp]
  refine wpAny_comprehension_free (use := none) rfl hs hclos S.kind S.loc (thn (hi pins s σ H _ I h) fun xv s1 h1 => thn h1 fun itv s2 h2 => ?_)
  obtain ⟨it, fp, tn, J, H2, e, I2, T, st2, f2, q2⟩ := h2
  subst e
  refine comp_block (RR := fun acc C => compPost (model X.prog X.w) X.A X.xe none (EP X pins σ Q) acc C) hc S I2 T st2 f2 (fun C s₀ H₀ => hg C s₀ H₀ fp) (fun C s₀ H₀ => ht C s₀ H₀ fp) (fun C s₀ H₀ => he C s₀ H₀ fp) q2 ?_
  intro D C s' H' I' q ⟨m, hn⟩ hf hsz hL hcell hpin
  refine ⟨m, hn, fun h' hsb => ⟨.ref D, H', ?_, rfl, q⟩⟩
  exact I'.turned (t' := s'.toks) (fun b o hb e => hsb.extBut b o hb e) hf hL (.inr hsz) hcell hpin

theorem ps_comp {X : Cx} {N : List Str} {cap : List (Option Nat)} {scope : Scope} {elt target iter : Expr} {ifs : List Expr} {pos pos' spos : Pos} {wi : TI} {g : TG} {tc : TT} {te : TE} {i : Nat} {x : Str} (hc : X.calm = true) (S : CompScope X N cap scope) (hi : PI X target iter wi)
    (hg : ∀ C s₀ H₀ ex, PG (cxComp X N scope C s₀ H₀ ex) target g) (ht : ∀ C s₀ H₀ ex, PTs (cxComp X N scope C s₀ H₀ ex) ifs tc) (he : ∀ C s₀ H₀ ex, PE (cxComp X N scope C s₀ H₀ ex) elt te)
    (hN : X.N.Nodup) (hix : X.N[i]? = some x) (hx : X.env.scope.names.lookup x = some .local) (hsw : swapsWith (.ListComp elt [⟨target, iter, ifs, 0⟩] scope pos) (some (.Name x pos')) spos.line X.env = pure true := by rfl)
    (hs : ∀ x, foldedSetIterable iter X.env x = pure x := by intro _; rfl) :
    PS X (.Assign [.Name x pos'] (.ListComp elt [⟨target, iter, ifs, 0⟩] scope pos) spos) (fun D σ H => tComp cap wi g tc te (fun d H' => D.nx (σ.set i (some (.ref d))) H') σ H) := by
  intro pins s σ H D I h
  have hclos : closureFor scope X.env = pure (closOf X.env scope.names []) := closureFor_of fun y hy hf => I.ok.has y.1 (S.fre y hy hf)
  rw [exec_Assign_Name_used _ _ _ _ hsw]
  refine wpAny_bind (wpAny_standAt (wpAny_bind ?_))
  show wpAny _ X.A (do let _ ← comprehension (.ListComp elt [⟨target, iter, ifs, 0⟩] scope pos) scope X.env _ (newList []) false (eval iter X.env) (some (assign (.Name x pos') X.env))) _ _ s
  refine wpAny_bind (wpAny_mono (wpAny_comprehension_free (use := some (assign (.Name x pos') X.env)) (Q := fun _ s' => SP X pins D .next s') rfl hs hclos S.kind S.loc
    (thn (hi pins s σ H _ I h) fun xv s1 h1 => thn h1 fun itv s2 h2 => ?_)) (fun _ s' hq => wpAny_pure (wpAny_pure hq)) fun _ _ e => e)
  obtain ⟨it, fp, tn, J, H2, e, I2, T, st2, f2, q2⟩ := h2
  subst e
  refine comp_block (RR := fun acc C => compPost (model X.prog X.w) X.A X.xe (some (assign (.Name x pos') X.env)) (fun _ s' => SP X pins D .next s') acc C) hc S I2 T st2 f2 (fun C s₀ H₀ => hg C s₀ H₀ fp) (fun C s₀ H₀ => ht C s₀ H₀ fp) (fun C s₀ H₀ => he C s₀ H₀ fp) q2 ?_
  intro d C s' H' I' q ⟨m, hn⟩ hf hsz hL hcell hpin
  show wpAny _ X.A (assign (.Name x pos') X.env (.ref d)) _ _ s'
  refine wpAny_assign_Name (store_ok2 I' hN hix (.inl hx) (show RelV (.ref d) (.ref d) from rfl) (fun s'' I'' ⟨a, hsb, ha⟩ => ?_) (.inr hx))
  have hCa : C ≠ a := by
    rcases ha with z | z
    · rw [z]; exact hL
    · exact fun w => hcell x a z w.symm
  refine ⟨m, hn.sameBut hsb hCa, fun h' hsb' => ⟨_, H', ?_, q⟩⟩
  exact I''.turned (t' := s''.toks) (fun b o hb e => hsb'.extBut b o hb e) hf hL (.inr hsz) hcell hpin
end L2

set_option Elab.async false
set_option linter.all false
set_option maxRecDepth 100000
set_option maxHeartbeats 4000000
namespace L2
open PySem PySem.Spec PyProof.Rows

def Its (x : Str) : It := ⟨fun i _ => i < x.cps.size, fun i H v H' => H' = H ∧ ∃ c, x.cps[i]? = some c ∧ v = .str ⟨#[c]⟩, fun i _ => i = x.cps.size⟩
theorem turn_str {P : Program} {w : World} {K : PySem.W.Frag} {tg : Expr} (ty : String) (it : Addr) (x : Str) (t : Tok)
    (hw : ∀ A' : Around, A'.handled = none → Walks P w A' it [it] [it] x.cps.size (SignAt x) (fun i h => h.IsStrIter it ty x t i))
    (hself : ∀ (A : Around) (i : Nat) (s : Shared) (Q : Value → Shared → Prop) (E : Value → Shared → Prop), s.heap.IsStrIter it ty x t i → Q (.ref it) s → wpAny (model P w) A (pyIter (.ref it)) Q E s)
    (hn : ["enumerate", "zip", "dict_itemiterator", "dict_reverseitemiterator", "odict_iterator", "itertools.zip_longest", "itertools.pairwise"].contains ty = false) :
    Turn P w K tg (Its x) [it] it (fun i h => h.IsStrIter it ty x t i) where
  mem := by simp
  obj := fun i h st b hb => by
    have e : b = it := by simpa using hb
    subst e
    obtain ⟨o, e, c, d⟩ := st
    exact ⟨o, e, fun v z => by rw [d] at z; cases z⟩
  keep := fun i h h' st k => let ⟨o, e, r⟩ := st; ⟨o, k it (by simp) o e, r⟩
  item := by
    intro X hP hw' hK hc i pins s σ H E I hf st hg
    subst hP hw' hK
    obtain ⟨f0, f1, f2, f3, f4, f5⟩ := hf it (by simp)
    refine (hw X.A (I.ok.hd hc)).item i s _ _ hg st fun v h' tk hv st' kk => ?_
    obtain ⟨c, u, hc', rfl⟩ := hv
    have I1 : Inv X pins σ H { s with heap := h', toks := tk } := I.turned (fun b o hb e => kk b o (by simpa using hb) e) f0 f1 f3 f4 f5
    obtain ⟨o, e, cc, d⟩ := id st'
    exact ⟨_, rfl, go_of (s := { s with heap := h', toks := tk }) e cc d hn ⟨.str ⟨#[c]⟩, H, I1, ⟨u, rfl⟩, ⟨rfl, c, hc', rfl⟩, st', fun b hb => (hf b hb).1⟩⟩
  done := by
    intro X hP hw' hK hc i pins s σ H E I hf st hg
    subst hP hw' hK
    obtain ⟨f0, f1, f2, f3, f4, f5⟩ := hf it (by simp)
    have hg' : i = x.cps.size := hg
    subst hg'
    exact (hw X.A (I.ok.hd hc)).done s _ _ st fun h' tk kk => ⟨rfl, I.turned (fun b o hb e => kk b o (by simpa using hb) e) f0 f1 f3 f4 f5⟩
  self := hself
section
variable {X : Cx}
theorem op_le_str : OpR X (compareOp .LtE) (fun x y H Q => ∃ i j, x = .str i ∧ y = .str j ∧ Q (.bl (!decide (j.cps.toList < i.cps.toList))) H) := by
  intro pins s σ H x y v u Q I r1 r2 h
  obtain ⟨i, j, rfl, rfl, q⟩ := h
  obtain ⟨t, rfl⟩ := r1
  obtain ⟨t', rfl⟩ := r2
  exact PySem.P.le_str ⟨.bl _, H, I, rfl, q⟩
theorem op_mul_str : OpR X (binaryOp .Mult) (fun x y H Q => ∃ z n, x = .str z ∧ y = .int n ∧ MulOk z n ∧ Q (.str (Txt.mul z n)) H) := by
  intro pins s σ H x y v u Q I r1 r2 h
  obtain ⟨z, n, rfl, rfl, ok, q⟩ := h
  obtain ⟨t, rfl⟩ := r1
  obtain ⟨t', rfl⟩ := r2
  exact SB.mul ok fun t' k => ⟨.str _, H, I.tok k, ⟨t', rfl⟩, q⟩
theorem vals_strs : ∀ {texts : List Str} {its : List Value}, Vals (texts.map V.str) its → ∃ l : List (Str × Tok), its = strValues l ∧ l.map (·.1) = texts
  | [], _, r => by rw [List.map_nil] at r; cases r; exact ⟨[], rfl, rfl⟩
  | x :: xs, _, r => by
    rw [List.map_cons] at r
    cases r with
    | cons r1 r2 =>
      obtain ⟨t, rfl⟩ := r1
      obtain ⟨l, e1, e2⟩ := vals_strs r2
      exact ⟨(x, t) :: l, by rw [e1]; rfl, by rw [List.map_cons, e2]⟩
theorem strs_vals : ∀ (l : List (Str × Tok)), Vals (l.map fun p => V.str p.1) (strValues l)
  | [] => .nil
  | (x, t) :: l => .cons ⟨t, rfl⟩ (strs_vals l)
def rJoin (K : PySem.W.Frag) : V → List V → Hp → VK → Prop := fun x vs H Q => ∃ sep l texts, x = .str sep ∧ vs = [.ref l] ∧ SqL K H l (texts.map V.str) ∧ JoinOk sep texts = true ∧ Q (.str (Txt.join sep texts)) H
theorem mt_join : MtR X "str.join" (rJoin X.K) := by
  intro pins s σ H x xs v us Q I rx rs h
  obtain ⟨sep, l, texts, rfl, rfl, hq, hok, q⟩ := h
  obtain ⟨t, rfl⟩ := rx
  obtain ⟨u, rfl, ru⟩ := vals1 rs
  cases ru
  obtain ⟨its, rv, pl, hz⟩ := I.list hq
  obtain ⟨ls, e1, e2⟩ := vals_strs rv
  subst e1
  exact SC.join (D := l) (l := ls) pl.isList e2 hok fun t' k => ⟨.str _, H, I.tok k, ⟨t', rfl⟩, q⟩
def rSplit : V → List V → Hp → VK → Prop := fun x vs H Q => ∃ z y, x = .str z ∧ vs = [.str y] ∧ y.length ≠ 0 ∧ z.length < sizeLine ∧ (Txt.split z y).length ≤ sizeLine ∧ ∀ l, H l = none → Q (.ref l) (upd H l (.lst ((Txt.split z y).map V.str)))
theorem split_laid {pins : List (Addr × Obj)} {σ : St} {H : Hp} {s : Shared} {l : List (Str × Tok)} {ts : List Str} {tk : Nat} {Q : VK} (I : Inv X pins σ H s) (e : l.map (·.1) = ts) (hz : ts.length ≤ sizeLine) (q : ∀ l, H l = none → Q (.ref l) (upd H l (.lst (ts.map V.str)))) :
    EP X pins σ Q (.ref s.heap.objs.size) { s with heap := s.heap.push { cls := .type "list", data := .seq (strValues l).toArray }, toks := tk } := by
  subst e
  refine ⟨.ref s.heap.objs.size, _, I.laid (o := .lst ((l.map (·.1)).map V.str)) (fun b ob q => Heap.get?_push_of_some _ q) (Nat.le_refl _) ?_, rfl, q _ (I.hok.fresh (Nat.le_refl _))⟩
  refine ⟨by rw [List.length_map]; exact hz, strValues l, 0, ?_, Heap.get?_push_size _ rfl⟩
  have := strs_vals l
  rw [List.map_map]
  exact this
open Builtin Builtin.Str in
theorem mt_split : MtR X "str.split" rSplit := by
  intro pins s σ H x xs v us Q I rx rs h
  obtain ⟨z, y, rfl, rfl, hy0, hz, hl, q⟩ := h
  obtain ⟨t, rfl⟩ := rx
  obtain ⟨uu, rfl, ru⟩ := vals1 rs
  obtain ⟨u, rfl⟩ := ru
  have hy : (y.length == 0) = false := by simpa using hy0
  have hz' : z.length ≤ sizeLine := Nat.le_of_lt hz
  unfold Txt.split at hl q
  cases h1 : (decide (z.length < y.length) || decide (strKind z < strKind y))
  · rw [h1] at hl q
    simp only [Bool.false_eq_true, if_false] at hl q
    cases hf : (occurrences z y 0 z.length (z.length + 1)).isEmpty
    · rw [hf] at hl q
      simp only [Bool.false_eq_true, if_false] at hl q
      refine call_meets F.slot_str_split (typeIs_str _ _ _) F.entry_str_split (F.args_str_split_2 _ _) (meets_str_split_sep z y t u h1 hy hf hz' hl) ?_
      show wants _ _ _ { s with toks := _, heap := s.heap.push { cls := .type "list", data := .seq (strsFrom s.toks (partsBetween z (occurrences z y 0 z.length (z.length + 1)) y.length)).toArray } }
      rw [strsFrom_eq]
      exact split_laid (l := numbered s.toks _) I (numbered_texts _ _) hl q
    · rw [hf] at hl q
      simp only [if_true] at hl q
      exact call_meets F.slot_str_split (typeIs_str _ _ _) F.entry_str_split (F.args_str_split_2 _ _) (meets_str_split_not_found z y t u h1 hy hf)
        (split_laid (l := [(z, t)]) (tk := s.toks) I rfl hl q)
  · rw [h1] at hl q
    simp only [if_true] at hl q
    exact call_meets F.slot_str_split (typeIs_str _ _ _) F.entry_str_split (F.args_str_split_2 _ _) (meets_str_split_cannot_occur z y t u h1)
      (split_laid (l := [(z, t)]) (tk := s.toks) I rfl hl q)
def rSlS : V → Option Int → Option Int → Hp → VK → Prop := fun x lo hi H Q => ∃ z, x = .str z ∧ z.length ≤ sizeLine ∧ Q (.str (Txt.slice z lo hi)) H
theorem sl_str : SlR X rSlS := by
  intro pins s σ H x v vl vu lo hi sl Q I rx hs pl pu h
  obtain ⟨z, rfl, hz, q⟩ := h
  obtain ⟨t, rfl⟩ := rx
  refine ⟨"str", _, F.slot_str_getitem.lookup, typeIs_str _ _ _, ?_⟩
  have fin : ∀ t' k, EP X pins σ Q (.str (Txt.slice z lo hi) t') { s with toks := k } := fun t' k => ⟨.str _, H, I.tok k, ⟨t', rfl⟩, q⟩
  cases pl with
  | none =>
    cases pu with
    | none => exact wpAny_getItem_str_slice (l := none) (u := none) (st := none) hs rfl (post_val_or_str ⟨Nat.le_trans (Txt.slice_le z _ _) hz, fin⟩)
    | int j uj => exact wpAny_getItem_str_slice (l := none) (u := some (j, uj)) (st := none) hs rfl (post_val_or_str ⟨Nat.le_trans (Txt.slice_le z _ _) hz, fin⟩)
  | int i ui =>
    cases pu with
    | none => exact wpAny_getItem_str_slice (l := some (i, ui)) (u := none) (st := none) hs rfl (post_val_or_str ⟨Nat.le_trans (Txt.slice_le z _ _) hz, fin⟩)
    | int j uj => exact wpAny_getItem_str_slice (l := some (i, ui)) (u := some (j, uj)) (st := none) hs rfl (post_val_or_str ⟨Nat.le_trans (Txt.slice_le z _ _) hz, fin⟩)

end

mutual
inductive DatV (K : PySem.W.Frag) (H : Hp) : V → PyData → Prop
  | none : DatV K H .non .none
  | bool (b : Bool) : DatV K H (.bl b) (.bool b)
  | int (i : Int) : DatV K H (.int i) (.int i)
  | str (x : Str) : DatV K H (.str x) (.str x)
  | list {a : Addr} {xs : List V} {ds : List PyData} : SqL K H a xs → DatVs K H xs ds → DatV K H (.ref a) (.list ds)
  | tuple {a : Addr} {xs : List V} {ds : List PyData} : SqT K H a xs → DatVs K H xs ds → DatV K H (.ref a) (.tuple ds)
inductive DatVs (K : PySem.W.Frag) (H : Hp) : List V → List PyData → Prop
  | nil : DatVs K H [] []
  | cons {x : V} {xs : List V} {d : PyData} {ds : List PyData} : DatV K H x d → DatVs K H xs ds → DatVs K H (x :: xs) (d :: ds)
end
theorem Same.seqT {K : PySem.W.Frag} {H H' : Hp} {a : Addr} {xs : List V} (e : Same H H') (h : SqT K H a xs) : SqT K H' a xs := by
  rcases h with (h | ⟨o, h⟩) | h
  · exact .inl (.inl (e _ _ h))
  · exact .inl (.inr ⟨o, e _ _ h⟩)
  · exact .inr h
mutual
theorem DatV.same {K : PySem.W.Frag} {H H' : Hp} (e : Same H H') : ∀ {x : V} {d : PyData}, DatV K H x d → DatV K H' x d
  | _, _, .none => .none
  | _, _, .bool b => .bool b
  | _, _, .int i => .int i
  | _, _, .str x => .str x
  | _, _, .list h hs => .list (e.seq h) (DatVs.same e hs)
  | _, _, .tuple h hs => .tuple (e.seqT h) (DatVs.same e hs)
theorem DatVs.same {K : PySem.W.Frag} {H H' : Hp} (e : Same H H') : ∀ {xs : List V} {ds : List PyData}, DatVs K H xs ds → DatVs K H' xs ds
  | _, _, .nil => .nil
  | _, _, .cons h hs => .cons (DatV.same e h) (DatVs.same e hs)
end
mutual
theorem DatV.reads {X : Cx} {pins : List (Addr × Obj)} {σ : St} {H : Hp} {s : Shared} (I : Inv X pins σ H s) : ∀ {x : V} {d : PyData} {u : Value}, DatV X.K H x d → RelV x u → ∃ as, Reads s.heap u d as
  | _, _, _, .none, r => by cases r; exact ⟨_, .none⟩
  | _, _, _, .bool b, r => by cases r; exact ⟨_, .bool b⟩
  | _, _, _, .int i, r => by obtain ⟨t, rfl⟩ := r; exact ⟨_, .int i t⟩
  | _, _, _, .str x, r => by obtain ⟨t, rfl⟩ := r; exact ⟨_, .str x t⟩
  | _, _, _, .list h hs, r => by
    cases r
    obtain ⟨its, rv, ⟨o, n, h1, h2, h3, h4⟩, hz⟩ := I.list h
    obtain ⟨as, ra⟩ := DatVs.reads I hs rv
    exact ⟨_, .list h1 h2 h4 ra⟩
  | _, _, _, .tuple h hs, r => by
    cases r
    obtain ⟨its, rv, ⟨o, h1, h2, n, h4⟩, hz⟩ := I.tuple h
    obtain ⟨as, ra⟩ := DatVs.reads I hs rv
    exact ⟨_, .tuple h1 h2 h4 ra⟩
theorem DatVs.reads {X : Cx} {pins : List (Addr × Obj)} {σ : St} {H : Hp} {s : Shared} (I : Inv X pins σ H s) : ∀ {xs : List V} {ds : List PyData} {us : List Value}, DatVs X.K H xs ds → Vals xs us → ∃ as, ReadsAll s.heap us ds as
  | _, _, _, .nil, r => by cases r; exact ⟨_, .nil⟩
  | _, _, _, .cons h hs, r => by
    cases r with
    | cons r1 r2 =>
      obtain ⟨as, ra⟩ := DatV.reads I h r1
      obtain ⟨bs, rb⟩ := DatVs.reads I hs r2
      exact ⟨_, .cons ra rb⟩
end
theorem DatVs.length {K : PySem.W.Frag} {H : Hp} : ∀ {xs : List V} {ds : List PyData}, DatVs K H xs ds → xs.length = ds.length
  | _, _, .nil => rfl
  | _, _, .cons _ hs => by rw [List.length_cons, List.length_cons, DatVs.length hs]
theorem DatVs.get {K : PySem.W.Frag} {H : Hp} : ∀ {xs : List V} {ds : List PyData} {i : Nat} {x : V}, DatVs K H xs ds → xs[i]? = some x → ∃ d, ds[i]? = some d ∧ DatV K H x d
  | _, _, _, _, .nil, e => by simp at e
  | _, _, 0, _, .cons h _, e => by simp at e; subst e; exact ⟨_, rfl, h⟩
  | _, _, i + 1, x, .cons _ hs, e => by
    obtain ⟨d, h1, h2⟩ := DatVs.get (i := i) (x := x) hs (by simpa using e)
    exact ⟨d, by simpa using h1, h2⟩
theorem DatVs.snoc {K : PySem.W.Frag} {H : Hp} {x : V} {d : PyData} (h : DatV K H x d) : ∀ {xs : List V} {ds : List PyData}, DatVs K H xs ds → DatVs K H (xs ++ [x]) (ds ++ [d])
  | _, _, .nil => .cons h .nil
  | _, _, .cons h' hs => .cons h' (DatVs.snoc h hs)
def rEqD (K : PySem.W.Frag) : R2 := fun x y H Q => ∃ da db, DatV K H x da ∧ DatV K H y db ∧ da.canLay0 = true ∧ db.canLay0 = true ∧ min da.depth db.depth ≤ 60 ∧ Q (.bl (PyData.eqv da db)) H
def rNeD (K : PySem.W.Frag) : R2 := fun x y H Q => ∃ da db, DatV K H x da ∧ DatV K H y db ∧ da.canLay0 = true ∧ db.canLay0 = true ∧ min da.depth db.depth ≤ 60 ∧ Q (.bl (!PyData.eqv da db)) H
theorem op_eqD {X : Cx} (hu : X.A.units + 64 < cLine) : OpR X (compareOp .Eq) (rEqD X.K) := by
  intro pins s σ H x y v u Q I rx ry h
  obtain ⟨da, db, h1, h2, l1, l2, hd, q⟩ := h
  obtain ⟨as, ra⟩ := h1.reads I rx
  obtain ⟨bs, rb⟩ := h2.reads I ry
  exact SeqAt.compareEq_reads ra rb l1 l2 (by omega) ⟨.bl _, H, I, rfl, q⟩
theorem op_neD {X : Cx} (hu : X.A.units + 64 < cLine) : OpR X (compareOp .NotEq) (rNeD X.K) := by
  intro pins s σ H x y v u Q I rx ry h
  obtain ⟨da, db, h1, h2, l1, l2, hd, q⟩ := h
  obtain ⟨as, ra⟩ := h1.reads I rx
  obtain ⟨bs, rb⟩ := h2.reads I ry
  exact SeqAt.compareNe_reads ra rb l1 l2 (by omega) ⟨.bl _, H, I, rfl, q⟩
end L2

set_option Elab.async false
set_option linter.all false
set_option maxRecDepth 100000
set_option maxHeartbeats 4000000
namespace L2
open PySem PySem.Spec PyProof.Rows

structure KTab (K : PySem.W.Frag) (w : World) (a : Addr) (kvs : List (Str × V)) : Prop where
  ex : ∃ es n, K.lookup a = some ⟨.type "dict", none, .dict es n, #[]⟩ ∧ PySem.W.KeysLit w.params es.toList ∧ Paired (fun (p : Str × V) (e : DictEntry) => (∃ t, e.key = .str p.1 t) ∧ RelV p.2 e.val) kvs es.toList
  lo : (a == sysModules) = false
theorem findBy_rel {kvs : List (Str × V)} {es : List DictEntry} (r : Paired (fun (p : Str × V) (e : DictEntry) => (∃ t, e.key = .str p.1 t) ∧ RelV p.2 e.val) kvs es) (x : Str) : RelO (kvs.lookup x) (findBy Value.isStrOf es.toArray x) := by
  unfold findBy
  rw [List.find?_toArray]
  induction r with
  | nil => exact True.intro
  | @cons p e ps qs h t ih =>
    obtain ⟨⟨tk, hk⟩, hv⟩ := h
    rw [List.lookup_cons, List.find?_cons, hk]
    by_cases q : x = p.1
    · subst q
      simp only [beq_self_eq_true]
      have : Value.isStrOf p.1 (.str p.1 tk) = true := by simp [Value.isStrOf]
      rw [this]
      exact hv
    · have h1 : (x == p.1) = false := by simpa using q
      have h2 : Value.isStrOf x (.str p.1 tk) = false := by
        simp only [Value.isStrOf]
        simpa using fun z => q z.symm
      rw [h1, h2]
      exact ih
theorem KTab.map {X : Cx} {pins : List (Addr × Obj)} {σ : St} {H : Hp} {s : Shared} {a : Addr} {kvs : List (Str × V)} (T : KTab X.K X.w a kvs) (I : Inv X pins σ H s) :
    ∃ f : Str → Option Value, s.heap.MapOf (strKind X.prog X.w) a f ∧ ∀ x, RelO (kvs.lookup x) (f x) := by
  obtain ⟨es, n, hl, hk, r⟩ := T.ex
  refine ⟨_, PySem.W.mapOf_K (prog := X.prog) I.kIn hl hk, fun x => ?_⟩
  have := findBy_rel r x
  simpa using this
section
variable {X : Cx} {o e f : Expr} {apos cpos pos : Pos} {td ty tx : TE}
theorem MapOf.dict {h : Heap} {P : Program} {w : World} {a : Addr} {f : Str → Option Value} (m : h.MapOf (strKind P w) a f) : ∀ b, Value.ref a = .ref b → ∃ ob, h.get? b = some ob ∧ ob.dict = none := fun b q => by
  cases q
  obtain ⟨ob, _, _, h1, h2, _⟩ := m
  exact ⟨ob, h1, h2.2.1⟩
def rIxK (K : PySem.W.Frag) (w : World) : R2 := fun x y H Q => ∃ a kvs k v, x = .ref a ∧ y = .str k ∧ KTab K w a kvs ∧ kvs.lookup k = some v ∧ Q v H
theorem ix_ktab : IxR X (rIxK X.K X.w) := by
  intro value slice pins s σ H x y v u Q I rx ry h hs
  obtain ⟨a, kvs, k, z, rfl, rfl, T, hl, q⟩ := h
  cases rx
  obtain ⟨t, rfl⟩ := ry
  obtain ⟨f2, m2, r2⟩ := T.map I
  obtain ⟨w', hw, rw'⟩ := RelO.some_of (v := z) (o := f2 k) (by rw [← hl]; exact r2 k)
  exact tail_any m2.typeIs slot_dict_getitem.lookup (wpAny_getItem_of (strKind_is X.prog X.w k t) m2 hw ⟨z, H, I.tok _, rw', q⟩) hs
end
end L2

set_option Elab.async false
set_option linter.all false
set_option maxRecDepth 100000
set_option maxHeartbeats 4000000
namespace L2
open PySem PySem.Spec PyProof.Rows
section
variable {X : Cx} {a b c e o : Expr} {ta tb tc te : TE} {pos p : Pos}

def mVar (i : Nat) : TE := fun σ H Q => match σ[i]? with
  | some (some v) => Q v H
  | _ => False
theorem mVar_eq (i : Nat) : mVar i = tVar i := by
  funext σ H Q
  refine propext ⟨fun h => ?_, fun ⟨v, e, h⟩ => ?_⟩
  · unfold mVar at h
    split at h
    · exact ⟨_, ‹_›, h⟩
    · exact h.elim
  · unfold mVar
    rw [e]
    exact h
theorem pn (i : Nat) {x : Str} {pos : Pos} (hN : X.N[i]? = some x := by rfl) (hv : Vis X.env.scope x := by first | exact Or.inl rfl | exact Or.inr (Or.inl rfl) | exact Or.inr (Or.inr rfl)) (hd : (x == ("__debug__" : Str)) = false := by decide)
    (hcd : (x == ("__classdict__" : Str)) = false := by decide) : PE X (.Name x pos) (mVar i) := by
  rw [mVar_eq]
  exact pe_var hN hv hd hcd

def mTest (t : TE) : TT := fun σ H Q => t σ H fun x H' => match x with
  | .bl k => Q k H'
  | _ => False
theorem mTest_eq (t : TE) : mTest t = tTest t := by
  funext σ H Q
  unfold mTest tTest
  congr 1
  funext x H'
  refine propext ⟨fun h => ?_, fun ⟨k, e, h⟩ => ?_⟩
  · split at h
    · exact ⟨_, rfl, h⟩
    · exact h.elim
  · subst e
    exact h
theorem mTest_eqB (t : TE) : mTest t = tB t := by rw [mTest_eq]; rfl
theorem pt_cmpM {op : CmpOp} {r : R2} (ho : OpR X (compareOp op) r) (ha : PE X a ta) (hb : PE X b tb) (hm : behindInMarks op b = false := by first | exact nomark _ | rfl) : PT X (.Compare a [op] [b] pos) (mTest (tOp r ta tb)) := by
  rw [mTest_eq]
  exact pt_cmpR ho ha hb hm
theorem pt_valM {e : Expr} {t : TE} (h : PE X e t) (he : ∀ whole, isTrue e X.env whole = (do let v ← whole; standAt e.pos; holding [v] (truthy v)) := by intro _; rfl) : PT X e (mTest t) := by
  rw [mTest_eqB]
  exact pt_val h he
def mAndV (ta tb : TE) : TE := fun σ H Q => ta σ H fun x H1 => match x with
  | .bl c => if c = true then tb σ H1 Q else Q (.bl false) H1
  | _ => False
theorem mAndV_eq (ta tb : TE) : mAndV ta tb = tAndV ta tb := by
  funext σ H Q
  unfold mAndV tAndV
  congr 1
  funext x H'
  refine propext ⟨fun h => ?_, fun ⟨k, e, h⟩ => ?_⟩
  · split at h
    · exact ⟨_, rfl, h⟩
    · exact h.elim
  · subst e; exact h
theorem pe_andM {rest : List Expr} (ha : PE X a ta) (hb : PE X (.BoolOp .And (b :: rest) pos) tb) : PE X (.BoolOp .And (a :: b :: rest) pos) (mAndV ta tb) := by rw [mAndV_eq]; exact pe_and ha hb
def gAdd (K : PySem.W.Frag) : R2 := fun x y H Q => match x, y with
  | .int i, .int j => Q (.int (i + j)) H
  | .str i, .str j => i.length + j.length ≤ sizeLine ∧ Q (.str (i ++ j)) H
  | .ref l, .ref b => (∃ xs zs, H l = some (.lst xs) ∧ H b = some (.lst zs) ∧ xs.length + zs.length ≤ sizeLine ∧ ∀ p, H p = none → Q (.ref p) (upd H p (.lst (xs ++ zs)))) ∨
      ∃ xs ys, SqT K H l xs ∧ SqT K H b ys ∧ xs ≠ [] ∧ xs.length + ys.length ≤ sizeLine ∧ (ys = [] → Q (.ref l) H) ∧ (ys ≠ [] → ∀ p, H p = none → Q (.ref p) (upd H p (.tup (xs ++ ys))))
  | _, _ => False
theorem og_add {K : PySem.W.Frag} (hK : X.K = K := by rfl) : OpR X (binaryOp .Add) (gAdd K) := by
  subst hK
  intro pins s σ H x y v u Q I rx ry h
  unfold gAdd at h
  split at h
  · exact op_add pins s σ H _ _ v u Q I rx ry ⟨_, _, rfl, rfl, h⟩
  · exact op_add_str pins s σ H _ _ v u Q I rx ry ⟨_, _, rfl, rfl, h.1, h.2⟩
  · rcases h with ⟨xs, zs, h1, h2, h3, h4⟩ | ⟨xs, ys, h1, h2, h3, h4, h5, h6⟩
    · exact op_cat pins s σ H _ _ v u Q I rx ry ⟨_, _, xs, zs, rfl, rfl, h1, h2, h3, h4⟩
    · exact op_catT pins s σ H _ _ v u Q I rx ry ⟨_, _, xs, ys, rfl, rfl, h1, h2, h3, h4, h5, h6⟩
  · exact h.elim
def gMinus : R2 := fun x y H Q => match x, y with
  | .int i, .int j => Q (.int (i - j)) H
  | _, _ => False
theorem og_sub : OpR X (binaryOp .Sub) gMinus := by
  intro pins s σ H x y v u Q I rx ry h
  unfold gMinus at h
  split at h
  · exact op_sub pins s σ H _ _ v u Q I rx ry ⟨_, _, rfl, rfl, h⟩
  · exact h.elim
def gMul : R2 := fun x y H Q => match x, y with
  | .int i, .int j => CMul i j ∧ Q (.int (i * j)) H
  | .str z, .int n => MulOk z n ∧ Q (.str (Txt.mul z n)) H
  | .ref l, .int k => ∃ xs, H l = some (.lst xs) ∧ -(2 ^ 63) ≤ k ∧ k < 2 ^ 63 ∧ xs.length * k.toNat ≤ sizeLine ∧ ∀ p, H p = none → Q (.ref p) (upd H p (.lst (List.replicate k.toNat xs).flatten))
  | _, _ => False
theorem og_mul : OpR X (binaryOp .Mult) gMul := by
  intro pins s σ H x y v u Q I rx ry h
  unfold gMul at h
  split at h
  · exact op_mul pins s σ H _ _ v u Q I rx ry ⟨_, _, rfl, rfl, h.1, h.2⟩
  · exact op_mul_str pins s σ H _ _ v u Q I rx ry ⟨_, _, rfl, rfl, h.1, h.2⟩
  · obtain ⟨xs, h1, h2, h3, h4, h5⟩ := h
    exact op_rep pins s σ H _ _ v u Q I rx ry ⟨_, _, xs, rfl, rfl, h1, h2, h3, h4, h5⟩
  · exact h.elim
def gDiv : R2 := fun x y H Q => match x, y with
  | .int i, .int j => CDiv i j ∧ Q (.int (i / j)) H
  | _, _ => False
theorem og_div : OpR X (binaryOp .FloorDiv) gDiv := by
  intro pins s σ H x y v u Q I rx ry h
  unfold gDiv at h
  split at h
  · exact op_fdiv pins s σ H _ _ v u Q I rx ry ⟨_, _, rfl, rfl, h.1, h.2⟩
  · exact h.elim
def gMod : R2 := fun x y H Q => match x, y with
  | .int i, .int j => 0 < j ∧ Q (.int (i % j)) H
  | _, _ => False
theorem og_mod : OpR X (binaryOp .Mod) gMod := by
  intro pins s σ H x y v u Q I rx ry h
  unfold gMod at h
  split at h
  · exact op_mod pins s σ H _ _ v u Q I rx ry ⟨_, _, rfl, rfl, h.1, h.2⟩
  · exact h.elim
def gIadd : R2 := fun x y H Q => match x, y with
  | .int i, .int j => Q (.int (i + j)) H
  | .str i, .str j => i.length + j.length ≤ sizeLine ∧ Q (.str (i ++ j)) H
  | _, _ => False
theorem og_iadd : PIp X .Add gIadd := by
  intro pins s σ H x y v u Q I rx ry h
  unfold gIadd at h
  split at h
  · exact iop_add pins s σ H _ _ v u Q I rx ry ⟨_, _, rfl, rfl, h⟩
  · exact iop_add_str pins s σ H _ _ v u Q I rx ry ⟨_, _, rfl, rfl, h.1, h.2⟩
  · exact h.elim
def mAug (i : Nat) (te : TE) (ti : TIp) : TS := fun D σ H => match σ[i]? with
  | some (some x) => te σ H fun y H1 => ti x y H1 fun z H2 => D.nx (σ.set i (some z)) H2
  | _ => False
theorem mAug_eq (i : Nat) (te : TE) (ti : TIp) : mAug i te ti = tAug i te ti := by
  funext D σ H
  refine propext ⟨fun h => ?_, fun ⟨v, e, h⟩ => ?_⟩
  · unfold mAug at h
    split at h
    · exact ⟨_, ‹_›, h⟩
    · exact h.elim
  · unfold mAug
    rw [e]
    exact h
theorem ps_augM {i : Nat} {x : Str} {op : Operator} {ti : TIp} {pos' : Pos} (hN : X.N.Nodup) (hi : X.N[i]? = some x) (hx : Loc X.env.scope x) (he : PE X e te) (ho : PIp X op ti) (hf : X.fn x = true ∨ X.env.scope.names.lookup x = some .local := by first | exact .inl rfl | exact .inr rfl | assumption) :
    PS X (.AugAssign (.Name x pos') op e pos) (mAug i te ti) := by
  rw [mAug_eq]; exact ps_aug hN hi hx he ho hf

def gEq (K : PySem.W.Frag) (neg : Bool) : R2 := fun x y H Q => match x, y with
  | .int i, .int j => Q (.bl (neg ^^ decide (i = j))) H
  | .str i, .str j => Q (.bl (neg ^^ decide (i = j))) H
  | .bl i, .bl j => Q (.bl (neg ^^ decide (i = j))) H
  | .ref i, .ref j => ∃ da db, DatV K H (.ref i) da ∧ DatV K H (.ref j) db ∧ da.canLay0 = true ∧ db.canLay0 = true ∧ min da.depth db.depth ≤ 60 ∧ Q (.bl (neg ^^ PyData.eqv da db)) H
  | _, _ => False
theorem og_eq (hu : X.A.units + 64 < cLine) {K : PySem.W.Frag} (hK : X.K = K := by rfl) : OpR X (compareOp .Eq) (gEq K false) := by
  subst hK
  intro pins s σ H x y v u Q I rx ry h
  unfold gEq at h
  split at h
  · refine op_eq pins s σ H _ _ v u Q I rx ry ⟨rfl, ?_⟩
    simpa using h
  · refine op_eq pins s σ H _ _ v u Q I rx ry ⟨rfl, ?_⟩
    simpa using h
  · refine op_eq pins s σ H _ _ v u Q I rx ry ⟨rfl, ?_⟩
    simpa using h
  · obtain ⟨da, db, h1, h2, h3, h4, h5, h6⟩ := h
    exact op_eqD hu pins s σ H _ _ v u Q I rx ry ⟨da, db, h1, h2, h3, h4, h5, by simpa using h6⟩
  · exact h.elim
theorem og_ne (hu : X.A.units + 64 < cLine) {K : PySem.W.Frag} (hK : X.K = K := by rfl) : OpR X (compareOp .NotEq) (gEq K true) := by
  subst hK
  intro pins s σ H x y v u Q I rx ry h
  unfold gEq at h
  split at h
  · refine op_ne pins s σ H _ _ v u Q I rx ry ⟨rfl, ?_⟩
    simpa using h
  · refine op_ne pins s σ H _ _ v u Q I rx ry ⟨rfl, ?_⟩
    simpa using h
  · refine op_ne pins s σ H _ _ v u Q I rx ry ⟨rfl, ?_⟩
    simpa using h
  · obtain ⟨da, db, h1, h2, h3, h4, h5, h6⟩ := h
    exact op_neD hu pins s σ H _ _ v u Q I rx ry ⟨da, db, h1, h2, h3, h4, h5, by simpa using h6⟩
  · exact h.elim
def gLt : R2 := fun x y H Q => match x, y with
  | .int i, .int j => Q (.bl (decide (i < j))) H
  | .str i, .str j => Q (.bl (decide (i.cps.toList < j.cps.toList))) H
  | _, _ => False
theorem og_lt : OpR X (compareOp .Lt) gLt := by
  intro pins s σ H x y v u Q I rx ry h
  unfold gLt at h
  split at h
  · exact op_lt pins s σ H _ _ v u Q I rx ry ⟨_, _, rfl, rfl, h⟩
  · exact op_lt_str pins s σ H _ _ v u Q I rx ry ⟨_, _, rfl, rfl, h⟩
  · exact h.elim
def gLe : R2 := fun x y H Q => match x, y with
  | .int i, .int j => Q (.bl (decide (i ≤ j))) H
  | .str i, .str j => Q (.bl (!decide (j.cps.toList < i.cps.toList))) H
  | _, _ => False
theorem og_le : OpR X (compareOp .LtE) gLe := by
  intro pins s σ H x y v u Q I rx ry h
  unfold gLe at h
  split at h
  · exact op_le pins s σ H _ _ v u Q I rx ry ⟨_, _, rfl, rfl, h⟩
  · exact op_le_str pins s σ H _ _ v u Q I rx ry ⟨_, _, rfl, rfl, h⟩
  · exact h.elim
def gGt : R2 := fun x y H Q => match x, y with
  | .int i, .int j => Q (.bl (decide (j < i))) H
  | _, _ => False
theorem og_gt : OpR X (compareOp .Gt) gGt := by
  intro pins s σ H x y v u Q I rx ry h
  unfold gGt at h
  split at h
  · exact op_gt pins s σ H _ _ v u Q I rx ry ⟨_, _, rfl, rfl, h⟩
  · exact h.elim
def gGe : R2 := fun x y H Q => match x, y with
  | .int i, .int j => Q (.bl (decide (j ≤ i))) H
  | _, _ => False
theorem og_ge : OpR X (compareOp .GtE) gGe := by
  intro pins s σ H x y v u Q I rx ry h
  unfold gGe at h
  split at h
  · exact op_ge pins s σ H _ _ v u Q I rx ry ⟨_, _, rfl, rfl, h⟩
  · exact h.elim
def gIn (K : PySem.W.Frag) (neg : Bool) : R2 := fun x y H Q => match y with
  | .str j => (match x with
    | .str i => Q (.bl (neg ^^ !(Builtin.Str.occurrences j i 0 j.length 1).isEmpty)) H
    | _ => False)
  | .ref p => ∃ xs, (SqL K H p xs ∨ SqT K H p xs) ∧ flatV x = true ∧ xs.all flatV = true ∧ Q (.bl (neg ^^ inV x xs)) H
  | _ => False
theorem og_in {K : PySem.W.Frag} (hK : X.K = K := by rfl) : OpR X (compareOp .In) (gIn K false) := by
  subst hK
  intro pins s σ H x y v u Q I rx ry h
  unfold gIn at h
  split at h
  · split at h
    · refine op_in_str pins s σ H _ _ v u Q I rx ry ⟨_, _, rfl, rfl, ?_⟩
      simpa using h
    · exact h.elim
  · obtain ⟨xs, h1, h2, h3, h4⟩ := h
    exact op_in_seq pins s σ H _ _ v u Q I rx ry ⟨_, xs, rfl, h1, h2, h3, by simpa using h4⟩
  · exact h.elim
theorem og_notin {K : PySem.W.Frag} (hK : X.K = K := by rfl) : OpR X (compareOp .NotIn) (gIn K true) := by
  subst hK
  intro pins s σ H x y v u Q I rx ry h
  unfold gIn at h
  split at h
  · split at h
    · refine op_notin_str pins s σ H _ _ v u Q I rx ry ⟨_, _, rfl, rfl, ?_⟩
      simpa using h
    · exact h.elim
  · obtain ⟨xs, h1, h2, h3, h4⟩ := h
    exact op_notIn_seq pins s σ H _ _ v u Q I rx ry ⟨_, xs, rfl, h1, h2, h3, by simpa using h4⟩
  · exact h.elim
def gIs (neg : Bool) : R2 := fun x y H Q => match y with
  | .non => (match x with
    | .non => Q (.bl (neg ^^ true)) H
    | _ => Q (.bl (neg ^^ false)) H)
  | _ => False
theorem og_is : OpR X (compareOp .Is) (gIs false) := by
  intro pins s σ H x y v u Q I rx ry h
  unfold gIs at h
  split at h
  · refine op_isN pins s σ H _ _ v u Q I rx ry ⟨rfl, ?_⟩
    split at h
    · exact h
    · rename_i hn
      have e : decide (x = V.non) = false := decide_eq_false hn
      rw [e]
      exact h
  · exact h.elim
def gIx (K : PySem.W.Frag) (w : World) : R2 := fun x y H Q => match x, y with
  | .ref q, .int i => (∃ xs v, SqL K H q xs ∧ atI xs i = some v ∧ Q v H) ∨ ∃ xs v, SqT K H q xs ∧ atI xs i = some v ∧ Q v H
  | .str z, .int i => z.length ≤ sizeLine ∧ ∃ c, atI z.cps.toList i = some c ∧ Q (.str ⟨#[c]⟩) H
  | .ref q, .str k => (∃ kvs v, KTab K w q kvs ∧ kvs.lookup k = some v ∧ Q v H) ∨ ∃ (kvs : List (Key × V)) (v : V), H q = some (.dK kvs) ∧ valV kvs (Sum.inr k) = some v ∧ Q v H
  | _, _ => False
theorem og_ix (hu : X.A.units + 64 < cLine) {K : PySem.W.Frag} {w : World} (hK : X.K = K := by rfl) (hw : X.w = w := by rfl) : IxR X (gIx K w) := by
  subst hK
  subst hw
  intro value slice pins s σ H x y v u Q I rx ry h hs
  unfold gIx at h
  split at h
  · rcases h with ⟨xs, z, h1, h2, h3⟩ | ⟨xs, z, h1, h2, h3⟩
    · exact ix_list value slice pins s σ H _ _ v u Q I rx ry ⟨_, xs, _, z, rfl, rfl, h1, h2, h3⟩ hs
    · exact ix_tup value slice pins s σ H _ _ v u Q I rx ry ⟨_, xs, _, z, rfl, rfl, h1, h2, h3⟩ hs
  · obtain ⟨hz, c, h1, h2⟩ := h
    exact ix_str value slice pins s σ H _ _ v u Q I rx ry ⟨_, _, c, rfl, rfl, hz, h1, h2⟩ hs
  · rcases h with ⟨kvs, z, h1, h2, h3⟩ | ⟨kvs, z, h1, h2, h3⟩
    · exact ix_ktab value slice pins s σ H _ _ v u Q I rx ry ⟨_, kvs, _, z, rfl, rfl, h1, h2, h3⟩ hs
    · cases rx
      have hd := dk_of I.hok h1
      obtain ⟨_, _, vs, _, dd⟩ := hd
      exact tail_any dd.typeIs slot_dict_getitem.lookup (d_getItem (y := kV (Sum.inr _)) (v := z) (by omega) I (.inl ⟨kvs, _, .inl h1, rfl, h2.symm⟩) ry fun w' s' I' rw' => ⟨z, H, I', rw', h3⟩) hs
  · exact h.elim
def mPart (t : TE) : TO := fun σ H Q => t σ H fun x H1 => match x with
  | .int i => Q (some i) H1
  | _ => False
theorem mPart_eq (t : TE) : mPart t = tPart t := by
  funext σ H Q
  unfold mPart tPart
  congr 1
  funext x H'
  refine propext ⟨fun h => ?_, fun ⟨k, e, h⟩ => ?_⟩
  · split at h
    · exact ⟨_, rfl, h⟩
    · exact h.elim
  · subst e; exact h
theorem po_someM (h : PE X e te) : PO X (some e) (mPart te) := by rw [mPart_eq]; exact po_some h

def gLen (K : PySem.W.Frag) : List V → Hp → VK → Prop := fun xs H Q => match xs with
  | [.str y] => y.length ≤ sizeLine ∧ Q (.int y.length) H
  | [.ref p] => ∃ ys, (SqL K H p ys ∨ SqT K H p ys) ∧ Q (.int ys.length) H
  | _ => False
theorem cg_len {K : PySem.W.Frag} (hK : X.K = K := by rfl) : CallR X (.builtin "len") (gLen K) := by
  subst hK
  intro pins s σ H xs us Q I r h
  unfold gLen at h
  split at h
  · exact call_len_str pins s σ H _ us Q I r ⟨_, rfl, h.1, h.2⟩
  · obtain ⟨ys, h1, h2⟩ := h
    exact call_len_seq pins s σ H _ us Q I r ⟨_, ys, rfl, h1, h2⟩
  · exact h.elim
def gMax : List V → Hp → VK → Prop := fun xs H Q => match xs with
  | [.int i, .int j] => Q (.int (max i j)) H
  | _ => False
theorem cg_max (hc : X.calm = true) : CallR X (.builtin "max") gMax := by
  intro pins s σ H xs us Q I r h
  unfold gMax at h
  split at h
  · rename_i i j
    refine call_max2 hc pins s σ H _ us Q I r ⟨i, j, rfl, ?_⟩
    have e : (if j > i then j else i) = max i j := by split <;> omega
    rw [e]; exact h
  · exact h.elim
def gMin : List V → Hp → VK → Prop := fun xs H Q => match xs with
  | [.int i, .int j] => Q (.int (min i j)) H
  | _ => False
theorem cg_min (hc : X.calm = true) : CallR X (.builtin "min") gMin := by
  intro pins s σ H xs us Q I r h
  unfold gMin at h
  split at h
  · rename_i i j
    refine call_min2 hc pins s σ H _ us Q I r ⟨i, j, rfl, ?_⟩
    have e : (if j < i then j else i) = min i j := by split <;> omega
    rw [e]; exact h
  · exact h.elim
def gList (K : PySem.W.Frag) : List V → Hp → VK → Prop := fun xs H Q => match xs with
  | [.ref p] => ∃ ys, (SqL K H p ys ∨ SqT K H p ys) ∧ ∀ l, H l = none → Q (.ref l) (upd H l (.lst ys))
  | _ => False
theorem cg_list {K : PySem.W.Frag} (hK : X.K = K := by rfl) : CallR X (.type "list") (gList K) := by
  subst hK
  intro pins s σ H xs us Q I r h
  unfold gList at h
  split at h
  · obtain ⟨ys, h1, h2⟩ := h
    exact call_list_of pins s σ H _ us Q I r ⟨_, ys, rfl, h1, h2⟩
  · exact h.elim

def gJoin (K : PySem.W.Frag) : V → List V → Hp → VK → Prop := fun x vs H Q => match x, vs with
  | .str sep, [.ref l] => ∃ texts : List Str, SqL K H l (texts.map V.str) ∧ JoinOk sep texts = true ∧ Q (.str (Txt.join sep texts)) H
  | _, _ => False
theorem mg_join {K : PySem.W.Frag} (hK : X.K = K := by rfl) : MtR X "str.join" (gJoin K) := by
  subst hK
  intro pins s σ H x xs v us Q I rx rs h
  unfold gJoin at h
  split at h
  · obtain ⟨texts, h1, h2, h3⟩ := h
    exact mt_join pins s σ H _ _ v us Q I rx rs ⟨_, _, texts, rfl, rfl, h1, h2, h3⟩
  · exact h.elim
def gAppend : V → List V → Hp → VK → Prop := fun x vs H Q => match x, vs with
  | .ref l, [y] => ∃ xs, H l = some (.lst xs) ∧ xs.length < sizeLine ∧ Q .non (upd H l (.lst (xs ++ [y])))
  | _, _ => False
theorem mg_append : MtR X "list.append" gAppend := by
  intro pins s σ H x xs v us Q I rx rs h
  unfold gAppend at h
  split at h
  · obtain ⟨ys, h1, h2, h3⟩ := h
    exact mt_append pins s σ H _ _ v us Q I rx rs ⟨_, ys, _, rfl, rfl, h1, h2, h3⟩
  · exact h.elim
end
end L2

namespace L2
open PySem PySem.Spec PyProof.Rows
section
variable {X : Cx} {tg : Expr}
def iAny (K : PySem.W.Frag) (tl : TE) : TI := fun σ H R => tl σ H fun x H1 => match x with
  | .str z => R (Its z) H1
  | .ref a => ((∃ xs, SqL K H1 a xs) ∧ R (Itl K a) H1) ∨ ((∃ xs, SqT K H1 a xs) ∧ R (Itt K a) H1)
  | _ => False
theorem pi_any {l : Expr} {tl : TE} (hl : PE X l tl) {K : PySem.W.Frag} (hK : X.K = K := by rfl) : PI X tg l (iAny K tl) := by
  subst hK
  intro pins s σ H R I h
  refine thn (hl pins s σ H _ I h) fun v s1 ⟨x, H1, I1, r1, q1⟩ => ?_
  dsimp only at q1
  split at q1
  · rename_i z
    obtain ⟨t, rfl⟩ := r1
    have fin : ∀ b ∈ [s1.heap.objs.size], FpOk X pins H1 b := fun b hb => by
      have e : b = s1.heap.objs.size := by simpa using hb
      subst e
      exact I1.fpOk (Nat.le_refl _) (I1.hok.fresh (Nat.le_refl _))
    cases ha : z.cps.all (· < 128)
    · refine wpAny_pyIter_wide ha ?_
      exact ⟨s1.heap.objs.size, [s1.heap.objs.size], _, _, H1, rfl, I1.kept (t' := s1.toks) fun b o e => Heap.get?_push_of_some _ e,
        turn_str "str_iterator" _ z t (fun A' hA => Walks.strWide hA _ z t) (fun A i s Q E st h => wpAny_pyIter_striter_wide st h) (by decide), ⟨_, Heap.get?_push_size _ rfl, rfl, rfl⟩, fin, q1⟩
    · refine wpAny_pyIter_ascii ha ?_
      exact ⟨s1.heap.objs.size, [s1.heap.objs.size], _, _, H1, rfl, I1.kept (t' := s1.toks) fun b o e => Heap.get?_push_of_some _ e,
        turn_str "str_ascii_iterator" _ z t (fun A' hA => Walks.strAscii hA _ z t) (fun A i s Q E st h => wpAny_pyIter_striter_ascii st h) (by decide), ⟨_, Heap.get?_push_size _ rfl, rfl, rfl⟩, fin, q1⟩
  · rename_i a
    cases r1
    have fin : ∀ b ∈ [s1.heap.objs.size], FpOk X pins H1 b := fun b hb => by
      have e : b = s1.heap.objs.size := by simpa using hb
      subst e
      exact I1.fpOk (Nat.le_refl _) (I1.hok.fresh (Nat.le_refl _))
    rcases q1 with ⟨⟨xs, hq⟩, q⟩ | ⟨⟨xs, hq⟩, q⟩
    · obtain ⟨its, rv, p, hz⟩ := I1.list hq
      refine wpAny_pyIter_list p.isList ?_
      exact ⟨s1.heap.objs.size, [s1.heap.objs.size], _, _, H1, rfl, I1.kept (t' := s1.toks) fun b o e => Heap.get?_push_of_some _ e, turn_list a _, ⟨_, Heap.get?_push_size _ rfl, rfl, rfl⟩, fin, q⟩
    · obtain ⟨its, rv, p, hz⟩ := I1.tuple hq
      refine wpAny_pyIter_tuple (show s1.heap.IsTuple a its.toArray from p) ?_
      exact ⟨s1.heap.objs.size, [s1.heap.objs.size], _, _, H1, rfl, I1.kept (t' := s1.toks) fun b o e => Heap.get?_push_of_some _ e, turn_tuple a _, ⟨_, Heap.get?_push_size _ rfl, rfl, rfl⟩, fin, q⟩
  · exact q1.elim
def mRng1 (ta : TA) : TI := fun σ H R => ta σ H fun vs H1 => match vs with
  | [.int j] => -(2 ^ 62) ≤ j ∧ j < 2 ^ 62 ∧ R (Itr 0 j.toNat) H1
  | _ => False
theorem mRng1_eq (ta : TA) : mRng1 ta = iRng1 ta := by
  funext σ H R
  unfold mRng1 iRng1
  congr 1
  funext vs H'
  refine propext ⟨fun h => ?_, fun ⟨k, e, h⟩ => ?_⟩
  · split at h
    · exact ⟨_, rfl, h⟩
    · exact h.elim
  · subst e; exact h
theorem pi_rng1 {a : Expr} {ta : TA} {p pos : Pos} (hg : Gl X "range") (hm : X.mg "range" = none) (ha : PA X [a] ta) (hs : starEach [a] X.env = [(false, eval a X.env)] := by rfl) : PI X tg (.Call (.Name "range" p) [a] [] pos) (mRng1 ta) := by
  rw [mRng1_eq]; exact pi_range1 hg hm ha hs

def noStar : Expr → Bool
  | .Starred .. => false
  | _ => true
def noStars : List Expr → Bool
  | [] => true
  | e :: r => noStar e && noStars r
theorem starEach_cons {e : Expr} {es : List Expr} {env : Env} (h : noStar e = true) : starEach (e :: es) env = (false, eval e env) :: starEach es env := by
  cases e <;> first | rfl | exact absurd h Bool.false_ne_true
theorem stars_none : ∀ {es : List Expr} {env : Env}, noStars es = true → ∀ x ∈ starEach es env, x.1 = false
  | [], env, _, x, hx => by
    have : starEach [] env = [] := rfl
    rw [this] at hx
    exact nomatch hx
  | e :: r, env, h, x, hx => by
    have h' : noStar e = true ∧ noStars r = true := by simpa [noStars] using h
    rw [starEach_cons h'.1] at hx
    rcases List.mem_cons.mp hx with q | q
    · rw [q]
    · exact stars_none h'.2 x q
theorem back_any {es : List Expr} {env : Env} {pos : Pos} (h : noStars es = true) : (backTo pos (starEach es env)).any (·.1) = false := by
  rw [List.any_eq_false]
  intro x hx
  unfold backTo at hx
  obtain ⟨y, hy, e⟩ := List.mem_map.mp hx
  have := stars_none h y hy
  obtain ⟨b, t⟩ := y
  dsimp only at e this
  rw [← e, this]
  exact Bool.false_ne_true
theorem back_all {es : List Expr} {env : Env} {pos : Pos} (h : noStars es = true) : (backTo pos (starEach es env)).all (fun x => !x.1) = true := by
  rw [List.all_eq_true]
  intro x hx
  unfold backTo at hx
  obtain ⟨y, hy, e⟩ := List.mem_map.mp hx
  have := stars_none h y hy
  obtain ⟨b, t⟩ := y
  dsimp only at e this
  rw [← e, this]
  rfl
def notSuper : Expr → Bool
  | .Call (.Name _ _) [] [] _ => false
  | _ => true
theorem base_of {o : Expr} {attr : Str} {env : Env} {whole : Sem Value} (h : notSuper o = true) : attributeBase o attr env whole = whole := by
  unfold attributeBase
  split
  · exact absurd h Bool.false_ne_true
  · rfl
theorem pa_consM {es : List Expr} {t : TA} (ha : PE X e te) (hr : PA X es t) (h : noStar e = true := by rfl) : PA X (e :: es) (tCons te t) := pa_cons ha hr (starEach_cons h)
theorem pe_callBM {x : Str} {id : String} {r : List V → Hp → VK → Prop} {es : List Expr} {t : TA} {p pos : Pos} (hc : CallR X (.builtin id) r) (hg : Gl X x) (hm : X.mg x = none) (hv : bootBuiltins x = some (.builtin id)) (ha : PA X (e :: es) t) (hn : x ≠ "__name__" := by decide) (hdb : (x == ("__debug__" : Str)) = false := by decide)
    (h : noStars (e :: es) = true := by rfl) : PE X (.Call (.Name x p) (e :: es) [] pos) (tCB r t) := by
  have h' : noStar e = true ∧ noStars es = true := by simpa [noStars] using h
  exact pe_callB hc hg hm hv ha hn hdb (starEach_cons h'.1) (back_any h'.2)
theorem pe_callTyM {x : Str} {T : String} {r : List V → Hp → VK → Prop} {es : List Expr} {t : TA} {p pos : Pos} (hc : CallR X (.type T) r) (hg : Gl X x) (hm : X.mg x = none) (hv : bootBuiltins x = some (.type T)) (ha : PA X (e :: es) t) (hn : x ≠ "__name__" := by decide) (hdb : (x == ("__debug__" : Str)) = false := by decide)
    (h : noStars (e :: es) = true := by rfl) : PE X (.Call (.Name x p) (e :: es) [] pos) (tCB r t) := by
  have h' : noStar e = true ∧ noStars es = true := by simpa [noStars] using h
  exact pe_callTy hc hg hm hv ha hn hdb (starEach_cons h'.1) (back_any h'.2)
theorem pe_bmK {K : PySem.W.Frag} {o e : Expr} {es : List Expr} {to : TE} {t : TA} {name : Str} {apos cpos : Pos} {T id : String} {r : V → List V → Hp → VK → Prop} (pa : PlainAttrs T) (slot : Slot T name id) (hty : typeOf (.builtin id) = pure (.type "method_descriptor")) (hm : MtR X id r) (ho : PE X o to) (ha : PA X (e :: es) t) (hK : X.K = K := by rfl)
    (hsup : notSuper o = true := by rfl) (h : noStars (e :: es) = true := by rfl) (h30 : (e :: es).length < 30 := by decide) (hline : (apos.endLine == cpos.line) = true := by rfl) :
    PE X (.Call (.Attribute o name apos) (e :: es) [] cpos) (tBM K T r to t) := by
  subst hK
  have h' : noStar e = true ∧ noStars es = true := by simpa [noStars] using h
  refine pe_bm pa slot hty hm ho ha (base_of hsup) ?_ hline (starEach_cons h'.1) (back_any h'.2)
  rw [back_all h]
  have e0 : keywordEach [] X.env = [] := rfl
  rw [e0]
  simpa [backToKw] using h30
theorem pg_tupK {K : PySem.W.Frag} {es : List Expr} {k : Nat} {t : TGs} {n : Nat} {pos : Pos} (hc : X.calm = true) (h : PGs X es t) (hK : X.K = K := by rfl)
    (hn : (assignEach es X.env).length = n := by rfl) (hst : (assignEach es X.env).findIdx? (·.1) = none := by rfl) : PG X (.Tuple es k pos) (gTup K n t) := by
  subst hK
  exact pg_tup hc h hn hst
structure Def (P : Program) (w : World) (K : PySem.W.Frag) (mg : Str → Option Value) (base : Heap) (k : Nat) (x : Str) (ps : List Str) (sp : Sp) : Prop where
  ex : ∃ f fd, mg x = some (.ref f) ∧ PySem.W.keepIn K (.ref f) = true ∧ (∃ oc od osl, K.lookup f = some ⟨oc, od, .func fd, osl⟩) ∧ Binds K fd ps [] ∧ FnOk P w K mg base CX0 k f fd ps sp
theorem pe_def {k : Nat} {x : Str} {ps : List Str} {sp : Sp} {e : Expr} {es : List Expr} {t : TA} {p pos : Pos} (D : Def X.prog X.w X.K X.mg X.base k x ps sp) (hr : Room k X.A) (hg : Gl X x) (ha : PA X (e :: es) t) (hdb : (x == ("__debug__" : Str)) = false := by decide)
    (hst : noStars (e :: es) = true := by rfl) (hx : Passes CX0 X E0 := by exact pass0) :
    PE X (.Call (.Name x p) (e :: es) [] pos) (fun σ H Q => t σ H fun vs H1 => sp vs H1 Q E0) := by
  obtain ⟨f, fd, mgf, kp, _, b, G⟩ := D.ex
  have h' : noStar e = true ∧ noStars es = true := by simpa [noStars] using hst
  have he := starEach_cons (es := es) (env := X.env) h'.1
  have hpl := back_any (env := X.env) (pos := pos) h'.2
  have h := pe_call (X := X) (dvs := []) (E := E0) (p := p) (pos := pos) G hr hg mgf kp b .nil hx ha hdb he hpl
  intro pins s σ H Q I hq
  refine h pins s σ H Q I ?_
  show t σ H fun vs H1 => sp (vs ++ []) H1 Q E0
  have e1 : (fun (vs : List V) H1 => sp (vs ++ []) H1 Q E0) = fun vs H1 => sp vs H1 Q E0 := by funext vs H1; rw [List.append_nil]
  rw [e1]
  exact hq
end
theorem Fun.lk {K : PySem.W.Frag} {x qual : Str} {st : Stmt} {f : Addr} {fd : FuncData} (F : Fun K x qual st f fd) : ∃ oc od osl, K.lookup f = some ⟨oc, od, .func fd, osl⟩ := by
  obtain ⟨oc, od, kV, doc, pm, an, cdv, ct, osl, _, lk, _⟩ := F.ex
  exact ⟨oc, od, osl, lk⟩
structure Raw (K : PySem.W.Frag) (mg : Str → Option Value) (x : Str) (st : Stmt) (ps : List Str) : Prop where
  ex : ∃ f fd, mg x = some (.ref f) ∧ Fun K x x st f fd ∧ ∀ (us : List Value), us.length = ps.length → bindArgs fd ⟨us, []⟩ = pure (ps.zip us)
theorem Raw.mk' {K : PySem.W.Frag} {mg : Str → Option Value} {h : Heap} {x : Str} {st : Stmt} {ps : List Str} {f : Addr} {oc : Value} {od an : Option Addr} {osl : Array (Option Value)} {kV doc pm cdv ct : Value} (X : K.In h) (G : h.Ns mainGlobals mg)
    (a : PySem.W.nsIn K mainGlobals x = some (some (.ref f))) (l : K.lookup f = some ⟨oc, od, .func (PySem.W.fnOf x x (defArgs st) (defBody st) (defScope st) .none kV doc pm an cdv ct), osl⟩)
    (c : PySem.W.codeIn K cdv x = true) (k : PySem.W.keepIn K (.ref f) = true)
    (hb : ∀ (us : List Value), us.length = ps.length → bindArgs (PySem.W.fnOf x x (defArgs st) (defBody st) (defScope st) .none kV doc pm an cdv ct) ⟨us, []⟩ = pure (ps.zip us)) : Raw K mg x st ps :=
  ⟨⟨f, _, PySem.W.mg_of X G a, fun_mk l c k, hb⟩⟩
theorem Raw.def {P : Program} {w : World} {K : PySem.W.Frag} {mg : Str → Option Value} {base : Heap} {x : Str} {st : Stmt} {N ps : List Str} {k : Nat} {sp : Sp} (R : Raw K mg x st ps) (S : FnScope N ps (defScope st)) (len : ∀ vs H Q E, sp vs H Q E → vs.length = ps.length)
    (hbody : ∀ (f : Addr) (cdv : Value) (A : Around) (outer : List Env) (s : Shared) (H : Hp) (vs : List V) (Q : VK) (E : XK), Room k (A.deeper (envOfC x (defScope st) s.heap.objs.size f cdv)) → sp vs H Q E →
      ∃ t, PSs (cxOf CX0 P w K mg base N x (defScope st) f cdv A outer s H E).nox (defBody st) t ∧ t { nx := fun _ H' => Q .non H', rt := Q } (start N vs) H) : Def P w K mg base (k + 1) x ps sp := by
  obtain ⟨f, fd, h1, F, b⟩ := R.ex
  exact ⟨f, fd, h1, F.kp, F.lk, .all b, F.ok S len (fun cdv => hbody f cdv)⟩
theorem Def.at {P : Program} {w : World} {K : PySem.W.Frag} {mg : Str → Option Value} {base : Heap} {k : Nat} {x : Str} {ps : List Str} {sp : Sp} {f : Addr} {fd : FuncData} (D : Def P w K mg base k x ps sp) (h : mg x = some (.ref f))
    (l : ∃ oc od osl, K.lookup f = some ⟨oc, od, .func fd, osl⟩) : FnOk P w K mg base CX0 k f fd ps sp := by
  obtain ⟨f', fd', h', _, ⟨oc', od', osl', l'⟩, _, F⟩ := D.ex
  obtain ⟨oc, od, osl, l⟩ := l
  cases h.symm.trans h'
  have e := l.symm.trans l'
  simp only [Option.some.injEq, Obj.mk.injEq, Data.func.injEq] at e
  rw [e.2.2.1]
  exact F
section
variable {K : PySem.W.Frag} {w : World} {mg : Str → Option Value} {h : Heap} {x : Str}
theorem str_mk {i : Str} {t : Tok} (X : K.In h) (G : h.Ns mainGlobals mg) (a : PySem.W.nsIn K mainGlobals x = some (some (.str i t))) : ∃ t, mg x = some (.str i t) := ⟨_, PySem.W.mg_of X G a⟩
end
end L2

set_option Elab.async false
set_option linter.all false
set_option maxRecDepth 100000
set_option maxHeartbeats 4000000
namespace L2
open PySem PySem.Spec PyProof.Rows

theorem same_upd {H H' : Hp} {p : Addr} {o : HO} (e : Same H H') (h : H p = none) : Same H (upd H' p o) := fun b u q => by
  rw [upd_ne (ne_of_none q h)]
  exact e b u q
theorem same_new {H : Hp} {p : Addr} {o : HO} (h : H p = none) : Same H (upd H p o) := same_upd (Same.refl H) h
section
variable {cap : List (Option Nat)} {g : TG} {tc : TT} {te : TE} {Q : Addr → Hp → Prop} {σ : St} {H : Hp}
theorem gath_of {J : It} {n : Nat} {item : Nat → V → Prop} (Pv : Nat → List V → St → Hp → Prop) (hn : n ≤ 1000000) (h0 : Pv 0 [] (capt cap σ) H) (hlen : ∀ i ys σ' H', Pv i ys σ' H' → ys.length ≤ i)
    (hgo : ∀ i ys σ' H', i < n → Pv i ys σ' H' → J.go i H') (hyld : ∀ i ys σ' H' x H2, i < n → Pv i ys σ' H' → J.yld i H' x H2 → item i x ∧ H2 = H') (hstop : ∀ ys σ' H', Pv n ys σ' H' → J.stop n H')
    (hs : ∀ i x ys σ' H', i < n → item i x → Pv i ys σ' H' → g x σ' H' fun σ3 H3 => tc σ3 H3 fun b H4 => if b = true then te σ3 H4 fun y H5 => Pv (i + 1) (ys ++ [y]) σ3 H5 else Pv (i + 1) ys σ3 H4)
    (hd : ∀ ys σ' H', Pv n ys σ' H' → ∀ D, H' D = none → Q D (upd H' D (.lst ys))) : Gath J cap g tc te Q σ H := by
  have big : (1000000 : Nat) < sizeLine := by rw [sizeLine_eq]; decide
  refine ⟨fun i m ys σ' H' => m = n - i ∧ i ≤ n ∧ Pv i ys σ' H', ⟨n, by simp, Nat.zero_le _, h0⟩, ?_⟩
  rintro i m ys σ' H' ⟨rfl, hi, p⟩
  have hl := hlen i ys σ' H' p
  by_cases hlt : i < n
  · refine .inr ⟨hgo i ys σ' H' hlt p, by omega, Pv (i + 1), fun ys2 σ2 H2 p' => ⟨n - (i + 1), by omega, rfl, hlt, p'⟩, fun x H2 y => ?_⟩
    obtain ⟨h1, h2⟩ := hyld i ys σ' H' x H2 hlt p y
    subst h2
    exact hs i x ys σ' _ hlt h1 p
  · have e : i = n := by omega
    subst e
    exact .inl ⟨hstop ys σ' H' p, by omega, hd ys σ' H' p⟩
theorem gath_range {lo : Int} {n : Nat} (Pv : Nat → List V → St → Hp → Prop) (hn : n ≤ 1000000) (h0 : Pv 0 [] (capt cap σ) H) (hlen : ∀ i ys σ' H', Pv i ys σ' H' → ys.length ≤ i)
    (hs : ∀ i ys σ' H', i < n → Pv i ys σ' H' → g (.int (lo + i)) σ' H' fun σ3 H3 => tc σ3 H3 fun b H4 => if b = true then te σ3 H4 fun y H5 => Pv (i + 1) (ys ++ [y]) σ3 H5 else Pv (i + 1) ys σ3 H4)
    (hd : ∀ ys σ' H', Pv n ys σ' H' → ∀ D, H' D = none → Q D (upd H' D (.lst ys))) : Gath (Itr lo n) cap g tc te Q σ H :=
  gath_of (item := fun i x => x = .int (lo + i)) Pv hn h0 hlen (fun i ys σ' H' hi _ => hi) (fun i ys σ' H' x H2 _ _ y => ⟨y.2, y.1⟩) (fun _ _ _ _ => Nat.le_refl n) (fun i x ys σ' H' hi e p => by subst e; exact hs i ys σ' H' hi p) hd
theorem gath_list {K : PySem.W.Frag} {a : Addr} {xs : List V} (Pv : Nat → List V → St → Hp → Prop) (hn : xs.length ≤ 1000000) (h0 : Pv 0 [] (capt cap σ) H) (hlen : ∀ i ys σ' H', Pv i ys σ' H' → ys.length ≤ i)
    (hl : ∀ i ys σ' H', Pv i ys σ' H' → SqL K H' a xs)
    (hs : ∀ i x ys σ' H', xs[i]? = some x → Pv i ys σ' H' → g x σ' H' fun σ3 H3 => tc σ3 H3 fun b H4 => if b = true then te σ3 H4 fun y H5 => Pv (i + 1) (ys ++ [y]) σ3 H5 else Pv (i + 1) ys σ3 H4)
    (hd : ∀ ys σ' H', Pv xs.length ys σ' H' → ∀ D, H' D = none → Q D (upd H' D (.lst ys))) : Gath (Itl K a) cap g tc te Q σ H :=
  gath_of (item := fun i x => xs[i]? = some x) Pv hn h0 hlen (fun i ys σ' H' hi p => ⟨xs, xs[i], hl i ys σ' H' p, by simp [hi]⟩) (fun i ys σ' H' x H2 _ p y => ⟨y.2 xs (hl i ys σ' H' p), y.1⟩)
    (fun ys σ' H' p => ⟨xs, hl _ ys σ' H' p, Nat.le_refl _⟩) (fun i x ys σ' H' hi e p => hs i x ys σ' H' e p) hd
end
end L2

set_option Elab.async false
set_option linter.all false
set_option maxRecDepth 100000
set_option maxHeartbeats 4000000
namespace L2
open PySem PySem.Spec PyProof.Rows
@[irreducible] def Irr (p : Prop) : Prop := p
theorem Irr.mk {p : Prop} (h : p) : Irr p := by unfold Irr; exact h
theorem Irr.out {p : Prop} (h : Irr p) : p := by unfold Irr at h; exact h
abbrev JE (X : Cx) (e : Expr) (t : TE) : Prop := Irr (PE X e t)
abbrev JT (X : Cx) (e : Expr) (t : TT) : Prop := Irr (PT X e t)
abbrev JW (X : Cx) (e : Expr) (t : TT) : Prop := Irr (PW X e t)
abbrev JA (X : Cx) (es : List Expr) (t : TA) : Prop := Irr (PA X es t)
abbrev JO (X : Cx) (e : Option Expr) (t : TO) : Prop := Irr (PO X e t)
abbrev JS (X : Cx) (st : Stmt) (t : TS) : Prop := Irr (PS X st t)
abbrev JSs (X : Cx) (st : List Stmt) (t : TS) : Prop := Irr (PSs X st t)
abbrev JG (X : Cx) (e : Expr) (t : TG) : Prop := Irr (PG X e t)
abbrev JGs (X : Cx) (e : List Expr) (t : TGs) : Prop := Irr (PGs X e t)
abbrev JI (X : Cx) (tg it : Expr) (t : TI) : Prop := Irr (PI X tg it t)
section
variable {X : Cx} {a b c e f k o v tg it : Expr} {es : List Expr} {ta tb tc te td ty tx tk tv : TE} {tA tB' : TT} {t : TA} {u u' : TS} {pos pos' p p2 apos cpos spos : Pos} {st : Stmt} {sts sts' : List Stmt} {K : PySem.W.Frag} {w : World}

theorem o_add (hK : X.K = K := by rfl) : Irr (OpR X (binaryOp .Add) (gAdd K)) := .mk (og_add hK)
theorem o_sub : Irr (OpR X (binaryOp .Sub) gMinus) := .mk og_sub
theorem o_mul : Irr (OpR X (binaryOp .Mult) gMul) := .mk og_mul
theorem o_div : Irr (OpR X (binaryOp .FloorDiv) gDiv) := .mk og_div
theorem o_mod : Irr (OpR X (binaryOp .Mod) gMod) := .mk og_mod
theorem o_iadd : Irr (PIp X .Add gIadd) := .mk og_iadd
theorem o_eq (hu : X.A.units + 64 < cLine) (hK : X.K = K := by rfl) : Irr (OpR X (compareOp .Eq) (gEq K false)) := .mk (og_eq hu hK)
theorem o_ne (hu : X.A.units + 64 < cLine) (hK : X.K = K := by rfl) : Irr (OpR X (compareOp .NotEq) (gEq K true)) := .mk (og_ne hu hK)
theorem o_lt : Irr (OpR X (compareOp .Lt) gLt) := .mk og_lt
theorem o_le : Irr (OpR X (compareOp .LtE) gLe) := .mk og_le
theorem o_gt : Irr (OpR X (compareOp .Gt) gGt) := .mk og_gt
theorem o_ge : Irr (OpR X (compareOp .GtE) gGe) := .mk og_ge
theorem o_in (hK : X.K = K := by rfl) : Irr (OpR X (compareOp .In) (gIn K false)) := .mk (og_in hK)
theorem o_notin (hK : X.K = K := by rfl) : Irr (OpR X (compareOp .NotIn) (gIn K true)) := .mk (og_notin hK)
theorem o_is : Irr (OpR X (compareOp .Is) (gIs false)) := .mk og_is
theorem o_ix (hu : X.A.units + 64 < cLine) (hK : X.K = K := by rfl) (hw : X.w = w := by rfl) : Irr (IxR X (gIx K w)) := .mk (og_ix hu hK hw)
theorem c_len (hK : X.K = K := by rfl) : Irr (CallR X (.builtin "len") (gLen K)) := .mk (cg_len hK)
theorem c_max (hc : X.calm = true) : Irr (CallR X (.builtin "max") gMax) := .mk (cg_max hc)
theorem c_min (hc : X.calm = true) : Irr (CallR X (.builtin "min") gMin) := .mk (cg_min hc)
theorem c_list (hK : X.K = K := by rfl) : Irr (CallR X (.type "list") (gList K)) := .mk (cg_list hK)
theorem m_join (hK : X.K = K := by rfl) : Irr (MtR X "str.join" (gJoin K)) := .mk (mg_join hK)
theorem m_append : Irr (MtR X "list.append" gAppend) := .mk mg_append
theorem jn (i : Nat) {x : Str} (hN : X.N[i]? = some x := by rfl) (hv : Vis X.env.scope x := by first | exact Or.inl rfl | exact Or.inr (Or.inl rfl) | exact Or.inr (Or.inr rfl)) (hd : (x == ("__debug__" : Str)) = false := by decide)
    (hcd : (x == ("__classdict__" : Str)) = false := by decide) : JE X (.Name x pos) (mVar i) := .mk (pn i hN hv hd hcd)
theorem j_int {i : Int} {j : Nat} : JE X (.Constant (.int i) j pos) (tC (.int i)) := .mk pe_int
theorem j_bl {b : Bool} {j : Nat} : JE X (.Constant (.bool b) j pos) (tC (.bl b)) := .mk pe_bl
theorem j_non {j : Nat} : JE X (.Constant .none j pos) (tC .non) := .mk pe_non
theorem j_str {x : Str} {j : Nat} : JE X (.Constant (.str x) j pos) (tC (.str x)) := .mk pe_str
theorem j_glob {x : Str} {v : V} {u : Value} (hg : Gl X x) (hm : X.mg x = some u) (r : RelV v u) (hd : (x == ("__debug__" : Str)) = false := by decide) : JE X (.Name x pos) (tC v) := .mk (pe_glob hg hm r hd)
theorem j_bltn {x : Str} {v : V} {u : Value} (hg : Gl X x) (hm : X.mg x = none) (hv : bootBuiltins x = some u) (r : RelV v u) (hn : x ≠ "__name__" := by decide) (hd : (x == ("__debug__" : Str)) = false := by decide) : JE X (.Name x pos) (tC v) := .mk (pe_bltn hg hm hv r hn hd)
theorem j_op {op : Operator} {r : R2} (ho : Irr (OpR X (binaryOp op) r)) (ha : JE X a ta) (hb : JE X b tb) : JE X (.BinOp a op b pos) (tOp r ta tb) := .mk (pe_op ho.out ha.out hb.out)
theorem j_cmp {op : CmpOp} {r : R2} (ho : Irr (OpR X (compareOp op) r)) (ha : JE X a ta) (hb : JE X b tb) (hm : behindInMarks op b = false := by first | exact nomark _ | rfl) : JE X (.Compare a [op] [b] pos) (tOp r ta tb) := .mk (pe_cmpR ho.out ha.out hb.out hm)
theorem j_and (ha : JE X a ta) (hb : JE X (.BoolOp .And (b :: es) pos) tb) : JE X (.BoolOp .And (a :: b :: es) pos) (mAndV ta tb) := .mk (pe_andM ha.out hb.out)
theorem j_one {op : BoolOp} (h : JE X a ta) : JE X (.BoolOp op [a] pos) ta := .mk (pe_one h.out)
theorem j_ife (hc : JT X c tA) (ha : JE X a ta) (hb : JE X b tb) : JE X (.IfExp c a b pos) (tIf tA ta tb) := .mk (pe_ifExp hc.out ha.out hb.out)
theorem ja_nil : JA X [] tNil := .mk pa_nil
theorem ja_cons (ha : JE X e te) (hr : JA X es t) (h : noStar e = true := by rfl) : JA X (e :: es) (tCons te t) := .mk (pa_consM ha.out hr.out h)
theorem j_tup {x1 : Nat} (h : JA X es t) : JE X (.Tuple es x1 pos) (tTup t) := .mk (pe_tup h.out)
theorem j_lst (h : JA X es t) : JE X (.List es pos) (tLst t) := .mk (pe_lst h.out)
theorem jo_none : JO X none tNoPart := .mk po_none
theorem jo_some (h : JE X e te) : JO X (some e) (mPart te) := .mk (po_someM h.out)
theorem j_slice {r : V → Option Int → Option Int → Hp → VK → Prop} {lo hi : Option Expr} {tl th : TO} (hr : Irr (SlR X r)) (he : JE X e te) (hl : JO X lo tl) (hu : JO X hi th) : JE X (.Subscript e (.Slice lo hi none p2) pos) (tSl r te tl th) := .mk (pe_slice hr.out he.out hl.out hu.out)
theorem j_ix {r : R2} (hr : Irr (IxR X r)) (ha : JE X a ta) (hb : JE X b tb) (hs : PlainIx b := by exact fun _ _ => rfl) : JE X (.Subscript a b pos) (tOp r ta tb) := .mk (pe_ix hr.out ha.out hb.out hs)
theorem j_def {k : Nat} {x : Str} {ps : List Str} {sp : Sp} (D : Def X.prog X.w X.K X.mg X.base k x ps sp) (hr : Room k X.A) (hg : Gl X x) (ha : JA X (e :: es) t) (hdb : (x == ("__debug__" : Str)) = false := by decide)
    (hst : noStars (e :: es) = true := by rfl) : JE X (.Call (.Name x p) (e :: es) [] pos) (fun σ H Q => t σ H fun vs H1 => sp vs H1 Q E0) := .mk (pe_def D hr hg ha.out hdb hst)
theorem j_callB {x : Str} {id : String} {r : List V → Hp → VK → Prop} (hc : Irr (CallR X (.builtin id) r)) (hg : Gl X x) (hm : X.mg x = none) (hv : bootBuiltins x = some (.builtin id)) (ha : JA X (e :: es) t) (hn : x ≠ "__name__" := by decide) (hdb : (x == ("__debug__" : Str)) = false := by decide)
    (h : noStars (e :: es) = true := by rfl) : JE X (.Call (.Name x p) (e :: es) [] pos) (tCB r t) := .mk (pe_callBM hc.out hg hm hv ha.out hn hdb h)
theorem j_callTy {x : Str} {T : String} {r : List V → Hp → VK → Prop} (hc : Irr (CallR X (.type T) r)) (hg : Gl X x) (hm : X.mg x = none) (hv : bootBuiltins x = some (.type T)) (ha : JA X (e :: es) t) (hn : x ≠ "__name__" := by decide) (hdb : (x == ("__debug__" : Str)) = false := by decide)
    (h : noStars (e :: es) = true := by rfl) : JE X (.Call (.Name x p) (e :: es) [] pos) (tCB r t) := .mk (pe_callTyM hc.out hg hm hv ha.out hn hdb h)
theorem j_bm {name : Str} {T id : String} {r : V → List V → Hp → VK → Prop} {to : TE} (pa : PlainAttrs T) (slot : Slot T name id) (hty : typeOf (.builtin id) = pure (.type "method_descriptor")) (hm : Irr (MtR X id r)) (ho : JE X o to) (ha : JA X (e :: es) t) (hK : X.K = K := by rfl)
    (hsup : notSuper o = true := by rfl) (h : noStars (e :: es) = true := by rfl) (h30 : (e :: es).length < 30 := by decide) (hline : (apos.endLine == cpos.line) = true := by rfl) :
    JE X (.Call (.Attribute o name apos) (e :: es) [] cpos) (tBM K T r to t) := .mk (pe_bmK pa slot hty hm.out ho.out ha.out hK hsup h h30 hline)
theorem jt_cmp {op : CmpOp} {r : R2} (ho : Irr (OpR X (compareOp op) r)) (ha : JE X a ta) (hb : JE X b tb) (hm : behindInMarks op b = false := by first | exact nomark _ | rfl) : JT X (.Compare a [op] [b] pos) (mTest (tOp r ta tb)) := .mk (pt_cmpM ho.out ha.out hb.out hm)
theorem jt_val (h : JE X e te) (he : ∀ whole, isTrue e X.env whole = (do let v ← whole; standAt e.pos; holding [v] (truthy v)) := by intro _; rfl) : JT X e (mTest te) := .mk (pt_valM h.out he)
theorem jt_not (ha : JT X a tA) : JT X (.UnaryOp .Not a pos) (tNot tA) := .mk (pt_not ha.out)
theorem jw_and1 (ha : JT X a tA) : JW X (.BoolOp .And [a] pos) tA := .mk (pw_and1 ha.out)
theorem jw_or1 (ha : JT X a tA) : JW X (.BoolOp .Or [a] pos) tA := .mk (pw_or1 ha.out)
theorem jw_and (ha : JT X a tA) (hb : JW X (.BoolOp .And (b :: es) pos) tB') : JW X (.BoolOp .And (a :: b :: es) pos) (tAnd tA tB') := .mk (pw_and ha.out hb.out)
theorem jw_or (ha : JT X a tA) (hb : JW X (.BoolOp .Or (b :: es) pos) tB') : JW X (.BoolOp .Or (a :: b :: es) pos) (tOr tA tB') := .mk (pw_or ha.out hb.out)
theorem jw_t (h : JW X e tA) : JT X e tA := .mk h.out.pt

theorem ji_any (h : JE X e te) (hK : X.K = K := by rfl) : JI X tg e (iAny K te) := .mk (pi_any h.out hK)
theorem ji_rng1 (hg : Gl X "range") (hm : X.mg "range" = none) (ha : JA X [a] t) (h : noStar a = true := by rfl) : JI X tg (.Call (.Name "range" p) [a] [] pos) (mRng1 t) := .mk (pi_rng1 hg hm ha.out (starEach_cons h))
theorem jg_name {i : Nat} {x : Str} (hN : X.N.Nodup) (hi : X.N[i]? = some x) (hx : Loc X.env.scope x) (hf : X.fn x = true ∨ X.env.scope.names.lookup x = some .local := by first | exact .inl rfl | exact .inr rfl | assumption) : JG X (.Name x pos) (gName i) := .mk (pg_name hN hi hx hf)
theorem jgs_nil : JGs X [] gNil := .mk pgs_nil
theorem jgs_cons {g : TG} {gs : TGs} (h1 : JG X e g) (h2 : JGs X es gs) (hs : (assignEach (e :: es) X.env).map (·.2) = assign e X.env :: (assignEach es X.env).map (·.2) := by rfl) : JGs X (e :: es) (gCons g gs) := .mk (pgs_cons h1.out h2.out hs)
theorem jg_tup {k : Nat} {gs : TGs} {n : Nat} (hc : X.calm = true) (h : JGs X es gs) (hK : X.K = K := by rfl) (hn : (assignEach es X.env).length = n := by rfl) (hst : (assignEach es X.env).findIdx? (·.1) = none := by rfl) : JG X (.Tuple es k pos) (gTup K n gs) := .mk (pg_tupK hc h.out hK hn hst)
abbrev JTs (X : Cx) (ifs : List Expr) (t : TT) : Prop := Irr (PTs X ifs t)
theorem jts_nil : JTs X [] tTrue := .mk pts_nil
theorem jts_one (h : JT X c tA) : JTs X [c] tA := .mk (pts_one h.out)
theorem j_comp {N : List Str} {cap : List (Option Nat)} {scope : Scope} {ifs : List Expr} {wi : TI} {g : TG} (hc : X.calm = true) (S : CompScope X N cap scope) (hi : JI X tg it wi)
    (hg : ∀ C s₀ H₀ ex, JG (cxComp X N scope C s₀ H₀ ex) tg g) (ht : ∀ C s₀ H₀ ex, JTs (cxComp X N scope C s₀ H₀ ex) ifs tA) (he : ∀ C s₀ H₀ ex, JE (cxComp X N scope C s₀ H₀ ex) e te)
    (hs : ∀ x, foldedSetIterable it X.env x = pure x := by intro _; rfl) :
    JE X (.ListComp e [⟨tg, it, ifs, 0⟩] scope pos) (fun σ H Q => tComp cap wi g tA te (fun D H' => Q (.ref D) H') σ H) :=
  .mk (pe_comp hc S hi.out (fun C s₀ H₀ ex => (hg C s₀ H₀ ex).out) (fun C s₀ H₀ ex => (ht C s₀ H₀ ex).out) (fun C s₀ H₀ ex => (he C s₀ H₀ ex).out) hs)
theorem js_comp {N : List Str} {cap : List (Option Nat)} {scope : Scope} {ifs : List Expr} {wi : TI} {g : TG} {i : Nat} {x : Str} (hc : X.calm = true) (S : CompScope X N cap scope) (hi : JI X tg it wi)
    (hg : ∀ C s₀ H₀ ex, JG (cxComp X N scope C s₀ H₀ ex) tg g) (ht : ∀ C s₀ H₀ ex, JTs (cxComp X N scope C s₀ H₀ ex) ifs tA) (he : ∀ C s₀ H₀ ex, JE (cxComp X N scope C s₀ H₀ ex) e te)
    (hN : X.N.Nodup) (hix : X.N[i]? = some x) (hx : X.env.scope.names.lookup x = some .local) (hsw : swapsWith (.ListComp e [⟨tg, it, ifs, 0⟩] scope pos) (some (.Name x pos')) spos.line X.env = pure true := by rfl)
    (hs : ∀ x, foldedSetIterable it X.env x = pure x := by intro _; rfl) :
    JS X (.Assign [.Name x pos'] (.ListComp e [⟨tg, it, ifs, 0⟩] scope pos) spos) (fun D σ H => tComp cap wi g tA te (fun d H' => D.nx (σ.set i (some (.ref d))) H') σ H) :=
  .mk (ps_comp hc S hi.out (fun C s₀ H₀ ex => (hg C s₀ H₀ ex).out) (fun C s₀ H₀ ex => (ht C s₀ H₀ ex).out) (fun C s₀ H₀ ex => (he C s₀ H₀ ex).out) hN hix hx hsw hs)

theorem jss_nil : JSs X [] tNext := .mk pss_nil
theorem jss_cons (h1 : JS X st u) (h2 : JSs X sts u') : JSs X (st :: sts) (tSeq u u') := .mk (pss_cons h1.out h2.out)
theorem jss_one (h1 : JS X st u) : JSs X [st] u := .mk (pss_one h1.out)
theorem js_set {i : Nat} {x : Str} (hN : X.N.Nodup) (hi : X.N[i]? = some x) (hx : Loc X.env.scope x) (he : JE X e te) (hs : swapsWith e (some (.Name x pos')) pos.line X.env = pure false := by rfl) (hf : X.fn x = true ∨ X.env.scope.names.lookup x = some .local := by first | exact .inl rfl | exact .inr rfl | assumption) :
    JS X (.Assign [.Name x pos'] e pos) (tAsg te (gName i)) := .mk (ps_set hN hi hx he.out hs hf)
theorem js_asg {g : TG} (he : JE X e te) (hg : JG X tg g) (hs : swapsWithSole [tg] e pos.line X.env = pure false := by rfl) (hw : swappedStores [tg] e X.env = pure none := by rfl)
    (h1 : (assignEach [tg] X.env).map (·.2) = [assign tg X.env] := by rfl) : JS X (.Assign [tg] e pos) (tAsg te g) := .mk (ps_asg he.out hg.out hs hw h1)
theorem js_aug {i : Nat} {x : Str} {op : Operator} {ti : TIp} (hN : X.N.Nodup) (hi : X.N[i]? = some x) (hx : Loc X.env.scope x) (he : JE X e te) (ho : Irr (PIp X op ti)) (hf : X.fn x = true ∨ X.env.scope.names.lookup x = some .local := by first | exact .inl rfl | exact .inr rfl | assumption) :
    JS X (.AugAssign (.Name x pos') op e pos) (mAug i te ti) := .mk (ps_augM hN hi hx he.out ho.out hf)
theorem js_if (hc : JT X c tA) (ha : JSs X sts u) (hb : JSs X sts' u') : JS X (.If c sts sts' pos) (tIfS tA u u') := .mk (ps_if hc.out ha.out hb.out)
theorem js_ret (he : JE X e te) : JS X (.Return (some e) pos) (tRet te) := .mk (ps_ret he.out)
theorem js_expr (he : JE X e te) (hs : swapsWith e none pos.line X.env = pure false := by rfl) : JS X (.Expr e pos) (tDrop te) := .mk (ps_expr he.out hs)
theorem js_never : JS X st tNever := .mk ps_never
theorem js_break : JS X (.Break pos) tBreak := .mk ps_break
theorem js_while (hp : PassesOwn (model X.prog X.w) X.A X.env X.xe) (hc : JT X c tA) (hb : JSs X sts u) : JS X (.While c sts [] pos) (tWhile tA u) := .mk (ps_while hp hc.out hb.out)
theorem js_for {wi : TI} {g : TG} (hp : PassesOwn (model X.prog X.w) X.A X.env X.xe) (hc : X.calm = true) (hi : JI X tg it wi) (hg : JG X tg g) (hb : JSs X sts u)
    (hs : ∀ x, foldedSetIterable it X.env x = pure x := by intro _; rfl) : JS X (.For tg it sts [] pos) (tFor wi g u) := .mk (ps_for hp hc hi.out hg.out hb.out hs)
end
theorem Raw.defJ {P : Program} {w : World} {K : PySem.W.Frag} {mg : Str → Option Value} {base : Heap} {x : Str} {st : Stmt} {N ps : List Str} {k : Nat} {sp : Sp} (R : Raw K mg x st ps) (S : FnScope N ps (defScope st)) (len : ∀ vs H Q E, sp vs H Q E → vs.length = ps.length)
    (hbody : ∀ (f : Addr) (cdv : Value) (A : Around) (outer : List Env) (s : Shared) (H : Hp) (vs : List V) (Q : VK) (E : XK), Room k (A.deeper (envOfC x (defScope st) s.heap.objs.size f cdv)) → sp vs H Q E →
      ∃ t, JSs (cxOf CX0 P w K mg base N x (defScope st) f cdv A outer s H E).nox (defBody st) t ∧ t { nx := fun _ H' => Q .non H', rt := Q } (start N vs) H) : Def P w K mg base (k + 1) x ps sp :=
  R.def S len fun f cdv A outer s H vs Q E hr h => let ⟨t, h1, h2⟩ := hbody f cdv A outer s H vs Q E hr h; ⟨t, h1.out, h2⟩
end L2

namespace L2
open PySem PySem.Spec PyProof.Rows
inductive TyD (K : PySem.W.Frag) (H : Hp) : V → String → Prop where
  | non : TyD K H .non "NoneType"
  | bl (x : Bool) : TyD K H (.bl x) "bool"
  | int (i : Int) : TyD K H (.int i) "int"
  | str (x : Str) : TyD K H (.str x) "str"
  | list {a : Addr} {xs : List V} (e : SqL K H a xs) : TyD K H (.ref a) "list"
  | tuple {a : Addr} {xs : List V} (e : SqT K H a xs) : TyD K H (.ref a) "tuple"
end L2

set_option Elab.async false
set_option linter.all false
set_option maxRecDepth 100000
set_option maxHeartbeats 4000000
namespace L2
open PySem PySem.Spec PyProof.Rows

abbrev anyHO : HO := .ext fun _ => True
def Kn (H : Hp) (a : Addr) (o : Obj) : Prop := H a = some (.frz o anyHO)
theorem Kn.get {P : Program} {w : World} {H : Hp} {h : Heap} {a : Addr} {o : Obj} (k : Kn H a o) (x : HOk P w H h) : h.get? a = some o := (x a _ k).1
theorem ok_any {P : Program} {w : World} {H : Hp} {h : Heap} {a : Addr} {o : Obj} (e : h.get? a = some o) : ObjOk P w H h a (.frz o anyHO) := ⟨e, True.intro, ⟨o, e⟩, fun _ _ _ _ => True.intro⟩

def rem (cs : List Addr) (H : Hp) : Hp := fun b => if b ∈ cs then none else H b
def back (cs : List Addr) (H H' : Hp) : Hp := fun b => if b ∈ cs then H b else H' b
theorem rem_in {cs : List Addr} {H : Hp} {b : Addr} (h : b ∈ cs) : rem cs H b = none := if_pos h
theorem rem_out {cs : List Addr} {H : Hp} {b : Addr} (h : b ∉ cs) : rem cs H b = H b := if_neg h
theorem back_in {cs : List Addr} {H H' : Hp} {b : Addr} (h : b ∈ cs) : back cs H H' b = H b := if_pos h
theorem back_out {cs : List Addr} {H H' : Hp} {b : Addr} (h : b ∉ cs) : back cs H H' b = H' b := if_neg h
theorem back_rem {cs : List Addr} {H : Hp} : back cs H (rem cs H) = H := by
  funext b
  unfold back rem
  split <;> rfl
section
variable {P : Program} {w : World} {H H' : Hp} {h h' : Heap} {cs fs : List Addr}
theorem kn_not {c : Addr} {u : HO} (k : ∀ c ∈ cs, ∃ o, Kn H c o) (e : H c = some u) (n : ∀ o, u ≠ .frz o anyHO) : c ∉ cs := fun m => by
  obtain ⟨o, q⟩ := k c m
  unfold Kn at q
  rw [e] at q
  exact n o (Option.some.inj q)
theorem kn_none {c : Addr} (k : ∀ c ∈ cs, ∃ o, Kn H c o) (e : H c = none) : c ∉ cs := fun m => by
  obtain ⟨o, q⟩ := k c m
  unfold Kn at q
  rw [e] at q
  cases q
theorem HOk.rem (x : HOk P w H h) (k : ∀ c ∈ cs, ∃ o, Kn H c o) : HOk P w (rem cs H) h := fun b u e => by
  have nb : b ∉ cs := fun m => by rw [rem_in m] at e; cases e
  rw [rem_out nb] at e
  refine (x b u e).stay (fun c v _ q => q) (fun c q => ?_) fun c xs q => ?_
  · rw [rem_out (kn_not k q fun o z => by cases z)]; exact q
  · rw [rem_out (kn_not k q fun o z => by cases z)]; exact q
theorem Un.back (u : Un fs [] (rem cs H) H' h h') (k : ∀ c ∈ cs, ∃ o, Kn H c o) : Un fs [] H (back cs H H') h h' where
  keep := fun b o q n hb hx => u.keep b o q (by rw [rem_out (kn_none k n)]; exact n) hb hx
  slot := fun b o q n hb hx => u.slot b o q (by rw [rem_out (kn_none k n)]; exact n) hb hx
  free := fun b o q n hx => by
    rw [back_out (kn_none k n)]
    exact u.free b o q (by rw [rem_out (kn_none k n)]; exact n) hx
  there := u.there
  tups := fun b xs q => by
    have nb := kn_not k q fun o z => by cases z
    rw [back_out nb]
    exact u.tups b xs (by rw [rem_out nb]; exact q)
  frzs := fun b o z q => by
    by_cases m : b ∈ cs
    · rw [back_in m]; exact q
    · rw [back_out m]
      exact u.frzs b o z (by rw [rem_out m]; exact q)
  tbls := fun b ps q => by
    have nb := kn_not k q fun o z => by cases z
    rw [back_out nb]
    exact u.tbls b ps (by rw [rem_out nb]; exact q)
theorem HOk.back (x' : HOk P w H' h') (u : Un fs [] (L2.rem cs H) H' h h') (k : ∀ c ∈ cs, ∃ o, Kn H c o) (x : HOk P w H h) (hf : ∀ c ∈ cs, c ∉ fs) : HOk P w (L2.back cs H H') h' := fun b v e => by
  by_cases m : b ∈ cs
  · rw [back_in m] at e
    obtain ⟨o, q⟩ := k b m
    have q' : H b = some (.frz o anyHO) := q
    rw [q'] at e
    cases e
    exact ok_any (u.keep b o (Kn.get q x) (rem_in m) (hf b m) (by simp))
  · rw [back_out m] at e
    have gone : ∀ c, c ∈ cs → H' c = none := fun c mc => by
      obtain ⟨o, q⟩ := k c mc
      exact u.free c o (Kn.get q x) (rem_in mc) (by simp)
    refine (x' b v e).stay (fun c v _ q => q) (fun c q => ?_) fun c xs q => ?_
    · rw [back_out fun mc => by rw [gone c mc] at q; cases q]; exact q
    · rw [back_out fun mc => by rw [gone c mc] at q; cases q]; exact q
end

structure CloScope (ps ls fr : List Str) (sc : Scope) : Prop where
  kind : sc.kind = .function
  co : sc.isCoroutine = false
  gen : sc.isGenerator = false
  nd : (ps ++ ls ++ fr).Nodup
  par : ∀ x ∈ ps, sc.names.lookup x = some .local
  nocell : ∀ y ∈ sc.names, y.2 ≠ .cell
  fre : ∀ x ∈ fr, sc.names.lookup x = some .free
  all : ∀ y ∈ sc.names, y.2 = .free → y.1 ∈ fr
structure Made (H : Hp) (f : Addr) (name qual : Str) (st : Stmt) (cl : List (Str × Addr)) : Prop where
  ex : ∃ (doc pm : Value) (c' : Addr) (ctv : Value) (oc : Obj) (vs : Array Value) (t : Tok), Kn H f (PySem.W.fnMade name qual (defArgs st) (defBody st) (defScope st) cl doc pm c' ctv) ∧ Kn H c' oc ∧ oc.data = .fields vs ∧ vs[1]? = some (.str qual t)
structure CloAt (H : Hp) (f : Addr) (name qual : Str) (st : Stmt) (fr : List Str) (cs : List Addr) (ws : List V) : Prop where
  ex : ∃ cl, Made H f name qual st cl ∧ (∀ x c, cl.lookup x = some c → ∃ j : Nat, fr[j]? = some x ∧ cs[j]? = some c) ∧ ∀ (j : Nat) x, fr[j]? = some x → ∃ c, cl.lookup x = some c ∧ cs[j]? = some c
  cells : ∀ (j : Nat) x, ws[j]? = some x → ∃ c o u, cs[j]? = some c ∧ Kn H c o ∧ o.data = .cell (some u) ∧ RelV x u
  l1 : cs.length = fr.length
  l2 : ws.length = fr.length
  nd : cs.Nodup
theorem CloAt.kn {H : Hp} {f : Addr} {name qual : Str} {st : Stmt} {fr : List Str} {cs : List Addr} {ws : List V} (C : CloAt H f name qual st fr cs ws) : ∀ c ∈ cs, ∃ o, Kn H c o := fun c m => by
  obtain ⟨j, hj, e⟩ := List.mem_iff_getElem.mp m
  have hw : j < ws.length := by rw [C.l2, ← C.l1]; exact hj
  obtain ⟨c', o, u, h1, h2, _⟩ := C.cells j ws[j] (List.getElem?_eq_getElem hw)
  rw [List.getElem?_eq_getElem hj, e] at h1
  cases h1
  exact ⟨o, h2⟩
theorem CloAt.same {H H' : Hp} {f : Addr} {name qual : Str} {st : Stmt} {fr : List Str} {cs : List Addr} {ws : List V} (C : CloAt H f name qual st fr cs ws) (h : ∀ b o, Kn H b o → Kn H' b o) : CloAt H' f name qual st fr cs ws := by
  obtain ⟨cl, ⟨doc, pm, c', ctv, oc, vs, t, h1, h2, h3, h4⟩, h5, h6⟩ := C.ex
  refine ⟨⟨cl, ⟨doc, pm, c', ctv, oc, vs, t, h _ _ h1, h _ _ h2, h3, h4⟩, h5, h6⟩, fun j x e => ?_, C.l1, C.l2, C.nd⟩
  obtain ⟨c, o, u, q1, q2, q3, q4⟩ := C.cells j x e
  exact ⟨c, o, u, q1, h _ _ q2, q3, q4⟩

theorem lookup_mem {β : Type} {y : Str} {u : β} : ∀ {l : List (Str × β)}, (l.map (·.1)).Nodup → (y, u) ∈ l → l.lookup y = some u
  | [], _, h => nomatch h
  | (z, v) :: r, nd, h => by
    rw [List.lookup_cons]
    rw [List.map_cons, List.nodup_cons] at nd
    rcases List.mem_cons.mp h with e | e
    · cases e
      rw [beq_self_eq_true]
    · have : (y == z) = false := beq_eq_false_iff_ne.mpr fun q => nd.1 (by rw [← q]; exact List.mem_map_of_mem (f := (·.1)) e)
      rw [this]
      exact lookup_mem nd.2 e
theorem lookup_zipR {y : Str} {u : Value} : ∀ {ps : List Str} {us : List Value} {i : Nat}, ps.Nodup → ps[i]? = some y → us[i]? = some u → (ps.zip us).reverse.lookup y = some u := by
  intro ps us i nd h1 h2
  have mem : (y, u) ∈ ps.zip us := by
    refine List.mem_iff_getElem?.mpr ⟨i, ?_⟩
    rw [List.getElem?_zip_eq_some]
    exact ⟨h1, h2⟩
  have nd2 : (((ps.zip us).reverse).map (·.1)).Nodup := by
    rw [List.map_reverse]
    refine (List.reverse_perm _).nodup_iff.mpr ?_
    have : (ps.zip us).map (·.1) = ps.take us.length := by
      clear h1 h2 mem nd
      induction ps generalizing us with
      | nil => simp
      | cons p r ih =>
        cases us with
        | nil => simp
        | cons v s => simp [ih]
    rw [this]
    exact nd.sublist (List.take_sublist _ _)
  exact lookup_mem nd2 (List.mem_reverse.mpr mem)

def cxClo (P : Program) (w : World) (K : PySem.W.Frag) (mg : Str → Option Value) (base : Heap) (N : List Str) (qual : Str) (scope : Scope) (f : Addr) (cd : Value) (cl : List (Str × Addr)) (A : Around) (outer : List Env) (s : Shared) (H : Hp) : Cx where
  prog := P
  w := w
  K := K
  mg := mg
  base := base
  A := A.deeper (PySem.W.envX qual scope s.heap.objs.size f cd cl)
  N := N
  s₀ := s
  H₀ := H
  env := PySem.W.envX qual scope s.heap.objs.size f cd cl
  outer := outer
  stack := PySem.W.envX qual scope s.heap.objs.size f cd cl :: outer
  ex := []
  calm := true
  fn := fun _ => false
  pn := []
  xe := fun _ _ => False

theorem clo_run {P : Program} {w : World} {K : PySem.W.Frag} {mg : Str → Option Value} {base : Heap} {A : Around} {outer : List Env} {s : Shared} {H : Hp} {us : List Value} {vs : List V} {Q : VK} {E : XK} {k : Nat} {f : Addr} {name qual : Str} {st : Stmt} {ps ls fr : List Str} {cs : List Addr} {ws : List V}
    (hr : Room (k + 1) A) (e0 : Env0 P w K mg base A outer s H) (C : CloAt H f name qual st fr cs ws) (S : CloScope ps ls fr (defScope st))
    (hb : ∀ cl doc pm c' ctv, bindArgs (PySem.W.fnX name qual (defArgs st) (defBody st) (defScope st) cl .none .none doc pm none (.ref c') ctv) ⟨us, []⟩ = pure (ps.zip us)) (hl : vs.length = ps.length) (r : Vals vs us)
    (hbody : ∀ cd cl, Room k (A.deeper (PySem.W.envX qual (defScope st) s.heap.objs.size f cd cl)) → ∃ t, JSs (cxClo P w K mg base (ps ++ ls ++ fr) qual (defScope st) f cd cl A outer s (rem cs H)) (defBody st) t ∧
      t { nx := fun _ H' => Q .non (back cs H H'), rt := fun v H' => Q v (back cs H H') } (vs.map some ++ List.replicate ls.length none ++ ws.map some) (rem cs H)) :
    codeAny (model P w) A (.call (.ref f) ⟨us, []⟩) (CR CX0 outer P w H s Q E) s := by
  have kn := C.kn
  obtain ⟨cl, ⟨doc, pm, c', ctv, oc, vs', t', h1, h2, h3, h4⟩, h5, h6⟩ := C.ex
  have lim : s.heap.NoLimit := e0.mod.nolimit.keeps fun b o e => (e0.bs b o e).1
  have ndP : ps.Nodup := (List.nodup_append.mp (List.nodup_append.mp S.nd).1).1
  have hlu : us.length = ps.length := by rw [← r.length]; exact hl
  refine codeAny_call_def (fd := PySem.W.fnX name qual (defArgs st) (defBody st) (defScope st) cl .none .none doc pm none (.ref c') ctv) (body := defBody st) (binds := ps.zip us) hr.depth (Kn.get h1 e0.hok) rfl lim
    ⟨c', oc, vs', t', rfl, Kn.get h2 e0.hok, h3, h4⟩ rfl (.of_eq (hb cl doc pm c' ctv)) S.nocell (fun x hx => S.par x.1 (List.of_mem_zip (a := x.1) (b := x.2) hx).1) (fun h₁ hns hk₁ => ?_) S.co S.gen S.kind
  obtain ⟨t, ht, hq⟩ := hbody (.ref c') cl (hr.deeper _)
  have fsn : ∀ c ∈ cs, c ∉ frs outer := fun c m z => by
    obtain ⟨o, q⟩ := kn c m
    have := e0.frf c z
    unfold Kn at q
    rw [this] at q
    cases q
  have noX : ∀ b : Addr, b ∉ (cxClo P w K mg base (ps ++ ls ++ fr) qual (defScope st) f (.ref c') cl A outer s (rem cs H)).ex := fun b z => absurd (show b ∈ ([] : List Addr) from z) (by simp)
  have remN : ∀ {b : Addr}, H b = none → rem cs H b = none := fun {b} n => by
    unfold rem
    split
    · rfl
    · exact n
  have cellAt : ∀ x c, cl.lookup x = some c → ∃ u, h₁.IsCell c (some u) := fun x c e => by
    obtain ⟨j, q1, q2⟩ := h5 x c e
    have hj : j < ws.length := by rw [C.l2]; exact (List.getElem?_eq_some_iff.mp q1).1
    obtain ⟨c2, o, u, z1, z2, z3, _⟩ := C.cells j ws[j] (List.getElem?_eq_getElem hj)
    rw [q2] at z1
    cases z1
    exact ⟨u, o, hk₁ _ _ (Kn.get z2 e0.hok), z3⟩
  have I : Inv (cxClo P w K mg base (ps ++ ls ++ fr) qual (defScope st) f (.ref c') cl A outer s (rem cs H)) [] (vs.map some ++ List.replicate ls.length none ++ ws.map some) (rem cs H) { s with heap := h₁, toks := s.toks + (ps.zip us).length } := by
    refine ⟨⟨e0.mod, S.kind, rfl, rfl, Nat.le_refl _, fun y z c q1 q2 => ?_, fun y hy => ?_, fun y c hf _ => absurd (show false = true from hf) Bool.false_ne_true, fun _ => hr.hd, Around.frames_deeper e0.frames, .inr ⟨rfl, rfl⟩, fun b z => absurd z (noX b), fun b o e => ⟨(e0.bs b o e).1, remN (e0.bs b o e).2⟩, e0.bsz, fun b _ _ => noX b, fun b z => absurd z (noX b), e0.funs, fun b hb => remN (e0.frf b hb)⟩,
      rfl, e0.bare, Un.kept hk₁, ⟨_, hns, fun i y v q1 q2 q3 => ?_⟩, fun y c q => ?_, remN (e0.hok.fresh (Nat.le_refl _)), fun y c q => ?_, fun p hp => absurd (show p ∈ ([] : List (Addr × Obj)) from hp) (by simp), (e0.hok.rem kn).kept hk₁, ?_⟩
    · obtain ⟨i, a1, a2⟩ := h5 y c q1
      obtain ⟨j, b1, b2⟩ := h5 z c q2
      obtain ⟨hi, ei⟩ := List.getElem?_eq_some_iff.mp a2
      obtain ⟨hj, ej⟩ := List.getElem?_eq_some_iff.mp b2
      have : i = j := (List.getElem_inj C.nd).mp (ei.trans ej.symm)
      subst this
      rw [a1] at b1
      exact Option.some.inj b1
    · have hy : (defScope st).names.lookup y = some .cell ∨ (defScope st).names.lookup y = some .free := hy
      rcases hy with hy | hy
      · exact absurd rfl (S.nocell _ (PySem.mem_of_lookup hy))
      · obtain ⟨j, hj, e⟩ := List.mem_iff_getElem.mp (S.all _ (PySem.mem_of_lookup hy) rfl)
        obtain ⟨c, q, _⟩ := h6 j y (by rw [List.getElem?_eq_getElem hj]; exact congrArg some e)
        exact ⟨c, q⟩
    · have q1 : (ps ++ ls ++ fr)[i]? = some y := q1
      by_cases hi : i < ps.length
      · have hiv : i < vs.length := by omega
        rw [List.append_assoc, List.getElem?_append_left hi] at q1
        rw [List.append_assoc, List.getElem?_append_left (by simpa using hiv), List.getElem?_map, List.getElem?_eq_getElem hiv] at q2
        have ev : vs[i] = v := by simpa using q2
        obtain ⟨u, hu, rv⟩ := r.get (i := i) (x := v) (by rw [List.getElem?_eq_getElem hiv, ev])
        refine ⟨u, rv, .inl ⟨S.par y (List.mem_of_getElem? q1), ?_⟩⟩
        exact lookup_zipR ndP q1 hu
      · by_cases hi2 : i < ps.length + ls.length
        · rw [List.getElem?_append_left (by simp; omega), List.getElem?_append_right (by simp; omega), List.getElem?_replicate] at q2
          split at q2 <;> cases q2
        · rw [List.getElem?_append_right (by simp; omega)] at q1
          rw [List.getElem?_append_right (by simp; omega), List.getElem?_map] at q2
          have eidx : i - (List.map some vs ++ List.replicate ls.length none).length = i - (ps ++ ls).length := by simp; omega
          rw [eidx] at q2
          cases ew : ws[i - (ps ++ ls).length]? with
          | none => rw [ew] at q2; cases q2
          | some x =>
            rw [ew] at q2
            have : x = v := by simpa using q2
            subst this
            obtain ⟨c, o, u, z1, z2, z3, z4⟩ := C.cells _ x ew
            obtain ⟨c2, y1, y2⟩ := h6 _ y q1
            rw [z1] at y2
            cases y2
            exact ⟨u, z4, .inr ⟨.inr (S.fre y (List.mem_of_getElem? q1)), c, y1, o, hk₁ _ _ (Kn.get z2 e0.hok), z3⟩⟩
    · obtain ⟨u, z⟩ := cellAt y c q
      exact ⟨_, z⟩
    · obtain ⟨j, _, q2⟩ := h5 y c q
      exact rem_in (List.mem_of_getElem? q2)
    · have := C.l2
      show (vs.map some ++ List.replicate ls.length none ++ ws.map some).length = (ps ++ ls ++ fr).length
      simp
      omega
  refine wpAny_mono (ht.out [] _ _ _ _ I hq) (fun fl s' hs => ?_) fun e s' hs => hs.elim
  have fin : ∀ {σ' : St} {H' : Hp} {v : V} {u : Value}, Inv (cxClo P w K mg base (ps ++ ls ++ fr) qual (defScope st) f (.ref c') cl A outer s (rem cs H)) [] σ' H' s' → RelV v u → Q v (back cs H H') → CE outer P w H s Q u s' :=
    fun {σ' H' v u} J rv q => ⟨v, _, J.os, J.bare, J.base.back kn, J.hok.back J.base kn e0.hok fsn, rv, q⟩
  cases fl with
  | ret u =>
    obtain ⟨v, σ', H', J, rv, q⟩ := hs
    exact fin J rv q
  | next =>
    obtain ⟨σ', H', J, q⟩ := hs
    exact fin (v := V.non) (u := Value.none) J rfl q
  | brk =>
    obtain ⟨_, _, _, q⟩ := hs
    exact False.elim q
  | cont =>
    obtain ⟨_, _, _, q⟩ := hs
    exact False.elim q
end L2

set_option Elab.async false
set_option linter.all false
set_option maxRecDepth 100000
set_option maxHeartbeats 4000000
namespace L2
open PySem PySem.Spec PyProof.Rows

structure FnV (P : Program) (w : World) (K : PySem.W.Frag) (mg : Str → Option Value) (base : Heap) (k : Nat) (f : Addr) (sp : Sp) : Prop where
  fn : ∀ vs H Q E, sp vs H Q E → ∃ oc od fd sl, Kn H f ⟨oc, od, .func fd, sl⟩
  run : ∀ (A : Around) (outer : List Env) (s : Shared) (H : Hp) (us : List Value) (vs : List V) (Q : VK) (E : XK), Room k A → Env0 P w K mg base A outer s H → Vals vs us → sp vs H Q E →
    codeAny (model P w) A (.call (.ref f) ⟨us, []⟩) (CR CX0 outer P w H s Q E) s
def mCallV (i : Nat) (sp : Addr → Sp) (t : TA) : TE := fun σ H Q => match σ[i]? with
  | some (some (.ref f)) => t σ H fun vs H1 => sp f vs H1 Q E0
  | _ => False
section
variable {X : Cx} {e : Expr} {es : List Expr} {t : TA} {p pos : Pos}
theorem pe_callV {i : Nat} {x : Str} {k : Nat} {sp : Addr → Sp} (F : ∀ f, FnV X.prog X.w X.K X.mg X.base k f (sp f)) (hr : Room k X.A) (hN : X.N[i]? = some x) (hv : Vis X.env.scope x) (hd : (x == ("__debug__" : Str)) = false) (hcd : (x == ("__classdict__" : Str)) = false) (ha : PA X (e :: es) t)
    (hst : noStars (e :: es) = true) : PE X (.Call (.Name x p) (e :: es) [] pos) (mCallV i sp t) := by
  have h' : noStar e = true ∧ noStars es = true := by simpa [noStars] using hst
  have he := starEach_cons (es := es) (env := X.env) h'.1
  have hpl := back_any (env := X.env) (pos := pos) h'.2
  intro pins s σ H Q I h
  unfold mCallV at h
  split at h
  · rename_i f hf
    refine wpAny_Call_Name_kw ?_
    refine thn (pe_var hN hv hd hcd pins s σ H (fun v H' => v = .ref f ∧ H' = H) I ⟨_, hf, rfl, rfl⟩) fun v s1 ⟨x1, H1, I1, r1, e1, e2⟩ => ?_
    subst e1 e2
    obtain rfl : v = Value.ref f := r1
    have step := thn (ha pos pins s1 σ H1 _ I1 h) (Q' := fun vs s₁ => PySem.W.FnAt f s₁.heap ∧ wpAny (model X.prog X.w) X.A (call (.ref f) ([] ++ vs)) (EP X pins σ Q) X.xe s₁) fun us s2 ⟨vs, H2, I2, r2, q2⟩ => by
      obtain ⟨oc, od, fd, sl, kn⟩ := (F f).fn _ _ _ _ q2
      refine ⟨⟨oc, od, fd, sl, Kn.get kn I2.hok⟩, ?_⟩
      rw [List.nil_append]
      refine wpAny_call (codeAny_mono ((F f).run X.A X.stack s2 H2 us vs Q E0 hr I2.env0 r2 q2) fun r s' hq => ?_)
      cases r with
      | error e => exact hq.elim
      | ok fl =>
        cases fl with
        | ret u => exact I2.after hq
        | next => exact False.elim hq
        | brk => exact False.elim hq
        | cont => exact False.elim hq
    rw [he] at step ⊢
    exact PySem.W.callWith_of (by show ((false || (backTo pos (starEach es X.env)).any (·.1)) || false) = false; rw [hpl]; rfl) PySem.W.keeps_F (Calls.evalArgs_plain step)
  · exact h.elim
theorem j_callV (i : Nat) {x : Str} {k : Nat} {sp : Addr → Sp} (F : ∀ f, FnV X.prog X.w X.K X.mg X.base k f (sp f)) (hr : Room k X.A) (ha : JA X (e :: es) t) (hN : X.N[i]? = some x := by rfl) (hv : Vis X.env.scope x := by first | exact Or.inl rfl | exact Or.inr (Or.inl rfl) | exact Or.inr (Or.inr rfl))
    (hd : (x == ("__debug__" : Str)) = false := by decide) (hcd : (x == ("__classdict__" : Str)) = false := by decide) (hst : noStars (e :: es) = true := by rfl) : JE X (.Call (.Name x p) (e :: es) [] pos) (mCallV i sp t) := .mk (pe_callV F hr hN hv hd hcd ha.out hst)
end

def BMain (mg : Str → Option Value) (base : Heap) : Prop := ∃ bm ob, mg "__builtins__" = some (.ref bm) ∧ bm ≠ builtinsNs ∧ base.get? bm = some ob ∧ ob.cls = .type "module" ∧ ob.dict = some builtinsNs ∧ ob.data = .plain
theorem triples_ok : ∀ l : List (Pos × Addr), TriplesOk (triples l)
  | [] => True.intro
  | (p, c) :: r => triples_ok r
theorem among_some {pos : Pos} {c : Value} : ∀ {l : List (Pos × Addr)}, codeAmong pos (triples l) = some c → ∃ q ∈ l, q.1.line = pos.line ∧ q.1.col = pos.col ∧ c = .ref q.2
  | [], h => by cases h
  | (p, c') :: r, h => by
    have h' : (if (((p.line : Nat) : Int) == ((pos.line : Nat) : Int) && ((p.col : Nat) : Int) == ((pos.col : Nat) : Int)) = true then some (Value.ref c') else codeAmong pos (triples r)) = some c := h
    split at h'
    · rename_i hb
      rw [Bool.and_eq_true, beq_iff_eq, beq_iff_eq] at hb
      exact ⟨(p, c'), List.mem_cons_self, by show p.line = pos.line; omega, by show p.col = pos.col; omega, (Option.some.inj h').symm⟩
    · obtain ⟨q, m, r⟩ := among_some h'
      exact ⟨q, List.mem_cons_of_mem _ m, r⟩
structure TabOk (H : Hp) (Pt : Addr) (qs : List (Pos × Str)) : Prop where
  ex : ∃ l : List (Pos × Addr), H Pt = some (.tbl (triples l).toArray) ∧ ∀ q ∈ l, ∃ qual oc vs t, (q.1, qual) ∈ qs ∧ Kn H q.2 oc ∧ oc.data = .fields vs ∧ vs[1]? = some (.str qual t)
theorem TabOk.same {H H' : Hp} {Pt : Addr} {qs : List (Pos × Str)} (T : TabOk H Pt qs) (h1 : H' Pt = H Pt) (h2 : ∀ b o, Kn H b o → Kn H' b o) : TabOk H' Pt qs := by
  obtain ⟨l, e, h⟩ := T.ex
  refine ⟨l, h1.trans e, fun q m => ?_⟩
  obtain ⟨qual, oc, vs, t, a, b, c⟩ := h q m
  exact ⟨qual, oc, vs, t, a, h2 _ _ b, c⟩
def SmB (Pt : Addr) (H H' : Hp) : Prop := ∀ b u, b ≠ Pt → H b = some u → H' b = some u
def tNDef (i : Nat) (Pt : Addr) (qs : List (Pos × Str)) (name qual : Str) (st : Stmt) (cl : List (Str × Addr)) : TS := fun D σ H => TabOk H Pt qs ∧ ∀ f H', H f = none → SmB Pt H H' → TabOk H' Pt qs → Made H' f name qual st cl → D.nx (σ.set i (some (.ref f))) H'
section
variable {X : Cx}
theorem ps_ndef {i : Nat} {name : Str} {params : Arguments} {body : List Stmt} {scope : Scope} {pos : Pos} {c Pt : Addr} {qs : List (Pos × Str)} (hN : X.N.Nodup) (hi : X.N[i]? = some name) (hx : Loc X.env.scope name) (hcode : X.env.code = .ref c) (hK : PySem.W.codeHdIn X.K c Pt = true) (hB : BMain X.mg X.base)
    (hqs : ∀ q ∈ qs, q.1.line = pos.line → q.1.col = pos.col → q.2 = qualnameIn X.env name name) (hmem : (pos, qualnameIn X.env name name) ∈ qs)
    (hfre : ∀ y ∈ scope.names, y.2 = .free → X.env.scope.names.lookup y.1 = some .cell ∨ X.env.scope.names.lookup y.1 = some .free)
    (hd0 : params.defaults = []) (hk0 : params.kw_defaults = []) (ha : annTrees params none X.env = []) (hf : X.fn name = true ∨ X.env.scope.names.lookup name = some .local) :
    PS X (.FunctionDef name params body [] none [] scope none name pos) (tNDef i Pt qs name (qualnameIn X.env name name) (.FunctionDef name params body [] none [] scope none name pos) (closOf X.env scope.names [])) := by
  intro pins s σ H D I h
  obtain ⟨T, h⟩ := h
  obtain ⟨l, hP, hl⟩ := T.ex
  have hclos : closureFor scope X.env = pure (closOf X.env scope.names []) := closureFor_of fun y hy q => I.ok.has y.1 (hfre y hy q)
  have hg : s.heap.Ns mainGlobals X.mg := I.ok.mod.glob.keeps I.bk
  have C : PySem.W.CodeHd s.heap c Pt := PySem.W.codeHd_of_K I.kIn hK
  have hPt : s.heap.get? Pt = some (PySem.W.tabObj (triples l).toArray) := I.hok Pt _ hP
  obtain ⟨bm, ob, b1, b2, b3, b4, b5, b6⟩ := hB
  have b3' := I.bk _ _ b3
  have hgP : mainGlobals ≠ Pt := fun q => by
    obtain ⟨o, es, ep, e, hd, _⟩ := hg
    rw [q, hPt] at e; cases e; cases hd
  have hbP : bm ≠ Pt := fun q => by
    rw [q, hPt] at b3'; cases b3'; cases b4
  have hbG : bm ≠ mainGlobals := fun q => by
    obtain ⟨o, es, ep, e, hd, _⟩ := hg
    rw [← q, b3'] at e; cases e; rw [hd] at b6; cases b6
  have hBA : s.heap.BuiltinsAt X.mg Pt := ⟨bm, ob, b1, b2, hbG, hbP, b3', b4, b5, b6⟩
  refine PySem.W.nestDef_K hd0 hk0 ha ?_
  cases hc : codeAmong pos (triples l) with
  | some cv =>
    obtain ⟨q, mq, e1, e2, rfl⟩ := among_some hc
    obtain ⟨qual, oc, vs, t, m1, k1, d1, d2⟩ := hl q mq
    have eq := hqs _ m1 e1 e2
    dsimp only at eq
    subst eq
    refine PySem.W.makeFunction_hit (ps := (triples l).toArray) hclos I.ok.glob hg hcode C hPt (by simpa using triples_ok l) (by simpa using hc) hBA fun ctv doc h' tk hk hsz => ?_
    have I1 : Inv X pins σ H { s with heap := h', toks := tk } := I.kept hk
    have I2 := I1.laid (a := h'.objs.size) (o := .frz (PySem.W.fnMade name (qualnameIn X.env name name) params body scope (closOf X.env scope.names []) doc ((X.mg "__name__").getD .none) q.2 ctv) anyHO) (h' := h'.push (PySem.W.fnMade name (qualnameIn X.env name name) params body scope (closOf X.env scope.names []) doc ((X.mg "__name__").getD .none) q.2 ctv)) (t' := tk)
      (fun b o e => Heap.get?_push_of_some _ e) (Nat.le_refl _) (ok_any (Heap.get?_push_size _ rfl))
    have hfr : H h'.objs.size = none := I1.hok.fresh (Nat.le_refl _)
    refine store_ok I2 hN hi hx (v := .ref h'.objs.size) rfl (fun s' I3 => ⟨_, _, I3, ?_⟩) hf
    have sm : ∀ b u, H b = some u → upd H h'.objs.size (.frz (PySem.W.fnMade name (qualnameIn X.env name name) params body scope (closOf X.env scope.names []) doc ((X.mg "__name__").getD .none) q.2 ctv) anyHO) b = some u := fun b u e => by
      rw [upd_ne (ne_of_none e hfr)]; exact e
    exact h _ _ hfr (fun b u _ e => sm b u e) (T.same (upd_ne (ne_of_none hP hfr)) fun b o k => sm b _ k) ⟨doc, _, q.2, ctv, oc, vs, t, upd_same, sm _ _ k1, d1, d2⟩
  | none =>
    refine PySem.W.makeFunction_K (ps := (triples l).toArray) hclos I.ok.glob hg hcode C hPt (by simpa using triples_ok l) (by simpa using hc) hgP hBA fun c' ctv doc h' tk hx' hge hlt hrec htb => ?_
    obtain ⟨c2, oc, vs, t, e2, hoc, hd, hv⟩ := hrec
    cases e2
    have hcn : H c' = none := I.hok.fresh hge
    have hszL : s.heap.objs.size ≤ h'.objs.size := Nat.le_of_lt (Nat.lt_of_le_of_lt hge hlt)
    have hfn : H h'.objs.size = none := I.hok.fresh hszL
    generalize hfo : PySem.W.fnMade name (qualnameIn X.env name name) params body scope (closOf X.env scope.names []) doc ((X.mg "__name__").getD .none) c' ctv = fo
    have hcf : c' ≠ h'.objs.size := Nat.ne_of_lt hlt
    have htb' : (h'.push fo).get? Pt = some (PySem.W.tabObj ((triples (l ++ [(pos, c')])).toArray)) := by
      rw [triples_append]
      refine Heap.get?_push_of_some _ ?_
      rw [htb]
      simp
    let H' : Hp := upd (upd (upd H Pt (.tbl (triples (l ++ [(pos, c')])).toArray)) c' (.frz oc anyHO)) h'.objs.size (.frz fo anyHO)
    have hPc : Pt ≠ c' := ne_of_none hP hcn
    have hPf : Pt ≠ h'.objs.size := ne_of_none hP hfn
    have at_ : ∀ b u, b ≠ Pt → H b = some u → H' b = some u := fun b u nb e => by
      show upd (upd (upd H Pt _) c' _) h'.objs.size _ b = _
      rw [upd_ne (ne_of_none e hfn), upd_ne (ne_of_none e hcn), upd_ne nb]; exact e
    have fr_ : ∀ b, b < s.heap.objs.size → H b = none → H' b = none := fun b hb e => by
      show upd (upd (upd H Pt _) c' _) h'.objs.size _ b = _
      rw [upd_ne (Nat.ne_of_lt (Nat.lt_of_lt_of_le hb hszL)), upd_ne (Nat.ne_of_lt (Nat.lt_of_lt_of_le hb hge)), upd_ne (fun z => by rw [z, hP] at e; cases e)]; exact e
    have keep : ∀ b o, b ≠ Pt → s.heap.get? b = some o → (h'.push fo).get? b = some o := fun b o nb e => Heap.get?_push_of_some _ (hx' b o nb e)
    have nP : ∀ b, H b = none → b ≠ Pt := fun b e z => by rw [z, hP] at e; cases e
    have tP : H' Pt = some (.tbl (triples (l ++ [(pos, c')])).toArray) := by
      show upd (upd (upd H Pt _) c' _) h'.objs.size _ Pt = _
      rw [upd_ne hPf, upd_ne hPc, upd_same]
    have un : Un X.fs [] H H' s.heap (h'.push fo) := {
      keep := fun b o q n _ _ => keep b o (nP b n) q
      slot := fun b o q n _ _ => ⟨o.slots, keep b o (nP b n) q⟩
      free := fun b o q n _ => fr_ b (Heap.lt_size q) n
      there := fun b o q _ => by
        by_cases z : b = Pt
        · exact ⟨_, by rw [z]; exact htb'⟩
        · exact ⟨o, keep b o z q⟩
      tups := fun b xs q => at_ b _ (fun z => by rw [z, hP] at q; cases q) q
      frzs := fun b o u q => at_ b _ (fun z => by rw [z, hP] at q; cases q) q
      tbls := fun b ps q => by
        by_cases z : b = Pt
        · subst z
          rw [hP] at q
          cases q
          exact ⟨#[rawInt pos.line, rawInt pos.col, .ref c'], by rw [tP, triples_append]; simp⟩
        · exact ⟨#[], by rw [at_ b _ z q]; simp⟩ }
    have hok : HOk X.prog X.w H' (h'.push fo) := fun b u e => by
      by_cases z1 : b = h'.objs.size
      · subst z1
        have e' : upd (upd (upd H Pt (.tbl (triples (l ++ [(pos, c')])).toArray)) c' (.frz oc anyHO)) h'.objs.size (.frz fo anyHO) h'.objs.size = some u := e
        rw [upd_same] at e'
        cases e'
        exact ok_any (Heap.get?_push_size _ (by rw [← hfo]; rfl))
      · by_cases z2 : b = c'
        · subst z2
          have e' : upd (upd (upd H Pt (.tbl (triples (l ++ [(pos, b)])).toArray)) b (.frz oc anyHO)) h'.objs.size (.frz fo anyHO) b = some u := e
          rw [upd_ne z1, upd_same] at e'
          cases e'
          exact ok_any (Heap.get?_push_of_some _ hoc)
        · by_cases z3 : b = Pt
          · subst z3
            rw [tP] at e
            cases e
            exact htb'
          · have e' : upd (upd (upd H Pt (.tbl (triples (l ++ [(pos, c')])).toArray)) c' (.frz oc anyHO)) h'.objs.size (.frz fo anyHO) b = some u := e
            rw [upd_ne z1, upd_ne z2, upd_ne z3] at e'
            refine (I.hok b u e').stay (fun c v hc q => keep c v ?_ q) (fun c q => at_ c _ (fun z => by rw [z, hP] at q; cases q) q) fun c xs q => at_ c _ (fun z => by rw [z, hP] at q; cases q) q
            rcases hc with rfl | hc
            · exact z3
            · intro z; rw [z, hP] at hc; cases hc
    have I2 : Inv X pins σ H' { s with heap := h'.push fo, toks := tk } := I.un un hok
    refine store_ok I2 hN hi hx (v := .ref h'.objs.size) rfl (fun s' I3 => ⟨_, _, I3, ?_⟩) hf
    have kf : Kn H' h'.objs.size fo := upd_same
    have kc : Kn H' c' oc := by
      show upd (upd (upd H Pt _) c' _) h'.objs.size _ c' = _
      rw [upd_ne hcf, upd_same]
    have kk : ∀ b o, Kn H b o → Kn H' b o := fun b o k => at_ b _ (fun z => by
      have k' : H b = some (.frz o anyHO) := k
      rw [z, hP] at k'; cases k') k
    refine h _ _ hfn at_ ⟨l ++ [(pos, c')], tP, fun q m => ?_⟩ ⟨doc, _, c', ctv, oc, vs, t, by rw [← hfo] at kf; exact kf, kc, hd, hv⟩
    rcases List.mem_append.mp m with m | m
    · obtain ⟨qual, oc', vs', t', m1, k1, d1⟩ := hl q m
      exact ⟨qual, oc', vs', t', m1, kk _ _ k1, d1⟩
    · rw [List.mem_singleton.mp m]
      exact ⟨_, oc, vs, t, hmem, kc, hd, hv⟩
end
end L2

set_option Elab.async false
set_option linter.all false
set_option maxRecDepth 100000
set_option maxHeartbeats 4000000
namespace L2
open PySem PySem.Spec PyProof.Rows

def froz (cs : List Addr) (os : List Obj) (H : Hp) : Hp := fun b => match (cs.zip os).lookup b with
  | some o => some (.frz o anyHO)
  | none => H b
structure Froz (env : Env) (N : List Str) (σ : St) (fr : List Str) (cs : List Addr) (os : List Obj) : Prop where
  l1 : cs.length = fr.length
  l2 : os.length = fr.length
  at_ : ∀ (j : Nat) x, fr[j]? = some x → ∃ (c : Addr) (o : Obj) (i : Nat) (v : V) (u : Value), cs[j]? = some c ∧ os[j]? = some o ∧ env.cells.lookup x = some c ∧ N[i]? = some x ∧ σ[i]? = some (some v) ∧ o.data = .cell (some u) ∧ RelV v u
  nd : cs.Nodup
theorem lookupA_none {α : Type} {b : Addr} : ∀ {cs : List Addr} {os : List α}, b ∉ cs → (cs.zip os).lookup b = none
  | [], _, _ => rfl
  | c :: r, [], _ => rfl
  | c :: r, o :: q, h => by
    rw [List.zip_cons_cons, List.lookup_cons]
    have : (b == c) = false := beq_eq_false_iff_ne.mpr fun e => h (by rw [e]; exact List.mem_cons_self)
    rw [this]
    exact lookupA_none fun m => h (List.mem_cons_of_mem _ m)
theorem lookupA_some {α : Type} {b : Addr} {o : α} : ∀ {cs : List Addr} {os : List α} {j : Nat}, cs.Nodup → cs[j]? = some b → os[j]? = some o → (cs.zip os).lookup b = some o
  | [], _, _, _, h, _ => by simp at h
  | c :: r, [], _, _, _, h => by simp at h
  | c :: r, o' :: q, 0, nd, h1, h2 => by
    simp at h1 h2
    subst h1 h2
    rw [List.zip_cons_cons, List.lookup_cons, beq_self_eq_true]
  | c :: r, o' :: q, j + 1, nd, h1, h2 => by
    have h1' : r[j]? = some b := by simpa using h1
    rw [List.nodup_cons] at nd
    rw [List.zip_cons_cons, List.lookup_cons]
    have : (b == c) = false := beq_eq_false_iff_ne.mpr fun e => nd.1 (by rw [← e]; exact List.mem_of_getElem? h1')
    rw [this]
    exact lookupA_some nd.2 h1' (by simpa using h2)
theorem froz_out {cs : List Addr} {os : List Obj} {H : Hp} {b : Addr} (h : b ∉ cs) : froz cs os H b = H b := by unfold froz; rw [lookupA_none h]
theorem froz_at {cs : List Addr} {os : List Obj} {H : Hp} {b : Addr} {o : Obj} {j : Nat} (nd : cs.Nodup) (h1 : cs[j]? = some b) (h2 : os[j]? = some o) : Kn (froz cs os H) b o := by unfold Kn froz; rw [lookupA_some nd h1 h2]
theorem froz_in {cs : List Addr} {os : List Obj} {H : Hp} {b : Addr} (nd : cs.Nodup) (hl : os.length = cs.length) (h : b ∈ cs) : ∃ (j : Nat) (o : Obj), cs[j]? = some b ∧ os[j]? = some o ∧ Kn (froz cs os H) b o := by
  obtain ⟨j, hj, e⟩ := List.mem_iff_getElem.mp h
  have h1 : cs[j]? = some b := by rw [List.getElem?_eq_getElem hj, e]
  have h2 : os[j]? = some os[j] := List.getElem?_eq_getElem (by omega)
  exact ⟨j, _, h1, h2, froz_at nd h1 h2⟩
def tDefC (env : Env) (N : List Str) (fr : List Str) (is : List Nat) (sp : Sp) (t : TA) : TE := fun σ H Q => t σ H fun vs H1 => (∀ i ∈ is, ∃ v, σ[i]? = some (some v)) ∧
  ∀ cs os, Froz env N σ fr cs os → (∀ c ∈ cs, H1 c = none) → sp vs (froz cs os H1) (fun v H2 => Q v (rem cs H2)) E0
section
variable {X : Cx} {e : Expr} {es : List Expr} {t : TA} {p pos : Pos}
theorem pe_defC {k : Nat} {x : Str} {ps : List Str} {sp : Sp} {fr : List Str} {is : List Nat} (D : Def X.prog X.w X.K X.mg X.base k x ps sp) (hr : Room k X.A) (hg : Gl X x) (ha : PA X (e :: es) t) (hdb : (x == ("__debug__" : Str)) = false)
    (hst : noStars (e :: es) = true) (hl : is.length = fr.length) (hfr : ∀ (j : Nat) y i, fr[j]? = some y → is[j]? = some i → X.N[i]? = some y ∧ X.env.scope.names.lookup y = some .cell ∧ X.fn y = true) (hnd : fr.Nodup) :
    PE X (.Call (.Name x p) (e :: es) [] pos) (tDefC X.env X.N fr is sp t) := by
  obtain ⟨f, fd, mgf, kp, _, b, G⟩ := D.ex
  have h' : noStar e = true ∧ noStars es = true := by simpa [noStars] using hst
  have he := starEach_cons (es := es) (env := X.env) h'.1
  have hpl := back_any (env := X.env) (pos := pos) h'.2
  intro pins s σ H Q I h
  refine wpAny_Call_Name_kw (ld_glob I hg mgf ?_ hdb)
  refine PySem.W.callWith_K (h₀ := X.base) I.ok.mod.kin kp (thn (ha pos pins s σ H _ I h) fun us s1 ⟨vs, H1, I1, r, hv, q⟩ => ⟨I1.kIn, ?_⟩) he hpl
  have cell : ∀ (j : Nat) y, fr[j]? = some y → ∃ (c : Addr) (o : Obj) (i : Nat) (v : V) (u : Value), X.env.cells.lookup y = some c ∧ s1.heap.get? c = some o ∧ X.N[i]? = some y ∧ σ[i]? = some (some v) ∧ o.data = .cell (some u) ∧ RelV v u := fun j y hy => by
    have hj : j < is.length := by rw [hl]; exact (List.getElem?_eq_some_iff.mp hy).1
    obtain ⟨z1, z2, z3⟩ := hfr j y is[j] hy (List.getElem?_eq_getElem hj)
    obtain ⟨v, ev⟩ := hv is[j] (List.getElem_mem hj)
    obtain ⟨m, _, hlk⟩ := I1.loc
    obtain ⟨u, ru, lk⟩ := hlk _ y v z1 ev (.inr (.inl z2))
    rcases lk with ⟨k1, _⟩ | ⟨_, c, hc, o, ho, hd⟩
    · have k1' : X.env.scope.names.lookup y = some .local := k1
      rw [z2] at k1'
      cases k1'
    · exact ⟨c, o, _, v, u, hc, ho, z1, ev, hd, ru⟩
  let cs : List Addr := fr.map fun y => (X.env.cells.lookup y).getD 0
  let os : List Obj := cs.map fun c => (s1.heap.get? c).getD default
  have csj : ∀ (j : Nat) y c, fr[j]? = some y → X.env.cells.lookup y = some c → cs[j]? = some c := fun j y c h1 h2 => by
    show (fr.map _)[j]? = _
    rw [List.getElem?_map, h1]
    show some ((X.env.cells.lookup y).getD 0) = _
    rw [h2]; rfl
  have osj : ∀ (j : Nat) c o, cs[j]? = some c → s1.heap.get? c = some o → os[j]? = some o := fun j c o h1 h2 => by
    show (cs.map _)[j]? = _
    rw [List.getElem?_map, h1]
    show some ((s1.heap.get? c).getD default) = _
    rw [h2]; rfl
  have l1 : cs.length = fr.length := List.length_map ..
  have l2 : os.length = fr.length := by rw [← l1]; exact List.length_map ..
  have mem : ∀ c ∈ cs, ∃ (y : Str) (j : Nat), fr[j]? = some y ∧ X.env.cells.lookup y = some c := fun c m => by
    obtain ⟨j, hj, ec⟩ := List.mem_iff_getElem.mp m
    have hj' : j < fr.length := by omega
    obtain ⟨c', o, i, v, u, a1, _⟩ := cell j fr[j] (List.getElem?_eq_getElem hj')
    have := csj j _ c' (List.getElem?_eq_getElem hj') a1
    rw [List.getElem?_eq_getElem hj, ec] at this
    cases this
    exact ⟨_, j, List.getElem?_eq_getElem hj', a1⟩
  have nd : cs.Nodup := by
    refine List.nodup_iff_pairwise_ne.mpr (List.pairwise_iff_getElem.mpr fun i j hi hj hij e => ?_)
    have hi' : i < fr.length := by omega
    have hj' : j < fr.length := by omega
    obtain ⟨ci, _, _, _, _, a1, _⟩ := cell i fr[i] (List.getElem?_eq_getElem hi')
    obtain ⟨cj, _, _, _, _, b1, _⟩ := cell j fr[j] (List.getElem?_eq_getElem hj')
    have ei := csj i _ ci (List.getElem?_eq_getElem hi') a1
    have ej := csj j _ cj (List.getElem?_eq_getElem hj') b1
    rw [List.getElem?_eq_getElem hi] at ei
    rw [List.getElem?_eq_getElem hj] at ej
    have : ci = cj := (Option.some.inj ei).symm.trans (e.trans (Option.some.inj ej))
    subst this
    have z := I1.ok.inj _ _ _ a1 b1
    have := (List.getElem_inj hnd).mp z
    omega
  have F : Froz X.env X.N σ fr cs os := ⟨l1, l2, fun j y hy => by
    obtain ⟨c, o, i, v, u, a1, a2, a3, a4, a5, a6⟩ := cell j y hy
    have := csj j y c hy a1
    exact ⟨c, o, i, v, u, this, osj j c o this a2, a1, a3, a4, a5, a6⟩, nd⟩
  have hcn : ∀ c ∈ cs, H1 c = none := fun c m => by
    obtain ⟨y, j, _, a⟩ := mem c m
    exact I1.freeC y c a
  have hl2 : os.length = cs.length := by omega
  have hobj : ∀ c o, Kn (froz cs os H1) c o → c ∈ cs → s1.heap.get? c = some o := fun c o k m => by
    obtain ⟨j, o', h1, h2, h3⟩ := froz_in (H := H1) nd hl2 m
    obtain ⟨y, j2, hy, a⟩ := mem c m
    obtain ⟨c2, o2, i, v, u, a1, a2, _⟩ := cell j2 y hy
    rw [a] at a1
    cases a1
    have e1 := csj j2 y c hy a
    have e2 := osj j2 c o2 e1 a2
    have k2 := froz_at (H := H1) nd e1 e2
    unfold Kn at k k2
    rw [k] at k2
    cases k2
    exact a2
  have old : ∀ c ∈ cs, X.s₀.heap.objs.size ≤ c := fun c m => by
    obtain ⟨y, j, hy, a⟩ := mem c m
    have hj : j < is.length := by rw [hl]; exact (List.getElem?_eq_some_iff.mp hy).1
    exact I1.ok.cab y c (hfr j y is[j] hy (List.getElem?_eq_getElem hj)).2.2 a
  have hok : HOk X.prog X.w (froz cs os H1) s1.heap := fun b u e => by
    by_cases m : b ∈ cs
    · obtain ⟨j, o, h1, h2, h3⟩ := froz_in (H := H1) nd hl2 m
      have h3' : froz cs os H1 b = some (.frz o anyHO) := h3
      rw [h3'] at e
      cases e
      exact ok_any (hobj b o h3 m)
    · rw [froz_out m] at e
      refine (I1.hok b u e).stay (fun _ _ _ q => q) (fun c q => ?_) fun c xs q => ?_
      · rw [froz_out fun mc => by rw [hcn c mc] at q; cases q]; exact q
      · rw [froz_out fun mc => by rw [hcn c mc] at q; cases q]; exact q
  have E := I1.env0
  have notB : ∀ {b : Addr}, b < X.s₀.heap.objs.size → b ∉ cs := fun {b} hb m => absurd (Nat.lt_of_lt_of_le hb (old b m)) (Nat.lt_irrefl _)
  have frn : ∀ b ∈ frs X.stack, b ∉ cs := fun b hb m => by
    rcases List.mem_cons.mp (I1.stkSub b hb) with z | z
    · obtain ⟨y, j, _, a⟩ := mem b m
      exact I1.cne y b a z
    · obtain ⟨_, o, ho, _⟩ := I1.ok.funs.mem z
      exact notB (Heap.lt_size ho) m
  have E' : Env0 X.prog X.w X.K X.mg X.base X.A X.stack s1 (froz cs os H1) := ⟨E.frames, E.mod, fun b o hb => ⟨(E.bs b o hb).1, by
    rw [froz_out (notB (Nat.lt_of_lt_of_le (Heap.lt_size hb) I1.ok.bsz))]; exact (E.bs b o hb).2⟩, E.bsz, E.funs, fun b hb => by rw [froz_out (frn b hb)]; exact E.frf b hb, hok, E.bare⟩
  have hq := q cs os F hcn
  have hlen : us.length = ps.length := by rw [← r.length]; exact G.len _ _ _ _ hq
  have hbind := b s1 us I1.kIn (by rw [List.append_nil]; exact hlen)
  rw [List.append_nil] at hbind
  refine wpAny_call (codeAny_mono (G.run X.A X.stack s1 (froz cs os H1) ⟨us, []⟩ us vs _ E0 hr E' hbind r hq) fun r' s' hq' => ?_)
  cases r' with
  | error e => exact hq'.elim
  | ok fl =>
    cases fl with
    | next => exact False.elim hq'
    | brk => exact False.elim hq'
    | cont => exact False.elim hq'
    | ret u =>
      obtain ⟨v, H2, os', bare, un, hok2, rv, qv⟩ := hq'
      have kn2 : ∀ c ∈ cs, ∃ o, Kn H2 c o := fun c m => by
        obtain ⟨j, o, h1, h2, h3⟩ := froz_in (H := H1) nd hl2 m
        exact ⟨o, un.frzs c o _ h3⟩
      have cellK : ∀ b o, b ∈ cs → s1.heap.get? b = some o → s'.heap.get? b = some o := fun b o m ho => by
        obtain ⟨j, o2, h1, h2, h3⟩ := froz_in (H := H1) nd hl2 m
        have e1 := hobj b o2 h3 m
        rw [ho] at e1
        cases e1
        exact Kn.get (un.frzs b o _ h3) hok2
      refine I1.after ⟨v, rem cs H2, os', bare, ⟨fun b o ho n hb hx => ?_, fun b o ho n hb hx => ?_, fun b o ho n hx => ?_, un.there, fun b xs e => ?_, fun b o z e => ?_, fun b ps' e => ?_⟩, hok2.rem kn2, rv, qv⟩
      · by_cases m : b ∈ cs
        · exact cellK b o m ho
        · exact un.keep b o ho (by rw [froz_out m]; exact n) hb hx
      · by_cases m : b ∈ cs
        · exact ⟨o.slots, cellK b o m ho⟩
        · exact un.slot b o ho (by rw [froz_out m]; exact n) hb hx
      · by_cases m : b ∈ cs
        · exact rem_in m
        · rw [rem_out m]
          exact un.free b o ho (by rw [froz_out m]; exact n) hx
      · have m : b ∉ cs := fun m => by rw [hcn b m] at e; cases e
        rw [rem_out m]
        exact un.tups b xs (by rw [froz_out m]; exact e)
      · have m : b ∉ cs := fun m => by rw [hcn b m] at e; cases e
        rw [rem_out m]
        exact un.frzs b o z (by rw [froz_out m]; exact e)
      · have m : b ∉ cs := fun m => by rw [hcn b m] at e; cases e
        rw [rem_out m]
        exact un.tbls b ps' (by rw [froz_out m]; exact e)
end
theorem CloAt.lent {H : Hp} {f : Addr} {name qual : Str} {st : Stmt} {env : Env} {N : List Str} {σ : St} {fr : List Str} {cs : List Addr} {os : List Obj} {ws : List V} (M : Made H f name qual st (closOf env (defScope st).names [])) (F : Froz env N σ fr cs os) (hn : ∀ c ∈ cs, H c = none) (hN : N.Nodup) (hnd : fr.Nodup)
    (hall : ∀ y ∈ (defScope st).names, y.2 = .free → y.1 ∈ fr) (hfre : ∀ x ∈ fr, (x, NameKind.free) ∈ (defScope st).names) (hl : ws.length = fr.length)
    (hw : ∀ (j i : Nat) x v, fr[j]? = some x → N[i]? = some x → σ[i]? = some (some v) → ws[j]? = some v) : CloAt (froz cs os H) f name qual st fr cs ws := by
  have up : ∀ b o, Kn H b o → Kn (froz cs os H) b o := fun b o k => by
    unfold Kn at k ⊢
    rw [froz_out fun m => by rw [hn b m] at k; cases k]
    exact k
  have keys : ∀ {names : List (Str × NameKind)} {acc : List (Str × Addr)} {x : Str} {c : Addr}, (∀ y ∈ names, y.2 = .free → y.1 ∈ fr) → (∀ x c, acc.lookup x = some c → x ∈ fr) → (closOf env names acc).lookup x = some c → x ∈ fr := by
    intro names
    induction names with
    | nil => intro acc x c _ ha e; exact ha x c e
    | cons p r ih =>
      intro acc x c hy ha e
      obtain ⟨n, k⟩ := p
      unfold closOf at e
      have hr : ∀ y ∈ r, y.2 = .free → y.1 ∈ fr := fun y m => hy y (List.mem_cons_of_mem _ m)
      split at e
      · rename_i hk
        have hk' : k = .free := beq_iff_eq.mp hk
        split at e
        · refine ih hr (fun x' c' q => ?_) e
          rw [List.lookup_cons] at q
          cases hb : x' == n with
          | true => rw [beq_iff_eq.mp hb]; exact hy (n, k) List.mem_cons_self hk'
          | false => rw [hb] at q; exact ha x' c' q
        · exact ih hr ha e
      · exact ih hr ha e
  refine ⟨⟨closOf env (defScope st).names [], ⟨?_⟩, fun x c e => ?_, fun j x e => ?_⟩, fun j v e => ?_, F.l1, hl, F.nd⟩
  · obtain ⟨doc, pm, c', ctv, oc, vs, t, h1, h2, h3⟩ := M.ex
    exact ⟨doc, pm, c', ctv, oc, vs, t, up _ _ h1, up _ _ h2, h3⟩
  · have hx := keys hall (fun x c q => by simp at q) e
    obtain ⟨j, hj, ex⟩ := List.mem_iff_getElem.mp hx
    have ej : fr[j]? = some x := by rw [List.getElem?_eq_getElem hj, ex]
    obtain ⟨c2, o, i, v, u, a1, a2, a3, _⟩ := F.at_ j x ej
    have := closOf_ok (env := env) (fun n c e => by simp at e) x c e
    rw [a3] at this
    cases this
    exact ⟨j, ej, a1⟩
  · obtain ⟨c2, o, i, v, u, a1, a2, a3, _⟩ := F.at_ j x e
    obtain ⟨c, hc⟩ := Option.isSome_iff_exists.mp (closOf_has (env := env) (acc := []) (hfre x (List.mem_of_getElem? e)) a3)
    have := closOf_ok (env := env) (fun n c e => by simp at e) x c hc
    rw [a3] at this
    cases this
    exact ⟨_, hc, a1⟩
  · have hj : j < fr.length := by rw [← hl]; exact (List.getElem?_eq_some_iff.mp e).1
    obtain ⟨c2, o, i, v', u, a1, a2, a3, a4, a5, a6, a7⟩ := F.at_ j fr[j] (List.getElem?_eq_getElem hj)
    have := hw j i _ v' (List.getElem?_eq_getElem hj) a4 a5
    rw [e] at this
    cases this
    exact ⟨c2, o, u, a1, froz_at F.nd a1 a2, a6, a7⟩

structure Only2 (ts : List (Addr × Addr)) (H : Hp) : Prop where
  tabs : ∀ q ∈ ts, H q.2 = some (.tbl #[])
  rest : ∀ b, H b = none ∨ (∃ q ∈ ts, q.2 = b) ∨ ∃ o xs, H b = some (.frz o (.lst xs))
theorem law_call2 {P : Program} {w : World} {K : PySem.W.Frag} {mg mb : Str → Option Value} {CX : CXT} {k : Nat} {fa a : Addr} {fd : FuncData} {x : Str} {sp : Sp} {s₁ : Shared} {vs : List Value} {ns : List Int} {ts : List (Addr × Addr)}
    (KX : K.In s₁.heap) (hns : s₁.heap.Ns mainGlobals mg) (hb : s₁.heap.Ns builtinsNs mb) (hbb : ∀ x : Str, x ≠ "__name__" → mb x = bootBuiltins x) (hlim : s₁.heap.NoLimit) (hg : s₁.gens = #[]) (hbm : BMain mg s₁.heap)
    (hT : PySem.W.TabsAt ts s₁.heap) (hnt : PySem.W.noTabs K = true)
    (ha : s₁.heap.get? a = some { cls := .type "list", data := .seq vs.toArray }) (hi : IntsAre vs ns) (hl : ns.length ≤ sizeLine) (hr : Room k callerA)
    (F : ∀ base : Heap, K.In base → base.Ns mainGlobals mg → BMain mg base → FnOk P w K mg base CX k fa fd [x] sp) (hbind : ∀ (s : Shared) (u : Value), BindsTo s fd ⟨[u], []⟩ [(x, u)])
    (hsp : ∀ H : Hp, Only2 ts H → SqL K H a (ns.map V.int) → sp [.ref a] H (fun v _ => v = .bl true) fun _ _ _ => False)
    (hCX : ∀ H e s', CX [] H s₁ (fun _ _ _ => False) e s' → False) :
    codeAny (model P w) callerA (.call (.ref fa) ⟨[.ref a], []⟩) (fun r s' => r = .ok (.ret (.bool true)) ∧ OldK s₁.heap s'.heap ∧ s'.os = s₁.os ∧ AllBare s'.gens) s₁ := by
  have rv := vals_ints hi
  have lenV := hi.length
  have tabN : ∀ q ∈ ts, q.2 ≠ a := fun q m z => by
    have := (hT q m).2
    rw [z, ha] at this; cases this
  have tabK : ∀ q ∈ ts, K.lookup q.2 = none := fun q m => by
    cases e : K.lookup q.2 with
    | none => rfl
    | some o =>
      have h1 := KX _ _ e
      rw [(hT q m).2] at h1
      cases h1
      have h2 := List.all_eq_true.mp hnt (q.2, PySem.W.tabObj #[]) (PySem.W.mem_of_lookupK e)
      exact absurd (show false = true from h2) Bool.false_ne_true
  have core : ∀ H : Hp, Only2 ts H → SqL K H a (ns.map V.int) → HOk P w H s₁.heap → (∀ b, H b ≠ none → b = a ∨ ∃ q ∈ ts, q.2 = b) → (H a ≠ none → K.lookup a = none) →
      codeAny (model P w) callerA (.call (.ref fa) ⟨[.ref a], []⟩) (fun r s' => r = .ok (.ret (.bool true)) ∧ OldK s₁.heap s'.heap ∧ s'.os = s₁.os ∧ AllBare s'.gens) s₁ := by
    intro H hO hS hok hA hK
    have base_of : ∀ {b : Addr} {o : Obj}, s₁.heap.get? b = some o → H b = none → (hidT s₁.heap H).get? b = some o := fun e n => hidT_get e n
    have noC : ∀ {b : Addr} {o : Obj}, s₁.heap.get? b = some o → o.cls ≠ .none → (∀ xs n, o.data ≠ .seq xs n) → H b = none := fun {b o} e c d => by
      cases q : H b with
      | none => rfl
      | some u =>
        rcases hA b (by rw [q]; simp) with z | ⟨q', m, z⟩
        · subst z; rw [ha] at e; cases e; exact absurd rfl (d _ _)
        · have := (hT q' m).2; rw [z, e] at this; cases this; exact absurd rfl c
    have noA : ∀ {b : Addr} {o : Obj} {es : Array DictEntry} {ep : Nat}, s₁.heap.get? b = some o → o.data = .dict es ep → H b = none := fun {b o es ep} e d => by
      cases q : H b with
      | none => rfl
      | some u =>
        rcases hA b (by rw [q]; simp) with z | ⟨q', m, z⟩
        · subst z
          rw [ha] at e; cases e
          have d' : Data.seq vs.toArray _ = Data.dict es ep := d
          cases d'
        · have := (hT q' m).2
          rw [z, e] at this; cases this; cases d
    have nsK : ∀ {b : Addr} {m : Str → Option Value}, s₁.heap.Ns b m → (hidT s₁.heap H).Ns b m := fun {b m} ⟨o, es, ep, e, d, r⟩ => ⟨o, es, ep, base_of e (noA e d), d, r⟩
    have hKb : K.In (hidT s₁.heap H) := fun b o e => base_of (KX b o e) (by
      cases q : H b with
      | none => rfl
      | some u =>
        rcases hA b (by rw [q]; simp) with z | ⟨q', m, z⟩
        · subst z
          rw [hK (by rw [q]; simp)] at e; cases e
        · subst z
          rw [tabK q' m] at e; cases e)
    have hBb : BMain mg (hidT s₁.heap H) := by
      obtain ⟨bm, ob, b1, b2, b3, b4, b5, b6⟩ := hbm
      exact ⟨bm, ob, b1, b2, base_of b3 (noC b3 (by rw [b4]; intro z; cases z) (by rw [b6]; intro _ _ z; cases z)), b4, b5, b6⟩
    have hM : Mod K mg (hidT s₁.heap H) := ⟨hKb, nsK hns, ⟨mb, nsK hb, hbb⟩, let ⟨mc, h1, h2⟩ := hlim; ⟨mc, nsK h1, h2⟩⟩
    have e0 : Env0 P w K mg (hidT s₁.heap H) callerA [] s₁ H := ⟨rfl, hM, fun b o e => of_hidT e, Nat.le_of_eq (hidT_size _ _), trivial, fun b hb => absurd (show b ∈ ([] : List Addr) from hb) (by simp), hok, .of_eq hg⟩
    refine codeAny_mono ((F _ hKb (nsK hns) hBb).run callerA [] s₁ H ⟨[.ref a], []⟩ [.ref a] [.ref a] _ _ hr e0 (hbind s₁ (.ref a)) (.cons rfl .nil) (hsp H hO hS)) fun r s' h => ?_
    cases r with
    | error e => exact (hCX H e s' h).elim
    | ok fl =>
      cases fl with
      | next => exact False.elim h
      | brk => exact False.elim h
      | cont => exact False.elim h
      | ret u =>
        obtain ⟨v, H', os, bare, un, hok', r', q⟩ := h
        have q' : v = .bl true := q
        subst q'
        obtain rfl : u = Value.bool true := r'
        have key : ∀ b o, s₁.heap.get? b = some o → s'.heap.get? b = some o ∨ ∃ q ∈ ts, q.2 = b ∧ o = PySem.W.tabObj #[] ∧ ∃ ps, s'.heap.get? b = some (PySem.W.tabObj ps) := fun b o e => by
          cases q : H b with
          | none => exact .inl (un.keep b o e q (by intro z; exact absurd (show b ∈ ([] : List Addr) from z) (by simp)) (by simp))
          | some u =>
            rcases hO.rest b with z | ⟨q', m, z⟩ | ⟨ob, xs, z⟩
            · rw [q] at z; cases z
            · subst z
              have h1 := hO.tabs q' m
              obtain ⟨more, h2⟩ := un.tbls _ _ h1
              have h3 := hok' _ _ h2
              have h4 := (hT q' m).2
              rw [e] at h4
              cases h4
              exact .inr ⟨q', m, rfl, rfl, _, h3⟩
            · have z2 := un.frzs b ob _ z
              obtain ⟨e1, _⟩ := hok b _ z
              obtain ⟨e2, _⟩ := hok' b _ z2
              rw [e] at e1; cases e1
              exact .inl e2
        refine ⟨rfl, ⟨fun b o e => ?_, fun b o e => ?_⟩, os, bare⟩
        · rcases key b o e with z | ⟨q', m, z, eo, ps, z2⟩
          · exact .inl z
          · subst z eo
            exact .inr (.inl ⟨((hT q' m).1.tab (hT q' m).2).isCodeTable, rfl, #[], ps, rfl, by rw [Array.empty_append]; exact z2⟩)
        · rcases key b o e with z | ⟨q', m, z, eo, ps, z2⟩
          · exact ⟨_, z⟩
          · exact ⟨_, z2⟩
  have tb : ∀ b, (∃ q ∈ ts, q.2 = b) ↔ b ∈ ts.map (·.2) := fun b => by rw [List.mem_map]
  cases hk : K.lookup a with
  | some o =>
    have e := KX a o hk
    rw [ha] at e
    cases e
    refine core (fun b => if b ∈ ts.map (·.2) then some (.tbl #[]) else none) ⟨fun q m => if_pos ((tb _).mp ⟨q, m, rfl⟩), fun b => ?_⟩ (.inr ⟨_, vs.toArray, _, hk, rfl, rfl, rfl, by rw [List.size_toArray, lenV]; exact hl, by simpa using rv⟩) (fun b u z => ?_) (fun b z => ?_) fun z => ?_
    · by_cases m : b ∈ ts.map (·.2)
      · exact .inr (.inl ((tb b).mpr m))
      · exact .inl (if_neg m)
    · by_cases m : b ∈ ts.map (·.2)
      · have z' := (if_pos m).symm.trans z
        cases z'
        obtain ⟨q, mq, rfl⟩ := (tb b).mpr m
        exact (hT q mq).2
      · have z' := (if_neg m).symm.trans z
        cases z'
    · by_cases m : b ∈ ts.map (·.2)
      · exact .inr ((tb b).mpr m)
      · exact absurd (if_neg m) z
    · by_cases m : a ∈ ts.map (·.2)
      · obtain ⟨q, mq, e⟩ := (tb a).mpr m
        exact absurd e (tabN q mq)
      · exact absurd (if_neg m) z
  | none =>
    refine core (fun b => if b = a then some (.frz { cls := .type "list", data := .seq vs.toArray } (.lst (ns.map V.int))) else if b ∈ ts.map (·.2) then some (.tbl #[]) else none) ⟨fun q m => ?_, fun b => ?_⟩ (.inl (.inr ⟨{ cls := .type "list", data := .seq vs.toArray }, if_pos rfl⟩)) (fun b u z => ?_) (fun b z => ?_) fun _ => hk
    · rw [if_neg (tabN q m), if_pos ((tb _).mp ⟨q, m, rfl⟩)]
    · by_cases hb : b = a
      · exact .inr (.inr ⟨_, _, if_pos hb⟩)
      · by_cases m : b ∈ ts.map (·.2)
        · exact .inr (.inl ((tb b).mpr m))
        · exact .inl (by rw [if_neg hb, if_neg m])
    · dsimp only at z
      by_cases hb : b = a
      · rw [if_pos hb] at z
        cases z
        subst hb
        exact ⟨ha, by rw [List.length_map]; exact hl, vs, _, rv, ha⟩
      · rw [if_neg hb] at z
        by_cases m : b ∈ ts.map (·.2)
        · rw [if_pos m] at z
          cases z
          obtain ⟨q, mq, rfl⟩ := (tb b).mpr m
          exact (hT q mq).2
        · rw [if_neg m] at z; cases z
    · by_cases hb : b = a
      · exact .inl hb
      · rw [if_neg hb] at z
        by_cases m : b ∈ ts.map (·.2)
        · exact .inr ((tb b).mpr m)
        · rw [if_neg m] at z; exact absurd rfl z
theorem walk_of2 {l : PySem.W.OpenLaw} {n k : Nat} {q : Program} {loose : List Str} {XP : (Str → Option Value) → Heap → Prop} {YP : World → Heap → Prop} {d : DefRec} {K : Params → PySem.W.Frag} {CX : CXT} {sp : PySem.W.Frag → Sp} {x : Str} (ts : List Addr)
    (hn : l.most = some n) (hn2 : n ≤ sizeLine) (hdf : d.params.defaults = []) (hr : Room k callerA)
    (hY : ∀ (w : World) (h : Heap), YP w h → (K w.params).In h) (hT : ∀ (w : World) (h : Heap), YP w h → ∀ q ∈ ts, h.get? q = some (PySem.W.tabObj #[])) (hnt : ∀ P : Params, PySem.W.noTabs (K P) = true)
    (F : ∀ (w : World) (mg : Str → Option Value) (fa : Addr) (h : Heap), (K w.params).In h → h.Ns mainGlobals mg → mg d.name = some (.ref fa) →
      (∀ q ∈ ts, ∃ c, PySem.W.codeHdIn (K w.params) c q = true) ∧ ∃ fd : FuncData, (∀ (s : Shared) (u : Value), BindsTo s fd ⟨[u], []⟩ [(x, u)]) ∧
        ∀ base : Heap, (K w.params).In base → base.Ns mainGlobals mg → BMain mg base → FnOk l.prog w (K w.params) mg base CX k fa fd [x] (sp (K w.params)))
    (hsp : ∀ (K : PySem.W.Frag) (H : Hp) (a : Addr) (ns : List Int), ns.length ≤ n → (∀ q ∈ ts, H q = some (.tbl #[])) → SqL K H a (ns.map V.int) → sp K [.ref a] H (fun v _ => v = .bl true) fun _ _ _ => False)
    (hCX : ∀ (H : Hp) (s : Shared) (e : Value) (s' : Shared), CX [] H s (fun _ _ _ => False) e s' → False) :
    PySem.W.WalkO q loose XP YP l.row.toRowW d [] (fun f vs => PySem.call f vs) := by
  refine Att.attach_call hn hdf fun w s₀ s₁ mg mb fa o pm cd doc a vs ns G Y ho hd hcd hmg hobj hints hlen hg => ?_
  have KX := hY w _ Y
  obtain ⟨hC, fd, hb, hF⟩ := F w mg fa _ KX G.T.g hmg
  have pairs : ∀ l : List Addr, (∀ q ∈ l, ∃ c, PySem.W.codeHdIn (K w.params) c q = true) → ∃ ps : List (Addr × Addr), ps.map (·.2) = l ∧ ∀ q ∈ ps, PySem.W.codeHdIn (K w.params) q.1 q.2 = true := by
    intro l
    induction l with
    | nil => exact fun _ => ⟨[], rfl, fun q m => nomatch m⟩
    | cons x r ih =>
      intro h
      obtain ⟨c, hc⟩ := h x List.mem_cons_self
      obtain ⟨ps, e, hp⟩ := ih fun q m => h q (List.mem_cons_of_mem _ m)
      refine ⟨(c, x) :: ps, by rw [List.map_cons, e], fun q m => ?_⟩
      rcases List.mem_cons.mp m with z | z
      · rw [z]; exact hc
      · exact hp q z
  obtain ⟨ps, e, hp⟩ := pairs ts hC
  have hT' : ∀ q ∈ ps, s₁.heap.get? q.2 = some (PySem.W.tabObj #[]) := fun q m => hT w _ Y q.2 (by rw [← e]; exact List.mem_map_of_mem (f := (·.2)) m)
  exact law_call2 (ts := ps) KX G.T.g G.T.b G.T.builtins G.T.nolimit hg G.T.bmain (fun q m => ⟨PySem.W.codeHd_of_K KX (hp q m), hT' q m⟩) (hnt _) hobj hints (Nat.le_trans hlen hn2) hr hF hb
    (fun H hO hS => hsp _ H a ns hlen (fun q m => by rw [← e] at m; obtain ⟨r, hr, rfl⟩ := List.mem_map.mp m; exact hO.tabs r hr) hS) fun H e s' => hCX H s₁ e s'
end L2

set_option Elab.async false
set_option linter.all false
set_option maxRecDepth 100000
set_option maxHeartbeats 4000000
namespace L2
open PySem PySem.Spec PyProof.Rows
section
variable {X : Cx} {e a : Expr} {es : List Expr} {t : TA} {ta te : TE} {p pos : Pos} {K : PySem.W.Frag}

theorem j_defC {k : Nat} {x : Str} {ps : List Str} {sp : Sp} (fr : List Str) (is : List Nat) (D : Def X.prog X.w X.K X.mg X.base k x ps sp) (hr : Room k X.A) (hg : Gl X x) (ha : JA X (e :: es) t)
    (hfr : (fr.zip is).all (fun q => X.N[q.2]? == some q.1 && X.env.scope.names.lookup q.1 == some .cell && X.fn q.1) = true) (hl : is.length = fr.length := by rfl) (hnd : fr.Nodup := by decide +kernel) (hdb : (x == ("__debug__" : Str)) = false := by decide)
    (hst : noStars (e :: es) = true := by rfl) : JE X (.Call (.Name x p) (e :: es) [] pos) (tDefC X.env X.N fr is sp t) := by
  refine .mk (pe_defC D hr hg ha.out hdb hst hl (fun j y i h1 h2 => ?_) hnd)
  have m : (y, i) ∈ fr.zip is := List.mem_iff_getElem?.mpr ⟨j, by rw [List.getElem?_zip_eq_some]; exact ⟨h1, h2⟩⟩
  have := List.all_eq_true.mp hfr _ m
  simp only [Bool.and_eq_true, beq_iff_eq] at this
  exact ⟨this.1.1, this.1.2, this.2⟩

def mNeg (ta : TE) : TE := fun σ H Q => ta σ H fun x H1 => match x with
  | .int i => Q (.int (-i)) H1
  | _ => False
theorem j_neg (ha : JE X a ta) : JE X (.UnaryOp .USub a pos) (mNeg ta) := by
  refine .mk ?_
  have h := pe_un (pos := pos) un_neg ha.out
  intro pins s σ H Q I q
  refine h pins s σ H Q I ?_
  unfold mNeg at q
  unfold tUn
  refine cast (congrArg (ta σ H) ?_) q
  funext x H1
  refine propext ⟨fun z => ?_, fun z => ?_⟩
  · split at z
    · exact ⟨_, rfl, z⟩
    · exact z.elim
  · obtain ⟨i, rfl, z⟩ := z
    exact z

end

structure FunC (K : PySem.W.Frag) (x : Str) (st : Stmt) (f : Addr) (fd : FuncData) (c : Addr) : Prop where
  ex : ∃ (oc : Value) (od : Option Addr) (kV doc pm : Value) (an : Option Addr) (ct : Value) (osl : Array (Option Value)),
    fd = PySem.W.fnOf x x (defArgs st) (defBody st) (defScope st) .none kV doc pm an (.ref c) ct ∧ K.lookup f = some ⟨oc, od, .func fd, osl⟩ ∧ PySem.W.codeIn K (.ref c) x = true
  kp : PySem.W.keepIn K (.ref f) = true
structure RawC (K : PySem.W.Frag) (mg : Str → Option Value) (x : Str) (st : Stmt) (ps : List Str) (c Pt : Addr) : Prop where
  ex : ∃ f fd, mg x = some (.ref f) ∧ FunC K x st f fd c ∧ ∀ (us : List Value), us.length = ps.length → bindArgs fd ⟨us, []⟩ = pure (ps.zip us)
  hd : PySem.W.codeHdIn K c Pt = true
theorem RawC.mk' {K : PySem.W.Frag} {mg : Str → Option Value} {h : Heap} {x : Str} {st : Stmt} {ps : List Str} {f c Pt : Addr} {oc : Value} {od an : Option Addr} {osl : Array (Option Value)} {kV doc pm ct : Value} (X : K.In h) (G : h.Ns mainGlobals mg)
    (a : PySem.W.nsIn K mainGlobals x = some (some (.ref f))) (l : K.lookup f = some ⟨oc, od, .func (PySem.W.fnOf x x (defArgs st) (defBody st) (defScope st) .none kV doc pm an (.ref c) ct), osl⟩)
    (cd : PySem.W.codeIn K (.ref c) x = true) (k : PySem.W.keepIn K (.ref f) = true) (hd : PySem.W.codeHdIn K c Pt = true)
    (hb : ∀ (us : List Value), us.length = ps.length → bindArgs (PySem.W.fnOf x x (defArgs st) (defBody st) (defScope st) .none kV doc pm an (.ref c) ct) ⟨us, []⟩ = pure (ps.zip us)) : RawC K mg x st ps c Pt :=
  ⟨⟨f, _, PySem.W.mg_of X G a, ⟨⟨oc, od, kV, doc, pm, an, ct, osl, rfl, l, cd⟩, k⟩, hb⟩, hd⟩
theorem FunC.lk {K : PySem.W.Frag} {x : Str} {st : Stmt} {f c : Addr} {fd : FuncData} (F : FunC K x st f fd c) : ∃ oc od osl, K.lookup f = some ⟨oc, od, .func fd, osl⟩ := by
  obtain ⟨oc, od, kV, doc, pm, an, ct, osl, _, lk, _⟩ := F.ex
  exact ⟨oc, od, osl, lk⟩
theorem RawC.defJ {P : Program} {w : World} {K : PySem.W.Frag} {mg : Str → Option Value} {base : Heap} {x : Str} {st : Stmt} {N ps : List Str} {k : Nat} {sp : Sp} {c Pt : Addr} (R : RawC K mg x st ps c Pt) (S : FnScope N ps (defScope st)) (len : ∀ vs H Q E, sp vs H Q E → vs.length = ps.length)
    (hbody : ∀ (f : Addr) (A : Around) (outer : List Env) (s : Shared) (H : Hp) (vs : List V) (Q : VK) (E : XK), Room k (A.deeper (envOfC x (defScope st) s.heap.objs.size f (.ref c))) → sp vs H Q E →
      ∃ t, JSs (cxOf CX0 P w K mg base N x (defScope st) f (.ref c) A outer s H E).nox (defBody st) t ∧ t { nx := fun _ H' => Q .non H', rt := Q } (start N vs) H) : Def P w K mg base (k + 1) x ps sp := by
  obtain ⟨f, fd, h1, F, b⟩ := R.ex
  have lk := F.lk
  obtain ⟨oc, od, kV, doc, pm, an, ct, osl, rfl, l, hcd⟩ := F.ex
  refine ⟨f, _, h1, F.kp, lk, .all b, fn_of l hcd S len fun A outer s H vs Q E hr hsp => ?_⟩
  obtain ⟨t, h, q⟩ := hbody f A outer s H vs Q E hr hsp
  exact ⟨t, h.out.nox, q⟩
end L2
namespace L2
open PySem
def ndPos (s : Stmt) : Pos := match s with
  | .FunctionDef _ _ _ _ _ _ _ _ _ p => p
  | _ => ⟨0, 0, 0, 0⟩
end L2

set_option Elab.async false
set_option linter.all false
set_option maxRecDepth 100000
set_option maxHeartbeats 4000000
namespace L2
open PySem PySem.Spec PyProof.Rows
section
variable {X : Cx} {e k : Expr} {es : List Expr} {t : TA} {te tk : TE} {p pos p2 : Pos} {K : PySem.W.Frag}
end
end L2

namespace Rg

def joinWith (sep : List Nat) : List (List Nat) → List Nat
  | [] => []
  | [p] => p
  | p :: q :: r => p ++ sep ++ joinWith sep (q :: r)
def okSign (c : Nat) : Prop := (32 ≤ c ∧ c ≤ 126 ∧ c ≠ 37) ∨ c = 10
end Rg

set_option linter.all false
namespace Rg
open PySem PySem.Builtin PySem.Builtin.Str

abbrev S (l : List Nat) : Str := ⟨l.toArray⟩
theorem S_inj {a b : List Nat} (h : S a = S b) : a = b := by
  have : (S a).cps.toList = (S b).cps.toList := by rw [h]
  simpa using this
theorem S_app (a b : List Nat) : S a ++ S b = S (a ++ b) := Str.ext' (by rw [Str.cps_append]; simp)
theorem S_len (a : List Nat) : (S a).length = a.length := by simp [Str.length]
theorem join_S (sep : List Nat) : ∀ ps : List (List Nat), Str.join (S sep) (ps.map S) = S (joinWith sep ps)
  | [] => rfl
  | [p] => rfl
  | p :: q :: r => by
    show S p ++ S sep ++ Str.join (S sep) ((q :: r).map S) = _
    rw [join_S sep (q :: r), S_app, S_app]
    rfl
theorem txtJoin_S (sep : List Nat) (ps : List (List Nat)) : Txt.join (S sep) (ps.map S) = S (joinWith sep ps) := by
  unfold Txt.join
  rw [StrLaws.glued_eq_join, join_S]

theorem in_S (l : List Nat) (c : Nat) : (!(occurrences (S l) ⟨#[c]⟩ 0 (S l).length 1).isEmpty) = decide (c ∈ l) := by
  have := StrLaws.found_one (S l) c
  simpa using this
def clipN (n : Nat) (d : Nat) : Option Int → Nat
  | none => d
  | some i => if i < 0 then (i + n).toNat else min i.toNat n
theorem sliceIdx (lo hi : Option Int) (n : Nat) : strSliceIndices lo hi 1 n = (List.range (clipN n n hi - clipN n 0 lo)).map (fun k => clipN n 0 lo + k) := by
  have clip : ∀ (v : Option Int) (d : Nat), (match v with | none => ((d : Nat) : Int) | some i => let i := if i < 0 then i + (n : Int) else i; if (1 : Int) > 0 then max 0 (min i n) else max (-1) (min i (n - 1))) = (clipN n d v : Int) := by
    intro v d
    cases v with
    | none => rfl
    | some i =>
      unfold clipN
      dsimp only
      rw [if_pos (by decide)]
      by_cases h : i < 0
      · rw [if_pos h, if_pos h]; omega
      · rw [if_neg h, if_neg h]; omega
  have e : strSliceIndices lo hi 1 n = sliceRange (clipN n 0 lo : Int) (clipN n n hi : Int) 1 := by
    rw [← clip lo 0, ← clip hi n]
    unfold strSliceIndices
    cases lo <;> cases hi <;> rfl
  rw [e]
  unfold sliceRange
  dsimp only
  rw [if_pos (by decide)]
  by_cases hlt : ((clipN n 0 lo : Nat) : Int) < (clipN n n hi : Int)
  · rw [if_pos hlt]
    have e3 : ((((clipN n n hi : Nat) : Int) - (clipN n 0 lo : Nat) + 1 - 1) / 1).toNat = clipN n n hi - clipN n 0 lo := by
      rw [Int.ediv_one]; omega
    rw [e3]
    refine List.map_congr_left fun k _ => ?_
    omega
  · rw [if_neg hlt]
    have : clipN n n hi - clipN n 0 lo = 0 := by omega
    rw [this]
    simp
theorem clipN_le {n d : Nat} (hd : d ≤ n) (v : Option Int) : clipN n d v ≤ n := by
  cases v with
  | none => exact hd
  | some i => unfold clipN; dsimp only; split <;> omega
def cut (l : List Nat) (lo hi : Option Int) : List Nat := (l.drop (clipN l.length 0 lo)).take (clipN l.length l.length hi - clipN l.length 0 lo)
theorem slice_S (l : List Nat) (lo hi : Option Int) : Txt.slice (S l) lo hi = S (cut l lo hi) := by
  have h1 := clipN_le (Nat.zero_le l.length) lo
  have h2 := clipN_le (Nat.le_refl l.length) hi
  have hp : (strSliceIndices lo hi 1 (S l).length).filterMap ((S l).cps[·]?) = cut l lo hi := by
    rw [S_len, sliceIdx]
    unfold cut
    by_cases h : clipN l.length 0 lo ≤ clipN l.length l.length hi
    · have := StrLaws.picks l (clipN l.length l.length hi - clipN l.length 0 lo) (clipN l.length 0 lo) (by omega)
      simpa using this
    · have e : clipN l.length l.length hi - clipN l.length 0 lo = 0 := by omega
      rw [e]
      simp
  unfold Txt.slice
  split
  · rename_i h
    have h3 : (strSliceIndices lo hi 1 (S l).length).length = (S l).length := by simpa using h
    rw [S_len, sliceIdx, List.length_map, List.length_range] at h3
    have e1 : clipN l.length 0 lo = 0 := by omega
    have e2 : clipN l.length l.length hi = l.length := by omega
    unfold cut
    rw [e1, e2]
    simp
  · rw [hp]
theorem clipN_nat (n d a : Nat) : clipN n d (some (a : Int)) = min a n := by
  unfold clipN
  dsimp only
  rw [if_neg (by omega), Int.toNat_natCast]
theorem clipN_none (n d : Nat) : clipN n d none = d := rfl
theorem cut_from (l : List Nat) (a : Nat) : cut l (some (a : Int)) none = l.drop a := by
  unfold cut
  rw [clipN_nat, clipN_none]
  by_cases h : a ≤ l.length
  · rw [show min a l.length = a by omega]
    exact List.take_of_length_le (by simp)
  · rw [List.drop_eq_nil_of_le (by omega : l.length ≤ a), List.drop_eq_nil_of_le (by omega : l.length ≤ min a l.length)]
    simp
theorem cut_to (l : List Nat) (b : Nat) : cut l none (some (b : Int)) = l.take b := by
  unfold cut
  rw [clipN_nat, clipN_none, List.drop_zero, Nat.sub_zero]
  by_cases h : b ≤ l.length
  · rw [show min b l.length = b by omega]
  · rw [show min b l.length = l.length by omega, List.take_of_length_le (Nat.le_refl _), List.take_of_length_le (by omega)]
end Rg

namespace Rg

structure Prt where
  d : Nat
  m : Nat
  l : List Nat
def tl (d : Nat) (sg : List Nat) (k c : Nat) : Bool := if d = 2 then sg[k]? == some c else if d = 0 then decide (c ∈ sg) else !decide (c ∈ sg)
def runA (t : Nat → Nat → Bool) : Nat → List Nat → Nat
  | _, [] => 0
  | k, c :: r => if t k c then runA t (k + 1) r + 1 else 0
theorem runA_le (t : Nat → Nat → Bool) : ∀ (k : Nat) (l : List Nat), runA t k l ≤ l.length
  | _, [] => Nat.le_refl _
  | k, c :: r => by
    unfold runA
    split
    · have := runA_le t (k + 1) r
      simp; omega
    · exact Nat.zero_le _
theorem runA_step {t : Nat → Nat → Bool} {l : List Nat} {p s c : Nat} (h : l[p + s]? = some c) : runA t s (l.drop (p + s)) = if t s c then runA t (s + 1) (l.drop (p + (s + 1))) + 1 else 0 := by
  obtain ⟨hlt, e⟩ := List.getElem?_eq_some_iff.mp h
  rw [List.drop_eq_getElem_cons hlt, e]
  rfl
theorem runA_end {t : Nat → Nat → Bool} {l : List Nat} {n s : Nat} (h : l.length ≤ n) : runA t s (l.drop n) = 0 := by
  rw [List.drop_of_length_le h]
  rfl
def mostN (p : Prt) (left : Nat) : Nat := if p.d = 2 then p.l.length else if p.m = 2 ∨ p.m = 3 then left + 1 else 1
def stN (p : Prt) (l : List Nat) (pl : Nat) : Nat := min (mostN p (l.length - pl)) (runA (tl p.d p.l) 0 (l.drop pl))
def lkN (p : Prt) (l : List Nat) (pl : Nat) : Nat := min (stN p l pl + 1) (mostN p (l.length - pl))
def holdsN (p : Prt) (st : Nat) : Bool := if p.m = 1 ∨ p.m = 3 then true else decide ((if p.d = 2 then p.l.length else 1) ≤ st) == decide (p.m ≠ 5)
def nextN (p : Prt) (l : List Nat) (pl : Nat) : Nat := if p.m = 4 ∨ p.m = 5 then pl else pl + stN p l pl
def goF (l : List Nat) (at_ : Nat) : List Prt → Nat → Nat → Nat × Nat
  | [], pl, lk => (pl - at_, lk)
  | p :: ps, pl, lk => if holdsN p (stN p l pl) then goF l at_ ps (nextN p l pl) (max lk (pl - at_ + lkN p l pl)) else (0, max lk (pl - at_ + lkN p l pl))
def takeF (ps : List Prt) (l : List Nat) (at_ : Nat) : Nat × Nat := goF l at_ ps at_ 0
def askP (p : Prt) (l : List Nat) (pl : Nat) : List Nat := (List.range (min (lkN p l pl) (l.length - pl))).map (pl + ·)
def askF (l : List Nat) : List Prt → Nat → List Nat
  | [], _ => []
  | p :: ps, pl => askP p l pl ++ if holdsN p (stN p l pl) then askF l ps (nextN p l pl) else []
theorem stN_le (p : Prt) (l : List Nat) (pl : Nat) : stN p l pl ≤ l.length - pl := by
  unfold stN
  have := runA_le (tl p.d p.l) 0 (l.drop pl)
  rw [List.length_drop] at this
  omega
theorem lkN_le (p : Prt) (l : List Nat) (pl : Nat) : lkN p l pl ≤ l.length - pl + 1 := by
  have := stN_le p l pl
  unfold lkN
  omega
theorem stN_lk (p : Prt) (l : List Nat) (pl : Nat) : stN p l pl ≤ lkN p l pl := by
  unfold lkN stN
  omega
theorem nextN_le {p : Prt} {l : List Nat} {pl : Nat} (h : pl ≤ l.length) : pl ≤ nextN p l pl ∧ nextN p l pl ≤ l.length := by
  have := stN_le p l pl
  unfold nextN
  split <;> omega
theorem goF_lk (l : List Nat) (a : Nat) : ∀ (ps : List Prt) (pl lk : Nat), lk ≤ (goF l a ps pl lk).2
  | [], pl, lk => Nat.le_refl _
  | p :: ps, pl, lk => by
    unfold goF
    split
    · have := goF_lk l a ps (nextN p l pl) (max lk (pl - a + lkN p l pl))
      omega
    · show lk ≤ max lk _
      omega
theorem goF_le (l : List Nat) (a : Nat) : ∀ (ps : List Prt) (pl lk : Nat), a ≤ pl → pl ≤ l.length → a + lk ≤ l.length + 1 → a + (goF l a ps pl lk).2 ≤ l.length + 1 ∧ a + (goF l a ps pl lk).1 ≤ l.length
  | [], pl, lk, h1, h2, h3 => by
    show a + lk ≤ _ ∧ a + (pl - a) ≤ _
    omega
  | p :: ps, pl, lk, h1, h2, h3 => by
    have hl := lkN_le p l pl
    have hn := nextN_le (p := p) h2
    unfold goF
    split
    · exact goF_le l a ps _ _ (by omega) hn.2 (by omega)
    · show a + max lk _ ≤ _ ∧ a + 0 ≤ _
      omega
theorem askF_mem (l : List Nat) (a : Nat) : ∀ (ps : List Prt) (pl lk : Nat), a ≤ pl → pl ≤ l.length → pl - a ≤ lk → ∀ k, (k ∈ askF l ps pl ∨ (a ≤ k ∧ k < a + lk ∧ k < l.length)) ↔ (a ≤ k ∧ k < a + (goF l a ps pl lk).2 ∧ k < l.length)
  | [], pl, lk, h1, h2, h3, k => by
    show k ∈ ([] : List Nat) ∨ _ ↔ (a ≤ k ∧ k < a + lk ∧ k < l.length)
    simp
  | p :: ps, pl, lk, h1, h2, h3, k => by
    have hst := stN_lk p l pl
    have hn := nextN_le (p := p) h2
    have hk : k ∈ askP p l pl ↔ pl ≤ k ∧ k < pl + lkN p l pl ∧ k < l.length := by
      unfold askP
      rw [List.mem_map]
      constructor
      · rintro ⟨j, hj, rfl⟩
        rw [List.mem_range] at hj
        omega
      · intro h
        exact ⟨k - pl, List.mem_range.mpr (by omega), by omega⟩
    unfold askF goF
    rw [List.mem_append, hk]
    split
    · have ih := askF_mem l a ps (nextN p l pl) (max lk (pl - a + lkN p l pl)) (by omega) hn.2 (by unfold nextN; split <;> omega) k
      rw [← ih]
      constructor
      · rintro ((z | z) | z)
        · exact .inr (by omega)
        · exact .inl z
        · exact .inr (by omega)
      · rintro (z | z)
        · exact .inl (.inr z)
        · by_cases q : k < a + lk
          · exact .inr (by omega)
          · exact .inl (.inl (by omega))
    · show ((pl ≤ k ∧ _) ∨ k ∈ ([] : List Nat)) ∨ _ ↔ (a ≤ k ∧ k < a + max lk _ ∧ k < l.length)
      simp
      omega
theorem askF_len (l : List Nat) : ∀ (ps : List Prt) (pl : Nat), (askF l ps pl).length ≤ ps.length * (l.length + 1)
  | [], _ => Nat.zero_le _
  | p :: ps, pl => by
    have h1 : (askP p l pl).length ≤ l.length := by unfold askP; simp; omega
    unfold askF
    rw [List.length_append]
    have h2 : (if holdsN p (stN p l pl) then askF l ps (nextN p l pl) else []).length ≤ ps.length * (l.length + 1) := by
      split
      · exact askF_len l ps _
      · exact Nat.zero_le _
    rw [List.length_cons, Nat.add_mul]
    omega

theorem runA_agree {t : Nat → Nat → Bool} : ∀ (k : Nat) (l l' : List Nat) (n : Nat), (∀ i, i < n → l[i]? = l'[i]?) → min n (runA t k l) = min n (runA t k l')
  | k, l, l', 0, _ => by simp
  | k, [], [], n + 1, _ => rfl
  | k, [], c :: r, n + 1, h => by
    have := h 0 (by omega)
    simp at this
  | k, c :: r, [], n + 1, h => by
    have := h 0 (by omega)
    simp at this
  | k, c :: r, c' :: r', n + 1, h => by
    have h0 := h 0 (by omega)
    simp at h0
    subst h0
    have ih := runA_agree (t := t) (k + 1) r r' n fun i hi => by
      have := h (i + 1) (by omega)
      simpa using this
    unfold runA
    split
    · omega
    · rfl
end Rg

set_option Elab.async false
set_option linter.all false
set_option maxRecDepth 100000
set_option maxHeartbeats 4000000
namespace Rg
open PySem PySem.Spec PyProof.Rows L2

def deedS : Nat → Str
  | 0 => "in"
  | 1 => "out"
  | _ => "row"
def manyS : Nat → Str
  | 0 => "once"
  | 1 => "maybe"
  | 2 => "some"
  | 3 => "any"
  | 4 => "ahead"
  | _ => "not"
structure Prt.Ok (p : Prt) : Prop where
  hd : p.d < 3
  hm : p.m < 6
  row : p.d = 2 → p.m = 0 ∨ p.m = 4 ∨ p.m = 5
  l1 : 1 ≤ p.l.length
  l2 : p.l.length ≤ 100
  ok : ∀ c ∈ p.l, okSign c
def Prt.dat (p : Prt) : PyData := .tuple [.str (deedS p.d), .str (S p.l), .str (manyS p.m)]
theorem big : (1000000 : Nat) < sizeLine := by rw [sizeLine_eq]; decide
theorem dat_part {K : PySem.W.Frag} {H : Hp} {x : V} {p : Prt} (h : DatV K H x p.dat) : ∃ t, x = .ref t ∧ SqT K H t [.str (deedS p.d), .str (S p.l), .str (manyS p.m)] := by
  unfold Prt.dat at h
  cases h with
  | tuple h1 h2 =>
    cases h2 with
    | cons a b =>
      cases a
      cases b with
      | cons a b =>
        cases a
        cases b with
        | cons a b =>
          cases a
          cases b
          exact ⟨_, rfl, h1⟩
theorem dat_list {K : PySem.W.Frag} {H : Hp} {x : V} {ds : List PyData} (h : DatV K H x (.list ds)) : ∃ a xs, x = .ref a ∧ SqL K H a xs ∧ DatVs K H xs ds := by
  cases h with
  | list h1 h2 => exact ⟨_, _, rfl, h1, h2⟩
theorem strOk_S {l : List Nat} (h : ∀ c ∈ l, okSign c) : PyData.strOk (S l) = true := by
  unfold PyData.strOk
  simp
  intro c hc
  have := h c hc
  unfold okSign at this
  omega
theorem deed_row (d : Nat) (h : d < 3) : (decide (deedS d = "row")) = decide (d = 2) := by
  have h3 : d = 0 ∨ d = 1 ∨ d = 2 := by omega
  rcases h3 with rfl | rfl | rfl <;> decide +kernel
theorem deed_in (d : Nat) (h : d < 3) : (decide (deedS d = "in")) = decide (d = 0) := by
  have h3 : d = 0 ∨ d = 1 ∨ d = 2 := by omega
  rcases h3 with rfl | rfl | rfl <;> decide +kernel
theorem many_cases {m : Nat} (h : m < 6) : m = 0 ∨ m = 1 ∨ m = 2 ∨ m = 3 ∨ m = 4 ∨ m = 5 := by omega

def Kp (la : Addr) (H H' : Hp) : Prop := ∀ b u, b ≠ la → H b = some u → H' b = some u
theorem Kp.refl {la : Addr} (H : Hp) : Kp la H H := fun _ _ _ e => e
theorem Kp.trans {la : Addr} {H H1 H2 : Hp} (a : Kp la H H1) (b : Kp la H1 H2) : Kp la H H2 := fun c u n e => b c u n (a c u n e)
theorem Kp.of {la : Addr} {H H' : Hp} (s : Same H H') : Kp la H H' := fun b u _ e => s b u e
theorem Kp.seq {K : PySem.W.Frag} {H H' : Hp} {la a : Addr} {xs : List V} (e : Kp la H H') (hn : a ≠ la) (h : SqL K H a xs) : SqL K H' a xs := by
  rcases h with h | h
  · refine .inl ?_
    rcases h with h | ⟨o, h⟩
    · exact .inl (e _ _ hn h)
    · exact .inr ⟨o, e _ _ hn h⟩
  · exact .inr h
theorem Kp.seqT {K : PySem.W.Frag} {H H' : Hp} {la a : Addr} {xs zs : List V} (e : Kp la H H') (hl : H la = some (.lst zs)) (h : SqT K H a xs) : SqT K H' a xs := by
  rcases h with h | h
  · refine .inl ?_
    rcases h with h | ⟨o, h⟩
    · exact .inl (e _ _ (fun z => by rw [z, hl] at h; cases h) h)
    · exact .inr ⟨o, e _ _ (fun z => by rw [z, hl] at h; cases h) h⟩
  · exact .inr h

structure AskAt (H : Hp) (an aq : Str) (ast : Stmt) (afr : List Str) (f la : Addr) (tx as : List Nat) : Prop where
  clo : ∃ cs, CloAt H f an aq ast afr cs [.ref la, .str (S tx)]
  lst : H la = some (.lst (as.map fun k => V.int (k : Nat)))
theorem AskAt.put {H : Hp} {an aq : Str} {ast : Stmt} {afr : List Str} {f la : Addr} {tx as : List Nat} (h : AskAt H an aq ast afr f la tx as) (as' : List Nat) : Kp la H (upd H la (.lst (as'.map fun k => V.int (k : Nat)))) ∧ AskAt (upd H la (.lst (as'.map fun k => V.int (k : Nat)))) an aq ast afr f la tx as' := by
  refine ⟨fun b u n e => by rw [upd_ne n]; exact e, ?_, upd_same⟩
  obtain ⟨cs, C⟩ := h.clo
  refine ⟨cs, C.same fun b o k => ?_⟩
  have k' : H b = some (.frz o anyHO) := k
  show upd _ _ _ b = _
  rw [upd_ne fun z => by rw [z, h.lst] at k'; cases k']
  exact k
theorem AskAt.mono {H H' : Hp} {an aq : Str} {ast : Stmt} {afr : List Str} {f la : Addr} {tx as : List Nat} (h : AskAt H an aq ast afr f la tx as) (s : Same H H') : AskAt H' an aq ast afr f la tx as := by
  obtain ⟨cs, C⟩ := h.clo
  exact ⟨⟨cs, C.same fun b o k => s b _ k⟩, s _ _ h.lst⟩
theorem AskAt.fn {H : Hp} {an aq : Str} {ast : Stmt} {afr : List Str} {f la : Addr} {tx as : List Nat} (h : AskAt H an aq ast afr f la tx as) : ∃ oc od fd sl, Kn H f ⟨oc, od, .func fd, sl⟩ := by
  obtain ⟨cs, C⟩ := h.clo
  obtain ⟨cl, ⟨doc, pm, c', ctv, oc, vs, t, h1, _⟩, _⟩ := C.ex
  exact ⟨_, _, _, _, h1⟩

def okB (c : Nat) : Bool := (32 ≤ c && c ≤ 126 && c != 37) || c == 10
theorem okB_ok {c : Nat} (h : okB c = true) : okSign c := by
  unfold okB at h
  simp at h
  unfold okSign
  omega
theorem all95 {x : Str} {Q : Nat → Prop} (hl : x.cps.toList.length = 95) (ha : x.cps.toList.all okB = true) (c : Int) (q : ∀ k, okSign k → Q k) : ∃ k, atI x.cps.toList (c % 95) = some k ∧ Q k := by
  have h1 : (c % 95).toNat < x.cps.toList.length := by omega
  refine ⟨x.cps.toList[(c % 95).toNat], ?_, q _ (okB_ok (List.all_eq_true.mp ha _ (List.getElem_mem h1)))⟩
  have e : (((c % 95).toNat : Nat) : Int) = c % 95 := by omega
  have key := atI_nat (xs := x.cps.toList) (j := (c % 95).toNat) (v := x.cps.toList[(c % 95).toNat]) (by simp [h1])
  rw [e] at key
  exact key
theorem joinOk_of {sep : Str} {texts : List Str} {B : Nat} (hB : ∀ y ∈ texts, y.length ≤ B) (h : texts.length * B + texts.length * sep.length ≤ 16777216) : JoinOk sep texts = true := by
  unfold JoinOk
  rw [Bool.not_eq_true']
  exact StrLaws.joinFits hB h
theorem joinWith_single : ∀ l : List Nat, joinWith [] (l.map fun k => [k]) = l
  | [] => rfl
  | [k] => rfl
  | k :: j :: r => by
    show [k] ++ [] ++ joinWith [] ((j :: r).map fun k => [k]) = _
    rw [joinWith_single (j :: r)]
    rfl
theorem join_single (l : List Nat) : Txt.join (S []) (l.map fun k => S [k]) = S l := by
  have := txtJoin_S [] (l.map fun k => [k])
  rw [List.map_map, joinWith_single] at this
  exact this
theorem atI_text {l : List Nat} {k c : Nat} (h : l[k]? = some c) : atI (S l).cps.toList ((k : Nat) : Int) = some c := by
  have : (S l).cps.toList[k]? = some c := by simpa using h
  exact atI_nat this

theorem cut_ints (ns : List Int) (lo hi : Option Int) : ∃ ms : List Int, cutV (ns.map V.int) lo hi = ms.map V.int ∧ ms.length ≤ ns.length := by
  unfold cutV
  refine ⟨(ns.drop (HT.sIx (ns.map V.int).length 0 lo)).take (HT.sIx (ns.map V.int).length (ns.map V.int).length hi - HT.sIx (ns.map V.int).length 0 lo), ?_, ?_⟩
  · rw [List.map_take, List.map_drop]
  · rw [List.length_take, List.length_drop]; omega
theorem foldl_app : ∀ (n : Nat) (a b : Array Nat), ((List.replicate n a).foldl (· ++ ·) b).toList = b.toList ++ (List.replicate n a.toList).flatten
  | 0, a, b => by simp
  | n + 1, a, b => by
    rw [List.replicate_succ, List.foldl_cons, foldl_app n a (b ++ a), List.replicate_succ, List.flatten_cons]
    simp
theorem mul_S (l : List Nat) (n : Nat) : Txt.mul (S l) ((n : Nat) : Int) = S (List.replicate n l).flatten := by
  unfold Txt.mul
  cases n with
  | zero =>
    rw [if_pos (by decide)]
    rfl
  | succ n =>
    rw [if_neg (by omega)]
    split
    · rename_i h
      rw [Bool.or_eq_true, beq_iff_eq, beq_iff_eq, S_len] at h
      rcases h with h | h
      · have : n = 0 := by omega
        subst this
        simp
      · have : l = [] := List.length_eq_zero_iff.mp h
        subst this
        simp
    · refine Str.ext' ?_
      have := foldl_app (n + 1) (S l).cps #[]
      have e : (((n + 1 : Nat) : Int)).toNat = n + 1 := by omega
      rw [e]
      refine Array.toList_inj.mp ?_
      rw [this]
      simp
theorem mulOk_S {l : List Nat} {n : Nat} (h : l.length ≤ 10000) (hn : n ≤ 100) : MulOk (S l) ((n : Nat) : Int) := by
  have hmul : l.length * n ≤ 10000 * 100 := Nat.mul_le_mul h hn
  refine ⟨?_, fun h1 _ => ?_, fun _ _ => ?_⟩
  · rw [Bool.or_eq_false_iff, decide_eq_false_iff_not, decide_eq_false_iff_not]
    omega
  · rw [S_len]
    have : (100000 : Int) ≤ (2 ^ 63 - 1) / ((n : Nat) : Int) := by
      refine (Int.le_ediv_iff_mul_le (by omega)).mpr ?_
      omega
    omega
  · rw [S_len]
    have e : (((n : Nat) : Int)).toNat = n := by omega
    rw [e]
    have := big
    show decide (l.length * n > sizeLine) = false
    rw [decide_eq_false_iff_not]
    omega

theorem made_same {H H' : Hp} {f : Addr} {name qual : Str} {st : Stmt} {cl : List (Str × Addr)} (M : Made H f name qual st cl) (s : Same H H') : Made H' f name qual st cl := by
  obtain ⟨doc, pm, c', ctv, oc, vs, t, h1, h2, h3⟩ := M.ex
  exact ⟨doc, pm, c', ctv, oc, vs, t, s _ _ h1, s _ _ h2, h3⟩
theorem lent2 {H : Hp} {f : Addr} {name qual : Str} {st : Stmt} {env : Env} {N : List Str} {σ : L2.St} {fr : List Str} {cs : List Addr} {os : List Obj} {ws : List V} (M : Made H f name qual st (closOf env (defScope st).names [])) (F : Froz env N σ fr cs os) (hn : ∀ c ∈ cs, H c = none) (hN : N.Nodup) (hnd : fr.Nodup)
    (hall : (defScope st).names.all (fun y => y.2 != .free || fr.contains y.1) = true) (hfre : fr.all (fun x => (defScope st).names.contains (x, NameKind.free)) = true) (hl : ws.length = fr.length)
    (hw : ∀ j, j < fr.length → ∃ i : Nat, N[i]? = fr[j]? ∧ σ[i]? = some ws[j]?) : CloAt (froz cs os H) f name qual st fr cs ws := by
  refine CloAt.lent M F hn hN hnd (fun y hy hk => ?_) (fun x hx => ?_) hl fun j i x v h1 h2 h3 => ?_
  · have := List.all_eq_true.mp hall y hy
    rw [hk] at this
    simpa using this
  · have := List.all_eq_true.mp hfre x hx
    simpa using this
  · obtain ⟨i0, a1, a2⟩ := hw j (List.getElem?_eq_some_iff.mp h1).1
    rw [h1] at a1
    have := nodup_ix hN h2 a1
    subst this
    rw [h3] at a2
    exact (Option.some.inj a2).symm
theorem froz_some {cs : List Addr} {os : List Obj} {H : Hp} {b : Addr} {u : HO} (hn : ∀ c ∈ cs, H c = none) (e : H b = some u) : froz cs os H b = some u := by
  rw [froz_out fun m => by rw [hn b m] at e; cases e]
  exact e
theorem froz_none {cs : List Addr} {os : List Obj} {H : Hp} {b : Addr} (nd : cs.Nodup) (hl : os.length = cs.length) (e : froz cs os H b = none) : b ∉ cs := fun m => by
  obtain ⟨j, o, _, _, k⟩ := froz_in (H := H) nd hl m
  unfold Kn at k
  rw [e] at k
  cases k
theorem SmB.trans {Pt : Addr} {H H1 H2 : Hp} (a : SmB Pt H H1) (b : SmB Pt H1 H2) : SmB Pt H H2 := fun c u n e => b c u n (a c u n e)
theorem SmB.of {Pt : Addr} {H H' : Hp} (s : Same H H') : SmB Pt H H' := fun b u _ e => s b u e
theorem SmB.seq {K : PySem.W.Frag} {H H' : Hp} {Pt a : Addr} {xs : List V} {ps : Array Value} (e : SmB Pt H H') (hp : H Pt = some (.tbl ps)) (h : SqL K H a xs) : SqL K H' a xs := by
  rcases h with h | h
  · refine .inl ?_
    rcases h with h | ⟨o, h⟩
    · exact .inl (e _ _ (fun z => by rw [z, hp] at h; cases h) h)
    · exact .inr ⟨o, e _ _ (fun z => by rw [z, hp] at h; cases h) h⟩
  · exact .inr h
theorem TabOk.tab {H : Hp} {Pt : Addr} {qs : List (Pos × Str)} (T : TabOk H Pt qs) : ∃ ps, H Pt = some (.tbl ps) := by
  obtain ⟨l, e, _⟩ := T.ex
  exact ⟨_, e⟩
theorem TabOk.grow {H H' : Hp} {Pt : Addr} {qs : List (Pos × Str)} (T : TabOk H Pt qs) (s : Same H H') : TabOk H' Pt qs := by
  obtain ⟨l, e, h⟩ := T.ex
  exact T.same ((s _ _ e).trans e.symm) fun b o k => s b _ k
theorem TabOk.start {H : Hp} {Pt : Addr} {qs : List (Pos × Str)} (e : H Pt = some (.tbl #[])) : TabOk H Pt qs := ⟨[], e, fun q m => nomatch m⟩

theorem ask_all (l : List Nat) (a : Nat) (ps : List Prt) (ha : a ≤ l.length) (k : Nat) : k ∈ askF l ps a ↔ a ≤ k ∧ k < min (a + (takeF ps l a).2) l.length := by
  have := askF_mem l a ps a 0 (Nat.le_refl _) ha (by omega) k
  unfold takeF
  constructor
  · intro h
    have := this.mp (.inl h)
    omega
  · intro h
    rcases this.mpr (by omega) with z | z
    · exact z
    · omega
end Rg

set_option Elab.async false
set_option linter.all false
set_option maxRecDepth 100000
set_option maxHeartbeats 4000000
namespace L2
open PySem PySem.Spec PyProof.Rows

theorem Inv.turnedL {X : Cx} {pins : List (Addr × Obj)} {σ : List (Option V)} {H : Hp} {s : Shared} {h' : Heap} {t' : Nat} {fp : List Addr} (I : Inv X pins σ H s) (k : ∀ b o, b ∉ fp → s.heap.get? b = some o → h'.get? b = some o)
    (hf : ∀ b ∈ fp, FpOk X pins H b) : Inv X pins σ H { s with heap := h', toks := t' } := by
  have nit : ∀ b u, H b = some u → b ∉ fp := fun b u e z => by rw [(hf b z).1] at e; cases e
  refine I.step (g' := s.gens) (d' := s.drawn) (ch := fp) (fun b hb => ?_) (fun b o _ _ hc e _ => k b o hc e) (fun b o _ _ hc e _ => ⟨o.slots, k b o hc e⟩) (fun _ _ _ _ n => n)
    (fun b o hc e => ⟨o, k b o hc e⟩) (fun _ _ e => e) (fun _ _ _ e => e) (fun b ps e => ⟨#[], by rw [e]; simp⟩) (fun m hm => ?_) (fun b u e => ?_) I.bare
  · obtain ⟨_, f1, _, f3, f4, f5⟩ := hf b hb
    exact ⟨f3, f1, f4, f5⟩
  · obtain ⟨o, es, ep, ho, r⟩ := hm
    exact ⟨o, es, ep, k _ o (fun z => (hf _ z).2.1 rfl) ho, r⟩
  · refine (I.hok b u e).stay (fun c v hc q => k c v ?_ q) (fun _ q => q) fun _ _ q => q
    rcases hc with z | z
    · rw [z]; exact nit b u e
    · exact nit c _ z

section
variable {prog : Program} {w : World} {A : Around} {E : Value → Shared → Prop} {s : Shared}
theorem nextOf_tup_item {it l : Addr} {i : Nat} {items} {x : Value} {Q : Value → Shared → Prop} (hit : s.heap.IsTupleIter it l i)
    (hl : s.heap.IsTuple l items) (hx : items[i]? = some x)
    (hQ : ∀ h', h'.IsTupleIter it l (i + 1) → Heap.SameBut it s.heap h' → Q x { s with heap := h' }) :
    wpAny (model prog w) A (Builtin.SmallTypes.nextOf (.ref it)) Q E s := by
  obtain ⟨o, ho, hc, hd⟩ := id hit
  obtain ⟨ol, hol, _, nl, hdl⟩ := hl
  unfold Builtin.SmallTypes.nextOf
  refine wpAny_bind (wpAny_callSpecial?_slot (name := Str.ofString "__next__") hit.typeIs F.slot_tuple_iterator_next
    (wpAny_call_entry F.slot_tuple_iterator_next hit.typeIs F.entry_tuple_iterator_next ?_ (F.args_tuple_iterator_next_1 _)))
  show wpAny _ _ (field (.ref it) 0 >>= _) _ _ s
  refine wpAny_bind (wpAny_field ho hd (x := .ref l) rfl ?_)
  show wpAny _ _ (if (Value.ref l == Value.none) = true then _ else _) _ _ s
  rw [if_neg (show ¬ ((Value.ref l == Value.none) = true) from Bool.false_ne_true)]
  show wpAny _ _ (field (.ref it) 1 >>= _) _ _ s
  refine wpAny_bind (wpAny_field ho hd (x := .int i 0) rfl ?_)
  show wpAny _ _ (seqItems? (.ref l) >>= _) _ _ s
  refine wpAny_bind (wpAny_seqItems hol hdl ?_)
  simp only [Int.toNat_natCast, hx]
  refine wpAny_bind (wpAny_setField ho hd (by simp) (wpAny_pure ⟨x, rfl, wpAny_pure (hQ _ ?_ (Heap.SameBut.update ..))⟩))
  exact ⟨_, Heap.get?_update_self _ ho (Obj.isFreed_of_fields (Obj.data_mapFields hd _)), (Obj.cls_mapFields ..).trans hc, by
    rw [Obj.data_mapFields hd]; simp [rawInt]⟩
theorem nextOf_tup_end {it l : Addr} {i : Nat} {items} {Q : Value → Shared → Prop} (hh : A.handled = none)
    (hit : s.heap.IsTupleIter it l i) (hl : s.heap.IsTuple l items) (hx : items[i]? = none)
    (hE : ∀ h' e, Heap.ExtBut it s.heap h' → (∃ o, h'.get? e = some o ∧ o.cls = .type "StopIteration") → E (.ref e) { s with heap := h' }) :
    wpAny (model prog w) A (Builtin.SmallTypes.nextOf (.ref it)) Q E s := by
  obtain ⟨o, ho, hc, hd⟩ := id hit
  obtain ⟨ol, hol, _, nl, hdl⟩ := hl
  unfold Builtin.SmallTypes.nextOf
  refine wpAny_bind (wpAny_callSpecial?_slot (name := Str.ofString "__next__") hit.typeIs F.slot_tuple_iterator_next
    (wpAny_call_entry F.slot_tuple_iterator_next hit.typeIs F.entry_tuple_iterator_next ?_ (F.args_tuple_iterator_next_1 _)))
  show wpAny _ _ (field (.ref it) 0 >>= _) _ _ s
  refine wpAny_bind (wpAny_field ho hd (x := .ref l) rfl ?_)
  show wpAny _ _ (if (Value.ref l == Value.none) = true then _ else _) _ _ s
  rw [if_neg (show ¬ ((Value.ref l == Value.none) = true) from Bool.false_ne_true)]
  show wpAny _ _ (field (.ref it) 1 >>= _) _ _ s
  refine wpAny_bind (wpAny_field ho hd (x := .int i 0) rfl ?_)
  show wpAny _ _ (seqItems? (.ref l) >>= _) _ _ s
  refine wpAny_bind (wpAny_seqItems hol hdl ?_)
  simp only [Int.toNat_natCast, hx]
  refine wpAny_bind (wpAny_rule (wpAny_bind (wpAny_setField ho hd (by simp) ?_)))
  show wpAny _ _ (newExc (.type "StopIteration") [] >>= _) _ _ _
  refine wpAny_bind ?_
  simp only [newExc, newTuple]
  refine wpAny_bind (wpAny_newObj_type ?_ (by size_fits))
  refine wpAny_bind (m := firstArgMember _ _) (wpAny_of_eq (a := Value.none) (by first | rfl | (simp only [firstArgMember]; rfl)) ?_)
  refine wpAny_newObj_type ?_ (by size_fits)
  simp only [raiseNew]
  refine wpAny_bind (wpAny_handled ?_)
  first | rw [show A.in1.handled = none from hh] | rw [hh]
  refine wpAny_bind (wpAny_pure (wpAny_throw ?_))
  exact hE _ _ (((Heap.SameBut.update ..).extBut.push _).push _) ⟨_, Heap.get?_push_size _ rfl, rfl⟩

def ItAt (t : Bool) (h : Heap) (it a : Addr) (k : Nat) : Prop := match t with
  | true => h.IsTupleIter it a k
  | false => h.IsListIter it a k
def SrcAt (t : Bool) (h : Heap) (a : Addr) (xs : Array Value) : Prop := match t with
  | true => h.IsTuple a xs
  | false => h.IsList a xs
def itCls (t : Bool) : String := match t with
  | true => "tuple_iterator"
  | false => "list_iterator"
theorem ItAt.at {t : Bool} {h h' : Heap} {it a : Addr} {k : Nat} (x : ItAt t h it a k) (e : ∀ o, h.get? it = some o → h'.get? it = some o) : ItAt t h' it a k := by
  cases t with
  | true => obtain ⟨o, ho, r⟩ := x; exact ⟨o, e o ho, r⟩
  | false => obtain ⟨o, ho, r⟩ := x; exact ⟨o, e o ho, r⟩
theorem ItAt.obj {t : Bool} {h : Heap} {it a : Addr} {k : Nat} (x : ItAt t h it a k) : ∃ o, h.get? it = some o ∧ ∀ v, o.data ≠ .cell v := by
  cases t with
  | true => obtain ⟨o, ho, _, d⟩ := x; exact ⟨o, ho, fun v z => by rw [d] at z; cases z⟩
  | false => obtain ⟨o, ho, _, d⟩ := x; exact ⟨o, ho, fun v z => by rw [d] at z; cases z⟩
theorem SrcAt.at {t : Bool} {h h' : Heap} {a : Addr} {xs : Array Value} (x : SrcAt t h a xs) (e : ∀ o, h.get? a = some o → h'.get? a = some o) : SrcAt t h' a xs := by
  cases t with
  | true => obtain ⟨o, ho, r⟩ := x; exact ⟨o, e o ho, r⟩
  | false => obtain ⟨o, ho, r⟩ := x; exact ⟨o, e o ho, r⟩
theorem SrcAt.lt {t : Bool} {h : Heap} {a : Addr} {xs : Array Value} (x : SrcAt t h a xs) : a < h.objs.size := by
  cases t with
  | true => obtain ⟨o, ho, _⟩ := x; exact Heap.lt_size ho
  | false => obtain ⟨o, ho, _⟩ := x; exact Heap.lt_size ho
theorem nextOf_item {t : Bool} {it a : Addr} {k : Nat} {xs : Array Value} {x : Value} {Q : Value → Shared → Prop} (hit : ItAt t s.heap it a k) (hs : SrcAt t s.heap a xs) (hx : xs[k]? = some x)
    (hQ : ∀ h', ItAt t h' it a (k + 1) → Heap.SameBut it s.heap h' → Q x { s with heap := h' }) : wpAny (model prog w) A (Builtin.SmallTypes.nextOf (.ref it)) Q E s := by
  cases t with
  | true => exact nextOf_tup_item hit hs hx hQ
  | false => exact wpAny_nextOf_list_item hit hs hx hQ
theorem nextOf_end {t : Bool} {it a : Addr} {k : Nat} {xs : Array Value} {Q : Value → Shared → Prop} (hh : A.handled = none) (hit : ItAt t s.heap it a k) (hs : SrcAt t s.heap a xs) (hx : xs[k]? = none)
    (hE : ∀ h' e, Heap.ExtBut it s.heap h' → (∃ o, h'.get? e = some o ∧ o.cls = .type "StopIteration") → E (.ref e) { s with heap := h' }) : wpAny (model prog w) A (Builtin.SmallTypes.nextOf (.ref it)) Q E s := by
  cases t with
  | true => exact nextOf_tup_end hh hit hs hx hE
  | false => exact wpAny_nextOf_list_end hh hit hs hx hE
theorem pyIter_src {t : Bool} {a : Addr} {xs : Array Value} {Q : Value → Shared → Prop} (hs : SrcAt t s.heap a xs)
    (hQ : Q (.ref s.heap.objs.size) { s with heap := s.heap.push { cls := .type (itCls t), data := .fields #[.ref a, .int 0 0] } }) : wpAny (model prog w) A (pyIter (.ref a)) Q E s := by
  cases t with
  | true => exact wpAny_pyIter_tuple hs hQ
  | false => exact wpAny_pyIter_list hs hQ
theorem ItAt.new {t : Bool} {h : Heap} {it a : Addr} (e : h.get? it = some { cls := .type (itCls t), data := .fields #[.ref a, .int 0 0] }) : ItAt t h it a 0 := by
  cases t with
  | true => exact ⟨_, e, rfl, rfl⟩
  | false => exact ⟨_, e, rfl, rfl⟩

theorem zipN_item {t1 t2 : Bool} {z TI TO i1 i2 l1 l2 : Addr} {k1 k2 : Nat} {xs ys : Array Value} {x y a b : Value} {Q : Option Value → Shared → Prop} (D : ZipApart z TI TO i1 i2 l1 l2)
    (hz : IsZip s.heap z TI TO .none) (hTI : IsPair s.heap TI (.ref i1) (.ref i2)) (hTO : IsPair s.heap TO a b)
    (h1 : ItAt t1 s.heap i1 l1 k1) (h2 : ItAt t2 s.heap i2 l2 k2) (hl1 : SrcAt t1 s.heap l1 xs) (hl2 : SrcAt t2 s.heap l2 ys) (hx : xs[k1]? = some x) (hy : ys[k2]? = some y)
    (hQ : ∀ h', IsZip h' z TI TO (rawInt s.heap.objs.size) → IsPair h' TO x y → ItAt t1 h' i1 l1 (k1 + 1) → ItAt t2 h' i2 l2 (k2 + 1) → IsPair h' s.heap.objs.size x y → h'.objs.size = s.heap.objs.size + 1 →
      (∀ c o, c ≠ z → c ≠ TO → c ≠ i1 → c ≠ i2 → s.heap.get? c = some o → h'.get? c = some o) → Q (some (.ref s.heap.objs.size)) { s with heap := h' }) :
    wpAny (model prog w) A (pyNext (.ref z)) Q E s := by
  have hT : s.TypeIs (.ref z) "zip" := ⟨_, hz, rfl⟩
  unfold pyNext
  refine wpAny_bind (wpAny_attempt (wpAny_callSpecial?_slot (name := Str.ofString "__next__") hT F.slot_zip_next
    (wpAny_call_entry F.slot_zip_next hT F.entry_zip_next ?_ (F.args_zip_next_1 _))))
  show wpAny _ _ (field (.ref z) 2 >>= _) _ _ _
  refine wpAny_bind (wpAny_field hz rfl (x := .bool false) rfl ?_)
  show wpAny _ _ (field (.ref z) 3 >>= _) _ _ _
  refine wpAny_bind (wpAny_field hz rfl (x := .ref TI) rfl ?_)
  refine wpAny_bind (wpAny_seqItems hTI rfl ?_)
  show wpAny _ _ (Builtin.SmallTypes.ownedTupleIsFree (.ref z) >>= _) _ _ _
  refine wpAny_bind ?_
  unfold Builtin.SmallTypes.ownedTupleIsFree
  refine wpAny_bind (wpAny_field hz rfl (x := .none) rfl (wpAny_pure ?_))
  simp only [if_true]
  refine wpAny_bind (wpAny_rule ?_)
  refine wpAny_bind (wpAny_field hz rfl (x := .ref TO) rfl ?_)
  refine wpAny_bind (wpAny_setField_rec hz (by simp) fun h₁ hz₁ hs₁ => ?_)
  replace hz₁ : IsZip h₁ z TI TO .ellipsis := hz₁
  refine wpAny_bind ?_
  simp only [List.zipIdx_cons, List.zipIdx_nil, List.forIn_cons, List.forIn_nil]
  refine wpAny_bind (wpAny_bind (wpAny_onRaise ?_))
  show wpAny _ _ (Builtin.SmallTypes.nextOf (.ref i1) >>= _) _ _ _
  refine wpAny_bind (nextOf_item (h1.at fun o e => hs₁.extBut _ _ D.i1z e) (hl1.at fun o e => hs₁.extBut _ _ D.l1z e) hx fun h₂ h1₂ hs₂ => wpAny_pure ?_)
  have hTO₂ : IsPair h₂ TO a b := hs₂.extBut _ _ D.TOi1 (hs₁.extBut _ _ D.TOz hTO)
  refine wpAny_bind (wpAny_seqItems hTO₂ rfl ?_)
  refine wpAny_bind (wpAny_updateSeq_pair hTO₂ fun h₃ hTO₃ hs₃ => ?_)
  replace hTO₃ : IsPair h₃ TO x b := hTO₃
  refine wpAny_bind (wpAny_letGo (wpAny_pure ?_))
  refine wpAny_bind (wpAny_bind (wpAny_onRaise ?_))
  show wpAny _ _ (Builtin.SmallTypes.nextOf (.ref i2) >>= _) _ _ _
  refine wpAny_bind (nextOf_item (h2.at fun o e => hs₃.extBut _ _ D.TOi2.symm (hs₂.extBut _ _ D.i12.symm (hs₁.extBut _ _ D.i2z e)))
    (hl2.at fun o e => hs₃.extBut _ _ D.l2TO (hs₂.extBut _ _ D.l2i1 (hs₁.extBut _ _ D.l2z e))) hy fun h₄ h2₄ hs₄ => wpAny_pure ?_)
  have hTO₄ : IsPair h₄ TO x b := hs₄.extBut _ _ D.TOi2 hTO₃
  refine wpAny_bind (wpAny_seqItems hTO₄ rfl ?_)
  refine wpAny_bind (wpAny_updateSeq_pair hTO₄ fun h₅ hTO₅ hs₅ => ?_)
  replace hTO₅ : IsPair h₅ TO x y := hTO₅
  refine wpAny_bind (wpAny_letGo (wpAny_pure (wpAny_pure ?_)))
  refine wpAny_bind (wpAny_seqItems hTO₅ rfl ?_)
  refine wpAny_bind (wpAny_newTuple ?_)
  have hsz : h₅.objs.size = s.heap.objs.size := by rw [hs₅.1, hs₄.1, hs₃.1, hs₂.1, hs₁.1]
  have hz₅ : IsZip h₅ z TI TO .ellipsis := hs₅.extBut _ _ D.TOz.symm (hs₄.extBut _ _ D.i2z.symm (hs₃.extBut _ _ D.TOz.symm (hs₂.extBut _ _ D.i1z.symm hz₁)))
  have hk₅ : ∀ c o, c ≠ z → c ≠ TO → c ≠ i1 → c ≠ i2 → s.heap.get? c = some o → h₅.get? c = some o := fun c o c1 c2 c3 c4 e =>
    hs₅.extBut _ _ c2 (hs₄.extBut _ _ c4 (hs₃.extBut _ _ c2 (hs₂.extBut _ _ c3 (hs₁.extBut _ _ c1 e))))
  have h1₅ : ItAt t1 h₅ i1 l1 (k1 + 1) := h1₂.at fun o e => hs₅.extBut _ _ D.TOi1.symm (hs₄.extBut _ _ D.i12 (hs₃.extBut _ _ D.TOi1.symm e))
  have h2₅ : ItAt t2 h₅ i2 l2 (k2 + 1) := h2₄.at fun o e => hs₅.extBut _ _ D.TOi2.symm e
  have hzlt : z < h₅.objs.size := Heap.lt_size hz₅
  show wpAny _ _ (Builtin.SmallTypes.ownedTupleHandOut (.ref z) (.ref h₅.objs.size) >>= _) _ _ _
  refine wpAny_bind ?_
  unfold Builtin.SmallTypes.ownedTupleHandOut
  have hz₆ : IsZip (h₅.push { cls := .type "tuple", data := .seq #[x, y] }) z TI TO .ellipsis := Heap.get?_push_of_some _ hz₅
  refine wpAny_bind (wpAny_setField_rec hz₆ (by simp) fun h₇ hz₇ hs₇ => ?_)
  replace hz₇ : IsZip h₇ z TI TO (rawInt h₅.objs.size) := hz₇
  refine wpAny_setField_rec hz₇ (by simp) fun h₈ hz₈ hs₈ => ?_
  replace hz₈ : IsZip h₈ z TI TO (rawInt h₅.objs.size) := hz₈
  have up : ∀ c o, c ≠ z → h₅.get? c = some o → h₈.get? c = some o := fun c o c1 e => hs₈.extBut _ _ c1 (hs₇.extBut _ _ c1 (Heap.get?_push_of_some _ e))
  have hT₈ : IsPair h₈ h₅.objs.size x y := hs₈.extBut _ _ (Nat.ne_of_gt hzlt) (hs₇.extBut _ _ (Nat.ne_of_gt hzlt) (Heap.get?_push_size _ rfl))
  have hz8 : h₈.objs.size = h₅.objs.size + 1 := by rw [hs₈.1, hs₇.1, Heap.size_push]
  rw [hsz] at hz₈ hT₈ hz8
  refine wpAny_pure ⟨_, rfl, ?_⟩
  refine wpAny_pure ?_
  show Q (some (.ref h₅.objs.size)) _
  rw [hsz]
  exact hQ h₈ hz₈ (up _ _ D.TOz hTO₅) (h1₅.at fun o e => up _ o D.i1z e) (h2₅.at fun o e => up _ o D.i2z e) hT₈ hz8 fun c o c1 c2 c3 c4 e => up c o c1 (hk₅ c o c1 c2 c3 c4 e)
theorem zipN_end {t1 t2 : Bool} {z TI TO i1 i2 l1 l2 : Addr} {k1 k2 : Nat} {xs ys : Array Value} {a b : Value} {Q : Option Value → Shared → Prop} (hh : A.handled = none) (D : ZipApart z TI TO i1 i2 l1 l2)
    (hz : IsZip s.heap z TI TO .none) (hTI : IsPair s.heap TI (.ref i1) (.ref i2)) (hTO : IsPair s.heap TO a b)
    (h1 : ItAt t1 s.heap i1 l1 k1) (h2 : ItAt t2 s.heap i2 l2 k2) (hl1 : SrcAt t1 s.heap l1 xs) (hl2 : SrcAt t2 s.heap l2 ys) (hend : xs[k1]? = none ∨ ys[k2]? = none)
    (hQ : ∀ h', (∀ c o, c ≠ z → c ≠ TO → c ≠ i1 → c ≠ i2 → s.heap.get? c = some o → h'.get? c = some o) → Q none { s with heap := h' }) : wpAny (model prog w) A (pyNext (.ref z)) Q E s := by
  have hT : s.TypeIs (.ref z) "zip" := ⟨_, hz, rfl⟩
  have hE : ∀ h' e, (∀ c o, c ≠ z → c ≠ TO → c ≠ i1 → c ≠ i2 → s.heap.get? c = some o → h'.get? c = some o) → (∃ o, h'.get? e = some o ∧ o.cls = .type "StopIteration") →
      wpAny (model prog w) A (do if (← isInstance (.ref e) (.type "StopIteration")) then pure none else throw (.ref e)) Q E { s with heap := h' } := fun h' e hk he => by
    obtain ⟨o, ho, hc⟩ := he
    exact wpAny_bind (wpAny_isInstance (T := "StopIteration") (b := true) ⟨o, ho, hc⟩ isSubtype_stop (wpAny_pure (hQ _ hk)))
  unfold pyNext
  refine wpAny_bind (wpAny_attempt (wpAny_callSpecial?_slot (name := Str.ofString "__next__") hT F.slot_zip_next
    (wpAny_call_entry F.slot_zip_next hT F.entry_zip_next ?_ (F.args_zip_next_1 _))))
  show wpAny _ _ (field (.ref z) 2 >>= _) _ _ _
  refine wpAny_bind (wpAny_field hz rfl (x := .bool false) rfl ?_)
  show wpAny _ _ (field (.ref z) 3 >>= _) _ _ _
  refine wpAny_bind (wpAny_field hz rfl (x := .ref TI) rfl ?_)
  refine wpAny_bind (wpAny_seqItems hTI rfl ?_)
  show wpAny _ _ (Builtin.SmallTypes.ownedTupleIsFree (.ref z) >>= _) _ _ _
  refine wpAny_bind ?_
  unfold Builtin.SmallTypes.ownedTupleIsFree
  refine wpAny_bind (wpAny_field hz rfl (x := .none) rfl (wpAny_pure ?_))
  simp only [if_true]
  refine wpAny_bind (wpAny_rule ?_)
  refine wpAny_bind (wpAny_field hz rfl (x := .ref TO) rfl ?_)
  refine wpAny_bind (wpAny_setField_rec hz (by simp) fun h₁ hz₁ hs₁ => ?_)
  replace hz₁ : IsZip h₁ z TI TO .ellipsis := hz₁
  refine wpAny_bind ?_
  simp only [List.zipIdx_cons, List.zipIdx_nil, List.forIn_cons, List.forIn_nil]
  refine wpAny_bind (wpAny_bind (wpAny_onRaise ?_))
  show wpAny _ _ (Builtin.SmallTypes.nextOf (.ref i1) >>= _) _ _ _
  cases hx : xs[k1]? with
  | none =>
    refine wpAny_bind (nextOf_end hh (h1.at fun o e => hs₁.extBut _ _ D.i1z e) (hl1.at fun o e => hs₁.extBut _ _ D.l1z e) hx fun h₂ e hs₂ he => ?_)
    obtain ⟨oe, hoe, hce⟩ := he
    have hz₂ : IsZip h₂ z TI TO .ellipsis := hs₂ _ _ D.i1z.symm hz₁
    have hez : e ≠ z := fun x => by subst x; rw [hz₂] at hoe; cases hoe; simp at hce
    refine wpAny_setField_rec hz₂ (by simp) fun h₃ _ hs₃ => hE h₃ e (fun c o c1 _ c3 _ x => hs₃.extBut _ _ c1 (hs₂ _ _ c3 (hs₁.extBut _ _ c1 x))) ⟨oe, hs₃.extBut _ _ hez hoe, hce⟩
  | some x =>
    have hy : ys[k2]? = none := by rcases hend with h | h; rw [hx] at h; cases h; exact h
    refine wpAny_bind (nextOf_item (h1.at fun o e => hs₁.extBut _ _ D.i1z e) (hl1.at fun o e => hs₁.extBut _ _ D.l1z e) hx fun h₂ h1₂ hs₂ => wpAny_pure ?_)
    have hTO₂ : IsPair h₂ TO a b := hs₂.extBut _ _ D.TOi1 (hs₁.extBut _ _ D.TOz hTO)
    refine wpAny_bind (wpAny_seqItems hTO₂ rfl ?_)
    refine wpAny_bind (wpAny_updateSeq_pair hTO₂ fun h₃ hTO₃ hs₃ => ?_)
    refine wpAny_bind (wpAny_letGo (wpAny_pure ?_))
    refine wpAny_bind (wpAny_bind (wpAny_onRaise ?_))
    show wpAny _ _ (Builtin.SmallTypes.nextOf (.ref i2) >>= _) _ _ _
    refine wpAny_bind (nextOf_end hh (h2.at fun o e => hs₃.extBut _ _ D.TOi2.symm (hs₂.extBut _ _ D.i12.symm (hs₁.extBut _ _ D.i2z e)))
      (hl2.at fun o e => hs₃.extBut _ _ D.l2TO (hs₂.extBut _ _ D.l2i1 (hs₁.extBut _ _ D.l2z e))) hy fun h₄ e hs₄ he => ?_)
    obtain ⟨oe, hoe, hce⟩ := he
    have hz₄ : IsZip h₄ z TI TO .ellipsis := hs₄ _ _ D.i2z.symm (hs₃.extBut _ _ D.TOz.symm (hs₂.extBut _ _ D.i1z.symm hz₁))
    have hez : e ≠ z := fun x => by subst x; rw [hz₄] at hoe; cases hoe; simp at hce
    refine wpAny_setField_rec hz₄ (by simp) fun h₅ _ hs₅ => hE h₅ e (fun c o c1 c2 c3 c4 x => hs₅.extBut _ _ c1 (hs₄ _ _ c4 (hs₃.extBut _ _ c2 (hs₂.extBut _ _ c3 (hs₁.extBut _ _ c1 x))))) ⟨oe, hs₅.extBut _ _ hez hoe, hce⟩
end

def zipI (t1 : Bool) (h : Heap) (l1 : Addr) : Heap := h.push { cls := .type (itCls t1), data := .fields #[.ref l1, .int 0 0] }
def zipJ (t1 t2 : Bool) (h : Heap) (l1 l2 : Addr) : Heap := (zipI t1 h l1).push { cls := .type (itCls t2), data := .fields #[.ref l2, .int 0 0] }
def zipK (t1 t2 : Bool) (h : Heap) (l1 l2 : Addr) : Heap := (zipJ t1 t2 h l1 l2).push { cls := .type "tuple", data := .seq #[.ref h.objs.size, .ref (zipI t1 h l1).objs.size] }
def zipL (t1 t2 : Bool) (h : Heap) (l1 l2 : Addr) : Heap := (zipK t1 t2 h l1 l2).push { cls := .type "tuple", data := .seq #[.none, .none] }
def zipM (t1 t2 : Bool) (h : Heap) (l1 l2 : Addr) : Heap := (zipL t1 t2 h l1 l2).push { cls := .type "zip", data := .fields #[.none, .bool false, .bool false, .ref (zipJ t1 t2 h l1 l2).objs.size, .ref (zipK t1 t2 h l1 l2).objs.size] }
theorem meets_zip (t1 t2 : Bool) (l1 l2 : Addr) (xs ys : Array Value) :
    Meets (Builtin.«zip.__new__» ⟨[.type "zip", .ref l1, .ref l2], []⟩) (fun _ R s => SrcAt t1 s.heap l1 xs ∧ SrcAt t2 s.heap l2 ys ∧
      R (.ok (.ret (.ref (zipL t1 t2 s.heap l1 l2).objs.size))) { s with heap := zipM t1 t2 s.heap l1 l2 }) :=
  .of_wp fun prog w A R s h => by
    obtain ⟨hp, g, d, tk, os⟩ := s; obtain ⟨hl1, hl2, h⟩ := h
    have hsub := sub_zip
    have hL1 : SrcAt t1 (Shared.heap ⟨hp, g, d, tk, os⟩) l1 xs := hl1
    have hL2 : SrcAt t2 (Shared.heap ⟨hp.push { cls := .type (itCls t1), data := .fields #[.ref l1, .int 0 0] }, g, d, tk, os⟩) l2 ys := hl2.at fun o e => Heap.get?_push_of_some _ e
    wp_walk using pyIter_src hL1, pyIter_src hL2
    exact ⟨_, rfl, h⟩
end L2

set_option Elab.async false
set_option linter.all false
set_option maxRecDepth 100000
set_option maxHeartbeats 4000000
namespace L2
open PySem PySem.Spec PyProof.Rows
section
variable {prog : Program} {w : World} {A : Around} {E : Value → Shared → Prop} {s : Shared}
theorem call_zip {t1 t2 : Bool} {l1 l2 : Addr} {xs ys : Array Value} {Q : Value → Shared → Prop} (hl1 : SrcAt t1 s.heap l1 xs) (hl2 : SrcAt t2 s.heap l2 ys)
    (h : ∀ h', IsZip h' (s.heap.objs.size + 4) (s.heap.objs.size + 2) (s.heap.objs.size + 3) .none → IsPair h' (s.heap.objs.size + 2) (.ref s.heap.objs.size) (.ref (s.heap.objs.size + 1)) →
      IsPair h' (s.heap.objs.size + 3) .none .none → ItAt t1 h' s.heap.objs.size l1 0 → ItAt t2 h' (s.heap.objs.size + 1) l2 0 →
      (∀ c o, s.heap.get? c = some o → h'.get? c = some o) → Q (.ref (s.heap.objs.size + 4)) { s with heap := h' }) :
    wpAny (model prog w) A (call (.type "zip") [.ref l1, .ref l2]) Q E s := by
  refine callType_new F.called_zip (by decide) (F.typeCall_zip_2 _ _) (F.newCall_zip_2 _ _) (fun obj => F.args_object_init_3 obj _ _) F.entry_zip_new
    (meets_zip t1 t2 l1 l2 xs ys) ⟨hl1, hl2, ?_⟩
  have z1 : (zipI t1 s.heap l1).objs.size = s.heap.objs.size + 1 := Heap.size_push ..
  have z2 : (zipJ t1 t2 s.heap l1 l2).objs.size = s.heap.objs.size + 2 := by rw [zipJ, Heap.size_push, z1]
  have z3 : (zipK t1 t2 s.heap l1 l2).objs.size = s.heap.objs.size + 3 := by rw [zipK, Heap.size_push, z2]
  have z4 : (zipL t1 t2 s.heap l1 l2).objs.size = s.heap.objs.size + 4 := by rw [zipL, Heap.size_push, z3]
  have g5 : (zipM t1 t2 s.heap l1 l2).get? (zipL t1 t2 s.heap l1 l2).objs.size = some _ := Heap.get?_push_size _ rfl
  have g4 : (zipM t1 t2 s.heap l1 l2).get? (zipK t1 t2 s.heap l1 l2).objs.size = some _ := Heap.get?_push_of_some _ (Heap.get?_push_size _ rfl)
  have g3 : (zipM t1 t2 s.heap l1 l2).get? (zipJ t1 t2 s.heap l1 l2).objs.size = some _ := Heap.get?_push_of_some _ (Heap.get?_push_of_some _ (Heap.get?_push_size _ rfl))
  have g2 : (zipM t1 t2 s.heap l1 l2).get? (zipI t1 s.heap l1).objs.size = some _ := Heap.get?_push_of_some _ (Heap.get?_push_of_some _ (Heap.get?_push_of_some _ (Heap.get?_push_size _ rfl)))
  have g1 : (zipM t1 t2 s.heap l1 l2).get? s.heap.objs.size = some _ := Heap.get?_push_of_some _ (Heap.get?_push_of_some _ (Heap.get?_push_of_some _ (Heap.get?_push_of_some _ (Heap.get?_push_size _ rfl))))
  show _ ∧ _
  rw [z2, z3, z4] at g5
  rw [z1, z2] at g3
  rw [z3] at g4
  rw [z1] at g2
  rw [z4]
  exact ⟨⟨_, g5, rfl⟩, h _ g5 g3 g4 (ItAt.new g1) (ItAt.new g2) fun c o x =>
    Heap.get?_push_of_some _ (Heap.get?_push_of_some _ (Heap.get?_push_of_some _ (Heap.get?_push_of_some _ (Heap.get?_push_of_some _ x))))⟩
end

def SqA (t : Bool) (K : PySem.W.Frag) (H : Hp) (a : Addr) (xs : List V) : Prop := match t with
  | true => SqT K H a xs
  | false => SqL K H a xs
theorem Inv.src {X : Cx} {pins : List (Addr × Obj)} {σ : List (Option V)} {H : Hp} {s : Shared} {t : Bool} {a : Addr} {xs : List V} (I : Inv X pins σ H s) (h : SqA t X.K H a xs) : ∃ its : List Value, Vals xs its ∧ SrcAt t s.heap a its.toArray := by
  cases t with
  | true => obtain ⟨its, rv, p, _⟩ := I.tuple h; exact ⟨its, rv, p⟩
  | false => obtain ⟨its, rv, p, _⟩ := I.list h; exact ⟨its, rv, p.isList⟩
theorem Inv.src_inj {X : Cx} {pins : List (Addr × Obj)} {σ : List (Option V)} {H : Hp} {s : Shared} {t : Bool} {a : Addr} {xs ys : List V} (I : Inv X pins σ H s) (h : SqA t X.K H a xs) (h' : SqA t X.K H a ys) : xs = ys := by
  cases t with
  | true => exact I.tuple_inj h h'
  | false => exact I.list_inj h h'
def Itz (K : PySem.W.Frag) (t1 t2 : Bool) (a b : Addr) : It :=
  ⟨fun i H => ∃ xs x ys y, SqA t1 K H a xs ∧ xs[i]? = some x ∧ SqA t2 K H b ys ∧ ys[i]? = some y,
   fun i H v H' => ∃ T x y, (∀ xs, SqA t1 K H a xs → xs[i]? = some x) ∧ (∀ ys, SqA t2 K H b ys → ys[i]? = some y) ∧ H T = none ∧ v = .ref T ∧ H' = upd H T (.tup [x, y]),
   fun i H => ∃ xs ys, SqA t1 K H a xs ∧ SqA t2 K H b ys ∧ (xs.length ≤ i ∨ ys.length ≤ i)⟩
theorem turn_zip {P : Program} {w : World} {K : PySem.W.Frag} {elts : List Expr} {x1} {pos : Pos} {t1 t2 : Bool} {a b z TI TO i1 i2 : Addr} (D : ZipApart z TI TO i1 i2 a b) :
    Turn P w K (.Tuple elts x1 pos) (Itz K t1 t2 a b) [z, TI, TO, i1, i2] z (fun i h => IsZip h z TI TO .none ∧ IsPair h TI (.ref i1) (.ref i2) ∧ (∃ u v, IsPair h TO u v) ∧ ItAt t1 h i1 a i ∧ ItAt t2 h i2 b i) where
  mem := by simp
  obj := by
    rintro i h ⟨hz, hTI, ⟨u, v, hTO⟩, h1, h2⟩ c hc
    simp only [List.mem_cons, List.not_mem_nil, or_false] at hc
    rcases hc with rfl | rfl | rfl | rfl | rfl
    · exact ⟨_, hz, fun v z => by cases z⟩
    · exact ⟨_, hTI, fun v z => by cases z⟩
    · exact ⟨_, hTO, fun v z => by cases z⟩
    · exact h1.obj
    · exact h2.obj
  keep := by
    rintro i h h' ⟨hz, hTI, ⟨u, v, hTO⟩, h1, h2⟩ k
    exact ⟨k z (by simp) _ hz, k TI (by simp) _ hTI, ⟨u, v, k TO (by simp) _ hTO⟩, h1.at fun o e => k i1 (by simp) o e, h2.at fun o e => k i2 (by simp) o e⟩
  item := by
    rintro X hP hw hK hc i pins s σ H E I hf ⟨hz, hTI, ⟨u, v, hTO⟩, h1, h2⟩ ⟨xs, x, ys, y, q1, hx, q2, hy⟩
    subst hP hw hK
    obtain ⟨its1, rv1, p1⟩ := I.src q1
    obtain ⟨its2, rv2, p2⟩ := I.src q2
    obtain ⟨ux, hux, rx⟩ := rv1.get hx
    obtain ⟨uy, huy, ry⟩ := rv2.get hy
    refine zipN_item D hz hTI hTO h1 h2 p1 p2 (x := ux) (y := uy) (by simpa using hux) (by simpa using huy) fun h' a1 a2 a3 a4 a5 a6 a7 => ?_
    have hT : H s.heap.objs.size = none := I.hok.fresh (Nat.le_refl _)
    have I1 : Inv X pins σ (upd H s.heap.objs.size (.tup [x, y])) { s with heap := s.heap.push { cls := .type "tuple", data := .seq [ux, uy].toArray } } :=
      I.laid (t' := s.toks) (fun b o e => Heap.get?_push_of_some _ e) (Nat.le_refl _) (show ObjOk X.prog X.w _ _ _ (.tup [x, y]) from ⟨by show 2 ≤ sizeLine; decide, [ux, uy], .cons rx (.cons ry .nil), IsTup.new _ _⟩)
    have hlt : ∀ c ∈ [z, TI, TO, i1, i2], c < s.heap.objs.size := by
      intro c hc
      simp only [List.mem_cons, List.not_mem_nil, or_false] at hc
      rcases hc with rfl | rfl | rfl | rfl | rfl
      · exact Heap.lt_size hz
      · exact Heap.lt_size hTI
      · exact Heap.lt_size hTO
      · obtain ⟨o, e, _⟩ := h1.obj; exact Heap.lt_size e
      · obtain ⟨o, e, _⟩ := h2.obj; exact Heap.lt_size e
    have hf' : ∀ c ∈ [z, TI, TO, i1, i2], FpOk X pins (upd H s.heap.objs.size (.tup [x, y])) c := fun c hc => by
      obtain ⟨f0, fr⟩ := hf c hc
      exact ⟨by rw [upd_ne (Nat.ne_of_lt (hlt c hc))]; exact f0, fr⟩
    have kept : ∀ c o, c ∉ [z, TI, TO, i1, i2] → (s.heap.push { cls := .type "tuple", data := .seq [ux, uy].toArray }).get? c = some o → h'.get? c = some o := by
      intro c o hc e
      have hc' : c ≠ z ∧ c ≠ TI ∧ c ≠ TO ∧ c ≠ i1 ∧ c ≠ i2 := by simpa using hc
      by_cases hn : c = s.heap.objs.size
      · subst hn
        have e0 : (s.heap.push { cls := .type "tuple", data := .seq [ux, uy].toArray }).get? s.heap.objs.size = some { cls := .type "tuple", data := .seq [ux, uy].toArray } := Heap.get?_push_size _ rfl
        rw [e0] at e
        cases e
        exact a5
      · have e1 : s.heap.get? c = some o := by
          rw [Heap.get?_push_ne _ _ _ hn] at e
          exact e
        exact a7 c o hc'.1 hc'.2.2.1 hc'.2.2.2.1 hc'.2.2.2.2 e1
    have I2 : Inv X pins σ (upd H s.heap.objs.size (.tup [x, y])) { s with heap := h' } := I1.turnedL (t' := s.toks) kept hf'
    refine ⟨_, rfl, ?_⟩
    refine wpAny_letOwnedTupleGo_zip a1 fun h2' hz2 hs2 => ?_
    have I3 : Inv X pins σ (upd H s.heap.objs.size (.tup [x, y])) { s with heap := h2' } := Inv.turnedL (s := { s with heap := h' }) (h' := h2') (t' := s.toks) (fp := [z, TI, TO, i1, i2]) I2 (fun c o hc e => hs2.extBut _ _ (fun q => hc (by simp [q])) e) hf'
    refine ⟨.ref s.heap.objs.size, _, I3, rfl, ⟨_, x, y, fun zs hq => by rw [I.src_inj hq q1]; exact hx, fun zs hq => by rw [I.src_inj hq q2]; exact hy, hT, rfl, rfl⟩, ?_, fun c hc => (hf' c hc).1⟩
    exact ⟨hz2, hs2.extBut _ _ D.TIz (a7 _ _ D.TIz D.TITO D.TIi1 D.TIi2 hTI), ⟨_, _, hs2.extBut _ _ D.TOz a2⟩, a3.at fun o e => hs2.extBut _ _ D.i1z e, a4.at fun o e => hs2.extBut _ _ D.i2z e⟩
  done := by
    rintro X hP hw hK hc i pins s σ H E I hf ⟨hz, hTI, ⟨u, v, hTO⟩, h1, h2⟩ ⟨xs, ys, q1, q2, hend⟩
    subst hP hw hK
    obtain ⟨its1, rv1, p1⟩ := I.src q1
    obtain ⟨its2, rv2, p2⟩ := I.src q2
    have l1 := rv1.length
    have l2 := rv2.length
    refine zipN_end (I.ok.hd hc) D hz hTI hTO h1 h2 p1 p2 (by simp; omega) fun h' hk => ⟨rfl, I.turnedL (t' := s.toks) (fp := [z, TI, TO, i1, i2]) (fun c o hc e => ?_) hf⟩
    have hc' : c ≠ z ∧ c ≠ TI ∧ c ≠ TO ∧ c ≠ i1 ∧ c ≠ i2 := by simpa using hc
    exact hk c o hc'.1 hc'.2.2.1 hc'.2.2.2.1 hc'.2.2.2.2 e
  self := fun _ _ _ _ _ st h => wpAny_pyIter_zip st.1 h

section
variable {X : Cx} {K : PySem.W.Frag}
def iZip (K : PySem.W.Frag) (ta : TA) : TI := fun σ H R => ta σ H fun vs H1 => match vs with
  | [.ref a, .ref b] => ∃ t1 t2, (∃ xs, SqA t1 K H1 a xs) ∧ (∃ ys, SqA t2 K H1 b ys) ∧ R (Itz K t1 t2 a b) H1
  | _ => False
theorem pi_zip {a b : Expr} {ta : TA} {p pos : Pos} {elts : List Expr} {x1} {pos' : Pos} (hg : Gl X "zip") (hm : X.mg "zip" = none) (ha : PA X [a, b] ta) (hK : X.K = K := by rfl) (hs : starEach [a, b] X.env = [(false, eval a X.env), (false, eval b X.env)] := by rfl) (hs2 : starEach [b] X.env = [(false, eval b X.env)] := by rfl) :
    PI X (.Tuple elts x1 pos') (.Call (.Name "zip" p) [a, b] [] pos) (iZip K ta) := by
  subst hK
  intro pins s σ H R I h
  refine Call_ (ld_blt I hg hm boot_zip (PyProof.Rows.callWith_type1 (thn (ha pos pins s σ H _ I h) fun us s1 ⟨vs, H1, I1, r1, q1⟩ => ?_) (by rw [hs, hs2]) (by rw [hs2]; rfl)))
  dsimp only at q1
  split at q1
  · obtain ⟨u, u', rfl, r, r'⟩ := vals2 r1
    cases r
    cases r'
    obtain ⟨t1, t2, ⟨xs, hx⟩, ⟨ys, hy⟩, q⟩ := q1
    obtain ⟨its1, rv1, p1⟩ := I1.src hx
    obtain ⟨its2, rv2, p2⟩ := I1.src hy
    refine call_zip p1 p2 fun h' hz hTI hTO h1 h2 hk => ?_
    refine wpAny_pyIter_zip hz ?_
    refine ⟨_, [s1.heap.objs.size + 4, s1.heap.objs.size + 2, s1.heap.objs.size + 3, s1.heap.objs.size, s1.heap.objs.size + 1], _, _, H1, rfl, I1.kept (t' := s1.toks) hk, turn_zip (zipApart_new p1.lt p2.lt), ⟨hz, hTI, ⟨_, _, hTO⟩, h1, h2⟩, fun c hc => ?_, q⟩
    have hge : s1.heap.objs.size ≤ c := by
      simp only [List.mem_cons, List.not_mem_nil, or_false] at hc
      rcases hc with rfl | rfl | rfl | rfl | rfl
      · exact Nat.le_add_right _ 4
      · exact Nat.le_add_right _ 2
      · exact Nat.le_add_right _ 3
      · exact Nat.le_refl _
      · exact Nat.le_add_right _ 1
    exact I1.fpOk hge (I1.hok.fresh hge)
  · exact q1.elim
theorem ji_zip {a b : Expr} {ta : TA} {p pos : Pos} {elts : List Expr} {x1} {pos' : Pos} (hg : Gl X "zip") (hm : X.mg "zip" = none) (ha : JA X [a, b] ta) (hK : X.K = K := by rfl) (h1 : noStar a = true := by rfl) (h2 : noStar b = true := by rfl) :
    JI X (.Tuple elts x1 pos') (.Call (.Name "zip" p) [a, b] [] pos) (iZip K ta) := .mk (pi_zip hg hm ha.out hK (by rw [starEach_cons h1, starEach_cons h2]; rfl) (by rw [starEach_cons h2]; rfl))
end
end L2

set_option Elab.async false
set_option linter.all false
set_option maxRecDepth 100000
set_option maxHeartbeats 4000000
namespace L2
open PySem PySem.Spec PyProof.Rows

def FlyG (B : Heap) (l : List Env) (e : Addr) (cls a0 : Value) (h : Heap) : Prop := B.StaysIn h ∧ B.get? e = none ∧ h.FunFrames B l ∧ ∃ fl, h.TracedAtW B e cls a0 fl
theorem FlyG.of {B h : Heap} {l : List Env} {e : Addr} {cls a0 : Value} (x : Heap.FlyingW B l e cls a0 h) : FlyG B l e cls a0 h := ⟨x.1, x.2.1, x.2.2.1, _, x.2.2.2.at⟩
section
variable {M : Model} {A : Around} {E : Value → Shared → Prop} {s : Shared} {B : Heap} {env : Env} {outer : List Env} {L e : Addr} {cls a0 : Value} {Q : Unit → Shared → Prop}
theorem note_any (hfr : A.frames = some (env :: outer)) (hf : env.frame = some L) (x : FlyG B (env :: outer) e cls a0 s.heap)
    (hQ : ∀ h', Heap.HeldW B (env :: outer) e cls a0 L h' → s.heap.UpToSlots h' → Q () { s with heap := h' }) : wpAny M A (noteFrame (.ref e) env) Q E s := by
  obtain ⟨st, hn, hl, fl, ht⟩ := x
  by_cases hfl : fl = rawInt L
  · subst hfl
    exact wpAny_noteFrame_againW hf ht (hQ s.heap ⟨st, hn, hl, ht⟩ (.refl _))
  · obtain ⟨oe, vs, T, oT, ts, he, ⟨hcls, h0⟩, hd, h1, hnT, hTe, hT, hdT, h3⟩ := ht
    subst hcls
    unfold noteFrame
    simp only [hf]
    refine wpAny_bind (wpAny_field he hd h1 ?_)
    rw [if_pos (show (Value.ref T != Value.none) = true from by simp)]
    refine wpAny_bind (wpAny_field hT hdT h3 ?_)
    rw [if_neg (show ¬ ((fl == rawInt L) = true) from fun z => hfl (beq_iff_eq.mp z))]
    refine wpAny_bind (wpAny_setField hT hdT (Array.getElem?_eq_some_iff.mp h3).1 ?_)
    have other : ∀ b, b ≠ T → (s.heap.update T (Obj.mapFields (·.setIfInBounds 3 Value.none))).get? b = s.heap.get? b := fun b hb => Heap.get?_update_other _ _ (Ne.symm hb)
    have noRecord : ∀ b o, s.heap.get? b = some o → (∀ vs, o.data ≠ .fields vs) → b ≠ T := fun b o hb hnf q => by
      rw [q, hT] at hb; injection hb with hb; subst hb; exact hnf ts hdT
    refine wpAny_entryW hfr (hl.of_keeps fun b o hb hnf => ⟨o, (other b (noRecord b o hb hnf)).trans hb, rfl⟩) hf ((other e (Ne.symm hTe)).trans he)
      (fun b o hbo => (other b fun q => by rw [q, hnT] at hbo; cases hbo).trans (st b o hbo)) hn hd (Array.getElem?_eq_some_iff.mp h1).1 h0
      fun h' ⟨x1, x2, x3, x4⟩ => hQ h' ⟨x1, hn, x2, x3⟩ fun b o hb hnf => x4 b o ((other b (noRecord b o hb hnf)).trans hb) hnf
theorem leaving_any (hfr : A.frames = some (env :: outer)) (hf : env.frame = some L) (x : FlyG B (env :: outer) e cls a0 s.heap)
    (hQ : ∀ h', Heap.FlyingW B outer e cls a0 h' → s.heap.UpToSlots h' → Q () { s with heap := h' }) : wpAny M A (leaving env (.ref e)) Q E s := by
  unfold leaving
  refine wpAny_bind (note_any hfr hf x fun h1 hh us1 => ?_)
  refine wpAny_landsW (s := { s with heap := h1 }) hh fun h2 fl us2 => ?_
  obtain ⟨k1, k2, ⟨_, _, k3⟩, k4⟩ := fl
  exact hQ h2 ⟨k1, k2, k3, k4⟩ (us1.trans us2)
end

def FlyAt (P : Program) (w : World) (stack : List Env) (fs ex : List Addr) (H₀ : Hp) (h₀ : Heap) (os : OsState) (E : XK) (e : Value) (s' : Shared) : Prop :=
  ∃ (a : Addr) (B : Heap) (cls a0 : Value) (H' : Hp), e = .ref a ∧ s'.os = os ∧ AllBare s'.gens ∧ FlyG B stack a cls a0 s'.heap ∧ HOk P w H' B ∧ Un fs ex H₀ H' h₀ s'.heap ∧
  (∀ b o, h₀.get? b = some o → b ∉ fs → b ∉ ex → (∃ o', B.get? b = some o') ∧ (H₀ b = none → B.get? b = some o)) ∧ E cls none H'
def CX1 (P : Program) (w : World) : CXT := fun outer H s E e s' => FlyAt P w outer (frs outer) [] H s.heap s.os E e s'
def FlyX (X : Cx) (E : XK) (e : Value) (s' : Shared) : Prop := FlyAt X.prog X.w X.stack X.fs X.ex X.H₀ X.s₀.heap X.s₀.os E e s'
def Exits (X : Cx) (E : XK) : Prop := X.Ok → ∀ e s', FlyX X E e s' → X.xe e s'

section
variable {X : Cx} {E : XK} {pins : List (Addr × Obj)} {σ : List (Option V)} {H H' : Hp} {s : Shared} {h'' B : Heap}
theorem Inv.nostk (I : Inv X pins σ H s) {b : Addr} {o : Obj} (e : X.s₀.heap.get? b = some o) (hb : b ∉ X.fs) : b ∉ frs X.stack := fun z => by
  rcases List.mem_cons.mp (I.stkSub b z) with q | q
  · exact absurd (Nat.lt_of_lt_of_le (Heap.lt_size e) I.ok.above) (by rw [q]; exact Nat.lt_irrefl _)
  · exact hb q
theorem fly_core {fp : List Addr} {h' : Heap} (I : Inv X pins σ H s) (hfp : ∀ b ∈ fp, b ∈ X.ex ∨ X.s₀.heap.objs.size ≤ b) (un : Un (frs X.stack) fp H H' s.heap h')
    (kb : ∀ b o, s.heap.get? b = some o → b ∉ frs X.stack → b ∉ fp → (∃ o', B.get? b = some o') ∧ (H b = none → B.get? b = some o)) (st : B.StaysIn h') :
    Un X.fs X.ex X.H₀ H' X.s₀.heap h' ∧ ∀ b o, X.s₀.heap.get? b = some o → b ∉ X.fs → b ∉ X.ex → (∃ o', B.get? b = some o') ∧ (X.H₀ b = none → B.get? b = some o) := by
  have nofp : ∀ b o, X.s₀.heap.get? b = some o → b ∉ X.ex → b ∉ fp := fun b o e hx z => by
    rcases hfp b z with q | q
    · exact hx q
    · exact absurd (Nat.lt_of_lt_of_le (Heap.lt_size e) q) (Nat.lt_irrefl _)
  have kb' : ∀ b o, X.s₀.heap.get? b = some o → b ∉ X.fs → b ∉ X.ex → (∃ o', B.get? b = some o') ∧ (X.H₀ b = none → B.get? b = some o) := fun b o e hb hx => by
    obtain ⟨o1, e1⟩ := I.base.there b o e hx
    refine ⟨(kb b o1 e1 (I.nostk e hb) (nofp b o e hx)).1, fun n => ?_⟩
    exact (kb b o (I.base.keep b o e n hb hx) (I.nostk e hb) (nofp b o e hx)).2 (I.base.free b o e n hx)
  have inS : ∀ b, b ∈ X.fs → b ∈ frs X.stack := fun b hb => by
    rcases I.ok.stk with q | ⟨q, hf⟩
    · rw [q]; exact hb
    · rw [q]; unfold frs; rw [List.filterMap_cons, hf]; exact List.mem_cons_of_mem _ hb
  refine ⟨⟨fun b o e n hb hx => st b o ((kb' b o e hb hx).2 n), fun b o e n hb hx => ?_, fun b o e n hx => ?_, fun b o e hx => ?_, fun b xs e => un.tups b xs (I.base.tups b xs e), fun b o u e => un.frzs b o u (I.base.frzs b o u e), fun b ps e => ?_⟩, kb'⟩
  · obtain ⟨sl1, e1⟩ := I.base.slot b o e n hb hx
    obtain ⟨sl2, e2⟩ := un.slot b _ e1 (I.base.free b o e n hx) (inS b hb) (nofp b o e hx)
    exact ⟨sl2, e2⟩
  · obtain ⟨o1, e1⟩ := I.base.there b o e hx
    exact un.free b o1 e1 (I.base.free b o e n hx) (nofp b o e hx)
  · obtain ⟨o1, e1⟩ := I.base.there b o e hx
    exact un.there b o1 e1 (nofp b o e hx)
  · obtain ⟨m1, e1⟩ := I.base.tbls b ps e
    obtain ⟨m2, e2⟩ := un.tbls b _ e1
    exact ⟨m1 ++ m2, by rw [e2, Array.append_assoc]⟩
theorem fly_back {fp : List Addr} (I : Inv X pins σ H s) (hfp : ∀ b ∈ fp, b ∈ X.ex ∨ X.s₀.heap.objs.size ≤ b) {e : Value} {s' : Shared} (h : FlyAt X.prog X.w X.stack (frs X.stack) fp H s.heap s.os E e s') : FlyX X E e s' := by
  obtain ⟨a, B, cls, a0, H', rfl, os, bare, fl, hok, un, kb, hE⟩ := h
  obtain ⟨un', kb'⟩ := fly_core I hfp un kb fl.1
  exact ⟨a, B, cls, a0, H', rfl, os.trans I.os, bare, fl, hok, un', kb', hE⟩
theorem Exits.passes (h : Exits X E) : Passes (CX1 X.prog X.w) X E := fun pins σ H s e s' I q => h I.ok e s' (fly_back (fp := []) I (fun _ z => nomatch z) q)
end
section
variable {P : Program} {w : World} {K : PySem.W.Frag} {mg : Str → Option Value} {base : Heap} {N : List Str} {qual : Str} {scope : Scope} {f : Addr} {cd : Value} {A : Around} {outer : List Env} {s₀ : Shared} {H₀ : Hp} {E : XK}
  {pins : List (Addr × Obj)} {σ : List (Option V)} {H H' : Hp} {s : Shared} {h' h'' B : Heap}
theorem frs_cons {env : Env} {l : List Env} {L : Addr} (h : env.frame = some L) : frs (env :: l) = L :: frs l := by unfold frs; rw [List.filterMap_cons, h]
theorem un_left {fs ex : List Addr} {H₀ H' : Hp} {h₀ h1 h2 : Heap} (un : Un fs ex H₀ H' h₀ h1) (kb : ∀ b o, h₀.get? b = some o → b ∉ fs → b ∉ ex → (∃ o', B.get? b = some o') ∧ (H₀ b = none → B.get? b = some o)) (st : B.StaysIn h2) (us : ∀ b ∈ fs, ∀ o, h1.get? b = some o → (∀ vs, o.data ≠ .fields vs) → ∃ sl, h2.get? b = some { o with slots := sl })
    (nf : ∀ b ∈ fs, ∃ o, h₀.get? b = some o ∧ ∀ vs, o.data ≠ .fields vs) (hfree : ∀ b ∈ fs, H₀ b = none) : Un fs ex H₀ H' h₀ h2 := by
  have slot : ∀ b o, h₀.get? b = some o → H₀ b = none → b ∈ fs → b ∉ ex → ∃ sl, h2.get? b = some { o with slots := sl } := fun b o e n hb hx => by
    obtain ⟨sl, e1⟩ := un.slot b o e n hb hx
    obtain ⟨o', e', d'⟩ := nf b hb
    rw [e] at e'; cases e'
    obtain ⟨sl2, e2⟩ := us b hb _ e1 d'
    exact ⟨sl2, e2⟩
  refine ⟨fun b o e n hb hx => st b o ((kb b o e hb hx).2 n), slot, un.free, fun b o e hx => ?_, un.tups, un.frzs, un.tbls⟩
  by_cases hb : b ∈ fs
  · obtain ⟨sl, e1⟩ := slot b o e (hfree b hb) hb hx
    exact ⟨_, e1⟩
  · obtain ⟨o', e'⟩ := (kb b o e hb hx).1
    exact ⟨o', st b o' e'⟩
theorem exits_fn : Exits (cxOf (CX1 P w) P w K mg base N qual scope f cd A outer s₀ H₀ E) E := by
  intro ok e s' h
  obtain ⟨a, B, cls, a0, H', rfl, os, bare, fl, hok, un, kb, hE⟩ := h
  show wpAny (model P w) (A.deeper (envOfC qual scope s₀.heap.objs.size f cd)) (leaving (envOfC qual scope s₀.heap.objs.size f cd) (.ref a)) (fun _ s'' => CX1 P w outer H₀ s₀ E (.ref a) s'') (fun e' s'' => CX1 P w outer H₀ s₀ E e' s'') s'
  refine leaving_any (L := s₀.heap.objs.size) ok.frames rfl fl fun h'' fl' us => ?_
  exact ⟨a, B, cls, a0, H', rfl, os, bare, .of fl', hok, un_left un kb fl'.1 (fun b _ => us b) (fun b hb => (ok.funs.mem hb).2) ok.frf, kb, hE⟩
theorem pass1 : Passes (CX1 P w) (cxOf (CX1 P w) P w K mg base N qual scope f cd A outer s₀ H₀ E) E := exits_fn.passes
theorem leave_made {e : Addr} {cls : Value} {args : List Value} (I : Inv (cxOf (CX1 P w) P w K mg base N qual scope f cd A outer s₀ H₀ E) pins σ H s) (hx : Heap.MadeExcOf s.heap h' e cls args) (hE : E cls none H) :
    (cxOf (CX1 P w) P w K mg base N qual scope f cd A outer s₀ H₀ E).xe (.ref e) { s with heap := h' } := by
  show wpAny (model P w) (A.deeper (envOfC qual scope s₀.heap.objs.size f cd)) (leaving (envOfC qual scope s₀.heap.objs.size f cd) (.ref e)) (fun _ s'' => CX1 P w outer H₀ s₀ E (.ref e) s'') (fun e' s'' => CX1 P w outer H₀ s₀ E e' s'') { s with heap := h' }
  have hin : ∀ env ∈ (envOfC qual scope s₀.heap.objs.size f cd :: outer), ∀ b, env.frame = some b → b ∈ frs (envOfC qual scope s₀.heap.objs.size f cd :: outer) := fun env he b hb => List.mem_filterMap.mpr ⟨env, he, hb⟩
  refine wpAny_leaves_madeW (base := PySem.W.hideAll s.heap (frs (envOfC qual scope s₀.heap.objs.size f cd :: outer))) (h := s.heap) (L := s₀.heap.objs.size) I.ok.frames rfl (fun b o q => PySem.W.of_hideAll _ q) (PySem.W.funFrames_hide I.stack hin) hx fun h'' t fl tup hbt us => ?_
  have hidden : ∀ b o, s.heap.get? b = some o → b ∉ frs (envOfC qual scope s₀.heap.objs.size f cd :: outer) → (PySem.W.hideAll s.heap (frs (envOfC qual scope s₀.heap.objs.size f cd :: outer))).get? b = some o := fun b o q hb => PySem.W.hideAll_get _ q hb
  have noex : ∀ b : Addr, b ∉ (cxOf (CX1 P w) P w K mg base N qual scope f cd A outer s₀ H₀ E).ex := fun b z => nomatch (show b ∈ ([] : List Addr) from z)
  have kb : ∀ b o, s₀.heap.get? b = some o → b ∉ frs outer → b ∉ ([] : List Addr) → (∃ o', (PySem.W.hideAll s.heap (frs (envOfC qual scope s₀.heap.objs.size f cd :: outer))).get? b = some o') ∧ (H₀ b = none → (PySem.W.hideAll s.heap (frs (envOfC qual scope s₀.heap.objs.size f cd :: outer))).get? b = some o) := fun b o q hb _ => by
    obtain ⟨o1, e1⟩ := I.base.there b o q (noex b)
    exact ⟨⟨o1, hidden b o1 e1 (I.nostk q hb)⟩, fun n => hidden b o (I.base.keep b o q n hb (noex b)) (I.nostk q hb)⟩
  have un : Un (frs outer) [] H₀ H s₀.heap h'' := un_left (I.base) kb fl.1 (fun b _ => ((Heap.UpToSlots.of_keeps hx.keeps).trans us) b) (fun b hb => (I.ok.funs.mem hb).2) I.ok.frf
  refine ⟨e, _, cls, _, H, rfl, I.os, I.bare, .of fl, fun b u q => ?_, un, kb, hE⟩
  refine (I.hok b u q).stay (fun c v hc z => hidden c v z fun m => ?_) (fun _ z => z) fun _ _ z => z
  have hn : H c = none := I.stkFree c m
  rcases hc with rfl | hc
  · rw [q] at hn; cases hn
  · rw [hc] at hn; cases hn
end
end L2

set_option Elab.async false
set_option linter.all false
set_option maxRecDepth 100000
set_option maxHeartbeats 4000000
namespace L2
open PySem PySem.Spec PyProof.Rows

abbrev bmVE : List Value := [.type "ValueError", .type "Exception", .type "BaseException", .type "object"]
theorem exc_of_in {K : PySem.W.Frag} {h : Heap} {C : Addr} {bmB : List Value} {newId : String} (X : K.In h) (q : PySem.W.excIn K C bmB newId = true) :
    ∃ bm N nm q bs hdct sn sub ab col dd k0 k1 k2 k3 k5 mN, h.get? C = some (excClassObj nm q C N bs bm hdct sn sub ab col dd k0 k1 k2 k3 k5 newId) ∧ h.Ns N mN ∧ mN "__init__" = none ∧ OwnTail h bmB bm := by
  unfold PySem.W.excIn at q
  split at q
  · rename_i dd cd sl ho
    split at q
    · rename_i C' bm k0 k1 k2 k3 n k5 hm hs
      simp only [Bool.and_eq_true, beq_iff_eq, Bool.not_eq_true'] at q
      obtain ⟨⟨⟨⟨⟨rfl, rfl⟩, hdel⟩, ht⟩, hok⟩, hni⟩ := q
      obtain ⟨nm, bs, mro, ns, qn, hd, sn, sub, ab, col, del⟩ := cd
      dsimp only at hm hdel hok hni
      subst hm hdel
      have hsl : sl = #[k0, k1, k2, k3, some (.builtin n), k5] := by
        obtain ⟨l⟩ := sl
        simp only at hs
        rw [hs]
      subst hsl
      exact ⟨bm, ns, nm, qn, bs, hd, sn, sub, ab, col, dd, k0, k1, k2, k3, k5, _, X _ _ ho, .of_isNs (PySem.W.isNs_of_in X hok), PySem.W.nsMap_none_of_in X hok hni, PySem.W.tail_of_in X ht⟩
    · cases q
  · cases q

def PF (X : Cx) (e : Expr) (c : St → Hp → Prop) : Prop := ∀ (pins : List (Addr × Obj)) (s : Shared) (σ : St) (H : Hp), Inv X pins σ H s → c σ H →
  wpAny (model X.prog X.w) X.A (eval e X.env) (fun v s' => ∃ y t, v = .str y t ∧ y.length ≤ 1100000 ∧ Inv X pins σ H s') X.xe s
def PFs (X : Cx) (es : List Expr) (c : St → Hp → Prop) : Prop := ∀ (pins : List (Addr × Obj)) (s : Shared) (σ : St) (H : Hp) (acc : Str) (n : Nat), Inv X pins σ H s → c σ H → acc.length ≤ n * 1100000 → n + es.length ≤ 12 →
  Joins (model X.prog X.w) X.A X.xe (evalEach es X.env) acc (fun out s' => out.length ≤ sizeLine ∧ Inv X pins σ H s') s
section
variable {X : Cx} {e : Expr} {es : List Expr} {te : TE} {c c' : St → Hp → Prop} {pos : Pos}
theorem size12 {n : Nat} (h : n ≤ 12 * 1100000) : n ≤ sizeLine := by rw [sizeLine_eq]; omega
theorem pf_str {x : Str} {k : Nat} (h : x.length ≤ 1100000 := by decide) : PF X (.Constant (.str x) k pos) (fun _ _ => True) := fun pins s σ H I _ =>
  Calls.Constant_str (show ∃ y t, Value.str x s.toks = .str y t ∧ y.length ≤ 1100000 ∧ Inv X pins σ H { s with toks := s.toks + 1 } from ⟨x, _, rfl, h, I.tok _⟩)
theorem pf_plain (he : PE X e te) : PF X (.FormattedValue e (-1) none pos) (fun σ H => te σ H fun v H1 => H1 = H ∧ ((∃ x, v = .str x ∧ x.length ≤ 100000) ∨ ∃ a, v = .int a ∧ a.natAbs.log2 < 1920 ∧ (Str.ofString (toString a)).length ≤ 1100000)) := by
  intro pins s σ H I h
  refine wpAny_FormattedValue_plain (thn (he pins s σ H _ I h) fun u s1 ⟨v, H1, I1, r1, e1, q⟩ => ?_)
  subst e1
  rcases q with ⟨x, ex, hl⟩ | ⟨a, ea, hl, hs⟩
  · subst ex
    obtain ⟨t, rfl⟩ := r1
    exact wpAny_formatField_str ⟨_, _, rfl, by omega, I1⟩ ⟨_, _, rfl, by omega, I1.tok _⟩ (size12 (by omega))
  · subst ea
    obtain ⟨t, rfl⟩ := r1
    exact wpAny_formatField_int hl ⟨_, _, rfl, hs, I1.tok _⟩
theorem pfs_nil : PFs X [] (fun _ _ => True) := fun pins s σ H acc n I _ hl hn => by
  have h2 : n ≤ 12 := by simpa using hn
  exact ⟨size12 (Nat.le_trans hl (Nat.mul_le_mul_right 1100000 h2)), I⟩
theorem pfs_cons (h1 : PF X e c) (h2 : PFs X es c') (he : evalEach (e :: es) X.env = eval e X.env :: evalEach es X.env := by rfl) : PFs X (e :: es) (fun σ H => c σ H ∧ c' σ H) := by
  intro pins s σ H acc n I hc hl hn
  rw [he]
  have hn' : n + 1 + es.length ≤ 12 := by rw [List.length_cons] at hn; omega
  refine thn (h1 pins s σ H I hc.1) fun v s1 ⟨y, t, ev, hy, I1⟩ => ⟨y, t, ev, ?_, ?_⟩
  · rw [strLen_append]
    exact size12 (by omega)
  · refine h2 pins s1 σ H (acc ++ y) (n + 1) I1 hc.2 ?_ hn'
    rw [strLen_append]; omega
def tFs (c : St → Hp → Prop) : TE := fun σ H Q => c σ H ∧ ∀ z : Str, z.length ≤ sizeLine → Q (.str z) H
theorem joins_mono {M : Model} {A : Around} {E : Value → Shared → Prop} {Q Q' : Str → Shared → Prop} (hQ : ∀ z s, Q z s → Q' z s) : ∀ (l : List (Sem Value)) (acc : Str) (s : Shared), Joins M A E l acc Q s → Joins M A E l acc Q' s
  | [], acc, s, h => hQ _ _ h
  | x :: r, acc, s, h => thn h fun v s1 ⟨y, t, ev, hz, hr⟩ => ⟨y, t, ev, hz, joins_mono hQ r _ s1 hr⟩
theorem pe_fs {e1 e2 : Expr} (h : PFs X (e1 :: e2 :: es) c) (hn : (e1 :: e2 :: es).length ≤ 12 := by decide) : PE X (.JoinedStr (e1 :: e2 :: es) pos) (tFs c) := by
  intro pins s σ H Q I hq
  refine wpAny_JoinedStr (joins_mono (fun z s' ⟨hz, I'⟩ => ⟨hz, ?_⟩) _ _ _ (h pins s σ H Str.empty 0 I hq.1 (by decide) (by omega)))
  exact ⟨.str z, H, I'.tok _, ⟨_, rfl⟩, hq.2 z hz⟩
end
end L2

set_option Elab.async false
set_option linter.all false
set_option maxRecDepth 100000
set_option maxHeartbeats 4000000
namespace L2
open PySem PySem.Spec PyProof.Rows

def tRaise (C : Addr) (E : XK) (t : TA) : TS := fun D σ H => t σ H fun vs H1 => vs.length ≤ sizeLine ∧ E (.ref C) none H1
section
variable {P : Program} {w : World} {K : PySem.W.Frag} {mg : Str → Option Value} {base : Heap} {N : List Str} {qual : Str} {scope : Scope} {f : Addr} {cd : Value} {A : Around} {outer : List Env} {s₀ : Shared} {H₀ : Hp} {E : XK}
theorem ps_raise {x : Str} {C : Addr} {e : Expr} {es : List Expr} {t : TA} {np cpos pos : Pos} (hg : Gl (cxOf (CX1 P w) P w K mg base N qual scope f cd A outer s₀ H₀ E) x) (hm : mg x = some (.ref C)) (hq : PySem.W.excIn K C bmVE "ValueError.__new__" = true)
    (ha : PA (cxOf (CX1 P w) P w K mg base N qual scope f cd A outer s₀ H₀ E) (e :: es) t) (hst : noStars (e :: es) = true := by rfl) (hd : (x == ("__debug__" : Str)) = false := by decide) :
    PS (cxOf (CX1 P w) P w K mg base N qual scope f cd A outer s₀ H₀ E) (.Raise (some (.Call (.Name x np) (e :: es) [] cpos)) none pos) (tRaise C E t) := by
  intro pins s σ H D I h
  have h' : noStar e = true ∧ noStars es = true := by simpa [noStars] using hst
  have he := starEach_cons (es := es) (env := (cxOf (CX1 P w) P w K mg base N qual scope f cd A outer s₀ H₀ E).env) h'.1
  have hpl := back_any (env := (cxOf (CX1 P w) P w K mg base N qual scope f cd A outer s₀ H₀ E).env) (pos := cpos) hst
  obtain ⟨bm, N', nm, q, bs, hdct, sn, sub, ab, col, dd, k0, k1, k2, k3, k5, mN, hC, hN, hni, T⟩ := exc_of_in (h := base) I.ok.mod.kin hq
  refine wpAny_Raise_call_subU (C := C) (nm := nm) (q := q) (N := N') (bs := bs) (bm := bm) (hdct := hdct) (sn := sn) (sub := sub) (ab := ab) (col := col) (dd := dd) (k0 := k0) (k1 := k1) (k2 := k2) (k3 := k3) (k5 := k5)
    F.excBase_ValueError (by decide +kernel) F.excBase_ValueError (mN := mN) (T.hasType F.excBase_ValueError.hasBase) (I.ok.hd rfl) hpl hni (ld_glob I hg hm ⟨rfl, ?_⟩ hd)
  have h0 := ha cpos pins s σ H _ I h
  rw [he] at h0 ⊢
  refine Calls.evalArgs_plain (wpAny_mono h0 (fun us s2 h2 => ?_) fun _ _ y => y)
  obtain ⟨vs, H2, I2, r2, hl, hE⟩ := h2
  have hlen := r2.length
  exact ⟨rfl, by show us.length ≤ sizeLine; omega, I2.bk _ _ hC, hN.keeps I2.bk, T.keeps I2.bk, fun h3 e3 hm3 => leave_made I2 hm3 hE⟩
theorem js_raise {x : Str} {C : Addr} {e : Expr} {es : List Expr} {t : TA} {np cpos pos : Pos} (hg : Gl (cxOf (CX1 P w) P w K mg base N qual scope f cd A outer s₀ H₀ E) x) (hm : mg x = some (.ref C)) (hq : PySem.W.excIn K C bmVE "ValueError.__new__" = true)
    (ha : JA (cxOf (CX1 P w) P w K mg base N qual scope f cd A outer s₀ H₀ E) (e :: es) t) (hst : noStars (e :: es) = true := by rfl) (hd : (x == ("__debug__" : Str)) = false := by decide) :
    JS (cxOf (CX1 P w) P w K mg base N qual scope f cd A outer s₀ H₀ E) (.Raise (some (.Call (.Name x np) (e :: es) [] cpos)) none pos) (tRaise C E t) := .mk (ps_raise hg hm hq ha.out hst hd)
theorem passes_loop : PassesOwn (model P w) (cxOf (CX1 P w) P w K mg base N qual scope f cd A outer s₀ H₀ E).A (cxOf (CX1 P w) P w K mg base N qual scope f cd A outer s₀ H₀ E).env (cxOf (CX1 P w) P w K mg base N qual scope f cd A outer s₀ H₀ E).xe := PassesOwn.leaving
end
abbrev JF (X : Cx) (e : Expr) (c : St → Hp → Prop) : Prop := Irr (PF X e c)
abbrev JFs (X : Cx) (es : List Expr) (c : St → Hp → Prop) : Prop := Irr (PFs X es c)
section
variable {X : Cx} {e e1 e2 : Expr} {es : List Expr} {te : TE} {c c' : St → Hp → Prop} {pos : Pos}
def cPlain (te : TE) : St → Hp → Prop := fun σ H => te σ H fun v H1 => H1 = H ∧ ((∃ x, v = .str x ∧ x.length ≤ 100000) ∨ ∃ a, v = .int a ∧ a.natAbs.log2 < 1920 ∧ (Str.ofString (toString a)).length ≤ 1100000)
def cTrue : St → Hp → Prop := fun _ _ => True
def cAnd (c c' : St → Hp → Prop) : St → Hp → Prop := fun σ H => c σ H ∧ c' σ H
theorem jf_str {x : Str} {k : Nat} (h : x.length ≤ 1100000 := by decide) : JF X (.Constant (.str x) k pos) cTrue := .mk (pf_str h)
theorem jf_plain (he : JE X e te) : JF X (.FormattedValue e (-1) none pos) (cPlain te) := .mk (pf_plain he.out)
theorem jfs_nil : JFs X [] cTrue := .mk pfs_nil
theorem jfs_cons (h1 : JF X e c) (h2 : JFs X es c') (he : evalEach (e :: es) X.env = eval e X.env :: evalEach es X.env := by rfl) : JFs X (e :: es) (cAnd c c') := .mk (pfs_cons h1.out h2.out he)
theorem j_fs (h : JFs X (e1 :: e2 :: es) c) (hn : (e1 :: e2 :: es).length ≤ 12 := by decide) : JE X (.JoinedStr (e1 :: e2 :: es) pos) (tFs c) := .mk (pe_fs h.out hn)
end
structure DefX (P : Program) (w : World) (K : PySem.W.Frag) (mg : Str → Option Value) (base : Heap) (k : Nat) (x : Str) (ps : List Str) (sp : Sp) : Prop where
  ex : ∃ f fd, mg x = some (.ref f) ∧ PySem.W.keepIn K (.ref f) = true ∧ (∃ oc od osl, K.lookup f = some ⟨oc, od, .func fd, osl⟩) ∧ Binds K fd ps [] ∧ FnOk P w K mg base (CX1 P w) k f fd ps sp
section
variable {X : Cx} {k : Nat} {x : Str} {ps : List Str} {sp : Sp} {e : Expr} {es : List Expr} {t : TA} {p pos : Pos} {E : XK}
theorem pe_defX (D : DefX X.prog X.w X.K X.mg X.base k x ps sp) (hr : Room k X.A) (hg : Gl X x) (ha : PA X (e :: es) t) (hx : Passes (CX1 X.prog X.w) X E) (hdb : (x == ("__debug__" : Str)) = false := by decide)
    (hst : noStars (e :: es) = true := by rfl) : PE X (.Call (.Name x p) (e :: es) [] pos) (fun σ H Q => t σ H fun vs H1 => sp vs H1 Q E) := by
  obtain ⟨f, fd, mgf, kp, _, b, G⟩ := D.ex
  have h' : noStar e = true ∧ noStars es = true := by simpa [noStars] using hst
  have he := starEach_cons (es := es) (env := X.env) h'.1
  have hpl := back_any (env := X.env) (pos := pos) h'.2
  have h := pe_call (X := X) (dvs := []) (E := E) (p := p) (pos := pos) G hr hg mgf kp b .nil hx ha hdb he hpl
  intro pins s σ H Q I hq
  refine h pins s σ H Q I ?_
  show t σ H fun vs H1 => sp (vs ++ []) H1 Q E
  have e1 : (fun (vs : List V) H1 => sp (vs ++ []) H1 Q E) = fun vs H1 => sp vs H1 Q E := by funext vs H1; rw [List.append_nil]
  rw [e1]
  exact hq
theorem j_defX (D : DefX X.prog X.w X.K X.mg X.base k x ps sp) (hr : Room k X.A) (hg : Gl X x) (ha : JA X (e :: es) t) (hx : Passes (CX1 X.prog X.w) X E) (hdb : (x == ("__debug__" : Str)) = false := by decide)
    (hst : noStars (e :: es) = true := by rfl) : JE X (.Call (.Name x p) (e :: es) [] pos) (fun σ H Q => t σ H fun vs H1 => sp vs H1 Q E) := .mk (pe_defX D hr hg ha.out hx hdb hst)
end
theorem Raw.defX {P : Program} {w : World} {K : PySem.W.Frag} {mg : Str → Option Value} {base : Heap} {x : Str} {st : Stmt} {N ps : List Str} {k : Nat} {sp : Sp} (R : Raw K mg x st ps) (S : FnScope N ps (defScope st)) (len : ∀ vs H Q E, sp vs H Q E → vs.length = ps.length)
    (hbody : ∀ (f : Addr) (cdv : Value) (A : Around) (outer : List Env) (s : Shared) (H : Hp) (vs : List V) (Q : VK) (E : XK), Room k (A.deeper (envOfC x (defScope st) s.heap.objs.size f cdv)) → sp vs H Q E →
      ∃ t, JSs (cxOf (CX1 P w) P w K mg base N x (defScope st) f cdv A outer s H E) (defBody st) t ∧ t { nx := fun _ H' => Q .non H', rt := Q } (start N vs) H) : DefX P w K mg base (k + 1) x ps sp := by
  obtain ⟨f, fd, h1, F, b⟩ := R.ex
  refine ⟨f, fd, h1, F.kp, F.lk, .all b, ?_⟩
  obtain ⟨oc, od, kV, doc, pm, an, cdv, ct, osl, rfl, lk, hcd⟩ := F.ex
  refine fn_of lk hcd S len fun A outer s H vs Q E hr hsp => ?_
  obtain ⟨t, h, q⟩ := hbody f cdv A outer s H vs Q E hr hsp
  exact ⟨t, h.out, q⟩
end L2

set_option Elab.async false
set_option linter.all false
set_option maxRecDepth 100000
set_option maxHeartbeats 4000000
namespace L2
open PySem PySem.Spec PyProof.Rows
end L2

set_option Elab.async false
set_option linter.all false
set_option maxRecDepth 100000
set_option maxHeartbeats 4000000
namespace L2
open PySem PySem.Spec PyProof.Rows
section
variable {X : Cx} {E : XK} {pins : List (Addr × Obj)} {σ : List (Option V)} {H : Hp} {s : Shared}
end
section
variable {X : Cx} {E : XK} {N : List Str} {cap : List (Option Nat)} {scope : Scope} {elt target iter : Expr} {ifs : List Expr} {pos pos' spos : Pos} {wi : TI} {g : TG} {tc : TT} {te : TE}
end
end L2

set_option Elab.async false
set_option linter.all false
set_option maxRecDepth 100000
set_option maxHeartbeats 4000000
namespace L2
open PySem PySem.Spec PyProof.Rows
section
variable {X : Cx} {E : XK} {N : List Str} {cap : List (Option Nat)} {scope : Scope} {elt target iter : Expr} {ifs : List Expr} {pos pos' spos : Pos} {wi : TI} {g : TG} {tc : TT} {te : TE}
end
end L2

set_option Elab.async false
set_option linter.all false
set_option maxRecDepth 100000
set_option maxHeartbeats 4000000
namespace L2
open PySem PySem.Spec PyProof.Rows

def mroHas (K : PySem.W.Frag) (C : Addr) (v : Value) : Bool := match K.lookup C with
  | some ⟨_, _, .cls cd, _⟩ => cd.mro.contains v
  | _ => false
theorem exc_of_in2 {K : PySem.W.Frag} {h : Heap} {C : Addr} {bmB : List Value} {newId : String} (X : K.In h) (q : PySem.W.excIn K C bmB newId = true) :
    ∃ bm N nm q bs hdct sn sub ab col dd k0 k1 k2 k3 k5 mN, h.get? C = some (excClassObj nm q C N bs bm hdct sn sub ab col dd k0 k1 k2 k3 k5 newId) ∧ h.Ns N mN ∧ mN "__init__" = none ∧ OwnTail h bmB bm ∧ ∀ v, mroHas K C v = (Value.ref C :: bm).contains v := by
  unfold PySem.W.excIn at q
  split at q
  · rename_i dd cd sl ho
    split at q
    · rename_i C' bm k0 k1 k2 k3 n k5 hm hs
      simp only [Bool.and_eq_true, beq_iff_eq, Bool.not_eq_true'] at q
      obtain ⟨⟨⟨⟨⟨rfl, rfl⟩, hdel⟩, ht⟩, hok⟩, hni⟩ := q
      have hv : ∀ v, mroHas K C' v = (Value.ref C' :: bm).contains v := fun v => by unfold mroHas; rw [ho]; dsimp only; rw [hm]
      obtain ⟨nm, bs, mro, ns, qn, hd, sn, sub, ab, col, del⟩ := cd
      dsimp only at hm hdel hok hni
      subst hm hdel
      have hsl : sl = #[k0, k1, k2, k3, some (.builtin n), k5] := by
        obtain ⟨l⟩ := sl
        simp only at hs
        rw [hs]
      subst hsl
      exact ⟨bm, ns, nm, qn, bs, hd, sn, sub, ab, col, dd, k0, k1, k2, k3, k5, _, X _ _ ho, .of_isNs (PySem.W.isNs_of_in X hok), PySem.W.nsMap_none_of_in X hok hni, PySem.W.tail_of_in X ht, hv⟩
    · cases q
  · cases q
section
variable {M : Model} {A : Around} {E : Value → Shared → Prop}
variable {nm q : Str} {C N : Addr} {bs bm : List Value} {hdct : Bool} {sn : List Str} {sub : List Value} {ab : Bool} {col : Option Bool} {dd : Option Addr} {k0 k1 k2 k3 k5 : Option Value} {newId : String}
variable {nm' q' : Str} {G N' : Addr} {bs' bm' : List Value} {hdct' : Bool} {sn' : List Str} {sub' : List Value} {ab' : Bool} {col' : Option Bool} {dd' : Option Addr} {k0' k1' k2' k3' k5' : Option Value} {newId' : String}
theorem excMatches_own {h : Heap} {g : Array GenState} {d : Drawn} {t : Nat} {os : OsState} {e : Addr} {oe : Obj} {Q : Bool → Shared → Prop}
    (hC : h.get? C = some (excClassObj nm q C N bs bm hdct sn sub ab col dd k0 k1 k2 k3 k5 newId)) (hG : h.get? G = some (excClassObj nm' q' G N' bs' bm' hdct' sn' sub' ab' col' dd' k0' k1' k2' k3' k5' newId')) (he : h.get? e = some oe) (hcls : oe.cls = .ref C)
    (hbase : bm'.contains (.type "BaseException") = true) (hm : (Value.ref C :: bm).contains (.ref G) = true)
    (hq : Q true ⟨h, g, d, t, os⟩) : wpAny M A (excMatches (.ref e) (.ref G)) Q E ⟨h, g, d, t, os⟩ := by
  have hcB : (Value.ref G :: bm').contains (.type "BaseException") = true := by rw [List.contains_cons, hbase, Bool.or_true]
  have f := tc_notTuple
  unfold excMatches
  repeat (first | (with_reducible refine wpAny_loadPart_at he ?_; rw [hcls]) | with_reducible refine wpAny_loadPart_at hG ?_ | with_reducible refine wpAny_loadPart_at hC ?_ | (with_reducible refine wpAny_isSubtype_exc hG ?_; rw [hcB]) | (with_reducible refine wpAny_isSubtype_exc hC ?_; rw [hm]) | wp_step)
  exact hq
end
section
variable {X : Cx} {pins : List (Addr × Obj)} {σ : List (Option V)} {H : Hp} {s : Shared}
theorem goes_ok {M : Model} {A : Around} {E : Value → Shared → Prop} {i : Nat} {n : Str} {pos : Pos} {Q : Unit → Shared → Prop} (I : Inv X pins σ H s) (hN : X.N.Nodup) (hi : X.N[i]? = some n) (hk : X.env.kindOf n = some .local)
    (h : ∀ s', Inv X pins (σ.set i none) H s' → Q () s') : wpAny M A (do bindName X.env n .none; unbindBehindTheSuite X.env n pos) Q E s := by
  obtain ⟨m, hn, hl⟩ := id I.loc
  have hcls : (X.env.scope.kind == .class || (X.env.scope.kind == .module && X.env.locals != X.env.globals)) = false := by rw [I.ok.kind]; rfl
  have hiσ : i < σ.length := by rw [I.len]; exact (List.getElem?_eq_some_iff.mp hi).1
  have cne := I.cne
  refine wpAny_nameGoes_keeps hk hn hcls fun h' v hn' hs => h _ ?_
  obtain ⟨oL, _, _, hoL, _⟩ := id hn
  have tracked : HOk X.prog X.w H h' := fun b ob e => by
    refine (I.hok b ob e).stay (fun c w' hc q => (hs.2 c ?_).trans q) (fun _ q => q) fun _ _ q => q
    rintro rfl
    have hfree := I.free
    rcases hc with rfl | hc
    · rw [hfree] at e; cases e
    · rw [hfree] at hc; cases hc
  refine Inv.tok (s := { s with heap := h' }) ⟨I.ok, I.os, I.bare, ⟨fun b o e n hb hx => ?_, fun b o e n hb hx => ?_, I.base.free, fun b o e hx => ?_, I.base.tups, I.base.frzs, I.base.tbls⟩, ⟨_, hn', fun j y v' e1 e2 e3 => ?_⟩, fun y c e => ?_, I.free, I.freeC, fun p hp => ?_, tracked, by simpa using I.len⟩ _
  · exact (hs.2 b (Nat.ne_of_lt (Nat.lt_of_lt_of_le (Heap.lt_size e) I.ok.above))).trans (I.base.keep b o e n hb hx)
  · obtain ⟨sl, e1⟩ := I.base.slot b o e n hb hx
    exact ⟨sl, (hs.2 b (Nat.ne_of_lt (Nat.lt_of_lt_of_le (Heap.lt_size e) I.ok.above))).trans e1⟩
  · obtain ⟨o', e1⟩ := I.base.there b o e hx
    exact ⟨o', (hs.2 b (Nat.ne_of_lt (Nat.lt_of_lt_of_le (Heap.lt_size e) I.ok.above))).trans e1⟩
  · by_cases hj : j = i
    · subst hj
      rw [List.getElem?_set_self hiσ] at e2
      cases e2
    · rw [List.getElem?_set_ne (Ne.symm hj)] at e2
      obtain ⟨u', r', q⟩ := hl j y v' e1 e2 e3
      refine ⟨u', r', ?_⟩
      rcases q with ⟨k, e⟩ | ⟨k, c, e, z⟩
      · refine .inl ⟨k, ?_⟩
        have : y ≠ n := fun e => hj (nodup_ix hN e1 (e ▸ hi))
        simp [this, e]
      · exact .inr ⟨k, c, e, z.sameBut hs (cne y c e)⟩
  · obtain ⟨w', z⟩ := I.cell y c e
    exact ⟨w', z.sameBut hs (cne y c e)⟩
  · obtain ⟨e, n, ne, nf, d⟩ := I.pin p hp
    exact ⟨(hs.2 p.1 ne).trans e, n, ne, nf, d⟩
end
def cxSuite (X : Cx) (a : Addr) (oe : Obj) : Cx := { X with A := X.A.mark (some (.ref a)), calm := false, pn := X.pn ++ [(a, oe)], xe := fun _ _ => False }
theorem suite_in {X : Cx} {pins : List (Addr × Obj)} {σ : List (Option V)} {H : Hp} {s : Shared} {a : Addr} {oe : Obj} (I : Inv X pins σ H s) (he : s.heap.get? a = some oe) (hn : H a = none) (hL : a ≠ X.env.locals) (hf : a ∉ X.fs) (hd : ∀ v, oe.data ≠ .cell v) :
    Inv (cxSuite X a oe) pins σ H s :=
  ⟨⟨I.ok.mod, I.ok.kind, I.ok.glob, I.ok.blt, I.ok.above, I.ok.inj, I.ok.has, I.ok.cab, fun z => absurd z Bool.false_ne_true, I.ok.frames, I.ok.stk, I.ok.exf, I.ok.bs, I.ok.bsz, I.ok.noex, I.ok.exfs, I.ok.funs, I.ok.frf⟩, I.os, I.bare, I.base, I.loc, I.cell, I.free, I.freeC, fun p hp => by
    have hp' : p ∈ (X.pn ++ [(a, oe)]) ++ pins := hp
    rcases List.mem_append.mp hp' with z | z
    · rcases List.mem_append.mp z with y | y
      · exact I.pin p (List.mem_append_left _ y)
      · rw [List.mem_singleton.mp y]; exact ⟨he, hn, hL, hf, hd⟩
    · exact I.pin p (List.mem_append_right _ z), I.hok, I.len⟩
theorem suite_out {X : Cx} {pins : List (Addr × Obj)} {σ : List (Option V)} {H : Hp} {s : Shared} {a : Addr} {oe : Obj} (ok : X.Ok) (I : Inv (cxSuite X a oe) pins σ H s) : Inv X pins σ H s :=
  ⟨ok, I.os, I.bare, I.base, I.loc, I.cell, I.free, I.freeC, fun p hp => I.pin p (by
    show p ∈ (X.pn ++ [(a, oe)]) ++ pins
    rcases List.mem_append.mp hp with z | z
    · exact List.mem_append_left _ (List.mem_append_left _ z)
    · exact List.mem_append_right _ z), I.hok, I.len⟩
end L2

set_option Elab.async false
set_option linter.all false
set_option maxRecDepth 100000
set_option maxHeartbeats 4000000
namespace L2
open PySem PySem.Spec PyProof.Rows
theorem objOk_there {P : Program} {w : World} {H : Hp} {h : Heap} {a : Addr} {o : HO} (x : ObjOk P w H h a o) : ∃ u, h.get? a = some u := by
  induction o with
  | lst xs => obtain ⟨_, _, _, _, e⟩ := x; exact ⟨_, e⟩
  | tup xs => obtain ⟨_, _, _, o, e, _⟩ := x; exact ⟨_, e⟩
  | dK kvs => obtain ⟨_, _, _, _, o, _, _, e, _⟩ := x; exact ⟨_, e⟩
  | dT kvs => obtain ⟨_, _, _, _, o, _, _, e, _⟩ := x; exact ⟨_, e⟩
  | set S n => obtain ⟨o, _, _, _, e, _⟩ := x; exact ⟨_, e⟩
  | ins C dx fs => obtain ⟨_, _, _, e, _⟩ := x; exact ⟨_, e⟩
  | own y => exact x
  | xd fs => obtain ⟨_, ⟨_, _, _, e, _⟩, _⟩ := x; exact ⟨_, e⟩
  | rng lo hi => obtain ⟨_, _, _, e⟩ := x; exact ⟨_, e⟩
  | frz o u ih => exact ⟨_, x.1⟩
  | tbl ps => exact ⟨_, x⟩
  | met f y => exact ⟨_, x⟩
  | ext φ => exact x.2.1
structure ExcK (K : PySem.W.Frag) (C : Addr) : Prop where
  exc : PySem.W.excIn K C bmVE "ValueError.__new__" = true
  f1 : PySem.W.findIn K (.ref C) "__getattribute__" = some (some (.builtin "BaseException.__getattribute__"))
  f2 : PySem.W.findIn K (.ref C) "__getattr__" = some none
  f3 : PySem.W.findIn K (.ref C) "__class__" = some (some (.builtin "object.__class__"))
  obj : PySem.W.mroIn K C (.type "object") = some true
def sufEnds (i : Nat) (D : Ends) : Ends := { nx := fun σ H => D.nx (σ.set i none) H, rt := D.rt, bk := fun σ H => D.bk (σ.set i none) H, ct := fun σ H => D.ct (σ.set i none) H }
def tTryAs (K : PySem.W.Frag) (CG : Addr) (i : Nat) (sp : Sp) (t : TA) (ts : Addr → Addr → TS) : TS := fun D σ H => t σ H fun vs H1 => sp vs H1 (fun _ H2 => D.nx σ H2) fun cls _ H2 =>
  ∃ C, cls = .ref C ∧ ExcK K C ∧ mroHas K C (.ref CG) = true ∧ ∀ a, H2 a = none → ts a C (sufEnds i D) (σ.set i (some (.ref a))) H2
section
variable {X : Cx} {k : Nat} {x G n : Str} {ps : List Str} {sp : Sp} {e : Expr} {es : List Expr} {t : TA} {p gp cpos epos hpos pos : Pos} {CG : Addr} {newId : String} {i : Nat} {b₀ : Stmt} {suite : List Stmt} {ts : Addr → Addr → TS}
theorem ps_tryAs (hst : X.stack = X.env :: X.outer) (hfr : X.env.frame = some X.env.locals) (D : DefX X.prog X.w X.K X.mg X.base k x ps sp) (hr : Room k X.A) (hg : Gl X x) (ha : PA X.nox (e :: es) t)
    (hgG : Gl X G) (hmG : X.mg G = some (.ref CG)) (hqG : PySem.W.excIn X.K CG bmVE "ValueError.__new__" = true) (hN : X.N.Nodup) (hi : X.N[i]? = some n) (hk : X.env.scope.names.lookup n = some .local)
    (hsu : ∀ a oe C, oe.cls = .ref C → ExcK X.K C → PSs (cxSuite X a oe) (b₀ :: suite) (ts a C)) (hdb : (x == ("__debug__" : Str)) = false := by decide) (hdG : (G == ("__debug__" : Str)) = false := by decide)
    (hstar : noStars (e :: es) = true := by rfl) (hsw : swapsWith (.Call (.Name x p) (e :: es) [] cpos) none epos.line X.env = pure false := by rfl) :
    PS X (.Try [.Expr (.Call (.Name x p) (e :: es) [] cpos) epos] [.ExceptHandler (some (.Name G gp)) (some n) (b₀ :: suite) hpos] [] [] pos) (tTryAs X.K CG i sp t ts) := by
  intro pins s σ H Dn I h
  obtain ⟨f, fd, mgf, kp, _, b, Fk⟩ := D.ex
  have h' : noStar e = true ∧ noStars es = true := by simpa [noStars] using hstar
  have he := starEach_cons (es := es) (env := X.env) h'.1
  have hpl := back_any (env := X.env) (pos := cpos) h'.2
  refine wpAny_Try_except (wpAny_execs_cons (wpAny_Expr_any (wpAny_Call_Name_kw (ld_glob I hg mgf ?_ hdb)) I.quiet hsw))
  refine PySem.W.callWith_K (h₀ := X.base) I.ok.mod.kin kp (wpAny_mono (ha cpos pins s σ H _ (I.wish _) h) (fun us s1 h1 => ?_) fun _ _ z => False.elim z) he hpl
  obtain ⟨vs, H1, I1', r, q⟩ := h1
  have I1 := I1'.unwish
  refine ⟨I1.kIn, ?_⟩
  have hl : us.length = ps.length := by rw [← r.length]; exact Fk.len _ _ _ _ q
  have hbind : BindsTo s1 fd ⟨us, []⟩ (ps.zip us) := by
    have := b s1 us I1.kIn (by rw [List.append_nil]; exact hl)
    rw [List.append_nil] at this; exact this
  refine wpAny_call (codeAny_mono (Fk.run X.A X.stack s1 H1 ⟨us, []⟩ us vs _ _ hr I1.env0 hbind r q) fun r' s' hq => ?_)
  cases r' with
  | ok fl =>
    cases fl with
    | ret u =>
      obtain ⟨v, H2, I2, rv, q2⟩ := I1.after hq
      exact wpAny_execs_nil (wpAny_execs_nil ⟨σ, H2, I2, q2⟩)
    | next => exact False.elim hq
    | brk => exact False.elim hq
    | cont => exact False.elim hq
  | error er =>
    obtain ⟨a, B, cls, a0, H', rfl, os, bare, fl, hok, un, kb, C, rfl, hqC, hmro, hts⟩ := hq
    have nf : ∀ b ∈ frs X.stack, ∃ o, s1.heap.get? b = some o ∧ ∀ vs, o.data ≠ .fields vs := fun b hb => (I1.stack.mem hb).2
    have mk : ∀ h1, B.StaysIn h1 → s'.heap.UpToSlots h1 → Inv X pins σ H' { s' with heap := h1 } := fun h1 st us =>
      I1.call' (s' := { s' with heap := h1 }) (ch := []) os (un_left un kb st (fun b _ => us b) nf I1.stkFree) (hok.kept st) bare fun b z => nomatch z
    refine note_any (env := X.env) (outer := X.outer) (L := X.env.locals) (by rw [← hst]; exact I.ok.frames) hfr (by rw [← hst]; exact fl) fun h1 held us1 => ?_
    refine wpAny_landsW (s := { s' with heap := h1 }) held fun h2 fl2 us2 => ?_
    have I2 := mk h2 fl2.1 (us1.trans us2)
    obtain ⟨ob, hob, hobc⟩ := fl2.there
    obtain ⟨bm, N, nm, qn, bs, hdct, sn, sub, ab, col, dd, k0, k1, k2, k3, k5, mN, hC, hN', hni, TL, hv⟩ := exc_of_in2 (h := X.base) I.ok.mod.kin hqC.exc
    obtain ⟨bm', N'', nm', qn', bs', hdct', sn', sub', ab', col', dd', k0', k1', k2', k3', k5', mN', hCG, hNG, hniG, TG, hvG⟩ := exc_of_in2 (h := X.base) I.ok.mod.kin hqG
    refine wpAny_handleBy_cons (codeAny_handlers_test (Calls.Name_function_global I2.ok.kind hgG (Calls.loadGlobal_global (by rw [I2.ok.glob]; exact I2.mod.glob.keeps I2.bk) hmG ?_) hdG)) (by intro q; cases q)
    refine excMatches_own (I2.bk _ _ hC) (I2.bk _ _ hCG) hob hobc (TG.hasType F.excBase_ValueError.hasBase) (by rw [← hv]; exact hmro) (codeAny_handlers_suite_as ?_)
    refine lands_againW (s := { s' with heap := h2 }) fl2 fun h3 fl3 us3 => ?_
    have I3 := mk h3 fl3.1 ((us1.trans us2).trans us3)
    obtain ⟨oe, ws, hoe, hoec, hoed, _⟩ := fl3.first
    have hHa : H' a = none := by
      cases z : H' a with
      | none => rfl
      | some o =>
        obtain ⟨u, hu⟩ := objOk_there (hok a o z)
        rw [fl.2.1] at hu; cases hu
    have notfr : a ∉ frs (X.env :: X.outer) := fun z => by
      obtain ⟨_, o', e', d'⟩ := fl3.2.2.1.mem z
      rw [hoe] at e'; cases e'
      exact d' ws hoed
    have hL : a ≠ X.env.locals := fun z => notfr (by rw [frs_cons hfr, z]; exact List.mem_cons_self)
    have hF : a ∉ X.fs := fun z => notfr (by rw [frs_cons hfr]; exact List.mem_cons_of_mem _ z)
    have Is := suite_in I3 hoe hHa hL hF (fun v z => by rw [hoed] at z; cases z)
    have hkl : X.env.kindOf n = some .local := hk
    refine store_ok (X := cxSuite X a oe) Is hN hi (.inl hk) (show RelV (.ref a) (.ref a) from rfl) (fun s4 I4 => ?_) (.inr hk)
    refine wpAny_mono (hsu a oe C hoec hqC pins s4 _ H' (sufEnds i Dn) I4 (hts a hHa)) (fun fl s5 h5 => ?_) fun _ _ z => z.elim
    cases fl with
    | next =>
      obtain ⟨σ5, H5, I5, q5⟩ := h5
      exact goes_ok (suite_out I.ok I5) hN hi hkl fun s6 I6 => ⟨_, H5, I6, q5⟩
    | brk =>
      obtain ⟨σ5, H5, I5, q5⟩ := h5
      exact goes_ok (suite_out I.ok I5) hN hi hkl fun s6 I6 => ⟨_, H5, I6, q5⟩
    | cont =>
      obtain ⟨σ5, H5, I5, q5⟩ := h5
      exact goes_ok (suite_out I.ok I5) hN hi hkl fun s6 I6 => ⟨_, H5, I6, q5⟩
    | ret u =>
      obtain ⟨v, σ5, H5, I5, r5, q5⟩ := h5
      exact goes_ok (suite_out I.ok I5) hN hi hkl fun s6 I6 => ⟨v, _, H5, I6, r5, q5⟩
theorem js_tryAs {K : PySem.W.Frag} (hst : X.stack = X.env :: X.outer) (hfr : X.env.frame = some X.env.locals) (D : DefX X.prog X.w X.K X.mg X.base k x ps sp) (hr : Room k X.A) (hg : Gl X x) (ha : JA X.nox (e :: es) t)
    (hgG : Gl X G) (hmG : X.mg G = some (.ref CG)) (hqG : PySem.W.excIn X.K CG bmVE "ValueError.__new__" = true) (hN : X.N.Nodup) (hi : X.N[i]? = some n) (hk : X.env.scope.names.lookup n = some .local)
    (hsu : ∀ a oe C, oe.cls = .ref C → ExcK X.K C → JSs (cxSuite X a oe) (b₀ :: suite) (ts a C)) (hK : X.K = K := by rfl) (hdb : (x == ("__debug__" : Str)) = false := by decide) (hdG : (G == ("__debug__" : Str)) = false := by decide)
    (hstar : noStars (e :: es) = true := by rfl) (hsw : swapsWith (.Call (.Name x p) (e :: es) [] cpos) none epos.line X.env = pure false := by rfl) :
    JS X (.Try [.Expr (.Call (.Name x p) (e :: es) [] cpos) epos] [.ExceptHandler (some (.Name G gp)) (some n) (b₀ :: suite) hpos] [] [] pos) (tTryAs K CG i sp t ts) := by
  subst hK
  exact .mk (ps_tryAs hst hfr D hr hg ha.out hgG hmG hqG hN hi hk (fun a oe C h Z => (hsu a oe C h Z).out) hdb hdG hstar hsw)
end
end L2

set_option Elab.async false
set_option linter.all false
set_option maxRecDepth 100000
set_option maxHeartbeats 4000000
namespace PySem.W
open PySem PySem.Calls PyProof.Rows Builtin Builtin.ObjectAttr Builtin.Getset_descriptor
theorem class_getE {prog : Program} {w : World} {A : Around} {R : Result → Shared → Prop} {s : Shared} {K : Frag} {x C : Addr} {ox : Obj} {tp : Value} (X : K.In s.heap) (hx : s.heap.get? x = some ox) (hc : ox.cls = .ref C) (hm : mroIn K C (.type "object") = some true)
    (h : R (.ok (.ret (.ref C))) s) : codeAny (model prog w) A (.call (.builtin "getset_descriptor.__get__") ⟨[.builtin "object.__class__", .ref x, tp], []⟩) R s := by
  obtain ⟨hh, g, dr, t, os⟩ := s
  have L0 : Looks (model prog w) hh (typeOf (.ref x)) (.ref C) := hc ▸ (Looks.ld hx).andThen .now
  have L1 := looks_mroIn (M := model prog w) X hm
  refine codeAny_call_builtin KF.slot_gs.plain KF.entry_gs (KF.slot_gs.check _ _ _ _ _ _ _ _ KF.type_class (KF.args_gs _ _ _) ?_)
  unfold Builtin.«getset_descriptor.__get__» descrGet
  rw [dga_obj]
  refine wpAny_bind (wpAny_pure ?_)
  unfold descrGetter descrCheckInstance descrNameAndClass isInstance
  simp only [KF.owner_class]
  repeat lk
  refine ⟨Code.quiet_builtin _ (by decide +kernel), codeAny_builtin KF.entry_class ?_⟩
  unfold Builtin.«object.__class__» shownTypeOf
  repeat lk
  exact h
end PySem.W
namespace L2
open PySem PySem.Spec PyProof.Rows PySem.W
structure InstE (h : Heap) (a : Addr) (o : Obj) (C : Addr) : Prop where
  at_ : h.get? a = some o
  cls : o.cls = .ref C
section
variable {prog : Program} {w : World} {A : Around} {E : Value → Shared → Prop} {h : Heap} {g : Array GenState} {d : Drawn} {t : Nat} {os : OsState} {a : Addr} {o : Obj} {K : Frag}
  {nm q : Str} {C N : Addr} {bs bm : List Value} {hdct : Bool} {sn : List Str} {sub : List Value} {ab : Bool} {col : Option Bool} {dd : Option Addr} {k0 k1 k2 k3 k5 : Option Value} {newId : String}
theorem tl_in {M : Model} {name : Str} {r : Option Value} {Q : Option Value → Shared → Prop} (X : K.In h) (f : findIn K (.ref C) name = some r) (hq : Q r ⟨h, g, d, t, os⟩) : wpAny M A (typeLookup (.ref C) name) Q E ⟨h, g, d, t, os⟩ :=
  (looks_findIn (M := M) X f).at hq
theorem check_ga {M : Model} {nameV : Value} {Q : Unit → Shared → Prop} (hC : h.get? C = some (excClassObj nm q C N bs bm hdct sn sub ab col dd k0 k1 k2 k3 k5 newId)) (hcB : (Value.ref C :: bm).contains (.type "BaseException") = true)
    (hx : h.get? a = some o) (hc : o.cls = .ref C) (hq : Q () ⟨h, g, d, t, os⟩) : wpAny M A (checkBuiltinCall "BaseException.__getattribute__" ⟨[.ref a, nameV], []⟩) Q E ⟨h, g, d, t, os⟩ := by
  have hk : builtinKind "BaseException.__getattribute__" = some .slot := by decide +kernel
  have hsplit : splitId "BaseException.__getattribute__" = some ("BaseException", "__getattribute__") := by decide +kernel
  have ha := F.args_bexc_ga (.ref a) nameV
  simp only [checkBuiltinCall, hk, hsplit]
  refine wpAny_bind ?_
  · unfold isInstance
    repeat (first | (with_reducible refine wpAny_loadPart_at hx ?_; rw [hc]) | (with_reducible refine wpAny_isSubtype_exc hC ?_; rw [hcB]) | wp_step)
    exact hq
theorem class_entry {tk : Tok} {Q : Fin → Shared → Prop} (X : K.In h) (I : InstE h a o C) (f3 : findIn K (.ref C) "__class__" = some (some (.builtin "object.__class__"))) (hm : mroIn K C (.type "object") = some true)
    (hq : Q (.done (.ret (.ref C))) ⟨h, g, d, t, os⟩) :
    wpAny (model prog w) A (Builtin.«object.__getattribute__» ⟨[.ref a, .str "__class__" tk], []⟩) Q E ⟨h, g, d, t, os⟩ := by
  have hx := I.at_
  have hc := I.cls
  have hT5 : (⟨h, g, d, t, os⟩ : Shared).TypeIs (.builtin "object.__class__") "getset_descriptor" := F.typeOf_object_class
  have f5 := F.typeOf_object_class
  have f6 := F.slot_gs_get.lookup
  have f7 := F.slot_gs_set.lookup
  repeat (any_goals (first | assumption | (with_reducible refine wpAny_loadPart_at hx ?_; rw [hc]) | with_reducible refine tl_in X f3 ?_ | wp_step))
  refine PySem.W.class_getE (s := ⟨h, g, d, t, os⟩) X I.at_ I.cls hm ?_
  repeat (any_goals (first | assumption | wp_step))
theorem class_call {tk : Tok} {R : Result → Shared → Prop} (X : K.In h) (I : InstE h a o C) (hC : h.get? C = some (excClassObj nm q C N bs bm hdct sn sub ab col dd k0 k1 k2 k3 k5 newId)) (hcB : (Value.ref C :: bm).contains (.type "BaseException") = true)
    (f3 : findIn K (.ref C) "__class__" = some (some (.builtin "object.__class__"))) (hm : mroIn K C (.type "object") = some true) (hq : R (.ok (.ret (.ref C))) ⟨h, g, d, t, os⟩) :
    codeAny (model prog w) A (.call (.builtin "BaseException.__getattribute__") ⟨[.ref a, .str "__class__" tk], []⟩) R ⟨h, g, d, t, os⟩ :=
  codeAny_call_builtin F.attr_ValueError.ga.plain F.entry_bexc_ga (check_ga hC hcB I.at_ I.cls (class_entry X I f3 hm hq))
theorem class_by {tk : Tok} {Q : Value → Shared → Prop} (X : K.In h) (I : InstE h a o C) (hC : h.get? C = some (excClassObj nm q C N bs bm hdct sn sub ab col dd k0 k1 k2 k3 k5 newId)) (hcB : (Value.ref C :: bm).contains (.type "BaseException") = true)
    (f1 : findIn K (.ref C) "__getattribute__" = some (some (.builtin "BaseException.__getattribute__"))) (f2 : findIn K (.ref C) "__getattr__" = some none)
    (f3 : findIn K (.ref C) "__class__" = some (some (.builtin "object.__class__"))) (hm : mroIn K C (.type "object") = some true) (hq : Q (.ref C) ⟨h, g, d, t, os⟩) :
    wpAny (model prog w) A (getAttrBy (.ref a) (.str "__class__" tk) false) Q E ⟨h, g, d, t, os⟩ := by
  have hx := I.at_
  have hc := I.cls
  have f3' := F.attr_ValueError.ga.bind (.ref a)
  have hx2 : (Value.builtin "BaseException.__getattribute__" == Value.builtin "object.__getattribute__") = false := by decide +kernel
  have hx1 : (onTheHeap (Value.ref C) && Value.builtin "BaseException.__getattribute__" == Value.builtin "object.__getattribute__") = false := by rw [hx2]; rfl
  have hx0 : (false && onTheHeap (Value.builtin "BaseException.__getattribute__")) = false := rfl
  repeat (any_goals (first | assumption | (with_reducible refine wpAny_loadPart_at hx ?_; rw [hc]) | with_reducible refine tl_in X f1 ?_ | with_reducible refine tl_in X f2 ?_ | wp_step))
  refine class_call X I hC hcB f3 hm ?_
  repeat (any_goals (first | assumption | wp_step))
end
theorem kitx_exc {K : Frag} {a C : Addr} {o : Obj} (Z : ExcK K C) : KitX K (.ref a) (.ref C) (fun h => InstE h a o C) where
  ty := fun _ _ _ I => I.cls ▸ (Looks.ld I.at_).andThen .now
  it := fun _ h X _ => by
    obtain ⟨bm, N, nm, qn, bs, hdct, sn, sub, ab, col, dd, k0, k1, k2, k3, k5, mN, hC, _⟩ := exc_of_in2 X Z.exc
    intro A' Q' E' s' k q
    unfold isType loadHead
    exact wpAny_bind (wpAny_loadPart (k _ _ hC) (wpAny_pure q))
  ne := fun h tp dd its n sl X htp => by
    obtain ⟨bm, N, nm, qn, bs, hdct, sn, sub, ab, col, dd', k0, k1, k2, k3, k5, mN, hC, _⟩ := exc_of_in2 X Z.exc
    refine Bool.eq_false_iff.mpr fun q => ?_
    have e : C = tp := Value.ref.inj (beq_iff_eq.mp q)
    subst e
    rw [htp] at hC
    have z : Value.type "tuple" = Value.type "type" := congrArg Obj.cls (Option.some.inj hC)
    exact absurd z (by decide)
  ca := fun {prog w A E Q s} X I k => by
    obtain ⟨hh, g, d, t, os⟩ := s
    obtain ⟨bm, N, nm, qn, bs, hdct, sn, sub, ab, col, dd', k0, k1, k2, k3, k5, mN, hC, _, _, TL, _⟩ := exc_of_in2 X Z.exc
    have hcB : (Value.ref C :: bm).contains (.type "BaseException") = true := by rw [List.contains_cons, TL.hasType F.excBase_ValueError.hasBase, Bool.or_true]
    unfold getAttr? getAttrBy?
    refine wpAny_bind (wpAny_mkText (wpAny_bind (wpAny_attempt ?_)))
    exact class_by (h := hh) X I hC hcB Z.f1 Z.f2 Z.f3 Z.obj (wpAny_pure k)

def gIsiX (K : Frag) (a C : Addr) : List V → Hp → VK → Prop := fun xs H Q => match xs with
  | [.ref a', .ref y] => a' = a ∧ ((∃ b, kitOne K (.ref C) (.ref y) = some b ∧ Q (.bl b) H) ∨ ∃ (cs : List Addr) (b : Bool), SqT K H y (cs.map V.ref) ∧ kitAny K (.ref C) (cs.map Value.ref) = some b ∧ Q (.bl b) H)
  | [.ref a', .ty T] => a' = a ∧ ∃ b, kitOne K (.ref C) (.type T) = some b ∧ Q (.bl b) H
  | _ => False
theorem vals_refs : ∀ {cs : List Addr} {its : List Value}, Vals (cs.map V.ref) its → its = cs.map Value.ref
  | [], its, h => by cases h; rfl
  | c :: r, its, h => by
    cases h with
    | cons h1 h2 =>
      have e1 : _ = Value.ref c := h1
      rw [e1, vals_refs h2]; rfl
theorem call_isiX {X : Cx} {a C : Addr} {oe : Obj} {K : Frag} (Z : ExcK X.K C) (hp : (a, oe) ∈ X.pn) (hc : oe.cls = .ref C) (hK : X.K = K := by rfl) : CallR X (.builtin "isinstance") (gIsiX K a C) := by
  subst hK
  intro pins s σ H xs us Q I r h
  have hI : InstE s.heap a oe C := ⟨(I.pin (a, oe) (List.mem_append_left _ hp)).1, hc⟩
  unfold gIsiX at h
  split at h
  · obtain ⟨u, u', rfl, r1, r2⟩ := vals2 r
    obtain ⟨rfl, h⟩ := h
    cases r1
    cases r2
    rcases h with ⟨b, hb, q⟩ | ⟨cs, b, hS, hb, q⟩
    · exact kia_one (kitx_exc Z) I.kIn hI hb (fun z => nomatch z) fun tk => ⟨.bl b, H, I.tok tk, rfl, q⟩
    · obtain ⟨its, rv, ⟨ot, h1, h2, n, h3⟩, _⟩ := I.tuple hS
      rw [vals_refs rv] at h3
      obtain ⟨oc, od, odt, osl⟩ := ot
      dsimp only at h2 h3
      subst h2 h3
      exact kia_tup (kitx_exc Z) I.kIn hI h1 hb (fun z => nomatch z) fun tk => ⟨.bl b, H, I.tok tk, rfl, q⟩
  · obtain ⟨u, u', rfl, r1, r2⟩ := vals2 r
    obtain ⟨rfl, b, hb, q⟩ := h
    cases r1
    cases r2
    exact kia_one (kitx_exc Z) I.kIn hI hb (fun z => nomatch z) fun tk => ⟨.bl b, H, I.tok tk, rfl, q⟩
  · exact h.elim
theorem c_isiX {X : Cx} {a C : Addr} {oe : Obj} {K : Frag} (Z : ExcK X.K C) (hc : oe.cls = .ref C) (hK : X.K = K := by rfl) : Irr (CallR (cxSuite X a oe) (.builtin "isinstance") (gIsiX K a C)) :=
  .mk (call_isiX (X := cxSuite X a oe) (oe := oe) Z (List.mem_append_right _ List.mem_cons_self) hc hK)
end L2

set_option Elab.async false
set_option linter.all false
set_option maxRecDepth 100000
set_option maxHeartbeats 4000000
namespace L2
open PySem PySem.Spec PyProof.Rows

def lamArgs (e : Expr) : Arguments := match e with
  | .Lambda a _ _ _ => a
  | _ => { posonlyargs := [], args := [], vararg := none, kwonlyargs := [], kw_defaults := [], kwarg := none, defaults := [] }
def lamBody (e : Expr) : Expr := match e with
  | .Lambda _ b _ _ => b
  | _ => e
def lamScope (e : Expr) : Scope := match e with
  | .Lambda _ _ sc _ => sc
  | _ => { kind := .function, names := [], isGenerator := false, isCoroutine := false }
def lamPos (e : Expr) : Pos := match e with
  | .Lambda _ _ _ p => p
  | _ => ⟨0, 0, 0, 0⟩
def stVal (s : Stmt) : Expr := match s with
  | .Assign _ v _ => v
  | .Return (some v) _ => v
  | .Expr v _ => v
  | _ => .Constant .none 0 ⟨0, 0, 0, 0⟩
def exArg (e : Expr) (k : Nat) : Expr := match e with
  | .Call _ as _ _ => as.getD k (.Constant .none 0 ⟨0, 0, 0, 0⟩)
  | _ => e
structure MadeL (H : Hp) (f : Addr) (qual : Str) (le : Expr) (cl : List (Str × Addr)) : Prop where
  ex : ∃ (pm : Value) (c' : Addr) (ctv : Value) (oc : Obj) (vs : Array Value) (t : Tok), Kn H f (PySem.W.kla_obj "<lambda>" qual (lamArgs le) (lamBody le) (lamScope le) cl pm c' ctv) ∧ Kn H c' oc ∧ oc.data = .fields vs ∧ vs[1]? = some (.str qual t)
structure CloAtL (H : Hp) (f : Addr) (qual : Str) (le : Expr) (fr : List Str) (cs : List Addr) (ws : List V) : Prop where
  ex : ∃ cl, MadeL H f qual le cl ∧ (∀ x c, cl.lookup x = some c → ∃ j : Nat, fr[j]? = some x ∧ cs[j]? = some c) ∧ ∀ (j : Nat) x, fr[j]? = some x → ∃ c, cl.lookup x = some c ∧ cs[j]? = some c
  cells : ∀ (j : Nat) x, ws[j]? = some x → ∃ c o u, cs[j]? = some c ∧ Kn H c o ∧ o.data = .cell (some u) ∧ RelV x u
  l1 : cs.length = fr.length
  l2 : ws.length = fr.length
  nd : cs.Nodup
theorem CloAtL.kn {H : Hp} {f : Addr} {qual : Str} {le : Expr} {fr : List Str} {cs : List Addr} {ws : List V} (C : CloAtL H f qual le fr cs ws) : ∀ c ∈ cs, ∃ o, Kn H c o := fun c m => by
  obtain ⟨j, hj, e⟩ := List.mem_iff_getElem.mp m
  have hw : j < ws.length := by rw [C.l2, ← C.l1]; exact hj
  obtain ⟨c', o, u, h1, h2, _⟩ := C.cells j ws[j] (List.getElem?_eq_getElem hw)
  rw [List.getElem?_eq_getElem hj, e] at h1
  cases h1
  exact ⟨o, h2⟩
theorem CloAtL.same {H H' : Hp} {f : Addr} {qual : Str} {le : Expr} {fr : List Str} {cs : List Addr} {ws : List V} (C : CloAtL H f qual le fr cs ws) (h : ∀ b o, Kn H b o → Kn H' b o) : CloAtL H' f qual le fr cs ws := by
  obtain ⟨cl, ⟨pm, c', ctv, oc, vs, t, h1, h2, h3, h4⟩, h5, h6⟩ := C.ex
  refine ⟨⟨cl, ⟨pm, c', ctv, oc, vs, t, h _ _ h1, h _ _ h2, h3, h4⟩, h5, h6⟩, fun j x e => ?_, C.l1, C.l2, C.nd⟩
  obtain ⟨c, o, u, q1, q2, q3, q4⟩ := C.cells j x e
  exact ⟨c, o, u, q1, h _ _ q2, q3, q4⟩
theorem CloAtL.fn {H : Hp} {f : Addr} {qual : Str} {le : Expr} {fr : List Str} {cs : List Addr} {ws : List V} (C : CloAtL H f qual le fr cs ws) : ∃ oc od fd sl, Kn H f ⟨oc, od, .func fd, sl⟩ := by
  obtain ⟨cl, ⟨pm, c', ctv, oc, vs, t, h1, _⟩, _⟩ := C.ex
  exact ⟨_, _, _, _, h1⟩
theorem clo_runL {P : Program} {w : World} {K : PySem.W.Frag} {mg : Str → Option Value} {base : Heap} {A : Around} {outer : List Env} {s : Shared} {H : Hp} {us : List Value} {vs : List V} {Q : VK} {E : XK} {k : Nat} {f : Addr} {qual : Str} {le : Expr} {ps ls fr : List Str} {cs : List Addr} {ws : List V}
    (hr : Room (k + 1) A) (e0 : Env0 P w K mg base A outer s H) (C : CloAtL H f qual le fr cs ws) (S : CloScope ps ls fr (lamScope le))
    (hb : ∀ cl pm c' ctv, bindArgs (PySem.W.kla_fn "<lambda>" qual (lamArgs le) (lamBody le) (lamScope le) cl pm (.ref c') ctv) ⟨us, []⟩ = pure (ps.zip us)) (hl : vs.length = ps.length) (r : Vals vs us)
    (hbody : ∀ cd cl, Room k (A.deeper (PySem.W.envX qual (lamScope le) s.heap.objs.size f cd cl)) → ∃ t, JE (cxClo P w K mg base (ps ++ ls ++ fr) qual (lamScope le) f cd cl A outer s (rem cs H)) (lamBody le) t ∧
      t (vs.map some ++ List.replicate ls.length none ++ ws.map some) (rem cs H) (fun v H' => Q v (back cs H H'))) :
    codeAny (model P w) A (.call (.ref f) ⟨us, []⟩) (CR CX0 outer P w H s Q E) s := by
  have kn := C.kn
  obtain ⟨cl, ⟨pm, c', ctv, oc, vs', t', h1, h2, h3, h4⟩, h5, h6⟩ := C.ex
  have lim : s.heap.NoLimit := e0.mod.nolimit.keeps fun b o e => (e0.bs b o e).1
  have ndP : ps.Nodup := (List.nodup_append.mp (List.nodup_append.mp S.nd).1).1
  have hlu : us.length = ps.length := by rw [← r.length]; exact hl
  refine PySem.W.kla_callFunE (fd := PySem.W.kla_fn "<lambda>" qual (lamArgs le) (lamBody le) (lamScope le) cl pm (.ref c') ctv) (body := lamBody le) hr.depth (Kn.get h1 e0.hok) rfl S.co S.gen rfl ⟨c', oc, vs', t', rfl, Kn.get h2 e0.hok, h3, h4⟩ ?_
  rw [hb cl pm c' ctv]
  refine wpAny_pure (wpAny_newFunctionEnv S.nocell (fun x hx => S.par x.1 (List.of_mem_zip (a := x.1) (b := x.2) hx).1) (fun h₁ hns hsb => ⟨lim.fresh _ hsb, ?_⟩) S.kind)
  show codeAny _ _ (.expr (lamBody le) (PySem.W.envX qual (lamScope le) s.heap.objs.size f (.ref c') cl)) _ _
  have hk₁ : ∀ b o, s.heap.get? b = some o → h₁.get? b = some o := fun b o e => hsb.extBut b o (Nat.ne_of_lt (Heap.lt_size e)) (Heap.get?_push_of_some _ e)
  refine PySem.W.kla_codeExpr ?_
  obtain ⟨t, ht, hq⟩ := hbody (.ref c') cl (hr.deeper _)
  have fsn : ∀ c ∈ cs, c ∉ frs outer := fun c m z => by
    obtain ⟨o, q⟩ := kn c m
    have := e0.frf c z
    unfold Kn at q
    rw [this] at q
    cases q
  have noX : ∀ b : Addr, b ∉ (cxClo P w K mg base (ps ++ ls ++ fr) qual (lamScope le) f (.ref c') cl A outer s (rem cs H)).ex := fun b z => absurd (show b ∈ ([] : List Addr) from z) (by simp)
  have remN : ∀ {b : Addr}, H b = none → rem cs H b = none := fun {b} n => by
    unfold rem
    split
    · rfl
    · exact n
  have cellAt : ∀ x c, cl.lookup x = some c → ∃ u, h₁.IsCell c (some u) := fun x c e => by
    obtain ⟨j, q1, q2⟩ := h5 x c e
    have hj : j < ws.length := by rw [C.l2]; exact (List.getElem?_eq_some_iff.mp q1).1
    obtain ⟨c2, o, u, z1, z2, z3, _⟩ := C.cells j ws[j] (List.getElem?_eq_getElem hj)
    rw [q2] at z1
    cases z1
    exact ⟨u, o, hk₁ _ _ (Kn.get z2 e0.hok), z3⟩
  have I : Inv (cxClo P w K mg base (ps ++ ls ++ fr) qual (lamScope le) f (.ref c') cl A outer s (rem cs H)) [] (vs.map some ++ List.replicate ls.length none ++ ws.map some) (rem cs H) { s with heap := h₁, toks := s.toks + (ps.zip us).length } := by
    refine ⟨⟨e0.mod, S.kind, rfl, rfl, Nat.le_refl _, fun y z c q1 q2 => ?_, fun y hy => ?_, fun y c hf _ => absurd (show false = true from hf) Bool.false_ne_true, fun _ => hr.hd, Around.frames_deeper e0.frames, .inr ⟨rfl, rfl⟩, fun b z => absurd z (noX b), fun b o e => ⟨(e0.bs b o e).1, remN (e0.bs b o e).2⟩, e0.bsz, fun b _ _ => noX b, fun b z => absurd z (noX b), e0.funs, fun b hb => remN (e0.frf b hb)⟩,
      rfl, e0.bare, Un.kept hk₁, ⟨_, hns, fun i y v q1 q2 q3 => ?_⟩, fun y c q => ?_, remN (e0.hok.fresh (Nat.le_refl _)), fun y c q => ?_, fun p hp => absurd (show p ∈ ([] : List (Addr × Obj)) from hp) (by simp), (e0.hok.rem kn).kept hk₁, ?_⟩
    · obtain ⟨i, a1, a2⟩ := h5 y c q1
      obtain ⟨j, b1, b2⟩ := h5 z c q2
      obtain ⟨hi, ei⟩ := List.getElem?_eq_some_iff.mp a2
      obtain ⟨hj, ej⟩ := List.getElem?_eq_some_iff.mp b2
      have : i = j := (List.getElem_inj C.nd).mp (ei.trans ej.symm)
      subst this
      rw [a1] at b1
      exact Option.some.inj b1
    · have hy : (lamScope le).names.lookup y = some .cell ∨ (lamScope le).names.lookup y = some .free := hy
      rcases hy with hy | hy
      · exact absurd rfl (S.nocell _ (PySem.mem_of_lookup hy))
      · obtain ⟨j, hj, e⟩ := List.mem_iff_getElem.mp (S.all _ (PySem.mem_of_lookup hy) rfl)
        obtain ⟨c, q, _⟩ := h6 j y (by rw [List.getElem?_eq_getElem hj]; exact congrArg some e)
        exact ⟨c, q⟩
    · have q1 : (ps ++ ls ++ fr)[i]? = some y := q1
      by_cases hi : i < ps.length
      · have hiv : i < vs.length := by omega
        rw [List.append_assoc, List.getElem?_append_left hi] at q1
        rw [List.append_assoc, List.getElem?_append_left (by simpa using hiv), List.getElem?_map, List.getElem?_eq_getElem hiv] at q2
        have ev : vs[i] = v := by simpa using q2
        obtain ⟨u, hu, rv⟩ := r.get (i := i) (x := v) (by rw [List.getElem?_eq_getElem hiv, ev])
        refine ⟨u, rv, .inl ⟨S.par y (List.mem_of_getElem? q1), ?_⟩⟩
        exact lookup_zipR ndP q1 hu
      · by_cases hi2 : i < ps.length + ls.length
        · rw [List.getElem?_append_left (by simp; omega), List.getElem?_append_right (by simp; omega), List.getElem?_replicate] at q2
          split at q2 <;> cases q2
        · rw [List.getElem?_append_right (by simp; omega)] at q1
          rw [List.getElem?_append_right (by simp; omega), List.getElem?_map] at q2
          have eidx : i - (List.map some vs ++ List.replicate ls.length none).length = i - (ps ++ ls).length := by simp; omega
          rw [eidx] at q2
          cases ew : ws[i - (ps ++ ls).length]? with
          | none => rw [ew] at q2; cases q2
          | some x =>
            rw [ew] at q2
            have : x = v := by simpa using q2
            subst this
            obtain ⟨c, o, u, z1, z2, z3, z4⟩ := C.cells _ x ew
            obtain ⟨c2, y1, y2⟩ := h6 _ y q1
            rw [z1] at y2
            cases y2
            exact ⟨u, z4, .inr ⟨.inr (S.fre y (List.mem_of_getElem? q1)), c, y1, o, hk₁ _ _ (Kn.get z2 e0.hok), z3⟩⟩
    · obtain ⟨u, z⟩ := cellAt y c q
      exact ⟨_, z⟩
    · obtain ⟨j, _, q2⟩ := h5 y c q
      exact rem_in (List.mem_of_getElem? q2)
    · have := C.l2
      show (vs.map some ++ List.replicate ls.length none ++ ws.map some).length = (ps ++ ls ++ fr).length
      simp
      omega
  refine wpAny_mono (ht.out [] _ _ _ _ I hq) (fun u s' hs => ?_) fun e s' hs => hs.elim
  obtain ⟨v, H', J, rv, q⟩ := hs
  exact ⟨v, _, J.os, J.bare, J.base.back kn, J.hok.back J.base kn e0.hok fsn, rv, q⟩
theorem CloAtL.lent {H : Hp} {f : Addr} {qual : Str} {le : Expr} {env : Env} {N : List Str} {σ : St} {fr : List Str} {cs : List Addr} {os : List Obj} {ws : List V} (M : MadeL H f qual le (closOf env (lamScope le).names [])) (F : Froz env N σ fr cs os) (hn : ∀ c ∈ cs, H c = none) (hN : N.Nodup) (hnd : fr.Nodup)
    (hall : ∀ y ∈ (lamScope le).names, y.2 = .free → y.1 ∈ fr) (hfre : ∀ x ∈ fr, (x, NameKind.free) ∈ (lamScope le).names) (hl : ws.length = fr.length)
    (hw : ∀ (j i : Nat) x v, fr[j]? = some x → N[i]? = some x → σ[i]? = some (some v) → ws[j]? = some v) : CloAtL (froz cs os H) f qual le fr cs ws := by
  have up : ∀ b o, Kn H b o → Kn (froz cs os H) b o := fun b o k => by
    unfold Kn at k ⊢
    rw [froz_out fun m => by rw [hn b m] at k; cases k]
    exact k
  have keys : ∀ {names : List (Str × NameKind)} {acc : List (Str × Addr)} {x : Str} {c : Addr}, (∀ y ∈ names, y.2 = .free → y.1 ∈ fr) → (∀ x c, acc.lookup x = some c → x ∈ fr) → (closOf env names acc).lookup x = some c → x ∈ fr := by
    intro names
    induction names with
    | nil => intro acc x c _ ha e; exact ha x c e
    | cons p r ih =>
      intro acc x c hy ha e
      obtain ⟨n, k⟩ := p
      unfold closOf at e
      have hr : ∀ y ∈ r, y.2 = .free → y.1 ∈ fr := fun y m => hy y (List.mem_cons_of_mem _ m)
      split at e
      · rename_i hk
        have hk' : k = .free := beq_iff_eq.mp hk
        split at e
        · refine ih hr (fun x' c' q => ?_) e
          rw [List.lookup_cons] at q
          cases hb : x' == n with
          | true => rw [beq_iff_eq.mp hb]; exact hy (n, k) List.mem_cons_self hk'
          | false => rw [hb] at q; exact ha x' c' q
        · exact ih hr ha e
      · exact ih hr ha e
  refine ⟨⟨closOf env (lamScope le).names [], ⟨?_⟩, fun x c e => ?_, fun j x e => ?_⟩, fun j v e => ?_, F.l1, hl, F.nd⟩
  · obtain ⟨pm, c', ctv, oc, vs, t, h1, h2, h3⟩ := M.ex
    exact ⟨pm, c', ctv, oc, vs, t, up _ _ h1, up _ _ h2, h3⟩
  · have hx := keys hall (fun x c q => by simp at q) e
    obtain ⟨j, hj, ex⟩ := List.mem_iff_getElem.mp hx
    have ej : fr[j]? = some x := by rw [List.getElem?_eq_getElem hj, ex]
    obtain ⟨c2, o, i, v, u, a1, a2, a3, _⟩ := F.at_ j x ej
    have := closOf_ok (env := env) (fun n c e => by simp at e) x c e
    rw [a3] at this
    cases this
    exact ⟨j, ej, a1⟩
  · obtain ⟨c2, o, i, v, u, a1, a2, a3, _⟩ := F.at_ j x e
    obtain ⟨c, hc⟩ := Option.isSome_iff_exists.mp (closOf_has (env := env) (acc := []) (hfre x (List.mem_of_getElem? e)) a3)
    have := closOf_ok (env := env) (fun n c e => by simp at e) x c hc
    rw [a3] at this
    cases this
    exact ⟨_, hc, a1⟩
  · have hj : j < fr.length := by rw [← hl]; exact (List.getElem?_eq_some_iff.mp e).1
    obtain ⟨c2, o, i, v', u, a1, a2, a3, a4, a5, a6, a7⟩ := F.at_ j fr[j] (List.getElem?_eq_getElem hj)
    have := hw j i _ v' (List.getElem?_eq_getElem hj) a4 a5
    rw [e] at this
    cases this
    exact ⟨c2, o, u, a1, froz_at F.nd a1 a2, a6, a7⟩

def tLam (Pt : Addr) (qs : List (Pos × Str)) (qual : Str) (le : Expr) (cl : List (Str × Addr)) : TE := fun _ H Q => TabOk H Pt qs ∧ ∀ f H', H f = none → SmB Pt H H' → TabOk H' Pt qs → MadeL H' f qual le cl → Q (.ref f) H'
section
variable {X : Cx}
theorem pe_lam {params : Arguments} {body : Expr} {scope : Scope} {pos : Pos} {c Pt : Addr} {qs : List (Pos × Str)} {qual : Str} (hqual : X.env.qual ++ "<lambda>" = qual) (hcode : X.env.code = .ref c) (hK : PySem.W.codeHdIn X.K c Pt = true) (hB : BMain X.mg X.base)
    (hqs : ∀ q ∈ qs, q.1.line = pos.line → q.1.col = pos.col → q.2 = qual) (hmem : (pos, qual) ∈ qs)
    (hfre : ∀ y ∈ scope.names, y.2 = .free → X.env.scope.names.lookup y.1 = some .cell ∨ X.env.scope.names.lookup y.1 = some .free)
    (hd0 : defaultsOf params X.env = ([], [])) :
    PE X (.Lambda params body scope pos) (tLam Pt qs qual (.Lambda params body scope pos) (closOf X.env scope.names [])) := by
  intro pins s σ H Q I h
  obtain ⟨T, h⟩ := h
  obtain ⟨l, hP, hl⟩ := T.ex
  have hclos : closureFor scope X.env = pure (closOf X.env scope.names []) := closureFor_of fun y hy q => I.ok.has y.1 (hfre y hy q)
  have hg : s.heap.Ns mainGlobals X.mg := I.ok.mod.glob.keeps I.bk
  have C : PySem.W.CodeHd s.heap c Pt := PySem.W.codeHd_of_K I.kIn hK
  have hPt : s.heap.get? Pt = some (PySem.W.tabObj (triples l).toArray) := I.hok Pt _ hP
  obtain ⟨bm, ob, b1, b2, b3, b4, b5, b6⟩ := hB
  have b3' := I.bk _ _ b3
  have hgP : mainGlobals ≠ Pt := fun q => by
    obtain ⟨o, es, ep, e, hd, _⟩ := hg
    rw [q, hPt] at e; cases e; cases hd
  have hbP : bm ≠ Pt := fun q => by
    rw [q, hPt] at b3'; cases b3'; cases b4
  have hbG : bm ≠ mainGlobals := fun q => by
    obtain ⟨o, es, ep, e, hd, _⟩ := hg
    rw [← q, b3'] at e; cases e; rw [hd] at b6; cases b6
  have hBA : s.heap.BuiltinsAt X.mg Pt := ⟨bm, ob, b1, b2, hbG, hbP, b3', b4, b5, b6⟩
  refine PySem.W.kla_eval hd0 ?_
  rw [hqual]
  cases hc : codeAmong pos (triples l) with
  | some cv =>
    obtain ⟨q, mq, e1, e2, rfl⟩ := among_some hc
    obtain ⟨qual', oc, vs, t, m1, k1, d1, d2⟩ := hl q mq
    have eq := (hqs _ m1 e1 e2).symm
    dsimp only at eq
    subst eq
    refine PySem.W.kla_makeFunctionHit (ps := (triples l).toArray) hclos I.ok.glob hg hcode C hPt (by simpa using triples_ok l) (by simpa using hc) hBA fun ctv h' tk hk hsz => ?_
    have I1 : Inv X pins σ H { s with heap := h', toks := tk } := I.kept hk
    have I2 := I1.laid (a := h'.objs.size) (o := .frz (PySem.W.kla_obj "<lambda>" qual params body scope (closOf X.env scope.names []) ((X.mg "__name__").getD .none) q.2 ctv) anyHO) (h' := h'.push (PySem.W.kla_obj "<lambda>" qual params body scope (closOf X.env scope.names []) ((X.mg "__name__").getD .none) q.2 ctv)) (t' := tk)
      (fun b o e => Heap.get?_push_of_some _ e) (Nat.le_refl _) (ok_any (Heap.get?_push_size _ rfl))
    have hfr : H h'.objs.size = none := I1.hok.fresh (Nat.le_refl _)
    refine ⟨.ref h'.objs.size, _, I2, rfl, ?_⟩
    have sm : ∀ b u, H b = some u → upd H h'.objs.size (.frz (PySem.W.kla_obj "<lambda>" qual params body scope (closOf X.env scope.names []) ((X.mg "__name__").getD .none) q.2 ctv) anyHO) b = some u := fun b u e => by
      rw [upd_ne (ne_of_none e hfr)]; exact e
    exact h _ _ hfr (fun b u _ e => sm b u e) (T.same (upd_ne (ne_of_none hP hfr)) fun b o k => sm b _ k) ⟨_, q.2, ctv, oc, vs, t, upd_same, sm _ _ k1, d1, d2⟩
  | none =>
    refine PySem.W.kla_makeFunction (ps := (triples l).toArray) hclos I.ok.glob hg hcode C hPt (by simpa using triples_ok l) (by simpa using hc) hgP hBA fun c' ctv h' tk hx' hge hlt hrec htb => ?_
    obtain ⟨c2, oc, vs, t, e2, hoc, hd, hv⟩ := hrec
    cases e2
    have hcn : H c' = none := I.hok.fresh hge
    have hszL : s.heap.objs.size ≤ h'.objs.size := Nat.le_of_lt (Nat.lt_of_le_of_lt hge hlt)
    have hfn : H h'.objs.size = none := I.hok.fresh hszL
    generalize hfo : PySem.W.kla_obj "<lambda>" qual params body scope (closOf X.env scope.names []) ((X.mg "__name__").getD .none) c' ctv = fo
    have hcf : c' ≠ h'.objs.size := Nat.ne_of_lt hlt
    have htb' : (h'.push fo).get? Pt = some (PySem.W.tabObj ((triples (l ++ [(pos, c')])).toArray)) := by
      rw [triples_append]
      refine Heap.get?_push_of_some _ ?_
      rw [htb]
      simp
    let H' : Hp := upd (upd (upd H Pt (.tbl (triples (l ++ [(pos, c')])).toArray)) c' (.frz oc anyHO)) h'.objs.size (.frz fo anyHO)
    have hPc : Pt ≠ c' := ne_of_none hP hcn
    have hPf : Pt ≠ h'.objs.size := ne_of_none hP hfn
    have at_ : ∀ b u, b ≠ Pt → H b = some u → H' b = some u := fun b u nb e => by
      show upd (upd (upd H Pt _) c' _) h'.objs.size _ b = _
      rw [upd_ne (ne_of_none e hfn), upd_ne (ne_of_none e hcn), upd_ne nb]; exact e
    have fr_ : ∀ b, b < s.heap.objs.size → H b = none → H' b = none := fun b hb e => by
      show upd (upd (upd H Pt _) c' _) h'.objs.size _ b = _
      rw [upd_ne (Nat.ne_of_lt (Nat.lt_of_lt_of_le hb hszL)), upd_ne (Nat.ne_of_lt (Nat.lt_of_lt_of_le hb hge)), upd_ne (fun z => by rw [z, hP] at e; cases e)]; exact e
    have keep : ∀ b o, b ≠ Pt → s.heap.get? b = some o → (h'.push fo).get? b = some o := fun b o nb e => Heap.get?_push_of_some _ (hx' b o nb e)
    have nP : ∀ b, H b = none → b ≠ Pt := fun b e z => by rw [z, hP] at e; cases e
    have tP : H' Pt = some (.tbl (triples (l ++ [(pos, c')])).toArray) := by
      show upd (upd (upd H Pt _) c' _) h'.objs.size _ Pt = _
      rw [upd_ne hPf, upd_ne hPc, upd_same]
    have un : Un X.fs [] H H' s.heap (h'.push fo) := {
      keep := fun b o q n _ _ => keep b o (nP b n) q
      slot := fun b o q n _ _ => ⟨o.slots, keep b o (nP b n) q⟩
      free := fun b o q n _ => fr_ b (Heap.lt_size q) n
      there := fun b o q _ => by
        by_cases z : b = Pt
        · exact ⟨_, by rw [z]; exact htb'⟩
        · exact ⟨o, keep b o z q⟩
      tups := fun b xs q => at_ b _ (fun z => by rw [z, hP] at q; cases q) q
      frzs := fun b o u q => at_ b _ (fun z => by rw [z, hP] at q; cases q) q
      tbls := fun b ps q => by
        by_cases z : b = Pt
        · subst z
          rw [hP] at q
          cases q
          exact ⟨#[rawInt pos.line, rawInt pos.col, .ref c'], by rw [tP, triples_append]; simp⟩
        · exact ⟨#[], by rw [at_ b _ z q]; simp⟩ }
    have hok : HOk X.prog X.w H' (h'.push fo) := fun b u e => by
      by_cases z1 : b = h'.objs.size
      · subst z1
        have e' : upd (upd (upd H Pt (.tbl (triples (l ++ [(pos, c')])).toArray)) c' (.frz oc anyHO)) h'.objs.size (.frz fo anyHO) h'.objs.size = some u := e
        rw [upd_same] at e'
        cases e'
        exact ok_any (Heap.get?_push_size _ (by rw [← hfo]; rfl))
      · by_cases z2 : b = c'
        · subst z2
          have e' : upd (upd (upd H Pt (.tbl (triples (l ++ [(pos, b)])).toArray)) b (.frz oc anyHO)) h'.objs.size (.frz fo anyHO) b = some u := e
          rw [upd_ne z1, upd_same] at e'
          cases e'
          exact ok_any (Heap.get?_push_of_some _ hoc)
        · by_cases z3 : b = Pt
          · subst z3
            rw [tP] at e
            cases e
            exact htb'
          · have e' : upd (upd (upd H Pt (.tbl (triples (l ++ [(pos, c')])).toArray)) c' (.frz oc anyHO)) h'.objs.size (.frz fo anyHO) b = some u := e
            rw [upd_ne z1, upd_ne z2, upd_ne z3] at e'
            refine (I.hok b u e').stay (fun c v hc q => keep c v ?_ q) (fun c q => at_ c _ (fun z => by rw [z, hP] at q; cases q) q) fun c xs q => at_ c _ (fun z => by rw [z, hP] at q; cases q) q
            rcases hc with rfl | hc
            · exact z3
            · intro z; rw [z, hP] at hc; cases hc
    have I2 : Inv X pins σ H' { s with heap := h'.push fo, toks := tk } := I.un un hok
    refine ⟨.ref h'.objs.size, _, I2, rfl, ?_⟩
    have kf : Kn H' h'.objs.size fo := upd_same
    have kc : Kn H' c' oc := by
      show upd (upd (upd H Pt _) c' _) h'.objs.size _ c' = _
      rw [upd_ne hcf, upd_same]
    have kk : ∀ b o, Kn H b o → Kn H' b o := fun b o k => at_ b _ (fun z => by
      have k' : H b = some (.frz o anyHO) := k
      rw [z, hP] at k'; cases k') k
    refine h _ _ hfn at_ ⟨l ++ [(pos, c')], tP, fun q m => ?_⟩ ⟨_, c', ctv, oc, vs, t, by rw [← hfo] at kf; exact kf, kc, hd, hv⟩
    rcases List.mem_append.mp m with m | m
    · obtain ⟨qual', oc', vs', t', m1, k1, d1⟩ := hl q m
      exact ⟨qual', oc', vs', t', m1, kk _ _ k1, d1⟩
    · rw [List.mem_singleton.mp m]
      exact ⟨_, oc, vs, t, hmem, kc, hd, hv⟩
theorem j_lam {le : Expr} {params : Arguments} {body : Expr} {scope : Scope} {pos : Pos} {c Pt : Addr} {qs : List (Pos × Str)} {qual : Str} (hcode : X.env.code = .ref c) (hK : PySem.W.codeHdIn X.K c Pt = true) (hB : BMain X.mg X.base) (hqual : X.env.qual ++ "<lambda>" = qual) (hle : le = .Lambda params body scope pos)
    (hqs : (qs.all fun q => !(q.1.line == pos.line && q.1.col == pos.col) || q.2 == qual) = true) (hmem : (pos, qual) ∈ qs)
    (hfre : scope.names.all (fun y => y.2 != .free || X.env.scope.names.lookup y.1 == some .cell || X.env.scope.names.lookup y.1 == some .free) = true)
    (hd0 : defaultsOf params X.env = ([], []) := by rfl) : JE X le (tLam Pt qs qual le (closOf X.env (lamScope le).names [])) := by
  subst hle
  refine .mk (pe_lam hqual hcode hK hB (fun q m e1 e2 => ?_) hmem (fun y hy hk => ?_) hd0)
  · have := List.all_eq_true.mp hqs q m
    rw [e1, e2] at this
    simpa using this
  · have := List.all_eq_true.mp hfre y hy
    rw [hk] at this
    simp at this
    exact this
end
theorem lent1L {H : Hp} {f : Addr} {qual : Str} {le : Expr} {env : Env} {N : List Str} {σ : St} {fr : List Str} {cs : List Addr} {os : List Obj} {ws : List V} (M : MadeL H f qual le (closOf env (lamScope le).names [])) (F : Froz env N σ fr cs os) (hn : ∀ c ∈ cs, H c = none) (hN : N.Nodup) (hnd : fr.Nodup)
    (hall : (lamScope le).names.all (fun y => y.2 != .free || fr.contains y.1) = true) (hfre : fr.all (fun x => (lamScope le).names.contains (x, NameKind.free)) = true) (hl : ws.length = fr.length)
    (hw : ∀ j, j < fr.length → ∃ i : Nat, N[i]? = fr[j]? ∧ σ[i]? = some ws[j]?) : CloAtL (froz cs os H) f qual le fr cs ws := by
  refine CloAtL.lent M F hn hN hnd (fun y hy hk => ?_) (fun x hx => ?_) hl fun j i x v h1 h2 h3 => ?_
  · have := List.all_eq_true.mp hall y hy
    rw [hk] at this
    simpa using this
  · have := List.all_eq_true.mp hfre x hx
    simpa using this
  · obtain ⟨i0, a1, a2⟩ := hw j (List.getElem?_eq_some_iff.mp h1).1
    rw [h1] at a1
    have := nodup_ix hN h2 a1
    subst this
    rw [h3] at a2
    exact (Option.some.inj a2).symm
theorem js_ndefs {X : Cx} {i : Nat} {name : Str} {params : Arguments} {body : List Stmt} {scope : Scope} {pos : Pos} {c Pt : Addr} {qs : List (Pos × Str)} {st : Stmt} {qual : Str} (hN : X.N.Nodup) (hi : X.N[i]? = some name) (hx : Loc X.env.scope name) (hcode : X.env.code = .ref c) (hK : PySem.W.codeHdIn X.K c Pt = true) (hB : BMain X.mg X.base)
    (hq : qualnameIn X.env name name = qual) (hst : st = .FunctionDef name params body [] none [] scope none name pos) (hqs : (qs.all fun q => !(q.1.line == (ndPos st).line && q.1.col == (ndPos st).col) || q.2 == qual) = true) (hmem : (ndPos st, qual) ∈ qs)
    (hfre : scope.names.all (fun y => y.2 != .free || X.env.scope.names.lookup y.1 == some .cell || X.env.scope.names.lookup y.1 == some .free) = true)
    (hd0 : params.defaults = [] := by rfl) (hk0 : params.kw_defaults = [] := by rfl) (ha : annTrees params none X.env = [] := by rfl) (hf : X.fn name = true ∨ X.env.scope.names.lookup name = some .local := by first | exact .inl rfl | exact .inr rfl | assumption) :
    JS X st (tNDef i Pt qs name qual st (closOf X.env (defScope st).names [])) := by
  subst hst hq
  refine .mk (ps_ndef hN hi hx hcode hK hB (fun q m e1 e2 => ?_) hmem (fun y hy hk => ?_) hd0 hk0 ha hf)
  · have := List.all_eq_true.mp hqs q m
    have e1' : q.1.line = pos.line := e1
    have e2' : q.1.col = pos.col := e2
    have z : ndPos (Stmt.FunctionDef name params body [] none [] scope none name pos) = pos := rfl
    rw [z, e1', e2'] at this
    simpa using this
  · have := List.all_eq_true.mp hfre y hy
    rw [hk] at this
    simp at this
    exact this
end L2

set_option Elab.async false
set_option linter.all false
set_option maxRecDepth 100000
set_option maxHeartbeats 4000000
namespace L2
open PySem PySem.Spec PyProof.Rows
section
variable {X : Cx} {pos : Pos} {K : PySem.W.Frag}
def gSlA (K : PySem.W.Frag) : V → Option Int → Option Int → Hp → VK → Prop := fun x lo hi H Q => match x with
  | .str z => z.length ≤ sizeLine ∧ Q (.str (Txt.slice z lo hi)) H
  | .ref a => (∃ xs, SqL K H a xs ∧ ∀ p, H p = none → Q (.ref p) (upd H p (.lst (cutV xs lo hi)))) ∨ ∃ xs, SqT K H a xs ∧ ¬ (HT.sIx xs.length 0 lo = 0 ∧ HT.sIx xs.length xs.length hi = xs.length) ∧ ∀ p, H p = none → Q (.ref p) (upd H p (.tup (cutV xs lo hi)))
  | _ => False
theorem o_slA (hK : X.K = K := by rfl) : Irr (SlR X (gSlA K)) := by
  refine .mk ?_
  subst hK
  intro pins s σ H x v vl vu lo hi sl Q I rx hs pl pu h
  unfold gSlA at h
  split at h
  · exact sl_str pins s σ H _ v vl vu lo hi sl Q I rx hs pl pu ⟨_, rfl, h.1, h.2⟩
  · rcases h with ⟨xs, h1, h2⟩ | ⟨xs, h1, h2, h3⟩
    · exact sl_list pins s σ H _ v vl vu lo hi sl Q I rx hs pl pu ⟨_, xs, rfl, h1, h2⟩
    · exact sl_tup pins s σ H _ v vl vu lo hi sl Q I rx hs pl pu ⟨_, xs, rfl, h1, h2, h3⟩
  · exact h.elim
theorem j_gstr {x : Str} {v : Str} (hg : Gl X x) (hm : ∃ t, X.mg x = some (.str v t)) (hd : (x == ("__debug__" : Str)) = false := by decide) : JE X (.Name x pos) (tC (.str v)) := by
  obtain ⟨t, h⟩ := hm
  exact j_glob hg h ⟨_, rfl⟩ hd
end
end L2

set_option Elab.async false
set_option linter.all false
set_option maxRecDepth 100000
set_option maxHeartbeats 4000000
namespace L2
open PySem PySem.Spec PyProof.Rows
section
variable {X : Cx} {a b c e f i o k v value : Expr} {ta tb te td ty tv tx : TE} {K : PySem.W.Frag} {w : World} {pos pos' p2 apos cpos : Pos}
def mDGet1 (td ty : TE) : TE := fun σ H Q => td σ H fun x H1 => match x with
  | .ref a => IsD H1 a ∧ ty σ H1 fun y H2 => ∃ o, DGet H2 a y o ∧ Q (o.getD .non) H2
  | _ => False
theorem mDGet1_eq (td ty : TE) : mDGet1 td ty = tDGet1 td ty := by
  funext σ H Q
  unfold mDGet1 tDGet1
  congr 1
  funext x H'
  refine propext ⟨fun h => ?_, fun ⟨k, e, h⟩ => ?_⟩
  · split at h
    · exact ⟨_, rfl, h⟩
    · exact h.elim
  · subst e
    exact h
theorem j_dget1 (hu : X.A.units + 64 < cLine) (ho : JE X o td) (he : JE X e ty) (m : M1 X o "get" apos e cpos := by exact ⟨rfl, rfl, rfl, rfl⟩) : JE X (.Call (.Attribute o "get" apos) [e] [] cpos) (mDGet1 td ty) := by
  rw [mDGet1_eq]
  exact .mk (pe_dget1 (by omega) ho.out he.out m)
def mDPut (td ty tv : TE) : TS := fun D σ H => tv σ H fun v H1 => td σ H1 fun x H2 => match x with
  | .ref a => ty σ H2 fun y H3 => ∃ H4, DPut H3 a y v H4 ∧ D.nx σ H4
  | _ => False
theorem js_dput (hu : X.A.units + 64 < cLine) (ho : JE X o td) (hi : JE X i ty) (hv : JE X value tv) (hs : swapsWith value (some (.Subscript o i pos')) pos.line X.env = pure false := by rfl) : JS X (.Assign [.Subscript o i pos'] value pos) (mDPut td ty tv) := by
  refine .mk ?_
  intro pins s σ H D I h
  refine wpAny_Assign_Subscript (thn (hv.out pins s σ H _ I h) fun r s1 ⟨v, H1, I1, rv, q1⟩ => thn (ho.out pins s1 σ H1 _ I1 q1) fun u s2 ⟨x, H2, I2, rx, q2⟩ => ?_) hs
  dsimp only at q2
  split at q2
  · rename_i a
    obtain rfl : u = Value.ref a := rx
    refine thn (hi.out pins s2 σ H2 _ I2 q2) fun iv s3 ⟨y, H3, I3, ry, H4, g, q3⟩ => ?_
    exact d_setItem (by omega) I3 g ry rv fun s4 I4 => ⟨σ, H4, I4, q3⟩
  · exact q2.elim
theorem j_dnewK : JE X (.Dict [] [] pos) tDNewK := .mk pe_dnewK
theorem DGet.ik {H : Hp} {a : Addr} {kvs : List (Key × V)} {n : Int} {r : Option V} (e : H a = some (.dK kvs)) (h : valV kvs (Sum.inl n) = r) : DGet H a (.int n) r := .inl ⟨kvs, Sum.inl n, .inl e, rfl, h.symm⟩
theorem IsD.kd {H : Hp} {a : Addr} {kvs : List (Key × V)} (e : H a = some (.dK kvs)) : IsD H a := .inl ⟨kvs, .inl e⟩
theorem IsD.tk {H : Hp} {a : Addr} {kvs : List (List Key × V)} (e : H a = some (.dT kvs)) : IsD H a := .inr ⟨kvs, .inl e⟩
theorem DPut.ik {H : Hp} {a : Addr} {kvs : List (Key × V)} {n : Int} {v : V} (e : H a = some (.dK kvs)) (hl : kvs.length < sizeLine) : DPut H a (.int n) v (upd H a (.dK (putK kvs (Sum.inl n) v))) := .inl ⟨kvs, Sum.inl n, e, rfl, hl, rfl⟩
theorem seq_of {t u : TS} {D : Ends} {σ : St} {H : Hp} (R : St → Hp → Prop) (hR : ∀ σ' H', R σ' H' → u D σ' H') (ha : (∀ σ' H', R σ' H' → u D σ' H') → t { D with nx := u D } σ H) : tSeq t u D σ H := ha hR
end
theorem for_zipL {K : PySem.W.Frag} {t1 t2 : Bool} {a b : Addr} {xs ys : List V} {g : TG} {tb : TS} {D : Ends} {σ : St} {H : Hp} (Pv : Nat → St → Hp → Prop) (h0 : Pv 0 σ H) (hle : xs.length ≤ ys.length)
    (hl : ∀ i σ H, i ≤ xs.length → Pv i σ H → SqA t1 K H a xs ∧ SqA t2 K H b ys)
    (hs : ∀ i x y σ H, xs[i]? = some x → ys[i]? = some y → Pv i σ H → ∀ T, H T = none → g (.ref T) σ (upd H T (.tup [x, y])) fun σ2 H2 => tb { D with nx := Pv (i + 1), ct := Pv (i + 1), bk := D.nx } σ2 H2) (hd : ∀ σ H, Pv xs.length σ H → D.nx σ H) :
    ∃ W : Nat → Nat → St → Hp → Prop, (∃ m, W 0 m σ H) ∧ ∀ i m σ H, W i m σ H →
      ((Itz K t1 t2 a b).stop i H ∧ D.nx σ H) ∨ ((Itz K t1 t2 a b).go i H ∧ ∃ N : St → Hp → Prop, (∀ σ' H', N σ' H' → ∃ m', m' < m ∧ W (i + 1) m' σ' H') ∧ ∀ x H', (Itz K t1 t2 a b).yld i H x H' → g x σ H' fun σ2 H2 => tb { D with nx := N, ct := N, bk := D.nx } σ2 H2) := by
  refine ⟨fun i m σ H => m = xs.length - i ∧ i ≤ xs.length ∧ Pv i σ H, ⟨xs.length, by simp, Nat.zero_le _, h0⟩, ?_⟩
  rintro i m σ H ⟨rfl, hi, p⟩
  obtain ⟨q1, q2⟩ := hl i σ H hi p
  by_cases hlt : i < xs.length
  · have hlt2 : i < ys.length := by omega
    refine .inr ⟨⟨xs, xs[i], ys, ys[i], q1, by simp [hlt], q2, by simp [hlt2]⟩, Pv (i + 1), fun σ' H' p' => ⟨xs.length - (i + 1), by omega, rfl, hlt, p'⟩, fun v H' y => ?_⟩
    obtain ⟨T, x, y, e1, e2, hT, rfl, rfl⟩ := y
    exact hs i x y σ H (e1 xs q1) (e2 ys q2) p T hT
  · have e : i = xs.length := by omega
    subst e
    exact .inl ⟨⟨xs, ys, q1, q2, .inl (Nat.le_refl _)⟩, hd σ H p⟩
end L2

namespace Rg
theorem part_agree {p : Prt} {l l' : List Nat} {pl : Nat} (h1 : pl ≤ l.length) (h2 : pl ≤ l'.length) (n : Nat) (hn : lkN p l pl ≤ n) (hlen : pl + n ≤ l.length) (hlen' : pl + n ≤ l'.length) (ha : ∀ i, i < pl + n → l[i]? = l'[i]?) :
    stN p l' pl = stN p l pl ∧ lkN p l' pl = lkN p l pl := by
  have hag := runA_agree (t := tl p.d p.l) 0 (l.drop pl) (l'.drop pl) n fun i hi => by
    rw [List.getElem?_drop, List.getElem?_drop]
    exact ha _ (by omega)
  have hR := runA_le (tl p.d p.l) 0 (l.drop pl)
  have hR' := runA_le (tl p.d p.l) 0 (l'.drop pl)
  rw [List.length_drop] at hR hR'
  unfold lkN stN at hn ⊢
  generalize runA (tl p.d p.l) 0 (l.drop pl) = R at *
  generalize runA (tl p.d p.l) 0 (l'.drop pl) = R' at *
  by_cases hd : p.d = 2
  · have e : ∀ k, mostN p k = p.l.length := fun k => by unfold mostN; rw [if_pos hd]
    rw [e, e] at *
    omega
  · by_cases hm : p.m = 2 ∨ p.m = 3
    · have e : ∀ k, mostN p k = k + 1 := fun k => by unfold mostN; rw [if_neg hd, if_pos hm]
      rw [e, e] at *
      omega
    · have e : ∀ k, mostN p k = 1 := fun k => by unfold mostN; rw [if_neg hd, if_neg hm]
      rw [e, e] at *
      omega
theorem goF_agree {l l' : List Nat} {a n : Nat} (hln : n ≤ l.length) (hln' : n ≤ l'.length) (ha : ∀ i, i < n → l[i]? = l'[i]?) : ∀ (ps : List Prt) (pl lk : Nat), a ≤ pl → pl ≤ n → a + (goF l a ps pl lk).2 ≤ n → goF l' a ps pl lk = goF l a ps pl lk
  | [], pl, lk, _, _, _ => rfl
  | p :: ps, pl, lk, h1, h2, h3 => by
    have hlk : a + max lk (pl - a + lkN p l pl) ≤ n := by
      unfold goF at h3
      split at h3
      · have := goF_lk l a ps (nextN p l pl) (max lk (pl - a + lkN p l pl))
        omega
      · exact h3
    obtain ⟨e1, e2⟩ := part_agree (p := p) (l := l) (l' := l') (pl := pl) (by omega) (by omega) (n - pl) (by omega) (by omega) (by omega) fun i hi => ha i (by omega)
    have e3 : nextN p l' pl = nextN p l pl := by unfold nextN; rw [e1]
    have hst := stN_lk p l pl
    unfold goF
    rw [e1, e2, e3]
    split
    · rename_i hh
      unfold goF at h3
      rw [if_pos hh] at h3
      exact goF_agree hln hln' ha ps _ _ (by unfold nextN; split <;> omega) (by unfold nextN; split <;> omega) h3
    · rfl
theorem goF_shift (b l : List Nat) (a : Nat) : ∀ (ps : List Prt) (pl lk : Nat), a ≤ pl → goF (b ++ l) (b.length + a) ps (b.length + pl) lk = goF l a ps pl lk
  | [], pl, lk, h => by
    show (b.length + pl - (b.length + a), lk) = (pl - a, lk)
    rw [show b.length + pl - (b.length + a) = pl - a by omega]
  | p :: ps, pl, lk, h => by
    have hs : stN p (b ++ l) (b.length + pl) = stN p l pl := by
      unfold stN
      rw [List.length_append, show b.length + l.length - (b.length + pl) = l.length - pl by omega, List.drop_append, List.drop_of_length_le (by omega : b.length ≤ b.length + pl), List.nil_append, show b.length + pl - b.length = pl by omega]
    have hl : lkN p (b ++ l) (b.length + pl) = lkN p l pl := by
      unfold lkN
      rw [hs, List.length_append, show b.length + l.length - (b.length + pl) = l.length - pl by omega]
    have hx : nextN p (b ++ l) (b.length + pl) = b.length + nextN p l pl := by
      unfold nextN
      rw [hs]
      split <;> omega
    unfold goF
    rw [hs, hl, hx, show b.length + pl - (b.length + a) = pl - a by omega]
    split
    · exact goF_shift b l a ps _ _ (by unfold nextN; split <;> omega)
    · rfl
end Rg

namespace Rg

structure Ent where
  k : List Nat
  f : List Prt
structure Bst where
  k : List Nat
  m : Nat
  lk : Nat
def stepB (l : List Nat) (pl : Nat) (b : Bst) (e : Ent) : Bst :=
  ⟨if b.m < (takeF e.f l pl).1 then e.k else b.k, max b.m (takeF e.f l pl).1, max b.lk (takeF e.f l pl).2⟩
def bestG (b : Bst) (es : List Ent) (l : List Nat) (pl : Nat) : Bst := es.foldl (stepB l pl) b
def bestF (es : List Ent) (l : List Nat) (pl : Nat) : Bst := bestG ⟨[], 0, 1⟩ es l pl
theorem bestG_cons (b : Bst) (e : Ent) (es : List Ent) (l : List Nat) (pl : Nat) : bestG b (e :: es) l pl = bestG (stepB l pl b e) es l pl := rfl
theorem takeF_le {ps : List Prt} {l : List Nat} {pl : Nat} (h : pl ≤ l.length) : pl + (takeF ps l pl).2 ≤ l.length + 1 ∧ pl + (takeF ps l pl).1 ≤ l.length :=
  goF_le l pl ps pl 0 (Nat.le_refl _) h (by omega)
theorem goF_fst (l : List Nat) (a : Nat) : ∀ (ps : List Prt) (pl lk : Nat), a ≤ pl → pl - a ≤ lk → (goF l a ps pl lk).1 ≤ (goF l a ps pl lk).2
  | [], pl, lk, h1, h2 => h2
  | p :: ps, pl, lk, h1, h2 => by
    have hst := stN_lk p l pl
    unfold goF
    split
    · refine goF_fst l a ps _ _ ?_ ?_
      · unfold nextN; split <;> omega
      · unfold nextN; split <;> omega
    · exact Nat.zero_le _
theorem takeF_fst (ps : List Prt) (l : List Nat) (pl : Nat) : (takeF ps l pl).1 ≤ (takeF ps l pl).2 := goF_fst l pl ps pl 0 (Nat.le_refl _) (by omega)
theorem bestG_grow : ∀ (es : List Ent) (b : Bst) (l : List Nat) (pl : Nat), b.m ≤ (bestG b es l pl).m ∧ b.lk ≤ (bestG b es l pl).lk
  | [], b, l, pl => ⟨Nat.le_refl _, Nat.le_refl _⟩
  | e :: es, b, l, pl => by
    have ih := bestG_grow es (stepB l pl b e) l pl
    rw [bestG_cons]
    unfold stepB at ih ⊢
    dsimp only at ih ⊢
    omega
theorem bestG_le : ∀ (es : List Ent) (b : Bst) (l : List Nat) (pl : Nat), pl ≤ l.length → pl + b.m ≤ l.length → pl + b.lk ≤ l.length + 1 → pl + (bestG b es l pl).m ≤ l.length ∧ pl + (bestG b es l pl).lk ≤ l.length + 1
  | [], b, l, pl, h, h1, h2 => ⟨h1, h2⟩
  | e :: es, b, l, pl, h, h1, h2 => by
    have := takeF_le (ps := e.f) h
    rw [bestG_cons]
    refine bestG_le es _ l pl h ?_ ?_
    · unfold stepB; dsimp only; omega
    · unfold stepB; dsimp only; omega
theorem bestG_fst : ∀ (es : List Ent) (b : Bst) (l : List Nat) (pl : Nat), b.m ≤ b.lk → (bestG b es l pl).m ≤ (bestG b es l pl).lk
  | [], b, l, pl, h => h
  | e :: es, b, l, pl, h => by
    have := takeF_fst e.f l pl
    rw [bestG_cons]
    refine bestG_fst es _ l pl ?_
    unfold stepB; dsimp only; omega
theorem bestF_le {es : List Ent} {l : List Nat} {pl : Nat} (h : pl ≤ l.length) : pl + (bestF es l pl).m ≤ l.length ∧ pl + (bestF es l pl).lk ≤ l.length + 1 := bestG_le es _ l pl h (by simp; omega) (by simp; omega)
theorem bestF_lk (es : List Ent) (l : List Nat) (pl : Nat) : 1 ≤ (bestF es l pl).lk := (bestG_grow es ⟨[], 0, 1⟩ l pl).2
theorem bestF_fst (es : List Ent) (l : List Nat) (pl : Nat) : (bestF es l pl).m ≤ (bestF es l pl).lk := bestG_fst es _ l pl (by simp)

def gapGo (gs : List Ent) (l : List Nat) (at_ g k : Nat) : Nat × Nat :=
  if h : 0 < (bestF gs l (at_ + g)).m ∧ at_ + g + (bestF gs l (at_ + g)).m ≤ l.length then gapGo gs l at_ (g + (bestF gs l (at_ + g)).m) (max k (g + (bestF gs l (at_ + g)).lk))
  else (g, max k (g + (bestF gs l (at_ + g)).lk))
termination_by l.length - (at_ + g)
decreasing_by omega
theorem gapGo_go {gs : List Ent} {l : List Nat} {at_ g k : Nat} (hg : at_ + g ≤ l.length) (h : 0 < (bestF gs l (at_ + g)).m) : gapGo gs l at_ g k = gapGo gs l at_ (g + (bestF gs l (at_ + g)).m) (max k (g + (bestF gs l (at_ + g)).lk)) := by
  rw [gapGo, dif_pos ⟨h, (bestF_le hg).1⟩]
theorem gapGo_end {gs : List Ent} {l : List Nat} {at_ g k : Nat} (h : ¬ 0 < (bestF gs l (at_ + g)).m) : gapGo gs l at_ g k = (g, max k (g + (bestF gs l (at_ + g)).lk)) := by
  rw [gapGo, dif_neg fun z => h z.1]
theorem gapGo_le (gs : List Ent) (l : List Nat) (at_ : Nat) : ∀ (n g k : Nat), l.length - (at_ + g) ≤ n → at_ + g ≤ l.length → at_ + k ≤ l.length + 1 →
    g ≤ (gapGo gs l at_ g k).1 ∧ at_ + (gapGo gs l at_ g k).1 ≤ l.length ∧ k ≤ (gapGo gs l at_ g k).2 ∧ (gapGo gs l at_ g k).1 + 1 ≤ (gapGo gs l at_ g k).2 ∧ at_ + (gapGo gs l at_ g k).2 ≤ l.length + 1
  | n, g, k, hn, hg, hk => by
    have hb := bestF_le (es := gs) hg
    have h1 := bestF_lk gs l (at_ + g)
    by_cases h : 0 < (bestF gs l (at_ + g)).m
    · rw [gapGo_go hg h]
      match n, hn with
      | 0, hn => omega
      | n + 1, hn =>
        have ih := gapGo_le gs l at_ n (g + (bestF gs l (at_ + g)).m) (max k (g + (bestF gs l (at_ + g)).lk)) (by omega) (by omega) (by omega)
        omega
    · rw [gapGo_end h]
      dsimp only
      omega
structure Wd where
  k : List Nat
  g : Nat
  n : Nat
  lk : Nat
abbrev kEnd : List Nat := [101, 110, 100]
abbrev kStray : List Nat := [115, 116, 114, 97, 121]
def isGap (e : Ent) : Bool := e.k.isEmpty
def gapsOf (es : List Ent) : List Ent := es.filter isGap
def restOf (es : List Ent) : List Ent := es.filter fun e => !isGap e
def gapF (es : List Ent) (l : List Nat) (at_ : Nat) : Nat × Nat := gapGo (gapsOf es) l at_ 0 0
def wordF (es : List Ent) (l : List Nat) (at_ : Nat) : Wd :=
  if at_ + (gapF es l at_).1 = l.length then ⟨kEnd, (gapF es l at_).1, 0, (gapF es l at_).2⟩
  else ⟨if (bestF (restOf es) l (at_ + (gapF es l at_).1)).m = 0 then kStray else (bestF (restOf es) l (at_ + (gapF es l at_).1)).k, (gapF es l at_).1,
    max 1 (bestF (restOf es) l (at_ + (gapF es l at_).1)).m, max (gapF es l at_).2 ((gapF es l at_).1 + (bestF (restOf es) l (at_ + (gapF es l at_).1)).lk)⟩
theorem gapF_le {es : List Ent} {l : List Nat} {at_ : Nat} (h : at_ ≤ l.length) : at_ + (gapF es l at_).1 ≤ l.length ∧ (gapF es l at_).1 + 1 ≤ (gapF es l at_).2 ∧ at_ + (gapF es l at_).2 ≤ l.length + 1 := by
  have := gapGo_le (gapsOf es) l at_ _ 0 0 (Nat.le_refl _) (by omega) (by omega)
  unfold gapF
  omega
theorem wordF_le {es : List Ent} {l : List Nat} {at_ : Nat} (h : at_ ≤ l.length) : at_ + (wordF es l at_).g + (wordF es l at_).n ≤ l.length ∧ (wordF es l at_).g + 1 ≤ (wordF es l at_).lk ∧ (wordF es l at_).g + (wordF es l at_).n ≤ (wordF es l at_).lk ∧ at_ + (wordF es l at_).lk ≤ l.length + 1 := by
  have hg := gapF_le (es := es) h
  unfold wordF
  split
  · dsimp only; omega
  · rename_i hne
    have hb := bestF_le (es := restOf es) (l := l) (pl := at_ + (gapF es l at_).1) hg.1
    have h1 := bestF_lk (restOf es) l (at_ + (gapF es l at_).1)
    have h2 := bestF_fst (restOf es) l (at_ + (gapF es l at_).1)
    dsimp only
    omega
def costB (es : List Ent) (n : Nat) : Nat := (es.map fun e => e.f.length * (n + 1)).sum
theorem costB_cons (e : Ent) (es : List Ent) (n : Nat) : costB (e :: es) n = e.f.length * (n + 1) + costB es n := by unfold costB; simp
theorem costB_filter (p : Ent → Bool) : ∀ (es : List Ent) (n : Nat), costB (es.filter p) n ≤ costB es n
  | [], n => Nat.le_refl _
  | e :: es, n => by
    have ih := costB_filter p es n
    rw [costB_cons]
    cases h : p e with
    | true => rw [List.filter_cons_of_pos h, costB_cons]; omega
    | false => rw [List.filter_cons_of_neg (by rw [h]; exact Bool.false_ne_true)]; omega
end Rg

namespace Rg
theorem bestG_agree {l l' : List Nat} {pl n : Nat} (hln : n ≤ l.length) (hln' : n ≤ l'.length) (ha : ∀ i, i < n → l[i]? = l'[i]?) (hp : pl ≤ n) : ∀ (es : List Ent) (b : Bst), pl + (bestG b es l pl).lk ≤ n → bestG b es l' pl = bestG b es l pl
  | [], b, _ => rfl
  | e :: es, b, h => by
    rw [bestG_cons] at h ⊢
    have hg := (bestG_grow es (stepB l pl b e) l pl).2
    have hs : (stepB l pl b e).lk = max b.lk (takeF e.f l pl).2 := rfl
    have et : takeF e.f l' pl = takeF e.f l pl := goF_agree hln hln' ha e.f pl 0 (Nat.le_refl _) hp (by show pl + (takeF e.f l pl).2 ≤ n; omega)
    have es' : stepB l' pl b e = stepB l pl b e := by unfold stepB; rw [et]
    rw [bestG_cons, es']
    exact bestG_agree hln hln' ha hp es _ h
theorem bestF_agree {l l' : List Nat} {pl n : Nat} (hln : n ≤ l.length) (hln' : n ≤ l'.length) (ha : ∀ i, i < n → l[i]? = l'[i]?) (hp : pl ≤ n) (es : List Ent) (h : pl + (bestF es l pl).lk ≤ n) : bestF es l' pl = bestF es l pl := bestG_agree hln hln' ha hp es _ h
theorem gapGo_lk (gs : List Ent) (l : List Nat) (at_ : Nat) (g k : Nat) (hg : at_ + g ≤ l.length) (hk : at_ + k ≤ l.length + 1) : k ≤ (gapGo gs l at_ g k).2 := (gapGo_le gs l at_ _ g k (Nat.le_refl _) hg hk).2.2.1
theorem gapGo_agree {l l' : List Nat} {at_ n : Nat} (hln : n ≤ l.length) (hln' : n ≤ l'.length) (ha : ∀ i, i < n → l[i]? = l'[i]?) (gs : List Ent) : ∀ (m g k : Nat), l.length - (at_ + g) ≤ m → at_ + g ≤ n → at_ + (gapGo gs l at_ g k).2 ≤ n → at_ + k ≤ l.length + 1 → gapGo gs l' at_ g k = gapGo gs l at_ g k
  | m, g, k, hm, hg, h, hk => by
    have hb := bestF_le (es := gs) (l := l) (pl := at_ + g) (by omega)
    by_cases h0 : 0 < (bestF gs l (at_ + g)).m
    · rw [gapGo_go (by omega) h0] at h ⊢
      have hl := gapGo_lk gs l at_ (g + (bestF gs l (at_ + g)).m) (max k (g + (bestF gs l (at_ + g)).lk)) (by omega) (by omega)
      have eb := bestF_agree hln hln' ha hg gs (by omega)
      have hf := bestF_fst gs l (at_ + g)
      rw [gapGo_go (by omega) (by rw [eb]; exact h0), eb]
      match m, hm with
      | 0, hm => omega
      | m + 1, hm => exact gapGo_agree hln hln' ha gs m _ _ (by omega) (by omega) h (by omega)
    · rw [gapGo_end h0] at h ⊢
      have h' : at_ + max k (g + (bestF gs l (at_ + g)).lk) ≤ n := h
      have eb := bestF_agree hln hln' ha hg gs (by omega)
      rw [gapGo_end (by rw [eb]; exact h0), eb]
theorem gapF_agree {l l' : List Nat} {at_ n : Nat} (hln : n ≤ l.length) (hln' : n ≤ l'.length) (ha : ∀ i, i < n → l[i]? = l'[i]?) (es : List Ent) (hat : at_ ≤ n) (h : at_ + (gapF es l at_).2 ≤ n) : gapF es l' at_ = gapF es l at_ :=
  gapGo_agree hln hln' ha (gapsOf es) _ 0 0 (Nat.le_refl _) hat h (by omega)
theorem wordF_agree {l l' : List Nat} {at_ n : Nat} (hln : n ≤ l.length) (hln' : n ≤ l'.length) (ha : ∀ i, i < n → l[i]? = l'[i]?) (es : List Ent) (hat : at_ ≤ n) (h : at_ + (wordF es l at_).lk ≤ n) : wordF es l' at_ = wordF es l at_ := by
  have hgl := gapF_le (es := es) (l := l) (at_ := at_) (by omega)
  by_cases he : at_ + (gapF es l at_).1 = l.length
  · have ew : wordF es l at_ = ⟨kEnd, (gapF es l at_).1, 0, (gapF es l at_).2⟩ := if_pos he
    rw [ew] at h
    dsimp only at h
    omega
  · have ew : wordF es l at_ = ⟨if (bestF (restOf es) l (at_ + (gapF es l at_).1)).m = 0 then kStray else (bestF (restOf es) l (at_ + (gapF es l at_).1)).k, (gapF es l at_).1,
      max 1 (bestF (restOf es) l (at_ + (gapF es l at_).1)).m, max (gapF es l at_).2 ((gapF es l at_).1 + (bestF (restOf es) l (at_ + (gapF es l at_).1)).lk)⟩ := if_neg he
    rw [ew] at h
    dsimp only at h
    have eg := gapF_agree hln hln' ha es hat (by omega)
    have eb := bestF_agree hln hln' ha (pl := at_ + (gapF es l at_).1) (by omega) (restOf es) (by omega)
    rw [ew]
    unfold wordF
    rw [eg, if_neg (by omega), eb]
theorem bestG_shift (b l : List Nat) (pl : Nat) : ∀ (es : List Ent) (x : Bst), bestG x es (b ++ l) (b.length + pl) = bestG x es l pl
  | [], x => rfl
  | e :: es, x => by
    have et : takeF e.f (b ++ l) (b.length + pl) = takeF e.f l pl := goF_shift b l pl e.f pl 0 (Nat.le_refl _)
    have es' : stepB (b ++ l) (b.length + pl) x e = stepB l pl x e := by unfold stepB; rw [et]
    rw [bestG_cons, bestG_cons, es']
    exact bestG_shift b l pl es _
theorem bestF_shift (b l : List Nat) (pl : Nat) (es : List Ent) : bestF es (b ++ l) (b.length + pl) = bestF es l pl := bestG_shift b l pl es _
theorem gapGo_shift (b l : List Nat) (gs : List Ent) (at_ : Nat) : ∀ (m g k : Nat), l.length - (at_ + g) ≤ m → at_ + g ≤ l.length → gapGo gs (b ++ l) (b.length + at_) g k = gapGo gs l at_ g k
  | m, g, k, hm, hg => by
    have hb := bestF_le (es := gs) (l := l) (pl := at_ + g) hg
    have eb : bestF gs (b ++ l) (b.length + at_ + g) = bestF gs l (at_ + g) := by rw [Nat.add_assoc]; exact bestF_shift b l (at_ + g) gs
    by_cases h0 : 0 < (bestF gs l (at_ + g)).m
    · rw [gapGo_go hg h0, gapGo_go (by rw [List.length_append]; omega) (by rw [eb]; exact h0), eb]
      match m, hm with
      | 0, hm => omega
      | m + 1, hm => exact gapGo_shift b l gs at_ m _ _ (by omega) (by omega)
    · rw [gapGo_end h0, gapGo_end (by rw [eb]; exact h0), eb]
theorem wordF_shift (b l : List Nat) (es : List Ent) {at_ : Nat} (hat : at_ ≤ l.length) : wordF es (b ++ l) (b.length + at_) = wordF es l at_ := by
  have eg : gapF es (b ++ l) (b.length + at_) = gapF es l at_ := gapGo_shift b l (gapsOf es) at_ _ 0 0 (Nat.le_refl _) hat
  have eb : bestF (restOf es) (b ++ l) (b.length + at_ + (gapF es l at_).1) = bestF (restOf es) l (at_ + (gapF es l at_).1) := by rw [Nat.add_assoc]; exact bestF_shift b l _ _
  unfold wordF
  rw [eg, eb, List.length_append]
  by_cases he : at_ + (gapF es l at_).1 = l.length
  · rw [if_pos he, if_pos (by omega)]
  · rw [if_neg he, if_neg (by omega)]
end Rg

namespace Rg
def wordsGo (es : List Ent) (l : List Nat) (p : Nat) : List Wd :=
  if h : (wordF es l p).n ≠ 0 ∧ p + (wordF es l p).g + (wordF es l p).n ≤ l.length then wordF es l p :: wordsGo es l (p + (wordF es l p).g + (wordF es l p).n) else [wordF es l p]
termination_by l.length - p
decreasing_by omega
theorem wordsGo_go {es : List Ent} {l : List Nat} {p : Nat} (hp : p ≤ l.length) (h : (wordF es l p).n ≠ 0) : wordsGo es l p = wordF es l p :: wordsGo es l (p + (wordF es l p).g + (wordF es l p).n) := by
  rw [wordsGo, dif_pos ⟨h, (wordF_le hp).1⟩]
theorem wordsGo_end {es : List Ent} {l : List Nat} {p : Nat} (h : (wordF es l p).n = 0) : wordsGo es l p = [wordF es l p] := by
  rw [wordsGo, dif_neg fun z => z.1 h]
theorem wordF_n0 {es : List Ent} {l : List Nat} {p : Nat} : (wordF es l p).n = 0 ↔ p + (wordF es l p).g = l.length := by
  unfold wordF
  split
  · rename_i h
    exact ⟨fun _ => h, fun _ => rfl⟩
  · rename_i h
    dsimp only
    constructor
    · intro z; omega
    · intro z; exact absurd z h
theorem bestG_mem {l : List Nat} {pl : Nat} : ∀ (es : List Ent) (b : Bst), (bestG b es l pl).k = b.k ∨ ∃ e ∈ es, (bestG b es l pl).k = e.k
  | [], b => .inl rfl
  | e :: es, b => by
    rw [bestG_cons]
    rcases bestG_mem es (stepB l pl b e) with h | ⟨x, hx, h⟩
    · by_cases z : b.m < (takeF e.f l pl).1
      · exact .inr ⟨e, List.mem_cons_self, by rw [h]; exact if_pos z⟩
      · exact .inl (by rw [h]; exact if_neg z)
    · exact .inr ⟨x, List.mem_cons_of_mem _ hx, h⟩
theorem wordF_kend {es : List Ent} {l : List Nat} {p : Nat} (h : ∀ e ∈ es, e.k ≠ kEnd) : (wordF es l p).k = kEnd ↔ (wordF es l p).n = 0 := by
  unfold wordF
  split
  · exact ⟨fun _ => rfl, fun _ => rfl⟩
  · dsimp only
    constructor
    · intro z
      split at z
      · exact absurd z (by decide)
      · rcases bestG_mem (l := l) (pl := p + (gapF es l p).1) (restOf es) ⟨[], 0, 1⟩ with q | ⟨e, he, q⟩
        · have z' : (bestG ⟨[], 0, 1⟩ (restOf es) l (p + (gapF es l p).1)).k = kEnd := z
          rw [q] at z'
          exact absurd z' (by decide)
        · have z' : (bestG ⟨[], 0, 1⟩ (restOf es) l (p + (gapF es l p).1)).k = kEnd := z
          rw [q] at z'
          exact absurd z' (h e (List.mem_filter.mp he).1)
    · intro z; omega
theorem wordsGo_mem (es : List Ent) (l : List Nat) (w : Wd) : ∀ (m p : Nat), l.length - p ≤ m → w ∈ wordsGo es l p → ∃ q, w = wordF es l q
  | m, p, hm, hw => by
    rw [wordsGo] at hw
    split at hw
    · rename_i h
      rcases List.mem_cons.mp hw with z | z
      · exact ⟨p, z⟩
      · match m, hm with
        | 0, hm => omega
        | m + 1, hm => exact wordsGo_mem es l w m _ (by omega) z
    · exact ⟨p, List.mem_singleton.mp hw⟩
theorem wordsGo_len (es : List Ent) (l : List Nat) : ∀ (m p : Nat), l.length - p ≤ m → p ≤ l.length → (wordsGo es l p).length ≤ l.length - p + 1 ∧ wordsGo es l p ≠ []
  | m, p, hm, hp => by
    rw [wordsGo]
    split
    · rename_i h
      match m, hm with
      | 0, hm => omega
      | m + 1, hm =>
        have ih := wordsGo_len es l m (p + (wordF es l p).g + (wordF es l p).n) (by omega) h.2
        refine ⟨?_, fun z => nomatch z⟩
        rw [List.length_cons]
        omega
    · exact ⟨by simp, fun z => nomatch z⟩
inductive Reach (es : List Ent) (l : List Nat) : Nat → Prop
  | zero : Reach es l 0
  | step {p : Nat} : Reach es l p → (wordF es l p).n ≠ 0 → Reach es l (p + (wordF es l p).g + (wordF es l p).n)
theorem Reach.le {es : List Ent} {l : List Nat} {p : Nat} (h : Reach es l p) : p ≤ l.length := by
  induction h with
  | zero => exact Nat.zero_le _
  | step _ _ ih => exact (wordF_le ih).1
end Rg

set_option Elab.async false
set_option linter.all false
set_option maxRecDepth 100000
set_option maxHeartbeats 4000000
namespace Rg
open PySem PySem.Spec PyProof.Rows L2

def Kq (la : Option Addr) (H H' : Hp) : Prop := ∀ b u, some b ≠ la → H b = some u → H' b = some u
theorem Kq.refl {la : Option Addr} (H : Hp) : Kq la H H := fun _ _ _ e => e
theorem Kq.trans {la : Option Addr} {H H1 H2 : Hp} (a : Kq la H H1) (b : Kq la H1 H2) : Kq la H H2 := fun c u n e => b c u n (a c u n e)
theorem Kq.of {la : Option Addr} {H H' : Hp} (s : Same H H') : Kq la H H' := fun b u _ e => s b u e
theorem Kq.kp {la : Addr} {H H' : Hp} (k : Kp la H H') : Kq (some la) H H' := fun b u n e => k b u (fun z => n (congrArg some z)) e
theorem Kq.same {H H' : Hp} (k : Kq none H H') : Same H H' := fun b u e => k b u (fun z => nomatch z) e
structure Old (la : Option Addr) (H0 H : Hp) : Prop where
  nw : ∀ a, la = some a → H0 a = none
  sm : Same H0 H
theorem Old.kq {la : Option Addr} {H0 H H' : Hp} (h : Old la H0 H) (k : Kq la H H') : Old la H0 H' :=
  ⟨h.nw, fun b u e => k b u (fun z => by rw [h.nw b z.symm] at e; cases e) (h.sm b u e)⟩
theorem Old.same {la : Option Addr} {H0 H H' : Hp} (h : Old la H0 H) (k : Same H H') : Old la H0 H' := h.kq (Kq.of k)
theorem Old.up {la : Option Addr} {H0 H1 H : Hp} (h : Old la H1 H) (k : Same H0 H1) : Old la H0 H := by
  refine ⟨fun a e => ?_, k.trans h.sm⟩
  cases z : H0 a with
  | none => rfl
  | some u =>
    have := h.nw a e
    rw [k a u z] at this
    cases this
abbrev AKt := Hp → Addr → Option Addr → List Nat → List Nat → Prop
structure Asker (AK : AKt) : Prop where
  same : ∀ {H H' : Hp} {f : Addr} {la : Option Addr} {tx as : List Nat}, AK H f la tx as → Same H H' → AK H' f la tx as
  lst : ∀ {H : Hp} {f a : Addr} {tx as : List Nat}, AK H f (some a) tx as → ∃ zs, H a = some (.lst zs)
  upd : ∀ {H : Hp} {f b : Addr} {la : Option Addr} {tx as : List Nat} {ys : List V} {o : HO}, AK H f la tx as → H b = some (.lst ys) → some b ≠ la → AK (L2.upd H b o) f la tx as
theorem Asker.tr {AK : AKt} (A : Asker AK) {H : Hp} {f a : Addr} {tx as : List Nat} (h : AK H f (some a) tx as) : H a ≠ none := fun z => by
  obtain ⟨zs, e⟩ := A.lst h
  rw [z] at e
  cases e
theorem Asker.seqT {AK : AKt} (A : Asker AK) {K : PySem.W.Frag} {H H' : Hp} {f t : Addr} {la : Option Addr} {tx as : List Nat} {xs : List V} (hA : AK H f la tx as) (k : Kq la H H') (h : SqT K H t xs) : SqT K H' t xs := by
  have ne : ∀ {b : Addr} {u : HO}, H b = some u → (∀ zs, u ≠ .lst zs) → some b ≠ la := fun {b u} e n z => by
    subst z
    obtain ⟨zs, q⟩ := A.lst hA
    rw [q] at e
    exact n zs (Option.some.inj e).symm
  rcases h with h | h
  · refine .inl ?_
    rcases h with h | ⟨o, h⟩
    · exact .inl (k _ _ (ne h fun _ z => by cases z) h)
    · exact .inr ⟨o, k _ _ (ne h fun _ z => by cases z) h⟩
  · exact .inr h
theorem Asker.free {AK : AKt} (A : Asker AK) {H H' : Hp} {f t : Addr} {la : Option Addr} {tx as : List Nat} (hA : AK H' f la tx as) (k : Kq la H H') (ht : H' t = none) : H t = none := by
  cases z : H t with
  | none => rfl
  | some u =>
    by_cases y : some t = la
    · subst y
      exact absurd ht (A.tr hA)
    · rw [k t u y z] at ht; cases ht
def spAskG (AK : AKt) (f : Addr) : Sp := fun vs H Q _ => ∃ (k c : Nat) (la : Option Addr) (tx as : List Nat), vs = [.int (k : Nat)] ∧ AK H f la tx as ∧ tx[k]? = some c ∧ tx.length ≤ 100000 ∧ as.length ≤ 16000000 ∧
  ∀ H', Kq la H H' → AK H' f la tx (as ++ [k]) → Q (.str (S [c])) H'
def AKl (qual : Str) (le : Expr) (fr : List Str) : AKt := fun H f la tx _ => la = none ∧ ∃ cs, CloAtL H f qual le fr cs [.str (S tx)]
theorem asker_l {qual : Str} {le : Expr} {fr : List Str} : Asker (AKl qual le fr) where
  same := fun ⟨e, cs, C⟩ s => ⟨e, cs, C.same fun b o k => s b _ k⟩
  lst := fun ⟨e, _⟩ => nomatch e
  upd := fun {H f b la tx as ys o} ⟨e, cs, C⟩ hb hne => ⟨e, cs, C.same fun c oc k => by
    have k' : H c = some (.frz oc anyHO) := k
    show L2.upd _ _ _ c = _
    rw [upd_ne fun z => by rw [z, hb] at k'; cases k']; exact k⟩
theorem kq_rem {cs : List Addr} {os : List Obj} {H H2 : Hp} {la : Option Addr} (hn : ∀ c ∈ cs, H c = none) (h : Kq la (froz cs os H) H2) : Kq la H (rem cs H2) := fun b u n e => by
  have nb : b ∉ cs := fun m => by rw [hn b m] at e; cases e
  rw [rem_out nb]
  exact h b u n (by rw [froz_out nb]; exact e)
theorem same_froz0 {cs : List Addr} {os : List Obj} {H : Hp} (hn : ∀ c ∈ cs, H c = none) : Same H (froz cs os H) := fun b u e => froz_some hn e
theorem Kq.seq {K : PySem.W.Frag} {H H' : Hp} {la : Option Addr} {a : Addr} {xs : List V} (e : Kq la H H') (hn : some a ≠ la) (h : SqL K H a xs) : SqL K H' a xs := by
  rcases h with h | h
  · refine .inl ?_
    rcases h with h | ⟨o, h⟩
    · exact .inl (e _ _ hn h)
    · exact .inr ⟨o, e _ _ hn h⟩
  · exact .inr h

structure Ent.Ok (e : Ent) : Prop where
  len : e.f.length ≤ 12
  ok : ∀ p ∈ e.f, p.Ok
  kl : e.k.length ≤ 100
  kok : ∀ c ∈ e.k, okSign c
  ke : e.k ≠ kEnd
def Ent.dat (e : Ent) : PyData := .tuple [.str (S e.k), .list (e.f.map Prt.dat)]
theorem dat_ent {K : PySem.W.Frag} {H : Hp} {x : V} {e : Ent} (h : DatV K H x e.dat) : ∃ t a xs, x = .ref t ∧ SqT K H t [.str (S e.k), .ref a] ∧ SqL K H a xs ∧ DatVs K H xs (e.f.map Prt.dat) := by
  unfold Ent.dat at h
  cases h with
  | tuple h1 h2 =>
    cases h2 with
    | cons a b =>
      cases a
      cases b with
      | cons a b =>
        cases b
        obtain ⟨l, xs, rfl, h3, h4⟩ := dat_list a
        exact ⟨_, l, xs, rfl, h1, h3, h4⟩
theorem Sk_nil (k : List Nat) : decide (S k = ("" : Str)) = k.isEmpty := by
  cases k with
  | nil => exact decide_eq_true rfl
  | cons c r =>
    refine decide_eq_false fun z => ?_
    have := S_inj (a := c :: r) (b := []) z
    cases this
def Nt (H H' : Hp) : Prop := ∀ b u, (∀ ps, u ≠ HO.tbl ps) → H b = some u → H' b = some u
theorem Nt.refl (H : Hp) : Nt H H := fun _ _ _ e => e
theorem Nt.trans {H H1 H2 : Hp} (a : Nt H H1) (b : Nt H1 H2) : Nt H H2 := fun c u n e => b c u n (a c u n e)
theorem Nt.of {H H' : Hp} (s : Same H H') : Nt H H' := fun b u _ e => s b u e
theorem Nt.smb {H H' : Hp} {Pt : Addr} {ps : Array Value} (s : SmB Pt H H') (hp : H Pt = some (.tbl ps)) : Nt H H' := fun b u n e => s b u (fun z => by rw [z, hp] at e; exact n ps (Option.some.inj e).symm) e
theorem Nt.seq {K : PySem.W.Frag} {H H' : Hp} {a : Addr} {xs : List V} (e : Nt H H') (h : SqL K H a xs) : SqL K H' a xs := by
  rcases h with h | h
  · refine .inl ?_
    rcases h with h | ⟨o, h⟩
    · exact .inl (e _ _ (fun _ z => by cases z) h)
    · exact .inr ⟨o, e _ _ (fun _ z => by cases z) h⟩
  · exact .inr h
theorem Nt.seqT {K : PySem.W.Frag} {H H' : Hp} {a : Addr} {xs : List V} (e : Nt H H') (h : SqT K H a xs) : SqT K H' a xs := by
  rcases h with h | h
  · refine .inl ?_
    rcases h with h | ⟨o, h⟩
    · exact .inl (e _ _ (fun _ z => by cases z) h)
    · exact .inr ⟨o, e _ _ (fun _ z => by cases z) h⟩
  · exact .inr h
theorem Nt.kn {H H' : Hp} {b : Addr} {o : Obj} (e : Nt H H') (k : Kn H b o) : Kn H' b o := e b _ (fun _ z => by cases z) k
mutual
theorem datv_nt {K : PySem.W.Frag} {H H' : Hp} (e : Nt H H') : ∀ {x : V} {d : PyData}, DatV K H x d → DatV K H' x d
  | _, _, .none => .none
  | _, _, .bool b => .bool b
  | _, _, .int i => .int i
  | _, _, .str x => .str x
  | _, _, .list h1 h2 => .list (e.seq h1) (datvs_nt e h2)
  | _, _, .tuple h1 h2 => .tuple (e.seqT h1) (datvs_nt e h2)
theorem datvs_nt {K : PySem.W.Frag} {H H' : Hp} (e : Nt H H') : ∀ {xs : List V} {ds : List PyData}, DatVs K H xs ds → DatVs K H' xs ds
  | _, _, .nil => .nil
  | _, _, .cons a b => .cons (datv_nt e a) (datvs_nt e b)
end
theorem bestG_kok {l : List Nat} {pl : Nat} : ∀ (es : List Ent) (b : Bst), (∀ e ∈ es, e.Ok) → (∀ c ∈ b.k, okSign c) → ∀ c ∈ (bestG b es l pl).k, okSign c
  | [], b, _, hb => hb
  | e :: es, b, h, hb => by
    rw [bestG_cons]
    refine bestG_kok es _ (fun x hx => h x (List.mem_cons_of_mem _ hx)) ?_
    unfold stepB
    dsimp only
    split
    · exact (h e List.mem_cons_self).kok
    · exact hb
theorem word_kok {es : List Ent} (h : ∀ e ∈ es, e.Ok) (l : List Nat) (at_ : Nat) : ∀ c ∈ (wordF es l at_).k, okSign c := by
  unfold wordF
  split
  · intro c hc
    have hc' : c = 101 ∨ c = 110 ∨ c = 100 := by simpa using hc
    rcases hc' with rfl | rfl | rfl <;> exact okB_ok rfl
  · dsimp only
    split
    · intro c hc
      have hc' : c = 115 ∨ c = 116 ∨ c = 114 ∨ c = 97 ∨ c = 121 := by simpa using hc
      rcases hc' with rfl | rfl | rfl | rfl | rfl <;> exact okB_ok rfl
    · exact bestG_kok _ _ (fun e he => h e (List.mem_filter.mp he).1) (by simp)
theorem costB_le {m : Nat} : ∀ {es : List Ent} {n : Nat}, (∀ e ∈ es, e.f.length ≤ m) → costB es n ≤ es.length * (m * (n + 1))
  | [], n, _ => by simp [costB]
  | e :: es, n, h => by
    have ih := costB_le (n := n) (fun x hx => h x (List.mem_cons_of_mem _ hx) : ∀ x ∈ es, x.f.length ≤ m)
    have h1 := Nat.mul_le_mul_right (n + 1) (h e List.mem_cons_self)
    rw [costB_cons, List.length_cons, Nat.add_mul, Nat.one_mul]
    omega
def Wd.dat (w : Wd) : PyData := .tuple [.str (S w.k), .int (w.g : Nat), .int (w.n : Nat), .int (w.lk : Nat)]
abbrev Wd.vs (w : Wd) : List V := [.str (S w.k), .int (w.g : Nat), .int (w.n : Nat), .int (w.lk : Nat)]
theorem wd_dat {K : PySem.W.Frag} {H : Hp} {t : Addr} {w : Wd} (h : SqT K H t w.vs) : DatV K H (.ref t) w.dat := .tuple h (.cons (.str _) (.cons (.int _) (.cons (.int _) (.cons (.int _) .nil))))
theorem wd_lay {w : Wd} (h : ∀ c ∈ w.k, okSign c) : w.dat.canLay0 = true := by
  unfold Wd.dat
  simp only [PyData.canLay0, PyData.canLayAll0, strOk_S h, Bool.and_self]
theorem wd_depth (w : Wd) : w.dat.depth ≤ 2 := by
  unfold Wd.dat
  simp only [PyData.depth, PyData.depthAll]
  omega
def AKd (an aq : Str) (ast : Stmt) (fr : List Str) : AKt := fun H f la tx _ => la = none ∧ ∃ cs, CloAt H f an aq ast fr cs [.str (S tx)]
theorem asker_d {an aq : Str} {ast : Stmt} {fr : List Str} : Asker (AKd an aq ast fr) where
  same := fun ⟨e, cs, C⟩ s => ⟨e, cs, C.same fun b o k => s b _ k⟩
  lst := fun ⟨e, _⟩ => nomatch e
  upd := fun {H f b la tx as ys o} ⟨e, cs, C⟩ hb hne => ⟨e, cs, C.same fun c oc k => by
    have k' : H c = some (.frz oc anyHO) := k
    show L2.upd _ _ _ c = _
    rw [upd_ne fun z => by rw [z, hb] at k'; cases k']; exact k⟩
theorem dat_wd {K : PySem.W.Frag} {H : Hp} {x : V} {w : Wd} (h : DatV K H x w.dat) : ∃ t, x = .ref t ∧ SqT K H t w.vs := by
  unfold Wd.dat at h
  cases h with
  | tuple h1 h2 =>
    cases h2 with
    | cons a b =>
      cases a
      cases b with
      | cons a b =>
        cases a
        cases b with
        | cons a b =>
          cases a
          cases b with
          | cons a b =>
            cases a
            cases b
            exact ⟨_, rfl, h1⟩
theorem wds_T {K : PySem.W.Frag} {H H' : Hp} (hT : ∀ t xs, SqT K H t xs → SqT K H' t xs) : ∀ {xs : List V} {ws : List Wd}, DatVs K H xs (ws.map Wd.dat) → DatVs K H' xs (ws.map Wd.dat)
  | [], [], _ => .nil
  | [], _ :: _, h => by cases h
  | _ :: _, [], h => by cases h
  | x :: r, w :: ws, h => by
    cases h with
    | cons a b =>
      obtain ⟨t, rfl, h'⟩ := dat_wd a
      exact .cons (wd_dat (hT _ _ h')) (wds_T hT b)
theorem seqT_upd {K : PySem.W.Frag} {H : Hp} {b t : Addr} {o : HO} {ys xs : List V} (hl : H b = some (.lst ys)) (h : SqT K H t xs) : SqT K (upd H b o) t xs := by
  rcases h with h | h
  · refine .inl ?_
    rcases h with h | ⟨o, h⟩
    · exact .inl (by rw [upd_ne fun z => by rw [z, hl] at h; cases h]; exact h)
    · exact .inr ⟨o, by rw [upd_ne fun z => by rw [z, hl] at h; cases h]; exact h⟩
  · exact .inr h
theorem wds_lay : ∀ {ws : List Wd}, (∀ w ∈ ws, ∀ c ∈ w.k, okSign c) → PyData.canLayAll0 (ws.map Wd.dat) = true
  | [], _ => by simp only [List.map_nil, PyData.canLayAll0]
  | w :: r, h => by
    rw [List.map_cons]
    simp only [PyData.canLayAll0, wd_lay (h w List.mem_cons_self), wds_lay fun q hq => h q (List.mem_cons_of_mem _ hq), Bool.and_self]
theorem wdl_lay {ws : List Wd} (h : ∀ w ∈ ws, ∀ c ∈ w.k, okSign c) : (PyData.list (ws.map Wd.dat)).canLay0 = true := by
  simp only [PyData.canLay0]
  exact wds_lay h
theorem wds_depth : ∀ ws : List Wd, PyData.depthAll (ws.map Wd.dat) ≤ 2
  | [] => by simp only [List.map_nil, PyData.depthAll]; omega
  | w :: r => by
    have ih := wds_depth r
    have := wd_depth w
    rw [List.map_cons]
    simp only [PyData.depthAll]
    omega
theorem wdl_depth (ws : List Wd) : (PyData.list (ws.map Wd.dat)).depth ≤ 60 := by
  have := wds_depth ws
  simp only [PyData.depth]
  omega
theorem words_kok {es : List Ent} (h : ∀ e ∈ es, e.Ok) (l : List Nat) (p : Nat) : ∀ w ∈ wordsGo es l p, ∀ c ∈ w.k, okSign c := fun w hw => by
  obtain ⟨q, e⟩ := wordsGo_mem es l w _ p (Nat.le_refl _) hw
  rw [e]
  exact word_kok h l q
end Rg

set_option Elab.async false
set_option linter.all false
set_option maxRecDepth 100000
set_option maxHeartbeats 4000000
namespace L2
open PySem PySem.Spec PyProof.Rows
section
variable {X : Cx} {K : PySem.W.Frag}
end
end L2

namespace Rg
def endp : List Wd → Nat → Nat
  | [], p => p
  | w :: ws, p => endp ws (p + w.g + w.n)
def psum : List Wd → Nat → List Nat
  | [], p => [p]
  | w :: ws, p => p :: psum ws (p + w.g + w.n)
theorem psum_snoc : ∀ (ws : List Wd) (w : Wd) (p : Nat), psum (ws ++ [w]) p = psum ws p ++ [endp ws p + w.g + w.n]
  | [], w, p => rfl
  | x :: ws, w, p => congrArg (p :: ·) (psum_snoc ws w _)
theorem psum_len : ∀ (ws : List Wd) (p : Nat), (psum ws p).length = ws.length + 1
  | [], p => rfl
  | w :: ws, p => by
    show (psum ws _).length + 1 = ws.length + 1 + 1
    rw [psum_len ws]
theorem psum_get : ∀ (ws : List Wd) (p i : Nat), i ≤ ws.length → (psum ws p)[i]? = some (endp (ws.take i) p)
  | [], p, i, h => by
    have : i = 0 := by simpa using h
    subst this
    rfl
  | w :: ws, p, 0, h => rfl
  | w :: ws, p, i + 1, h => psum_get ws _ i (by simpa using h)
theorem psum_last (ws : List Wd) (p : Nat) : (psum ws p)[(psum ws p).length - 1]? = some (endp ws p) := by
  have := psum_get ws p ws.length (Nat.le_refl _)
  rw [List.take_length] at this
  rw [psum_len]
  exact this
theorem endp_words (es : List Ent) (l : List Nat) : ∀ (m p : Nat), l.length - p ≤ m → p ≤ l.length → endp (wordsGo es l p) p = l.length
  | m, p, hm, hp => by
    by_cases hn : (wordF es l p).n = 0
    · rw [wordsGo_end hn]
      show p + (wordF es l p).g + (wordF es l p).n = l.length
      have := wordF_n0.mp hn
      omega
    · rw [wordsGo_go hp hn]
      show endp (wordsGo es l _) (p + (wordF es l p).g + (wordF es l p).n) = l.length
      have hw := wordF_le (es := es) hp
      match m, hm with
      | 0, hm => omega
      | m + 1, hm => exact endp_words es l m _ (by omega) hw.1
theorem endp_reach (es : List Ent) (l : List Nat) : ∀ (i m p : Nat), l.length - p ≤ m → p ≤ l.length → ∀ w, (wordsGo es l p)[i]? = some w → w = wordF es l (endp ((wordsGo es l p).take i) p) ∧ endp ((wordsGo es l p).take i) p ≤ l.length
  | i, m, p, hm, hp, w, h => by
    by_cases hn : (wordF es l p).n = 0
    · rw [wordsGo_end hn] at h ⊢
      match i, h with
      | 0, h => exact ⟨(Option.some.inj h).symm, hp⟩
      | i + 1, h => cases h
    · rw [wordsGo_go hp hn] at h ⊢
      have hw := wordF_le (es := es) hp
      match i, h with
      | 0, h => exact ⟨(Option.some.inj h).symm, hp⟩
      | i + 1, h =>
        match m, hm with
        | 0, hm => omega
        | m + 1, hm => exact endp_reach es l i m _ (by omega) hw.1 w h
def lie1 (at_ gone come : Nat) (w : Wd) (p : Nat) (q : Int) : Bool := if p + w.lk ≤ at_ then decide (q = (p : Int)) else if at_ + gone ≤ p then decide (q = (p : Int) - (gone : Int) + (come : Int)) else false
def lieB (at_ gone come : Nat) : List Wd → Nat → Int → Bool
  | [], _, _ => false
  | w :: ws, p, q => lie1 at_ gone come w p q || lieB at_ gone come ws (p + w.g + w.n) q
theorem lieB_snoc (at_ gone come : Nat) : ∀ (ws : List Wd) (w : Wd) (p : Nat) (q : Int), lieB at_ gone come (ws ++ [w]) p q = (lieB at_ gone come ws p q || lie1 at_ gone come w (endp ws p) q)
  | [], w, p, q => by
    show (lie1 at_ gone come w p q || false) = (false || _)
    rw [Bool.or_false, Bool.false_or]
    rfl
  | x :: ws, w, p, q => by
    show (lie1 _ _ _ x p q || lieB _ _ _ (ws ++ [w]) _ q) = ((lie1 _ _ _ x p q || lieB _ _ _ ws _ q) || _)
    rw [lieB_snoc at_ gone come ws w, Bool.or_assoc]
    rfl
def chg (l put : List Nat) (at_ gone : Nat) : List Nat := l.take at_ ++ put ++ l.drop (at_ + gone)
theorem chg_len {l put : List Nat} {at_ gone : Nat} (h : at_ + gone ≤ l.length) : (chg l put at_ gone).length = l.length - gone + put.length := by
  unfold chg
  rw [List.length_append, List.length_append, List.length_take, List.length_drop]
  omega
theorem word_ahead {es : List Ent} {l put : List Nat} {at_ gone p : Nat} (h : at_ + gone ≤ l.length) (hp : p + (wordF es l p).lk ≤ at_) : wordF es (chg l put at_ gone) p = wordF es l p := by
  have hl := chg_len (put := put) h
  refine wordF_agree (n := at_) (by omega) (by omega) (fun i hi => ?_) es (by omega) hp
  unfold chg
  rw [List.append_assoc, List.getElem?_append_left (by rw [List.length_take]; omega), List.getElem?_take, if_pos hi]
theorem word_behind {es : List Ent} {l put : List Nat} {at_ gone p : Nat} (h : at_ + gone ≤ l.length) (h1 : at_ + gone ≤ p) (h2 : p ≤ l.length) : wordF es (chg l put at_ gone) (p - gone + put.length) = wordF es l p := by
  have hC : (l.drop (at_ + gone)).length = l.length - (at_ + gone) := List.length_drop ..
  have e1 := wordF_shift (l.take (at_ + gone)) (l.drop (at_ + gone)) es (at_ := p - (at_ + gone)) (by omega)
  rw [List.take_append_drop, List.length_take, Nat.min_eq_left h, show at_ + gone + (p - (at_ + gone)) = p by omega] at e1
  have e2 := wordF_shift (l.take at_ ++ put) (l.drop (at_ + gone)) es (at_ := p - (at_ + gone)) (by omega)
  rw [List.length_append, List.length_take, Nat.min_eq_left (by omega), show at_ + put.length + (p - (at_ + gone)) = p - gone + put.length by omega] at e2
  rw [e1]
  exact e2
end Rg

set_option Elab.async false
set_option linter.all false
set_option maxRecDepth 100000
set_option maxHeartbeats 4000000
namespace Rg
open PySem PySem.Spec PyProof.Rows L2
theorem atI_last {xs : List V} {v : V} (h : xs[xs.length - 1]? = some v) : atI xs (-1) = some v := by
  have hl : 0 < xs.length := by
    cases xs with
    | nil => cases h
    | cons x r => simp
  have e : ixN xs.length (-1) = some (xs.length - 1) := by
    unfold ixN
    rw [if_neg (by decide)]
    rw [if_pos (by omega)]
    congr 1
    omega
  unfold atI
  rw [e]
  exact h
theorem ints_last {l : List Nat} {n : Nat} (h : l[l.length - 1]? = some n) : atI (l.map fun k => V.int (k : Nat)) (-1) = some (.int (n : Nat)) := by
  refine atI_last ?_
  rw [List.length_map, List.getElem?_map, h]
  rfl
end Rg

set_option Elab.async false
set_option linter.all false
set_option maxRecDepth 100000
set_option maxHeartbeats 4000000
namespace L2
open PySem PySem.Spec PyProof.Rows
section
variable {X : Cx}
def gPow : R2 := fun x y H Q => match x, y with
  | .int i, .int j => CPow i j ∧ Q (.int (i ^ j.toNat)) H
  | _, _ => False
theorem o_pow : Irr (OpR X (binaryOp .Pow) gPow) := by
  refine .mk ?_
  intro pins s σ H x y v u Q I rx ry h
  unfold gPow at h
  split at h
  · exact op_pow pins s σ H _ _ v u Q I rx ry ⟨_, _, rfl, rfl, h.1, h.2⟩
  · exact h.elim
end
theorem int_plain {a : Int} (h : a.natAbs < 10 ^ 70) : a.natAbs.log2 < 1920 ∧ (Str.ofString (toString a)).length ≤ 1100000 := by
  have h1 : a.natAbs.log2 < 1920 := by
    by_cases z : a.natAbs = 0
    · rw [z]; decide
    · refine (Nat.log2_lt z).mpr (Nat.lt_of_lt_of_le h ?_)
      decide +kernel
  refine ⟨h1, ?_⟩
  have e := int_text_length_le (k := 1920) (by decide) h1
  rw [PySem.ofString_length]
  omega
end L2

set_option Elab.async false
set_option linter.all false
set_option maxRecDepth 100000
set_option maxHeartbeats 4000000


namespace K15
open PySem PySem.Spec PyProof.Rows L2 Rg

def top (i : Nat) : Stmt := PySem.Challenge.pw_regrowth_k15_changes_that_fit.main.body.getD i (.Pass ⟨0, 0, 0, 0⟩)
structure Txt (K : PySem.W.Frag) (w : World) (mg : Str → Option Value) : Prop where
  n_len : mg "len" = none
  n_max : mg "max" = none
  n_min : mg "min" = none
  n_range : mg "range" = none
  n_list : mg "list" = none
  n_zip : mg "zip" = none
  g_GAP : ∃ t, mg "GAP" = some (.str "" t)
  g_END : ∃ t, mg "END" = some (.str "end" t)
  g_STRAY : ∃ t, mg "STRAY" = some (.str "stray" t)
section
variable {P : Program} {w : World} {K : PySem.W.Frag} {mg : Str → Option Value} {base : Heap} {AK : AKt}
def spTells : Sp := fun vs H Q _ => ∃ (d : Nat) (sg : List Nat) (k c : Nat), vs = [.str (deedS d), .str (S sg), .int (k : Nat), .str (S [c])] ∧ d < 3 ∧ (d = 2 → k < sg.length) ∧ sg.length ≤ 1000 ∧ Q (.bl (tl d sg k c)) H
abbrev st_tells : Stmt := top 19
theorem sc_tells : FnScope ["deed", "signs", "number", "sign"] ["deed", "signs", "number", "sign"] (defScope st_tells) := ⟨rfl, rfl, rfl, by decide +kernel, rfl, by decide +kernel, by decide +kernel⟩
theorem def_tells (R : Raw K mg "tells" st_tells ["deed", "signs", "number", "sign"]) (T : Txt K w mg) : Def P w K mg base 1 "tells" ["deed", "signs", "number", "sign"] spTells := by
  refine R.defJ sc_tells (fun vs H Q E h => ?_) (fun f cdv A outer s H vs Q E hr h => ?_)
  · obtain ⟨d, sg, k, c, rfl, _⟩ := h
    rfl
  · obtain ⟨d, sg, k, c, rfl, hd, hk, hl, q⟩ := h
    have sc := sc_tells
    have hu := hr.units
    have hb := big
    refine ⟨_, (jss_cons (js_if (jt_cmp (o_eq hu (K := K)) (jn 0) j_str)
    (jss_one (js_ret (j_cmp (o_eq hu (K := K)) (jn 3) (j_ix (o_ix hu (K := K) (w := w)) (jn 1) (jn 2)))))
    jss_nil)
    (jss_cons (js_if (jt_cmp (o_eq hu (K := K)) (jn 0) j_str)
    (jss_one (js_ret (j_cmp (o_in (K := K)) (jn 3) (jn 1))))
    jss_nil)
    (jss_one (js_ret (j_cmp (o_notin (K := K)) (jn 3) (jn 1)))))), ?_⟩
    show if (false ^^ decide (deedS d = "row")) = true then _ else _
    rw [Bool.false_xor, deed_row d hd]
    refine ite2 (fun h2 => ?_) (fun h2 => ?_)
    · have hd2 : d = 2 := of_decide_eq_true h2
      subst hd2
      have hk' := hk rfl
      refine ⟨by rw [S_len]; omega, sg[k], atI_text (List.getElem?_eq_getElem hk'), ?_⟩
      have e : tl 2 sg k c = (false ^^ decide (S [c] = (⟨#[sg[k]]⟩ : Str))) := by
        unfold tl
        rw [if_pos rfl, List.getElem?_eq_getElem hk', Bool.false_xor]
        by_cases z : sg[k] = c
        · rw [z]; simp
        · have : ¬ S [c] = (⟨#[sg[k]]⟩ : Str) := fun h => z (by have := S_inj (a := [c]) (b := [sg[k]]) h; simpa using this.symm)
          rw [decide_eq_false this]
          simpa using z
      rw [e] at q
      exact q
    · have hn2 : ¬ d = 2 := fun z => h2 (decide_eq_true z)
      show if (false ^^ decide (deedS d = "in")) = true then _ else _
      rw [Bool.false_xor, deed_in d hd]
      refine ite2 (fun h3 => ?_) (fun h3 => ?_)
      · have e : tl d sg k c = (false ^^ !(Builtin.Str.occurrences (S sg) ⟨#[c]⟩ 0 (S sg).length 1).isEmpty) := by
          rw [in_S]; unfold tl; rw [if_neg hn2, if_pos (of_decide_eq_true h3)]; simp
        rw [e] at q
        exact q
      · have e : tl d sg k c = (true ^^ !(Builtin.Str.occurrences (S sg) ⟨#[c]⟩ 0 (S sg).length 1).isEmpty) := by
          rw [in_S]; unfold tl; rw [if_neg hn2, if_neg fun z => h3 (decide_eq_true z)]; simp
        rw [e] at q
        exact q

def spHolds : Sp := fun vs H Q _ => ∃ (p : Prt) (st : Nat), vs = [.str (deedS p.d), .str (S p.l), .str (manyS p.m), .int (st : Nat)] ∧ p.d < 3 ∧ p.m < 6 ∧ p.l.length ≤ 1000 ∧ ∀ H', Same H H' → Q (.bl (holdsN p st)) H'
abbrev st_holds : Stmt := top 20
theorem sc_holds : FnScope ["deed", "signs", "many", "stood", "least"] ["deed", "signs", "many", "stood"] (defScope st_holds) := ⟨rfl, rfl, rfl, by decide +kernel, rfl, by decide +kernel, by decide +kernel⟩
theorem def_holds (R : Raw K mg "holds" st_holds ["deed", "signs", "many", "stood"]) (T : Txt K w mg) : Def P w K mg base 1 "holds" ["deed", "signs", "many", "stood"] spHolds := by
  refine R.defJ sc_holds (fun vs H Q E h => ?_) (fun f cdv A outer s H vs Q E hr h => ?_)
  · obtain ⟨p, st, rfl, _⟩ := h
    rfl
  · obtain ⟨⟨d, m, sg⟩, st, rfl, hd, hm, hl, q⟩ := h
    have hd : d < 3 := hd
    have hm : m < 6 := hm
    have hl : sg.length ≤ 1000 := hl
    have sc := sc_holds
    have hu := hr.units
    have hb := big
    refine ⟨_, (jss_cons (js_if (jt_cmp (o_in (K := K)) (jn 2) (j_tup (ja_cons j_str (ja_cons j_str ja_nil))))
    (jss_one (js_ret j_bl))
    jss_nil)
    (jss_cons (js_set (i := 4) sc.nd rfl (Or.inl rfl) (j_ife (jt_cmp (o_eq hu (K := K)) (jn 0) j_str) (j_callB (c_len (K := K)) rfl T.n_len PySem.boot_len (ja_cons (jn 1) ja_nil)) j_int))
    (jss_one (js_ret (j_cmp (o_eq hu (K := K)) (j_cmp o_ge (jn 3) (jn 4)) (j_cmp (o_ne hu (K := K)) (jn 2) j_str)))))), ?_⟩
    refine ⟨by decide, fun p1 hp1 => ⟨_, .inr (SqT.of upd_same), rfl, rfl, ?_⟩⟩
    have s1 : Same H (upd H p1 (.tup [.str "maybe", .str "any"])) := same_new hp1
    generalize upd H p1 (.tup [.str "maybe", .str "any"]) = H1 at s1 ⊢
    have ein : inV (.str (manyS m)) [.str "maybe", .str "any"] = decide (m = 1 ∨ m = 3) := by
      rcases many_cases hm with rfl | rfl | rfl | rfl | rfl | rfl <;> decide +kernel
    have ene : decide (manyS m = "not") = decide (m = 5) := by
      rcases many_cases hm with rfl | rfl | rfl | rfl | rfl | rfl <;> decide +kernel
    show if (false ^^ inV (.str (manyS m)) [.str "maybe", .str "any"]) = true then _ else _
    rw [Bool.false_xor, ein]
    refine ite2 (fun h => ?_) (fun h => ?_)
    · have e : holdsN ⟨d, m, sg⟩ st = true := if_pos (of_decide_eq_true h)
      have := q H1 s1
      rw [e] at this
      exact this
    · have hn : ¬ (m = 1 ∨ m = 3) := fun z => h (decide_eq_true z)
      have e : holdsN ⟨d, m, sg⟩ st = (decide ((if d = 2 then sg.length else 1) ≤ st) == decide (m ≠ 5)) := if_neg hn
      have fin : ∀ lst : Nat, (if d = 2 then sg.length else 1) = lst → Q (.bl (false ^^ decide (decide (((lst : Nat) : Int) ≤ (st : Nat)) = (true ^^ decide (manyS m = "not"))))) H1 := fun lst hlst => by
        have := q H1 s1
        rw [e, hlst] at this
        rw [ene, Bool.false_xor, show (decide (((lst : Nat) : Int) ≤ (st : Nat))) = decide (lst ≤ st) by congr 1; exact propext ⟨fun z => by omega, fun z => by omega⟩]
        have e2 : (decide (lst ≤ st) == decide (m ≠ 5)) = decide (decide (lst ≤ st) = (true ^^ decide (m = 5))) := by
          by_cases z : m = 5 <;> by_cases y : lst ≤ st <;> simp [z, y]
        rw [← e2]
        exact this
      show if (false ^^ decide (deedS d = "row")) = true then _ else _
      rw [Bool.false_xor, deed_row d hd]
      refine ite2 (fun h2 => ?_) (fun h2 => ?_)
      · refine ⟨by rw [S_len]; omega, ?_⟩
        rw [S_len]
        exact fin sg.length (if_pos (of_decide_eq_true h2))
      · exact fin 1 (if_neg fun z => h2 (decide_eq_true z))

def spMost : Sp := fun vs H Q _ => ∃ (p : Prt) (left : Nat), vs = [.str (deedS p.d), .str (S p.l), .str (manyS p.m), .int (left : Nat)] ∧ p.d < 3 ∧ p.m < 6 ∧ p.l.length ≤ 1000 ∧ ∀ H', Same H H' → Q (.int (mostN p left : Nat)) H'
abbrev st_most_looked : Stmt := top 17
theorem sc_most_looked : FnScope ["deed", "signs", "many", "left"] ["deed", "signs", "many", "left"] (defScope st_most_looked) := ⟨rfl, rfl, rfl, by decide +kernel, rfl, by decide +kernel, by decide +kernel⟩
theorem def_most (R : Raw K mg "most_looked" st_most_looked ["deed", "signs", "many", "left"]) (T : Txt K w mg) : Def P w K mg base 1 "most_looked" ["deed", "signs", "many", "left"] spMost := by
  refine R.defJ sc_most_looked (fun vs H Q E h => ?_) (fun f cdv A outer s H vs Q E hr h => ?_)
  · obtain ⟨p, st, rfl, _⟩ := h
    rfl
  · obtain ⟨⟨d, m, sg⟩, left, rfl, hd, hm, hl, q⟩ := h
    have hd : d < 3 := hd
    have hm : m < 6 := hm
    have hl : sg.length ≤ 1000 := hl
    have sc := sc_most_looked
    have hu := hr.units
    have hb := big
    refine ⟨_, (jss_cons (js_if (jt_cmp (o_eq hu (K := K)) (jn 0) j_str)
    (jss_one (js_ret (j_callB (c_len (K := K)) rfl T.n_len PySem.boot_len (ja_cons (jn 1) ja_nil))))
    jss_nil)
    (jss_cons (js_if (jt_cmp (o_in (K := K)) (jn 2) (j_tup (ja_cons j_str (ja_cons j_str ja_nil))))
    (jss_one (js_ret (j_op (o_add (K := K)) (jn 3) j_int)))
    jss_nil)
    (jss_one (js_ret j_int)))), ?_⟩
    show if (false ^^ decide (deedS d = "row")) = true then _ else _
    rw [Bool.false_xor, deed_row d hd]
    refine ite2 (fun h2 => ?_) (fun h2 => ?_)
    · refine ⟨by rw [S_len]; omega, ?_⟩
      have := q H (Same.refl H)
      rw [show mostN ⟨d, m, sg⟩ left = (S sg).length by rw [S_len]; exact if_pos (of_decide_eq_true h2)] at this
      exact this
    · have hn : ¬ d = 2 := fun z => h2 (decide_eq_true z)
      refine ⟨by decide, fun p1 hp1 => ⟨_, .inr (SqT.of upd_same), rfl, rfl, ?_⟩⟩
      have s1 : Same H (upd H p1 (.tup [.str "some", .str "any"])) := same_new hp1
      generalize upd H p1 (.tup [.str "some", .str "any"]) = H1 at s1 ⊢
      have ein : inV (.str (manyS m)) [.str "some", .str "any"] = decide (m = 2 ∨ m = 3) := by
        rcases many_cases hm with rfl | rfl | rfl | rfl | rfl | rfl <;> decide +kernel
      show if (false ^^ inV (.str (manyS m)) [.str "some", .str "any"]) = true then _ else _
      rw [Bool.false_xor, ein]
      have := q H1 s1
      refine ite2 (fun h => ?_) (fun h => ?_)
      · rw [show mostN ⟨d, m, sg⟩ left = left + 1 by unfold mostN; rw [if_neg hn, if_pos (of_decide_eq_true h)]] at this
        exact this
      · rw [show mostN ⟨d, m, sg⟩ left = 1 by unfold mostN; rw [if_neg hn, if_neg fun z => h (decide_eq_true z)]] at this
        exact this

def spStood (AK : AKt) : Sp := fun vs H Q _ => ∃ (d : Nat) (sg : List Nat) (most pl : Nat) (f : Addr) (la : Option Addr) (tx as : List Nat), vs = [.str (deedS d), .str (S sg), .int (most : Nat), .ref f, .int (tx.length : Nat), .int (pl : Nat)] ∧ d < 3 ∧ (d = 2 → most ≤ sg.length) ∧ sg.length ≤ 1000 ∧ pl ≤ tx.length ∧ tx.length ≤ 10000 ∧ as.length + tx.length ≤ 15900000 ∧ AK H f la tx as ∧
  ∀ H', Kq la H H' → AK H' f la tx (as ++ (List.range (min (min (min most (runA (tl d sg) 0 (tx.drop pl)) + 1) most) (tx.length - pl))).map (pl + ·)) → Q (.int (min most (runA (tl d sg) 0 (tx.drop pl)) : Nat)) H'
abbrev st_stood_at : Stmt := top 18
theorem sc_stood_at : FnScope ["deed", "signs", "most", "ask", "size", "place", "stood"] ["deed", "signs", "most", "ask", "size", "place"] (defScope st_stood_at) := ⟨rfl, rfl, rfl, by decide +kernel, rfl, by decide +kernel, by decide +kernel⟩
theorem def_stood (R : Raw K mg "stood_at" st_stood_at ["deed", "signs", "most", "ask", "size", "place"]) (T : Txt K w mg) (D_tells : Def P w K mg base 1 "tells" ["deed", "signs", "number", "sign"] spTells) (FV_ask : ∀ f, FnV P w K mg base 1 f (spAskG AK f)) :
    Def P w K mg base 2 "stood_at" ["deed", "signs", "most", "ask", "size", "place"] (spStood AK) := by
  refine R.defJ sc_stood_at (fun vs H Q E h => ?_) (fun f cdv A outer s H vs Q E hr h => ?_)
  · obtain ⟨d, sg, most, pl, f, la, tx, as, rfl, _⟩ := h
    rfl
  · obtain ⟨d, sg, most, pl, fa, la, tx, as, rfl, hd, hrow, hsl, hpl, htx, has, hA, q⟩ := h
    have sc := sc_stood_at
    have hu := hr.units
    have hb := big
    refine ⟨_, (jss_cons (js_set (i := 6) sc.nd rfl (Or.inl rfl) j_int)
    (jss_cons (js_while PassesOwn.never (jw_t (jw_and (jt_cmp o_lt (jn 6) (jn 2)) (jw_and1 (jt_cmp o_lt (j_op (o_add (K := K)) (jn 5) (jn 6)) (jn 4)))))
    (jss_cons (js_if (jt_not (jt_val (j_def D_tells (hr.mono (by decide)) rfl (ja_cons (jn 0) (ja_cons (jn 1) (ja_cons (jn 6) (ja_cons (j_callV 3 FV_ask (hr.mono (by decide)) (ja_cons (j_op (o_add (K := K)) (jn 5) (jn 6)) ja_nil)) ja_nil)))))))
    (jss_one js_break)
    jss_nil)
    (jss_one (js_aug (i := 6) sc.nd rfl (Or.inl rfl) j_int o_iadd))))
    (jss_one (js_ret (jn 6))))), ?_⟩
    generalize hR : runA (tl d sg) 0 (tx.drop pl) = R at q
    have hRle : R ≤ tx.length - pl := by
      have := runA_le (tl d sg) 0 (tx.drop pl)
      rw [List.length_drop] at this
      omega
    have hcl : ∀ k : Nat, (List.range (k + 1)).map (pl + ·) = (List.range k).map (pl + ·) ++ [pl + k] := fun k => by rw [List.range_succ, List.map_append]; rfl
    refine ⟨fun m σ H' => ∃ s : Nat, m = most - s ∧ s ≤ most ∧ s ≤ R ∧ R = s + runA (tl d sg) s (tx.drop (pl + s)) ∧ Kq la H H' ∧ AK H' fa la tx (as ++ (List.range s).map (pl + ·)) ∧ σ = [some (.str (deedS d)), some (.str (S sg)), some (.int (most : Nat)), some (.ref fa), some (.int (tx.length : Nat)), some (.int (pl : Nat)), some (.int (s : Nat))],
      ⟨most, 0, rfl, Nat.zero_le _, Nat.zero_le _, by rw [Nat.zero_add]; exact hR.symm, Kq.refl H, by simpa using hA, rfl⟩, ?_⟩
    rintro m σ H' ⟨s, rfl, hs1, hs2, hs3, hK, hA', rfl⟩
    have out : (min (min (min most R + 1) most) (tx.length - pl)) = s → min most R = s → Q (.int (s : Nat)) H' := fun e1 e2 => by
      have := q H' hK
      rw [e1, e2] at this
      exact this hA'
    show if decide (((s : Nat) : Int) < (most : Nat)) = true then _ else _
    refine ite2 (fun h1 => ?_) (fun h1 => ?_)
    · have h1' : s < most := by have := of_decide_eq_true h1; omega
      show if decide (((pl : Nat) : Int) + (s : Nat) < (tx.length : Nat)) = true then _ else _
      refine ite2 (fun h2 => ?_) (fun h2 => ?_)
      · have h2' : pl + s < tx.length := by have := of_decide_eq_true h2; omega
        refine ⟨_, fun _ _ h => h, ?_⟩
        have hc : tx[pl + s]? = some tx[pl + s] := List.getElem?_eq_getElem h2'
        have hstep := runA_step (t := tl d sg) (p := pl) (s := s) hc
        refine ⟨pl + s, tx[pl + s], la, tx, as ++ (List.range s).map (pl + ·), by simp, hA', hc, by omega, by simp; omega, fun H2 hK2 hA2 => ?_⟩
        refine ⟨d, sg, s, tx[pl + s], rfl, hd, fun z => by have := hrow z; omega, hsl, ?_⟩
        rw [List.append_assoc, ← hcl] at hA2
        cases ht : tl d sg s tx[pl + s] with
        | false =>
          rw [ht] at hstep
          have hR0 : R = s := by rw [hs3, hstep]; rfl
          have := q H2 (hK.trans hK2)
          rw [show min (min (min most R + 1) most) (tx.length - pl) = s + 1 by omega, show min most R = s by omega] at this
          exact this hA2
        | true =>
          rw [ht] at hstep
          have hR1 : R = s + 1 + runA (tl d sg) (s + 1) (tx.drop (pl + (s + 1))) := by
            rw [hs3, hstep]
            show s + (_ + 1) = _
            omega
          refine ⟨most - (s + 1), by omega, s + 1, rfl, h1', by omega, hR1, hK.trans hK2, hA2, ?_⟩
          simp
      · have h2' : tx.length ≤ pl + s := by
          have : ¬ (((pl : Nat) : Int) + (s : Nat) < (tx.length : Nat)) := fun z => h2 (decide_eq_true z)
          omega
        have hR0 : R = s := by rw [hs3, runA_end h2']; rfl
        exact out (by omega) (by omega)
    · have h1' : s = most := by
        have : ¬ (((s : Nat) : Int) < (most : Nat)) := fun z => h1 (decide_eq_true z)
        omega
      exact out (by omega) (by omega)

def spTaken (K : PySem.W.Frag) (AK : AKt) : Sp := fun vs H Q _ => ∃ (a f : Addr) (la : Option Addr) (H0 : Hp) (xs : List V) (ps : List Prt) (tx as : List Nat) (at_ : Nat), vs = [.ref a, .ref f, .int (tx.length : Nat), .int (at_ : Nat)] ∧ SqL K H0 a xs ∧ DatVs K H0 xs (ps.map Prt.dat) ∧ Old la H0 H ∧ (∀ p ∈ ps, p.Ok) ∧ ps.length ≤ 12 ∧
  at_ ≤ tx.length ∧ tx.length ≤ 3000 ∧ as.length + ps.length * (tx.length + 1) ≤ 15800000 ∧ AK H f la tx as ∧
  ∀ H' t, Kq la H H' → AK H' f la tx (as ++ askF tx ps at_) → H t = none → H' t = some (.tup [.int ((takeF ps tx at_).1 : Nat), .int ((takeF ps tx at_).2 : Nat)]) → Q (.ref t) H'
abbrev st_taken_by : Stmt := top 16
theorem sc_taken_by : FnScope ["form", "ask", "size", "at", "place", "looked", "deed", "signs", "many", "most", "stood"] ["form", "ask", "size", "at"] (defScope st_taken_by) := ⟨rfl, rfl, rfl, by decide +kernel, rfl, by decide +kernel, by decide +kernel⟩
theorem def_taken (R : Raw K mg "taken_by" st_taken_by ["form", "ask", "size", "at"]) (T : Txt K w mg) (AA : Asker AK) (D_most_looked : Def P w K mg base 1 "most_looked" ["deed", "signs", "many", "left"] spMost) (D_stood_at : Def P w K mg base 2 "stood_at" ["deed", "signs", "most", "ask", "size", "place"] (spStood AK))
    (D_holds : Def P w K mg base 1 "holds" ["deed", "signs", "many", "stood"] spHolds) : Def P w K mg base 3 "taken_by" ["form", "ask", "size", "at"] (spTaken K AK) := by
  refine R.defJ sc_taken_by (fun vs H Q E h => ?_) (fun f cdv A outer s H vs Q E hr h => ?_)
  · obtain ⟨a, f, la, H0, xs, ps, tx, as, at_, rfl, _⟩ := h
    rfl
  · obtain ⟨a, fa, la, H0, xs, ps, tx, as, at_, rfl, hS0, hD0, hO, hok, h12, hat, htx, has, hA, q⟩ := h
    have hS := hO.sm.seq hS0
    have sc := sc_taken_by
    have hu := hr.units
    have hb := big
    have hlen : xs.length = ps.length := by have := hD0.length; rw [List.length_map] at this; exact this
    have hal := askF_len tx ps at_
    have h12' : ps.length * (tx.length + 1) ≤ 12 * (tx.length + 1) := Nat.mul_le_mul_right _ h12
    refine ⟨_, (jss_cons (js_set (i := 4) sc.nd rfl (Or.inl rfl) (jn 3))
    (jss_cons (js_set (i := 5) sc.nd rfl (Or.inl rfl) j_int)
    (jss_cons (js_for PassesOwn.never rfl (ji_any (K := K) (jn 0)) (jg_tup (K := K) (n := 3) rfl (jgs_cons (jg_name (i := 6) sc.nd rfl (Or.inl rfl)) (jgs_cons (jg_name (i := 7) sc.nd rfl (Or.inl rfl)) (jgs_cons (jg_name (i := 8) sc.nd rfl (Or.inl rfl)) jgs_nil))))
    (jss_cons (js_set (i := 9) sc.nd rfl (Or.inl rfl) (j_def D_most_looked (hr.mono (by decide)) rfl (ja_cons (jn 6) (ja_cons (jn 7) (ja_cons (jn 8) (ja_cons (j_op o_sub (jn 2) (jn 4)) ja_nil))))))
    (jss_cons (js_set (i := 10) sc.nd rfl (Or.inl rfl) (j_def D_stood_at (hr.mono (by decide)) rfl (ja_cons (jn 6) (ja_cons (jn 7) (ja_cons (jn 9) (ja_cons (jn 1) (ja_cons (jn 2) (ja_cons (jn 4) ja_nil))))))))
    (jss_cons (js_set (i := 5) sc.nd rfl (Or.inl rfl) (j_callB (c_max rfl) rfl T.n_max boot_max (ja_cons (jn 5) (ja_cons (j_op (o_add (K := K)) (j_op o_sub (jn 4) (jn 3)) (j_callB (c_min rfl) rfl T.n_min boot_min (ja_cons (j_op (o_add (K := K)) (jn 10) j_int) (ja_cons (jn 9) ja_nil)))) ja_nil))))
    (jss_cons (js_if (jt_not (jt_val (j_def D_holds (hr.mono (by decide)) rfl (ja_cons (jn 6) (ja_cons (jn 7) (ja_cons (jn 8) (ja_cons (jn 10) ja_nil)))))))
    (jss_one (js_ret (j_tup (ja_cons j_int (ja_cons (jn 5) ja_nil)))))
    jss_nil)
    (jss_one (js_if (jt_cmp (o_notin (K := K)) (jn 8) (j_tup (ja_cons j_str (ja_cons j_str ja_nil))))
    (jss_one (js_aug (i := 4) sc.nd rfl (Or.inl rfl) (jn 10) o_iadd))
    jss_nil)))))))
    (jss_one (js_ret (j_tup (ja_cons (j_op o_sub (jn 4) (jn 3)) (ja_cons (jn 5) ja_nil)))))))), ?_⟩
    refine .inl ⟨⟨_, hS⟩, for_list (K := K) (a := a) (xs := xs) (fun i σ H' => ∃ (pl lk : Nat) (done : List Nat) (v6 v7 v8 v9 v10 : Option V), takeF ps tx at_ = goF tx at_ (ps.drop i) pl lk ∧ askF tx ps at_ = done ++ askF tx (ps.drop i) pl ∧ at_ ≤ pl ∧ pl ≤ tx.length ∧ Kq la H H' ∧ AK H' fa la tx (as ++ done) ∧
        σ = [some (.ref a), some (.ref fa), some (.int (tx.length : Nat)), some (.int (at_ : Nat)), some (.int (pl : Nat)), some (.int (lk : Nat)), v6, v7, v8, v9, v10])
      ⟨at_, 0, [], none, none, none, none, none, rfl, rfl, Nat.le_refl _, hat, Kq.refl H, by rw [List.append_nil]; exact hA, rfl⟩ (fun i σ H' _ h => by obtain ⟨pl, lk, done, v6, v7, v8, v9, v10, _, _, _, _, hK, _⟩ := h; exact (hO.kq hK).sm.seq hS0) ?_ ?_⟩
    · rintro i x σ H' hi ⟨pl, lk, done, v6, v7, v8, v9, v10, e1, e2, hp1, hp2, hK, hA', rfl⟩
      obtain ⟨d, hd, hv⟩ := (hD0.same (hO.kq hK).sm).get hi
      rw [List.getElem?_map] at hd
      cases ep : ps[i]? with
      | none => rw [ep] at hd; cases hd
      | some p =>
        rw [ep] at hd
        have ed : p.dat = d := Option.some.inj hd
        subst ed
        obtain ⟨t, rfl, hT⟩ := dat_part hv
        have okp := hok p (List.mem_of_getElem? ep)
        obtain ⟨hlt, ei⟩ := List.getElem?_eq_some_iff.mp ep
        have edrop : ps.drop i = p :: ps.drop (i + 1) := by rw [List.drop_eq_getElem_cons hlt, ei]
        rw [edrop] at e1 e2
        have hdone : done.length ≤ ps.length * (tx.length + 1) := by
          rw [e2, List.length_append] at hal
          omega
        have hl100 := okp.l2
        refine ⟨t, _, rfl, hT, rfl, _, _, rfl, _, _, rfl, _, _, rfl, rfl, ?_⟩
        refine ⟨p, tx.length - pl, by simp; omega, okp.hd, okp.hm, by omega, fun H1 s1 => ?_⟩
        refine ⟨p.d, p.l, mostN p (tx.length - pl), pl, fa, la, tx, as ++ done, rfl, okp.hd, fun z => ?_, by omega, hp2, by omega, by simp; omega, AA.same hA' s1, fun H2 hK2 hA2 => ?_⟩
        · unfold mostN; rw [if_pos z]; exact Nat.le_refl _
        have est : min (mostN p (tx.length - pl)) (runA (tl p.d p.l) 0 (tx.drop pl)) = stN p tx pl := rfl
        rw [est] at hA2 ⊢
        have eask : (List.range (min (min (stN p tx pl + 1) (mostN p (tx.length - pl))) (tx.length - pl))).map (pl + ·) = askP p tx pl := rfl
        rw [eask] at hA2
        refine ⟨p, stN p tx pl, rfl, okp.hd, okp.hm, by omega, fun H3 s3 => ?_⟩
        have hlk : max ((lk : Nat) : Int) (((pl : Nat) : Int) - (at_ : Nat) + min (((stN p tx pl : Nat) : Int) + 1) ((mostN p (tx.length - pl) : Nat) : Int)) = ((max lk (pl - at_ + lkN p tx pl) : Nat) : Int) := by
          unfold lkN
          omega
        have hKK : Kq la H H3 := ((hK.trans (Kq.of s1)).trans hK2).trans (Kq.of s3)
        have hA3 := AA.same hA2 s3
        show if (!holdsN p (stN p tx pl)) = true then _ else _
        cases hh : holdsN p (stN p tx pl) with
        | false =>
          refine (if_pos (by rfl)).mpr ?_
          refine ⟨(show 2 ≤ sizeLine by decide), fun t ht => ?_⟩
          have ht0 : H t = none := AA.free hA3 hKK ht
          have eg : takeF ps tx at_ = (0, max lk (pl - at_ + lkN p tx pl)) := by rw [e1]; unfold goF; rw [hh]; rfl
          have ea : askF tx ps at_ = done ++ askP p tx pl := by rw [e2]; unfold askF; rw [hh]; simp
          refine q _ t (hKK.trans (Kq.of (same_new ht))) (by rw [ea, ← List.append_assoc]; exact AA.same hA3 (same_new ht)) ht0 ?_
          rw [upd_same, eg, ← hlk]
          rfl
        | true =>
          refine (if_neg (by intro z; cases z)).mpr ?_
          refine ⟨by decide, fun p1 hp1' => ⟨_, .inr (SqT.of upd_same), rfl, rfl, ?_⟩⟩
          have s4 : Same H3 (upd H3 p1 (.tup [.str "ahead", .str "not"])) := same_new hp1'
          generalize upd H3 p1 (.tup [.str "ahead", .str "not"]) = H4 at s4 ⊢
          have hm := okp.hm
          have ein : inV (.str (manyS p.m)) [.str "ahead", .str "not"] = decide (p.m = 4 ∨ p.m = 5) := by
            generalize p.m = m at hm ⊢
            rcases many_cases hm with rfl | rfl | rfl | rfl | rfl | rfl <;> decide +kernel
          show if (true ^^ inV (.str (manyS p.m)) [.str "ahead", .str "not"]) = true then _ else _
          rw [ein, Bool.true_xor]
          have hnx := nextN_le (p := p) hp2
          have eg : takeF ps tx at_ = goF tx at_ (ps.drop (i + 1)) (nextN p tx pl) (max lk (pl - at_ + lkN p tx pl)) := by rw [e1]; rw [goF, hh]; rfl
          have ea : askF tx ps at_ = (done ++ askP p tx pl) ++ askF tx (ps.drop (i + 1)) (nextN p tx pl) := by rw [e2]; rw [askF, hh, List.append_assoc]; rfl
          have hA4 : AK H4 fa la tx (as ++ (done ++ askP p tx pl)) := by rw [← List.append_assoc]; exact AA.same hA3 s4
          refine ite2 (fun h5 => ?_) (fun h5 => ?_)
          · have hn : nextN p tx pl = pl + stN p tx pl := if_neg fun z => by
              rw [decide_eq_true z] at h5; cases h5
            refine ⟨_, _, _, some (.str (deedS p.d)), some (.str (S p.l)), some (.str (manyS p.m)), some (.int (mostN p (tx.length - pl) : Nat)), some (.int (stN p tx pl : Nat)), eg, ea, by omega, hnx.2, hKK.trans (Kq.of s4), hA4, ?_⟩
            rw [hn, ← hlk]
            rfl
          · have hn : nextN p tx pl = pl := if_pos (Decidable.byContradiction fun z => h5 (by rw [decide_eq_false z]; rfl))
            refine ⟨_, _, _, some (.str (deedS p.d)), some (.str (S p.l)), some (.str (manyS p.m)), some (.int (mostN p (tx.length - pl) : Nat)), some (.int (stN p tx pl : Nat)), eg, ea, by omega, hnx.2, hKK.trans (Kq.of s4), hA4, ?_⟩
            rw [hn, ← hlk]
            rfl
    · rintro σ H' ⟨pl, lk, done, v6, v7, v8, v9, v10, e1, e2, hp1, hp2, hK, hA', rfl⟩
      have e0 : ps.drop xs.length = [] := by rw [hlen]; exact List.drop_length
      rw [e0] at e1 e2
      refine ⟨(show 2 ≤ sizeLine by decide), fun t ht => ?_⟩
      have hA2 := AA.same hA' (same_new (o := .tup [.int ((pl : Nat) - (at_ : Nat) : Int), .int (lk : Nat)]) ht)
      have e3 : askF tx ([] : List Prt) pl = [] := rfl
      rw [e3, List.append_nil] at e2
      rw [← e2] at hA2
      have ht0 : H t = none := AA.free hA' hK ht
      refine q _ t (hK.trans (Kq.of (same_new ht))) hA2 ht0 ?_
      rw [upd_same, e1]
      show some (HO.tup [.int ((pl : Nat) - (at_ : Nat) : Int), .int (lk : Nat)]) = some (HO.tup [.int ((pl - at_ : Nat) : Int), .int (lk : Nat)])
      rw [show ((pl : Nat) : Int) - (at_ : Nat) = ((pl - at_ : Nat) : Int) by omega]
end
section
variable {P : Program} {w : World} {K : PySem.W.Frag} {mg : Str → Option Value} {base : Heap} {AK : AKt}
def spBest (K : PySem.W.Frag) (AK : AKt) : Sp := fun vs H Q _ => ∃ (a f : Addr) (la : Option Addr) (H0 : Hp) (xs : List V) (es : List Ent) (tx as : List Nat) (pl : Nat), vs = [.ref a, .ref f, .int (tx.length : Nat), .int (pl : Nat)] ∧ SqL K H a xs ∧ some a ≠ la ∧ DatVs K H0 xs (es.map Ent.dat) ∧ Old la H0 H ∧ (∀ e ∈ es, e.Ok) ∧
  pl ≤ tx.length ∧ tx.length ≤ 3000 ∧ as.length + costB es tx.length ≤ 15800000 ∧ AK H f la tx as ∧
  ∀ H' t zs, Kq la H H' → AK H' f la tx (as ++ zs) → zs.length ≤ costB es tx.length → (∀ k ∈ zs, pl ≤ k ∧ k < pl + (bestF es tx pl).lk ∧ k < tx.length) → H t = none → H' t = some (.tup [.str (S (bestF es tx pl).k), .int ((bestF es tx pl).m : Nat), .int ((bestF es tx pl).lk : Nat)]) → Q (.ref t) H'
abbrev st_best_of : Stmt := top 26
theorem sc_best_of : FnScope ["entries", "ask", "size", "place", "kind", "most", "looked", "entry_kind", "form", "told"] ["entries", "ask", "size", "place"] (defScope st_best_of) := ⟨rfl, rfl, rfl, by decide +kernel, rfl, by decide +kernel, by decide +kernel⟩
theorem def_best (R : Raw K mg "best_of" st_best_of ["entries", "ask", "size", "place"]) (T : Txt K w mg) (AA : Asker AK) (D_taken_by : Def P w K mg base 3 "taken_by" ["form", "ask", "size", "at"] (spTaken K AK)) : Def P w K mg base 4 "best_of" ["entries", "ask", "size", "place"] (spBest K AK) := by
  refine R.defJ sc_best_of (fun vs H Q E h => ?_) (fun f cdv A outer s H vs Q E hr h => ?_)
  · obtain ⟨a, f, la, H0, xs, es, tx, as, pl, rfl, _⟩ := h
    rfl
  · obtain ⟨a, fa, la, H0, xs, es, tx, as, pl, rfl, hS, hne, hD0, hO, hok, hpl, htx, hc, hA, q⟩ := h
    have sc := sc_best_of
    have hu := hr.units
    have hb := big
    have hlen : xs.length = es.length := by have := hD0.length; rw [List.length_map] at this; exact this
    refine ⟨_, (jss_cons (js_set (i := 4) sc.nd rfl (Or.inl rfl) (j_gstr rfl T.g_GAP))
    (jss_cons (js_set (i := 5) sc.nd rfl (Or.inl rfl) j_int)
    (jss_cons (js_set (i := 6) sc.nd rfl (Or.inl rfl) j_int)
    (jss_cons (js_for PassesOwn.never rfl (ji_any (K := K) (jn 0)) (jg_tup (K := K) (n := 2) rfl (jgs_cons (jg_name (i := 7) sc.nd rfl (Or.inl rfl)) (jgs_cons (jg_name (i := 8) sc.nd rfl (Or.inl rfl)) jgs_nil)))
    (jss_cons (js_set (i := 9) sc.nd rfl (Or.inl rfl) (j_def D_taken_by (hr.mono (by decide)) rfl (ja_cons (jn 8) (ja_cons (jn 1) (ja_cons (jn 2) (ja_cons (jn 3) ja_nil))))))
    (jss_cons (js_set (i := 6) sc.nd rfl (Or.inl rfl) (j_callB (c_max rfl) rfl T.n_max boot_max (ja_cons (jn 6) (ja_cons (j_ix (o_ix hu (K := K) (w := w)) (jn 9) j_int) ja_nil))))
    (jss_one (js_if (jt_cmp o_gt (j_ix (o_ix hu (K := K) (w := w)) (jn 9) j_int) (jn 5))
    (jss_cons (js_set (i := 4) sc.nd rfl (Or.inl rfl) (jn 7))
    (jss_one (js_set (i := 5) sc.nd rfl (Or.inl rfl) (j_ix (o_ix hu (K := K) (w := w)) (jn 9) j_int))))
    jss_nil)))))
    (jss_one (js_ret (j_tup (ja_cons (jn 4) (ja_cons (jn 5) (ja_cons (jn 6) ja_nil)))))))))), ?_⟩
    refine .inl ⟨⟨_, hS⟩, for_list (K := K) (a := a) (xs := xs) (fun i σ H' => ∃ (b : Bst) (zs : List Nat) (v7 v8 v9 : Option V), bestF es tx pl = bestG b (es.drop i) tx pl ∧ zs.length + costB (es.drop i) tx.length ≤ costB es tx.length ∧ (∀ k ∈ zs, pl ≤ k ∧ k < pl + b.lk ∧ k < tx.length) ∧ Kq la H H' ∧ AK H' fa la tx (as ++ zs) ∧
        σ = [some (.ref a), some (.ref fa), some (.int (tx.length : Nat)), some (.int (pl : Nat)), some (.str (S b.k)), some (.int (b.m : Nat)), some (.int (b.lk : Nat)), v7, v8, v9])
      ⟨⟨[], 0, 1⟩, [], none, none, none, rfl, by simp, by simp, Kq.refl H, by rw [List.append_nil]; exact hA, rfl⟩ (fun i σ H' _ h => by obtain ⟨b, zs, v7, v8, v9, _, _, _, hK, _⟩ := h; exact hK.seq hne hS) ?_ ?_⟩
    · rintro i x σ H' hi ⟨b, zs, v7, v8, v9, e1, hz, hzk, hK, hA', rfl⟩
      obtain ⟨d, hd, hv⟩ := hD0.get hi
      rw [List.getElem?_map] at hd
      cases ee : es[i]? with
      | none => rw [ee] at hd; cases hd
      | some e =>
        rw [ee] at hd
        have ed : e.dat = d := Option.some.inj hd
        subst ed
        obtain ⟨t, af, xf, rfl, hT, hSf, hDf⟩ := dat_ent hv
        have oke := hok e (List.mem_of_getElem? ee)
        obtain ⟨hlt, ei⟩ := List.getElem?_eq_some_iff.mp ee
        have edrop : es.drop i = e :: es.drop (i + 1) := by rw [List.drop_eq_getElem_cons hlt, ei]
        rw [edrop] at e1 hz
        rw [costB_cons] at hz
        refine ⟨t, _, rfl, (hO.kq hK).sm.seqT hT, rfl, _, _, rfl, _, _, rfl, rfl, ?_⟩
        refine ⟨af, fa, la, H0, xf, e.f, tx, as ++ zs, pl, rfl, hSf, hDf, hO.kq hK, oke.ok, oke.len, hpl, htx, by rw [List.length_append]; omega, hA', fun H1 t1 hK1 hA1 ht0 ht1 => ?_⟩
        have hall := ask_all tx pl e.f hpl
        have hal := askF_len tx e.f pl
        refine .inr ⟨_, _, SqT.of ht1, atI_nat (j := 1) rfl, ?_⟩
        refine .inr ⟨_, _, SqT.of ht1, atI_nat (j := 0) rfl, ?_⟩
        have hlk : max ((b.lk : Nat) : Int) (((takeF e.f tx pl).2 : Nat) : Int) = ((max b.lk (takeF e.f tx pl).2 : Nat) : Int) := by omega
        rw [bestG_cons] at e1
        have hz1 : (zs ++ askF tx e.f pl).length + costB (es.drop (i + 1)) tx.length ≤ costB es tx.length := by rw [List.length_append]; omega
        have hzk1 : ∀ k ∈ zs ++ askF tx e.f pl, pl ≤ k ∧ k < pl + (stepB tx pl b e).lk ∧ k < tx.length := fun k hk => by
          have hsl : (stepB tx pl b e).lk = max b.lk (takeF e.f tx pl).2 := rfl
          rcases List.mem_append.mp hk with z | z
          · have := hzk k z
            omega
          · have := (hall k).mp z
            omega
        rw [List.append_assoc] at hA1
        show if decide (((b.m : Nat) : Int) < ((takeF e.f tx pl).1 : Nat)) = true then _ else _
        refine ite2 (fun h => ?_) (fun h => ?_)
        · have hlt' : b.m < (takeF e.f tx pl).1 := by have := of_decide_eq_true h; omega
          refine .inr ⟨_, _, SqT.of ht1, atI_nat (j := 0) rfl, ?_⟩
          refine ⟨stepB tx pl b e, zs ++ askF tx e.f pl, some (.str (S e.k)), some (.ref af), some (.ref t1), e1, hz1, hzk1, hK.trans hK1, hA1, ?_⟩
          unfold stepB
          dsimp only
          rw [if_pos hlt', show max b.m (takeF e.f tx pl).1 = (takeF e.f tx pl).1 by omega, ← hlk]
          rfl
        · have hlt' : ¬ b.m < (takeF e.f tx pl).1 := fun z => h (decide_eq_true (by omega))
          refine ⟨stepB tx pl b e, zs ++ askF tx e.f pl, some (.str (S e.k)), some (.ref af), some (.ref t1), e1, hz1, hzk1, hK.trans hK1, hA1, ?_⟩
          unfold stepB
          dsimp only
          rw [if_neg hlt', show max b.m (takeF e.f tx pl).1 = b.m by omega, ← hlk]
          rfl
    · rintro σ H' ⟨b, zs, v7, v8, v9, e1, hz, hzk, hK, hA', rfl⟩
      have e0 : es.drop xs.length = [] := by rw [hlen]; exact List.drop_length
      rw [e0] at e1 hz
      have e2 : bestF es tx pl = b := e1
      refine ⟨(show 3 ≤ sizeLine by decide), fun t ht => ?_⟩
      refine q _ t zs (hK.trans (Kq.of (same_new ht))) (AA.same hA' (same_new ht)) (by omega) (by rw [e2]; exact hzk) (AA.free hA' hK ht) ?_
      rw [upd_same, e2]

def spWord (K : PySem.W.Frag) (AK : AKt) : Sp := fun vs H Q _ => ∃ (a f : Addr) (la : Option Addr) (H0 : Hp) (xs : List V) (es : List Ent) (tx as : List Nat) (at_ : Nat), vs = [.ref a, .ref f, .int (tx.length : Nat), .int (at_ : Nat)] ∧ SqL K H0 a xs ∧ DatVs K H0 xs (es.map Ent.dat) ∧ Old la H0 H ∧ (∀ e ∈ es, e.Ok) ∧ es.length ≤ 1000 ∧
  at_ ≤ tx.length ∧ tx.length ≤ 3000 ∧ as.length + (tx.length + 2) * costB es tx.length ≤ 15800000 ∧ AK H f la tx as ∧
  ∀ H' t zs, Kq la H H' → AK H' f la tx (as ++ zs) → zs.length ≤ ((wordF es tx at_).g + 2) * costB es tx.length → (∀ k ∈ zs, at_ ≤ k ∧ k < at_ + (wordF es tx at_).lk ∧ k < tx.length) → H t = none →
    H' t = some (.tup [.str (S (wordF es tx at_).k), .int ((wordF es tx at_).g : Nat), .int ((wordF es tx at_).n : Nat), .int ((wordF es tx at_).lk : Nat)]) → Q (.ref t) H'
abbrev st_word_at : Stmt := top 25
theorem sc_word_at : FnScope ["book", "ask", "size", "at", "gaps", "others", "gap", "best", "looked"] ["book", "ask", "size", "at"] (defScope st_word_at) := ⟨rfl, rfl, rfl, by decide +kernel, rfl, by decide +kernel, by decide +kernel⟩
theorem def_word (R : Raw K mg "word_at" st_word_at ["book", "ask", "size", "at"]) (T : Txt K w mg) (AA : Asker AK) (D_best_of : Def P w K mg base 4 "best_of" ["entries", "ask", "size", "place"] (spBest K AK)) : Def P w K mg base 5 "word_at" ["book", "ask", "size", "at"] (spWord K AK) := by
  refine R.defJ sc_word_at (fun vs H Q E h => ?_) (fun f cdv A outer s H vs Q E hr h => ?_)
  · obtain ⟨a, f, la, H0, xs, es, tx, as, at_, rfl, _⟩ := h
    rfl
  · obtain ⟨a, fa, la, H0, xs, es, tx, as, at_, rfl, hS0, hD0, hO, hok, hes, hat, htx, hc, hA, q⟩ := h
    have sc := sc_word_at
    have hu := hr.units
    have hb := big
    have hlen : xs.length = es.length := by have := hD0.length; rw [List.length_map] at this; exact this
    have hgw := gapF_le (es := es) hat
    have hcg : costB (gapsOf es) tx.length ≤ costB es tx.length := costB_filter _ es _
    have hcr : costB (restOf es) tx.length ≤ costB es tx.length := costB_filter _ es _
    have okg : ∀ e ∈ gapsOf es, e.Ok := fun e he => hok e (List.mem_filter.mp he).1
    have okr : ∀ e ∈ restOf es, e.Ok := fun e he => hok e (List.mem_filter.mp he).1
    generalize hC : costB es tx.length = C at hc hcg hcr q
    refine ⟨_, (jss_cons (js_comp (i := 4) (N := ["entry"]) (cap := [none]) rfl (CompScope.of rfl (by rfl)) (ji_any (K := K) (jn 0)) (fun _ _ _ _ => (jg_name (i := 0) (show List.Nodup [("entry" : Str)] by decide +kernel) rfl (Or.inl rfl))) (fun _ _ _ _ => (jts_one (jt_cmp (o_eq hu (K := K)) (j_ix (o_ix hu (K := K) (w := w)) (jn 0) j_int) (j_gstr rfl T.g_GAP)))) (fun _ _ _ _ => (jn 0)) sc.nd rfl rfl)
    (jss_cons (js_comp (i := 5) (N := ["entry"]) (cap := [none]) rfl (CompScope.of rfl (by rfl)) (ji_any (K := K) (jn 0)) (fun _ _ _ _ => (jg_name (i := 0) (show List.Nodup [("entry" : Str)] by decide +kernel) rfl (Or.inl rfl))) (fun _ _ _ _ => (jts_one (jt_cmp (o_ne hu (K := K)) (j_ix (o_ix hu (K := K) (w := w)) (jn 0) j_int) (j_gstr rfl T.g_GAP)))) (fun _ _ _ _ => (jn 0)) sc.nd rfl rfl)
    (jss_cons (js_set (i := 6) sc.nd rfl (Or.inl rfl) j_int)
    (jss_cons (js_set (i := 7) sc.nd rfl (Or.inl rfl) (j_def D_best_of (hr.mono (by decide)) rfl (ja_cons (jn 4) (ja_cons (jn 1) (ja_cons (jn 2) (ja_cons (jn 3) ja_nil))))))
    (jss_cons (js_set (i := 8) sc.nd rfl (Or.inl rfl) (j_ix (o_ix hu (K := K) (w := w)) (jn 7) j_int))
    (jss_cons (js_while PassesOwn.never (jt_cmp o_gt (j_ix (o_ix hu (K := K) (w := w)) (jn 7) j_int) j_int)
    (jss_cons (js_aug (i := 6) sc.nd rfl (Or.inl rfl) (j_ix (o_ix hu (K := K) (w := w)) (jn 7) j_int) o_iadd)
    (jss_cons (js_set (i := 7) sc.nd rfl (Or.inl rfl) (j_def D_best_of (hr.mono (by decide)) rfl (ja_cons (jn 4) (ja_cons (jn 1) (ja_cons (jn 2) (ja_cons (j_op (o_add (K := K)) (jn 3) (jn 6)) ja_nil))))))
    (jss_one (js_set (i := 8) sc.nd rfl (Or.inl rfl) (j_callB (c_max rfl) rfl T.n_max boot_max (ja_cons (jn 8) (ja_cons (j_op (o_add (K := K)) (jn 6) (j_ix (o_ix hu (K := K) (w := w)) (jn 7) j_int)) ja_nil))))))))
    (jss_cons (js_if (jt_cmp (o_eq hu (K := K)) (j_op (o_add (K := K)) (jn 3) (jn 6)) (jn 2))
    (jss_one (js_ret (j_tup (ja_cons (j_gstr rfl T.g_END) (ja_cons (jn 6) (ja_cons j_int (ja_cons (jn 8) ja_nil)))))))
    jss_nil)
    (jss_cons (js_set (i := 7) sc.nd rfl (Or.inl rfl) (j_def D_best_of (hr.mono (by decide)) rfl (ja_cons (jn 5) (ja_cons (jn 1) (ja_cons (jn 2) (ja_cons (j_op (o_add (K := K)) (jn 3) (jn 6)) ja_nil))))))
    (jss_cons (js_set (i := 8) sc.nd rfl (Or.inl rfl) (j_callB (c_max rfl) rfl T.n_max boot_max (ja_cons (jn 8) (ja_cons (j_op (o_add (K := K)) (jn 6) (j_ix (o_ix hu (K := K) (w := w)) (jn 7) j_int)) ja_nil))))
    (jss_cons (js_if (jt_cmp (o_eq hu (K := K)) (j_ix (o_ix hu (K := K) (w := w)) (jn 7) j_int) j_int)
    (jss_one (js_ret (j_tup (ja_cons (j_gstr rfl T.g_STRAY) (ja_cons (jn 6) (ja_cons j_int (ja_cons (jn 8) ja_nil)))))))
    jss_nil)
    (jss_one (js_ret (j_tup (ja_cons (j_ix (o_ix hu (K := K) (w := w)) (jn 7) j_int) (ja_cons (jn 6) (ja_cons (j_ix (o_ix hu (K := K) (w := w)) (jn 7) j_int) (ja_cons (jn 8) ja_nil))))))))))))))))), ?_⟩
    refine .inl ⟨⟨_, hO.sm.seq hS0⟩, ?_⟩
    refine gath_list (xs := xs) (fun i ys σ' H' => Same H H' ∧ ∃ v1 : Option V, DatVs K H0 ys (((es.take i).filter isGap).map Ent.dat) ∧ σ' = [v1]) (by omega) ⟨Same.refl H, none, .nil, rfl⟩
      (fun i ys σ' H' h => by
        obtain ⟨_, _, hd, _⟩ := h
        have := hd.length
        rw [List.length_map] at this
        have h2 := List.length_filter_le isGap (es.take i)
        rw [List.length_take] at h2
        omega)
      (fun i ys σ' H' h => h.1.seq (hO.sm.seq hS0)) ?_ ?_
    · rintro i x ys σ' H' hi ⟨s1, v1, hd, rfl⟩
      obtain ⟨d, hdd, hv⟩ := hD0.get hi
      rw [List.getElem?_map] at hdd
      cases ee : es[i]? with
      | none => rw [ee] at hdd; cases hdd
      | some e =>
        rw [ee] at hdd
        have ed : e.dat = d := Option.some.inj hdd
        subst ed
        obtain ⟨t, af, xf, rfl, hT, hSf, hDf⟩ := dat_ent hv
        have etk : es.take (i + 1) = es.take i ++ [e] := by rw [List.take_add_one, ee]; rfl
        refine .inr ⟨_, _, s1.seqT (hO.sm.seqT hT), atI_nat (j := 0) rfl, ?_⟩
        show if (false ^^ decide (S e.k = ("" : Str))) = true then _ else _
        rw [Bool.false_xor, Sk_nil]
        refine ite2 (fun h => ?_) (fun h => ?_)
        · refine ⟨s1, _, ?_, rfl⟩
          rw [etk, List.filter_append, List.filter_cons_of_pos (show isGap e = true from h), List.filter_nil, List.map_append]
          exact DatVs.snoc hv hd
        · refine ⟨s1, _, ?_, rfl⟩
          rw [etk, List.filter_append, List.filter_cons_of_neg (show ¬ isGap e = true from h), List.filter_nil, List.append_nil]
          exact hd
    rintro ysg σ' H1 ⟨s1, v1, hdg, rfl⟩ Dg hDg
    rw [hlen, List.take_length] at hdg
    have s2 : Same H (upd H1 Dg (.lst ysg)) := s1.trans (same_new hDg)
    have hg2 : upd H1 Dg (.lst ysg) Dg = some (.lst ysg) := upd_same
    have hgl : some Dg ≠ la := fun z => by
      rw [← z] at hA
      have h1 := AA.tr hA
      cases y : H Dg with
      | none => exact h1 y
      | some u => rw [s1 _ _ y] at hDg; cases hDg
    generalize upd H1 Dg (.lst ysg) = H2 at s2 hg2 ⊢
    refine .inl ⟨⟨_, s2.seq (hO.sm.seq hS0)⟩, ?_⟩
    refine gath_list (xs := xs) (fun i ys σ' H' => Same H2 H' ∧ ∃ v1 : Option V, DatVs K H0 ys (((es.take i).filter fun e => !isGap e).map Ent.dat) ∧ σ' = [v1]) (by omega) ⟨Same.refl H2, none, .nil, rfl⟩
      (fun i ys σ' H' h => by
        obtain ⟨_, _, hd, _⟩ := h
        have := hd.length
        rw [List.length_map] at this
        have h2 := List.length_filter_le (fun e => !isGap e) (es.take i)
        rw [List.length_take] at h2
        omega)
      (fun i ys σ' H' h => h.1.seq (s2.seq (hO.sm.seq hS0))) ?_ ?_
    · rintro i x ys σ' H' hi ⟨s1', v1, hd, rfl⟩
      obtain ⟨d, hdd, hv⟩ := hD0.get hi
      rw [List.getElem?_map] at hdd
      cases ee : es[i]? with
      | none => rw [ee] at hdd; cases hdd
      | some e =>
        rw [ee] at hdd
        have ed : e.dat = d := Option.some.inj hdd
        subst ed
        obtain ⟨t, af, xf, rfl, hT, hSf, hDf⟩ := dat_ent hv
        have etk : es.take (i + 1) = es.take i ++ [e] := by rw [List.take_add_one, ee]; rfl
        refine .inr ⟨_, _, s1'.seqT (s2.seqT (hO.sm.seqT hT)), atI_nat (j := 0) rfl, ?_⟩
        show if (true ^^ decide (S e.k = ("" : Str))) = true then _ else _
        rw [Bool.true_xor, Sk_nil]
        refine ite2 (fun h => ?_) (fun h => ?_)
        · refine ⟨s1', _, ?_, rfl⟩
          rw [etk, List.filter_append, List.filter_cons_of_pos (p := fun e => !isGap e) (show (!isGap e) = true from h), List.filter_nil, List.map_append]
          exact DatVs.snoc hv hd
        · refine ⟨s1', _, ?_, rfl⟩
          rw [etk, List.filter_append, List.filter_cons_of_neg (p := fun e => !isGap e) (show ¬ (!isGap e) = true from h), List.filter_nil, List.append_nil]
          exact hd
    rintro yso σ' H3 ⟨s3, v2, hdo, rfl⟩ Do hDo
    rw [hlen, List.take_length] at hdo
    have s4 : Same H2 (upd H3 Do (.lst yso)) := s3.trans (same_new hDo)
    have ho4 : upd H3 Do (.lst yso) Do = some (.lst yso) := upd_same
    have hg4 := s4 _ _ hg2
    have hol : some Do ≠ la := fun z => by
      rw [← z] at hA
      have h1 := AA.tr hA
      cases y : H Do with
      | none => exact h1 y
      | some u => rw [s3 _ _ (s2 _ _ y)] at hDo; cases hDo
    have sA : Same H (upd H3 Do (.lst yso)) := s2.trans s4
    generalize upd H3 Do (.lst yso) = H4 at s4 ho4 hg4 sA ⊢
    have hO4 := hO.same sA
    have hA4 := AA.same hA sA
    have hcc : (tx.length + 2) * C = tx.length * C + C + C := by rw [Nat.add_mul]; omega
    refine ⟨Dg, fa, la, H0, ysg, gapsOf es, tx, as, at_, rfl, SqL.of hg4, hgl, hdg, hO4, okg, hat, htx, by omega, hA4, fun H5 tb zs hK5 hA5 hz5 hzk5 htb0 htb => ?_⟩
    refine .inr ⟨_, _, SqT.of htb, atI_nat (j := 2) rfl, ?_⟩
    refine ⟨fun m σ H' => ∃ (g k : Nat) (zs : List Nat) (tb : Addr), m = tx.length - (at_ + g) ∧ at_ + g ≤ tx.length ∧ gapF es tx at_ = (if 0 < (bestF (gapsOf es) tx (at_ + g)).m then gapGo (gapsOf es) tx at_ (g + (bestF (gapsOf es) tx (at_ + g)).m) k else (g, k)) ∧
        zs.length ≤ (g + 1) * C ∧ (∀ z ∈ zs, at_ ≤ z ∧ z < at_ + k ∧ z < tx.length) ∧ Kq la H H' ∧ Kq la H4 H' ∧ AK H' fa la tx (as ++ zs) ∧ H' tb = some (.tup [.str (S (bestF (gapsOf es) tx (at_ + g)).k), .int ((bestF (gapsOf es) tx (at_ + g)).m : Nat), .int ((bestF (gapsOf es) tx (at_ + g)).lk : Nat)]) ∧
        σ = [some (.ref a), some (.ref fa), some (.int (tx.length : Nat)), some (.int (at_ : Nat)), some (.ref Dg), some (.ref Do), some (.int (g : Nat)), some (.ref tb), some (.int (k : Nat))],
      ⟨_, 0, (bestF (gapsOf es) tx at_).lk, zs, tb, rfl, hat, ?_, by omega, hzk5, (Kq.of sA).trans hK5, hK5, hA5, htb, rfl⟩, ?_⟩
    · unfold gapF
      split
      · rename_i h0
        rw [gapGo_go (by omega) h0]
        simp
      · rename_i h0
        rw [gapGo_end h0]
        simp
    rintro m σ H' ⟨g, k, zs, tb, rfl, hg, hgo, hz, hzk, hKH, hK4, hA', htb, rfl⟩
    have hbl := bestF_le (es := gapsOf es) hg
    refine .inr ⟨_, _, SqT.of htb, atI_nat (j := 1) rfl, ?_⟩
    show if decide ((0 : Int) < ((bestF (gapsOf es) tx (at_ + g)).m : Nat)) = true then _ else _
    refine ite2 (fun h => ?_) (fun h => ?_)
    · have h0 : 0 < (bestF (gapsOf es) tx (at_ + g)).m := by have := of_decide_eq_true h; omega
      rw [if_pos h0] at hgo
      refine ⟨_, fun _ _ h => h, ?_⟩
      refine .inr ⟨_, _, SqT.of htb, atI_nat (j := 1) rfl, ?_⟩
      generalize hm : (bestF (gapsOf es) tx (at_ + g)).m = m at h0 hgo hbl htb
      have e1 : ((g : Nat) : Int) + (m : Nat) = ((g + m : Nat) : Int) := by omega
      have hzz : (g + m + 1) * C = g * C + m * C + C := by rw [Nat.add_mul, Nat.add_mul]; omega
      have hzg : (g + 1) * C = g * C + C := by rw [Nat.add_mul]; omega
      have hCm : C ≤ m * C := Nat.le_mul_of_pos_left C h0
      have hgt : (g + m) * C ≤ tx.length * C := Nat.mul_le_mul_right C (by omega)
      have hgm : (g + m) * C = g * C + m * C := Nat.add_mul ..
      refine ⟨Dg, fa, la, H0, ysg, gapsOf es, tx, as ++ zs, at_ + (g + m), by rw [show ((at_ + (g + m) : Nat) : Int) = ((at_ : Nat) : Int) + (((g : Nat) : Int) + (m : Nat)) by omega], hK4.seq hgl (SqL.of hg4), hgl, hdg, hO.kq hKH, okg, by omega, htx, by rw [List.length_append]; omega, hA', fun H6 t6 zs6 hK6 hA6 hz6 hzk6 ht60 ht6 => ?_⟩
      refine .inr ⟨_, _, SqT.of ht6, atI_nat (j := 2) rfl, ?_⟩
      have hmx : max ((k : Nat) : Int) ((((g : Nat) : Int) + (m : Nat)) + (((bestF (gapsOf es) tx (at_ + (g + m))).lk : Nat) : Int)) = ((max k (g + m + (bestF (gapsOf es) tx (at_ + (g + m))).lk) : Nat) : Int) := by omega
      refine ⟨tx.length - (at_ + (g + m)), by omega, g + m, max k (g + m + (bestF (gapsOf es) tx (at_ + (g + m))).lk), zs ++ zs6, t6, rfl, by omega, ?_, ?_, fun z hz => ?_, hKH.trans hK6, hK4.trans hK6, by rw [← List.append_assoc]; exact hA6, ht6, ?_⟩
      · rw [hgo]
        split
        · rename_i h1
          rw [gapGo_go (by omega) h1]
        · rename_i h1
          rw [gapGo_end h1]
      · rw [List.length_append]; omega
      · rcases List.mem_append.mp hz with y | y
        · have := hzk z y
          omega
        · have := hzk6 z y
          omega
      · rw [← hmx, ← e1]
        rfl
    · have h0 : ¬ 0 < (bestF (gapsOf es) tx (at_ + g)).m := fun z => h (decide_eq_true (by omega))
      rw [if_neg h0] at hgo
      have hzg : (g + 1) * C = g * C + C := by rw [Nat.add_mul]; omega
      have hzg2 : (g + 2) * C = g * C + C + C := by rw [Nat.add_mul]; omega
      have hgt : g * C ≤ tx.length * C := Nat.mul_le_mul_right C (by omega)
      show if (false ^^ decide (((at_ : Nat) : Int) + (g : Nat) = (tx.length : Nat))) = true then _ else _
      rw [Bool.false_xor]
      refine ite2 (fun h1 => ?_) (fun h1 => ?_)
      · have h1' : at_ + g = tx.length := by have := of_decide_eq_true h1; omega
        have ew : wordF es tx at_ = ⟨kEnd, g, 0, k⟩ := by unfold wordF; rw [hgo]; exact if_pos h1'
        refine ⟨(show 4 ≤ sizeLine by decide), fun t ht => ?_⟩
        refine q _ t zs (hKH.trans (Kq.of (same_new ht))) (AA.same hA' (same_new ht)) (by rw [ew]; dsimp only; omega) (by rw [ew]; exact hzk) (AA.free hA' hKH ht) ?_
        rw [upd_same, ew]
        rfl
      · have h1' : ¬ at_ + g = tx.length := fun z => h1 (decide_eq_true (by omega))
        have hbr := bestF_le (es := restOf es) (l := tx) (pl := at_ + g) hg
        refine ⟨Do, fa, la, H0, yso, restOf es, tx, as ++ zs, at_ + g, by rw [show ((at_ + g : Nat) : Int) = ((at_ : Nat) : Int) + (g : Nat) by omega], hK4.seq hol (SqL.of ho4), hol, hdo, hO.kq hKH, okr, hg, htx, by rw [List.length_append]; omega, hA', fun H6 t6 zs6 hK6 hA6 hz6 hzk6 ht60 ht6 => ?_⟩
        refine .inr ⟨_, _, SqT.of ht6, atI_nat (j := 2) rfl, ?_⟩
        have hmx : max ((k : Nat) : Int) (((g : Nat) : Int) + (((bestF (restOf es) tx (at_ + g)).lk : Nat) : Int)) = ((max k (g + (bestF (restOf es) tx (at_ + g)).lk) : Nat) : Int) := by omega
        have ew : wordF es tx at_ = ⟨if (bestF (restOf es) tx (at_ + g)).m = 0 then kStray else (bestF (restOf es) tx (at_ + g)).k, g, max 1 (bestF (restOf es) tx (at_ + g)).m, max k (g + (bestF (restOf es) tx (at_ + g)).lk)⟩ := by unfold wordF; rw [hgo]; exact if_neg h1'
        have fin : ∀ (G : Hp) (t : Addr), H6 t = none → G = upd H6 t (.tup [.str (S (wordF es tx at_).k), .int ((wordF es tx at_).g : Nat), .int ((wordF es tx at_).n : Nat), .int ((wordF es tx at_).lk : Nat)]) → Q (.ref t) G := fun G t ht eG => by
          subst eG
          refine q _ t (zs ++ zs6) ((hKH.trans hK6).trans (Kq.of (same_new ht))) (by rw [← List.append_assoc]; exact AA.same hA6 (same_new ht)) ?_ ?_ (AA.free hA6 (hKH.trans hK6) ht) upd_same
          · rw [List.length_append, ew]; dsimp only; omega
          · rw [ew]
            intro z hz
            dsimp only
            rcases List.mem_append.mp hz with y | y
            · have := hzk z y
              omega
            · have := hzk6 z y
              omega
        refine .inr ⟨_, _, SqT.of ht6, atI_nat (j := 1) rfl, ?_⟩
        show if (false ^^ decide (((bestF (restOf es) tx (at_ + g)).m : Int) = 0)) = true then _ else _
        rw [Bool.false_xor]
        refine ite2 (fun h2 => ?_) (fun h2 => ?_)
        · have h2' : (bestF (restOf es) tx (at_ + g)).m = 0 := by have := of_decide_eq_true h2; omega
          refine ⟨(show 4 ≤ sizeLine by decide), fun t ht => fin _ t ht ?_⟩
          rw [ew, ← hmx, if_pos h2', h2']
          rfl
        · have h2' : ¬ (bestF (restOf es) tx (at_ + g)).m = 0 := fun z => h2 (decide_eq_true (by omega))
          refine .inr ⟨_, _, SqT.of ht6, atI_nat (j := 0) rfl, ?_⟩
          refine .inr ⟨_, _, SqT.of ht6, atI_nat (j := 1) rfl, ?_⟩
          refine ⟨(show 4 ≤ sizeLine by decide), fun t ht => fin _ t ht ?_⟩
          rw [ew, ← hmx, if_neg h2', show max 1 (bestF (restOf es) tx (at_ + g)).m = (bestF (restOf es) tx (at_ + g)).m by omega]
end
section
variable {P : Program} {w : World} {K : PySem.W.Frag} {mg : Str → Option Value} {base : Heap} {AK : AKt}
def spSize (K : PySem.W.Frag) : Sp := fun vs H Q _ => ∃ (t : Addr) (wd : Wd), vs = [.ref t] ∧ SqT K H t wd.vs ∧ Q (.int ((wd.g : Nat) + (wd.n : Nat) : Int)) H
abbrev st_size_of : Stmt := top 29
theorem sc_size_of : FnScope ["word"] ["word"] (defScope st_size_of) := ⟨rfl, rfl, rfl, by decide +kernel, rfl, by decide +kernel, by decide +kernel⟩
theorem def_size (R : Raw K mg "size_of" st_size_of ["word"]) : Def P w K mg base 1 "size_of" ["word"] (spSize K) := by
  refine R.defJ sc_size_of (fun vs H Q E h => ?_) (fun f cdv A outer s H vs Q E hr h => ?_)
  · obtain ⟨t, wd, rfl, _⟩ := h
    rfl
  · obtain ⟨t, wd, rfl, hT, q⟩ := h
    have sc := sc_size_of
    have hu := hr.units
    refine ⟨_, (jss_one (js_ret (j_op (o_add (K := K)) (j_ix (o_ix hu (K := K) (w := w)) (jn 0) j_int) (j_ix (o_ix hu (K := K) (w := w)) (jn 0) j_int)))), ?_⟩
    refine .inr ⟨_, _, hT, atI_nat (j := 1) rfl, ?_⟩
    refine .inr ⟨_, _, hT, atI_nat (j := 2) rfl, ?_⟩
    exact q
def KnownOk (K : PySem.W.Frag) (H : Hp) (kvs : List (Key × V)) (es : List Ent) (tx : List Nat) : Prop := ∀ p : Nat, p ≤ tx.length → ∀ v, valV kvs (Sum.inl (p : Int)) = some v → ∃ t, v = .ref t ∧ SqT K H t (wordF es tx p).vs
def MayAsk (kvs : List (Key × V)) (es : List Ent) (tx : List Nat) (k : Nat) : Prop := ∃ p, Reach es tx p ∧ valV kvs (Sum.inl (p : Int)) = none ∧ p ≤ k ∧ k < p + (wordF es tx p).lk ∧ k < tx.length
def spWith (K : PySem.W.Frag) (AK : AKt) : Sp := fun vs H Q _ => ∃ (a f d : Addr) (la : Option Addr) (H0 : Hp) (xs : List V) (es : List Ent) (tx as : List Nat) (kvs : List (Key × V)), vs = [.ref a, .ref f, .int (tx.length : Nat), .ref d] ∧ SqL K H0 a xs ∧ DatVs K H0 xs (es.map Ent.dat) ∧ Old la H0 H ∧ (∀ e ∈ es, e.Ok) ∧ es.length ≤ 1000 ∧
  tx.length ≤ 3000 ∧ H d = some (.dK kvs) ∧ KnownOk K H kvs es tx ∧ as.length + (4 * tx.length + 6) * costB es tx.length ≤ 15800000 ∧ AK H f la tx as ∧
  ∀ H' r ws zs, Kq la H H' → AK H' f la tx (as ++ zs) → (∀ k ∈ zs, MayAsk kvs es tx k) → H r = none → H' r = some (.lst ws) → DatVs K H' ws ((wordsGo es tx 0).map Wd.dat) → Q (.ref r) H'
abbrev st_words_with : Stmt := top 28
theorem sc_words_with : FnScope ["book", "ask", "size", "known", "words", "place", "ended", "word"] ["book", "ask", "size", "known"] (defScope st_words_with) := ⟨rfl, rfl, rfl, by decide +kernel, rfl, by decide +kernel, by decide +kernel⟩
theorem def_with (R : Raw K mg "words_with" st_words_with ["book", "ask", "size", "known"]) (T : Txt K w mg) (AA : Asker AK) (D_word_at : Def P w K mg base 5 "word_at" ["book", "ask", "size", "at"] (spWord K AK)) (D_size_of : Def P w K mg base 1 "size_of" ["word"] (spSize K)) :
    Def P w K mg base 6 "words_with" ["book", "ask", "size", "known"] (spWith K AK) := by
  refine R.defJ sc_words_with (fun vs H Q E h => ?_) (fun f cdv A outer s H vs Q E hr h => ?_)
  · obtain ⟨a, f, d, la, H0, xs, es, tx, as, kvs, rfl, _⟩ := h
    rfl
  · obtain ⟨a, fa, d, la, H0, xs, es, tx, as, kvs, rfl, hS0, hD0, hO, hok, hes, htx, hd, hkn, hc, hA, q⟩ := h
    have sc := sc_words_with
    have hu := hr.units
    have hb := big
    have hke : ∀ e ∈ es, e.k ≠ kEnd := fun e he => (hok e he).ke
    generalize hC : costB es tx.length = C at hc
    refine ⟨_, (jss_cons (js_set (i := 4) sc.nd rfl (Or.inl rfl) (j_lst ja_nil))
    (jss_cons (js_set (i := 5) sc.nd rfl (Or.inl rfl) j_int)
    (jss_cons (js_set (i := 6) sc.nd rfl (Or.inl rfl) j_bl)
    (jss_cons (js_while PassesOwn.never (jt_not (jt_val (jn 6)))
    (jss_cons (js_set (i := 7) sc.nd rfl (Or.inl rfl) (j_dget1 hu (jn 3) (jn 5)))
    (jss_cons (js_if (jt_cmp o_is (jn 7) j_non)
    (jss_one (js_set (i := 7) sc.nd rfl (Or.inl rfl) (j_def D_word_at (hr.mono (by decide)) rfl (ja_cons (jn 0) (ja_cons (jn 1) (ja_cons (jn 2) (ja_cons (jn 5) ja_nil)))))))
    jss_nil)
    (jss_cons (js_expr (j_bm (K := K) PySem.F.plainAttrs_list PySem.F.slot_list_append PySem.F.type_list_append m_append (jn 4) (ja_cons (jn 7) ja_nil)))
    (jss_cons (js_aug (i := 5) sc.nd rfl (Or.inl rfl) (j_def D_size_of (hr.mono (by decide)) rfl (ja_cons (jn 7) ja_nil)) o_iadd)
    (jss_one (js_set (i := 6) sc.nd rfl (Or.inl rfl) (j_cmp (o_eq hu (K := K)) (j_ix (o_ix hu (K := K) (w := w)) (jn 7) j_int) (j_gstr rfl T.g_END)))))))))
    (jss_one (js_ret (jn 4))))))), ?_⟩
    refine ⟨(show 0 ≤ sizeLine by decide), fun lw hlw => ?_⟩
    have s1 : Same H (upd H lw (.lst [])) := same_new hlw
    have h1w : upd H lw (.lst []) lw = some (.lst []) := upd_same
    generalize upd H lw (.lst []) = H1 at s1 h1w ⊢
    have dla : some d ≠ la := fun z => by
      rw [← z] at hA
      obtain ⟨zs, e⟩ := AA.lst hA
      rw [hd] at e; cases e
    have wla : some lw ≠ la := fun z => by
      rw [← z] at hA
      obtain ⟨zs, e⟩ := AA.lst hA
      rw [hlw] at e; cases e
    have dlw : d ≠ lw := ne_of_none hd hlw
    refine ⟨fun m σ H' => ∃ (en : Bool) (p : Nat) (ws : List V) (done : List Wd) (zs : List Nat) (v7 : Option V), m = (if en = true then 0 else tx.length - p + 1) ∧ p ≤ tx.length ∧ (en = false → Reach es tx p ∧ wordsGo es tx 0 = done ++ wordsGo es tx p) ∧ (en = true → wordsGo es tx 0 = done) ∧
        done.length ≤ p + (if en = true then 1 else 0) ∧ zs.length ≤ (p + 2 * done.length) * C ∧ (∀ k ∈ zs, MayAsk kvs es tx k) ∧ Kq la H H' ∧ AK H' fa la tx (as ++ zs) ∧ H' lw = some (.lst ws) ∧ DatVs K H' ws (done.map Wd.dat) ∧
        σ = [some (.ref a), some (.ref fa), some (.int (tx.length : Nat)), some (.ref d), some (.ref lw), some (.int (p : Nat)), some (.bl en), v7],
      ⟨_, false, 0, [], [], [], none, rfl, Nat.zero_le _, fun _ => ⟨.zero, rfl⟩, fun z => (nomatch z), by simp, by simp, by simp, Kq.of s1, by rw [List.append_nil]; exact AA.same hA s1, h1w, .nil, rfl⟩, ?_⟩
    rintro m σ H' ⟨en, p, ws, done, zs, v7, rfl, hp, hf, ht, hdl, hz, hzk, hK, hA', hw', hD', rfl⟩
    cases en with
    | true =>
      have := ht rfl
      rw [← this] at hD'
      exact q _ lw ws zs hK hA' hzk hlw hw' hD'
    | false =>
      obtain ⟨hre, hgo⟩ := hf rfl
      refine ⟨_, fun _ _ h => h, ?_⟩
      have hd' := hK _ _ dla hd
      have hwl := wordF_le (es := es) hp
      have hkend := wordF_kend (l := tx) (p := p) hke
      have hdl' : done.length ≤ p := by simpa using hdl
      refine ⟨IsD.kd hd', _, DGet.ik hd' rfl, ?_⟩
      refine seq_of (fun σ1 G => ∃ (t : Addr) (zs' : List Nat), σ1 = [some (.ref a), some (.ref fa), some (.int (tx.length : Nat)), some (.ref d), some (.ref lw), some (.int (p : Nat)), some (.bl false), some (.ref t)] ∧ zs'.length ≤ (p + 2 * done.length) * C + ((wordF es tx p).g + 2) * C ∧ (∀ k ∈ zs', MayAsk kvs es tx k) ∧ Kq la H G ∧ AK G fa la tx (as ++ zs') ∧ G lw = some (.lst ws) ∧ DatVs K G ws (done.map Wd.dat) ∧ SqT K G t (wordF es tx p).vs) ?_ ?_
      · rintro σ1 G ⟨t, zs', rfl, hz', hzk', hKG, hAG, hwG, hDG, hT⟩
        have hwsl : ws.length = done.length := by have := hDG.length; rw [List.length_map] at this; exact this
        refine ⟨.inl ⟨rfl, _, SqL.of hwG⟩, _, hwG, by omega, ?_⟩
        have hKu : Kq la H (upd G lw (.lst (ws ++ [.ref t]))) := fun b u n e => by rw [upd_ne fun z => by rw [z, hlw] at e; cases e]; exact hKG b u n e
        have hTu : ∀ t' xs', SqT K G t' xs' → SqT K (upd G lw (.lst (ws ++ [.ref t]))) t' xs' := fun t' xs' h => seqT_upd hwG h
        have hAu : AK (upd G lw (.lst (ws ++ [.ref t]))) fa la tx (as ++ zs') := AA.upd hAG hwG wla
        have hwu : upd G lw (.lst (ws ++ [.ref t])) lw = some (.lst (ws ++ [.ref t])) := upd_same
        have hDu : DatVs K (upd G lw (.lst (ws ++ [.ref t]))) (ws ++ [.ref t]) ((done ++ [wordF es tx p]).map Wd.dat) := by
          rw [List.map_append]
          exact DatVs.snoc (wd_dat (hTu _ _ hT)) (wds_T hTu hDG)
        generalize upd G lw (.lst (ws ++ [.ref t])) = G1 at hKu hTu hAu hwu hDu ⊢
        refine ⟨t, wordF es tx p, rfl, hTu _ _ hT, ?_⟩
        refine .inr ⟨_, _, hTu _ _ hT, atI_nat (j := 0) rfl, ?_⟩
        have ep : ((p : Nat) : Int) + (((wordF es tx p).g : Nat) + ((wordF es tx p).n : Nat) : Int) = ((p + (wordF es tx p).g + (wordF es tx p).n : Nat) : Int) := by omega
        have hcc : (p + 2 * done.length) * C + ((wordF es tx p).g + 2) * C = (p + (wordF es tx p).g + 2 * (done.length + 1)) * C := by rw [← Nat.add_mul]; congr 1; omega
        have hmono : (p + (wordF es tx p).g + 2 * (done.length + 1)) * C ≤ (p + (wordF es tx p).g + (wordF es tx p).n + 2 * (done.length + 1)) * C := Nat.mul_le_mul_right C (by omega)
        by_cases hn : (wordF es tx p).n = 0
        · refine ⟨0, ?_, true, p + (wordF es tx p).g + (wordF es tx p).n, ws ++ [.ref t], done ++ [wordF es tx p], zs', some (.ref t), rfl, hwl.1, fun z => (nomatch z), fun _ => ?_, ?_, ?_, hzk', hKu, hAu, hwu, hDu, ?_⟩
          · simp
          · rw [hgo, wordsGo_end hn]
          · rw [List.length_append]; simp; omega
          · rw [List.length_append]; simp only [List.length_cons, List.length_nil, Nat.zero_add]; omega
          · have ek : (wordF es tx p).k = kEnd := hkend.mpr hn
            rw [← ep, ek]
            rfl
        · refine ⟨tx.length - (p + (wordF es tx p).g + (wordF es tx p).n) + 1, ?_, false, p + (wordF es tx p).g + (wordF es tx p).n, ws ++ [.ref t], done ++ [wordF es tx p], zs', some (.ref t), rfl, hwl.1, fun _ => ⟨.step hre hn, ?_⟩, fun z => (nomatch z), ?_, ?_, hzk', hKu, hAu, hwu, hDu, ?_⟩
          · simp; omega
          · rw [hgo, wordsGo_go hp hn]; simp
          · rw [List.length_append]; simp; omega
          · rw [List.length_append]; simp only [List.length_cons, List.length_nil, Nat.zero_add]; omega
          · have ek : ¬ S (wordF es tx p).k = ("end" : Str) := fun z => hn (hkend.mp (S_inj (b := kEnd) z))
            have ed : (false ^^ decide (S (wordF es tx p).k = ("end" : Str))) = false := by rw [decide_eq_false ek]; rfl
            rw [← ep]
            exact congrArg (fun b : Bool => [some (V.ref a), some (V.ref fa), some (V.int _), some (V.ref d), some (V.ref lw), some (V.int _), some (V.bl b), some (V.ref t)]) ed
      · intro hR
        cases hv : valV kvs (Sum.inl ((p : Nat) : Int)) with
        | none =>
          have hcz : as.length + zs.length + (tx.length + 2) * C ≤ 15800000 := by
            have h1 : (p + 2 * done.length) * C ≤ (3 * tx.length) * C := Nat.mul_le_mul_right C (by omega)
            have h2 : (4 * tx.length + 6) * C = (3 * tx.length) * C + (tx.length + 2) * C + 4 * C := by rw [← Nat.add_mul, ← Nat.add_mul]; congr 1; omega
            omega
          refine ⟨a, fa, la, H0, xs, es, tx, as ++ zs, p, rfl, hS0, hD0, hO.kq hK, hok, hes, hp, htx, by rw [hC, List.length_append]; exact hcz, hA', fun G t zs1 hK1 hA1 hz1 hzk1 ht0 htG => ?_⟩
          refine hR _ _ ⟨t, zs ++ zs1, rfl, ?_, fun k hk => ?_, hK.trans hK1, by rw [← List.append_assoc]; exact hA1, hK1 _ _ wla hw', wds_T (fun t' xs' h => AA.seqT hA' hK1 h) hD', SqT.of htG⟩
          · rw [hC] at hz1
            rw [List.length_append]
            omega
          · rcases List.mem_append.mp hk with z | z
            · exact hzk k z
            · have := hzk1 k z
              exact ⟨p, hre, hv, this.1, this.2.1, this.2.2⟩
        | some v =>
          obtain ⟨t, rfl, hT⟩ := hkn p hp v hv
          exact hR _ _ ⟨t, zs, rfl, by omega, hzk, hK, hA', hw', hD', AA.seqT hA hK hT⟩

def spWords (K : PySem.W.Frag) (AK : AKt) : Sp := fun vs H Q _ => ∃ (a f : Addr) (la : Option Addr) (H0 : Hp) (xs : List V) (es : List Ent) (tx as : List Nat), vs = [.ref a, .ref f, .int (tx.length : Nat)] ∧ SqL K H0 a xs ∧ DatVs K H0 xs (es.map Ent.dat) ∧ Old la H0 H ∧ (∀ e ∈ es, e.Ok) ∧ es.length ≤ 1000 ∧
  tx.length ≤ 3000 ∧ as.length + (4 * tx.length + 6) * costB es tx.length ≤ 15800000 ∧ AK H f la tx as ∧
  ∀ H' r ws zs, Kq la H H' → AK H' f la tx (as ++ zs) → (∀ k ∈ zs, k < tx.length) → H r = none → H' r = some (.lst ws) → DatVs K H' ws ((wordsGo es tx 0).map Wd.dat) → Q (.ref r) H'
abbrev st_words_of : Stmt := top 27
theorem sc_words_of : FnScope ["book", "ask", "size"] ["book", "ask", "size"] (defScope st_words_of) := ⟨rfl, rfl, rfl, by decide +kernel, rfl, by decide +kernel, by decide +kernel⟩
theorem def_words (R : Raw K mg "words_of" st_words_of ["book", "ask", "size"]) (T : Txt K w mg) (AA : Asker AK) (D_words_with : Def P w K mg base 6 "words_with" ["book", "ask", "size", "known"] (spWith K AK)) :
    Def P w K mg base 7 "words_of" ["book", "ask", "size"] (spWords K AK) := by
  refine R.defJ sc_words_of (fun vs H Q E h => ?_) (fun f cdv A outer s H vs Q E hr h => ?_)
  · obtain ⟨a, f, la, H0, xs, es, tx, as, rfl, _⟩ := h
    rfl
  · obtain ⟨a, fa, la, H0, xs, es, tx, as, rfl, hS0, hD0, hO, hok, hes, htx, hc, hA, q⟩ := h
    have sc := sc_words_of
    have hu := hr.units
    refine ⟨_, (jss_one (js_ret (j_def D_words_with (hr.mono (by decide)) rfl (ja_cons (jn 0) (ja_cons (jn 1) (ja_cons (jn 2) (ja_cons j_dnewK ja_nil))))))), ?_⟩
    refine fun d hd => ?_
    have s1 : Same H (upd H d (.dK [])) := same_new hd
    have hd1 : upd H d (.dK []) d = some (.dK []) := upd_same
    generalize upd H d (.dK []) = H1 at s1 hd1 ⊢
    refine ⟨a, fa, d, la, H0, xs, es, tx, as, [], rfl, hS0, hD0, hO.same s1, hok, hes, htx, hd1, (fun p _ v z => nomatch (show (none : Option V) = some v from z)), hc, AA.same hA s1, fun H' r ws zs hK hA' hz hr0 hr' hD' => ?_⟩
    refine q H' r ws zs ((Kq.of s1).trans hK) hA' (fun k hk => ?_) ?_ hr' hD'
    · obtain ⟨p, _, _, _, _, h⟩ := hz k hk
      exact h
    · cases z : H r with
      | none => rfl
      | some u => rw [s1 _ _ z] at hr0; cases hr0
end
section
variable {P : Program} {w : World} {K : PySem.W.Frag} {mg : Str → Option Value} {base : Heap}
def spCell (K : PySem.W.Frag) : Sp := fun vs H Q _ => ∃ (a : Addr) (ns : List Int) (k : Nat), vs = [.ref a, .int k] ∧ SqL K H a (ns.map V.int) ∧ Q (.int (ns.getD k 0)) H
abbrev st__law_cell_at : Stmt := top 34
theorem sc__law_cell_at : FnScope ["_law_script", "_law_k"] ["_law_script", "_law_k"] (defScope st__law_cell_at) := ⟨rfl, rfl, rfl, by decide +kernel, rfl, by decide +kernel, by decide +kernel⟩
theorem def_cell (R : Raw K mg "_law_cell_at" st__law_cell_at ["_law_script", "_law_k"]) (T : Txt K w mg) : Def P w K mg base 1 "_law_cell_at" ["_law_script", "_law_k"] (spCell K) := by
  refine R.defJ sc__law_cell_at (fun vs H Q E h => ?_) (fun f cdv A outer s H vs Q E hr h => ?_)
  · obtain ⟨a, ns, k, rfl, _⟩ := h
    rfl
  · obtain ⟨a, ns, k, rfl, hS, q⟩ := h
    have sc := sc__law_cell_at
    have hu := hr.units
    refine ⟨_, (jss_cons (js_if (jt_cmp o_lt (jn 1) (j_callB (c_len (K := K)) rfl T.n_len PySem.boot_len (ja_cons (jn 0) ja_nil)))
    (jss_one (js_ret (j_ix (o_ix hu (K := K) (w := w)) (jn 0) (jn 1))))
    jss_nil)
    (jss_one (js_ret j_int))), ?_⟩
    refine ⟨_, .inl hS, ?_⟩
    rw [List.length_map]
    show if decide ((k : Int) < (ns.length : Int)) = true then _ else _
    refine ite2 (fun h => ?_) (fun h => ?_)
    · have hk : k < ns.length := by
        have := of_decide_eq_true h
        omega
      refine .inl ⟨_, .int (ns.getD k 0), hS, atI_nat ?_, q⟩
      rw [List.getElem?_map, List.getElem?_eq_getElem hk]
      simp [List.getD, hk]
    · have hk : ¬ k < ns.length := fun z => h (decide_eq_true (by omega))
      have e : ns.getD k 0 = 0 := by simp [List.getD, List.getElem?_eq_none (by omega : ns.length ≤ k)]
      rw [e] at q
      exact q
def spSign : Sp := fun vs H Q _ => ∃ (c : Int), vs = [.int c] ∧ ∀ k, okSign k → Q (.str (S [k])) H
abbrev st__law_sign : Stmt := top 35
theorem sc__law_sign : FnScope ["_law_cell", "_law_some"] ["_law_cell"] (defScope st__law_sign) := ⟨rfl, rfl, rfl, by decide +kernel, rfl, by decide +kernel, by decide +kernel⟩
theorem def_sign (R : Raw K mg "_law_sign" st__law_sign ["_law_cell"]) : Def P w K mg base 1 "_law_sign" ["_law_cell"] spSign := by
  refine R.defJ sc__law_sign (fun vs H Q E h => ?_) (fun f cdv A outer s H vs Q E hr h => ?_)
  · obtain ⟨c, rfl, _⟩ := h
    rfl
  · obtain ⟨c, rfl, q⟩ := h
    have sc := sc__law_sign
    have hu := hr.units
    refine ⟨_, (jss_cons (js_set (i := 1) sc.nd rfl (Or.inl rfl) j_str)
    (jss_cons (js_set (i := 1) sc.nd rfl (Or.inl rfl) (j_op (o_add (K := K)) (jn 1) j_str))
    (jss_one (js_ret (j_ix (o_ix hu (K := K) (w := w)) (jn 1) (j_op o_mod (jn 0) j_int)))))), ?_⟩
    refine ⟨by decide +kernel, by decide, by decide +kernel, ?_⟩
    exact all95 (by decide +kernel) (by decide +kernel) c q
end
end K15

set_option Elab.async false
set_option linter.all false
set_option maxRecDepth 100000
set_option maxHeartbeats 4000000


namespace K15
open PySem PySem.Spec PyProof.Rows L2 Rg
section
variable {P : Program} {w : World} {K : PySem.W.Frag} {mg : Str → Option Value} {base : Heap} {AK : AKt}
def spCheck : Sp := fun vs H Q _ => ∃ o n a g c : Nat, vs = [.int (o : Nat), .int (n : Nat), .int (a : Nat), .int (g : Nat), .int (c : Nat)] ∧ a + g ≤ o ∧ o - g + c = n ∧ Q .non H
abbrev st_check_change : Stmt := top 14
theorem sc_check_change : FnScope ["many_old", "many_new", "at", "gone", "come"] ["many_old", "many_new", "at", "gone", "come"] (defScope st_check_change) := ⟨rfl, rfl, rfl, by decide +kernel, rfl, by decide +kernel, by decide +kernel⟩
theorem def_check (R : Raw K mg "check_change" st_check_change ["many_old", "many_new", "at", "gone", "come"]) : Def P w K mg base 1 "check_change" ["many_old", "many_new", "at", "gone", "come"] spCheck := by
  refine R.defJ sc_check_change (fun vs H Q E h => ?_) (fun f cdv A outer s H vs Q E hr h => ?_)
  · obtain ⟨o, n, a, g, c, rfl, _⟩ := h
    rfl
  · obtain ⟨o, n, a, g, c, rfl, h1, h2, q⟩ := h
    have sc := sc_check_change
    have hu := hr.units
    refine ⟨_, (jss_cons (js_if (jw_t (jw_or (jt_cmp o_lt (jn 2) j_int) (jw_or (jt_cmp o_lt (jn 3) j_int) (jw_or1 (jt_cmp o_lt (jn 4) j_int)))))
    (jss_one js_never)
    jss_nil)
    (jss_cons (js_if (jt_cmp o_gt (j_op (o_add (K := K)) (jn 2) (jn 3)) (jn 0))
    (jss_one js_never)
    jss_nil)
    (jss_one (js_if (jt_cmp (o_ne hu (K := K)) (j_op (o_add (K := K)) (j_op o_sub (jn 0) (jn 3)) (jn 4)) (jn 1))
    (jss_one js_never)
    jss_nil)))), ?_⟩
    show if decide (((o : Nat) : Int) < ((a : Nat) : Int) + (g : Nat)) = true then _ else _
    refine (if_neg (by intro y; have := of_decide_eq_true y; omega)).mpr ?_
    show if (true ^^ decide (((o : Nat) : Int) - (g : Nat) + (c : Nat) = (n : Nat))) = true then _ else _
    rw [decide_eq_true (show ((o : Nat) : Int) - (g : Nat) + (c : Nat) = (n : Nat) by omega)]
    exact q
def spPlaces (K : PySem.W.Frag) : Sp := fun vs H Q _ => ∃ (r : Addr) (xs : List V) (W : List Wd), vs = [.ref r] ∧ SqL K H r xs ∧ DatVs K H xs (W.map Wd.dat) ∧ W.length ≤ 5000 ∧ ∀ H' p, Same H H' → H p = none → H' p = some (.lst ((psum W 0).map fun k : Nat => V.int (k : Nat))) → Q (.ref p) H'
abbrev st_places_of : Stmt := top 30
theorem sc_places_of : FnScope ["words", "places", "word"] ["words"] (defScope st_places_of) := ⟨rfl, rfl, rfl, by decide +kernel, rfl, by decide +kernel, by decide +kernel⟩
theorem def_places (R : Raw K mg "places_of" st_places_of ["words"]) (D_size_of : Def P w K mg base 1 "size_of" ["word"] (spSize K)) : Def P w K mg base 2 "places_of" ["words"] (spPlaces K) := by
  refine R.defJ sc_places_of (fun vs H Q E h => ?_) (fun f cdv A outer s H vs Q E hr h => ?_)
  · obtain ⟨r, xs, W, rfl, _⟩ := h
    rfl
  · obtain ⟨r, xs, W, rfl, hS, hD, hl, q⟩ := h
    have sc := sc_places_of
    have hu := hr.units
    have hb := big
    have hlen : xs.length = W.length := by have := hD.length; rw [List.length_map] at this; exact this
    refine ⟨_, (jss_cons (js_set (i := 1) sc.nd rfl (Or.inl rfl) (j_lst (ja_cons j_int ja_nil)))
    (jss_cons (js_for PassesOwn.never rfl (ji_any (K := K) (jn 0)) (jg_name (i := 2) sc.nd rfl (Or.inl rfl))
    (jss_one (js_expr (j_bm (K := K) PySem.F.plainAttrs_list PySem.F.slot_list_append PySem.F.type_list_append m_append (jn 1) (ja_cons (j_op (o_add (K := K)) (j_ix (o_ix hu (K := K) (w := w)) (jn 1) (j_neg j_int)) (j_def D_size_of (hr.mono (by decide)) rfl (ja_cons (jn 2) ja_nil))) ja_nil)))))
    (jss_one (js_ret (jn 1))))), ?_⟩
    refine ⟨(show 1 ≤ sizeLine by decide), fun p hp => ?_⟩
    have s1 : Same H (upd H p (.lst [.int 0])) := same_new hp
    have h1 : upd H p (.lst [.int 0]) p = some (.lst [.int 0]) := upd_same
    generalize upd H p (.lst [.int 0]) = H1 at s1 h1 ⊢
    refine .inl ⟨⟨_, s1.seq hS⟩, for_list (K := K) (a := r) (xs := xs) (fun i σ H' => ∃ v2 : Option V, Same H H' ∧ H' p = some (.lst ((psum (W.take i) 0).map fun k : Nat => V.int (k : Nat))) ∧ σ = [some (.ref r), some (.ref p), v2])
      ⟨none, s1, h1, rfl⟩ (fun i σ H' _ h => by obtain ⟨_, s, _⟩ := h; exact s.seq hS) ?_ ?_⟩
    · rintro i x σ H' hi ⟨v2, s2, hp2, rfl⟩
      obtain ⟨d, hd, hv⟩ := hD.get hi
      rw [List.getElem?_map] at hd
      cases ew : W[i]? with
      | none => rw [ew] at hd; cases hd
      | some wd =>
        rw [ew] at hd
        have ed : wd.dat = d := Option.some.inj hd
        subst ed
        obtain ⟨t, rfl, hT⟩ := dat_wd (hv.same s2)
        have hiW := (List.getElem?_eq_some_iff.mp ew).1
        have etk : W.take (i + 1) = W.take i ++ [wd] := by rw [List.take_add_one, ew]; rfl
        have hpl := psum_len (W.take i) 0
        have htl : (W.take i).length ≤ 5000 := by rw [List.length_take]; omega
        refine ⟨.inl ⟨rfl, _, SqL.of hp2⟩, .inl ⟨_, _, SqL.of hp2, ints_last (psum_last _ _), ?_⟩⟩
        refine ⟨t, wd, rfl, hT, ?_⟩
        refine ⟨_, hp2, by rw [List.length_map]; omega, ?_⟩
        refine ⟨_, fun b u e => ?_, ?_, rfl⟩
        · rw [upd_ne fun z => by rw [z, hp] at e; cases e]; exact s2 b u e
        · rw [upd_same, etk, psum_snoc, List.map_append]
          congr 3
          show [V.int (((endp (W.take i) 0 : Nat) : Int) + ((wd.g : Nat) + (wd.n : Nat) : Int))] = [V.int ((endp (W.take i) 0 + wd.g + wd.n : Nat) : Int)]
          rw [show ((endp (W.take i) 0 + wd.g + wd.n : Nat) : Int) = ((endp (W.take i) 0 : Nat) : Int) + ((wd.g : Nat) + (wd.n : Nat) : Int) by omega]
    · rintro σ H' ⟨v2, s2, hp2, rfl⟩
      rw [hlen, List.take_length] at hp2
      exact q _ p s2 hp hp2
def MayAgain (es : List Ent) (old new : List Nat) (at_ gone come : Nat) (k : Nat) : Prop := ∃ p, Reach es new p ∧ lieB at_ gone come (wordsGo es old 0) 0 (p : Int) = false ∧ p ≤ k ∧ k < p + (wordF es new p).lk ∧ k < new.length
def spAgainW (K : PySem.W.Frag) (AK : AKt) : Sp := fun vs H Q _ => ∃ (a f r : Addr) (la : Option Addr) (H0 : Hp) (xs ys : List V) (es : List Ent) (told put as : List Nat) (at_ gone : Nat), vs = [.ref a, .ref f, .int ((chg told put at_ gone).length : Nat), .ref r, .int (at_ : Nat), .int (gone : Nat), .int (put.length : Nat)] ∧ SqL K H0 a xs ∧ DatVs K H0 xs (es.map Ent.dat) ∧ SqL K H0 r ys ∧ DatVs K H0 ys ((wordsGo es told 0).map Wd.dat) ∧ Old la H0 H ∧ (∀ e ∈ es, e.Ok) ∧ es.length ≤ 1000 ∧
  at_ + gone ≤ told.length ∧ told.length ≤ 3000 ∧ (chg told put at_ gone).length ≤ 3000 ∧ as.length + (4 * (chg told put at_ gone).length + 6) * costB es (chg told put at_ gone).length ≤ 15800000 ∧ AK H f la (chg told put at_ gone) as ∧
  ∀ H' r2 ws zs, Kq la H H' → AK H' f la (chg told put at_ gone) (as ++ zs) → (∀ k ∈ zs, MayAgain es told (chg told put at_ gone) at_ gone put.length k) → H r2 = none → H' r2 = some (.lst ws) → DatVs K H' ws ((wordsGo es (chg told put at_ gone) 0).map Wd.dat) → Q (.ref r2) H'
abbrev st_words_again : Stmt := top 32
theorem sc_words_again : FnScope ["book", "ask", "size", "old", "at", "gone", "come", "places", "known", "word", "place"] ["book", "ask", "size", "old", "at", "gone", "come"] (defScope st_words_again) := ⟨rfl, rfl, rfl, by decide +kernel, rfl, by decide +kernel, by decide +kernel⟩
theorem def_againW (R : Raw K mg "words_again" st_words_again ["book", "ask", "size", "old", "at", "gone", "come"]) (T : Txt K w mg) (AA : Asker AK) (D_check_change : Def P w K mg base 1 "check_change" ["many_old", "many_new", "at", "gone", "come"] spCheck) (D_places_of : Def P w K mg base 2 "places_of" ["words"] (spPlaces K)) (D_words_with : Def P w K mg base 6 "words_with" ["book", "ask", "size", "known"] (spWith K AK)) :
    Def P w K mg base 7 "words_again" ["book", "ask", "size", "old", "at", "gone", "come"] (spAgainW K AK) := by
  refine R.defJ sc_words_again (fun vs H Q E h => ?_) (fun f cdv A outer s H vs Q E hr h => ?_)
  · obtain ⟨a, f, r, la, H0, xs, ys, es, told, put, as, at_, gone, rfl, _⟩ := h
    rfl
  · obtain ⟨a, fa, r, la, H0, xs, ys, es, told, put, as, at_, gone, rfl, hS0, hD0, hR0, hW0, hO, hok, hes, hag, htl, hnl, hc, hA, q⟩ := h
    have sc := sc_words_again
    have hu := hr.units
    have hb := big
    have hcl := chg_len (put := put) hag
    obtain ⟨hWl, hWne⟩ := wordsGo_len es told _ 0 (Nat.le_refl _) (Nat.zero_le _)
    have hend := endp_words es told _ 0 (Nat.le_refl _) (Nat.zero_le _)
    have hreach := fun i => endp_reach es told i _ 0 (Nat.le_refl _) (Nat.zero_le _)
    generalize hW : wordsGo es told 0 = W at hW0 hWl hWne hend hreach
    have hlen : ys.length = W.length := by have := hW0.length; rw [List.length_map] at this; exact this
    refine ⟨_, (jss_cons (js_set (i := 7) sc.nd rfl (Or.inl rfl) (j_def D_places_of (hr.mono (by decide)) rfl (ja_cons (jn 3) ja_nil)))
    (jss_cons (js_expr (j_def D_check_change (hr.mono (by decide)) rfl (ja_cons (j_ix (o_ix hu (K := K) (w := w)) (jn 7) (j_neg j_int)) (ja_cons (jn 2) (ja_cons (jn 4) (ja_cons (jn 5) (ja_cons (jn 6) ja_nil)))))))
    (jss_cons (js_set (i := 8) sc.nd rfl (Or.inl rfl) j_dnewK)
    (jss_cons (js_for PassesOwn.never rfl (ji_zip (K := K) rfl T.n_zip (ja_cons (jn 3) (ja_cons (jn 7) ja_nil))) (jg_tup (K := K) (n := 2) rfl (jgs_cons (jg_name (i := 9) sc.nd rfl (Or.inl rfl)) (jgs_cons (jg_name (i := 10) sc.nd rfl (Or.inl rfl)) jgs_nil)))
    (jss_one (js_if (jt_cmp o_le (j_op (o_add (K := K)) (jn 10) (j_ix (o_ix hu (K := K) (w := w)) (jn 9) j_int)) (jn 4))
    (jss_one (js_dput hu (jn 8) (jn 10) (jn 9)))
    (jss_one (js_if (jt_cmp o_ge (jn 10) (j_op (o_add (K := K)) (jn 4) (jn 5)))
    (jss_one (js_dput hu (jn 8) (j_op (o_add (K := K)) (j_op o_sub (jn 10) (jn 5)) (jn 6)) (jn 9)))
    jss_nil)))))
    (jss_one (js_ret (j_def D_words_with (hr.mono (by decide)) rfl (ja_cons (jn 0) (ja_cons (jn 1) (ja_cons (jn 2) (ja_cons (jn 8) ja_nil))))))))))), ?_⟩
    refine ⟨r, ys, W, rfl, hO.sm.seq hR0, hW0.same hO.sm, by omega, fun H1 p s1 hp0 hp1 => ?_⟩
    refine .inl ⟨_, _, SqL.of hp1, ints_last (psum_last _ _), ?_⟩
    refine ⟨endp W 0, (chg told put at_ gone).length, at_, gone, put.length, rfl, by omega, by omega, ?_⟩
    refine fun d hd => ?_
    have s2 : Same H1 (upd H1 d (.dK [])) := same_new hd
    have hd2 : upd H1 d (.dK []) d = some (.dK []) := upd_same
    generalize upd H1 d (.dK []) = H2 at s2 hd2 ⊢
    have hO1 := hO.same s1
    refine ⟨false, false, ⟨_, (hO1.same s2).sm.seq hR0⟩, ⟨_, s2.seq (SqL.of hp1)⟩, for_zipL (K := K) (t1 := false) (t2 := false) (a := r) (b := p) (xs := ys) (ys := (psum W 0).map fun k : Nat => V.int (k : Nat))
      (fun i σ H' => ∃ (kvs : List (Key × V)) (v9 v10 : Option V), Same H1 H' ∧ H' d = some (.dK kvs) ∧ kvs.length ≤ i ∧ (∀ q : Int, (valV kvs (Sum.inl q)).isSome = lieB at_ gone put.length (W.take i) 0 q) ∧
        (∀ (q : Nat) v, valV kvs (Sum.inl ((q : Nat) : Int)) = some v → ∃ t, v = .ref t ∧ SqT K H1 t (wordF es (chg told put at_ gone) q).vs) ∧
        σ = [some (.ref a), some (.ref fa), some (.int ((chg told put at_ gone).length : Nat)), some (.ref r), some (.int (at_ : Nat)), some (.int (gone : Nat)), some (.int (put.length : Nat)), some (.ref p), some (.ref d), v9, v10])
      ⟨[], none, none, s2, hd2, Nat.le_refl _, (fun _ => rfl), (fun _ v z => nomatch (show (none : Option V) = some v from z)), rfl⟩ (by rw [List.length_map, psum_len]; omega)
      (fun i σ H' _ h => by obtain ⟨_, _, _, sm, _⟩ := h; exact ⟨(hO1.same sm).sm.seq hR0, sm.seq (SqL.of hp1)⟩) ?_ ?_⟩
    · rintro i x y σ H' hx hy ⟨kvs, v9, v10, sm, hdk, hkl, hlie, hkn, rfl⟩ Tz hTz
      obtain ⟨dd, hdd, hv⟩ := hW0.get hx
      rw [List.getElem?_map] at hdd
      cases ew : W[i]? with
      | none => rw [ew] at hdd; cases hdd
      | some wd =>
        rw [ew] at hdd
        have ed : wd.dat = dd := Option.some.inj hdd
        subst ed
        obtain ⟨t, rfl, hT0⟩ := dat_wd hv
        have hiW := (List.getElem?_eq_some_iff.mp ew).1
        have hT1 : SqT K H1 t wd.vs := hO1.sm.seqT hT0
        rw [List.getElem?_map, psum_get W 0 i (by omega)] at hy
        have ey : y = .int (endp (W.take i) 0 : Nat) := (Option.some.inj hy).symm
        subst ey
        obtain ⟨ewd, hle⟩ := hreach i wd ew
        generalize hpl : endp (W.take i) 0 = pl at ewd hle
        have etk : W.take (i + 1) = W.take i ++ [wd] := by rw [List.take_add_one, ew]; rfl
        have hl1 : ∀ q : Int, lieB at_ gone put.length (W.take (i + 1)) 0 q = (lieB at_ gone put.length (W.take i) 0 q || lie1 at_ gone put.length wd pl q) := fun q => by rw [etk, lieB_snoc, hpl]
        have s3 : Same H' (upd H' Tz (.tup [.ref t, .int (pl : Nat)])) := same_new hTz
        have hz3 : upd H' Tz (.tup [.ref t, .int (pl : Nat)]) Tz = some (.tup [.ref t, .int (pl : Nat)]) := upd_same
        generalize upd H' Tz (.tup [.ref t, .int (pl : Nat)]) = H3 at s3 hz3 ⊢
        have hd3 := s3 _ _ hdk
        have sm3 : Same H1 H3 := sm.trans s3
        refine ⟨Tz, _, rfl, SqT.of hz3, rfl, _, _, rfl, _, _, rfl, rfl, ?_⟩
        have put1 : ∀ key : Int, (∀ q : Int, lie1 at_ gone put.length wd pl q = decide (q = key)) → (∀ q : Nat, ((q : Nat) : Int) = key → wordF es (chg told put at_ gone) q = wd) →
            ∃ H4, DPut H3 d (.int key) (.ref t) H4 ∧ ∃ (kvs : List (Key × V)) (v9 v10 : Option V), Same H1 H4 ∧ H4 d = some (.dK kvs) ∧ kvs.length ≤ i + 1 ∧ (∀ q : Int, (valV kvs (Sum.inl q)).isSome = lieB at_ gone put.length (W.take (i + 1)) 0 q) ∧
              (∀ (q : Nat) v, valV kvs (Sum.inl ((q : Nat) : Int)) = some v → ∃ t, v = .ref t ∧ SqT K H1 t (wordF es (chg told put at_ gone) q).vs) ∧
              [some (V.ref a), some (.ref fa), some (.int ((chg told put at_ gone).length : Nat)), some (.ref r), some (.int (at_ : Nat)), some (.int (gone : Nat)), some (.int (put.length : Nat)), some (.ref p), some (.ref d), some (.ref t), some (.int (pl : Nat))] = [some (.ref a), some (.ref fa), some (.int ((chg told put at_ gone).length : Nat)), some (.ref r), some (.int (at_ : Nat)), some (.int (gone : Nat)), some (.int (put.length : Nat)), some (.ref p), some (.ref d), v9, v10] := fun key hk1 hk2 => by
          refine ⟨_, DPut.ik hd3 (by omega), putK kvs (Sum.inl key) (.ref t), _, _, fun b u e => ?_, upd_same, ?_, fun q => ?_, fun q v hv => ?_, rfl⟩
          · rw [upd_ne fun z => by rw [z, hd] at e; cases e]; exact sm3 b u e
          · have := length_putK kvs (Sum.inl key) (.ref t); omega
          · rw [valV_put, hl1, hk1]
            by_cases z : q = key
            · subst z; simp
            · rw [if_neg (fun y => z (Sum.inl.inj y)), hlie q, decide_eq_false z, Bool.or_false]
          · rw [valV_put] at hv
            by_cases z : ((q : Nat) : Int) = key
            · rw [if_pos (congrArg Sum.inl z)] at hv
              refine ⟨t, (Option.some.inj hv).symm, ?_⟩
              rw [hk2 q z]
              exact hT1
            · rw [if_neg (fun y => z (Sum.inl.inj y))] at hv
              exact hkn q v hv
        refine .inr ⟨_, _, sm3.seqT hT1, atI_nat (j := 3) rfl, ?_⟩
        show if decide (((pl : Nat) : Int) + (wd.lk : Nat) ≤ (at_ : Nat)) = true then _ else _
        refine ite2 (fun h => ?_) (fun h => ?_)
        · have h' : pl + wd.lk ≤ at_ := by have := of_decide_eq_true h; omega
          refine put1 ((pl : Nat) : Int) (fun q => by unfold lie1; rw [if_pos h']) fun q e => ?_
          have : q = pl := by omega
          subst this
          rw [ewd] at h'
          rw [word_ahead hag h', ← ewd]
        · have h' : ¬ pl + wd.lk ≤ at_ := fun z => h (decide_eq_true (by omega))
          show if decide (((at_ : Nat) : Int) + (gone : Nat) ≤ (pl : Nat)) = true then _ else _
          refine ite2 (fun h2 => ?_) (fun h2 => ?_)
          · have h2' : at_ + gone ≤ pl := by have := of_decide_eq_true h2; omega
            refine put1 (((pl : Nat) : Int) - (gone : Nat) + (put.length : Nat)) (fun q => by unfold lie1; rw [if_neg h', if_pos h2']) fun q e => ?_
            have : q = pl - gone + put.length := by omega
            subst this
            rw [word_behind hag h2' hle, ← ewd]
          · have h2' : ¬ at_ + gone ≤ pl := fun z => h2 (decide_eq_true (by omega))
            refine ⟨kvs, some (.ref t), some (.int (pl : Nat)), sm3, hd3, by omega, fun q => ?_, hkn, rfl⟩
            rw [hl1, hlie q]
            unfold lie1
            rw [if_neg h', if_neg h2', Bool.or_false]
    · rintro σ H' ⟨kvs, v9, v10, sm, hdk, hkl, hlie, hkn, rfl⟩
      rw [hlen, List.take_length] at hlie
      have sA : Same H H' := s1.trans sm
      refine ⟨a, fa, d, la, H0, xs, es, chg told put at_ gone, as, kvs, rfl, hS0, hD0, hO.same sA, hok, hes, hnl, hdk, fun p _ v hv => ?_, hc, AA.same hA sA, fun H4 r2 ws zs hK hA4 hz hr0 hr4 hD4 => ?_⟩
      · obtain ⟨t, e, hT⟩ := hkn p v hv
        exact ⟨t, e, sm.seqT hT⟩
      · refine q H4 r2 ws zs ((Kq.of sA).trans hK) hA4 (fun k hk => ?_) ?_ hr4 hD4
        · obtain ⟨p, h1, h2, h3⟩ := hz k hk
          refine ⟨p, h1, ?_, h3⟩
          have := hlie ((p : Nat) : Int)
          rw [h2] at this
          rw [hW]
          exact this.symm
        · cases z : H r2 with
          | none => rfl
          | some u => rw [sA _ _ z] at hr0; cases hr0
end
end K15

set_option Elab.async false
set_option linter.all false
set_option maxRecDepth 100000
set_option maxHeartbeats 4000000


--@RAISES but law
namespace K15
open PySem PySem.Spec PyProof.Rows L2 Rg
def Bad (o n a g c : Int) : Prop := a < 0 ∨ g < 0 ∨ c < 0 ∨ o < a + g ∨ o - g + c ≠ n
def Sml (a : Int) : Prop := -(10 ^ 61) < a ∧ a < 10 ^ 61
theorem Sml.p {a : Int} (h : Sml a) : a.natAbs.log2 < 1920 ∧ (Str.ofString (toString a)).length ≤ 1100000 := by
  refine int_plain ?_
  obtain ⟨h1, h2⟩ := h
  omega
structure Cls (K : PySem.W.Frag) (mg : Str → Option Value) (C CG : Addr) (cs : List Addr) : Prop where
  n_isinstance : mg "isinstance" = none
  n_ValueError : mg "ValueError" = none
  c_NoFit : mg "NoFit" = some (.ref C)
  c_GrowthError : mg "GrowthError" = some (.ref CG)
  x_GrowthError : PySem.W.excIn K CG bmVE "ValueError.__new__" = true
  x_NoFit : PySem.W.excIn K C bmVE "ValueError.__new__" = true
  c_NoForm : mg "NoForm" = some (.ref (cs.getD 0 0))
  c_NoRule : mg "NoRule" = some (.ref (cs.getD 1 0))
  c_NoFloor : mg "NoFloor" = some (.ref (cs.getD 2 0))
  c_Barren : mg "Barren" = some (.ref (cs.getD 3 0))
  c_Idle : mg "Idle" = some (.ref (cs.getD 4 0))
  c_TooLarge : mg "TooLarge" = some (.ref (cs.getD 5 0))
  c_Clash : mg "Clash" = some (.ref (cs.getD 6 0))
  c_Stuck : mg "Stuck" = some (.ref (cs.getD 7 0))
  c_TooLong : mg "TooLong" = some (.ref (cs.getD 8 0))
  c_NoRow : mg "NoRow" = some (.ref (cs.getD 9 0))
  Z : ExcK K C
  up : mroHas K C (.ref CG) = true
  ve : PySem.W.kitOne K (.ref C) (.type "ValueError") = some true
  no : PySem.W.kitAny K (.ref C) ((List.range 10).map fun i => Value.ref (cs.getD i 0)) = some false
theorem boot_ValueError : bootBuiltins "ValueError" = some (.type "ValueError") := by decide +kernel
section
variable {P : Program} {w : World} {K : PySem.W.Frag} {mg : Str → Option Value} {base : Heap} {C CG : Addr} {cs : List Addr} {AK : AKt}
def spCheckX (C : Addr) : Sp := fun vs H _ E => ∃ o n a g c : Int, vs = [.int o, .int n, .int a, .int g, .int c] ∧ Bad o n a g c ∧ Sml o ∧ Sml n ∧ Sml a ∧ Sml g ∧ Sml c ∧ E (.ref C) none H
theorem def_checkX (R : Raw K mg "check_change" st_check_change ["many_old", "many_new", "at", "gone", "come"]) (T : Cls K mg C CG cs) : DefX P w K mg base 1 "check_change" ["many_old", "many_new", "at", "gone", "come"] (spCheckX C) := by
  refine R.defX sc_check_change (fun vs H Q E h => ?_) (fun f cdv A outer s H vs Q E hr h => ?_)
  · obtain ⟨o, n, a, g, c, rfl, _⟩ := h
    rfl
  · obtain ⟨o, n, a, g, c, rfl, hb, so, sn, sa, sg, sm, q⟩ := h
    have sc := sc_check_change
    have hu := hr.units
    have tell : ∀ x : Int, Sml x → (∃ z, V.int x = .str z ∧ z.length ≤ 100000) ∨ ∃ a, V.int x = .int a ∧ a.natAbs.log2 < 1920 ∧ (Str.ofString (toString a)).length ≤ 1100000 := fun x hx => .inr ⟨x, rfl, hx.p⟩
    refine ⟨_, (jss_cons (js_if (jw_t (jw_or (jt_cmp o_lt (jn 2) j_int) (jw_or (jt_cmp o_lt (jn 3) j_int) (jw_or1 (jt_cmp o_lt (jn 4) j_int)))))
    (jss_one (js_raise rfl T.c_NoFit T.x_NoFit (ja_cons (j_fs (jfs_cons jf_str (jfs_cons (jf_plain (jn 2)) (jfs_cons jf_str (jfs_cons (jf_plain (jn 3)) (jfs_cons jf_str (jfs_cons (jf_plain (jn 4)) jfs_nil))))))) ja_nil)))
    jss_nil)
    (jss_cons (js_if (jt_cmp o_gt (j_op (o_add (K := K)) (jn 2) (jn 3)) (jn 0))
    (jss_one (js_raise rfl T.c_NoFit T.x_NoFit (ja_cons (j_fs (jfs_cons (jf_plain (jn 3)) (jfs_cons jf_str (jfs_cons (jf_plain (jn 2)) (jfs_cons jf_str (jfs_cons (jf_plain (jn 0)) jfs_nil)))))) ja_nil)))
    jss_nil)
    (jss_one (js_if (jt_cmp (o_ne hu (K := K)) (j_op (o_add (K := K)) (j_op o_sub (jn 0) (jn 3)) (jn 4)) (jn 1))
    (jss_one (js_raise rfl T.c_NoFit T.x_NoFit (ja_cons (j_fs (jfs_cons (jf_plain (jn 0)) (jfs_cons jf_str (jfs_cons (jf_plain (jn 3)) (jfs_cons jf_str (jfs_cons (jf_plain (jn 4)) (jfs_cons jf_str (jfs_cons (jf_plain (jn 1)) jfs_nil)))))))) ja_nil)))
    jss_nil)))), ?_⟩
    show if decide (a < 0) = true then _ else _
    refine ite2 (fun h => ?_) (fun h => ?_)
    · exact ⟨⟨True.intro, ⟨rfl, tell a sa⟩, True.intro, ⟨rfl, tell g sg⟩, True.intro, ⟨rfl, tell c sm⟩, True.intro⟩, fun z hz => ⟨(show 1 ≤ sizeLine by decide), q⟩⟩
    have ha : ¬ a < 0 := fun z => h (decide_eq_true z)
    show if decide (g < 0) = true then _ else _
    refine ite2 (fun h => ?_) (fun h => ?_)
    · exact ⟨⟨True.intro, ⟨rfl, tell a sa⟩, True.intro, ⟨rfl, tell g sg⟩, True.intro, ⟨rfl, tell c sm⟩, True.intro⟩, fun z hz => ⟨(show 1 ≤ sizeLine by decide), q⟩⟩
    have hg : ¬ g < 0 := fun z => h (decide_eq_true z)
    show if decide (c < 0) = true then _ else _
    refine ite2 (fun h => ?_) (fun h => ?_)
    · exact ⟨⟨True.intro, ⟨rfl, tell a sa⟩, True.intro, ⟨rfl, tell g sg⟩, True.intro, ⟨rfl, tell c sm⟩, True.intro⟩, fun z hz => ⟨(show 1 ≤ sizeLine by decide), q⟩⟩
    have hc : ¬ c < 0 := fun z => h (decide_eq_true z)
    show if decide (o < a + g) = true then _ else _
    refine ite2 (fun h => ?_) (fun h => ?_)
    · exact ⟨⟨⟨rfl, tell g sg⟩, True.intro, ⟨rfl, tell a sa⟩, True.intro, ⟨rfl, tell o so⟩, True.intro⟩, fun z hz => ⟨(show 1 ≤ sizeLine by decide), q⟩⟩
    have ho : ¬ o < a + g := fun z => h (decide_eq_true z)
    show if (true ^^ decide (o - g + c = n)) = true then _ else _
    have hn : o - g + c ≠ n := by
      rcases hb with z | z | z | z | z
      · exact absurd z ha
      · exact absurd z hg
      · exact absurd z hc
      · exact absurd z ho
      · exact z
    rw [decide_eq_false hn]
    exact ⟨⟨⟨rfl, tell o so⟩, True.intro, ⟨rfl, tell g sg⟩, True.intro, ⟨rfl, tell c sm⟩, True.intro, ⟨rfl, tell n sn⟩, True.intro⟩, fun z hz => ⟨(show 1 ≤ sizeLine by decide), q⟩⟩
def spAgainX (K : PySem.W.Frag) (C : Addr) : Sp := fun vs H _ E => ∃ (b f r : V) (ys : List V) (ra : Addr) (W : List Wd) (n a g c : Int), vs = [b, f, .int n, .ref ra, .int a, .int g, .int c] ∧ SqL K H ra ys ∧ DatVs K H ys (W.map Wd.dat) ∧ W.length ≤ 5000 ∧ endp W 0 ≤ 5000 ∧ Bad (endp W 0 : Nat) n a g c ∧ Sml n ∧ Sml a ∧ Sml g ∧ Sml c ∧ ∀ H', Same H H' → E (.ref C) none H'
theorem def_againX (R : Raw K mg "words_again" st_words_again ["book", "ask", "size", "old", "at", "gone", "come"]) (T : Cls K mg C CG cs) (TT : Txt K w mg) (D_check_change : DefX P w K mg base 1 "check_change" ["many_old", "many_new", "at", "gone", "come"] (spCheckX C)) (D_places_of : Def P w K mg base 2 "places_of" ["words"] (spPlaces K)) (D_words_with : Def P w K mg base 6 "words_with" ["book", "ask", "size", "known"] (spWith K AK)) :
    DefX P w K mg base 7 "words_again" ["book", "ask", "size", "old", "at", "gone", "come"] (spAgainX K C) := by
  refine R.defX sc_words_again (fun vs H Q E h => ?_) (fun f cdv A outer s H vs Q E hr h => ?_)
  · obtain ⟨b, f, r, ys, ra, W, n, a, g, c, rfl, _⟩ := h
    rfl
  · obtain ⟨b, fa, r, ys, ra, W, n, a, g, c, rfl, hS, hD, hl, he, hbad, sn, sa, sg, sm, q⟩ := h
    have sc := sc_words_again
    have hu := hr.units
    have T := TT
    refine ⟨_, (jss_cons (js_set (i := 7) sc.nd rfl (Or.inl rfl) (j_def D_places_of (hr.mono (by decide)) rfl (ja_cons (jn 3) ja_nil)))
    (jss_cons (js_expr (j_defX D_check_change (hr.mono (by decide)) rfl (ja_cons (j_ix (o_ix hu (K := K) (w := w)) (jn 7) (j_neg j_int)) (ja_cons (jn 2) (ja_cons (jn 4) (ja_cons (jn 5) (ja_cons (jn 6) ja_nil))))) pass1))
    (jss_cons (js_set (i := 8) sc.nd rfl (Or.inl rfl) j_dnewK)
    (jss_cons (js_for passes_loop rfl (ji_zip (K := K) rfl T.n_zip (ja_cons (jn 3) (ja_cons (jn 7) ja_nil))) (jg_tup (K := K) (n := 2) rfl (jgs_cons (jg_name (i := 9) sc.nd rfl (Or.inl rfl)) (jgs_cons (jg_name (i := 10) sc.nd rfl (Or.inl rfl)) jgs_nil)))
    (jss_one (js_if (jt_cmp o_le (j_op (o_add (K := K)) (jn 10) (j_ix (o_ix hu (K := K) (w := w)) (jn 9) j_int)) (jn 4))
    (jss_one (js_dput hu (jn 8) (jn 10) (jn 9)))
    (jss_one (js_if (jt_cmp o_ge (jn 10) (j_op (o_add (K := K)) (jn 4) (jn 5)))
    (jss_one (js_dput hu (jn 8) (j_op (o_add (K := K)) (j_op o_sub (jn 10) (jn 5)) (jn 6)) (jn 9)))
    jss_nil)))))
    (jss_one (js_ret (j_def D_words_with (hr.mono (by decide)) rfl (ja_cons (jn 0) (ja_cons (jn 1) (ja_cons (jn 2) (ja_cons (jn 8) ja_nil))))))))))), ?_⟩
    refine ⟨ra, ys, W, rfl, hS, hD, hl, fun H1 p s1 hp0 hp1 => ?_⟩
    refine .inl ⟨_, _, SqL.of hp1, ints_last (psum_last _ _), ?_⟩
    exact ⟨((endp W 0 : Nat) : Int), n, a, g, c, rfl, hbad, ⟨by omega, by omega⟩, sn, sa, sg, sm, q H1 s1⟩
def spRef (K : PySem.W.Frag) : Sp := fun vs H Q _ => ∃ (b f : V) (t ra : Addr) (ys : List V) (W : List Wd) (n a g c : Int), vs = [b, f, .ref t, .ref ra] ∧ SqT K H t [.int a, .int g, .int c, .int n] ∧ SqL K H ra ys ∧ DatVs K H ys (W.map Wd.dat) ∧ W.length ≤ 5000 ∧ endp W 0 ≤ 5000 ∧ Bad (endp W 0 : Nat) n a g c ∧ Sml n ∧ Sml a ∧ Sml g ∧ Sml c ∧ ∀ H', Same H H' → Q (.bl true) H'
abbrev st__law_refused : Stmt := top 38
theorem sc__law_refused : FnScope ["_law_book", "_law_ask", "_law_told", "_law_old", "_law_at", "_law_gone", "_law_come", "_law_now", "_law_refused_here", "e"] ["_law_book", "_law_ask", "_law_told", "_law_old"] (defScope st__law_refused) := ⟨rfl, rfl, rfl, by decide +kernel, rfl, by decide +kernel, by decide +kernel⟩
theorem def_refused (R : Raw K mg "_law_refused" st__law_refused ["_law_book", "_law_ask", "_law_told", "_law_old"]) (T : Cls K mg C CG cs) (D_words_again : DefX P w K mg base 7 "words_again" ["book", "ask", "size", "old", "at", "gone", "come"] (spAgainX K C)) :
    Def P w K mg base 8 "_law_refused" ["_law_book", "_law_ask", "_law_told", "_law_old"] (spRef K) := by
  refine R.defJ sc__law_refused (fun vs H Q E h => ?_) (fun f cdv A outer s H vs Q E hr h => ?_)
  · obtain ⟨b, f, t, ra, ys, W, n, a, g, c, rfl, _⟩ := h
    rfl
  · obtain ⟨b, fa, t, ra, ys, W, n, a, g, c, rfl, hT, hS, hD, hl, he, hbad, sn, sa, sg, sm, q⟩ := h
    have sc := sc__law_refused
    have hu := hr.units
    refine ⟨_, (jss_cons (js_asg (jn 2) (jg_tup (K := K) (n := 4) rfl (jgs_cons (jg_name (i := 4) sc.nd rfl (Or.inl rfl)) (jgs_cons (jg_name (i := 5) sc.nd rfl (Or.inl rfl)) (jgs_cons (jg_name (i := 6) sc.nd rfl (Or.inl rfl)) (jgs_cons (jg_name (i := 7) sc.nd rfl (Or.inl rfl)) jgs_nil))))))
    (jss_cons (js_set (i := 8) sc.nd rfl (Or.inl rfl) j_bl)
    (jss_cons (js_tryAs (K := K) rfl rfl D_words_again (hr.mono (by decide)) rfl (ja_cons (jn 0) (ja_cons (jn 1) (ja_cons (jn 7) (ja_cons (jn 3) (ja_cons (jn 4) (ja_cons (jn 5) (ja_cons (jn 6) ja_nil))))))) rfl T.c_GrowthError T.x_GrowthError (i := 9) sc.nd rfl rfl (fun a oe C hoe Z => (jss_cons (js_set (i := 8) sc.nd rfl (Or.inl rfl) (j_and (j_callB (c_isiX (K := K) Z hoe) rfl T.n_isinstance boot_isinstance (ja_cons (jn 9) (ja_cons (j_glob (v := .ref _) rfl T.c_NoFit rfl) ja_nil))) (j_one (j_callB (c_isiX (K := K) Z hoe) rfl T.n_isinstance boot_isinstance (ja_cons (jn 9) (ja_cons (j_bltn (v := .ty "ValueError") rfl T.n_ValueError boot_ValueError rfl) ja_nil))))))
    (jss_one (js_if (jt_val (j_callB (c_isiX (K := K) Z hoe) rfl T.n_isinstance boot_isinstance (ja_cons (jn 9) (ja_cons (j_tup (ja_cons (j_glob (v := .ref _) rfl T.c_NoForm rfl) (ja_cons (j_glob (v := .ref _) rfl T.c_NoRule rfl) (ja_cons (j_glob (v := .ref _) rfl T.c_NoFloor rfl) (ja_cons (j_glob (v := .ref _) rfl T.c_Barren rfl) (ja_cons (j_glob (v := .ref _) rfl T.c_Idle rfl) (ja_cons (j_glob (v := .ref _) rfl T.c_TooLarge rfl) (ja_cons (j_glob (v := .ref _) rfl T.c_Clash rfl) (ja_cons (j_glob (v := .ref _) rfl T.c_Stuck rfl) (ja_cons (j_glob (v := .ref _) rfl T.c_TooLong rfl) (ja_cons (j_glob (v := .ref _) rfl T.c_NoRow rfl) ja_nil))))))))))) ja_nil))))
    (jss_one (js_set (i := 8) sc.nd rfl (Or.inl rfl) j_bl))
    jss_nil)))))
    (jss_one (js_ret (jn 8)))))), ?_⟩
    refine ⟨t, _, rfl, hT, rfl, _, _, rfl, _, _, rfl, _, _, rfl, _, _, rfl, rfl, ?_⟩
    refine ⟨b, fa, .non, ys, ra, W, n, a, g, c, rfl, hS, hD, hl, he, hbad, sn, sa, sg, sm, fun H1 s1 => ?_⟩
    refine ⟨C, rfl, T.Z, T.up, fun x hx => ?_⟩
    have hself : PySem.W.kitOne K (.ref C) (.ref C) = some true := by unfold PySem.W.kitOne; rw [if_pos (beq_self_eq_true _)]
    refine ⟨rfl, .inl ⟨true, hself, ⟨rfl, true, T.ve, ?_⟩⟩⟩
    refine ⟨(show 10 ≤ sizeLine by decide), fun p hp => ⟨rfl, .inr ⟨(List.range 10).map fun i => cs.getD i 0, false, SqT.of upd_same, T.no, ?_⟩⟩⟩
    exact q _ (s1.trans (same_new hp))
end
end K15

set_option Elab.async false
set_option linter.all false
set_option maxRecDepth 100000
set_option maxHeartbeats 4000000


namespace K15
open PySem PySem.Spec PyProof.Rows L2 Rg
theorem kind3 (c : Int) : ∃ l : List Nat, atI [V.str "", V.str "a", V.str "word"] (c % 3) = some (.str (S l)) ∧ l.length ≤ 100 ∧ (∀ x ∈ l, okSign x) ∧ l ≠ kEnd := by
  have h : c % 3 = 0 ∨ c % 3 = 1 ∨ c % 3 = 2 := by omega
  rcases h with e | e | e <;> rw [e]
  · exact ⟨[], rfl, by decide, (by simp), by decide⟩
  · exact ⟨[97], rfl, by decide, (fun x hx => by rw [List.mem_singleton.mp hx]; exact okB_ok rfl), by decide⟩
  · refine ⟨[119, 111, 114, 100], rfl, by decide, fun x hx => ?_, by decide⟩
    have hx' : x = 119 ∨ x = 111 ∨ x = 114 ∨ x = 100 := by simpa using hx
    rcases hx' with rfl | rfl | rfl | rfl <;> exact okB_ok rfl
theorem deed2 (c : Int) : ∃ d, atI [V.str "in", V.str "out"] (c % 2) = some (.str (deedS d)) ∧ d < 2 := by
  have h : c % 2 = 0 ∨ c % 2 = 1 := by omega
  rcases h with e | e <;> rw [e]
  · exact ⟨0, rfl, by decide⟩
  · exact ⟨1, rfl, by decide⟩
theorem many6 (c : Int) : atI [V.str "once", V.str "maybe", V.str "some", V.str "any", V.str "ahead", V.str "not"] (c % 6) = some (.str (manyS (c % 6).toNat)) ∧ (c % 6).toNat < 6 := by
  have h : c % 6 = 0 ∨ c % 6 = 1 ∨ c % 6 = 2 ∨ c % 6 = 3 ∨ c % 6 = 4 ∨ c % 6 = 5 := by omega
  rcases h with e | e | e | e | e | e <;> rw [e] <;> exact ⟨rfl, by decide⟩
theorem many2 (c : Int) : ∃ m, atI [V.str "any", V.str "some"] (c % 2) = some (.str (manyS m)) ∧ m < 6 := by
  have h : c % 2 = 0 ∨ c % 2 = 1 := by omega
  rcases h with e | e <;> rw [e]
  · exact ⟨3, rfl, by decide⟩
  · exact ⟨2, rfl, by decide⟩
section
variable {P : Program} {w : World} {K : PySem.W.Frag} {mg : Str → Option Value} {base : Heap}
def spEntry (K : PySem.W.Frag) : Sp := fun vs H Q _ => ∃ (c : Int), vs = [.int c] ∧ ∀ (e : Ent) r H', e.Ok → e.f.length = 2 → Same H H' → DatV K H' r e.dat → Q r H'
abbrev st__law_entry : Stmt := top 36
theorem sc__law_entry : FnScope ["_law_cell", "_law_kind", "_law_deed", "_law_many", "_law_signs"] ["_law_cell"] (defScope st__law_entry) := ⟨rfl, rfl, rfl, by decide +kernel, rfl, by decide +kernel, by decide +kernel⟩
theorem def_entry (R : Raw K mg "_law_entry" st__law_entry ["_law_cell"]) (T : Txt K w mg) (D__law_sign : Def P w K mg base 1 "_law_sign" ["_law_cell"] spSign) : Def P w K mg base 2 "_law_entry" ["_law_cell"] (spEntry K) := by
  refine R.defJ sc__law_entry (fun vs H Q E h => ?_) (fun f cdv A outer s H vs Q E hr h => ?_)
  · obtain ⟨c, rfl, _⟩ := h
    rfl
  · obtain ⟨c, rfl, q⟩ := h
    have sc := sc__law_entry
    have hu := hr.units
    have hb := big
    obtain ⟨kl, ek, hk1, hk2, hk3⟩ := kind3 c
    obtain ⟨d, ed, hd⟩ := deed2 (c / 3)
    have em := many6 (c / 6)
    obtain ⟨m2, em2, hm2⟩ := many2 (c / 7)
    refine ⟨_, (jss_cons (js_set (i := 1) sc.nd rfl (Or.inl rfl) (j_ix (o_ix hu (K := K) (w := w)) (j_lst (ja_cons j_str (ja_cons j_str (ja_cons j_str ja_nil)))) (j_op o_mod (jn 0) j_int)))
    (jss_cons (js_set (i := 2) sc.nd rfl (Or.inl rfl) (j_ix (o_ix hu (K := K) (w := w)) (j_lst (ja_cons j_str (ja_cons j_str ja_nil))) (j_op o_mod (j_op o_div (jn 0) j_int) j_int)))
    (jss_cons (js_set (i := 3) sc.nd rfl (Or.inl rfl) (j_ix (o_ix hu (K := K) (w := w)) (j_lst (ja_cons j_str (ja_cons j_str (ja_cons j_str (ja_cons j_str (ja_cons j_str (ja_cons j_str ja_nil))))))) (j_op o_mod (j_op o_div (jn 0) j_int) j_int)))
    (jss_cons (js_set (i := 4) sc.nd rfl (Or.inl rfl) (j_bm (K := K) PySem.F.plainAttrs_str PySem.F.slot_str_join PySem.F.type_str_join (m_join (K := K)) j_str (ja_cons (j_comp (N := ["_law_k", "_law_cell"]) (cap := [none, some 0]) rfl (CompScope.of rfl (by rfl)) (ji_rng1 rfl T.n_range (ja_cons (j_op (o_add (K := K)) j_int (j_op o_mod (j_op o_div (jn 0) j_int) j_int)) ja_nil)) (fun _ _ _ _ => (jg_name (i := 0) (show List.Nodup [("_law_k" : Str), ("_law_cell" : Str)] by decide +kernel) rfl (Or.inl rfl))) (fun _ _ _ _ => jts_nil) (fun _ _ _ _ => (j_def D__law_sign (hr.mono (by decide)) rfl (ja_cons (j_op (o_add (K := K)) (j_op o_div (jn 1) j_int) (jn 0)) ja_nil)))) ja_nil)))
    (jss_one (js_ret (j_tup (ja_cons (jn 1) (ja_cons (j_lst (ja_cons (j_tup (ja_cons (jn 2) (ja_cons (jn 4) (ja_cons (jn 3) ja_nil)))) (ja_cons (j_tup (ja_cons j_str (ja_cons (j_def D__law_sign (hr.mono (by decide)) rfl (ja_cons (jn 0) ja_nil)) (ja_cons (j_ix (o_ix hu (K := K) (w := w)) (j_lst (ja_cons j_str (ja_cons j_str ja_nil))) (j_op o_mod (j_op o_div (jn 0) j_int) j_int)) ja_nil)))) ja_nil))) ja_nil))))))))), ?_⟩
    refine ⟨by decide, fun p1 hp1 => ⟨by decide, .inl ⟨_, _, SqL.of upd_same, ek, ?_⟩⟩⟩
    have s1 : Same H (upd H p1 (.lst [.str "", .str "a", .str "word"])) := same_new hp1
    generalize upd H p1 (.lst [.str "", .str "a", .str "word"]) = H1 at s1 ⊢
    refine ⟨by decide, fun p2 hp2 => ⟨⟨by decide, by decide⟩, by decide, .inl ⟨_, _, SqL.of upd_same, ed, ?_⟩⟩⟩
    have s2 : Same H (upd H1 p2 (.lst [.str "in", .str "out"])) := s1.trans (same_new hp2)
    generalize upd H1 p2 (.lst [.str "in", .str "out"]) = H2 at s2 ⊢
    refine ⟨by decide, fun p3 hp3 => ⟨⟨by decide, by decide⟩, by decide, .inl ⟨_, _, SqL.of upd_same, em.1, ?_⟩⟩⟩
    have s3 : Same H (upd H2 p3 (.lst [.str "once", .str "maybe", .str "some", .str "any", .str "ahead", .str "not"])) := s2.trans (same_new hp3)
    generalize upd H2 p3 (.lst [.str "once", .str "maybe", .str "some", .str "any", .str "ahead", .str "not"]) = H3 at s3 ⊢
    have hm := em.2
    generalize (c / 6 % 6).toNat = m at hm ⊢
    refine ⟨rfl, ⟨by decide, by decide⟩, by decide, ?_⟩
    refine ⟨show -(2 ^ 62) ≤ 1 + c / 3420 % 40 by omega, show 1 + c / 3420 % 40 < 2 ^ 62 by omega, ?_⟩
    refine gath_range (n := (1 + c / 3420 % 40).toNat) (fun i ys σ' H' => H' = H3 ∧ ∃ (l : List Nat) (v : Option V), ys = l.map (fun k => V.str (S [k])) ∧ l.length = i ∧ (∀ k ∈ l, okSign k) ∧ σ' = [v, some (.int c)]) (by omega) ⟨rfl, [], none, rfl, rfl, by simp, rfl⟩
      (fun i ys σ' H' h => by obtain ⟨_, l, v, rfl, e, _⟩ := h; simp; omega) ?_ ?_
    · rintro i ys σ' H' hi ⟨rfl, l, v, rfl, hl, ho, rfl⟩
      refine ⟨⟨by decide, by decide⟩, ?_⟩
      refine ⟨_, rfl, fun k hk => ?_⟩
      refine ⟨rfl, l ++ [k], _, by simp, by simp; omega, fun j hj => ?_, rfl⟩
      rcases List.mem_append.mp hj with z | z
      · exact ho j z
      · rw [List.mem_singleton.mp z]; exact hk
    · rintro ys σ' H' ⟨rfl, l, v, rfl, hl, ho, rfl⟩ D hD
      have hl1 : 1 ≤ l.length := by omega
      have hl2 : l.length ≤ 100 := by omega
      refine ⟨l.map fun k => S [k], SqL.of ?_, joinOk_of (B := 1) ?_ ?_, ?_⟩
      · rw [upd_same, List.map_map]; rfl
      · intro y hy
        obtain ⟨k, _, rfl⟩ := List.mem_map.mp hy
        rw [S_len]; exact Nat.le_refl _
      · rw [List.length_map]
        show l.length * 1 + l.length * 0 ≤ _
        omega
      rw [show Txt.join (Str.ofString "") (l.map fun k => S [k]) = S l from join_single l]
      have s4 : Same H (upd H' D (.lst (l.map fun k => V.str (S [k])))) := s3.trans (same_new hD)
      generalize upd H' D (.lst (l.map fun k => V.str (S [k]))) = H4 at s4 ⊢
      refine ⟨(show 3 ≤ sizeLine by decide), fun t1 ht1 => ?_⟩
      have s5 : Same H (upd H4 t1 (.tup [.str (deedS d), .str (S l), .str (manyS m)])) := s4.trans (same_new ht1)
      have h5 : upd H4 t1 (.tup [.str (deedS d), .str (S l), .str (manyS m)]) t1 = some (.tup [.str (deedS d), .str (S l), .str (manyS m)]) := upd_same
      generalize upd H4 t1 (.tup [.str (deedS d), .str (S l), .str (manyS m)]) = H5 at s5 h5 ⊢
      refine ⟨_, rfl, fun k hk => ?_⟩
      refine ⟨by decide, fun p6 hp6 => ⟨⟨by decide, by decide⟩, by decide, .inl ⟨_, _, SqL.of upd_same, em2, ?_⟩⟩⟩
      have s56 : Same H5 (upd H5 p6 (.lst [.str "any", .str "some"])) := same_new hp6
      generalize upd H5 p6 (.lst [.str "any", .str "some"]) = H6 at s56 ⊢
      have s6 := s5.trans s56
      have h6 := s56 _ _ h5
      refine ⟨(show 3 ≤ sizeLine by decide), fun t2 ht2 => ?_⟩
      have s67 : Same H6 (upd H6 t2 (.tup [.str "out", .str (S [k]), .str (manyS m2)])) := same_new ht2
      have h72 : upd H6 t2 (.tup [.str "out", .str (S [k]), .str (manyS m2)]) t2 = some (.tup [.str (deedS 1), .str (S [k]), .str (manyS m2)]) := upd_same
      generalize upd H6 t2 (.tup [.str "out", .str (S [k]), .str (manyS m2)]) = H7 at s67 h72 ⊢
      have h71 := s67 _ _ h6
      have s7 := s6.trans s67
      refine ⟨(show 2 ≤ sizeLine by decide), fun p8 hp8 => ?_⟩
      have s78 : Same H7 (upd H7 p8 (.lst [.ref t1, .ref t2])) := same_new hp8
      have h83 : upd H7 p8 (.lst [.ref t1, .ref t2]) p8 = some (.lst [.ref t1, .ref t2]) := upd_same
      generalize upd H7 p8 (.lst [.ref t1, .ref t2]) = H8 at s78 h83 ⊢
      have h81 := s78 _ _ h71
      have h82 := s78 _ _ h72
      refine ⟨(show 2 ≤ sizeLine by decide), fun t9 ht9 => ?_⟩
      have s89 : Same H8 (upd H8 t9 (.tup [.str (S kl), .ref p8])) := same_new ht9
      have h94 : upd H8 t9 (.tup [.str (S kl), .ref p8]) t9 = some (.tup [.str (S kl), .ref p8]) := upd_same
      generalize upd H8 t9 (.tup [.str (S kl), .ref p8]) = H9 at s89 h94 ⊢
      refine q ⟨kl, [⟨d, m, l⟩, ⟨1, m2, [k]⟩]⟩ _ _ ⟨(show 2 ≤ 12 by decide), fun p hp => ?_, hk1, hk2, hk3⟩ rfl ((s7.trans s78).trans s89) ?_
      · rcases List.mem_cons.mp hp with z | z
        · subst z
          exact ⟨by show d < 3; omega, hm, (fun z => by have z' : d = 2 := z; omega), hl1, hl2, ho⟩
        · rw [List.mem_singleton.mp z]
          exact ⟨(show 1 < 3 by decide), hm2, (fun z => by have z' : (1 : Nat) = 2 := z; omega), (show 1 ≤ 1 by decide), (show 1 ≤ 100 by decide), (fun j hj => by rw [List.mem_singleton.mp hj]; exact hk)⟩
      · have e1 : DatV K H9 (.ref t1) (Prt.dat ⟨d, m, l⟩) := .tuple (SqT.of (s89 _ _ h81)) (.cons (.str _) (.cons (.str _) (.cons (.str _) .nil)))
        have e2 : DatV K H9 (.ref t2) (Prt.dat ⟨1, m2, [k]⟩) := .tuple (SqT.of (s89 _ _ h82)) (.cons (.str _) (.cons (.str _) (.cons (.str _) .nil)))
        exact .tuple (SqT.of h94) (.cons (.str _) (.cons (.list (SqL.of (s89 _ _ h83)) (.cons e1 (.cons e2 .nil))) .nil))
def spSpoilt (K : PySem.W.Frag) : Sp := fun vs H Q _ => ∃ (way : Nat) (cell : Int) (t : Addr) (at_ gone come now size : Nat), vs = [.int (way : Nat), .int cell, .ref t, .int (size : Nat)] ∧ SqT K H t [.int (at_ : Nat), .int (gone : Nat), .int (come : Nat), .int (now : Nat)] ∧ way < 7 ∧ at_ + gone ≤ size ∧ size - gone + come = now ∧ size ≤ 1000 ∧ come ≤ 1000 ∧
  ∀ (H' : Hp) (t' : Addr) (a g c n : Int), Same H H' → H' t' = some (.tup [.int a, .int g, .int c, .int n]) → Bad (size : Nat) n a g c → Sml n → Sml a → Sml g → Sml c → Q (.ref t') H'
abbrev st__law_spoilt : Stmt := top 37
theorem sc__law_spoilt : FnScope ["_law_way", "_law_cell", "_law_told", "_law_size", "_law_at", "_law_gone", "_law_come", "_law_now", "_law_far"] ["_law_way", "_law_cell", "_law_told", "_law_size"] (defScope st__law_spoilt) := ⟨rfl, rfl, rfl, by decide +kernel, rfl, by decide +kernel, by decide +kernel⟩
theorem def_spoilt (R : Raw K mg "_law_spoilt" st__law_spoilt ["_law_way", "_law_cell", "_law_told", "_law_size"]) (T : Txt K w mg) : Def P w K mg base 1 "_law_spoilt" ["_law_way", "_law_cell", "_law_told", "_law_size"] (spSpoilt K) := by
  refine R.defJ sc__law_spoilt (fun vs H Q E h => ?_) (fun f cdv A outer s H vs Q E hr h => ?_)
  · obtain ⟨way, cell, t, at_, gone, come, now, size, rfl, _⟩ := h
    rfl
  · obtain ⟨way, cell, t, at_, gone, come, now, size, rfl, hT, hw, hag, hn, hsz, hcm, q⟩ := h
    have sc := sc__law_spoilt
    have hu := hr.units
    refine ⟨_, (jss_cons (js_asg (jn 2) (jg_tup (K := K) (n := 4) rfl (jgs_cons (jg_name (i := 4) sc.nd rfl (Or.inl rfl)) (jgs_cons (jg_name (i := 5) sc.nd rfl (Or.inl rfl)) (jgs_cons (jg_name (i := 6) sc.nd rfl (Or.inl rfl)) (jgs_cons (jg_name (i := 7) sc.nd rfl (Or.inl rfl)) jgs_nil))))))
    (jss_cons (js_set (i := 8) sc.nd rfl (Or.inl rfl) (j_op o_mod (j_op o_div (jn 1) j_int) (j_op o_pow j_int j_int)))
    (jss_cons (js_if (jt_cmp (o_eq hu (K := K)) (jn 0) j_int)
    (jss_one (js_ret (j_tup (ja_cons (j_op o_sub (j_neg j_int) (jn 8)) (ja_cons (jn 5) (ja_cons (jn 6) (ja_cons (jn 7) ja_nil)))))))
    jss_nil)
    (jss_cons (js_if (jt_cmp (o_eq hu (K := K)) (jn 0) j_int)
    (jss_one (js_ret (j_tup (ja_cons (jn 4) (ja_cons (j_op o_sub (j_neg j_int) (jn 8)) (ja_cons (jn 6) (ja_cons (j_op (o_add (K := K)) (j_op (o_add (K := K)) (j_op (o_add (K := K)) (jn 3) j_int) (jn 8)) (jn 6)) ja_nil)))))))
    jss_nil)
    (jss_cons (js_if (jt_cmp (o_eq hu (K := K)) (jn 0) j_int)
    (jss_cons (js_set (i := 6) sc.nd rfl (Or.inl rfl) (j_op o_sub (j_neg j_int) (j_op o_mod (jn 1) (j_op (o_add (K := K)) (j_op o_sub (jn 3) (jn 5)) j_int))))
    (jss_one (js_ret (j_tup (ja_cons (jn 4) (ja_cons (jn 5) (ja_cons (jn 6) (ja_cons (j_callB (c_max rfl) rfl T.n_max boot_max (ja_cons j_int (ja_cons (j_op (o_add (K := K)) (j_op o_sub (jn 3) (jn 5)) (jn 6)) ja_nil))) ja_nil))))))))
    jss_nil)
    (jss_cons (js_if (jt_cmp (o_eq hu (K := K)) (jn 0) j_int)
    (jss_one (js_ret (j_tup (ja_cons (jn 4) (ja_cons (j_op (o_add (K := K)) (j_op (o_add (K := K)) (j_op o_sub (jn 3) (jn 4)) j_int) (j_op o_mod (jn 1) j_int)) (ja_cons (jn 6) (ja_cons (j_callB (c_max rfl) rfl T.n_max boot_max (ja_cons j_int (ja_cons (j_op (o_add (K := K)) (j_op o_sub (j_op o_sub (jn 4) j_int) (j_op o_mod (jn 1) j_int)) (jn 6)) ja_nil))) ja_nil)))))))
    jss_nil)
    (jss_cons (js_if (jt_cmp (o_eq hu (K := K)) (jn 0) j_int)
    (jss_one (js_ret (j_tup (ja_cons (j_op (o_add (K := K)) (j_op (o_add (K := K)) (j_op o_sub (jn 3) (jn 5)) j_int) (jn 8)) (ja_cons (jn 5) (ja_cons (jn 6) (ja_cons (jn 7) ja_nil)))))))
    jss_nil)
    (jss_cons (js_if (jt_cmp (o_eq hu (K := K)) (jn 0) j_int)
    (jss_one (js_ret (j_tup (ja_cons (jn 4) (ja_cons (jn 5) (ja_cons (jn 6) (ja_cons (j_op (o_add (K := K)) (j_op (o_add (K := K)) (jn 7) j_int) (jn 8)) ja_nil)))))))
    jss_nil)
    (jss_one (js_ret (j_tup (ja_cons (jn 4) (ja_cons (jn 5) (ja_cons (j_op (o_add (K := K)) (j_op (o_add (K := K)) (jn 6) j_int) (jn 8)) (ja_cons (jn 7) ja_nil))))))))))))))), ?_⟩
    refine ⟨t, _, rfl, hT, rfl, _, _, rfl, _, _, rfl, _, _, rfl, _, _, rfl, rfl, ?_⟩
    refine ⟨⟨by decide, by decide⟩, ⟨by decide, by decide, by decide⟩, ?_⟩
    have hp : (0 : Int) < (10 : Int) ^ ((59 : Int).toNat) := by decide +kernel
    refine ⟨hp, ?_⟩
    have f0 : 0 ≤ cell / 9 % (10 : Int) ^ ((59 : Int).toNat) := Int.emod_nonneg _ (by omega)
    have f1 : cell / 9 % (10 : Int) ^ ((59 : Int).toNat) < 10 ^ 60 := Int.lt_of_lt_of_le (Int.emod_lt_of_pos _ hp) (by decide +kernel)
    generalize cell / 9 % (10 : Int) ^ ((59 : Int).toNat) = far at f0 f1 ⊢
    have nat : ∀ k : Nat, k ≤ 5000 → Sml (k : Nat) := fun k hk => ⟨by omega, by omega⟩
    show if (false ^^ decide (((way : Nat) : Int) = 0)) = true then _ else _
    rw [Bool.false_xor]
    refine ite2 (fun h => ?_) (fun h => ?_)
    · exact ⟨(show 4 ≤ sizeLine by decide), fun p hp => q _ p (-1 - far) (gone : Nat) (come : Nat) (now : Nat) (same_new hp) upd_same (.inl (by omega)) (nat _ (by omega)) ⟨by omega, by omega⟩ (nat _ (by omega)) (nat _ (by omega))⟩
    show if (false ^^ decide (((way : Nat) : Int) = 1)) = true then _ else _
    rw [Bool.false_xor]
    refine ite2 (fun h => ?_) (fun h => ?_)
    · exact ⟨(show 4 ≤ sizeLine by decide), fun p hp => q _ p (at_ : Nat) (-1 - far) (come : Nat) (((size : Nat) : Int) + 1 + far + (come : Nat)) (same_new hp) upd_same (.inr (.inl (by omega))) ⟨by omega, by omega⟩ (nat _ (by omega)) ⟨by omega, by omega⟩ (nat _ (by omega))⟩
    show if (false ^^ decide (((way : Nat) : Int) = 2)) = true then _ else _
    rw [Bool.false_xor]
    refine ite2 (fun h => ?_) (fun h => ?_)
    · have hpos : (0 : Int) < ((size : Nat) : Int) - (gone : Nat) + 1 := by omega
      refine ⟨hpos, ?_⟩
      have g0 := Int.emod_nonneg cell (show ((size : Nat) : Int) - (gone : Nat) + 1 ≠ 0 by omega)
      have g1 := Int.emod_lt_of_pos cell hpos
      generalize cell % (((size : Nat) : Int) - (gone : Nat) + 1) = r at g0 g1 ⊢
      refine ⟨(show 4 ≤ sizeLine by decide), fun p hp => ?_⟩
      refine q _ p (at_ : Nat) (gone : Nat) (-1 - r) (max 0 (((size : Nat) : Int) - (gone : Nat) + (-1 - r))) (same_new hp) upd_same (.inr (.inr (.inl (by omega)))) ⟨by omega, by omega⟩ (nat _ (by omega)) (nat _ (by omega)) ⟨by omega, by omega⟩
    show if (false ^^ decide (((way : Nat) : Int) = 3)) = true then _ else _
    rw [Bool.false_xor]
    refine ite2 (fun h => ?_) (fun h => ?_)
    · refine ⟨by decide, by decide, ?_⟩
      have g0 := Int.emod_nonneg cell (show (9 : Int) ≠ 0 by decide)
      have g1 := Int.emod_lt_of_pos cell (show (0 : Int) < 9 by decide)
      generalize cell % 9 = r at g0 g1 ⊢
      refine ⟨(show 4 ≤ sizeLine by decide), fun p hp => ?_⟩
      exact q _ p (at_ : Nat) (((size : Nat) : Int) - (at_ : Nat) + 1 + r) (come : Nat) (max 0 (((at_ : Nat) : Int) - 1 - r + (come : Nat))) (same_new hp) upd_same (.inr (.inr (.inr (.inl (by omega))))) ⟨by omega, by omega⟩ (nat _ (by omega)) ⟨by omega, by omega⟩ (nat _ (by omega))
    show if (false ^^ decide (((way : Nat) : Int) = 4)) = true then _ else _
    rw [Bool.false_xor]
    refine ite2 (fun h => ?_) (fun h => ?_)
    · exact ⟨(show 4 ≤ sizeLine by decide), fun p hp => q _ p (((size : Nat) : Int) - (gone : Nat) + 1 + far) (gone : Nat) (come : Nat) (now : Nat) (same_new hp) upd_same (.inr (.inr (.inr (.inl (by omega))))) (nat _ (by omega)) ⟨by omega, by omega⟩ (nat _ (by omega)) (nat _ (by omega))⟩
    show if (false ^^ decide (((way : Nat) : Int) = 5)) = true then _ else _
    rw [Bool.false_xor]
    refine ite2 (fun h => ?_) (fun h => ?_)
    · exact ⟨(show 4 ≤ sizeLine by decide), fun p hp => q _ p (at_ : Nat) (gone : Nat) (come : Nat) (((now : Nat) : Int) + 1 + far) (same_new hp) upd_same (.inr (.inr (.inr (.inr (by omega))))) ⟨by omega, by omega⟩ (nat _ (by omega)) (nat _ (by omega)) (nat _ (by omega))⟩
    exact ⟨(show 4 ≤ sizeLine by decide), fun p hp => q _ p (at_ : Nat) (gone : Nat) (((come : Nat) : Int) + 1 + far) (now : Nat) (same_new hp) upd_same (.inr (.inr (.inr (.inr (by omega))))) (nat _ (by omega)) (nat _ (by omega)) (nat _ (by omega)) ⟨by omega, by omega⟩⟩
end
end K15

set_option Elab.async false
set_option linter.all false
set_option maxRecDepth 100000
set_option maxHeartbeats 4000000


namespace K15
open PySem PySem.Spec PyProof.Rows L2 Rg
section
variable {P : Program} {w : World} {K : PySem.W.Frag} {mg : Str → Option Value} {base : Heap} {c_law P_law : Addr} {C CG : Addr} {cs : List Addr}
abbrev st_law : Stmt := top 39
theorem sc_law : FnScope ["_law_script", "_law_many", "_law_book", "_law_at", "_law_gone", "_law_put", "_law_old", "_law_kept", "_law_ask", "_law_due", "_law_good", "_law_way", "_law_bad", "_law_low", "_law_again", "_law_new", "_law_text"] ["_law_script"] (defScope st_law) := ⟨rfl, rfl, rfl, by decide +kernel, rfl, by decide +kernel, by decide +kernel⟩
abbrev st_law__law_ask : Stmt := (defBody st_law).getD 9 (.Pass ⟨0, 0, 0, 0⟩)
theorem sn_law__law_ask : CloScope ["_law_k"] [] ["_law_new"] (defScope st_law__law_ask) := ⟨rfl, rfl, rfl, by decide +kernel, by decide +kernel, by decide +kernel, by decide +kernel, by decide +kernel⟩
abbrev q_law__law_ask : Str := (("law" : Str) ++ ".<locals>.") ++ "_law_ask"
abbrev le_law_L0 : Expr := (exArg (stVal ((defBody st_law).getD 7 (.Pass ⟨0, 0, 0, 0⟩))) 1)
theorem sn_law_L0 : CloScope ["_law_k"] [] ["_law_text"] (lamScope le_law_L0) := ⟨rfl, rfl, rfl, by decide +kernel, by decide +kernel, by decide +kernel, by decide +kernel, by decide +kernel⟩
abbrev q_law_L0 : Str := (("law" : Str) ++ ".<locals>.") ++ "<lambda>"
abbrev qs_law : List (Pos × Str) := [(ndPos st_law__law_ask, q_law__law_ask), (lamPos le_law_L0, q_law_L0)]
abbrev AKD : AKt := AKd "_law_ask" q_law__law_ask st_law__law_ask ["_law_new"]
abbrev AKL : AKt := AKl q_law_L0 le_law_L0 ["_law_text"]
theorem fv_ask (f : Addr) : FnV P w K mg base 1 f (spAskG AKD f) where
  fn := fun vs H Q E h => by
    obtain ⟨k, c, la, tx, as, rfl, ⟨_, cs, C⟩, _⟩ := h
    obtain ⟨cl, ⟨doc, pm, c', ctv, oc, vs, t, h1, _⟩, _⟩ := C.ex
    exact ⟨_, _, _, _, h1⟩
  run := fun A outer s H us vs Q E hr e0 r h => by
    obtain ⟨k, c, la, tx, as, rfl, hA, hc, hl, hl2, q⟩ := h
    obtain ⟨rfl, cs, C⟩ := id hA
    obtain ⟨u, rfl, ru⟩ := vals1 r
    have hb := big
    refine clo_run (k := 0) hr e0 C sn_law__law_ask (fun cl doc pm c' ctv => rfl) rfl r fun cd cl hr' => ?_
    have hu := hr'.units
    have sn := sn_law__law_ask
    refine ⟨_, (jss_one (js_ret (j_ix (o_ix hu (K := K) (w := w)) (jn 1) (jn 0)))), ?_⟩
    refine ⟨by rw [S_len]; omega, c, atI_text hc, ?_⟩
    show Q (.str (S [c])) (back cs H (rem cs H))
    rw [back_rem]
    exact q _ (Kq.refl H) hA
theorem fv_lam (f : Addr) : FnV P w K mg base 1 f (spAskG AKL f) where
  fn := fun vs H Q E h => by
    obtain ⟨k, c, la, tx, as, rfl, ⟨_, cs, C⟩, _⟩ := h
    exact C.fn
  run := fun A outer s H us vs Q E hr e0 r h => by
    obtain ⟨k, c, la, tx, as, rfl, hA, hc, hl, hl2, q⟩ := h
    obtain ⟨rfl, cs, C⟩ := id hA
    obtain ⟨u, rfl, ru⟩ := vals1 r
    have hb := big
    refine clo_runL (k := 0) hr e0 C sn_law_L0 (fun cl pm c' ctv => rfl) rfl r fun cd cl hr' => ?_
    have hu := hr'.units
    have sn := sn_law_L0
    refine ⟨_, (j_ix (o_ix hu (K := K) (w := w)) (jn 1) (jn 0)), ?_⟩
    refine ⟨by rw [S_len]; omega, c, atI_text hc, ?_⟩
    show Q (.str (S [c])) (back cs H (rem cs H))
    rw [back_rem]
    exact q _ (Kq.refl H) hA
theorem rem_seqT0 {K : PySem.W.Frag} {H H6 : Hp} {cs : List Addr} {os : List Obj} (nd : cs.Nodup) (hlc : os.length = cs.length) (hK : Kq none (froz cs os H) H6) : ∀ t xs', SqT K H6 t xs' → SqT K (rem cs H6) t xs' := fun t xs' h => by
  have kn : ∀ c ∈ cs, ∃ o, Kn H6 c o := fun c m => by
    obtain ⟨j, o, h1, h2, h3⟩ := froz_in (H := H) nd hlc m
    have h3' : froz cs os H c = some (.frz o anyHO) := h3
    exact ⟨o, hK c _ (fun z => nomatch z) h3'⟩
  rcases h with h | h
  · refine .inl ?_
    rcases h with h | ⟨o, h⟩
    · exact .inl (by rw [rem_out (kn_not kn h fun o z => by cases z)]; exact h)
    · exact .inr ⟨o, by rw [rem_out (kn_not kn h fun o z => by cases z)]; exact h⟩
  · exact .inr h
theorem pow59 (c : Int) : 0 ≤ c % (10 : Int) ^ ((59 : Int).toNat) ∧ c % (10 : Int) ^ ((59 : Int).toNat) < 10 ^ 60 := by
  have hp : (0 : Int) < (10 : Int) ^ ((59 : Int).toNat) := by decide +kernel
  exact ⟨Int.emod_nonneg _ (by omega), Int.lt_of_lt_of_le (Int.emod_lt_of_pos _ hp) (by decide +kernel)⟩
theorem at3 (x y z : V) (c : Int) : ∃ v, atI [x, y, z] (c % 3) = some v ∧ (v = x ∨ v = y ∨ v = z) := by
  have h : c % 3 = 0 ∨ c % 3 = 1 ∨ c % 3 = 2 := by omega
  rcases h with e | e | e <;> rw [e]
  · exact ⟨x, rfl, .inl rfl⟩
  · exact ⟨y, rfl, .inr (.inl rfl)⟩
  · exact ⟨z, rfl, .inr (.inr rfl)⟩
def spLaw (Pt : Addr) (K : PySem.W.Frag) : Sp := fun vs H Q _ => ∃ (a : Addr) (ns : List Int), vs = [.ref a] ∧ SqL K H a (ns.map V.int) ∧ ns.length ≤ 63 ∧ TabOk H Pt qs_law ∧ ∀ H', Q (.bl true) H'
theorem def_law (R : RawC K mg "law" st_law ["_law_script"] c_law P_law) (B : BMain mg base) (T : Txt K w mg) (D__law_cell_at : Def P w K mg base 1 "_law_cell_at" ["_law_script", "_law_k"] (spCell K)) (D__law_sign : Def P w K mg base 1 "_law_sign" ["_law_cell"] spSign) (D__law_entry : Def P w K mg base 2 "_law_entry" ["_law_cell"] (spEntry K))
    (D__law_spoilt : Def P w K mg base 1 "_law_spoilt" ["_law_way", "_law_cell", "_law_told", "_law_size"] (spSpoilt K)) (D__law_refused : Def P w K mg base 8 "_law_refused" ["_law_book", "_law_ask", "_law_told", "_law_old"] (spRef K))
    (D_words_again : Def P w K mg base 7 "words_again" ["book", "ask", "size", "old", "at", "gone", "come"] (spAgainW K AKD)) (D_words_of : Def P w K mg base 7 "words_of" ["book", "ask", "size"] (spWords K AKL)) : Def P w K mg base 9 "law" ["_law_script"] (spLaw P_law K) := by
  refine R.defJ sc_law (fun vs H Q E h => ?_) (fun f A outer s H vs Q E hr h => ?_)
  · obtain ⟨a, ns, rfl, _⟩ := h
    rfl
  · obtain ⟨a, ns, rfl, hS, hn, hTl, q⟩ := h
    have sc := sc_law
    have hu := hr.units
    have hb := big
    obtain ⟨u15, hP15, hq15⟩ : ∃ u, JSs (cxOf CX0 P w K mg base ["_law_script", "_law_many", "_law_book", "_law_at", "_law_gone", "_law_put", "_law_old", "_law_kept", "_law_ask", "_law_due", "_law_good", "_law_way", "_law_bad", "_law_low", "_law_again", "_law_new", "_law_text"] "law" (defScope st_law) f (.ref c_law) A outer s H E).nox ((defBody st_law).drop 15) u ∧
        ∀ (H1 : Hp) (mn : Nat) (D ro kp fa du gd t : Addr) (ys ws wd : List V) (es : List Ent) (l put : List Nat) (at_ gone : Nat) (wy : V) (lo : Option V) (ba bg bc bn : Int), H1 D = some (.lst ys) → DatVs K H1 ys (es.map Ent.dat) → (∀ e ∈ es, e.Ok) → es.length ≤ 5 → l.length ≤ 63 → put.length ≤ 4 → at_ + gone ≤ l.length → (∀ n, n ≤ 300 → (4 * n + 6) * costB es n ≤ 15800000) →
          H1 ro = some (.lst ws) → H1 kp = some (.lst ws) → DatVs K H1 ws ((wordsGo es l 0).map Wd.dat) → H1 du = some (.lst wd) → DatVs K H1 wd ((wordsGo es (chg l put at_ gone) 0).map Wd.dat) → Made H1 fa "_law_ask" q_law__law_ask st_law__law_ask (closOf (cxOf CX0 P w K mg base ["_law_script", "_law_many", "_law_book", "_law_at", "_law_gone", "_law_put", "_law_old", "_law_kept", "_law_ask", "_law_due", "_law_good", "_law_way", "_law_bad", "_law_low", "_law_again", "_law_new", "_law_text"] "law" (defScope st_law) f (.ref c_law) A outer s H E).env (defScope st_law__law_ask).names []) →
          SqT K H1 t [.int ba, .int bg, .int bc, .int bn] → Bad (l.length : Nat) bn ba bg bc → Sml bn → Sml ba → Sml bg → Sml bc →
          u { nx := fun _ H' => Q .non H', rt := Q } [some (.ref a), some (.int (mn : Nat)), some (.ref D), some (.int (at_ : Nat)), some (.int (gone : Nat)), some (.str (S put)), some (.ref ro), some (.ref kp), some (.ref fa), some (.ref du), some (.ref gd), some wy, some (.ref t), lo, none, some (.str (S (chg l put at_ gone))), some (.str (S l))] H1 := by
      refine ⟨_, (jss_cons (js_if (jw_t (jw_or (jt_not (jt_val (j_defC ["_law_new"] [15] D__law_refused (hr.mono (by decide)) rfl (ja_cons (jn 2) (ja_cons (jn 8) (ja_cons (jn 12) (ja_cons (jn 6) ja_nil)))) (by rfl)))) (jw_or1 (jt_cmp (o_ne hu (K := K)) (jn 6) (jn 7)))))
    (jss_one (js_ret j_bl))
    jss_nil)
    (jss_cons (js_set (i := 14) sc.nd rfl (Or.inl rfl) (j_defC ["_law_new"] [15] D_words_again (hr.mono (by decide)) rfl (ja_cons (jn 2) (ja_cons (jn 8) (ja_cons (j_callB (c_len (K := K)) rfl T.n_len PySem.boot_len (ja_cons (jn 15) ja_nil)) (ja_cons (jn 6) (ja_cons (jn 3) (ja_cons (jn 4) (ja_cons (j_callB (c_len (K := K)) rfl T.n_len PySem.boot_len (ja_cons (jn 5) ja_nil)) ja_nil))))))) (by rfl)))
    (jss_one (js_ret (j_and (j_cmp (o_eq hu (K := K)) (jn 14) (jn 9)) (j_one (j_cmp (o_eq hu (K := K)) (jn 6) (jn 7)))))))), fun H1 mn D ro kp fa du gd t ys ws wd es l put at_ gone wy lo ba bg bc bn hD hd hok hes hll hpl hag hcost hro hkp hDo hdu hDd hM hTt hbad sn sa sg sm => ?_⟩
      have hcl := chg_len (put := put) hag
      have hk1 := words_kok hok l 0
      have hk2 := words_kok hok (chg l put at_ gone) 0
      obtain ⟨hWl, _⟩ := wordsGo_len es l _ 0 (Nat.le_refl _) (Nat.zero_le _)
      have hend := endp_words es l _ 0 (Nat.le_refl _) (Nat.zero_le _)
      refine ⟨fun i hi => ?_, fun cs os F hn' => ?_⟩
      · rw [List.mem_singleton.mp hi]
        exact ⟨_, rfl⟩
      have hlc : os.length = cs.length := F.l2.trans F.l1.symm
      have sf : Same H1 (froz cs os H1) := same_froz0 hn'
      refine ⟨_, _, t, ro, ws, wordsGo es l 0, bn, ba, bg, bc, rfl, sf.seqT hTt, sf.seq (SqL.of hro), hDo.same sf, by omega, by omega, by rw [hend]; exact hbad, sn, sa, sg, sm, fun H2 s2 => ?_⟩
      have s3 : Same H1 (rem cs H2) := (kq_rem (la := none) hn' (Kq.of s2)).same
      dsimp only
      generalize rem cs H2 = H3 at s3 ⊢
      clear s2 sf F hlc hn'
      have lay1 := wdl_lay hk1
      have lay2 := wdl_lay hk2
      refine ⟨_, _, .list (s3.seq (SqL.of hro)) (hDo.same s3), .list (s3.seq (SqL.of hkp)) (hDo.same s3), lay1, lay1, by have := wdl_depth (wordsGo es l 0); omega, ?_⟩
      rw [SeqAt.eqv_refl _ lay1]
      refine ⟨by rw [S_len]; omega, by rw [S_len]; omega, ?_⟩
      rw [S_len, S_len]
      refine ⟨fun i hi => ?_, fun cs os F hn' => ?_⟩
      · rw [List.mem_singleton.mp hi]
        exact ⟨_, rfl⟩
      have hlc : os.length = cs.length := F.l2.trans F.l1.symm
      have CA := lent2 (ws := [.str (S (chg l put at_ gone))]) (made_same hM s3) F hn' sc.nd (by decide +kernel) (by decide +kernel) (by decide +kernel) rfl (fun j hj => match j, hj with | 0, _ => ⟨15, rfl, rfl⟩)
      have hA : AKD (froz cs os H3) fa none (chg l put at_ gone) [] := ⟨rfl, cs, CA⟩
      refine ⟨D, fa, ro, none, H3, ys, ws, es, l, put, [], at_, gone, rfl, SqL.of (s3 _ _ hD), hd.same s3, SqL.of (s3 _ _ hro), hDo.same s3, ⟨(fun _ z => nomatch z), same_froz0 hn'⟩, hok, by omega, hag, by omega, by omega, by have := hcost (chg l put at_ gone).length (by omega); simpa using this, hA, fun H6 r2 ws2 zs hK6 hA6 hz hr0 hr6 hD6 => ?_⟩
      have rc : r2 ∉ cs := froz_none F.nd hlc hr0
      have s7 : Same H3 (rem cs H6) := (kq_rem hn' hK6).same
      have h7r : rem cs H6 r2 = some (.lst ws2) := by rw [rem_out rc]; exact hr6
      have hD7 := wds_T (rem_seqT0 F.nd hlc hK6) hD6
      dsimp only
      generalize rem cs H6 = H7 at s7 h7r hD7 ⊢
      have sA := s3.trans s7
      refine ⟨_, _, .list (SqL.of h7r) hD7, .list (sA.seq (SqL.of hdu)) (hDd.same sA), lay2, lay2, by have := wdl_depth (wordsGo es (chg l put at_ gone) 0); omega, ?_⟩
      rw [SeqAt.eqv_refl _ lay2]
      refine ⟨_, _, .list (sA.seq (SqL.of hro)) (hDo.same sA), .list (sA.seq (SqL.of hkp)) (hDo.same sA), lay1, lay1, by have := wdl_depth (wordsGo es l 0); omega, ?_⟩
      rw [SeqAt.eqv_refl _ lay1]
      exact q _
    obtain ⟨u8, hP8, hq8⟩ : ∃ u, JSs (cxOf CX0 P w K mg base ["_law_script", "_law_many", "_law_book", "_law_at", "_law_gone", "_law_put", "_law_old", "_law_kept", "_law_ask", "_law_due", "_law_good", "_law_way", "_law_bad", "_law_low", "_law_again", "_law_new", "_law_text"] "law" (defScope st_law) f (.ref c_law) A outer s H E).nox ((defBody st_law).drop 8) u ∧
        ∀ (H1 : Hp) (mn : Nat) (D ro : Addr) (ys ws : List V) (es : List Ent) (l put : List Nat) (at_ gone : Nat), SqL K H1 a (ns.map V.int) → TabOk H1 P_law qs_law → H1 D = some (.lst ys) → DatVs K H1 ys (es.map Ent.dat) → (∀ e ∈ es, e.Ok) → es.length ≤ 5 → l.length ≤ 63 → put.length ≤ 4 → at_ + gone ≤ l.length → (∀ n, n ≤ 300 → (4 * n + 6) * costB es n ≤ 15800000) →
          H1 ro = some (.lst ws) → DatVs K H1 ws ((wordsGo es l 0).map Wd.dat) →
          u { nx := fun _ H' => Q .non H', rt := Q } [some (.ref a), some (.int (mn : Nat)), some (.ref D), some (.int (at_ : Nat)), some (.int (gone : Nat)), some (.str (S put)), some (.ref ro), none, none, none, none, none, none, none, none, some (.str (S (chg l put at_ gone))), some (.str (S l))] H1 := by
      refine ⟨_, (jss_cons (js_set (i := 7) sc.nd rfl (Or.inl rfl) (j_callTy (c_list (K := K)) rfl T.n_list boot_list (ja_cons (jn 6) ja_nil)))
    (jss_cons (js_ndefs (i := 8) (c := c_law) (Pt := P_law) (qs := qs_law) (st := st_law__law_ask) (qual := q_law__law_ask) sc.nd rfl (Or.inl rfl) rfl R.hd B rfl rfl (by decide +kernel) (by decide +kernel) rfl)
    (jss_cons (js_set (i := 9) sc.nd rfl (Or.inl rfl) (j_defC ["_law_new"] [15] D_words_again (hr.mono (by decide)) rfl (ja_cons (jn 2) (ja_cons (jn 8) (ja_cons (j_callB (c_len (K := K)) rfl T.n_len PySem.boot_len (ja_cons (jn 15) ja_nil)) (ja_cons (jn 6) (ja_cons (jn 3) (ja_cons (jn 4) (ja_cons (j_callB (c_len (K := K)) rfl T.n_len PySem.boot_len (ja_cons (jn 5) ja_nil)) ja_nil))))))) (by rfl)))
    (jss_cons (js_set (i := 10) sc.nd rfl (Or.inl rfl) (j_tup (ja_cons (jn 3) (ja_cons (jn 4) (ja_cons (j_callB (c_len (K := K)) rfl T.n_len PySem.boot_len (ja_cons (jn 5) ja_nil)) (ja_cons (j_callB (c_len (K := K)) rfl T.n_len PySem.boot_len (ja_cons (jn 15) ja_nil)) ja_nil))))))
    (jss_cons (js_set (i := 11) sc.nd rfl (Or.inl rfl) (j_op o_mod (j_def D__law_cell_at (hr.mono (by decide)) rfl (ja_cons (jn 0) (ja_cons j_int ja_nil))) j_int))
    (jss_cons (js_set (i := 12) sc.nd rfl (Or.inl rfl) (j_def D__law_spoilt (hr.mono (by decide)) rfl (ja_cons (jn 11) (ja_cons (j_def D__law_cell_at (hr.mono (by decide)) rfl (ja_cons (jn 0) (ja_cons j_int ja_nil))) (ja_cons (jn 10) (ja_cons (j_callB (c_len (K := K)) rfl T.n_len PySem.boot_len (ja_cons (jn 16) ja_nil)) ja_nil))))))
    (jss_cons (js_if (jt_cmp (o_eq hu (K := K)) (j_op o_mod (j_op o_div (j_def D__law_cell_at (hr.mono (by decide)) rfl (ja_cons (jn 0) (ja_cons j_int ja_nil))) j_int) j_int) j_int)
    (jss_cons (js_set (i := 13) sc.nd rfl (Or.inl rfl) (j_op o_sub (j_neg j_int) (j_op o_mod (j_def D__law_cell_at (hr.mono (by decide)) rfl (ja_cons (jn 0) (ja_cons j_int ja_nil))) (j_op o_pow j_int j_int))))
    (jss_one (js_set (i := 12) sc.nd rfl (Or.inl rfl) (j_ix (o_ix hu (K := K) (w := w)) (j_lst (ja_cons (j_op (o_add (K := K)) (j_tup (ja_cons (jn 13) ja_nil)) (j_slice (o_slA (K := K)) (jn 12) (jo_some j_int) jo_none)) (ja_cons (j_op (o_add (K := K)) (j_tup (ja_cons (j_ix (o_ix hu (K := K) (w := w)) (jn 12) j_int) (ja_cons (jn 13) ja_nil))) (j_slice (o_slA (K := K)) (jn 12) (jo_some j_int) jo_none)) (ja_cons (j_op (o_add (K := K)) (j_slice (o_slA (K := K)) (jn 12) jo_none (jo_some j_int)) (j_tup (ja_cons (jn 13) (ja_cons (j_ix (o_ix hu (K := K) (w := w)) (jn 12) j_int) ja_nil)))) ja_nil)))) (j_op o_mod (j_def D__law_cell_at (hr.mono (by decide)) rfl (ja_cons (jn 0) (ja_cons j_int ja_nil))) j_int)))))
    jss_nil)
    hP15))))))), fun H1 mn D ro ys ws es l put at_ gone hSa hT1 hD hd hok hes hll hpl hag hcost hro hDo => ?_⟩
      have hcl := chg_len (put := put) hag
      refine ⟨_, .inl (SqL.of hro), fun kp hkp => ?_⟩
      have s2 : Same H1 (upd H1 kp (.lst ws)) := same_new hkp
      have h2 : upd H1 kp (.lst ws) kp = some (.lst ws) := upd_same
      generalize upd H1 kp (.lst ws) = H2 at s2 h2 ⊢
      have hT2 := Rg.TabOk.grow hT1 s2
      obtain ⟨pl2, hpl2⟩ := Rg.TabOk.tab hT2
      refine ⟨hT2, fun fa H3 hfa sm3 hT3 hM => ?_⟩
      have nt23 : Nt H2 H3 := Nt.smb sm3 hpl2
      have nt13 : Nt H1 H3 := (Nt.of s2).trans nt23
      have hD3 := nt13 _ _ (fun _ z => by cases z) hD
      have hd3 := datvs_nt nt13 hd
      have hro3 := nt13 _ _ (fun _ z => by cases z) hro
      have hDo3 := datvs_nt nt13 hDo
      have hkp3 := nt23 _ _ (fun _ z => by cases z) h2
      have hSa3 := nt13.seq hSa
      clear nt13 nt23 hT3 hpl2 sm3 hfa hT2 h2 s2 hDo hro hd hD hT1 hSa
      refine ⟨by rw [S_len]; omega, by rw [S_len]; omega, ?_⟩
      rw [S_len, S_len]
      refine ⟨fun i hi => ?_, fun cs os F hn' => ?_⟩
      · rw [List.mem_singleton.mp hi]
        exact ⟨_, rfl⟩
      have hlc : os.length = cs.length := F.l2.trans F.l1.symm
      have CA := lent2 (ws := [.str (S (chg l put at_ gone))]) hM F hn' sc.nd (by decide +kernel) (by decide +kernel) (by decide +kernel) rfl (fun j hj => match j, hj with | 0, _ => ⟨15, rfl, rfl⟩)
      have hA : AKD (froz cs os H3) fa none (chg l put at_ gone) [] := ⟨rfl, cs, CA⟩
      refine ⟨D, fa, ro, none, H3, ys, ws, es, l, put, [], at_, gone, rfl, SqL.of hD3, hd3, SqL.of hro3, hDo3, ⟨(fun _ z => nomatch z), same_froz0 hn'⟩, hok, by omega, hag, by omega, by omega, by have := hcost (chg l put at_ gone).length (by omega); simpa using this, hA, fun H6 r2 ws2 zs hK6 hA6 hz hr0 hr6 hD6 => ?_⟩
      have rc : r2 ∉ cs := froz_none F.nd hlc hr0
      have s7 : Same H3 (rem cs H6) := (kq_rem hn' hK6).same
      have h7r : rem cs H6 r2 = some (.lst ws2) := by rw [rem_out rc]; exact hr6
      have hD7 := wds_T (rem_seqT0 F.nd hlc hK6) hD6
      dsimp only
      generalize rem cs H6 = H7 at s7 h7r hD7 ⊢
      clear hK6 hA6 hz hr0 hr6 hD6 hA CA rc F hlc hn'
      refine ⟨by rw [S_len]; omega, by rw [S_len]; omega, ?_⟩
      rw [S_len, S_len]
      refine ⟨(show 4 ≤ sizeLine by decide), fun gd hgd => ?_⟩
      have s8 : Same H7 (upd H7 gd (.tup [.int (at_ : Nat), .int (gone : Nat), .int (put.length : Nat), .int ((chg l put at_ gone).length : Nat)])) := same_new hgd
      have h8 : upd H7 gd (.tup [.int (at_ : Nat), .int (gone : Nat), .int (put.length : Nat), .int ((chg l put at_ gone).length : Nat)]) gd = some (.tup [.int (at_ : Nat), .int (gone : Nat), .int (put.length : Nat), .int ((chg l put at_ gone).length : Nat)]) := upd_same
      generalize upd H7 gd (.tup [.int (at_ : Nat), .int (gone : Nat), .int (put.length : Nat), .int ((chg l put at_ gone).length : Nat)]) = H8 at s8 h8 ⊢
      have s38 := s7.trans s8
      refine ⟨a, ns, 4, rfl, s38.seq hSa3, by decide, ?_⟩
      obtain ⟨wy, ewy, hwy⟩ : ∃ m : Nat, ns.getD 4 0 % 7 = (m : Nat) ∧ m < 7 := ⟨(ns.getD 4 0 % 7).toNat, by omega, by omega⟩
      rw [ewy]
      refine ⟨a, ns, 5, rfl, s38.seq hSa3, ?_⟩
      refine ⟨by rw [S_len]; omega, ?_⟩
      rw [S_len]
      refine ⟨wy, ns.getD 5 0, gd, at_, gone, put.length, (chg l put at_ gone).length, l.length, rfl, SqT.of h8, hwy, hag, by omega, by omega, by omega, fun H9 t ba bg bc bn s9 h9 hbad sn sa sg sm => ?_⟩
      have s39 := s38.trans s9
      have s79 := s8.trans s9
      refine ⟨a, ns, 4, rfl, s39.seq hSa3, ⟨by decide, by decide⟩, by decide, ?_⟩
      show if (false ^^ decide (ns.getD 4 0 / 7 % 2 = 1)) = true then _ else _
      rw [Bool.false_xor]
      refine ite2 (fun h => ?_) (fun h => ?_)
      · refine ⟨a, ns, 7, rfl, s39.seq hSa3, ⟨by decide, by decide, by decide⟩, (by decide +kernel), ?_⟩
        obtain ⟨f0, f1⟩ := pow59 (ns.getD 7 0)
        generalize ns.getD 7 0 % (10 : Int) ^ ((59 : Int).toNat) = far at f0 f1 ⊢
        have slo : Sml (-1 - far) := ⟨by omega, by omega⟩
        refine ⟨(show 1 ≤ sizeLine by decide), fun t1 ht1 => ?_⟩
        have z1 : Same H9 (upd H9 t1 (.tup [.int (-1 - far)])) := same_new ht1
        have y1 : upd H9 t1 (.tup [.int (-1 - far)]) t1 = some (.tup [.int (-1 - far)]) := upd_same
        dsimp only
        generalize upd H9 t1 (.tup [.int (-1 - far)]) = G1 at z1 y1 ⊢
        refine .inr ⟨_, SqT.of (z1 _ _ h9), (show ¬(HT.sIx 4 0 (some 1) = 0 ∧ HT.sIx 4 4 none = 4) by decide +kernel), fun t2 ht2 => ?_⟩
        rw [show cutV [V.int ba, .int bg, .int bc, .int bn] (some 1) none = [.int bg, .int bc, .int bn] from rfl]
        have z2 : Same G1 (upd G1 t2 (.tup [.int bg, .int bc, .int bn])) := same_new ht2
        have y2 : upd G1 t2 (.tup [.int bg, .int bc, .int bn]) t2 = some (.tup [.int bg, .int bc, .int bn]) := upd_same
        dsimp only
        generalize upd G1 t2 (.tup [.int bg, .int bc, .int bn]) = G2 at z2 y2 ⊢
        have x2 := z1.trans z2
        refine .inr ⟨_, _, SqT.of (z2 _ _ y1), SqT.of y2, (by simp), (show 4 ≤ sizeLine by decide), (fun z => nomatch z), fun _ t3 ht3 => ?_⟩
        rw [show [V.int (-1 - far)] ++ [V.int bg, .int bc, .int bn] = [.int (-1 - far), .int bg, .int bc, .int bn] from rfl]
        have z3 : Same G2 (upd G2 t3 (.tup [.int (-1 - far), .int bg, .int bc, .int bn])) := same_new ht3
        have y3 : upd G2 t3 (.tup [.int (-1 - far), .int bg, .int bc, .int bn]) t3 = some (.tup [.int (-1 - far), .int bg, .int bc, .int bn]) := upd_same
        dsimp only
        generalize upd G2 t3 (.tup [.int (-1 - far), .int bg, .int bc, .int bn]) = G3 at z3 y3 ⊢
        have x3 := x2.trans z3
        refine .inr ⟨_, _, SqT.of (x3 _ _ h9), atI_nat (j := 0) rfl, ?_⟩
        refine ⟨(show 2 ≤ sizeLine by decide), fun t4 ht4 => ?_⟩
        have z4 : Same G3 (upd G3 t4 (.tup [.int ba, .int (-1 - far)])) := same_new ht4
        have y4 : upd G3 t4 (.tup [.int ba, .int (-1 - far)]) t4 = some (.tup [.int ba, .int (-1 - far)]) := upd_same
        dsimp only
        generalize upd G3 t4 (.tup [.int ba, .int (-1 - far)]) = G4 at z4 y4 ⊢
        have x4 := x3.trans z4
        refine .inr ⟨_, SqT.of (x4 _ _ h9), (show ¬(HT.sIx 4 0 (some 2) = 0 ∧ HT.sIx 4 4 none = 4) by decide +kernel), fun t5 ht5 => ?_⟩
        rw [show cutV [V.int ba, .int bg, .int bc, .int bn] (some 2) none = [.int bc, .int bn] from rfl]
        have z5 : Same G4 (upd G4 t5 (.tup [.int bc, .int bn])) := same_new ht5
        have y5 : upd G4 t5 (.tup [.int bc, .int bn]) t5 = some (.tup [.int bc, .int bn]) := upd_same
        dsimp only
        generalize upd G4 t5 (.tup [.int bc, .int bn]) = G5 at z5 y5 ⊢
        have x5 := x4.trans z5
        refine .inr ⟨_, _, SqT.of (z5 _ _ y4), SqT.of y5, (by simp), (show 4 ≤ sizeLine by decide), (fun z => nomatch z), fun _ t6 ht6 => ?_⟩
        rw [show [V.int ba, .int (-1 - far)] ++ [V.int bc, .int bn] = [.int ba, .int (-1 - far), .int bc, .int bn] from rfl]
        have z6 : Same G5 (upd G5 t6 (.tup [.int ba, .int (-1 - far), .int bc, .int bn])) := same_new ht6
        have y6 : upd G5 t6 (.tup [.int ba, .int (-1 - far), .int bc, .int bn]) t6 = some (.tup [.int ba, .int (-1 - far), .int bc, .int bn]) := upd_same
        dsimp only
        generalize upd G5 t6 (.tup [.int ba, .int (-1 - far), .int bc, .int bn]) = G6 at z6 y6 ⊢
        have x6 := x5.trans z6
        refine .inr ⟨_, SqT.of (x6 _ _ h9), (show ¬(HT.sIx 4 0 none = 0 ∧ HT.sIx 4 4 (some 2) = 4) by decide +kernel), fun t7 ht7 => ?_⟩
        rw [show cutV [V.int ba, .int bg, .int bc, .int bn] none (some 2) = [.int ba, .int bg] from rfl]
        have z7 : Same G6 (upd G6 t7 (.tup [.int ba, .int bg])) := same_new ht7
        have y7 : upd G6 t7 (.tup [.int ba, .int bg]) t7 = some (.tup [.int ba, .int bg]) := upd_same
        dsimp only
        generalize upd G6 t7 (.tup [.int ba, .int bg]) = G7 at z7 y7 ⊢
        have x7 := x6.trans z7
        refine .inr ⟨_, _, SqT.of (x7 _ _ h9), atI_nat (j := 3) rfl, ?_⟩
        refine ⟨(show 2 ≤ sizeLine by decide), fun t8 ht8 => ?_⟩
        have z8 : Same G7 (upd G7 t8 (.tup [.int (-1 - far), .int bn])) := same_new ht8
        have y8 : upd G7 t8 (.tup [.int (-1 - far), .int bn]) t8 = some (.tup [.int (-1 - far), .int bn]) := upd_same
        dsimp only
        generalize upd G7 t8 (.tup [.int (-1 - far), .int bn]) = G8 at z8 y8 ⊢
        have x8 := x7.trans z8
        refine .inr ⟨_, _, SqT.of (z8 _ _ y7), SqT.of y8, (by simp), (show 4 ≤ sizeLine by decide), (fun z => nomatch z), fun _ t9 ht9 => ?_⟩
        rw [show [V.int ba, .int bg] ++ [V.int (-1 - far), .int bn] = [.int ba, .int bg, .int (-1 - far), .int bn] from rfl]
        have z9 : Same G8 (upd G8 t9 (.tup [.int ba, .int bg, .int (-1 - far), .int bn])) := same_new ht9
        have y9 : upd G8 t9 (.tup [.int ba, .int bg, .int (-1 - far), .int bn]) t9 = some (.tup [.int ba, .int bg, .int (-1 - far), .int bn]) := upd_same
        dsimp only
        generalize upd G8 t9 (.tup [.int ba, .int bg, .int (-1 - far), .int bn]) = G9 at z9 y9 ⊢
        have x9 := x8.trans z9
        refine ⟨(show 3 ≤ sizeLine by decide), fun t10 ht10 => ?_⟩
        have z10 : Same G9 (upd G9 t10 (.lst [.ref t3, .ref t6, .ref t9])) := same_new ht10
        have y10 : upd G9 t10 (.lst [.ref t3, .ref t6, .ref t9]) t10 = some (.lst [.ref t3, .ref t6, .ref t9]) := upd_same
        generalize upd G9 t10 (.lst [.ref t3, .ref t6, .ref t9]) = G10 at z10 y10 ⊢
        have x10 := x9.trans z10
        have w3 := (((((((z4.trans z5).trans z6).trans z7).trans z8).trans z9).trans z10)) _ _ y3
        have w6 := (((z7.trans z8).trans z9).trans z10) _ _ y6
        have w9 := z10 _ _ y9
        have sB := s39.trans x10
        have sC := s79.trans x10
        obtain ⟨v, ev, hv⟩ := at3 (.ref t3) (.ref t6) (.ref t9) (ns.getD 6 0)
        refine ⟨a, ns, 6, rfl, sB.seq hSa3, by decide, .inl ⟨_, v, SqL.of y10, ev, ?_⟩⟩
        rcases hv with rfl | rfl | rfl
        · exact hq15 G10 mn D ro kp fa r2 gd t3 ys ws ws2 es l put at_ gone _ _ (-1 - far) bg bc bn (sB _ _ hD3) (hd3.same sB) hok hes hll hpl hag hcost (sB _ _ hro3) (sB _ _ hkp3) (hDo3.same sB) (sC _ _ h7r) (hD7.same sC) (made_same hM sB) (SqT.of w3) (.inl (by omega)) sn slo sg sm
        · exact hq15 G10 mn D ro kp fa r2 gd t6 ys ws ws2 es l put at_ gone _ _ ba (-1 - far) bc bn (sB _ _ hD3) (hd3.same sB) hok hes hll hpl hag hcost (sB _ _ hro3) (sB _ _ hkp3) (hDo3.same sB) (sC _ _ h7r) (hD7.same sC) (made_same hM sB) (SqT.of w6) (.inr (.inl (by omega))) sn sa slo sm
        · exact hq15 G10 mn D ro kp fa r2 gd t9 ys ws ws2 es l put at_ gone _ _ ba bg (-1 - far) bn (sB _ _ hD3) (hd3.same sB) hok hes hll hpl hag hcost (sB _ _ hro3) (sB _ _ hkp3) (hDo3.same sB) (sC _ _ h7r) (hD7.same sC) (made_same hM sB) (SqT.of w9) (.inr (.inr (.inl (by omega)))) sn sa sg slo
      · exact hq15 H9 mn D ro kp fa r2 gd t ys ws ws2 es l put at_ gone _ none ba bg bc bn (s39 _ _ hD3) (hd3.same s39) hok hes hll hpl hag hcost (s39 _ _ hro3) (s39 _ _ hkp3) (hDo3.same s39) ((s8.trans s9) _ _ h7r) (hD7.same s79) (made_same hM s39) (SqT.of h9) hbad sn sa sg sm
    obtain ⟨mn, emn, hmn⟩ : ∃ m : Nat, ns.getD 0 0 % 6 = (m : Nat) ∧ m ≤ 5 := ⟨(ns.getD 0 0 % 6).toNat, by omega, by omega⟩
    refine ⟨_, (jss_cons (js_set (i := 1) sc.nd rfl (Or.inl rfl) (j_op o_mod (j_def D__law_cell_at (hr.mono (by decide)) rfl (ja_cons (jn 0) (ja_cons j_int ja_nil))) j_int))
    (jss_cons (js_comp (i := 2) (N := ["_law_k", "_law_script"]) (cap := [none, some 0]) rfl (CompScope.of rfl (by rfl)) (ji_rng1 rfl T.n_range (ja_cons (jn 1) ja_nil)) (fun _ _ _ _ => (jg_name (i := 0) (show List.Nodup [("_law_k" : Str), ("_law_script" : Str)] by decide +kernel) rfl (Or.inl rfl))) (fun _ _ _ _ => jts_nil) (fun _ _ _ _ => (j_def D__law_entry (hr.mono (by decide)) rfl (ja_cons (j_def D__law_cell_at (hr.mono (by decide)) rfl (ja_cons (jn 1) (ja_cons (j_op (o_add (K := K)) j_int (jn 0)) ja_nil))) ja_nil))) sc.nd rfl rfl)
    (jss_cons (js_set (i := 16) sc.nd rfl (Or.inr rfl) (j_bm (K := K) PySem.F.plainAttrs_str PySem.F.slot_str_join PySem.F.type_str_join (m_join (K := K)) j_str (ja_cons (j_comp (N := ["_law_cell"]) (cap := [none]) rfl (CompScope.of rfl (by rfl)) (ji_any (K := K) (j_slice (o_slA (K := K)) (jn 0) (jo_some (j_op (o_add (K := K)) j_int (jn 1))) (jo_some (j_op (o_add (K := K)) j_int (jn 1))))) (fun _ _ _ _ => (jg_name (i := 0) (show List.Nodup [("_law_cell" : Str)] by decide +kernel) rfl (Or.inl rfl))) (fun _ _ _ _ => jts_nil) (fun _ _ _ _ => (j_def D__law_sign (hr.mono (by decide)) rfl (ja_cons (jn 0) ja_nil)))) ja_nil)))
    (jss_cons (js_set (i := 3) sc.nd rfl (Or.inl rfl) (j_op o_mod (j_def D__law_cell_at (hr.mono (by decide)) rfl (ja_cons (jn 0) (ja_cons j_int ja_nil))) (j_op (o_add (K := K)) (j_callB (c_len (K := K)) rfl T.n_len PySem.boot_len (ja_cons (jn 16) ja_nil)) j_int)))
    (jss_cons (js_set (i := 4) sc.nd rfl (Or.inl rfl) (j_op o_mod (j_def D__law_cell_at (hr.mono (by decide)) rfl (ja_cons (jn 0) (ja_cons j_int ja_nil))) (j_op (o_add (K := K)) (j_op o_sub (j_callB (c_len (K := K)) rfl T.n_len PySem.boot_len (ja_cons (jn 16) ja_nil)) (jn 3)) j_int)))
    (jss_cons (js_set (i := 5) sc.nd rfl (Or.inl rfl) (j_op o_mul (j_def D__law_sign (hr.mono (by decide)) rfl (ja_cons (j_def D__law_cell_at (hr.mono (by decide)) rfl (ja_cons (jn 0) (ja_cons j_int ja_nil))) ja_nil)) (j_op o_mod (j_op o_div (j_def D__law_cell_at (hr.mono (by decide)) rfl (ja_cons (jn 0) (ja_cons j_int ja_nil))) j_int) j_int)))
    (jss_cons (js_set (i := 15) sc.nd rfl (Or.inr rfl) (j_op (o_add (K := K)) (j_op (o_add (K := K)) (j_slice (o_slA (K := K)) (jn 16) jo_none (jo_some (jn 3))) (jn 5)) (j_slice (o_slA (K := K)) (jn 16) (jo_some (j_op (o_add (K := K)) (jn 3) (jn 4))) jo_none)))
    (jss_cons (js_set (i := 6) sc.nd rfl (Or.inl rfl) (j_defC ["_law_text"] [16] D_words_of (hr.mono (by decide)) rfl (ja_cons (jn 2) (ja_cons (j_lam (le := le_law_L0) (c := c_law) (Pt := P_law) (qs := qs_law) (qual := q_law_L0) rfl R.hd B rfl rfl (by decide +kernel) (by decide +kernel) rfl) (ja_cons (j_callB (c_len (K := K)) rfl T.n_len PySem.boot_len (ja_cons (jn 16) ja_nil)) ja_nil))) (by rfl)))
    hP8)))))))), ?_⟩
    refine ⟨a, ns, 0, rfl, hS, by decide, ?_⟩
    rw [emn]
    refine ⟨by omega, by omega, ?_⟩
    refine gath_range (n := ((mn : Nat) : Int).toNat) (fun i ys σ' H' => Same H H' ∧ ∃ (es : List Ent) (v : Option V), es.length = i ∧ (∀ e ∈ es, e.Ok) ∧ (∀ e ∈ es, e.f.length = 2) ∧ DatVs K H' ys (es.map Ent.dat) ∧ σ' = [v, some (.ref a)]) (by omega) ⟨Same.refl H, [], none, rfl, by simp, by simp, .nil, rfl⟩
      (fun i ys σ' H' h => by obtain ⟨_, es, v, e, _, _, hd, _⟩ := h; have := hd.length; rw [List.length_map] at this; omega) ?_ ?_
    · rintro i ys σ' H' hi ⟨s1, es, v, hl, hok, hf, hd, rfl⟩
      refine ⟨a, ns, 8 + i, by simp, s1.seq hS, ?_⟩
      refine ⟨ns.getD (8 + i) 0, rfl, fun e r H2 oke h2 s2 hr2 => ?_⟩
      refine ⟨s1.trans s2, es ++ [e], _, by simp; omega, fun x hx => ?_, fun x hx => ?_, ?_, rfl⟩
      · rcases List.mem_append.mp hx with z | z
        · exact hok x z
        · rw [List.mem_singleton.mp z]; exact oke
      · rcases List.mem_append.mp hx with z | z
        · exact hf x z
        · rw [List.mem_singleton.mp z]; exact h2
      · rw [List.map_append]
        exact DatVs.snoc hr2 (hd.same s2)
    rintro ys σ' H' ⟨s1, es, v, hl, hok, hf, hd, rfl⟩ D hD
    have s2 : Same H (upd H' D (.lst ys)) := s1.trans (same_new hD)
    have hd2 := hd.same (same_new (o := .lst ys) hD)
    have hD2 : upd H' D (.lst ys) D = some (.lst ys) := upd_same
    generalize upd H' D (.lst ys) = H1 at s2 hd2 hD2 ⊢
    have hlen : ys.length = es.length := by have := hd2.length; rw [List.length_map] at this; exact this
    refine ⟨rfl, .inl ⟨_, s2.seq hS, fun D1 hD1 => ?_⟩⟩
    obtain ⟨ms, em, hml⟩ := cut_ints ns (some (8 + (mn : Nat))) (some (56 + (mn : Nat)))
    rw [em]
    have s12 : Same H1 (upd H1 D1 (.lst (ms.map V.int))) := same_new hD1
    have h2 : upd H1 D1 (.lst (ms.map V.int)) D1 = some (.lst (ms.map V.int)) := upd_same
    generalize upd H1 D1 (.lst (ms.map V.int)) = H2 at s12 h2 ⊢
    refine .inl ⟨⟨_, SqL.of h2⟩, ?_⟩
    refine gath_list (xs := ms.map V.int) (fun i ys σ' H' => H' = H2 ∧ ∃ (l : List Nat) (v : Option V), ys = l.map (fun k => V.str (S [k])) ∧ l.length = i ∧ (∀ k ∈ l, okSign k) ∧ σ' = [v]) (by rw [List.length_map]; omega) ⟨rfl, [], none, rfl, rfl, by simp, rfl⟩
      (fun i ys σ' H' h => by obtain ⟨_, l, v, rfl, e, _⟩ := h; simp; omega) (fun i ys σ' H' h => by rw [h.1]; exact SqL.of h2) ?_ ?_
    · rintro i x ys' σ' H' hi ⟨rfl, l, v, rfl, hl, ho, rfl⟩
      rw [List.getElem?_map] at hi
      obtain ⟨cell, rfl⟩ : ∃ c : Int, x = .int c := by
        cases z : ms[i]? with
        | none => rw [z] at hi; cases hi
        | some y => rw [z] at hi; exact ⟨y, (Option.some.inj hi).symm⟩
      refine ⟨_, rfl, fun k hk => ?_⟩
      refine ⟨rfl, l ++ [k], _, by simp, by simp; omega, fun j hj => ?_, rfl⟩
      rcases List.mem_append.mp hj with z | z
      · exact ho j z
      · rw [List.mem_singleton.mp z]; exact hk
    rintro ys' σ' H' ⟨rfl, l, v, rfl, hll, hlo, rfl⟩ D3 hD3
    rw [List.length_map] at hll
    refine ⟨l.map fun k => S [k], SqL.of ?_, joinOk_of (B := 1) ?_ ?_, ?_⟩
    · rw [upd_same, List.map_map]; rfl
    · intro y hy
      obtain ⟨k, _, rfl⟩ := List.mem_map.mp hy
      rw [S_len]; exact Nat.le_refl _
    · rw [List.length_map]
      show l.length * 1 + l.length * 0 ≤ _
      omega
    rw [show Txt.join (Str.ofString "") (l.map fun k => S [k]) = S l from join_single l]
    have s3 : Same H1 (upd H' D3 (.lst (l.map fun k => V.str (S [k])))) := s12.trans (same_new hD3)
    generalize upd H' D3 (.lst (l.map fun k => V.str (S [k]))) = H3 at s3 ⊢
    have s03 := s2.trans s3
    refine ⟨a, ns, 1, rfl, s03.seq hS, by rw [S_len]; omega, ?_⟩
    rw [S_len]
    refine ⟨by omega, ?_⟩
    obtain ⟨at_, eat, hat⟩ : ∃ m : Nat, ns.getD 1 0 % (((l.length : Nat) : Int) + 1) = (m : Nat) ∧ m ≤ l.length := by
      have q0 := Int.emod_nonneg (ns.getD 1 0) (show ((l.length : Nat) : Int) + 1 ≠ 0 by omega)
      have q1 := Int.emod_lt_of_pos (ns.getD 1 0) (show 0 < ((l.length : Nat) : Int) + 1 by omega)
      exact ⟨(ns.getD 1 0 % (((l.length : Nat) : Int) + 1)).toNat, by omega, by omega⟩
    rw [eat]
    refine ⟨a, ns, 2, rfl, s03.seq hS, by rw [S_len]; omega, ?_⟩
    rw [S_len]
    refine ⟨show (0 : Int) < ((l.length : Nat) : Int) - (at_ : Nat) + 1 by omega, ?_⟩
    obtain ⟨gone, ego, hgo⟩ : ∃ m : Nat, ns.getD 2 0 % (((l.length : Nat) : Int) - (at_ : Nat) + 1) = (m : Nat) ∧ at_ + m ≤ l.length := by
      have q0 := Int.emod_nonneg (ns.getD 2 0) (show ((l.length : Nat) : Int) - (at_ : Nat) + 1 ≠ 0 by omega)
      have q1 := Int.emod_lt_of_pos (ns.getD 2 0) (show 0 < ((l.length : Nat) : Int) - (at_ : Nat) + 1 by omega)
      exact ⟨(ns.getD 2 0 % (((l.length : Nat) : Int) - (at_ : Nat) + 1)).toNat, by omega, by omega⟩
    rw [ego]
    refine ⟨a, ns, 3, rfl, s03.seq hS, ?_⟩
    refine ⟨_, rfl, fun k hk => ?_⟩
    refine ⟨a, ns, 3, rfl, s03.seq hS, ⟨by decide, by decide⟩, by decide, ?_⟩
    obtain ⟨n, en, hn5⟩ : ∃ m : Nat, ns.getD 3 0 / 95 % 5 = (m : Nat) ∧ m ≤ 4 := ⟨(ns.getD 3 0 / 95 % 5).toNat, by omega, by omega⟩
    show MulOk (S [k]) (ns.getD 3 0 / 95 % 5) ∧ _
    rw [en]
    refine ⟨mulOk_S (by simp) (by omega), ?_⟩
    rw [show Txt.mul (S [k]) ((n : Nat) : Int) = S (List.replicate n [k]).flatten from mul_S [k] n]
    have hpl : (List.replicate n [k]).flatten.length ≤ 4 := by simp; omega
    generalize (List.replicate n [k]).flatten = put at hpl ⊢
    have hcl := chg_len (put := put) hgo
    refine ⟨by rw [S_len]; omega, ?_⟩
    rw [slice_S, show cut l none (some ((at_ : Nat) : Int)) = l.take at_ from cut_to l at_]
    refine ⟨by rw [S_len, S_len, List.length_take]; omega, ?_⟩
    rw [S_app]
    refine ⟨by rw [S_len]; omega, ?_⟩
    rw [slice_S, show cut l (some (((at_ : Nat) : Int) + (gone : Nat))) none = l.drop (at_ + gone) by rw [show ((at_ : Nat) : Int) + (gone : Nat) = ((at_ + gone : Nat) : Int) by omega]; exact cut_from l (at_ + gone)]
    refine ⟨by rw [S_len, S_len, List.length_append, List.length_take, List.length_drop]; omega, ?_⟩
    rw [S_app]
    have hcost : ∀ n, n ≤ 300 → (4 * n + 6) * costB es n ≤ 15800000 := fun n hn => by
      have h1 := costB_le (n := n) (fun e he => Nat.le_of_eq (hf e he) : ∀ e ∈ es, e.f.length ≤ 2)
      have h2 : es.length * (2 * (n + 1)) ≤ 5 * (2 * 301) := Nat.mul_le_mul (by omega) (by omega)
      have h3 : (4 * n + 6) * costB es n ≤ 1206 * (5 * (2 * 301)) := Nat.mul_le_mul (by omega) (by omega)
      omega
    have hTl4 := Rg.TabOk.grow hTl s03
    obtain ⟨pl4, hpl4⟩ := Rg.TabOk.tab hTl4
    refine ⟨hTl4, fun fb H5 hfb sm5 hTl5 hM => ?_⟩
    have nt5 : Nt H3 H5 := Nt.smb sm5 hpl4
    refine ⟨by rw [S_len]; omega, ?_⟩
    refine ⟨fun i hi => ?_, fun cs os F hn' => ?_⟩
    · rw [List.mem_singleton.mp hi]
      exact ⟨_, rfl⟩
    have hlc : os.length = cs.length := F.l2.trans F.l1.symm
    have CL := lent1L (ws := [.str (S l)]) hM F hn' sc.nd (by decide +kernel) (by decide +kernel) (by decide +kernel) rfl (fun j hj => match j, hj with | 0, _ => ⟨16, rfl, rfl⟩)
    have hA : AKL (froz cs os H5) fb none l [] := ⟨rfl, cs, CL⟩
    have nt15 : Nt H1 H5 := (Nt.of s3).trans nt5
    refine ⟨D, fb, none, H5, ys, es, l, [], by rw [S_len], nt15.seq (SqL.of hD2), datvs_nt nt15 hd2, ⟨(fun _ z => nomatch z), same_froz0 hn'⟩, hok, by omega, by omega, by have := hcost l.length (by omega); simpa using this, hA, fun H6 r1 ws1 zs hK6 hA6 hz hr0 hr6 hD6 => ?_⟩
    have rc : r1 ∉ cs := froz_none F.nd hlc hr0
    have s7 : Same H5 (rem cs H6) := (kq_rem hn' hK6).same
    have h7r : rem cs H6 r1 = some (.lst ws1) := by rw [rem_out rc]; exact hr6
    have hD7 := wds_T (rem_seqT0 F.nd hlc hK6) hD6
    have nt17 : Nt H1 (rem cs H6) := nt15.trans (Nt.of s7)
    exact hq8 (rem cs H6) mn D r1 ys ws1 es l put at_ gone (((Nt.of s2).trans nt17).seq hS) (Rg.TabOk.grow hTl5 s7) (nt17 _ _ (fun _ z => by cases z) hD2) (datvs_nt nt17 hd2) hok (by omega) (by omega) hpl hgo hcost h7r hD7
theorem law_of (R_check_change : Raw K mg "check_change" st_check_change ["many_old", "many_new", "at", "gone", "come"])
    (R_taken_by : Raw K mg "taken_by" st_taken_by ["form", "ask", "size", "at"])
    (R_most_looked : Raw K mg "most_looked" st_most_looked ["deed", "signs", "many", "left"])
    (R_stood_at : Raw K mg "stood_at" st_stood_at ["deed", "signs", "most", "ask", "size", "place"])
    (R_tells : Raw K mg "tells" st_tells ["deed", "signs", "number", "sign"])
    (R_holds : Raw K mg "holds" st_holds ["deed", "signs", "many", "stood"])
    (R_word_at : Raw K mg "word_at" st_word_at ["book", "ask", "size", "at"])
    (R_best_of : Raw K mg "best_of" st_best_of ["entries", "ask", "size", "place"])
    (R_words_of : Raw K mg "words_of" st_words_of ["book", "ask", "size"])
    (R_words_with : Raw K mg "words_with" st_words_with ["book", "ask", "size", "known"])
    (R_size_of : Raw K mg "size_of" st_size_of ["word"])
    (R_places_of : Raw K mg "places_of" st_places_of ["words"])
    (R_words_again : Raw K mg "words_again" st_words_again ["book", "ask", "size", "old", "at", "gone", "come"])
    (R__law_cell_at : Raw K mg "_law_cell_at" st__law_cell_at ["_law_script", "_law_k"])
    (R__law_sign : Raw K mg "_law_sign" st__law_sign ["_law_cell"])
    (R__law_entry : Raw K mg "_law_entry" st__law_entry ["_law_cell"])
    (R__law_spoilt : Raw K mg "_law_spoilt" st__law_spoilt ["_law_way", "_law_cell", "_law_told", "_law_size"])
    (R__law_refused : Raw K mg "_law_refused" st__law_refused ["_law_book", "_law_ask", "_law_told", "_law_old"])
    (R_law : RawC K mg "law" st_law ["_law_script"] c_law P_law) (B : BMain mg base) (T : Txt K w mg) (T2 : Cls K mg C CG cs) : Def P w K mg base 9 "law" ["_law_script"] (spLaw P_law K) :=
  have Dc : Def P w K mg base 1 "_law_cell_at" ["_law_script", "_law_k"] (spCell K) := def_cell R__law_cell_at T
  have Ds : Def P w K mg base 1 "_law_sign" ["_law_cell"] spSign := def_sign R__law_sign
  have Dm := def_most (P := P) (w := w) (base := base) R_most_looked T
  have Dt := def_tells (P := P) (w := w) (base := base) R_tells T
  have Dh := def_holds (P := P) (w := w) (base := base) R_holds T
  have Dtl : Def P w K mg base 3 "taken_by" ["form", "ask", "size", "at"] (spTaken K AKL) := def_taken R_taken_by T asker_l Dm (def_stood R_stood_at T Dt fv_lam) Dh
  have Dta : Def P w K mg base 3 "taken_by" ["form", "ask", "size", "at"] (spTaken K AKD) := def_taken R_taken_by T asker_d Dm (def_stood R_stood_at T Dt fv_ask) Dh
  have Dz : Def P w K mg base 1 "size_of" ["word"] (spSize K) := def_size R_size_of
  have Dwl := def_words R_words_of T asker_l (def_with R_words_with T asker_l (def_word R_word_at T asker_l (def_best R_best_of T asker_l Dtl)) Dz)
  have Dwa := def_with R_words_with T asker_d (def_word R_word_at T asker_d (def_best R_best_of T asker_d Dta)) Dz
  have Dp := def_places R_places_of Dz
  def_law R_law B T Dc Ds (def_entry R__law_entry T Ds) (def_spoilt R__law_spoilt T) (def_refused R__law_refused T2 (def_againX R_words_again T2 T (def_checkX R_check_change T2) Dp Dwa)) (def_againW R_words_again T asker_d (def_check R_check_change) Dp Dwa) Dwl
theorem law_start {H : Hp} {a : Addr} {ns : List Int} {Pl : Addr} (hl : ns.length ≤ 63) (hO : ∀ q ∈ [Pl], H q = some (.tbl #[])) (hS : SqL K H a (ns.map V.int)) : spLaw Pl K [.ref a] H (fun v _ => v = .bl true) fun _ _ _ => False :=
  ⟨a, ns, rfl, hS, hl, Rg.TabOk.start (hO _ List.mem_cons_self), fun _ => rfl⟩
end
theorem cls_mk {K : PySem.W.Frag} {mg : Str → Option Value} {h : Heap} {C CG b0 b1 b2 b3 b4 b5 b6 b7 b8 b9 : Addr} (X : K.In h) (G : h.Ns mainGlobals mg) (n1 : mg "isinstance" = none) (n2 : mg "ValueError" = none)
    (a1 : PySem.W.nsIn K mainGlobals "NoFit" = some (some (.ref C))) (a2 : PySem.W.nsIn K mainGlobals "GrowthError" = some (some (.ref CG)))
    (c0 : PySem.W.nsIn K mainGlobals "NoForm" = some (some (.ref b0))) (c1 : PySem.W.nsIn K mainGlobals "NoRule" = some (some (.ref b1))) (c2 : PySem.W.nsIn K mainGlobals "NoFloor" = some (some (.ref b2)))
    (c3 : PySem.W.nsIn K mainGlobals "Barren" = some (some (.ref b3))) (c4 : PySem.W.nsIn K mainGlobals "Idle" = some (some (.ref b4))) (c5 : PySem.W.nsIn K mainGlobals "TooLarge" = some (some (.ref b5)))
    (c6 : PySem.W.nsIn K mainGlobals "Clash" = some (some (.ref b6))) (c7 : PySem.W.nsIn K mainGlobals "Stuck" = some (some (.ref b7))) (c8 : PySem.W.nsIn K mainGlobals "TooLong" = some (some (.ref b8))) (c9 : PySem.W.nsIn K mainGlobals "NoRow" = some (some (.ref b9)))
    (xg : PySem.W.excIn K CG bmVE "ValueError.__new__" = true) (z1 : PySem.W.excIn K C bmVE "ValueError.__new__" = true)
    (z2 : PySem.W.findIn K (.ref C) "__getattribute__" = some (some (.builtin "BaseException.__getattribute__"))) (z3 : PySem.W.findIn K (.ref C) "__getattr__" = some none)
    (z4 : PySem.W.findIn K (.ref C) "__class__" = some (some (.builtin "object.__class__"))) (z5 : PySem.W.mroIn K C (.type "object") = some true) (up : PySem.W.mroIn K C (.ref CG) = some true)
    (ve : PySem.W.kitOne K (.ref C) (.type "ValueError") = some true) (no : PySem.W.kitAny K (.ref C) [.ref b0, .ref b1, .ref b2, .ref b3, .ref b4, .ref b5, .ref b6, .ref b7, .ref b8, .ref b9] = some false) : ∃ C CG cs, Cls K mg C CG cs := by
  have hup : mroHas K C (.ref CG) = true := by
    obtain ⟨cd, a, b⟩ := Option.bind_eq_some_iff.mp up
    unfold PySem.W.clsIn at a
    split at a
    · rename_i ho
      cases a
      split at b
      · cases b
      · unfold mroHas
        rw [ho]
        exact Option.some.inj b
    · cases a
  exact ⟨C, CG, [b0, b1, b2, b3, b4, b5, b6, b7, b8, b9], ⟨n1, n2, PySem.W.mg_of X G a1, PySem.W.mg_of X G a2, xg, z1, PySem.W.mg_of X G c0, PySem.W.mg_of X G c1, PySem.W.mg_of X G c2, PySem.W.mg_of X G c3, PySem.W.mg_of X G c4, PySem.W.mg_of X G c5, PySem.W.mg_of X G c6, PySem.W.mg_of X G c7, PySem.W.mg_of X G c8, PySem.W.mg_of X G c9, ⟨z1, z2, z3, z4, z5⟩, hup, ve, no⟩⟩
end K15

open PySem PySem.W PyProof.Rows
set_option Elab.async false
set_option linter.all false
def PySem.W.Fast.tw9243105392414253883 : Nat := 0
def PySem.W.Fast.tw5655305617465333829 : Nat := 0
def PySem.W.Fast.tw12277758799782177350 : Nat := 0
def PySem.W.Fast.tw11120936437837524405 : Nat := 0
def PySem.W.Fast.tw10100436357280253086 : Nat := 0
def PySem.W.Fast.tw4909880289213244375 : Nat := 0
def PySem.W.Fast.tw6968220575467255159 : Nat := 0
def PySem.W.Fast.tw420481602790698592 : Nat := 0
def PySem.W.Fast.tw12533246377560899988 : Nat := 0
def PySem.W.Fast.tw7537294763473090370 : Nat := 0
def PySem.W.Fast.tw13242953159261735026 : Nat := 0
def PySem.W.Fast.tw8495099289776212150 : Nat := 0
def PySem.W.Fast.tw14305149688121000756 : Nat := 0
def PySem.W.Fast.tw10967975337634906888 : Nat := 0
def PySem.W.Fast.tw14508080539753896715 : Nat := 0
def PySem.W.Fast.tw6628906946597037452 : Nat := 0
def PySem.W.Fast.tw2961468350590407079 : Nat := 0
def PySem.W.Fast.tw17863301744474108137 : Nat := 0
def PySem.W.Fast.tw4051374401487466234 : Nat := 0
def PySem.W.Fast.tw18019660896220922780 : Nat := 0
def PySem.W.Fast.tw3110585571259989797 : Nat := 0
def PySem.W.Fast.tw10295097274787316211 : Nat := 0
def PySem.W.Fast.tw17292561831508950558 : Nat := 0
def PySem.W.Fast.tw8627839301166809536 : Nat := 0
def PySem.W.Fast.tw5540061159497925258 : Nat := 0
def PySem.W.Fast.tw17124845010612481298 : Nat := 0
def PySem.W.Fast.tw17874789137691125784 : Nat := 0
def PySem.W.Fast.tw18027416839224014032 : Nat := 0
def PySem.W.Fast.tw15419994865829058837 : Nat := 0
def PySem.W.Fast.tw16739011656368494789 : Nat := 0
def PySem.W.Fast.tw8477770196277587943 : Nat := 0
def PySem.W.Fast.tw4089672790477138391 : Nat := 0
def PySem.W.Fast.tw13896605742991374317 : Nat := 0
def PySem.W.Fast.tw11487170427782345529 : Nat := 0
def PySem.W.Fast.tw5289020386306919536 : Nat := 0
def PySem.W.Fast.tw17994921914984934979 : Nat := 0
def PySem.W.Fast.tw13518867096083996495 : Nat := 0
def PySem.W.Fast.tw575710304791053723 : Nat := 0
def PySem.W.Fast.tw14421177342689596447 : Nat := 0
def PySem.W.Fast.tw5848560016667822569 : Nat := 0
def PySem.W.Fast.tw2857110316800840107 : Nat := 0
def PySem.W.Fast.tw9046142213349379208 : Nat := 0
def PySem.W.Fast.tw3629800696932189892 : Nat := 0
def PySem.W.Fast.tw13428348350080200453 : Nat := 0
def PySem.W.Fast.tw18183967544732976672 : Nat := 0
def PySem.W.Fast.tw7818452682242602977 : Nat := 0
def PySem.W.Fast.tw6490908408855708308 : Nat := 0
def PySem.W.Fast.tw5520027942051630787 : Nat := 0
def PySem.W.Fast.tw8771425761741235636 : Nat := 0
def PySem.W.Fast.tw15916878948183693459 : Nat := 0
def PySem.W.Fast.tw13876414787612379420 : Nat := 0
def PySem.W.Fast.tw16371974932121654337 : Nat := 0
def PySem.W.Fast.tw1930218404140206162 : Nat := 0
def PySem.W.Fast.tw8262853746275452951 : Nat := 0
def PySem.W.Fast.tw6140394780934267321 : Nat := 0
def PySem.W.Fast.tw10661645030984097772 : Nat := 0
def PySem.W.Fast.tw16089213638566450666 : Nat := 0
def PySem.W.Fast.tw8205309483627470715 : Nat := 0
def PySem.W.Fast.tw8888553116540528168 : Nat := 0
def PySem.W.Fast.tw7671770762689678803 : Nat := 0
def PySem.W.Fast.tw13536810268006634765 : Nat := 0
def PySem.W.Fast.tw10124752518942085691 : Nat := 0
def PySem.W.Fast.tw14876172344508745871 : Nat := 0
def PySem.W.Fast.tw7166255570124870772 : Nat := 0
def PySem.W.Fast.tw15311850391081011917 : Nat := 0
def PySem.W.Fast.tw9929602097659424195 : Nat := 0
def PySem.W.Fast.tw7568390988640443239 : Nat := 0
def PySem.W.Fast.tw15951521265511905001 : Nat := 0
def PySem.W.Fast.tw837223086511271536 : Nat := 0
def PySem.W.Fast.tw15208620160555326491 : Nat := 0
def PySem.W.Fast.tw15033810675285388388 : Nat := 0
def PySem.W.Fast.tw13874106507150093188 : Nat := 0
def PySem.W.Fast.tw1790877083555938604 : Nat := 0
def PySem.W.Fast.tw15403910347961620830 : Nat := 0
def PySem.W.Fast.tw8759567984816841460 : Nat := 0
def PySem.W.Fast.tw8440252201351853971 : Nat := 0
def PySem.W.Fast.tw7857322829585448653 : Nat := 0
def PySem.W.Fast.tw3380136145614474761 : Nat := 0
def PySem.W.Fast.tw963186165316058107 : Nat := 0
def PySem.W.Fast.tw1066970972269027908 : Nat := 0
def PySem.W.Fast.tw7572018763456642887 : Nat := 0
def PySem.W.Fast.tw16446859876713870258 : Nat := 0
def PySem.W.Fast.tw11210048808507884739 : Nat := 0
def PySem.W.Fast.tw3773430884813405395 : Nat := 0
def PySem.W.Fast.tw1010190770565852865 : Nat := 0
def PySem.W.Fast.tw14470746585629400900 : Nat := 0
def PySem.W.Fast.tw17642515947491742616 : Nat := 0
def PySem.W.Fast.tw831658679979012516 : Nat := 0
def PySem.W.Fast.tw13942633406776591752 : Nat := 0
def PySem.W.Fast.tw452241176145350128 : Nat := 0
def PySem.W.Fast.tw3158084814363975610 : Nat := 0
def PySem.W.Fast.tw12210250303673030650 : Nat := 0
def PySem.W.Fast.tw13066939180428694026 : Nat := 0
def PySem.W.Fast.tw13924734840092953138 : Nat := 0
def PySem.W.Fast.tw16110921522052603295 : Nat := 0
def PySem.W.Fast.tw18231465870809511537 : Nat := 0
def PySem.W.Fast.tw5205843938498082927 : Nat := 0
def PySem.W.Fast.tw1799190571673586931 : Nat := 0
def PySem.W.Fast.tw11217449296182097469 : Nat := 0
def PySem.W.Fast.tw16814958122070602731 : Nat := 0
def PySem.W.Fast.tw7257313245463030606 : Nat := 0
def PySem.W.Fast.tw15072910309943458609 : Nat := 0
def PySem.W.Fast.tw10567139256131148557 : Nat := 0
def PySem.W.Fast.tw8178097016774907975 : Nat := 0
def PySem.W.Fast.tw13280525739428116555 : Nat := 0
def PySem.W.Fast.tw16906013031075440006 : Nat := 0
def PySem.W.Fast.tw5373546352755588479 : Nat := 0
def PySem.W.Fast.tw12980716238316881483 : Nat := 0
def PySem.W.Fast.tw16654017211395578276 : Nat := 0
def PySem.W.Fast.tw16096372925847682213 : Nat := 0
def PySem.W.Fast.tw4791445402573751279 : Nat := 0
def PySem.W.Fast.tw13527795157552629278 : Nat := 0
def PySem.W.Fast.tw13686488372633464523 : Nat := 0
def PySem.W.Fast.tw8981568945996425935 : Nat := 0
def PySem.W.Fast.tw15782740041507551210 : Nat := 0
def PySem.W.Fast.tw16004359930083072892 : Nat := 0
def PySem.W.Fast.tw8780557822835179027 : Nat := 0
def PySem.W.Fast.tw3001326305168113175 : Nat := 0
def PySem.W.Fast.tw18307965455129009353 : Nat := 0
def PySem.W.Fast.tw17652965758628147222 : Nat := 0
def PySem.W.Fast.tw7706207512699593902 : Nat := 0
def PySem.W.Fast.tw14737348301477073666 : Nat := 0
def PySem.W.Fast.tw16737653489689897721 : Nat := 0
def PySem.W.Fast.tw4978073532036481160 : Nat := 0
def PySem.W.Fast.tw16057663375966775295 : Nat := 0
def PySem.W.Fast.tw14743799759186438572 : Nat := 0
def PySem.W.Fast.tw11765281362053207040 : Nat := 0
def PySem.W.Fast.tw4313476524943067952 : Nat := 0
def PySem.W.Fast.tw1739744312437163995 : Nat := 0
def PySem.W.Fast.tw5730989855960624318 : Nat := 0
def PySem.W.Fast.tw4586368855776376505 : Nat := 0
def PySem.W.Fast.tw4472766491586825954 : Nat := 0
def PySem.W.Fast.tw1371604455018475250 : Nat := 0
def PySem.W.Fast.tw7613480325199085347 : Nat := 0
def PySem.W.Fast.tw15637026795044071703 : Nat := 0
def PySem.W.Fast.tw13324891674710596266 : Nat := 0
def PySem.W.Fast.tw4217001879022514018 : Nat := 0
def PySem.W.Fast.tw11604990926300929218 : Nat := 0
def PySem.W.Fast.tw8516499983986074006 : Nat := 0
def PySem.W.Fast.tw16268215962848673379 : Nat := 0
def PySem.W.Fast.tw4136965292722594570 : Nat := 0
def PySem.W.Fast.tw17083335218992014045 : Nat := 0
def PySem.W.Fast.tw8502826757035805419 : Nat := 0
def PySem.W.Fast.tw15827791217848676782 : Nat := 0
def PySem.W.Fast.tw11144512292861575726 : Nat := 0
def PySem.W.Fast.tw13933225772870214993 : Nat := 0
def PySem.W.Fast.tw3348537793301314091 : Nat := 0
def PySem.W.Fast.tw54853072831605610 : Nat := 0
def PySem.W.Fast.tw5828454468359432152 : Nat := 0
def PySem.W.Fast.tw6607375364758588740 : Nat := 0
def PySem.W.Fast.tw1476540670808084216 : Nat := 0
def PySem.W.Fast.tw12308595942723668486 : Nat := 0
def PySem.W.Fast.tw10594394382859436708 : Nat := 0
def PySem.W.Fast.tw9890527513741681141 : Nat := 0
def PySem.W.Fast.tw13755715172601496287 : Nat := 0
def PySem.W.Fast.tw11347736255404026865 : Nat := 0
def PySem.W.Fast.tw6601078809544072794 : Nat := 0
def PySem.W.Fast.tw1828453737546075842 : Nat := 0
def PySem.W.Fast.tw240260173969505604 : Nat := 0
def PySem.W.Fast.tw5018594961864321355 : Nat := 0
def PySem.W.Fast.tw3127649557007252079 : Nat := 0
def PySem.W.Fast.tw1423084991940179210 : Nat := 0
def PySem.W.Fast.tw10672924340321563999 : Nat := 0
def PySem.W.Fast.tw16372456242571814866 : Nat := 0
def PySem.W.Fast.tw18024366773405971519 : Nat := 0
def PySem.W.Fast.tw4743523937116149328 : Nat := 0
def PySem.W.Fast.tw2706493241581700182 : Nat := 0
def PySem.W.Fast.tw1701298281971743150 : Nat := 0
def PySem.W.Fast.tw15014548076137077500 : Nat := 0
def PySem.W.Fast.tw12814151967076237265 : Nat := 0
def PySem.W.Fast.tw17063486191892282986 : Nat := 0
def PySem.W.Fast.tw1017972953561639210 : Nat := 0
def PySem.W.Fast.tw4922963667443344073 : Nat := 0
def PySem.W.Fast.tw8735639118630390634 : Nat := 0
def PySem.W.Fast.tw186557546403563352 : Nat := 0
def PySem.W.Fast.tw9679200211294402522 : Nat := 0
def PySem.W.Fast.tw8632341459048141802 : Nat := 0
def PySem.W.Fast.tw16499603606005797267 : Nat := 0
def PySem.W.Fast.tw2227743207697127017 : Nat := 0
def PySem.W.Fast.tw1323753744015360906 : Nat := 0
def PySem.W.Fast.tw3472881410382243429 : Nat := 0
def PySem.W.Fast.tw1062257673290773022 : Nat := 0
def PySem.W.Fast.tw10071569336358010685 : Nat := 0
def PySem.W.Fast.tw3828859610353754664 : Nat := 0
def PySem.W.Fast.tw7601291661528970500 : Nat := 0
def PySem.W.Fast.tw11897275213055292088 : Nat := 0
def PySem.W.Fast.tw7671280463316499147 : Nat := 0
def PySem.W.Fast.tw3009268635324095067 : Nat := 0
def PySem.W.Fast.tw2362038549036010153 : Nat := 0
def PySem.W.Fast.tw14582364963864314654 : Nat := 0
def PySem.W.Fast.tw1584314079056861903 : Nat := 0
def PySem.W.Fast.tw6376002209024080799 : Nat := 0
def PySem.W.Fast.tw10068840197385486811 : Nat := 0
def PySem.W.Fast.tw12261523957980150409 : Nat := 0
def PySem.W.Fast.tw16190959026245691308 : Nat := 0
def PySem.W.Fast.tw738733950818816189 : Nat := 0
def PySem.W.Fast.tw1267899283433695384 : Nat := 0
def PySem.W.Fast.tw5291974583099937060 : Nat := 0
def PySem.W.Fast.tw17194632083669542179 : Nat := 0
def PySem.W.Fast.tw13312087108936018116 : Nat := 0
def PySem.W.Fast.tw12491784444852929954 : Nat := 0
def PySem.W.Fast.tw6868258164181881359 : Nat := 0
def PySem.W.Fast.tw14562758849908081449 : Nat := 0
def PySem.W.Fast.tw6463156729183175303 : Nat := 0
def PySem.W.Fast.tw2924865340859508431 : Nat := 0
def PySem.W.Fast.tw6622134445868574089 : Nat := 0
def PySem.W.Fast.tw9406302002676031961 : Nat := 0
def PySem.W.Fast.tw13084088604160598467 : Nat := 0
def PySem.W.Fast.tw5503397539278162546 : Nat := 0
def PySem.W.Fast.tw8706891531571484777 : Nat := 0
def PySem.W.Fast.tw4540332901602404868 : Nat := 0
def PySem.W.Fast.tw13250409399469094058 : Nat := 0
def PySem.W.Fast.tw8383055555935954803 : Nat := 0
def PySem.W.Fast.tw14258091025940079620 : Nat := 0
def PySem.W.Fast.tw12442664334833434004 : Nat := 0
def PySem.W.Fast.tw2723440932038290586 : Nat := 0
def PySem.W.Fast.tw7892647081115084839 : Nat := 0
def PySem.W.Fast.tw5927213253547316510 : Nat := 0
def PySem.W.Fast.tw14685285706865713706 : Nat := 0
def PySem.W.Fast.tw4229610595964451509 : Nat := 0
def PySem.W.Fast.tw13232927365358156283 : Nat := 0
def PySem.W.Fast.tw12584722738557802012 : Nat := 0
def PySem.W.Fast.tw13671861002595485329 : Nat := 0
def PySem.W.Fast.tw3301285719796075105 : Nat := 0
def PySem.W.Fast.tw4674329260590302942 : Nat := 0
def PySem.W.Fast.tw6608767710411594761 : Nat := 0
def PySem.W.Fast.tw16755511859008519682 : Nat := 0
def PySem.W.Fast.tw10489115816248616324 : Nat := 0
def PySem.W.Fast.tw9021576092035865872 : Nat := 0
def PySem.W.Fast.tw15323124246517059867 : Nat := 0
def PySem.W.Fast.tw4107368462947988393 : Nat := 0
def PySem.W.Fast.tw6827803026585367885 : Nat := 0
def PySem.W.Fast.tw17202975615016821037 : Nat := 0
def PySem.W.Fast.tw11569771893438849231 : Nat := 0
def PySem.W.Fast.tw18132265652566057165 : Nat := 0
def PySem.W.Fast.tw9244296707214120577 : Nat := 0
def PySem.W.Fast.tw6622489893913077844 : Nat := 0
def PySem.W.Fast.tw16860847516462553088 : Nat := 0
def PySem.W.Fast.tw4078639403210852689 : Nat := 0
def PySem.W.Fast.tw6681927895273298448 : Nat := 0
def PySem.W.Fast.tw16778832358219000287 : Nat := 0
def PySem.W.Fast.tw5950082201887716949 : Nat := 0
def PySem.W.Fast.tw11431372754401260490 : Nat := 0
def PySem.W.Fast.tw8450132421419929950 : Nat := 0
def PySem.W.Fast.tw16347304419155504927 : Nat := 0
def PySem.W.Fast.tw13245712128117323905 : Nat := 0
def PySem.W.Fast.tw8571782205088817695 : Nat := 0
def PySem.W.Fast.tw5188335288718047395 : Nat := 0
def PySem.W.Fast.tw2831366834223266722 : Nat := 0
def PySem.W.Fast.tw3465011953090561574 : Nat := 0
def PySem.W.Fast.tw3424811722590299292 : Nat := 0
def PySem.W.Fast.tw10622819693402626538 : Nat := 0
def PySem.W.Fast.tw6654967820579424003 : Nat := 0
def PySem.W.Fast.tw7964605991462848050 : Nat := 0
def PySem.W.Fast.tw8889567082051357191 : Nat := 0
def PySem.W.Fast.tw17622589989785123040 : Nat := 0
def PySem.W.Fast.tw2039348380519983262 : Nat := 0
def PySem.W.Fast.tw3542328163502877699 : Nat := 0
def PySem.W.Fast.tw3083825322352793052 : Nat := 0
def PySem.W.Fast.tw220644805863715816 : Nat := 0
def PySem.W.Fast.tw8297295337029655727 : Nat := 0
def PySem.W.Fast.tw15782979270084518676 : Nat := 0
def PySem.W.Fast.tw9581053731658452990 : Nat := 0
def PySem.W.Fast.tw13030406375390797010 : Nat := 0
def PySem.W.Fast.tw3652188719334208598 : Nat := 0
def PySem.W.Fast.tw13657073605647132420 : Nat := 0
def PySem.W.Fast.tw14351104451084003737 : Nat := 0
def PySem.W.Fast.tw7889449022493652258 : Nat := 0
def PySem.W.Fast.tw1948312338476044431 : Nat := 0
def PySem.W.Fast.tw7378734087800140199 : Nat := 0
def PySem.W.Fast.tw3899803767419266269 : Nat := 0
def PySem.W.Fast.tw13540131072301726626 : Nat := 0
def PySem.W.Fast.tw16319033423416720659 : Nat := 0
def PySem.W.Fast.tw1607687195720537790 : Nat := 0
def PySem.W.Fast.tw11070700773514971531 : Nat := 0
def PySem.W.Fast.tw9260810092528152612 : Nat := 0
def PySem.W.Fast.tw17867440671170581301 : Nat := 0
def PySem.W.Fast.tw10477880619618081928 : Nat := 0
def PySem.W.Fast.tw11635286348768787386 : Nat := 0
def PySem.W.Fast.tw1861003681034181745 : Nat := 0
def PySem.W.Fast.tw13746866143570926938 : Nat := 0
def PySem.W.Fast.tw15956445690721397928 : Nat := 0
def PySem.W.Fast.tw13119449524743102222 : Nat := 0
def PySem.W.Fast.tw11810298614039586604 : Nat := 0
def PySem.W.Fast.tw3633261559910439555 : Nat := 0
def PySem.W.Fast.tw4320449395252175628 : Nat := 0
def PySem.W.Fast.tw15110307954166939453 : Nat := 0
def PySem.W.Fast.tw5536706487598410545 : Nat := 0
def PySem.W.Fast.tw4943831032182994261 : Nat := 0
def PySem.W.Fast.tw9795318390560841458 : Nat := 0
def PySem.W.Fast.tw222975464307442449 : Nat := 0
def PySem.W.Fast.tw10940181251495903833 : Nat := 0
def PySem.W.Fast.tw10904162212978600389 : Nat := 0
def PySem.W.Fast.tw4222805843371235105 : Nat := 0
def PySem.W.Fast.tw9520067857419443824 : Nat := 0
def PySem.W.Fast.tw17090612086650516613 : Nat := 0
def PySem.W.Fast.tw14991655065837011436 : Nat := 0
def PySem.W.Fast.tw470952908026388152 : Nat := 0
def PySem.W.Fast.tw4723577142403398603 : Nat := 0
def PySem.W.Fast.tw10451497634174330518 : Nat := 0
def PySem.W.Fast.tw16110240928570287081 : Nat := 0
def PySem.W.Fast.tw17435568939173570683 : Nat := 0
def PySem.W.Fast.tw6957859440162647732 : Nat := 0
def PySem.W.Fast.tw16299924461956235115 : Nat := 0
def PySem.W.Fast.tw10756958752648180778 : Nat := 0
def PySem.W.Fast.tw13601194173018975321 : Nat := 0
def PySem.W.Fast.tw15782873482851733516 : Nat := 0
def PySem.W.Fast.tw5116666460329367925 : Nat := 0
def PySem.W.Fast.tw10427191448176480137 : Nat := 0
def PySem.W.Fast.tw6133257173756596472 : Nat := 0
def PySem.W.Fast.tw3728626773827888895 : Nat := 0
def PySem.W.Fast.tw694904075686796798 : Nat := 0
def PySem.W.Fast.tw11255633876345478231 : Nat := 0
def PySem.W.Fast.tw18222647329079478731 : Nat := 0
def PySem.W.Fast.tw14172593895665424938 : Nat := 0
def PySem.W.Fast.tw4054030766942929841 : Nat := 0
def PySem.W.Fast.tw13564400022100401878 : Nat := 0
set_option maxRecDepth 100000 in
set_option maxHeartbeats 0 in
theorem PySem.Challenge.cw_regrowth_k15_changes_that_fit_holds : PySem.Challenge.rw_regrowth_k15_changes_that_fit.Holds := by
  w_on; o_law; k_head; (case hw => w_witness2)
  k_fill
  refine L2.walk_of2 (l := PySem.Challenge.rw_regrowth_k15_changes_that_fit) (n := 63) (k := 9) (x := "_law_script") (CX := L2.CX0) (sp := K15.spLaw 297) [297] rfl (by decide) rfl ⟨rfl, by decide, by decide, rfl⟩ (fun w h Y => PySem.W.km_in_of Y) ?TT ?NT ?F ?S ?C
  case F =>
    intro w mg fa h KX G hmg
    have R_check_change : L2.Raw (L2.KOf KX) mg "check_change" K15.st_check_change ["many_old", "many_new", "at", "gone", "come"] := by
      dsimp only [L2.KOf]
      refine' L2.Raw.mk' KX G ?a0 ?l0 ?c0 ?k0 ?b0
      (case a0 => k_is)
      (case l0 => k_is)
      (case c0 => k_is)
      (case k0 => k_is)
      exact fun us hl => match us, hl with | [_, _, _, _, _], _ => rfl
    have R_taken_by : L2.Raw (L2.KOf KX) mg "taken_by" K15.st_taken_by ["form", "ask", "size", "at"] := by
      dsimp only [L2.KOf]
      refine' L2.Raw.mk' KX G ?a1 ?l1 ?c1 ?k1 ?b1
      (case a1 => k_is)
      (case l1 => k_is)
      (case c1 => k_is)
      (case k1 => k_is)
      exact fun us hl => match us, hl with | [_, _, _, _], _ => rfl
    have R_most_looked : L2.Raw (L2.KOf KX) mg "most_looked" K15.st_most_looked ["deed", "signs", "many", "left"] := by
      dsimp only [L2.KOf]
      refine' L2.Raw.mk' KX G ?a2 ?l2 ?c2 ?k2 ?b2
      (case a2 => k_is)
      (case l2 => k_is)
      (case c2 => k_is)
      (case k2 => k_is)
      exact fun us hl => match us, hl with | [_, _, _, _], _ => rfl
    have R_stood_at : L2.Raw (L2.KOf KX) mg "stood_at" K15.st_stood_at ["deed", "signs", "most", "ask", "size", "place"] := by
      dsimp only [L2.KOf]
      refine' L2.Raw.mk' KX G ?a3 ?l3 ?c3 ?k3 ?b3
      (case a3 => k_is)
      (case l3 => k_is)
      (case c3 => k_is)
      (case k3 => k_is)
      exact fun us hl => match us, hl with | [_, _, _, _, _, _], _ => rfl
    have R_tells : L2.Raw (L2.KOf KX) mg "tells" K15.st_tells ["deed", "signs", "number", "sign"] := by
      dsimp only [L2.KOf]
      refine' L2.Raw.mk' KX G ?a4 ?l4 ?c4 ?k4 ?b4
      (case a4 => k_is)
      (case l4 => k_is)
      (case c4 => k_is)
      (case k4 => k_is)
      exact fun us hl => match us, hl with | [_, _, _, _], _ => rfl
    have R_holds : L2.Raw (L2.KOf KX) mg "holds" K15.st_holds ["deed", "signs", "many", "stood"] := by
      dsimp only [L2.KOf]
      refine' L2.Raw.mk' KX G ?a5 ?l5 ?c5 ?k5 ?b5
      (case a5 => k_is)
      (case l5 => k_is)
      (case c5 => k_is)
      (case k5 => k_is)
      exact fun us hl => match us, hl with | [_, _, _, _], _ => rfl
    have R_word_at : L2.Raw (L2.KOf KX) mg "word_at" K15.st_word_at ["book", "ask", "size", "at"] := by
      dsimp only [L2.KOf]
      refine' L2.Raw.mk' KX G ?a6 ?l6 ?c6 ?k6 ?b6
      (case a6 => k_is)
      (case l6 => k_is)
      (case c6 => k_is)
      (case k6 => k_is)
      exact fun us hl => match us, hl with | [_, _, _, _], _ => rfl
    have R_best_of : L2.Raw (L2.KOf KX) mg "best_of" K15.st_best_of ["entries", "ask", "size", "place"] := by
      dsimp only [L2.KOf]
      refine' L2.Raw.mk' KX G ?a7 ?l7 ?c7 ?k7 ?b7
      (case a7 => k_is)
      (case l7 => k_is)
      (case c7 => k_is)
      (case k7 => k_is)
      exact fun us hl => match us, hl with | [_, _, _, _], _ => rfl
    have R_words_of : L2.Raw (L2.KOf KX) mg "words_of" K15.st_words_of ["book", "ask", "size"] := by
      dsimp only [L2.KOf]
      refine' L2.Raw.mk' KX G ?a8 ?l8 ?c8 ?k8 ?b8
      (case a8 => k_is)
      (case l8 => k_is)
      (case c8 => k_is)
      (case k8 => k_is)
      exact fun us hl => match us, hl with | [_, _, _], _ => rfl
    have R_words_with : L2.Raw (L2.KOf KX) mg "words_with" K15.st_words_with ["book", "ask", "size", "known"] := by
      dsimp only [L2.KOf]
      refine' L2.Raw.mk' KX G ?a9 ?l9 ?c9 ?k9 ?b9
      (case a9 => k_is)
      (case l9 => k_is)
      (case c9 => k_is)
      (case k9 => k_is)
      exact fun us hl => match us, hl with | [_, _, _, _], _ => rfl
    have R_size_of : L2.Raw (L2.KOf KX) mg "size_of" K15.st_size_of ["word"] := by
      dsimp only [L2.KOf]
      refine' L2.Raw.mk' KX G ?a10 ?l10 ?c10 ?k10 ?b10
      (case a10 => k_is)
      (case l10 => k_is)
      (case c10 => k_is)
      (case k10 => k_is)
      exact fun us hl => match us, hl with | [_], _ => rfl
    have R_places_of : L2.Raw (L2.KOf KX) mg "places_of" K15.st_places_of ["words"] := by
      dsimp only [L2.KOf]
      refine' L2.Raw.mk' KX G ?a11 ?l11 ?c11 ?k11 ?b11
      (case a11 => k_is)
      (case l11 => k_is)
      (case c11 => k_is)
      (case k11 => k_is)
      exact fun us hl => match us, hl with | [_], _ => rfl
    have R_words_again : L2.Raw (L2.KOf KX) mg "words_again" K15.st_words_again ["book", "ask", "size", "old", "at", "gone", "come"] := by
      dsimp only [L2.KOf]
      refine' L2.Raw.mk' KX G ?a12 ?l12 ?c12 ?k12 ?b12
      (case a12 => k_is)
      (case l12 => k_is)
      (case c12 => k_is)
      (case k12 => k_is)
      exact fun us hl => match us, hl with | [_, _, _, _, _, _, _], _ => rfl
    have R__law_cell_at : L2.Raw (L2.KOf KX) mg "_law_cell_at" K15.st__law_cell_at ["_law_script", "_law_k"] := by
      dsimp only [L2.KOf]
      refine' L2.Raw.mk' KX G ?a13 ?l13 ?c13 ?k13 ?b13
      (case a13 => k_is)
      (case l13 => k_is)
      (case c13 => k_is)
      (case k13 => k_is)
      exact fun us hl => match us, hl with | [_, _], _ => rfl
    have R__law_sign : L2.Raw (L2.KOf KX) mg "_law_sign" K15.st__law_sign ["_law_cell"] := by
      dsimp only [L2.KOf]
      refine' L2.Raw.mk' KX G ?a14 ?l14 ?c14 ?k14 ?b14
      (case a14 => k_is)
      (case l14 => k_is)
      (case c14 => k_is)
      (case k14 => k_is)
      exact fun us hl => match us, hl with | [_], _ => rfl
    have R__law_entry : L2.Raw (L2.KOf KX) mg "_law_entry" K15.st__law_entry ["_law_cell"] := by
      dsimp only [L2.KOf]
      refine' L2.Raw.mk' KX G ?a15 ?l15 ?c15 ?k15 ?b15
      (case a15 => k_is)
      (case l15 => k_is)
      (case c15 => k_is)
      (case k15 => k_is)
      exact fun us hl => match us, hl with | [_], _ => rfl
    have R__law_spoilt : L2.Raw (L2.KOf KX) mg "_law_spoilt" K15.st__law_spoilt ["_law_way", "_law_cell", "_law_told", "_law_size"] := by
      dsimp only [L2.KOf]
      refine' L2.Raw.mk' KX G ?a16 ?l16 ?c16 ?k16 ?b16
      (case a16 => k_is)
      (case l16 => k_is)
      (case c16 => k_is)
      (case k16 => k_is)
      exact fun us hl => match us, hl with | [_, _, _, _], _ => rfl
    have R__law_refused : L2.Raw (L2.KOf KX) mg "_law_refused" K15.st__law_refused ["_law_book", "_law_ask", "_law_told", "_law_old"] := by
      dsimp only [L2.KOf]
      refine' L2.Raw.mk' KX G ?a17 ?l17 ?c17 ?k17 ?b17
      (case a17 => k_is)
      (case l17 => k_is)
      (case c17 => k_is)
      (case k17 => k_is)
      exact fun us hl => match us, hl with | [_, _, _, _], _ => rfl
    have R_law : ∃ c, L2.RawC (L2.KOf KX) mg "law" K15.st_law ["_law_script"] c 297 := by
      dsimp only [L2.KOf]
      refine' Exists.intro _ (L2.RawC.mk' KX G ?a18 ?l18 ?c18 ?k18 ?h18 ?b18)
      (case a18 => k_is)
      (case l18 => k_is)
      (case c18 => k_is)
      (case k18 => k_is)
      (case h18 => kernel_rfl)
      exact fun us hl => match us, hl with | [_], _ => rfl
    obtain ⟨c_law, R_law⟩ := R_law
    have n_len : mg "len" = none := PySem.W.mg_none_of KX G (by k_is)
    have n_max : mg "max" = none := PySem.W.mg_none_of KX G (by k_is)
    have n_min : mg "min" = none := PySem.W.mg_none_of KX G (by k_is)
    have n_range : mg "range" = none := PySem.W.mg_none_of KX G (by k_is)
    have n_list : mg "list" = none := PySem.W.mg_none_of KX G (by k_is)
    have n_zip : mg "zip" = none := PySem.W.mg_none_of KX G (by k_is)
    have g_GAP : ∃ t, mg "GAP" = some (.str "" t) := by
      refine' L2.str_mk KX G ?gGAP
      (case gGAP => k_is)
    have g_END : ∃ t, mg "END" = some (.str "end" t) := by
      refine' L2.str_mk KX G ?gEND
      (case gEND => k_is)
    have g_STRAY : ∃ t, mg "STRAY" = some (.str "stray" t) := by
      refine' L2.str_mk KX G ?gSTRAY
      (case gSTRAY => k_is)
    have T : K15.Txt (L2.KOf KX) w mg := ⟨n_len, n_max, n_min, n_range, n_list, n_zip, g_GAP, g_END, g_STRAY⟩
    have n_isinstance : mg "isinstance" = none := PySem.W.mg_none_of KX G (by k_is)
    have n_ValueError : mg "ValueError" = none := PySem.W.mg_none_of KX G (by k_is)
    have T2 : ∃ C CG cs, K15.Cls (L2.KOf KX) mg C CG cs := by
      dsimp only [L2.KOf]
      refine' K15.cls_mk KX G n_isinstance n_ValueError ?a1 ?a2 ?c0 ?c1 ?c2 ?c3 ?c4 ?c5 ?c6 ?c7 ?c8 ?c9 ?xg ?z1 ?z2 ?z3 ?z4 ?z5 ?up ?ve ?no
      (case a1 => k_is)
      (case a2 => k_is)
      (case c0 => k_is)
      (case c1 => k_is)
      (case c2 => k_is)
      (case c3 => k_is)
      (case c4 => k_is)
      (case c5 => k_is)
      (case c6 => k_is)
      (case c7 => k_is)
      (case c8 => k_is)
      (case c9 => k_is)
      (case xg => first | k_exc | rfl | decide)
      (case z1 => first | k_exc | rfl | decide)
      (case z2 => k_is)
      (case z3 => k_is)
      (case z4 => k_is)
      (case z5 => k_is)
      (case up => k_is)
      (case ve => first | kit_is | rfl | decide)
      (case no => first | kit_is | rfl | decide)
    obtain ⟨C, CG, cs, T2⟩ := T2
    obtain ⟨f, fd, hf, Fu, hb⟩ := R_law.ex
    have e0 := hmg.symm.trans hf
    cases e0
    refine ⟨(List.forall_mem_cons.mpr ⟨⟨_, R_law.hd⟩, fun _ z => nomatch z⟩), fd, fun s u => ?_, fun base kb nb bb =>  (K15.law_of R_check_change R_taken_by R_most_looked R_stood_at R_tells R_holds R_word_at R_best_of R_words_of R_words_with R_size_of R_places_of R_words_again R__law_cell_at R__law_sign R__law_entry R__law_spoilt R__law_refused R_law bb T T2).at hf Fu.lk⟩
    exact .of_eq (hb [u] rfl)
  case TT => exact fun w h Y q m => PySem.W.km_tabs_of Y q m
  case NT => intro P; kernel_rfl
  case S => exact fun K H a ns hl hO hS => K15.law_start hl hO hS
  case C => exact fun _ _ _ _ z => z

