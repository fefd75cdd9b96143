import PyProof.Rows.All
import Wide.All
import OpenK.AllK
import Wide.FinOn
import Lean
import PyProof.EqAt
import PyProof.EqKinds
import PyProof.TupleCall
import PyProof.ListRange
import PyProof.ZipIter
import PyProof.Rows.ZipGen
import OpenK.KRaise
import OpenK.KOwn
import PyProof.ExcClass3
import PyProof.ExcBaseAll.ValueError
import PyProof.FString
import PyProof.FString4
import PyProof.StrLawsRepr
import PyProof.NsDelKeeps
import PyProof.Rows.Catch
import PyProof.ExcArgsOwn
import PyProof.ExcAttrAll.ValueError
import OpenK.KDescr
import KE.KIsAll
import KE.KLam
import PyProof.EnumMake
import PyProof.Rows.EnumRows
import PyProof.Rows.SeqMore2
import PyProof.AttrMissHeap
import KE.KDictOf
import KE.KRevIter
import KE.KDictLaws
import PyProof.ConsumeWalk
import PyProof.CallStr
import KE.KIntText
import PyProof.SetScanFacts
import PyProof.Rows.SetFrom
import PyProof.CollectWalk
import PyProof.FactsAll.set
import PyProof.SetRoads
import PyProof.CollectStr
import PyProof.Rows.SortShell
import PyProof.Rows.SortWalk
import PyProof.ReprRoads
import PyProof.StrLawsChain
import PyProof.StrBlockI
import PyProof.StrBlock2
import KE.RegKIsAll
import PySem.Challenge.RW_regrowth_k22_no_rules
set_option Elab.async false
set_option linter.all false
set_option maxRecDepth 100000
namespace L2
open PySem PySem.Spec PyProof.Rows

abbrev Key := Sum Int Str
def keyIs : Key → Value → Bool
  | .inl k, v => Value.isInt k v
  | .inr x, v => Value.isStrOf x v
def keyH (w : World) : Key → Int
  | .inl k => hashInt k
  | .inr x => hashStr w x
theorem keyIs_shape : ∀ {k : Key} {v : Value}, keyIs k v = true → (∃ i t, k = Sum.inl i ∧ v = Value.int i t) ∨ (∃ x t, k = Sum.inr x ∧ v = Value.str x t)
  | .inl i, v, h => by
    obtain ⟨t, e⟩ := Value.isInt_shape (k := i) (v := v) h
    exact .inl ⟨i, t, rfl, e⟩
  | .inr x, v, h => by
    obtain ⟨t, e⟩ := Value.isStrOf_shape (x := x) (v := v) h
    exact .inr ⟨x, t, rfl, e⟩
theorem keyIs_int (i : Int) (t : Tok) : keyIs (.inl i) (.int i t) = true := by simp [keyIs, Value.isInt]
theorem keyIs_str (x : Str) (t : Tok) : keyIs (.inr x) (.str x t) = true := by simp [keyIs, Value.isStrOf]
theorem key_ll (a b : Int) : decide ((Sum.inl a : Key) = Sum.inl b) = (a == b) := by
  by_cases e : a = b
  · subst e; simp
  · have h : ¬ (Sum.inl a : Key) = Sum.inl b := fun q => e (Sum.inl.inj q)
    rw [decide_eq_false h]
    exact (beq_eq_false_iff_ne.mpr e).symm
theorem key_rr (a b : Str) : decide ((Sum.inr a : Key) = Sum.inr b) = decide (a = b) := by
  by_cases e : a = b
  · subst e; simp
  · have h : ¬ (Sum.inr a : Key) = Sum.inr b := fun q => e (Sum.inr.inj q)
    rw [decide_eq_false h, decide_eq_false e]
theorem key_lr (a : Int) (b : Str) : decide ((Sum.inl a : Key) = Sum.inr b) = false := decide_eq_false (fun q => nomatch q)
theorem key_rl (a : Str) (b : Int) : decide ((Sum.inr a : Key) = Sum.inl b) = false := decide_eq_false (fun q => nomatch q)

def mixKind (prog : Program) (w : World) : PySem.KeyKind prog w Key where
  is := keyIs
  hash := keyH w
  inj := fun v a b ha hb => by
    rcases keyIs_shape ha with ⟨i, t, rfl, rfl⟩ | ⟨x, t, rfl, rfl⟩
    · rcases keyIs_shape hb with ⟨j, u, rfl, e⟩ | ⟨y, u, rfl, e⟩
      · injection e with e1 _; rw [e1]
      · exact nomatch e
    · rcases keyIs_shape hb with ⟨j, u, rfl, e⟩ | ⟨y, u, rfl, e⟩
      · exact nomatch e
      · injection e with e1 _; rw [e1]
  byValue := fun k v h => by
    rcases keyIs_shape h with ⟨i, t, rfl, rfl⟩ | ⟨x, t, rfl, rfl⟩ <;> rfl
  pyHash := fun hv h => by
    rcases keyIs_shape hv with ⟨i, t, rfl, rfl⟩ | ⟨x, t, rfl, rfl⟩
    · exact wpAny_pyHash_int h
    · exact wpAny_pyHash_str h
  eqBool := fun hu hv h => by
    rcases keyIs_shape hu with ⟨i, t, rfl, rfl⟩ | ⟨x, t, rfl, rfl⟩
    · rcases keyIs_shape hv with ⟨j, u, rfl, rfl⟩ | ⟨y, u, rfl, rfl⟩
      · rw [key_ll] at h; exact wpAny_eqBool_int h
      · rw [key_lr] at h; exact SeqAt.EqAt.int_str i t y u _ _ _ _ h
    · rcases keyIs_shape hv with ⟨j, u, rfl, rfl⟩ | ⟨y, u, rfl, rfl⟩
      · rw [key_rl] at h; exact SeqAt.EqAt.str_int x t j u _ _ _ _ h
      · rw [key_rr] at h; exact wpAny_eqBool_str h
  «strs» := fun k x t v h => by
    rcases keyIs_shape h with ⟨i, u, rfl, e⟩ | ⟨y, u, rfl, e⟩
    · exact nomatch e
    · injection e with e1 _
      subst e1
      cases v <;> rfl

theorem mixKind_int (prog : Program) (w : World) (i : Int) (t : Tok) : (mixKind prog w).is (.inl i) (.int i t) = true := keyIs_int i t
theorem mixKind_str (prog : Program) (w : World) (x : Str) (t : Tok) : (mixKind prog w).is (.inr x) (.str x t) = true := keyIs_str x t
end L2

namespace L2
open PySem PySem.Spec PyProof.Rows

inductive V where
  | non | bl (b : Bool) | int (i : Int) | str (x : Str) | byt (b : Array UInt8) | flt (b : UInt64) | ref (a : Addr) | ty (n : String)
  deriving DecidableEq

def RelV : V → Value → Prop
  | .non, u => u = Value.none
  | .bl b, u => u = Value.bool b
  | .int i, u => ∃ t, u = Value.int i t
  | .str x, u => ∃ t, u = Value.str x t
  | .byt b, u => ∃ t, u = Value.bytes b t
  | .flt b, u => ∃ t, u = Value.float b t
  | .ref a, u => u = Value.ref a
  | .ty n, u => u = Value.type n

abbrev Vals : List V → List Value → Prop := Paired RelV
theorem Vals.length {xs : List V} {us : List Value} (r : Vals xs us) : xs.length = us.length := Paired.length r
theorem Vals.get : ∀ {xs : List V} {us : List Value} {i : Nat} {x : V}, Vals xs us → xs[i]? = some x → ∃ u, us[i]? = some u ∧ RelV x u
  | _, _, _, _, .nil, e => by simp at e
  | _, _, 0, _, .cons r _, e => by simp at e; subst e; exact ⟨_, rfl, r⟩
  | _, _, i + 1, x, .cons _ t, e => by
    obtain ⟨u, h1, h2⟩ := Vals.get (i := i) (x := x) t (by simpa using e)
    exact ⟨u, by simpa using h1, h2⟩
theorem Vals.set {x : V} {u : Value} (r : RelV x u) : ∀ {xs : List V} {us : List Value} (i : Nat), Vals xs us → Vals (xs.set i x) (us.set i u)
  | _, _, _, .nil => .nil
  | _, _, 0, .cons _ t => .cons r t
  | _, _, i + 1, .cons q t => .cons q (Vals.set r i t)
theorem Vals.append : ∀ {xs ys : List V} {us ws : List Value}, Vals xs us → Vals ys ws → Vals (xs ++ ys) (us ++ ws)
  | _, _, _, _, .nil, s => s
  | _, _, _, _, .cons r t, s => .cons r (Vals.append t s)
theorem Vals.take : ∀ {xs : List V} {us : List Value} (n : Nat), Vals xs us → Vals (xs.take n) (us.take n)
  | _, _, 0, _ => .nil
  | _, _, _ + 1, .nil => .nil
  | _, _, n + 1, .cons r t => .cons r (Vals.take n t)
theorem Vals.drop : ∀ {xs : List V} {us : List Value} (n : Nat), Vals xs us → Vals (xs.drop n) (us.drop n)
  | _, _, 0, r => r
  | _, _, _ + 1, .nil => .nil
  | _, _, n + 1, .cons _ t => Vals.drop n t
def RelO : Option V → Option Value → Prop
  | some v, some u => RelV v u
  | none, none => True
  | _, _ => False
def KV {κ : Type} : List (κ × V) → List (κ × Value) → Prop := Paired fun (p : κ × V) (q : κ × Value) => p.1 = q.1 ∧ RelV p.2 q.2

def kV : Key → V
  | .inl i => .int i
  | .inr x => .str x

inductive HO where
  /-- a list -/
  | lst (xs : List V)
  /-- a tuple (never changes) -/
  | tup (xs : List V)
  /-- a dict whose keys are ints and texts; one whose keys are tuples of ints and texts (the empty one is both) -/
  | dK (kvs : List (Key × V)) | dT (kvs : List (List Key × V))
  /-- a set of ints: its members, its size -/
  | set (S : Int → Bool) (n : Nat)
  /-- an instance of the class at C, its dict at dx, its attributes -/
  | ins (C dx : Addr) (fs : List (Str × V))
  /-- the dict of the instance at x -/
  | own (x : Addr)
  /-- the dict of an exception -/
  | xd (fs : List (Str × V))
  /-- a bound method, f of x -/
  | met (f x : Addr)
  /-- a range object lo, lo + 1, .. below hi -/
  | rng (lo hi : Int)
  /-- a thing that is known to the object (the script; a dict while a loop walks it): read, never written while it is so -/
  | frz (o : Obj) (u : HO)
  /-- a code object's table -/
  | tbl (ps : Array Value)
  /-- any other thing, by what is true of its one object (a def of one's own: SetO a S n := HO.ext fun h => ..) -/
  | ext (φ : Heap → Prop)

abbrev Hp := Addr → Option HO
def upd (H : Hp) (a : Addr) (o : HO) : Hp := fun b => if b = a then some o else H b
theorem upd_same {H : Hp} {a : Addr} {o : HO} : upd H a o a = some o := by unfold upd; rw [if_pos rfl]
theorem upd_ne {H : Hp} {a b : Addr} {o : HO} (h : b ≠ a) : upd H a o b = H b := by unfold upd; rw [if_neg h]
theorem ne_of_none {H : Hp} {a b : Addr} {o : HO} (h : H a = some o) (h' : H b = none) : a ≠ b := by
  intro e; subst e; rw [h] at h'; cases h'

section
variable (P : Program) (w : World)
def ObjOk (H : Hp) (h : Heap) (a : Addr) : HO → Prop
  | .lst xs => xs.length ≤ sizeLine ∧ ∃ (its : List Value) (n : Nat), Vals xs its ∧ h.get? a = some { cls := .type "list", data := .seq its.toArray n }
  | .tup xs => xs.length ≤ sizeLine ∧ ∃ its : List Value, Vals xs its ∧ IsTup h a its.toArray
  | .dK kvs => kvs.length ≤ sizeLine ∧ (a == sysModules) = false ∧ ∃ vs, KV kvs vs ∧ h.DictOf (mixKind P w) a vs
  | .dT kvs => kvs.length ≤ sizeLine ∧ (a == sysModules) = false ∧ ∃ xs : List (List Key × Addr × Value),
      Paired (fun (p : List Key × V) (q : List Key × Addr × Value) => p.1 = q.1 ∧ H q.2.1 = some (.tup (p.1.map kV)) ∧ RelV p.2 q.2.2) kvs xs ∧
      ∃ o es ep, h.get? a = some o ∧ o.ExactDict ∧ o.data = .dict es ep ∧ es.toList = xs.map (entryOfKey (tupleKind (mixKind P w))) ∧ (xs.map (·.1)).Nodup
  | .set S n => h.SetOf (intKind P w) a S n
  | .ins C dx fs => H dx = some (.own a) ∧ fs.length ≤ 1000 ∧ dx ≠ a ∧ h.get? a = some (PySem.W.instObj C dx) ∧
      ∃ mA, h.Ns1 dx mA ∧ (∀ f, RelO (fs.lookup f) (mA f)) ∧ PySem.Within mA (fs.map (·.1))
  | .own _ => ∃ o, h.get? a = some o
  | .xd fs => ∃ mA, h.Ns1 a mA ∧ ∀ f, RelO (fs.lookup f) (mA f)
  | .rng lo hi => ∃ t u v, h.get? a = some { cls := .type "range", data := .fields #[.int lo t, .int hi u, .int 1 v] }
  | .frz o u => h.get? a = some o ∧ ObjOk H h a u
  | .tbl ps => h.get? a = some { cls := .none, data := .fields ps }
  | .met f x => h.get? a = some (PySem.W.methodObj (.ref f) (.ref x))
  | .ext φ => φ h ∧ (∃ o, h.get? a = some o) ∧ ∀ h1 h2 : Heap, φ h1 → (∀ o, h1.get? a = some o → h2.get? a = some o) → φ h2
def HOk (H : Hp) (h : Heap) : Prop := ∀ a o, H a = some o → ObjOk P w H h a o
end

section
variable {P : Program} {w : World} {H H' : Hp} {h h' : Heap} {a : Addr} {o : HO}
theorem ObjOk.lt (x : ObjOk P w H h a o) : a < h.objs.size := by
  cases o with
  | lst xs => obtain ⟨_, _, _, _, e⟩ := x; exact Heap.lt_size e
  | tup xs => obtain ⟨_, _, _, p⟩ := x; exact p.lt
  | dK kvs => obtain ⟨_, _, _, _, o, _, _, e, _⟩ := x; exact Heap.lt_size e
  | dT kvs => obtain ⟨_, _, _, _, o, _, _, e, _⟩ := x; exact Heap.lt_size e
  | set S n => obtain ⟨o, _, _, _, e, _⟩ := x; exact Heap.lt_size e
  | ins C dx fs => obtain ⟨_, _, _, e, _⟩ := x; exact Heap.lt_size e
  | own y => obtain ⟨_, e⟩ := x; exact Heap.lt_size e
  | xd fs => obtain ⟨_, ⟨_, _, _, e, _⟩, _⟩ := x; exact Heap.lt_size e
  | rng lo hi => obtain ⟨_, _, _, e⟩ := x; exact Heap.lt_size e
  | frz ob u => obtain ⟨e, _⟩ := x; exact Heap.lt_size e
  | tbl ps => exact Heap.lt_size (show h.get? a = some _ from x)
  | met f y => exact Heap.lt_size (show h.get? a = some _ from x)
  | ext φ => obtain ⟨_, ⟨_, e⟩, _⟩ := x; exact Heap.lt_size e
theorem Paired.mapP {α β : Type} {F G : α → β → Prop} : ∀ {l₁ : List α} {l₂ : List β}, Paired F l₁ l₂ → (∀ a b, F a b → G a b) → Paired G l₁ l₂
  | _, _, .nil, _ => .nil
  | _, _, .cons r t, f => .cons (f _ _ r) (Paired.mapP t f)
theorem ObjOk.stay (x : ObjOk P w H h a o) (k : ∀ b u, (b = a ∨ H b = some (.own a)) → h.get? b = some u → h'.get? b = some u)
    (ho : ∀ b, H b = some (.own a) → H' b = some (.own a)) (ht : ∀ b xs, H b = some (.tup xs) → H' b = some (.tup xs)) : ObjOk P w H' h' a o := by
  induction o with
  | lst xs => obtain ⟨z, its, n, r, e⟩ := x; exact ⟨z, its, n, r, k _ _ (.inl rfl) e⟩
  | tup xs => obtain ⟨z, its, r, ob, e, c⟩ := x; exact ⟨z, its, r, ob, k _ _ (.inl rfl) e, c⟩
  | dK kvs => obtain ⟨z, y, vs, r, ob, es, ep, e, c⟩ := x; exact ⟨z, y, vs, r, ob, es, ep, k _ _ (.inl rfl) e, c⟩
  | dT kvs =>
    obtain ⟨z, y, xs, r, ob, es, ep, e, c⟩ := x
    exact ⟨z, y, xs, Paired.mapP r fun p q z => ⟨z.1, ht _ _ z.2.1, z.2.2⟩, ob, es, ep, k _ _ (.inl rfl) e, c⟩
  | set S n => obtain ⟨ob, es, ep, t, e, c⟩ := x; exact ⟨ob, es, ep, t, k _ _ (.inl rfl) e, c⟩
  | ins C dx fs =>
    obtain ⟨d, z, ne, e, mA, ⟨od, es, ep, e2, c⟩, r⟩ := x
    exact ⟨ho _ d, z, ne, k _ _ (.inl rfl) e, mA, ⟨od, es, ep, k _ _ (.inr d) e2, c⟩, r⟩
  | own y => obtain ⟨ob, e⟩ := x; exact ⟨ob, k _ _ (.inl rfl) e⟩
  | xd fs => obtain ⟨mA, ⟨od, es, ep, e, c⟩, r⟩ := x; exact ⟨mA, ⟨od, es, ep, k _ _ (.inl rfl) e, c⟩, r⟩
  | rng lo hi => obtain ⟨t, u, v, e⟩ := x; exact ⟨t, u, v, k _ _ (.inl rfl) e⟩
  | frz ob u ih => obtain ⟨e, q⟩ := x; exact ⟨k _ _ (.inl rfl) e, ih q⟩
  | tbl ps =>
    have e : h.get? a = some { cls := .none, data := .fields ps } := x
    show h'.get? a = some { cls := .none, data := .fields ps }
    exact k a _ (.inl rfl) e
  | met f y =>
    have e : h.get? a = some (PySem.W.methodObj (.ref f) (.ref y)) := x
    show h'.get? a = some (PySem.W.methodObj (.ref f) (.ref y))
    exact k a _ (.inl rfl) e
  | ext φ => obtain ⟨p, ⟨o, e⟩, st⟩ := x; exact ⟨st _ _ p fun o q => k _ _ (.inl rfl) q, ⟨o, k _ _ (.inl rfl) e⟩, st⟩
theorem HOk.lt (x : HOk P w H h) (e : H a = some o) : a < h.objs.size := (x a o e).lt
theorem HOk.fresh (x : HOk P w H h) (e : h.objs.size ≤ a) : H a = none := by
  cases q : H a with
  | none => rfl
  | some u => exact absurd (Nat.lt_of_lt_of_le (x.lt q) e) (Nat.lt_irrefl _)
theorem HOk.kept (x : HOk P w H h) (k : ∀ b u, h.get? b = some u → h'.get? b = some u) : HOk P w H h' := fun a o e =>
  (x a o e).stay (fun b u _ q => k b u q) (fun _ q => q) fun _ _ q => q
theorem HOk.laid (x : HOk P w H h) (k : ∀ b u, h.get? b = some u → h'.get? b = some u) (hp : h.objs.size ≤ a) (new : ObjOk P w (upd H a o) h' a o) : HOk P w (upd H a o) h' := fun b u e => by
  have hn := x.fresh hp
  by_cases hb : b = a
  · subst hb; rw [upd_same] at e; cases e; exact new
  · rw [upd_ne hb] at e
    exact (x b u e).stay (fun c v _ q => k c v q) (fun c q => by rw [upd_ne (ne_of_none q hn)]; exact q) fun c xs q => by rw [upd_ne (ne_of_none q hn)]; exact q
end

def Rd (H : Hp) (a : Addr) (u : HO) : Prop := H a = some u ∨ ∃ o, H a = some (.frz o u)
theorem Rd.of {H : Hp} {a : Addr} {u : HO} (h : H a = some u) : Rd H a u := .inl h
theorem Rd.ok {P : Program} {w : World} {H : Hp} {h : Heap} {a : Addr} {u : HO} (r : Rd H a u) (x : HOk P w H h) : ObjOk P w H h a u := by
  rcases r with r | ⟨o, r⟩
  · exact x a u r
  · obtain ⟨_, q⟩ := x a _ r
    exact q
def Mut : Option HO → Prop
  | some (.lst _) => True
  | some (.dK _) => True
  | some (.dT _) => True
  | some (.set _ _) => True
  | some (.ins _ _ _) => True
  | some (.ext _) => True
  | _ => False
section
variable {P : Program} {w : World} {H : Hp} {h h' : Heap} {x e : Addr} {o' : HO}
theorem HOk.write (ok : HOk P w H h) (mu : Mut (H x)) (he : e = x ∨ H e = some (.own x)) (k : ∀ b u, b ≠ e → h.get? b = some u → h'.get? b = some u) (heo : ∃ u, h'.get? e = some u)
    (new : ObjOk P w (upd H x o') h' x o') : HOk P w (upd H x o') h' := fun b u q => by
  have nown : ∀ c y, H c = some (.own y) → c ≠ x := fun c y r z => by subst z; rw [r] at mu; exact mu
  have ntup : ∀ c xs, H c = some (.tup xs) → c ≠ x := fun c xs r z => by subst z; rw [r] at mu; exact mu
  by_cases hb : b = x
  · subst hb; rw [upd_same] at q; cases q; exact new
  · rw [upd_ne hb] at q
    by_cases hbe : b = e
    · have q' : H b = some (.own x) := by
        rcases he with z | z
        · exact absurd (hbe.trans z) hb
        · rw [hbe]; exact z
      rw [q] at q'; cases q'
      obtain ⟨v, hv⟩ := heo
      exact ⟨v, by rw [hbe]; exact hv⟩
    · refine (ok b u q).stay (fun c v hc r => k c v ?_ r) (fun c r => by rw [upd_ne (nown c b r)]; exact r) fun c xs r => by rw [upd_ne (ntup c xs r)]; exact r
      rcases hc with rfl | hc
      · exact hbe
      · rintro rfl
        rcases he with z | z
        · exact nown c b hc z
        · rw [hc] at z; cases z; exact hb rfl
end

structure Un (fs ex : List Addr) (H H' : Hp) (h h' : Heap) : Prop where
  keep : ∀ b o, h.get? b = some o → H b = none → b ∉ fs → b ∉ ex → h'.get? b = some o
  slot : ∀ b o, h.get? b = some o → H b = none → b ∈ fs → b ∉ ex → ∃ sl, h'.get? b = some { o with slots := sl }
  free : ∀ b o, h.get? b = some o → H b = none → b ∉ ex → H' b = none
  there : ∀ b o, h.get? b = some o → b ∉ ex → ∃ o', h'.get? b = some o'
  tups : ∀ b xs, H b = some (.tup xs) → H' b = some (.tup xs)
  frzs : ∀ b o u, H b = some (.frz o u) → H' b = some (.frz o u)
  tbls : ∀ b ps, H b = some (.tbl ps) → ∃ more, H' b = some (.tbl (ps ++ more))
section
variable {fs fs' ex ex' : List Addr} {H H1 H2 : Hp} {h h1 h2 h' : Heap} {a x e : Addr} {o : HO}
theorem Un.any (u : Un fs ex H H1 h h1) {b : Addr} {ob : Obj} (q : h.get? b = some ob) (n : H b = none) (hx : b ∉ ex) : ∃ sl, h1.get? b = some { ob with slots := sl } := by
  by_cases hb : b ∈ fs
  · exact u.slot b ob q n hb hx
  · exact ⟨ob.slots, u.keep b ob q n hb hx⟩
theorem Un.trans (a : Un fs ex H H1 h h1) (b : Un fs ex H1 H2 h1 h2) : Un fs ex H H2 h h2 where
  keep := fun c ob q n hc hx => b.keep c ob (a.keep c ob q n hc hx) (a.free c ob q n hx) hc hx
  slot := fun c ob q n hc hx => by
    obtain ⟨sl, e1⟩ := a.slot c ob q n hc hx
    obtain ⟨sl', e2⟩ := b.slot c _ e1 (a.free c ob q n hx) hc hx
    exact ⟨sl', e2⟩
  free := fun c ob q n hx => by
    obtain ⟨o', e1⟩ := a.there c ob q hx
    exact b.free c o' e1 (a.free c ob q n hx) hx
  there := fun c ob q hx => by
    obtain ⟨o', e1⟩ := a.there c ob q hx
    exact b.there c o' e1 hx
  tups := fun c xs q => b.tups c xs (a.tups c xs q)
  frzs := fun c ob xs q => b.frzs c ob xs (a.frzs c ob xs q)
  tbls := fun c ps q => by
    obtain ⟨m1, e1⟩ := a.tbls c ps q
    obtain ⟨m2, e2⟩ := b.tbls c _ e1
    exact ⟨m1 ++ m2, by rw [e2, Array.append_assoc]⟩
theorem Un.kept (k : ∀ b u, h.get? b = some u → h'.get? b = some u) : Un fs ex H H h h' :=
  ⟨fun b ob q _ _ _ => k b ob q, fun b ob q _ _ _ => ⟨ob.slots, k b ob q⟩, fun _ _ _ n _ => n, fun b ob q _ => ⟨ob, k b ob q⟩, fun _ _ q => q, fun _ _ _ q => q, fun _ ps q => ⟨#[], by rw [q]; simp⟩⟩
theorem Un.refl : Un fs ex H H h h := Un.kept fun _ _ q => q
theorem Un.laid (k : ∀ b u, h.get? b = some u → h'.get? b = some u) (hp : h.objs.size ≤ a) (hn : H a = none) : Un fs ex H (upd H a o) h h' where
  keep := fun b u q _ _ _ => k b u q
  slot := fun b u q _ _ _ => ⟨u.slots, k b u q⟩
  free := fun b u q n _ => by rw [upd_ne (Nat.ne_of_lt (Nat.lt_of_lt_of_le (Heap.lt_size q) hp))]; exact n
  there := fun b u q _ => ⟨u, k b u q⟩
  tups := fun b xs q => by rw [upd_ne (ne_of_none q hn)]; exact q
  frzs := fun b u xs q => by rw [upd_ne (ne_of_none q hn)]; exact q
  tbls := fun b ps q => ⟨#[], by rw [upd_ne (ne_of_none q hn), q]; simp⟩
theorem Un.write (mu : Mut (H x)) (he : e = x ∨ H e = some (.own x)) (k : ∀ b u, b ≠ e → h.get? b = some u → h'.get? b = some u) (heo : ∃ u, h'.get? e = some u) : Un fs ex H (upd H x o) h h' := by
  have hx : ∀ b, H b = none → b ≠ x := fun b n z => by subst z; rw [n] at mu; exact mu
  have hb : ∀ b, H b = none → b ≠ e := fun b n z => by
    subst z
    rcases he with r | r
    · exact hx b n r
    · rw [n] at r; cases r
  have hm : ∀ b u, H b = some u → ¬ Mut (some u) → b ≠ x := fun b u q nm z => by subst z; rw [q] at mu; exact nm mu
  refine ⟨fun b u q n _ _ => k b u (hb b n) q, fun b u q n _ _ => ⟨u.slots, k b u (hb b n) q⟩, fun b u q n _ => by rw [upd_ne (hx b n)]; exact n, fun b u q _ => ?_,
    fun b xs q => by rw [upd_ne (hm b _ q fun z => z)]; exact q, fun b u xs q => by rw [upd_ne (hm b _ q fun z => z)]; exact q, fun b ps q => ⟨#[], by rw [upd_ne (hm b _ q fun z => z), q]; simp⟩⟩
  by_cases hbe : b = e
  · subst hbe; exact heo
  · exact ⟨u, k b u hbe q⟩
theorem Un.mono (u : Un fs ex H H1 h h1) (hs : ∀ b ∈ fs, b ∈ fs') (hx : ∀ b ∈ ex, b ∈ ex') : Un fs' ex' H H1 h h1 :=
  ⟨fun b ob q n hb he => u.keep b ob q n (fun z => hb (hs b z)) fun z => he (hx b z), fun _ _ q n _ he => u.any q n fun z => he (hx _ z), fun b ob q n he => u.free b ob q n fun z => he (hx b z), fun b ob q he => u.there b ob q fun z => he (hx b z), u.tups, u.frzs, u.tbls⟩
end

def trk (h : Heap) (H : Hp) : List Addr := (List.range h.objs.size).filter fun a => (H a).isSome
def hidT (h : Heap) (H : Hp) : Heap := PySem.W.hideAll h (trk h H)
theorem hidT_size (h : Heap) (H : Hp) : (hidT h H).objs.size = h.objs.size := PySem.W.hideAll_size _ _
theorem hidT_get {h : Heap} {H : Hp} {b : Addr} {o : Obj} (e : h.get? b = some o) (n : H b = none) : (hidT h H).get? b = some o :=
  PySem.W.hideAll_get _ e fun hm => by
    have q : (H b).isSome = true := (List.mem_filter.mp hm).2
    rw [n] at q; simp at q
theorem of_hidT {h : Heap} {H : Hp} {b : Addr} {o : Obj} (e : (hidT h H).get? b = some o) : h.get? b = some o ∧ H b = none := by
  have e' : h.get? b = some o := PySem.W.of_hideAll (trk h H) e
  refine ⟨e', ?_⟩
  cases q : H b with
  | none => rfl
  | some x =>
    have hm : b ∈ trk h H := List.mem_filter.mpr ⟨List.mem_range.mpr (Heap.lt_size e'), by simp [q]⟩
    have z : (hidT h H).get? b = none := PySem.W.hideAll_none (trk h H) hm
    rw [z] at e; cases e

def allNews (g h : Heap) (L : Addr) : List (Addr × Obj) := (List.range h.objs.size).filterMap fun a => if a = L ∨ (g.get? a).isSome = true then none else (h.get? a).map fun o => (a, o)
def rest (g h : Heap) (L d : Addr) : List (Addr × Obj) := (allNews g h L).filter fun p => decide (p.1 ≠ d)
end L2

namespace L2
open PySem PySem.Spec PyProof.Rows

structure Mod (K : PySem.W.Frag) (mg : Str → Option Value) (base : Heap) : Prop where
  kin : K.In base
  glob : base.Ns mainGlobals mg
  blt : ∃ mb, base.Ns builtinsNs mb ∧ ∀ x : Str, x ≠ "__name__" → mb x = bootBuiltins x
  nolimit : base.NoLimit

structure Cx where
  prog : Program
  w : World
  K : PySem.W.Frag
  mg : Str → Option Value
  base : Heap
  A : Around
  N : List Str
  s₀ : Shared
  H₀ : Hp
  env : Env
  outer : List Env
  stack : List Env
  ex : List Addr
  fn : Str → Bool
  calm : Bool
  pn : List (Addr × Obj)
  xe : Value → Shared → Prop
def frs (l : List Env) : List Addr := l.filterMap (·.frame)
abbrev Cx.fs (X : Cx) : List Addr := frs X.outer

def Vis (sc : Scope) (x : Str) : Prop := sc.names.lookup x = some .local ∨ sc.names.lookup x = some .cell ∨ sc.names.lookup x = some .free
def Loc (sc : Scope) (x : Str) : Prop := sc.names.lookup x = some .local ∨ sc.names.lookup x = some .cell
def Look (env : Env) (h : Heap) (m : Str → Option Value) (x : Str) (u : Value) : Prop :=
  (env.kindOf x = some .local ∧ m x = some u) ∨ ((env.kindOf x = some .cell ∨ env.kindOf x = some .free) ∧ ∃ c, env.cells.lookup x = some c ∧ h.IsCell c (some u))

structure Cx.Ok (X : Cx) : Prop where
  mod : Mod X.K X.mg X.base
  kind : X.env.scope.kind = .function
  glob : X.env.globals = mainGlobals
  blt : X.env.builtins = builtinsNs
  above : X.s₀.heap.objs.size ≤ X.env.locals
  inj : ∀ x y c, X.env.cells.lookup x = some c → X.env.cells.lookup y = some c → x = y
  has : ∀ x, (X.env.kindOf x = some .cell ∨ X.env.kindOf x = some .free) → ∃ c, X.env.cells.lookup x = some c
  cab : ∀ x c, X.fn x = true → X.env.cells.lookup x = some c → X.s₀.heap.objs.size ≤ c
  hd : X.calm = true → X.A.handled = none
  frames : X.A.frames = some X.stack
  stk : X.stack = X.outer ∨ (X.stack = X.env :: X.outer ∧ X.env.frame = some X.env.locals)
  exf : ∀ b ∈ X.ex, b ≠ X.env.locals ∧ ∀ x c, X.env.cells.lookup x = some c → c ≠ b
  bs : ∀ b o, X.base.get? b = some o → X.s₀.heap.get? b = some o ∧ X.H₀ b = none
  bsz : X.base.objs.size ≤ X.s₀.heap.objs.size
  noex : ∀ b o, X.base.get? b = some o → b ∉ X.ex
  exfs : ∀ b ∈ X.ex, b ∉ X.fs
  funs : X.s₀.heap.FunFrames X.base X.outer
  frf : ∀ b ∈ X.fs, X.H₀ b = none

structure Inv (X : Cx) (pins : List (Addr × Obj)) (σ : List (Option V)) (H : Hp) (s : Shared) : Prop where
  ok : X.Ok
  os : s.os = X.s₀.os
  bare : AllBare s.gens
  base : Un X.fs X.ex X.H₀ H X.s₀.heap s.heap
  loc : ∃ m, s.heap.Ns X.env.locals m ∧ ∀ (i : Nat) (x : Str) (v : V), X.N[i]? = some x → σ[i]? = some (some v) → Vis X.env.scope x → ∃ u, RelV v u ∧ Look X.env s.heap m x u
  cell : ∀ x c, X.env.cells.lookup x = some c → ∃ v, s.heap.IsCell c v
  free : H X.env.locals = none
  freeC : ∀ x c, X.env.cells.lookup x = some c → H c = none
  pin : ∀ p ∈ X.pn ++ pins, s.heap.get? p.1 = some p.2 ∧ H p.1 = none ∧ p.1 ≠ X.env.locals ∧ p.1 ∉ X.fs ∧ ∀ v, p.2.data ≠ .cell v
  hok : HOk X.prog X.w H s.heap
  len : σ.length = X.N.length

section
variable {X : Cx} {pins : List (Addr × Obj)} {σ : List (Option V)} {H H' : Hp} {s : Shared} {h' : Heap}

theorem Cx.Ok.nofr (ok : X.Ok) {b : Addr} {o : Obj} (e : X.base.get? b = some o) : b ∉ X.fs := fun hb => by
  have := (ok.funs.mem hb).1
  rw [e] at this; cases this
theorem Inv.bs (I : Inv X pins σ H s) : ∀ b o, X.base.get? b = some o → s.heap.get? b = some o ∧ H b = none := fun b o e =>
  ⟨I.base.keep b o (I.ok.bs b o e).1 (I.ok.bs b o e).2 (I.ok.nofr e) (I.ok.noex b o e), I.base.free b o (I.ok.bs b o e).1 (I.ok.bs b o e).2 (I.ok.noex b o e)⟩
theorem Inv.bk (I : Inv X pins σ H s) : ∀ b o, X.base.get? b = some o → s.heap.get? b = some o := fun b o e => (I.bs b o e).1
theorem Inv.mod (I : Inv X pins σ H s) : Mod X.K X.mg X.base := I.ok.mod
theorem Inv.kIn (I : Inv X pins σ H s) : X.K.In s.heap := I.ok.mod.kin.keeps I.bk
theorem Inv.nolimit (I : Inv X pins σ H s) : s.heap.NoLimit := I.ok.mod.nolimit.keeps I.bk
theorem Inv.fr (I : Inv X pins σ H s) : ∃ m, Fr X.base X.env.locals s.heap m :=
  let ⟨m, hn, _⟩ := I.loc
  ⟨m, hn, I.bk, Nat.le_trans I.ok.bsz I.ok.above⟩
theorem Inv.lt (I : Inv X pins σ H s) : X.env.locals < s.heap.objs.size := let ⟨_, hn, _⟩ := I.loc; hn.lt
theorem Inv.sz (I : Inv X pins σ H s) : X.s₀.heap.objs.size ≤ s.heap.objs.size := Nat.le_trans I.ok.above (Nat.le_of_lt I.lt)
theorem Inv.nofs (I : Inv X pins σ H s) {a : Addr} (h : s.heap.objs.size ≤ a) : a ∉ X.fs := fun hb => by
  obtain ⟨_, o, ho, _⟩ := I.ok.funs.mem hb
  exact absurd (Nat.lt_of_lt_of_le (Heap.lt_size ho) (Nat.le_trans I.sz h)) (Nat.lt_irrefl _)
theorem Inv.cne (I : Inv X pins σ H s) : ∀ x c, X.env.cells.lookup x = some c → c ≠ X.env.locals := fun x c e z => by
  obtain ⟨v, o, ho, hd⟩ := I.cell x c e
  obtain ⟨m, ⟨o', es, ep, ho', hd', _⟩, _⟩ := I.loc
  rw [z, ho'] at ho; cases ho; rw [hd'] at hd; cases hd
theorem Inv.funs (I : Inv X pins σ H s) : s.heap.FunFrames X.base X.outer := by
  have all : ∀ (l : List Env), (∀ b ∈ frs l, b ∈ X.fs) → X.s₀.heap.FunFrames X.base l → s.heap.FunFrames X.base l := by
    intro l
    induction l with
    | nil => intro _ _; trivial
    | cons env r ih =>
      intro hs hl
      obtain ⟨hk, ⟨L, o, hf, hn, ho, hd⟩, hr⟩ := hl
      have hL : L ∈ X.fs := hs L (by unfold frs; rw [List.filterMap_cons, hf]; exact List.mem_cons_self)
      obtain ⟨sl, e⟩ := I.base.slot L o ho (I.ok.frf L hL) hL fun z => I.ok.exfs L z hL
      exact ⟨hk, ⟨L, _, hf, hn, e, hd⟩, ih (fun b hb => hs b (by unfold frs; rw [List.filterMap_cons, hf]; exact List.mem_cons_of_mem _ hb)) hr⟩
  exact all X.outer (fun _ hb => hb) I.ok.funs

theorem Inv.stack (I : Inv X pins σ H s) : s.heap.FunFrames X.base X.stack := by
  rcases I.ok.stk with e | ⟨e, hf⟩
  · rw [e]; exact I.funs
  · rw [e]
    obtain ⟨m, hn, _⟩ := I.loc
    refine .cons (by rw [I.ok.kind]; decide) hf hn ?_ I.funs
    exact Heap.get?_none_of_le (Nat.le_trans I.ok.bsz I.ok.above)
theorem Inv.stkSub (I : Inv X pins σ H s) : ∀ b ∈ frs X.stack, b ∈ X.env.locals :: X.fs := fun b hb => by
  rcases I.ok.stk with e | ⟨e, hf⟩
  · rw [e] at hb; exact List.mem_cons_of_mem _ hb
  · rw [e] at hb
    unfold frs at hb
    rw [List.filterMap_cons, hf] at hb
    exact hb
theorem Inv.stkFree (I : Inv X pins σ H s) : ∀ b ∈ frs X.stack, H b = none := fun b hb => by
  rcases List.mem_cons.mp (I.stkSub b hb) with e | hb
  · rw [e]; exact I.free
  · obtain ⟨_, o, ho, _⟩ := I.ok.funs.mem hb
    exact I.base.free b o ho (I.ok.frf b hb) fun z => I.ok.exfs b z hb

theorem Inv.step {g' : Array GenState} {t' : Nat} {d' : Drawn} {ch : List Addr} (I : Inv X pins σ H s)
    (hch : ∀ b ∈ ch, (b ∈ X.ex ∨ X.s₀.heap.objs.size ≤ b) ∧ b ≠ X.env.locals ∧ (∀ x c, X.env.cells.lookup x = some c → c ≠ b) ∧ ∀ p ∈ X.pn ++ pins, p.1 ≠ b)
    (keep : ∀ b o, b ≠ X.env.locals → b ∉ X.fs → b ∉ ch → s.heap.get? b = some o → H b = none → h'.get? b = some o)
    (slot : ∀ b o, b ≠ X.env.locals → b ∈ X.fs → b ∉ ch → s.heap.get? b = some o → H b = none → ∃ sl, h'.get? b = some { o with slots := sl }) (free : ∀ b o, b ∉ ch → s.heap.get? b = some o → H b = none → H' b = none)
    (there : ∀ b o, b ∉ ch → s.heap.get? b = some o → ∃ o', h'.get? b = some o')
    (tups : ∀ b xs, H b = some (.tup xs) → H' b = some (.tup xs)) (frzs : ∀ b o u, H b = some (.frz o u) → H' b = some (.frz o u)) (tbls : ∀ b ps, H b = some (.tbl ps) → ∃ more, H' b = some (.tbl (ps ++ more)))
    (ns : ∀ m, s.heap.Ns X.env.locals m → h'.Ns X.env.locals m) (hok : HOk X.prog X.w H' h') (hg : AllBare g') :
    Inv X pins σ H' { s with heap := h', gens := g', drawn := d', toks := t' } := by
  have neL : ∀ b o, X.s₀.heap.get? b = some o → b ≠ X.env.locals := fun b o e => Nat.ne_of_lt (Nat.lt_of_lt_of_le (Heap.lt_size e) I.ok.above)
  have neC : ∀ b o, X.s₀.heap.get? b = some o → b ∉ X.ex → b ∉ ch := fun b o e hx hb => by
    rcases (hch b hb).1 with z | z
    · exact hx z
    · exact absurd (Nat.lt_of_lt_of_le (Heap.lt_size e) z) (Nat.lt_irrefl _)
  have cellK : ∀ x c, X.env.cells.lookup x = some c → ∀ v, s.heap.IsCell c v → h'.IsCell c v := fun x c e v ⟨o, ho, hd⟩ => by
    have nch : c ∉ ch := fun z => (hch c z).2.2.1 x c e rfl
    by_cases hc : c ∈ X.fs
    · obtain ⟨sl, q⟩ := slot c o (I.cne x c e) hc nch ho (I.freeC x c e)
      exact ⟨_, q, hd⟩
    · exact ⟨o, keep c o (I.cne x c e) hc nch ho (I.freeC x c e), hd⟩
  refine ⟨I.ok, I.os, hg, ⟨fun b o e n hb hx => ?_, fun b o e n hb hx => ?_, fun b o e n hx => ?_, fun b o e hx => ?_, fun b xs e => tups b xs (I.base.tups b xs e), fun b o xs e => frzs b o xs (I.base.frzs b o xs e), fun b ps e => ?_⟩, ?_, fun x c e => ?_, ?_, fun x c e => ?_, fun p hp => ?_, hok, I.len⟩
  · exact keep b o (neL b o e) hb (neC b o e hx) (I.base.keep b o e n hb hx) (I.base.free b o e n hx)
  · obtain ⟨sl, e1⟩ := I.base.slot b o e n hb hx
    obtain ⟨sl', e2⟩ := slot b _ (neL b o e) hb (neC b o e hx) e1 (I.base.free b o e n hx)
    exact ⟨sl', e2⟩
  · obtain ⟨o', e1⟩ := I.base.there b o e hx
    exact free b o' (neC b o e hx) e1 (I.base.free b o e n hx)
  · obtain ⟨o', e1⟩ := I.base.there b o e hx
    exact there b o' (neC b o e hx) e1
  · obtain ⟨m1, e1⟩ := I.base.tbls b ps e
    obtain ⟨m2, e2⟩ := tbls b _ e1
    exact ⟨m1 ++ m2, by rw [e2, Array.append_assoc]⟩
  · obtain ⟨m, hn, hl⟩ := I.loc
    refine ⟨m, ns m hn, fun i x v e1 e2 e3 => ?_⟩
    obtain ⟨u, r, l⟩ := hl i x v e1 e2 e3
    refine ⟨u, r, ?_⟩
    rcases l with l | ⟨k, c, e, z⟩
    · exact .inl l
    · exact .inr ⟨k, c, e, cellK x c e _ z⟩
  · obtain ⟨v, z⟩ := I.cell x c e
    exact ⟨v, cellK x c e v z⟩
  · obtain ⟨m, ⟨o, _, _, ho, _⟩, _⟩ := I.loc
    exact free _ o (fun z => (hch _ z).2.1 rfl) ho I.free
  · obtain ⟨v, o, ho, hd⟩ := I.cell x c e
    exact free c o (fun z => (hch c z).2.2.1 x c e rfl) ho (I.freeC x c e)
  · obtain ⟨e, n, ne, nf, d⟩ := I.pin p hp
    have nch : p.1 ∉ ch := fun z => (hch p.1 z).2.2.2 p hp rfl
    exact ⟨keep p.1 p.2 ne nf nch e n, free p.1 p.2 nch e n, ne, nf, d⟩
theorem Inv.un {t' : Nat} (I : Inv X pins σ H s) (u : Un X.fs [] H H' s.heap h') (hok : HOk X.prog X.w H' h') : Inv X pins σ H' { s with heap := h', toks := t' } := by
  obtain ⟨m, ⟨o, es, ep, ho, r⟩, _⟩ := id I.loc
  obtain ⟨sl, hL⟩ := u.any ho I.free (by simp)
  exact I.step (g' := s.gens) (d' := s.drawn) (ch := []) (fun _ z => nomatch z) (fun b o _ hb _ e n => u.keep b o e n hb (by simp)) (fun b o _ hb _ e n => u.slot b o e n hb (by simp)) (fun b o _ e n => u.free b o e n (by simp)) (fun b o _ e => u.there b o e (by simp)) u.tups u.frzs u.tbls (fun m' hm => by
    obtain ⟨o', es', ep', ho', r'⟩ := hm
    rw [ho] at ho'; cases ho'
    exact ⟨_, es', ep', hL, r'⟩) hok I.bare
theorem Inv.call {g' : Array GenState} {t' : Nat} {d' : Drawn} {ch : List Addr} (I : Inv X pins σ H s) (u : Un (frs X.stack) ch H H' s.heap h') (hok : HOk X.prog X.w H' h') (hg : AllBare g')
    (hch : ∀ b ∈ ch, (b ∈ X.ex ∨ X.s₀.heap.objs.size ≤ b) ∧ b ≠ X.env.locals ∧ (∀ x c, X.env.cells.lookup x = some c → c ≠ b) ∧ ∀ p ∈ X.pn ++ pins, p.1 ≠ b) :
    Inv X pins σ H' { s with heap := h', gens := g', drawn := d', toks := t' } := by
  obtain ⟨m, ⟨o, es, ep, ho, r⟩, _⟩ := id I.loc
  obtain ⟨sl, hL⟩ := u.any ho I.free fun z => (hch _ z).2.1 rfl
  exact I.step (ch := ch) hch (fun b o hL hb hc e n => u.keep b o e n (fun z => (List.mem_cons.mp (I.stkSub b z)).elim hL hb) hc) (fun b o _ _ hc e n => u.any e n hc) (fun b o hc e n => u.free b o e n hc) (fun b o hc e => u.there b o e hc) u.tups u.frzs u.tbls (fun m' hm => by
    obtain ⟨o', es', ep', ho', r'⟩ := hm
    rw [ho] at ho'; cases ho'
    exact ⟨_, es', ep', hL, r'⟩) hok hg
theorem Inv.turned {t' : Nat} {it : Addr} (I : Inv X pins σ H s) (k : ∀ b o, b ≠ it → s.heap.get? b = some o → h'.get? b = some o) (hn : H it = none) (hL : it ≠ X.env.locals)
    (h1 : it ∈ X.ex ∨ X.s₀.heap.objs.size ≤ it) (h2 : ∀ x c, X.env.cells.lookup x = some c → c ≠ it) (h3 : ∀ p ∈ X.pn ++ pins, p.1 ≠ it) : Inv X pins σ H { s with heap := h', toks := t' } := by
  have nit : ∀ b u, H b = some u → b ≠ it := fun b u e z => by rw [z, hn] at e; cases e
  refine I.step (g' := s.gens) (d' := s.drawn) (ch := [it]) (fun b hb => ?_) (fun b o _ _ hc e _ => k b o (fun z => hc (by simp [z])) e) (fun b o _ _ hc e _ => ⟨o.slots, k b o (fun z => hc (by simp [z])) e⟩) (fun _ _ _ _ n => n)
    (fun b o hc e => ⟨o, k b o (fun z => hc (by simp [z])) e⟩) (fun _ _ e => e) (fun _ _ _ e => e) (fun b ps e => ⟨#[], by rw [e]; simp⟩) (fun m hm => ?_) (fun b u e => ?_) I.bare
  · have e : b = it := by simpa using hb
    subst e
    exact ⟨h1, hL, h2, h3⟩
  · obtain ⟨o, es, ep, ho, r⟩ := hm
    exact ⟨o, es, ep, k _ o (Ne.symm hL) ho, r⟩
  · refine (I.hok b u e).stay (fun c v hc q => k c v ?_ q) (fun _ q => q) fun _ _ q => q
    rcases hc with z | z
    · rw [z]; exact nit b u e
    · exact nit c _ z
theorem Inv.tok (I : Inv X pins σ H s) (t : Nat) : Inv X pins σ H { s with toks := t } := I.un (h' := s.heap) (t' := t) Un.refl I.hok
theorem Inv.kept {t' : Nat} (I : Inv X pins σ H s) (k : ∀ b u, s.heap.get? b = some u → h'.get? b = some u) : Inv X pins σ H { s with heap := h', toks := t' } := I.un (Un.kept k) (I.hok.kept k)
theorem Inv.laid {a : Addr} {o : HO} {t' : Nat} (I : Inv X pins σ H s) (k : ∀ b u, s.heap.get? b = some u → h'.get? b = some u) (hp : s.heap.objs.size ≤ a) (new : ObjOk X.prog X.w (upd H a o) h' a o) :
    Inv X pins σ (upd H a o) { s with heap := h', toks := t' } := I.un (Un.laid k hp (I.hok.fresh hp)) (I.hok.laid k hp new)
theorem Inv.write {x e : Addr} {o : HO} {t' : Nat} (I : Inv X pins σ H s) (mu : Mut (H x)) (he : e = x ∨ H e = some (.own x)) (k : ∀ b u, b ≠ e → s.heap.get? b = some u → h'.get? b = some u) (heo : ∃ u, h'.get? e = some u)
    (new : ObjOk X.prog X.w (upd H x o) h' x o) : Inv X pins σ (upd H x o) { s with heap := h', toks := t' } := I.un (Un.write mu he k heo) (I.hok.write mu he k heo new)
theorem Inv.pins_of {pins' : List (Addr × Obj)} (I : Inv X pins σ H s) (h : ∀ p ∈ pins', s.heap.get? p.1 = some p.2 ∧ H p.1 = none ∧ p.1 ≠ X.env.locals ∧ p.1 ∉ X.fs ∧ ∀ v, p.2.data ≠ .cell v) : Inv X pins' σ H s :=
  ⟨I.ok, I.os, I.bare, I.base, I.loc, I.cell, I.free, I.freeC, fun p hp => (List.mem_append.mp hp).elim (fun z => I.pin p (List.mem_append_left _ z)) (h p), I.hok, I.len⟩

theorem nodup_ix {N : List Str} (hN : N.Nodup) {i j : Nat} {x : Str} (a : N[i]? = some x) (b : N[j]? = some x) : i = j := by
  obtain ⟨h1, e1⟩ := List.getElem?_eq_some_iff.mp a
  obtain ⟨h2, e2⟩ := List.getElem?_eq_some_iff.mp b
  exact (List.getElem_inj hN).mp (e1.trans e2.symm)

theorem store_ok2 {M : Model} {A : Around} {E : Value → Shared → Prop} {i : Nat} {x : Str} {v : V} {u : Value} {Q : Unit → Shared → Prop} (I : Inv X pins σ H s) (hN : X.N.Nodup) (hi : X.N[i]? = some x) (hx : Loc X.env.scope x) (r : RelV v u)
    (h : ∀ s', Inv X pins (σ.set i (some v)) H s' → (∃ a, Heap.SameBut a s.heap s'.heap ∧ (a = X.env.locals ∨ X.env.cells.lookup x = some a)) → Q () s') (hf : X.fn x = true ∨ X.env.scope.names.lookup x = some .local := by first | exact .inl rfl | exact .inr rfl | assumption) : wpAny M A (storeName X.env x u) Q E s := by
  obtain ⟨m, hn, hl⟩ := id I.loc
  have hcls : (X.env.scope.kind == .class || (X.env.scope.kind == .module && X.env.locals != X.env.globals)) = false := by rw [I.ok.kind]; rfl
  have hiσ : i < σ.length := by rw [I.len]; exact (List.getElem?_eq_some_iff.mp hi).1
  have cne := I.cne
  have tracked : ∀ {a : Addr} {h' : Heap}, (∃ o, s.heap.get? a = some o ∧ H a = none) → Heap.SameBut a s.heap h' → HOk X.prog X.w H h' := fun {a h'} ha hs b ob e => by
    obtain ⟨_, _, hfree⟩ := ha
    refine (I.hok b ob e).stay (fun c w' hc q => (hs.2 c ?_).trans q) (fun _ q => q) fun _ _ q => q
    rintro rfl
    rcases hc with rfl | hc
    · rw [hfree] at e; cases e
    · rw [hfree] at hc; cases hc
  rcases hx with hk | hk
  · refine wpAny_storeName_local hk hn (fun h' hn' hs => ?_) hcls
    obtain ⟨oL, _, _, hoL, _⟩ := id hn
    refine h _ ⟨I.ok, I.os, I.bare, ⟨fun b o e n hb hx => ?_, fun b o e n hb hx => ?_, I.base.free, fun b o e hx => ?_, I.base.tups, I.base.frzs, I.base.tbls⟩, ⟨_, hn', fun j y v' e1 e2 e3 => ?_⟩, fun y c e => ?_, I.free, I.freeC, fun p hp => ?_, tracked ⟨oL, hoL, I.free⟩ hs, by simpa using I.len⟩ ⟨_, hs, .inl rfl⟩
    · exact (hs.2 b (Nat.ne_of_lt (Nat.lt_of_lt_of_le (Heap.lt_size e) I.ok.above))).trans (I.base.keep b o e n hb hx)
    · obtain ⟨sl, e1⟩ := I.base.slot b o e n hb hx
      exact ⟨sl, (hs.2 b (Nat.ne_of_lt (Nat.lt_of_lt_of_le (Heap.lt_size e) I.ok.above))).trans e1⟩
    · obtain ⟨o', e1⟩ := I.base.there b o e hx
      exact ⟨o', (hs.2 b (Nat.ne_of_lt (Nat.lt_of_lt_of_le (Heap.lt_size e) I.ok.above))).trans e1⟩
    · by_cases hj : j = i
      · subst hj
        rw [hi] at e1; cases e1
        rw [List.getElem?_set_self hiσ] at e2
        cases e2
        exact ⟨u, r, .inl ⟨hk, by simp⟩⟩
      · rw [List.getElem?_set_ne (Ne.symm hj)] at e2
        obtain ⟨u', r', q⟩ := hl j y v' e1 e2 e3
        refine ⟨u', r', ?_⟩
        rcases q with ⟨k, e⟩ | ⟨k, c, e, z⟩
        · refine .inl ⟨k, ?_⟩
          have : y ≠ x := fun e => hj (nodup_ix hN e1 (e ▸ hi))
          simp [this, e]
        · exact .inr ⟨k, c, e, z.sameBut hs (cne y c e)⟩
    · obtain ⟨w', z⟩ := I.cell y c e
      exact ⟨w', z.sameBut hs (cne y c e)⟩
    · obtain ⟨e, n, ne, nf, d⟩ := I.pin p hp
      exact ⟨(hs.2 p.1 ne).trans e, n, ne, nf, d⟩
  · have hfn : X.fn x = true := by
      rcases hf with z | z
      · exact z
      · rw [z] at hk; cases hk
    obtain ⟨c, hc⟩ := I.ok.has x (.inl hk)
    obtain ⟨w', z⟩ := I.cell x c hc
    refine wpAny_storeName_cell I.ok.kind hk hc z (fun h' hc' hs => ?_)
    obtain ⟨oc, hoc, hocd⟩ := id z
    refine h { s with heap := h' } ⟨I.ok, I.os, I.bare, ⟨fun b o e n hb hx => ?_, fun b o e n hb hx => ?_, I.base.free, fun b o e hx => ?_, I.base.tups, I.base.frzs, I.base.tbls⟩, ⟨m, hn.sameBut hs (Ne.symm (cne x c hc)), fun j y v' e1 e2 e3 => ?_⟩, fun y c' e => ?_, I.free, I.freeC, fun p hp => ?_, tracked ⟨oc, hoc, I.freeC x c hc⟩ hs, by simpa using I.len⟩ ⟨c, hs, .inr hc⟩
    · exact (hs.2 b (Nat.ne_of_lt (Nat.lt_of_lt_of_le (Heap.lt_size e) (I.ok.cab x c hfn hc)))).trans (I.base.keep b o e n hb hx)
    · obtain ⟨sl, e1⟩ := I.base.slot b o e n hb hx
      exact ⟨sl, (hs.2 b (Nat.ne_of_lt (Nat.lt_of_lt_of_le (Heap.lt_size e) (I.ok.cab x c hfn hc)))).trans e1⟩
    · obtain ⟨o', e1⟩ := I.base.there b o e hx
      exact ⟨o', (hs.2 b (Nat.ne_of_lt (Nat.lt_of_lt_of_le (Heap.lt_size e) (I.ok.cab x c hfn hc)))).trans e1⟩
    · by_cases hj : j = i
      · subst hj
        rw [hi] at e1; cases e1
        rw [List.getElem?_set_self hiσ] at e2
        cases e2
        exact ⟨u, r, .inr ⟨.inl hk, c, hc, hc'⟩⟩
      · rw [List.getElem?_set_ne (Ne.symm hj)] at e2
        obtain ⟨u', r', q⟩ := hl j y v' e1 e2 e3
        refine ⟨u', r', ?_⟩
        rcases q with q | ⟨k, c', e, z'⟩
        · exact .inl q
        · refine .inr ⟨k, c', e, z'.sameBut hs ?_⟩
          rintro rfl
          exact hj (nodup_ix hN e1 (I.ok.inj _ _ _ e hc ▸ hi))
    · by_cases hcc : c' = c
      · subst hcc; exact ⟨_, hc'⟩
      · obtain ⟨w2, z2⟩ := I.cell y c' e
        exact ⟨w2, z2.sameBut hs hcc⟩
    · obtain ⟨e, n, ne, nf, d⟩ := I.pin p hp
      refine ⟨(hs.2 p.1 ?_).trans e, n, ne, nf, d⟩
      intro q
      rw [q, hoc] at e
      have q' : oc = p.2 := Option.some.inj e
      exact d w' (by rw [← q']; exact hocd)
theorem store_ok {M : Model} {A : Around} {E : Value → Shared → Prop} {i : Nat} {x : Str} {v : V} {u : Value} {Q : Unit → Shared → Prop} (I : Inv X pins σ H s) (hN : X.N.Nodup) (hi : X.N[i]? = some x) (hx : Loc X.env.scope x) (r : RelV v u)
    (h : ∀ s', Inv X pins (σ.set i (some v)) H s' → Q () s') (hf : X.fn x = true ∨ X.env.scope.names.lookup x = some .local := by first | exact .inl rfl | exact .inr rfl | assumption) : wpAny M A (storeName X.env x u) Q E s :=
  store_ok2 I hN hi hx r (fun s' I' _ => h s' I') hf
theorem Inv.call' {s' : Shared} {ch : List Addr} (I : Inv X pins σ H s) (ho : s'.os = s.os) (u : Un (frs X.stack) ch H H' s.heap s'.heap) (hok : HOk X.prog X.w H' s'.heap) (hg : AllBare s'.gens)
    (hch : ∀ b ∈ ch, (b ∈ X.ex ∨ X.s₀.heap.objs.size ≤ b) ∧ b ≠ X.env.locals ∧ (∀ x c, X.env.cells.lookup x = some c → c ≠ b) ∧ ∀ p ∈ X.pn ++ pins, p.1 ≠ b) : Inv X pins σ H' s' := by
  obtain ⟨h', g', d', t', o'⟩ := s'
  have e : o' = s.os := ho
  subst e
  exact I.call (g' := g') (t' := t') (d' := d') u hok hg hch
end

abbrev XK := Value → Option Addr → Hp → Prop
abbrev St := List (Option V)
abbrev VK := V → Hp → Prop
abbrev TE := St → Hp → VK → Prop
abbrev TT := St → Hp → (Bool → Hp → Prop) → Prop
abbrev TA := St → Hp → (List V → Hp → Prop) → Prop
structure Ends where
  nx : St → Hp → Prop
  rt : VK
  bk : St → Hp → Prop := fun _ _ => False
  ct : St → Hp → Prop := fun _ _ => False
abbrev TS := Ends → St → Hp → Prop

def EP (X : Cx) (pins : List (Addr × Obj)) (σ : St) (Q : VK) (u : Value) (s' : Shared) : Prop := ∃ v H', Inv X pins σ H' s' ∧ RelV v u ∧ Q v H'
def TP (X : Cx) (pins : List (Addr × Obj)) (σ : St) (Q : Bool → Hp → Prop) (b : Bool) (s' : Shared) : Prop := ∃ H', Inv X pins σ H' s' ∧ Q b H'
def AP (X : Cx) (pins : List (Addr × Obj)) (σ : St) (Q : List V → Hp → Prop) (us : List Value) (s' : Shared) : Prop := ∃ vs H', Inv X pins σ H' s' ∧ Vals vs us ∧ Q vs H'
def SP (X : Cx) (pins : List (Addr × Obj)) (D : Ends) (f : Flow) (s' : Shared) : Prop :=
  match f with
  | .next => ∃ σ' H', Inv X pins σ' H' s' ∧ D.nx σ' H'
  | .brk => ∃ σ' H', Inv X pins σ' H' s' ∧ D.bk σ' H'
  | .cont => ∃ σ' H', Inv X pins σ' H' s' ∧ D.ct σ' H'
  | .ret u => ∃ v σ' H', Inv X pins σ' H' s' ∧ RelV v u ∧ D.rt v H'

def PE (X : Cx) (e : Expr) (t : TE) : Prop :=
  ∀ (pins : List (Addr × Obj)) (s : Shared) (σ : St) (H : Hp) (Q : VK), Inv X pins σ H s → t σ H Q → wpAny (model X.prog X.w) X.A (eval e X.env) (EP X pins σ Q) X.xe s
def PT (X : Cx) (e : Expr) (t : TT) : Prop :=
  ∀ (pins : List (Addr × Obj)) (s : Shared) (σ : St) (H : Hp) (Q : Bool → Hp → Prop), Inv X pins σ H s → t σ H Q → wpAny (model X.prog X.w) X.A (isTrue e X.env (eval e X.env)) (TP X pins σ Q) X.xe s
def PW (X : Cx) (e : Expr) (t : TT) : Prop :=
  ∀ (whole : Sem Value) (pins : List (Addr × Obj)) (s : Shared) (σ : St) (H : Hp) (Q : Bool → Hp → Prop), Inv X pins σ H s → t σ H Q → wpAny (model X.prog X.w) X.A (isTrue e X.env whole) (TP X pins σ Q) X.xe s
theorem PW.pt {X : Cx} {e : Expr} {t : TT} (h : PW X e t) : PT X e t := h _
def PA (X : Cx) (es : List Expr) (t : TA) : Prop :=
  ∀ (pos : Pos) (pins : List (Addr × Obj)) (s : Shared) (σ : St) (H : Hp) (Q : List V → Hp → Prop), Inv X pins σ H s → t σ H Q → wpAny (model X.prog X.w) X.A (spliced (backTo pos (starEach es X.env))) (AP X pins σ Q) X.xe s
def PS (X : Cx) (st : Stmt) (t : TS) : Prop :=
  ∀ (pins : List (Addr × Obj)) (s : Shared) (σ : St) (H : Hp) (D : Ends), Inv X pins σ H s → t D σ H → wpAny (model X.prog X.w) X.A (exec st X.env) (SP X pins D) X.xe s
def PSs (X : Cx) (st : List Stmt) (t : TS) : Prop :=
  ∀ (pins : List (Addr × Obj)) (s : Shared) (σ : St) (H : Hp) (D : Ends), Inv X pins σ H s → t D σ H → wpAny (model X.prog X.w) X.A (execs st X.env) (SP X pins D) X.xe s
theorem thn {α : Type} {t : Sem α} {Q Q' : α → Shared → Prop} {M : Model} {A : Around} {E : Value → Shared → Prop} {s : Shared} (h : wpAny M A t Q E s) (hQ : ∀ a s, Q a s → Q' a s) : wpAny M A t Q' E s := wpAny_mono h hQ fun _ _ x => x
end L2

namespace L2
open PySem PySem.Spec PyProof.Rows
section
variable {X : Cx}

def tVar (i : Nat) : TE := fun σ H Q => ∃ v, σ[i]? = some (some v) ∧ Q v H
def tC (v : V) : TE := fun _ H Q => Q v H
theorem pe_var {i : Nat} {x : Str} {pos : Pos} (hN : X.N[i]? = some x) (hv : Vis X.env.scope x) (hd : (x == ("__debug__" : Str)) = false := by decide) (hcd : (x == ("__classdict__" : Str)) = false := by decide) : PE X (.Name x pos) (tVar i) := by
  intro pins s σ H Q I h
  obtain ⟨v, e, h⟩ := h
  obtain ⟨m, hn, hl⟩ := I.loc
  obtain ⟨u, r, l⟩ := hl i x v hN e hv
  have fin : EP X pins σ Q u s := ⟨v, H, I, r, h⟩
  rcases l with ⟨hk, hm⟩ | ⟨hk, c, hc, hcell⟩
  · exact wpAny_Name (wpAny_loadName_local I.ok.kind hk hn hm fin) hd
  · rcases hk with hk | hk
    · exact wpAny_Name (wpAny_loadName_cell I.ok.kind hk hc hcell fin) hd
    · exact wpAny_Name (wpAny_loadName_free I.ok.kind hk hc hcell fin hcd) hd
theorem pe_int {i j pos} : PE X (.Constant (.int i) j pos) (tC (.int i)) := fun _ _ _ H _ I h => wpAny_Constant_int ⟨.int i, H, I.tok _, ⟨_, rfl⟩, h⟩
theorem pe_bl {b j pos} : PE X (.Constant (.bool b) j pos) (tC (.bl b)) := fun _ _ _ H _ I h => Constant_bool ⟨.bl b, H, I, rfl, h⟩
theorem pe_non {j pos} : PE X (.Constant .none j pos) (tC .non) := fun _ _ _ H _ I h => Constant_none ⟨.non, H, I, rfl, h⟩
theorem pe_str {x j pos} : PE X (.Constant (.str x) j pos) (tC (.str x)) := fun _ _ _ H _ I h => Calls.Constant_str ⟨.str x, H, I.tok _, ⟨_, rfl⟩, h⟩

def Gl (X : Cx) (x : Str) : Prop := X.env.kindOf x = some .globalImplicit
theorem ld_glob {E : Value → Shared → Prop} {pins : List (Addr × Obj)} {s : Shared} {σ : St} {H : Hp} {x : Str} {u : Value} {pos : Pos} {Q : Value → Shared → Prop} (I : Inv X pins σ H s) (hg : Gl X x) (hm : X.mg x = some u) (h : Q u s)
    (hd : (x == ("__debug__" : Str)) = false := by decide) : wpAny (model X.prog X.w) X.A (eval (.Name x pos) X.env) Q E s :=
  Calls.Name_function_global I.ok.kind hg (Calls.loadGlobal_global (by rw [I.ok.glob]; exact I.mod.glob.keeps I.bk) hm h) hd
theorem ld_blt {E : Value → Shared → Prop} {pins : List (Addr × Obj)} {s : Shared} {σ : St} {H : Hp} {x : Str} {u : Value} {pos : Pos} {Q : Value → Shared → Prop} (I : Inv X pins σ H s) (hg : Gl X x) (hm : X.mg x = none) (hv : bootBuiltins x = some u) (h : Q u s)
    (hn : x ≠ "__name__" := by decide) (hd : (x == ("__debug__" : Str)) = false := by decide) : wpAny (model X.prog X.w) X.A (eval (.Name x pos) X.env) Q E s := by
  obtain ⟨mb, h1, h2⟩ := I.mod.blt
  exact Calls.Name_function_global I.ok.kind hg (Calls.loadGlobal_builtin (by rw [I.ok.glob]; exact I.mod.glob.keeps I.bk) hm (by rw [I.ok.blt]; exact h1.keeps I.bk) ((h2 x hn).trans hv) h) hd
theorem pe_glob {x : Str} {v : V} {u : Value} {pos : Pos} (hg : Gl X x) (hm : X.mg x = some u) (r : RelV v u) (hd : (x == ("__debug__" : Str)) = false := by decide) : PE X (.Name x pos) (tC v) :=
  fun _ _ _ H _ I h => ld_glob I hg hm ⟨v, H, I, r, h⟩ hd
theorem pe_bltn {x : Str} {v : V} {u : Value} {pos : Pos} (hg : Gl X x) (hm : X.mg x = none) (hv : bootBuiltins x = some u) (r : RelV v u) (hn : x ≠ "__name__" := by decide) (hd : (x == ("__debug__" : Str)) = false := by decide) : PE X (.Name x pos) (tC v) :=
  fun _ _ _ H _ I h => ld_blt I hg hm hv ⟨v, H, I, r, h⟩ hn hd

variable {a b : Expr} {ta tb : TE} {pos : Pos}
def tB (t : TE) : TT := fun σ H Q => t σ H fun x H1 => ∃ c, x = .bl c ∧ Q c H1
theorem pt_val {e : Expr} {t : TE} (h : PE X e t) (he : ∀ whole, isTrue e X.env whole = (do let v ← whole; standAt e.pos; holding [v] (truthy v)) := by intro _; rfl) : PT X e (tB t) := by
  intro pins s σ H Q I hw
  refine isTrue_plain (thn (h pins s σ H _ I hw) fun v s1 ⟨x, H1, I1, r1, q1⟩ => ?_) (he _)
  obtain ⟨d, rfl, q⟩ := q1
  cases r1
  exact wpAny_truthy_bool ⟨H1, I1, q⟩

variable {tA tB' : TT} {rest : List Expr}
def tOr (t u : TT) : TT := fun σ H Q => t σ H fun c H1 => if c = true then Q true H1 else u σ H1 Q
def tNot (t : TT) : TT := fun σ H Q => t σ H fun c H1 => Q (!c) H1
theorem pw_or1 (ha : PT X a tA) : PW X (.BoolOp .Or [a] pos) tA := by
  intro wh pins s σ H Q I h
  refine isTrue_or (thn (ha pins s σ H Q I h) fun c s1 e => ?_)
  cases c with
  | false => exact isTrue_or_nil e
  | true => exact e
theorem pw_or (ha : PT X a tA) (hb : PW X (.BoolOp .Or (b :: rest) pos) tB') : PW X (.BoolOp .Or (a :: b :: rest) pos) (tOr tA tB') := by
  intro wh pins s σ H Q I h
  refine isTrue_or (thn (ha pins s σ H _ I h) fun c s1 ⟨H1, I1, q1⟩ => ?_)
  cases c with
  | true => exact ⟨H1, I1, q1⟩
  | false => exact hb wh pins s1 σ H1 Q I1 q1
theorem pt_not (ha : PT X a tA) : PT X (.UnaryOp .Not a pos) (tNot tA) := by
  intro pins s σ H Q I h
  exact isTrue_not (ha pins s σ H (fun c H1 => Q (!c) H1) I h)
def tAndV (ta tb : TE) : TE := fun σ H Q => ta σ H fun x H1 => ∃ c, x = .bl c ∧ if c = true then tb σ H1 Q else Q (.bl false) H1
def tNotV (ta : TE) : TE := fun σ H Q => ta σ H fun x H1 => ∃ c, x = .bl c ∧ Q (.bl (!c)) H1
theorem pe_one {op} {t : TE} (h : PE X a t) : PE X (.BoolOp op [a] pos) t := fun pins s σ H Q I hw => BoolOp_one (h pins s σ H Q I hw)
theorem pe_and (ha : PE X a ta) (hb : PE X (.BoolOp .And (b :: rest) pos) tb) : PE X (.BoolOp .And (a :: b :: rest) pos) (tAndV ta tb) := by
  intro pins s σ H Q I h
  refine BoolOp_and (thn (ha pins s σ H _ I h) fun v s1 ⟨x, H1, I1, r1, q1⟩ => ?_)
  obtain ⟨c, rfl, q1⟩ := q1
  cases r1
  refine wpAny_truthy_bool ?_
  cases c with
  | true => exact hb pins s1 σ H1 Q I1 q1
  | false => exact ⟨.bl false, H1, I1, rfl, q1⟩
theorem pe_not (ha : PE X a ta) : PE X (.UnaryOp .Not a pos) (tNotV ta) := by
  intro pins s σ H Q I h
  refine UnaryOp_ (thn (ha pins s σ H _ I h) fun v s1 ⟨x, H1, I1, r1, q1⟩ => ?_)
  obtain ⟨c, rfl, q1⟩ := q1
  cases r1
  exact not_of (wpAny_truthy_bool ⟨.bl (!c), H1, I1, rfl, q1⟩)
end
end L2

namespace L2
open PySem PySem.Spec PyProof.Rows

def SqL (K : PySem.W.Frag) (H : Hp) (a : Addr) (xs : List V) : Prop :=
  Rd H a (.lst xs) ∨
    ∃ (o : Obj) (its : Array Value) (n : Nat), K.lookup a = some o ∧ o.cls = .type "list" ∧ o.dict = none ∧ o.data = .seq its n ∧ its.size ≤ sizeLine ∧ Vals xs its.toList
def SqT (K : PySem.W.Frag) (H : Hp) (a : Addr) (xs : List V) : Prop :=
  Rd H a (.tup xs) ∨
    ∃ (o : Obj) (its : Array Value) (n : Nat), K.lookup a = some o ∧ o.cls = .type "tuple" ∧ o.data = .seq its n ∧ its.size ≤ sizeLine ∧ Vals xs its.toList
def absV : Value → Option V
  | .none => some .non
  | .bool b => some (.bl b)
  | .int i _ => some (.int i)
  | .str x _ => some (.str x)
  | .bytes b _ => some (.byt b)
  | .float b _ => some (.flt b)
  | .ref a => some (.ref a)
  | .type n => some (.ty n)
  | _ => none
theorem RelV.abs {x : V} {u : Value} (r : RelV x u) : absV u = some x := by
  cases x with
  | non => cases r; rfl
  | bl _ => cases r; rfl
  | int _ => obtain ⟨t, rfl⟩ := r; rfl
  | str _ => obtain ⟨t, rfl⟩ := r; rfl
  | byt _ => obtain ⟨t, rfl⟩ := r; rfl
  | flt _ => obtain ⟨t, rfl⟩ := r; rfl
  | ref _ => cases r; rfl
  | ty _ => cases r; rfl
theorem RelV.inj {x y : V} {u : Value} (r : RelV x u) (q : RelV y u) : x = y := Option.some.inj (r.abs.symm.trans q.abs)
theorem Vals.inj : ∀ {xs ys : List V} {us : List Value}, Vals xs us → Vals ys us → xs = ys
  | _, _, _, .nil, .nil => rfl
  | _, _, _, .cons r t, .cons r' t' => by rw [r.inj r', Vals.inj t t']
section
variable {X : Cx} {pins : List (Addr × Obj)} {σ : St} {H : Hp} {s : Shared} {a : Addr} {xs ys : List V}
theorem SqL.of {K : PySem.W.Frag} (h : H a = some (.lst xs)) : SqL K H a xs := .inl (.inl h)
theorem SqT.of {K : PySem.W.Frag} (h : H a = some (.tup xs)) : SqT K H a xs := .inl (.inl h)
theorem Inv.list (I : Inv X pins σ H s) (h : SqL X.K H a xs) : ∃ its : List Value, Vals xs its ∧ PlainL s.heap a its.toArray ∧ xs.length ≤ sizeLine := by
  rcases h with h | ⟨o, its, n, hk, hc, hd, hs, hz, r⟩
  · obtain ⟨z, its, n, r, e⟩ := h.ok I.hok
    exact ⟨its, r, ⟨_, n, e, rfl, rfl, rfl⟩, z⟩
  · refine ⟨its.toList, r, ⟨o, n, I.kIn a o hk, hc, hd, by simpa using hs⟩, ?_⟩
    have e := r.length
    simp only [Array.length_toList] at e
    omega
theorem Inv.tuple (I : Inv X pins σ H s) (h : SqT X.K H a xs) : ∃ its : List Value, Vals xs its ∧ IsTup s.heap a its.toArray ∧ xs.length ≤ sizeLine := by
  rcases h with h | ⟨o, its, n, hk, hc, hs, hz, r⟩
  · obtain ⟨z, its, r, p⟩ := h.ok I.hok
    exact ⟨its, r, p, z⟩
  · refine ⟨its.toList, r, ⟨o, I.kIn a o hk, hc, n, by simpa using hs⟩, ?_⟩
    have e := r.length
    simp only [Array.length_toList] at e
    omega
theorem Inv.list_inj (I : Inv X pins σ H s) (h : SqL X.K H a xs) (h' : SqL X.K H a ys) : xs = ys := by
  obtain ⟨its, r, ⟨o, n, e, _, _, d⟩, _⟩ := I.list h
  obtain ⟨its', r', ⟨o', n', e', _, _, d'⟩, _⟩ := I.list h'
  rw [e] at e'; cases e'
  rw [d] at d'
  injection d' with d1 _
  have : its = its' := by simpa using congrArg Array.toList d1
  subst this
  exact r.inj r'
theorem Inv.tuple_inj (I : Inv X pins σ H s) (h : SqT X.K H a xs) (h' : SqT X.K H a ys) : xs = ys := by
  obtain ⟨its, r, ⟨o, e, _, n, d⟩, _⟩ := I.tuple h
  obtain ⟨its', r', ⟨o', e', _, n', d'⟩, _⟩ := I.tuple h'
  rw [e] at e'; cases e'
  rw [d] at d'
  injection d' with d1 _
  have : its = its' := by simpa using congrArg Array.toList d1
  subst this
  exact r.inj r'
end

abbrev Cx.wish (X : Cx) (E : Value → Shared → Prop) : Cx := { X with xe := E }
abbrev Cx.nox (X : Cx) : Cx := X.wish fun _ _ => False
theorem Cx.Ok.wish {X : Cx} (ok : X.Ok) (E : Value → Shared → Prop) : (X.wish E).Ok :=
  ⟨ok.mod, ok.kind, ok.glob, ok.blt, ok.above, ok.inj, ok.has, ok.cab, ok.hd, ok.frames, ok.stk, ok.exf, ok.bs, ok.bsz, ok.noex, ok.exfs, ok.funs, ok.frf⟩
theorem Cx.Ok.unwish {X : Cx} {E : Value → Shared → Prop} (ok : (X.wish E).Ok) : X.Ok :=
  ⟨ok.mod, ok.kind, ok.glob, ok.blt, ok.above, ok.inj, ok.has, ok.cab, ok.hd, ok.frames, ok.stk, ok.exf, ok.bs, ok.bsz, ok.noex, ok.exfs, ok.funs, ok.frf⟩
section
variable {X : Cx} {pins : List (Addr × Obj)} {σ : St} {H : Hp} {s : Shared} {E : Value → Shared → Prop}
theorem Inv.wish (I : Inv X pins σ H s) (E : Value → Shared → Prop) : Inv (X.wish E) pins σ H s := ⟨I.ok.wish E, I.os, I.bare, I.base, I.loc, I.cell, I.free, I.freeC, I.pin, I.hok, I.len⟩
theorem Inv.unwish (I : Inv (X.wish E) pins σ H s) : Inv X pins σ H s := ⟨I.ok.unwish, I.os, I.bare, I.base, I.loc, I.cell, I.free, I.freeC, I.pin, I.hok, I.len⟩
theorem SP.unwish {D : Ends} {f : Flow} {s' : Shared} (h : SP (X.wish E) pins D f s') : SP X pins D f s' := by
  cases f with
  | next => obtain ⟨σ', H', I, q⟩ := h; exact ⟨σ', H', I.unwish, q⟩
  | brk => obtain ⟨σ', H', I, q⟩ := h; exact ⟨σ', H', I.unwish, q⟩
  | cont => obtain ⟨σ', H', I, q⟩ := h; exact ⟨σ', H', I.unwish, q⟩
  | ret u => obtain ⟨v, σ', H', I, r, q⟩ := h; exact ⟨v, σ', H', I.unwish, r, q⟩
theorem PE.nox {e : Expr} {t : TE} (h : PE X.nox e t) : PE X e t := fun pins s σ H Q I hw =>
  wpAny_mono (h pins s σ H Q (I.wish _) hw) (fun _ _ ⟨v, H', I', r, q⟩ => ⟨v, H', I'.unwish, r, q⟩) fun _ _ z => False.elim z
theorem PT.nox {e : Expr} {t : TT} (h : PT X.nox e t) : PT X e t := fun pins s σ H Q I hw =>
  wpAny_mono (h pins s σ H Q (I.wish _) hw) (fun _ _ ⟨H', I', q⟩ => ⟨H', I'.unwish, q⟩) fun _ _ z => False.elim z
theorem PSs.nox {st : List Stmt} {t : TS} (h : PSs X.nox st t) : PSs X st t := fun pins s σ H D I hw =>
  wpAny_mono (h pins s σ H D (I.wish _) hw) (fun _ _ q => q.unwish) fun _ _ z => False.elim z
end

section
variable {X : Cx} {st : Stmt} {rest : List Stmt} {t u : TS} {e : Expr} {te : TE} {pos : Pos}
def tNext : TS := fun D σ H => D.nx σ H
def tSeq (t u : TS) : TS := fun D σ H => t { D with nx := u D } σ H
theorem pss_nil : PSs X [] tNext := fun _ _ σ H _ I h => wpAny_execs_nil ⟨σ, H, I, h⟩
theorem pss_cons (h1 : PS X st t) (h2 : PSs X rest u) : PSs X (st :: rest) (tSeq t u) := by
  intro pins s σ H D I h
  refine wpAny_execs_cons (thn (h1 pins s σ H { D with nx := u D } I h) fun f s1 q => ?_)
  cases f with
  | next =>
    obtain ⟨σ', H', I', q⟩ := q
    exact h2 pins s1 σ' H' D I' q
  | ret v => exact q
  | brk => exact q
  | cont => exact q
theorem pss_one (h1 : PS X st t) : PSs X [st] t := by
  intro pins s σ H D I h
  refine wpAny_execs_cons (thn (h1 pins s σ H D I h) fun f s1 q => ?_)
  cases f with
  | next => exact wpAny_execs_nil q
  | ret v => exact q
  | brk => exact q
  | cont => exact q
theorem Inv.quiet {pins : List (Addr × Obj)} {σ : St} {H : Hp} {s : Shared} (I : Inv X pins σ H s) : interactive X.env = false := by simp [interactive, I.ok.kind]
def tDrop (te : TE) : TS := fun D σ H => te σ H fun _ H1 => D.nx σ H1
theorem ps_expr (he : PE X e te) (hs : swapsWith e none pos.line X.env = pure false := by rfl) : PS X (.Expr e pos) (tDrop te) := by
  intro pins s σ H D I h
  exact wpAny_Expr_any (thn (he pins s σ H _ I h) fun v s1 ⟨x, H1, I1, r1, q1⟩ => ⟨σ, H1, I1, q1⟩) I.quiet hs
def tRet (te : TE) : TS := fun D σ H => te σ H D.rt
theorem ps_ret (he : PE X e te) : PS X (.Return (some e) pos) (tRet te) := by
  intro pins s σ H D I h
  exact wpAny_Return_some (thn (he pins s σ H _ I h) fun v s1 ⟨x, H1, I1, r1, q1⟩ => ⟨x, σ, H1, I1, r1, q1⟩)
def tIfS (c : TT) (t u : TS) : TS := fun D σ H => c σ H fun b H1 => if b = true then t D σ H1 else u D σ H1
theorem ps_if {c : Expr} {a b : List Stmt} {tc : TT} (hc : PT X c tc) (ha : PSs X a t) (hb : PSs X b u) : PS X (.If c a b pos) (tIfS tc t u) := by
  intro pins s σ H D I h
  refine wpAny_If (thn (hc pins s σ H _ I h) fun d s1 ⟨H1, I1, q1⟩ => ?_)
  cases d with
  | true => exact ha pins s1 σ H1 D I1 q1
  | false => exact hb pins s1 σ H1 D I1 q1
def tNever : TS := fun _ _ _ => False
theorem pss_never {sts : List Stmt} : PSs X sts tNever := fun _ _ _ _ _ _ h => h.elim
end

abbrev TG := V → St → Hp → (St → Hp → Prop) → Prop
abbrev TGs := List V → St → Hp → (St → Hp → Prop) → Prop
def PG (X : Cx) (target : Expr) (t : TG) : Prop :=
  ∀ (pins : List (Addr × Obj)) (s : Shared) (σ : St) (H : Hp) (v : V) (u : Value) (Q : St → Hp → Prop), Inv X pins σ H s → RelV v u → t v σ H Q →
    wpAny (model X.prog X.w) X.A (assign target X.env u) (fun _ s' => ∃ σ' H', Inv X pins σ' H' s' ∧ Q σ' H') X.xe s
def PGs (X : Cx) (ts : List Expr) (t : TGs) : Prop :=
  ∀ (pins : List (Addr × Obj)) (s : Shared) (σ : St) (H : Hp) (vs : List V) (us : List Value) (Q : St → Hp → Prop), Inv X pins σ H s → Vals vs us → t vs σ H Q →
    wpAny (model X.prog X.w) X.A (assignInOrder ((assignEach ts X.env).map (·.2)) us) (fun _ s' => ∃ σ' H', Inv X pins σ' H' s' ∧ Q σ' H') X.xe s
abbrev TSet := V → V → V → Hp → (Hp → Prop) → Prop
def PSet (X : Cx) (t : TSet) : Prop :=
  ∀ (pins : List (Addr × Obj)) (s : Shared) (σ : St) (H : Hp) (o i v : V) (ov iv u : Value) (Q : Hp → Prop), Inv X pins σ H s → RelV o ov → RelV i iv → RelV v u → t o i v H Q →
    wpAny (model X.prog X.w) X.A (setItem ov iv u) (fun _ s' => ∃ H', Inv X pins σ H' s' ∧ Q H') X.xe s
section
variable {X : Cx} {pos : Pos}
def gName (i : Nat) : TG := fun v σ H Q => Q (σ.set i (some v)) H
theorem pg_name {i : Nat} {x : Str} (hN : X.N.Nodup) (hi : X.N[i]? = some x) (hx : Loc X.env.scope x) (hf : X.fn x = true ∨ X.env.scope.names.lookup x = some .local := by first | exact .inl rfl | exact .inr rfl | assumption) : PG X (.Name x pos) (gName i) := by
  intro pins s σ H v u Q I r h
  exact wpAny_assign_Name (store_ok I hN hi hx r (fun s' I' => ⟨_, H, I', h⟩) hf)
def gNil : TGs := fun vs σ H Q => vs = [] ∧ Q σ H
def gCons (t : TG) (u : TGs) : TGs := fun vs σ H Q => ∃ v r, vs = v :: r ∧ t v σ H fun σ' H' => u r σ' H' Q
theorem pgs_nil : PGs X [] gNil := by
  intro pins s σ H vs us Q I r h
  obtain ⟨e, h⟩ := h
  subst e
  cases r
  exact assignInOrder_nil ⟨σ, H, I, h⟩
theorem pgs_cons {e : Expr} {es : List Expr} {t : TG} {u : TGs} (h1 : PG X e t) (h2 : PGs X es u)
    (hs : (assignEach (e :: es) X.env).map (·.2) = assign e X.env :: (assignEach es X.env).map (·.2) := by rfl) : PGs X (e :: es) (gCons t u) := by
  intro pins s σ H vs us Q I r h
  obtain ⟨v, vr, e1, h⟩ := h
  subst e1
  cases r with
  | cons r rr =>
    rw [hs]
    refine assignInOrder_cons (thn (h1 pins s σ H _ _ _ I r h) fun _ s1 ⟨σ1, H1, I1, q1⟩ => ?_)
    exact h2 pins s1 σ1 H1 _ _ Q I1 rr q1
def gTup (K : PySem.W.Frag) (n : Nat) (t : TGs) : TG := fun v σ H Q => ∃ a xs, v = .ref a ∧ SqT K H a xs ∧ xs.length = n ∧ t xs σ H Q
theorem pg_tup {es : List Expr} {k : Nat} {t : TGs} {n : Nat} (hc : X.calm = true) (h : PGs X es t)
    (hn : (assignEach es X.env).length = n := by rfl) (hst : (assignEach es X.env).findIdx? (·.1) = none := by rfl) : PG X (.Tuple es k pos) (gTup X.K n t) := by
  intro pins s σ H v u Q I r hw
  obtain ⟨a, xs, e1, hq, hl, hw⟩ := hw
  subst e1
  cases r
  obtain ⟨its, rv, ht, hz⟩ := I.tuple hq
  refine assign_Tuple_tuple (I.ok.hd hc) ht (by simp [hn, ← hl, rv.length]) hst fun h' hx => ?_
  have I1 : Inv X pins σ H { s with heap := h' } := I.kept (t' := s.toks) fun b o e => hx b o (Nat.ne_of_lt (Heap.lt_size e)) e
  exact h pins _ σ H xs _ Q I1 (by simpa using rv) hw
def gSub (to ti : TE) (t : TSet) : TG := fun v σ H Q => to σ H fun o H1 => ti σ H1 fun i H2 => t o i v H2 fun H3 => Q σ H3
theorem pg_sub {o i : Expr} {to ti : TE} {t : TSet} (ho : PE X o to) (hi : PE X i ti) (hs : PSet X t)
    (ha : ∀ v, assign (.Subscript o i pos) X.env v = (do
      let ov ← holding [v] (eval o X.env)
      let iv ← holding [v, ov] (eval i X.env)
      standAt pos
      holding [v, ov, iv] (setItem ov iv v)
      release [v, ov, iv] []) := by intro _; rfl) : PG X (.Subscript o i pos) (gSub to ti t) := by
  intro pins s σ H v u Q I r h
  rw [ha]
  refine wpAny_bind (wpAny_holding (thn (ho pins s σ H _ I h) fun ov s1 ⟨x, H1, I1, r1, q1⟩ => ?_))
  refine wpAny_bind (wpAny_holding (thn (hi pins s1 σ H1 _ I1 q1) fun iv s2 ⟨y, H2, I2, r2, q2⟩ => ?_))
  refine wpAny_bind (wpAny_standAt (wpAny_bind (wpAny_holding (thn (hs pins s2 σ H2 x y v ov iv u _ I2 r1 r2 r q2) fun _ s3 ⟨H3, I3, q3⟩ => ?_))))
  exact wpAny_release ⟨σ, H3, I3, q3⟩
def tAsg (te : TE) (g : TG) : TS := fun D σ H => te σ H fun x H1 => g x σ H1 D.nx
theorem ps_asg {tg e : Expr} {te : TE} {g : TG} (he : PE X e te) (hg : PG X tg g) (hs : swapsWithSole [tg] e pos.line X.env = pure false := by rfl) (hw : swappedStores [tg] e X.env = pure none := by rfl)
    (h1 : (assignEach [tg] X.env).map (·.2) = [assign tg X.env] := by rfl) : PS X (.Assign [tg] e pos) (tAsg te g) := by
  intro pins s σ H D I h
  refine wpAny_Assign_stores (thn (he pins s σ H _ I h) fun v s1 ⟨x, H1, I1, r1, q1⟩ => ?_) hs hw
  rw [h1]
  exact thn (hg pins s1 σ H1 x v _ I1 r1 q1) fun _ s2 q => q
theorem ps_set {i : Nat} {x : Str} {e : Expr} {te : TE} {pos' : Pos} (hN : X.N.Nodup) (hi : X.N[i]? = some x) (hx : Loc X.env.scope x) (he : PE X e te) (hs : swapsWith e (some (.Name x pos')) pos.line X.env = pure false := by rfl) (hf : X.fn x = true ∨ X.env.scope.names.lookup x = some .local := by first | exact .inl rfl | exact .inr rfl | assumption) :
    PS X (.Assign [.Name x pos'] e pos) (tAsg te (gName i)) := by
  intro pins s σ H D I h
  refine wpAny_Assign_Name (thn (he pins s σ H _ I h) fun v s1 ⟨y, H1, I1, r1, q1⟩ => ?_) hs
  exact store_ok I1 hN hi hx r1 (fun s2 I2 => ⟨_, H1, I2, q1⟩) hf
end

section
variable {X : Cx} {pos : Pos}
def tWhile (c : TT) (tb : TS) : TS := fun D σ H => ∃ W : Nat → St → Hp → Prop, (∃ m, W m σ H) ∧ ∀ m σ H, W m σ H →
  c σ H fun b H1 => if b = true then ∃ N : St → Hp → Prop, (∀ σ' H', N σ' H' → ∃ m', m' < m ∧ W m' σ' H') ∧ tb { D with nx := N, ct := N, bk := D.nx } σ H1 else D.nx σ H1
theorem ps_while {c : Expr} {body : List Stmt} {tc : TT} {tb : TS} (hp : PassesOwn (model X.prog X.w) X.A X.env X.xe) (hc : PT X c tc) (hb : PSs X body tb) : PS X (.While c body [] pos) (tWhile tc tb) := by
  intro pins s σ H D I h
  obtain ⟨W, ⟨m0, w0⟩, turn⟩ := h
  refine wpAny_While (codeAny_whileLoop (fun n s' => ∃ σ' H', Inv X pins σ' H' s' ∧ W n σ' H') ?_ m0 ⟨σ, H, I, w0⟩)
  rintro n s1 ⟨σ1, H1, I1, w1⟩
  refine wpAny_passesOwn hp (thn (hc pins s1 σ1 H1 _ I1 (turn n σ1 H1 w1)) fun b s2 ⟨H2, I2, q2⟩ => ?_)
  cases b with
  | true =>
    obtain ⟨N, hN, q2⟩ := q2
    rw [if_pos rfl]
    refine wpAny_passesOwn hp (thn (hb pins s2 σ1 H2 _ I2 q2) fun f s3 q3 => ?_)
    cases f with
    | next =>
      obtain ⟨σ3, H3, I3, n3⟩ := q3
      obtain ⟨m', hm, w3⟩ := hN σ3 H3 n3
      exact ⟨m', hm, σ3, H3, I3, w3⟩
    | cont =>
      obtain ⟨σ3, H3, I3, n3⟩ := q3
      obtain ⟨m', hm, w3⟩ := hN σ3 H3 n3
      exact ⟨m', hm, σ3, H3, I3, w3⟩
    | brk => exact q3
    | ret v => exact q3
  | false =>
    rw [if_neg Bool.false_ne_true]
    exact wpAny_execs_nil ⟨σ1, H2, I2, q2⟩
end

structure It where
  go : Nat → Hp → Prop
  yld : Nat → Hp → V → Hp → Prop
  stop : Nat → Hp → Prop
def FpOk (X : Cx) (pins : List (Addr × Obj)) (H : Hp) (b : Addr) : Prop :=
  H b = none ∧ b ≠ X.env.locals ∧ b ∉ X.fs ∧ (b ∈ X.ex ∨ X.s₀.heap.objs.size ≤ b) ∧ (∀ x c, X.env.cells.lookup x = some c → c ≠ b) ∧ ∀ p ∈ X.pn ++ pins, p.1 ≠ b
theorem Inv.fpOk {X : Cx} {pins : List (Addr × Obj)} {σ : St} {H H' : Hp} {s : Shared} {b : Addr} (I : Inv X pins σ H s) (hb : s.heap.objs.size ≤ b) (hn : H' b = none) : FpOk X pins H' b := by
  refine ⟨hn, Nat.ne_of_gt (Nat.lt_of_lt_of_le I.lt hb), I.nofs hb, .inr (Nat.le_trans I.sz hb), fun x c e z => ?_, fun p hp z => ?_⟩
  · obtain ⟨v, q⟩ := I.cell x c e
    exact absurd (Nat.lt_of_lt_of_le q.lt (by rw [z]; exact hb)) (Nat.lt_irrefl _)
  · exact absurd (Nat.lt_of_lt_of_le (Heap.lt_size (I.pin p hp).1) (by rw [z]; exact hb)) (Nat.lt_irrefl _)
structure Turn (P : Program) (w : World) (K : PySem.W.Frag) (tg : Expr) (J : It) (fp : List Addr) (it : Addr) (tn : Nat → Heap → Prop) : Prop where
  mem : it ∈ fp
  obj : ∀ i h, tn i h → ∀ b ∈ fp, ∃ o, h.get? b = some o ∧ ∀ v, o.data ≠ .cell v
  keep : ∀ i h h', tn i h → (∀ b ∈ fp, ∀ o, h.get? b = some o → h'.get? b = some o) → tn i h'
  item : ∀ (X : Cx), X.prog = P → X.w = w → X.K = K → X.calm = true → ∀ (i : Nat) (pins : List (Addr × Obj)) (s : Shared) (σ : St) (H : Hp) (E : Value → Shared → Prop), Inv X pins σ H s → (∀ b ∈ fp, FpOk X pins H b) → tn i s.heap → J.go i H →
    wpAny (model P w) X.A (pyNext (.ref it)) (fun r s1 => ∃ u, r = some u ∧
      wpAny (model P w) X.A (letOwnedTupleGo tg (.ref it) u) (fun _ s2 => ∃ x H', Inv X pins σ H' s2 ∧ RelV x u ∧ J.yld i H x H' ∧ tn (i + 1) s2.heap ∧ ∀ b ∈ fp, H' b = none) E s1) E s
  done : ∀ (X : Cx), X.prog = P → X.w = w → X.K = K → X.calm = true → ∀ (i : Nat) (pins : List (Addr × Obj)) (s : Shared) (σ : St) (H : Hp) (E : Value → Shared → Prop), Inv X pins σ H s → (∀ b ∈ fp, FpOk X pins H b) → tn i s.heap → J.stop i H →
    wpAny (model P w) X.A (pyNext (.ref it)) (fun r s1 => r = none ∧ Inv X pins σ H s1) E s
  self : ∀ (A : Around) (i : Nat) (s : Shared) (Q : Value → Shared → Prop) (E : Value → Shared → Prop), tn i s.heap → Q (.ref it) s → wpAny (model P w) A (pyIter (.ref it)) Q E s
abbrev TI := St → Hp → (It → Hp → Prop) → Prop
def PIE (X : Cx) (pins : List (Addr × Obj)) (σ : St) (tg : Expr) (R : It → Hp → Prop) (itv : Value) (s2 : Shared) : Prop :=
  ∃ (it : Addr) (fp : List Addr) (tn : Nat → Heap → Prop) (J : It) (H' : Hp), itv = .ref it ∧ Inv X pins σ H' s2 ∧ Turn X.prog X.w X.K tg J fp it tn ∧ tn 0 s2.heap ∧ (∀ b ∈ fp, FpOk X pins H' b) ∧ R J H'
def PI (X : Cx) (tg iter : Expr) (wi : TI) : Prop :=
  ∀ (pins : List (Addr × Obj)) (s : Shared) (σ : St) (H : Hp) (R : It → Hp → Prop), Inv X pins σ H s → wi σ H R →
    wpAny (model X.prog X.w) X.A (eval iter X.env) (fun v s1 => wpAny (model X.prog X.w) X.A (pyIter v) (PIE X pins σ tg R) X.xe s1) X.xe s

theorem go_of {M : Model} {A : Around} {E : Value → Shared → Prop} {s : Shared} {tg : Expr} {it : Addr} {u : Value} {o : Obj} {n : String} {vs : Array Value} {Q : Unit → Shared → Prop} (ho : s.heap.get? it = some o) (hc : o.cls = .type n) (hd : o.data = .fields vs)
    (hn : ["enumerate", "zip", "dict_itemiterator", "dict_reverseitemiterator", "odict_iterator", "itertools.zip_longest", "itertools.pairwise"].contains n = false) (hQ : Q () s) : wpAny M A (letOwnedTupleGo tg (.ref it) u) Q E s := by
  unfold letOwnedTupleGo
  cases tg <;> first
    | exact wpAny_pure hQ
    | (cases u <;> first
        | exact wpAny_pure hQ
        | (refine wpAny_bind (wpAny_load ho ?_)
           rw [hc, hd]
           show wpAny M A (if (["enumerate", "zip", "dict_itemiterator", "dict_reverseitemiterator", "odict_iterator", "itertools.zip_longest", "itertools.pairwise"].contains n && vs[0]? == some (rawInt _)) = true then _ else _) Q E s
           rw [if_neg (by intro h; rw [hn, Bool.false_and] at h; cases h)]
           exact wpAny_pure hQ))

def Itl (K : PySem.W.Frag) (a : Addr) : It :=
  ⟨fun i H => ∃ xs x, SqL K H a xs ∧ xs[i]? = some x, fun i H x H' => H' = H ∧ ∀ xs, SqL K H a xs → xs[i]? = some x, fun i H => ∃ xs, SqL K H a xs ∧ xs.length ≤ i⟩
def Itt (K : PySem.W.Frag) (a : Addr) : It :=
  ⟨fun i H => ∃ xs x, SqT K H a xs ∧ xs[i]? = some x, fun i H x H' => H' = H ∧ ∀ xs, SqT K H a xs → xs[i]? = some x, fun i H => ∃ xs, SqT K H a xs ∧ xs.length ≤ i⟩
def Itr (lo : Int) (n : Nat) : It := ⟨fun i _ => i < n, fun i H x H' => H' = H ∧ x = .int (lo + i), fun i _ => n ≤ i⟩
theorem turn_list {P : Program} {w : World} {K : PySem.W.Frag} {tg : Expr} (a it : Addr) : Turn P w K tg (Itl K a) [it] it (fun i h => h.IsListIter it a i) where
  mem := by simp
  obj := fun i h st b hb => by
    have e : b = it := by simpa using hb
    subst e
    obtain ⟨o, e, c, d⟩ := st
    exact ⟨o, e, fun v z => by rw [d] at z; cases z⟩
  keep := fun i h h' st k => st.at fun o e => k it (by simp) o e
  item := by
    intro X hP hw hK hc i pins s σ H E I hf st hg
    subst hP hw hK
    obtain ⟨xs, x, hq, hx⟩ := hg
    obtain ⟨its, rv, p, hz⟩ := I.list hq
    obtain ⟨u, hu, ru⟩ := rv.get hx
    obtain ⟨f0, f1, f2, f3, f4, f5⟩ := hf it (by simp)
    refine wpAny_pyNext_list_item st p.isList (x := u) (by simpa using hu) fun h' st' sb => ?_
    have I1 : Inv X pins σ H { s with heap := h' } := I.turned (t' := s.toks) (fun b o hb e => (sb.2 b hb).trans e) f0 f1 f3 f4 f5
    obtain ⟨o, e, c, d⟩ := id st'
    exact ⟨u, rfl, go_of (s := { s with heap := h' }) e c d (by decide) ⟨x, H, I1, ru, ⟨rfl, fun ys hy => by rw [I.list_inj hy hq]; exact hx⟩, st', fun b hb => (hf b hb).1⟩⟩
  done := by
    intro X hP hw hK hc i pins s σ H E I hf st hg
    subst hP hw hK
    obtain ⟨xs, hq, hx⟩ := hg
    obtain ⟨its, rv, p, hz⟩ := I.list hq
    obtain ⟨f0, f1, f2, f3, f4, f5⟩ := hf it (by simp)
    have hl := rv.length
    exact wpAny_pyNext_list_end (I.ok.hd hc) st p.isList (by simp; omega) fun h' eb => ⟨rfl, I.turned (t' := s.toks) (fun b o hb e => eb b o hb e) f0 f1 f3 f4 f5⟩
  self := fun _ _ _ _ _ st h => wpAny_pyIter_listiter st h
theorem turn_tuple {P : Program} {w : World} {K : PySem.W.Frag} {tg : Expr} (a it : Addr) : Turn P w K tg (Itt K a) [it] it (fun i h => h.IsTupleIter it a i) where
  mem := by simp
  obj := fun i h st b hb => by
    have e : b = it := by simpa using hb
    subst e
    obtain ⟨o, e, c, d⟩ := st
    exact ⟨o, e, fun v z => by rw [d] at z; cases z⟩
  keep := fun i h h' st k => st.at fun o e => k it (by simp) o e
  item := by
    intro X hP hw hK hc i pins s σ H E I hf st hg
    subst hP hw hK
    obtain ⟨xs, x, hq, hx⟩ := hg
    obtain ⟨its, rv, p, hz⟩ := I.tuple hq
    obtain ⟨u, hu, ru⟩ := rv.get hx
    obtain ⟨f0, f1, f2, f3, f4, f5⟩ := hf it (by simp)
    refine wpAny_pyNext_tuple_item st (show s.heap.IsTuple a its.toArray from p) (x := u) (by simpa using hu) fun h' st' sb => ?_
    have I1 : Inv X pins σ H { s with heap := h' } := I.turned (t' := s.toks) (fun b o hb e => (sb.2 b hb).trans e) f0 f1 f3 f4 f5
    obtain ⟨o, e, c, d⟩ := id st'
    exact ⟨u, rfl, go_of (s := { s with heap := h' }) e c d (by decide) ⟨x, H, I1, ru, ⟨rfl, fun ys hy => by rw [I.tuple_inj hy hq]; exact hx⟩, st', fun b hb => (hf b hb).1⟩⟩
  done := by
    intro X hP hw hK hc i pins s σ H E I hf st hg
    subst hP hw hK
    obtain ⟨xs, hq, hx⟩ := hg
    obtain ⟨its, rv, p, hz⟩ := I.tuple hq
    obtain ⟨f0, f1, f2, f3, f4, f5⟩ := hf it (by simp)
    have hl := rv.length
    exact wpAny_pyNext_tuple_end (I.ok.hd hc) st (show s.heap.IsTuple a its.toArray from p) (by simp; omega) fun h' eb => ⟨rfl, I.turned (t' := s.toks) (fun b o hb e => eb b o hb e) f0 f1 f3 f4 f5⟩
  self := fun _ _ _ _ _ st h => wpAny_pyIter_tupleiter st h
theorem turn_range {P : Program} {w : World} {K : PySem.W.Frag} {tg : Expr} (it : Addr) (lo : Int) (n : Nat) : Turn P w K tg (Itr lo n) [it] it (fun i h => IsRangeIter h it (lo + (i : Nat) * 1) ((n : Int) - (i : Nat)) 1) where
  mem := by simp
  obj := fun i h st b hb => by
    have e : b = it := by simpa using hb
    subst e
    exact ⟨_, st, fun v z => by
      have z' : Data.fields _ = Data.cell v := z
      cases z'⟩
  keep := fun i h h' st k => k it (by simp) _ st
  item := by
    intro X hP hw hK hc i pins s σ H E I hf st hg
    subst hP hw hK
    obtain ⟨f0, f1, f2, f3, f4, f5⟩ := hf it (by simp)
    have W := Walks.range (prog := X.prog) (w := X.w) (I.ok.hd hc) it lo 1 n
    refine W.item i s _ _ hg st fun v h' tk hv st' kk => ?_
    obtain ⟨t, rfl⟩ := hv
    have I1 : Inv X pins σ H { s with heap := h', toks := tk } := I.turned (fun b o hb e => kk b o (by simpa using hb) e) f0 f1 f3 f4 f5
    refine ⟨_, rfl, go_of (s := { s with heap := h', toks := tk }) (n := "range_iterator") st' rfl rfl (by decide) ⟨.int (lo + i), H, I1, ⟨t, ?_⟩, ⟨rfl, rfl⟩, st', fun b hb => (hf b hb).1⟩⟩
    rw [Int.mul_one]
  done := by
    intro X hP hw hK hc i pins s σ H E I hf st hg
    subst hP hw hK
    obtain ⟨f0, f1, f2, f3, f4, f5⟩ := hf it (by simp)
    exact wpAny_pyNext_range_end (I.ok.hd hc) st (by have : n ≤ i := hg; omega) fun h' eb => ⟨rfl, I.turned (t' := s.toks) (fun b o hb e => eb b o hb e) f0 f1 f3 f4 f5⟩
  self := fun _ _ _ _ _ st h => wpAny_pyIter_rangeiter st h
end L2

namespace L2
open PySem PySem.Spec PyProof.Rows
section
variable {X : Cx} {tg : Expr}
theorem range_it {pins : List (Addr × Obj)} {σ : St} {H : Hp} {s : Shared} {R : It → Hp → Prop} {E : Value → Shared → Prop} {lo hi : Int} {t u v : Tok} {tk : Nat} (I : Inv X pins σ H s) (h1 : -(2 ^ 62) ≤ lo) (h2 : lo < 2 ^ 62) (h3 : -(2 ^ 62) ≤ hi) (h4 : hi < 2 ^ 62)
    (q : R (Itr lo (hi - lo).toNat) H) : wpAny (model X.prog X.w) X.A (pyIter (.ref s.heap.objs.size)) (PIE X pins σ tg R) E { s with heap := s.heap.push { cls := .type "range", data := .fields #[.int lo t, .int hi u, .int 1 v] }, toks := tk } := by
  refine wpAny_pyIter_range (IsRange.new ..) (small_one h1 h2 h3 h4) ?_
  have I1 : Inv X pins σ H { s with heap := s.heap.push { cls := .type "range", data := .fields #[.int lo t, .int hi u, .int 1 v] }, toks := tk } := I.kept fun b o e => Heap.get?_push_of_some _ e
  refine ⟨(s.heap.push { cls := .type "range", data := .fields #[.int lo t, .int hi u, .int 1 v] }).objs.size, [(s.heap.push { cls := .type "range", data := .fields #[.int lo t, .int hi u, .int 1 v] }).objs.size], _, _, H, rfl,
    I1.kept (t' := tk) fun b o e => Heap.get?_push_of_some _ e, turn_range _ lo (hi - lo).toNat, ?_, fun b hb => ?_, q⟩
  · have e1 : lo + ((0 : Nat) : Int) * 1 = lo := by simp
    have e2 : (((hi - lo).toNat : Nat) : Int) - ((0 : Nat) : Int) = Builtin.Range.rangeSize lo hi 1 := by rw [rangeSize_one]; split <;> omega
    show IsRangeIter _ _ (lo + ((0 : Nat) : Int) * 1) ((((hi - lo).toNat : Nat) : Int) - ((0 : Nat) : Int)) 1
    rw [e1, e2]
    exact Heap.get?_push_size _ rfl
  · have e : b = (s.heap.push { cls := .type "range", data := .fields #[.int lo t, .int hi u, .int 1 v] }).objs.size := by simpa using hb
    subst e
    exact I1.fpOk (Nat.le_refl _) (I1.hok.fresh (Nat.le_refl _))
def iRng1 (ta : TA) : TI := fun σ H R => ta σ H fun vs H1 => ∃ j : Int, vs = [.int j] ∧ -(2 ^ 62) ≤ j ∧ j < 2 ^ 62 ∧ R (Itr 0 j.toNat) H1
theorem pi_range1 {a : Expr} {ta : TA} {p pos : Pos} (hg : Gl X "range") (hm : X.mg "range" = none) (ha : PA X [a] ta) (hs : starEach [a] X.env = [(false, eval a X.env)] := by rfl) : PI X tg (.Call (.Name "range" p) [a] [] pos) (iRng1 ta) := by
  intro pins s σ H R I h
  refine Call_ (ld_blt I hg hm boot_range (PyProof.Rows.callWith_type1 (thn (ha pos pins s σ H _ I h) fun us s1 ⟨vs, H1, I1, r1, q1⟩ => ?_) hs rfl))
  obtain ⟨j, e, q1, q2, q⟩ := q1
  subst e
  cases r1 with
  | cons r rr =>
    cases rr
    obtain ⟨t, rfl⟩ := r
    exact call_range_1 (range_it I1 (by omega) (by omega) q1 q2 (by simpa using q))
def tFor (wi : TI) (g : TG) (tb : TS) : TS := fun D σ H => wi σ H fun J H1 => ∃ W : Nat → Nat → St → Hp → Prop, (∃ m, W 0 m σ H1) ∧ ∀ i m σ H, W i m σ H →
  (J.stop i H ∧ D.nx σ H) ∨ (J.go i H ∧ ∃ N : St → Hp → Prop, (∀ σ' H', N σ' H' → ∃ m', m' < m ∧ W (i + 1) m' σ' H') ∧ ∀ x H', J.yld i H x H' → g x σ H' fun σ2 H2 => tb { D with nx := N, ct := N, bk := D.nx } σ2 H2)
def pinsAt (fp : List Addr) (h : Heap) : List (Addr × Obj) := fp.filterMap fun b => (h.get? b).map fun o => (b, o)
theorem mem_pinsAt {fp : List Addr} {h : Heap} {b : Addr} {o : Obj} (hb : b ∈ fp) (e : h.get? b = some o) : (b, o) ∈ pinsAt fp h := List.mem_filterMap.mpr ⟨b, hb, by rw [e]; rfl⟩
theorem of_pinsAt {fp : List Addr} {h : Heap} {p : Addr × Obj} (hp : p ∈ pinsAt fp h) : p.1 ∈ fp ∧ h.get? p.1 = some p.2 := by
  obtain ⟨b, hb, e⟩ := List.mem_filterMap.mp hp
  cases q : h.get? b with
  | none => rw [q] at e; cases e
  | some o =>
    rw [q] at e
    have e' : (b, o) = p := Option.some.inj e
    subst e'
    exact ⟨hb, q⟩
theorem Inv.pinned {pins : List (Addr × Obj)} {σ : St} {H : Hp} {s : Shared} {fp : List Addr} (I : Inv X pins σ H s) (hf : ∀ b ∈ fp, FpOk X pins H b) (ho : ∀ b ∈ fp, ∃ o, s.heap.get? b = some o ∧ ∀ v, o.data ≠ .cell v) : Inv X (pins ++ pinsAt fp s.heap) σ H s :=
  I.pins_of fun p hp => (List.mem_append.mp hp).elim (fun z => I.pin p (List.mem_append_right _ z)) fun z => by
    obtain ⟨hb, e⟩ := of_pinsAt z
    obtain ⟨f0, f1, f2, _⟩ := hf p.1 hb
    obtain ⟨o, e', d⟩ := ho p.1 hb
    rw [e] at e'; cases e'
    exact ⟨e, f0, f1, f2, d⟩
theorem Inv.unpinned {pins pl : List (Addr × Obj)} {σ : St} {H : Hp} {s : Shared} (I : Inv X (pins ++ pl) σ H s) : Inv X pins σ H s := I.pins_of fun p hp => I.pin p (List.mem_append_right _ (List.mem_append_left _ hp))
theorem ps_for {iter : Expr} {body : List Stmt} {wi : TI} {g : TG} {tb : TS} {pos : Pos} (hp : PassesOwn (model X.prog X.w) X.A X.env X.xe) (hc : X.calm = true) (hi : PI X tg iter wi) (hg : PG X tg g) (hb : PSs X body tb)
    (hs : ∀ x, foldedSetIterable iter X.env x = pure x := by intro _; rfl) : PS X (.For tg iter body [] pos) (tFor wi g tb) := by
  intro pins s σ H D I h
  refine wpAny_For (thn (hi pins s σ H _ I h) fun v s1 h1 => thn h1 fun itv s2 h2 => ?_) hs
  obtain ⟨it, fp, tn, J, H2, e, I2, T, st2, f2, W, ⟨m0, w0⟩, turn⟩ := h2
  subst e
  have stat : ∀ {H' : Hp}, (∀ b ∈ fp, H' b = none) → ∀ b ∈ fp, FpOk X pins H' b := fun hn b hb => ⟨hn b hb, (f2 b hb).2⟩
  refine codeAny_forLoop_any (fun n s' => ∃ i σ' H', Inv X pins σ' H' s' ∧ tn i s'.heap ∧ (∀ b ∈ fp, H' b = none) ∧ W i n σ' H') ?_ m0 ⟨0, σ, H2, I2, st2, fun b hb => (f2 b hb).1, w0⟩
  rintro n s3 ⟨i, σ3, H3, I3, st3, fr3, w3⟩
  rcases turn i n σ3 H3 w3 with ⟨stop, qn⟩ | ⟨go, N, hN, step⟩
  · refine wpAny_passesOwn hp (thn (T.done X rfl rfl rfl hc i pins s3 σ3 H3 X.xe I3 (stat fr3) st3 stop) fun r s4 ⟨hr, I4⟩ => ?_)
    subst hr
    exact wpAny_execs_nil ⟨σ3, H3, I4, qn⟩
  · refine wpAny_passesOwn hp (thn (T.item X rfl rfl rfl hc i pins s3 σ3 H3 X.xe I3 (stat fr3) st3 go) fun r s4 ⟨u, hr, h4⟩ => ?_)
    subst hr
    refine wpAny_passesOwn hp (thn h4 fun _ s5 ⟨x, H5, I5, r5, y5, st5, fr5⟩ => ?_)
    have I5' := I5.pinned (stat fr5) (T.obj _ _ st5)
    refine wpAny_passesOwn hp (thn (hg _ s5 σ3 H5 x u _ I5' r5 (step x H5 y5)) fun _ s6 ⟨σ6, H6, I6, q6⟩ => ?_)
    refine wpAny_passesOwn hp (thn (hb _ s6 σ6 H6 _ I6 q6) fun f s7 q7 => ?_)
    have again : ∀ {σ7 : St} {H7 : Hp}, Inv X (pins ++ pinsAt fp s5.heap) σ7 H7 s7 → N σ7 H7 → ∃ m, m < n ∧ ∃ i σ' H', Inv X pins σ' H' s7 ∧ tn i s7.heap ∧ (∀ b ∈ fp, H' b = none) ∧ W i m σ' H' := fun {σ7 H7} I7 n7 => by
      obtain ⟨m', hm, w7⟩ := hN σ7 H7 n7
      refine ⟨m', hm, i + 1, σ7, H7, I7.unpinned, T.keep _ _ _ st5 fun b hb o e => (I7.pin (b, o) (List.mem_append_right _ (List.mem_append_right _ (mem_pinsAt hb e)))).1, fun b hb => ?_, w7⟩
      obtain ⟨o, e, d⟩ := T.obj _ _ st5 b hb
      exact (I7.pin (b, o) (List.mem_append_right _ (List.mem_append_right _ (mem_pinsAt hb e)))).2.1
    cases f with
    | next => obtain ⟨σ7, H7, I7, n7⟩ := q7; exact again I7 n7
    | cont => obtain ⟨σ7, H7, I7, n7⟩ := q7; exact again I7 n7
    | brk => obtain ⟨σ7, H7, I7, q7⟩ := q7; exact ⟨σ7, H7, I7.unpinned, q7⟩
    | ret v => obtain ⟨x7, σ7, H7, I7, r7, q7⟩ := q7; exact ⟨x7, σ7, H7, I7.unpinned, r7, q7⟩
end

theorem for_list {K : PySem.W.Frag} {a : Addr} {xs : List V} {g : TG} {tb : TS} {D : Ends} {σ : St} {H : Hp} (Pv : Nat → St → Hp → Prop) (h0 : Pv 0 σ H) (hl : ∀ i σ H, i ≤ xs.length → Pv i σ H → SqL K H a xs)
    (hs : ∀ i x σ H, xs[i]? = some x → Pv i σ H → g x σ H fun σ2 H2 => tb { D with nx := Pv (i + 1), ct := Pv (i + 1), bk := D.nx } σ2 H2) (hd : ∀ σ H, Pv xs.length σ H → D.nx σ H) :
    ∃ W : Nat → Nat → St → Hp → Prop, (∃ m, W 0 m σ H) ∧ ∀ i m σ H, W i m σ H →
      ((Itl K a).stop i H ∧ D.nx σ H) ∨ ((Itl K a).go i H ∧ ∃ N : St → Hp → Prop, (∀ σ' H', N σ' H' → ∃ m', m' < m ∧ W (i + 1) m' σ' H') ∧ ∀ x H', (Itl K a).yld i H x H' → g x σ H' fun σ2 H2 => tb { D with nx := N, ct := N, bk := D.nx } σ2 H2) := by
  refine ⟨fun i m σ H => m = xs.length - i ∧ i ≤ xs.length ∧ Pv i σ H, ⟨xs.length, by simp, Nat.zero_le _, h0⟩, ?_⟩
  rintro i m σ H ⟨rfl, hi, p⟩
  have q := hl i σ H hi p
  by_cases hlt : i < xs.length
  · refine .inr ⟨⟨xs, xs[i], q, by simp [hlt]⟩, Pv (i + 1), fun σ' H' p' => ⟨xs.length - (i + 1), by omega, rfl, hlt, p'⟩, fun x H' y => ?_⟩
    obtain ⟨e, y⟩ := y
    subst e
    exact hs i x σ _ (y xs q) p
  · have e : i = xs.length := by omega
    subst e
    exact .inl ⟨⟨xs, q, Nat.le_refl _⟩, hd σ H p⟩
theorem for_range {lo : Int} {n : Nat} {g : TG} {tb : TS} {D : Ends} {σ : St} {H : Hp} (Pv : Nat → St → Hp → Prop) (h0 : Pv 0 σ H)
    (hs : ∀ i σ H, i < n → Pv i σ H → g (.int (lo + i)) σ H fun σ2 H2 => tb { D with nx := Pv (i + 1), ct := Pv (i + 1), bk := D.nx } σ2 H2) (hd : ∀ σ H, Pv n σ H → D.nx σ H) :
    ∃ W : Nat → Nat → St → Hp → Prop, (∃ m, W 0 m σ H) ∧ ∀ i m σ H, W i m σ H →
      ((Itr lo n).stop i H ∧ D.nx σ H) ∨ ((Itr lo n).go i H ∧ ∃ N : St → Hp → Prop, (∀ σ' H', N σ' H' → ∃ m', m' < m ∧ W (i + 1) m' σ' H') ∧ ∀ x H', (Itr lo n).yld i H x H' → g x σ H' fun σ2 H2 => tb { D with nx := N, ct := N, bk := D.nx } σ2 H2) := by
  refine ⟨fun i m σ H => m = n - i ∧ i ≤ n ∧ Pv i σ H, ⟨n, by simp, Nat.zero_le _, h0⟩, ?_⟩
  rintro i m σ H ⟨rfl, hi, p⟩
  by_cases hlt : i < n
  · refine .inr ⟨hlt, Pv (i + 1), fun σ' H' p' => ⟨n - (i + 1), by omega, rfl, hlt, p'⟩, fun x H' y => ?_⟩
    obtain ⟨e, y⟩ := y
    subst e y
    exact hs i σ _ hlt p
  · have e : i = n := by omega
    subst e
    exact .inl ⟨Nat.le_refl _, hd σ H p⟩
end L2

namespace L2
open PySem PySem.Spec PyProof.Rows

abbrev R2 := V → V → Hp → VK → Prop
def OpR (X : Cx) (f : Value → Value → Sem Value) (r : R2) : Prop :=
  ∀ (pins : List (Addr × Obj)) (s : Shared) (σ : St) (H : Hp) (x y : V) (v u : Value) (Q : VK), Inv X pins σ H s → RelV x v → RelV y u → r x y H Q →
    wpAny (model X.prog X.w) X.A (f v u) (EP X pins σ Q) X.xe s
def UnR (X : Cx) (f : Value → Sem Value) (r : V → Hp → VK → Prop) : Prop :=
  ∀ (pins : List (Addr × Obj)) (s : Shared) (σ : St) (H : Hp) (x : V) (v : Value) (Q : VK), Inv X pins σ H s → RelV x v → r x H Q →
    wpAny (model X.prog X.w) X.A (f v) (EP X pins σ Q) X.xe s
def CallR (X : Cx) (f : Value) (r : List V → Hp → VK → Prop) : Prop :=
  ∀ (pins : List (Addr × Obj)) (s : Shared) (σ : St) (H : Hp) (xs : List V) (us : List Value) (Q : VK), Inv X pins σ H s → Vals xs us → r xs H Q →
    wpAny (model X.prog X.w) X.A (call f us) (EP X pins σ Q) X.xe s
def TruR (X : Cx) (r : V → Hp → (Bool → Hp → Prop) → Prop) : Prop :=
  ∀ (pins : List (Addr × Obj)) (s : Shared) (σ : St) (H : Hp) (x : V) (v : Value) (Q : Bool → Hp → Prop), Inv X pins σ H s → RelV x v → r x H Q →
    wpAny (model X.prog X.w) X.A (truthy v) (TP X pins σ Q) X.xe s

def tOp (r : R2) (ta tb : TE) : TE := fun σ H Q => ta σ H fun x H1 => tb σ H1 fun y H2 => r x y H2 Q
def tUn (r : V → Hp → VK → Prop) (ta : TE) : TE := fun σ H Q => ta σ H fun x H1 => r x H1 Q
def rI (C : Int → Int → Prop) (g : Int → Int → V) : R2 := fun x y H Q => ∃ i j, x = .int i ∧ y = .int j ∧ C i j ∧ Q (g i j) H
def rI0 (g : Int → Int → V) : R2 := fun x y H Q => ∃ i j, x = .int i ∧ y = .int j ∧ Q (g i j) H
def rU (g : Int → V) : V → Hp → VK → Prop := fun x H Q => ∃ i, x = .int i ∧ Q (g i) H

section
variable {X : Cx} {a b c : Expr} {ta tb tc : TE} {pos : Pos}

theorem binT (ha : PE X a ta) (hb : PE X b tb) {pins : List (Addr × Obj)} {s : Shared} {σ : St} {H : Hp} {R : V → V → Hp → Prop} (I : Inv X pins σ H s)
    (h : ta σ H fun x H1 => tb σ H1 fun y H2 => R x y H2) {Q : Value → Shared → Prop} {f : Value → Value → Sem Value}
    (hf : ∀ v u s2 x y H2, Inv X pins σ H2 s2 → RelV x v → RelV y u → R x y H2 → wpAny (model X.prog X.w) X.A (f v u) Q X.xe s2) :
    wpAny (model X.prog X.w) X.A (eval a X.env) (fun v s₁ => wpAny (model X.prog X.w) X.A (eval b X.env) (fun u s₂ => wpAny (model X.prog X.w) X.A (f v u) Q X.xe s₂) X.xe s₁) X.xe s := by
  refine thn (ha pins s σ H _ I h) fun v s1 ⟨x, H1, I1, r1, q1⟩ => ?_
  refine thn (hb pins s1 σ H1 _ I1 q1) fun u s2 ⟨y, H2, I2, r2, q2⟩ => ?_
  exact hf v u s2 x y H2 I2 r1 r2 q2

theorem pe_op {op : Operator} {r : R2} (ho : OpR X (binaryOp op) r) (ha : PE X a ta) (hb : PE X b tb) : PE X (.BinOp a op b pos) (tOp r ta tb) := by
  intro pins s σ H Q I h
  exact wpAny_BinOp (binT ha hb I h fun v u s2 x y H2 I2 rx ry q => ho pins s2 σ H2 x y v u Q I2 rx ry q)
theorem pe_un {op : UnaryOp} {r : V → Hp → VK → Prop} (ho : UnR X (unaryOp op) r) (ha : PE X a ta) : PE X (.UnaryOp op a pos) (tUn r ta) := by
  intro pins s σ H Q I h
  exact UnaryOp_ (thn (ha pins s σ H _ I h) fun v s1 ⟨x, H1, I1, r1, q1⟩ => ho pins s1 σ H1 x v Q I1 r1 q1)
theorem opI {f : Value → Value → Sem Value} {C : Int → Int → Prop} {g : Int → Int → Int}
    (rule : ∀ (i j : Int) (t u : Tok) (s : Shared) (Q : Value → Shared → Prop) (E : Value → Shared → Prop), C i j → Q (.int (g i j) s.toks) { s with toks := s.toks + 1 } → wpAny (model X.prog X.w) X.A (f (.int i t) (.int j u)) Q E s) :
    OpR X f (rI C fun i j => .int (g i j)) := by
  intro pins s σ H x y v u Q I rx ry h
  obtain ⟨i, j, rfl, rfl, hc, q⟩ := h
  obtain ⟨t, rfl⟩ := rx
  obtain ⟨t', rfl⟩ := ry
  exact rule i j t t' s _ _ hc ⟨.int (g i j), H, I.tok _, ⟨_, rfl⟩, q⟩
theorem opI0 {f : Value → Value → Sem Value} {g : Int → Int → Int}
    (rule : ∀ (i j : Int) (t u : Tok) (s : Shared) (Q : Value → Shared → Prop) (E : Value → Shared → Prop), Q (.int (g i j) s.toks) { s with toks := s.toks + 1 } → wpAny (model X.prog X.w) X.A (f (.int i t) (.int j u)) Q E s) :
    OpR X f (rI0 fun i j => .int (g i j)) := by
  intro pins s σ H x y v u Q I rx ry h
  obtain ⟨i, j, rfl, rfl, q⟩ := h
  obtain ⟨t, rfl⟩ := rx
  obtain ⟨t', rfl⟩ := ry
  exact rule i j t t' s _ _ ⟨.int (g i j), H, I.tok _, ⟨_, rfl⟩, q⟩
theorem opB0 {f : Value → Value → Sem Value} {g : Int → Int → Bool}
    (rule : ∀ (i j : Int) (t u : Tok) (s : Shared) (Q : Value → Shared → Prop) (E : Value → Shared → Prop), Q (.bool (g i j)) s → wpAny (model X.prog X.w) X.A (f (.int i t) (.int j u)) Q E s) :
    OpR X f (rI0 fun i j => .bl (g i j)) := by
  intro pins s σ H x y v u Q I rx ry h
  obtain ⟨i, j, rfl, rfl, q⟩ := h
  obtain ⟨t, rfl⟩ := rx
  obtain ⟨t', rfl⟩ := ry
  exact rule i j t t' s _ _ ⟨.bl (g i j), H, I, rfl, q⟩

def CDiv (i j : Int) : Prop := 0 < j ∧ j < 1073741824
def CPow (i j : Int) : Prop := 0 ≤ j ∧ j ≤ 1000000 ∧ i.natAbs < 2 ^ 64
def CMul (i j : Int) : Prop := (-(2 ^ 64) < i ∧ i < 2 ^ 64) ∨ (-(2 ^ 64) < j ∧ j < 2 ^ 64)
theorem CMul.ok {i j : Int} (h : CMul i j) : IntMulOk i j := by
  rcases h with ⟨h1, h2⟩ | ⟨h1, h2⟩
  · exact .of_left (intBits_le_64 h1 h2)
  · exact .of_right (intBits_le_64 h1 h2)
theorem op_add : OpR X (binaryOp .Add) (rI0 fun i j => .int (i + j)) := opI0 fun _ _ _ _ _ _ _ q => add_int q
theorem op_sub : OpR X (binaryOp .Sub) (rI0 fun i j => .int (i - j)) := opI0 fun _ _ _ _ _ _ _ q => sub_int q
theorem op_mul : OpR X (binaryOp .Mult) (rI CMul fun i j => .int (i * j)) := opI fun _ _ _ _ _ _ _ hc q => mul_int q hc.ok
theorem op_fdiv : OpR X (binaryOp .FloorDiv) (rI CDiv fun i j => .int (i / j)) := opI fun i j _ _ _ _ _ hc q => by
  have h1 : (0 : Int) < j := hc.1
  have h2 : j < 1073741824 := hc.2
  exact floordiv_int (by omega) (by rw [Int.fdiv_eq_ediv_of_nonneg i (by omega)]; exact q) (.inl (PyProof.noPylong_small (by omega)))
theorem op_mod : OpR X (binaryOp .Mod) (rI (fun _ j => 0 < j) fun i j => .int (i % j)) := opI fun i j _ _ _ _ _ hc q => by
  have h1 : (0 : Int) < j := hc
  exact mod_int' (by omega) (by rw [Int.fmod_eq_emod_of_nonneg i (by omega)]; exact q)
theorem op_pow : OpR X (binaryOp .Pow) (rI CPow fun i j => .int (i ^ j.toNat)) := opI fun _ _ _ _ _ _ _ hc q => pow_int_small hc.1 hc.2.1 hc.2.2 q
theorem unI {f : Value → Sem Value} {g : Int → Int}
    (rule : ∀ (i : Int) (t : Tok) (s : Shared) (Q : Value → Shared → Prop) (E : Value → Shared → Prop), Q (.int (g i) s.toks) { s with toks := s.toks + 1 } → wpAny (model X.prog X.w) X.A (f (.int i t)) Q E s) :
    UnR X f (rU fun i => .int (g i)) := by
  intro pins s σ H x v Q I rx h
  obtain ⟨i, rfl, q⟩ := h
  obtain ⟨t, rfl⟩ := rx
  exact rule i t s _ _ ⟨.int (g i), H, I.tok _, ⟨_, rfl⟩, q⟩
theorem un_neg : UnR X (unaryOp .USub) (rU fun i => .int (-i)) := unI fun _ _ _ _ _ q => neg_int q
end

def scal : V → V → Bool
  | .non, .non => true | .non, .int _ => true | .int _, .non => true | .non, .bl _ => true | .bl _, .non => true | .non, .str _ => true | .str _, .non => true
  | .int _, .int _ => true | .bl _, .bl _ => true | .str _, .str _ => true | .byt _, .byt _ => true
  | .int _, .str _ => true | .str _, .int _ => true | .bl _, .str _ => true | .str _, .bl _ => true
  | _, _ => false
def rEq : R2 := fun x y H Q => scal x y = true ∧ Q (.bl (decide (x = y))) H
theorem dec_int {i j : Int} : decide (V.int i = V.int j) = (i == j) := by
  rw [Bool.eq_iff_iff]
  simp
theorem dec_bl {i j : Bool} : decide (V.bl i = V.bl j) = (i == j) := by
  rw [Bool.eq_iff_iff]
  simp
theorem dec_str {i j : Str} : decide (V.str i = V.str j) = (i == j) := by
  rw [Bool.eq_iff_iff]
  simp
theorem dec_byt {i j : Array UInt8} : decide (V.byt i = V.byt j) = (i.toList == j.toList) := by
  rw [Bool.eq_iff_iff]
  cases i
  cases j
  simp

section
variable {X : Cx} {a b c : Expr} {ta tb tc : TE} {pos : Pos}
theorem fin_bl {pins : List (Addr × Obj)} {σ : St} {H : Hp} {s : Shared} {Q : VK} {k k' : Bool} (I : Inv X pins σ H s) (q : Q (.bl k) H) (e : k = k') : EP X pins σ Q (.bool k') s := by
  subst e
  exact ⟨.bl k, H, I, rfl, q⟩
theorem op_eq : OpR X (compareOp .Eq) rEq := by
  intro pins s σ H x y v u Q I rx ry h
  obtain ⟨hs, q⟩ := h
  cases x with
  | non =>
    cases rx
    cases y with
    | non => cases ry; exact PySem.EqNone.eq_none_none (fin_bl I q (by simp))
    | bl j => cases ry; exact PySem.EqNone.eq_none_bool (fin_bl I q (by simp))
    | int j => obtain ⟨t', rfl⟩ := ry; exact PySem.EqNone.eq_none_int (fin_bl I q (by simp))
    | str j => obtain ⟨t', rfl⟩ := ry; exact PySem.EqNone.eq_none_str (fin_bl I q (by simp))
    | _ => exact absurd (show false = true from hs) Bool.false_ne_true
  | bl i =>
    cases rx
    cases y with
    | non => cases ry; exact PySem.EqNone.eq_bool_none (fin_bl I q (by simp))
    | bl j => cases ry; exact eq_bool (fin_bl I q dec_bl)
    | str j => obtain ⟨t', rfl⟩ := ry; exact PySem.EqMixed.eq_bool_str (fin_bl I q (by simp))
    | _ => exact absurd (show false = true from hs) Bool.false_ne_true
  | int i =>
    obtain ⟨t, rfl⟩ := rx
    cases y with
    | non => cases ry; exact PySem.EqNone.eq_int_none (fin_bl I q (by simp))
    | int j => obtain ⟨t', rfl⟩ := ry; exact eq_int (fin_bl I q dec_int)
    | str j => obtain ⟨t', rfl⟩ := ry; exact PySem.EqMixed.eq_int_str (fin_bl I q (by simp))
    | _ => exact absurd (show false = true from hs) Bool.false_ne_true
  | str i =>
    obtain ⟨t, rfl⟩ := rx
    cases y with
    | non => cases ry; exact PySem.EqNone.eq_str_none (fin_bl I q (by simp))
    | bl j => cases ry; exact PySem.EqMixed.eq_str_bool (fin_bl I q (by simp))
    | int j => obtain ⟨t', rfl⟩ := ry; exact PySem.EqMixed.eq_str_int (fin_bl I q (by simp))
    | str j => obtain ⟨t', rfl⟩ := ry; exact eq_str (fin_bl I q dec_str)
    | _ => exact absurd (show false = true from hs) Bool.false_ne_true
  | byt i =>
    obtain ⟨t, rfl⟩ := rx
    cases y with
    | byt j => obtain ⟨t', rfl⟩ := ry; exact PySem.W.eq_bytes (fin_bl I q dec_byt)
    | _ => exact absurd (show false = true from hs) Bool.false_ne_true
  | _ => cases y <;> exact absurd (show false = true from hs) Bool.false_ne_true
theorem op_lt : OpR X (compareOp .Lt) (rI0 fun i j => .bl (decide (i < j))) := opB0 fun _ _ _ _ _ _ _ q => lt_int q
theorem op_le : OpR X (compareOp .LtE) (rI0 fun i j => .bl (decide (i ≤ j))) := opB0 fun _ _ _ _ _ _ _ q => le_int q
theorem op_lt_str : OpR X (compareOp .Lt) (fun x y H Q => ∃ i j, x = .str i ∧ y = .str j ∧ Q (.bl (decide (i.cps.toList < j.cps.toList))) H) := by
  intro pins s σ H x y v u Q I rx ry h
  obtain ⟨i, j, rfl, rfl, q⟩ := h
  obtain ⟨t, rfl⟩ := rx
  obtain ⟨t', rfl⟩ := ry
  exact lt_str (fin_bl I q rfl)
theorem op_in_str : OpR X (compareOp .In) (fun x y H Q => ∃ i j, x = .str i ∧ y = .str j ∧ Q (.bl (!(Builtin.Str.occurrences j i 0 j.length 1).isEmpty)) H) := by
  intro pins s σ H x y v u Q I rx ry h
  obtain ⟨i, j, rfl, rfl, q⟩ := h
  obtain ⟨t, rfl⟩ := rx
  obtain ⟨t', rfl⟩ := ry
  exact in_str (fin_bl I q rfl)

theorem op_isN : OpR X (compareOp .Is) (fun x y H Q => y = .non ∧ Q (.bl (decide (x = .non))) H) := by
  intro pins s σ H x y v u Q I rx ry h
  obtain ⟨rfl, q⟩ := h
  cases ry
  refine is_none_gen (fin_bl I q ?_)
  cases x <;> first
    | (cases rx; rfl)
    | (obtain ⟨t, rfl⟩ := rx; rfl)
theorem op_notN : OpR X (compareOp .IsNot) (fun x y H Q => y = .non ∧ Q (.bl (!decide (x = .non))) H) := by
  intro pins s σ H x y v u Q I rx ry h
  obtain ⟨rfl, q⟩ := h
  cases ry
  refine isnot_none_gen (fin_bl I q ?_)
  cases x <;> first
    | (cases rx; rfl)
    | (obtain ⟨t, rfl⟩ := rx; rfl)

theorem op_notin_str : OpR X (compareOp .NotIn) (fun x y H Q => ∃ i j, x = .str i ∧ y = .str j ∧ Q (.bl (!(!(Builtin.Str.occurrences j i 0 j.length 1).isEmpty))) H) := by
  intro pins s σ H x y v u Q I rx ry h
  obtain ⟨i, j, rfl, rfl, q⟩ := h
  obtain ⟨t, rfl⟩ := rx
  obtain ⟨t', rfl⟩ := ry
  exact notIn_str (fin_bl I q rfl)
theorem nomark (b : Expr) {op : CmpOp} (h : op ≠ .In := by decide) (h2 : op ≠ .NotIn := by decide) : behindInMarks op b = false := by
  have e1 : (op == CmpOp.In) = false := by cases op <;> first | rfl | exact absurd rfl h
  have e2 : (op == CmpOp.NotIn) = false := by cases op <;> first | rfl | exact absurd rfl h2
  cases b <;> simp [behindInMarks, e1, e2]
theorem pe_cmpR {op : CmpOp} {r : R2} (ho : OpR X (compareOp op) r) (ha : PE X a ta) (hb : PE X b tb) (hm : behindInMarks op b = false) : PE X (.Compare a [op] [b] pos) (tOp r ta tb) := by
  intro pins s σ H Q I h
  exact wpAny_Compare1 (binT ha hb I h fun v u s2 x y H2 I2 rx ry q => ho pins s2 σ H2 x y v u Q I2 rx ry q) hm
def tTest (t : TE) : TT := fun σ H Q => t σ H fun x H' => ∃ k, x = .bl k ∧ Q k H'
theorem pt_cmpR {op : CmpOp} {r : R2} (ho : OpR X (compareOp op) r) (ha : PE X a ta) (hb : PE X b tb) (hm : behindInMarks op b = false) : PT X (.Compare a [op] [b] pos) (tTest (tOp r ta tb)) := by
  intro pins s σ H Q I h
  refine wpAny_isTrue_Compare1 (thn (ha pins s σ H _ I h) fun v s1 ⟨x, H1, I1, r1, q1⟩ => thn (hb pins s1 σ H1 _ I1 q1) fun u s2 ⟨y, H2, I2, r2, q2⟩ =>
    thn (ho pins s2 σ H2 x y v u _ I2 r1 r2 q2) fun c s3 ⟨z, H3, I3, r3, k, e, q3⟩ => ?_) hm
  subst e
  cases r3
  exact wpAny_truthy_bool ⟨H3, I3, q3⟩
def tChain (r r' : R2) (ta tb tc : TE) : TE := fun σ H Q => ta σ H fun x H1 => tb σ H1 fun y H2 => r x y H2 fun z H3 => ∃ k, z = .bl k ∧
  (if k = true then tc σ H3 fun w' H4 => r' y w' H4 Q else Q (.bl false) H3)
theorem pt_chain {op op' : CmpOp} {r r' : R2} (ho : OpR X (compareOp op) r) (ho' : OpR X (compareOp op') r') (ha : PE X a ta) (hb : PE X b tb) (hc : PE X c tc)
    (hm : lastMarks [op, op'] [b, c] = false := by with_unfolding_all rfl) : PT X (.Compare a [op, op'] [b, c] pos) (tTest (tChain r r' ta tb tc)) := by
  intro pins s σ H Q I h
  refine isTrue_chain (thn (ha pins s σ H _ I h) fun v s1 ⟨x, H1, I1, r1, q1⟩ => test_link (thn (hb pins s1 σ H1 _ I1 q1) fun u s2 ⟨y, H2, I2, r2, q2⟩ =>
    thn (ho pins s2 σ H2 x y v u _ I2 r1 r2 q2) fun d s3 ⟨z, H3, I3, r3, k, e, q3⟩ => ?_)) hm
  subst e
  cases r3
  refine wpAny_truthy_bool ?_
  cases k with
  | false =>
    obtain ⟨k', e', q'⟩ := q3
    cases e'
    exact ite_ff ⟨H3, I3, q'⟩
  | true =>
    refine ite_tt (test_last (thn (hc pins s3 σ H3 _ I3 q3) fun w' s4 ⟨z', H4, I4, r4, q4⟩ => thn (ho' pins s4 σ H4 y z' u w' _ I4 r2 r4 q4) fun d' s5 ⟨z2, H5, I5, r5, k2, e2, q5⟩ => ?_))
    subst e2
    cases r5
    exact wpAny_truthy_bool ⟨H5, I5, q5⟩

def TruV (K : PySem.W.Frag) (x : V) (H : Hp) (k : Bool) : Prop :=
  match x with
  | .non => k = false
  | .bl b => k = b
  | .int i => k = (i != 0)
  | .str y => y.length ≤ sizeLine ∧ k = ((y.length : Int) != 0)
  | .byt y => y.size ≤ sizeLine ∧ k = ((y.size : Int) != 0)
  | .ref p => (∃ xs, SqL K H p xs ∧ k = !xs.isEmpty) ∨ (∃ xs, SqT K H p xs ∧ k = !xs.isEmpty) ∨ ∃ kvs, H p = some (.dK kvs) ∧ k = !kvs.isEmpty
  | _ => False
theorem isEmpty_kv {κ : Type} {kvs : List (κ × V)} {vs : List (κ × Value)} (r : KV kvs vs) : (!vs.isEmpty) = !kvs.isEmpty := by
  cases r <;> rfl
theorem isEmpty_of {xs : List V} {its : List Value} (r : Vals xs its) : (!its.toArray.isEmpty) = !xs.isEmpty := by
  cases r <;> simp
theorem line63 : (sizeLine : Nat) < 2 ^ 63 := by rw [sizeLine_eq]; decide
theorem tru_ok : TruR X (fun x H Q => ∃ k, TruV X.K x H k ∧ Q k H) := by
  intro pins s σ H x v Q I rx h
  obtain ⟨k, e, q⟩ := h
  have hl := line63
  have hs : sizeLine = 16777216 := sizeLine_eq
  cases x with
  | non =>
    cases rx
    have e' : k = false := e
    subst e'
    exact truthy_none ⟨H, I, q⟩
  | bl b =>
    cases rx
    have e' : k = b := e
    subst e'
    exact wpAny_truthy_bool ⟨H, I, q⟩
  | int i =>
    obtain ⟨t, rfl⟩ := rx
    have e' : k = (i != 0) := e
    subst e'
    exact PySem.P.truthy_int ⟨H, I, q⟩
  | str y =>
    obtain ⟨t, rfl⟩ := rx
    obtain ⟨hy, e'⟩ : y.length ≤ sizeLine ∧ k = ((y.length : Int) != 0) := e
    subst e'
    exact PySem.P.truthy_str (by omega) ⟨H, I.tok _, q⟩
  | byt y =>
    obtain ⟨t, rfl⟩ := rx
    obtain ⟨hy, e'⟩ : y.size ≤ sizeLine ∧ k = ((y.size : Int) != 0) := e
    subst e'
    exact PySem.W.truthy_bytes (by omega) ⟨H, I.tok _, q⟩
  | ref p =>
    cases rx
    have e' : (∃ xs, SqL X.K H p xs ∧ k = !xs.isEmpty) ∨ (∃ xs, SqT X.K H p xs ∧ k = !xs.isEmpty) ∨ ∃ kvs, H p = some (.dK kvs) ∧ k = !kvs.isEmpty := e
    rcases e' with ⟨xs, hx, e'⟩ | ⟨xs, hx, e'⟩ | ⟨kvs, hx, e'⟩
    · subst e'
      obtain ⟨its, r, pl, hz⟩ := I.list hx
      have hlen := r.length
      exact wpAny_truthy_list pl.isList (by simp only [List.size_toArray]; omega) ⟨H, I.tok _, by rw [isEmpty_of r]; exact q⟩
    · subst e'
      obtain ⟨its, r, pl, hz⟩ := I.tuple hx
      have hlen := r.length
      exact truthy_tuple pl (by simp only [List.size_toArray]; omega) ⟨H, I.tok _, by rw [isEmpty_of r]; exact q⟩
    · subst e'
      obtain ⟨hz, hS, vs, r, m⟩ : kvs.length ≤ sizeLine ∧ (p == sysModules) = false ∧ ∃ vs, KV kvs vs ∧ s.heap.DictOf (mixKind X.prog X.w) p vs := I.hok p _ hx
      have hlen : kvs.length = vs.length := Paired.length r
      exact wpAny_truthy_dict hS m (by omega) ⟨H, I.tok _, by rw [isEmpty_kv r]; exact q⟩
  | _ => exact (show False from e).elim
theorem pt_truth (ha : PE X a ta) (he : ∀ whole, isTrue a X.env whole = (do let v ← whole; standAt a.pos; holding [v] (truthy v))) :
    PT X a (fun σ H Q => ta σ H fun x H' => ∃ k, TruV X.K x H' k ∧ Q k H') := by
  intro pins s σ H Q I h
  exact isTrue_plain (thn (ha pins s σ H _ I h) fun v s1 ⟨x, H1, I1, r1, q1⟩ => tru_ok pins s1 σ H1 x v Q I1 r1 q1) (he _)

theorem op_add_str : OpR X (binaryOp .Add) (fun x y H Q => ∃ i j, x = .str i ∧ y = .str j ∧ i.length + j.length ≤ sizeLine ∧ Q (.str (i ++ j)) H) := by
  intro pins s σ H x y v u Q I rx ry h
  obtain ⟨i, j, rfl, rfl, hz, q⟩ := h
  obtain ⟨t, rfl⟩ := rx
  obtain ⟨t', rfl⟩ := ry
  exact add_str (fun t' tk => ⟨.str (i ++ j), H, I.tok _, ⟨_, rfl⟩, q⟩) hz
theorem vals1 {x : V} {us : List Value} (r : Vals [x] us) : ∃ u, us = [u] ∧ RelV x u := by
  cases r with
  | cons r1 r2 => cases r2; exact ⟨_, rfl, r1⟩
theorem vals2 {x y : V} {us : List Value} (r : Vals [x, y] us) : ∃ u w', us = [u, w'] ∧ RelV x u ∧ RelV y w' := by
  cases r with
  | cons r1 r2 =>
    cases r2 with
    | cons r3 r4 => cases r4; exact ⟨_, _, rfl, r1, r3⟩
theorem call_int1 : CallR X (.type "int") (fun xs H Q => (∃ i, xs = [.int i] ∧ Q (.int i) H) ∨ ∃ k, xs = [.bl k] ∧ Q (.int (if k then 1 else 0)) H) := by
  intro pins s σ H xs us Q I r h
  rcases h with ⟨i, rfl, q⟩ | ⟨k, rfl, q⟩
  · obtain ⟨u, rfl, t, rfl⟩ := vals1 r
    exact call_int_int ⟨.int i, H, I, ⟨_, rfl⟩, q⟩
  · obtain ⟨u, rfl, r1⟩ := vals1 r
    cases r1
    exact call_int_bool ⟨.int (if k then 1 else 0), H, I.tok _, ⟨_, rfl⟩, q⟩
end
end L2

namespace L2
open PySem PySem.Spec PyProof.Rows

structure ObjM (h : Heap) (x dx C : Addr) (mA : Str → Option Value) : Prop where
  obj : h.get? x = some (PySem.W.instObj C dx)
  ns : h.Ns1 dx mA
  ne : dx ≠ x

section
variable {prog : Program} {w : World} {A : Around} {E : Value → Shared → Prop} {s : Shared} {K : PySem.W.Frag} {x dx C f : Addr} {mA : Str → Option Value} {name : Str} {v : Value}

end

theorem RelO.some_of {v : V} {o : Option Value} (r : RelO (some v) o) : ∃ u, o = some u ∧ RelV v u := by
  cases o with
  | none => exact (show False from r).elim
  | some u => exact ⟨u, rfl, r⟩
section
variable {P : Program} {w : World} {H H' : Hp} {h h' : Heap} {a C dx : Addr} {fs fs' : List (Str × V)}
end

structure Cls (K : PySem.W.Frag) (C : Addr) : Prop where
  pg : PySem.W.plainGet K C Str.empty = true
  hd : PySem.W.hasDictIn K C = true
  po : PySem.W.plainOver K C = true
  sa : PySem.W.findIn K (.ref C) "__setattr__" = some (some (.builtin "object.__setattr__"))
theorem Cls.get {K : PySem.W.Frag} {C : Addr} (c : Cls K C) (f : Str) : PySem.W.plainGet K C f = true := c.pg
structure Con (K : PySem.W.Frag) (C : Addr) (f : Str) (v : V) (u : Value) : Prop where
  at_ : PySem.W.findIn K (.ref C) f = some (some u)
  rel : RelV v u
  get : PySem.W.specialIn K u "__get__" = some none
  cp : PySem.W.copiedNames.contains f = false
structure Meth (K : PySem.W.Frag) (C : Addr) (m : Str) (f : Addr) : Prop where
  at_ : PySem.W.findIn K (.ref C) m = some (some (.ref f))
  fn : PySem.W.isFn K (.ref f) = true
  kp : PySem.W.keepIn K (.ref f) = true

section
variable {X : Cx} {pins : List (Addr × Obj)} {σ : St} {H : Hp} {s : Shared} {a C dx : Addr} {fs : List (Str × V)} {f : Str} {v : V} {A : Around} {E : Value → Shared → Prop}

end

section
variable {X : Cx} {o e value : Expr} {f : Str} {pos pos' tpos : Pos} {ta tv : TE}
end

section
variable {X : Cx} {pins : List (Addr × Obj)} {σ : St} {H : Hp} {s : Shared} {A : Around} {E : Value → Shared → Prop} {Q : Value → Shared → Prop} {c : Value} {b : Bool}
inductive TyOf (K : PySem.W.Frag) (H : Hp) : V → Value → Prop where
  | non : TyOf K H .non (.type "NoneType")
  | bl (x : Bool) : TyOf K H (.bl x) (.type "bool")
  | int (i : Int) : TyOf K H (.int i) (.type "int")
  | str (x : Str) : TyOf K H (.str x) (.type "str")
  | flt (x : UInt64) : TyOf K H (.flt x) (.type "float")
  | lst {a : Addr} {xs : List V} (e : H a = some (.lst xs)) : TyOf K H (.ref a) (.type "list")
  | frz {a : Addr} {o : Obj} {xs : List V} (e : H a = some (.frz o (.lst xs))) : TyOf K H (.ref a) (.type "list")
  | tup {a : Addr} {xs : List V} (e : H a = some (.tup xs)) : TyOf K H (.ref a) (.type "tuple")
  | dK {a : Addr} {kvs : List (Key × V)} (e : H a = some (.dK kvs)) : TyOf K H (.ref a) (.type "dict")
  | dT {a : Addr} {kvs : List (List Key × V)} (e : H a = some (.dT kvs)) : TyOf K H (.ref a) (.type "dict")
  | ins {a C dx : Addr} {fs : List (Str × V)} (e : H a = some (.ins C dx fs)) (cl : Cls K C) (ha : PySem.W.findIn K (.ref C) "__class__" = some (some (.builtin "object.__class__")))
      (hn : PySem.W.specialIn K (.builtin "object.__class__") "__get__" = some (some (.builtin "getset_descriptor.__get__"))) (htk : PySem.W.takesIn K (.builtin "object.__class__") = some true)
      (hm : PySem.W.mroIn K C (.type "object") = some true) : TyOf K H (.ref a) (.ref C)
end
end L2

namespace L2
open PySem PySem.Spec PyProof.Rows

structure Room (k : Nat) (A : Around) : Prop where
  hd : A.handled = none
  dp : A.depth + 3 * k + 5 < recursionLimit
  un : A.units + 16 * k + 200 < cLine
  gd : A.guards = some []
theorem Room.mono {j k : Nat} {A : Around} (r : Room k A) (h : j ≤ k) : Room j A := ⟨r.hd, by have := r.dp; omega, by have := r.un; omega, r.gd⟩
theorem Room.deeper {k : Nat} {A : Around} (r : Room (k + 1) A) (env : Env) : Room k (A.deeper env) :=
  ⟨r.hd, by have := r.dp; show A.depth + 1 + 3 * k + 5 < _; omega, by have := r.un; show A.units + 3 + 16 * k + 200 < _; omega, r.gd⟩
theorem Room.in1 {k : Nat} {A : Around} (r : Room (k + 1) A) : Room k A.in1 :=
  ⟨r.hd, by have := r.dp; show A.depth + 3 * k + 5 < _; omega, by have := r.un; show A.units + 1 + 16 * k + 200 < _; omega, r.gd⟩
theorem Room.depth {k : Nat} {A : Around} (r : Room k A) : A.depth < recursionLimit := by have := r.dp; omega
theorem Room.units {k : Nat} {A : Around} (r : Room k A) : A.units + 64 < cLine := by have := r.un; omega
def tNil : TA := fun _ H Q => Q [] H
def tCons (ta : TE) (tr : TA) : TA := fun σ H Q => ta σ H fun x H1 => tr σ H1 fun xs H2 => Q (x :: xs) H2
section
variable {X : Cx} {e : Expr} {es : List Expr} {te : TE} {t : TA} {pos : Pos}
theorem pa_nil : PA X [] tNil := fun _ _ _ _ H Q I h => Calls.spliced_nil ⟨[], H, I, .nil, h⟩
theorem pa_cons (ha : PE X e te) (hr : PA X es t) (hs : starEach (e :: es) X.env = (false, eval e X.env) :: starEach es X.env := by rfl) : PA X (e :: es) (tCons te t) := by
  intro pos pins s σ H Q I h
  rw [hs]
  show wpAny _ _ (spliced ((false, eval e X.env) :: backTo pos (starEach es X.env))) _ _ s
  refine Calls.spliced_cons (thn (ha pins s σ H _ I h) fun u s1 ⟨x, H1, I1, r1, q1⟩ => ?_)
  exact thn (hr pos pins s1 σ H1 _ I1 q1) fun us s2 ⟨xs, H2, I2, r2, q2⟩ => ⟨x :: xs, H2, I2, .cons r1 r2, q2⟩

def tTup (t : TA) : TE := fun σ H Q => t σ H fun xs H1 => xs.length ≤ sizeLine ∧ ∀ p, H1 p = none → Q (.ref p) (upd H1 p (.tup xs))
def tLst (t : TA) : TE := fun σ H Q => t σ H fun xs H1 => xs.length ≤ sizeLine ∧ ∀ p, H1 p = none → Q (.ref p) (upd H1 p (.lst xs))
theorem pe_tup {x1} (h : PA X es t) : PE X (.Tuple es x1 pos) (tTup t) := by
  intro pins s σ H Q I hq
  refine wpAny_Tuple_spliced (thn (h pos pins s σ H _ I hq) fun us s1 ⟨xs, H1, I1, r, z, q⟩ => ⟨by rw [← r.length]; exact z, ?_⟩)
  have hf : H1 s1.heap.objs.size = none := I1.hok.fresh (Nat.le_refl _)
  refine ⟨.ref s1.heap.objs.size, upd H1 s1.heap.objs.size (.tup xs), I1.laid (t' := s1.toks) (fun b u e => Heap.get?_push_of_some _ e) (Nat.le_refl _) ?_, rfl, q _ hf⟩
  exact ⟨z, us, r, ⟨_, Heap.get?_push_size _ rfl, rfl, _, rfl⟩⟩
theorem pe_lst (h : PA X es t) : PE X (.List es pos) (tLst t) := by
  intro pins s σ H Q I hq
  refine wpAny_List_spliced (thn (h pos pins s σ H _ I hq) fun us s1 ⟨xs, H1, I1, r, z, q⟩ => ⟨by rw [← r.length]; exact z, ?_⟩)
  have hf : H1 s1.heap.objs.size = none := I1.hok.fresh (Nat.le_refl _)
  refine ⟨.ref s1.heap.objs.size, upd H1 s1.heap.objs.size (.lst xs), I1.laid (t' := s1.toks) (fun b u e => Heap.get?_push_of_some _ e) (Nat.le_refl _) ?_, rfl, q _ hf⟩
  exact ⟨z, us, 0, r, Heap.get?_push_size _ rfl⟩
end

abbrev Sp := List V → Hp → VK → XK → Prop
abbrev CXT := List Env → Hp → Shared → XK → Value → Shared → Prop

structure Env0 (P : Program) (w : World) (K : PySem.W.Frag) (mg : Str → Option Value) (base : Heap) (A : Around) (outer : List Env) (s : Shared) (H : Hp) : Prop where
  frames : A.frames = some outer
  mod : Mod K mg base
  bs : ∀ b o, base.get? b = some o → s.heap.get? b = some o ∧ H b = none
  bsz : base.objs.size ≤ s.heap.objs.size
  funs : s.heap.FunFrames base outer
  frf : ∀ b ∈ frs outer, H b = none
  hok : HOk P w H s.heap
  bare : AllBare s.gens
def CE (outer : List Env) (P : Program) (w : World) (H : Hp) (s : Shared) (Q : VK) (u : Value) (s' : Shared) : Prop :=
  ∃ v H', s'.os = s.os ∧ AllBare s'.gens ∧ Un (frs outer) [] H H' s.heap s'.heap ∧ HOk P w H' s'.heap ∧ RelV v u ∧ Q v H'
def CR (CX : CXT) (outer : List Env) (P : Program) (w : World) (H : Hp) (s : Shared) (Q : VK) (E : XK) (r : Result) (s' : Shared) : Prop :=
  match r with
  | .ok (.ret u) => CE outer P w H s Q u s'
  | .ok _ => False
  | .error e => CX outer H s E e s'
structure FnOk (P : Program) (w : World) (K : PySem.W.Frag) (mg : Str → Option Value) (base : Heap) (CX : CXT) (k : Nat) (f : Addr) (fd : FuncData) (ps : List Str) (sp : Sp) : Prop where
  len : ∀ vs H Q E, sp vs H Q E → vs.length = ps.length
  run : ∀ (A : Around) (outer : List Env) (s : Shared) (H : Hp) (args : Args) (us : List Value) (vs : List V) (Q : VK) (E : XK), Room k A → Env0 P w K mg base A outer s H → BindsTo s fd args (ps.zip us) → Vals vs us → sp vs H Q E →
    codeAny (model P w) A (.call (.ref f) args) (CR CX outer P w H s Q E) s
theorem FnOk.mono {P : Program} {w : World} {K : PySem.W.Frag} {mg : Str → Option Value} {base : Heap} {CX : CXT} {j k : Nat} {f : Addr} {fd : FuncData} {ps : List Str} {sp : Sp} (F : FnOk P w K mg base CX j f fd ps sp) (h : j ≤ k) :
    FnOk P w K mg base CX k f fd ps sp := ⟨F.len, fun A outer s H args us vs Q E hr => F.run A outer s H args us vs Q E (hr.mono h)⟩
theorem Env0.in1 {P : Program} {w : World} {K : PySem.W.Frag} {mg : Str → Option Value} {base : Heap} {A : Around} {outer : List Env} {s : Shared} {H : Hp} (e : Env0 P w K mg base A outer s H) :
    Env0 P w K mg base A.in1 outer s H := ⟨e.frames, e.mod, e.bs, e.bsz, e.funs, e.frf, e.hok, e.bare⟩

section
variable {X : Cx} {pins : List (Addr × Obj)} {σ : St} {H : Hp} {s s' : Shared}
theorem Inv.env0 (I : Inv X pins σ H s) : Env0 X.prog X.w X.K X.mg X.base X.A X.stack s H :=
  ⟨I.ok.frames, I.ok.mod, I.bs, Nat.le_trans I.ok.bsz I.sz, I.stack, I.stkFree, I.hok, I.bare⟩
theorem Inv.after {Q : VK} {u : Value} (I : Inv X pins σ H s) (h : CE X.stack X.prog X.w H s Q u s') : EP X pins σ Q u s' := by
  obtain ⟨v, H', os, bare, un, hok, r, q⟩ := h
  obtain ⟨hh, g, d, t, os'⟩ := s'
  obtain rfl : os' = s.os := os
  exact ⟨v, H', I.call (h' := hh) (g' := g) (d' := d) (t' := t) (ch := []) un hok bare (fun b z => absurd z (by simp)), r, q⟩
end

def tCall (sp : Sp) (dvs : List V) (E : XK) (t : TA) : TE := fun σ H Q => t σ H fun vs H1 => sp (vs ++ dvs) H1 Q E
def Binds (K : PySem.W.Frag) (fd : FuncData) (ps : List Str) (ds : List Value) : Prop :=
  ∀ (s : Shared) (us : List Value), K.In s.heap → (us ++ ds).length = ps.length → BindsTo s fd ⟨us, []⟩ (ps.zip (us ++ ds))
theorem Binds.all {K : PySem.W.Frag} {fd : FuncData} {ps : List Str} (h : ∀ us : List Value, us.length = ps.length → bindArgs fd ⟨us, []⟩ = pure (ps.zip us)) : Binds K fd ps [] := fun s us _ hl => by
  rw [List.append_nil] at hl ⊢
  exact .of_eq (h us hl)

def Passes (CX : CXT) (X : Cx) (E : XK) : Prop := ∀ (pins : List (Addr × Obj)) (σ : St) (H : Hp) (s : Shared) (e : Value) (s' : Shared), Inv X pins σ H s → CX X.stack H s E e s' → X.xe e s'

section
variable {X : Cx} {CX : CXT} {k : Nat} {f C : Addr} {fd : FuncData} {ps : List Str} {sp : Sp} {dvs : List V} {ds : List Value} {E : XK} {x m : Str} {p pos apos : Pos} {e o : Expr} {es : List Expr} {ta : TE} {t : TA}

theorem run_fn {pins : List (Addr × Obj)} {σ : St} {H : Hp} {s : Shared} {Q : VK} {us : List Value} {vs : List V} (F : FnOk X.prog X.w X.K X.mg X.base CX k f fd ps sp) (hr : Room k X.A) (hb : Binds X.K fd ps ds) (hd : Vals dvs ds) (hx : Passes CX X E)
    (I : Inv X pins σ H s) (r : Vals vs us) (h : sp (vs ++ dvs) H Q E) : wpAny (model X.prog X.w) X.A (call (.ref f) us) (EP X pins σ Q) X.xe s := by
  have r2 : Vals (vs ++ dvs) (us ++ ds) := r.append hd
  have hl : (us ++ ds).length = ps.length := by rw [← r2.length]; exact F.len _ _ _ _ h
  refine wpAny_call (codeAny_mono (F.run X.A X.stack s H ⟨us, []⟩ (us ++ ds) (vs ++ dvs) Q E hr I.env0 (hb s us I.kIn hl) r2 h) fun r s' hq => ?_)
  cases r with
  | error e => exact hx pins σ H s e s' I hq
  | ok fl =>
    cases fl with
    | ret u => exact I.after hq
    | next => exact False.elim hq
    | brk => exact False.elim hq
    | cont => exact False.elim hq

theorem pe_call (F : FnOk X.prog X.w X.K X.mg X.base CX k f fd ps sp) (hr : Room k X.A) (hg : Gl X x) (hm : X.mg x = some (.ref f)) (hk : PySem.W.keepIn X.K (.ref f) = true) (hb : Binds X.K fd ps ds) (hd : Vals dvs ds) (hx : Passes CX X E)
    (ha : PA X (e :: es) t) (hdb : (x == ("__debug__" : Str)) = false := by decide) (he : starEach (e :: es) X.env = (false, eval e X.env) :: starEach es X.env := by rfl) (hpl : (backTo pos (starEach es X.env)).any (·.1) = false := by rfl) :
    PE X (.Call (.Name x p) (e :: es) [] pos) (tCall sp dvs E t) := by
  intro pins s σ H Q I h
  refine wpAny_Call_Name_kw (ld_glob I hg hm ?_ hdb)
  refine PySem.W.callWith_K (h₀ := X.base) I.ok.mod.kin hk (thn (ha pos pins s σ H _ I h) fun us s1 ⟨vs, H1, I1, r, q⟩ => ⟨I1.kIn, ?_⟩) he hpl
  exact run_fn F hr hb hd hx I1 r q
structure Mk (K : PySem.W.Frag) (C f : Addr) : Prop where
  makes : PySem.W.makesIn K C = true
  init : PySem.W.findIn K (.ref C) "__init__" = some (some (.ref f))
  fn : PySem.W.isFn K (.ref f) = true
  kp : PySem.W.keepIn K (.ref C) = true

end

section
variable {X : Cx} {CX : CXT} {k : Nat} {f C : Addr} {fd : FuncData} {ps ks : List Str} {sp : Sp} {E : XK} {x m : Str} {p pos apos kpos : Pos} {e o : Expr} {es : List Expr} {kws : List Keyword} {te ta : TE} {t tk : TA} {nm : Option Str}
structure KBinds (K : PySem.W.Frag) (fd : FuncData) (ps ks : List Str) (g : List Value → List Value → List Value) (gV : List V → List V → List V) : Prop where
  to : ∀ (s : Shared) (us ws : List Value), K.In s.heap → (g us ws).length = ps.length → BindsTo s fd ⟨us, ks.zip ws⟩ (ps.zip (g us ws))
  rel : ∀ {vs : List V} {us : List Value} {zs : List V} {ws : List Value}, Vals vs us → Vals zs ws → Vals (gV vs zs) (g us ws)
variable {g : List Value → List Value → List Value} {gV : List V → List V → List V}
end

structure FnScope (N P : List Str) (sc : Scope) : Prop where
  kind : sc.kind = .function
  co : sc.isCoroutine = false
  gen : sc.isGenerator = false
  nd : N.Nodup
  pre : N.take P.length = P
  par : ∀ x ∈ P, sc.names.lookup x = some .local ∨ sc.names.lookup x = some .cell
  nofree : ∀ y ∈ sc.names, y.2 ≠ .free

theorem bindL_out {kindOf : Str → Option NameKind} {x : Str} : ∀ {binds : List (Str × Value)} {m : Str → Option Value}, (∀ v, (x, v) ∉ binds) → bindL kindOf binds m x = m x
  | [], _, _ => rfl
  | (n, v) :: r, m, h => by
    unfold bindL
    rw [bindL_out fun w hw => h w (List.mem_cons_of_mem _ hw)]
    split
    · have : x ≠ n := by rintro rfl; exact h v List.mem_cons_self
      simp [this]
    · rfl
theorem bindC_out {kindOf : Str → Option NameKind} {x : Str} : ∀ {binds : List (Str × Value)} {m : Str → Option Value}, (∀ v, (x, v) ∉ binds) → bindC kindOf binds m x = m x
  | [], _, _ => rfl
  | (n, v) :: r, m, h => by
    unfold bindC
    rw [bindC_out fun w hw => h w (List.mem_cons_of_mem _ hw)]
    split
    · rfl
    · have : x ≠ n := by rintro rfl; exact h v List.mem_cons_self
      simp [this]
theorem bindL_get {kindOf : Str → Option NameKind} {x : Str} {v : Value} : ∀ {P : List Str} {vs : List Value} {i : Nat} {m : Str → Option Value}, P.Nodup → P[i]? = some x → vs[i]? = some v → kindOf x = some .local →
    bindL kindOf (P.zip vs) m x = some v
  | [], _, _, _, _, h, _, _ => by simp at h
  | _ :: _, [], _, _, _, _, h, _ => by simp at h
  | p :: P, w :: vs, 0, m, nd, h1, h2, hk => by
    simp at h1 h2; subst h1; subst h2
    show bindL kindOf ((p, w) :: P.zip vs) m p = _
    unfold bindL
    rw [bindL_out fun v hv => (List.nodup_cons.mp nd).1 (List.of_mem_zip hv).1, if_pos hk]
    simp
  | p :: P, w :: vs, i + 1, m, nd, h1, h2, hk => by
    show bindL kindOf ((p, w) :: P.zip vs) m x = _
    unfold bindL
    exact bindL_get (i := i) (List.nodup_cons.mp nd).2 (by simpa using h1) (by simpa using h2) hk
theorem bindC_get {kindOf : Str → Option NameKind} {x : Str} {v : Value} : ∀ {P : List Str} {vs : List Value} {i : Nat} {m : Str → Option Value}, P.Nodup → P[i]? = some x → vs[i]? = some v → kindOf x ≠ some .local →
    bindC kindOf (P.zip vs) m x = some v
  | [], _, _, _, _, h, _, _ => by simp at h
  | _ :: _, [], _, _, _, _, h, _ => by simp at h
  | p :: P, w :: vs, 0, m, nd, h1, h2, hk => by
    simp at h1 h2; subst h1; subst h2
    show bindC kindOf ((p, w) :: P.zip vs) m p = _
    unfold bindC
    rw [bindC_out fun v hv => (List.nodup_cons.mp nd).1 (List.of_mem_zip hv).1, if_neg hk]
    simp
  | p :: P, w :: vs, i + 1, m, nd, h1, h2, hk => by
    show bindC kindOf ((p, w) :: P.zip vs) m x = _
    unfold bindC
    exact bindC_get (i := i) (List.nodup_cons.mp nd).2 (by simpa using h1) (by simpa using h2) hk

def start (N : List Str) (vs : List V) : St := vs.map some ++ List.replicate (N.length - vs.length) none

def cxOf (CX : CXT) (P : Program) (w : World) (K : PySem.W.Frag) (mg : Str → Option Value) (base : Heap) (N : List Str) (qual : Str) (scope : Scope) (f : Addr) (cd : Value) (A : Around) (outer : List Env) (s : Shared) (H : Hp) (E : XK) : Cx where
  prog := P
  w := w
  K := K
  mg := mg
  base := base
  A := A.deeper (envOfC qual scope s.heap.objs.size f cd)
  N := N
  s₀ := s
  H₀ := H
  env := envOfC qual scope s.heap.objs.size f cd
  outer := outer
  stack := envOfC qual scope s.heap.objs.size f cd :: outer
  ex := []
  calm := true
  fn := fun _ => true
  pn := []
  xe := fun e s' => wpAny (model P w) (A.deeper (envOfC qual scope s.heap.objs.size f cd)) (leaving (envOfC qual scope s.heap.objs.size f cd) e) (fun _ s'' => CX outer H s E e s'') (fun e' s'' => CX outer H s E e' s'') s'

theorem cell_has {sc : Scope} {n : Nat} {x : Str} (h : sc.names.lookup x = some .cell) : ∃ c, (cellsFrom n sc.names []).lookup x = some c := by
  have q := PySem.W.cellsFrom_some sc.names n [] (.inl h)
  exact Option.isSome_iff_exists.mp q

theorem inv_start {CX : CXT} {P : Program} {w : World} {K : PySem.W.Frag} {mg : Str → Option Value} {base : Heap} {N ps : List Str} {qual : Str} {scope : Scope} {f : Addr} {cd : Value} {A : Around} {outer : List Env} {s s1 : Shared} {H : Hp} {E : XK} {us : List Value} {vs : List V}
    (S : FnScope N ps scope) (hd : A.handled = none) (e0 : Env0 P w K mg base A outer s H) (hl : vs.length = ps.length) (r : Vals vs us)
    (x : InCallC s s.heap.objs.size (bindL (envOfC qual scope s.heap.objs.size f cd).kindOf (ps.zip us) fun _ => none) (cellsFrom (s.heap.objs.size + 1) scope.names []) (bindC (envOfC qual scope s.heap.objs.size f cd).kindOf (ps.zip us) fun _ => none) s1) :
    Inv (cxOf CX P w K mg base N qual scope f cd A outer s H E) [] (start N vs) H s1 := by
  have hpl : ps.length ≤ N.length := by have := congrArg List.length S.pre; rw [List.length_take] at this; omega
  obtain ⟨h1, tk, rfl, hk⟩ := x.done
  have noA : ∀ b : Addr, b ∉ (cxOf CX P w K mg base N qual scope f cd A outer s H E).ex := fun b z => absurd (show b ∈ ([] : List Addr) from z) (by simp)
  refine ⟨⟨e0.mod, S.kind, rfl, rfl, Nat.le_refl _, fun y z c h1 h2 => ?_, fun y hy => ?_, fun y c _ h => ?_, fun _ => hd, Around.frames_deeper e0.frames, .inr ⟨rfl, rfl⟩, fun b z => absurd z (noA b), e0.bs, e0.bsz, fun b _ _ => noA b, fun b z => absurd z (noA b), e0.funs, e0.frf⟩,
    rfl, e0.bare, Un.kept hk, ⟨_, x.toInCall.ns, fun i y v h1 h2 h3 => ?_⟩, fun y c h => ⟨_, x.cell y c h⟩, e0.hok.fresh (Nat.le_refl _), fun y c h => ?_, fun p hp => absurd (show p ∈ ([] : List (Addr × Obj)) from hp) (by simp), e0.hok.kept hk, ?_⟩
  · exact name_of_addr x.apart (PySem.mem_of_lookup h1) (PySem.mem_of_lookup h2)
  · have hy : scope.names.lookup y = some .cell ∨ scope.names.lookup y = some .free := hy
    rcases hy with hy | hy
    · exact cell_has hy
    · exact absurd rfl (S.nofree _ (PySem.mem_of_lookup hy))
  · exact Nat.le_of_lt (x.above y c (PySem.mem_of_lookup h))
  · have hi : i < vs.length := by
      unfold start at h2
      by_cases hi : i < vs.length
      · exact hi
      · rw [List.getElem?_append_right (by simpa using hi)] at h2
        rw [List.getElem?_replicate] at h2
        split at h2 <;> cases h2
    have ha : vs[i]? = some v := by
      unfold start at h2
      rw [List.getElem?_append_left (by simpa using hi), List.getElem?_map] at h2
      cases e : vs[i]? with
      | none => rw [e] at h2; cases h2
      | some a => rw [e] at h2; cases h2; rfl
    obtain ⟨u, hu, rv⟩ := r.get ha
    have hp : ps[i]? = some y := by
      rw [← S.pre, List.getElem?_take_of_lt (by omega)]; exact h1
    have ndP : ps.Nodup := by rw [← S.pre]; exact S.nd.sublist (List.take_sublist _ _)
    refine ⟨u, rv, ?_⟩
    rcases S.par y (List.mem_of_getElem? hp) with k | k
    · exact .inl ⟨k, bindL_get ndP hp hu k⟩
    · obtain ⟨c, e⟩ := cell_has (n := s.heap.objs.size + 1) k
      refine .inr ⟨.inl k, c, e, ?_⟩
      have q := x.cell y c e
      rw [bindC_get ndP hp hu (by show scope.names.lookup y ≠ _; rw [k]; decide)] at q
      exact q
  · exact e0.hok.fresh (Nat.le_of_lt (x.above y c (PySem.mem_of_lookup h)))
  · unfold start
    show _ = N.length
    rw [List.length_append, List.length_map, List.length_replicate]
    omega

theorem fn_of {CX : CXT} {P : Program} {w : World} {K : PySem.W.Frag} {mg : Str → Option Value} {base : Heap} {k : Nat} {f : Addr} {name qual : Str} {params : Arguments} {body : List Stmt} {scope : Scope} {dV kV doc pm cdv ct oc : Value} {an od : Option Addr}
    {osl : Array (Option Value)} {N ps : List Str} {sp : Sp} (lk : K.lookup f = some ⟨oc, od, .func (PySem.W.fnOf name qual params body scope dV kV doc pm an cdv ct), osl⟩) (hcd : PySem.W.codeIn K cdv qual = true) (S : FnScope N ps scope)
    (len : ∀ vs H Q E, sp vs H Q E → vs.length = ps.length)
    (hbody : ∀ (A : Around) (outer : List Env) (s : Shared) (H : Hp) (vs : List V) (Q : VK) (E : XK), Room k (A.deeper (envOfC qual scope s.heap.objs.size f cdv)) → sp vs H Q E →
      ∃ t, PSs (cxOf CX P w K mg base N qual scope f cdv A outer s H E) body t ∧ t { nx := fun _ H' => Q .non H', rt := Q } (start N vs) H) :
    FnOk P w K mg base CX (k + 1) f (PySem.W.fnOf name qual params body scope dV kV doc pm an cdv ct) ps sp := by
  refine ⟨len, fun A outer s H args us vs Q E hr e0 hb r hsp => ?_⟩
  have hl := len _ _ _ _ hsp
  have KX : K.In s.heap := e0.mod.kin.keeps fun b o e => (e0.bs b o e).1
  have lim : s.heap.NoLimit := e0.mod.nolimit.keeps fun b o e => (e0.bs b o e).1
  have hkind : ∀ y ∈ ps.zip us, scope.names.lookup y.1 = some .local ∨ (scope.names.lookup y.1 = some .cell ∧ ((cellsFrom (s.heap.objs.size + 1) scope.names []).lookup y.1).isSome = true) := fun ⟨n, v⟩ hy => by
    rcases S.par n (List.of_mem_zip hy).1 with q | q
    · exact .inl q
    · exact .inr ⟨q, PySem.W.cellsFrom_some _ _ _ (.inl q)⟩
  refine codeAny_call_function hr.depth (KX _ _ lk) rfl S.co S.gen rfl (PySem.W.codeRec_of KX hcd) (hb _ _ _ _ ?_)
  refine wpAny_newFunctionEnv_cells S.kind hkind fun env he s1 x => ?_
  subst he
  refine ⟨lim.keeps x.toInCall.keep, codeAny_func ?_⟩
  obtain ⟨t, ht, hq⟩ := hbody A outer s H vs Q E (hr.deeper _) hsp
  have I : Inv (cxOf CX P w K mg base N qual scope f cdv A outer s H E) [] (start N vs) H s1 := inv_start S hr.hd e0 hl r x
  refine wpAny_mono (ht [] s1 (start N vs) H _ I hq) (fun fl s' hs => ?_) fun e s' hs => hs
  have fin : ∀ {σ' : St} {H' : Hp} {v : V} {u : Value}, Inv (cxOf CX P w K mg base N qual scope f cdv A outer s H E) [] σ' H' s' → RelV v u → Q v H' → CE outer P w H s Q u s' :=
    fun {σ' H' v u} J rv q => ⟨v, H', J.os, J.bare, J.base, J.hok, rv, q⟩
  cases fl with
  | ret u =>
    obtain ⟨v, σ', H', J, rv, q⟩ := hs
    exact fin J rv q
  | next =>
    obtain ⟨σ', H', J, q⟩ := hs
    exact fin (v := V.non) (u := Value.none) J rfl q
  | brk =>
    obtain ⟨_, _, _, q⟩ := hs
    exact False.elim q
  | cont =>
    obtain ⟨_, _, _, q⟩ := hs
    exact False.elim q
end L2

namespace L2
open PySem PySem.Spec PyProof.Rows
section
variable {X : Cx} {x : Str} {p pos : Pos} {e : Expr} {es : List Expr} {t : TA} {id T : String} {r : List V → Hp → VK → Prop}

def tCB (r : List V → Hp → VK → Prop) (t : TA) : TE := fun σ H Q => t σ H fun vs H1 => r vs H1 Q
theorem pe_callB (hc : CallR X (.builtin id) r) (hg : Gl X x) (hm : X.mg x = none) (hv : bootBuiltins x = some (.builtin id)) (ha : PA X (e :: es) t) (hn : x ≠ "__name__" := by decide) (hdb : (x == ("__debug__" : Str)) = false := by decide)
    (he : starEach (e :: es) X.env = (false, eval e X.env) :: starEach es X.env := by rfl) (hpl : (backTo pos (starEach es X.env)).any (·.1) = false := by rfl) : PE X (.Call (.Name x p) (e :: es) [] pos) (tCB r t) := by
  intro pins s σ H Q I h
  refine wpAny_Call_Name_kw (ld_blt I hg hm hv ?_ hn hdb)
  exact PyProof.Rows.callWith_builtin1 (thn (ha pos pins s σ H _ I h) fun us s1 ⟨vs, H1, I1, r1, q1⟩ => hc pins s1 σ H1 vs us Q I1 r1 q1) he hpl
theorem pe_callTy (hc : CallR X (.type T) r) (hg : Gl X x) (hm : X.mg x = none) (hv : bootBuiltins x = some (.type T)) (ha : PA X (e :: es) t) (hn : x ≠ "__name__" := by decide) (hdb : (x == ("__debug__" : Str)) = false := by decide)
    (he : starEach (e :: es) X.env = (false, eval e X.env) :: starEach es X.env := by rfl) (hpl : (backTo pos (starEach es X.env)).any (·.1) = false := by rfl) : PE X (.Call (.Name x p) (e :: es) [] pos) (tCB r t) := by
  intro pins s σ H Q I h
  refine wpAny_Call_Name_kw (ld_blt I hg hm hv ?_ hn hdb)
  exact PyProof.Rows.callWith_type1 (thn (ha pos pins s σ H _ I h) fun us s1 ⟨vs, H1, I1, r1, q1⟩ => hc pins s1 σ H1 vs us Q I1 r1 q1) he hpl
end
end L2

namespace HT
open PySem PyProof.Rows

section
open PySem.SeqAt
open PySem.AutoSeq1 (wpAny_loadPart')
open PySem.MeetsSeq PySem.MeetsSeq2 PySem.MeetsSeq3

end

section
variable {prog : Program} {w : World} {A : Around} {E : Value → Shared → Prop} {s : Shared}

theorem cat_tup {t b : Addr} {vs ws : List Value} {Q : Value → Shared → Prop} (ht : IsTup s.heap t vs.toArray) (hb : IsTup s.heap b ws.toArray) (hv : vs ≠ [])
    (h1 : ws = [] → Q (.ref t) s) (h2 : ws ≠ [] → Q (.ref s.heap.objs.size) { s with heap := s.heap.push { cls := .type "tuple", data := .seq (vs ++ ws).toArray } })
    (hsz : vs.length + ws.length ≤ sizeLine) : wpAny (model prog w) A (binaryOp .Add (.ref t) (.ref b)) Q E s := by
  obtain ⟨⟨cls, dd, data, sl⟩, ho, hc, n, hd⟩ := id ht
  obtain ⟨⟨cls2, dd2, data2, sl2⟩, ho2, hc2, n2, hd2⟩ := id hb
  simp only at hc hd hc2 hd2
  subst hc hd hc2 hd2
  have e : vs.toArray ++ ws.toArray = (vs ++ ws).toArray := by simp
  by_cases hw : ws = []
  · exact concat_meets ⟨_, ho, rfl⟩ ⟨_, ho2, rfl⟩ noFill_tuple_add seq_tuple_add PySem.F.slot_tuple_add PySem.F.entry_tuple_add (PySem.F.args_tuple_add_2 _ _)
      (tuple_addW1 t b vs.toArray ws.toArray n n2 dd dd2 sl sl2 (by simpa using hv) (by simp [hw])) ⟨ho, ho2, h1 hw⟩
  · refine concat_meets ⟨_, ho, rfl⟩ ⟨_, ho2, rfl⟩ noFill_tuple_add seq_tuple_add PySem.F.slot_tuple_add PySem.F.entry_tuple_add (PySem.F.args_tuple_add_2 _ _)
      (tuple_addW2 t b vs.toArray ws.toArray n n2 dd dd2 sl sl2 (by simpa using hv) (by simpa using hw) (by rw [List.size_toArray, List.size_toArray]; exact hsz)) ⟨ho, ho2, ?_⟩
    rw [e]
    exact h2 hw

def sIx (n d : Nat) : Option Int → Nat
  | none => d
  | some v => if v < 0 then (v + (n : Int)).toNat else min v.toNat n
theorem sIx_none (n d : Nat) : sIx n d none = d := rfl
theorem sIx_nat (n d k : Nat) : sIx n d (some (k : Int)) = min k n := by
  show (if (k : Int) < 0 then ((k : Int) + (n : Int)).toNat else min (k : Int).toNat n) = min k n
  rw [if_neg (by omega), Int.toNat_natCast]
theorem sIx_le (n d : Nat) (hd : d ≤ n) (o : Option Int) : sIx n d o ≤ n := by
  cases o with
  | none => exact hd
  | some v =>
    show (if v < 0 then (v + (n : Int)).toNat else min v.toNat n) ≤ n
    by_cases hv : v < 0
    · rw [if_pos hv]; omega
    · rw [if_neg hv]; exact Nat.min_le_right _ _
theorem clip_eq (v : Int) (n d : Nat) : (if v < 0 then max (v + (n : Int)) 0 else min v (n : Int)) = ((sIx n d (some v) : Nat) : Int) := by
  show (if v < 0 then max (v + (n : Int)) 0 else min v (n : Int)) = (((if v < 0 then (v + (n : Int)).toNat else min v.toNat n) : Nat) : Int)
  by_cases hv : v < 0
  · simp only [if_pos hv]; omega
  · simp only [if_neg hv]; omega
theorem adjust_gen (lo hi : Option Int) (n : Nat) : Builtin.Slice.sliceAdjust lo hi 1 (n : Int) = (((sIx n 0 lo : Nat) : Int), ((sIx n n hi : Nat) : Int)) := by
  have h1 : ¬ ((1 : Int) < 0) := by omega
  unfold Builtin.Slice.sliceAdjust
  simp only [h1, if_false]
  refine Prod.ext ?_ ?_
  · cases lo with
    | none => rfl
    | some v => exact clip_eq v n 0
  · cases hi with
    | none => rfl
    | some v => exact clip_eq v n n
theorem places_gen (i j : Nat) : Builtin.Slice.slicePlaces (i : Int) (j : Int) 1 = j - i := by
  unfold Builtin.Slice.slicePlaces
  have h1 : (1 : Int) > 0 := by omega
  simp only [h1, if_true, Int.ediv_one]
  split <;> omega
theorem slicePart_ {v : Value} {o : Option Int} {Q : Option Int → Shared → Prop} (p : IsPart v o) (h : Q o s) : wpAny (model prog w) A (Builtin.Slice.slicePartIndex v) Q E s := by
  cases p with
  | none => exact slicePart_none h
  | int i t => exact slicePart_int h
theorem sliceApplied_gen {sl : Addr} {vl vu : Value} {lo hi : Option Int} {n : Nat} {Q : Int × Int × Nat → Shared → Prop} (hs : s.heap.IsSliceOf sl vl vu .none) (pl : IsPart vl lo) (pu : IsPart vu hi)
    (h : Q (((sIx n 0 lo : Nat) : Int), 1, sIx n n hi - sIx n 0 lo) s) : wpAny (model prog w) A (Builtin.Slice.sliceApplied (.ref sl) (pure (n : Int))) Q E s := by
  obtain ⟨os, hos, hcs, hds⟩ := id hs
  unfold Builtin.Slice.sliceApplied Builtin.Slice.sliceFields
  refine wpAny_bind (wpAny_bind (wpAny_field hos hds (x := vl) rfl (wpAny_bind (wpAny_field hos hds (x := vu) rfl (wpAny_bind (wpAny_field hos hds (x := .none) rfl (wpAny_pure ?_)))))))
  refine wpAny_bind (slicePart_none ?_)
  show wpAny _ _ (if ((1 : Int) == 0) = true then _ else _) _ _ s
  rw [if_neg (by decide)]
  refine wpAny_bind (slicePart_ pl (wpAny_bind (slicePart_ pu (wpAny_bind (wpAny_pure ?_)))))
  show wpAny _ _ (match Builtin.Slice.sliceAdjust lo hi 1 (n : Int) with | (lo, hi) => pure (lo, (1 : Int), Builtin.Slice.slicePlaces lo hi 1)) _ _ s
  rw [adjust_gen lo hi n]
  show wpAny _ _ (pure (((sIx n 0 lo : Nat) : Int), (1 : Int), Builtin.Slice.slicePlaces ((sIx n 0 lo : Nat) : Int) ((sIx n n hi : Nat) : Int) 1)) _ _ s
  rw [places_gen]
  exact wpAny_pure h
theorem pick_gen (xs : Array Value) (i k : Nat) : ((List.range k).filterMap fun (m : Nat) => xs[((i : Int) + (m : Int) * 1).toNat]?).toArray = ((xs.toList.drop i).take k).toArray := by
  have e : (fun (m : Nat) => xs[((i : Int) + (m : Int) * 1).toNat]?) = fun m => xs[i + m]? := by
    funext m
    have : ((i : Int) + (m : Int) * 1).toNat = i + m := by omega
    rw [this]
  rw [e]
  have := pick_run xs i k
  rw [List.filterMap_map] at this
  have e2 : ((fun x => xs[x]?) ∘ fun x => i + x) = fun m => xs[i + m]? := rfl
  rw [e2] at this
  rw [this]

theorem getItem_tuple_cut {t sl : Addr} {items : Array Value} {vl vu : Value} {lo hi : Option Int} {Q : Value → Shared → Prop} (ht : IsTup s.heap t items) (hs : s.heap.IsSliceOf sl vl vu .none) (pl : IsPart vl lo) (pu : IsPart vu hi)
    (hw : ¬ (sIx items.size 0 lo = 0 ∧ sIx items.size items.size hi = items.size))
    (h : Q (.ref s.heap.objs.size) { s with heap := s.heap.push { cls := .type "tuple", data := .seq ((items.toList.drop (sIx items.size 0 lo)).take (sIx items.size items.size hi - sIx items.size 0 lo)).toArray } })
    (hsz : items.size ≤ sizeLine) : wpAny (model prog w) A (getItem (.ref t) (.ref sl)) Q E s := by
  have htake : sizeOk (.seq ((items.toList.drop (sIx items.size 0 lo)).take (sIx items.size items.size hi - sIx items.size 0 lo)).toArray) := by
    show ((items.toList.drop (sIx items.size 0 lo)).take (sIx items.size items.size hi - sIx items.size 0 lo)).toArray.size ≤ sizeLine
    rw [List.size_toArray, List.length_take, List.length_drop, Array.length_toList]
    omega
  have hj : sIx items.size items.size hi ≤ items.size := sIx_le _ _ (Nat.le_refl _) hi
  obtain ⟨os, hos, hcs, hds⟩ := id hs
  have hTs : s.TypeIs (.ref sl) "slice" := ⟨os, hos, hcs⟩
  unfold getItem
  try with_reducible refine wpAny_holding ?_
  first | refine wpAny_bind (wpAny_pure ?_) | skip
  refine wpAny_bind (wpAny_sequenceKey ht.typeIs (by decide) ?_)
  refine wpAny_bind (wpAny_callSpecial?_slot (name := Str.ofString "__getitem__") ht.typeIs PyProof.Rows.slot_tuple_getitem
    (wpAny_call_entry PyProof.Rows.slot_tuple_getitem ht.typeIs entry_tuple_getitem ?_ (args_tuple_getitem _ _)))
  show wpAny _ _ (Builtin.Tuple.tupleItemsOf (.ref t) >>= _) _ _ s
  refine wpAny_bind (tupleItemsOf_ ht ?_)
  refine wpAny_bind (wpAny_typeOf hTs ?_)
  rw [if_pos (by decide)]
  refine wpAny_bind (sliceApplied_gen hs pl pu ?_)
  have hno : ¬ ((((sIx items.size 0 lo : Nat) : Int) == 0 && (1 : Int) == 1 && (sIx items.size items.size hi - sIx items.size 0 lo) == items.size) = true) := by
    intro q
    rw [Bool.and_eq_true, Bool.and_eq_true] at q
    have q1 : ((sIx items.size 0 lo : Nat) : Int) = 0 := eq_of_beq q.1.1
    have q2 : sIx items.size items.size hi - sIx items.size 0 lo = items.size := eq_of_beq q.2
    exact hw ⟨by omega, by omega⟩
  show wpAny _ _ (if (((sIx items.size 0 lo : Nat) : Int) == 0 && (1 : Int) == 1 && (sIx items.size items.size hi - sIx items.size 0 lo) == items.size) = true then _ else _) _ _ s
  rw [if_neg hno, pick_gen]
  first
    | exact wpAny_bind (m := Builtin.Tuple.tupleExact _) (wpAny_newObj_type (wpAny_pure ⟨_, rfl, wpAny_pure h⟩) htake)
    | exact wpAny_bind (m := Builtin.Tuple.tupleExact _) (wpAny_newObj_type (wpAny_bind (wpAny_pure (wpAny_pure ⟨_, rfl, wpAny_pure h⟩))) htake)
    | exact wpAny_bind (wpAny_bind (m := Builtin.Tuple.tupleExact _) (wpAny_newObj_type (wpAny_pure (wpAny_pure ⟨_, rfl, wpAny_pure h⟩)) htake))
    | exact wpAny_bind (wpAny_bind (m := Builtin.Tuple.tupleExact _) (wpAny_newObj_type (wpAny_pure ⟨_, rfl, wpAny_pure h⟩) htake))
end
end HT

namespace L2
open PySem PySem.Spec PyProof.Rows

abbrev TO := St → Hp → (Option Int → Hp → Prop) → Prop
def PO (X : Cx) (e : Option Expr) (t : TO) : Prop :=
  ∀ (pins : List (Addr × Obj)) (s : Shared) (σ : St) (H : Hp) (Q : Option Int → Hp → Prop), Inv X pins σ H s → t σ H Q →
    wpAny (model X.prog X.w) X.A (evalPart e X.env) (fun u s' => ∃ o H', Inv X pins σ H' s' ∧ IsPart u o ∧ Q o H') X.xe s
def tNoPart : TO := fun _ H Q => Q none H
def tPart (t : TE) : TO := fun σ H Q => t σ H fun x H1 => ∃ i, x = .int i ∧ Q (some i) H1

section
variable {X : Cx} {e : Expr} {te : TE} {lo hi : Option Expr} {tl th : TO} {pos p2 : Pos}

theorem po_none : PO X none tNoPart := by
  intro pins s σ H Q I h
  rw [evalPart_none]
  exact wpAny_pure ⟨none, H, I, .none, h⟩
theorem po_some (h : PE X e te) : PO X (some e) (tPart te) := by
  intro pins s σ H Q I hw
  rw [evalPart_some]
  refine thn (h pins s σ H _ I hw) fun u s1 ⟨x, H1, I1, r1, q1⟩ => ?_
  obtain ⟨i, rfl, q⟩ := q1
  obtain ⟨t, rfl⟩ := r1
  exact ⟨some i, H1, I1, .int i t, q⟩

def SlR (X : Cx) (r : V → Option Int → Option Int → Hp → VK → Prop) : Prop :=
  ∀ (pins : List (Addr × Obj)) (s : Shared) (σ : St) (H : Hp) (x : V) (v vl vu : Value) (lo hi : Option Int) (sl : Addr) (Q : VK), Inv X pins σ H s → RelV x v → s.heap.IsSliceOf sl vl vu .none → IsPart vl lo → IsPart vu hi → r x lo hi H Q →
    ∃ T id, typeLookup (.type T) "__getitem__" = pure (some (.builtin id)) ∧ s.TypeIs v T ∧ wpAny (model X.prog X.w) X.A (getItem v (.ref sl)) (EP X pins σ Q) X.xe s
def tSl (r : V → Option Int → Option Int → Hp → VK → Prop) (te : TE) (tl th : TO) : TE := fun σ H Q => te σ H fun x H1 => tl σ H1 fun l H2 => th σ H2 fun u H3 => r x l u H3 Q
theorem pe_slice {r : V → Option Int → Option Int → Hp → VK → Prop} (hr : SlR X r) (he : PE X e te) (hl : PO X lo tl) (hu : PO X hi th) : PE X (.Subscript e (.Slice lo hi none p2) pos) (tSl r te tl th) := by
  intro pins s σ H Q I h
  refine Subscript_ (thn (he pins s σ H _ I h) fun v s1 ⟨x, H1, I1, r1, q1⟩ => ?_)
  refine wpAny_Slice (thn (hl pins s1 σ H1 _ I1 q1) fun vl s2 ⟨l, H2, I2, pl, q2⟩ => thn (hu pins s2 σ H2 _ I2 q2) fun vu s3 ⟨u, H3, I3, pu, q3⟩ => ?_)
  rw [evalPart_none]
  refine wpAny_pure ?_
  have I4 : Inv X pins σ H3 { s3 with heap := s3.heap.push { cls := .type "slice", data := .fields #[vl, vu, .none] } } := I3.kept (t' := s3.toks) fun b ob q => Heap.get?_push_of_some _ q
  obtain ⟨T, id, hT, ht, hg⟩ := hr pins { s3 with heap := s3.heap.push { cls := .type "slice", data := .fields #[vl, vu, .none] } } σ H3 x v vl vu l u s3.heap.objs.size Q I4 r1 (Heap.IsSliceOf.new ..) pl pu q3
  show wpAny (model X.prog X.w) X.A (subscriptTail e (.Slice lo hi none p2) v (.ref s3.heap.objs.size)) (EP X pins σ Q) X.xe { s3 with heap := s3.heap.push { cls := .type "slice", data := .fields #[vl, vu, .none] } }
  exact tail_any (ops := [.ref s3.heap.objs.size, v]) ht hT hg (by with_unfolding_all rfl)

def cutV (xs : List V) (lo hi : Option Int) : List V := (xs.drop (HT.sIx xs.length 0 lo)).take (HT.sIx xs.length xs.length hi - HT.sIx xs.length 0 lo)
theorem cutV_length (xs : List V) (lo hi : Option Int) : (cutV xs lo hi).length ≤ xs.length := by
  unfold cutV
  rw [List.length_take, List.length_drop]
  omega
def rSlT (K : PySem.W.Frag) : V → Option Int → Option Int → Hp → VK → Prop := fun x lo hi H Q => ∃ a xs, x = .ref a ∧ SqT K H a xs ∧
  ¬ (HT.sIx xs.length 0 lo = 0 ∧ HT.sIx xs.length xs.length hi = xs.length) ∧ ∀ p, H p = none → Q (.ref p) (upd H p (.tup (cutV xs lo hi)))
theorem sl_tup : SlR X (rSlT X.K) := by
  intro pins s σ H x v vl vu lo hi sl Q I rx hs pl pu h
  obtain ⟨a, xs, rfl, hx, hw, q⟩ := h
  cases rx
  obtain ⟨its, r, ht, hz⟩ := I.tuple hx
  have hlen : its.toArray.size = xs.length := by rw [List.size_toArray]; exact r.length.symm
  refine ⟨"tuple", _, PyProof.Rows.slot_tuple_getitem.lookup, ht.typeIs, ?_⟩
  refine HT.getItem_tuple_cut ht hs pl pu (by rw [hlen]; exact hw) ?_ (by rw [hlen]; exact hz)
  rw [hlen]
  refine ⟨.ref s.heap.objs.size, _, I.laid (t' := s.toks) (o := .tup (cutV xs lo hi)) (fun b ob q => Heap.get?_push_of_some _ q) (Nat.le_refl _) ?_, rfl, q _ (I.hok.fresh (Nat.le_refl _))⟩
  exact ⟨Nat.le_trans (cutV_length xs lo hi) hz, _, (r.drop (HT.sIx xs.length 0 lo)).take (HT.sIx xs.length xs.length hi - HT.sIx xs.length 0 lo), IsTup.new _ _⟩

def rCatT (K : PySem.W.Frag) : R2 := fun x y H Q => ∃ a b xs ys, x = .ref a ∧ y = .ref b ∧ SqT K H a xs ∧ SqT K H b ys ∧ xs ≠ [] ∧ xs.length + ys.length ≤ sizeLine ∧
  (ys = [] → Q (.ref a) H) ∧ (ys ≠ [] → ∀ p, H p = none → Q (.ref p) (upd H p (.tup (xs ++ ys))))
theorem Vals.nil_iff {xs : List V} {us : List Value} (r : Vals xs us) : us = [] ↔ xs = [] := by
  cases r with
  | nil => simp
  | cons _ _ => simp
theorem op_catT : OpR X (binaryOp .Add) (rCatT X.K) := by
  intro pins s σ H x y v u Q I rx ry h
  obtain ⟨a, b, xs, ys, rfl, rfl, ha, hb, hx, hz, q1, q2⟩ := h
  cases rx
  cases ry
  obtain ⟨its, r1, p1, _⟩ := I.tuple ha
  obtain ⟨its2, r2, p2, _⟩ := I.tuple hb
  refine HT.cat_tup p1 p2 (fun z => hx (r1.nil_iff.mp z)) (fun z => ⟨.ref a, H, I, rfl, q1 (r2.nil_iff.mp z)⟩) (fun z => ?_) (by rw [← r1.length, ← r2.length]; exact hz)
  refine ⟨.ref s.heap.objs.size, _, I.laid (t' := s.toks) (o := .tup (xs ++ ys)) (fun b ob q => Heap.get?_push_of_some _ q) (Nat.le_refl _) ?_, rfl, q2 (fun w => z (r2.nil_iff.mpr w)) _ (I.hok.fresh (Nat.le_refl _))⟩
  exact ⟨by rw [List.length_append]; exact hz, _, r1.append r2, IsTup.new _ _⟩
end
end L2

namespace L2
open PySem PySem.Spec PyProof.Rows

def ixN (n : Nat) (i : Int) : Option Nat := if 0 ≤ i then (if i < n then some i.toNat else none) else if -(n : Int) ≤ i then some (i + n).toNat else none
def atI {α : Type} (xs : List α) (i : Int) : Option α := (ixN xs.length i).bind fun j => xs[j]?
theorem ixN_seq {n : Nat} {i : Int} {j : Nat} (h : ixN n i = some j) : seqIndex? i n = some j ∧ j < n ∧ -(n : Int) ≤ i ∧ i < n := by
  unfold ixN at h
  by_cases h0 : 0 ≤ i
  · rw [if_pos h0] at h
    by_cases h1 : i < n
    · rw [if_pos h1] at h
      have e : i.toNat = j := Option.some.inj h
      exact ⟨by rw [seqIndex_of h0 h1, e], by omega, by omega, h1⟩
    · rw [if_neg h1] at h; cases h
  · rw [if_neg h0] at h
    by_cases h1 : -(n : Int) ≤ i
    · rw [if_pos h1] at h
      have e : (i + n).toNat = j := Option.some.inj h
      exact ⟨by rw [seqIndex_neg (by omega) h1, e], by omega, h1, by omega⟩
    · rw [if_neg h1] at h; cases h
theorem atI_get {α : Type} {xs : List α} {i : Int} {v : α} (h : atI xs i = some v) : ∃ j, seqIndex? i xs.length = some j ∧ xs[j]? = some v ∧ j < xs.length ∧ -(xs.length : Int) ≤ i ∧ i < xs.length := by
  unfold atI at h
  cases e : ixN xs.length i with
  | none => rw [e] at h; cases h
  | some j =>
    rw [e] at h
    obtain ⟨h1, h2, h3, h4⟩ := ixN_seq e
    exact ⟨j, h1, h, h2, h3, h4⟩
theorem atI_nat {α : Type} {xs : List α} {j : Nat} {v : α} (h : xs[j]? = some v) : atI xs (j : Int) = some v := by
  have hj : j < xs.length := (List.getElem?_eq_some_iff.mp h).1
  have e : ixN xs.length (j : Int) = some j := by
    unfold ixN
    rw [if_pos (by omega), if_pos (by omega)]; simp
  unfold atI; rw [e]; exact h
def PlainIx (b : Expr) : Prop := ∀ o i, subscripted b false o i = operate [o, i] (getItem o i)
def IxR (X : Cx) (r : R2) : Prop :=
  ∀ (value slice : Expr) (pins : List (Addr × Obj)) (s : Shared) (σ : St) (H : Hp) (x y : V) (v u : Value) (Q : VK), Inv X pins σ H s → RelV x v → RelV y u → r x y H Q →
    subscripted slice false v u = operate [v, u] (getItem v u) → wpAny (model X.prog X.w) X.A (subscriptTail value slice v u) (EP X pins σ Q) X.xe s
def MtR (X : Cx) (id : String) (r : V → List V → Hp → VK → Prop) : Prop :=
  ∀ (pins : List (Addr × Obj)) (s : Shared) (σ : St) (H : Hp) (x : V) (xs : List V) (v : Value) (us : List Value) (Q : VK), Inv X pins σ H s → RelV x v → Vals xs us → r x xs H Q →
    wpAny (model X.prog X.w) X.A (call (.builtin id) (v :: us)) (EP X pins σ Q) X.xe s
section
variable {X : Cx} {a b : Expr} {ta tb : TE} {pos : Pos}
theorem pe_ix {r : R2} (hr : IxR X r) (ha : PE X a ta) (hb : PE X b tb) (hs : PlainIx b) : PE X (.Subscript a b pos) (tOp r ta tb) := by
  intro pins s σ H Q I h
  exact Subscript_ (binT ha hb I h fun v u s2 x y H2 I2 rx ry q => hr a b pins s2 σ H2 x y v u Q I2 rx ry q (hs _ _))

def rIxL (K : PySem.W.Frag) : R2 := fun x y H Q => ∃ p xs i v, x = .ref p ∧ y = .int i ∧ SqL K H p xs ∧ atI xs i = some v ∧ Q v H
def rIxT (K : PySem.W.Frag) : R2 := fun x y H Q => ∃ p xs i v, x = .ref p ∧ y = .int i ∧ SqT K H p xs ∧ atI xs i = some v ∧ Q v H
def rIxS : R2 := fun x y H Q => ∃ z i c, x = .str z ∧ y = .int i ∧ z.length ≤ sizeLine ∧ atI z.cps.toList i = some c ∧ Q (.str ⟨#[c]⟩) H
theorem ix_list : IxR X (rIxL X.K) := by
  intro value slice pins s σ H x y v u Q I rx ry h hs
  obtain ⟨p, xs, i, z, rfl, rfl, hq, he, q⟩ := h
  cases rx
  obtain ⟨t, rfl⟩ := ry
  obtain ⟨its, r, pl, hz⟩ := I.list hq
  obtain ⟨j, h1, h2, h3, h4, h5⟩ := atI_get he
  obtain ⟨w, ew, rw'⟩ := r.get h2
  have hl := r.length
  have hn := line63
  have fin : EP X pins σ Q w s := ⟨z, H, I, rw', q⟩
  by_cases h0 : 0 ≤ i
  · have hj : i.toNat = j := by
      rw [seqIndex_of h0 h5] at h1
      exact Option.some.inj h1
    exact item_listR pl.isList h0 (by omega) (by rw [hj]; simpa using ew) fin hs
  · have hj : (i + (its.toArray.size : Int)).toNat = j := by
      rw [seqIndex_neg (by omega) h4] at h1
      rw [List.size_toArray, ← hl]
      exact Option.some.inj h1
    exact subscriptTail_builtinR (x := w) pl.isList.typeIs slot_list_getitem.lookup
      (wpAny_getItem_list_neg (Q := fun r s' => r = w ∧ EP X pins σ Q r s') pl.isList (by omega) (by rw [List.size_toArray] <;> omega) (by omega) (by rw [hj]; simpa using ew) ⟨rfl, fin⟩) hs
theorem ix_tup : IxR X (rIxT X.K) := by
  intro value slice pins s σ H x y v u Q I rx ry h hs
  obtain ⟨p, xs, i, z, rfl, rfl, hq, he, q⟩ := h
  cases rx
  obtain ⟨t, rfl⟩ := ry
  obtain ⟨its, r, pl, hz⟩ := I.tuple hq
  obtain ⟨j, h1, h2, h3, h4, h5⟩ := atI_get he
  obtain ⟨w, ew, rw'⟩ := r.get h2
  have hl := r.length
  have hn := line63
  have fin : EP X pins σ Q w s := ⟨z, H, I, rw', q⟩
  exact subscriptTail_builtinR (x := w) pl.typeIs slot_tuple_getitem.lookup
    (getItem_tuple (j := j) (Q := fun r s' => r = w ∧ EP X pins σ Q r s') pl (by omega) (by omega) (by rw [List.size_toArray, ← hl]; exact h1) (by simpa using ew) ⟨rfl, fin⟩) hs
theorem ix_str : IxR X rIxS := by
  intro value slice pins s σ H x y v u Q I rx ry h hs
  obtain ⟨z, i, c, rfl, rfl, hz, he, q⟩ := h
  obtain ⟨t, rfl⟩ := rx
  obtain ⟨t', rfl⟩ := ry
  obtain ⟨j, h1, h2, h3, h4, h5⟩ := atI_get he
  have hl : z.cps.toList.length = z.length := by simp [Str.length]
  rw [hl] at h1 h4 h5
  have hn := line63
  exact tail_any (typeIs_str s z t) slot_str_getitem.lookup (getItem_str (c := c) (by
    have e1 : decide (i < -(2 ^ 63 : Int)) = false := decide_eq_false (by omega)
    have e2 : decide (i ≥ 2 ^ 63) = false := decide_eq_false (by omega)
    rw [e1, e2, Bool.or_false]) (by rw [h1]; simpa using h2) ⟨.str ⟨#[c]⟩, H, I.tok _, ⟨_, rfl⟩, q⟩) hs
theorem mapSeq_set (its : List Value) (n j : Nat) (u : Value) : Obj.mapSeq (·.setIfInBounds j u) { cls := .type "list", data := .seq its.toArray n } = { cls := .type "list", data := .seq (its.set j u).toArray n } := by
  simp [Obj.mapSeq]
theorem Inv.lst {pins : List (Addr × Obj)} {σ : St} {H : Hp} {s : Shared} {p : Addr} {xs : List V} (I : Inv X pins σ H s) (h : H p = some (.lst xs)) :
    ∃ (its : List Value) (n : Nat), Vals xs its ∧ s.heap.get? p = some { cls := .type "list", data := .seq its.toArray n } ∧ xs.length ≤ sizeLine := by
  obtain ⟨z, its, n, r, e⟩ := I.hok p _ h
  exact ⟨its, n, r, e, z⟩
theorem Inv.lstUpd {pins : List (Addr × Obj)} {σ : St} {H : Hp} {s : Shared} {p : Addr} {xs ys : List V} {its its' : List Value} {n n' : Nat} {f : Obj → Obj} (I : Inv X pins σ H s) (h : H p = some (.lst xs))
    (ho : s.heap.get? p = some { cls := .type "list", data := .seq its.toArray n }) (hf : f { cls := .type "list", data := .seq its.toArray n } = { cls := .type "list", data := .seq its'.toArray n' }) (r : Vals ys its') (hz : ys.length ≤ sizeLine) (t : Nat) :
    Inv X pins σ (upd H p (.lst ys)) { s with heap := s.heap.update p f, toks := t } := by
  have e : (s.heap.update p f).get? p = some { cls := .type "list", data := .seq its'.toArray n' } := by
    rw [Heap.get?_update_self f ho (by rw [hf] <;> rfl), hf]
  refine I.write (x := p) (e := p) (by rw [h]; trivial) (.inl rfl) (fun b u hb q => (Heap.get?_update_other _ _ (Ne.symm hb)).trans q) ⟨_, e⟩ ?_
  exact ⟨hz, its', n', r, e⟩
def rSetL : V → V → V → Hp → (Hp → Prop) → Prop := fun o i v H Q => ∃ p xs k j, o = .ref p ∧ i = .int k ∧ H p = some (.lst xs) ∧ ixN xs.length k = some j ∧ Q (upd H p (.lst (xs.set j v)))
theorem set_list : PSet X rSetL := by
  intro pins s σ H o i v ov iv u Q I ro ri rv h
  obtain ⟨p, xs, k, j, rfl, rfl, hp, hj, q⟩ := h
  cases ro
  obtain ⟨t, rfl⟩ := ri
  obtain ⟨its, n, r, ho, hz⟩ := I.lst hp
  obtain ⟨h1, h2, h3, h4⟩ := ixN_seq hj
  have hl := r.length
  have hn := line63
  have I' : Inv X pins σ (upd H p (.lst (xs.set j v))) { s with heap := s.heap.update p (Obj.mapSeq (·.setIfInBounds j u)) } :=
    I.lstUpd hp ho (mapSeq_set its n j u) (r.set rv j) (by rw [List.length_set]; exact hz) s.toks
  by_cases h0 : 0 ≤ k
  · have hk : k.toNat = j := by
      rw [seqIndex_of h0 h4] at h1
      exact Option.some.inj h1
    exact PySem.W.ki_setAt ho h0 (by omega) (by rw [List.size_toArray, ← hl]; exact h4) (by rw [hk]; exact ⟨_, I', q⟩)
  · have hk : (k + (its.toArray.size : Int)).toNat = j := by
      rw [seqIndex_neg (by omega) h3] at h1
      rw [List.size_toArray, ← hl]
      exact Option.some.inj h1
    exact PySem.W.ki_setBack ho (by omega) (by rw [List.size_toArray, ← hl]; exact h3) (by omega) (by rw [hk]; exact ⟨_, I', q⟩)

theorem slice_bounds (lo hi : Option Int) (n : Nat) : (sliceBounds lo hi none n).1 = ((HT.sIx n 0 lo : Nat) : Int) ∧ (sliceBounds lo hi none n).2.1 = ((HT.sIx n n hi : Nat) : Int) ∧ (sliceBounds lo hi none n).2.2 = 1 := by
  refine ⟨?_, ?_, rfl⟩
  · cases lo with
    | none => simp [sliceBounds, HT.sIx]
    | some i =>
      simp only [sliceBounds, HT.sIx, Option.getD_none, show (1 : Int) > 0 by decide, if_true]
      by_cases h : i < 0
      · simp only [h, if_true] <;> omega
      · simp only [h, if_false] <;> omega
  · cases hi with
    | none => simp [sliceBounds, HT.sIx]
    | some i =>
      simp only [sliceBounds, HT.sIx, Option.getD_none, show (1 : Int) > 0 by decide, if_true]
      by_cases h : i < 0
      · simp only [h, if_true] <;> omega
      · simp only [h, if_false] <;> omega
theorem slicePick_cut (its : List Value) (lo hi : Option Int) : slicePick its.toArray lo hi none = ((its.drop (HT.sIx its.length 0 lo)).take (HT.sIx its.length its.length hi - HT.sIx its.length 0 lo)).toArray := by
  obtain ⟨h1, h2, h3⟩ := slice_bounds lo hi its.toArray.size
  unfold slicePick
  rw [h1, h2, h3]
  simp only [sliceRange_one, pick_run, List.size_toArray] <;> rfl
def rSlL (K : PySem.W.Frag) : V → Option Int → Option Int → Hp → VK → Prop := fun x lo hi H Q => ∃ a xs, x = .ref a ∧ SqL K H a xs ∧ ∀ p, H p = none → Q (.ref p) (upd H p (.lst (cutV xs lo hi)))
theorem sl_list : SlR X (rSlL X.K) := by
  intro pins s σ H x v vl vu lo hi sl Q I rx hs pl pu h
  obtain ⟨a, xs, rfl, hx, q⟩ := h
  cases rx
  obtain ⟨its, r, ht, hz⟩ := I.list hx
  have hlen := r.length
  refine ⟨"list", _, slot_list_getitem.lookup, ht.isList.typeIs, ?_⟩
  refine wpAny_getItem_list_slice ht.isList hs pl pu .none (by simp) ?_ (by rw [List.size_toArray] <;> omega)
  rw [slicePick_cut, ← hlen]
  refine ⟨.ref s.heap.objs.size, _, I.laid (t' := s.toks) (o := .lst (cutV xs lo hi)) (fun b ob q => Heap.get?_push_of_some _ q) (Nat.le_refl _) ?_, rfl, q _ (I.hok.fresh (Nat.le_refl _))⟩
  exact ⟨Nat.le_trans (cutV_length xs lo hi) hz, _, 0, (r.drop (HT.sIx xs.length 0 lo)).take (HT.sIx xs.length xs.length hi - HT.sIx xs.length 0 lo), Heap.get?_push_size _ rfl⟩

def flatV : V → Bool
  | .non => true
  | .bl _ => true
  | .int _ => true
  | .str _ => true
  | _ => false
def eqV : V → V → Bool
  | .non, .non => true
  | .bl a, .bl b => a == b
  | .bl a, .int b => (if a then 1 else 0) == b
  | .int a, .bl b => a == (if b then 1 else 0)
  | .int a, .int b => a == b
  | .str a, .str b => a == b
  | _, _ => false
theorem eqAt_V {A : Around} {s : Shared} {y x : V} {u v : Value} (ry : RelV y u) (rx : RelV x v) (fy : flatV y = true) (fx : flatV x = true) : SeqAt.EqAt A s u v (eqV y x) := by
  cases y with
  | non =>
    cases ry
    cases x with
    | non => cases rx; exact SeqAt.EqAt.same _
    | bl b => cases rx; exact SeqAt.EqAt.none_bool b
    | int b => obtain ⟨t, rfl⟩ := rx; exact SeqAt.EqAt.none_int b t
    | str b => obtain ⟨t, rfl⟩ := rx; exact SeqAt.EqAt.none_str b t
    | _ => exact absurd (show false = true from fx) Bool.false_ne_true
  | bl a =>
    cases ry
    cases x with
    | non => cases rx; exact SeqAt.EqAt.bool_none a
    | bl b => cases rx; exact SeqAt.EqAt.bool_bool a b
    | int b => obtain ⟨t, rfl⟩ := rx; exact SeqAt.EqAt.bool_int a b t
    | str b => obtain ⟨t, rfl⟩ := rx; exact SeqAt.EqAt.bool_str a b t
    | _ => exact absurd (show false = true from fx) Bool.false_ne_true
  | int a =>
    obtain ⟨t', rfl⟩ := ry
    cases x with
    | non => cases rx; exact SeqAt.EqAt.int_none a t'
    | bl b => cases rx; exact SeqAt.EqAt.int_bool a t' b
    | int b => obtain ⟨t, rfl⟩ := rx; exact SeqAt.EqAt.int_int a t' b t
    | str b => obtain ⟨t, rfl⟩ := rx; exact SeqAt.EqAt.int_str a t' b t
    | _ => exact absurd (show false = true from fx) Bool.false_ne_true
  | str a =>
    obtain ⟨t', rfl⟩ := ry
    cases x with
    | non => cases rx; exact SeqAt.EqAt.str_none a t'
    | bl b => cases rx; exact SeqAt.EqAt.str_bool a t' b
    | int b => obtain ⟨t, rfl⟩ := rx; exact SeqAt.EqAt.str_int a t' b t
    | str b => obtain ⟨t, rfl⟩ := rx; exact SeqAt.EqAt.str_str a t' b t
    | _ => exact absurd (show false = true from fx) Bool.false_ne_true
  | _ => exact absurd (show false = true from fy) Bool.false_ne_true
def eqU (x : V) (u : Value) : Bool := match u with
  | .none => eqV .non x
  | .bool b => eqV (.bl b) x
  | .int i _ => eqV (.int i) x
  | .str z _ => eqV (.str z) x
  | _ => false
theorem eqU_of {x y : V} {u : Value} (r : RelV y u) (f : flatV y = true) : eqU x u = eqV y x := by
  cases y with
  | non => cases r; rfl
  | bl b => cases r; rfl
  | int i => obtain ⟨t, rfl⟩ := r; rfl
  | str z => obtain ⟨t, rfl⟩ := r; rfl
  | _ => exact absurd (show false = true from f) Bool.false_ne_true
theorem any_eqU {x : V} : ∀ {xs : List V} {us : List Value}, Vals xs us → xs.all flatV = true → us.any (eqU x) = xs.any fun y => eqV y x
  | _, _, .nil, _ => rfl
  | y :: xs, u :: us, .cons r t, f => by
    rw [List.all_cons, Bool.and_eq_true] at f
    rw [List.any_cons, List.any_cons, eqU_of r f.1, any_eqU t f.2]
theorem mem_eqAt {A : Around} {s : Shared} {x : V} {v : Value} (rx : RelV x v) (fx : flatV x = true) : ∀ {xs : List V} {us : List Value}, Vals xs us → xs.all flatV = true → ∀ u ∈ us, SeqAt.EqAt A s u v (eqU x u)
  | _, _, .nil, _ => fun u hu => by cases hu
  | y :: xs, u :: us, .cons r t, f => fun u' hu => by
    rw [List.all_cons, Bool.and_eq_true] at f
    rcases List.mem_cons.mp hu with rfl | hu
    · rw [eqU_of r f.1]; exact eqAt_V r rx f.1 fx
    · exact mem_eqAt rx fx t f.2 u' hu
def inV (x : V) (xs : List V) : Bool := xs.any fun y => eqV y x
def rIn (K : PySem.W.Frag) (neg : Bool) : R2 := fun x y H Q => ∃ p xs, y = .ref p ∧ (SqL K H p xs ∨ SqT K H p xs) ∧ flatV x = true ∧ xs.all flatV = true ∧ Q (.bl (if neg then !inV x xs else inV x xs)) H
theorem op_in_seq : OpR X (compareOp .In) (rIn X.K false) := by
  intro pins s σ H x y v u Q I rx ry h
  obtain ⟨p, xs, rfl, hq, fx, fs, q⟩ := h
  cases ry
  rcases hq with hq | hq
  · obtain ⟨its, r, pl, hz⟩ := I.list hq
    refine SeqAt.in_listAt (eqU x) pl.isList (fun w hw => mem_eqAt rx fx r fs w (by simpa using hw)) ⟨.bl _, H, I, rfl, ?_⟩
    rw [show its.toArray.any (eqU x) = its.any (eqU x) by simp, any_eqU r fs]
    exact q
  · obtain ⟨its, r, pl, hz⟩ := I.tuple hq
    refine SeqAt.in_tupleAt (eqU x) pl (fun w hw => mem_eqAt rx fx r fs w (by simpa using hw)) ⟨.bl _, H, I, rfl, ?_⟩
    rw [show its.toArray.any (eqU x) = its.any (eqU x) by simp, any_eqU r fs]
    exact q
theorem op_notIn_seq : OpR X (compareOp .NotIn) (rIn X.K true) := by
  intro pins s σ H x y v u Q I rx ry h
  obtain ⟨p, xs, rfl, hq, fx, fs, q⟩ := h
  cases ry
  rcases hq with hq | hq
  · obtain ⟨its, r, pl, hz⟩ := I.list hq
    refine SeqAt.notIn_listAt (eqU x) pl.isList (fun w hw => mem_eqAt rx fx r fs w (by simpa using hw)) ⟨.bl _, H, I, rfl, ?_⟩
    rw [show its.toArray.any (eqU x) = its.any (eqU x) by simp, any_eqU r fs]
    exact q
  · obtain ⟨its, r, pl, hz⟩ := I.tuple hq
    refine SeqAt.notIn_tupleAt (eqU x) pl (fun w hw => mem_eqAt rx fx r fs w (by simpa using hw)) ⟨.bl _, H, I, rfl, ?_⟩
    rw [show its.toArray.any (eqU x) = its.any (eqU x) by simp, any_eqU r fs]
    exact q
theorem call_len_seq : CallR X (.builtin "len") (fun xs H Q => ∃ p ys, xs = [.ref p] ∧ (SqL X.K H p ys ∨ SqT X.K H p ys) ∧ Q (.int ys.length) H) := by
  intro pins s σ H xs us Q I r h
  obtain ⟨p, ys, rfl, hq, q⟩ := h
  obtain ⟨u, rfl, rx⟩ := vals1 r
  cases rx
  have hn := line63
  rcases hq with hq | hq
  · obtain ⟨its, r', pl, hz⟩ := I.list hq
    have hlen := r'.length
    exact Calls.call_len_list pl.isList (by simp only [List.size_toArray] <;> omega) ⟨.int ys.length, H, I.tok _, ⟨s.toks + 1, by rw [List.size_toArray, hlen]⟩, q⟩
  · obtain ⟨its, r', pl, hz⟩ := I.tuple hq
    have hlen := r'.length
    exact len_tuple pl (by simp only [List.size_toArray] <;> omega) ⟨.int ys.length, H, I.tok _, ⟨s.toks + 1, by rw [List.size_toArray, hlen]⟩, q⟩
theorem call_len_str : CallR X (.builtin "len") (fun xs H Q => ∃ z, xs = [.str z] ∧ z.length ≤ sizeLine ∧ Q (.int z.length) H) := by
  intro pins s σ H xs us Q I r h
  obtain ⟨z, rfl, hz, q⟩ := h
  obtain ⟨u, rfl, t, rfl⟩ := vals1 r
  have hn := line63
  exact len_str (by omega) ⟨.int z.length, H, I.tok _, ⟨_, rfl⟩, q⟩
theorem call_list_of : CallR X (.type "list") (fun xs H Q => ∃ p ys, xs = [.ref p] ∧ (SqL X.K H p ys ∨ SqT X.K H p ys) ∧ ∀ l, H l = none → Q (.ref l) (upd H l (.lst ys))) := by
  intro pins s σ H xs us Q I r h
  obtain ⟨p, ys, rfl, hq, q⟩ := h
  obtain ⟨u, rfl, rx⟩ := vals1 r
  cases rx
  have fin : ∀ (its : List Value), Vals ys its → ys.length ≤ sizeLine → ∀ (h' : Heap) (c' : Nat), (∀ b o', s.heap.get? b = some o' → h'.get? b = some o') →
      h'.get? s.heap.objs.size = some { cls := .type "list", dict := none, data := .seq its.toArray c', slots := #[] } → EP X pins σ Q (.ref s.heap.objs.size) { s with heap := h' } := fun its r' hz h' c' kp e =>
    ⟨.ref s.heap.objs.size, _, I.laid (t' := s.toks) kp (Nat.le_refl _) (show ObjOk X.prog X.w _ h' _ (.lst ys) from ⟨hz, its, c', r', e⟩), rfl, q _ (I.hok.fresh (Nat.le_refl _))⟩
  rcases hq with hq | hq
  · obtain ⟨its, r', pl, hz⟩ := I.list hq
    have hlen := r'.length
    obtain ⟨o, ho, hc, n, hd⟩ := pl.isList
    exact call_list_seq p (.inl rfl) ho hc hd (fun h' c' kp e => fin its r' hz h' c' kp e) (by simp only [List.size_toArray] <;> omega)
  · obtain ⟨its, r', pl, hz⟩ := I.tuple hq
    have hlen := r'.length
    obtain ⟨o, ho, hc, n, hd⟩ := pl
    exact call_list_seq p (.inr rfl) ho hc hd (fun h' c' kp e => fin its r' hz h' c' kp e) (by simp only [List.size_toArray] <;> omega)
theorem call_tuple_of : CallR X (.type "tuple") (fun xs H Q => ∃ p ys, xs = [.ref p] ∧ ((SqL X.K H p ys ∧ ∀ l, H l = none → Q (.ref l) (upd H l (.tup ys))) ∨ (SqT X.K H p ys ∧ Q (.ref p) H))) := by
  intro pins s σ H xs us Q I r h
  obtain ⟨p, ys, rfl, h⟩ := h
  obtain ⟨u, rfl, rx⟩ := vals1 r
  cases rx
  rcases h with ⟨hq, q⟩ | ⟨hq, q⟩
  · obtain ⟨its, r', pl, hz⟩ := I.list hq
    have hlen := r'.length
    refine call_tuple_list pl.isList (fun h' kp => ?_) (by simp only [List.size_toArray] <;> omega)
    have I1 : Inv X pins σ H { s with heap := h' } := I.kept (t' := s.toks) kp
    have I2 : Inv X pins σ (upd H h'.objs.size (.tup ys)) { s with heap := h'.push { cls := .type "tuple", data := .seq its.toArray } } :=
      I1.laid (t' := s.toks) (fun b o e => Heap.get?_push_of_some _ e) (Nat.le_refl _) (show ObjOk X.prog X.w _ _ _ (.tup ys) from ⟨hz, its, r', IsTup.new _ _⟩)
    exact ⟨.ref h'.objs.size, _, I2, rfl, q _ (I1.hok.fresh (Nat.le_refl _))⟩
  · obtain ⟨its, r', pl, hz⟩ := I.tuple hq
    exact call_tuple_same pl ⟨.ref p, H, I, rfl, q⟩

def tyV (K : PySem.W.Frag) (T : String) (x : V) (H : Hp) : Prop := match x with
  | .str _ => T = "str"
  | .int _ => T = "int"
  | .ref p => (T = "list" ∧ ∃ xs, SqL K H p xs) ∨ (T = "tuple" ∧ ∃ o, K.lookup p = some o ∧ o.cls = .type "tuple" ∧ o.dict = none) ∨
      (T = "dict" ∧ ((∃ kvs, H p = some (.dK kvs)) ∨ ∃ kvs, H p = some (.dT kvs))) ∨ (T = "set" ∧ ∃ S n, H p = some (.set S n))
  | _ => False
theorem tyV_is {pins : List (Addr × Obj)} {σ : St} {H : Hp} {s : Shared} {T : String} {x : V} {v : Value} (I : Inv X pins σ H s) (r : RelV x v) (ty : tyV X.K T x H) :
    s.TypeIs v T ∧ ∀ a, v = .ref a → ∃ ob, s.heap.get? a = some ob ∧ ob.dict = none := by
  cases x with
  | str z =>
    obtain ⟨t, rfl⟩ := r
    cases (show T = "str" from ty)
    exact ⟨typeIs_str s z t, fun _ e => nomatch e⟩
  | int i =>
    obtain ⟨t, rfl⟩ := r
    cases (show T = "int" from ty)
    exact ⟨typeIs_int s i t, fun _ e => nomatch e⟩
  | ref p =>
    cases r
    rcases ty with ⟨rfl, xs, hq⟩ | ⟨rfl, o, hk, hc, hd⟩ | ⟨rfl, hk⟩ | ⟨rfl, S, n, hk⟩
    · obtain ⟨its, _, pl, _⟩ := I.list hq
      refine ⟨pl.isList.typeIs, fun a e => ?_⟩
      cases e
      obtain ⟨o, n, e, c, hd, _⟩ := pl
      exact ⟨o, e, hd⟩
    · refine ⟨⟨o, I.kIn p o hk, hc⟩, fun a e => ?_⟩
      cases e
      exact ⟨o, I.kIn _ o hk, hd⟩
    · have z : ∃ o, s.heap.get? p = some o ∧ o.ExactDict := by
        rcases hk with ⟨kvs, hk⟩ | ⟨kvs, hk⟩
        · obtain ⟨_, _, _, _, o, _, _, e, ex, _⟩ := I.hok p _ hk
          exact ⟨o, e, ex⟩
        · obtain ⟨_, _, _, _, o, _, _, e, ex, _⟩ := I.hok p _ hk
          exact ⟨o, e, ex⟩
      obtain ⟨o, e, ex⟩ := z
      refine ⟨⟨o, e, ex.1⟩, fun a e2 => ?_⟩
      cases e2
      exact ⟨o, e, ex.2.1⟩
    · obtain ⟨o, _, _, _, e, ex, _⟩ := I.hok p _ hk
      refine ⟨⟨o, e, ex.1⟩, fun a e2 => ?_⟩
      cases e2
      exact ⟨o, e, ex.2.1⟩
  | _ => exact False.elim ty
def tBM (K : PySem.W.Frag) (T : String) (r : V → List V → Hp → VK → Prop) (to : TE) (t : TA) : TE := fun σ H Q => to σ H fun x H1 => tyV K T x H1 ∧ t σ H1 fun xs H2 => r x xs H2 Q
variable {o e : Expr} {es : List Expr} {to : TE} {t : TA} {name : Str} {apos cpos : Pos} {T id : String} {r : V → List V → Hp → VK → Prop}
theorem pe_bm (pa : PlainAttrs T) (slot : Slot T name id) (hty : typeOf (.builtin id) = pure (.type "method_descriptor")) (hm : MtR X id r) (ho : PE X o to) (ha : PA X (e :: es) t)
    (hbase : attributeBase o name X.env (eval o X.env) = eval o X.env := by rfl)
    (hfew : ((backTo cpos (starEach (e :: es) X.env)).all (fun x => !x.1) && (backToKw cpos (keywordEach [] X.env)).all (fun x => x.1.isSome)
      && decide ((e :: es).length + ([] : List Keyword).length + (if ([] : List Keyword).isEmpty then 0 else 1) < 30)) = true := by rfl)
    (hline : (apos.endLine == cpos.line) = true := by rfl) (hs : starEach (e :: es) X.env = (false, eval e X.env) :: starEach es X.env := by rfl) (hplain : (backTo cpos (starEach es X.env)).any (·.1) = false := by rfl) :
    PE X (.Call (.Attribute o name apos) (e :: es) [] cpos) (tBM X.K T r to t) := by
  intro pins s σ H Q I h
  refine wpAny_Call_method_late hbase hfew hline rfl (thn (ho pins s σ H _ I h) fun v s1 ⟨x, H1, I1, r1, ty, q1⟩ => ?_)
  obtain ⟨h1, h2⟩ := tyV_is I1 r1 ty
  refine ⟨T, id, pa, slot, hty, h1, h2, ?_⟩
  have hA := ha cpos pins s1 σ H1 _ I1 q1
  rw [hs] at hA ⊢
  refine Calls.callWith_builtin (by show (false || (backTo cpos (starEach es X.env)).any (·.1)) = false; rw [hplain] <;> rfl) (Calls.evalArgs_plain ?_)
  exact thn hA fun us s2 ⟨vs, H2, I2, r2, q2⟩ => hm pins s2 σ H2 x vs v us Q I2 r1 r2 q2
end
end L2

namespace L2
open PySem PySem.Spec PyProof.Rows

def MtM (X : Cx) (id : String) (r : V → List V → Hp → VK → Prop) : Prop :=
  ∀ (pins : List (Addr × Obj)) (s : Shared) (σ : St) (H : Hp) (x : V) (xs : List V) (v : Value) (us : List Value) (Q : VK), Inv X pins σ H s → RelV x v → Vals xs us → r x xs H Q →
    wpAny (model X.prog X.w) X.A (call (.builtin id) (v :: us)) (EP X pins σ Q) X.xe s

theorem Vals.one : ∀ {x : V} {us : List Value}, Vals [x] us → ∃ u, us = [u] ∧ RelV x u
  | _, _, .cons r .nil => ⟨_, rfl, r⟩
theorem Vals.zero : ∀ {us : List Value}, Vals [] us → us = []
  | _, .nil => rfl
theorem Vals.rep {xs : List V} {us : List Value} (h : Vals xs us) : ∀ k : Nat, Vals (List.replicate k xs).flatten (List.replicate k us).flatten
  | 0 => .nil
  | k + 1 => by
    rw [List.replicate_succ, List.replicate_succ, List.flatten_cons, List.flatten_cons]
    exact Vals.append h (Vals.rep h k)
theorem foldl_rep (its : List Value) : ∀ (k : Nat) (acc : List Value),
    List.foldl (fun x1 x2 => x1 ++ x2) acc.toArray (List.replicate k its.toArray) = (acc ++ (List.replicate k its).flatten).toArray
  | 0, acc => by simp
  | k + 1, acc => by
    have e : acc.toArray ++ its.toArray = (acc ++ its).toArray := by simp
    have e2 : (acc ++ its) ++ (List.replicate k its).flatten = acc ++ (List.replicate (k + 1) its).flatten := by
      rw [List.replicate_succ, List.flatten_cons, List.append_assoc]
    rw [← e2, ← foldl_rep its k (acc ++ its), ← e, List.replicate_succ, List.foldl_cons]

section
variable {X : Cx} {pins : List (Addr × Obj)} {σ : St} {H : Hp} {s : Shared} {l b : Addr} {xs ys zs : List V}

theorem Inv.lset {its its' : List Value} {n : Nat} {f : Array Value → Array Value} {t' : Nat} (I : Inv X pins σ H s) (hH : H l = some (.lst xs))
    (e : s.heap.get? l = some { cls := .type "list", data := .seq its.toArray n }) (hf : f its.toArray = its'.toArray) (hv : Vals ys its') (hz : ys.length ≤ sizeLine) :
    Inv X pins σ (upd H l (.lst ys)) { s with heap := s.heap.update l (Obj.mapSeq f), toks := t' } := by
  have q := PySem.IsL.update e f
  rw [hf] at q
  refine I.write (x := l) (e := l) (by rw [hH]; exact trivial) (.inl rfl) (fun b' u hb hu => (Heap.get?_update_other s.heap (Obj.mapSeq f) (Ne.symm hb)).trans hu) ⟨_, q⟩ ?_
  exact ⟨hz, its', _, hv, q⟩
theorem Inv.lnew {its : List Value} {t' : Nat} (I : Inv X pins σ H s) (hv : Vals ys its) (hz : ys.length ≤ sizeLine) :
    Inv X pins σ (upd H s.heap.objs.size (.lst ys)) { s with heap := s.heap.push { cls := .type "list", data := .seq its.toArray }, toks := t' } :=
  I.laid (fun _ _ q => Heap.get?_push_of_some _ q) (Nat.le_refl _) ⟨hz, its, 0, hv, Heap.get?_push_size _ rfl⟩
theorem Inv.fresh (I : Inv X pins σ H s) : H s.heap.objs.size = none := I.hok.fresh (Nat.le_refl _)
theorem Inv.lstM (I : Inv X pins σ H s) (hH : H l = some (.lst xs)) : xs.length ≤ sizeLine ∧ ∃ (its : List Value) (n : Nat), Vals xs its ∧ xs.length = its.length ∧ s.heap.get? l = some { cls := .type "list", data := .seq its.toArray n } := by
  obtain ⟨z, its, n, r, e⟩ := I.hok l _ hH
  exact ⟨z, its, n, r, r.length, e⟩

theorem notLongL {n : Nat} (h : n ≤ sizeLine) : Builtin.List.listTooLong n = false := by
  unfold Builtin.List.listTooLong
  exact decide_eq_false (by omega)
end

section
variable {X : Cx}

def rAppend : V → List V → Hp → VK → Prop := fun x vs H Q => ∃ l xs y, x = .ref l ∧ vs = [y] ∧ H l = some (.lst xs) ∧ xs.length < sizeLine ∧ Q .non (upd H l (.lst (xs ++ [y])))
theorem mt_append : MtM X "list.append" rAppend := by
  intro pins s σ H x vs v us Q I rx rv h
  obtain ⟨l, xs, y, rfl, rfl, hH, hz, q⟩ := h
  cases rx
  obtain ⟨u, rfl, ru⟩ := rv.one
  obtain ⟨z, its, n, r, hl, e⟩ := I.lstM hH
  refine call_meets F.slot_list_append ⟨_, e, rfl⟩ F.entry_list_append (F.args_list_append_2 _ _) (PySem.list_append l its.toArray n u (by rw [List.size_toArray]; omega)) ⟨e, ?_⟩
  refine ⟨.non, _, I.lset (its' := its ++ [u]) hH e (by simp) (r.append (.cons ru .nil)) ?_, rfl, q⟩
  rw [List.length_append, List.length_singleton]
  omega

def rCat : R2 := fun x y H Q => ∃ l b xs zs, x = .ref l ∧ y = .ref b ∧ H l = some (.lst xs) ∧ H b = some (.lst zs) ∧ xs.length + zs.length ≤ sizeLine ∧ ∀ p, H p = none → Q (.ref p) (upd H p (.lst (xs ++ zs)))
theorem op_cat : OpR X (binaryOp .Add) rCat := by
  intro pins s σ H x y v u Q I rx ry h
  obtain ⟨l, b, xs, zs, rfl, rfl, hH, hB, hz, q⟩ := h
  cases rx
  cases ry
  obtain ⟨z, its, n, r, hl, e⟩ := I.lstM hH
  obtain ⟨z2, its2, n2, r2, hl2, e2⟩ := I.lstM hB
  refine PySem.P.add_list e e2 ?_ (by rw [List.size_toArray, List.size_toArray]; omega)
  have ea : its.toArray ++ its2.toArray = (its ++ its2).toArray := by simp
  rw [ea]
  exact ⟨.ref _, _, I.lnew (t' := s.toks) (r.append r2) (by rw [List.length_append]; omega), rfl, q _ I.fresh⟩
def rRep : R2 := fun x y H Q => ∃ l k xs, x = .ref l ∧ y = .int k ∧ H l = some (.lst xs) ∧ -(2 ^ 63) ≤ k ∧ k < 2 ^ 63 ∧ xs.length * k.toNat ≤ sizeLine ∧
  ∀ p, H p = none → Q (.ref p) (upd H p (.lst (List.replicate k.toNat xs).flatten))
theorem len_rep {α : Type} (xs : List α) (k : Nat) : (List.replicate k xs).flatten.length = k * xs.length := by
  induction k with
  | zero => simp
  | succ k ih => rw [List.replicate_succ, List.flatten_cons, List.length_append, ih, Nat.succ_mul, Nat.add_comm]
theorem op_rep : OpR X (binaryOp .Mult) rRep := by
  intro pins s σ H x y v u Q I rx ry h
  obtain ⟨l, k, xs, rfl, rfl, hH, h1, h2, hz, q⟩ := h
  cases rx
  obtain ⟨t, rfl⟩ := ry
  obtain ⟨z, its, n, r, hl, e⟩ := I.lstM hH
  have hlen : its.toArray.size * k.toNat ≤ sizeLine := by rw [List.size_toArray, ← hl]; exact hz
  have hcap : ¬ its.toArray.size * k.toNat > (2 ^ 63 - 1) / 8 := by
    have : (sizeLine : Nat) ≤ (2 ^ 63 - 1) / 8 := by decide
    omega
  have hfit : ¬ (!Builtin.List.listFitsIndex k) = true := by
    rw [fitsIndex_both h1 h2]
    exact Bool.false_ne_true
  have hlong : ¬ Builtin.List.listTooLong (its.toArray.size * k.toNat) = true := by
    rw [notLongL hlen]
    exact Bool.false_ne_true
  have hnew : List.foldl (fun x1 x2 => x1 ++ x2) #[] (List.replicate (if its.toArray.isEmpty = true then 0 else k.toNat) its.toArray) = (List.replicate k.toNat its).flatten.toArray := by
    have f0 : ∀ m : Nat, List.foldl (fun x1 x2 => x1 ++ x2) #[] (List.replicate m its.toArray) = (List.replicate m its).flatten.toArray := fun m => by
      have := foldl_rep its m []
      rw [List.nil_append] at this
      exact this
    rw [f0]
    cases its with
    | nil => simp
    | cons a r' => rw [if_neg (by simp)]
  refine wpAny_binaryOp_repeat_ref (T := "list") (U := "int") (by decide) ⟨_, e, rfl⟩ (fun s' => typeIs_int s' k t) noFill_list_mul F.fills_int_mul F.slot_int_rmul repeat_list F.slot_int_index.lookup
    (call_meets F.slot_int_rmul (typeIs_int s k t) F.entry_int_rmul (F.args_int_rmul_2 _ _) (int___rmul___int_list k t l its.toArray n)
      ⟨e, rfl, ⟨_, e, rfl⟩, call_meets F.slot_list_mul ⟨_, e, rfl⟩ F.entry_list_mul (F.args_list_mul_2 _ _) (AutoListH.list___mul___list_int_3 l its.toArray n k t hfit hcap hlong) ⟨e, ?_⟩⟩)
  rw [hnew]
  exact ⟨.ref _, _, I.lnew (t' := s.toks) (r.rep k.toNat) (by rw [len_rep, Nat.mul_comm]; exact hz), rfl, q _ I.fresh⟩

end

section
variable {prog : Program} {w : World} {A : Around} {E : Value → Shared → Prop} {s : Shared}
end

section
variable {X : Cx}
end
end L2

namespace L2
open PySem PySem.Spec PyProof.Rows

section
variable {κ : Type} [DecidableEq κ]
def valV (kvs : List (κ × V)) (k : κ) : Option V := (kvs.find? fun kv => decide (kv.1 = k)).map (·.2)
def putK (kvs : List (κ × V)) (k : κ) (v : V) : List (κ × V) :=
  if (kvs.any fun kv => decide (kv.1 = k)) = true then kvs.map (fun kv => if kv.1 = k then (kv.1, v) else kv) else kvs ++ [(k, v)]
def dropK (kvs : List (κ × V)) (k : κ) : List (κ × V) := kvs.filter fun kv => decide (kv.1 ≠ k)

theorem valV_pos {p : κ × V} {r : List (κ × V)} {k : κ} (e : p.1 = k) : valV (p :: r) k = some p.2 := by simp [valV, List.find?_cons, e]
theorem valV_neg {p : κ × V} {r : List (κ × V)} {k : κ} (e : ¬ p.1 = k) : valV (p :: r) k = valV r k := by simp [valV, List.find?_cons, e]
theorem valV_any (k : κ) : ∀ kvs : List (κ × V), (kvs.any fun kv => decide (kv.1 = k)) = (valV kvs k).isSome
  | [] => rfl
  | p :: r => by
    rw [List.any_cons]
    by_cases e : p.1 = k
    · simp only [valV_pos e, decide_eq_true e, Bool.true_or, Option.isSome_some]
    · rw [valV_neg e, decide_eq_false e, Bool.false_or]; exact valV_any k r
theorem RelO.isSome_eq {o : Option V} {u : Option Value} (r : RelO o u) : o.isSome = u.isSome := by
  cases o with
  | none => cases u with
    | none => rfl
    | some _ => exact (show False from r).elim
  | some _ => cases u with
    | none => exact (show False from r).elim
    | some _ => rfl
theorem RelO.getD {o : Option V} {u : Option Value} {d : V} {d' : Value} (r : RelO o u) (rd : RelV d d') : RelV (o.getD d) (u.getD d') := by
  cases o with
  | none => cases u with
    | none => exact rd
    | some _ => exact (show False from r).elim
  | some _ => cases u with
    | none => exact (show False from r).elim
    | some _ => exact r

theorem KV.val {kvs : List (κ × V)} {vs : List (κ × Value)} (r : KV kvs vs) (k : κ) : RelO (valV kvs k) (valueAt vs k) := by
  unfold KV at r
  induction r with
  | nil => exact True.intro
  | @cons p q ps qs h t ih =>
    obtain ⟨h1, h2⟩ := h
    by_cases e : p.1 = k
    · have e' : q.1 = k := h1.symm.trans e
      have b : valueAt (q :: qs) k = some q.2 := by simp [valueAt, List.find?_cons, e']
      rw [valV_pos e, b]; exact h2
    · have e' : ¬ q.1 = k := fun z => e (h1.trans z)
      have b : valueAt (q :: qs) k = valueAt qs k := by simp [valueAt, List.find?_cons, e']
      rw [valV_neg e, b]; exact ih
theorem KV.any {kvs : List (κ × V)} {vs : List (κ × Value)} (r : KV kvs vs) (k : κ) : (kvs.any fun kv => decide (kv.1 = k)) = vs.any fun kv => decide (kv.1 = k) := by
  unfold KV at r
  induction r with
  | nil => rfl
  | cons h t ih => rw [List.any_cons, List.any_cons, ih, h.1]
theorem KV.repl {kvs : List (κ × V)} {vs : List (κ × Value)} (r : KV kvs vs) (k : κ) {y : V} {u : Value} (ry : RelV y u) :
    KV (kvs.map fun kv => if kv.1 = k then (kv.1, y) else kv) (vs.map fun kv => if kv.1 = k then (kv.1, u) else kv) := by
  unfold KV at r ⊢
  induction r with
  | nil => exact .nil
  | @cons p q ps qs h t ih =>
    rw [List.map_cons, List.map_cons]
    refine .cons ?_ ih
    obtain ⟨h1, h2⟩ := h
    by_cases e : p.1 = k
    · rw [if_pos e, if_pos (h1.symm.trans e)]; exact ⟨h1, ry⟩
    · rw [if_neg e, if_neg (fun z => e (h1.trans z))]; exact ⟨h1, h2⟩
theorem KV.put {kvs : List (κ × V)} {vs : List (κ × Value)} (r : KV kvs vs) (k : κ) {y : V} {u : Value} (ry : RelV y u) : KV (putK kvs k y) (stored vs k u) := by
  unfold putK stored
  rw [r.any k]
  by_cases e : (vs.any fun kv => decide (kv.1 = k)) = true
  · rw [if_pos e, if_pos e]; exact r.repl k ry
  · rw [if_neg e, if_neg e]; exact Paired.snoc r ⟨rfl, ry⟩
theorem KV.drop {kvs : List (κ × V)} {vs : List (κ × Value)} (r : KV kvs vs) (k : κ) : KV (dropK kvs k) (without vs k) := by
  unfold KV at r ⊢
  unfold dropK without
  induction r with
  | nil => exact .nil
  | @cons p q ps qs h t ih =>
    obtain ⟨h1, h2⟩ := h
    rw [List.filter_cons, List.filter_cons]
    by_cases e : p.1 = k
    · have a : ¬ decide (p.1 ≠ k) = true := by simp [e]
      have b : ¬ decide (q.1 ≠ k) = true := by simp [h1.symm.trans e]
      rw [if_neg a, if_neg b]; exact ih
    · have e' : ¬ q.1 = k := fun z => e (h1.trans z)
      have a : decide (p.1 ≠ k) = true := by simp [e]
      have b : decide (q.1 ≠ k) = true := by simp [e']
      rw [if_pos a, if_pos b]; exact .cons ⟨h1, h2⟩ ih
theorem KV.keys {kvs : List (κ × V)} {vs : List (κ × Value)} (r : KV kvs vs) : kvs.map (·.1) = vs.map (·.1) := by
  unfold KV at r
  induction r with
  | nil => rfl
  | cons h t ih => rw [List.map_cons, List.map_cons, ih, h.1]
theorem KV.length {kvs : List (κ × V)} {vs : List (κ × Value)} (r : KV kvs vs) : kvs.length = vs.length := Paired.length r
end


theorem kV_is {P : Program} {w : World} {k : Key} {u : Value} (r : RelV (kV k) u) : (mixKind P w).is k u = true := by
  cases k with
  | inl i => obtain ⟨t, e⟩ := (show ∃ t, u = Value.int i t from r); subst e; exact mixKind_int P w i t
  | inr x => obtain ⟨t, e⟩ := (show ∃ t, u = Value.str x t from r); subst e; exact mixKind_str P w x t
theorem items_are {P : Program} {w : World} : ∀ {ks : List Key} {us : List Value}, Vals (ks.map kV) us → ItemsAre (mixKind P w) ks us
  | [], _, r => by rw [List.map_nil] at r; cases r; exact .nil
  | k :: ks, _, r => by
    rw [List.map_cons] at r
    cases r with
    | cons h t => exact .cons (kV_is h) (items_are t)

abbrev KT (H : Hp) : List (List Key × V) → List (List Key × Addr × Value) → Prop := Paired fun p q => p.1 = q.1 ∧ H q.2.1 = some (.tup (p.1.map kV)) ∧ RelV p.2 q.2.2
theorem KT.val {H : Hp} {kvs : List (List Key × V)} {xs : List (List Key × Addr × Value)} (r : KT H kvs xs) (k : List Key) : RelO (valV kvs k) ((atKey xs k).map (·.2)) := by
  induction r with
  | nil => exact True.intro
  | @cons p q ps qs h t ih =>
    obtain ⟨h1, _, h2⟩ := h
    by_cases e : p.1 = k
    · have e' : q.1 = k := h1.symm.trans e
      have b : atKey (q :: qs) k = some q.2 := by simp [atKey, List.find?_cons, e']
      rw [valV_pos e, b]; exact h2
    · have e' : ¬ q.1 = k := fun z => e (h1.trans z)
      have b : atKey (q :: qs) k = atKey qs k := by simp [atKey, List.find?_cons, e']
      rw [valV_neg e, b]; exact ih
theorem KT.repl {H : Hp} {kvs : List (List Key × V)} {xs : List (List Key × Addr × Value)} (r : KT H kvs xs) (k : List Key) {y : V} {u : Value} (ry : RelV y u) :
    KT H (kvs.map fun kv => if kv.1 = k then (kv.1, y) else kv) (xs.map (putAt k u)) := by
  induction r with
  | nil => exact .nil
  | @cons p q ps qs h t ih =>
    rw [List.map_cons, List.map_cons]
    refine .cons ?_ ih
    obtain ⟨h1, h2, h3⟩ := h
    unfold putAt
    by_cases e : p.1 = k
    · rw [if_pos e, if_pos (h1.symm.trans e)]; exact ⟨h1, h2, ry⟩
    · rw [if_neg e, if_neg (fun z => e (h1.trans z))]; exact ⟨h1, h2, h3⟩
theorem KT.put {H : Hp} {kvs : List (List Key × V)} {xs : List (List Key × Addr × Value)} (r : KT H kvs xs) (k : List Key) {b : Addr} {y : V} {u : Value} (hb : H b = some (.tup (k.map kV))) (ry : RelV y u) :
    KT H (putK kvs k y) (storedH xs k b u) := by
  have e : (kvs.any fun kv => decide (kv.1 = k)) = (atKey xs k).isSome := by
    rw [valV_any, (r.val k).isSome_eq, Option.isSome_map]
  unfold putK storedH
  rw [e]
  by_cases q : (atKey xs k).isSome = true
  · rw [if_pos q, if_pos q]; exact r.repl k ry
  · rw [if_neg q, if_neg q]; exact Paired.snoc r ⟨rfl, hb, ry⟩
theorem KT.keeps {H H' : Hp} {kvs : List (List Key × V)} {xs : List (List Key × Addr × Value)} (r : KT H kvs xs) (ht : ∀ b ys, H b = some (.tup ys) → H' b = some (.tup ys)) : KT H' kvs xs :=
  Paired.mapP r fun _ _ z => ⟨z.1, ht _ _ z.2.1, z.2.2⟩

section
variable {P : Program} {w : World} {H : Hp} {h : Heap} {a : Addr}
theorem rd_of {u : HO} (ok : HOk P w H h) (e : Rd H a u) : ObjOk P w H h a u := e.ok ok
theorem dk_rd {kvs : List (Key × V)} (ok : HOk P w H h) (e : Rd H a (.dK kvs)) : kvs.length ≤ sizeLine ∧ (a == sysModules) = false ∧ ∃ vs, KV kvs vs ∧ h.DictOf (mixKind P w) a vs :=
  show ObjOk P w H h a (.dK kvs) from rd_of ok e
theorem dk_of {kvs : List (Key × V)} (ok : HOk P w H h) (e : H a = some (.dK kvs)) : kvs.length ≤ sizeLine ∧ (a == sysModules) = false ∧ ∃ vs, KV kvs vs ∧ h.DictOf (mixKind P w) a vs := dk_rd ok (.inl e)
theorem key_of {ks : List Key} (ok : HOk P w H h) (e : H a = some (.tup (ks.map kV))) : (tupleKind (mixKind P w)).is h ks a := by
  obtain ⟨_, its, r, o, h1, h2, n, h3⟩ := (show ObjOk P w H h a (.tup (ks.map kV)) from ok a _ e)
  exact ⟨o, its.toArray, n, h1, h2, h3, by simpa using items_are r⟩
theorem dt_rd {kvs : List (List Key × V)} (ok : HOk P w H h) (e : Rd H a (.dT kvs)) : kvs.length ≤ sizeLine ∧ (a == sysModules) = false ∧
    ∃ xs, KT H kvs xs ∧ h.DictOfH (tupleKind (mixKind P w)) a xs := by
  obtain ⟨z, y, xs, r, o, es, ep, h1, h2, h3, h4, h5⟩ := (show ObjOk P w H h a (.dT kvs) from rd_of ok e)
  refine ⟨z, y, xs, r, o, es, ep, h1, h2, h3, h4, fun x hx => ?_, h5⟩
  have all : ∀ {l : List (List Key × V)} {m : List (List Key × Addr × Value)}, KT H l m → ∀ x ∈ m, (tupleKind (mixKind P w)).is h x.1 x.2.1 := by
    intro l m q
    induction q with
    | nil => intro x hx; exact nomatch hx
    | @cons p q ps qs hq t ih =>
      intro x hx
      rcases List.mem_cons.mp hx with e | hx
      · subst e
        exact key_of ok (by rw [← hq.1]; exact hq.2.1)
      · exact ih x hx
  exact all r x hx
end

def DGet (H : Hp) (a : Addr) (y : V) (r : Option V) : Prop :=
  (∃ kvs k, Rd H a (.dK kvs) ∧ y = kV k ∧ r = valV kvs k) ∨ ∃ kvs k b, Rd H a (.dT kvs) ∧ y = .ref b ∧ H b = some (.tup (k.map kV)) ∧ r = valV kvs k
def DPut (H : Hp) (a : Addr) (y v : V) (H' : Hp) : Prop :=
  (∃ kvs k, H a = some (.dK kvs) ∧ y = kV k ∧ kvs.length < sizeLine ∧ H' = upd H a (.dK (putK kvs k v))) ∨
  ∃ kvs k b, H a = some (.dT kvs) ∧ y = .ref b ∧ H b = some (.tup (k.map kV)) ∧ kvs.length < sizeLine ∧ H' = upd H a (.dT (putK kvs k v))
theorem DGet.k {H : Hp} {a : Addr} {kvs : List (Key × V)} {k : Key} (e : H a = some (.dK kvs)) : DGet H a (kV k) (valV kvs k) := .inl ⟨kvs, k, .inl e, rfl, rfl⟩
theorem DGet.t {H : Hp} {a b : Addr} {kvs : List (List Key × V)} {k : List Key} (e : H a = some (.dT kvs)) (eb : H b = some (.tup (k.map kV))) : DGet H a (.ref b) (valV kvs k) := .inr ⟨kvs, k, b, .inl e, rfl, eb, rfl⟩
theorem DPut.k {H : Hp} {a : Addr} {kvs : List (Key × V)} {k : Key} {v : V} (e : H a = some (.dK kvs)) (hl : kvs.length < sizeLine) : DPut H a (kV k) v (upd H a (.dK (putK kvs k v))) := .inl ⟨kvs, k, e, rfl, hl, rfl⟩
theorem DPut.t {H : Hp} {a b : Addr} {kvs : List (List Key × V)} {k : List Key} {v : V} (e : H a = some (.dT kvs)) (eb : H b = some (.tup (k.map kV))) (hl : kvs.length < sizeLine) :
    DPut H a (.ref b) v (upd H a (.dT (putK kvs k v))) := .inr ⟨kvs, k, b, e, rfl, eb, hl, rfl⟩


section
variable {X : Cx} {pins : List (Addr × Obj)} {σ : St} {H : Hp} {s : Shared} {a : Addr} {y v : V} {u r : Value} {o : Option V} {A : Around} {E : Value → Shared → Prop}

theorem Inv.big (I : Inv X pins σ H s) : sysModules < s.heap.objs.size := by
  have h : mainGlobals < s.heap.objs.size := (I.mod.glob.keeps I.bk).lt
  exact Nat.lt_trans (by decide) h

theorem d_getItem {Q : Value → Shared → Prop} (hu : A.units + 1 < cLine) (I : Inv X pins σ H s) (g : DGet H a y (some v)) (ry : RelV y u) (h : ∀ w' s', Inv X pins σ H s' → RelV v w' → Q w' s') :
    wpAny (model X.prog X.w) A (getItem (.ref a) u) Q E s := by
  rcases g with ⟨kvs, k, e, ey, l⟩ | ⟨kvs, k, b, e, ey, eb, l⟩
  · subst ey
    obtain ⟨z, hd, vs, rel, dd⟩ := dk_rd I.hok e
    obtain ⟨w', hw, rw'⟩ := RelO.some_of (v := v) (o := valueAt vs k) (by rw [l]; exact rel.val k)
    exact wpAny_getItem_of (kV_is ry) dd.mapOf hw (h w' _ (I.tok _) rw')
  · subst ey
    cases (show u = Value.ref b from ry)
    obtain ⟨z, hd, xs, rel, dd⟩ := dt_rd I.hok e
    obtain ⟨w', hw, rw'⟩ := RelO.some_of (v := v) (o := (atKey xs k).map (·.2)) (by rw [l]; exact rel.val k)
    obtain ⟨p, hp, hp2⟩ := Option.map_eq_some_iff.mp hw
    refine wpAny_getItem_heap (tupleKind_room_in1 hu) (key_of I.hok eb) dd hp ?_
    rw [hp2]
    exact h w' _ (I.tok _) rw'
theorem d_in {Q : Value → Shared → Prop} (hu : A.units + 1 < cLine) (I : Inv X pins σ H s) (g : DGet H a y o) (ry : RelV y u) (h : ∀ s', Inv X pins σ H s' → Q (.bool o.isSome) s') :
    wpAny (model X.prog X.w) A (compareOp .In u (.ref a)) Q E s := by
  rcases g with ⟨kvs, k, e, ey, l⟩ | ⟨kvs, k, b, e, ey, eb, l⟩
  · subst ey
    obtain ⟨z, hd, vs, rel, dd⟩ := dk_rd I.hok e
    refine wpAny_in_of (kV_is ry) hd dd.mapOf ?_
    rw [← (rel.val k).isSome_eq, ← l]
    exact h _ (I.tok _)
  · subst ey
    cases (show u = Value.ref b from ry)
    obtain ⟨z, hd, xs, rel, dd⟩ := dt_rd I.hok e
    refine wpAny_in_heap (tupleKind_room_in1 hu) (key_of I.hok eb) hd dd ?_
    have q := (rel.val k).isSome_eq
    rw [Option.isSome_map] at q
    rw [← q, ← l]
    exact h _ (I.tok _)
theorem d_notIn {Q : Value → Shared → Prop} (hu : A.units + 1 < cLine) (I : Inv X pins σ H s) (g : DGet H a y o) (ry : RelV y u) (h : ∀ s', Inv X pins σ H s' → Q (.bool (!o.isSome)) s') :
    wpAny (model X.prog X.w) A (compareOp .NotIn u (.ref a)) Q E s := by
  rcases g with ⟨kvs, k, e, ey, l⟩ | ⟨kvs, k, b, e, ey, eb, l⟩
  · subst ey
    obtain ⟨z, hd, vs, rel, dd⟩ := dk_rd I.hok e
    refine wpAny_notIn_of (kV_is ry) hd dd.mapOf ?_
    rw [← (rel.val k).isSome_eq, ← l]
    exact h _ (I.tok _)
  · subst ey
    cases (show u = Value.ref b from ry)
    obtain ⟨z, hd, xs, rel, dd⟩ := dt_rd I.hok e
    refine wpAny_notIn_heap (tupleKind_room_in1 hu) (key_of I.hok eb) hd dd ?_
    have q := (rel.val k).isSome_eq
    rw [Option.isSome_map] at q
    rw [← q, ← l]
    exact h _ (I.tok _)
end

section
variable {X : Cx} {pins : List (Addr × Obj)} {σ : St} {H : Hp} {s : Shared} {a : Addr} {kvs : List (Key × V)} {k : Key} {u : Value} {A : Around} {E : Value → Shared → Prop}
end


section
variable {X : Cx} {o i e value : Expr} {pos pos' tpos : Pos} {td ty tv : TE}
end


section
variable {X : Cx} {pos : Pos}
end

structure M1 (X : Cx) (o : Expr) (m : Str) (apos : Pos) (e : Expr) (cpos : Pos) : Prop where
  base : attributeBase o m X.env (eval o X.env) = eval o X.env
  few : ((backTo cpos (starEach [e] X.env)).all (fun x => !x.1) && (backToKw cpos (keywordEach [] X.env)).all (fun x => x.1.isSome)
    && decide (([e] : List Expr).length + ([] : List Keyword).length + (if ([] : List Keyword).isEmpty then 0 else 1) < 30)) = true
  line : (apos.endLine == cpos.line) = true
  trees : backTo cpos (starEach [e] X.env) = [(false, eval e X.env)]
structure M2 (X : Cx) (o : Expr) (m : Str) (apos : Pos) (e f : Expr) (cpos : Pos) : Prop where
  base : attributeBase o m X.env (eval o X.env) = eval o X.env
  few : ((backTo cpos (starEach [e, f] X.env)).all (fun x => !x.1) && (backToKw cpos (keywordEach [] X.env)).all (fun x => x.1.isSome)
    && decide (([e, f] : List Expr).length + ([] : List Keyword).length + (if ([] : List Keyword).isEmpty then 0 else 1) < 30)) = true
  line : (apos.endLine == cpos.line) = true
  trees : backTo cpos (starEach [e, f] X.env) = [(false, eval e X.env), (false, eval f X.env)]

def IsD (H : Hp) (a : Addr) : Prop := (∃ kvs, Rd H a (.dK kvs)) ∨ ∃ kvs, Rd H a (.dT kvs)
section
variable {X : Cx} {pins : List (Addr × Obj)} {σ : St} {H : Hp} {s : Shared} {a : Addr} {y d : V} {u r : Value} {o : Option V} {A : Around} {E : Value → Shared → Prop}
end

section
variable {X : Cx} {o e f : Expr} {apos cpos : Pos} {td ty tx : TE}
end

section
variable {X : Cx} {pins : List (Addr × Obj)} {σ : St} {H : Hp} {s : Shared} {a : Addr} {kvs : List (Key × V)} {A : Around} {E : Value → Shared → Prop}
end


section
variable {X : Cx} {pins : List (Addr × Obj)} {σ : St} {H : Hp} {s : Shared} {a : Addr} {y : V} {u : Value} {A : Around} {E : Value → Shared → Prop}
end
end L2

namespace Att
open PySem PySem.W PySem.Calls PyProof.Rows

theorem ints_of_wellAll {P : Params} {h : Heap} : ∀ (ns : List Int) (vs : List Value), WellAll P h vs (ns.map WData.int) → IntsAre vs ns := by
  intro ns
  induction ns with
  | nil =>
    intro vs w
    rw [List.map_nil] at w
    cases w
    exact .nil
  | cons n ns ih =>
    intro vs w
    rw [List.map_cons] at w
    cases w with
    | cons a b =>
      cases a
      exact .cons _ _ (ih _ b)

theorem script_of {l : OpenLaw} {n : Nat} (hn : l.most = some n) {P : Params} {h : Heap} {args : List WData} {vals : List Value}
    (hpre : l.row.toRowW.claim.pre args = true) (hwl : WellAll P h vals args) :
    ∃ a vs ns, vals = [Value.ref a] ∧ args = [WData.list (ns.map WData.int)] ∧ h.get? a = some { cls := .type "list", data := .seq vs.toArray } ∧ IntsAre vs ns ∧ ns.length ≤ n := by
  have hsh : WShape.hasAll [] args [.list .int] = true := (pre_splitW hpre).1
  have hc : l.pre.holds [] { args := args } = true := (pre_splitW hpre).2
  obtain ⟨d, r, rfl, h1, h2⟩ := hasAllW_cons hsh
  obtain rfl := hasAllW_nil h2
  obtain ⟨xs, rfl, h3⟩ := hasW_list h1
  obtain ⟨ns, rfl⟩ := items_int h3
  have hlen : ns.length ≤ n := by
    unfold OpenLaw.pre at hc
    have h4 : (WTm.not (.lt (.lit (.int (n : Int))) (.len (.arg 0)))).holds [] { args := [.list (ns.map .int)] } = true := by
      have h4 := (holds_andW hc).1
      rw [hn] at h4
      exact h4
    have h5 := condW_of h4 (w_not (w_lt w_lit (w_len_list (w_arg rfl))))
    rw [List.length_map] at h5
    refine Nat.le_of_not_lt fun q => ?_
    have q' : (n : Int) < ((ns.length : Nat) : Int) := by omega
    first
      | (rw [decide_eq_true q'] at h5; exact absurd h5 (by decide))
      | (simp at h5; omega)
  cases hwl with
  | cons w1 w2 =>
    cases w2
    cases w1 with
    | list ho hall => exact ⟨_, _, ns, rfl, rfl, ho, ints_of_wellAll ns _ hall, hlen⟩

theorem post_true (l : OpenLaw) (args : List WData) : l.row.toRowW.claim.post args (.bool true) args = true :=
  postW_of (r := l.row.toRowW) (X := (true == true))
    (show WShape.has [] (.bool true) .bool = true by first | rfl | decide | simp [WShape.has, WShape.arms, WShape.armsAll])
    (show (WTm.eq .res (.lit (.bool true))).value [] { args := args, res := some (.bool true), after := args } = some (.bool (true == true)) from w_eq_bool (w_res rfl) w_lit) rfl

theorem attach_call {l : OpenLaw} {n : Nat} {q : Program} {loose : List Str} {XP : (Str → Option Value) → Heap → Prop} {YP : World → Heap → Prop} {d : DefRec}
    (hn : l.most = some n) (hdf : d.params.defaults = [])
    (call : ∀ (w : World) (s₀ s₁ : Shared) (mg mb : Str → Option Value) (fa : Addr) (o : Obj) (pm cd doc : Value) (a : Addr) (vs : List Value) (ns : List Int),
      Ground q loose [] XP w s₀ mg mb s₁.heap → YP w s₁.heap →
      s₁.heap.get? fa = some o → o.data = .func (docDef d.name d.params d.body d.scope pm cd doc) → s₁.heap.CodeRec cd d.name → mg d.name = some (.ref fa) →
      s₁.heap.get? a = some { cls := .type "list", data := .seq vs.toArray } → IntsAre vs ns → ns.length ≤ n → s₁.gens = #[] →
      codeAny (model l.prog w) callerA (.call (.ref fa) ⟨[.ref a], []⟩) (fun r s' => r = .ok (.ret (.bool true)) ∧ OldK s₁.heap s'.heap ∧ s'.os = s₁.os ∧ AllBare s'.gens) s₁) :
    WalkO q loose XP YP l.row.toRowW d [] (fun f vs => PySem.call f vs) := by
  intro w s₀ s₁ mg mb G Y fa o pm cd doc dV kV ho hd hcd hD hmg hg args vals as hpre hlay hrd hwl hlo
  obtain rfl : dV = .none := Dflts.none hD hdf
  obtain rfl : kV = .none := Dflts.noKw hD
  obtain ⟨a, vs, ns, rfl, rfl, hobj, hints, hlen⟩ := script_of hn hpre hwl
  refine enter_call (codeAny_mono (call w s₀ s₁ mg mb fa o pm cd doc a vs ns G Y ho (fd_plain hd) hcd hmg hobj hints hlen hg) fun r s' hq => ?_)
  obtain ⟨rfl, h2, h3, h4⟩ := hq
  exact ⟨.inl ⟨.bool true, .bool true, [], rfl, fun _ => rfl, .bool true, post_true l _, fun _ => ⟨List.Pairwise.nil, fun _ hm => (nomatch hm)⟩⟩, h2, h3, h4⟩

section
variable {prog : Program} {w : World} {A : Around} {E : Value → Shared → Prop} {s : Shared} {K : Frag}

end
end Att

namespace L2
open PySem PySem.Spec PyProof.Rows

theorem vals_ints : ∀ {vs : List Value} {ns : List Int}, IntsAre vs ns → Vals (ns.map V.int) vs
  | _, _, .nil => .nil
  | _, _, .cons n t h => .cons ⟨t, rfl⟩ (vals_ints h)

def Only (H : Hp) : Prop := ∀ b, H b = none ∨ ∃ o xs, H b = some (.frz o (.lst xs))

theorem law_call {P : Program} {w : World} {K : PySem.W.Frag} {mg mb : Str → Option Value} {CX : CXT} {k : Nat} {fa a : Addr} {fd : FuncData} {x : Str} {sp : Sp} {s₁ : Shared} {vs : List Value} {ns : List Int}
    (KX : K.In s₁.heap) (hns : s₁.heap.Ns mainGlobals mg) (hb : s₁.heap.Ns builtinsNs mb) (hbb : ∀ x : Str, x ≠ "__name__" → mb x = bootBuiltins x) (hlim : s₁.heap.NoLimit) (hg : s₁.gens = #[])
    (ha : s₁.heap.get? a = some { cls := .type "list", data := .seq vs.toArray }) (hi : IntsAre vs ns) (hl : ns.length ≤ sizeLine) (hr : Room k callerA)
    (F : ∀ base : Heap, K.In base → base.Ns mainGlobals mg → FnOk P w K mg base CX k fa fd [x] sp) (hbind : ∀ (s : Shared) (u : Value), BindsTo s fd ⟨[u], []⟩ [(x, u)])
    (hsp : ∀ H : Hp, Only H → SqL K H a (ns.map V.int) → sp [.ref a] H (fun v _ => v = .bl true) fun _ _ _ => False)
    (hCX : ∀ H e s', CX [] H s₁ (fun _ _ _ => False) e s' → False) :
    codeAny (model P w) callerA (.call (.ref fa) ⟨[.ref a], []⟩) (fun r s' => r = .ok (.ret (.bool true)) ∧ OldK s₁.heap s'.heap ∧ s'.os = s₁.os ∧ AllBare s'.gens) s₁ := by
  have rv := vals_ints hi
  have lenV := hi.length
  have core : ∀ H : Hp, Only H → SqL K H a (ns.map V.int) → HOk P w H s₁.heap → (∀ b, H b ≠ none → b = a) → (H a ≠ none → K.lookup a = none) →
      codeAny (model P w) callerA (.call (.ref fa) ⟨[.ref a], []⟩) (fun r s' => r = .ok (.ret (.bool true)) ∧ OldK s₁.heap s'.heap ∧ s'.os = s₁.os ∧ AllBare s'.gens) s₁ := by
    intro H hO hS hok hA hK
    have base_of : ∀ {b : Addr} {o : Obj}, s₁.heap.get? b = some o → H b = none → (hidT s₁.heap H).get? b = some o := fun e n => hidT_get e n
    have noA : ∀ {b : Addr} {o : Obj} {es : Array DictEntry} {ep : Nat}, s₁.heap.get? b = some o → o.data = .dict es ep → H b = none := fun {b o es ep} e d => by
      cases q : H b with
      | none => rfl
      | some u =>
        have e' : b = a := hA b (by rw [q]; simp)
        subst e'
        rw [ha] at e; cases e
        have d' : Data.seq vs.toArray _ = Data.dict es ep := d
        cases d'
    have nsK : ∀ {b : Addr} {m : Str → Option Value}, s₁.heap.Ns b m → (hidT s₁.heap H).Ns b m := fun {b m} ⟨o, es, ep, e, d, r⟩ => ⟨o, es, ep, base_of e (noA e d), d, r⟩
    have hKb : K.In (hidT s₁.heap H) := fun b o e => base_of (KX b o e) (by
      cases q : H b with
      | none => rfl
      | some u =>
        have e' : b = a := hA b (by rw [q]; simp)
        subst e'
        rw [hK (by rw [q]; simp)] at e; cases e)
    have hM : Mod K mg (hidT s₁.heap H) := ⟨hKb, nsK hns, ⟨mb, nsK hb, hbb⟩, let ⟨mc, h1, h2⟩ := hlim; ⟨mc, nsK h1, h2⟩⟩
    have e0 : Env0 P w K mg (hidT s₁.heap H) callerA [] s₁ H := ⟨rfl, hM, fun b o e => of_hidT e, Nat.le_of_eq (hidT_size _ _), trivial, fun b hb => absurd (show b ∈ ([] : List Addr) from hb) (by simp), hok, .of_eq hg⟩
    refine codeAny_mono ((F _ hKb (nsK hns)).run callerA [] s₁ H ⟨[.ref a], []⟩ [.ref a] [.ref a] _ _ hr e0 (hbind s₁ (.ref a)) (.cons rfl .nil) (hsp H hO hS)) fun r s' h => ?_
    cases r with
    | error e => exact (hCX H e s' h).elim
    | ok fl =>
      cases fl with
      | next => exact False.elim h
      | brk => exact False.elim h
      | cont => exact False.elim h
      | ret u =>
        obtain ⟨v, H', os, bare, un, hok', r', q⟩ := h
        have q' : v = .bl true := q
        subst q'
        obtain rfl : u = Value.bool true := r'
        refine ⟨rfl, OldK.of_keep fun b o e => ?_, os, bare⟩
        cases q : H b with
        | none => exact un.keep b o e q (by intro z; exact absurd (show b ∈ ([] : List Addr) from z) (by simp)) (by simp)
        | some u =>
          rcases hO b with z | ⟨ob, xs, z⟩
          · rw [q] at z; cases z
          · have z2 := un.frzs b ob _ z
            obtain ⟨e1, _⟩ := hok b _ z
            obtain ⟨e2, _⟩ := hok' b _ z2
            rw [e] at e1; cases e1
            exact e2
  cases hk : K.lookup a with
  | some o =>
    have e := KX a o hk
    rw [ha] at e
    cases e
    refine core (fun _ => none) (fun _ => .inl rfl) (.inr ⟨_, vs.toArray, _, hk, rfl, rfl, rfl, by rw [List.size_toArray, lenV]; exact hl, by simpa using rv⟩) (fun b u z => by have z' : (none : Option HO) = some u := z; cases z') (fun b z => absurd rfl z) fun z => absurd rfl z
  | none =>
    refine core (fun b => if b = a then some (.frz { cls := .type "list", data := .seq vs.toArray } (.lst (ns.map V.int))) else none) (fun b => ?_) (.inl (.inr ⟨{ cls := .type "list", data := .seq vs.toArray }, if_pos rfl⟩)) (fun b u z => ?_) (fun b z => ?_) fun _ => hk
    · by_cases hb : b = a
      · exact .inr ⟨_, _, if_pos hb⟩
      · exact .inl (if_neg hb)
    · by_cases hb : b = a
      · have z' := (if_pos hb).symm.trans z
        cases z'
        subst hb
        exact ⟨ha, by rw [List.length_map]; exact hl, vs, _, rv, ha⟩
      · have z' := (if_neg hb).symm.trans z
        cases z'
    · by_cases hb : b = a
      · exact hb
      · exact absurd (if_neg hb) z
end L2

namespace L2
open PySem PySem.Spec PyProof.Rows

abbrev KOf {K : PySem.W.Frag} {h : Heap} (_ : K.In h) : PySem.W.Frag := K

theorem walk_of {l : PySem.W.OpenLaw} {n k : Nat} {q : Program} {loose : List Str} {XP : (Str → Option Value) → Heap → Prop} {YP : World → Heap → Prop} {d : DefRec} {K : Params → PySem.W.Frag} {CX : World → CXT} {sp : World → Sp} {x : Str}
    (hn : l.most = some n) (hn2 : n ≤ sizeLine) (hdf : d.params.defaults = []) (hr : Room k callerA)
    (hY : ∀ (w : World) (h : Heap), YP w h → (K w.params).In h)
    (F : ∀ (w : World) (mg : Str → Option Value) (fa : Addr) (h : Heap), (K w.params).In h → h.Ns mainGlobals mg → mg d.name = some (.ref fa) →
      ∃ fd : FuncData, (∀ (s : Shared) (u : Value), BindsTo s fd ⟨[u], []⟩ [(x, u)]) ∧
        ∀ base : Heap, (K w.params).In base → base.Ns mainGlobals mg → FnOk l.prog w (K w.params) mg base (CX w) k fa fd [x] (sp w))
    (hsp : ∀ (w : World) (H : Hp) (a : Addr) (ns : List Int), ns.length ≤ n → Only H → SqL (K w.params) H a (ns.map V.int) → sp w [.ref a] H (fun v _ => v = .bl true) fun _ _ _ => False)
    (hCX : ∀ (w : World) (H : Hp) (s : Shared) (e : Value) (s' : Shared), CX w [] H s (fun _ _ _ => False) e s' → False) :
    PySem.W.WalkO q loose XP YP l.row.toRowW d [] (fun f vs => PySem.call f vs) := by
  refine Att.attach_call hn hdf fun w s₀ s₁ mg mb fa o pm cd doc a vs ns G Y ho hd hcd hmg hobj hints hlen hg => ?_
  have KX := hY w _ Y
  obtain ⟨fd, hb, hF⟩ := F w mg fa _ KX G.T.g hmg
  exact law_call KX G.T.g G.T.b G.T.builtins G.T.nolimit hg hobj hints (Nat.le_trans hlen hn2) hr hF hb (fun H hO hS => hsp w H a ns hlen hO hS) fun H e s' => hCX w H s₁ e s'
theorem walk_ofK {l : PySem.W.OpenLaw} {n k : Nat} {q : Program} {loose : List Str} {XP : (Str → Option Value) → Heap → Prop} {YP : World → Heap → Prop} {d : DefRec} {K : Params → PySem.W.Frag} {CX : CXT} {sp : PySem.W.Frag → Sp} {x : Str}
    (hn : l.most = some n) (hn2 : n ≤ sizeLine) (hdf : d.params.defaults = []) (hr : Room k callerA)
    (hY : ∀ (w : World) (h : Heap), YP w h → (K w.params).In h)
    (F : ∀ (w : World) (mg : Str → Option Value) (fa : Addr) (h : Heap), (K w.params).In h → h.Ns mainGlobals mg → mg d.name = some (.ref fa) →
      ∃ fd : FuncData, (∀ (s : Shared) (u : Value), BindsTo s fd ⟨[u], []⟩ [(x, u)]) ∧
        ∀ base : Heap, (K w.params).In base → base.Ns mainGlobals mg → FnOk l.prog w (K w.params) mg base CX k fa fd [x] (sp (K w.params)))
    (hsp : ∀ (K : PySem.W.Frag) (H : Hp) (a : Addr) (ns : List Int), ns.length ≤ n → Only H → SqL K H a (ns.map V.int) → sp K [.ref a] H (fun v _ => v = .bl true) fun _ _ _ => False)
    (hCX : ∀ (H : Hp) (s : Shared) (e : Value) (s' : Shared), CX [] H s (fun _ _ _ => False) e s' → False) :
    PySem.W.WalkO q loose XP YP l.row.toRowW d [] (fun f vs => PySem.call f vs) :=
  walk_of (K := K) (CX := fun _ => CX) (sp := fun w => sp (K w.params)) hn hn2 hdf hr hY F (fun w H a ns h1 h2 h3 => hsp (K w.params) H a ns h1 h2 h3) fun _ H s e s' => hCX H s e s'
end L2


namespace L2
open PySem PySem.Spec PyProof.Rows

def defArgs (s : Stmt) : Arguments := match s with
  | .FunctionDef _ a _ _ _ _ _ _ _ _ => a
  | _ => { posonlyargs := [], args := [], vararg := none, kwonlyargs := [], kw_defaults := [], kwarg := none, defaults := [] }
def defBody (s : Stmt) : List Stmt := match s with
  | .FunctionDef _ _ b _ _ _ _ _ _ _ => b
  | _ => []
def defScope (s : Stmt) : Scope := match s with
  | .FunctionDef _ _ _ _ _ _ sc _ _ _ => sc
  | _ => { kind := .function, names := [], isGenerator := false, isCoroutine := false }

abbrev CX0 : CXT := fun _ _ _ _ _ _ => False
abbrev E0 : XK := fun _ _ _ => False
theorem pass0 {X : Cx} : Passes CX0 X E0 := fun _ _ _ _ _ _ _ h => h.elim

structure Fun (K : PySem.W.Frag) (x qual : Str) (st : Stmt) (f : Addr) (fd : FuncData) : Prop where
  ex : ∃ (oc : Value) (od : Option Addr) (kV doc pm : Value) (an : Option Addr) (cdv ct : Value) (osl : Array (Option Value)),
    fd = PySem.W.fnOf x qual (defArgs st) (defBody st) (defScope st) .none kV doc pm an cdv ct ∧ K.lookup f = some ⟨oc, od, .func fd, osl⟩ ∧ PySem.W.codeIn K cdv qual = true
  kp : PySem.W.keepIn K (.ref f) = true
section
variable {P : Program} {w : World} {K : PySem.W.Frag} {mg : Str → Option Value} {base : Heap}
theorem Fun.ok {x qual : Str} {st : Stmt} {f : Addr} {fd : FuncData} {N ps : List Str} {k : Nat} {sp : Sp} (F : Fun K x qual st f fd) (S : FnScope N ps (defScope st)) (len : ∀ vs H Q E, sp vs H Q E → vs.length = ps.length)
    (hbody : ∀ (cdv : Value) (A : Around) (outer : List Env) (s : Shared) (H : Hp) (vs : List V) (Q : VK) (E : XK), Room k (A.deeper (envOfC qual (defScope st) s.heap.objs.size f cdv)) → sp vs H Q E →
      ∃ t, PSs (cxOf CX0 P w K mg base N qual (defScope st) f cdv A outer s H E).nox (defBody st) t ∧ t { nx := fun _ H' => Q .non H', rt := Q } (start N vs) H) : FnOk P w K mg base CX0 (k + 1) f fd ps sp := by
  obtain ⟨oc, od, kV, doc, pm, an, cdv, ct, osl, rfl, lk, hcd⟩ := F.ex
  refine fn_of lk hcd S len fun A outer s H vs Q E hr hsp => ?_
  obtain ⟨t, h, q⟩ := hbody cdv A outer s H vs Q E hr hsp
  exact ⟨t, h.nox, q⟩
theorem Fun.binds {x qual : Str} {st : Stmt} {f : Addr} {fd : FuncData} {ps : List Str} (F : Fun K x qual st f fd)
    (h : ∀ (kV doc pm : Value) (an : Option Addr) (cdv ct : Value) (us : List Value), us.length = ps.length → bindArgs (PySem.W.fnOf x qual (defArgs st) (defBody st) (defScope st) .none kV doc pm an cdv ct) ⟨us, []⟩ = pure (ps.zip us)) : Binds K fd ps [] := by
  obtain ⟨oc, od, kV, doc, pm, an, cdv, ct, osl, rfl, lk, hcd⟩ := F.ex
  exact .all (h kV doc pm an cdv ct)
theorem fun_mk {x qual : Str} {st : Stmt} {f : Addr} {oc : Value} {od an : Option Addr} {osl : Array (Option Value)} {kV doc pm cdv ct : Value} (l : K.lookup f = some ⟨oc, od, .func (PySem.W.fnOf x qual (defArgs st) (defBody st) (defScope st) .none kV doc pm an cdv ct), osl⟩)
    (c : PySem.W.codeIn K cdv qual = true) (k : PySem.W.keepIn K (.ref f) = true) : Fun K x qual st f (PySem.W.fnOf x qual (defArgs st) (defBody st) (defScope st) .none kV doc pm an cdv ct) := ⟨⟨oc, od, kV, doc, pm, an, cdv, ct, osl, rfl, l, c⟩, k⟩
end
section
variable {X : Cx}
end

theorem ite2 {c A B : Prop} [Decidable c] (h1 : c → A) (h2 : ¬ c → B) : if c then A else B := by
  by_cases h : c
  · rw [if_pos h]
    exact h1 h
  · rw [if_neg h]
    exact h2 h
def Same (H H' : Hp) : Prop := ∀ b o, H b = some o → H' b = some o
theorem Same.refl (H : Hp) : Same H H := fun _ _ h => h
theorem Same.trans {H H1 H2 : Hp} (a : Same H H1) (b : Same H1 H2) : Same H H2 := fun c o h => b c o (a c o h)
theorem Same.free {H H' : Hp} (e : Same H H') {l : Addr} (h : H' l = Option.none) : H l = Option.none := by
  cases q : H l with
  | none => rfl
  | some o =>
    rw [e l o q] at h
    cases h
theorem Same.seq {K : PySem.W.Frag} {H H' : Hp} {a : Addr} {xs : List V} (e : Same H H') (h : SqL K H a xs) : SqL K H' a xs := by
  rcases h with (h | ⟨o, h⟩) | h
  · exact .inl (.inl (e _ _ h))
  · exact .inl (.inr ⟨o, e _ _ h⟩)
  · exact .inr h

section
variable {κ : Type} [DecidableEq κ]
end
end L2

set_option Elab.async false
set_option linter.all false
set_option maxRecDepth 100000
set_option maxHeartbeats 4000000
namespace L2
open PySem PySem.Spec PyProof.Rows

def closOf (env : Env) : List (Str × NameKind) → List (Str × Addr) → List (Str × Addr)
  | [], acc => acc
  | (n, k) :: r, acc => if k == .free then (match env.cells.lookup n with
      | some c => closOf env r ((n, c) :: acc)
      | none => closOf env r acc) else closOf env r acc
theorem closOf_ok {env : Env} : ∀ {names : List (Str × NameKind)} {acc : List (Str × Addr)}, (∀ n c, acc.lookup n = some c → env.cells.lookup n = some c) →
    ∀ n c, (closOf env names acc).lookup n = some c → env.cells.lookup n = some c
  | [], acc, h, n, c, e => h n c e
  | (x, k) :: r, acc, h, n, c, e => by
    unfold closOf at e
    split at e
    · split at e
      · rename_i cx hx
        refine closOf_ok (fun y d q => ?_) n c e
        rw [List.lookup_cons] at q
        cases hb : y == x with
        | true => rw [hb] at q; cases q; rw [beq_iff_eq.mp hb]; exact hx
        | false => rw [hb] at q; exact h y d q
      · exact closOf_ok h n c e
    · exact closOf_ok h n c e
theorem closOf_acc {env : Env} : ∀ {names : List (Str × NameKind)} {acc : List (Str × Addr)} {n : Str}, (acc.lookup n).isSome = true → ((closOf env names acc).lookup n).isSome = true
  | [], _, _, h => h
  | (x, k) :: r, acc, n, h => by
    unfold closOf
    split
    · split
      · refine closOf_acc ?_
        rw [List.lookup_cons]
        cases n == x with
        | true => rfl
        | false => exact h
      · exact closOf_acc h
    · exact closOf_acc h
theorem closOf_has {env : Env} : ∀ {names : List (Str × NameKind)} {acc : List (Str × Addr)} {n : Str} {c : Addr}, (n, NameKind.free) ∈ names → env.cells.lookup n = some c → ((closOf env names acc).lookup n).isSome = true
  | [], _, _, _, h, _ => nomatch h
  | (x, k) :: r, acc, n, c, h, e => by
    rcases List.mem_cons.mp h with q | q
    · cases q
      unfold closOf
      rw [if_pos (by rfl), e]
      refine closOf_acc ?_
      rw [List.lookup_cons, beq_self_eq_true]
      rfl
    · unfold closOf
      split
      · split
        · exact closOf_has q e
        · exact closOf_has q e
      · exact closOf_has q e
theorem closureFor_of {scope : Scope} {env : Env} (h : ∀ y ∈ scope.names, y.2 = .free → ∃ c, env.cells.lookup y.1 = some c) : closureFor scope env = pure (closOf env scope.names []) := by
  simp only [closureFor]
  have go : ∀ (names : List (Str × NameKind)) (acc : List (Str × Addr)), (∀ y ∈ names, y.2 = .free → ∃ c, env.cells.lookup y.1 = some c) →
      (forIn names acc (fun x cs => if (x.2 == NameKind.free) = true then (do let a ← cellOf env x.1; pure (ForInStep.yield ((x.1, a) :: cs))) else pure (ForInStep.yield cs)) : Sem (List (Str × Addr))) = pure (closOf env names acc) := by
    intro names
    induction names with
    | nil => intro acc _; rfl
    | cons p r ih =>
      intro acc hh
      obtain ⟨n, k⟩ := p
      rw [List.forIn_cons]
      unfold closOf
      by_cases hk : (k == NameKind.free) = true
      · obtain ⟨c, hc⟩ := hh (n, k) List.mem_cons_self (by simpa using hk)
        have hc' : env.cells.lookup n = some c := hc
        rw [if_pos hk, if_pos hk, hc']
        have e : cellOf env n = pure c := by unfold cellOf; rw [hc']
        simp only [e, pure_bind]
        exact ih _ fun y hy => hh y (List.mem_cons_of_mem _ hy)
      · rw [if_neg hk, if_neg hk]
        simp only [pure_bind]
        exact ih _ fun y hy => hh y (List.mem_cons_of_mem _ hy)
  have := go scope.names [] h
  simpa using this

theorem lookup_relabel {env : Env} : ∀ {names : List (Str × NameKind)} {x : Str},
    (names.map fun (n, k) => if (k == NameKind.free && env.scope.kind == .function && env.kindOf n == some .cell) then (n, NameKind.cell) else (n, k)).lookup x =
      (names.lookup x).map fun k => if (k == NameKind.free && env.scope.kind == .function && env.kindOf x == some .cell) then NameKind.cell else k
  | [], _ => rfl
  | (n, k) :: r, x => by
    have ih := @lookup_relabel env r x
    rw [List.map_cons]
    show List.lookup x ((if (k == NameKind.free && env.scope.kind == .function && env.kindOf n == some .cell) = true then (n, NameKind.cell) else (n, k)) :: _) = _
    cases hx : x == n with
    | true =>
      have e : x = n := beq_iff_eq.mp hx
      subst e
      by_cases hc : (k == NameKind.free && env.scope.kind == .function && env.kindOf x == some .cell) = true
      · rw [if_pos hc, List.lookup_cons, List.lookup_cons, hx]
        simp only [Option.map_some, hc, if_true]
      · rw [if_neg hc, List.lookup_cons, List.lookup_cons, hx]
        simp only [Option.map_some]
        rw [if_neg hc]
    | false =>
      by_cases hc : (k == NameKind.free && env.scope.kind == .function && env.kindOf n == some .cell) = true
      · rw [if_pos hc, List.lookup_cons, List.lookup_cons, hx]; exact ih
      · rw [if_neg hc, List.lookup_cons, List.lookup_cons, hx]; exact ih

theorem comp_loop {prog : Program} {w : World} {A : Around} {R : Result → Shared → Prop} {s : Shared} {elt target iter : Expr} {ifs : List Expr} {scope : Scope} {pos : Pos} {it acc : Value} {env : Env} (I : Nat → Shared → Prop)
    (turn : ∀ n s, I n s → wpAny (model prog w) A (pyNext it) (fun r s₁ => match r with
      | none => R (.ok .next) s₁
      | some v => wpAny (model prog w) A (letOwnedTupleGo target it v) (fun _ s₁' => wpAny (model prog w) A (assign target env v) (fun _ s₂ =>
          wpAny (model prog w) A (forIn ifs true fun c r => if r = true then do let ok ← isTrue c env (eval c env); pure (ForInStep.yield ok) else pure (ForInStep.yield r)) (fun ok s₃ =>
            if ok = true then wpAny (model prog w) A (eval elt env) (fun x s₄ =>
              wpAny (model prog w) A (call (.builtin "list.append") [acc, x]) (fun _ s₅ => ∃ m, m < n ∧ I m s₅) (notedBy (model prog w) A env fun e s' => R (.error e) s') s₄) (notedBy (model prog w) A env fun e s' => R (.error e) s') s₃
            else ∃ m, m < n ∧ I m s₃) (notedBy (model prog w) A env fun e s' => R (.error e) s') s₂) (notedBy (model prog w) A env fun e s' => R (.error e) s') s₁') (notedBy (model prog w) A env fun e s' => R (.error e) s') s₁) (notedBy (model prog w) A env fun e s' => R (.error e) s') s)
    (n : Nat) (h : I n s) :
    codeAny (model prog w) A (.compLoop (.ListComp elt [⟨target, iter, ifs, 0⟩] scope pos) 0 it acc env) R s := by
  refine codeAny_loop rfl I (fun n s hI => ?_) n h
  show wpAny _ A ((compTurn (.ListComp elt [⟨target, iter, ifs, 0⟩] scope pos) 0 it acc env).onRaise (fun x => do noteFrame x env; theTreesLotGoes x)) _ _ s
  refine wpAny_noted ?_
  rw [compTurn_list]
  refine wpAny_bind (wpAny_standAt (wpAny_bind (wpAny_mono (turn n s hI) (fun r s₁ h₁ => ?_) fun _ _ h' => h')))
  cases r with
  | none => exact wpAny_pure h₁
  | some v =>
    refine wpAny_bind (wpAny_mono h₁ (fun _ s₁' h₁' => ?_) fun _ _ h' => h')
    refine wpAny_bind (wpAny_mono h₁' (fun _ s₂ h₂ => wpAny_bind (wpAny_mono h₂ (fun ok s₃ h₃ => ?_) fun _ _ h' => h')) fun _ _ h' => h')
    cases ok with
    | false => exact wpAny_pure ⟨rfl, h₃⟩
    | true =>
      exact wpAny_bind (wpAny_bind (wpAny_mono h₃ (fun x s₄ h₄ => wpAny_bind (wpAny_mono h₄ (fun _ s₅ h₅ => wpAny_pure (wpAny_pure ⟨rfl, h₅⟩)) fun _ _ h' => h')) fun _ _ h' => h'))

def capt (cap : List (Option Nat)) (σ : St) : St := cap.map fun o => o.bind fun i => (σ[i]?).join

def cxComp (X : Cx) (N : List Str) (scope : Scope) (C : Addr) (s : Shared) (H : Hp) (ex : List Addr) : Cx where
  prog := X.prog
  w := X.w
  K := X.K
  mg := X.mg
  base := X.base
  A := X.A
  N := N
  s₀ := s
  H₀ := H
  env := compEnvC scope (closOf X.env scope.names []) C X.env
  outer := X.stack
  stack := X.stack
  ex := ex
  fn := fun _ => false
  calm := X.calm
  pn := []
  xe := fun _ _ => False

structure CompScope (X : Cx) (N : List Str) (cap : List (Option Nat)) (scope : Scope) : Prop where
  kind : scope.kind = .function
  nocell : ∀ y ∈ scope.names, y.2 ≠ .cell
  loc : ∀ y ∈ scope.names, y.2 = .local → scope.names.lookup y.1 = some .local
  fre : ∀ y ∈ scope.names, y.2 = .free → X.env.scope.names.lookup y.1 = some .cell ∨ X.env.scope.names.lookup y.1 = some .free
  nd : N.Nodup
  len : cap.length = N.length
  cap : ∀ (j i : Nat), cap[j]? = some (some i) → ∃ y, N[j]? = some y ∧ X.N[i]? = some y ∧ scope.names.lookup y = some .free
def compChk (outer : List (Str × NameKind)) (N0 N : List Str) (cap : List (Option Nat)) (names : List (Str × NameKind)) : Bool :=
  names.all (fun y => y.2 != .cell && (y.2 != .local || names.lookup y.1 == some .local) && (y.2 != .free || outer.lookup y.1 == some .cell || outer.lookup y.1 == some .free)) &&
  decide N.Nodup && cap.length == N.length &&
  (List.range cap.length).all fun j => match cap[j]? with
    | some (some i) => (match N[j]? with
      | some y => N0[i]? == some y && names.lookup y == some .free
      | none => false)
    | _ => true
theorem CompScope.of {X : Cx} {N : List Str} {cap : List (Option Nat)} {scope : Scope} (hk : scope.kind = .function) (h : compChk X.env.scope.names X.N N cap scope.names = true) : CompScope X N cap scope := by
  unfold compChk at h
  simp only [Bool.and_eq_true, List.all_eq_true, decide_eq_true_eq, beq_iff_eq] at h
  obtain ⟨⟨⟨h1, h2⟩, h3⟩, h4⟩ := h
  refine ⟨hk, fun y hy e => ?_, fun y hy e => ?_, fun y hy e => ?_, h2, h3, fun j i e => ?_⟩
  · have := (h1 y hy).1.1
    rw [e] at this
    exact absurd this (by decide)
  · have := (h1 y hy).1.2
    rw [e] at this
    simpa using this
  · have := (h1 y hy).2
    rw [e] at this
    simpa using this
  · have hj : j < cap.length := (List.getElem?_eq_some_iff.mp e).1
    have := h4 j (List.mem_range.mpr hj)
    rw [e] at this
    dsimp only at this
    cases q : N[j]? with
    | none => rw [q] at this; exact absurd this Bool.false_ne_true
    | some y =>
      rw [q] at this
      simp only [Bool.and_eq_true, beq_iff_eq] at this
      exact ⟨y, rfl, this.1, this.2⟩

theorem getElem?_capt {cap : List (Option Nat)} {σ : St} {j : Nat} {v : V} (h : (capt cap σ)[j]? = some (some v)) : ∃ i, cap[j]? = some (some i) ∧ σ[i]? = some (some v) := by
  unfold capt at h
  rw [List.getElem?_map] at h
  cases e : cap[j]? with
  | none => rw [e] at h; cases h
  | some o =>
    rw [e] at h
    cases o with
    | none => simp at h
    | some i =>
      refine ⟨i, rfl, ?_⟩
      simp only [Option.map_some, Option.bind_some, Option.some.injEq] at h
      cases q : σ[i]? with
      | none => rw [q] at h; simp at h
      | some z => rw [q] at h; simp at h; rw [h]

theorem inv_comp {X : Cx} {pins : List (Addr × Obj)} {σ : St} {H : Hp} {s : Shared} {N : List Str} {cap : List (Option Nat)} {scope : Scope} {ex : List Addr} {h₁ : Heap} {tk : Nat} {C : Addr} (S : CompScope X N cap scope) (I : Inv X pins σ H s) (hC : s.heap.objs.size ≤ C)
    (hns : h₁.Ns C (fun _ => none)) (hk : ∀ b o, s.heap.get? b = some o → h₁.get? b = some o) (hex : ∀ b ∈ ex, b < s.heap.objs.size ∧ FpOk X pins H b) :
    Inv (cxComp X N scope C s H ex) [] (capt cap σ) H { s with heap := h₁, toks := tk } := by
  have hcl : ∀ n c, (closOf X.env scope.names []).lookup n = some c → X.env.cells.lookup n = some c := closOf_ok (fun n c e => by simp at e)
  have cne : ∀ x c, (closOf X.env scope.names []).lookup x = some c → c < s.heap.objs.size := fun x c e => by
    obtain ⟨v, q⟩ := I.cell x c (hcl x c e)
    exact q.lt
  have nob : ∀ b o, X.base.get? b = some o → b ∉ ex := fun b o e hb => by
    obtain ⟨hlt, f0, f1, f2, f3, f4, f5⟩ := hex b hb
    rcases f3 with z | z
    · exact I.ok.noex b o e z
    · exact absurd (Nat.lt_of_lt_of_le (Heap.lt_size e) (Nat.le_trans I.ok.bsz z)) (Nat.lt_irrefl _)
  refine ⟨⟨I.ok.mod, ?_, I.ok.glob, I.ok.blt, hC, fun x y c h1 h2 => I.ok.inj x y c (hcl x c h1) (hcl y c h2), fun x hx => ?_, fun x c hf _ => ?_, I.ok.hd, I.ok.frames, .inl rfl, fun b hb => ?_, fun b o e => I.bs b o e, Nat.le_trans I.ok.bsz I.sz, nob, fun b hb => ?_, I.stack, I.stkFree⟩,
    rfl, I.bare, Un.kept hk, ⟨_, hns, fun j y v h1 h2 h3 => ?_⟩, fun x c e => ?_, I.hok.fresh hC, fun x c e => ?_, fun p hp => absurd (show p ∈ ([] : List (Addr × Obj)) from hp) (by simp), I.hok.kept hk, ?_⟩
  · exact S.kind
  · have hx : (relabel scope X.env).names.lookup x = some .cell ∨ (relabel scope X.env).names.lookup x = some .free := hx
    unfold relabel at hx
    simp only [lookup_relabel] at hx
    cases q : scope.names.lookup x with
    | none => rw [q] at hx; simp at hx
    | some k =>
      have hm := PySem.mem_of_lookup q
      have hkf : k = .free := by
        rw [q] at hx
        simp only [Option.map_some, Option.some.injEq] at hx
        by_cases z : (k == NameKind.free && X.env.scope.kind == .function && X.env.kindOf x == some .cell) = true
        · have : (k == NameKind.free) = true := by
            rw [Bool.and_eq_true, Bool.and_eq_true] at z
            exact z.1.1
          exact beq_iff_eq.mp this
        · rw [if_neg z] at hx
          rcases hx with hx | hx
          · exact absurd hx (S.nocell _ hm)
          · exact hx
      subst hkf
      obtain ⟨c, hc⟩ := I.ok.has x (S.fre _ hm rfl)
      exact Option.isSome_iff_exists.mp (closOf_has hm hc)
  · exact absurd (show false = true from hf) Bool.false_ne_true
  · obtain ⟨hlt, _⟩ := hex b hb
    refine ⟨Nat.ne_of_lt (Nat.lt_of_lt_of_le hlt hC), fun x c e z => ?_⟩
    exact (hex b hb).2.2.2.2.2.1 x c (hcl x c e) z
  · intro hb2
    rcases List.mem_cons.mp (I.stkSub b hb2) with e | e
    · exact (hex b hb).2.2.1 e
    · exact (hex b hb).2.2.2.1 e
  · obtain ⟨i, e1, e2⟩ := getElem?_capt h2
    obtain ⟨y', e3, e4, e5⟩ := S.cap j i e1
    rw [show N[j]? = some y from h1] at e3
    cases e3
    obtain ⟨m, _, hl⟩ := I.loc
    have hm := PySem.mem_of_lookup e5
    have hv : Vis X.env.scope y := by
      rcases S.fre _ hm rfl with z | z
      · exact .inr (.inl z)
      · exact .inr (.inr z)
    obtain ⟨u, r, l⟩ := hl i y v e4 e2 hv
    refine ⟨u, r, .inr ⟨?_, ?_⟩⟩
    · show (relabel scope X.env).names.lookup y = some .cell ∨ (relabel scope X.env).names.lookup y = some .free
      unfold relabel
      simp only [lookup_relabel, e5, Option.map_some, Option.some.injEq]
      split
      · exact .inl rfl
      · exact .inr rfl
    · rcases l with ⟨hk2, _⟩ | ⟨_, c, hc, hcell⟩
      · rcases S.fre _ hm rfl with z | z
        · rw [show X.env.kindOf y = some .cell from z] at hk2; cases hk2
        · rw [show X.env.kindOf y = some .free from z] at hk2; cases hk2
      · refine ⟨c, ?_, hcell.keeps hk⟩
        obtain ⟨c', hc'⟩ := Option.isSome_iff_exists.mp (closOf_has (acc := []) hm hc)
        have := hcl y c' hc'
        rw [hc] at this
        cases this
        exact hc'
  · obtain ⟨v, q⟩ := I.cell x c (hcl x c e)
    exact ⟨v, q.keeps hk⟩
  · exact I.freeC x c (hcl x c e)
  · show (capt cap σ).length = N.length
    unfold capt
    rw [List.length_map]
    exact S.len

def Gath (J : It) (cap : List (Option Nat)) (g : TG) (tc : TT) (te : TE) (Q : Addr → Hp → Prop) (σ : St) (H : Hp) : Prop :=
  ∃ W : Nat → Nat → List V → St → Hp → Prop, (∃ m, W 0 m [] (capt cap σ) H) ∧ ∀ i m ys σ' H', W i m ys σ' H' →
    (J.stop i H' ∧ ys.length ≤ sizeLine ∧ ∀ D, H' D = none → Q D (upd H' D (.lst ys))) ∨ (J.go i H' ∧ ys.length < sizeLine ∧ ∃ N : List V → St → Hp → Prop, (∀ ys2 σ2 H2, N ys2 σ2 H2 → ∃ m', m' < m ∧ W (i + 1) m' ys2 σ2 H2) ∧
      ∀ x H2, J.yld i H' x H2 → g x σ' H2 fun σ3 H3 => tc σ3 H3 fun b H4 => if b = true then te σ3 H4 fun y H5 => N (ys ++ [y]) σ3 H5 else N ys σ3 H4)
def tComp (cap : List (Option Nat)) (wi : TI) (g : TG) (tc : TT) (te : TE) (Q : Addr → Hp → Prop) : St → Hp → Prop := fun σ H => wi σ H fun J H1 => Gath J cap g tc te Q σ H1

def tTrue : TT := fun _ H Q => Q true H
def PTs (X : Cx) (ifs : List Expr) (t : TT) : Prop :=
  ∀ (pins : List (Addr × Obj)) (s : Shared) (σ : St) (H : Hp) (Q : Bool → Hp → Prop), Inv X pins σ H s → t σ H Q →
    wpAny (model X.prog X.w) X.A (forIn ifs true fun c r => if r = true then do let ok ← isTrue c X.env (eval c X.env); pure (ForInStep.yield ok) else pure (ForInStep.yield r)) (TP X pins σ Q) X.xe s
theorem pts_nil {X : Cx} : PTs X [] tTrue := fun pins s σ H Q I h => wpAny_tests_nil ⟨H, I, h⟩
theorem HOk.add {P : Program} {w : World} {H : Hp} {h : Heap} {a : Addr} {o : HO} (x : HOk P w H h) (hn : H a = none) (new : ObjOk P w (upd H a o) h a o) : HOk P w (upd H a o) h := fun b u e => by
  by_cases hb : b = a
  · subst hb; rw [upd_same] at e; cases e; exact new
  · rw [upd_ne hb] at e
    exact (x b u e).stay (fun c v _ q => q) (fun c q => by rw [upd_ne (ne_of_none q hn)]; exact q) fun c xs q => by rw [upd_ne (ne_of_none q hn)]; exact q
theorem Un.add {fs ex : List Addr} {H H1 : Hp} {h h1 : Heap} {a : Addr} {o : HO} (u : Un fs ex H H1 h h1) (ha : h.objs.size ≤ a) (hn : H1 a = none) : Un fs ex H (upd H1 a o) h h1 where
  keep := u.keep
  slot := u.slot
  free := fun b ob q n hx => by rw [upd_ne (Nat.ne_of_lt (Nat.lt_of_lt_of_le (Heap.lt_size q) ha))]; exact u.free b ob q n hx
  there := u.there
  tups := fun b xs q => by
    have q' := u.tups b xs q
    rw [upd_ne (ne_of_none q' hn)]; exact q'
  frzs := fun b ob xs q => by
    have q' := u.frzs b ob xs q
    rw [upd_ne (ne_of_none q' hn)]; exact q'
  tbls := fun b ps q => by
    obtain ⟨m, q'⟩ := u.tbls b ps q
    exact ⟨m, by rw [upd_ne (ne_of_none q' hn)]; exact q'⟩

abbrev lobj (its : List Value) (k : Nat) : Obj := { cls := .type "list", data := .seq its.toArray k }

theorem comp_block {X : Cx} {pins : List (Addr × Obj)} {σ : St} {H : Hp} {s : Shared} {N : List Str} {cap : List (Option Nat)} {scope : Scope} {elt target iter : Expr} {ifs : List Expr} {pos : Pos} {g : TG} {tc : TT} {te : TE} {J : It} {fp : List Addr} {it : Addr} {tn : Nat → Heap → Prop}
    {Q : Addr → Hp → Prop} {RR : Value → Addr → Result → Shared → Prop} {E : Value → Shared → Prop} (hc : X.calm = true) (S : CompScope X N cap scope) (I : Inv X pins σ H s) (T : Turn X.prog X.w X.K target J fp it tn) (st : tn 0 s.heap) (fo : ∀ b ∈ fp, FpOk X pins H b)
    (hg : ∀ C s₀ H₀, PG (cxComp X N scope C s₀ H₀ fp) target g) (ht : ∀ C s₀ H₀, PTs (cxComp X N scope C s₀ H₀ fp) ifs tc) (he : ∀ C s₀ H₀, PE (cxComp X N scope C s₀ H₀ fp) elt te)
    (h : Gath J cap g tc te Q σ H)
    (hRR : ∀ D C s' H', Inv X pins σ H' s' → Q D H' → (∃ m, s'.heap.Ns C m) → H' C = none → X.s₀.heap.objs.size ≤ C → C ≠ X.env.locals → (∀ x c, X.env.cells.lookup x = some c → c ≠ C) → (∀ p ∈ X.pn ++ pins, p.1 ≠ C) → RR (.ref D) C (.ok .next) s') :
    wpAny (model X.prog X.w) X.A (newList []) (fun acc s₃ => wpAny (model X.prog X.w) X.A (newFunctionEnv scope X.env.globals (closOf X.env scope.names []) [] X.env.qual none .none (some X.env)) (fun cenv s₄ =>
      codeAny (model X.prog X.w) X.A (.compStart (.ListComp elt [⟨target, iter, ifs, 0⟩] scope pos) 0 (.ref it) acc { cenv with scope := relabel scope X.env }) (RR acc cenv.locals) s₄) E s₃) E s := by
  have hfr : ∀ a, s.heap.objs.size ≤ a → H a = none := fun a ha => I.hok.fresh ha
  obtain ⟨W, ⟨m0, w0⟩, turn⟩ := h
  have fol : ∀ b ∈ fp, b < s.heap.objs.size := fun b hb => by
    obtain ⟨o, ho, _⟩ := T.obj 0 _ st b hb
    exact Heap.lt_size ho
  have clt : ∀ x c, X.env.cells.lookup x = some c → c < s.heap.objs.size := fun x c e => by
    obtain ⟨v, q⟩ := I.cell x c e
    exact q.lt
  refine wpAny_newObj_type (wpAny_newFunctionEnv S.nocell (by intro y hy; simp at hy) (fun h₁ hns₁ hsb₁ => ?_) S.kind)
  dsimp only at hns₁ hsb₁ ⊢
  generalize hD : s.heap.objs.size = D at *
  generalize hH3 : s.heap.push { cls := .type "list", data := .seq ([] : List Value).toArray } = H3 at *
  have hC : H3.objs.size = D + 1 := by rw [← hH3, Heap.size_push, hD]
  have keep3 : ∀ b o, s.heap.get? b = some o → H3.get? b = some o := fun b o e => by rw [← hH3]; exact Heap.get?_push_of_some _ e
  have keep4 : ∀ b o, H3.get? b = some o → h₁.get? b = some o := fun b o e => hsb₁.extBut b o (Nat.ne_of_lt (Heap.lt_size e)) (Heap.get?_push_of_some _ e)
  have D4 : h₁.get? D = some (lobj [] 0) := keep4 _ _ (by rw [← hH3, ← hD]; exact Heap.get?_push_size _ rfl)
  generalize hCC : H3.objs.size = C at *
  have hDC : D < C := by omega
  have hDC' : D ≤ C := Nat.le_of_lt hDC
  have hL : X.env.locals < D := by rw [← hD]; exact I.lt
  have I4 : Inv (cxComp X N scope C s H fp) [] (capt cap σ) H { s with heap := h₁, toks := s.toks + ([] : List (Str × Value)).length } :=
    inv_comp S I (by omega) hns₁ (fun b o e => keep4 b o (keep3 b o e)) fun b hb => ⟨by rw [hD]; exact fol b hb, fo b hb⟩
  have fp4 : ∀ {H' : Hp} {ob : Obj}, (∀ b ∈ fp, H' b = none) → ∀ b ∈ fp, FpOk (cxComp X N scope C s H fp) [(D, ob)] H' b := fun {H' ob} hn b hb => by
    obtain ⟨f0, f1, f2, f3, f4, f5⟩ := fo b hb
    have hlt := fol b hb
    refine ⟨hn b hb, ?_, fun z => ?_, .inl hb, fun x c e => f4 x c (closOf_ok (fun n c e => by simp at e) x c e), fun p hp => ?_⟩
    · exact Nat.ne_of_lt (Nat.lt_of_lt_of_le hlt hDC')
    · rcases List.mem_cons.mp (I.stkSub b z) with e | e
      · exact f1 e
      · exact f2 e
    · have hp' : p ∈ [(D, ob)] := hp
      rw [List.mem_singleton.mp hp']
      exact Nat.ne_of_gt hlt
  have st4 : tn 0 h₁ := T.keep _ _ _ st fun b hb o e => keep4 b o (keep3 b o e)
  have nfs : D ∉ (cxComp X N scope C s H fp).fs := fun z => by
    rcases List.mem_cons.mp (I.stkSub D z) with e | e
    · exact Nat.ne_of_gt hL e
    · exact I.nofs (Nat.le_of_eq hD) e
  have pinD : ∀ {σ' : St} {H' : Hp} {s' : Shared} {ob : Obj}, Inv (cxComp X N scope C s H fp) [] σ' H' s' → H' D = none → s'.heap.get? D = some ob → (∀ v, ob.data ≠ .cell v) → Inv (cxComp X N scope C s H fp) [(D, ob)] σ' H' s' := fun {σ' H' s' ob} J hn e nc =>
    J.pins_of fun p hp => by
      rw [List.mem_singleton.mp hp]
      exact ⟨e, hn, Nat.ne_of_lt hDC, nfs, nc⟩
  have loop : ∀ s₄ : Shared, s₄ = { s with heap := h₁, toks := s.toks + ([] : List (Str × Value)).length } →
      codeAny (model X.prog X.w) X.A (.compLoop (.ListComp elt [⟨target, iter, ifs, 0⟩] scope pos) 0 (.ref it) (.ref D) (compEnvC scope (closOf X.env scope.names []) C X.env)) (RR (.ref D) C) s₄ := by
    rintro s₄ rfl
    refine comp_loop (fun n s' => ∃ i ys its k σ' H', Inv (cxComp X N scope C s H fp) [(D, lobj its k)] σ' H' s' ∧ Vals ys its ∧ tn i s'.heap ∧ (∀ b ∈ fp, H' b = none) ∧ W i n ys σ' H') ?_ m0
      ⟨0, [], [], 0, _, _, pinD I4 (hfr D (Nat.le_refl _)) D4 (fun v z => by cases z), .nil, st4, fun b hb => (fo b hb).1, w0⟩
    rintro n s5 ⟨i, ys, its, k, σ5, H5, I5, rv5, st5, fr5, w5⟩
    have hpin := I5.pin (D, lobj its k) (List.mem_append_right _ List.mem_cons_self)
    rcases turn i n ys σ5 H5 w5 with ⟨stop, hz, q⟩ | ⟨go, hz, NN, hNN, step⟩
    · refine thn (T.done (cxComp X N scope C s H fp) rfl rfl rfl hc i _ s5 σ5 H5 _ I5 (fp4 fr5) st5 stop) fun r s6 ⟨hr, I6⟩ => ?_
      subst hr
      have p6 := I6.pin (D, lobj its k) (List.mem_append_right _ List.mem_cons_self)
      have I7 : Inv X pins σ (upd H5 D (.lst ys)) s6 := I.call' (ch := fp) I6.os (I6.base.add (Nat.le_of_eq hD) p6.2.1) (I6.hok.add p6.2.1 ⟨hz, its, k, rv5, p6.1⟩) I6.bare fun b hb => by
        obtain ⟨f0, f1, f2, f3, f4, f5⟩ := fo b hb
        exact ⟨f3, f1, f4, f5⟩
      obtain ⟨m6, hn6, _⟩ := I6.loc
      refine hRR _ C s6 _ I7 (q D p6.2.1) ⟨m6, hn6⟩ ?_ ?_ ?_ ?_ ?_
      · rw [upd_ne (Nat.ne_of_gt hDC)]; exact I6.free
      · exact Nat.le_trans (by rw [← hD]; exact I.sz) hDC'
      · exact Nat.ne_of_gt (Nat.lt_of_lt_of_le hL hDC')
      · intro x c e z
        exact Nat.ne_of_lt (Nat.lt_of_lt_of_le (clt x c e) hDC') z
      · intro p hp z
        have h6 := Heap.lt_size (I.pin p hp).1
        rw [hD] at h6
        exact Nat.ne_of_lt (Nat.lt_of_lt_of_le h6 hDC') z
    · refine thn (T.item (cxComp X N scope C s H fp) rfl rfl rfl hc i _ s5 σ5 H5 _ I5 (fp4 fr5) st5 go) fun r s6 ⟨u, hr, h6⟩ => ?_
      subst hr
      refine thn h6 fun _ s7 ⟨x, H7, I7, r7, y7, st7, fr7⟩ => ?_
      have I7' := I7.pinned (fp4 fr7) (T.obj _ _ st7)
      have kept : ∀ {σ8 : St} {H8 : Hp} {s8 : Shared}, Inv (cxComp X N scope C s H fp) ([(D, lobj its k)] ++ pinsAt fp s7.heap) σ8 H8 s8 → tn (i + 1) s8.heap ∧ ∀ b ∈ fp, H8 b = none := fun {σ8 H8 s8} I8 =>
        ⟨T.keep _ _ _ st7 fun b hb o e => (I8.pin (b, o) (List.mem_append_right _ (List.mem_append_right _ (mem_pinsAt hb e)))).1, fun b hb => by
          obtain ⟨o, e, d⟩ := T.obj _ _ st7 b hb
          exact (I8.pin (b, o) (List.mem_append_right _ (List.mem_append_right _ (mem_pinsAt hb e)))).2.1⟩
      refine wpAny_mono (hg C s H _ s7 σ5 H7 x u _ I7' r7 (step x H7 y7)) (fun _ s8 ⟨σ8, H8, I8, q8⟩ => ?_) fun _ _ f => f.elim
      refine wpAny_mono (ht C s H _ s8 σ8 H8 _ I8 q8) (fun ok s9 ⟨H9, I9, q9⟩ => ?_) fun _ _ f => f.elim
      cases ok with
      | false =>
        rw [if_neg Bool.false_ne_true] at q9 ⊢
        obtain ⟨m', hm, w9⟩ := hNN _ _ _ q9
        exact ⟨m', hm, i + 1, ys, its, k, σ8, H9, I9.unpinned, rv5, (kept I9).1, (kept I9).2, w9⟩
      | true =>
        rw [if_pos rfl] at q9 ⊢
        refine wpAny_mono (he C s H _ s9 σ8 H9 _ I9 q9) (fun y s10 ⟨yv, H10, I10, r10, n10⟩ => ?_) fun _ _ f => f.elim
        obtain ⟨m', hm, w10⟩ := hNN _ _ _ n10
        obtain ⟨k10, f10⟩ := kept I10
        have p10 := I10.pin (D, lobj its k) (List.mem_append_right _ (List.mem_append_left _ List.mem_cons_self))
        have hlen := rv5.length
        refine wpAny_list_append_plain (hsz := by rw [List.size_toArray]; omega) (show s10.heap.PlainList D its.toArray from ⟨k, p10.1⟩) fun h11 hl11 hsb11 => ?_
        obtain ⟨k11, e11⟩ := hl11
        have J0 : Inv (cxComp X N scope C s H fp) [] σ8 H10 s10 := I10.pins_of fun p hp => nomatch hp
        have J1 : Inv (cxComp X N scope C s H fp) [] σ8 H10 { s10 with heap := h11 } := J0.turned (t' := s10.toks) (fun b o hb e => hsb11.extBut b o hb e) p10.2.1 (Nat.ne_of_lt hDC) (.inr (Nat.le_of_eq hD)) (fun x c e z => Nat.ne_of_lt (clt x c (closOf_ok (fun n c e => by simp at e) x c e)) z) fun p hp => nomatch (show p ∈ ([] : List (Addr × Obj)) from hp)
        have e12 : h11.get? D = some (lobj (its ++ [y]) k11) := by rw [e11]; simp [lobj]
        refine ⟨m', hm, i + 1, ys ++ [yv], its ++ [y], k11, σ8, H10, pinD J1 p10.2.1 e12 (fun v z => by cases z), rv5.append (.cons r10 .nil), ?_, f10, w10⟩
        exact T.keep _ _ _ k10 fun b hb o e => hsb11.extBut b o (Nat.ne_of_lt (fol b hb)) e
  refine codeAny_compStart_list (loop _ ?_) (T.self X.A 0 _ _ _ ?_ (loop _ ?_))
  · rfl
  · exact st4
  · rfl

theorem pe_comp {X : Cx} {N : List Str} {cap : List (Option Nat)} {scope : Scope} {elt target iter : Expr} {ifs : List Expr} {pos : Pos} {wi : TI} {g : TG} {tc : TT} {te : TE} (hc : X.calm = true) (S : CompScope X N cap scope) (hi : PI X target iter wi)
    (hg : ∀ C s₀ H₀ ex, PG (cxComp X N scope C s₀ H₀ ex) target g) (ht : ∀ C s₀ H₀ ex, PTs (cxComp X N scope C s₀ H₀ ex) ifs tc) (he : ∀ C s₀ H₀ ex, PE (cxComp X N scope C s₀ H₀ ex) elt te)
    (hs : ∀ x, foldedSetIterable iter X.env x = pure x := by intro _; rfl) :
    PE X (.ListComp elt [⟨target, iter, ifs, 0⟩] scope pos) (fun σ H Q => tComp cap wi g tc te (fun D H' => Q (.ref D) H') σ H) := by
  intro pins s σ H Q I h
  have hclos : closureFor scope X.env = pure (closOf X.env scope.names []) := closureFor_of fun y hy hf => I.ok.has y.1 (S.fre y hy hf)
  rw [eval_ListComp]
  refine wpAny_comprehension_free (use := none) rfl hs hclos S.kind S.loc (thn (hi pins s σ H _ I h) fun xv s1 h1 => thn h1 fun itv s2 h2 => ?_)
  obtain ⟨it, fp, tn, J, H2, e, I2, T, st2, f2, q2⟩ := h2
  subst e
  refine comp_block (RR := fun acc C => compPost (model X.prog X.w) X.A X.xe none (EP X pins σ Q) acc C) hc S I2 T st2 f2 (fun C s₀ H₀ => hg C s₀ H₀ fp) (fun C s₀ H₀ => ht C s₀ H₀ fp) (fun C s₀ H₀ => he C s₀ H₀ fp) q2 ?_
  intro D C s' H' I' q ⟨m, hn⟩ hf hsz hL hcell hpin
  refine ⟨m, hn, fun h' hsb => ⟨.ref D, H', ?_, rfl, q⟩⟩
  exact I'.turned (t' := s'.toks) (fun b o hb e => hsb.extBut b o hb e) hf hL (.inr hsz) hcell hpin

theorem ps_comp {X : Cx} {N : List Str} {cap : List (Option Nat)} {scope : Scope} {elt target iter : Expr} {ifs : List Expr} {pos pos' spos : Pos} {wi : TI} {g : TG} {tc : TT} {te : TE} {i : Nat} {x : Str} (hc : X.calm = true) (S : CompScope X N cap scope) (hi : PI X target iter wi)
    (hg : ∀ C s₀ H₀ ex, PG (cxComp X N scope C s₀ H₀ ex) target g) (ht : ∀ C s₀ H₀ ex, PTs (cxComp X N scope C s₀ H₀ ex) ifs tc) (he : ∀ C s₀ H₀ ex, PE (cxComp X N scope C s₀ H₀ ex) elt te)
    (hN : X.N.Nodup) (hix : X.N[i]? = some x) (hx : X.env.scope.names.lookup x = some .local) (hsw : swapsWith (.ListComp elt [⟨target, iter, ifs, 0⟩] scope pos) (some (.Name x pos')) spos.line X.env = pure true := by rfl)
    (hs : ∀ x, foldedSetIterable iter X.env x = pure x := by intro _; rfl) :
    PS X (.Assign [.Name x pos'] (.ListComp elt [⟨target, iter, ifs, 0⟩] scope pos) spos) (fun D σ H => tComp cap wi g tc te (fun d H' => D.nx (σ.set i (some (.ref d))) H') σ H) := by
  intro pins s σ H D I h
  have hclos : closureFor scope X.env = pure (closOf X.env scope.names []) := closureFor_of fun y hy hf => I.ok.has y.1 (S.fre y hy hf)
  rw [exec_Assign_Name_used _ _ _ _ hsw]
  refine wpAny_bind (wpAny_standAt (wpAny_bind ?_))
  show wpAny _ X.A (do let _ ← comprehension (.ListComp elt [⟨target, iter, ifs, 0⟩] scope pos) scope X.env _ (newList []) false (eval iter X.env) (some (assign (.Name x pos') X.env))) _ _ s
  refine wpAny_bind (wpAny_mono (wpAny_comprehension_free (use := some (assign (.Name x pos') X.env)) (Q := fun _ s' => SP X pins D .next s') rfl hs hclos S.kind S.loc
    (thn (hi pins s σ H _ I h) fun xv s1 h1 => thn h1 fun itv s2 h2 => ?_)) (fun _ s' hq => wpAny_pure (wpAny_pure hq)) fun _ _ e => e)
  obtain ⟨it, fp, tn, J, H2, e, I2, T, st2, f2, q2⟩ := h2
  subst e
  refine comp_block (RR := fun acc C => compPost (model X.prog X.w) X.A X.xe (some (assign (.Name x pos') X.env)) (fun _ s' => SP X pins D .next s') acc C) hc S I2 T st2 f2 (fun C s₀ H₀ => hg C s₀ H₀ fp) (fun C s₀ H₀ => ht C s₀ H₀ fp) (fun C s₀ H₀ => he C s₀ H₀ fp) q2 ?_
  intro d C s' H' I' q ⟨m, hn⟩ hf hsz hL hcell hpin
  show wpAny _ X.A (assign (.Name x pos') X.env (.ref d)) _ _ s'
  refine wpAny_assign_Name (store_ok2 I' hN hix (.inl hx) (show RelV (.ref d) (.ref d) from rfl) (fun s'' I'' ⟨a, hsb, ha⟩ => ?_) (.inr hx))
  have hCa : C ≠ a := by
    rcases ha with z | z
    · rw [z]; exact hL
    · exact fun w => hcell x a z w.symm
  refine ⟨m, hn.sameBut hsb hCa, fun h' hsb' => ⟨_, H', ?_, q⟩⟩
  exact I''.turned (t' := s''.toks) (fun b o hb e => hsb'.extBut b o hb e) hf hL (.inr hsz) hcell hpin
end L2

set_option Elab.async false
set_option linter.all false
set_option maxRecDepth 100000
set_option maxHeartbeats 4000000
namespace L2
open PySem PySem.Spec PyProof.Rows

def Its (x : Str) : It := ⟨fun i _ => i < x.cps.size, fun i H v H' => H' = H ∧ ∃ c, x.cps[i]? = some c ∧ v = .str ⟨#[c]⟩, fun i _ => i = x.cps.size⟩
theorem turn_str {P : Program} {w : World} {K : PySem.W.Frag} {tg : Expr} (ty : String) (it : Addr) (x : Str) (t : Tok)
    (hw : ∀ A' : Around, A'.handled = none → Walks P w A' it [it] [it] x.cps.size (SignAt x) (fun i h => h.IsStrIter it ty x t i))
    (hself : ∀ (A : Around) (i : Nat) (s : Shared) (Q : Value → Shared → Prop) (E : Value → Shared → Prop), s.heap.IsStrIter it ty x t i → Q (.ref it) s → wpAny (model P w) A (pyIter (.ref it)) Q E s)
    (hn : ["enumerate", "zip", "dict_itemiterator", "dict_reverseitemiterator", "odict_iterator", "itertools.zip_longest", "itertools.pairwise"].contains ty = false) :
    Turn P w K tg (Its x) [it] it (fun i h => h.IsStrIter it ty x t i) where
  mem := by simp
  obj := fun i h st b hb => by
    have e : b = it := by simpa using hb
    subst e
    obtain ⟨o, e, c, d⟩ := st
    exact ⟨o, e, fun v z => by rw [d] at z; cases z⟩
  keep := fun i h h' st k => let ⟨o, e, r⟩ := st; ⟨o, k it (by simp) o e, r⟩
  item := by
    intro X hP hw' hK hc i pins s σ H E I hf st hg
    subst hP hw' hK
    obtain ⟨f0, f1, f2, f3, f4, f5⟩ := hf it (by simp)
    refine (hw X.A (I.ok.hd hc)).item i s _ _ hg st fun v h' tk hv st' kk => ?_
    obtain ⟨c, u, hc', rfl⟩ := hv
    have I1 : Inv X pins σ H { s with heap := h', toks := tk } := I.turned (fun b o hb e => kk b o (by simpa using hb) e) f0 f1 f3 f4 f5
    obtain ⟨o, e, cc, d⟩ := id st'
    exact ⟨_, rfl, go_of (s := { s with heap := h', toks := tk }) e cc d hn ⟨.str ⟨#[c]⟩, H, I1, ⟨u, rfl⟩, ⟨rfl, c, hc', rfl⟩, st', fun b hb => (hf b hb).1⟩⟩
  done := by
    intro X hP hw' hK hc i pins s σ H E I hf st hg
    subst hP hw' hK
    obtain ⟨f0, f1, f2, f3, f4, f5⟩ := hf it (by simp)
    have hg' : i = x.cps.size := hg
    subst hg'
    exact (hw X.A (I.ok.hd hc)).done s _ _ st fun h' tk kk => ⟨rfl, I.turned (fun b o hb e => kk b o (by simpa using hb) e) f0 f1 f3 f4 f5⟩
  self := hself
section
variable {X : Cx}
theorem op_le_str : OpR X (compareOp .LtE) (fun x y H Q => ∃ i j, x = .str i ∧ y = .str j ∧ Q (.bl (!decide (j.cps.toList < i.cps.toList))) H) := by
  intro pins s σ H x y v u Q I r1 r2 h
  obtain ⟨i, j, rfl, rfl, q⟩ := h
  obtain ⟨t, rfl⟩ := r1
  obtain ⟨t', rfl⟩ := r2
  exact PySem.P.le_str ⟨.bl _, H, I, rfl, q⟩
theorem op_mul_str : OpR X (binaryOp .Mult) (fun x y H Q => ∃ z n, x = .str z ∧ y = .int n ∧ MulOk z n ∧ Q (.str (Txt.mul z n)) H) := by
  intro pins s σ H x y v u Q I r1 r2 h
  obtain ⟨z, n, rfl, rfl, ok, q⟩ := h
  obtain ⟨t, rfl⟩ := r1
  obtain ⟨t', rfl⟩ := r2
  exact SB.mul ok fun t' k => ⟨.str _, H, I.tok k, ⟨t', rfl⟩, q⟩
theorem strs_vals : ∀ (l : List (Str × Tok)), Vals (l.map fun p => V.str p.1) (strValues l)
  | [] => .nil
  | (x, t) :: l => .cons ⟨t, rfl⟩ (strs_vals l)
def rSplit : V → List V → Hp → VK → Prop := fun x vs H Q => ∃ z y, x = .str z ∧ vs = [.str y] ∧ y.length ≠ 0 ∧ z.length < sizeLine ∧ (Txt.split z y).length ≤ sizeLine ∧ ∀ l, H l = none → Q (.ref l) (upd H l (.lst ((Txt.split z y).map V.str)))
theorem split_laid {pins : List (Addr × Obj)} {σ : St} {H : Hp} {s : Shared} {l : List (Str × Tok)} {ts : List Str} {tk : Nat} {Q : VK} (I : Inv X pins σ H s) (e : l.map (·.1) = ts) (hz : ts.length ≤ sizeLine) (q : ∀ l, H l = none → Q (.ref l) (upd H l (.lst (ts.map V.str)))) :
    EP X pins σ Q (.ref s.heap.objs.size) { s with heap := s.heap.push { cls := .type "list", data := .seq (strValues l).toArray }, toks := tk } := by
  subst e
  refine ⟨.ref s.heap.objs.size, _, I.laid (o := .lst ((l.map (·.1)).map V.str)) (fun b ob q => Heap.get?_push_of_some _ q) (Nat.le_refl _) ?_, rfl, q _ (I.hok.fresh (Nat.le_refl _))⟩
  refine ⟨by rw [List.length_map]; exact hz, strValues l, 0, ?_, Heap.get?_push_size _ rfl⟩
  have := strs_vals l
  rw [List.map_map]
  exact this
open Builtin Builtin.Str in
theorem mt_split : MtR X "str.split" rSplit := by
  intro pins s σ H x xs v us Q I rx rs h
  obtain ⟨z, y, rfl, rfl, hy0, hz, hl, q⟩ := h
  obtain ⟨t, rfl⟩ := rx
  obtain ⟨uu, rfl, ru⟩ := vals1 rs
  obtain ⟨u, rfl⟩ := ru
  have hy : (y.length == 0) = false := by simpa using hy0
  have hz' : z.length ≤ sizeLine := Nat.le_of_lt hz
  unfold Txt.split at hl q
  cases h1 : (decide (z.length < y.length) || decide (strKind z < strKind y))
  · rw [h1] at hl q
    simp only [Bool.false_eq_true, if_false] at hl q
    cases hf : (occurrences z y 0 z.length (z.length + 1)).isEmpty
    · rw [hf] at hl q
      simp only [Bool.false_eq_true, if_false] at hl q
      refine call_meets F.slot_str_split (typeIs_str _ _ _) F.entry_str_split (F.args_str_split_2 _ _) (meets_str_split_sep z y t u h1 hy hf hz' hl) ?_
      show wants _ _ _ { s with toks := _, heap := s.heap.push { cls := .type "list", data := .seq (strsFrom s.toks (partsBetween z (occurrences z y 0 z.length (z.length + 1)) y.length)).toArray } }
      rw [strsFrom_eq]
      exact split_laid (l := numbered s.toks _) I (numbered_texts _ _) hl q
    · rw [hf] at hl q
      simp only [if_true] at hl q
      exact call_meets F.slot_str_split (typeIs_str _ _ _) F.entry_str_split (F.args_str_split_2 _ _) (meets_str_split_not_found z y t u h1 hy hf)
        (split_laid (l := [(z, t)]) (tk := s.toks) I rfl hl q)
  · rw [h1] at hl q
    simp only [if_true] at hl q
    exact call_meets F.slot_str_split (typeIs_str _ _ _) F.entry_str_split (F.args_str_split_2 _ _) (meets_str_split_cannot_occur z y t u h1)
      (split_laid (l := [(z, t)]) (tk := s.toks) I rfl hl q)
def rSlS : V → Option Int → Option Int → Hp → VK → Prop := fun x lo hi H Q => ∃ z, x = .str z ∧ z.length ≤ sizeLine ∧ Q (.str (Txt.slice z lo hi)) H
theorem sl_str : SlR X rSlS := by
  intro pins s σ H x v vl vu lo hi sl Q I rx hs pl pu h
  obtain ⟨z, rfl, hz, q⟩ := h
  obtain ⟨t, rfl⟩ := rx
  refine ⟨"str", _, F.slot_str_getitem.lookup, typeIs_str _ _ _, ?_⟩
  have fin : ∀ t' k, EP X pins σ Q (.str (Txt.slice z lo hi) t') { s with toks := k } := fun t' k => ⟨.str _, H, I.tok k, ⟨t', rfl⟩, q⟩
  cases pl with
  | none =>
    cases pu with
    | none => exact wpAny_getItem_str_slice (l := none) (u := none) (st := none) hs rfl (post_val_or_str ⟨Nat.le_trans (Txt.slice_le z _ _) hz, fin⟩)
    | int j uj => exact wpAny_getItem_str_slice (l := none) (u := some (j, uj)) (st := none) hs rfl (post_val_or_str ⟨Nat.le_trans (Txt.slice_le z _ _) hz, fin⟩)
  | int i ui =>
    cases pu with
    | none => exact wpAny_getItem_str_slice (l := some (i, ui)) (u := none) (st := none) hs rfl (post_val_or_str ⟨Nat.le_trans (Txt.slice_le z _ _) hz, fin⟩)
    | int j uj => exact wpAny_getItem_str_slice (l := some (i, ui)) (u := some (j, uj)) (st := none) hs rfl (post_val_or_str ⟨Nat.le_trans (Txt.slice_le z _ _) hz, fin⟩)

end

mutual
inductive DatV (K : PySem.W.Frag) (H : Hp) : V → PyData → Prop
  | none : DatV K H .non .none
  | bool (b : Bool) : DatV K H (.bl b) (.bool b)
  | int (i : Int) : DatV K H (.int i) (.int i)
  | str (x : Str) : DatV K H (.str x) (.str x)
  | list {a : Addr} {xs : List V} {ds : List PyData} : SqL K H a xs → DatVs K H xs ds → DatV K H (.ref a) (.list ds)
  | tuple {a : Addr} {xs : List V} {ds : List PyData} : SqT K H a xs → DatVs K H xs ds → DatV K H (.ref a) (.tuple ds)
inductive DatVs (K : PySem.W.Frag) (H : Hp) : List V → List PyData → Prop
  | nil : DatVs K H [] []
  | cons {x : V} {xs : List V} {d : PyData} {ds : List PyData} : DatV K H x d → DatVs K H xs ds → DatVs K H (x :: xs) (d :: ds)
end
theorem Same.seqT {K : PySem.W.Frag} {H H' : Hp} {a : Addr} {xs : List V} (e : Same H H') (h : SqT K H a xs) : SqT K H' a xs := by
  rcases h with (h | ⟨o, h⟩) | h
  · exact .inl (.inl (e _ _ h))
  · exact .inl (.inr ⟨o, e _ _ h⟩)
  · exact .inr h
mutual
theorem DatV.same {K : PySem.W.Frag} {H H' : Hp} (e : Same H H') : ∀ {x : V} {d : PyData}, DatV K H x d → DatV K H' x d
  | _, _, .none => .none
  | _, _, .bool b => .bool b
  | _, _, .int i => .int i
  | _, _, .str x => .str x
  | _, _, .list h hs => .list (e.seq h) (DatVs.same e hs)
  | _, _, .tuple h hs => .tuple (e.seqT h) (DatVs.same e hs)
theorem DatVs.same {K : PySem.W.Frag} {H H' : Hp} (e : Same H H') : ∀ {xs : List V} {ds : List PyData}, DatVs K H xs ds → DatVs K H' xs ds
  | _, _, .nil => .nil
  | _, _, .cons h hs => .cons (DatV.same e h) (DatVs.same e hs)
end
mutual
theorem DatV.reads {X : Cx} {pins : List (Addr × Obj)} {σ : St} {H : Hp} {s : Shared} (I : Inv X pins σ H s) : ∀ {x : V} {d : PyData} {u : Value}, DatV X.K H x d → RelV x u → ∃ as, Reads s.heap u d as
  | _, _, _, .none, r => by cases r; exact ⟨_, .none⟩
  | _, _, _, .bool b, r => by cases r; exact ⟨_, .bool b⟩
  | _, _, _, .int i, r => by obtain ⟨t, rfl⟩ := r; exact ⟨_, .int i t⟩
  | _, _, _, .str x, r => by obtain ⟨t, rfl⟩ := r; exact ⟨_, .str x t⟩
  | _, _, _, .list h hs, r => by
    cases r
    obtain ⟨its, rv, ⟨o, n, h1, h2, h3, h4⟩, hz⟩ := I.list h
    obtain ⟨as, ra⟩ := DatVs.reads I hs rv
    exact ⟨_, .list h1 h2 h4 ra⟩
  | _, _, _, .tuple h hs, r => by
    cases r
    obtain ⟨its, rv, ⟨o, h1, h2, n, h4⟩, hz⟩ := I.tuple h
    obtain ⟨as, ra⟩ := DatVs.reads I hs rv
    exact ⟨_, .tuple h1 h2 h4 ra⟩
theorem DatVs.reads {X : Cx} {pins : List (Addr × Obj)} {σ : St} {H : Hp} {s : Shared} (I : Inv X pins σ H s) : ∀ {xs : List V} {ds : List PyData} {us : List Value}, DatVs X.K H xs ds → Vals xs us → ∃ as, ReadsAll s.heap us ds as
  | _, _, _, .nil, r => by cases r; exact ⟨_, .nil⟩
  | _, _, _, .cons h hs, r => by
    cases r with
    | cons r1 r2 =>
      obtain ⟨as, ra⟩ := DatV.reads I h r1
      obtain ⟨bs, rb⟩ := DatVs.reads I hs r2
      exact ⟨_, .cons ra rb⟩
end
theorem DatVs.length {K : PySem.W.Frag} {H : Hp} : ∀ {xs : List V} {ds : List PyData}, DatVs K H xs ds → xs.length = ds.length
  | _, _, .nil => rfl
  | _, _, .cons _ hs => by rw [List.length_cons, List.length_cons, DatVs.length hs]
theorem DatVs.get {K : PySem.W.Frag} {H : Hp} : ∀ {xs : List V} {ds : List PyData} {i : Nat} {x : V}, DatVs K H xs ds → xs[i]? = some x → ∃ d, ds[i]? = some d ∧ DatV K H x d
  | _, _, _, _, .nil, e => by simp at e
  | _, _, 0, _, .cons h _, e => by simp at e; subst e; exact ⟨_, rfl, h⟩
  | _, _, i + 1, x, .cons _ hs, e => by
    obtain ⟨d, h1, h2⟩ := DatVs.get (i := i) (x := x) hs (by simpa using e)
    exact ⟨d, by simpa using h1, h2⟩
theorem DatVs.snoc {K : PySem.W.Frag} {H : Hp} {x : V} {d : PyData} (h : DatV K H x d) : ∀ {xs : List V} {ds : List PyData}, DatVs K H xs ds → DatVs K H (xs ++ [x]) (ds ++ [d])
  | _, _, .nil => .cons h .nil
  | _, _, .cons h' hs => .cons h' (DatVs.snoc h hs)
def rEqD (K : PySem.W.Frag) : R2 := fun x y H Q => ∃ da db, DatV K H x da ∧ DatV K H y db ∧ da.canLay0 = true ∧ db.canLay0 = true ∧ min da.depth db.depth ≤ 60 ∧ Q (.bl (PyData.eqv da db)) H
theorem op_eqD {X : Cx} (hu : X.A.units + 64 < cLine) : OpR X (compareOp .Eq) (rEqD X.K) := by
  intro pins s σ H x y v u Q I rx ry h
  obtain ⟨da, db, h1, h2, l1, l2, hd, q⟩ := h
  obtain ⟨as, ra⟩ := h1.reads I rx
  obtain ⟨bs, rb⟩ := h2.reads I ry
  exact SeqAt.compareEq_reads ra rb l1 l2 (by omega) ⟨.bl _, H, I, rfl, q⟩
end L2

set_option Elab.async false
set_option linter.all false
set_option maxRecDepth 100000
set_option maxHeartbeats 4000000
namespace L2
open PySem PySem.Spec PyProof.Rows

structure KTab (K : PySem.W.Frag) (w : World) (a : Addr) (kvs : List (Str × V)) : Prop where
  ex : ∃ es n, K.lookup a = some ⟨.type "dict", none, .dict es n, #[]⟩ ∧ PySem.W.KeysLit w.params es.toList ∧ Paired (fun (p : Str × V) (e : DictEntry) => (∃ t, e.key = .str p.1 t) ∧ RelV p.2 e.val) kvs es.toList
  lo : (a == sysModules) = false
theorem findBy_rel {kvs : List (Str × V)} {es : List DictEntry} (r : Paired (fun (p : Str × V) (e : DictEntry) => (∃ t, e.key = .str p.1 t) ∧ RelV p.2 e.val) kvs es) (x : Str) : RelO (kvs.lookup x) (findBy Value.isStrOf es.toArray x) := by
  unfold findBy
  rw [List.find?_toArray]
  induction r with
  | nil => exact True.intro
  | @cons p e ps qs h t ih =>
    obtain ⟨⟨tk, hk⟩, hv⟩ := h
    rw [List.lookup_cons, List.find?_cons, hk]
    by_cases q : x = p.1
    · subst q
      simp only [beq_self_eq_true]
      have : Value.isStrOf p.1 (.str p.1 tk) = true := by simp [Value.isStrOf]
      rw [this]
      exact hv
    · have h1 : (x == p.1) = false := by simpa using q
      have h2 : Value.isStrOf x (.str p.1 tk) = false := by
        simp only [Value.isStrOf]
        simpa using fun z => q z.symm
      rw [h1, h2]
      exact ih
theorem KTab.map {X : Cx} {pins : List (Addr × Obj)} {σ : St} {H : Hp} {s : Shared} {a : Addr} {kvs : List (Str × V)} (T : KTab X.K X.w a kvs) (I : Inv X pins σ H s) :
    ∃ f : Str → Option Value, s.heap.MapOf (strKind X.prog X.w) a f ∧ ∀ x, RelO (kvs.lookup x) (f x) := by
  obtain ⟨es, n, hl, hk, r⟩ := T.ex
  refine ⟨_, PySem.W.mapOf_K (prog := X.prog) I.kIn hl hk, fun x => ?_⟩
  have := findBy_rel r x
  simpa using this
section
variable {X : Cx} {o e f : Expr} {apos cpos pos : Pos} {td ty tx : TE}
theorem MapOf.dict {h : Heap} {P : Program} {w : World} {a : Addr} {f : Str → Option Value} (m : h.MapOf (strKind P w) a f) : ∀ b, Value.ref a = .ref b → ∃ ob, h.get? b = some ob ∧ ob.dict = none := fun b q => by
  cases q
  obtain ⟨ob, _, _, h1, h2, _⟩ := m
  exact ⟨ob, h1, h2.2.1⟩
def rIxK (K : PySem.W.Frag) (w : World) : R2 := fun x y H Q => ∃ a kvs k v, x = .ref a ∧ y = .str k ∧ KTab K w a kvs ∧ kvs.lookup k = some v ∧ Q v H
theorem ix_ktab : IxR X (rIxK X.K X.w) := by
  intro value slice pins s σ H x y v u Q I rx ry h hs
  obtain ⟨a, kvs, k, z, rfl, rfl, T, hl, q⟩ := h
  cases rx
  obtain ⟨t, rfl⟩ := ry
  obtain ⟨f2, m2, r2⟩ := T.map I
  obtain ⟨w', hw, rw'⟩ := RelO.some_of (v := z) (o := f2 k) (by rw [← hl]; exact r2 k)
  exact tail_any m2.typeIs slot_dict_getitem.lookup (wpAny_getItem_of (strKind_is X.prog X.w k t) m2 hw ⟨z, H, I.tok _, rw', q⟩) hs
end
end L2

set_option Elab.async false
set_option linter.all false
set_option maxRecDepth 100000
set_option maxHeartbeats 4000000
namespace L2
open PySem PySem.Spec PyProof.Rows
section
variable {X : Cx} {a b c e o : Expr} {ta tb tc te : TE} {pos p : Pos}

def mVar (i : Nat) : TE := fun σ H Q => match σ[i]? with
  | some (some v) => Q v H
  | _ => False
theorem mVar_eq (i : Nat) : mVar i = tVar i := by
  funext σ H Q
  refine propext ⟨fun h => ?_, fun ⟨v, e, h⟩ => ?_⟩
  · unfold mVar at h
    split at h
    · exact ⟨_, ‹_›, h⟩
    · exact h.elim
  · unfold mVar
    rw [e]
    exact h
theorem pn (i : Nat) {x : Str} {pos : Pos} (hN : X.N[i]? = some x := by rfl) (hv : Vis X.env.scope x := by first | exact Or.inl rfl | exact Or.inr (Or.inl rfl) | exact Or.inr (Or.inr rfl)) (hd : (x == ("__debug__" : Str)) = false := by decide)
    (hcd : (x == ("__classdict__" : Str)) = false := by decide) : PE X (.Name x pos) (mVar i) := by
  rw [mVar_eq]
  exact pe_var hN hv hd hcd

def mTest (t : TE) : TT := fun σ H Q => t σ H fun x H' => match x with
  | .bl k => Q k H'
  | _ => False
theorem mTest_eq (t : TE) : mTest t = tTest t := by
  funext σ H Q
  unfold mTest tTest
  congr 1
  funext x H'
  refine propext ⟨fun h => ?_, fun ⟨k, e, h⟩ => ?_⟩
  · split at h
    · exact ⟨_, rfl, h⟩
    · exact h.elim
  · subst e
    exact h
theorem mTest_eqB (t : TE) : mTest t = tB t := by rw [mTest_eq]; rfl
theorem pt_cmpM {op : CmpOp} {r : R2} (ho : OpR X (compareOp op) r) (ha : PE X a ta) (hb : PE X b tb) (hm : behindInMarks op b = false := by first | exact nomark _ | rfl) : PT X (.Compare a [op] [b] pos) (mTest (tOp r ta tb)) := by
  rw [mTest_eq]
  exact pt_cmpR ho ha hb hm
theorem pt_chainM {op op' : CmpOp} {r r' : R2} (ho : OpR X (compareOp op) r) (ho' : OpR X (compareOp op') r') (ha : PE X a ta) (hb : PE X b tb) (hc : PE X c tc)
    (hm : lastMarks [op, op'] [b, c] = false := by with_unfolding_all rfl) : PT X (.Compare a [op, op'] [b, c] pos) (mTest (tChain r r' ta tb tc)) := by
  rw [mTest_eq]
  exact pt_chain ho ho' ha hb hc hm
theorem pt_valM {e : Expr} {t : TE} (h : PE X e t) (he : ∀ whole, isTrue e X.env whole = (do let v ← whole; standAt e.pos; holding [v] (truthy v)) := by intro _; rfl) : PT X e (mTest t) := by
  rw [mTest_eqB]
  exact pt_val h he
def mTruth (K : PySem.W.Frag) (t : TE) : TT := fun σ H Q => t σ H fun x H' => ∃ k, TruV K x H' k ∧ Q k H'
def mAndV (ta tb : TE) : TE := fun σ H Q => ta σ H fun x H1 => match x with
  | .bl c => if c = true then tb σ H1 Q else Q (.bl false) H1
  | _ => False
def mNotV (ta : TE) : TE := fun σ H Q => ta σ H fun x H1 => match x with
  | .bl c => Q (.bl (!c)) H1
  | _ => False
theorem mAndV_eq (ta tb : TE) : mAndV ta tb = tAndV ta tb := by
  funext σ H Q
  unfold mAndV tAndV
  congr 1
  funext x H'
  refine propext ⟨fun h => ?_, fun ⟨k, e, h⟩ => ?_⟩
  · split at h
    · exact ⟨_, rfl, h⟩
    · exact h.elim
  · subst e; exact h
theorem mNotV_eq (ta : TE) : mNotV ta = tNotV ta := by
  funext σ H Q
  unfold mNotV tNotV
  congr 1
  funext x H'
  refine propext ⟨fun h => ?_, fun ⟨k, e, h⟩ => ?_⟩
  · split at h
    · exact ⟨_, rfl, h⟩
    · exact h.elim
  · subst e; exact h
theorem pe_andM {rest : List Expr} (ha : PE X a ta) (hb : PE X (.BoolOp .And (b :: rest) pos) tb) : PE X (.BoolOp .And (a :: b :: rest) pos) (mAndV ta tb) := by rw [mAndV_eq]; exact pe_and ha hb
theorem pe_notM (ha : PE X a ta) : PE X (.UnaryOp .Not a pos) (mNotV ta) := by rw [mNotV_eq]; exact pe_not ha
def mChain (r r' : R2) (ta tb tc : TE) : TE := fun σ H Q => ta σ H fun x H1 => tb σ H1 fun y H2 => r x y H2 fun z H3 => match z with
  | .bl k => if k = true then tc σ H3 fun w' H4 => r' y w' H4 Q else Q (.bl false) H3
  | _ => False
theorem mChain_eq (r r' : R2) (ta tb tc : TE) : mChain r r' ta tb tc = tChain r r' ta tb tc := by
  funext σ H Q
  unfold mChain tChain
  congr 1
  funext x H1
  congr 1
  funext y H2
  congr 1
  funext z H3
  refine propext ⟨fun h => ?_, fun ⟨k, e, h⟩ => ?_⟩
  · split at h
    · exact ⟨_, rfl, h⟩
    · exact h.elim
  · subst e; exact h
def gAdd (K : PySem.W.Frag) : R2 := fun x y H Q => match x, y with
  | .int i, .int j => Q (.int (i + j)) H
  | .str i, .str j => i.length + j.length ≤ sizeLine ∧ Q (.str (i ++ j)) H
  | .ref l, .ref b => (∃ xs zs, H l = some (.lst xs) ∧ H b = some (.lst zs) ∧ xs.length + zs.length ≤ sizeLine ∧ ∀ p, H p = none → Q (.ref p) (upd H p (.lst (xs ++ zs)))) ∨
      ∃ xs ys, SqT K H l xs ∧ SqT K H b ys ∧ xs ≠ [] ∧ xs.length + ys.length ≤ sizeLine ∧ (ys = [] → Q (.ref l) H) ∧ (ys ≠ [] → ∀ p, H p = none → Q (.ref p) (upd H p (.tup (xs ++ ys))))
  | _, _ => False
theorem og_add {K : PySem.W.Frag} (hK : X.K = K := by rfl) : OpR X (binaryOp .Add) (gAdd K) := by
  subst hK
  intro pins s σ H x y v u Q I rx ry h
  unfold gAdd at h
  split at h
  · exact op_add pins s σ H _ _ v u Q I rx ry ⟨_, _, rfl, rfl, h⟩
  · exact op_add_str pins s σ H _ _ v u Q I rx ry ⟨_, _, rfl, rfl, h.1, h.2⟩
  · rcases h with ⟨xs, zs, h1, h2, h3, h4⟩ | ⟨xs, ys, h1, h2, h3, h4, h5, h6⟩
    · exact op_cat pins s σ H _ _ v u Q I rx ry ⟨_, _, xs, zs, rfl, rfl, h1, h2, h3, h4⟩
    · exact op_catT pins s σ H _ _ v u Q I rx ry ⟨_, _, xs, ys, rfl, rfl, h1, h2, h3, h4, h5, h6⟩
  · exact h.elim
def gMinus : R2 := fun x y H Q => match x, y with
  | .int i, .int j => Q (.int (i - j)) H
  | _, _ => False
theorem og_sub : OpR X (binaryOp .Sub) gMinus := by
  intro pins s σ H x y v u Q I rx ry h
  unfold gMinus at h
  split at h
  · exact op_sub pins s σ H _ _ v u Q I rx ry ⟨_, _, rfl, rfl, h⟩
  · exact h.elim
def gMul : R2 := fun x y H Q => match x, y with
  | .int i, .int j => CMul i j ∧ Q (.int (i * j)) H
  | .str z, .int n => MulOk z n ∧ Q (.str (Txt.mul z n)) H
  | .ref l, .int k => ∃ xs, H l = some (.lst xs) ∧ -(2 ^ 63) ≤ k ∧ k < 2 ^ 63 ∧ xs.length * k.toNat ≤ sizeLine ∧ ∀ p, H p = none → Q (.ref p) (upd H p (.lst (List.replicate k.toNat xs).flatten))
  | _, _ => False
theorem og_mul : OpR X (binaryOp .Mult) gMul := by
  intro pins s σ H x y v u Q I rx ry h
  unfold gMul at h
  split at h
  · exact op_mul pins s σ H _ _ v u Q I rx ry ⟨_, _, rfl, rfl, h.1, h.2⟩
  · exact op_mul_str pins s σ H _ _ v u Q I rx ry ⟨_, _, rfl, rfl, h.1, h.2⟩
  · obtain ⟨xs, h1, h2, h3, h4, h5⟩ := h
    exact op_rep pins s σ H _ _ v u Q I rx ry ⟨_, _, xs, rfl, rfl, h1, h2, h3, h4, h5⟩
  · exact h.elim
def gDiv : R2 := fun x y H Q => match x, y with
  | .int i, .int j => CDiv i j ∧ Q (.int (i / j)) H
  | _, _ => False
theorem og_div : OpR X (binaryOp .FloorDiv) gDiv := by
  intro pins s σ H x y v u Q I rx ry h
  unfold gDiv at h
  split at h
  · exact op_fdiv pins s σ H _ _ v u Q I rx ry ⟨_, _, rfl, rfl, h.1, h.2⟩
  · exact h.elim
def gMod : R2 := fun x y H Q => match x, y with
  | .int i, .int j => 0 < j ∧ Q (.int (i % j)) H
  | _, _ => False
theorem og_mod : OpR X (binaryOp .Mod) gMod := by
  intro pins s σ H x y v u Q I rx ry h
  unfold gMod at h
  split at h
  · exact op_mod pins s σ H _ _ v u Q I rx ry ⟨_, _, rfl, rfl, h.1, h.2⟩
  · exact h.elim
def gEq (K : PySem.W.Frag) (neg : Bool) : R2 := fun x y H Q => match x, y with
  | .int i, .int j => Q (.bl (neg ^^ decide (i = j))) H
  | .str i, .str j => Q (.bl (neg ^^ decide (i = j))) H
  | .bl i, .bl j => Q (.bl (neg ^^ decide (i = j))) H
  | .ref i, .ref j => ∃ da db, DatV K H (.ref i) da ∧ DatV K H (.ref j) db ∧ da.canLay0 = true ∧ db.canLay0 = true ∧ min da.depth db.depth ≤ 60 ∧ Q (.bl (neg ^^ PyData.eqv da db)) H
  | _, _ => False
theorem og_eq (hu : X.A.units + 64 < cLine) {K : PySem.W.Frag} (hK : X.K = K := by rfl) : OpR X (compareOp .Eq) (gEq K false) := by
  subst hK
  intro pins s σ H x y v u Q I rx ry h
  unfold gEq at h
  split at h
  · refine op_eq pins s σ H _ _ v u Q I rx ry ⟨rfl, ?_⟩
    simpa using h
  · refine op_eq pins s σ H _ _ v u Q I rx ry ⟨rfl, ?_⟩
    simpa using h
  · refine op_eq pins s σ H _ _ v u Q I rx ry ⟨rfl, ?_⟩
    simpa using h
  · obtain ⟨da, db, h1, h2, h3, h4, h5, h6⟩ := h
    exact op_eqD hu pins s σ H _ _ v u Q I rx ry ⟨da, db, h1, h2, h3, h4, h5, by simpa using h6⟩
  · exact h.elim
def gLt : R2 := fun x y H Q => match x, y with
  | .int i, .int j => Q (.bl (decide (i < j))) H
  | .str i, .str j => Q (.bl (decide (i.cps.toList < j.cps.toList))) H
  | _, _ => False
theorem og_lt : OpR X (compareOp .Lt) gLt := by
  intro pins s σ H x y v u Q I rx ry h
  unfold gLt at h
  split at h
  · exact op_lt pins s σ H _ _ v u Q I rx ry ⟨_, _, rfl, rfl, h⟩
  · exact op_lt_str pins s σ H _ _ v u Q I rx ry ⟨_, _, rfl, rfl, h⟩
  · exact h.elim
def gLe : R2 := fun x y H Q => match x, y with
  | .int i, .int j => Q (.bl (decide (i ≤ j))) H
  | .str i, .str j => Q (.bl (!decide (j.cps.toList < i.cps.toList))) H
  | _, _ => False
theorem og_le : OpR X (compareOp .LtE) gLe := by
  intro pins s σ H x y v u Q I rx ry h
  unfold gLe at h
  split at h
  · exact op_le pins s σ H _ _ v u Q I rx ry ⟨_, _, rfl, rfl, h⟩
  · exact op_le_str pins s σ H _ _ v u Q I rx ry ⟨_, _, rfl, rfl, h⟩
  · exact h.elim
def gIn (K : PySem.W.Frag) (neg : Bool) : R2 := fun x y H Q => match y with
  | .str j => (match x with
    | .str i => Q (.bl (neg ^^ !(Builtin.Str.occurrences j i 0 j.length 1).isEmpty)) H
    | _ => False)
  | .ref p => ∃ xs, (SqL K H p xs ∨ SqT K H p xs) ∧ flatV x = true ∧ xs.all flatV = true ∧ Q (.bl (neg ^^ inV x xs)) H
  | _ => False
theorem og_in {K : PySem.W.Frag} (hK : X.K = K := by rfl) : OpR X (compareOp .In) (gIn K false) := by
  subst hK
  intro pins s σ H x y v u Q I rx ry h
  unfold gIn at h
  split at h
  · split at h
    · refine op_in_str pins s σ H _ _ v u Q I rx ry ⟨_, _, rfl, rfl, ?_⟩
      simpa using h
    · exact h.elim
  · obtain ⟨xs, h1, h2, h3, h4⟩ := h
    exact op_in_seq pins s σ H _ _ v u Q I rx ry ⟨_, xs, rfl, h1, h2, h3, by simpa using h4⟩
  · exact h.elim
theorem og_notin {K : PySem.W.Frag} (hK : X.K = K := by rfl) : OpR X (compareOp .NotIn) (gIn K true) := by
  subst hK
  intro pins s σ H x y v u Q I rx ry h
  unfold gIn at h
  split at h
  · split at h
    · refine op_notin_str pins s σ H _ _ v u Q I rx ry ⟨_, _, rfl, rfl, ?_⟩
      simpa using h
    · exact h.elim
  · obtain ⟨xs, h1, h2, h3, h4⟩ := h
    exact op_notIn_seq pins s σ H _ _ v u Q I rx ry ⟨_, xs, rfl, h1, h2, h3, by simpa using h4⟩
  · exact h.elim
def gIs (neg : Bool) : R2 := fun x y H Q => match y with
  | .non => (match x with
    | .non => Q (.bl (neg ^^ true)) H
    | _ => Q (.bl (neg ^^ false)) H)
  | _ => False
theorem og_is : OpR X (compareOp .Is) (gIs false) := by
  intro pins s σ H x y v u Q I rx ry h
  unfold gIs at h
  split at h
  · refine op_isN pins s σ H _ _ v u Q I rx ry ⟨rfl, ?_⟩
    split at h
    · exact h
    · rename_i hn
      have e : decide (x = V.non) = false := decide_eq_false hn
      rw [e]
      exact h
  · exact h.elim
theorem og_isnot : OpR X (compareOp .IsNot) (gIs true) := by
  intro pins s σ H x y v u Q I rx ry h
  unfold gIs at h
  split at h
  · refine op_notN pins s σ H _ _ v u Q I rx ry ⟨rfl, ?_⟩
    split at h
    · exact h
    · rename_i hn
      have e : decide (x = V.non) = false := decide_eq_false hn
      rw [e]
      exact h
  · exact h.elim

def gIx (K : PySem.W.Frag) (w : World) : R2 := fun x y H Q => match x, y with
  | .ref q, .int i => (∃ xs v, SqL K H q xs ∧ atI xs i = some v ∧ Q v H) ∨ ∃ xs v, SqT K H q xs ∧ atI xs i = some v ∧ Q v H
  | .str z, .int i => z.length ≤ sizeLine ∧ ∃ c, atI z.cps.toList i = some c ∧ Q (.str ⟨#[c]⟩) H
  | .ref q, .str k => (∃ kvs v, KTab K w q kvs ∧ kvs.lookup k = some v ∧ Q v H) ∨ ∃ (kvs : List (Key × V)) (v : V), H q = some (.dK kvs) ∧ valV kvs (Sum.inr k) = some v ∧ Q v H
  | _, _ => False
theorem og_ix (hu : X.A.units + 64 < cLine) {K : PySem.W.Frag} {w : World} (hK : X.K = K := by rfl) (hw : X.w = w := by rfl) : IxR X (gIx K w) := by
  subst hK
  subst hw
  intro value slice pins s σ H x y v u Q I rx ry h hs
  unfold gIx at h
  split at h
  · rcases h with ⟨xs, z, h1, h2, h3⟩ | ⟨xs, z, h1, h2, h3⟩
    · exact ix_list value slice pins s σ H _ _ v u Q I rx ry ⟨_, xs, _, z, rfl, rfl, h1, h2, h3⟩ hs
    · exact ix_tup value slice pins s σ H _ _ v u Q I rx ry ⟨_, xs, _, z, rfl, rfl, h1, h2, h3⟩ hs
  · obtain ⟨hz, c, h1, h2⟩ := h
    exact ix_str value slice pins s σ H _ _ v u Q I rx ry ⟨_, _, c, rfl, rfl, hz, h1, h2⟩ hs
  · rcases h with ⟨kvs, z, h1, h2, h3⟩ | ⟨kvs, z, h1, h2, h3⟩
    · exact ix_ktab value slice pins s σ H _ _ v u Q I rx ry ⟨_, kvs, _, z, rfl, rfl, h1, h2, h3⟩ hs
    · cases rx
      have hd := dk_of I.hok h1
      obtain ⟨_, _, vs, _, dd⟩ := hd
      exact tail_any dd.typeIs slot_dict_getitem.lookup (d_getItem (y := kV (Sum.inr _)) (v := z) (by omega) I (.inl ⟨kvs, _, .inl h1, rfl, h2.symm⟩) ry fun w' s' I' rw' => ⟨z, H, I', rw', h3⟩) hs
  · exact h.elim
def mPart (t : TE) : TO := fun σ H Q => t σ H fun x H1 => match x with
  | .int i => Q (some i) H1
  | _ => False
theorem mPart_eq (t : TE) : mPart t = tPart t := by
  funext σ H Q
  unfold mPart tPart
  congr 1
  funext x H'
  refine propext ⟨fun h => ?_, fun ⟨k, e, h⟩ => ?_⟩
  · split at h
    · exact ⟨_, rfl, h⟩
    · exact h.elim
  · subst e; exact h
theorem po_someM (h : PE X e te) : PO X (some e) (mPart te) := by rw [mPart_eq]; exact po_some h

def gLen (K : PySem.W.Frag) : List V → Hp → VK → Prop := fun xs H Q => match xs with
  | [.str y] => y.length ≤ sizeLine ∧ Q (.int y.length) H
  | [.ref p] => ∃ ys, (SqL K H p ys ∨ SqT K H p ys) ∧ Q (.int ys.length) H
  | _ => False
theorem cg_len {K : PySem.W.Frag} (hK : X.K = K := by rfl) : CallR X (.builtin "len") (gLen K) := by
  subst hK
  intro pins s σ H xs us Q I r h
  unfold gLen at h
  split at h
  · exact call_len_str pins s σ H _ us Q I r ⟨_, rfl, h.1, h.2⟩
  · obtain ⟨ys, h1, h2⟩ := h
    exact call_len_seq pins s σ H _ us Q I r ⟨_, ys, rfl, h1, h2⟩
  · exact h.elim
def gList (K : PySem.W.Frag) : List V → Hp → VK → Prop := fun xs H Q => match xs with
  | [.ref p] => ∃ ys, (SqL K H p ys ∨ SqT K H p ys) ∧ ∀ l, H l = none → Q (.ref l) (upd H l (.lst ys))
  | _ => False
theorem cg_list {K : PySem.W.Frag} (hK : X.K = K := by rfl) : CallR X (.type "list") (gList K) := by
  subst hK
  intro pins s σ H xs us Q I r h
  unfold gList at h
  split at h
  · obtain ⟨ys, h1, h2⟩ := h
    exact call_list_of pins s σ H _ us Q I r ⟨_, ys, rfl, h1, h2⟩
  · exact h.elim

def gAppend : V → List V → Hp → VK → Prop := fun x vs H Q => match x, vs with
  | .ref l, [y] => ∃ xs, H l = some (.lst xs) ∧ xs.length < sizeLine ∧ Q .non (upd H l (.lst (xs ++ [y])))
  | _, _ => False
theorem mg_append : MtR X "list.append" gAppend := by
  intro pins s σ H x xs v us Q I rx rs h
  unfold gAppend at h
  split at h
  · obtain ⟨ys, h1, h2, h3⟩ := h
    exact mt_append pins s σ H _ _ v us Q I rx rs ⟨_, ys, _, rfl, rfl, h1, h2, h3⟩
  · exact h.elim
end
end L2

namespace L2
open PySem PySem.Spec PyProof.Rows
section
variable {X : Cx} {tg : Expr}
def iAny (K : PySem.W.Frag) (tl : TE) : TI := fun σ H R => tl σ H fun x H1 => match x with
  | .str z => R (Its z) H1
  | .ref a => ((∃ xs, SqL K H1 a xs) ∧ R (Itl K a) H1) ∨ ((∃ xs, SqT K H1 a xs) ∧ R (Itt K a) H1)
  | _ => False
theorem pi_any {l : Expr} {tl : TE} (hl : PE X l tl) {K : PySem.W.Frag} (hK : X.K = K := by rfl) : PI X tg l (iAny K tl) := by
  subst hK
  intro pins s σ H R I h
  refine thn (hl pins s σ H _ I h) fun v s1 ⟨x, H1, I1, r1, q1⟩ => ?_
  dsimp only at q1
  split at q1
  · rename_i z
    obtain ⟨t, rfl⟩ := r1
    have fin : ∀ b ∈ [s1.heap.objs.size], FpOk X pins H1 b := fun b hb => by
      have e : b = s1.heap.objs.size := by simpa using hb
      subst e
      exact I1.fpOk (Nat.le_refl _) (I1.hok.fresh (Nat.le_refl _))
    cases ha : z.cps.all (· < 128)
    · refine wpAny_pyIter_wide ha ?_
      exact ⟨s1.heap.objs.size, [s1.heap.objs.size], _, _, H1, rfl, I1.kept (t' := s1.toks) fun b o e => Heap.get?_push_of_some _ e,
        turn_str "str_iterator" _ z t (fun A' hA => Walks.strWide hA _ z t) (fun A i s Q E st h => wpAny_pyIter_striter_wide st h) (by decide), ⟨_, Heap.get?_push_size _ rfl, rfl, rfl⟩, fin, q1⟩
    · refine wpAny_pyIter_ascii ha ?_
      exact ⟨s1.heap.objs.size, [s1.heap.objs.size], _, _, H1, rfl, I1.kept (t' := s1.toks) fun b o e => Heap.get?_push_of_some _ e,
        turn_str "str_ascii_iterator" _ z t (fun A' hA => Walks.strAscii hA _ z t) (fun A i s Q E st h => wpAny_pyIter_striter_ascii st h) (by decide), ⟨_, Heap.get?_push_size _ rfl, rfl, rfl⟩, fin, q1⟩
  · rename_i a
    cases r1
    have fin : ∀ b ∈ [s1.heap.objs.size], FpOk X pins H1 b := fun b hb => by
      have e : b = s1.heap.objs.size := by simpa using hb
      subst e
      exact I1.fpOk (Nat.le_refl _) (I1.hok.fresh (Nat.le_refl _))
    rcases q1 with ⟨⟨xs, hq⟩, q⟩ | ⟨⟨xs, hq⟩, q⟩
    · obtain ⟨its, rv, p, hz⟩ := I1.list hq
      refine wpAny_pyIter_list p.isList ?_
      exact ⟨s1.heap.objs.size, [s1.heap.objs.size], _, _, H1, rfl, I1.kept (t' := s1.toks) fun b o e => Heap.get?_push_of_some _ e, turn_list a _, ⟨_, Heap.get?_push_size _ rfl, rfl, rfl⟩, fin, q⟩
    · obtain ⟨its, rv, p, hz⟩ := I1.tuple hq
      refine wpAny_pyIter_tuple (show s1.heap.IsTuple a its.toArray from p) ?_
      exact ⟨s1.heap.objs.size, [s1.heap.objs.size], _, _, H1, rfl, I1.kept (t' := s1.toks) fun b o e => Heap.get?_push_of_some _ e, turn_tuple a _, ⟨_, Heap.get?_push_size _ rfl, rfl, rfl⟩, fin, q⟩
  · exact q1.elim
def mRng1 (ta : TA) : TI := fun σ H R => ta σ H fun vs H1 => match vs with
  | [.int j] => -(2 ^ 62) ≤ j ∧ j < 2 ^ 62 ∧ R (Itr 0 j.toNat) H1
  | _ => False
theorem mRng1_eq (ta : TA) : mRng1 ta = iRng1 ta := by
  funext σ H R
  unfold mRng1 iRng1
  congr 1
  funext vs H'
  refine propext ⟨fun h => ?_, fun ⟨k, e, h⟩ => ?_⟩
  · split at h
    · exact ⟨_, rfl, h⟩
    · exact h.elim
  · subst e; exact h
theorem pi_rng1 {a : Expr} {ta : TA} {p pos : Pos} (hg : Gl X "range") (hm : X.mg "range" = none) (ha : PA X [a] ta) (hs : starEach [a] X.env = [(false, eval a X.env)] := by rfl) : PI X tg (.Call (.Name "range" p) [a] [] pos) (mRng1 ta) := by
  rw [mRng1_eq]; exact pi_range1 hg hm ha hs

def noStar : Expr → Bool
  | .Starred .. => false
  | _ => true
def noStars : List Expr → Bool
  | [] => true
  | e :: r => noStar e && noStars r
theorem starEach_cons {e : Expr} {es : List Expr} {env : Env} (h : noStar e = true) : starEach (e :: es) env = (false, eval e env) :: starEach es env := by
  cases e <;> first | rfl | exact absurd h Bool.false_ne_true
theorem stars_none : ∀ {es : List Expr} {env : Env}, noStars es = true → ∀ x ∈ starEach es env, x.1 = false
  | [], env, _, x, hx => by
    have : starEach [] env = [] := rfl
    rw [this] at hx
    exact nomatch hx
  | e :: r, env, h, x, hx => by
    have h' : noStar e = true ∧ noStars r = true := by simpa [noStars] using h
    rw [starEach_cons h'.1] at hx
    rcases List.mem_cons.mp hx with q | q
    · rw [q]
    · exact stars_none h'.2 x q
theorem back_any {es : List Expr} {env : Env} {pos : Pos} (h : noStars es = true) : (backTo pos (starEach es env)).any (·.1) = false := by
  rw [List.any_eq_false]
  intro x hx
  unfold backTo at hx
  obtain ⟨y, hy, e⟩ := List.mem_map.mp hx
  have := stars_none h y hy
  obtain ⟨b, t⟩ := y
  dsimp only at e this
  rw [← e, this]
  exact Bool.false_ne_true
theorem back_all {es : List Expr} {env : Env} {pos : Pos} (h : noStars es = true) : (backTo pos (starEach es env)).all (fun x => !x.1) = true := by
  rw [List.all_eq_true]
  intro x hx
  unfold backTo at hx
  obtain ⟨y, hy, e⟩ := List.mem_map.mp hx
  have := stars_none h y hy
  obtain ⟨b, t⟩ := y
  dsimp only at e this
  rw [← e, this]
  rfl
def notSuper : Expr → Bool
  | .Call (.Name _ _) [] [] _ => false
  | _ => true
theorem base_of {o : Expr} {attr : Str} {env : Env} {whole : Sem Value} (h : notSuper o = true) : attributeBase o attr env whole = whole := by
  unfold attributeBase
  split
  · exact absurd h Bool.false_ne_true
  · rfl
theorem pa_consM {es : List Expr} {t : TA} (ha : PE X e te) (hr : PA X es t) (h : noStar e = true := by rfl) : PA X (e :: es) (tCons te t) := pa_cons ha hr (starEach_cons h)
theorem pe_callBM {x : Str} {id : String} {r : List V → Hp → VK → Prop} {es : List Expr} {t : TA} {p pos : Pos} (hc : CallR X (.builtin id) r) (hg : Gl X x) (hm : X.mg x = none) (hv : bootBuiltins x = some (.builtin id)) (ha : PA X (e :: es) t) (hn : x ≠ "__name__" := by decide) (hdb : (x == ("__debug__" : Str)) = false := by decide)
    (h : noStars (e :: es) = true := by rfl) : PE X (.Call (.Name x p) (e :: es) [] pos) (tCB r t) := by
  have h' : noStar e = true ∧ noStars es = true := by simpa [noStars] using h
  exact pe_callB hc hg hm hv ha hn hdb (starEach_cons h'.1) (back_any h'.2)
theorem pe_callTyM {x : Str} {T : String} {r : List V → Hp → VK → Prop} {es : List Expr} {t : TA} {p pos : Pos} (hc : CallR X (.type T) r) (hg : Gl X x) (hm : X.mg x = none) (hv : bootBuiltins x = some (.type T)) (ha : PA X (e :: es) t) (hn : x ≠ "__name__" := by decide) (hdb : (x == ("__debug__" : Str)) = false := by decide)
    (h : noStars (e :: es) = true := by rfl) : PE X (.Call (.Name x p) (e :: es) [] pos) (tCB r t) := by
  have h' : noStar e = true ∧ noStars es = true := by simpa [noStars] using h
  exact pe_callTy hc hg hm hv ha hn hdb (starEach_cons h'.1) (back_any h'.2)
theorem pe_bmK {K : PySem.W.Frag} {o e : Expr} {es : List Expr} {to : TE} {t : TA} {name : Str} {apos cpos : Pos} {T id : String} {r : V → List V → Hp → VK → Prop} (pa : PlainAttrs T) (slot : Slot T name id) (hty : typeOf (.builtin id) = pure (.type "method_descriptor")) (hm : MtR X id r) (ho : PE X o to) (ha : PA X (e :: es) t) (hK : X.K = K := by rfl)
    (hsup : notSuper o = true := by rfl) (h : noStars (e :: es) = true := by rfl) (h30 : (e :: es).length < 30 := by decide) (hline : (apos.endLine == cpos.line) = true := by rfl) :
    PE X (.Call (.Attribute o name apos) (e :: es) [] cpos) (tBM K T r to t) := by
  subst hK
  have h' : noStar e = true ∧ noStars es = true := by simpa [noStars] using h
  refine pe_bm pa slot hty hm ho ha (base_of hsup) ?_ hline (starEach_cons h'.1) (back_any h'.2)
  rw [back_all h]
  have e0 : keywordEach [] X.env = [] := rfl
  rw [e0]
  simpa [backToKw] using h30
theorem pg_tupK {K : PySem.W.Frag} {es : List Expr} {k : Nat} {t : TGs} {n : Nat} {pos : Pos} (hc : X.calm = true) (h : PGs X es t) (hK : X.K = K := by rfl)
    (hn : (assignEach es X.env).length = n := by rfl) (hst : (assignEach es X.env).findIdx? (·.1) = none := by rfl) : PG X (.Tuple es k pos) (gTup K n t) := by
  subst hK
  exact pg_tup hc h hn hst
structure Def (P : Program) (w : World) (K : PySem.W.Frag) (mg : Str → Option Value) (base : Heap) (k : Nat) (x : Str) (ps : List Str) (sp : Sp) : Prop where
  ex : ∃ f fd, mg x = some (.ref f) ∧ PySem.W.keepIn K (.ref f) = true ∧ (∃ oc od osl, K.lookup f = some ⟨oc, od, .func fd, osl⟩) ∧ Binds K fd ps [] ∧ FnOk P w K mg base CX0 k f fd ps sp
theorem pe_def {k : Nat} {x : Str} {ps : List Str} {sp : Sp} {e : Expr} {es : List Expr} {t : TA} {p pos : Pos} (D : Def X.prog X.w X.K X.mg X.base k x ps sp) (hr : Room k X.A) (hg : Gl X x) (ha : PA X (e :: es) t) (hdb : (x == ("__debug__" : Str)) = false := by decide)
    (hst : noStars (e :: es) = true := by rfl) (hx : Passes CX0 X E0 := by exact pass0) :
    PE X (.Call (.Name x p) (e :: es) [] pos) (fun σ H Q => t σ H fun vs H1 => sp vs H1 Q E0) := by
  obtain ⟨f, fd, mgf, kp, _, b, G⟩ := D.ex
  have h' : noStar e = true ∧ noStars es = true := by simpa [noStars] using hst
  have he := starEach_cons (es := es) (env := X.env) h'.1
  have hpl := back_any (env := X.env) (pos := pos) h'.2
  have h := pe_call (X := X) (dvs := []) (E := E0) (p := p) (pos := pos) G hr hg mgf kp b .nil hx ha hdb he hpl
  intro pins s σ H Q I hq
  refine h pins s σ H Q I ?_
  show t σ H fun vs H1 => sp (vs ++ []) H1 Q E0
  have e1 : (fun (vs : List V) H1 => sp (vs ++ []) H1 Q E0) = fun vs H1 => sp vs H1 Q E0 := by funext vs H1; rw [List.append_nil]
  rw [e1]
  exact hq
end
theorem Fun.lk {K : PySem.W.Frag} {x qual : Str} {st : Stmt} {f : Addr} {fd : FuncData} (F : Fun K x qual st f fd) : ∃ oc od osl, K.lookup f = some ⟨oc, od, .func fd, osl⟩ := by
  obtain ⟨oc, od, kV, doc, pm, an, cdv, ct, osl, _, lk, _⟩ := F.ex
  exact ⟨oc, od, osl, lk⟩
structure Raw (K : PySem.W.Frag) (mg : Str → Option Value) (x : Str) (st : Stmt) (ps : List Str) : Prop where
  ex : ∃ f fd, mg x = some (.ref f) ∧ Fun K x x st f fd ∧ ∀ (us : List Value), us.length = ps.length → bindArgs fd ⟨us, []⟩ = pure (ps.zip us)
theorem Raw.mk' {K : PySem.W.Frag} {mg : Str → Option Value} {h : Heap} {x : Str} {st : Stmt} {ps : List Str} {f : Addr} {oc : Value} {od an : Option Addr} {osl : Array (Option Value)} {kV doc pm cdv ct : Value} (X : K.In h) (G : h.Ns mainGlobals mg)
    (a : PySem.W.nsIn K mainGlobals x = some (some (.ref f))) (l : K.lookup f = some ⟨oc, od, .func (PySem.W.fnOf x x (defArgs st) (defBody st) (defScope st) .none kV doc pm an cdv ct), osl⟩)
    (c : PySem.W.codeIn K cdv x = true) (k : PySem.W.keepIn K (.ref f) = true)
    (hb : ∀ (us : List Value), us.length = ps.length → bindArgs (PySem.W.fnOf x x (defArgs st) (defBody st) (defScope st) .none kV doc pm an cdv ct) ⟨us, []⟩ = pure (ps.zip us)) : Raw K mg x st ps :=
  ⟨⟨f, _, PySem.W.mg_of X G a, fun_mk l c k, hb⟩⟩
theorem Raw.def {P : Program} {w : World} {K : PySem.W.Frag} {mg : Str → Option Value} {base : Heap} {x : Str} {st : Stmt} {N ps : List Str} {k : Nat} {sp : Sp} (R : Raw K mg x st ps) (S : FnScope N ps (defScope st)) (len : ∀ vs H Q E, sp vs H Q E → vs.length = ps.length)
    (hbody : ∀ (f : Addr) (cdv : Value) (A : Around) (outer : List Env) (s : Shared) (H : Hp) (vs : List V) (Q : VK) (E : XK), Room k (A.deeper (envOfC x (defScope st) s.heap.objs.size f cdv)) → sp vs H Q E →
      ∃ t, PSs (cxOf CX0 P w K mg base N x (defScope st) f cdv A outer s H E).nox (defBody st) t ∧ t { nx := fun _ H' => Q .non H', rt := Q } (start N vs) H) : Def P w K mg base (k + 1) x ps sp := by
  obtain ⟨f, fd, h1, F, b⟩ := R.ex
  exact ⟨f, fd, h1, F.kp, F.lk, .all b, F.ok S len (fun cdv => hbody f cdv)⟩
theorem Def.at {P : Program} {w : World} {K : PySem.W.Frag} {mg : Str → Option Value} {base : Heap} {k : Nat} {x : Str} {ps : List Str} {sp : Sp} {f : Addr} {fd : FuncData} (D : Def P w K mg base k x ps sp) (h : mg x = some (.ref f))
    (l : ∃ oc od osl, K.lookup f = some ⟨oc, od, .func fd, osl⟩) : FnOk P w K mg base CX0 k f fd ps sp := by
  obtain ⟨f', fd', h', _, ⟨oc', od', osl', l'⟩, _, F⟩ := D.ex
  obtain ⟨oc, od, osl, l⟩ := l
  cases h.symm.trans h'
  have e := l.symm.trans l'
  simp only [Option.some.injEq, Obj.mk.injEq, Data.func.injEq] at e
  rw [e.2.2.1]
  exact F
section
variable {K : PySem.W.Frag} {w : World} {mg : Str → Option Value} {h : Heap} {x : Str}
theorem int_mk {i : Int} {t : Tok} (X : K.In h) (G : h.Ns mainGlobals mg) (a : PySem.W.nsIn K mainGlobals x = some (some (.int i t))) : ∃ t, mg x = some (.int i t) := ⟨_, PySem.W.mg_of X G a⟩
theorem tup_mk {b : Addr} {od : Option Addr} {its : Array Value} {n : Nat} {osl : Array (Option Value)} {xs : List V} (X : K.In h) (G : h.Ns mainGlobals mg) (a : PySem.W.nsIn K mainGlobals x = some (some (.ref b))) (l : K.lookup b = some ⟨.type "tuple", od, .seq its n, osl⟩)
    (z : its.size ≤ sizeLine) (v : Vals xs its.toList) : ∃ t, mg x = some (.ref t) ∧ ∀ H, SqT K H t xs :=
  ⟨_, PySem.W.mg_of X G a, fun H => .inr ⟨_, its, n, l, rfl, rfl, z, v⟩⟩
end
end L2

set_option Elab.async false
set_option linter.all false
set_option maxRecDepth 100000
set_option maxHeartbeats 4000000
namespace L2
open PySem PySem.Spec PyProof.Rows

theorem same_upd {H H' : Hp} {p : Addr} {o : HO} (e : Same H H') (h : H p = none) : Same H (upd H' p o) := fun b u q => by
  rw [upd_ne (ne_of_none q h)]
  exact e b u q
theorem same_new {H : Hp} {p : Addr} {o : HO} (h : H p = none) : Same H (upd H p o) := same_upd (Same.refl H) h
section
variable {cap : List (Option Nat)} {g : TG} {tc : TT} {te : TE} {Q : Addr → Hp → Prop} {σ : St} {H : Hp}
theorem gath_of {J : It} {n : Nat} {item : Nat → V → Prop} (Pv : Nat → List V → St → Hp → Prop) (hn : n ≤ 1000000) (h0 : Pv 0 [] (capt cap σ) H) (hlen : ∀ i ys σ' H', Pv i ys σ' H' → ys.length ≤ i)
    (hgo : ∀ i ys σ' H', i < n → Pv i ys σ' H' → J.go i H') (hyld : ∀ i ys σ' H' x H2, i < n → Pv i ys σ' H' → J.yld i H' x H2 → item i x ∧ H2 = H') (hstop : ∀ ys σ' H', Pv n ys σ' H' → J.stop n H')
    (hs : ∀ i x ys σ' H', i < n → item i x → Pv i ys σ' H' → g x σ' H' fun σ3 H3 => tc σ3 H3 fun b H4 => if b = true then te σ3 H4 fun y H5 => Pv (i + 1) (ys ++ [y]) σ3 H5 else Pv (i + 1) ys σ3 H4)
    (hd : ∀ ys σ' H', Pv n ys σ' H' → ∀ D, H' D = none → Q D (upd H' D (.lst ys))) : Gath J cap g tc te Q σ H := by
  have big : (1000000 : Nat) < sizeLine := by rw [sizeLine_eq]; decide
  refine ⟨fun i m ys σ' H' => m = n - i ∧ i ≤ n ∧ Pv i ys σ' H', ⟨n, by simp, Nat.zero_le _, h0⟩, ?_⟩
  rintro i m ys σ' H' ⟨rfl, hi, p⟩
  have hl := hlen i ys σ' H' p
  by_cases hlt : i < n
  · refine .inr ⟨hgo i ys σ' H' hlt p, by omega, Pv (i + 1), fun ys2 σ2 H2 p' => ⟨n - (i + 1), by omega, rfl, hlt, p'⟩, fun x H2 y => ?_⟩
    obtain ⟨h1, h2⟩ := hyld i ys σ' H' x H2 hlt p y
    subst h2
    exact hs i x ys σ' _ hlt h1 p
  · have e : i = n := by omega
    subst e
    exact .inl ⟨hstop ys σ' H' p, by omega, hd ys σ' H' p⟩
theorem gath_range {lo : Int} {n : Nat} (Pv : Nat → List V → St → Hp → Prop) (hn : n ≤ 1000000) (h0 : Pv 0 [] (capt cap σ) H) (hlen : ∀ i ys σ' H', Pv i ys σ' H' → ys.length ≤ i)
    (hs : ∀ i ys σ' H', i < n → Pv i ys σ' H' → g (.int (lo + i)) σ' H' fun σ3 H3 => tc σ3 H3 fun b H4 => if b = true then te σ3 H4 fun y H5 => Pv (i + 1) (ys ++ [y]) σ3 H5 else Pv (i + 1) ys σ3 H4)
    (hd : ∀ ys σ' H', Pv n ys σ' H' → ∀ D, H' D = none → Q D (upd H' D (.lst ys))) : Gath (Itr lo n) cap g tc te Q σ H :=
  gath_of (item := fun i x => x = .int (lo + i)) Pv hn h0 hlen (fun i ys σ' H' hi _ => hi) (fun i ys σ' H' x H2 _ _ y => ⟨y.2, y.1⟩) (fun _ _ _ _ => Nat.le_refl n) (fun i x ys σ' H' hi e p => by subst e; exact hs i ys σ' H' hi p) hd
end
end L2

set_option Elab.async false
set_option linter.all false
set_option maxRecDepth 100000
set_option maxHeartbeats 4000000
namespace L2
open PySem PySem.Spec PyProof.Rows
@[irreducible] def Irr (p : Prop) : Prop := p
theorem Irr.mk {p : Prop} (h : p) : Irr p := by unfold Irr; exact h
theorem Irr.out {p : Prop} (h : Irr p) : p := by unfold Irr at h; exact h
abbrev JE (X : Cx) (e : Expr) (t : TE) : Prop := Irr (PE X e t)
abbrev JT (X : Cx) (e : Expr) (t : TT) : Prop := Irr (PT X e t)
abbrev JW (X : Cx) (e : Expr) (t : TT) : Prop := Irr (PW X e t)
abbrev JA (X : Cx) (es : List Expr) (t : TA) : Prop := Irr (PA X es t)
abbrev JO (X : Cx) (e : Option Expr) (t : TO) : Prop := Irr (PO X e t)
abbrev JS (X : Cx) (st : Stmt) (t : TS) : Prop := Irr (PS X st t)
abbrev JSs (X : Cx) (st : List Stmt) (t : TS) : Prop := Irr (PSs X st t)
abbrev JG (X : Cx) (e : Expr) (t : TG) : Prop := Irr (PG X e t)
abbrev JGs (X : Cx) (e : List Expr) (t : TGs) : Prop := Irr (PGs X e t)
abbrev JI (X : Cx) (tg it : Expr) (t : TI) : Prop := Irr (PI X tg it t)
section
variable {X : Cx} {a b c e f k o v tg it : Expr} {es : List Expr} {ta tb tc te td ty tx tk tv : TE} {tA tB' : TT} {t : TA} {u u' : TS} {pos pos' p p2 apos cpos spos : Pos} {st : Stmt} {sts sts' : List Stmt} {K : PySem.W.Frag} {w : World}

theorem o_add (hK : X.K = K := by rfl) : Irr (OpR X (binaryOp .Add) (gAdd K)) := .mk (og_add hK)
theorem o_sub : Irr (OpR X (binaryOp .Sub) gMinus) := .mk og_sub
theorem o_mul : Irr (OpR X (binaryOp .Mult) gMul) := .mk og_mul
theorem o_div : Irr (OpR X (binaryOp .FloorDiv) gDiv) := .mk og_div
theorem o_mod : Irr (OpR X (binaryOp .Mod) gMod) := .mk og_mod
theorem o_eq (hu : X.A.units + 64 < cLine) (hK : X.K = K := by rfl) : Irr (OpR X (compareOp .Eq) (gEq K false)) := .mk (og_eq hu hK)
theorem o_lt : Irr (OpR X (compareOp .Lt) gLt) := .mk og_lt
theorem o_le : Irr (OpR X (compareOp .LtE) gLe) := .mk og_le
theorem o_is : Irr (OpR X (compareOp .Is) (gIs false)) := .mk og_is
theorem o_isnot : Irr (OpR X (compareOp .IsNot) (gIs true)) := .mk og_isnot
theorem o_ix (hu : X.A.units + 64 < cLine) (hK : X.K = K := by rfl) (hw : X.w = w := by rfl) : Irr (IxR X (gIx K w)) := .mk (og_ix hu hK hw)
theorem c_len (hK : X.K = K := by rfl) : Irr (CallR X (.builtin "len") (gLen K)) := .mk (cg_len hK)
theorem c_list (hK : X.K = K := by rfl) : Irr (CallR X (.type "list") (gList K)) := .mk (cg_list hK)
theorem m_append : Irr (MtR X "list.append" gAppend) := .mk mg_append
theorem jn (i : Nat) {x : Str} (hN : X.N[i]? = some x := by rfl) (hv : Vis X.env.scope x := by first | exact Or.inl rfl | exact Or.inr (Or.inl rfl) | exact Or.inr (Or.inr rfl)) (hd : (x == ("__debug__" : Str)) = false := by decide)
    (hcd : (x == ("__classdict__" : Str)) = false := by decide) : JE X (.Name x pos) (mVar i) := .mk (pn i hN hv hd hcd)
theorem j_int {i : Int} {j : Nat} : JE X (.Constant (.int i) j pos) (tC (.int i)) := .mk pe_int
theorem j_bl {b : Bool} {j : Nat} : JE X (.Constant (.bool b) j pos) (tC (.bl b)) := .mk pe_bl
theorem j_non {j : Nat} : JE X (.Constant .none j pos) (tC .non) := .mk pe_non
theorem j_str {x : Str} {j : Nat} : JE X (.Constant (.str x) j pos) (tC (.str x)) := .mk pe_str
theorem j_glob {x : Str} {v : V} {u : Value} (hg : Gl X x) (hm : X.mg x = some u) (r : RelV v u) (hd : (x == ("__debug__" : Str)) = false := by decide) : JE X (.Name x pos) (tC v) := .mk (pe_glob hg hm r hd)
theorem j_bltn {x : Str} {v : V} {u : Value} (hg : Gl X x) (hm : X.mg x = none) (hv : bootBuiltins x = some u) (r : RelV v u) (hn : x ≠ "__name__" := by decide) (hd : (x == ("__debug__" : Str)) = false := by decide) : JE X (.Name x pos) (tC v) := .mk (pe_bltn hg hm hv r hn hd)
theorem j_op {op : Operator} {r : R2} (ho : Irr (OpR X (binaryOp op) r)) (ha : JE X a ta) (hb : JE X b tb) : JE X (.BinOp a op b pos) (tOp r ta tb) := .mk (pe_op ho.out ha.out hb.out)
theorem j_cmp {op : CmpOp} {r : R2} (ho : Irr (OpR X (compareOp op) r)) (ha : JE X a ta) (hb : JE X b tb) (hm : behindInMarks op b = false := by first | exact nomark _ | rfl) : JE X (.Compare a [op] [b] pos) (tOp r ta tb) := .mk (pe_cmpR ho.out ha.out hb.out hm)
theorem j_and (ha : JE X a ta) (hb : JE X (.BoolOp .And (b :: es) pos) tb) : JE X (.BoolOp .And (a :: b :: es) pos) (mAndV ta tb) := .mk (pe_andM ha.out hb.out)
theorem j_one {op : BoolOp} (h : JE X a ta) : JE X (.BoolOp op [a] pos) ta := .mk (pe_one h.out)
theorem j_not (ha : JE X a ta) : JE X (.UnaryOp .Not a pos) (mNotV ta) := .mk (pe_notM ha.out)
theorem ja_nil : JA X [] tNil := .mk pa_nil
theorem ja_cons (ha : JE X e te) (hr : JA X es t) (h : noStar e = true := by rfl) : JA X (e :: es) (tCons te t) := .mk (pa_consM ha.out hr.out h)
theorem j_tup {x1 : Nat} (h : JA X es t) : JE X (.Tuple es x1 pos) (tTup t) := .mk (pe_tup h.out)
theorem j_lst (h : JA X es t) : JE X (.List es pos) (tLst t) := .mk (pe_lst h.out)
theorem jo_none : JO X none tNoPart := .mk po_none
theorem jo_some (h : JE X e te) : JO X (some e) (mPart te) := .mk (po_someM h.out)
theorem j_slice {r : V → Option Int → Option Int → Hp → VK → Prop} {lo hi : Option Expr} {tl th : TO} (hr : Irr (SlR X r)) (he : JE X e te) (hl : JO X lo tl) (hu : JO X hi th) : JE X (.Subscript e (.Slice lo hi none p2) pos) (tSl r te tl th) := .mk (pe_slice hr.out he.out hl.out hu.out)
theorem j_ix {r : R2} (hr : Irr (IxR X r)) (ha : JE X a ta) (hb : JE X b tb) (hs : PlainIx b := by exact fun _ _ => rfl) : JE X (.Subscript a b pos) (tOp r ta tb) := .mk (pe_ix hr.out ha.out hb.out hs)
theorem j_def {k : Nat} {x : Str} {ps : List Str} {sp : Sp} (D : Def X.prog X.w X.K X.mg X.base k x ps sp) (hr : Room k X.A) (hg : Gl X x) (ha : JA X (e :: es) t) (hdb : (x == ("__debug__" : Str)) = false := by decide)
    (hst : noStars (e :: es) = true := by rfl) : JE X (.Call (.Name x p) (e :: es) [] pos) (fun σ H Q => t σ H fun vs H1 => sp vs H1 Q E0) := .mk (pe_def D hr hg ha.out hdb hst)
theorem j_callB {x : Str} {id : String} {r : List V → Hp → VK → Prop} (hc : Irr (CallR X (.builtin id) r)) (hg : Gl X x) (hm : X.mg x = none) (hv : bootBuiltins x = some (.builtin id)) (ha : JA X (e :: es) t) (hn : x ≠ "__name__" := by decide) (hdb : (x == ("__debug__" : Str)) = false := by decide)
    (h : noStars (e :: es) = true := by rfl) : JE X (.Call (.Name x p) (e :: es) [] pos) (tCB r t) := .mk (pe_callBM hc.out hg hm hv ha.out hn hdb h)
theorem j_callTy {x : Str} {T : String} {r : List V → Hp → VK → Prop} (hc : Irr (CallR X (.type T) r)) (hg : Gl X x) (hm : X.mg x = none) (hv : bootBuiltins x = some (.type T)) (ha : JA X (e :: es) t) (hn : x ≠ "__name__" := by decide) (hdb : (x == ("__debug__" : Str)) = false := by decide)
    (h : noStars (e :: es) = true := by rfl) : JE X (.Call (.Name x p) (e :: es) [] pos) (tCB r t) := .mk (pe_callTyM hc.out hg hm hv ha.out hn hdb h)
theorem j_bm {name : Str} {T id : String} {r : V → List V → Hp → VK → Prop} {to : TE} (pa : PlainAttrs T) (slot : Slot T name id) (hty : typeOf (.builtin id) = pure (.type "method_descriptor")) (hm : Irr (MtR X id r)) (ho : JE X o to) (ha : JA X (e :: es) t) (hK : X.K = K := by rfl)
    (hsup : notSuper o = true := by rfl) (h : noStars (e :: es) = true := by rfl) (h30 : (e :: es).length < 30 := by decide) (hline : (apos.endLine == cpos.line) = true := by rfl) :
    JE X (.Call (.Attribute o name apos) (e :: es) [] cpos) (tBM K T r to t) := .mk (pe_bmK pa slot hty hm.out ho.out ha.out hK hsup h h30 hline)
theorem jt_cmp {op : CmpOp} {r : R2} (ho : Irr (OpR X (compareOp op) r)) (ha : JE X a ta) (hb : JE X b tb) (hm : behindInMarks op b = false := by first | exact nomark _ | rfl) : JT X (.Compare a [op] [b] pos) (mTest (tOp r ta tb)) := .mk (pt_cmpM ho.out ha.out hb.out hm)
theorem jt_chain {op op' : CmpOp} {r r' : R2} (ho : Irr (OpR X (compareOp op) r)) (ho' : Irr (OpR X (compareOp op') r')) (ha : JE X a ta) (hb : JE X b tb) (hc : JE X c tc)
    (hm : lastMarks [op, op'] [b, c] = false := by with_unfolding_all rfl) : JT X (.Compare a [op, op'] [b, c] pos) (mTest (mChain r r' ta tb tc)) := .mk (by rw [mChain_eq]; exact pt_chainM ho.out ho'.out ha.out hb.out hc.out hm)
theorem jt_val (h : JE X e te) (he : ∀ whole, isTrue e X.env whole = (do let v ← whole; standAt e.pos; holding [v] (truthy v)) := by intro _; rfl) : JT X e (mTest te) := .mk (pt_valM h.out he)
theorem jt_not (ha : JT X a tA) : JT X (.UnaryOp .Not a pos) (tNot tA) := .mk (pt_not ha.out)
theorem jw_or1 (ha : JT X a tA) : JW X (.BoolOp .Or [a] pos) tA := .mk (pw_or1 ha.out)
theorem jw_or (ha : JT X a tA) (hb : JW X (.BoolOp .Or (b :: es) pos) tB') : JW X (.BoolOp .Or (a :: b :: es) pos) (tOr tA tB') := .mk (pw_or ha.out hb.out)
theorem jw_t (h : JW X e tA) : JT X e tA := .mk h.out.pt

theorem ji_any (h : JE X e te) (hK : X.K = K := by rfl) : JI X tg e (iAny K te) := .mk (pi_any h.out hK)
theorem ji_rng1 (hg : Gl X "range") (hm : X.mg "range" = none) (ha : JA X [a] t) (h : noStar a = true := by rfl) : JI X tg (.Call (.Name "range" p) [a] [] pos) (mRng1 t) := .mk (pi_rng1 hg hm ha.out (starEach_cons h))
theorem jg_name {i : Nat} {x : Str} (hN : X.N.Nodup) (hi : X.N[i]? = some x) (hx : Loc X.env.scope x) (hf : X.fn x = true ∨ X.env.scope.names.lookup x = some .local := by first | exact .inl rfl | exact .inr rfl | assumption) : JG X (.Name x pos) (gName i) := .mk (pg_name hN hi hx hf)
theorem jgs_nil : JGs X [] gNil := .mk pgs_nil
theorem jgs_cons {g : TG} {gs : TGs} (h1 : JG X e g) (h2 : JGs X es gs) (hs : (assignEach (e :: es) X.env).map (·.2) = assign e X.env :: (assignEach es X.env).map (·.2) := by rfl) : JGs X (e :: es) (gCons g gs) := .mk (pgs_cons h1.out h2.out hs)
theorem jg_tup {k : Nat} {gs : TGs} {n : Nat} (hc : X.calm = true) (h : JGs X es gs) (hK : X.K = K := by rfl) (hn : (assignEach es X.env).length = n := by rfl) (hst : (assignEach es X.env).findIdx? (·.1) = none := by rfl) : JG X (.Tuple es k pos) (gTup K n gs) := .mk (pg_tupK hc h.out hK hn hst)
theorem jg_sub (ho : JE X o ta) (hi : JE X k tb) (ha : ∀ v, assign (.Subscript o k pos) X.env v = (do
      let ov ← holding [v] (eval o X.env)
      let iv ← holding [v, ov] (eval k X.env)
      standAt pos
      holding [v, ov, iv] (setItem ov iv v)
      release [v, ov, iv] []) := by intro _; rfl) : JG X (.Subscript o k pos) (L2.gSub ta tb rSetL) := .mk (pg_sub ho.out hi.out set_list ha)
abbrev JTs (X : Cx) (ifs : List Expr) (t : TT) : Prop := Irr (PTs X ifs t)
theorem jts_nil : JTs X [] tTrue := .mk pts_nil
theorem j_comp {N : List Str} {cap : List (Option Nat)} {scope : Scope} {ifs : List Expr} {wi : TI} {g : TG} (hc : X.calm = true) (S : CompScope X N cap scope) (hi : JI X tg it wi)
    (hg : ∀ C s₀ H₀ ex, JG (cxComp X N scope C s₀ H₀ ex) tg g) (ht : ∀ C s₀ H₀ ex, JTs (cxComp X N scope C s₀ H₀ ex) ifs tA) (he : ∀ C s₀ H₀ ex, JE (cxComp X N scope C s₀ H₀ ex) e te)
    (hs : ∀ x, foldedSetIterable it X.env x = pure x := by intro _; rfl) :
    JE X (.ListComp e [⟨tg, it, ifs, 0⟩] scope pos) (fun σ H Q => tComp cap wi g tA te (fun D H' => Q (.ref D) H') σ H) :=
  .mk (pe_comp hc S hi.out (fun C s₀ H₀ ex => (hg C s₀ H₀ ex).out) (fun C s₀ H₀ ex => (ht C s₀ H₀ ex).out) (fun C s₀ H₀ ex => (he C s₀ H₀ ex).out) hs)
theorem js_comp {N : List Str} {cap : List (Option Nat)} {scope : Scope} {ifs : List Expr} {wi : TI} {g : TG} {i : Nat} {x : Str} (hc : X.calm = true) (S : CompScope X N cap scope) (hi : JI X tg it wi)
    (hg : ∀ C s₀ H₀ ex, JG (cxComp X N scope C s₀ H₀ ex) tg g) (ht : ∀ C s₀ H₀ ex, JTs (cxComp X N scope C s₀ H₀ ex) ifs tA) (he : ∀ C s₀ H₀ ex, JE (cxComp X N scope C s₀ H₀ ex) e te)
    (hN : X.N.Nodup) (hix : X.N[i]? = some x) (hx : X.env.scope.names.lookup x = some .local) (hsw : swapsWith (.ListComp e [⟨tg, it, ifs, 0⟩] scope pos) (some (.Name x pos')) spos.line X.env = pure true := by rfl)
    (hs : ∀ x, foldedSetIterable it X.env x = pure x := by intro _; rfl) :
    JS X (.Assign [.Name x pos'] (.ListComp e [⟨tg, it, ifs, 0⟩] scope pos) spos) (fun D σ H => tComp cap wi g tA te (fun d H' => D.nx (σ.set i (some (.ref d))) H') σ H) :=
  .mk (ps_comp hc S hi.out (fun C s₀ H₀ ex => (hg C s₀ H₀ ex).out) (fun C s₀ H₀ ex => (ht C s₀ H₀ ex).out) (fun C s₀ H₀ ex => (he C s₀ H₀ ex).out) hN hix hx hsw hs)

theorem jss_nil : JSs X [] tNext := .mk pss_nil
theorem jss_cons (h1 : JS X st u) (h2 : JSs X sts u') : JSs X (st :: sts) (tSeq u u') := .mk (pss_cons h1.out h2.out)
theorem jss_one (h1 : JS X st u) : JSs X [st] u := .mk (pss_one h1.out)
theorem js_set {i : Nat} {x : Str} (hN : X.N.Nodup) (hi : X.N[i]? = some x) (hx : Loc X.env.scope x) (he : JE X e te) (hs : swapsWith e (some (.Name x pos')) pos.line X.env = pure false := by rfl) (hf : X.fn x = true ∨ X.env.scope.names.lookup x = some .local := by first | exact .inl rfl | exact .inr rfl | assumption) :
    JS X (.Assign [.Name x pos'] e pos) (tAsg te (gName i)) := .mk (ps_set hN hi hx he.out hs hf)
theorem js_asg {g : TG} (he : JE X e te) (hg : JG X tg g) (hs : swapsWithSole [tg] e pos.line X.env = pure false := by rfl) (hw : swappedStores [tg] e X.env = pure none := by rfl)
    (h1 : (assignEach [tg] X.env).map (·.2) = [assign tg X.env] := by rfl) : JS X (.Assign [tg] e pos) (tAsg te g) := .mk (ps_asg he.out hg.out hs hw h1)
theorem js_if (hc : JT X c tA) (ha : JSs X sts u) (hb : JSs X sts' u') : JS X (.If c sts sts' pos) (tIfS tA u u') := .mk (ps_if hc.out ha.out hb.out)
theorem js_ret (he : JE X e te) : JS X (.Return (some e) pos) (tRet te) := .mk (ps_ret he.out)
theorem js_expr (he : JE X e te) (hs : swapsWith e none pos.line X.env = pure false := by rfl) : JS X (.Expr e pos) (tDrop te) := .mk (ps_expr he.out hs)
theorem js_while (hp : PassesOwn (model X.prog X.w) X.A X.env X.xe) (hc : JT X c tA) (hb : JSs X sts u) : JS X (.While c sts [] pos) (tWhile tA u) := .mk (ps_while hp hc.out hb.out)
theorem js_for {wi : TI} {g : TG} (hp : PassesOwn (model X.prog X.w) X.A X.env X.xe) (hc : X.calm = true) (hi : JI X tg it wi) (hg : JG X tg g) (hb : JSs X sts u)
    (hs : ∀ x, foldedSetIterable it X.env x = pure x := by intro _; rfl) : JS X (.For tg it sts [] pos) (tFor wi g u) := .mk (ps_for hp hc hi.out hg.out hb.out hs)
end
theorem Raw.defJ {P : Program} {w : World} {K : PySem.W.Frag} {mg : Str → Option Value} {base : Heap} {x : Str} {st : Stmt} {N ps : List Str} {k : Nat} {sp : Sp} (R : Raw K mg x st ps) (S : FnScope N ps (defScope st)) (len : ∀ vs H Q E, sp vs H Q E → vs.length = ps.length)
    (hbody : ∀ (f : Addr) (cdv : Value) (A : Around) (outer : List Env) (s : Shared) (H : Hp) (vs : List V) (Q : VK) (E : XK), Room k (A.deeper (envOfC x (defScope st) s.heap.objs.size f cdv)) → sp vs H Q E →
      ∃ t, JSs (cxOf CX0 P w K mg base N x (defScope st) f cdv A outer s H E).nox (defBody st) t ∧ t { nx := fun _ H' => Q .non H', rt := Q } (start N vs) H) : Def P w K mg base (k + 1) x ps sp :=
  R.def S len fun f cdv A outer s H vs Q E hr h => let ⟨t, h1, h2⟩ := hbody f cdv A outer s H vs Q E hr h; ⟨t, h1.out, h2⟩
end L2

namespace L2
open PySem PySem.Spec PyProof.Rows
inductive TyD (K : PySem.W.Frag) (H : Hp) : V → String → Prop where
  | non : TyD K H .non "NoneType"
  | bl (x : Bool) : TyD K H (.bl x) "bool"
  | int (i : Int) : TyD K H (.int i) "int"
  | str (x : Str) : TyD K H (.str x) "str"
  | list {a : Addr} {xs : List V} (e : SqL K H a xs) : TyD K H (.ref a) "list"
  | tuple {a : Addr} {xs : List V} (e : SqT K H a xs) : TyD K H (.ref a) "tuple"
end L2

set_option Elab.async false
set_option linter.all false
set_option maxRecDepth 100000
set_option maxHeartbeats 4000000
namespace L2
open PySem PySem.Spec PyProof.Rows

abbrev anyHO : HO := .ext fun _ => True
def Kn (H : Hp) (a : Addr) (o : Obj) : Prop := H a = some (.frz o anyHO)
theorem Kn.get {P : Program} {w : World} {H : Hp} {h : Heap} {a : Addr} {o : Obj} (k : Kn H a o) (x : HOk P w H h) : h.get? a = some o := (x a _ k).1
theorem ok_any {P : Program} {w : World} {H : Hp} {h : Heap} {a : Addr} {o : Obj} (e : h.get? a = some o) : ObjOk P w H h a (.frz o anyHO) := ⟨e, True.intro, ⟨o, e⟩, fun _ _ _ _ => True.intro⟩

section
variable {P : Program} {w : World} {H H' : Hp} {h h' : Heap} {cs fs : List Addr}
end

structure CloScope (ps ls fr : List Str) (sc : Scope) : Prop where
  kind : sc.kind = .function
  co : sc.isCoroutine = false
  gen : sc.isGenerator = false
  nd : (ps ++ ls ++ fr).Nodup
  par : ∀ x ∈ ps, sc.names.lookup x = some .local
  nocell : ∀ y ∈ sc.names, y.2 ≠ .cell
  fre : ∀ x ∈ fr, sc.names.lookup x = some .free
  all : ∀ y ∈ sc.names, y.2 = .free → y.1 ∈ fr
structure Made (H : Hp) (f : Addr) (name qual : Str) (st : Stmt) (cl : List (Str × Addr)) : Prop where
  ex : ∃ (doc pm : Value) (c' : Addr) (ctv : Value) (oc : Obj) (vs : Array Value) (t : Tok), Kn H f (PySem.W.fnMade name qual (defArgs st) (defBody st) (defScope st) cl doc pm c' ctv) ∧ Kn H c' oc ∧ oc.data = .fields vs ∧ vs[1]? = some (.str qual t)
structure CloAt (H : Hp) (f : Addr) (name qual : Str) (st : Stmt) (fr : List Str) (cs : List Addr) (ws : List V) : Prop where
  ex : ∃ cl, Made H f name qual st cl ∧ (∀ x c, cl.lookup x = some c → ∃ j : Nat, fr[j]? = some x ∧ cs[j]? = some c) ∧ ∀ (j : Nat) x, fr[j]? = some x → ∃ c, cl.lookup x = some c ∧ cs[j]? = some c
  cells : ∀ (j : Nat) x, ws[j]? = some x → ∃ c o u, cs[j]? = some c ∧ Kn H c o ∧ o.data = .cell (some u) ∧ RelV x u
  l1 : cs.length = fr.length
  l2 : ws.length = fr.length
  nd : cs.Nodup
theorem CloAt.kn {H : Hp} {f : Addr} {name qual : Str} {st : Stmt} {fr : List Str} {cs : List Addr} {ws : List V} (C : CloAt H f name qual st fr cs ws) : ∀ c ∈ cs, ∃ o, Kn H c o := fun c m => by
  obtain ⟨j, hj, e⟩ := List.mem_iff_getElem.mp m
  have hw : j < ws.length := by rw [C.l2, ← C.l1]; exact hj
  obtain ⟨c', o, u, h1, h2, _⟩ := C.cells j ws[j] (List.getElem?_eq_getElem hw)
  rw [List.getElem?_eq_getElem hj, e] at h1
  cases h1
  exact ⟨o, h2⟩
theorem CloAt.same {H H' : Hp} {f : Addr} {name qual : Str} {st : Stmt} {fr : List Str} {cs : List Addr} {ws : List V} (C : CloAt H f name qual st fr cs ws) (h : ∀ b o, Kn H b o → Kn H' b o) : CloAt H' f name qual st fr cs ws := by
  obtain ⟨cl, ⟨doc, pm, c', ctv, oc, vs, t, h1, h2, h3, h4⟩, h5, h6⟩ := C.ex
  refine ⟨⟨cl, ⟨doc, pm, c', ctv, oc, vs, t, h _ _ h1, h _ _ h2, h3, h4⟩, h5, h6⟩, fun j x e => ?_, C.l1, C.l2, C.nd⟩
  obtain ⟨c, o, u, q1, q2, q3, q4⟩ := C.cells j x e
  exact ⟨c, o, u, q1, h _ _ q2, q3, q4⟩

end L2

set_option Elab.async false
set_option linter.all false
set_option maxRecDepth 100000
set_option maxHeartbeats 4000000
namespace L2
open PySem PySem.Spec PyProof.Rows

structure FnV (P : Program) (w : World) (K : PySem.W.Frag) (mg : Str → Option Value) (base : Heap) (k : Nat) (f : Addr) (sp : Sp) : Prop where
  fn : ∀ vs H Q E, sp vs H Q E → ∃ oc od fd sl, Kn H f ⟨oc, od, .func fd, sl⟩
  run : ∀ (A : Around) (outer : List Env) (s : Shared) (H : Hp) (us : List Value) (vs : List V) (Q : VK) (E : XK), Room k A → Env0 P w K mg base A outer s H → Vals vs us → sp vs H Q E →
    codeAny (model P w) A (.call (.ref f) ⟨us, []⟩) (CR CX0 outer P w H s Q E) s
section
variable {X : Cx} {e : Expr} {es : List Expr} {t : TA} {p pos : Pos}
end

structure TabOk (H : Hp) (Pt : Addr) (qs : List (Pos × Str)) : Prop where
  ex : ∃ l : List (Pos × Addr), H Pt = some (.tbl (triples l).toArray) ∧ ∀ q ∈ l, ∃ qual oc vs t, (q.1, qual) ∈ qs ∧ Kn H q.2 oc ∧ oc.data = .fields vs ∧ vs[1]? = some (.str qual t)
theorem TabOk.same {H H' : Hp} {Pt : Addr} {qs : List (Pos × Str)} (T : TabOk H Pt qs) (h1 : H' Pt = H Pt) (h2 : ∀ b o, Kn H b o → Kn H' b o) : TabOk H' Pt qs := by
  obtain ⟨l, e, h⟩ := T.ex
  refine ⟨l, h1.trans e, fun q m => ?_⟩
  obtain ⟨qual, oc, vs, t, a, b, c⟩ := h q m
  exact ⟨qual, oc, vs, t, a, h2 _ _ b, c⟩
section
variable {X : Cx}
end
end L2

set_option Elab.async false
set_option linter.all false
set_option maxRecDepth 100000
set_option maxHeartbeats 4000000
namespace L2
open PySem PySem.Spec PyProof.Rows

structure Froz (env : Env) (N : List Str) (σ : St) (fr : List Str) (cs : List Addr) (os : List Obj) : Prop where
  l1 : cs.length = fr.length
  l2 : os.length = fr.length
  at_ : ∀ (j : Nat) x, fr[j]? = some x → ∃ (c : Addr) (o : Obj) (i : Nat) (v : V) (u : Value), cs[j]? = some c ∧ os[j]? = some o ∧ env.cells.lookup x = some c ∧ N[i]? = some x ∧ σ[i]? = some (some v) ∧ o.data = .cell (some u) ∧ RelV v u
  nd : cs.Nodup
section
variable {X : Cx} {e : Expr} {es : List Expr} {t : TA} {p pos : Pos}
end
structure Only2 (ts : List (Addr × Addr)) (H : Hp) : Prop where
  tabs : ∀ q ∈ ts, H q.2 = some (.tbl #[])
  rest : ∀ b, H b = none ∨ (∃ q ∈ ts, q.2 = b) ∨ ∃ o xs, H b = some (.frz o (.lst xs))
end L2

set_option Elab.async false
set_option linter.all false
set_option maxRecDepth 100000
set_option maxHeartbeats 4000000
namespace L2
open PySem PySem.Spec PyProof.Rows
section
variable {X : Cx} {e a : Expr} {es : List Expr} {t : TA} {ta te : TE} {p pos : Pos} {K : PySem.W.Frag}

def mNeg (ta : TE) : TE := fun σ H Q => ta σ H fun x H1 => match x with
  | .int i => Q (.int (-i)) H1
  | _ => False
theorem j_neg (ha : JE X a ta) : JE X (.UnaryOp .USub a pos) (mNeg ta) := by
  refine .mk ?_
  have h := pe_un (pos := pos) un_neg ha.out
  intro pins s σ H Q I q
  refine h pins s σ H Q I ?_
  unfold mNeg at q
  unfold tUn
  refine cast (congrArg (ta σ H) ?_) q
  funext x H1
  refine propext ⟨fun z => ?_, fun z => ?_⟩
  · split at z
    · exact ⟨_, rfl, z⟩
    · exact z.elim
  · obtain ⟨i, rfl, z⟩ := z
    exact z

def dist (ns : List Int) : List Int := ns.foldl step_dedup []
end

structure FunC (K : PySem.W.Frag) (x : Str) (st : Stmt) (f : Addr) (fd : FuncData) (c : Addr) : Prop where
  ex : ∃ (oc : Value) (od : Option Addr) (kV doc pm : Value) (an : Option Addr) (ct : Value) (osl : Array (Option Value)),
    fd = PySem.W.fnOf x x (defArgs st) (defBody st) (defScope st) .none kV doc pm an (.ref c) ct ∧ K.lookup f = some ⟨oc, od, .func fd, osl⟩ ∧ PySem.W.codeIn K (.ref c) x = true
  kp : PySem.W.keepIn K (.ref f) = true
structure RawC (K : PySem.W.Frag) (mg : Str → Option Value) (x : Str) (st : Stmt) (ps : List Str) (c Pt : Addr) : Prop where
  ex : ∃ f fd, mg x = some (.ref f) ∧ FunC K x st f fd c ∧ ∀ (us : List Value), us.length = ps.length → bindArgs fd ⟨us, []⟩ = pure (ps.zip us)
  hd : PySem.W.codeHdIn K c Pt = true
theorem RawC.mk' {K : PySem.W.Frag} {mg : Str → Option Value} {h : Heap} {x : Str} {st : Stmt} {ps : List Str} {f c Pt : Addr} {oc : Value} {od an : Option Addr} {osl : Array (Option Value)} {kV doc pm ct : Value} (X : K.In h) (G : h.Ns mainGlobals mg)
    (a : PySem.W.nsIn K mainGlobals x = some (some (.ref f))) (l : K.lookup f = some ⟨oc, od, .func (PySem.W.fnOf x x (defArgs st) (defBody st) (defScope st) .none kV doc pm an (.ref c) ct), osl⟩)
    (cd : PySem.W.codeIn K (.ref c) x = true) (k : PySem.W.keepIn K (.ref f) = true) (hd : PySem.W.codeHdIn K c Pt = true)
    (hb : ∀ (us : List Value), us.length = ps.length → bindArgs (PySem.W.fnOf x x (defArgs st) (defBody st) (defScope st) .none kV doc pm an (.ref c) ct) ⟨us, []⟩ = pure (ps.zip us)) : RawC K mg x st ps c Pt :=
  ⟨⟨f, _, PySem.W.mg_of X G a, ⟨⟨oc, od, kV, doc, pm, an, ct, osl, rfl, l, cd⟩, k⟩, hb⟩, hd⟩
theorem FunC.lk {K : PySem.W.Frag} {x : Str} {st : Stmt} {f c : Addr} {fd : FuncData} (F : FunC K x st f fd c) : ∃ oc od osl, K.lookup f = some ⟨oc, od, .func fd, osl⟩ := by
  obtain ⟨oc, od, kV, doc, pm, an, ct, osl, _, lk, _⟩ := F.ex
  exact ⟨oc, od, osl, lk⟩
theorem RawC.defJ {P : Program} {w : World} {K : PySem.W.Frag} {mg : Str → Option Value} {base : Heap} {x : Str} {st : Stmt} {N ps : List Str} {k : Nat} {sp : Sp} {c Pt : Addr} (R : RawC K mg x st ps c Pt) (S : FnScope N ps (defScope st)) (len : ∀ vs H Q E, sp vs H Q E → vs.length = ps.length)
    (hbody : ∀ (f : Addr) (A : Around) (outer : List Env) (s : Shared) (H : Hp) (vs : List V) (Q : VK) (E : XK), Room k (A.deeper (envOfC x (defScope st) s.heap.objs.size f (.ref c))) → sp vs H Q E →
      ∃ t, JSs (cxOf CX0 P w K mg base N x (defScope st) f (.ref c) A outer s H E).nox (defBody st) t ∧ t { nx := fun _ H' => Q .non H', rt := Q } (start N vs) H) : Def P w K mg base (k + 1) x ps sp := by
  obtain ⟨f, fd, h1, F, b⟩ := R.ex
  have lk := F.lk
  obtain ⟨oc, od, kV, doc, pm, an, ct, osl, rfl, l, hcd⟩ := F.ex
  refine ⟨f, _, h1, F.kp, lk, .all b, fn_of l hcd S len fun A outer s H vs Q E hr hsp => ?_⟩
  obtain ⟨t, h, q⟩ := hbody f A outer s H vs Q E hr hsp
  exact ⟨t, h.out.nox, q⟩
end L2
namespace L2
open PySem
end L2

set_option Elab.async false
set_option linter.all false
set_option maxRecDepth 100000
set_option maxHeartbeats 4000000
namespace L2
open PySem PySem.Spec PyProof.Rows
section
variable {X : Cx} {e k : Expr} {es : List Expr} {t : TA} {te tk : TE} {p pos p2 : Pos} {K : PySem.W.Frag}
end
end L2

set_option Elab.async false
set_option linter.all false
set_option maxRecDepth 100000
set_option maxHeartbeats 4000000
namespace L2
open PySem PySem.Spec PyProof.Rows

section
variable {prog : Program} {w : World} {A : Around} {E : Value → Shared → Prop} {s : Shared}
def ItAt (t : Bool) (h : Heap) (it a : Addr) (k : Nat) : Prop := match t with
  | true => h.IsTupleIter it a k
  | false => h.IsListIter it a k
def SrcAt (t : Bool) (h : Heap) (a : Addr) (xs : Array Value) : Prop := match t with
  | true => h.IsTuple a xs
  | false => h.IsList a xs
def itCls (t : Bool) : String := match t with
  | true => "tuple_iterator"
  | false => "list_iterator"
theorem ItAt.at {t : Bool} {h h' : Heap} {it a : Addr} {k : Nat} (x : ItAt t h it a k) (e : ∀ o, h.get? it = some o → h'.get? it = some o) : ItAt t h' it a k := by
  cases t with
  | true => obtain ⟨o, ho, r⟩ := x; exact ⟨o, e o ho, r⟩
  | false => obtain ⟨o, ho, r⟩ := x; exact ⟨o, e o ho, r⟩
theorem ItAt.obj {t : Bool} {h : Heap} {it a : Addr} {k : Nat} (x : ItAt t h it a k) : ∃ o, h.get? it = some o ∧ ∀ v, o.data ≠ .cell v := by
  cases t with
  | true => obtain ⟨o, ho, _, d⟩ := x; exact ⟨o, ho, fun v z => by rw [d] at z; cases z⟩
  | false => obtain ⟨o, ho, _, d⟩ := x; exact ⟨o, ho, fun v z => by rw [d] at z; cases z⟩
theorem SrcAt.at {t : Bool} {h h' : Heap} {a : Addr} {xs : Array Value} (x : SrcAt t h a xs) (e : ∀ o, h.get? a = some o → h'.get? a = some o) : SrcAt t h' a xs := by
  cases t with
  | true => obtain ⟨o, ho, r⟩ := x; exact ⟨o, e o ho, r⟩
  | false => obtain ⟨o, ho, r⟩ := x; exact ⟨o, e o ho, r⟩
theorem SrcAt.lt {t : Bool} {h : Heap} {a : Addr} {xs : Array Value} (x : SrcAt t h a xs) : a < h.objs.size := by
  cases t with
  | true => obtain ⟨o, ho, _⟩ := x; exact Heap.lt_size ho
  | false => obtain ⟨o, ho, _⟩ := x; exact Heap.lt_size ho
theorem ItAt.new {t : Bool} {h : Heap} {it a : Addr} (e : h.get? it = some { cls := .type (itCls t), data := .fields #[.ref a, .int 0 0] }) : ItAt t h it a 0 := by
  cases t with
  | true => exact ⟨_, e, rfl, rfl⟩
  | false => exact ⟨_, e, rfl, rfl⟩

end

end L2

set_option Elab.async false
set_option linter.all false
set_option maxRecDepth 100000
set_option maxHeartbeats 4000000
namespace L2
open PySem PySem.Spec PyProof.Rows
section
variable {prog : Program} {w : World} {A : Around} {E : Value → Shared → Prop} {s : Shared}
end

section
variable {X : Cx} {K : PySem.W.Frag}
end
end L2

set_option Elab.async false
set_option linter.all false
set_option maxRecDepth 100000
set_option maxHeartbeats 4000000
namespace L2
open PySem PySem.Spec PyProof.Rows

def FlyG (B : Heap) (l : List Env) (e : Addr) (cls a0 : Value) (h : Heap) : Prop := B.StaysIn h ∧ B.get? e = none ∧ h.FunFrames B l ∧ ∃ fl, h.TracedAtW B e cls a0 fl
theorem FlyG.of {B h : Heap} {l : List Env} {e : Addr} {cls a0 : Value} (x : Heap.FlyingW B l e cls a0 h) : FlyG B l e cls a0 h := ⟨x.1, x.2.1, x.2.2.1, _, x.2.2.2.at⟩
section
variable {M : Model} {A : Around} {E : Value → Shared → Prop} {s : Shared} {B : Heap} {env : Env} {outer : List Env} {L e : Addr} {cls a0 : Value} {Q : Unit → Shared → Prop}
theorem note_any (hfr : A.frames = some (env :: outer)) (hf : env.frame = some L) (x : FlyG B (env :: outer) e cls a0 s.heap)
    (hQ : ∀ h', Heap.HeldW B (env :: outer) e cls a0 L h' → s.heap.UpToSlots h' → Q () { s with heap := h' }) : wpAny M A (noteFrame (.ref e) env) Q E s := by
  obtain ⟨st, hn, hl, fl, ht⟩ := x
  by_cases hfl : fl = rawInt L
  · subst hfl
    exact wpAny_noteFrame_againW hf ht (hQ s.heap ⟨st, hn, hl, ht⟩ (.refl _))
  · obtain ⟨oe, vs, T, oT, ts, he, ⟨hcls, h0⟩, hd, h1, hnT, hTe, hT, hdT, h3⟩ := ht
    subst hcls
    unfold noteFrame
    simp only [hf]
    refine wpAny_bind (wpAny_field he hd h1 ?_)
    rw [if_pos (show (Value.ref T != Value.none) = true from by simp)]
    refine wpAny_bind (wpAny_field hT hdT h3 ?_)
    rw [if_neg (show ¬ ((fl == rawInt L) = true) from fun z => hfl (beq_iff_eq.mp z))]
    refine wpAny_bind (wpAny_setField hT hdT (Array.getElem?_eq_some_iff.mp h3).1 ?_)
    have other : ∀ b, b ≠ T → (s.heap.update T (Obj.mapFields (·.setIfInBounds 3 Value.none))).get? b = s.heap.get? b := fun b hb => Heap.get?_update_other _ _ (Ne.symm hb)
    have noRecord : ∀ b o, s.heap.get? b = some o → (∀ vs, o.data ≠ .fields vs) → b ≠ T := fun b o hb hnf q => by
      rw [q, hT] at hb; injection hb with hb; subst hb; exact hnf ts hdT
    refine wpAny_entryW hfr (hl.of_keeps fun b o hb hnf => ⟨o, (other b (noRecord b o hb hnf)).trans hb, rfl⟩) hf ((other e (Ne.symm hTe)).trans he)
      (fun b o hbo => (other b fun q => by rw [q, hnT] at hbo; cases hbo).trans (st b o hbo)) hn hd (Array.getElem?_eq_some_iff.mp h1).1 h0
      fun h' ⟨x1, x2, x3, x4⟩ => hQ h' ⟨x1, hn, x2, x3⟩ fun b o hb hnf => x4 b o ((other b (noRecord b o hb hnf)).trans hb) hnf
theorem leaving_any (hfr : A.frames = some (env :: outer)) (hf : env.frame = some L) (x : FlyG B (env :: outer) e cls a0 s.heap)
    (hQ : ∀ h', Heap.FlyingW B outer e cls a0 h' → s.heap.UpToSlots h' → Q () { s with heap := h' }) : wpAny M A (leaving env (.ref e)) Q E s := by
  unfold leaving
  refine wpAny_bind (note_any hfr hf x fun h1 hh us1 => ?_)
  refine wpAny_landsW (s := { s with heap := h1 }) hh fun h2 fl us2 => ?_
  obtain ⟨k1, k2, ⟨_, _, k3⟩, k4⟩ := fl
  exact hQ h2 ⟨k1, k2, k3, k4⟩ (us1.trans us2)
end

def FlyAt (P : Program) (w : World) (stack : List Env) (fs ex : List Addr) (H₀ : Hp) (h₀ : Heap) (os : OsState) (E : XK) (e : Value) (s' : Shared) : Prop :=
  ∃ (a : Addr) (B : Heap) (cls a0 : Value) (H' : Hp), e = .ref a ∧ s'.os = os ∧ AllBare s'.gens ∧ FlyG B stack a cls a0 s'.heap ∧ HOk P w H' B ∧ Un fs ex H₀ H' h₀ s'.heap ∧
  (∀ b o, h₀.get? b = some o → b ∉ fs → b ∉ ex → (∃ o', B.get? b = some o') ∧ (H₀ b = none → B.get? b = some o)) ∧ E cls none H'
def CX1 (P : Program) (w : World) : CXT := fun outer H s E e s' => FlyAt P w outer (frs outer) [] H s.heap s.os E e s'
def FlyX (X : Cx) (E : XK) (e : Value) (s' : Shared) : Prop := FlyAt X.prog X.w X.stack X.fs X.ex X.H₀ X.s₀.heap X.s₀.os E e s'
def Exits (X : Cx) (E : XK) : Prop := X.Ok → ∀ e s', FlyX X E e s' → X.xe e s'

section
variable {X : Cx} {E : XK} {pins : List (Addr × Obj)} {σ : List (Option V)} {H H' : Hp} {s : Shared} {h'' B : Heap}
theorem Inv.nostk (I : Inv X pins σ H s) {b : Addr} {o : Obj} (e : X.s₀.heap.get? b = some o) (hb : b ∉ X.fs) : b ∉ frs X.stack := fun z => by
  rcases List.mem_cons.mp (I.stkSub b z) with q | q
  · exact absurd (Nat.lt_of_lt_of_le (Heap.lt_size e) I.ok.above) (by rw [q]; exact Nat.lt_irrefl _)
  · exact hb q
theorem fly_core {fp : List Addr} {h' : Heap} (I : Inv X pins σ H s) (hfp : ∀ b ∈ fp, b ∈ X.ex ∨ X.s₀.heap.objs.size ≤ b) (un : Un (frs X.stack) fp H H' s.heap h')
    (kb : ∀ b o, s.heap.get? b = some o → b ∉ frs X.stack → b ∉ fp → (∃ o', B.get? b = some o') ∧ (H b = none → B.get? b = some o)) (st : B.StaysIn h') :
    Un X.fs X.ex X.H₀ H' X.s₀.heap h' ∧ ∀ b o, X.s₀.heap.get? b = some o → b ∉ X.fs → b ∉ X.ex → (∃ o', B.get? b = some o') ∧ (X.H₀ b = none → B.get? b = some o) := by
  have nofp : ∀ b o, X.s₀.heap.get? b = some o → b ∉ X.ex → b ∉ fp := fun b o e hx z => by
    rcases hfp b z with q | q
    · exact hx q
    · exact absurd (Nat.lt_of_lt_of_le (Heap.lt_size e) q) (Nat.lt_irrefl _)
  have kb' : ∀ b o, X.s₀.heap.get? b = some o → b ∉ X.fs → b ∉ X.ex → (∃ o', B.get? b = some o') ∧ (X.H₀ b = none → B.get? b = some o) := fun b o e hb hx => by
    obtain ⟨o1, e1⟩ := I.base.there b o e hx
    refine ⟨(kb b o1 e1 (I.nostk e hb) (nofp b o e hx)).1, fun n => ?_⟩
    exact (kb b o (I.base.keep b o e n hb hx) (I.nostk e hb) (nofp b o e hx)).2 (I.base.free b o e n hx)
  have inS : ∀ b, b ∈ X.fs → b ∈ frs X.stack := fun b hb => by
    rcases I.ok.stk with q | ⟨q, hf⟩
    · rw [q]; exact hb
    · rw [q]; unfold frs; rw [List.filterMap_cons, hf]; exact List.mem_cons_of_mem _ hb
  refine ⟨⟨fun b o e n hb hx => st b o ((kb' b o e hb hx).2 n), fun b o e n hb hx => ?_, fun b o e n hx => ?_, fun b o e hx => ?_, fun b xs e => un.tups b xs (I.base.tups b xs e), fun b o u e => un.frzs b o u (I.base.frzs b o u e), fun b ps e => ?_⟩, kb'⟩
  · obtain ⟨sl1, e1⟩ := I.base.slot b o e n hb hx
    obtain ⟨sl2, e2⟩ := un.slot b _ e1 (I.base.free b o e n hx) (inS b hb) (nofp b o e hx)
    exact ⟨sl2, e2⟩
  · obtain ⟨o1, e1⟩ := I.base.there b o e hx
    exact un.free b o1 e1 (I.base.free b o e n hx) (nofp b o e hx)
  · obtain ⟨o1, e1⟩ := I.base.there b o e hx
    exact un.there b o1 e1 (nofp b o e hx)
  · obtain ⟨m1, e1⟩ := I.base.tbls b ps e
    obtain ⟨m2, e2⟩ := un.tbls b _ e1
    exact ⟨m1 ++ m2, by rw [e2, Array.append_assoc]⟩
theorem fly_back {fp : List Addr} (I : Inv X pins σ H s) (hfp : ∀ b ∈ fp, b ∈ X.ex ∨ X.s₀.heap.objs.size ≤ b) {e : Value} {s' : Shared} (h : FlyAt X.prog X.w X.stack (frs X.stack) fp H s.heap s.os E e s') : FlyX X E e s' := by
  obtain ⟨a, B, cls, a0, H', rfl, os, bare, fl, hok, un, kb, hE⟩ := h
  obtain ⟨un', kb'⟩ := fly_core I hfp un kb fl.1
  exact ⟨a, B, cls, a0, H', rfl, os.trans I.os, bare, fl, hok, un', kb', hE⟩
theorem Exits.passes (h : Exits X E) : Passes (CX1 X.prog X.w) X E := fun pins σ H s e s' I q => h I.ok e s' (fly_back (fp := []) I (fun _ z => nomatch z) q)
end
section
variable {P : Program} {w : World} {K : PySem.W.Frag} {mg : Str → Option Value} {base : Heap} {N : List Str} {qual : Str} {scope : Scope} {f : Addr} {cd : Value} {A : Around} {outer : List Env} {s₀ : Shared} {H₀ : Hp} {E : XK}
  {pins : List (Addr × Obj)} {σ : List (Option V)} {H H' : Hp} {s : Shared} {h' h'' B : Heap}
theorem frs_cons {env : Env} {l : List Env} {L : Addr} (h : env.frame = some L) : frs (env :: l) = L :: frs l := by unfold frs; rw [List.filterMap_cons, h]
theorem un_left {fs ex : List Addr} {H₀ H' : Hp} {h₀ h1 h2 : Heap} (un : Un fs ex H₀ H' h₀ h1) (kb : ∀ b o, h₀.get? b = some o → b ∉ fs → b ∉ ex → (∃ o', B.get? b = some o') ∧ (H₀ b = none → B.get? b = some o)) (st : B.StaysIn h2) (us : ∀ b ∈ fs, ∀ o, h1.get? b = some o → (∀ vs, o.data ≠ .fields vs) → ∃ sl, h2.get? b = some { o with slots := sl })
    (nf : ∀ b ∈ fs, ∃ o, h₀.get? b = some o ∧ ∀ vs, o.data ≠ .fields vs) (hfree : ∀ b ∈ fs, H₀ b = none) : Un fs ex H₀ H' h₀ h2 := by
  have slot : ∀ b o, h₀.get? b = some o → H₀ b = none → b ∈ fs → b ∉ ex → ∃ sl, h2.get? b = some { o with slots := sl } := fun b o e n hb hx => by
    obtain ⟨sl, e1⟩ := un.slot b o e n hb hx
    obtain ⟨o', e', d'⟩ := nf b hb
    rw [e] at e'; cases e'
    obtain ⟨sl2, e2⟩ := us b hb _ e1 d'
    exact ⟨sl2, e2⟩
  refine ⟨fun b o e n hb hx => st b o ((kb b o e hb hx).2 n), slot, un.free, fun b o e hx => ?_, un.tups, un.frzs, un.tbls⟩
  by_cases hb : b ∈ fs
  · obtain ⟨sl, e1⟩ := slot b o e (hfree b hb) hb hx
    exact ⟨_, e1⟩
  · obtain ⟨o', e'⟩ := (kb b o e hb hx).1
    exact ⟨o', st b o' e'⟩
theorem exits_fn : Exits (cxOf (CX1 P w) P w K mg base N qual scope f cd A outer s₀ H₀ E) E := by
  intro ok e s' h
  obtain ⟨a, B, cls, a0, H', rfl, os, bare, fl, hok, un, kb, hE⟩ := h
  show wpAny (model P w) (A.deeper (envOfC qual scope s₀.heap.objs.size f cd)) (leaving (envOfC qual scope s₀.heap.objs.size f cd) (.ref a)) (fun _ s'' => CX1 P w outer H₀ s₀ E (.ref a) s'') (fun e' s'' => CX1 P w outer H₀ s₀ E e' s'') s'
  refine leaving_any (L := s₀.heap.objs.size) ok.frames rfl fl fun h'' fl' us => ?_
  exact ⟨a, B, cls, a0, H', rfl, os, bare, .of fl', hok, un_left un kb fl'.1 (fun b _ => us b) (fun b hb => (ok.funs.mem hb).2) ok.frf, kb, hE⟩
theorem pass1 : Passes (CX1 P w) (cxOf (CX1 P w) P w K mg base N qual scope f cd A outer s₀ H₀ E) E := exits_fn.passes
theorem leave_made {e : Addr} {cls : Value} {args : List Value} (I : Inv (cxOf (CX1 P w) P w K mg base N qual scope f cd A outer s₀ H₀ E) pins σ H s) (hx : Heap.MadeExcOf s.heap h' e cls args) (hE : E cls none H) :
    (cxOf (CX1 P w) P w K mg base N qual scope f cd A outer s₀ H₀ E).xe (.ref e) { s with heap := h' } := by
  show wpAny (model P w) (A.deeper (envOfC qual scope s₀.heap.objs.size f cd)) (leaving (envOfC qual scope s₀.heap.objs.size f cd) (.ref e)) (fun _ s'' => CX1 P w outer H₀ s₀ E (.ref e) s'') (fun e' s'' => CX1 P w outer H₀ s₀ E e' s'') { s with heap := h' }
  have hin : ∀ env ∈ (envOfC qual scope s₀.heap.objs.size f cd :: outer), ∀ b, env.frame = some b → b ∈ frs (envOfC qual scope s₀.heap.objs.size f cd :: outer) := fun env he b hb => List.mem_filterMap.mpr ⟨env, he, hb⟩
  refine wpAny_leaves_madeW (base := PySem.W.hideAll s.heap (frs (envOfC qual scope s₀.heap.objs.size f cd :: outer))) (h := s.heap) (L := s₀.heap.objs.size) I.ok.frames rfl (fun b o q => PySem.W.of_hideAll _ q) (PySem.W.funFrames_hide I.stack hin) hx fun h'' t fl tup hbt us => ?_
  have hidden : ∀ b o, s.heap.get? b = some o → b ∉ frs (envOfC qual scope s₀.heap.objs.size f cd :: outer) → (PySem.W.hideAll s.heap (frs (envOfC qual scope s₀.heap.objs.size f cd :: outer))).get? b = some o := fun b o q hb => PySem.W.hideAll_get _ q hb
  have noex : ∀ b : Addr, b ∉ (cxOf (CX1 P w) P w K mg base N qual scope f cd A outer s₀ H₀ E).ex := fun b z => nomatch (show b ∈ ([] : List Addr) from z)
  have kb : ∀ b o, s₀.heap.get? b = some o → b ∉ frs outer → b ∉ ([] : List Addr) → (∃ o', (PySem.W.hideAll s.heap (frs (envOfC qual scope s₀.heap.objs.size f cd :: outer))).get? b = some o') ∧ (H₀ b = none → (PySem.W.hideAll s.heap (frs (envOfC qual scope s₀.heap.objs.size f cd :: outer))).get? b = some o) := fun b o q hb _ => by
    obtain ⟨o1, e1⟩ := I.base.there b o q (noex b)
    exact ⟨⟨o1, hidden b o1 e1 (I.nostk q hb)⟩, fun n => hidden b o (I.base.keep b o q n hb (noex b)) (I.nostk q hb)⟩
  have un : Un (frs outer) [] H₀ H s₀.heap h'' := un_left (I.base) kb fl.1 (fun b _ => ((Heap.UpToSlots.of_keeps hx.keeps).trans us) b) (fun b hb => (I.ok.funs.mem hb).2) I.ok.frf
  refine ⟨e, _, cls, _, H, rfl, I.os, I.bare, .of fl, fun b u q => ?_, un, kb, hE⟩
  refine (I.hok b u q).stay (fun c v hc z => hidden c v z fun m => ?_) (fun _ z => z) fun _ _ z => z
  have hn : H c = none := I.stkFree c m
  rcases hc with rfl | hc
  · rw [q] at hn; cases hn
  · rw [hc] at hn; cases hn
end
end L2

set_option Elab.async false
set_option linter.all false
set_option maxRecDepth 100000
set_option maxHeartbeats 4000000
namespace L2
open PySem PySem.Spec PyProof.Rows

abbrev bmVE : List Value := [.type "ValueError", .type "Exception", .type "BaseException", .type "object"]
theorem exc_of_in {K : PySem.W.Frag} {h : Heap} {C : Addr} {bmB : List Value} {newId : String} (X : K.In h) (q : PySem.W.excIn K C bmB newId = true) :
    ∃ bm N nm q bs hdct sn sub ab col dd k0 k1 k2 k3 k5 mN, h.get? C = some (excClassObj nm q C N bs bm hdct sn sub ab col dd k0 k1 k2 k3 k5 newId) ∧ h.Ns N mN ∧ mN "__init__" = none ∧ OwnTail h bmB bm := by
  unfold PySem.W.excIn at q
  split at q
  · rename_i dd cd sl ho
    split at q
    · rename_i C' bm k0 k1 k2 k3 n k5 hm hs
      simp only [Bool.and_eq_true, beq_iff_eq, Bool.not_eq_true'] at q
      obtain ⟨⟨⟨⟨⟨rfl, rfl⟩, hdel⟩, ht⟩, hok⟩, hni⟩ := q
      obtain ⟨nm, bs, mro, ns, qn, hd, sn, sub, ab, col, del⟩ := cd
      dsimp only at hm hdel hok hni
      subst hm hdel
      have hsl : sl = #[k0, k1, k2, k3, some (.builtin n), k5] := by
        obtain ⟨l⟩ := sl
        simp only at hs
        rw [hs]
      subst hsl
      exact ⟨bm, ns, nm, qn, bs, hd, sn, sub, ab, col, dd, k0, k1, k2, k3, k5, _, X _ _ ho, .of_isNs (PySem.W.isNs_of_in X hok), PySem.W.nsMap_none_of_in X hok hni, PySem.W.tail_of_in X ht⟩
    · cases q
  · cases q

def PF (X : Cx) (e : Expr) (c : St → Hp → Prop) : Prop := ∀ (pins : List (Addr × Obj)) (s : Shared) (σ : St) (H : Hp), Inv X pins σ H s → c σ H →
  wpAny (model X.prog X.w) X.A (eval e X.env) (fun v s' => ∃ y t, v = .str y t ∧ y.length ≤ 1100000 ∧ Inv X pins σ H s') X.xe s
def PFs (X : Cx) (es : List Expr) (c : St → Hp → Prop) : Prop := ∀ (pins : List (Addr × Obj)) (s : Shared) (σ : St) (H : Hp) (acc : Str) (n : Nat), Inv X pins σ H s → c σ H → acc.length ≤ n * 1100000 → n + es.length ≤ 12 →
  Joins (model X.prog X.w) X.A X.xe (evalEach es X.env) acc (fun out s' => out.length ≤ sizeLine ∧ Inv X pins σ H s') s
section
variable {X : Cx} {e : Expr} {es : List Expr} {te : TE} {c c' : St → Hp → Prop} {pos : Pos}
theorem size12 {n : Nat} (h : n ≤ 12 * 1100000) : n ≤ sizeLine := by rw [sizeLine_eq]; omega
theorem pf_str {x : Str} {k : Nat} (h : x.length ≤ 1100000 := by decide) : PF X (.Constant (.str x) k pos) (fun _ _ => True) := fun pins s σ H I _ =>
  Calls.Constant_str (show ∃ y t, Value.str x s.toks = .str y t ∧ y.length ≤ 1100000 ∧ Inv X pins σ H { s with toks := s.toks + 1 } from ⟨x, _, rfl, h, I.tok _⟩)
theorem pf_repr (he : PE X e te) : PF X (.FormattedValue e 114 none pos) (fun σ H => te σ H fun v H1 => H1 = H ∧ ∃ x, v = .str x ∧ x.length ≤ 100000 ∧ ∀ c ∈ x.cps.toList, c < 16 ^ 8) := by
  intro pins s σ H I h
  refine wpAny_FormattedValue_repr (thn (he pins s σ H _ I h) fun u s1 ⟨v, H1, I1, r1, e1, x, ex, hl, hc⟩ => ?_)
  subst e1 ex
  obtain ⟨t, rfl⟩ := r1
  have hr := StrLaws.reprText_len x hc
  have hz := size12 (Nat.le_trans hr (show 10 * x.length + 2 ≤ 12 * 1100000 by omega))
  refine wpAny_pyReprObj_str ?_ hz
  refine wpAny_formatField_str ⟨_, _, rfl, by omega, I1.tok _⟩ ⟨_, _, rfl, by omega, ?_⟩ hz
  exact (I1.tok (s1.toks + 1)).tok _
theorem pf_plain (he : PE X e te) : PF X (.FormattedValue e (-1) none pos) (fun σ H => te σ H fun v H1 => H1 = H ∧ ((∃ x, v = .str x ∧ x.length ≤ 100000) ∨ ∃ a, v = .int a ∧ a.natAbs.log2 < 1920 ∧ (Str.ofString (toString a)).length ≤ 1100000)) := by
  intro pins s σ H I h
  refine wpAny_FormattedValue_plain (thn (he pins s σ H _ I h) fun u s1 ⟨v, H1, I1, r1, e1, q⟩ => ?_)
  subst e1
  rcases q with ⟨x, ex, hl⟩ | ⟨a, ea, hl, hs⟩
  · subst ex
    obtain ⟨t, rfl⟩ := r1
    exact wpAny_formatField_str ⟨_, _, rfl, by omega, I1⟩ ⟨_, _, rfl, by omega, I1.tok _⟩ (size12 (by omega))
  · subst ea
    obtain ⟨t, rfl⟩ := r1
    exact wpAny_formatField_int hl ⟨_, _, rfl, hs, I1.tok _⟩
theorem pfs_nil : PFs X [] (fun _ _ => True) := fun pins s σ H acc n I _ hl hn => by
  have h2 : n ≤ 12 := by simpa using hn
  exact ⟨size12 (Nat.le_trans hl (Nat.mul_le_mul_right 1100000 h2)), I⟩
theorem pfs_cons (h1 : PF X e c) (h2 : PFs X es c') (he : evalEach (e :: es) X.env = eval e X.env :: evalEach es X.env := by rfl) : PFs X (e :: es) (fun σ H => c σ H ∧ c' σ H) := by
  intro pins s σ H acc n I hc hl hn
  rw [he]
  have hn' : n + 1 + es.length ≤ 12 := by rw [List.length_cons] at hn; omega
  refine thn (h1 pins s σ H I hc.1) fun v s1 ⟨y, t, ev, hy, I1⟩ => ⟨y, t, ev, ?_, ?_⟩
  · rw [strLen_append]
    exact size12 (by omega)
  · refine h2 pins s1 σ H (acc ++ y) (n + 1) I1 hc.2 ?_ hn'
    rw [strLen_append]; omega
def tFs (c : St → Hp → Prop) : TE := fun σ H Q => c σ H ∧ ∀ z : Str, z.length ≤ sizeLine → Q (.str z) H
theorem joins_mono {M : Model} {A : Around} {E : Value → Shared → Prop} {Q Q' : Str → Shared → Prop} (hQ : ∀ z s, Q z s → Q' z s) : ∀ (l : List (Sem Value)) (acc : Str) (s : Shared), Joins M A E l acc Q s → Joins M A E l acc Q' s
  | [], acc, s, h => hQ _ _ h
  | x :: r, acc, s, h => thn h fun v s1 ⟨y, t, ev, hz, hr⟩ => ⟨y, t, ev, hz, joins_mono hQ r _ s1 hr⟩
theorem pe_fs {e1 e2 : Expr} (h : PFs X (e1 :: e2 :: es) c) (hn : (e1 :: e2 :: es).length ≤ 12 := by decide) : PE X (.JoinedStr (e1 :: e2 :: es) pos) (tFs c) := by
  intro pins s σ H Q I hq
  refine wpAny_JoinedStr (joins_mono (fun z s' ⟨hz, I'⟩ => ⟨hz, ?_⟩) _ _ _ (h pins s σ H Str.empty 0 I hq.1 (by decide) (by omega)))
  exact ⟨.str z, H, I'.tok _, ⟨_, rfl⟩, hq.2 z hz⟩
end
end L2

set_option Elab.async false
set_option linter.all false
set_option maxRecDepth 100000
set_option maxHeartbeats 4000000
namespace L2
open PySem PySem.Spec PyProof.Rows

def tRaise (C : Addr) (E : XK) (t : TA) : TS := fun D σ H => t σ H fun vs H1 => vs.length ≤ sizeLine ∧ E (.ref C) none H1
section
variable {P : Program} {w : World} {K : PySem.W.Frag} {mg : Str → Option Value} {base : Heap} {N : List Str} {qual : Str} {scope : Scope} {f : Addr} {cd : Value} {A : Around} {outer : List Env} {s₀ : Shared} {H₀ : Hp} {E : XK}
theorem ps_raise {x : Str} {C : Addr} {e : Expr} {es : List Expr} {t : TA} {np cpos pos : Pos} (hg : Gl (cxOf (CX1 P w) P w K mg base N qual scope f cd A outer s₀ H₀ E) x) (hm : mg x = some (.ref C)) (hq : PySem.W.excIn K C bmVE "ValueError.__new__" = true)
    (ha : PA (cxOf (CX1 P w) P w K mg base N qual scope f cd A outer s₀ H₀ E) (e :: es) t) (hst : noStars (e :: es) = true := by rfl) (hd : (x == ("__debug__" : Str)) = false := by decide) :
    PS (cxOf (CX1 P w) P w K mg base N qual scope f cd A outer s₀ H₀ E) (.Raise (some (.Call (.Name x np) (e :: es) [] cpos)) none pos) (tRaise C E t) := by
  intro pins s σ H D I h
  have h' : noStar e = true ∧ noStars es = true := by simpa [noStars] using hst
  have he := starEach_cons (es := es) (env := (cxOf (CX1 P w) P w K mg base N qual scope f cd A outer s₀ H₀ E).env) h'.1
  have hpl := back_any (env := (cxOf (CX1 P w) P w K mg base N qual scope f cd A outer s₀ H₀ E).env) (pos := cpos) hst
  obtain ⟨bm, N', nm, q, bs, hdct, sn, sub, ab, col, dd, k0, k1, k2, k3, k5, mN, hC, hN, hni, T⟩ := exc_of_in (h := base) I.ok.mod.kin hq
  refine wpAny_Raise_call_subU (C := C) (nm := nm) (q := q) (N := N') (bs := bs) (bm := bm) (hdct := hdct) (sn := sn) (sub := sub) (ab := ab) (col := col) (dd := dd) (k0 := k0) (k1 := k1) (k2 := k2) (k3 := k3) (k5 := k5)
    F.excBase_ValueError (by decide +kernel) F.excBase_ValueError (mN := mN) (T.hasType F.excBase_ValueError.hasBase) (I.ok.hd rfl) hpl hni (ld_glob I hg hm ⟨rfl, ?_⟩ hd)
  have h0 := ha cpos pins s σ H _ I h
  rw [he] at h0 ⊢
  refine Calls.evalArgs_plain (wpAny_mono h0 (fun us s2 h2 => ?_) fun _ _ y => y)
  obtain ⟨vs, H2, I2, r2, hl, hE⟩ := h2
  have hlen := r2.length
  exact ⟨rfl, by show us.length ≤ sizeLine; omega, I2.bk _ _ hC, hN.keeps I2.bk, T.keeps I2.bk, fun h3 e3 hm3 => leave_made I2 hm3 hE⟩
theorem js_raise {x : Str} {C : Addr} {e : Expr} {es : List Expr} {t : TA} {np cpos pos : Pos} (hg : Gl (cxOf (CX1 P w) P w K mg base N qual scope f cd A outer s₀ H₀ E) x) (hm : mg x = some (.ref C)) (hq : PySem.W.excIn K C bmVE "ValueError.__new__" = true)
    (ha : JA (cxOf (CX1 P w) P w K mg base N qual scope f cd A outer s₀ H₀ E) (e :: es) t) (hst : noStars (e :: es) = true := by rfl) (hd : (x == ("__debug__" : Str)) = false := by decide) :
    JS (cxOf (CX1 P w) P w K mg base N qual scope f cd A outer s₀ H₀ E) (.Raise (some (.Call (.Name x np) (e :: es) [] cpos)) none pos) (tRaise C E t) := .mk (ps_raise hg hm hq ha.out hst hd)
theorem passes_loop : PassesOwn (model P w) (cxOf (CX1 P w) P w K mg base N qual scope f cd A outer s₀ H₀ E).A (cxOf (CX1 P w) P w K mg base N qual scope f cd A outer s₀ H₀ E).env (cxOf (CX1 P w) P w K mg base N qual scope f cd A outer s₀ H₀ E).xe := PassesOwn.leaving
end
abbrev JF (X : Cx) (e : Expr) (c : St → Hp → Prop) : Prop := Irr (PF X e c)
abbrev JFs (X : Cx) (es : List Expr) (c : St → Hp → Prop) : Prop := Irr (PFs X es c)
section
variable {X : Cx} {e e1 e2 : Expr} {es : List Expr} {te : TE} {c c' : St → Hp → Prop} {pos : Pos}
def cRepr (te : TE) : St → Hp → Prop := fun σ H => te σ H fun v H1 => H1 = H ∧ ∃ x, v = .str x ∧ x.length ≤ 100000 ∧ ∀ c ∈ x.cps.toList, c < 16 ^ 8
def cPlain (te : TE) : St → Hp → Prop := fun σ H => te σ H fun v H1 => H1 = H ∧ ((∃ x, v = .str x ∧ x.length ≤ 100000) ∨ ∃ a, v = .int a ∧ a.natAbs.log2 < 1920 ∧ (Str.ofString (toString a)).length ≤ 1100000)
def cTrue : St → Hp → Prop := fun _ _ => True
def cAnd (c c' : St → Hp → Prop) : St → Hp → Prop := fun σ H => c σ H ∧ c' σ H
theorem jf_str {x : Str} {k : Nat} (h : x.length ≤ 1100000 := by decide) : JF X (.Constant (.str x) k pos) cTrue := .mk (pf_str h)
theorem jf_repr (he : JE X e te) : JF X (.FormattedValue e 114 none pos) (cRepr te) := .mk (pf_repr he.out)
theorem jf_plain (he : JE X e te) : JF X (.FormattedValue e (-1) none pos) (cPlain te) := .mk (pf_plain he.out)
theorem jfs_nil : JFs X [] cTrue := .mk pfs_nil
theorem jfs_cons (h1 : JF X e c) (h2 : JFs X es c') (he : evalEach (e :: es) X.env = eval e X.env :: evalEach es X.env := by rfl) : JFs X (e :: es) (cAnd c c') := .mk (pfs_cons h1.out h2.out he)
theorem j_fs (h : JFs X (e1 :: e2 :: es) c) (hn : (e1 :: e2 :: es).length ≤ 12 := by decide) : JE X (.JoinedStr (e1 :: e2 :: es) pos) (tFs c) := .mk (pe_fs h.out hn)
end
structure DefX (P : Program) (w : World) (K : PySem.W.Frag) (mg : Str → Option Value) (base : Heap) (k : Nat) (x : Str) (ps : List Str) (sp : Sp) : Prop where
  ex : ∃ f fd, mg x = some (.ref f) ∧ PySem.W.keepIn K (.ref f) = true ∧ (∃ oc od osl, K.lookup f = some ⟨oc, od, .func fd, osl⟩) ∧ Binds K fd ps [] ∧ FnOk P w K mg base (CX1 P w) k f fd ps sp
section
variable {X : Cx} {k : Nat} {x : Str} {ps : List Str} {sp : Sp} {e : Expr} {es : List Expr} {t : TA} {p pos : Pos} {E : XK}
theorem pe_defX (D : DefX X.prog X.w X.K X.mg X.base k x ps sp) (hr : Room k X.A) (hg : Gl X x) (ha : PA X (e :: es) t) (hx : Passes (CX1 X.prog X.w) X E) (hdb : (x == ("__debug__" : Str)) = false := by decide)
    (hst : noStars (e :: es) = true := by rfl) : PE X (.Call (.Name x p) (e :: es) [] pos) (fun σ H Q => t σ H fun vs H1 => sp vs H1 Q E) := by
  obtain ⟨f, fd, mgf, kp, _, b, G⟩ := D.ex
  have h' : noStar e = true ∧ noStars es = true := by simpa [noStars] using hst
  have he := starEach_cons (es := es) (env := X.env) h'.1
  have hpl := back_any (env := X.env) (pos := pos) h'.2
  have h := pe_call (X := X) (dvs := []) (E := E) (p := p) (pos := pos) G hr hg mgf kp b .nil hx ha hdb he hpl
  intro pins s σ H Q I hq
  refine h pins s σ H Q I ?_
  show t σ H fun vs H1 => sp (vs ++ []) H1 Q E
  have e1 : (fun (vs : List V) H1 => sp (vs ++ []) H1 Q E) = fun vs H1 => sp vs H1 Q E := by funext vs H1; rw [List.append_nil]
  rw [e1]
  exact hq
theorem j_defX (D : DefX X.prog X.w X.K X.mg X.base k x ps sp) (hr : Room k X.A) (hg : Gl X x) (ha : JA X (e :: es) t) (hx : Passes (CX1 X.prog X.w) X E) (hdb : (x == ("__debug__" : Str)) = false := by decide)
    (hst : noStars (e :: es) = true := by rfl) : JE X (.Call (.Name x p) (e :: es) [] pos) (fun σ H Q => t σ H fun vs H1 => sp vs H1 Q E) := .mk (pe_defX D hr hg ha.out hx hdb hst)
end
theorem Raw.defX {P : Program} {w : World} {K : PySem.W.Frag} {mg : Str → Option Value} {base : Heap} {x : Str} {st : Stmt} {N ps : List Str} {k : Nat} {sp : Sp} (R : Raw K mg x st ps) (S : FnScope N ps (defScope st)) (len : ∀ vs H Q E, sp vs H Q E → vs.length = ps.length)
    (hbody : ∀ (f : Addr) (cdv : Value) (A : Around) (outer : List Env) (s : Shared) (H : Hp) (vs : List V) (Q : VK) (E : XK), Room k (A.deeper (envOfC x (defScope st) s.heap.objs.size f cdv)) → sp vs H Q E →
      ∃ t, JSs (cxOf (CX1 P w) P w K mg base N x (defScope st) f cdv A outer s H E) (defBody st) t ∧ t { nx := fun _ H' => Q .non H', rt := Q } (start N vs) H) : DefX P w K mg base (k + 1) x ps sp := by
  obtain ⟨f, fd, h1, F, b⟩ := R.ex
  refine ⟨f, fd, h1, F.kp, F.lk, .all b, ?_⟩
  obtain ⟨oc, od, kV, doc, pm, an, cdv, ct, osl, rfl, lk, hcd⟩ := F.ex
  refine fn_of lk hcd S len fun A outer s H vs Q E hr hsp => ?_
  obtain ⟨t, h, q⟩ := hbody f cdv A outer s H vs Q E hr hsp
  exact ⟨t, h.out, q⟩
end L2

set_option Elab.async false
set_option linter.all false
set_option maxRecDepth 100000
set_option maxHeartbeats 4000000
namespace L2
open PySem PySem.Spec PyProof.Rows
end L2

set_option Elab.async false
set_option linter.all false
set_option maxRecDepth 100000
set_option maxHeartbeats 4000000
namespace L2
open PySem PySem.Spec PyProof.Rows
section
variable {X : Cx} {E : XK} {pins : List (Addr × Obj)} {σ : List (Option V)} {H : Hp} {s : Shared}
end
section
variable {X : Cx} {E : XK} {N : List Str} {cap : List (Option Nat)} {scope : Scope} {elt target iter : Expr} {ifs : List Expr} {pos pos' spos : Pos} {wi : TI} {g : TG} {tc : TT} {te : TE}
end
end L2

set_option Elab.async false
set_option linter.all false
set_option maxRecDepth 100000
set_option maxHeartbeats 4000000
namespace L2
open PySem PySem.Spec PyProof.Rows
section
variable {X : Cx} {E : XK} {N : List Str} {cap : List (Option Nat)} {scope : Scope} {elt target iter : Expr} {ifs : List Expr} {pos pos' spos : Pos} {wi : TI} {g : TG} {tc : TT} {te : TE}
end
end L2

set_option Elab.async false
set_option linter.all false
set_option maxRecDepth 100000
set_option maxHeartbeats 4000000
namespace L2
open PySem PySem.Spec PyProof.Rows

def mroHas (K : PySem.W.Frag) (C : Addr) (v : Value) : Bool := match K.lookup C with
  | some ⟨_, _, .cls cd, _⟩ => cd.mro.contains v
  | _ => false
theorem exc_of_in2 {K : PySem.W.Frag} {h : Heap} {C : Addr} {bmB : List Value} {newId : String} (X : K.In h) (q : PySem.W.excIn K C bmB newId = true) :
    ∃ bm N nm q bs hdct sn sub ab col dd k0 k1 k2 k3 k5 mN, h.get? C = some (excClassObj nm q C N bs bm hdct sn sub ab col dd k0 k1 k2 k3 k5 newId) ∧ h.Ns N mN ∧ mN "__init__" = none ∧ OwnTail h bmB bm ∧ ∀ v, mroHas K C v = (Value.ref C :: bm).contains v := by
  unfold PySem.W.excIn at q
  split at q
  · rename_i dd cd sl ho
    split at q
    · rename_i C' bm k0 k1 k2 k3 n k5 hm hs
      simp only [Bool.and_eq_true, beq_iff_eq, Bool.not_eq_true'] at q
      obtain ⟨⟨⟨⟨⟨rfl, rfl⟩, hdel⟩, ht⟩, hok⟩, hni⟩ := q
      have hv : ∀ v, mroHas K C' v = (Value.ref C' :: bm).contains v := fun v => by unfold mroHas; rw [ho]; dsimp only; rw [hm]
      obtain ⟨nm, bs, mro, ns, qn, hd, sn, sub, ab, col, del⟩ := cd
      dsimp only at hm hdel hok hni
      subst hm hdel
      have hsl : sl = #[k0, k1, k2, k3, some (.builtin n), k5] := by
        obtain ⟨l⟩ := sl
        simp only at hs
        rw [hs]
      subst hsl
      exact ⟨bm, ns, nm, qn, bs, hd, sn, sub, ab, col, dd, k0, k1, k2, k3, k5, _, X _ _ ho, .of_isNs (PySem.W.isNs_of_in X hok), PySem.W.nsMap_none_of_in X hok hni, PySem.W.tail_of_in X ht, hv⟩
    · cases q
  · cases q
section
variable {M : Model} {A : Around} {E : Value → Shared → Prop}
variable {nm q : Str} {C N : Addr} {bs bm : List Value} {hdct : Bool} {sn : List Str} {sub : List Value} {ab : Bool} {col : Option Bool} {dd : Option Addr} {k0 k1 k2 k3 k5 : Option Value} {newId : String}
variable {nm' q' : Str} {G N' : Addr} {bs' bm' : List Value} {hdct' : Bool} {sn' : List Str} {sub' : List Value} {ab' : Bool} {col' : Option Bool} {dd' : Option Addr} {k0' k1' k2' k3' k5' : Option Value} {newId' : String}
theorem excMatches_own {h : Heap} {g : Array GenState} {d : Drawn} {t : Nat} {os : OsState} {e : Addr} {oe : Obj} {Q : Bool → Shared → Prop}
    (hC : h.get? C = some (excClassObj nm q C N bs bm hdct sn sub ab col dd k0 k1 k2 k3 k5 newId)) (hG : h.get? G = some (excClassObj nm' q' G N' bs' bm' hdct' sn' sub' ab' col' dd' k0' k1' k2' k3' k5' newId')) (he : h.get? e = some oe) (hcls : oe.cls = .ref C)
    (hbase : bm'.contains (.type "BaseException") = true) (hm : (Value.ref C :: bm).contains (.ref G) = true)
    (hq : Q true ⟨h, g, d, t, os⟩) : wpAny M A (excMatches (.ref e) (.ref G)) Q E ⟨h, g, d, t, os⟩ := by
  have hcB : (Value.ref G :: bm').contains (.type "BaseException") = true := by rw [List.contains_cons, hbase, Bool.or_true]
  have f := tc_notTuple
  unfold excMatches
  repeat (first | (with_reducible refine wpAny_loadPart_at he ?_; rw [hcls]) | with_reducible refine wpAny_loadPart_at hG ?_ | with_reducible refine wpAny_loadPart_at hC ?_ | (with_reducible refine wpAny_isSubtype_exc hG ?_; rw [hcB]) | (with_reducible refine wpAny_isSubtype_exc hC ?_; rw [hm]) | wp_step)
  exact hq
end
section
variable {X : Cx} {pins : List (Addr × Obj)} {σ : List (Option V)} {H : Hp} {s : Shared}
theorem goes_ok {M : Model} {A : Around} {E : Value → Shared → Prop} {i : Nat} {n : Str} {pos : Pos} {Q : Unit → Shared → Prop} (I : Inv X pins σ H s) (hN : X.N.Nodup) (hi : X.N[i]? = some n) (hk : X.env.kindOf n = some .local)
    (h : ∀ s', Inv X pins (σ.set i none) H s' → Q () s') : wpAny M A (do bindName X.env n .none; unbindBehindTheSuite X.env n pos) Q E s := by
  obtain ⟨m, hn, hl⟩ := id I.loc
  have hcls : (X.env.scope.kind == .class || (X.env.scope.kind == .module && X.env.locals != X.env.globals)) = false := by rw [I.ok.kind]; rfl
  have hiσ : i < σ.length := by rw [I.len]; exact (List.getElem?_eq_some_iff.mp hi).1
  have cne := I.cne
  refine wpAny_nameGoes_keeps hk hn hcls fun h' v hn' hs => h _ ?_
  obtain ⟨oL, _, _, hoL, _⟩ := id hn
  have tracked : HOk X.prog X.w H h' := fun b ob e => by
    refine (I.hok b ob e).stay (fun c w' hc q => (hs.2 c ?_).trans q) (fun _ q => q) fun _ _ q => q
    rintro rfl
    have hfree := I.free
    rcases hc with rfl | hc
    · rw [hfree] at e; cases e
    · rw [hfree] at hc; cases hc
  refine Inv.tok (s := { s with heap := h' }) ⟨I.ok, I.os, I.bare, ⟨fun b o e n hb hx => ?_, fun b o e n hb hx => ?_, I.base.free, fun b o e hx => ?_, I.base.tups, I.base.frzs, I.base.tbls⟩, ⟨_, hn', fun j y v' e1 e2 e3 => ?_⟩, fun y c e => ?_, I.free, I.freeC, fun p hp => ?_, tracked, by simpa using I.len⟩ _
  · exact (hs.2 b (Nat.ne_of_lt (Nat.lt_of_lt_of_le (Heap.lt_size e) I.ok.above))).trans (I.base.keep b o e n hb hx)
  · obtain ⟨sl, e1⟩ := I.base.slot b o e n hb hx
    exact ⟨sl, (hs.2 b (Nat.ne_of_lt (Nat.lt_of_lt_of_le (Heap.lt_size e) I.ok.above))).trans e1⟩
  · obtain ⟨o', e1⟩ := I.base.there b o e hx
    exact ⟨o', (hs.2 b (Nat.ne_of_lt (Nat.lt_of_lt_of_le (Heap.lt_size e) I.ok.above))).trans e1⟩
  · by_cases hj : j = i
    · subst hj
      rw [List.getElem?_set_self hiσ] at e2
      cases e2
    · rw [List.getElem?_set_ne (Ne.symm hj)] at e2
      obtain ⟨u', r', q⟩ := hl j y v' e1 e2 e3
      refine ⟨u', r', ?_⟩
      rcases q with ⟨k, e⟩ | ⟨k, c, e, z⟩
      · refine .inl ⟨k, ?_⟩
        have : y ≠ n := fun e => hj (nodup_ix hN e1 (e ▸ hi))
        simp [this, e]
      · exact .inr ⟨k, c, e, z.sameBut hs (cne y c e)⟩
  · obtain ⟨w', z⟩ := I.cell y c e
    exact ⟨w', z.sameBut hs (cne y c e)⟩
  · obtain ⟨e, n, ne, nf, d⟩ := I.pin p hp
    exact ⟨(hs.2 p.1 ne).trans e, n, ne, nf, d⟩
end
def cxSuite (X : Cx) (a : Addr) (oe : Obj) : Cx := { X with A := X.A.mark (some (.ref a)), calm := false, pn := X.pn ++ [(a, oe)], xe := fun _ _ => False }
theorem suite_in {X : Cx} {pins : List (Addr × Obj)} {σ : List (Option V)} {H : Hp} {s : Shared} {a : Addr} {oe : Obj} (I : Inv X pins σ H s) (he : s.heap.get? a = some oe) (hn : H a = none) (hL : a ≠ X.env.locals) (hf : a ∉ X.fs) (hd : ∀ v, oe.data ≠ .cell v) :
    Inv (cxSuite X a oe) pins σ H s :=
  ⟨⟨I.ok.mod, I.ok.kind, I.ok.glob, I.ok.blt, I.ok.above, I.ok.inj, I.ok.has, I.ok.cab, fun z => absurd z Bool.false_ne_true, I.ok.frames, I.ok.stk, I.ok.exf, I.ok.bs, I.ok.bsz, I.ok.noex, I.ok.exfs, I.ok.funs, I.ok.frf⟩, I.os, I.bare, I.base, I.loc, I.cell, I.free, I.freeC, fun p hp => by
    have hp' : p ∈ (X.pn ++ [(a, oe)]) ++ pins := hp
    rcases List.mem_append.mp hp' with z | z
    · rcases List.mem_append.mp z with y | y
      · exact I.pin p (List.mem_append_left _ y)
      · rw [List.mem_singleton.mp y]; exact ⟨he, hn, hL, hf, hd⟩
    · exact I.pin p (List.mem_append_right _ z), I.hok, I.len⟩
theorem suite_out {X : Cx} {pins : List (Addr × Obj)} {σ : List (Option V)} {H : Hp} {s : Shared} {a : Addr} {oe : Obj} (ok : X.Ok) (I : Inv (cxSuite X a oe) pins σ H s) : Inv X pins σ H s :=
  ⟨ok, I.os, I.bare, I.base, I.loc, I.cell, I.free, I.freeC, fun p hp => I.pin p (by
    show p ∈ (X.pn ++ [(a, oe)]) ++ pins
    rcases List.mem_append.mp hp with z | z
    · exact List.mem_append_left _ (List.mem_append_left _ z)
    · exact List.mem_append_right _ z), I.hok, I.len⟩
end L2

set_option Elab.async false
set_option linter.all false
set_option maxRecDepth 100000
set_option maxHeartbeats 4000000
namespace L2
open PySem PySem.Spec PyProof.Rows
theorem objOk_there {P : Program} {w : World} {H : Hp} {h : Heap} {a : Addr} {o : HO} (x : ObjOk P w H h a o) : ∃ u, h.get? a = some u := by
  induction o with
  | lst xs => obtain ⟨_, _, _, _, e⟩ := x; exact ⟨_, e⟩
  | tup xs => obtain ⟨_, _, _, o, e, _⟩ := x; exact ⟨_, e⟩
  | dK kvs => obtain ⟨_, _, _, _, o, _, _, e, _⟩ := x; exact ⟨_, e⟩
  | dT kvs => obtain ⟨_, _, _, _, o, _, _, e, _⟩ := x; exact ⟨_, e⟩
  | set S n => obtain ⟨o, _, _, _, e, _⟩ := x; exact ⟨_, e⟩
  | ins C dx fs => obtain ⟨_, _, _, e, _⟩ := x; exact ⟨_, e⟩
  | own y => exact x
  | xd fs => obtain ⟨_, ⟨_, _, _, e, _⟩, _⟩ := x; exact ⟨_, e⟩
  | rng lo hi => obtain ⟨_, _, _, e⟩ := x; exact ⟨_, e⟩
  | frz o u ih => exact ⟨_, x.1⟩
  | tbl ps => exact ⟨_, x⟩
  | met f y => exact ⟨_, x⟩
  | ext φ => exact x.2.1
structure ExcK (K : PySem.W.Frag) (C : Addr) : Prop where
  exc : PySem.W.excIn K C bmVE "ValueError.__new__" = true
  f1 : PySem.W.findIn K (.ref C) "__getattribute__" = some (some (.builtin "BaseException.__getattribute__"))
  f2 : PySem.W.findIn K (.ref C) "__getattr__" = some none
  f3 : PySem.W.findIn K (.ref C) "__class__" = some (some (.builtin "object.__class__"))
  obj : PySem.W.mroIn K C (.type "object") = some true
section
variable {X : Cx} {k : Nat} {x G n : Str} {ps : List Str} {sp : Sp} {e : Expr} {es : List Expr} {t : TA} {p gp cpos epos hpos pos : Pos} {CG : Addr} {newId : String} {i : Nat} {b₀ : Stmt} {suite : List Stmt} {ts : Addr → Addr → TS}
end
end L2

set_option Elab.async false
set_option linter.all false
set_option maxRecDepth 100000
set_option maxHeartbeats 4000000
namespace PySem.W
open PySem PySem.Calls PyProof.Rows Builtin Builtin.ObjectAttr Builtin.Getset_descriptor
theorem class_getE {prog : Program} {w : World} {A : Around} {R : Result → Shared → Prop} {s : Shared} {K : Frag} {x C : Addr} {ox : Obj} {tp : Value} (X : K.In s.heap) (hx : s.heap.get? x = some ox) (hc : ox.cls = .ref C) (hm : mroIn K C (.type "object") = some true)
    (h : R (.ok (.ret (.ref C))) s) : codeAny (model prog w) A (.call (.builtin "getset_descriptor.__get__") ⟨[.builtin "object.__class__", .ref x, tp], []⟩) R s := by
  obtain ⟨hh, g, dr, t, os⟩ := s
  have L0 : Looks (model prog w) hh (typeOf (.ref x)) (.ref C) := hc ▸ (Looks.ld hx).andThen .now
  have L1 := looks_mroIn (M := model prog w) X hm
  refine codeAny_call_builtin KF.slot_gs.plain KF.entry_gs (KF.slot_gs.check _ _ _ _ _ _ _ _ KF.type_class (KF.args_gs _ _ _) ?_)
  unfold Builtin.«getset_descriptor.__get__» descrGet
  rw [dga_obj]
  refine wpAny_bind (wpAny_pure ?_)
  unfold descrGetter descrCheckInstance descrNameAndClass isInstance
  simp only [KF.owner_class]
  repeat lk
  refine ⟨Code.quiet_builtin _ (by decide +kernel), codeAny_builtin KF.entry_class ?_⟩
  unfold Builtin.«object.__class__» shownTypeOf
  repeat lk
  exact h
end PySem.W
namespace L2
open PySem PySem.Spec PyProof.Rows PySem.W
structure InstE (h : Heap) (a : Addr) (o : Obj) (C : Addr) : Prop where
  at_ : h.get? a = some o
  cls : o.cls = .ref C
section
variable {prog : Program} {w : World} {A : Around} {E : Value → Shared → Prop} {h : Heap} {g : Array GenState} {d : Drawn} {t : Nat} {os : OsState} {a : Addr} {o : Obj} {K : Frag}
  {nm q : Str} {C N : Addr} {bs bm : List Value} {hdct : Bool} {sn : List Str} {sub : List Value} {ab : Bool} {col : Option Bool} {dd : Option Addr} {k0 k1 k2 k3 k5 : Option Value} {newId : String}
theorem tl_in {M : Model} {name : Str} {r : Option Value} {Q : Option Value → Shared → Prop} (X : K.In h) (f : findIn K (.ref C) name = some r) (hq : Q r ⟨h, g, d, t, os⟩) : wpAny M A (typeLookup (.ref C) name) Q E ⟨h, g, d, t, os⟩ :=
  (looks_findIn (M := M) X f).at hq
theorem check_ga {M : Model} {nameV : Value} {Q : Unit → Shared → Prop} (hC : h.get? C = some (excClassObj nm q C N bs bm hdct sn sub ab col dd k0 k1 k2 k3 k5 newId)) (hcB : (Value.ref C :: bm).contains (.type "BaseException") = true)
    (hx : h.get? a = some o) (hc : o.cls = .ref C) (hq : Q () ⟨h, g, d, t, os⟩) : wpAny M A (checkBuiltinCall "BaseException.__getattribute__" ⟨[.ref a, nameV], []⟩) Q E ⟨h, g, d, t, os⟩ := by
  have hk : builtinKind "BaseException.__getattribute__" = some .slot := by decide +kernel
  have hsplit : splitId "BaseException.__getattribute__" = some ("BaseException", "__getattribute__") := by decide +kernel
  have ha := F.args_bexc_ga (.ref a) nameV
  simp only [checkBuiltinCall, hk, hsplit]
  refine wpAny_bind ?_
  · unfold isInstance
    repeat (first | (with_reducible refine wpAny_loadPart_at hx ?_; rw [hc]) | (with_reducible refine wpAny_isSubtype_exc hC ?_; rw [hcB]) | wp_step)
    exact hq
theorem class_entry {tk : Tok} {Q : Fin → Shared → Prop} (X : K.In h) (I : InstE h a o C) (f3 : findIn K (.ref C) "__class__" = some (some (.builtin "object.__class__"))) (hm : mroIn K C (.type "object") = some true)
    (hq : Q (.done (.ret (.ref C))) ⟨h, g, d, t, os⟩) :
    wpAny (model prog w) A (Builtin.«object.__getattribute__» ⟨[.ref a, .str "__class__" tk], []⟩) Q E ⟨h, g, d, t, os⟩ := by
  have hx := I.at_
  have hc := I.cls
  have hT5 : (⟨h, g, d, t, os⟩ : Shared).TypeIs (.builtin "object.__class__") "getset_descriptor" := F.typeOf_object_class
  have f5 := F.typeOf_object_class
  have f6 := F.slot_gs_get.lookup
  have f7 := F.slot_gs_set.lookup
  repeat (any_goals (first | assumption | (with_reducible refine wpAny_loadPart_at hx ?_; rw [hc]) | with_reducible refine tl_in X f3 ?_ | wp_step))
  refine PySem.W.class_getE (s := ⟨h, g, d, t, os⟩) X I.at_ I.cls hm ?_
  repeat (any_goals (first | assumption | wp_step))
theorem class_call {tk : Tok} {R : Result → Shared → Prop} (X : K.In h) (I : InstE h a o C) (hC : h.get? C = some (excClassObj nm q C N bs bm hdct sn sub ab col dd k0 k1 k2 k3 k5 newId)) (hcB : (Value.ref C :: bm).contains (.type "BaseException") = true)
    (f3 : findIn K (.ref C) "__class__" = some (some (.builtin "object.__class__"))) (hm : mroIn K C (.type "object") = some true) (hq : R (.ok (.ret (.ref C))) ⟨h, g, d, t, os⟩) :
    codeAny (model prog w) A (.call (.builtin "BaseException.__getattribute__") ⟨[.ref a, .str "__class__" tk], []⟩) R ⟨h, g, d, t, os⟩ :=
  codeAny_call_builtin F.attr_ValueError.ga.plain F.entry_bexc_ga (check_ga hC hcB I.at_ I.cls (class_entry X I f3 hm hq))
theorem class_by {tk : Tok} {Q : Value → Shared → Prop} (X : K.In h) (I : InstE h a o C) (hC : h.get? C = some (excClassObj nm q C N bs bm hdct sn sub ab col dd k0 k1 k2 k3 k5 newId)) (hcB : (Value.ref C :: bm).contains (.type "BaseException") = true)
    (f1 : findIn K (.ref C) "__getattribute__" = some (some (.builtin "BaseException.__getattribute__"))) (f2 : findIn K (.ref C) "__getattr__" = some none)
    (f3 : findIn K (.ref C) "__class__" = some (some (.builtin "object.__class__"))) (hm : mroIn K C (.type "object") = some true) (hq : Q (.ref C) ⟨h, g, d, t, os⟩) :
    wpAny (model prog w) A (getAttrBy (.ref a) (.str "__class__" tk) false) Q E ⟨h, g, d, t, os⟩ := by
  have hx := I.at_
  have hc := I.cls
  have f3' := F.attr_ValueError.ga.bind (.ref a)
  have hx2 : (Value.builtin "BaseException.__getattribute__" == Value.builtin "object.__getattribute__") = false := by decide +kernel
  have hx1 : (onTheHeap (Value.ref C) && Value.builtin "BaseException.__getattribute__" == Value.builtin "object.__getattribute__") = false := by rw [hx2]; rfl
  have hx0 : (false && onTheHeap (Value.builtin "BaseException.__getattribute__")) = false := rfl
  repeat (any_goals (first | assumption | (with_reducible refine wpAny_loadPart_at hx ?_; rw [hc]) | with_reducible refine tl_in X f1 ?_ | with_reducible refine tl_in X f2 ?_ | wp_step))
  refine class_call X I hC hcB f3 hm ?_
  repeat (any_goals (first | assumption | wp_step))
end
theorem kitx_exc {K : Frag} {a C : Addr} {o : Obj} (Z : ExcK K C) : KitX K (.ref a) (.ref C) (fun h => InstE h a o C) where
  ty := fun _ _ _ I => I.cls ▸ (Looks.ld I.at_).andThen .now
  it := fun _ h X _ => by
    obtain ⟨bm, N, nm, qn, bs, hdct, sn, sub, ab, col, dd, k0, k1, k2, k3, k5, mN, hC, _⟩ := exc_of_in2 X Z.exc
    intro A' Q' E' s' k q
    unfold isType loadHead
    exact wpAny_bind (wpAny_loadPart (k _ _ hC) (wpAny_pure q))
  ne := fun h tp dd its n sl X htp => by
    obtain ⟨bm, N, nm, qn, bs, hdct, sn, sub, ab, col, dd', k0, k1, k2, k3, k5, mN, hC, _⟩ := exc_of_in2 X Z.exc
    refine Bool.eq_false_iff.mpr fun q => ?_
    have e : C = tp := Value.ref.inj (beq_iff_eq.mp q)
    subst e
    rw [htp] at hC
    have z : Value.type "tuple" = Value.type "type" := congrArg Obj.cls (Option.some.inj hC)
    exact absurd z (by decide)
  ca := fun {prog w A E Q s} X I k => by
    obtain ⟨hh, g, d, t, os⟩ := s
    obtain ⟨bm, N, nm, qn, bs, hdct, sn, sub, ab, col, dd', k0, k1, k2, k3, k5, mN, hC, _, _, TL, _⟩ := exc_of_in2 X Z.exc
    have hcB : (Value.ref C :: bm).contains (.type "BaseException") = true := by rw [List.contains_cons, TL.hasType F.excBase_ValueError.hasBase, Bool.or_true]
    unfold getAttr? getAttrBy?
    refine wpAny_bind (wpAny_mkText (wpAny_bind (wpAny_attempt ?_)))
    exact class_by (h := hh) X I hC hcB Z.f1 Z.f2 Z.f3 Z.obj (wpAny_pure k)

end L2

set_option Elab.async false
set_option linter.all false
set_option maxRecDepth 100000
set_option maxHeartbeats 4000000
namespace L2
open PySem PySem.Spec PyProof.Rows

def lamArgs (e : Expr) : Arguments := match e with
  | .Lambda a _ _ _ => a
  | _ => { posonlyargs := [], args := [], vararg := none, kwonlyargs := [], kw_defaults := [], kwarg := none, defaults := [] }
def lamBody (e : Expr) : Expr := match e with
  | .Lambda _ b _ _ => b
  | _ => e
def lamScope (e : Expr) : Scope := match e with
  | .Lambda _ _ sc _ => sc
  | _ => { kind := .function, names := [], isGenerator := false, isCoroutine := false }
structure MadeL (H : Hp) (f : Addr) (qual : Str) (le : Expr) (cl : List (Str × Addr)) : Prop where
  ex : ∃ (pm : Value) (c' : Addr) (ctv : Value) (oc : Obj) (vs : Array Value) (t : Tok), Kn H f (PySem.W.kla_obj "<lambda>" qual (lamArgs le) (lamBody le) (lamScope le) cl pm c' ctv) ∧ Kn H c' oc ∧ oc.data = .fields vs ∧ vs[1]? = some (.str qual t)
structure CloAtL (H : Hp) (f : Addr) (qual : Str) (le : Expr) (fr : List Str) (cs : List Addr) (ws : List V) : Prop where
  ex : ∃ cl, MadeL H f qual le cl ∧ (∀ x c, cl.lookup x = some c → ∃ j : Nat, fr[j]? = some x ∧ cs[j]? = some c) ∧ ∀ (j : Nat) x, fr[j]? = some x → ∃ c, cl.lookup x = some c ∧ cs[j]? = some c
  cells : ∀ (j : Nat) x, ws[j]? = some x → ∃ c o u, cs[j]? = some c ∧ Kn H c o ∧ o.data = .cell (some u) ∧ RelV x u
  l1 : cs.length = fr.length
  l2 : ws.length = fr.length
  nd : cs.Nodup
theorem CloAtL.kn {H : Hp} {f : Addr} {qual : Str} {le : Expr} {fr : List Str} {cs : List Addr} {ws : List V} (C : CloAtL H f qual le fr cs ws) : ∀ c ∈ cs, ∃ o, Kn H c o := fun c m => by
  obtain ⟨j, hj, e⟩ := List.mem_iff_getElem.mp m
  have hw : j < ws.length := by rw [C.l2, ← C.l1]; exact hj
  obtain ⟨c', o, u, h1, h2, _⟩ := C.cells j ws[j] (List.getElem?_eq_getElem hw)
  rw [List.getElem?_eq_getElem hj, e] at h1
  cases h1
  exact ⟨o, h2⟩
theorem CloAtL.same {H H' : Hp} {f : Addr} {qual : Str} {le : Expr} {fr : List Str} {cs : List Addr} {ws : List V} (C : CloAtL H f qual le fr cs ws) (h : ∀ b o, Kn H b o → Kn H' b o) : CloAtL H' f qual le fr cs ws := by
  obtain ⟨cl, ⟨pm, c', ctv, oc, vs, t, h1, h2, h3, h4⟩, h5, h6⟩ := C.ex
  refine ⟨⟨cl, ⟨pm, c', ctv, oc, vs, t, h _ _ h1, h _ _ h2, h3, h4⟩, h5, h6⟩, fun j x e => ?_, C.l1, C.l2, C.nd⟩
  obtain ⟨c, o, u, q1, q2, q3, q4⟩ := C.cells j x e
  exact ⟨c, o, u, q1, h _ _ q2, q3, q4⟩
theorem CloAtL.fn {H : Hp} {f : Addr} {qual : Str} {le : Expr} {fr : List Str} {cs : List Addr} {ws : List V} (C : CloAtL H f qual le fr cs ws) : ∃ oc od fd sl, Kn H f ⟨oc, od, .func fd, sl⟩ := by
  obtain ⟨cl, ⟨pm, c', ctv, oc, vs, t, h1, _⟩, _⟩ := C.ex
  exact ⟨_, _, _, _, h1⟩
section
variable {X : Cx}
end
end L2

set_option Elab.async false
set_option linter.all false
set_option maxRecDepth 100000
set_option maxHeartbeats 4000000
namespace L2
open PySem PySem.Spec PyProof.Rows
section
variable {X : Cx} {pos : Pos} {K : PySem.W.Frag}
def gSlA (K : PySem.W.Frag) : V → Option Int → Option Int → Hp → VK → Prop := fun x lo hi H Q => match x with
  | .str z => z.length ≤ sizeLine ∧ Q (.str (Txt.slice z lo hi)) H
  | .ref a => (∃ xs, SqL K H a xs ∧ ∀ p, H p = none → Q (.ref p) (upd H p (.lst (cutV xs lo hi)))) ∨ ∃ xs, SqT K H a xs ∧ ¬ (HT.sIx xs.length 0 lo = 0 ∧ HT.sIx xs.length xs.length hi = xs.length) ∧ ∀ p, H p = none → Q (.ref p) (upd H p (.tup (cutV xs lo hi)))
  | _ => False
theorem o_slA (hK : X.K = K := by rfl) : Irr (SlR X (gSlA K)) := by
  refine .mk ?_
  subst hK
  intro pins s σ H x v vl vu lo hi sl Q I rx hs pl pu h
  unfold gSlA at h
  split at h
  · exact sl_str pins s σ H _ v vl vu lo hi sl Q I rx hs pl pu ⟨_, rfl, h.1, h.2⟩
  · rcases h with ⟨xs, h1, h2⟩ | ⟨xs, h1, h2, h3⟩
    · exact sl_list pins s σ H _ v vl vu lo hi sl Q I rx hs pl pu ⟨_, xs, rfl, h1, h2⟩
    · exact sl_tup pins s σ H _ v vl vu lo hi sl Q I rx hs pl pu ⟨_, xs, rfl, h1, h2, h3⟩
  · exact h.elim
theorem j_gint {x : Str} {v : Int} (hg : Gl X x) (hm : ∃ t, X.mg x = some (.int v t)) (hd : (x == ("__debug__" : Str)) = false := by decide) : JE X (.Name x pos) (tC (.int v)) := by
  obtain ⟨t, h⟩ := hm
  exact j_glob hg h ⟨_, rfl⟩ hd
end
end L2

set_option Elab.async false
set_option linter.all false
set_option maxRecDepth 100000
set_option maxHeartbeats 4000000
namespace L2
open PySem PySem.Spec PyProof.Rows
section
variable {X : Cx} {a b c e f i o k v value : Expr} {ta tb te td ty tv tx : TE} {K : PySem.W.Frag} {w : World} {pos pos' p2 apos cpos : Pos}
def gInA (K : PySem.W.Frag) (neg : Bool) : R2 := fun x y H Q => match y with
  | .str j => (match x with
    | .str i => Q (.bl (neg ^^ !(Builtin.Str.occurrences j i 0 j.length 1).isEmpty)) H
    | _ => False)
  | .ref p => (∃ xs, (SqL K H p xs ∨ SqT K H p xs) ∧ flatV x = true ∧ xs.all flatV = true ∧ Q (.bl (neg ^^ inV x xs)) H) ∨ ∃ o, DGet H p x o ∧ Q (.bl (neg ^^ o.isSome)) H
  | _ => False
theorem o_inA (hu : X.A.units + 64 < cLine) (hK : X.K = K := by rfl) : Irr (OpR X (compareOp .In) (gInA K false)) := by
  refine .mk ?_
  subst hK
  intro pins s σ H x y v u Q I rx ry h
  cases y with
  | str j => exact og_in rfl pins s σ H x (.str j) v u Q I rx ry h
  | ref p =>
    rcases h with h | ⟨ov, g, q⟩
    · exact og_in rfl pins s σ H x (.ref p) v u Q I rx ry h
    · obtain rfl : u = Value.ref p := ry
      exact d_in (by omega) I g rx fun s3 I3 => ⟨.bl ov.isSome, H, I3, rfl, by simpa using q⟩
  | _ => exact False.elim h
theorem o_notinA (hu : X.A.units + 64 < cLine) (hK : X.K = K := by rfl) : Irr (OpR X (compareOp .NotIn) (gInA K true)) := by
  refine .mk ?_
  subst hK
  intro pins s σ H x y v u Q I rx ry h
  cases y with
  | str j => exact og_notin rfl pins s σ H x (.str j) v u Q I rx ry h
  | ref p =>
    rcases h with h | ⟨ov, g, q⟩
    · exact og_notin rfl pins s σ H x (.ref p) v u Q I rx ry h
    · obtain rfl : u = Value.ref p := ry
      exact d_notIn (by omega) I g rx fun s3 I3 => ⟨.bl (!ov.isSome), H, I3, rfl, by simpa using q⟩
  | _ => exact False.elim h
theorem IsD.tk {H : Hp} {a : Addr} {kvs : List (List Key × V)} (e : H a = some (.dT kvs)) : IsD H a := .inr ⟨kvs, .inl e⟩
def gInt : List V → Hp → VK → Prop := fun xs H Q => match xs with
  | [.int i] => Q (.int i) H
  | [.bl b] => Q (.int (if b then 1 else 0)) H
  | _ => False
theorem c_int : Irr (CallR X (.type "int") gInt) := by
  refine .mk ?_
  intro pins s σ H xs us Q I r h
  unfold gInt at h
  split at h
  · exact call_int1 pins s σ H _ us Q I r (.inl ⟨_, rfl, h⟩)
  · exact call_int1 pins s σ H _ us Q I r (.inr ⟨_, rfl, h⟩)
  · exact h.elim
def gTuple (K : PySem.W.Frag) : List V → Hp → VK → Prop := fun xs H Q => match xs with
  | [.ref p] => ∃ ys, (SqL K H p ys ∧ ∀ l, H l = none → Q (.ref l) (upd H l (.tup ys))) ∨ (SqT K H p ys ∧ Q (.ref p) H)
  | _ => False
theorem c_tuple (hK : X.K = K := by rfl) : Irr (CallR X (.type "tuple") (gTuple K)) := by
  refine .mk ?_
  subst hK
  intro pins s σ H xs us Q I r h
  unfold gTuple at h
  split at h
  · obtain ⟨ys, h⟩ := h
    exact call_tuple_of pins s σ H _ us Q I r ⟨_, ys, rfl, h⟩
  · exact h.elim
end
end L2

set_option Elab.async false
set_option linter.all false
set_option maxRecDepth 100000
set_option maxHeartbeats 4000000
namespace L2
open PySem PySem.Spec PyProof.Rows
section
variable {X : Cx} {K : PySem.W.Frag}
end
end L2

set_option Elab.async false
set_option linter.all false
set_option maxRecDepth 100000
set_option maxHeartbeats 4000000
namespace L2
open PySem PySem.Spec PyProof.Rows
section
variable {X : Cx} {K : PySem.W.Frag}
end
end L2

set_option Elab.async false
set_option linter.all false
set_option maxRecDepth 100000
set_option maxHeartbeats 4000000
namespace L2
open PySem PySem.Spec PyProof.Rows
namespace FX
end FX
section
variable {prog : Program} {w : World} {A : Around} {E : Value → Shared → Prop} {s : Shared}
end
section
variable {X : Cx} {K : PySem.W.Frag}
def gEqA (K : PySem.W.Frag) (neg : Bool) : R2 := fun x y H Q => match x, y with
  | .non, .str j => PyData.strOk j = true ∧ Q (.bl neg) H
  | .str j, .non => PyData.strOk j = true ∧ Q (.bl neg) H
  | .non, .non => Q (.bl (!neg)) H
  | .non, .int _ => Q (.bl neg) H
  | .int _, .non => Q (.bl neg) H
  | x, y => gEq K neg x y H Q
theorem o_eqA (hu : X.A.units + 64 < cLine) (hK : X.K = K := by rfl) : Irr (OpR X (compareOp .Eq) (gEqA K false)) := by
  refine .mk ?_
  subst hK
  intro pins s σ H x y v u Q I rx ry h
  have gen : ∀ da db, DatV X.K H x da → DatV X.K H y db → da.canLay0 = true → db.canLay0 = true → min da.depth db.depth ≤ 60 → Q (.bl (PyData.eqv da db)) H → _ := fun da db h1 h2 h3 h4 h5 h6 => op_eqD hu pins s σ H x y v u Q I rx ry ⟨da, db, h1, h2, h3, h4, h5, by simpa using h6⟩
  unfold gEqA at h
  split at h
  · exact gen .none (.str _) .none (.str _) (by simp only [PyData.canLay0]) (by simp only [PyData.canLay0]; exact h.1) (by simp only [PyData.depth]; omega) (by simpa [PyData.eqv] using h.2)
  · exact gen (.str _) .none (.str _) .none (by simp only [PyData.canLay0]; exact h.1) (by simp only [PyData.canLay0]) (by simp only [PyData.depth]; omega) (by simpa [PyData.eqv] using h.2)
  · exact gen .none .none .none .none (by simp only [PyData.canLay0]) (by simp only [PyData.canLay0]) (by simp only [PyData.depth]; omega) (by simpa [PyData.eqv] using h)
  · exact gen .none (.int _) .none (.int _) (by simp only [PyData.canLay0]) (by simp only [PyData.canLay0]) (by simp only [PyData.depth]; omega) (by simpa [PyData.eqv] using h)
  · exact gen (.int _) .none (.int _) .none (by simp only [PyData.canLay0]) (by simp only [PyData.canLay0]) (by simp only [PyData.depth]; omega) (by simpa [PyData.eqv] using h)
  · exact og_eq hu rfl pins s σ H _ _ v u Q I rx ry h
end
end L2

set_option Elab.async false
set_option linter.all false
set_option maxRecDepth 100000
set_option maxHeartbeats 4000000
namespace L2
open PySem PySem.Spec PyProof.Rows
section
variable {X : Cx}
def gPow : R2 := fun x y H Q => match x, y with
  | .int i, .int j => CPow i j ∧ Q (.int (i ^ j.toNat)) H
  | _, _ => False
theorem o_pow : Irr (OpR X (binaryOp .Pow) gPow) := by
  refine .mk ?_
  intro pins s σ H x y v u Q I rx ry h
  unfold gPow at h
  split at h
  · exact op_pow pins s σ H _ _ v u Q I rx ry ⟨_, _, rfl, rfl, h.1, h.2⟩
  · exact h.elim
end
end L2

set_option Elab.async false
set_option linter.all false
set_option maxRecDepth 100000
set_option maxHeartbeats 4000000
namespace L2
open PySem PySem.Spec PyProof.Rows
section
variable {X : Cx} {K : PySem.W.Frag}
end
end L2

set_option Elab.async false
set_option linter.all false
set_option maxRecDepth 100000
set_option maxHeartbeats 4000000
namespace L2
open PySem PySem.Spec PyProof.Rows
section
variable {X : Cx} {K : PySem.W.Frag}
def bls (bs : List Bool) : List V := bs.map V.bl
def gAny (K : PySem.W.Frag) : List V → Hp → VK → Prop := fun xs H Q => match xs with
  | [.ref a] => ∃ bs : List Bool, SqL K H a (bls bs) ∧ Q (.bl (bs.any id)) H
  | _ => False
theorem bls_at : ∀ {bs : List Bool} {its : List Value} {i : Nat} {v : Value}, Vals (bls bs) its → its[i]? = some v → v = .bool (bs.getD i false)
  | [], _, i, v, h, e => by cases h; simp at e
  | b :: r, _, 0, v, h, e => by
    cases h with
    | cons a t => simp at e; subst e; exact a
  | b :: r, _, i + 1, v, h, e => by
    cases h with
    | cons a t =>
      simp at e
      have := bls_at (bs := r) t e
      simpa using this
theorem range_bs (bs : List Bool) : (List.range bs.length).map (fun i => bs.getD i false) = bs := by
  refine List.ext_getElem (by simp) fun i h1 h2 => ?_
  simp [List.getD, h2]
theorem any_bs (bs : List Bool) : (List.range bs.length).any (fun i => bs.getD i false) = bs.any id := by
  have h := List.any_map (f := fun i => bs.getD i false) (p := id) (l := List.range bs.length)
  rw [range_bs] at h
  exact h.symm
theorem c_any (hc : X.calm = true) (hK : X.K = K := by rfl) : Irr (CallR X (.builtin "any") (gAny K)) := by
  refine .mk ?_
  subst hK
  intro pins s σ H xs us Q I r h
  unfold gAny at h
  split at h
  · rename_i la
    obtain ⟨bs, hS, q⟩ := h
    obtain ⟨u, rfl, rx⟩ := vals1 r
    cases rx
    obtain ⟨its, rv, pl, _⟩ := I.list hS
    have hlen : its.length = bs.length := by have := rv.length; unfold bls at this; rw [List.length_map] at this; exact this.symm
    have hll : la < s.heap.objs.size := by obtain ⟨o, n, e, _⟩ := pl; exact Heap.lt_size e
    refine call_any_walk (wpAny_pyIter_list pl.isList ?_)
    refine ⟨_, _, _, _, _, _, fun i => bs.getD i false, rfl, Walks.list (A := X.A.in1) (I.ok.hd hc) s.heap.objs.size la (Nat.ne_of_lt hll) its.toArray, ⟨⟨_, Heap.get?_push_size _ rfl, rfl, rfl⟩, pl.isList.push _⟩, fun i v s2 Q2 E2 hv hq => ?_, fun h' tk hk => ?_⟩
    · have e := bls_at (i := i) (v := v) rv (by simpa using hv)
      rw [e]
      exact wpAny_truthy_bool hq
    · refine ⟨.bl (bs.any id), H, I.kept (t' := tk) (fun b o e => hk b o (fun m => ?_) (Heap.get?_push_of_some _ e)), ?_, q⟩
      · rw [List.mem_singleton.mp m] at e; exact absurd (Heap.lt_size e) (Nat.lt_irrefl _)
      · show Value.bool _ = Value.bool _
        rw [List.size_toArray, hlen, any_bs]
  · exact h.elim
end
section
variable {X : Cx} {p pos : Pos}
end
section
variable {cap : List (Option Nat)} {g : TG} {tc : TT} {te : TE} {Q : Addr → Hp → Prop} {σ : St} {H : Hp} {K : PySem.W.Frag}
end
end L2

set_option Elab.async false
set_option linter.all false
namespace L2
open PySem PySem.Spec PyProof.Rows
section
variable {X : Cx} {K : PySem.W.Frag} {e : Expr} {te : TE}
theorem jt_tru (h : JE X e te) (hK : X.K = K := by rfl) (he : ∀ whole, isTrue e X.env whole = (do let v ← whole; standAt e.pos; holding [v] (truthy v)) := by intro _; rfl) : JT X e (mTruth K te) := by
  refine .mk ?_
  subst hK
  exact pt_truth h.out he
end
end L2

set_option linter.all false
namespace Rg
open PySem
abbrev Rise (a : Array Nat) : Prop := a.toList.Pairwise (· < ·)
theorem rise_lt {a : Array Nat} (h : Rise a) {i j x y : Nat} (hi : a[i]? = some x) (hj : a[j]? = some y) (hij : i < j) : x < y := by
  have hi' : a.toList[i]? = some x := by simpa using hi
  have hj' : a.toList[j]? = some y := by simpa using hj
  obtain ⟨h1, e1⟩ := List.getElem?_eq_some_iff.mp hi'
  obtain ⟨h2, e2⟩ := List.getElem?_eq_some_iff.mp hj'
  have := List.pairwise_iff_getElem.mp h i j h1 h2 hij
  rw [e1, e2] at this
  exact this
theorem below_go {a : Array Nat} (h : Rise a) (j : Nat) : ∀ (fuel lo hi : Nat), lo ≤ hi → hi ≤ a.size → hi - lo ≤ fuel → (∀ i x, i < lo → a[i]? = some x → x < j) → (∀ i x, hi ≤ i → a[i]? = some x → j ≤ x) →
    SetTable.below.go a j fuel lo hi ≤ a.size ∧ (∀ i x, i < SetTable.below.go a j fuel lo hi → a[i]? = some x → x < j) ∧ (∀ i x, SetTable.below.go a j fuel lo hi ≤ i → a[i]? = some x → j ≤ x)
  | 0, lo, hi, h1, h2, h3, hl, hh => by
    have e : lo = hi := by omega
    subst e
    exact ⟨h2, hl, hh⟩
  | fuel + 1, lo, hi, h1, h2, h3, hl, hh => by
    unfold SetTable.below.go
    by_cases hlt : lo < hi
    · rw [if_pos hlt]
      have hm : (lo + hi) / 2 < a.size := by omega
      have em : a[(lo + hi) / 2]? = some a[(lo + hi) / 2] := Array.getElem?_eq_getElem hm
      have eg : a.getD ((lo + hi) / 2) j = a[(lo + hi) / 2] := by simp [Array.getD, hm]
      dsimp only
      rw [eg]
      by_cases hc : a[(lo + hi) / 2] < j
      · rw [if_pos hc]
        refine below_go h j fuel _ hi (by omega) h2 (by omega) (fun i x hi' ei => ?_) hh
        by_cases z : i = (lo + hi) / 2
        · subst z; rw [em] at ei; rw [← Option.some.inj ei]; exact hc
        · exact Nat.lt_trans (rise_lt h ei em (by omega)) hc
      · rw [if_neg hc]
        refine below_go h j fuel lo _ (by omega) (by omega) (by omega) hl (fun i x hi' ei => ?_)
        by_cases z : i = (lo + hi) / 2
        · subst z; rw [em] at ei; rw [← Option.some.inj ei]; omega
        · have := rise_lt h em ei (by omega); omega
    · rw [if_neg hlt]
      have e : lo = hi := by omega
      subst e
      exact ⟨h2, hl, hh⟩
theorem below_ok {a : Array Nat} (h : Rise a) (j : Nat) : SetTable.below a j ≤ a.size ∧ (∀ i x, i < SetTable.below a j → a[i]? = some x → x < j) ∧ (∀ i x, SetTable.below a j ≤ i → a[i]? = some x → j ≤ x) :=
  below_go h j a.size 0 a.size (Nat.zero_le _) (Nat.le_refl _) (by omega) (fun i x hi => by omega) (fun i x hi e => by rw [Array.getElem?_eq_none hi] at e; cases e)
theorem rise_insert {a : Array Nat} (h : Rise a) {j : Nat} (hn : a[SetTable.below a j]? ≠ some j) : Rise (SetTable.insertAt a (SetTable.below a j) j) := by
  obtain ⟨h1, h2, h3⟩ := below_ok h j
  generalize SetTable.below a j = p at hn h1 h2 h3
  show (SetTable.insertAt a p j).toList.Pairwise (· < ·)
  rw [SetTable.toList_insertAt]
  refine List.pairwise_append.mpr ⟨h.sublist (List.take_sublist _ _), List.pairwise_cons.mpr ⟨fun y hy => ?_, h.sublist (List.drop_sublist _ _)⟩, fun x hx y hy => ?_⟩
  · obtain ⟨k, hk⟩ := List.mem_iff_getElem?.mp hy
    rw [List.getElem?_drop] at hk
    have ek : a[p + k]? = some y := by simpa using hk
    have hge := h3 (p + k) y (by omega) ek
    rcases Nat.eq_or_lt_of_le hge with z | z
    · exfalso
      subst z
      by_cases hk0 : k = 0
      · subst hk0; exact hn ek
      · have hps : p < a.size := by
          rcases Nat.lt_or_ge p a.size with z | z
          · exact z
          · rw [Array.getElem?_eq_none (by omega)] at ek; cases ek
        have ep := Array.getElem?_eq_getElem hps
        have l1 := h3 p _ (Nat.le_refl _) ep
        have l2 := rise_lt h ep ek (by omega)
        omega
    · exact z
  · have hxj : x < j := by
      obtain ⟨k, hk⟩ := List.mem_iff_getElem?.mp hx
      rw [List.getElem?_take] at hk
      split at hk
      · rename_i hkp
        exact h2 k x hkp (by simpa using hk)
      · cases hk
    rcases List.mem_cons.mp hy with rfl | hy
    · exact hxj
    · obtain ⟨k, hk⟩ := List.mem_iff_getElem?.mp hy
      rw [List.getElem?_drop] at hk
      have := h3 (p + k) y (by omega) (by simpa using hk)
      omega
structure TabOk (B : Bool) (t : SetTable) : Prop where
  led : B = false → t.led = true
  ris : Rise t.place
  dum : t.dummies = #[]
theorem TabOk.fresh (B : Bool) : TabOk B (.fresh 0 0 (!B)) := ⟨fun h => by rw [h]; rfl, by show ([] : List Nat).Pairwise _; exact .nil, rfl⟩
theorem TabOk.plain {B : Bool} {t : SetTable} (h : TabOk B t) : TabOk B { t with plain := false } := ⟨h.led, h.ris, h.dum⟩
theorem no_dummy {t : SetTable} (hd : t.dummies = #[]) (j : Nat) : SetTable.has t.dummies j = false := by
  rw [hd]; unfold SetTable.has; simp
theorem TabOk.put {B : Bool} {t : SetTable} (h : TabOk B t) {j : Nat} (hn : t.place[SetTable.below t.place j]? ≠ some j) : TabOk B (t.put j).1 := by
  refine ⟨h.led, rise_insert h.ris hn, ?_⟩
  show (if SetTable.has t.dummies j then _ else t.dummies) = #[]
  rw [if_neg (by rw [no_dummy h.dum]; decide)]
  exact h.dum
end Rg

set_option Elab.async false
set_option linter.all false
set_option maxRecDepth 100000
set_option maxHeartbeats 4000000
namespace L2
open PySem PySem.Spec PyProof.Rows Rg
section
variable {prog : Program} {w : World} {A : Around} {E : Value → Shared → Prop} {s : Shared}
end
end L2

set_option Elab.async false
set_option linter.all false
set_option maxRecDepth 100000
set_option maxHeartbeats 4000000
namespace L2
open PySem PySem.Spec PyProof.Rows
section
variable {prog : Program} {w : World} {A : Around} {R : Result → Shared → Prop} {I : Addr} {fp wr : List Addr} {G : Array GenState → Array GenState → Prop} {n : Nat} {P : Nat → Value → Prop} {St : Nat → Shared → Prop}
end
section
variable {prog : Program} {w : World} {A : Around} {E : Value → Shared → Prop} {s : Shared}
end
end L2

set_option Elab.async false
set_option linter.all false
set_option maxRecDepth 100000
set_option maxHeartbeats 4000000
namespace L2
open PySem PySem.Spec PyProof.Rows Rg
section
variable {M : Model} {A : Around} {E : Value → Shared → Prop} {s : Shared}
end
end L2

set_option Elab.async false
set_option linter.all false
set_option maxRecDepth 100000
set_option maxHeartbeats 4000000
namespace L2
open PySem PySem.Spec PyProof.Rows Rg
section
variable {prog : Program} {w : World} {A : Around} {E : Value → Shared → Prop} {s : Shared}
structure Ord (w : World) (h : Heap) (z : Addr) (es : Array (Int × Value)) (ep : Nat) (t : SetTable) (vals : List Value) (fst : Value) (i : Nat) : Prop where
  way : (w.params.followText "set-order" = true ∧ fst = .int 0 0 ∧ vals = (pickOrder (w.params.setOrder z ep) es).toList.map (·.2)) ∨
    (w.params.followText "set-order" = false ∧ (!t.plain && decide (es.size > 1)) = true ∧ ∃ (T : Addr) (ps : List Nat), fst = .ref T ∧ (∃ c, h.get? T = some { cls := .type "tuple", dict := none, data := .seq (ps.map fun (k : Nat) => rawInt k).toArray c, slots := #[] }) ∧ ps.length = es.size ∧ (∀ k ∈ ps, k < es.size) ∧ vals = ps.map fun k => (es.getD k default).2) ∨
    (w.params.followText "set-order" = false ∧ (!t.plain && decide (es.size > 1)) = false ∧ ∃ slot : Nat, fst = .int (slot : Nat) 0 ∧ SetTable.below t.place slot = i ∧ vals = es.toList.map (·.2))
end
end L2

set_option Elab.async false
set_option linter.all false
set_option maxRecDepth 100000
set_option maxHeartbeats 4000000
namespace L2
open PySem PySem.Spec PyProof.Rows Rg
section
variable {prog : Program} {w : World} {A : Around} {E : Value → Shared → Prop} {s : Shared}
end
end L2

set_option Elab.async false
set_option linter.all false
set_option maxRecDepth 100000
set_option maxHeartbeats 4000000
namespace L2
open PySem PySem.Spec PyProof.Rows Rg
section
variable {prog : Program} {w : World} {A : Around} {E : Value → Shared → Prop} {s : Shared}
end
end L2

set_option Elab.async false
set_option linter.all false
set_option maxRecDepth 100000
set_option maxHeartbeats 4000000
namespace L2
open PySem PySem.Spec PyProof.Rows Rg
section
variable {prog : Program} {w : World} {A : Around} {E : Value → Shared → Prop} {s : Shared}
end
section
variable {prog : Program} {w : World} {A : Around} {E : Value → Shared → Prop} {s : Shared}
end
end L2

set_option Elab.async false
set_option linter.all false
set_option maxRecDepth 100000
set_option maxHeartbeats 4000000
namespace L2
open PySem PySem.Spec PyProof.Rows Rg
section
variable {X : Cx} {K : PySem.W.Frag} {P : Program} {w : World}
end
end L2

set_option Elab.async false
set_option linter.all false
namespace L2
open PySem PySem.Spec PyProof.Rows Rg
theorem step_mem (σ : List Int) (v x : Int) : x ∈ step_dedup σ v ↔ x ∈ σ ∨ x = v := by
  unfold step_dedup
  by_cases h : σ.any (· == v) = true
  · rw [if_pos h]
    obtain ⟨y, hy, e⟩ := List.any_eq_true.mp h
    have e' : y = v := beq_iff_eq.mp e
    subst e'
    exact ⟨.inl, fun z => z.elim id fun e => by rw [e]; exact hy⟩
  · rw [if_neg h, List.mem_append, List.mem_singleton]
theorem dist_mem1 (ns : List Int) (x : Int) : x ∈ dist ns ↔ x ∈ ns := by
  have key : ∀ (l acc : List Int), x ∈ l.foldl step_dedup acc ↔ x ∈ acc ∨ x ∈ l := by
    intro l
    induction l with
    | nil => intro acc; simp
    | cons y r ih =>
      intro acc
      rw [List.foldl_cons, ih, step_mem, List.mem_cons, or_assoc]
  have := key ns []
  unfold dist
  simpa using this
structure Srt (ns rs : List Int) : Prop where
  pm : ns.Perm (dist rs)
  st : ns.Pairwise (· ≤ ·)
theorem Srt.mem {ns rs : List Int} (h : Srt ns rs) (x : Int) : x ∈ ns ↔ x ∈ rs := (h.pm.mem_iff).trans (dist_mem1 rs x)
theorem Srt.nil {ns rs : List Int} (h : Srt ns rs) : ns = [] ↔ rs = [] := by
  constructor
  · intro e
    refine List.eq_nil_iff_forall_not_mem.mpr fun x hx => ?_
    have := (h.mem x).mpr hx
    rw [e] at this
    cases this
  · intro e
    refine List.eq_nil_iff_forall_not_mem.mpr fun x hx => ?_
    have := (h.mem x).mp hx
    rw [e] at this
    cases this
theorem Srt.none {ns rs : List Int} (h : Srt ns rs) (k : Int) : ns.filter (fun x => decide (k < x)) = [] ↔ ∀ x ∈ rs, x ≤ k := by
  rw [List.filter_eq_nil_iff]
  constructor
  · intro q x hx
    have := q x ((h.mem x).mpr hx)
    rw [decide_eq_true_eq] at this
    omega
  · intro q x hx
    have := q x ((h.mem x).mp hx)
    rw [decide_eq_true_eq]
    omega
theorem Srt.above {ns rs r : List Int} {m k : Int} (h : Srt ns rs) (e : ns.filter (fun x => decide (k < x)) = m :: r) : m ∈ rs ∧ k < m ∧ ∀ x ∈ rs, k < x → m ≤ x := by
  have hm : m ∈ ns.filter (fun x => decide (k < x)) := by rw [e]; exact List.mem_cons_self
  obtain ⟨h1, h2⟩ := List.mem_filter.mp hm
  refine ⟨(h.mem m).mp h1, of_decide_eq_true h2, fun x hx hk => ?_⟩
  have hx' : x ∈ ns.filter (fun x => decide (k < x)) := List.mem_filter.mpr ⟨(h.mem x).mpr hx, decide_eq_true hk⟩
  have st := h.st.sublist (List.filter_sublist (p := fun x => decide (k < x)))
  rw [e] at hx' st
  rcases List.mem_cons.mp hx' with z | z
  · rw [z]; exact Int.le_refl _
  · exact (List.pairwise_cons.mp st).1 x z
end L2

set_option Elab.async false
set_option linter.all false
set_option maxRecDepth 100000
set_option maxHeartbeats 4000000
namespace L2
open PySem PySem.Spec PyProof.Rows PySem.W
section
variable {X : Cx} {pins : List (Addr × Obj)} {σ : List (Option V)} {H : Hp} {s : Shared}
theorem Inv.track {a : Addr} {oe : Obj} (I : Inv X pins σ H s) (he : s.heap.get? a = some oe) (hn : H a = none) (hL : a ≠ X.env.locals) (hd : ∀ v, oe.data ≠ .cell v) (h0 : ∀ o, X.s₀.heap.get? a = some o → a ∈ X.ex)
    (hp : ∀ p ∈ X.pn ++ pins, p.1 ≠ a) : Inv X pins σ (upd H a (.frz oe anyHO)) s := by
  have keep : ∀ {b : Addr} {u : HO}, H b = some u → upd H a (.frz oe anyHO) b = some u := fun {b u} e => by
    rw [upd_ne (ne_of_none e hn)]; exact e
  refine ⟨I.ok, I.os, I.bare, ⟨I.base.keep, I.base.slot, fun b o e n hx => ?_, I.base.there, fun b xs e => keep (I.base.tups b xs e), fun b o u e => keep (I.base.frzs b o u e), fun b ps e => ?_⟩, I.loc, I.cell, ?_, fun x c e => ?_, fun p hpp => ?_, fun b u e => ?_, I.len⟩
  · have nb : b ≠ a := fun z => by
      subst z
      exact hx (h0 o e)
    rw [upd_ne nb]
    exact I.base.free b o e n hx
  · obtain ⟨more, q⟩ := I.base.tbls b ps e
    exact ⟨more, keep q⟩
  · rw [upd_ne (Ne.symm hL)]
    exact I.free
  · have nc : c ≠ a := fun z => by
      subst z
      obtain ⟨v, q⟩ := I.cell x c e
      obtain ⟨o, q1, q2⟩ := id q
      rw [he] at q1
      cases q1
      first | exact hd _ q2 | exact hd _ q2.2 | exact hd _ q2.1
    rw [upd_ne nc]
    exact I.freeC x c e
  · obtain ⟨e1, e2, e3⟩ := I.pin p hpp
    exact ⟨e1, by rw [upd_ne (hp p hpp)]; exact e2, e3⟩
  · by_cases hb : b = a
    · subst hb
      rw [upd_same] at e
      cases e
      exact ok_any he
    · rw [upd_ne hb] at e
      exact (I.hok b u e).stay (fun _ _ _ q => q) (fun c q => keep q) fun c xs q => keep q
end
def kepEnds (i : Nat) (a : Addr) (oe : Obj) (D : Ends) : Ends := { nx := fun σ H => D.nx (σ.set i none) (upd H a (.frz oe anyHO)), rt := D.rt, bk := fun σ H => D.bk (σ.set i none) H, ct := fun σ H => D.ct (σ.set i none) H }
section
variable {X : Cx} {k : Nat} {x G n : Str} {ps : List Str} {sp : Sp} {e : Expr} {es : List Expr} {t : TA} {p gp cpos epos hpos pos : Pos} {CG : Addr} {newId : String} {i : Nat} {b₀ : Stmt} {suite : List Stmt} {ts : Addr → Addr → TS}
end
def gIsiE (K : Frag) : List V → Hp → VK → Prop := fun xs H Q => match xs with
  | [.ref a, .ref y] => ∃ oe C b, Kn H a oe ∧ oe.cls = .ref C ∧ ExcK K C ∧ kitOne K (.ref C) (.ref y) = some b ∧ Q (.bl b) H
  | [.ref a, .ty T] => ∃ oe C b, Kn H a oe ∧ oe.cls = .ref C ∧ ExcK K C ∧ kitOne K (.ref C) (.type T) = some b ∧ Q (.bl b) H
  | _ => False
theorem c_isiE {X : Cx} {K : Frag} (hK : X.K = K := by rfl) : Irr (CallR X (.builtin "isinstance") (gIsiE K)) := by
  refine .mk ?_
  subst hK
  intro pins s σ H xs us Q I r h
  unfold gIsiE at h
  split at h
  · obtain ⟨u, u', rfl, r1, r2⟩ := vals2 r
    obtain ⟨oe, C, b, hk, hc, Z, hb, q⟩ := h
    cases r1
    cases r2
    exact kia_one (kitx_exc Z) I.kIn (⟨hk.get I.hok, hc⟩ : InstE s.heap _ oe C) hb (fun z => nomatch z) fun tk => ⟨.bl b, H, I.tok tk, rfl, q⟩
  · obtain ⟨u, u', rfl, r1, r2⟩ := vals2 r
    obtain ⟨oe, C, b, hk, hc, Z, hb, q⟩ := h
    cases r1
    cases r2
    exact kia_one (kitx_exc Z) I.kIn (⟨hk.get I.hok, hc⟩ : InstE s.heap _ oe C) hb (fun z => nomatch z) fun tk => ⟨.bl b, H, I.tok tk, rfl, q⟩
  · exact h.elim
end L2

set_option Elab.async false
set_option linter.all false
set_option maxRecDepth 100000
set_option maxHeartbeats 4000000
namespace L2
open PySem PySem.Spec PyProof.Rows PySem.W
abbrev TX := (St → Hp → Prop) → (St → XK) → St → Hp → Prop
def PXs (X : Cx) (b : List Stmt) (t : TX) : Prop :=
  ∀ (pins : List (Addr × Obj)) (s : Shared) (σ : St) (H : Hp) (N : St → Hp → Prop) (EX : St → XK), Inv X pins σ H s → t N EX σ H →
    wpAny (model X.prog X.w) X.A (execs b X.env) (fun fl s' => fl = .next ∧ ∃ σ' H', Inv X pins σ' H' s' ∧ N σ' H') (fun er s' => ∃ σ' H1 s1, Inv X pins σ' H1 s1 ∧ CX1 X.prog X.w X.stack H1 s1 (EX σ') er s') s
section
variable {X : Cx} {k : Nat} {x G n : Str} {ps : List Str} {sp : Sp} {e c : Expr} {es : List Expr} {t : TA} {p gp cpos epos hpos pos : Pos} {CG : Addr} {newId : String} {i : Nat} {b₀ : Stmt} {suite b1 b2 body : List Stmt} {ts : Addr → Addr → TS} {tx t1 t2 : TX} {tc : TT}
theorem px_call (D : DefX X.prog X.w X.K X.mg X.base k x ps sp) (hr : Room k X.A) (hg : Gl X x) (ha : PA X.nox (e :: es) t) (hdb : (x == ("__debug__" : Str)) = false := by decide) (hstar : noStars (e :: es) = true := by rfl)
    (hsw : swapsWith (.Call (.Name x p) (e :: es) [] cpos) none epos.line X.env = pure false := by rfl) :
    PXs X [.Expr (.Call (.Name x p) (e :: es) [] cpos) epos] (fun N EX σ H => t σ H fun vs H1 => sp vs H1 (fun _ H2 => N σ H2) (EX σ)) := by
  intro pins s σ H N EX I h
  obtain ⟨f, fd, mgf, kp, _, b, Fk⟩ := D.ex
  have h' : noStar e = true ∧ noStars es = true := by simpa [noStars] using hstar
  have he := starEach_cons (es := es) (env := X.env) h'.1
  have hpl := back_any (env := X.env) (pos := cpos) h'.2
  refine wpAny_execs_cons (wpAny_Expr_any (wpAny_Call_Name_kw (ld_glob I hg mgf ?_ hdb)) I.quiet hsw)
  refine PySem.W.callWith_K (h₀ := X.base) I.ok.mod.kin kp (wpAny_mono (ha cpos pins s σ H _ (I.wish _) h) (fun us s1 h1 => ?_) fun _ _ z => False.elim z) he hpl
  obtain ⟨vs, H1, I1', r, q⟩ := h1
  have I1 := I1'.unwish
  refine ⟨I1.kIn, ?_⟩
  have hl : us.length = ps.length := by rw [← r.length]; exact Fk.len _ _ _ _ q
  have hbind : BindsTo s1 fd ⟨us, []⟩ (ps.zip us) := by
    have := b s1 us I1.kIn (by rw [List.append_nil]; exact hl)
    rw [List.append_nil] at this; exact this
  refine wpAny_call (codeAny_mono (Fk.run X.A X.stack s1 H1 ⟨us, []⟩ us vs _ _ hr I1.env0 hbind r q) fun r' s' hq => ?_)
  cases r' with
  | ok fl =>
    cases fl with
    | ret u =>
      obtain ⟨v, H2, I2, rv, q2⟩ := I1.after hq
      exact wpAny_execs_nil ⟨rfl, σ, H2, I2, q2⟩
    | next => exact False.elim hq
    | brk => exact False.elim hq
    | cont => exact False.elim hq
  | error er => exact ⟨σ, H1, s1, I1, hq⟩
theorem px_if (hc : PT X.nox c tc) (h1 : PXs X b1 t1) (h2 : PXs X b2 t2) : PXs X [.If c b1 b2 pos] (fun N EX σ H => tc σ H fun b H1 => if b = true then t1 N EX σ H1 else t2 N EX σ H1) := by
  intro pins s σ H N EX I h
  refine wpAny_execs_cons (wpAny_If (wpAny_mono (hc pins s σ H _ (I.wish _) h) (fun d s1 h1' => ?_) fun _ _ z => False.elim z))
  obtain ⟨H1, I1', q1⟩ := h1'
  have I1 := I1'.unwish
  cases d with
  | true => exact wpAny_mono (h1 pins s1 σ H1 N EX I1 q1) (fun fl s' z => by obtain ⟨rfl, z⟩ := z; exact wpAny_execs_nil ⟨rfl, z⟩) fun _ _ z => z
  | false => exact wpAny_mono (h2 pins s1 σ H1 N EX I1 q1) (fun fl s' z => by obtain ⟨rfl, z⟩ := z; exact wpAny_execs_nil ⟨rfl, z⟩) fun _ _ z => z
def tTryG (K : PySem.W.Frag) (CG : Addr) (i : Nat) (tx : TX) (ts : Addr → Addr → TS) : TS := fun D σ H => tx D.nx (fun σ' cls _ H2 =>
  ∃ C, cls = .ref C ∧ ExcK K C ∧ mroHas K C (.ref CG) = true ∧ ∀ a oe, H2 a = none → oe.cls = .ref C → ts a C (kepEnds i a oe D) (σ'.set i (some (.ref a))) H2) σ H
theorem ps_tryG (hst : X.stack = X.env :: X.outer) (hfr : X.env.frame = some X.env.locals) (hb : PXs X body tx)
    (hgG : Gl X G) (hmG : X.mg G = some (.ref CG)) (hqG : PySem.W.excIn X.K CG bmVE "ValueError.__new__" = true) (hN : X.N.Nodup) (hi : X.N[i]? = some n) (hk : X.env.scope.names.lookup n = some .local)
    (hsu : ∀ a oe C, oe.cls = .ref C → ExcK X.K C → PSs (cxSuite X a oe) (b₀ :: suite) (ts a C)) (hdG : (G == ("__debug__" : Str)) = false := by decide) :
    PS X (.Try body [.ExceptHandler (some (.Name G gp)) (some n) (b₀ :: suite) hpos] [] [] pos) (tTryG X.K CG i tx ts) := by
  intro pins s σ H Dn I h
  refine wpAny_Try_except (wpAny_mono (hb pins s σ H _ _ I h) (fun fl s' z => ?_) fun er s' z => ?_)
  · obtain ⟨rfl, σ', H', I', q'⟩ := z
    exact wpAny_execs_nil ⟨σ', H', I', q'⟩
  · obtain ⟨σ, H1, s1, I1, hq⟩ := z
    obtain ⟨a, B, cls, a0, H', rfl, os, bare, fl, hok, un, kb, C, rfl, hqC, hmro, hts⟩ := hq
    have nf : ∀ b ∈ frs X.stack, ∃ o, s1.heap.get? b = some o ∧ ∀ vs, o.data ≠ .fields vs := fun b hb => (I1.stack.mem hb).2
    have mk : ∀ h1, B.StaysIn h1 → s'.heap.UpToSlots h1 → Inv X pins σ H' { s' with heap := h1 } := fun h1 st us =>
      I1.call' (s' := { s' with heap := h1 }) (ch := []) os (un_left un kb st (fun b _ => us b) nf I1.stkFree) (hok.kept st) bare fun b z => nomatch z
    refine note_any (env := X.env) (outer := X.outer) (L := X.env.locals) (by rw [← hst]; exact I.ok.frames) hfr (by rw [← hst]; exact fl) fun h1 held us1 => ?_
    refine wpAny_landsW (s := { s' with heap := h1 }) held fun h2 fl2 us2 => ?_
    have I2 := mk h2 fl2.1 (us1.trans us2)
    obtain ⟨ob, hob, hobc⟩ := fl2.there
    obtain ⟨bm, N, nm, qn, bs, hdct, sn, sub, ab, col, dd, k0, k1, k2, k3, k5, mN, hC, hN', hni, TL, hv⟩ := exc_of_in2 (h := X.base) I.ok.mod.kin hqC.exc
    obtain ⟨bm', N'', nm', qn', bs', hdct', sn', sub', ab', col', dd', k0', k1', k2', k3', k5', mN', hCG, hNG, hniG, TG, hvG⟩ := exc_of_in2 (h := X.base) I.ok.mod.kin hqG
    refine wpAny_handleBy_cons (codeAny_handlers_test (Calls.Name_function_global I2.ok.kind hgG (Calls.loadGlobal_global (by rw [I2.ok.glob]; exact I2.mod.glob.keeps I2.bk) hmG ?_) hdG)) (by intro q; cases q)
    refine excMatches_own (I2.bk _ _ hC) (I2.bk _ _ hCG) hob hobc (TG.hasType F.excBase_ValueError.hasBase) (by rw [← hv]; exact hmro) (codeAny_handlers_suite_as ?_)
    refine lands_againW (s := { s' with heap := h2 }) fl2 fun h3 fl3 us3 => ?_
    have I3 := mk h3 fl3.1 ((us1.trans us2).trans us3)
    obtain ⟨oe, ws, hoe, hoec, hoed, _⟩ := fl3.first
    have hBa : B.get? a = none := fl.2.1
    have hHa : H' a = none := by
      cases z : H' a with
      | none => rfl
      | some o =>
        obtain ⟨u, hu⟩ := objOk_there (hok a o z)
        rw [hBa] at hu; cases hu
    have notfr : a ∉ frs (X.env :: X.outer) := fun z => by
      obtain ⟨_, o', e', d'⟩ := fl3.2.2.1.mem z
      rw [hoe] at e'; cases e'
      exact d' ws hoed
    have hL : a ≠ X.env.locals := fun z => notfr (by rw [frs_cons hfr, z]; exact List.mem_cons_self)
    have hF : a ∉ X.fs := fun z => notfr (by rw [frs_cons hfr]; exact List.mem_cons_of_mem _ z)
    have old : ∀ b o, s1.heap.get? b = some o → b ∉ frs X.stack → b ≠ a := fun b o hb hf z => by
      obtain ⟨⟨o', ho'⟩, _⟩ := kb b o hb hf (by simp)
      rw [z, hBa] at ho'; cases ho'
    have h0 : ∀ o, X.s₀.heap.get? a = some o → a ∈ X.ex := fun o e0 => Classical.byContradiction fun hx => by
      obtain ⟨o', e1⟩ := I1.base.there a o e0 hx
      exact old a o' e1 (by rw [hst]; exact notfr) rfl
    have hpp : ∀ p ∈ X.pn ++ pins, p.1 ≠ a := fun p hp => by
      obtain ⟨e1, e2, e3, e4, e5⟩ := I1.pin p hp
      refine old p.1 p.2 e1 fun z => ?_
      rcases List.mem_cons.mp (I1.stkSub _ z) with y | y
      · exact e3 y
      · exact e4 y
    have hcell : ∀ v, oe.data ≠ .cell v := fun v z => by rw [hoed] at z; cases z
    have Is := suite_in I3 hoe hHa hL hF hcell
    have hkl : X.env.kindOf n = some .local := hk
    refine store_ok (X := cxSuite X a oe) Is hN hi (.inl hk) (show RelV (.ref a) (.ref a) from rfl) (fun s4 I4 => ?_) (.inr hk)
    refine wpAny_mono (hsu a oe C hoec hqC pins s4 _ H' (kepEnds i a oe Dn) I4 (hts a oe hHa hoec)) (fun fl s5 h5 => ?_) fun _ _ z => z.elim
    cases fl with
    | next =>
      obtain ⟨σ5, H5, I5, q5⟩ := h5
      have hpa := I5.pin (a, oe) (List.mem_append_left _ (List.mem_append_right _ List.mem_cons_self))
      exact goes_ok ((suite_out I.ok I5).track hpa.1 hpa.2.1 hL hcell h0 hpp) hN hi hkl fun s6 I6 => ⟨_, _, I6, q5⟩
    | brk =>
      obtain ⟨σ5, H5, I5, q5⟩ := h5
      exact goes_ok (suite_out I.ok I5) hN hi hkl fun s6 I6 => ⟨_, H5, I6, q5⟩
    | cont =>
      obtain ⟨σ5, H5, I5, q5⟩ := h5
      exact goes_ok (suite_out I.ok I5) hN hi hkl fun s6 I6 => ⟨_, H5, I6, q5⟩
    | ret u =>
      obtain ⟨v, σ5, H5, I5, r5, q5⟩ := h5
      exact goes_ok (suite_out I.ok I5) hN hi hkl fun s6 I6 => ⟨v, _, H5, I6, r5, q5⟩
end
section
variable {X : Cx} {k : Nat} {x G n : Str} {ps : List Str} {sp : Sp} {e c : Expr} {es : List Expr} {t : TA} {p gp cpos epos hpos pos : Pos} {CG : Addr} {i : Nat} {b₀ : Stmt} {suite b1 b2 body : List Stmt} {ts : Addr → Addr → TS} {tx t1 t2 : TX} {tc : TT}
abbrev JXs (X : Cx) (b : List Stmt) (t : TX) : Prop := Irr (PXs X b t)
theorem jx_call (D : DefX X.prog X.w X.K X.mg X.base k x ps sp) (hr : Room k X.A) (hg : Gl X x) (ha : JA X.nox (e :: es) t) (hdb : (x == ("__debug__" : Str)) = false := by decide) (hstar : noStars (e :: es) = true := by rfl)
    (hsw : swapsWith (.Call (.Name x p) (e :: es) [] cpos) none epos.line X.env = pure false := by rfl) :
    JXs X [.Expr (.Call (.Name x p) (e :: es) [] cpos) epos] (fun N EX σ H => t σ H fun vs H1 => sp vs H1 (fun _ H2 => N σ H2) (EX σ)) := .mk (px_call D hr hg ha.out hdb hstar hsw)
theorem jx_if (hc : JT X.nox c tc) (h1 : JXs X b1 t1) (h2 : JXs X b2 t2) : JXs X [.If c b1 b2 pos] (fun N EX σ H => tc σ H fun b H1 => if b = true then t1 N EX σ H1 else t2 N EX σ H1) := .mk (px_if hc.out h1.out h2.out)
theorem js_tryG {K : PySem.W.Frag} (hst : X.stack = X.env :: X.outer) (hfr : X.env.frame = some X.env.locals) (hb : JXs X body tx)
    (hgG : Gl X G) (hmG : X.mg G = some (.ref CG)) (hqG : PySem.W.excIn X.K CG bmVE "ValueError.__new__" = true) (hN : X.N.Nodup) (hi : X.N[i]? = some n) (hk : X.env.scope.names.lookup n = some .local)
    (hsu : ∀ a oe C, oe.cls = .ref C → ExcK X.K C → JSs (cxSuite X a oe) (b₀ :: suite) (ts a C)) (hK : X.K = K := by rfl) (hdG : (G == ("__debug__" : Str)) = false := by decide) :
    JS X (.Try body [.ExceptHandler (some (.Name G gp)) (some n) (b₀ :: suite) hpos] [] [] pos) (tTryG K CG i tx ts) := by
  subst hK
  exact .mk (ps_tryG hst hfr hb.out hgG hmG hqG hN hi hk (fun a oe C h Z => (hsu a oe C h Z).out) hdG)
end
end L2

set_option Elab.async false
set_option linter.all false
set_option maxRecDepth 100000
set_option maxHeartbeats 4000000
namespace L2
open PySem PySem.Spec PyProof.Rows
section
variable {X : Cx} {K : PySem.W.Frag} {e : Expr} {te : TE} {pos : Pos}
def cReprD (K : PySem.W.Frag) (te : TE) : St → Hp → Prop := fun σ H => te σ H fun v H1 => H1 = H ∧ ∃ a d, v = .ref a ∧ DatV K H v d ∧ d.showable = true ∧ d.hasDict = false ∧ d.depth ≤ 60 ∧ d.shown.length ≤ 1100000
theorem jf_reprD (hg : X.A.guards = some []) (hu : X.A.units + 64 < cLine) (he : JE X e te) (hK : X.K = K := by rfl) : JF X (.FormattedValue e 114 none pos) (cReprD K te) := by
  subst hK
  refine .mk ?_
  intro pins s σ H I h
  refine wpAny_FormattedValue_repr (thn (he.out pins s σ H _ I h) fun u s1 ⟨v, H1, I1, r1, e1, a, d, ev, hd, hs, hn, hp, hl⟩ => ?_)
  subst e1 ev
  obtain ⟨as, ra⟩ := hd.reads I1 r1
  cases r1
  have hz := size12 (Nat.le_trans hl (show 1100000 ≤ 12 * 1100000 by omega))
  refine pyReprObj_of_reads ra hs (fun z => by rw [hn] at z; cases z) hg (by omega) (fun _ _ e => e) (fun h' t tk hk => ?_) hz
  refine wpAny_formatField_str ⟨_, _, rfl, hl, I1.kept hk⟩ ⟨_, _, rfl, hl, ?_⟩ hz
  exact (I1.kept (t' := tk) hk).tok _
end
end L2
namespace L2
open PySem PySem.Spec PyProof.Rows
section
variable {X : Cx} {K : PySem.W.Frag}
def gAddA (K : PySem.W.Frag) : R2 := fun x y H Q => match x, y with
  | .ref l, .ref b => gAdd K (.ref l) (.ref b) H Q ∨ ∃ ys, SqT K H l [] ∧ SqT K H b ys ∧ Q (.ref b) H
  | x, y => gAdd K x y H Q
theorem o_addA (hK : X.K = K := by rfl) : Irr (OpR X (binaryOp .Add) (gAddA K)) := by
  refine .mk ?_
  subst hK
  intro pins s σ H x y v u Q I rx ry h
  unfold gAddA at h
  split at h
  · rcases h with h | ⟨ys, h1, h2, q⟩
    · exact og_add rfl pins s σ H _ _ v u Q I rx ry h
    · cases rx
      cases ry
      obtain ⟨its, r1, p1, _⟩ := I.tuple h1
      obtain ⟨its2, r2, p2, _⟩ := I.tuple h2
      cases r1
      obtain ⟨⟨c1, d1, a1, l1⟩, g1, y1, n1, z1⟩ := p1
      obtain ⟨⟨c2, d2, a2, l2⟩, g2, y2, n2, z2⟩ := p2
      dsimp only at y1 z1 y2 z2
      subst y1 z1 y2 z2
      exact concat_meets ⟨_, g1, rfl⟩ ⟨_, g2, rfl⟩ noFill_tuple_add seq_tuple_add PySem.F.slot_tuple_add PySem.F.entry_tuple_add (PySem.F.args_tuple_add_2 _ _) (tuple_addW0 _ _ _ _ _ _ _ _ _ _ rfl) ⟨g1, g2, ⟨.ref _, H, I, rfl, q⟩⟩
  · exact og_add rfl pins s σ H _ _ v u Q I rx ry h
end
end L2
namespace L2
open PySem PySem.Spec PyProof.Rows
theorem piled_le : ∀ (ts : List Str) (B : Nat), (∀ t ∈ ts, t.length ≤ B) → piled ts ≤ ts.length * (B + 2)
  | [], B, _ => by simp [piled]
  | t :: r, B, h => by
    have ih := piled_le r B fun x hx => h x (List.mem_cons_of_mem _ hx)
    have h1 := h t List.mem_cons_self
    rw [piled_cons, List.length_cons, Nat.add_mul, Nat.one_mul]
    omega
theorem tupT_le {ts : List Str} {B : Nat} (h : ∀ t ∈ ts, t.length ≤ B) : (tupleText ts).length ≤ ts.length * (B + 2) + 3 := by
  unfold tupleText
  rw [strLen_append, strLen_append]
  have h2 : (Str.join ", " ts).length ≤ ts.length * (B + 2) := by
    cases ts with
    | nil => exact Nat.le_trans (show (Str.join ", " []).length ≤ 0 by decide) (Nat.zero_le _)
    | cons t r =>
      have h1 := piled_le (t :: r) B h
      have := join_length_add (t :: r) (List.cons_ne_nil _ _)
      omega
  have h3 : (("(" : Str)).length = 1 := by decide
  have h4 : ((if ts.length == 1 then ",)" else ")" : String) : Str).length ≤ 2 := by
    by_cases e : (ts.length == 1) = true
    · rw [if_pos e]; decide
    · rw [if_neg e]; decide
  omega
end L2
namespace L2
open PySem PySem.Spec PyProof.Rows
section
variable {cap : List (Option Nat)} {g : TG} {tc : TT} {te : TE} {Q : Addr → Hp → Prop} {σ : St} {H : Hp}
theorem gath_tup {K : PySem.W.Frag} {a : Addr} {xs : List V} (Pv : Nat → List V → St → Hp → Prop) (hn : xs.length ≤ 1000000) (h0 : Pv 0 [] (capt cap σ) H) (hlen : ∀ i ys σ' H', Pv i ys σ' H' → ys.length ≤ i)
    (hl : ∀ i ys σ' H', Pv i ys σ' H' → SqT K H' a xs)
    (hs : ∀ i x ys σ' H', xs[i]? = some x → Pv i ys σ' H' → g x σ' H' fun σ3 H3 => tc σ3 H3 fun b H4 => if b = true then te σ3 H4 fun y H5 => Pv (i + 1) (ys ++ [y]) σ3 H5 else Pv (i + 1) ys σ3 H4)
    (hd : ∀ ys σ' H', Pv xs.length ys σ' H' → ∀ D, H' D = none → Q D (upd H' D (.lst ys))) : Gath (Itt K a) cap g tc te Q σ H :=
  gath_of (J := Itt K a) (item := fun i x => xs[i]? = some x) Pv hn h0 hlen (fun i ys σ' H' hi p => ⟨xs, xs[i], hl i ys σ' H' p, by simp [hi]⟩) (fun i ys σ' H' x H2 _ p y => ⟨y.2 xs (hl i ys σ' H' p), y.1⟩)
    (fun ys σ' H' p => ⟨xs, hl _ ys σ' H' p, Nat.le_refl _⟩) (fun i x ys σ' H' hi e p => hs i x ys σ' H' e p) hd
end
end L2

namespace Rg

def wr (c : Nat) : Prop := 32 ≤ c ∧ c ≤ 126 ∧ c ≠ 37
end Rg

set_option linter.all false
namespace Rg
open PySem PySem.Builtin PySem.Builtin.Str

abbrev S (l : List Nat) : Str := ⟨l.toArray⟩
theorem S_inj {a b : List Nat} (h : S a = S b) : a = b := by
  have : (S a).cps.toList = (S b).cps.toList := by rw [h]
  simpa using this
theorem S_of (x : Str) : x = S x.cps.toList := by cases x; simp [S]
theorem S_app (a b : List Nat) : S a ++ S b = S (a ++ b) := Str.ext' (by rw [Str.cps_append]; simp)
theorem S_len (a : List Nat) : (S a).length = a.length := by simp [Str.length]
end Rg

set_option Elab.async false
set_option linter.all false
namespace Rg
open PySem PySem.Spec PyProof.Rows L2
def low (l : List Nat) : Prop := ∀ c ∈ l, c < 0x110000
theorem strOkL {l : List Nat} (h : low l) : PyData.strOk (S l) = true := by
  unfold PyData.strOk
  simp
  intro c hc
  have := h c hc
  omega
theorem tx_dat {K : PySem.W.Frag} {H : Hp} : ∀ ks : List (List Nat), DatVs K H (ks.map fun k => V.str (S k)) (ks.map fun k => PyData.str (S k))
  | [] => .nil
  | k :: r => .cons (.str _) (tx_dat r)
theorem tx_lay : ∀ {ks : List (List Nat)}, (∀ k ∈ ks, low k) → PyData.canLayAll0 (ks.map fun k => PyData.str (S k)) = true
  | [], _ => by simp only [List.map_nil, PyData.canLayAll0]
  | k :: r, h => by
    rw [List.map_cons]
    simp only [PyData.canLayAll0, PyData.canLay0, strOkL (h k List.mem_cons_self), tx_lay fun x hx => h x (List.mem_cons_of_mem _ hx), Bool.and_self]
theorem tx_deep : ∀ ks : List (List Nat), PyData.depthAll (ks.map fun k => PyData.str (S k)) ≤ 2
  | [] => by simp only [List.map_nil, PyData.depthAll]; omega
  | k :: r => by
    have ih := tx_deep r
    rw [List.map_cons]
    simp only [PyData.depthAll, PyData.depth]
    omega
theorem eqS_iff {l m : List Nat} : decide ((S l : Str) = S m) = (l == m) := by
  by_cases h : l = m
  · rw [h, decide_eq_true rfl]; simp
  · rw [decide_eq_false fun z => h (S_inj z)]
    exact (Bool.eq_false_iff.mpr fun z => h (beq_iff_eq.mp z)).symm
theorem tx_eqv : ∀ (ks ms : List (List Nat)), PyData.eqvAll (ks.map fun k => PyData.str (S k)) (ms.map fun k => PyData.str (S k)) = (ks == ms)
  | [], [] => by simp [PyData.eqvAll]
  | [], m :: r => by simp [PyData.eqvAll]
  | k :: r, [] => by simp [PyData.eqvAll]
  | k :: r, m :: r' => by
    have h : PyData.eqv (.str (S k)) (.str (S m)) = (k == m) := by
      rw [← eqS_iff]
      unfold PyData.eqv
      by_cases e : (S k : Str) = S m
      · simp [e]
      · simp [e]
    rw [List.map_cons, List.map_cons, PyData.eqvAll, h, tx_eqv r r']
    rfl
end Rg

set_option Elab.async false
set_option linter.all false
set_option maxRecDepth 100000
set_option maxHeartbeats 4000000






--@RAISES but law
namespace K22
open PySem PySem.Spec PyProof.Rows L2 Rg
def top (i : Nat) : Stmt := PySem.Challenge.pw_regrowth_k22_no_rules.main.body.getD i (.Pass ⟨0, 0, 0, 0⟩)
section
variable {P : Program} {w : World} {K : PySem.W.Frag} {mg : Str → Option Value} {base : Heap} {C tS tN : Addr}
structure Rl where
  sort : List Nat
  rank : Int
  side : Str
  ps : List (List Nat)
def Rl.dat (q : Rl) : PyData := .tuple [.str (S q.sort), .int q.rank, .str q.side, .tuple (q.ps.map fun l => .str (S l))]
theorem dat_strs_inv {H : Hp} : ∀ {xs : List V} (ls : List (List Nat)), DatVs K H xs (ls.map fun l => PyData.str (S l)) → xs = ls.map fun l => V.str (S l)
  | _, [], h => by cases h; rfl
  | _, l :: r, h => by
    cases h with
    | cons h1 ht => cases h1; rw [dat_strs_inv r ht]; rfl
theorem dat_rl {H : Hp} {x : V} {q : Rl} (h : DatV K H x q.dat) : ∃ t tp, x = .ref t ∧ SqT K H t [.str (S q.sort), .int q.rank, .str q.side, .ref tp] ∧ SqT K H tp (q.ps.map fun l => V.str (S l)) := by
  unfold Rl.dat at h
  cases h with
  | tuple hS hd =>
    cases hd with
    | cons h1 hd => cases h1; cases hd with
      | cons h2 hd => cases h2; cases hd with
        | cons h3 hd => cases h3; cases hd with
          | cons h4 hd => cases hd; cases h4 with
            | tuple hS2 hd2 =>
              rw [dat_strs_inv _ hd2] at hS2
              exact ⟨_, _, rfl, hS, hS2⟩
structure TxR (mg : Str → Option Value) : Prop where
  n_set : mg "set" = none
  n_sorted : mg "sorted" = none
theorem sqT_upd {H : Hp} {b : Addr} {o : HO} (hb : ∃ l, H b = some (.lst l)) {a : Addr} {xs : List V} (h : SqT K H a xs) : SqT K (upd H b o) a xs := by
  have ne : ∀ {u : HO}, H a = some u → (∀ l, u ≠ .lst l) → a ≠ b := fun {u} e n z => by
    obtain ⟨l, e2⟩ := hb
    rw [z, e2] at e
    exact n l (Option.some.inj e).symm
  rcases h with (h | ⟨o', h⟩) | h
  · exact .inl (.inl (by rw [upd_ne (ne h fun l z => nomatch z)]; exact h))
  · exact .inl (.inr ⟨o', by rw [upd_ne (ne h fun l z => nomatch z)]; exact h⟩)
  · exact .inr h
theorem rl_upd {H : Hp} {b : Addr} {o : HO} (hb : ∃ l, H b = some (.lst l)) {x : V} {q : Rl} (h : DatV K H x q.dat) : DatV K (upd H b o) x q.dat := by
  obtain ⟨t, tp, rfl, h1, h2⟩ := dat_rl h
  exact .tuple (sqT_upd hb h1) (.cons (.str _) (.cons (.int _) (.cons (.str _) (.cons (.tuple (sqT_upd hb h2) (tx_dat q.ps)) .nil))))
theorem rls_upd {H : Hp} {b : Addr} {o : HO} (hb : ∃ l, H b = some (.lst l)) : ∀ {xs : List V} {rs : List Rl}, DatVs K H xs (rs.map Rl.dat) → DatVs K (upd H b o) xs (rs.map Rl.dat)
  | _, [], h => by cases h; exact .nil
  | _, q :: r, h => by
    cases h with
    | cons h1 ht => exact .cons (rl_upd hb h1) (rls_upd hb ht)
structure TxN (K : PySem.W.Frag) (mg : Str → Option Value) (tS tN C : Addr) : Prop where
  n_len : mg "len" = none
  n_any : mg "any" = none
  g_MOST_RULES : ∃ t, mg "MOST_RULES" = some (.int 24 t)
  g_MOST_RANK : ∃ t, mg "MOST_RANK" = some (.int 99 t)
  g_MOST_PARTS : ∃ t, mg "MOST_PARTS" = some (.int 8 t)
  g_SIDES : mg "SIDES" = some (.ref tS)
  g_NO_NAMES : mg "NO_NAMES" = some (.ref tN)
  k_SIDES : ∀ H, SqT K H tS [.str "left", .str "right", .str "none"]
  k_NO : ∀ H, SqT K H tN [.str "", .str "end", .str "stray"]
  c_NoRule : mg "NoRule" = some (.ref C)
  x_NoRule : PySem.W.excIn K C bmVE "ValueError.__new__" = true
def sideB (x : Str) : Bool := inV (.str x) [.str "left", .str "right", .str "none"]
def noB (l : List Nat) : Bool := inV (.str (S l)) [.str "", .str "end", .str "stray"]
def okB (q : Rl) : Bool := decide (0 ≤ q.rank) && decide (q.rank ≤ 99) && sideB q.side && decide (1 ≤ q.ps.length) && decide (q.ps.length ≤ 8) && !(noB q.sort || q.ps.any noB) && !(q.ps == [q.sort])
structure Fine (q : Rl) : Prop where
  rk : q.rank.natAbs.log2 < 1920
  ls : low q.sort
  zs : q.sort.length ≤ 100
  sd : PyData.strOk q.side = true
  zd : q.side.length ≤ 100
  lp : ∀ k ∈ q.ps, low k ∧ k.length ≤ 100
  zp : q.ps.length ≤ 100
theorem lowc {l : List Nat} (h : low l) : ∀ c ∈ (S l).cps.toList, c < 16 ^ 8 := fun c hc => by
  have := h c (by simpa using hc)
  omega
theorem sidec {x : Str} (h : PyData.strOk x = true) : ∀ c ∈ x.cps.toList, c < 16 ^ 8 := fun c hc => by
  unfold PyData.strOk at h
  rw [Array.all_eq_true_iff_forall_mem] at h
  have := of_decide_eq_true (h c (by simpa using hc))
  omega
theorem shown_txt : ∀ (ks : List (List Nat)), PyData.shownAll (ks.map fun k => PyData.str (S k)) = ks.map fun k => reprText (S k)
  | [] => by simp [PyData.shownAll]
  | k :: r => by rw [List.map_cons, PyData.shownAll, shown_txt r, PyData.shown]; rfl
theorem show_txt : ∀ (ks : List (List Nat)), PyData.showableAll (ks.map fun k => PyData.str (S k)) = true
  | [] => by simp [PyData.showableAll]
  | k :: r => by rw [List.map_cons, PyData.showableAll, show_txt r, PyData.showable]; rfl
theorem nodict_txt : ∀ (ks : List (List Nat)), PyData.hasDictAll (ks.map fun k => PyData.str (S k)) = false
  | [] => by simp [PyData.hasDictAll]
  | k :: r => by rw [List.map_cons, PyData.hasDictAll, nodict_txt r, PyData.hasDict]; rfl
theorem parts_shown {q : Rl} (f : Fine q) : (PyData.tuple (q.ps.map fun k => PyData.str (S k))).shown.length ≤ 1100000 := by
  rw [PyData.shown, shown_txt]
  refine Nat.le_trans (tupT_le (B := 1002) fun t ht => ?_) ?_
  · obtain ⟨k, hk, rfl⟩ := List.mem_map.mp ht
    obtain ⟨h1, h2⟩ := f.lp k hk
    have h3 := StrLaws.reprText_len (S k) (lowc h1)
    have h4 : (S k).length = k.length := S_len k
    exact Nat.le_trans h3 (by omega)
  · rw [List.length_map]
    have := f.zp
    omega
def spCk (K : PySem.W.Frag) (C : Addr) : Sp := fun vs H Q E => ∃ (q : Rl) (tp : Addr), vs = [.str (S q.sort), .int q.rank, .str q.side, .ref tp] ∧ SqT K H tp (q.ps.map fun l => V.str (S l)) ∧ Fine q ∧
  (okB q = true → ∀ H', Same H H' → Q .non H') ∧ (okB q = false → ∀ H', Same H H' → E (.ref C) none H')
theorem okB_iff (q : Rl) : okB q = true ↔ 0 ≤ q.rank ∧ q.rank ≤ 99 ∧ sideB q.side = true ∧ 1 ≤ q.ps.length ∧ q.ps.length ≤ 8 ∧ noB q.sort = false ∧ q.ps.any noB = false ∧ q.ps ≠ [q.sort] := by
  unfold okB
  simp only [Bool.and_eq_true, decide_eq_true_eq, Bool.not_eq_true', Bool.or_eq_false_iff, beq_eq_false_iff_ne, ne_eq, and_assoc]
theorem bls_map {α : Type} (g : α → Bool) (l : List α) : (l.map g).any id = l.any g := by induction l with
  | nil => rfl
  | cons x r ih => rw [List.map_cons, List.any_cons, List.any_cons, ih]; rfl
abbrev st_check_rule : Stmt := top 20
theorem sc_check_rule : FnScope ["sort", "rank", "side", "parts"] ["sort", "rank", "side", "parts"] (defScope st_check_rule) := ⟨rfl, rfl, rfl, by decide +kernel, rfl, by decide +kernel, by decide +kernel⟩
theorem def_ck (R : Raw K mg "check_rule" st_check_rule ["sort", "rank", "side", "parts"]) (T : TxN K mg tS tN C) : DefX P w K mg base 1 "check_rule" ["sort", "rank", "side", "parts"] (spCk K C) := by
  refine R.defX sc_check_rule (fun vs H Q E h => ?_) (fun f cdv A outer s H vs Q E hr h => ?_)
  · obtain ⟨q, tp, rfl, _⟩ := h
    rfl
  · obtain ⟨q, tp, rfl, hT, fn, qO, qX⟩ := h
    have sc := sc_check_rule
    have hu := hr.units
    have hb : (1000000 : Nat) < sizeLine := by rw [sizeLine_eq]; decide
    have zp := fn.zp
    have pl := fun (x : Bool) => x
    have rkT : q.rank.natAbs.log2 < 1920 ∧ (Str.ofString (toString q.rank)).length ≤ 1100000 := ⟨fn.rk, Nat.le_trans (int_text_len_1921 fn.rk) (by decide)⟩
    have dT : DatV K H (.ref tp) (.tuple (q.ps.map fun k => PyData.str (S k))) := .tuple hT (tx_dat q.ps)
    have dp := tx_deep q.ps
    have rp : ∀ H1, Same H H1 → ∃ a d, V.ref tp = V.ref a ∧ DatV K H1 (.ref tp) d ∧ d.showable = true ∧ d.hasDict = false ∧ d.depth ≤ 60 ∧ d.shown.length ≤ 1100000 := fun H1 s1 =>
      ⟨tp, _, rfl, dT.same s1, by rw [PyData.showable]; exact show_txt _, by rw [PyData.hasDict]; exact nodict_txt _, by simp only [PyData.depth]; omega, parts_shown fn⟩
    have rs : ∃ x, V.str (S q.sort) = V.str x ∧ x.length ≤ 100000 ∧ ∀ c ∈ x.cps.toList, c < 16 ^ 8 := ⟨_, rfl, by rw [S_len]; have := fn.zs; omega, lowc fn.ls⟩
    have bad : okB q = false → ∀ H1, Same H H1 → (1 ≤ sizeLine ∧ E (.ref C) none H1) := fun z H1 s1 => ⟨by omega, qX z H1 s1⟩
    refine ⟨_, (jss_cons (js_if (jt_not (jt_chain o_le o_le j_int (jn 1) (j_gint rfl T.g_MOST_RANK)))
    (jss_one (js_raise rfl T.c_NoRule T.x_NoRule (ja_cons (j_fs (jfs_cons jf_str (jfs_cons (jf_plain (j_gint rfl T.g_MOST_RANK)) (jfs_cons jf_str (jfs_cons (jf_plain (jn 1)) jfs_nil))))) ja_nil)))
    jss_nil)
    (jss_cons (js_if (jt_cmp (o_notinA hu (K := K)) (jn 2) (j_glob (v := .ref _) rfl T.g_SIDES rfl))
    (jss_one (js_raise rfl T.c_NoRule T.x_NoRule (ja_cons (j_fs (jfs_cons jf_str (jfs_cons (jf_repr (jn 2)) jfs_nil))) ja_nil)))
    jss_nil)
    (jss_cons (js_if (jt_not (jt_chain o_le o_le j_int (j_callB (c_len (K := K)) rfl T.n_len PySem.boot_len (ja_cons (jn 3) ja_nil)) (j_gint rfl T.g_MOST_PARTS)))
    (jss_one (js_raise rfl T.c_NoRule T.x_NoRule (ja_cons (j_fs (jfs_cons jf_str (jfs_cons (jf_plain (j_gint rfl T.g_MOST_PARTS)) (jfs_cons jf_str (jfs_cons (jf_reprD (K := K) hr.gd hu (jn 3)) jfs_nil))))) ja_nil)))
    jss_nil)
    (jss_cons (js_if (jw_t (jw_or (jt_cmp (o_inA hu (K := K)) (jn 0) (j_glob (v := .ref _) rfl T.g_NO_NAMES rfl)) (jw_or1 (jt_val (j_callB (c_any rfl (K := K)) rfl T.n_any boot_any (ja_cons (j_comp (N := ["part"]) (cap := [none]) rfl (CompScope.of rfl (by rfl)) (ji_any (K := K) (jn 3)) (fun _ _ _ _ => (jg_name (i := 0) (show List.Nodup [("part" : Str)] by decide +kernel) rfl (Or.inl rfl))) (fun _ _ _ _ => jts_nil) (fun _ _ _ _ => (j_cmp (o_inA hu (K := K)) (jn 0) (j_glob (v := .ref _) rfl T.g_NO_NAMES rfl)))) ja_nil))))))
    (jss_one (js_raise rfl T.c_NoRule T.x_NoRule (ja_cons (j_fs (jfs_cons jf_str (jfs_cons (jf_repr (jn 0)) (jfs_cons jf_str (jfs_cons (jf_reprD (K := K) hr.gd hu (jn 3)) jfs_nil))))) ja_nil)))
    jss_nil)
    (jss_one (js_if (jt_cmp (o_eqA hu (K := K)) (jn 3) (j_tup (ja_cons (jn 0) ja_nil)))
    (jss_one (js_raise rfl T.c_NoRule T.x_NoRule (ja_cons (j_fs (jfs_cons jf_str (jfs_cons (jf_repr (jn 0)) jfs_nil))) ja_nil)))
    jss_nil)))))), ?_⟩
    have rk99 : (toString (99 : Int)).length ≤ 1100000 := by decide
    have no1 : ¬ (0 ≤ q.rank ∧ q.rank ≤ 99) → tRaise C E (tCons (tFs (cAnd cTrue (cAnd (cPlain (tC (V.int 99))) (cAnd cTrue (cAnd (cPlain (mVar 1)) cTrue))))) tNil) { nx := fun _ H' => Q .non H', rt := Q } [some (.str (S q.sort)), some (.int q.rank), some (.str q.side), some (.ref tp)] H := fun z =>
      ⟨⟨trivial, ⟨rfl, .inr ⟨99, rfl, by decide, by decide +kernel⟩⟩, trivial, ⟨rfl, .inr ⟨q.rank, rfl, rkT.1, rkT.2⟩⟩, trivial⟩, fun y _ => bad (Bool.eq_false_iff.mpr fun y => z ⟨((okB_iff q).mp y).1, ((okB_iff q).mp y).2.1⟩) H (Same.refl _)⟩
    show if decide ((0 : Int) ≤ q.rank) = true then _ else _
    refine ite2 (fun h0 => ?_) (fun h0 => no1 fun z => h0 (decide_eq_true z.1))
    show if (!decide (q.rank ≤ (99 : Int))) = true then _ else _
    refine ite2 (fun h1 => no1 fun z => ?_) (fun h1 => ?_)
    · rw [decide_eq_true z.2] at h1; cases h1
    refine .inl ⟨_, .inr (T.k_SIDES H), rfl, rfl, ?_⟩
    show if (true ^^ sideB q.side) = true then _ else _
    refine ite2 (fun h2 => ?_) (fun hsd => ?_)
    · refine ⟨⟨trivial, ⟨rfl, ⟨_, rfl, by have := fn.zd; omega, sidec fn.sd⟩⟩, trivial⟩, fun y _ => bad (Bool.eq_false_iff.mpr fun y => ?_) H (Same.refl _)⟩
      rw [((okB_iff q).mp y).2.2.1] at h2; cases h2
    refine ⟨_, .inr hT, ?_⟩
    have no3 : ¬ (1 ≤ q.ps.length ∧ q.ps.length ≤ 8) → tRaise C E (tCons (tFs (cAnd cTrue (cAnd (cPlain (tC (V.int 8))) (cAnd cTrue (cAnd (cReprD K (mVar 3)) cTrue))))) tNil) { nx := fun _ H' => Q .non H', rt := Q } [some (.str (S q.sort)), some (.int q.rank), some (.str q.side), some (.ref tp)] H := fun z =>
      ⟨⟨trivial, ⟨rfl, .inr ⟨8, rfl, by decide, by decide +kernel⟩⟩, trivial, ⟨rfl, rp H (Same.refl _)⟩, trivial⟩, fun y _ => bad (Bool.eq_false_iff.mpr fun y => z ⟨((okB_iff q).mp y).2.2.2.1, ((okB_iff q).mp y).2.2.2.2.1⟩) H (Same.refl _)⟩
    show if decide ((1 : Int) ≤ (((q.ps.map fun l => V.str (S l)).length : Nat) : Int)) = true then _ else _
    rw [List.length_map]
    refine ite2 (fun h3 => ?_) (fun h3 => no3 fun z => h3 (decide_eq_true (by omega)))
    show if (!decide (((q.ps.length : Nat) : Int) ≤ (8 : Int))) = true then _ else _
    refine ite2 (fun h4 => no3 fun z => ?_) (fun h4 => ?_)
    · rw [decide_eq_true (by omega)] at h4; cases h4
    have no5 : ∀ H1, Same H H1 → (noB q.sort = true ∨ q.ps.any noB = true) → tRaise C E (tCons (tFs (cAnd cTrue (cAnd (cRepr (mVar 0)) (cAnd cTrue (cAnd (cReprD K (mVar 3)) cTrue))))) tNil) { nx := fun _ H' => Q .non H', rt := Q } [some (.str (S q.sort)), some (.int q.rank), some (.str q.side), some (.ref tp)] H1 := fun H1 s1 z =>
      ⟨⟨trivial, ⟨rfl, rs⟩, trivial, ⟨rfl, rp H1 s1⟩, trivial⟩, fun y _ => bad (Bool.eq_false_iff.mpr fun y => by
        have y1 := ((okB_iff q).mp y).2.2.2.2.2
        rcases z with z | z
        · rw [y1.1] at z; cases z
        · rw [y1.2.1] at z; cases z) H1 s1⟩
    refine .inl ⟨_, .inr (T.k_NO H), rfl, rfl, ?_⟩
    show if (false ^^ noB q.sort) = true then _ else _
    rw [Bool.false_xor]
    refine ite2 (fun h5 => no5 H (Same.refl _) (.inl h5)) (fun h5 => ?_)
    refine .inr ⟨⟨_, hT⟩, ?_⟩
    refine gath_tup (xs := q.ps.map fun l => V.str (S l)) (fun i ys σ' H' => H' = H ∧ ys = bls ((q.ps.take i).map noB) ∧ ∃ v, σ' = [v]) (by rw [List.length_map]; omega) ⟨rfl, rfl, none, rfl⟩
      (fun i ys σ' H' h => by rw [h.2.1]; simp [bls]; omega) (fun i ys σ' H' h => by rw [h.1]; exact hT) ?_ ?_
    · rintro i x ys σ' H' hi ⟨rfl, rfl, v, rfl⟩
      rw [List.getElem?_map] at hi
      cases ee : q.ps[i]? with
      | none => rw [ee] at hi; cases hi
      | some g =>
        rw [ee] at hi
        have ex : x = V.str (S g) := (Option.some.inj hi).symm
        subst ex
        have et : q.ps.take (i + 1) = q.ps.take i ++ [g] := by rw [List.take_add_one, ee]; rfl
        refine .inl ⟨_, .inr (T.k_NO _), rfl, rfl, rfl, ?_, _, rfl⟩
        rw [et, List.map_append]
        show bls ((q.ps.take i).map noB) ++ [V.bl (false ^^ noB g)] = _
        rw [Bool.false_xor]
        unfold bls
        rw [List.map_append]
        rfl
    · rintro ys σ' H' ⟨rfl, rfl, v, rfl⟩ D hD
      rw [List.length_map, List.take_length]
      refine ⟨q.ps.map noB, SqL.of upd_same, ?_⟩
      have s1 : Same H' (upd H' D (.lst (bls (q.ps.map noB)))) := same_new hD
      generalize upd H' D (.lst (bls (q.ps.map noB))) = H1 at s1 ⊢
      rw [bls_map]
      refine ite2 (fun h6 => no5 H1 s1 (.inr h6)) (fun h6 => ?_)
      refine ⟨(show 1 ≤ sizeLine by decide), fun p hp => ?_⟩
      have s2 : Same H1 (upd H1 p (.tup [V.str (S q.sort)])) := same_new hp
      have h2 : SqT K (upd H1 p (.tup [V.str (S q.sort)])) p [V.str (S q.sort)] := SqT.of upd_same
      generalize upd H1 p (.tup [V.str (S q.sort)]) = H2 at s2 h2 ⊢
      have lay1 := tx_lay (ks := q.ps) (fun k hk => (fn.lp k hk).1)
      have lay2 := tx_lay (ks := [q.sort]) (fun k hk => by rw [List.mem_singleton.mp hk]; exact fn.ls)
      refine ⟨.tuple (q.ps.map fun k => PyData.str (S k)), .tuple ([q.sort].map fun k => PyData.str (S k)), .tuple ((s1.trans s2).seqT hT) (tx_dat q.ps), .tuple h2 (tx_dat [q.sort]), by simp only [PyData.canLay0]; exact lay1, by simp only [PyData.canLay0]; exact lay2, by simp only [PyData.depth]; omega, ?_⟩
      show if (false ^^ PyData.eqv _ _) = true then _ else _
      rw [Bool.false_xor, PyData.eqv, tx_eqv]
      refine ite2 (fun h7 => ?_) (fun h7 => ?_)
      · exact ⟨⟨trivial, ⟨rfl, rs⟩, trivial⟩, fun y _ => bad (Bool.eq_false_iff.mpr fun y => ((okB_iff q).mp y).2.2.2.2.2.2.2 (beq_iff_eq.mp h7)) H2 (s1.trans s2)⟩
      · refine qO ((okB_iff q).mpr ⟨of_decide_eq_true h0, ?_, ?_, ?_, ?_, Bool.eq_false_iff.mpr h5, Bool.eq_false_iff.mpr h6, fun z => h7 (beq_iff_eq.mpr z)⟩) H2 (s1.trans s2)
        · by_cases z : q.rank ≤ 99
          · exact z
          · exact absurd (by rw [decide_eq_false z]; rfl) h1
        · cases e : sideB q.side with
          | true => rfl
          | false => exact absurd (by rw [e]; rfl) hsd
        · have := of_decide_eq_true h3; omega
        · by_cases z : ((q.ps.length : Nat) : Int) ≤ 8
          · omega
          · exact absurd (by rw [decide_eq_false z]; rfl) h4
def rulesB (rs : List Rl) : Bool := decide (1 ≤ rs.length) && decide (rs.length ≤ 24) && rs.all okB
def spCks (K : PySem.W.Frag) (C : Addr) : Sp := fun vs H Q E => ∃ (a : Addr) (rl : List V) (rs : List Rl), vs = [.ref a] ∧ SqL K H a rl ∧ DatVs K H rl (rs.map Rl.dat) ∧ rs.length ≤ 60 ∧ (∀ q ∈ rs, Fine q) ∧
  (rulesB rs = true → ∀ H', Same H H' → Q .non H') ∧ (rulesB rs = false → ∀ H', Same H H' → E (.ref C) none H')
theorem rulesB_iff (rs : List Rl) : rulesB rs = true ↔ 1 ≤ rs.length ∧ rs.length ≤ 24 ∧ ∀ q ∈ rs, okB q = true := by
  unfold rulesB
  simp only [Bool.and_eq_true, decide_eq_true_eq, List.all_eq_true, and_assoc]
theorem small33 : ∀ k : Fin 61, ((k.val : Int)).natAbs.log2 < 1920 ∧ (Str.ofString (toString (k.val : Int))).length ≤ 1100000 := by decide +kernel
abbrev st_check_rules : Stmt := top 19
theorem sc_check_rules : FnScope ["rules", "many", "sort", "rank", "side", "parts"] ["rules"] (defScope st_check_rules) := ⟨rfl, rfl, rfl, by decide +kernel, rfl, by decide +kernel, by decide +kernel⟩
theorem def_cks (R : Raw K mg "check_rules" st_check_rules ["rules"]) (T : TxN K mg tS tN C) (D_check_rule : DefX P w K mg base 1 "check_rule" ["sort", "rank", "side", "parts"] (spCk K C)) : DefX P w K mg base 2 "check_rules" ["rules"] (spCks K C) := by
  refine R.defX sc_check_rules (fun vs H Q E h => ?_) (fun f cdv A outer s H vs Q E hr h => ?_)
  · obtain ⟨a, rl, rs, rfl, _⟩ := h
    rfl
  · obtain ⟨a, rl, rs, rfl, hS, hD, hl, fn, qO, qX⟩ := h
    have sc := sc_check_rules
    have hu := hr.units
    have hb : (1000000 : Nat) < sizeLine := by rw [sizeLine_eq]; decide
    have hrl : rl.length = rs.length := by have := hD.length; rw [List.length_map] at this; exact this
    have sm := small33 ⟨rs.length, by omega⟩
    refine ⟨_, (jss_cons (js_set (i := 1) sc.nd rfl (Or.inl rfl) (j_callB (c_len (K := K)) rfl T.n_len PySem.boot_len (ja_cons (jn 0) ja_nil)))
    (jss_cons (js_if (jt_not (jt_chain o_le o_le j_int (jn 1) (j_gint rfl T.g_MOST_RULES)))
    (jss_one (js_raise rfl T.c_NoRule T.x_NoRule (ja_cons (j_fs (jfs_cons jf_str (jfs_cons (jf_plain (j_gint rfl T.g_MOST_RULES)) (jfs_cons jf_str (jfs_cons (jf_plain (jn 1)) jfs_nil))))) ja_nil)))
    jss_nil)
    (jss_one (js_for passes_loop rfl (ji_any (K := K) (jn 0)) (jg_tup (K := K) (n := 4) rfl (jgs_cons (jg_name (i := 2) sc.nd rfl (Or.inl rfl)) (jgs_cons (jg_name (i := 3) sc.nd rfl (Or.inl rfl)) (jgs_cons (jg_name (i := 4) sc.nd rfl (Or.inl rfl)) (jgs_cons (jg_name (i := 5) sc.nd rfl (Or.inl rfl)) jgs_nil)))))
    (jss_one (js_expr (j_defX D_check_rule (hr.mono (by decide)) rfl (ja_cons (jn 2) (ja_cons (jn 3) (ja_cons (jn 4) (ja_cons (jn 5) ja_nil)))) pass1))))))), ?_⟩
    refine ⟨_, .inl hS, ?_⟩
    have no1 : ¬ (1 ≤ rs.length ∧ rs.length ≤ 24) → tRaise C E (tCons (tFs (cAnd cTrue (cAnd (cPlain (tC (V.int 24))) (cAnd cTrue (cAnd (cPlain (mVar 1)) cTrue))))) tNil) { nx := fun _ H' => Q .non H', rt := Q } [some (.ref a), some (.int (rl.length : Nat)), none, none, none, none] H := fun z =>
      ⟨⟨trivial, ⟨rfl, .inr ⟨24, rfl, by decide, by decide +kernel⟩⟩, trivial, ⟨rfl, .inr ⟨(rl.length : Nat), rfl, by rw [hrl]; exact sm.1, by rw [hrl]; exact sm.2⟩⟩, trivial⟩, fun y _ => ⟨(show 1 ≤ sizeLine by decide), qX (Bool.eq_false_iff.mpr fun y => z ⟨((rulesB_iff rs).mp y).1, ((rulesB_iff rs).mp y).2.1⟩) H (Same.refl _)⟩⟩
    show if decide ((1 : Int) ≤ ((rl.length : Nat) : Int)) = true then _ else _
    refine ite2 (fun h0 => ?_) (fun h0 => no1 fun z => h0 (decide_eq_true (by omega)))
    show if (!decide (((rl.length : Nat) : Int) ≤ (24 : Int))) = true then _ else _
    refine ite2 (fun h1 => no1 fun z => ?_) (fun h1 => ?_)
    · rw [decide_eq_true (by omega)] at h1; cases h1
    have h1' : rs.length ≤ 24 := by
      by_cases z : ((rl.length : Nat) : Int) ≤ 24
      · omega
      · exact absurd (by rw [decide_eq_false z]; rfl) h1
    have h0' : 1 ≤ rs.length := by have := of_decide_eq_true h0; omega
    refine .inl ⟨⟨_, hS⟩, for_list (K := K) (a := a) (xs := rl) (fun i σ H' => Same H H' ∧ (∀ q ∈ rs.take i, okB q = true) ∧ ∃ v2 v3 v4 v5 : Option V, σ = [some (.ref a), some (.int (rl.length : Nat)), v2, v3, v4, v5]) ⟨Same.refl _, (fun q hq => by simp at hq), none, none, none, none, rfl⟩ (fun i σ H' _ h => h.1.seq hS) ?_ ?_⟩
    · rintro i x σ H' hi ⟨s1, hok, v2, v3, v4, v5, rfl⟩
      obtain ⟨dd, hdd, hx⟩ := hD.get hi
      rw [List.getElem?_map] at hdd
      cases ee : rs[i]? with
      | none => rw [ee] at hdd; cases hdd
      | some g =>
        rw [ee] at hdd
        have ed : dd = g.dat := (Option.some.inj hdd).symm
        subst ed
        obtain ⟨t, tp, rfl, hT, hTp⟩ := dat_rl hx
        have et : rs.take (i + 1) = rs.take i ++ [g] := by rw [List.take_add_one, ee]; rfl
        have hg := List.mem_of_getElem? ee
        refine ⟨t, _, rfl, s1.seqT hT, rfl, _, _, rfl, _, _, rfl, _, _, rfl, _, _, rfl, rfl, ?_⟩
        refine ⟨g, tp, rfl, s1.seqT hTp, fn g hg, fun e H2 s2 => ?_, fun e H2 s2 => ?_⟩
        · refine ⟨s1.trans s2, fun q hq => ?_, _, _, _, _, rfl⟩
          rw [et] at hq
          rcases List.mem_append.mp hq with z | z
          · exact hok q z
          · rw [List.mem_singleton.mp z]; exact e
        · refine qX (Bool.eq_false_iff.mpr fun y => ?_) H2 (s1.trans s2)
          rw [((rulesB_iff rs).mp y).2.2 g hg] at e; cases e
    · rintro σ H' ⟨s1, hok, v2, v3, v4, v5, rfl⟩
      rw [hrl, List.take_length] at hok
      exact qO ((rulesB_iff rs).mpr ⟨h0', h1', hok⟩) H' s1
end
end K22

set_option Elab.async false
set_option linter.all false
set_option maxRecDepth 100000
set_option maxHeartbeats 4000000





--@RAISES but law
namespace K22
open PySem PySem.Spec PyProof.Rows L2 Rg
structure Txt (K : PySem.W.Frag) (w : World) (mg : Str → Option Value) : Prop where
  n_len : mg "len" = none
  n_list : mg "list" = none
  n_int : mg "int" = none
  n_range : mg "range" = none
  n_tuple : mg "tuple" = none
  n_any : mg "any" = none
section
variable {P : Program} {w : World} {K : PySem.W.Frag} {mg : Str → Option Value} {base : Heap} {C : Addr}
def spCell (K : PySem.W.Frag) : Sp := fun vs H Q _ => ∃ (a : Addr) (ns : List Int) (k : Nat), vs = [.ref a, .int k] ∧ SqL K H a (ns.map V.int) ∧ Q (.int (ns.getD k 0)) H
abbrev st__law_cell_at : Stmt := top 34
theorem sc__law_cell_at : FnScope ["_law_script", "_law_k"] ["_law_script", "_law_k"] (defScope st__law_cell_at) := ⟨rfl, rfl, rfl, by decide +kernel, rfl, by decide +kernel, by decide +kernel⟩
theorem def_cell (R : Raw K mg "_law_cell_at" st__law_cell_at ["_law_script", "_law_k"]) (T : Txt K w mg) : Def P w K mg base 1 "_law_cell_at" ["_law_script", "_law_k"] (spCell K) := by
  refine R.defJ sc__law_cell_at (fun vs H Q E h => ?_) (fun f cdv A outer s H vs Q E hr h => ?_)
  · obtain ⟨a, ns, k, rfl, _⟩ := h
    rfl
  · obtain ⟨a, ns, k, rfl, hS, q⟩ := h
    have sc := sc__law_cell_at
    have hu := hr.units
    refine ⟨_, (jss_cons (js_if (jt_cmp o_lt (jn 1) (j_callB (c_len (K := K)) rfl T.n_len PySem.boot_len (ja_cons (jn 0) ja_nil)))
    (jss_one (js_ret (j_ix (o_ix hu (K := K) (w := w)) (jn 0) (jn 1))))
    jss_nil)
    (jss_one (js_ret j_int))), ?_⟩
    refine ⟨_, .inl hS, ?_⟩
    rw [List.length_map]
    show if decide ((k : Int) < (ns.length : Int)) = true then _ else _
    refine ite2 (fun h => ?_) (fun h => ?_)
    · have hk : k < ns.length := by
        have := of_decide_eq_true h
        omega
      refine .inl ⟨_, .int (ns.getD k 0), hS, atI_nat ?_, q⟩
      rw [List.getElem?_map, List.getElem?_eq_getElem hk]
      simp [List.getD, hk]
    · have hk : ¬ k < ns.length := fun z => h (decide_eq_true (by omega))
      have e : ns.getD k 0 = 0 := by simp [List.getD, List.getElem?_eq_none (by omega : ns.length ≤ k)]
      rw [e] at q
      exact q
abbrev lettersL : List Nat := ("abcdefghijklmnopqrstuvwxyz" : Str).cps.toList
def ltF (x : Int) : Nat := lettersL.getD (x % 26).toNat 0
theorem lettersL_len : lettersL.length = 26 := by decide +kernel
theorem lt_at (x : Int) : atI lettersL (x % 26) = some (ltF x) := by
  have h1 : (x % 26).toNat < lettersL.length := by rw [lettersL_len]; omega
  have e : (((x % 26).toNat : Nat) : Int) = x % 26 := by omega
  have key := atI_nat (xs := lettersL) (List.getElem?_eq_getElem h1)
  rw [e] at key
  rw [key]
  unfold ltF
  rw [List.getD, List.getElem?_eq_getElem h1]
  rfl
theorem let_inj : ∀ i, i < 26 → ∀ j, j < 26 → lettersL.getD i 0 = lettersL.getD j 0 → i = j := by decide +kernel
theorem lt_inj {x y : Int} (h : ltF x = ltF y) : x % 26 = y % 26 := by
  have := let_inj (x % 26).toNat (by omega) (y % 26).toNat (by omega) h
  omega
def nmSz (c : Int) : Nat := (1 + c % 12).toNat
def nmAt (c : Int) : Nat := (c / 12 % (1 + c % 12)).toNat
theorem nm_sz (c : Int) : ((nmSz c : Nat) : Int) = 1 + c % 12 ∧ 1 ≤ nmSz c ∧ nmSz c ≤ 12 := by unfold nmSz; omega
theorem nm_at (c : Int) : ((nmAt c : Nat) : Int) = c / 12 % (1 + c % 12) ∧ nmAt c < nmSz c := by
  have h0 := Int.emod_nonneg (c / 12) (show 1 + c % 12 ≠ 0 by omega)
  have h1 := Int.emod_lt_of_pos (c / 12) (show 0 < 1 + c % 12 by omega)
  unfold nmAt nmSz
  omega
def nmC (c : Int) (k j : Nat) : Nat := ltF (c / 144 + ((j : Int) * (j : Int) + (k : Int) * (if j = nmAt c then 1 else 0)))
def nameL (c : Int) (k : Nat) : List Nat := (List.range (nmSz c)).map (nmC c k)
theorem nameL_len (c : Int) (k : Nat) : (nameL c k).length = nmSz c := by unfold nameL; simp
theorem nameL_inj {c : Int} {k k' : Nat} (hk : k < 26) (hk' : k' < 26) (h : nameL c k = nameL c k') : k = k' := by
  have h1 := congrArg (fun l => l[nmAt c]?) h
  unfold nameL at h1
  have hlt := (nm_at c).2
  simp [hlt] at h1
  unfold nmC at h1
  simp only [if_pos] at h1
  have := lt_inj h1
  omega
theorem nameL_low (c : Int) (k : Nat) : low (nameL c k) := fun x hx => by
  unfold nameL at hx
  obtain ⟨j, _, rfl⟩ := List.mem_map.mp hx
  unfold nmC ltF
  have h2 : lettersL.all (fun c => decide (c < 128)) = true := by decide +kernel
  rw [List.getD]
  cases e : lettersL[((c / 144 + ((j : Int) * (j : Int) + (k : Int) * (if j = nmAt c then 1 else 0))) % 26).toNat]? with
  | none => decide
  | some y =>
    have := of_decide_eq_true (List.all_eq_true.mp h2 y (List.mem_of_getElem? e))
    show y < 0x110000
    omega
theorem ltF_val (x : Int) : ltF x = 97 + (x % 26).toNat := by
  have h : ∀ i, i < 26 → lettersL.getD i 0 = 97 + i := by decide +kernel
  exact h _ (by omega)
theorem nmC_val (c : Int) (k j : Nat) : nmC c k j = 97 + ((c / 144 + ((j : Int) * (j : Int) + (if j = nmAt c then (k : Int) else 0))) % 26).toNat := by
  unfold nmC
  rw [ltF_val]
  by_cases h : j = nmAt c
  · rw [if_pos h, if_pos h, Int.mul_one]
  · rw [if_neg h, if_neg h, Int.mul_zero]
theorem nameL_at {c : Int} {k : Nat} {l : List Nat} (h : nameL c k = l) (j : Nat) (hj : j < l.length) : l[j]? = some (nmC c k j) := by
  have e : l.length = nmSz c := by rw [← h]; exact nameL_len c k
  rw [← h]
  unfold nameL
  rw [List.getElem?_map, List.getElem?_range (by omega)]
  rfl
theorem name_end (c : Int) (k : Nat) (hk : k < 26) : nameL c k ≠ [101, 110, 100] := fun h => by
  have h0 := Option.some.inj (nameL_at h 0 (by decide))
  have h1 := Option.some.inj (nameL_at h 1 (by decide))
  have h2 := Option.some.inj (nameL_at h 2 (by decide))
  rw [nmC_val] at h0 h1 h2
  generalize c / 144 = b at h0 h1 h2
  generalize nmAt c = a at h0 h1 h2
  split at h0 <;> split at h1 <;> split at h2 <;> omega
theorem name_stray (c : Int) (k : Nat) (hk : k < 26) : nameL c k ≠ [115, 116, 114, 97, 121] := fun h => by
  have h0 := Option.some.inj (nameL_at h 0 (by decide))
  have h1 := Option.some.inj (nameL_at h 1 (by decide))
  have h2 := Option.some.inj (nameL_at h 2 (by decide))
  have h3 := Option.some.inj (nameL_at h 3 (by decide))
  rw [nmC_val] at h0 h1 h2 h3
  generalize c / 144 = b at h0 h1 h2 h3
  generalize nmAt c = a at h0 h1 h2 h3
  split at h0 <;> split at h1 <;> split at h2 <;> split at h3 <;> omega
theorem name_nil (c : Int) (k : Nat) : nameL c k ≠ [] := fun h => by
  have e := nameL_len c k
  rw [h] at e
  have := (nm_sz c).2
  simp at e
  omega
def spNames (K : PySem.W.Frag) : Sp := fun vs H Q _ => ∃ (c : Int) (m : Nat), vs = [.int c, .int (m : Nat)] ∧ m ≤ 20 ∧ ∀ (H' : Hp) (p : Addr), Same H H' → H p = none → H' p = some (.lst ((List.range m).map fun k => V.str (S (nameL c k)))) → Q (.ref p) H'
abbrev st__law_names : Stmt := top 35
theorem sc__law_names : FnScope ["_law_cell", "_law_many", "_law_letters", "_law_size", "_law_at", "_law_names_here", "_law_k", "_law_name", "_law_j", "_law_step"] ["_law_cell", "_law_many"] (defScope st__law_names) := ⟨rfl, rfl, rfl, by decide +kernel, rfl, by decide +kernel, by decide +kernel⟩
theorem def_names (R : Raw K mg "_law_names" st__law_names ["_law_cell", "_law_many"]) (T : Txt K w mg) : Def P w K mg base 1 "_law_names" ["_law_cell", "_law_many"] (spNames K) := by
  refine R.defJ sc__law_names (fun vs H Q E h => ?_) (fun f cdv A outer s H vs Q E hr h => ?_)
  · obtain ⟨c, m, rfl, _⟩ := h
    rfl
  · obtain ⟨c, m, rfl, hm, q⟩ := h
    have sc := sc__law_names
    have hu := hr.units
    have hb : (1000000 : Nat) < sizeLine := by rw [sizeLine_eq]; decide
    refine ⟨_, (jss_cons (js_set (i := 2) sc.nd rfl (Or.inl rfl) j_str)
    (jss_cons (js_set (i := 3) sc.nd rfl (Or.inl rfl) (j_op (o_add (K := K)) j_int (j_op o_mod (jn 0) j_int)))
    (jss_cons (js_set (i := 4) sc.nd rfl (Or.inl rfl) (j_op o_mod (j_op o_div (jn 0) j_int) (jn 3)))
    (jss_cons (js_set (i := 5) sc.nd rfl (Or.inl rfl) (j_lst ja_nil))
    (jss_cons (js_for PassesOwn.never rfl (ji_rng1 rfl T.n_range (ja_cons (jn 1) ja_nil)) (jg_name (i := 6) sc.nd rfl (Or.inl rfl))
    (jss_cons (js_set (i := 7) sc.nd rfl (Or.inl rfl) j_str)
    (jss_cons (js_for PassesOwn.never rfl (ji_rng1 rfl T.n_range (ja_cons (jn 3) ja_nil)) (jg_name (i := 8) sc.nd rfl (Or.inl rfl))
    (jss_cons (js_set (i := 9) sc.nd rfl (Or.inl rfl) (j_op (o_add (K := K)) (j_op o_mul (jn 8) (jn 8)) (j_op o_mul (jn 6) (j_callTy c_int rfl T.n_int boot_int (ja_cons (j_cmp (o_eqA hu (K := K)) (jn 8) (jn 4)) ja_nil)))))
    (jss_one (js_set (i := 7) sc.nd rfl (Or.inl rfl) (j_op (o_add (K := K)) (jn 7) (j_ix (o_ix hu (K := K) (w := w)) (jn 2) (j_op o_mod (j_op (o_add (K := K)) (j_op o_div (jn 0) j_int) (jn 9)) j_int)))))))
    (jss_one (js_expr (j_bm (K := K) PySem.F.plainAttrs_list PySem.F.slot_list_append PySem.F.type_list_append m_append (jn 5) (ja_cons (jn 7) ja_nil)))))))
    (jss_one (js_ret (jn 5)))))))), ?_⟩
    refine ⟨by decide, ⟨by decide, by decide⟩, show (0 : Int) < 1 + c % 12 by omega, ?_⟩
    rw [← (nm_at c).1]
    refine ⟨(show 0 ≤ sizeLine by decide), fun p hp => ?_⟩
    have s1 : Same H (upd H p (.lst [])) := same_new hp
    have h1 : upd H p (.lst []) p = some (.lst []) := upd_same
    generalize upd H p (.lst []) = H1 at s1 h1 ⊢
    refine ⟨by omega, by omega, ?_⟩
    refine for_range (n := ((m : Nat) : Int).toNat) (fun i σ H' => ∃ (v5 v6 v7 v8 : Option V), Same H H' ∧ H' p = some (.lst ((List.range i).map fun k => V.str (S (nameL c k)))) ∧ σ = [some (.int c), some (.int (m : Nat)), some (.str "abcdefghijklmnopqrstuvwxyz"), some (.int (1 + c % 12)), some (.int (nmAt c : Nat)), some (.ref p), v5, v6, v7, v8]) ⟨none, none, none, none, s1, h1, rfl⟩ ?_ ?_
    · rintro i σ H' hi ⟨v5, v6, v7, v8, s2, hp2, rfl⟩
      have esz := (nm_sz c).1
      have hsz := (nm_sz c).2
      refine ⟨show -(2 ^ 62) ≤ 1 + c % 12 by omega, show 1 + c % 12 < 2 ^ 62 by omega, ?_⟩
      refine for_range (n := (1 + c % 12).toNat) (fun j σ H2 => H2 = H' ∧ ∃ (v7 v8 : Option V), σ = [some (.int c), some (.int (m : Nat)), some (.str "abcdefghijklmnopqrstuvwxyz"), some (.int (1 + c % 12)), some (.int (nmAt c : Nat)), some (.ref p), some (.int (i : Nat)), some (.str (S ((List.range j).map (nmC c i)))), v7, v8])
        ⟨rfl, v7, v8, by simp; rfl⟩ ?_ ?_
      · rintro j σ H2 hj ⟨rfl, v7, v8, rfl⟩
        have hj7 : j < 12 := by omega
        have put : ∀ st : Int, st = (j : Int) * (j : Int) + (i : Int) * (if j = nmAt c then 1 else 0) → ∃ o, atI lettersL ((c / 144 + st) % 26) = some o ∧ S ((List.range j).map (nmC c i)) ++ S [o] = S ((List.range (j + 1)).map (nmC c i)) := fun st e => by
          refine ⟨ltF (c / 144 + st), lt_at _, ?_⟩
          rw [S_app, List.range_succ, List.map_append]
          congr 2
          show [ltF (c / 144 + st)] = [nmC c i j]
          unfold nmC
          rw [e]
        have e0 : (0 : Int) + ((j : Nat) : Int) = (j : Int) := Int.zero_add _
        rw [e0]
        have key := put ((j : Int) * (j : Int) + (i : Int) * (if (false ^^ decide (((j : Nat) : Int) = ((nmAt c : Nat) : Int))) = true then 1 else 0)) (by
          rw [Bool.false_xor]
          by_cases hj : j = nmAt c
          · rw [if_pos hj, if_pos (decide_eq_true (by omega))]
          · rw [if_neg hj, if_neg (fun z => hj (by have := of_decide_eq_true z; omega))])
        obtain ⟨o, eo, es⟩ := key
        refine ⟨.inl ⟨by omega, by omega⟩, .inl ⟨by omega, by omega⟩, ⟨by decide, by decide⟩, by decide, by decide +kernel, o, eo, by rw [S_len, S_len, List.length_map, List.length_range]; simp; omega, ?_⟩
        rw [es]
        exact ⟨rfl, _, _, rfl⟩
      · rintro σ H2 ⟨rfl, v7, v8, rfl⟩
        rw [show (1 + c % 12).toNat = nmSz c from rfl]
        refine ⟨.inl ⟨rfl, _, SqL.of hp2⟩, _, hp2, by rw [List.length_map, List.length_range]; omega, ?_⟩
        refine ⟨_, _, _, _, fun b u e => ?_, ?_, rfl⟩
        · rw [upd_ne fun z => by rw [z, hp] at e; cases e]; exact s2 b u e
        · rw [upd_same, List.range_succ, List.map_append]
          rfl
    · rintro σ H' ⟨v5, v6, v7, v8, s2, hp2, rfl⟩
      exact q H' p s2 hp (by simpa using hp2)
theorem name_no (c : Int) (k : Nat) (hk : k < 26) : noB (nameL c k) = false := by
  have e1 : (S (nameL c k) : Str) ≠ "" := fun z => name_nil c k (S_inj (z.trans (S_of "")))
  have e2 : (S (nameL c k) : Str) ≠ "end" := fun z => name_end c k hk (S_inj (z.trans (S_of "end")))
  have e3 : (S (nameL c k) : Str) ≠ "stray" := fun z => name_stray c k hk (S_inj (z.trans (S_of "stray")))
  unfold noB inV
  simp only [List.any_cons, List.any_nil, Bool.or_eq_false_iff, and_true]
  exact ⟨decide_eq_false (Ne.symm e1), decide_eq_false (Ne.symm e2), decide_eq_false (Ne.symm e3)⟩
def mixF (c k : Int) : Int := (((c % 2147483647 * 48271 + 69621 * k + 11) % 2147483629) * ((c % 2147483647 * 48271 + 69621 * k + 11) % 2147483629) + k) % 2147483587
theorem mix_le (c k : Int) : 0 ≤ mixF c k ∧ mixF c k < 2147483587 := by unfold mixF; omega
def spMix : Sp := fun vs H Q _ => ∃ (c k : Int), vs = [.int c, .int k] ∧ 0 ≤ k ∧ k ≤ 1000 ∧ Q (.int (mixF c k)) H
abbrev st__law_mixed : Stmt := top 36
theorem sc__law_mixed : FnScope ["_law_cell", "_law_k", "_law_number"] ["_law_cell", "_law_k"] (defScope st__law_mixed) := ⟨rfl, rfl, rfl, by decide +kernel, rfl, by decide +kernel, by decide +kernel⟩
theorem def_mix (R : Raw K mg "_law_mixed" st__law_mixed ["_law_cell", "_law_k"]) : Def P w K mg base 1 "_law_mixed" ["_law_cell", "_law_k"] spMix := by
  refine R.defJ sc__law_mixed (fun vs H Q E h => ?_) (fun f cdv A outer s H vs Q E hr h => ?_)
  · obtain ⟨c, k, rfl, _⟩ := h
    rfl
  · obtain ⟨c, k, rfl, h0, h1, q⟩ := h
    have sc := sc__law_mixed
    have hu := hr.units
    refine ⟨_, (jss_cons (js_set (i := 2) sc.nd rfl (Or.inl rfl) (j_op o_mod (j_op (o_add (K := K)) (j_op (o_add (K := K)) (j_op o_mul (j_op o_mod (jn 0) j_int) j_int) (j_op o_mul j_int (jn 1))) j_int) j_int))
    (jss_one (js_ret (j_op o_mod (j_op (o_add (K := K)) (j_op o_mul (jn 2) (jn 2)) (jn 1)) j_int)))), ?_⟩
    refine ⟨by decide, .inl ⟨by omega, by omega⟩, .inl ⟨by decide, by decide⟩, by decide, .inl ⟨by omega, by omega⟩, by decide, q⟩
end
end K22

set_option Elab.async false
set_option linter.all false
set_option maxRecDepth 100000
set_option maxHeartbeats 4000000





--@RAISES but law
namespace K22
open PySem PySem.Spec PyProof.Rows L2 Rg
structure Gd (q : Rl) : Prop where
  ok : okB q = true
  fn : Fine q
theorem nm_fine (c : Int) (k : Nat) : low (nameL c k) ∧ (nameL c k).length ≤ 100 := ⟨nameL_low c k, by rw [nameL_len]; have := (nm_sz c).2; omega⟩
theorem small2 {k : Int} (h0 : 0 ≤ k) (h9 : k ≤ 99) : k.natAbs.log2 < 1920 := by
  by_cases hk : k.natAbs = 0
  · rw [hk]; decide
  · rw [Nat.log2_lt hk]
    have : k.natAbs < 2 ^ 7 := by omega
    exact Nat.lt_of_lt_of_le this (Nat.pow_le_pow_right (by decide) (by decide))
section
variable {P : Program} {w : World} {K : PySem.W.Frag} {mg : Str → Option Value} {base : Heap} {C : Addr}
abbrev nmV (c0 : Int) : List V := (List.range 12).map fun k => V.str (S (nameL c0 k))
theorem at12 (c0 : Int) (i : Int) (h0 : 0 ≤ i) (h1 : i < 12) : atI (nmV c0) i = some (V.str (S (nameL c0 i.toNat))) := by
  have h : (nmV c0)[i.toNat]? = some (V.str (S (nameL c0 i.toNat))) := by
    rw [List.getElem?_map, List.getElem?_range (by omega)]; rfl
  have := atI_nat h
  rw [Int.toNat_of_nonneg h0] at this
  exact this
def spRule (K : PySem.W.Frag) : Sp := fun vs H Q _ => ∃ (c c0 : Int) (l : Addr), vs = [.int c, .ref l] ∧ SqL K H l (nmV c0) ∧
  ∀ H' t (q : Rl), Same H H' → DatV K H' (.ref t) q.dat → Gd q → Q (.ref t) H'
abbrev st__law_rule : Stmt := top 37
theorem sc__law_rule : FnScope ["_law_cell", "_law_names_here", "_law_sort", "_law_number", "_law_rank", "_law_side", "_law_parts"] ["_law_cell", "_law_names_here"] (defScope st__law_rule) := ⟨rfl, rfl, rfl, by decide +kernel, rfl, by decide +kernel, by decide +kernel⟩
theorem def_rule (R : Raw K mg "_law_rule" st__law_rule ["_law_cell", "_law_names_here"]) (T : Txt K w mg) (D__law_mixed : Def P w K mg base 1 "_law_mixed" ["_law_cell", "_law_k"] spMix) : Def P w K mg base 2 "_law_rule" ["_law_cell", "_law_names_here"] (spRule K) := by
  refine R.defJ sc__law_rule (fun vs H Q E h => ?_) (fun f cdv A outer s H vs Q E hr h => ?_)
  · obtain ⟨c, c0, l, rfl, _⟩ := h
    rfl
  · obtain ⟨c, c0, l, rfl, hS, q⟩ := h
    have sc := sc__law_rule
    have hu := hr.units
    have hb : (1000000 : Nat) < sizeLine := by rw [sizeLine_eq]; decide
    have hm := mix_le c 1
    obtain ⟨u6, hP6, hq6⟩ : ∃ u, JSs (cxOf CX0 P w K mg base ["_law_cell", "_law_names_here", "_law_sort", "_law_number", "_law_rank", "_law_side", "_law_parts"] "_law_rule" (defScope st__law_rule) f cdv A outer s H E).nox ((defBody st__law_rule).drop 6) u ∧
        ∀ (H1 : Hp) (rk : Int) (sd : Str) (pa : Addr) (ps : List (List Nat)), Same H H1 → SqL K H1 pa (ps.map fun l => V.str (S l)) → Gd ⟨nameL c0 (c % 4).toNat, rk, sd, ps⟩ →
          u { nx := fun _ H' => Q .non H', rt := Q } [some (.int c), some (.ref l), some (.str (S (nameL c0 (c % 4).toNat))), some (.int (mixF c 1)), some (.int rk), some (.str sd), some (.ref pa)] H1 := by
      refine ⟨_, (jss_one (js_ret (j_tup (ja_cons (jn 2) (ja_cons (jn 4) (ja_cons (jn 5) (ja_cons (j_callTy (c_tuple (K := K)) rfl T.n_tuple boot_tuple (ja_cons (jn 6) ja_nil)) ja_nil))))))), ?_⟩
      intro H1 rk sd pa ps s1 hpa ok
      refine ⟨_, .inl ⟨hpa, fun t1 ht1 => ⟨(show 4 ≤ sizeLine by decide), fun t2 ht2 => ?_⟩⟩⟩
      have s2 : Same H1 (upd H1 t1 (.tup (ps.map fun l => V.str (S l)))) := same_new ht1
      have h1 : SqT K (upd H1 t1 (.tup (ps.map fun l => V.str (S l)))) t1 (ps.map fun l => V.str (S l)) := SqT.of upd_same
      dsimp only at ht2 ⊢
      generalize upd H1 t1 (.tup (ps.map fun l => V.str (S l))) = H2 at s2 h1 ht2 ⊢
      refine q _ t2 ⟨nameL c0 (c % 4).toNat, rk, sd, ps⟩ ((s1.trans s2).trans (same_new ht2)) ?_ ok
      exact .tuple (SqT.of upd_same) (.cons (.str _) (.cons (.int _) (.cons (.str _) (.cons (.tuple ((same_new ht2).seqT h1) (tx_dat ps)) .nil))))
    refine ⟨_, (jss_cons (js_set (i := 2) sc.nd rfl (Or.inl rfl) (j_ix (o_ix hu (K := K) (w := w)) (jn 1) (j_op o_mod (jn 0) j_int)))
    (jss_cons (js_set (i := 3) sc.nd rfl (Or.inl rfl) (j_def D__law_mixed (hr.mono (by decide)) rfl (ja_cons (jn 0) (ja_cons j_int ja_nil))))
    (jss_cons (js_set (i := 4) sc.nd rfl (Or.inl rfl) (j_ix (o_ix hu (K := K) (w := w)) (j_lst (ja_cons (j_op o_mod (j_op o_div (jn 3) j_int) j_int) (ja_cons j_int (ja_cons (j_op o_mod (j_op o_div (jn 3) j_int) j_int) (ja_cons j_int (ja_cons (j_op o_mod (j_op o_div (jn 3) j_int) j_int) (ja_cons (j_op o_mod (j_op o_div (jn 3) j_int) j_int) ja_nil))))))) (j_op o_mod (jn 3) j_int)))
    (jss_cons (js_set (i := 5) sc.nd rfl (Or.inl rfl) (j_ix (o_ix hu (K := K) (w := w)) (j_lst (ja_cons j_str (ja_cons j_str (ja_cons j_str ja_nil)))) (j_op o_mod (j_op o_div (jn 3) j_int) j_int)))
    (jss_cons (js_comp (i := 6) (N := ["_law_k", "_law_cell", "_law_names_here"]) (cap := [none, some 0, some 1]) rfl (CompScope.of rfl (by rfl)) (ji_rng1 rfl T.n_range (ja_cons (j_op (o_add (K := K)) j_int (j_op o_mod (j_op o_div (jn 3) j_int) j_int)) ja_nil)) (fun _ _ _ _ => (jg_name (i := 0) (show List.Nodup [("_law_k" : Str), ("_law_cell" : Str), ("_law_names_here" : Str)] by decide +kernel) rfl (Or.inl rfl))) (fun _ _ _ _ => jts_nil) (fun _ _ _ _ => (j_ix (o_ix hu (K := K) (w := w)) (jn 2) (j_op o_mod (j_def D__law_mixed (hr.mono (by decide)) rfl (ja_cons (jn 1) (ja_cons (j_op (o_add (K := K)) j_int (jn 0)) ja_nil))) j_int))) sc.nd rfl rfl)
    (jss_cons (js_if (jt_cmp (o_eqA hu (K := K)) (jn 6) (j_lst (ja_cons (jn 2) ja_nil)))
    (jss_one (js_set (i := 6) sc.nd rfl (Or.inl rfl) (j_lst (ja_cons (j_ix (o_ix hu (K := K) (w := w)) (jn 1) (j_op (o_add (K := K)) j_int (j_op o_mod (jn 3) j_int))) ja_nil))))
    jss_nil)
    hP6)))))), ?_⟩
    refine ⟨by decide, .inl ⟨_, _, hS, at12 c0 (c % 4) (by omega) (by omega), ?_⟩⟩
    refine ⟨c, 1, rfl, by decide, by decide, ?_⟩
    have h7 : 0 ≤ mixF c 1 / 7 % 100 ∧ mixF c 1 / 7 % 100 ≤ 99 := by omega
    refine ⟨⟨by decide, by decide⟩, by decide, ⟨by decide, by decide⟩, by decide, ⟨by decide, by decide⟩, by decide, ⟨by decide, by decide⟩, by decide, (show 6 ≤ sizeLine by decide), fun p hp => ⟨by decide, ?_⟩⟩
    have hx : ∃ x : Int, atI [V.int (mixF c 1 / 7 % 100), V.int 0, V.int (mixF c 1 / 7 % 100), V.int 99, V.int (mixF c 1 / 7 % 100), V.int (mixF c 1 / 7 % 100)] (mixF c 1 % 6) = some (V.int x) ∧ 0 ≤ x ∧ x ≤ 99 := by
      have : mixF c 1 % 6 = 0 ∨ mixF c 1 % 6 = 1 ∨ mixF c 1 % 6 = 2 ∨ mixF c 1 % 6 = 3 ∨ mixF c 1 % 6 = 4 ∨ mixF c 1 % 6 = 5 := by omega
      rcases this with z | z | z | z | z | z <;> rw [z]
      · exact ⟨_, rfl, h7⟩
      · exact ⟨0, rfl, by decide, by decide⟩
      · exact ⟨_, rfl, h7⟩
      · exact ⟨99, rfl, by decide, by decide⟩
      · exact ⟨_, rfl, h7⟩
      · exact ⟨_, rfl, h7⟩
    obtain ⟨rk, hrk, r0, r9⟩ := hx
    refine .inl ⟨_, .int rk, SqL.of upd_same, hrk, ?_⟩
    have s1 : Same H (upd H p (.lst [V.int (mixF c 1 / 7 % 100), V.int 0, V.int (mixF c 1 / 7 % 100), V.int 99, V.int (mixF c 1 / 7 % 100), V.int (mixF c 1 / 7 % 100)])) := same_new hp
    generalize upd H p (.lst [V.int (mixF c 1 / 7 % 100), V.int 0, V.int (mixF c 1 / 7 % 100), V.int 99, V.int (mixF c 1 / 7 % 100), V.int (mixF c 1 / 7 % 100)]) = H1 at s1 ⊢
    refine ⟨(show 3 ≤ sizeLine by decide), fun p2 hp2 => ⟨⟨by decide, by decide⟩, by decide, ?_⟩⟩
    have hx : ∃ x, atI [V.str "left", V.str "right", V.str "none"] (mixF c 1 / 700 % 3) = some (V.str x) ∧ PyData.strOk x = true ∧ x.length ≤ 100 ∧ sideB x = true := by
      have : mixF c 1 / 700 % 3 = 0 ∨ mixF c 1 / 700 % 3 = 1 ∨ mixF c 1 / 700 % 3 = 2 := by omega
      rcases this with z | z | z
      · rw [z]; exact ⟨_, rfl, by decide +kernel, by decide, by decide +kernel⟩
      · rw [z]; exact ⟨_, rfl, by decide +kernel, by decide, by decide +kernel⟩
      · rw [z]; exact ⟨_, rfl, by decide +kernel, by decide, by decide +kernel⟩
    obtain ⟨sd, hsd, sd1, sd2, sd3⟩ := hx
    refine .inl ⟨_, .str sd, SqL.of upd_same, hsd, ?_⟩
    have s2 : Same H (upd H1 p2 (.lst [V.str "left", V.str "right", V.str "none"])) := s1.trans (same_new hp2)
    generalize upd H1 p2 (.lst [V.str "left", V.str "right", V.str "none"]) = H2 at s2 ⊢
    have hS2 := s2.seq hS
    have gd : ∀ ps : List (List Nat), 1 ≤ ps.length → ps.length ≤ 8 → (∀ k ∈ ps, ∃ i, i < 12 ∧ k = nameL c0 i) → ps ≠ [nameL c0 (c % 4).toNat] → Gd ⟨nameL c0 (c % 4).toNat, rk, sd, ps⟩ := fun ps h1 h8 hn ho => by
      refine ⟨(okB_iff _).mpr ⟨r0, r9, sd3, h1, h8, name_no _ _ (by omega), ?_, ho⟩, ⟨small2 r0 r9, (nm_fine _ _).1, (nm_fine _ _).2, sd1, sd2, fun k hk => ?_, by show ps.length ≤ 100; omega⟩⟩
      · refine Bool.eq_false_iff.mpr fun z => ?_
        obtain ⟨k, hk, e⟩ := List.any_eq_true.mp z
        obtain ⟨i, hi, rfl⟩ := hn k hk
        rw [name_no _ _ (by omega)] at e; cases e
      · obtain ⟨i, hi, rfl⟩ := hn k hk
        exact nm_fine _ _
    have hmn : 1 ≤ 1 + mixF c 1 / 2100 % 8 ∧ 1 + mixF c 1 / 2100 % 8 ≤ 8 := by omega
    refine ⟨⟨by decide, by decide⟩, by decide, show -(2 ^ 62) ≤ 1 + mixF c 1 / 2100 % 8 by omega, show 1 + mixF c 1 / 2100 % 8 < 2 ^ 62 by omega, ?_⟩
    refine gath_range (n := (1 + mixF c 1 / 2100 % 8).toNat) (fun i ys σ' H' => H' = H2 ∧ ∃ (ks : List (List Nat)) (v : Option V), ks.length = i ∧ ys = ks.map (fun l => V.str (S l)) ∧ (∀ k ∈ ks, ∃ i, i < 12 ∧ k = nameL c0 i) ∧ σ' = [v, some (.int c), some (.ref l)]) (by omega) ⟨rfl, [], none, rfl, rfl, (fun k hk => by cases hk), rfl⟩
      (fun i ys σ' H' h => by obtain ⟨_, ks, v, e1, e2, _⟩ := h; rw [e2, List.length_map]; omega) ?_ ?_
    · rintro i ys σ' H' hi ⟨rfl, ks, v, hk, rfl, hlo, rfl⟩
      have hmx := mix_le c (2 + (0 + (i : Nat) : Int))
      refine ⟨c, 2 + (0 + (i : Nat) : Int), rfl, by omega, by omega, by decide, .inl ⟨_, _, hS2, at12 c0 (mixF c (2 + (0 + (i : Nat) : Int)) % 12) (by omega) (by omega), rfl, ks ++ [nameL c0 (mixF c (2 + (0 + (i : Nat) : Int)) % 12).toNat], _, by rw [List.length_append, hk]; rfl, by rw [List.map_append]; rfl, fun k hk' => ?_, rfl⟩⟩
      rcases List.mem_append.mp hk' with z | z
      · exact hlo k z
      · exact ⟨_, by omega, List.mem_singleton.mp z⟩
    · rintro ys σ' H' ⟨rfl, ks, v, hk, rfl, hlo, rfl⟩ D hD
      have s3 : Same H' (upd H' D (.lst (ks.map fun l => V.str (S l)))) := same_new hD
      have h1 : SqL K (upd H' D (.lst (ks.map fun l => V.str (S l)))) D (ks.map fun l => V.str (S l)) := SqL.of upd_same
      generalize upd H' D (.lst (ks.map fun l => V.str (S l))) = H3 at s3 h1 ⊢
      refine ⟨(show 1 ≤ sizeLine by decide), fun p hp => ?_⟩
      have s4 : Same H3 (upd H3 p (.lst [V.str (S (nameL c0 (c % 4).toNat))])) := same_new hp
      have h2 : SqL K (upd H3 p (.lst [V.str (S (nameL c0 (c % 4).toNat))])) p [V.str (S (nameL c0 (c % 4).toNat))] := SqL.of upd_same
      generalize upd H3 p (.lst [V.str (S (nameL c0 (c % 4).toNat))]) = H4 at s4 h2 ⊢
      have lay1 := tx_lay (ks := ks) (fun k hk => by obtain ⟨i, hi, rfl⟩ := hlo k hk; exact nameL_low _ _)
      have lay2 := tx_lay (ks := [nameL c0 (c % 4).toNat]) (fun k hk => by rw [List.mem_singleton.mp hk]; exact nameL_low _ _)
      have deep := tx_deep ks
      refine ⟨.list (ks.map fun k => PyData.str (S k)), .list ([nameL c0 (c % 4).toNat].map fun k => PyData.str (S k)), .list (s4.seq h1) (tx_dat ks), .list h2 (tx_dat [nameL c0 (c % 4).toNat]), by simp only [PyData.canLay0]; exact lay1, by simp only [PyData.canLay0]; exact lay2, by simp only [PyData.depth]; omega, ?_⟩
      show if (false ^^ PyData.eqv _ _) = true then _ else _
      rw [Bool.false_xor, PyData.eqv, tx_eqv]
      have hs4 := (s2.trans s3).trans s4
      refine ite2 (fun h => ?_) (fun h => ?_)
      · have hm6 : 0 ≤ 4 + mixF c 1 % 8 ∧ 4 + mixF c 1 % 8 < 12 := by omega
        refine ⟨by decide, .inl ⟨_, _, hs4.seq hS, at12 c0 (4 + mixF c 1 % 8) hm6.1 hm6.2, (show 1 ≤ sizeLine by decide), fun p2 hp2 => ?_⟩⟩
        refine hq6 _ rk sd p2 [nameL c0 (4 + mixF c 1 % 8).toNat] (hs4.trans (same_new hp2)) (SqL.of upd_same) (gd _ (Nat.le_refl _) (show 1 ≤ 8 by decide) (fun k hk => ⟨_, by omega, List.mem_singleton.mp hk⟩) fun z => ?_)
        have e := nameL_inj (by omega) (by omega) (List.cons.inj z).1
        omega
      · exact hq6 _ rk sd D ks hs4 (s4.seq h1) (gd ks (by omega) (by omega) hlo fun z => h (beq_iff_eq.mpr z))
end
end K22

set_option Elab.async false
set_option linter.all false
set_option maxRecDepth 100000
set_option maxHeartbeats 4000000





--@RAISES but law
namespace K22
open PySem PySem.Spec PyProof.Rows L2 Rg
theorem ten59 : (10 : Int) ^ 59 < 2 ^ 200 := by decide
theorem big_log {k : Int} (h : k.natAbs < 2 ^ 201) : k.natAbs.log2 < 1920 := by
  by_cases hk : k.natAbs = 0
  · rw [hk]; decide
  · rw [Nat.log2_lt hk]
    exact Nat.lt_of_lt_of_le h (Nat.pow_le_pow_right (by decide) (by decide))
theorem cutV_to (xs : List V) (k : Nat) : cutV xs none (some (k : Int)) = xs.take k := by
  unfold cutV
  rw [HT.sIx_none, HT.sIx_nat]
  simp
theorem cutV_from (xs : List V) (k : Nat) : cutV xs (some (k : Int)) none = xs.drop k := by
  unfold cutV
  rw [HT.sIx_none, HT.sIx_nat]
  rcases Nat.le_total k xs.length with h | h
  · rw [Nat.min_eq_left h]; exact List.take_of_length_le (by simp)
  · rw [Nat.min_eq_right h, List.drop_length, List.drop_of_length_le h]; simp
section
variable {P : Program} {w : World} {K : PySem.W.Frag} {mg : Str → Option Value} {base : Heap} {C : Addr}
def noL (i : Nat) : List Nat := match i with | 0 => [] | 1 => [101, 110, 100] | _ => [115, 116, 114, 97, 121]
theorem noL_fine (i : Nat) : low (noL i) ∧ (noL i).length ≤ 100 := by
  unfold noL low
  split <;> exact ⟨by decide, by decide⟩
theorem noL_no (i : Nat) : noB (noL i) = true := by
  unfold noL
  split
  · decide +kernel
  · decide +kernel
  · decide +kernel
theorem no_at (c : Int) : atI [V.str "", V.str "end", V.str "stray"] (c % 3) = some (V.str (S (noL (c % 3).toNat))) := by
  have : c % 3 = 0 ∨ c % 3 = 1 ∨ c % 3 = 2 := by omega
  rcases this with z | z | z <;> rw [z] <;> rfl
def spSpl (K : PySem.W.Frag) : Sp := fun vs H Q _ => ∃ (t : Addr) (q : Rl) (wy c c0 : Int) (l : Addr), vs = [.ref t, .int wy, .int c, .ref l] ∧ DatV K H (.ref t) q.dat ∧ Gd q ∧ SqL K H l (nmV c0) ∧
  (wy = 0 ∨ wy = 3 ∨ wy = 4 ∨ wy = 5 ∨ wy = 6 ∨ wy = 7 ∨ wy = 8 ∨ wy = 9 ∨ wy = 10 ∨ wy = 11) ∧
  ∀ H' t' (q' : Rl), Same H H' → DatV K H' (.ref t') q'.dat → Fine q' → okB q' = decide (wy = 0 ∨ wy = 11) → Q (.ref t') H'
abbrev st__law_spoiled : Stmt := top 38
theorem sc__law_spoiled : FnScope ["_law_rule_here", "_law_way", "_law_cell", "_law_names_here", "_law_sort", "_law_rank", "_law_side", "_law_parts", "_law_far", "_law_no_name", "_law_at"] ["_law_rule_here", "_law_way", "_law_cell", "_law_names_here"] (defScope st__law_spoiled) := ⟨rfl, rfl, rfl, by decide +kernel, rfl, by decide +kernel, by decide +kernel⟩
theorem def_spoiled (R : Raw K mg "_law_spoiled" st__law_spoiled ["_law_rule_here", "_law_way", "_law_cell", "_law_names_here"]) (T : Txt K w mg) (D__law_mixed : Def P w K mg base 1 "_law_mixed" ["_law_cell", "_law_k"] spMix) : Def P w K mg base 2 "_law_spoiled" ["_law_rule_here", "_law_way", "_law_cell", "_law_names_here"] (spSpl K) := by
  refine R.defJ sc__law_spoiled (fun vs H Q E h => ?_) (fun f cdv A outer s H vs Q E hr h => ?_)
  · obtain ⟨t, q, wy, c, c0, l, rfl, _⟩ := h
    rfl
  · obtain ⟨t, q, wy, c, c0, l, rfl, hd, gd, hS, hw, qq⟩ := h
    have sc := sc__law_spoiled
    have hu := hr.units
    have hb : (1000000 : Nat) < sizeLine := by rw [sizeLine_eq]; decide
    obtain ⟨t1, tp, et, hT, hTp⟩ := dat_rl hd
    cases et
    obtain ⟨k0, k9, ksd, kp1, kp8, kns, knp, kow⟩ := (okB_iff q).mp gd.ok
    have fn := gd.fn
    obtain ⟨u11, hP11, hq11⟩ : ∃ u, JSs (cxOf CX0 P w K mg base ["_law_rule_here", "_law_way", "_law_cell", "_law_names_here", "_law_sort", "_law_rank", "_law_side", "_law_parts", "_law_far", "_law_no_name", "_law_at"] "_law_spoiled" (defScope st__law_spoiled) f cdv A outer s H E).nox ((defBody st__law_spoiled).drop 11) u ∧
        ∀ (H1 : Hp) (so : List Nat) (rk : Int) (sd : Str) (tp : Addr) (ps : List (List Nat)) (v8 v9 v10 : Option V), Same H H1 → SqT K H1 tp (ps.map fun l => V.str (S l)) → Fine ⟨so, rk, sd, ps⟩ → okB ⟨so, rk, sd, ps⟩ = decide (wy = 0 ∨ wy = 11) →
          u { nx := fun _ H' => Q .non H', rt := Q } [some (.ref t), some (.int wy), some (.int c), some (.ref l), some (.str (S so)), some (.int rk), some (.str sd), some (.ref tp), v8, v9, v10] H1 := by
      refine ⟨_, (jss_one (js_ret (j_tup (ja_cons (jn 4) (ja_cons (jn 5) (ja_cons (jn 6) (ja_cons (jn 7) ja_nil))))))), ?_⟩
      intro H1 so rk sd tp ps v8 v9 v10 s1 hp f1 o1
      refine ⟨(show 4 ≤ sizeLine by decide), fun t2 ht2 => ?_⟩
      refine qq _ t2 ⟨so, rk, sd, ps⟩ (s1.trans (same_new ht2)) ?_ f1 o1
      exact .tuple (SqT.of upd_same) (.cons (.str _) (.cons (.int _) (.cons (.str _) (.cons (.tuple ((same_new ht2).seqT hp) (tx_dat ps)) .nil))))
    have bad : ∀ q' : Rl, ¬ (wy = 0 ∨ wy = 11) → ¬ (okB q' = true) → okB q' = decide (wy = 0 ∨ wy = 11) := fun q' h1 h2 => by rw [decide_eq_false h1]; exact Bool.eq_false_iff.mpr h2
    refine ⟨_, (jss_cons (js_asg (jn 0) (jg_tup (K := K) (n := 4) rfl (jgs_cons (jg_name (i := 4) sc.nd rfl (Or.inl rfl)) (jgs_cons (jg_name (i := 5) sc.nd rfl (Or.inl rfl)) (jgs_cons (jg_name (i := 6) sc.nd rfl (Or.inl rfl)) (jgs_cons (jg_name (i := 7) sc.nd rfl (Or.inl rfl)) jgs_nil))))))
    (jss_cons (js_set (i := 8) sc.nd rfl (Or.inl rfl) (j_op o_mod (jn 2) (j_op o_pow j_int j_int)))
    (jss_cons (js_set (i := 9) sc.nd rfl (Or.inl rfl) (j_ix (o_ix hu (K := K) (w := w)) (j_lst (ja_cons j_str (ja_cons j_str (ja_cons j_str ja_nil)))) (j_op o_mod (jn 2) j_int)))
    (jss_cons (js_if (jt_cmp (o_eq hu (K := K)) (jn 1) j_int)
    (jss_one (js_set (i := 5) sc.nd rfl (Or.inl rfl) (j_op (o_addA (K := K)) j_int (jn 8))))
    jss_nil)
    (jss_cons (js_if (jt_cmp (o_eq hu (K := K)) (jn 1) j_int)
    (jss_one (js_set (i := 5) sc.nd rfl (Or.inl rfl) (j_op o_sub (j_neg j_int) (jn 8))))
    jss_nil)
    (jss_cons (js_if (jt_cmp (o_eq hu (K := K)) (jn 1) j_int)
    (jss_one (js_set (i := 6) sc.nd rfl (Or.inl rfl) (j_ix (o_ix hu (K := K) (w := w)) (j_lst (ja_cons j_str (ja_cons j_str (ja_cons j_str (ja_cons j_str (ja_cons j_str (ja_cons j_str (ja_cons j_str ja_nil)))))))) (j_op o_mod (jn 2) j_int))))
    jss_nil)
    (jss_cons (js_if (jt_cmp (o_eq hu (K := K)) (jn 1) j_int)
    (jss_one (js_set (i := 7) sc.nd rfl (Or.inl rfl) (j_tup ja_nil)))
    jss_nil)
    (jss_cons (js_if (jt_cmp (o_eq hu (K := K)) (jn 1) j_int)
    (jss_one (js_set (i := 7) sc.nd rfl (Or.inl rfl) (j_callTy (c_tuple (K := K)) rfl T.n_tuple boot_tuple (ja_cons (j_comp (N := ["_law_k", "_law_cell", "_law_names_here"]) (cap := [none, some 2, some 3]) rfl (CompScope.of rfl (by rfl)) (ji_rng1 rfl T.n_range (ja_cons (j_op (o_addA (K := K)) j_int (j_op o_mod (jn 2) j_int)) ja_nil)) (fun _ _ _ _ => (jg_name (i := 0) (show List.Nodup [("_law_k" : Str), ("_law_cell" : Str), ("_law_names_here" : Str)] by decide +kernel) rfl (Or.inl rfl))) (fun _ _ _ _ => jts_nil) (fun _ _ _ _ => (j_ix (o_ix hu (K := K) (w := w)) (jn 2) (j_op o_mod (j_def D__law_mixed (hr.mono (by decide)) rfl (ja_cons (jn 1) (ja_cons (jn 0) ja_nil))) j_int)))) ja_nil))))
    jss_nil)
    (jss_cons (js_if (jt_cmp (o_eq hu (K := K)) (jn 1) j_int)
    (jss_one (js_set (i := 4) sc.nd rfl (Or.inl rfl) (jn 9)))
    jss_nil)
    (jss_cons (js_if (jt_cmp (o_eq hu (K := K)) (jn 1) j_int)
    (jss_cons (js_set (i := 10) sc.nd rfl (Or.inl rfl) (j_op o_mod (j_op o_div (jn 2) j_int) (j_callB (c_len (K := K)) rfl T.n_len PySem.boot_len (ja_cons (jn 7) ja_nil))))
    (jss_one (js_set (i := 7) sc.nd rfl (Or.inl rfl) (j_op (o_addA (K := K)) (j_op (o_addA (K := K)) (j_slice (o_slA (K := K)) (jn 7) jo_none (jo_some (jn 10))) (j_tup (ja_cons (jn 9) ja_nil))) (j_slice (o_slA (K := K)) (jn 7) (jo_some (j_op (o_addA (K := K)) (jn 10) j_int)) jo_none)))))
    jss_nil)
    (jss_cons (js_if (jt_cmp (o_eq hu (K := K)) (jn 1) j_int)
    (jss_one (js_set (i := 7) sc.nd rfl (Or.inl rfl) (j_tup (ja_cons (jn 4) ja_nil))))
    jss_nil)
    hP11))))))))))), ?_⟩
    refine ⟨t, _, rfl, hT, rfl, _, _, rfl, _, _, rfl, _, _, rfl, _, _, rfl, rfl, ?_⟩
    refine ⟨⟨by decide, by decide, by decide⟩, by decide, ?_⟩
    have f0 := Int.emod_nonneg c (show ((10 : Int) ^ (59 : Int).toNat) ≠ 0 by decide)
    have f1 := Int.emod_lt_of_pos c (show (0 : Int) < (10 : Int) ^ (59 : Int).toNat by decide)
    have f2 : c % (10 : Int) ^ (59 : Int).toNat < 2 ^ 200 := Int.lt_trans f1 ten59
    generalize c % (10 : Int) ^ (59 : Int).toNat = far at f0 f1 f2 ⊢
    refine ⟨(show 3 ≤ sizeLine by decide), fun p hp => ⟨by decide, .inl ⟨_, _, SqL.of upd_same, no_at c, ?_⟩⟩⟩
    have s1 : Same H (upd H p (.lst [V.str "", V.str "end", V.str "stray"])) := same_new hp
    generalize upd H p (.lst [V.str "", V.str "end", V.str "stray"]) = H1 at s1 ⊢
    generalize (c % 3).toNat = ni
    have hTp1 := s1.seqT hTp
    have hS1 := s1.seq hS
    rcases hw with e | e | e | e | e | e | e | e | e | e <;> subst e
    · exact hq11 H1 q.sort q.rank q.side tp q.ps _ _ _ s1 hTp1 fn (by rw [gd.ok]; rfl)
    · refine hq11 H1 q.sort (100 + far) q.side tp q.ps _ _ _ s1 hTp1 ⟨big_log (show (100 + far).natAbs < 2 ^ 201 by omega), fn.ls, fn.zs, fn.sd, fn.zd, fn.lp, fn.zp⟩ (bad _ (by decide) fun z => ?_)
      have : 100 + far ≤ 99 := ((okB_iff _).mp z).2.1
      omega
    · refine hq11 H1 q.sort (-1 - far) q.side tp q.ps _ _ _ s1 hTp1 ⟨big_log (show (-1 - far).natAbs < 2 ^ 201 by omega), fn.ls, fn.zs, fn.sd, fn.zd, fn.lp, fn.zp⟩ (bad _ (by decide) fun z => ?_)
      have : 0 ≤ -1 - far := ((okB_iff _).mp z).1
      omega
    · refine ⟨(show 7 ≤ sizeLine by decide), fun p2 hp2 => ⟨by decide, ?_⟩⟩
      have hx : ∃ x, atI [V.str "", V.str "Left", V.str "both", V.str "non", V.str "right ", V.str "rank", V.str "lleft"] (c % 7) = some (V.str x) ∧ PyData.strOk x = true ∧ x.length ≤ 100 ∧ sideB x = false := by
        have : c % 7 = 0 ∨ c % 7 = 1 ∨ c % 7 = 2 ∨ c % 7 = 3 ∨ c % 7 = 4 ∨ c % 7 = 5 ∨ c % 7 = 6 := by omega
        rcases this with z | z | z | z | z | z | z <;> rw [z] <;> exact ⟨_, rfl, by decide +kernel, by decide, by decide +kernel⟩
      obtain ⟨x, hx, x1, x2, x3⟩ := hx
      refine .inl ⟨_, .str x, SqL.of upd_same, hx, ?_⟩
      refine hq11 _ q.sort q.rank x tp q.ps _ _ _ (s1.trans (same_new hp2)) ((same_new hp2).seqT hTp1) ⟨fn.rk, fn.ls, fn.zs, x1, x2, fn.lp, fn.zp⟩ (bad _ (by decide) fun z => ?_)
      have : sideB x = true := ((okB_iff _).mp z).2.2.1
      rw [x3] at this; cases this
    · refine ⟨(show 0 ≤ sizeLine by decide), fun p2 hp2 => ?_⟩
      refine hq11 _ q.sort q.rank q.side p2 [] _ _ _ (s1.trans (same_new hp2)) (SqT.of upd_same) ⟨fn.rk, fn.ls, fn.zs, fn.sd, fn.zd, (fun k hk => by cases hk), (show 0 ≤ 100 by decide)⟩ (bad _ (by decide) fun z => ?_)
      have : 1 ≤ 0 := ((okB_iff _).mp z).2.2.2.1
      omega
    · have hmn : 9 ≤ 9 + c % 5 ∧ 9 + c % 5 ≤ 13 := by omega
      refine ⟨by decide, show -(2 ^ 62) ≤ 9 + c % 5 by omega, show 9 + c % 5 < 2 ^ 62 by omega, ?_⟩
      refine gath_range (n := (9 + c % 5).toNat) (fun i ys σ' H' => H' = H1 ∧ ∃ (ks : List (List Nat)) (v : Option V), ks.length = i ∧ ys = ks.map (fun l => V.str (S l)) ∧ (∀ k ∈ ks, low k ∧ k.length ≤ 100) ∧ σ' = [v, some (.int c), some (.ref l)]) (by omega) ⟨rfl, [], none, rfl, rfl, (fun k hk => by cases hk), rfl⟩
        (fun i ys σ' H' h => by obtain ⟨_, ks, v, e1, e2, _⟩ := h; rw [e2, List.length_map]; omega) ?_ ?_
      · rintro i ys σ' H' hi ⟨rfl, ks, v, hk, rfl, hlo, rfl⟩
        have hmx := mix_le c (0 + (i : Nat) : Int)
        refine ⟨c, (0 + (i : Nat) : Int), rfl, by omega, by omega, by decide, .inl ⟨_, _, hS1, at12 c0 (mixF c (0 + (i : Nat) : Int) % 12) (by omega) (by omega), rfl, ks ++ [nameL c0 (mixF c (0 + (i : Nat) : Int) % 12).toNat], _, by rw [List.length_append, hk]; rfl, by rw [List.map_append]; rfl, fun k hk' => ?_, rfl⟩⟩
        rcases List.mem_append.mp hk' with z | z
        · exact hlo k z
        · rw [List.mem_singleton.mp z]; exact nm_fine _ _
      · rintro ys σ' H' ⟨rfl, ks, v, hk, rfl, hlo, rfl⟩ D hD
        refine ⟨_, .inl ⟨SqL.of upd_same, fun t2 ht2 => ?_⟩⟩
        refine hq11 _ q.sort q.rank q.side t2 ks _ _ _ ((s1.trans (same_new hD)).trans (same_new ht2)) (SqT.of upd_same) ⟨fn.rk, fn.ls, fn.zs, fn.sd, fn.zd, hlo, (show ks.length ≤ 100 by omega)⟩ (bad _ (by decide) fun z => ?_)
        have : ks.length ≤ 8 := ((okB_iff _).mp z).2.2.2.2.1
        omega
    · refine hq11 H1 (noL ni) q.rank q.side tp q.ps _ _ _ s1 hTp1 ⟨fn.rk, (noL_fine ni).1, (noL_fine ni).2, fn.sd, fn.zd, fn.lp, fn.zp⟩ (bad _ (by decide) fun z => ?_)
      have : noB (noL ni) = false := ((okB_iff _).mp z).2.2.2.2.2.1
      rw [noL_no] at this; cases this
    · -- a part that is no name
      have hpl : (0 : Int) < (((q.ps.map fun l => V.str (S l)).length : Nat) : Int) := by rw [List.length_map]; omega
      refine ⟨⟨by decide, by decide⟩, _, .inr hTp1, hpl, ?_⟩
      have a0 := Int.emod_nonneg (c / 3) (Int.ne_of_gt hpl)
      have a1 := Int.emod_lt_of_pos (c / 3) hpl
      obtain ⟨j, ej⟩ : ∃ j : Nat, c / 3 % (((q.ps.map fun l => V.str (S l)).length : Nat) : Int) = (j : Int) := ⟨(c / 3 % (((q.ps.map fun l => V.str (S l)).length : Nat) : Int)).toNat, by omega⟩
      rw [ej] at a1 ⊢
      rw [List.length_map] at a1
      have hjl : j < q.ps.length := by omega
      refine .inr ⟨_, hTp1, ?_, fun p1 hp1 => ?_⟩
      · rintro ⟨_, z⟩
        rw [HT.sIx_nat, List.length_map] at z
        omega
      rw [cutV_to, ← List.map_take]
      have s2 : Same H1 (upd H1 p1 (.tup ((q.ps.take j).map fun l => V.str (S l)))) := same_new hp1
      have h2 : SqT K (upd H1 p1 (.tup ((q.ps.take j).map fun l => V.str (S l)))) p1 ((q.ps.take j).map fun l => V.str (S l)) := SqT.of upd_same
      generalize upd H1 p1 (.tup ((q.ps.take j).map fun l => V.str (S l))) = H2 at s2 h2 ⊢
      refine ⟨(show 1 ≤ sizeLine by decide), fun p2 hp2 => ?_⟩
      have s3 : Same H2 (upd H2 p2 (.tup [V.str (S (noL ni))])) := same_new hp2
      have h3 : SqT K (upd H2 p2 (.tup [V.str (S (noL ni))])) p2 [V.str (S (noL ni))] := SqT.of upd_same
      generalize upd H2 p2 (.tup [V.str (S (noL ni))]) = H3 at s3 h3 ⊢
      have s13 := s1.trans (s2.trans s3)
      have tail : ∀ (K0 : VK), (∀ r5 H6, Same H1 H6 → SqT K H6 r5 ((q.ps.take j ++ [noL ni] ++ q.ps.drop (j + 1)).map fun l => V.str (S l)) → K0 (.ref r5) H6) → ∀ (H4 : Hp) (r : Addr), Same H1 H4 → SqT K H4 r ((q.ps.take j ++ [noL ni]).map fun l => V.str (S l)) →
          gSlA K (.ref tp) (some ((j : Int) + 1)) none H4 (fun y H5 => gAddA K (.ref r) y H5 K0) := fun K0 hK H4 r s4 h4 => by
        refine .inr ⟨_, s4.seqT hTp1, ?_, fun p3 hp3 => ?_⟩
        · rintro ⟨z, _⟩
          rw [show ((j : Int) + 1) = ((j + 1 : Nat) : Int) by omega, HT.sIx_nat, List.length_map] at z
          omega
        rw [show ((j : Int) + 1) = ((j + 1 : Nat) : Int) by omega, cutV_from, ← List.map_drop]
        have s5 : Same H4 (upd H4 p3 (.tup ((q.ps.drop (j + 1)).map fun l => V.str (S l)))) := same_new hp3
        have h5 : SqT K (upd H4 p3 (.tup ((q.ps.drop (j + 1)).map fun l => V.str (S l)))) p3 ((q.ps.drop (j + 1)).map fun l => V.str (S l)) := SqT.of upd_same
        generalize upd H4 p3 (.tup ((q.ps.drop (j + 1)).map fun l => V.str (S l))) = H5 at s5 h5 ⊢
        refine .inl (.inr ⟨_, _, s5.seqT h4, h5, by simp, ?_, fun z => ?_, fun z p4 hp4 => ?_⟩)
        · have := fn.zp
          simp only [List.length_map, List.length_append, List.length_take, List.length_drop, List.length_cons, List.length_nil]
          omega
        · refine hK r H5 (s4.trans s5) ?_
          have e : q.ps.drop (j + 1) = [] := by simpa using z
          rw [e, List.append_nil]
          exact s5.seqT h4
        · refine hK p4 _ (s4.trans (s5.trans (same_new hp4))) ?_
          have em : ((q.ps.take j ++ [noL ni] ++ q.ps.drop (j + 1)).map fun l => V.str (S l)) = ((q.ps.take j ++ [noL ni]).map fun l => V.str (S l)) ++ ((q.ps.drop (j + 1)).map fun l => V.str (S l)) := List.map_append
          rw [em]
          exact SqT.of upd_same
      have fin : ∀ r5 H6, Same H1 H6 → SqT K H6 r5 ((q.ps.take j ++ [noL ni] ++ q.ps.drop (j + 1)).map fun l => V.str (S l)) →
          u11 { nx := fun _ H' => Q .non H', rt := Q } [some (.ref t), some (.int 9), some (.int c), some (.ref l), some (.str (S q.sort)), some (.int q.rank), some (.str q.side), some (.ref r5), some (.int far), some (.str (S (noL ni))), some (.int (j : Int))] H6 := fun r5 H6 s6 h6 => by
        refine hq11 _ q.sort q.rank q.side r5 _ _ _ _ (s1.trans s6) h6 ⟨fn.rk, fn.ls, fn.zs, fn.sd, fn.zd, fun k hk => ?_, ?_⟩ (bad _ (by decide) fun z => ?_)
        · rcases List.mem_append.mp hk with y | y
          · rcases List.mem_append.mp y with y | y
            · exact fn.lp k (List.mem_of_mem_take y)
            · rw [List.mem_singleton.mp y]; exact noL_fine ni
          · exact fn.lp k (List.mem_of_mem_drop y)
        · have := fn.zp
          simp only [List.length_append, List.length_take, List.length_drop, List.length_cons, List.length_nil]
          omega
        · have h7 : (q.ps.take j ++ [noL ni] ++ q.ps.drop (j + 1)).any noB = false := ((okB_iff _).mp z).2.2.2.2.2.2.1
          rw [List.any_append, List.any_append] at h7
          simp only [List.any_cons, noL_no, Bool.true_or, Bool.or_true] at h7
          cases h7
      by_cases hj0 : j = 0
      · subst hj0
        refine .inr ⟨_, s3.seqT h2, h3, ?_⟩
        exact tail _ fin H3 p2 (s2.trans s3) h3
      · refine .inl (.inr ⟨_, _, s3.seqT h2, h3, fun z => ?_, ?_, fun z => ?_, fun z p4 hp4 => ?_⟩)
        · have h8 : ((q.ps.take j).map fun l => V.str (S l)).length = 0 := by rw [z]; rfl
          rw [List.length_map, List.length_take] at h8
          omega
        · have := fn.zp
          simp only [List.length_map, List.length_take, List.length_cons, List.length_nil]
          omega
        · cases z
        · exact tail _ fin _ p4 ((s2.trans s3).trans (same_new hp4)) (by rw [List.map_append]; exact SqT.of upd_same)
    · refine ⟨(show 1 ≤ sizeLine by decide), fun p2 hp2 => ?_⟩
      refine hq11 _ q.sort q.rank q.side p2 [q.sort] _ _ _ (s1.trans (same_new hp2)) (SqT.of upd_same) ⟨fn.rk, fn.ls, fn.zs, fn.sd, fn.zd, (fun k hk => by rw [List.mem_singleton.mp hk]; exact ⟨fn.ls, fn.zs⟩), (show 1 ≤ 100 by decide)⟩ (bad _ (by decide) fun z => ?_)
      exact ((okB_iff _).mp z).2.2.2.2.2.2.2 rfl
    · exact hq11 H1 q.sort q.rank q.side tp q.ps _ _ _ s1 hTp1 fn (by rw [gd.ok]; rfl)
end
end K22

set_option Elab.async false
set_option linter.all false
set_option maxRecDepth 100000
set_option maxHeartbeats 4000000





--@RAISES but law
namespace K22
open PySem PySem.Spec PyProof.Rows L2 Rg
theorem boot_ValueError : bootBuiltins "ValueError" = some (.type "ValueError") := by decide +kernel
structure Cls (K : PySem.W.Frag) (mg : Str → Option Value) (C CG : Addr) (cs : List Addr) : Prop where
  n_isinstance : mg "isinstance" = none
  n_ValueError : mg "ValueError" = none
  n_any : mg "any" = none
  c_NoRule : mg "NoRule" = some (.ref C)
  c_GrowthError : mg "GrowthError" = some (.ref CG)
  x_GrowthError : PySem.W.excIn K CG bmVE "ValueError.__new__" = true
  c_NoFloor : mg "NoFloor" = some (.ref (cs.getD 0 0))
  c_Barren : mg "Barren" = some (.ref (cs.getD 1 0))
  c_Idle : mg "Idle" = some (.ref (cs.getD 2 0))
  c_Clash : mg "Clash" = some (.ref (cs.getD 3 0))
  c_TooLarge : mg "TooLarge" = some (.ref (cs.getD 4 0))
  c_Stuck : mg "Stuck" = some (.ref (cs.getD 5 0))
  c_NoFit : mg "NoFit" = some (.ref (cs.getD 6 0))
  c_NoForm : mg "NoForm" = some (.ref (cs.getD 7 0))
  c_NoRow : mg "NoRow" = some (.ref (cs.getD 8 0))
  c_TooLong : mg "TooLong" = some (.ref (cs.getD 9 0))
  Z : ExcK K C
  mro : mroHas K C (.ref CG) = true
  self : PySem.W.kitOne K (.ref C) (.ref C) = some true
  up : PySem.W.kitOne K (.ref C) (.ref CG) = some true
  ve : PySem.W.kitOne K (.ref C) (.type "ValueError") = some true
  no : ∀ i, i < 10 → PySem.W.kitOne K (.ref C) (.ref (cs.getD i 0)) = some false
section
variable {P : Program} {w : World} {K : PySem.W.Frag} {mg : Str → Option Value} {base : Heap} {C CG : Addr} {cs : List Addr}
def spRC (K : PySem.W.Frag) (C : Addr) : Sp := fun vs H Q _ => ∃ (x : Addr) (oe : Obj), vs = [.ref x] ∧ Kn H x oe ∧ oe.cls = .ref C ∧ ∀ H', Same H H' → Q (.bl true) H'
abbrev st__law_right_class : Stmt := top 39
theorem sc__law_right_class : FnScope ["_law_error", "_law_some"] ["_law_error"] (defScope st__law_right_class) := ⟨rfl, rfl, rfl, by decide +kernel, rfl, by decide +kernel, by decide +kernel⟩
theorem def_rc (R : Raw K mg "_law_right_class" st__law_right_class ["_law_error"]) (T : Cls K mg C CG cs) : Def P w K mg base 1 "_law_right_class" ["_law_error"] (spRC K C) := by
  refine R.defJ sc__law_right_class (fun vs H Q E h => ?_) (fun f cdv A outer s H vs Q E hr h => ?_)
  · obtain ⟨x, oe, rfl, _⟩ := h
    rfl
  · obtain ⟨x, oe, rfl, kn, hoe, q⟩ := h
    have sc := sc__law_right_class
    have hu := hr.units
    refine ⟨_, (jss_cons (js_if (jw_t (jw_or (jt_not (jt_val (j_callB (c_isiE (K := K)) rfl T.n_isinstance boot_isinstance (ja_cons (jn 0) (ja_cons (j_glob (v := .ref _) rfl T.c_NoRule rfl) ja_nil))))) (jw_or (jt_not (jt_val (j_callB (c_isiE (K := K)) rfl T.n_isinstance boot_isinstance (ja_cons (jn 0) (ja_cons (j_glob (v := .ref _) rfl T.c_GrowthError rfl) ja_nil))))) (jw_or1 (jt_not (jt_val (j_callB (c_isiE (K := K)) rfl T.n_isinstance boot_isinstance (ja_cons (jn 0) (ja_cons (j_bltn (v := .ty "ValueError") rfl T.n_ValueError boot_ValueError rfl) ja_nil)))))))))
    (jss_one (js_ret j_bl))
    jss_nil)
    (jss_cons (js_set (i := 1) sc.nd rfl (Or.inl rfl) (j_lst (ja_cons (j_callB (c_isiE (K := K)) rfl T.n_isinstance boot_isinstance (ja_cons (jn 0) (ja_cons (j_glob (v := .ref _) rfl T.c_NoFloor rfl) ja_nil))) (ja_cons (j_callB (c_isiE (K := K)) rfl T.n_isinstance boot_isinstance (ja_cons (jn 0) (ja_cons (j_glob (v := .ref _) rfl T.c_Barren rfl) ja_nil))) (ja_cons (j_callB (c_isiE (K := K)) rfl T.n_isinstance boot_isinstance (ja_cons (jn 0) (ja_cons (j_glob (v := .ref _) rfl T.c_Idle rfl) ja_nil))) (ja_cons (j_callB (c_isiE (K := K)) rfl T.n_isinstance boot_isinstance (ja_cons (jn 0) (ja_cons (j_glob (v := .ref _) rfl T.c_Clash rfl) ja_nil))) ja_nil))))))
    (jss_cons (js_set (i := 1) sc.nd rfl (Or.inl rfl) (j_op (o_add (K := K)) (jn 1) (j_lst (ja_cons (j_callB (c_isiE (K := K)) rfl T.n_isinstance boot_isinstance (ja_cons (jn 0) (ja_cons (j_glob (v := .ref _) rfl T.c_TooLarge rfl) ja_nil))) (ja_cons (j_callB (c_isiE (K := K)) rfl T.n_isinstance boot_isinstance (ja_cons (jn 0) (ja_cons (j_glob (v := .ref _) rfl T.c_Stuck rfl) ja_nil))) (ja_cons (j_callB (c_isiE (K := K)) rfl T.n_isinstance boot_isinstance (ja_cons (jn 0) (ja_cons (j_glob (v := .ref _) rfl T.c_NoFit rfl) ja_nil))) ja_nil))))))
    (jss_cons (js_set (i := 1) sc.nd rfl (Or.inl rfl) (j_op (o_add (K := K)) (jn 1) (j_lst (ja_cons (j_callB (c_isiE (K := K)) rfl T.n_isinstance boot_isinstance (ja_cons (jn 0) (ja_cons (j_glob (v := .ref _) rfl T.c_NoForm rfl) ja_nil))) (ja_cons (j_callB (c_isiE (K := K)) rfl T.n_isinstance boot_isinstance (ja_cons (jn 0) (ja_cons (j_glob (v := .ref _) rfl T.c_NoRow rfl) ja_nil))) (ja_cons (j_callB (c_isiE (K := K)) rfl T.n_isinstance boot_isinstance (ja_cons (jn 0) (ja_cons (j_glob (v := .ref _) rfl T.c_TooLong rfl) ja_nil))) ja_nil))))))
    (jss_one (js_ret (j_not (j_callB (c_any rfl (K := K)) rfl T.n_any boot_any (ja_cons (jn 1) ja_nil))))))))), ?_⟩
    refine ⟨oe, C, true, kn, hoe, T.Z, T.self, ?_⟩
    refine ⟨oe, C, true, kn, hoe, T.Z, T.up, ?_⟩
    refine ⟨oe, C, true, kn, hoe, T.Z, T.ve, ?_⟩
    refine ⟨oe, C, false, kn, hoe, T.Z, T.no 0 (by decide), oe, C, false, kn, hoe, T.Z, T.no 1 (by decide), oe, C, false, kn, hoe, T.Z, T.no 2 (by decide), oe, C, false, kn, hoe, T.Z, T.no 3 (by decide), (show 4 ≤ sizeLine by decide), fun p1 hp1 => ?_⟩
    have s1 : Same H (upd H p1 (.lst [V.bl false, V.bl false, V.bl false, V.bl false])) := same_new hp1
    have h1 : upd H p1 (.lst [V.bl false, V.bl false, V.bl false, V.bl false]) p1 = some (.lst [V.bl false, V.bl false, V.bl false, V.bl false]) := upd_same
    generalize upd H p1 (.lst [V.bl false, V.bl false, V.bl false, V.bl false]) = H1 at s1 h1 ⊢
    have kn1 : Kn H1 x oe := s1 _ _ kn
    refine ⟨oe, C, false, kn1, hoe, T.Z, T.no 4 (by decide), oe, C, false, kn1, hoe, T.Z, T.no 5 (by decide), oe, C, false, kn1, hoe, T.Z, T.no 6 (by decide), (show 3 ≤ sizeLine by decide), fun p2 hp2 => ?_⟩
    have s2 : Same H1 (upd H1 p2 (.lst [V.bl false, V.bl false, V.bl false])) := same_new hp2
    have h2 : upd H1 p2 (.lst [V.bl false, V.bl false, V.bl false]) p2 = some (.lst [V.bl false, V.bl false, V.bl false]) := upd_same
    generalize upd H1 p2 (.lst [V.bl false, V.bl false, V.bl false]) = H2 at s2 h2 ⊢
    refine .inl ⟨_, _, s2 _ _ h1, h2, (show 7 ≤ sizeLine by decide), fun p3 hp3 => ?_⟩
    have s3 : Same H2 (upd H2 p3 (.lst ([V.bl false, V.bl false, V.bl false, V.bl false] ++ [V.bl false, V.bl false, V.bl false]))) := same_new hp3
    have h3 : upd H2 p3 (.lst ([V.bl false, V.bl false, V.bl false, V.bl false] ++ [V.bl false, V.bl false, V.bl false])) p3 = some (.lst ([V.bl false, V.bl false, V.bl false, V.bl false] ++ [V.bl false, V.bl false, V.bl false])) := upd_same
    generalize upd H2 p3 (.lst ([V.bl false, V.bl false, V.bl false, V.bl false] ++ [V.bl false, V.bl false, V.bl false])) = H3 at s3 h3 ⊢
    have kn3 : Kn H3 x oe := s3 _ _ (s2 _ _ kn1)
    refine ⟨oe, C, false, kn3, hoe, T.Z, T.no 7 (by decide), oe, C, false, kn3, hoe, T.Z, T.no 8 (by decide), oe, C, false, kn3, hoe, T.Z, T.no 9 (by decide), (show 3 ≤ sizeLine by decide), fun p4 hp4 => ?_⟩
    have s4 : Same H3 (upd H3 p4 (.lst [V.bl false, V.bl false, V.bl false])) := same_new hp4
    have h4 : upd H3 p4 (.lst [V.bl false, V.bl false, V.bl false]) p4 = some (.lst [V.bl false, V.bl false, V.bl false]) := upd_same
    generalize upd H3 p4 (.lst [V.bl false, V.bl false, V.bl false]) = H4 at s4 h4 ⊢
    refine .inl ⟨_, _, s4 _ _ h3, h4, (show 10 ≤ sizeLine by decide), fun p5 hp5 => ?_⟩
    refine ⟨[false, false, false, false, false, false, false, false, false, false], SqL.of upd_same, ?_⟩
    exact q _ ((s1.trans (s2.trans (s3.trans s4))).trans (same_new hp5))
def spPl (K : PySem.W.Frag) (C : Addr) : Sp := fun vs H Q E => ∃ (a : Addr) (rl : List V) (rs : List Rl), vs = [.ref a] ∧ SqL K H a rl ∧ DatVs K H rl (rs.map Rl.dat) ∧ rs.length ≤ 60 ∧ (∀ q ∈ rs, Fine q) ∧ rulesB rs = false ∧ ∀ H', Same H H' → E (.ref C) none H'
abbrev st_plain_rules : Stmt := top 27
theorem sc_plain_rules : FnScope ["rules", "parts", "first", "plain", "sort"] ["rules"] (defScope st_plain_rules) := ⟨rfl, rfl, rfl, by decide +kernel, rfl, by decide +kernel, by decide +kernel⟩
theorem def_plain (R : Raw K mg "plain_rules" st_plain_rules ["rules"]) (D_check_rules : DefX P w K mg base 2 "check_rules" ["rules"] (spCks K C)) : DefX P w K mg base 3 "plain_rules" ["rules"] (spPl K C) := by
  refine R.defX sc_plain_rules (fun vs H Q E h => ?_) (fun f cdv A outer s H vs Q E hr h => ?_)
  · obtain ⟨a, rl, rs, rfl, _⟩ := h
    rfl
  · obtain ⟨a, rl, rs, rfl, hS, hD, hl, fn, hb, q⟩ := h
    have sc := sc_plain_rules
    have hu := hr.units
    obtain ⟨u1, hN⟩ : ∃ u, u = tNever ∧ JSs (cxOf (CX1 P w) P w K mg base ["rules", "parts", "first", "plain", "sort"] "plain_rules" (defScope st_plain_rules) f cdv A outer s H E) ((defBody st_plain_rules).drop 1) u := ⟨_, rfl, .mk pss_never⟩
    have hP := hN.2
    refine ⟨_, (jss_cons (js_expr (j_defX D_check_rules (hr.mono (by decide)) rfl (ja_cons (jn 0) ja_nil) pass1))
    hP), ?_⟩
    exact ⟨a, rl, rs, rfl, hS, hD, hl, fn, (fun z => by rw [hb] at z; cases z), fun _ H' s' => q H' s'⟩
def spRef (K : PySem.W.Frag) : Sp := fun vs H Q _ => ∃ (a : Addr) (rl : List V) (rs : List Rl) (b : Bool), vs = [.ref a, .bl b] ∧ SqL K H a rl ∧ DatVs K H rl (rs.map Rl.dat) ∧ rs.length ≤ 60 ∧ (∀ q ∈ rs, Fine q) ∧ rulesB rs = false ∧ ∀ H', Same H H' → Q (.bl true) H'
abbrev st__law_refused : Stmt := top 40
theorem sc__law_refused : FnScope ["_law_rules", "_law_plainly", "_law_error", "e"] ["_law_rules", "_law_plainly"] (defScope st__law_refused) := ⟨rfl, rfl, rfl, by decide +kernel, rfl, by decide +kernel, by decide +kernel⟩
theorem def_refused (R : Raw K mg "_law_refused" st__law_refused ["_law_rules", "_law_plainly"]) (T : Cls K mg C CG cs) (D_check_rules : DefX P w K mg base 2 "check_rules" ["rules"] (spCks K C)) (D_plain_rules : DefX P w K mg base 3 "plain_rules" ["rules"] (spPl K C)) (D__law_right_class : Def P w K mg base 1 "_law_right_class" ["_law_error"] (spRC K C)) :
    Def P w K mg base 4 "_law_refused" ["_law_rules", "_law_plainly"] (spRef K) := by
  refine R.defJ sc__law_refused (fun vs H Q E h => ?_) (fun f cdv A outer s H vs Q E hr h => ?_)
  · obtain ⟨a, rl, rs, b, rfl, _⟩ := h
    rfl
  · obtain ⟨a, rl, rs, b, rfl, hS, hD, hl, fn, hb, q⟩ := h
    have sc := sc__law_refused
    have hu := hr.units
    refine ⟨_, (jss_cons (js_set (i := 2) sc.nd rfl (Or.inl rfl) j_non)
    (jss_cons (js_tryG (K := K) rfl rfl (jx_if (jt_tru (K := K) (jn 1)) (jx_call D_plain_rules (hr.mono (by decide)) rfl (ja_cons (jn 0) ja_nil)) (jx_call D_check_rules (hr.mono (by decide)) rfl (ja_cons (jn 0) ja_nil))) rfl T.c_GrowthError T.x_GrowthError (i := 3) sc.nd rfl rfl (fun a oe C hoe Z => (jss_one (js_set (i := 2) sc.nd rfl (Or.inl rfl) (jn 3)))))
    (jss_one (js_ret (j_and (j_cmp o_isnot (jn 2) j_non) (j_one (j_def D__law_right_class (hr.mono (by decide)) rfl (ja_cons (jn 2) ja_nil)))))))), ?_⟩
    refine ⟨b, rfl, ?_⟩
    cases b with
    | true =>
      refine ⟨a, rl, rs, rfl, hS, hD, hl, fn, hb, fun H1 s1 => ⟨C, rfl, T.Z, T.mro, fun x oe hx hoe => ?_⟩⟩
      exact ⟨x, oe, rfl, upd_same, hoe, fun H2 s2 => q H2 ((s1.trans (same_new hx)).trans s2)⟩
    | false =>
      refine ⟨a, rl, rs, rfl, hS, hD, hl, fn, (fun z => by rw [hb] at z; cases z), fun _ H1 s1 => ⟨C, rfl, T.Z, T.mro, fun x oe hx hoe => ?_⟩⟩
      exact ⟨x, oe, rfl, upd_same, hoe, fun H2 s2 => q H2 ((s1.trans (same_new hx)).trans s2)⟩
end
end K22

set_option Elab.async false
set_option linter.all false
set_option maxRecDepth 100000
set_option maxHeartbeats 4000000






--@RAISES but law
namespace K22
open PySem PySem.Spec PyProof.Rows L2 Rg
theorem DefX.toDef {P : Program} {w : World} {K : PySem.W.Frag} {mg : Str → Option Value} {base : Heap} {k : Nat} {x : Str} {ps : List Str} {sp : Sp} (D : DefX P w K mg base k x ps sp) : Def P w K mg base k x ps (fun vs H Q _ => sp vs H Q E0) := by
  obtain ⟨f, fd, h1, h2, h3, h4, F⟩ := D.ex
  refine ⟨f, fd, h1, h2, h3, h4, ⟨fun vs H Q E h => F.len vs H Q E0 h, fun A outer s H args us vs Q E hr e0 hb hv h => ?_⟩⟩
  refine codeAny_mono (F.run A outer s H args us vs Q E0 hr e0 hb hv h) fun r s' hq => ?_
  cases r with
  | error e => obtain ⟨_, _, _, _, _, _, _, _, _, _, _, _, hE⟩ := hq; exact hE.elim
  | ok fl => cases fl <;> exact hq
theorem ixN_nat {n j : Nat} (h : j < n) : ixN n ((j : Nat) : Int) = some j := by
  unfold ixN
  rw [if_pos (by omega), if_pos (by omega)]
  rfl
theorem dat_set {K : PySem.W.Frag} {H : Hp} {y : V} {e : PyData} (he : DatV K H y e) : ∀ {xs : List V} {ds : List PyData} (j : Nat), DatVs K H xs ds → DatVs K H (xs.set j y) (ds.set j e)
  | _, _, _, .nil => .nil
  | _, _, 0, .cons _ ht => .cons he ht
  | _, _, j + 1, .cons h1 ht => .cons h1 (dat_set he j ht)
theorem rl_lay {q : Rl} (h : Fine q) : q.dat.canLay0 = true := by
  unfold Rl.dat
  simp only [PyData.canLay0, PyData.canLayAll0, strOkL h.ls, h.sd, tx_lay (ks := q.ps) fun k hk => (h.lp k hk).1, Bool.and_self]
theorem rl_deep (q : Rl) : q.dat.depth ≤ 6 := by
  unfold Rl.dat
  have := tx_deep q.ps
  simp only [PyData.depth, PyData.depthAll]
  omega
theorem rls_lay : ∀ {rs : List Rl}, (∀ x ∈ rs, Fine x) → PyData.canLayAll0 (rs.map Rl.dat) = true
  | [], _ => by simp only [List.map_nil, PyData.canLayAll0]
  | q :: r, h => by rw [List.map_cons]; simp only [PyData.canLayAll0, rl_lay (h q List.mem_cons_self), rls_lay fun x hx => h x (List.mem_cons_of_mem _ hx), Bool.and_self]
theorem rls_deep : ∀ rs : List Rl, PyData.depthAll (rs.map Rl.dat) ≤ 7
  | [] => by simp only [List.map_nil, PyData.depthAll]; omega
  | q :: r => by
    have h1 := rl_deep q
    have h2 := rls_deep r
    rw [List.map_cons]
    simp only [PyData.depthAll]
    omega
section
variable {P : Program} {w : World} {K : PySem.W.Frag} {mg : Str → Option Value} {base : Heap} {C CG : Addr} {cs : List Addr}
def spLaw (K : PySem.W.Frag) : Sp := fun vs H Q _ => ∃ (a : Addr) (ns : List Int), vs = [.ref a] ∧ SqL K H a (ns.map V.int) ∧ ns.length ≤ 63 ∧ ∀ H', Q (.bl true) H'
abbrev st_law : Stmt := top 41
theorem sc_law : FnScope ["_law_script", "_law_way", "_law_names_here", "_law_rules", "_law_k", "_law_at", "_law_cell", "_law_kept", "_law_found"] ["_law_script"] (defScope st_law) := ⟨rfl, rfl, rfl, by decide +kernel, rfl, by decide +kernel, by decide +kernel⟩
theorem def_law (R : Raw K mg "law" st_law ["_law_script"]) (T : Txt K w mg) (D__law_cell_at : Def P w K mg base 1 "_law_cell_at" ["_law_script", "_law_k"] (spCell K)) (D__law_names : Def P w K mg base 1 "_law_names" ["_law_cell", "_law_many"] (spNames K))
    (D__law_rule : Def P w K mg base 2 "_law_rule" ["_law_cell", "_law_names_here"] (spRule K)) (D__law_spoiled : Def P w K mg base 2 "_law_spoiled" ["_law_rule_here", "_law_way", "_law_cell", "_law_names_here"] (spSpl K))
    (D__law_refused : Def P w K mg base 4 "_law_refused" ["_law_rules", "_law_plainly"] (spRef K)) (D_check_rules : Def P w K mg base 2 "check_rules" ["rules"] (fun vs H Q _ => spCks K C vs H Q E0)) : Def P w K mg base 5 "law" ["_law_script"] (spLaw K) := by
  refine R.defJ sc_law (fun vs H Q E h => ?_) (fun f cdv A outer s H vs Q E hr h => ?_)
  · obtain ⟨a, ns, rfl, _⟩ := h
    rfl
  · obtain ⟨a, ns, rfl, hS, hn, q⟩ := h
    have sc := sc_law
    have hu := hr.units
    have hb : (1000000 : Nat) < sizeLine := by rw [sizeLine_eq]; decide
    have w0 : 0 ≤ ns.getD 1 0 % 12 ∧ ns.getD 1 0 % 12 < 12 := by omega
    obtain ⟨wy, ewy⟩ : ∃ wy, wy = ns.getD 1 0 % 12 := ⟨_, rfl⟩
    rw [← ewy] at w0
    obtain ⟨u7, hP7, hq7⟩ : ∃ u, JSs (cxOf CX0 P w K mg base ["_law_script", "_law_way", "_law_names_here", "_law_rules", "_law_k", "_law_at", "_law_cell", "_law_kept", "_law_found"] "law" (defScope st_law) f cdv A outer s H E).nox ((defBody st_law).drop 7) u ∧
        ∀ (v2 v4 v5 v6 : Option V) (b : Addr) (rl : List V) (rs : List Rl) (H1 : Hp), SqL K H1 b rl → DatVs K H1 rl (rs.map Rl.dat) → rs.length ≤ 60 → (∀ x ∈ rs, Fine x) → rulesB rs = decide (wy = 0 ∨ wy = 11) →
          u { nx := fun _ H' => Q .non H', rt := Q } [some (.ref a), some (.int wy), v2, some (.ref b), v4, v5, v6, none, none] H1 := by
      refine ⟨_, (jss_cons (js_set (i := 7) sc.nd rfl (Or.inl rfl) (j_callTy (c_list (K := K)) rfl T.n_list boot_list (ja_cons (jn 3) ja_nil)))
    (jss_cons (js_if (jw_t (jw_or (jt_cmp (o_eqA hu (K := K)) (jn 1) j_int) (jw_or1 (jt_cmp (o_eqA hu (K := K)) (jn 1) j_int))))
    (jss_cons (js_set (i := 8) sc.nd rfl (Or.inl rfl) (j_def D_check_rules (hr.mono (by decide)) rfl (ja_cons (jn 3) ja_nil)))
    (jss_one (js_ret (j_and (j_cmp o_is (jn 8) j_non) (j_one (j_cmp (o_eqA hu (K := K)) (jn 3) (jn 7)))))))
    jss_nil)
    (jss_cons (js_if (jw_t (jw_or (jt_not (jt_val (j_def D__law_refused (hr.mono (by decide)) rfl (ja_cons (jn 3) (ja_cons j_bl ja_nil))))) (jw_or1 (jt_not (jt_val (j_def D__law_refused (hr.mono (by decide)) rfl (ja_cons (jn 3) (ja_cons j_bl ja_nil))))))))
    (jss_one (js_ret j_bl))
    jss_nil)
    (jss_one (js_ret (j_cmp (o_eqA hu (K := K)) (jn 3) (jn 7))))))), ?_⟩
      intro v2 v4 v5 v6 b rl rs H1 hb1 hd1 hl hok hB
      refine ⟨rl, .inl hb1, fun b2 hb2 => ?_⟩
      have s1 : Same H1 (upd H1 b2 (.lst rl)) := same_new hb2
      have h2 : SqL K (upd H1 b2 (.lst rl)) b2 rl := SqL.of upd_same
      generalize upd H1 b2 (.lst rl) = H2 at s1 h2 ⊢
      have lay : (PyData.list (rs.map Rl.dat)).canLay0 = true := by simp only [PyData.canLay0]; exact rls_lay hok
      have deep := rls_deep rs
      have last : ∀ H3, Same H2 H3 → gEqA K false (.ref b) (.ref b2) H3 Q := fun H3 s3 => by
        refine ⟨.list (rs.map Rl.dat), .list (rs.map Rl.dat), .list ((s1.trans s3).seq hb1) (hd1.same (s1.trans s3)), .list (s3.seq h2) (hd1.same (s1.trans s3)), lay, lay, by simp only [PyData.depth]; omega, ?_⟩
        rw [SeqAt.eqv_refl _ lay]
        exact q _
      by_cases hw : wy = 0 ∨ wy = 11
      · rw [decide_eq_true hw] at hB
        rcases hw with e | e <;> subst e
        · exact ⟨b, rl, rs, rfl, s1.seq hb1, hd1.same s1, hl, hok, fun _ H3 s3 => last H3 s3, fun z => by rw [hB] at z; cases z⟩
        · exact ⟨b, rl, rs, rfl, s1.seq hb1, hd1.same s1, hl, hok, fun _ H3 s3 => last H3 s3, fun z => by rw [hB] at z; cases z⟩
      · rw [decide_eq_false hw] at hB
        refine (if_neg (show ¬ (false ^^ decide (wy = 0)) = true by rw [Bool.false_xor]; exact fun z => hw (.inl (of_decide_eq_true z)))).mpr ?_
        refine (if_neg (show ¬ (false ^^ decide (wy = 11)) = true by rw [Bool.false_xor]; exact fun z => hw (.inr (of_decide_eq_true z)))).mpr ?_
        refine ⟨b, rl, rs, false, rfl, s1.seq hb1, hd1.same s1, hl, hok, hB, fun H3 s3 => ?_⟩
        refine ⟨b, rl, rs, true, rfl, (s1.trans s3).seq hb1, hd1.same (s1.trans s3), hl, hok, hB, fun H4 s4 => ?_⟩
        exact last H4 (s3.trans s4)
    obtain ⟨u4, hP4, hq4⟩ : ∃ u, JSs (cxOf CX0 P w K mg base ["_law_script", "_law_way", "_law_names_here", "_law_rules", "_law_k", "_law_at", "_law_cell", "_law_kept", "_law_found"] "law" (defScope st_law) f cdv A outer s H E).nox ((defBody st_law).drop 4) u ∧
        ∀ (c0 : Int) (l b : Addr) (v4 : Option V) (rl : List V) (rs : List Rl) (H1 : Hp), SqL K H1 a (ns.map V.int) → SqL K H1 l (nmV c0) → l ≠ b → H1 b = some (.lst rl) → DatVs K H1 rl (rs.map Rl.dat) → 1 ≤ rs.length → rs.length ≤ 24 → (∀ x ∈ rs, Gd x) →
          u { nx := fun _ H' => Q .non H', rt := Q } [some (.ref a), some (.int wy), some (.ref l), some (.ref b), v4, none, none, none, none] H1 := by
      refine ⟨_, (jss_cons (js_set (i := 5) sc.nd rfl (Or.inl rfl) (j_op o_mod (j_def D__law_cell_at (hr.mono (by decide)) rfl (ja_cons (jn 0) (ja_cons j_int ja_nil))) (j_callB (c_len (K := K)) rfl T.n_len PySem.boot_len (ja_cons (jn 3) ja_nil))))
    (jss_cons (js_set (i := 6) sc.nd rfl (Or.inl rfl) (j_op o_div (j_def D__law_cell_at (hr.mono (by decide)) rfl (ja_cons (jn 0) (ja_cons j_int ja_nil))) j_int))
    (jss_cons (js_if (jt_cmp (o_eqA hu (K := K)) (jn 1) j_int)
    (jss_one (js_set (i := 3) sc.nd rfl (Or.inl rfl) (j_lst ja_nil)))
    (jss_one (js_if (jt_cmp (o_eqA hu (K := K)) (jn 1) j_int)
    (jss_one (js_while PassesOwn.never (jt_cmp o_lt (j_callB (c_len (K := K)) rfl T.n_len PySem.boot_len (ja_cons (jn 3) ja_nil)) (j_op (o_add (K := K)) j_int (j_op o_mod (jn 6) j_int)))
    (jss_one (js_expr (j_bm (K := K) PySem.F.plainAttrs_list PySem.F.slot_list_append PySem.F.type_list_append m_append (jn 3) (ja_cons (j_ix (o_ix hu (K := K) (w := w)) (jn 3) (j_op o_div (j_callB (c_len (K := K)) rfl T.n_len PySem.boot_len (ja_cons (jn 3) ja_nil)) j_int)) ja_nil))))))
    (jss_one (js_asg (j_def D__law_spoiled (hr.mono (by decide)) rfl (ja_cons (j_ix (o_ix hu (K := K) (w := w)) (jn 3) (jn 5)) (ja_cons (jn 1) (ja_cons (jn 6) (ja_cons (jn 2) ja_nil))))) (jg_sub (jn 3) (jn 5)))))))
    hP7))), ?_⟩
      intro c0 l b v4 rl rs H1 hS1 hN1 hlb hb1 hd1 h1 h24 gd
      have hrl : rl.length = rs.length := by have := hd1.length; rw [List.length_map] at this; exact this
      have fn : ∀ x ∈ rs, Fine x := fun x hx => (gd x hx).fn
      refine ⟨a, ns, 2, rfl, hS1, _, .inl (SqL.of hb1), show (0 : Int) < ((rl.length : Nat) : Int) by omega, ?_⟩
      have a0 := Int.emod_nonneg (ns.getD 2 0) (show ((rl.length : Nat) : Int) ≠ 0 by omega)
      have a1 := Int.emod_lt_of_pos (ns.getD 2 0) (show (0 : Int) < ((rl.length : Nat) : Int) by omega)
      obtain ⟨j, ej⟩ : ∃ j : Nat, ns.getD 2 0 % ((rl.length : Nat) : Int) = (j : Int) := ⟨(ns.getD 2 0 % ((rl.length : Nat) : Int)).toNat, by omega⟩
      rw [ej] at a1 ⊢
      have hj : j < rl.length := by omega
      refine ⟨a, ns, 1, rfl, hS1, ⟨by decide, by decide⟩, ?_⟩
      generalize ns.getD 1 0 / 12 = c1
      show if (false ^^ decide (wy = 1)) = true then _ else _
      rw [Bool.false_xor]
      refine ite2 (fun e => ?_) (fun e1 => ?_)
      · -- none
        have e := of_decide_eq_true e
        refine ⟨(show 0 ≤ sizeLine by decide), fun p hp => ?_⟩
        exact hq7 _ _ _ _ p [] [] _ (SqL.of upd_same) .nil (by decide) (fun x hx => by cases hx) (by rw [e]; decide)
      show if (false ^^ decide (wy = 2)) = true then _ else _
      rw [Bool.false_xor]
      refine ite2 (fun e => ?_) (fun e2 => ?_)
      · -- too many
        have e := of_decide_eq_true e
        have hc9 : 25 ≤ 25 + c1 % 9 ∧ 25 + c1 % 9 ≤ 33 := by omega
        refine ⟨fun m σ H' => ∃ (rl : List V) (rs : List Rl), m = 40 - rs.length ∧ H' b = some (.lst rl) ∧ DatVs K H' rl (rs.map Rl.dat) ∧ 1 ≤ rs.length ∧ rs.length ≤ 33 ∧ (∀ x ∈ rs, Fine x) ∧ σ = [some (.ref a), some (.int wy), some (.ref l), some (.ref b), v4, some (.int (j : Int)), some (.int c1), none, none],
          ⟨_, rl, rs, rfl, hb1, hd1, h1, by omega, fn, rfl⟩, ?_⟩
        rintro m σ H' ⟨rl, rs, rfl, hb2, hd2, k1, k33, fn2, rfl⟩
        have hrl2 : rl.length = rs.length := by have := hd2.length; rw [List.length_map] at this; exact this
        refine ⟨_, .inl (SqL.of hb2), by decide, ?_⟩
        show if decide (((rl.length : Nat) : Int) < 25 + c1 % 9) = true then _ else _
        refine ite2 (fun h => ?_) (fun h => ?_)
        · have hlt := of_decide_eq_true h
          refine ⟨fun σ' H' => ∃ (rl : List V) (rs' : List Rl), rs'.length = rs.length + 1 ∧ H' b = some (.lst rl) ∧ DatVs K H' rl (rs'.map Rl.dat) ∧ (∀ x ∈ rs', Fine x) ∧ σ' = [some (.ref a), some (.int wy), some (.ref l), some (.ref b), v4, some (.int (j : Int)), some (.int c1), none, none], ?_, ?_⟩
          · rintro σ' H'' ⟨rl', rs', e', hb', hd', fn', rfl⟩
            exact ⟨_, by omega, rl', rs', rfl, hb', hd', by omega, by omega, fn', rfl⟩
          · refine ⟨.inl ⟨rfl, _, SqL.of hb2⟩, _, .inl (SqL.of hb2), ⟨by decide, by decide⟩, ?_⟩
            have hi : rl.length / 2 < rl.length := by omega
            have hx : rl[rl.length / 2]? = some rl[rl.length / 2] := List.getElem?_eq_getElem hi
            generalize rl[rl.length / 2] = x at hx
            have ei : (((rl.length : Nat) : Int)) / 2 = ((rl.length / 2 : Nat) : Int) := by omega
            obtain ⟨dd, hdd, hxd⟩ := hd2.get hx
            rw [List.getElem?_map] at hdd
            cases ee : rs[rl.length / 2]? with
            | none => rw [ee] at hdd; cases hdd
            | some g =>
              rw [ee] at hdd
              have ed : dd = g.dat := (Option.some.inj hdd).symm
              subst ed
              refine .inl ⟨_, x, SqL.of hb2, by rw [ei]; exact atI_nat hx, ?_⟩
              refine ⟨rl, hb2, by omega, ?_⟩
              refine ⟨_, rs ++ [g], by rw [List.length_append]; rfl, upd_same, ?_, fun y hy => ?_, rfl⟩
              · rw [List.map_append]
                exact DatVs.snoc (rl_upd ⟨_, hb2⟩ hxd) (rls_upd ⟨_, hb2⟩ hd2)
              · rcases List.mem_append.mp hy with z | z
                · exact fn2 y z
                · rw [List.mem_singleton.mp z]; exact fn2 g (List.mem_of_getElem? ee)
        · have hge : ¬ ((rl.length : Nat) : Int) < 25 + c1 % 9 := fun z => h (decide_eq_true z)
          refine hq7 _ _ _ _ b rl rs _ (SqL.of hb2) hd2 (by omega) fn2 ?_
          rw [e]
          refine Bool.eq_false_iff.mpr fun z => ?_
          have := ((rulesB_iff rs).mp z).2.1
          omega
      · -- one of them spoilt
        have n1 : ¬ wy = 1 := fun z => e1 (decide_eq_true z)
        have n2 : ¬ wy = 2 := fun z => e2 (decide_eq_true z)
        have hx : rl[j]? = some rl[j] := List.getElem?_eq_getElem hj
        generalize rl[j] = x at hx
        obtain ⟨dd, hdd, hxd⟩ := hd1.get hx
        rw [List.getElem?_map] at hdd
        cases ee : rs[j]? with
        | none => rw [ee] at hdd; cases hdd
        | some g =>
          rw [ee] at hdd
          have ed : dd = g.dat := (Option.some.inj hdd).symm
          subst ed
          have gg := gd g (List.mem_of_getElem? ee)
          obtain ⟨t, tp, rfl, _, _⟩ := dat_rl hxd
          refine .inl ⟨_, .ref t, SqL.of hb1, atI_nat hx, ?_⟩
          refine ⟨t, g, wy, c1, c0, l, rfl, hxd, gg, hN1, by omega, fun H2 t2 q2 s2 hd2 fn2 ok2 => ?_⟩
          refine ⟨b, rl, (j : Int), j, rfl, rfl, s2 _ _ hb1, ixN_nat hj, ?_⟩
          have hb2 := s2 _ _ hb1
          refine hq7 _ _ _ _ b (rl.set j (.ref t2)) (rs.set j q2) _ (SqL.of upd_same) ?_ (by rw [List.length_set]; omega) (fun y hy => ?_) ?_
          · rw [List.map_set]
            exact dat_set (rl_upd ⟨_, hb2⟩ hd2) j (rls_upd ⟨_, hb2⟩ (hd1.same s2))
          · rcases List.mem_or_eq_of_mem_set hy with z | z
            · exact fn y z
            · rw [z]; exact fn2
          · have hjr : j < rs.length := by omega
            by_cases hw : wy = 0 ∨ wy = 11
            · rw [decide_eq_true hw] at ok2 ⊢
              refine (rulesB_iff _).mpr ⟨by rw [List.length_set]; omega, by rw [List.length_set]; omega, fun y hy => ?_⟩
              rcases List.mem_or_eq_of_mem_set hy with z | z
              · exact (gd y z).ok
              · rw [z]; exact ok2
            · rw [decide_eq_false hw] at ok2 ⊢
              refine Bool.eq_false_iff.mpr fun z => ?_
              have := ((rulesB_iff _).mp z).2.2 q2 (List.mem_set hjr _)
              rw [ok2] at this; cases this
    refine ⟨_, (jss_cons (js_set (i := 1) sc.nd rfl (Or.inl rfl) (j_op o_mod (j_def D__law_cell_at (hr.mono (by decide)) rfl (ja_cons (jn 0) (ja_cons j_int ja_nil))) j_int))
    (jss_cons (js_set (i := 2) sc.nd rfl (Or.inl rfl) (j_def D__law_names (hr.mono (by decide)) rfl (ja_cons (j_op o_div (j_def D__law_cell_at (hr.mono (by decide)) rfl (ja_cons (jn 0) (ja_cons j_int ja_nil))) j_int) (ja_cons j_int ja_nil))))
    (jss_cons (js_set (i := 3) sc.nd rfl (Or.inl rfl) (j_lst ja_nil))
    (jss_cons (js_for PassesOwn.never rfl (ji_rng1 rfl T.n_range (ja_cons (j_op (o_add (K := K)) j_int (j_op o_mod (j_def D__law_cell_at (hr.mono (by decide)) rfl (ja_cons (jn 0) (ja_cons j_int ja_nil))) j_int)) ja_nil)) (jg_name (i := 4) sc.nd rfl (Or.inl rfl))
    (jss_one (js_expr (j_bm (K := K) PySem.F.plainAttrs_list PySem.F.slot_list_append PySem.F.type_list_append m_append (jn 3) (ja_cons (j_def D__law_rule (hr.mono (by decide)) rfl (ja_cons (j_def D__law_cell_at (hr.mono (by decide)) rfl (ja_cons (jn 0) (ja_cons (j_op (o_add (K := K)) j_int (jn 4)) ja_nil))) (ja_cons (jn 2) ja_nil))) ja_nil)))))
    hP4)))), ?_⟩
    refine ⟨a, ns, 1, rfl, hS, by decide, ?_⟩
    rw [← ewy]
    refine ⟨a, ns, 0, rfl, hS, ⟨by decide, by decide⟩, ?_⟩
    refine ⟨ns.getD 0 0 / 24, 12, rfl, by decide, fun H1 l s1 hl0 hl1 => ?_⟩
    refine ⟨(show 0 ≤ sizeLine by decide), fun b hb0 => ?_⟩
    have s2 : Same H1 (upd H1 b (.lst [])) := same_new hb0
    have h2 : upd H1 b (.lst []) b = some (.lst []) := upd_same
    have hlb : l ≠ b := fun z => by rw [z, hb0] at hl1; cases hl1
    generalize upd H1 b (.lst []) = H2 at s2 h2 ⊢
    refine ⟨a, ns, 0, rfl, (s1.trans s2).seq hS, by decide, ?_⟩
    refine ⟨show -(2 ^ 62) ≤ 1 + ns.getD 0 0 % 24 by omega, show 1 + ns.getD 0 0 % 24 < 2 ^ 62 by omega, ?_⟩
    refine for_range (n := (1 + ns.getD 0 0 % 24).toNat) (fun i σ H' => ∃ (v4 : Option V) (rl : List V) (rs : List Rl), Same H1 H' ∧ H' b = some (.lst rl) ∧ DatVs K H' rl (rs.map Rl.dat) ∧ rs.length = i ∧ (∀ x ∈ rs, Gd x) ∧ σ = [some (.ref a), some (.int wy), some (.ref l), some (.ref b), v4, none, none, none, none])
      ⟨none, [], [], s2, h2, .nil, rfl, (fun x hx => by cases hx), rfl⟩ ?_ ?_
    · rintro i σ H' hi ⟨v4, rl, rs, s3, hb3, hd3, hrs, gd3, rfl⟩
      have hrl : rl.length = rs.length := by have := hd3.length; rw [List.length_map] at this; exact this
      have e3 : (3 : Int) + (0 + ((i : Nat) : Int)) = ((3 + i : Nat) : Int) := by omega
      refine ⟨.inl ⟨rfl, _, SqL.of hb3⟩, a, ns, 3 + i, congrArg (fun z => [V.ref a, V.int z]) e3, (s1.trans s3).seq hS, ?_⟩
      refine ⟨_, ns.getD 0 0 / 24, l, rfl, s3.seq (SqL.of hl1), fun H4 t q4 s4 hd4 gd4 => ?_⟩
      have hb4 := s4 _ _ hb3
      refine ⟨rl, hb4, by omega, ?_⟩
      refine ⟨_, rl ++ [.ref t], rs ++ [q4], fun x u ex => ?_, upd_same, ?_, by rw [List.length_append, hrs]; rfl, fun y hy => ?_, rfl⟩
      · rw [upd_ne fun z => by rw [z, hb0] at ex; cases ex]
        exact s4 _ _ (s3 x u ex)
      · rw [List.map_append]
        exact DatVs.snoc (rl_upd ⟨_, hb4⟩ hd4) (rls_upd ⟨_, hb4⟩ (hd3.same s4))
      · rcases List.mem_append.mp hy with z | z
        · exact gd3 y z
        · rw [List.mem_singleton.mp z]; exact gd4
    · rintro σ H' ⟨v4, rl, rs, s3, hb3, hd3, hrs, gd3, rfl⟩
      exact hq4 (ns.getD 0 0 / 24) l b v4 rl rs H' ((s1.trans s3).seq hS) (s3.seq (SqL.of hl1)) hlb hb3 hd3 (by omega) (by omega) gd3
theorem law_of {tS tN : Addr} (R0 : Raw K mg "check_rules" st_check_rules ["rules"]) (R1 : Raw K mg "check_rule" st_check_rule ["sort", "rank", "side", "parts"]) (R2 : Raw K mg "plain_rules" st_plain_rules ["rules"]) (R3 : Raw K mg "_law_cell_at" st__law_cell_at ["_law_script", "_law_k"])
    (R4 : Raw K mg "_law_names" st__law_names ["_law_cell", "_law_many"]) (R5 : Raw K mg "_law_mixed" st__law_mixed ["_law_cell", "_law_k"]) (R6 : Raw K mg "_law_rule" st__law_rule ["_law_cell", "_law_names_here"]) (R7 : Raw K mg "_law_spoiled" st__law_spoiled ["_law_rule_here", "_law_way", "_law_cell", "_law_names_here"])
    (R8 : Raw K mg "_law_right_class" st__law_right_class ["_law_error"]) (R9 : Raw K mg "_law_refused" st__law_refused ["_law_rules", "_law_plainly"]) (R10 : Raw K mg "law" st_law ["_law_script"]) (T : Txt K w mg) (TN : TxN K mg tS tN C) (T2 : Cls K mg C CG cs) : Def P w K mg base 5 "law" ["_law_script"] (spLaw K) :=
  have Dk : DefX P w K mg base 2 "check_rules" ["rules"] (spCks K C) := def_cks R0 TN (def_ck R1 TN)
  def_law R10 T (def_cell R3 T) (def_names R4 T) (def_rule R6 T (def_mix R5)) (def_spoiled R7 T (def_mix R5)) (def_refused R9 T2 Dk (def_plain R2 Dk) (def_rc R8 T2)) (DefX.toDef Dk)
end
theorem cls_mk {K : PySem.W.Frag} {mg : Str → Option Value} {h : Heap} {C CG b0 b1 b2 b3 b4 b5 b6 b7 b8 b9 : Addr} (X : K.In h) (G : h.Ns mainGlobals mg) (n1 : mg "isinstance" = none) (n2 : mg "ValueError" = none) (n3 : mg "any" = none)
    (a1 : PySem.W.nsIn K mainGlobals "NoRule" = some (some (.ref C))) (a2 : PySem.W.nsIn K mainGlobals "GrowthError" = some (some (.ref CG))) (xg : PySem.W.excIn K CG bmVE "ValueError.__new__" = true)
    (c0 : PySem.W.nsIn K mainGlobals "NoFloor" = some (some (.ref b0))) (c1 : PySem.W.nsIn K mainGlobals "Barren" = some (some (.ref b1))) (c2 : PySem.W.nsIn K mainGlobals "Idle" = some (some (.ref b2))) (c3 : PySem.W.nsIn K mainGlobals "Clash" = some (some (.ref b3)))
    (c4 : PySem.W.nsIn K mainGlobals "TooLarge" = some (some (.ref b4))) (c5 : PySem.W.nsIn K mainGlobals "Stuck" = some (some (.ref b5))) (c6 : PySem.W.nsIn K mainGlobals "NoFit" = some (some (.ref b6))) (c7 : PySem.W.nsIn K mainGlobals "NoForm" = some (some (.ref b7)))
    (c8 : PySem.W.nsIn K mainGlobals "NoRow" = some (some (.ref b8))) (c9 : PySem.W.nsIn K mainGlobals "TooLong" = some (some (.ref b9)))
    (z1 : PySem.W.excIn K C bmVE "ValueError.__new__" = true)
    (z2 : PySem.W.findIn K (.ref C) "__getattribute__" = some (some (.builtin "BaseException.__getattribute__"))) (z3 : PySem.W.findIn K (.ref C) "__getattr__" = some none)
    (z4 : PySem.W.findIn K (.ref C) "__class__" = some (some (.builtin "object.__class__"))) (z5 : PySem.W.mroIn K C (.type "object") = some true) (up : PySem.W.mroIn K C (.ref CG) = some true)
    (ve : PySem.W.kitOne K (.ref C) (.type "ValueError") = some true) (ve2 : PySem.W.kitOne K (.ref C) (.ref CG) = some true) (no0 : PySem.W.kitOne K (.ref C) (.ref b0) = some false) (no1 : PySem.W.kitOne K (.ref C) (.ref b1) = some false) (no2 : PySem.W.kitOne K (.ref C) (.ref b2) = some false)
    (no3 : PySem.W.kitOne K (.ref C) (.ref b3) = some false) (no4 : PySem.W.kitOne K (.ref C) (.ref b4) = some false) (no5 : PySem.W.kitOne K (.ref C) (.ref b5) = some false) (no6 : PySem.W.kitOne K (.ref C) (.ref b6) = some false) (no7 : PySem.W.kitOne K (.ref C) (.ref b7) = some false)
    (no8 : PySem.W.kitOne K (.ref C) (.ref b8) = some false) (no9 : PySem.W.kitOne K (.ref C) (.ref b9) = some false) : ∃ C CG cs, Cls K mg C CG cs := by
  have hup : mroHas K C (.ref CG) = true := by
    obtain ⟨cd, a, b⟩ := Option.bind_eq_some_iff.mp up
    unfold PySem.W.clsIn at a
    split at a
    · rename_i ho
      cases a
      split at b
      · cases b
      · unfold mroHas
        rw [ho]
        exact Option.some.inj b
    · cases a
  have hself : PySem.W.kitOne K (.ref C) (.ref C) = some true := by unfold PySem.W.kitOne; rw [if_pos (beq_self_eq_true _)]
  refine ⟨C, CG, [b0, b1, b2, b3, b4, b5, b6, b7, b8, b9], ⟨n1, n2, n3, PySem.W.mg_of X G a1, PySem.W.mg_of X G a2, xg, PySem.W.mg_of X G c0, PySem.W.mg_of X G c1, PySem.W.mg_of X G c2, PySem.W.mg_of X G c3, PySem.W.mg_of X G c4, PySem.W.mg_of X G c5, PySem.W.mg_of X G c6, PySem.W.mg_of X G c7, PySem.W.mg_of X G c8, PySem.W.mg_of X G c9, ⟨z1, z2, z3, z4, z5⟩, hup, hself, ve2, ve, fun i hi => ?_⟩⟩
  match i, hi with
  | 0, _ => exact no0
  | 1, _ => exact no1
  | 2, _ => exact no2
  | 3, _ => exact no3
  | 4, _ => exact no4
  | 5, _ => exact no5
  | 6, _ => exact no6
  | 7, _ => exact no7
  | 8, _ => exact no8
  | 9, _ => exact no9
end K22

open PySem PySem.W PyProof.Rows
set_option Elab.async false
set_option linter.all false
namespace L2
theorem ofLen0 {p : List Value → Prop} (h : Unit → p []) : ∀ us, us.length = 0 → p us := fun us e => by rw [List.length_eq_zero_iff.mp e]; exact h ()
theorem ofLen1 {p : List Value → Prop} (h : ∀ a, p [a]) : ∀ us, us.length = 1 → p us := fun us e => by obtain ⟨a, rfl⟩ := List.length_eq_one_iff.mp e; exact h a
theorem ofLen2 {p : List Value → Prop} (h : ∀ a b, p [a, b]) : ∀ us, us.length = 2 → p us := fun us e => match us with
  | [] => by cases e
  | a :: r => ofLen1 (p := fun z => p (a :: z)) (h a) r (Nat.succ.inj e)
theorem ofLen3 {p : List Value → Prop} (h : ∀ a b c, p [a, b, c]) : ∀ us, us.length = 3 → p us := fun us e => match us with
  | [] => by cases e
  | a :: r => ofLen2 (p := fun z => p (a :: z)) (h a) r (Nat.succ.inj e)
theorem ofLen4 {p : List Value → Prop} (h : ∀ a b c d, p [a, b, c, d]) : ∀ us, us.length = 4 → p us := fun us e => match us with
  | [] => by cases e
  | a :: r => ofLen3 (p := fun z => p (a :: z)) (h a) r (Nat.succ.inj e)
theorem ofLen5 {p : List Value → Prop} (h : ∀ a b c d e, p [a, b, c, d, e]) : ∀ us, us.length = 5 → p us := fun us e => match us with
  | [] => by cases e
  | a :: r => ofLen4 (p := fun z => p (a :: z)) (h a) r (Nat.succ.inj e)
theorem ofLen6 {p : List Value → Prop} (h : ∀ a b c d e f, p [a, b, c, d, e, f]) : ∀ us, us.length = 6 → p us := fun us e => match us with
  | [] => by cases e
  | a :: r => ofLen5 (p := fun z => p (a :: z)) (h a) r (Nat.succ.inj e)
theorem ofLen7 {p : List Value → Prop} (h : ∀ a b c d e f g, p [a, b, c, d, e, f, g]) : ∀ us, us.length = 7 → p us := fun us e => match us with
  | [] => by cases e
  | a :: r => ofLen6 (p := fun z => p (a :: z)) (h a) r (Nat.succ.inj e)
theorem ofLen8 {p : List Value → Prop} (h : ∀ a b c d e f g h, p [a, b, c, d, e, f, g, h]) : ∀ us, us.length = 8 → p us := fun us e => match us with
  | [] => by cases e
  | a :: r => ofLen7 (p := fun z => p (a :: z)) (h a) r (Nat.succ.inj e)
end L2
set_option maxRecDepth 100000 in
set_option maxHeartbeats 0 in
theorem PySem.Challenge.cw_regrowth_k22_no_rules_holds : PySem.Challenge.rw_regrowth_k22_no_rules.Holds := by
  w_on; o_law; k_head; (case hw => w_witness2)
  k_fill
  refine L2.walk_ofK (l := PySem.Challenge.rw_regrowth_k22_no_rules) (n := 63) (k := 5) (x := "_law_script") (CX := L2.CX0) (sp := K22.spLaw) rfl (by decide) rfl ⟨rfl, by decide, by decide, rfl⟩ (fun w h Y => PySem.W.kIn_of Y) ?F ?S ?C
  case F =>
    intro w mg fa h KX G hmg
    have R0 : L2.Raw (L2.KOf KX) mg "check_rules" K22.st_check_rules ["rules"] := by
      dsimp only [L2.KOf]
      refine' L2.Raw.mk' KX G ?a0 ?l0 ?c0 ?k0 ?b0
      (case a0 => k_is)
      (case l0 => k_is)
      (case c0 => k_is)
      (case k0 => k_is)
      exact L2.ofLen1 fun _ => rfl
    have R1 : L2.Raw (L2.KOf KX) mg "check_rule" K22.st_check_rule ["sort", "rank", "side", "parts"] := by
      dsimp only [L2.KOf]
      refine' L2.Raw.mk' KX G ?a1 ?l1 ?c1 ?k1 ?b1
      (case a1 => k_is)
      (case l1 => k_is)
      (case c1 => k_is)
      (case k1 => k_is)
      exact L2.ofLen4 fun _ _ _ _ => rfl
    have R2 : L2.Raw (L2.KOf KX) mg "plain_rules" K22.st_plain_rules ["rules"] := by
      dsimp only [L2.KOf]
      refine' L2.Raw.mk' KX G ?a2 ?l2 ?c2 ?k2 ?b2
      (case a2 => k_is)
      (case l2 => k_is)
      (case c2 => k_is)
      (case k2 => k_is)
      exact L2.ofLen1 fun _ => rfl
    have R3 : L2.Raw (L2.KOf KX) mg "_law_cell_at" K22.st__law_cell_at ["_law_script", "_law_k"] := by
      dsimp only [L2.KOf]
      refine' L2.Raw.mk' KX G ?a3 ?l3 ?c3 ?k3 ?b3
      (case a3 => k_is)
      (case l3 => k_is)
      (case c3 => k_is)
      (case k3 => k_is)
      exact L2.ofLen2 fun _ _ => rfl
    have R4 : L2.Raw (L2.KOf KX) mg "_law_names" K22.st__law_names ["_law_cell", "_law_many"] := by
      dsimp only [L2.KOf]
      refine' L2.Raw.mk' KX G ?a4 ?l4 ?c4 ?k4 ?b4
      (case a4 => k_is)
      (case l4 => k_is)
      (case c4 => k_is)
      (case k4 => k_is)
      exact L2.ofLen2 fun _ _ => rfl
    have R5 : L2.Raw (L2.KOf KX) mg "_law_mixed" K22.st__law_mixed ["_law_cell", "_law_k"] := by
      dsimp only [L2.KOf]
      refine' L2.Raw.mk' KX G ?a5 ?l5 ?c5 ?k5 ?b5
      (case a5 => k_is)
      (case l5 => k_is)
      (case c5 => k_is)
      (case k5 => k_is)
      exact L2.ofLen2 fun _ _ => rfl
    have R6 : L2.Raw (L2.KOf KX) mg "_law_rule" K22.st__law_rule ["_law_cell", "_law_names_here"] := by
      dsimp only [L2.KOf]
      refine' L2.Raw.mk' KX G ?a6 ?l6 ?c6 ?k6 ?b6
      (case a6 => k_is)
      (case l6 => k_is)
      (case c6 => k_is)
      (case k6 => k_is)
      exact L2.ofLen2 fun _ _ => rfl
    have R7 : L2.Raw (L2.KOf KX) mg "_law_spoiled" K22.st__law_spoiled ["_law_rule_here", "_law_way", "_law_cell", "_law_names_here"] := by
      dsimp only [L2.KOf]
      refine' L2.Raw.mk' KX G ?a7 ?l7 ?c7 ?k7 ?b7
      (case a7 => k_is)
      (case l7 => k_is)
      (case c7 => k_is)
      (case k7 => k_is)
      exact L2.ofLen4 fun _ _ _ _ => rfl
    have R8 : L2.Raw (L2.KOf KX) mg "_law_right_class" K22.st__law_right_class ["_law_error"] := by
      dsimp only [L2.KOf]
      refine' L2.Raw.mk' KX G ?a8 ?l8 ?c8 ?k8 ?b8
      (case a8 => k_is)
      (case l8 => k_is)
      (case c8 => k_is)
      (case k8 => k_is)
      exact L2.ofLen1 fun _ => rfl
    have R9 : L2.Raw (L2.KOf KX) mg "_law_refused" K22.st__law_refused ["_law_rules", "_law_plainly"] := by
      dsimp only [L2.KOf]
      refine' L2.Raw.mk' KX G ?a9 ?l9 ?c9 ?k9 ?b9
      (case a9 => k_is)
      (case l9 => k_is)
      (case c9 => k_is)
      (case k9 => k_is)
      exact L2.ofLen2 fun _ _ => rfl
    have R10 : L2.Raw (L2.KOf KX) mg "law" K22.st_law ["_law_script"] := by
      dsimp only [L2.KOf]
      refine' L2.Raw.mk' KX G ?a10 ?l10 ?c10 ?k10 ?b10
      (case a10 => k_is)
      (case l10 => k_is)
      (case c10 => k_is)
      (case k10 => k_is)
      exact L2.ofLen1 fun _ => rfl
    have n_ValueError : mg "ValueError" = none := PySem.W.mg_none_of KX G (by k_is)
    have n_any : mg "any" = none := PySem.W.mg_none_of KX G (by k_is)
    have n_int : mg "int" = none := PySem.W.mg_none_of KX G (by k_is)
    have n_isinstance : mg "isinstance" = none := PySem.W.mg_none_of KX G (by k_is)
    have n_len : mg "len" = none := PySem.W.mg_none_of KX G (by k_is)
    have n_list : mg "list" = none := PySem.W.mg_none_of KX G (by k_is)
    have n_range : mg "range" = none := PySem.W.mg_none_of KX G (by k_is)
    have n_tuple : mg "tuple" = none := PySem.W.mg_none_of KX G (by k_is)
    have g_MOST_RULES : ∃ t, mg "MOST_RULES" = some (.int 24 t) := by
      refine' L2.int_mk KX G ?aMOST_RULES
      (case aMOST_RULES => k_is)
    have g_MOST_RANK : ∃ t, mg "MOST_RANK" = some (.int 99 t) := by
      refine' L2.int_mk KX G ?aMOST_RANK
      (case aMOST_RANK => k_is)
    have g_MOST_PARTS : ∃ t, mg "MOST_PARTS" = some (.int 8 t) := by
      refine' L2.int_mk KX G ?aMOST_PARTS
      (case aMOST_PARTS => k_is)
    have g_SIDES : ∃ t, mg "SIDES" = some (.ref t) ∧ ∀ H, L2.SqT (L2.KOf KX) H t [.str "left", .str "right", .str "none"] := by
      dsimp only [L2.KOf]
      refine' L2.tup_mk KX G ?aSIDES ?lSIDES ?zSIDES ?vSIDES
      (case aSIDES => k_is)
      (case lSIDES => k_is)
      (case zSIDES => decide)
      (case vSIDES => exact .cons ⟨_, rfl⟩ (.cons ⟨_, rfl⟩ (.cons ⟨_, rfl⟩ .nil)))
    obtain ⟨a_SIDES, g_SIDES, k_SIDES⟩ := g_SIDES
    have g_NO_NAMES : ∃ t, mg "NO_NAMES" = some (.ref t) ∧ ∀ H, L2.SqT (L2.KOf KX) H t [.str "", .str "end", .str "stray"] := by
      dsimp only [L2.KOf]
      refine' L2.tup_mk KX G ?aNO_NAMES ?lNO_NAMES ?zNO_NAMES ?vNO_NAMES
      (case aNO_NAMES => k_is)
      (case lNO_NAMES => k_is)
      (case zNO_NAMES => decide)
      (case vNO_NAMES => exact .cons ⟨_, rfl⟩ (.cons ⟨_, rfl⟩ (.cons ⟨_, rfl⟩ .nil)))
    obtain ⟨a_NO_NAMES, g_NO_NAMES, k_NO_NAMES⟩ := g_NO_NAMES
    have T2 : ∃ C CG cs, K22.Cls (L2.KOf KX) mg C CG cs := by
      dsimp only [L2.KOf]
      refine' K22.cls_mk KX G n_isinstance n_ValueError n_any ?a1 ?a2 ?xg ?c0 ?c1 ?c2 ?c3 ?c4 ?c5 ?c6 ?c7 ?c8 ?c9 ?z1 ?z2 ?z3 ?z4 ?z5 ?up ?ve ?ve2 ?no0 ?no1 ?no2 ?no3 ?no4 ?no5 ?no6 ?no7 ?no8 ?no9
      (case a1 => k_is)
      (case a2 => k_is)
      (case xg => first | k_exc | rfl | decide)
      (case c0 => k_is)
      (case c1 => k_is)
      (case c2 => k_is)
      (case c3 => k_is)
      (case c4 => k_is)
      (case c5 => k_is)
      (case c6 => k_is)
      (case c7 => k_is)
      (case c8 => k_is)
      (case c9 => k_is)
      (case z1 => first | k_exc | rfl | decide)
      (case z2 => k_is)
      (case z3 => k_is)
      (case z4 => k_is)
      (case z5 => k_is)
      (case up => k_is)
      (case ve => first | kit_is | rfl | decide)
      (case ve2 => first | kit_is | rfl | decide)
      (case no0 => first | kit_is | rfl | decide)
      (case no1 => first | kit_is | rfl | decide)
      (case no2 => first | kit_is | rfl | decide)
      (case no3 => first | kit_is | rfl | decide)
      (case no4 => first | kit_is | rfl | decide)
      (case no5 => first | kit_is | rfl | decide)
      (case no6 => first | kit_is | rfl | decide)
      (case no7 => first | kit_is | rfl | decide)
      (case no8 => first | kit_is | rfl | decide)
      (case no9 => first | kit_is | rfl | decide)
    obtain ⟨C, CG, cs, T2⟩ := T2
    have T : K22.Txt (L2.KOf KX) w mg := ⟨n_len, n_list, n_int, n_range, n_tuple, n_any⟩
    have TN : K22.TxN (L2.KOf KX) mg a_SIDES a_NO_NAMES C := ⟨n_len, n_any, g_MOST_RULES, g_MOST_RANK, g_MOST_PARTS, g_SIDES, g_NO_NAMES, k_SIDES, k_NO_NAMES, T2.c_NoRule, T2.Z.exc⟩
    obtain ⟨f, fd, hf, Fu, hb⟩ := R10.ex
    have e0 := hmg.symm.trans hf
    cases e0
    refine ⟨fd, fun s u => ?_, fun base kb nb => (K22.law_of R0 R1 R2 R3 R4 R5 R6 R7 R8 R9 ⟨⟨_, fd, hf, Fu, hb⟩⟩ T TN T2).at hf Fu.lk⟩
    exact .of_eq (hb [u] rfl)
  case S => exact fun K H a ns hl hO hS => ⟨a, ns, rfl, hS, hl, fun _ => rfl⟩
  case C => exact fun _ _ _ _ z => z

