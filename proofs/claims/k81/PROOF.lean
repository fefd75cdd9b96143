import PyProof.Rows.All
import Wide.All
import OpenK.AllK
import Wide.FinOn
import Lean
import PyProof.EqAt
import PyProof.EqKinds
import PyProof.TupleCall
import PyProof.ListRange
import PyProof.ZipIter
import PyProof.Rows.ZipGen
import OpenK.KRaise
import OpenK.KOwn
import PyProof.ExcClass3
import PyProof.ExcBaseAll.ValueError
import PyProof.FString
import PyProof.FString4
import PyProof.StrLawsRepr
import PyProof.NsDelKeeps
import PyProof.Rows.Catch
import PyProof.ExcArgsOwn
import PyProof.ExcAttrAll.ValueError
import OpenK.KDescr
import KE.KIsAll
import KE.KLam
import PyProof.EnumMake
import PyProof.Rows.EnumRows
import PyProof.Rows.SeqMore2
import PyProof.AttrMissHeap
import KE.KDictOf
import KE.KRevIter
import KE.KDictLaws
import PyProof.ConsumeWalk
import PyProof.CallStr
import KE.KIntText
import PyProof.StrLawsChain
import PyProof.StrBlockI
import PyProof.StrBlock2
import PyProof.ReprRoads
import KE.RegKIsAll
import PySem.Challenge.RW_regrowth_k81_no_grammars
set_option Elab.async false
set_option linter.all false
set_option maxRecDepth 100000
namespace L2
open PySem PySem.Spec PyProof.Rows

abbrev Key := Sum Int Str
def keyIs : Key → Value → Bool
  | .inl k, v => Value.isInt k v
  | .inr x, v => Value.isStrOf x v
def keyH (w : World) : Key → Int
  | .inl k => hashInt k
  | .inr x => hashStr w x
theorem keyIs_shape : ∀ {k : Key} {v : Value}, keyIs k v = true → (∃ i t, k = Sum.inl i ∧ v = Value.int i t) ∨ (∃ x t, k = Sum.inr x ∧ v = Value.str x t)
  | .inl i, v, h => by
    obtain ⟨t, e⟩ := Value.isInt_shape (k := i) (v := v) h
    exact .inl ⟨i, t, rfl, e⟩
  | .inr x, v, h => by
    obtain ⟨t, e⟩ := Value.isStrOf_shape (x := x) (v := v) h
    exact .inr ⟨x, t, rfl, e⟩
theorem keyIs_int (i : Int) (t : Tok) : keyIs (.inl i) (.int i t) = true := by simp [keyIs, Value.isInt]
theorem keyIs_str (x : Str) (t : Tok) : keyIs (.inr x) (.str x t) = true := by simp [keyIs, Value.isStrOf]
theorem key_ll (a b : Int) : decide ((Sum.inl a : Key) = Sum.inl b) = (a == b) := by
  by_cases e : a = b
  · subst e; simp
  · have h : ¬ (Sum.inl a : Key) = Sum.inl b := fun q => e (Sum.inl.inj q)
    rw [decide_eq_false h]
    exact (beq_eq_false_iff_ne.mpr e).symm
theorem key_rr (a b : Str) : decide ((Sum.inr a : Key) = Sum.inr b) = decide (a = b) := by
  by_cases e : a = b
  · subst e; simp
  · have h : ¬ (Sum.inr a : Key) = Sum.inr b := fun q => e (Sum.inr.inj q)
    rw [decide_eq_false h, decide_eq_false e]
theorem key_lr (a : Int) (b : Str) : decide ((Sum.inl a : Key) = Sum.inr b) = false := decide_eq_false (fun q => nomatch q)
theorem key_rl (a : Str) (b : Int) : decide ((Sum.inr a : Key) = Sum.inl b) = false := decide_eq_false (fun q => nomatch q)

def mixKind (prog : Program) (w : World) : PySem.KeyKind prog w Key where
  is := keyIs
  hash := keyH w
  inj := fun v a b ha hb => by
    rcases keyIs_shape ha with ⟨i, t, rfl, rfl⟩ | ⟨x, t, rfl, rfl⟩
    · rcases keyIs_shape hb with ⟨j, u, rfl, e⟩ | ⟨y, u, rfl, e⟩
      · injection e with e1 _; rw [e1]
      · exact nomatch e
    · rcases keyIs_shape hb with ⟨j, u, rfl, e⟩ | ⟨y, u, rfl, e⟩
      · exact nomatch e
      · injection e with e1 _; rw [e1]
  byValue := fun k v h => by
    rcases keyIs_shape h with ⟨i, t, rfl, rfl⟩ | ⟨x, t, rfl, rfl⟩ <;> rfl
  pyHash := fun hv h => by
    rcases keyIs_shape hv with ⟨i, t, rfl, rfl⟩ | ⟨x, t, rfl, rfl⟩
    · exact wpAny_pyHash_int h
    · exact wpAny_pyHash_str h
  eqBool := fun hu hv h => by
    rcases keyIs_shape hu with ⟨i, t, rfl, rfl⟩ | ⟨x, t, rfl, rfl⟩
    · rcases keyIs_shape hv with ⟨j, u, rfl, rfl⟩ | ⟨y, u, rfl, rfl⟩
      · rw [key_ll] at h; exact wpAny_eqBool_int h
      · rw [key_lr] at h; exact SeqAt.EqAt.int_str i t y u _ _ _ _ h
    · rcases keyIs_shape hv with ⟨j, u, rfl, rfl⟩ | ⟨y, u, rfl, rfl⟩
      · rw [key_rl] at h; exact SeqAt.EqAt.str_int x t j u _ _ _ _ h
      · rw [key_rr] at h; exact wpAny_eqBool_str h
  «strs» := fun k x t v h => by
    rcases keyIs_shape h with ⟨i, u, rfl, e⟩ | ⟨y, u, rfl, e⟩
    · exact nomatch e
    · injection e with e1 _
      subst e1
      cases v <;> rfl

theorem mixKind_int (prog : Program) (w : World) (i : Int) (t : Tok) : (mixKind prog w).is (.inl i) (.int i t) = true := keyIs_int i t
theorem mixKind_str (prog : Program) (w : World) (x : Str) (t : Tok) : (mixKind prog w).is (.inr x) (.str x t) = true := keyIs_str x t
end L2

namespace L2
open PySem PySem.Spec PyProof.Rows

inductive V where
  | non | bl (b : Bool) | int (i : Int) | str (x : Str) | byt (b : Array UInt8) | flt (b : UInt64) | ref (a : Addr) | ty (n : String)
  deriving DecidableEq

def RelV : V → Value → Prop
  | .non, u => u = Value.none
  | .bl b, u => u = Value.bool b
  | .int i, u => ∃ t, u = Value.int i t
  | .str x, u => ∃ t, u = Value.str x t
  | .byt b, u => ∃ t, u = Value.bytes b t
  | .flt b, u => ∃ t, u = Value.float b t
  | .ref a, u => u = Value.ref a
  | .ty n, u => u = Value.type n

abbrev Vals : List V → List Value → Prop := Paired RelV
theorem Vals.length {xs : List V} {us : List Value} (r : Vals xs us) : xs.length = us.length := Paired.length r
theorem Vals.get : ∀ {xs : List V} {us : List Value} {i : Nat} {x : V}, Vals xs us → xs[i]? = some x → ∃ u, us[i]? = some u ∧ RelV x u
  | _, _, _, _, .nil, e => by simp at e
  | _, _, 0, _, .cons r _, e => by simp at e; subst e; exact ⟨_, rfl, r⟩
  | _, _, i + 1, x, .cons _ t, e => by
    obtain ⟨u, h1, h2⟩ := Vals.get (i := i) (x := x) t (by simpa using e)
    exact ⟨u, by simpa using h1, h2⟩
theorem Vals.set {x : V} {u : Value} (r : RelV x u) : ∀ {xs : List V} {us : List Value} (i : Nat), Vals xs us → Vals (xs.set i x) (us.set i u)
  | _, _, _, .nil => .nil
  | _, _, 0, .cons _ t => .cons r t
  | _, _, i + 1, .cons q t => .cons q (Vals.set r i t)
theorem Vals.append : ∀ {xs ys : List V} {us ws : List Value}, Vals xs us → Vals ys ws → Vals (xs ++ ys) (us ++ ws)
  | _, _, _, _, .nil, s => s
  | _, _, _, _, .cons r t, s => .cons r (Vals.append t s)
theorem Vals.take : ∀ {xs : List V} {us : List Value} (n : Nat), Vals xs us → Vals (xs.take n) (us.take n)
  | _, _, 0, _ => .nil
  | _, _, _ + 1, .nil => .nil
  | _, _, n + 1, .cons r t => .cons r (Vals.take n t)
theorem Vals.drop : ∀ {xs : List V} {us : List Value} (n : Nat), Vals xs us → Vals (xs.drop n) (us.drop n)
  | _, _, 0, r => r
  | _, _, _ + 1, .nil => .nil
  | _, _, n + 1, .cons _ t => Vals.drop n t
def RelO : Option V → Option Value → Prop
  | some v, some u => RelV v u
  | none, none => True
  | _, _ => False
def KV {κ : Type} : List (κ × V) → List (κ × Value) → Prop := Paired fun (p : κ × V) (q : κ × Value) => p.1 = q.1 ∧ RelV p.2 q.2

def kV : Key → V
  | .inl i => .int i
  | .inr x => .str x

inductive HO where
  /-- a list -/
  | lst (xs : List V)
  /-- a tuple (never changes) -/
  | tup (xs : List V)
  /-- a dict whose keys are ints and texts; one whose keys are tuples of ints and texts (the empty one is both) -/
  | dK (kvs : List (Key × V)) | dT (kvs : List (List Key × V))
  /-- a set of ints: its members, its size -/
  | set (S : Int → Bool) (n : Nat)
  /-- an instance of the class at C, its dict at dx, its attributes -/
  | ins (C dx : Addr) (fs : List (Str × V))
  /-- the dict of the instance at x -/
  | own (x : Addr)
  /-- the dict of an exception -/
  | xd (fs : List (Str × V))
  /-- a bound method, f of x -/
  | met (f x : Addr)
  /-- a range object lo, lo + 1, .. below hi -/
  | rng (lo hi : Int)
  /-- a thing that is known to the object (the script; a dict while a loop walks it): read, never written while it is so -/
  | frz (o : Obj) (u : HO)
  /-- a code object's table -/
  | tbl (ps : Array Value)
  /-- any other thing, by what is true of its one object (a def of one's own: SetO a S n := HO.ext fun h => ..) -/
  | ext (φ : Heap → Prop)

abbrev Hp := Addr → Option HO
def upd (H : Hp) (a : Addr) (o : HO) : Hp := fun b => if b = a then some o else H b
theorem upd_same {H : Hp} {a : Addr} {o : HO} : upd H a o a = some o := by unfold upd; rw [if_pos rfl]
theorem upd_ne {H : Hp} {a b : Addr} {o : HO} (h : b ≠ a) : upd H a o b = H b := by unfold upd; rw [if_neg h]
theorem ne_of_none {H : Hp} {a b : Addr} {o : HO} (h : H a = some o) (h' : H b = none) : a ≠ b := by
  intro e; subst e; rw [h] at h'; cases h'

section
variable (P : Program) (w : World)
def ObjOk (H : Hp) (h : Heap) (a : Addr) : HO → Prop
  | .lst xs => xs.length ≤ sizeLine ∧ ∃ (its : List Value) (n : Nat), Vals xs its ∧ h.get? a = some { cls := .type "list", data := .seq its.toArray n }
  | .tup xs => xs.length ≤ sizeLine ∧ ∃ its : List Value, Vals xs its ∧ IsTup h a its.toArray
  | .dK kvs => kvs.length ≤ sizeLine ∧ (a == sysModules) = false ∧ ∃ vs, KV kvs vs ∧ h.DictOf (mixKind P w) a vs
  | .dT kvs => kvs.length ≤ sizeLine ∧ (a == sysModules) = false ∧ ∃ xs : List (List Key × Addr × Value),
      Paired (fun (p : List Key × V) (q : List Key × Addr × Value) => p.1 = q.1 ∧ H q.2.1 = some (.tup (p.1.map kV)) ∧ RelV p.2 q.2.2) kvs xs ∧
      ∃ o es ep, h.get? a = some o ∧ o.ExactDict ∧ o.data = .dict es ep ∧ es.toList = xs.map (entryOfKey (tupleKind (mixKind P w))) ∧ (xs.map (·.1)).Nodup
  | .set S n => h.SetOf (intKind P w) a S n
  | .ins C dx fs => H dx = some (.own a) ∧ fs.length ≤ 1000 ∧ dx ≠ a ∧ h.get? a = some (PySem.W.instObj C dx) ∧
      ∃ mA, h.Ns1 dx mA ∧ (∀ f, RelO (fs.lookup f) (mA f)) ∧ PySem.Within mA (fs.map (·.1))
  | .own _ => ∃ o, h.get? a = some o
  | .xd fs => ∃ mA, h.Ns1 a mA ∧ ∀ f, RelO (fs.lookup f) (mA f)
  | .rng lo hi => ∃ t u v, h.get? a = some { cls := .type "range", data := .fields #[.int lo t, .int hi u, .int 1 v] }
  | .frz o u => h.get? a = some o ∧ ObjOk H h a u
  | .tbl ps => h.get? a = some { cls := .none, data := .fields ps }
  | .met f x => h.get? a = some (PySem.W.methodObj (.ref f) (.ref x))
  | .ext φ => φ h ∧ (∃ o, h.get? a = some o) ∧ ∀ h1 h2 : Heap, φ h1 → (∀ o, h1.get? a = some o → h2.get? a = some o) → φ h2
def HOk (H : Hp) (h : Heap) : Prop := ∀ a o, H a = some o → ObjOk P w H h a o
end

section
variable {P : Program} {w : World} {H H' : Hp} {h h' : Heap} {a : Addr} {o : HO}
theorem ObjOk.lt (x : ObjOk P w H h a o) : a < h.objs.size := by
  cases o with
  | lst xs => obtain ⟨_, _, _, _, e⟩ := x; exact Heap.lt_size e
  | tup xs => obtain ⟨_, _, _, p⟩ := x; exact p.lt
  | dK kvs => obtain ⟨_, _, _, _, o, _, _, e, _⟩ := x; exact Heap.lt_size e
  | dT kvs => obtain ⟨_, _, _, _, o, _, _, e, _⟩ := x; exact Heap.lt_size e
  | set S n => obtain ⟨o, _, _, _, e, _⟩ := x; exact Heap.lt_size e
  | ins C dx fs => obtain ⟨_, _, _, e, _⟩ := x; exact Heap.lt_size e
  | own y => obtain ⟨_, e⟩ := x; exact Heap.lt_size e
  | xd fs => obtain ⟨_, ⟨_, _, _, e, _⟩, _⟩ := x; exact Heap.lt_size e
  | rng lo hi => obtain ⟨_, _, _, e⟩ := x; exact Heap.lt_size e
  | frz ob u => obtain ⟨e, _⟩ := x; exact Heap.lt_size e
  | tbl ps => exact Heap.lt_size (show h.get? a = some _ from x)
  | met f y => exact Heap.lt_size (show h.get? a = some _ from x)
  | ext φ => obtain ⟨_, ⟨_, e⟩, _⟩ := x; exact Heap.lt_size e
theorem Paired.mapP {α β : Type} {F G : α → β → Prop} : ∀ {l₁ : List α} {l₂ : List β}, Paired F l₁ l₂ → (∀ a b, F a b → G a b) → Paired G l₁ l₂
  | _, _, .nil, _ => .nil
  | _, _, .cons r t, f => .cons (f _ _ r) (Paired.mapP t f)
theorem ObjOk.stay (x : ObjOk P w H h a o) (k : ∀ b u, (b = a ∨ H b = some (.own a)) → h.get? b = some u → h'.get? b = some u)
    (ho : ∀ b, H b = some (.own a) → H' b = some (.own a)) (ht : ∀ b xs, H b = some (.tup xs) → H' b = some (.tup xs)) : ObjOk P w H' h' a o := by
  induction o with
  | lst xs => obtain ⟨z, its, n, r, e⟩ := x; exact ⟨z, its, n, r, k _ _ (.inl rfl) e⟩
  | tup xs => obtain ⟨z, its, r, ob, e, c⟩ := x; exact ⟨z, its, r, ob, k _ _ (.inl rfl) e, c⟩
  | dK kvs => obtain ⟨z, y, vs, r, ob, es, ep, e, c⟩ := x; exact ⟨z, y, vs, r, ob, es, ep, k _ _ (.inl rfl) e, c⟩
  | dT kvs =>
    obtain ⟨z, y, xs, r, ob, es, ep, e, c⟩ := x
    exact ⟨z, y, xs, Paired.mapP r fun p q z => ⟨z.1, ht _ _ z.2.1, z.2.2⟩, ob, es, ep, k _ _ (.inl rfl) e, c⟩
  | set S n => obtain ⟨ob, es, ep, t, e, c⟩ := x; exact ⟨ob, es, ep, t, k _ _ (.inl rfl) e, c⟩
  | ins C dx fs =>
    obtain ⟨d, z, ne, e, mA, ⟨od, es, ep, e2, c⟩, r⟩ := x
    exact ⟨ho _ d, z, ne, k _ _ (.inl rfl) e, mA, ⟨od, es, ep, k _ _ (.inr d) e2, c⟩, r⟩
  | own y => obtain ⟨ob, e⟩ := x; exact ⟨ob, k _ _ (.inl rfl) e⟩
  | xd fs => obtain ⟨mA, ⟨od, es, ep, e, c⟩, r⟩ := x; exact ⟨mA, ⟨od, es, ep, k _ _ (.inl rfl) e, c⟩, r⟩
  | rng lo hi => obtain ⟨t, u, v, e⟩ := x; exact ⟨t, u, v, k _ _ (.inl rfl) e⟩
  | frz ob u ih => obtain ⟨e, q⟩ := x; exact ⟨k _ _ (.inl rfl) e, ih q⟩
  | tbl ps =>
    have e : h.get? a = some { cls := .none, data := .fields ps } := x
    show h'.get? a = some { cls := .none, data := .fields ps }
    exact k a _ (.inl rfl) e
  | met f y =>
    have e : h.get? a = some (PySem.W.methodObj (.ref f) (.ref y)) := x
    show h'.get? a = some (PySem.W.methodObj (.ref f) (.ref y))
    exact k a _ (.inl rfl) e
  | ext φ => obtain ⟨p, ⟨o, e⟩, st⟩ := x; exact ⟨st _ _ p fun o q => k _ _ (.inl rfl) q, ⟨o, k _ _ (.inl rfl) e⟩, st⟩
theorem HOk.lt (x : HOk P w H h) (e : H a = some o) : a < h.objs.size := (x a o e).lt
theorem HOk.fresh (x : HOk P w H h) (e : h.objs.size ≤ a) : H a = none := by
  cases q : H a with
  | none => rfl
  | some u => exact absurd (Nat.lt_of_lt_of_le (x.lt q) e) (Nat.lt_irrefl _)
theorem HOk.kept (x : HOk P w H h) (k : ∀ b u, h.get? b = some u → h'.get? b = some u) : HOk P w H h' := fun a o e =>
  (x a o e).stay (fun b u _ q => k b u q) (fun _ q => q) fun _ _ q => q
theorem HOk.laid (x : HOk P w H h) (k : ∀ b u, h.get? b = some u → h'.get? b = some u) (hp : h.objs.size ≤ a) (new : ObjOk P w (upd H a o) h' a o) : HOk P w (upd H a o) h' := fun b u e => by
  have hn := x.fresh hp
  by_cases hb : b = a
  · subst hb; rw [upd_same] at e; cases e; exact new
  · rw [upd_ne hb] at e
    exact (x b u e).stay (fun c v _ q => k c v q) (fun c q => by rw [upd_ne (ne_of_none q hn)]; exact q) fun c xs q => by rw [upd_ne (ne_of_none q hn)]; exact q
end

def Rd (H : Hp) (a : Addr) (u : HO) : Prop := H a = some u ∨ ∃ o, H a = some (.frz o u)
theorem Rd.of {H : Hp} {a : Addr} {u : HO} (h : H a = some u) : Rd H a u := .inl h
theorem Rd.ok {P : Program} {w : World} {H : Hp} {h : Heap} {a : Addr} {u : HO} (r : Rd H a u) (x : HOk P w H h) : ObjOk P w H h a u := by
  rcases r with r | ⟨o, r⟩
  · exact x a u r
  · obtain ⟨_, q⟩ := x a _ r
    exact q
def Mut : Option HO → Prop
  | some (.lst _) => True
  | some (.dK _) => True
  | some (.dT _) => True
  | some (.set _ _) => True
  | some (.ins _ _ _) => True
  | some (.ext _) => True
  | _ => False
section
variable {P : Program} {w : World} {H : Hp} {h h' : Heap} {x e : Addr} {o' : HO}
theorem HOk.write (ok : HOk P w H h) (mu : Mut (H x)) (he : e = x ∨ H e = some (.own x)) (k : ∀ b u, b ≠ e → h.get? b = some u → h'.get? b = some u) (heo : ∃ u, h'.get? e = some u)
    (new : ObjOk P w (upd H x o') h' x o') : HOk P w (upd H x o') h' := fun b u q => by
  have nown : ∀ c y, H c = some (.own y) → c ≠ x := fun c y r z => by subst z; rw [r] at mu; exact mu
  have ntup : ∀ c xs, H c = some (.tup xs) → c ≠ x := fun c xs r z => by subst z; rw [r] at mu; exact mu
  by_cases hb : b = x
  · subst hb; rw [upd_same] at q; cases q; exact new
  · rw [upd_ne hb] at q
    by_cases hbe : b = e
    · have q' : H b = some (.own x) := by
        rcases he with z | z
        · exact absurd (hbe.trans z) hb
        · rw [hbe]; exact z
      rw [q] at q'; cases q'
      obtain ⟨v, hv⟩ := heo
      exact ⟨v, by rw [hbe]; exact hv⟩
    · refine (ok b u q).stay (fun c v hc r => k c v ?_ r) (fun c r => by rw [upd_ne (nown c b r)]; exact r) fun c xs r => by rw [upd_ne (ntup c xs r)]; exact r
      rcases hc with rfl | hc
      · exact hbe
      · rintro rfl
        rcases he with z | z
        · exact nown c b hc z
        · rw [hc] at z; cases z; exact hb rfl
end

structure Un (fs ex : List Addr) (H H' : Hp) (h h' : Heap) : Prop where
  keep : ∀ b o, h.get? b = some o → H b = none → b ∉ fs → b ∉ ex → h'.get? b = some o
  slot : ∀ b o, h.get? b = some o → H b = none → b ∈ fs → b ∉ ex → ∃ sl, h'.get? b = some { o with slots := sl }
  free : ∀ b o, h.get? b = some o → H b = none → b ∉ ex → H' b = none
  there : ∀ b o, h.get? b = some o → b ∉ ex → ∃ o', h'.get? b = some o'
  tups : ∀ b xs, H b = some (.tup xs) → H' b = some (.tup xs)
  frzs : ∀ b o u, H b = some (.frz o u) → H' b = some (.frz o u)
  tbls : ∀ b ps, H b = some (.tbl ps) → ∃ more, H' b = some (.tbl (ps ++ more))
section
variable {fs fs' ex ex' : List Addr} {H H1 H2 : Hp} {h h1 h2 h' : Heap} {a x e : Addr} {o : HO}
theorem Un.any (u : Un fs ex H H1 h h1) {b : Addr} {ob : Obj} (q : h.get? b = some ob) (n : H b = none) (hx : b ∉ ex) : ∃ sl, h1.get? b = some { ob with slots := sl } := by
  by_cases hb : b ∈ fs
  · exact u.slot b ob q n hb hx
  · exact ⟨ob.slots, u.keep b ob q n hb hx⟩
theorem Un.trans (a : Un fs ex H H1 h h1) (b : Un fs ex H1 H2 h1 h2) : Un fs ex H H2 h h2 where
  keep := fun c ob q n hc hx => b.keep c ob (a.keep c ob q n hc hx) (a.free c ob q n hx) hc hx
  slot := fun c ob q n hc hx => by
    obtain ⟨sl, e1⟩ := a.slot c ob q n hc hx
    obtain ⟨sl', e2⟩ := b.slot c _ e1 (a.free c ob q n hx) hc hx
    exact ⟨sl', e2⟩
  free := fun c ob q n hx => by
    obtain ⟨o', e1⟩ := a.there c ob q hx
    exact b.free c o' e1 (a.free c ob q n hx) hx
  there := fun c ob q hx => by
    obtain ⟨o', e1⟩ := a.there c ob q hx
    exact b.there c o' e1 hx
  tups := fun c xs q => b.tups c xs (a.tups c xs q)
  frzs := fun c ob xs q => b.frzs c ob xs (a.frzs c ob xs q)
  tbls := fun c ps q => by
    obtain ⟨m1, e1⟩ := a.tbls c ps q
    obtain ⟨m2, e2⟩ := b.tbls c _ e1
    exact ⟨m1 ++ m2, by rw [e2, Array.append_assoc]⟩
theorem Un.kept (k : ∀ b u, h.get? b = some u → h'.get? b = some u) : Un fs ex H H h h' :=
  ⟨fun b ob q _ _ _ => k b ob q, fun b ob q _ _ _ => ⟨ob.slots, k b ob q⟩, fun _ _ _ n _ => n, fun b ob q _ => ⟨ob, k b ob q⟩, fun _ _ q => q, fun _ _ _ q => q, fun _ ps q => ⟨#[], by rw [q]; simp⟩⟩
theorem Un.refl : Un fs ex H H h h := Un.kept fun _ _ q => q
theorem Un.laid (k : ∀ b u, h.get? b = some u → h'.get? b = some u) (hp : h.objs.size ≤ a) (hn : H a = none) : Un fs ex H (upd H a o) h h' where
  keep := fun b u q _ _ _ => k b u q
  slot := fun b u q _ _ _ => ⟨u.slots, k b u q⟩
  free := fun b u q n _ => by rw [upd_ne (Nat.ne_of_lt (Nat.lt_of_lt_of_le (Heap.lt_size q) hp))]; exact n
  there := fun b u q _ => ⟨u, k b u q⟩
  tups := fun b xs q => by rw [upd_ne (ne_of_none q hn)]; exact q
  frzs := fun b u xs q => by rw [upd_ne (ne_of_none q hn)]; exact q
  tbls := fun b ps q => ⟨#[], by rw [upd_ne (ne_of_none q hn), q]; simp⟩
theorem Un.write (mu : Mut (H x)) (he : e = x ∨ H e = some (.own x)) (k : ∀ b u, b ≠ e → h.get? b = some u → h'.get? b = some u) (heo : ∃ u, h'.get? e = some u) : Un fs ex H (upd H x o) h h' := by
  have hx : ∀ b, H b = none → b ≠ x := fun b n z => by subst z; rw [n] at mu; exact mu
  have hb : ∀ b, H b = none → b ≠ e := fun b n z => by
    subst z
    rcases he with r | r
    · exact hx b n r
    · rw [n] at r; cases r
  have hm : ∀ b u, H b = some u → ¬ Mut (some u) → b ≠ x := fun b u q nm z => by subst z; rw [q] at mu; exact nm mu
  refine ⟨fun b u q n _ _ => k b u (hb b n) q, fun b u q n _ _ => ⟨u.slots, k b u (hb b n) q⟩, fun b u q n _ => by rw [upd_ne (hx b n)]; exact n, fun b u q _ => ?_,
    fun b xs q => by rw [upd_ne (hm b _ q fun z => z)]; exact q, fun b u xs q => by rw [upd_ne (hm b _ q fun z => z)]; exact q, fun b ps q => ⟨#[], by rw [upd_ne (hm b _ q fun z => z), q]; simp⟩⟩
  by_cases hbe : b = e
  · subst hbe; exact heo
  · exact ⟨u, k b u hbe q⟩
theorem Un.mono (u : Un fs ex H H1 h h1) (hs : ∀ b ∈ fs, b ∈ fs') (hx : ∀ b ∈ ex, b ∈ ex') : Un fs' ex' H H1 h h1 :=
  ⟨fun b ob q n hb he => u.keep b ob q n (fun z => hb (hs b z)) fun z => he (hx b z), fun _ _ q n _ he => u.any q n fun z => he (hx _ z), fun b ob q n he => u.free b ob q n fun z => he (hx b z), fun b ob q he => u.there b ob q fun z => he (hx b z), u.tups, u.frzs, u.tbls⟩
end

def trk (h : Heap) (H : Hp) : List Addr := (List.range h.objs.size).filter fun a => (H a).isSome
def hidT (h : Heap) (H : Hp) : Heap := PySem.W.hideAll h (trk h H)
theorem hidT_size (h : Heap) (H : Hp) : (hidT h H).objs.size = h.objs.size := PySem.W.hideAll_size _ _
theorem hidT_get {h : Heap} {H : Hp} {b : Addr} {o : Obj} (e : h.get? b = some o) (n : H b = none) : (hidT h H).get? b = some o :=
  PySem.W.hideAll_get _ e fun hm => by
    have q : (H b).isSome = true := (List.mem_filter.mp hm).2
    rw [n] at q; simp at q
theorem of_hidT {h : Heap} {H : Hp} {b : Addr} {o : Obj} (e : (hidT h H).get? b = some o) : h.get? b = some o ∧ H b = none := by
  have e' : h.get? b = some o := PySem.W.of_hideAll (trk h H) e
  refine ⟨e', ?_⟩
  cases q : H b with
  | none => rfl
  | some x =>
    have hm : b ∈ trk h H := List.mem_filter.mpr ⟨List.mem_range.mpr (Heap.lt_size e'), by simp [q]⟩
    have z : (hidT h H).get? b = none := PySem.W.hideAll_none (trk h H) hm
    rw [z] at e; cases e

def allNews (g h : Heap) (L : Addr) : List (Addr × Obj) := (List.range h.objs.size).filterMap fun a => if a = L ∨ (g.get? a).isSome = true then none else (h.get? a).map fun o => (a, o)
def rest (g h : Heap) (L d : Addr) : List (Addr × Obj) := (allNews g h L).filter fun p => decide (p.1 ≠ d)
end L2

namespace L2
open PySem PySem.Spec PyProof.Rows

structure Mod (K : PySem.W.Frag) (mg : Str → Option Value) (base : Heap) : Prop where
  kin : K.In base
  glob : base.Ns mainGlobals mg
  blt : ∃ mb, base.Ns builtinsNs mb ∧ ∀ x : Str, x ≠ "__name__" → mb x = bootBuiltins x
  nolimit : base.NoLimit

structure Cx where
  prog : Program
  w : World
  K : PySem.W.Frag
  mg : Str → Option Value
  base : Heap
  A : Around
  N : List Str
  s₀ : Shared
  H₀ : Hp
  env : Env
  outer : List Env
  stack : List Env
  ex : List Addr
  fn : Str → Bool
  calm : Bool
  pn : List (Addr × Obj)
  xe : Value → Shared → Prop
def frs (l : List Env) : List Addr := l.filterMap (·.frame)
abbrev Cx.fs (X : Cx) : List Addr := frs X.outer

def Vis (sc : Scope) (x : Str) : Prop := sc.names.lookup x = some .local ∨ sc.names.lookup x = some .cell ∨ sc.names.lookup x = some .free
def Loc (sc : Scope) (x : Str) : Prop := sc.names.lookup x = some .local ∨ sc.names.lookup x = some .cell
def Look (env : Env) (h : Heap) (m : Str → Option Value) (x : Str) (u : Value) : Prop :=
  (env.kindOf x = some .local ∧ m x = some u) ∨ ((env.kindOf x = some .cell ∨ env.kindOf x = some .free) ∧ ∃ c, env.cells.lookup x = some c ∧ h.IsCell c (some u))

structure Cx.Ok (X : Cx) : Prop where
  mod : Mod X.K X.mg X.base
  kind : X.env.scope.kind = .function
  glob : X.env.globals = mainGlobals
  blt : X.env.builtins = builtinsNs
  above : X.s₀.heap.objs.size ≤ X.env.locals
  inj : ∀ x y c, X.env.cells.lookup x = some c → X.env.cells.lookup y = some c → x = y
  has : ∀ x, (X.env.kindOf x = some .cell ∨ X.env.kindOf x = some .free) → ∃ c, X.env.cells.lookup x = some c
  cab : ∀ x c, X.fn x = true → X.env.cells.lookup x = some c → X.s₀.heap.objs.size ≤ c
  hd : X.calm = true → X.A.handled = none
  frames : X.A.frames = some X.stack
  stk : X.stack = X.outer ∨ (X.stack = X.env :: X.outer ∧ X.env.frame = some X.env.locals)
  exf : ∀ b ∈ X.ex, b ≠ X.env.locals ∧ ∀ x c, X.env.cells.lookup x = some c → c ≠ b
  bs : ∀ b o, X.base.get? b = some o → X.s₀.heap.get? b = some o ∧ X.H₀ b = none
  bsz : X.base.objs.size ≤ X.s₀.heap.objs.size
  noex : ∀ b o, X.base.get? b = some o → b ∉ X.ex
  exfs : ∀ b ∈ X.ex, b ∉ X.fs
  funs : X.s₀.heap.FunFrames X.base X.outer
  frf : ∀ b ∈ X.fs, X.H₀ b = none

structure Inv (X : Cx) (pins : List (Addr × Obj)) (σ : List (Option V)) (H : Hp) (s : Shared) : Prop where
  ok : X.Ok
  os : s.os = X.s₀.os
  bare : AllBare s.gens
  base : Un X.fs X.ex X.H₀ H X.s₀.heap s.heap
  loc : ∃ m, s.heap.Ns X.env.locals m ∧ ∀ (i : Nat) (x : Str) (v : V), X.N[i]? = some x → σ[i]? = some (some v) → Vis X.env.scope x → ∃ u, RelV v u ∧ Look X.env s.heap m x u
  cell : ∀ x c, X.env.cells.lookup x = some c → ∃ v, s.heap.IsCell c v
  free : H X.env.locals = none
  freeC : ∀ x c, X.env.cells.lookup x = some c → H c = none
  pin : ∀ p ∈ X.pn ++ pins, s.heap.get? p.1 = some p.2 ∧ H p.1 = none ∧ p.1 ≠ X.env.locals ∧ p.1 ∉ X.fs ∧ ∀ v, p.2.data ≠ .cell v
  hok : HOk X.prog X.w H s.heap
  len : σ.length = X.N.length

section
variable {X : Cx} {pins : List (Addr × Obj)} {σ : List (Option V)} {H H' : Hp} {s : Shared} {h' : Heap}

theorem Cx.Ok.nofr (ok : X.Ok) {b : Addr} {o : Obj} (e : X.base.get? b = some o) : b ∉ X.fs := fun hb => by
  have := (ok.funs.mem hb).1
  rw [e] at this; cases this
theorem Inv.bs (I : Inv X pins σ H s) : ∀ b o, X.base.get? b = some o → s.heap.get? b = some o ∧ H b = none := fun b o e =>
  ⟨I.base.keep b o (I.ok.bs b o e).1 (I.ok.bs b o e).2 (I.ok.nofr e) (I.ok.noex b o e), I.base.free b o (I.ok.bs b o e).1 (I.ok.bs b o e).2 (I.ok.noex b o e)⟩
theorem Inv.bk (I : Inv X pins σ H s) : ∀ b o, X.base.get? b = some o → s.heap.get? b = some o := fun b o e => (I.bs b o e).1
theorem Inv.mod (I : Inv X pins σ H s) : Mod X.K X.mg X.base := I.ok.mod
theorem Inv.kIn (I : Inv X pins σ H s) : X.K.In s.heap := I.ok.mod.kin.keeps I.bk
theorem Inv.nolimit (I : Inv X pins σ H s) : s.heap.NoLimit := I.ok.mod.nolimit.keeps I.bk
theorem Inv.fr (I : Inv X pins σ H s) : ∃ m, Fr X.base X.env.locals s.heap m :=
  let ⟨m, hn, _⟩ := I.loc
  ⟨m, hn, I.bk, Nat.le_trans I.ok.bsz I.ok.above⟩
theorem Inv.lt (I : Inv X pins σ H s) : X.env.locals < s.heap.objs.size := let ⟨_, hn, _⟩ := I.loc; hn.lt
theorem Inv.sz (I : Inv X pins σ H s) : X.s₀.heap.objs.size ≤ s.heap.objs.size := Nat.le_trans I.ok.above (Nat.le_of_lt I.lt)
theorem Inv.nofs (I : Inv X pins σ H s) {a : Addr} (h : s.heap.objs.size ≤ a) : a ∉ X.fs := fun hb => by
  obtain ⟨_, o, ho, _⟩ := I.ok.funs.mem hb
  exact absurd (Nat.lt_of_lt_of_le (Heap.lt_size ho) (Nat.le_trans I.sz h)) (Nat.lt_irrefl _)
theorem Inv.cne (I : Inv X pins σ H s) : ∀ x c, X.env.cells.lookup x = some c → c ≠ X.env.locals := fun x c e z => by
  obtain ⟨v, o, ho, hd⟩ := I.cell x c e
  obtain ⟨m, ⟨o', es, ep, ho', hd', _⟩, _⟩ := I.loc
  rw [z, ho'] at ho; cases ho; rw [hd'] at hd; cases hd
theorem Inv.funs (I : Inv X pins σ H s) : s.heap.FunFrames X.base X.outer := by
  have all : ∀ (l : List Env), (∀ b ∈ frs l, b ∈ X.fs) → X.s₀.heap.FunFrames X.base l → s.heap.FunFrames X.base l := by
    intro l
    induction l with
    | nil => intro _ _; trivial
    | cons env r ih =>
      intro hs hl
      obtain ⟨hk, ⟨L, o, hf, hn, ho, hd⟩, hr⟩ := hl
      have hL : L ∈ X.fs := hs L (by unfold frs; rw [List.filterMap_cons, hf]; exact List.mem_cons_self)
      obtain ⟨sl, e⟩ := I.base.slot L o ho (I.ok.frf L hL) hL fun z => I.ok.exfs L z hL
      exact ⟨hk, ⟨L, _, hf, hn, e, hd⟩, ih (fun b hb => hs b (by unfold frs; rw [List.filterMap_cons, hf]; exact List.mem_cons_of_mem _ hb)) hr⟩
  exact all X.outer (fun _ hb => hb) I.ok.funs

theorem Inv.stack (I : Inv X pins σ H s) : s.heap.FunFrames X.base X.stack := by
  rcases I.ok.stk with e | ⟨e, hf⟩
  · rw [e]; exact I.funs
  · rw [e]
    obtain ⟨m, hn, _⟩ := I.loc
    refine .cons (by rw [I.ok.kind]; decide) hf hn ?_ I.funs
    exact Heap.get?_none_of_le (Nat.le_trans I.ok.bsz I.ok.above)
theorem Inv.stkSub (I : Inv X pins σ H s) : ∀ b ∈ frs X.stack, b ∈ X.env.locals :: X.fs := fun b hb => by
  rcases I.ok.stk with e | ⟨e, hf⟩
  · rw [e] at hb; exact List.mem_cons_of_mem _ hb
  · rw [e] at hb
    unfold frs at hb
    rw [List.filterMap_cons, hf] at hb
    exact hb
theorem Inv.stkFree (I : Inv X pins σ H s) : ∀ b ∈ frs X.stack, H b = none := fun b hb => by
  rcases List.mem_cons.mp (I.stkSub b hb) with e | hb
  · rw [e]; exact I.free
  · obtain ⟨_, o, ho, _⟩ := I.ok.funs.mem hb
    exact I.base.free b o ho (I.ok.frf b hb) fun z => I.ok.exfs b z hb

theorem Inv.step {g' : Array GenState} {t' : Nat} {d' : Drawn} {ch : List Addr} (I : Inv X pins σ H s)
    (hch : ∀ b ∈ ch, (b ∈ X.ex ∨ X.s₀.heap.objs.size ≤ b) ∧ b ≠ X.env.locals ∧ (∀ x c, X.env.cells.lookup x = some c → c ≠ b) ∧ ∀ p ∈ X.pn ++ pins, p.1 ≠ b)
    (keep : ∀ b o, b ≠ X.env.locals → b ∉ X.fs → b ∉ ch → s.heap.get? b = some o → H b = none → h'.get? b = some o)
    (slot : ∀ b o, b ≠ X.env.locals → b ∈ X.fs → b ∉ ch → s.heap.get? b = some o → H b = none → ∃ sl, h'.get? b = some { o with slots := sl }) (free : ∀ b o, b ∉ ch → s.heap.get? b = some o → H b = none → H' b = none)
    (there : ∀ b o, b ∉ ch → s.heap.get? b = some o → ∃ o', h'.get? b = some o')
    (tups : ∀ b xs, H b = some (.tup xs) → H' b = some (.tup xs)) (frzs : ∀ b o u, H b = some (.frz o u) → H' b = some (.frz o u)) (tbls : ∀ b ps, H b = some (.tbl ps) → ∃ more, H' b = some (.tbl (ps ++ more)))
    (ns : ∀ m, s.heap.Ns X.env.locals m → h'.Ns X.env.locals m) (hok : HOk X.prog X.w H' h') (hg : AllBare g') :
    Inv X pins σ H' { s with heap := h', gens := g', drawn := d', toks := t' } := by
  have neL : ∀ b o, X.s₀.heap.get? b = some o → b ≠ X.env.locals := fun b o e => Nat.ne_of_lt (Nat.lt_of_lt_of_le (Heap.lt_size e) I.ok.above)
  have neC : ∀ b o, X.s₀.heap.get? b = some o → b ∉ X.ex → b ∉ ch := fun b o e hx hb => by
    rcases (hch b hb).1 with z | z
    · exact hx z
    · exact absurd (Nat.lt_of_lt_of_le (Heap.lt_size e) z) (Nat.lt_irrefl _)
  have cellK : ∀ x c, X.env.cells.lookup x = some c → ∀ v, s.heap.IsCell c v → h'.IsCell c v := fun x c e v ⟨o, ho, hd⟩ => by
    have nch : c ∉ ch := fun z => (hch c z).2.2.1 x c e rfl
    by_cases hc : c ∈ X.fs
    · obtain ⟨sl, q⟩ := slot c o (I.cne x c e) hc nch ho (I.freeC x c e)
      exact ⟨_, q, hd⟩
    · exact ⟨o, keep c o (I.cne x c e) hc nch ho (I.freeC x c e), hd⟩
  refine ⟨I.ok, I.os, hg, ⟨fun b o e n hb hx => ?_, fun b o e n hb hx => ?_, fun b o e n hx => ?_, fun b o e hx => ?_, fun b xs e => tups b xs (I.base.tups b xs e), fun b o xs e => frzs b o xs (I.base.frzs b o xs e), fun b ps e => ?_⟩, ?_, fun x c e => ?_, ?_, fun x c e => ?_, fun p hp => ?_, hok, I.len⟩
  · exact keep b o (neL b o e) hb (neC b o e hx) (I.base.keep b o e n hb hx) (I.base.free b o e n hx)
  · obtain ⟨sl, e1⟩ := I.base.slot b o e n hb hx
    obtain ⟨sl', e2⟩ := slot b _ (neL b o e) hb (neC b o e hx) e1 (I.base.free b o e n hx)
    exact ⟨sl', e2⟩
  · obtain ⟨o', e1⟩ := I.base.there b o e hx
    exact free b o' (neC b o e hx) e1 (I.base.free b o e n hx)
  · obtain ⟨o', e1⟩ := I.base.there b o e hx
    exact there b o' (neC b o e hx) e1
  · obtain ⟨m1, e1⟩ := I.base.tbls b ps e
    obtain ⟨m2, e2⟩ := tbls b _ e1
    exact ⟨m1 ++ m2, by rw [e2, Array.append_assoc]⟩
  · obtain ⟨m, hn, hl⟩ := I.loc
    refine ⟨m, ns m hn, fun i x v e1 e2 e3 => ?_⟩
    obtain ⟨u, r, l⟩ := hl i x v e1 e2 e3
    refine ⟨u, r, ?_⟩
    rcases l with l | ⟨k, c, e, z⟩
    · exact .inl l
    · exact .inr ⟨k, c, e, cellK x c e _ z⟩
  · obtain ⟨v, z⟩ := I.cell x c e
    exact ⟨v, cellK x c e v z⟩
  · obtain ⟨m, ⟨o, _, _, ho, _⟩, _⟩ := I.loc
    exact free _ o (fun z => (hch _ z).2.1 rfl) ho I.free
  · obtain ⟨v, o, ho, hd⟩ := I.cell x c e
    exact free c o (fun z => (hch c z).2.2.1 x c e rfl) ho (I.freeC x c e)
  · obtain ⟨e, n, ne, nf, d⟩ := I.pin p hp
    have nch : p.1 ∉ ch := fun z => (hch p.1 z).2.2.2 p hp rfl
    exact ⟨keep p.1 p.2 ne nf nch e n, free p.1 p.2 nch e n, ne, nf, d⟩
theorem Inv.un {t' : Nat} (I : Inv X pins σ H s) (u : Un X.fs [] H H' s.heap h') (hok : HOk X.prog X.w H' h') : Inv X pins σ H' { s with heap := h', toks := t' } := by
  obtain ⟨m, ⟨o, es, ep, ho, r⟩, _⟩ := id I.loc
  obtain ⟨sl, hL⟩ := u.any ho I.free (by simp)
  exact I.step (g' := s.gens) (d' := s.drawn) (ch := []) (fun _ z => nomatch z) (fun b o _ hb _ e n => u.keep b o e n hb (by simp)) (fun b o _ hb _ e n => u.slot b o e n hb (by simp)) (fun b o _ e n => u.free b o e n (by simp)) (fun b o _ e => u.there b o e (by simp)) u.tups u.frzs u.tbls (fun m' hm => by
    obtain ⟨o', es', ep', ho', r'⟩ := hm
    rw [ho] at ho'; cases ho'
    exact ⟨_, es', ep', hL, r'⟩) hok I.bare
theorem Inv.call {g' : Array GenState} {t' : Nat} {d' : Drawn} {ch : List Addr} (I : Inv X pins σ H s) (u : Un (frs X.stack) ch H H' s.heap h') (hok : HOk X.prog X.w H' h') (hg : AllBare g')
    (hch : ∀ b ∈ ch, (b ∈ X.ex ∨ X.s₀.heap.objs.size ≤ b) ∧ b ≠ X.env.locals ∧ (∀ x c, X.env.cells.lookup x = some c → c ≠ b) ∧ ∀ p ∈ X.pn ++ pins, p.1 ≠ b) :
    Inv X pins σ H' { s with heap := h', gens := g', drawn := d', toks := t' } := by
  obtain ⟨m, ⟨o, es, ep, ho, r⟩, _⟩ := id I.loc
  obtain ⟨sl, hL⟩ := u.any ho I.free fun z => (hch _ z).2.1 rfl
  exact I.step (ch := ch) hch (fun b o hL hb hc e n => u.keep b o e n (fun z => (List.mem_cons.mp (I.stkSub b z)).elim hL hb) hc) (fun b o _ _ hc e n => u.any e n hc) (fun b o hc e n => u.free b o e n hc) (fun b o hc e => u.there b o e hc) u.tups u.frzs u.tbls (fun m' hm => by
    obtain ⟨o', es', ep', ho', r'⟩ := hm
    rw [ho] at ho'; cases ho'
    exact ⟨_, es', ep', hL, r'⟩) hok hg
theorem Inv.turned {t' : Nat} {it : Addr} (I : Inv X pins σ H s) (k : ∀ b o, b ≠ it → s.heap.get? b = some o → h'.get? b = some o) (hn : H it = none) (hL : it ≠ X.env.locals)
    (h1 : it ∈ X.ex ∨ X.s₀.heap.objs.size ≤ it) (h2 : ∀ x c, X.env.cells.lookup x = some c → c ≠ it) (h3 : ∀ p ∈ X.pn ++ pins, p.1 ≠ it) : Inv X pins σ H { s with heap := h', toks := t' } := by
  have nit : ∀ b u, H b = some u → b ≠ it := fun b u e z => by rw [z, hn] at e; cases e
  refine I.step (g' := s.gens) (d' := s.drawn) (ch := [it]) (fun b hb => ?_) (fun b o _ _ hc e _ => k b o (fun z => hc (by simp [z])) e) (fun b o _ _ hc e _ => ⟨o.slots, k b o (fun z => hc (by simp [z])) e⟩) (fun _ _ _ _ n => n)
    (fun b o hc e => ⟨o, k b o (fun z => hc (by simp [z])) e⟩) (fun _ _ e => e) (fun _ _ _ e => e) (fun b ps e => ⟨#[], by rw [e]; simp⟩) (fun m hm => ?_) (fun b u e => ?_) I.bare
  · have e : b = it := by simpa using hb
    subst e
    exact ⟨h1, hL, h2, h3⟩
  · obtain ⟨o, es, ep, ho, r⟩ := hm
    exact ⟨o, es, ep, k _ o (Ne.symm hL) ho, r⟩
  · refine (I.hok b u e).stay (fun c v hc q => k c v ?_ q) (fun _ q => q) fun _ _ q => q
    rcases hc with z | z
    · rw [z]; exact nit b u e
    · exact nit c _ z
theorem Inv.tok (I : Inv X pins σ H s) (t : Nat) : Inv X pins σ H { s with toks := t } := I.un (h' := s.heap) (t' := t) Un.refl I.hok
theorem Inv.kept {t' : Nat} (I : Inv X pins σ H s) (k : ∀ b u, s.heap.get? b = some u → h'.get? b = some u) : Inv X pins σ H { s with heap := h', toks := t' } := I.un (Un.kept k) (I.hok.kept k)
theorem Inv.laid {a : Addr} {o : HO} {t' : Nat} (I : Inv X pins σ H s) (k : ∀ b u, s.heap.get? b = some u → h'.get? b = some u) (hp : s.heap.objs.size ≤ a) (new : ObjOk X.prog X.w (upd H a o) h' a o) :
    Inv X pins σ (upd H a o) { s with heap := h', toks := t' } := I.un (Un.laid k hp (I.hok.fresh hp)) (I.hok.laid k hp new)
theorem Inv.write {x e : Addr} {o : HO} {t' : Nat} (I : Inv X pins σ H s) (mu : Mut (H x)) (he : e = x ∨ H e = some (.own x)) (k : ∀ b u, b ≠ e → s.heap.get? b = some u → h'.get? b = some u) (heo : ∃ u, h'.get? e = some u)
    (new : ObjOk X.prog X.w (upd H x o) h' x o) : Inv X pins σ (upd H x o) { s with heap := h', toks := t' } := I.un (Un.write mu he k heo) (I.hok.write mu he k heo new)
theorem Inv.pins_of {pins' : List (Addr × Obj)} (I : Inv X pins σ H s) (h : ∀ p ∈ pins', s.heap.get? p.1 = some p.2 ∧ H p.1 = none ∧ p.1 ≠ X.env.locals ∧ p.1 ∉ X.fs ∧ ∀ v, p.2.data ≠ .cell v) : Inv X pins' σ H s :=
  ⟨I.ok, I.os, I.bare, I.base, I.loc, I.cell, I.free, I.freeC, fun p hp => (List.mem_append.mp hp).elim (fun z => I.pin p (List.mem_append_left _ z)) (h p), I.hok, I.len⟩

theorem nodup_ix {N : List Str} (hN : N.Nodup) {i j : Nat} {x : Str} (a : N[i]? = some x) (b : N[j]? = some x) : i = j := by
  obtain ⟨h1, e1⟩ := List.getElem?_eq_some_iff.mp a
  obtain ⟨h2, e2⟩ := List.getElem?_eq_some_iff.mp b
  exact (List.getElem_inj hN).mp (e1.trans e2.symm)

theorem store_ok2 {M : Model} {A : Around} {E : Value → Shared → Prop} {i : Nat} {x : Str} {v : V} {u : Value} {Q : Unit → Shared → Prop} (I : Inv X pins σ H s) (hN : X.N.Nodup) (hi : X.N[i]? = some x) (hx : Loc X.env.scope x) (r : RelV v u)
    (h : ∀ s', Inv X pins (σ.set i (some v)) H s' → (∃ a, Heap.SameBut a s.heap s'.heap ∧ (a = X.env.locals ∨ X.env.cells.lookup x = some a)) → Q () s') (hf : X.fn x = true ∨ X.env.scope.names.lookup x = some .local := by first | exact .inl rfl | exact .inr rfl | assumption) : wpAny M A (storeName X.env x u) Q E s := by
  obtain ⟨m, hn, hl⟩ := id I.loc
  have hcls : (X.env.scope.kind == .class || (X.env.scope.kind == .module && X.env.locals != X.env.globals)) = false := by rw [I.ok.kind]; rfl
  have hiσ : i < σ.length := by rw [I.len]; exact (List.getElem?_eq_some_iff.mp hi).1
  have cne := I.cne
  have tracked : ∀ {a : Addr} {h' : Heap}, (∃ o, s.heap.get? a = some o ∧ H a = none) → Heap.SameBut a s.heap h' → HOk X.prog X.w H h' := fun {a h'} ha hs b ob e => by
    obtain ⟨_, _, hfree⟩ := ha
    refine (I.hok b ob e).stay (fun c w' hc q => (hs.2 c ?_).trans q) (fun _ q => q) fun _ _ q => q
    rintro rfl
    rcases hc with rfl | hc
    · rw [hfree] at e; cases e
    · rw [hfree] at hc; cases hc
  rcases hx with hk | hk
  · refine wpAny_storeName_local hk hn (fun h' hn' hs => ?_) hcls
    obtain ⟨oL, _, _, hoL, _⟩ := id hn
    refine h _ ⟨I.ok, I.os, I.bare, ⟨fun b o e n hb hx => ?_, fun b o e n hb hx => ?_, I.base.free, fun b o e hx => ?_, I.base.tups, I.base.frzs, I.base.tbls⟩, ⟨_, hn', fun j y v' e1 e2 e3 => ?_⟩, fun y c e => ?_, I.free, I.freeC, fun p hp => ?_, tracked ⟨oL, hoL, I.free⟩ hs, by simpa using I.len⟩ ⟨_, hs, .inl rfl⟩
    · exact (hs.2 b (Nat.ne_of_lt (Nat.lt_of_lt_of_le (Heap.lt_size e) I.ok.above))).trans (I.base.keep b o e n hb hx)
    · obtain ⟨sl, e1⟩ := I.base.slot b o e n hb hx
      exact ⟨sl, (hs.2 b (Nat.ne_of_lt (Nat.lt_of_lt_of_le (Heap.lt_size e) I.ok.above))).trans e1⟩
    · obtain ⟨o', e1⟩ := I.base.there b o e hx
      exact ⟨o', (hs.2 b (Nat.ne_of_lt (Nat.lt_of_lt_of_le (Heap.lt_size e) I.ok.above))).trans e1⟩
    · by_cases hj : j = i
      · subst hj
        rw [hi] at e1; cases e1
        rw [List.getElem?_set_self hiσ] at e2
        cases e2
        exact ⟨u, r, .inl ⟨hk, by simp⟩⟩
      · rw [List.getElem?_set_ne (Ne.symm hj)] at e2
        obtain ⟨u', r', q⟩ := hl j y v' e1 e2 e3
        refine ⟨u', r', ?_⟩
        rcases q with ⟨k, e⟩ | ⟨k, c, e, z⟩
        · refine .inl ⟨k, ?_⟩
          have : y ≠ x := fun e => hj (nodup_ix hN e1 (e ▸ hi))
          simp [this, e]
        · exact .inr ⟨k, c, e, z.sameBut hs (cne y c e)⟩
    · obtain ⟨w', z⟩ := I.cell y c e
      exact ⟨w', z.sameBut hs (cne y c e)⟩
    · obtain ⟨e, n, ne, nf, d⟩ := I.pin p hp
      exact ⟨(hs.2 p.1 ne).trans e, n, ne, nf, d⟩
  · have hfn : X.fn x = true := by
      rcases hf with z | z
      · exact z
      · rw [z] at hk; cases hk
    obtain ⟨c, hc⟩ := I.ok.has x (.inl hk)
    obtain ⟨w', z⟩ := I.cell x c hc
    refine wpAny_storeName_cell I.ok.kind hk hc z (fun h' hc' hs => ?_)
    obtain ⟨oc, hoc, hocd⟩ := id z
    refine h { s with heap := h' } ⟨I.ok, I.os, I.bare, ⟨fun b o e n hb hx => ?_, fun b o e n hb hx => ?_, I.base.free, fun b o e hx => ?_, I.base.tups, I.base.frzs, I.base.tbls⟩, ⟨m, hn.sameBut hs (Ne.symm (cne x c hc)), fun j y v' e1 e2 e3 => ?_⟩, fun y c' e => ?_, I.free, I.freeC, fun p hp => ?_, tracked ⟨oc, hoc, I.freeC x c hc⟩ hs, by simpa using I.len⟩ ⟨c, hs, .inr hc⟩
    · exact (hs.2 b (Nat.ne_of_lt (Nat.lt_of_lt_of_le (Heap.lt_size e) (I.ok.cab x c hfn hc)))).trans (I.base.keep b o e n hb hx)
    · obtain ⟨sl, e1⟩ := I.base.slot b o e n hb hx
      exact ⟨sl, (hs.2 b (Nat.ne_of_lt (Nat.lt_of_lt_of_le (Heap.lt_size e) (I.ok.cab x c hfn hc)))).trans e1⟩
    · obtain ⟨o', e1⟩ := I.base.there b o e hx
      exact ⟨o', (hs.2 b (Nat.ne_of_lt (Nat.lt_of_lt_of_le (Heap.lt_size e) (I.ok.cab x c hfn hc)))).trans e1⟩
    · by_cases hj : j = i
      · subst hj
        rw [hi] at e1; cases e1
        rw [List.getElem?_set_self hiσ] at e2
        cases e2
        exact ⟨u, r, .inr ⟨.inl hk, c, hc, hc'⟩⟩
      · rw [List.getElem?_set_ne (Ne.symm hj)] at e2
        obtain ⟨u', r', q⟩ := hl j y v' e1 e2 e3
        refine ⟨u', r', ?_⟩
        rcases q with q | ⟨k, c', e, z'⟩
        · exact .inl q
        · refine .inr ⟨k, c', e, z'.sameBut hs ?_⟩
          rintro rfl
          exact hj (nodup_ix hN e1 (I.ok.inj _ _ _ e hc ▸ hi))
    · by_cases hcc : c' = c
      · subst hcc; exact ⟨_, hc'⟩
      · obtain ⟨w2, z2⟩ := I.cell y c' e
        exact ⟨w2, z2.sameBut hs hcc⟩
    · obtain ⟨e, n, ne, nf, d⟩ := I.pin p hp
      refine ⟨(hs.2 p.1 ?_).trans e, n, ne, nf, d⟩
      intro q
      rw [q, hoc] at e
      have q' : oc = p.2 := Option.some.inj e
      exact d w' (by rw [← q']; exact hocd)
theorem store_ok {M : Model} {A : Around} {E : Value → Shared → Prop} {i : Nat} {x : Str} {v : V} {u : Value} {Q : Unit → Shared → Prop} (I : Inv X pins σ H s) (hN : X.N.Nodup) (hi : X.N[i]? = some x) (hx : Loc X.env.scope x) (r : RelV v u)
    (h : ∀ s', Inv X pins (σ.set i (some v)) H s' → Q () s') (hf : X.fn x = true ∨ X.env.scope.names.lookup x = some .local := by first | exact .inl rfl | exact .inr rfl | assumption) : wpAny M A (storeName X.env x u) Q E s :=
  store_ok2 I hN hi hx r (fun s' I' _ => h s' I') hf
theorem Inv.call' {s' : Shared} {ch : List Addr} (I : Inv X pins σ H s) (ho : s'.os = s.os) (u : Un (frs X.stack) ch H H' s.heap s'.heap) (hok : HOk X.prog X.w H' s'.heap) (hg : AllBare s'.gens)
    (hch : ∀ b ∈ ch, (b ∈ X.ex ∨ X.s₀.heap.objs.size ≤ b) ∧ b ≠ X.env.locals ∧ (∀ x c, X.env.cells.lookup x = some c → c ≠ b) ∧ ∀ p ∈ X.pn ++ pins, p.1 ≠ b) : Inv X pins σ H' s' := by
  obtain ⟨h', g', d', t', o'⟩ := s'
  have e : o' = s.os := ho
  subst e
  exact I.call (g' := g') (t' := t') (d' := d') u hok hg hch
end

abbrev XK := Value → Option Addr → Hp → Prop
abbrev St := List (Option V)
abbrev VK := V → Hp → Prop
abbrev TE := St → Hp → VK → Prop
abbrev TT := St → Hp → (Bool → Hp → Prop) → Prop
abbrev TA := St → Hp → (List V → Hp → Prop) → Prop
structure Ends where
  nx : St → Hp → Prop
  rt : VK
  bk : St → Hp → Prop := fun _ _ => False
  ct : St → Hp → Prop := fun _ _ => False
abbrev TS := Ends → St → Hp → Prop

def EP (X : Cx) (pins : List (Addr × Obj)) (σ : St) (Q : VK) (u : Value) (s' : Shared) : Prop := ∃ v H', Inv X pins σ H' s' ∧ RelV v u ∧ Q v H'
def TP (X : Cx) (pins : List (Addr × Obj)) (σ : St) (Q : Bool → Hp → Prop) (b : Bool) (s' : Shared) : Prop := ∃ H', Inv X pins σ H' s' ∧ Q b H'
def AP (X : Cx) (pins : List (Addr × Obj)) (σ : St) (Q : List V → Hp → Prop) (us : List Value) (s' : Shared) : Prop := ∃ vs H', Inv X pins σ H' s' ∧ Vals vs us ∧ Q vs H'
def SP (X : Cx) (pins : List (Addr × Obj)) (D : Ends) (f : Flow) (s' : Shared) : Prop :=
  match f with
  | .next => ∃ σ' H', Inv X pins σ' H' s' ∧ D.nx σ' H'
  | .brk => ∃ σ' H', Inv X pins σ' H' s' ∧ D.bk σ' H'
  | .cont => ∃ σ' H', Inv X pins σ' H' s' ∧ D.ct σ' H'
  | .ret u => ∃ v σ' H', Inv X pins σ' H' s' ∧ RelV v u ∧ D.rt v H'

def PE (X : Cx) (e : Expr) (t : TE) : Prop :=
  ∀ (pins : List (Addr × Obj)) (s : Shared) (σ : St) (H : Hp) (Q : VK), Inv X pins σ H s → t σ H Q → wpAny (model X.prog X.w) X.A (eval e X.env) (EP X pins σ Q) X.xe s
def PT (X : Cx) (e : Expr) (t : TT) : Prop :=
  ∀ (pins : List (Addr × Obj)) (s : Shared) (σ : St) (H : Hp) (Q : Bool → Hp → Prop), Inv X pins σ H s → t σ H Q → wpAny (model X.prog X.w) X.A (isTrue e X.env (eval e X.env)) (TP X pins σ Q) X.xe s
def PW (X : Cx) (e : Expr) (t : TT) : Prop :=
  ∀ (whole : Sem Value) (pins : List (Addr × Obj)) (s : Shared) (σ : St) (H : Hp) (Q : Bool → Hp → Prop), Inv X pins σ H s → t σ H Q → wpAny (model X.prog X.w) X.A (isTrue e X.env whole) (TP X pins σ Q) X.xe s
theorem PW.pt {X : Cx} {e : Expr} {t : TT} (h : PW X e t) : PT X e t := h _
def PA (X : Cx) (es : List Expr) (t : TA) : Prop :=
  ∀ (pos : Pos) (pins : List (Addr × Obj)) (s : Shared) (σ : St) (H : Hp) (Q : List V → Hp → Prop), Inv X pins σ H s → t σ H Q → wpAny (model X.prog X.w) X.A (spliced (backTo pos (starEach es X.env))) (AP X pins σ Q) X.xe s
def PS (X : Cx) (st : Stmt) (t : TS) : Prop :=
  ∀ (pins : List (Addr × Obj)) (s : Shared) (σ : St) (H : Hp) (D : Ends), Inv X pins σ H s → t D σ H → wpAny (model X.prog X.w) X.A (exec st X.env) (SP X pins D) X.xe s
def PSs (X : Cx) (st : List Stmt) (t : TS) : Prop :=
  ∀ (pins : List (Addr × Obj)) (s : Shared) (σ : St) (H : Hp) (D : Ends), Inv X pins σ H s → t D σ H → wpAny (model X.prog X.w) X.A (execs st X.env) (SP X pins D) X.xe s
theorem thn {α : Type} {t : Sem α} {Q Q' : α → Shared → Prop} {M : Model} {A : Around} {E : Value → Shared → Prop} {s : Shared} (h : wpAny M A t Q E s) (hQ : ∀ a s, Q a s → Q' a s) : wpAny M A t Q' E s := wpAny_mono h hQ fun _ _ x => x
end L2

namespace L2
open PySem PySem.Spec PyProof.Rows
section
variable {X : Cx}

def tVar (i : Nat) : TE := fun σ H Q => ∃ v, σ[i]? = some (some v) ∧ Q v H
def tC (v : V) : TE := fun _ H Q => Q v H
theorem pe_var {i : Nat} {x : Str} {pos : Pos} (hN : X.N[i]? = some x) (hv : Vis X.env.scope x) (hd : (x == ("__debug__" : Str)) = false := by decide) (hcd : (x == ("__classdict__" : Str)) = false := by decide) : PE X (.Name x pos) (tVar i) := by
  intro pins s σ H Q I h
  obtain ⟨v, e, h⟩ := h
  obtain ⟨m, hn, hl⟩ := I.loc
  obtain ⟨u, r, l⟩ := hl i x v hN e hv
  have fin : EP X pins σ Q u s := ⟨v, H, I, r, h⟩
  rcases l with ⟨hk, hm⟩ | ⟨hk, c, hc, hcell⟩
  · exact wpAny_Name (wpAny_loadName_local I.ok.kind hk hn hm fin) hd
  · rcases hk with hk | hk
    · exact wpAny_Name (wpAny_loadName_cell I.ok.kind hk hc hcell fin) hd
    · exact wpAny_Name (wpAny_loadName_free I.ok.kind hk hc hcell fin hcd) hd
theorem pe_int {i j pos} : PE X (.Constant (.int i) j pos) (tC (.int i)) := fun _ _ _ H _ I h => wpAny_Constant_int ⟨.int i, H, I.tok _, ⟨_, rfl⟩, h⟩
theorem pe_bl {b j pos} : PE X (.Constant (.bool b) j pos) (tC (.bl b)) := fun _ _ _ H _ I h => Constant_bool ⟨.bl b, H, I, rfl, h⟩
theorem pe_non {j pos} : PE X (.Constant .none j pos) (tC .non) := fun _ _ _ H _ I h => Constant_none ⟨.non, H, I, rfl, h⟩
theorem pe_str {x j pos} : PE X (.Constant (.str x) j pos) (tC (.str x)) := fun _ _ _ H _ I h => Calls.Constant_str ⟨.str x, H, I.tok _, ⟨_, rfl⟩, h⟩

def Gl (X : Cx) (x : Str) : Prop := X.env.kindOf x = some .globalImplicit
theorem ld_glob {E : Value → Shared → Prop} {pins : List (Addr × Obj)} {s : Shared} {σ : St} {H : Hp} {x : Str} {u : Value} {pos : Pos} {Q : Value → Shared → Prop} (I : Inv X pins σ H s) (hg : Gl X x) (hm : X.mg x = some u) (h : Q u s)
    (hd : (x == ("__debug__" : Str)) = false := by decide) : wpAny (model X.prog X.w) X.A (eval (.Name x pos) X.env) Q E s :=
  Calls.Name_function_global I.ok.kind hg (Calls.loadGlobal_global (by rw [I.ok.glob]; exact I.mod.glob.keeps I.bk) hm h) hd
theorem ld_blt {E : Value → Shared → Prop} {pins : List (Addr × Obj)} {s : Shared} {σ : St} {H : Hp} {x : Str} {u : Value} {pos : Pos} {Q : Value → Shared → Prop} (I : Inv X pins σ H s) (hg : Gl X x) (hm : X.mg x = none) (hv : bootBuiltins x = some u) (h : Q u s)
    (hn : x ≠ "__name__" := by decide) (hd : (x == ("__debug__" : Str)) = false := by decide) : wpAny (model X.prog X.w) X.A (eval (.Name x pos) X.env) Q E s := by
  obtain ⟨mb, h1, h2⟩ := I.mod.blt
  exact Calls.Name_function_global I.ok.kind hg (Calls.loadGlobal_builtin (by rw [I.ok.glob]; exact I.mod.glob.keeps I.bk) hm (by rw [I.ok.blt]; exact h1.keeps I.bk) ((h2 x hn).trans hv) h) hd
theorem pe_glob {x : Str} {v : V} {u : Value} {pos : Pos} (hg : Gl X x) (hm : X.mg x = some u) (r : RelV v u) (hd : (x == ("__debug__" : Str)) = false := by decide) : PE X (.Name x pos) (tC v) :=
  fun _ _ _ H _ I h => ld_glob I hg hm ⟨v, H, I, r, h⟩ hd
theorem pe_bltn {x : Str} {v : V} {u : Value} {pos : Pos} (hg : Gl X x) (hm : X.mg x = none) (hv : bootBuiltins x = some u) (r : RelV v u) (hn : x ≠ "__name__" := by decide) (hd : (x == ("__debug__" : Str)) = false := by decide) : PE X (.Name x pos) (tC v) :=
  fun _ _ _ H _ I h => ld_blt I hg hm hv ⟨v, H, I, r, h⟩ hn hd

variable {a b : Expr} {ta tb : TE} {pos : Pos}
def tB (t : TE) : TT := fun σ H Q => t σ H fun x H1 => ∃ c, x = .bl c ∧ Q c H1
theorem pt_val {e : Expr} {t : TE} (h : PE X e t) (he : ∀ whole, isTrue e X.env whole = (do let v ← whole; standAt e.pos; holding [v] (truthy v)) := by intro _; rfl) : PT X e (tB t) := by
  intro pins s σ H Q I hw
  refine isTrue_plain (thn (h pins s σ H _ I hw) fun v s1 ⟨x, H1, I1, r1, q1⟩ => ?_) (he _)
  obtain ⟨d, rfl, q⟩ := q1
  cases r1
  exact wpAny_truthy_bool ⟨H1, I1, q⟩

variable {tA tB' : TT} {rest : List Expr}
def tAnd (t u : TT) : TT := fun σ H Q => t σ H fun c H1 => if c = true then u σ H1 Q else Q false H1
def tOr (t u : TT) : TT := fun σ H Q => t σ H fun c H1 => if c = true then Q true H1 else u σ H1 Q
def tNot (t : TT) : TT := fun σ H Q => t σ H fun c H1 => Q (!c) H1
theorem pw_and1 (ha : PT X a tA) : PW X (.BoolOp .And [a] pos) tA := by
  intro wh pins s σ H Q I h
  refine isTrue_and (thn (ha pins s σ H Q I h) fun c s1 e => ?_)
  cases c with
  | true => exact isTrue_and_nil e
  | false => exact e
theorem pw_or1 (ha : PT X a tA) : PW X (.BoolOp .Or [a] pos) tA := by
  intro wh pins s σ H Q I h
  refine isTrue_or (thn (ha pins s σ H Q I h) fun c s1 e => ?_)
  cases c with
  | false => exact isTrue_or_nil e
  | true => exact e
theorem pw_and (ha : PT X a tA) (hb : PW X (.BoolOp .And (b :: rest) pos) tB') : PW X (.BoolOp .And (a :: b :: rest) pos) (tAnd tA tB') := by
  intro wh pins s σ H Q I h
  refine isTrue_and (thn (ha pins s σ H _ I h) fun c s1 ⟨H1, I1, q1⟩ => ?_)
  cases c with
  | true => exact hb wh pins s1 σ H1 Q I1 q1
  | false => exact ⟨H1, I1, q1⟩
theorem pw_or (ha : PT X a tA) (hb : PW X (.BoolOp .Or (b :: rest) pos) tB') : PW X (.BoolOp .Or (a :: b :: rest) pos) (tOr tA tB') := by
  intro wh pins s σ H Q I h
  refine isTrue_or (thn (ha pins s σ H _ I h) fun c s1 ⟨H1, I1, q1⟩ => ?_)
  cases c with
  | true => exact ⟨H1, I1, q1⟩
  | false => exact hb wh pins s1 σ H1 Q I1 q1
theorem pt_not (ha : PT X a tA) : PT X (.UnaryOp .Not a pos) (tNot tA) := by
  intro pins s σ H Q I h
  exact isTrue_not (ha pins s σ H (fun c H1 => Q (!c) H1) I h)
def tAndV (ta tb : TE) : TE := fun σ H Q => ta σ H fun x H1 => ∃ c, x = .bl c ∧ if c = true then tb σ H1 Q else Q (.bl false) H1
def tOrV (ta tb : TE) : TE := fun σ H Q => ta σ H fun x H1 => ∃ c, x = .bl c ∧ if c = true then Q (.bl true) H1 else tb σ H1 Q
def tNotV (ta : TE) : TE := fun σ H Q => ta σ H fun x H1 => ∃ c, x = .bl c ∧ Q (.bl (!c)) H1
theorem pe_one {op} {t : TE} (h : PE X a t) : PE X (.BoolOp op [a] pos) t := fun pins s σ H Q I hw => BoolOp_one (h pins s σ H Q I hw)
theorem pe_and (ha : PE X a ta) (hb : PE X (.BoolOp .And (b :: rest) pos) tb) : PE X (.BoolOp .And (a :: b :: rest) pos) (tAndV ta tb) := by
  intro pins s σ H Q I h
  refine BoolOp_and (thn (ha pins s σ H _ I h) fun v s1 ⟨x, H1, I1, r1, q1⟩ => ?_)
  obtain ⟨c, rfl, q1⟩ := q1
  cases r1
  refine wpAny_truthy_bool ?_
  cases c with
  | true => exact hb pins s1 σ H1 Q I1 q1
  | false => exact ⟨.bl false, H1, I1, rfl, q1⟩
theorem pe_or (ha : PE X a ta) (hb : PE X (.BoolOp .Or (b :: rest) pos) tb) : PE X (.BoolOp .Or (a :: b :: rest) pos) (tOrV ta tb) := by
  intro pins s σ H Q I h
  refine BoolOp_or (thn (ha pins s σ H _ I h) fun v s1 ⟨x, H1, I1, r1, q1⟩ => ?_)
  obtain ⟨c, rfl, q1⟩ := q1
  cases r1
  refine wpAny_truthy_bool ?_
  cases c with
  | false => exact hb pins s1 σ H1 Q I1 q1
  | true => exact ⟨.bl true, H1, I1, rfl, q1⟩
theorem pe_not (ha : PE X a ta) : PE X (.UnaryOp .Not a pos) (tNotV ta) := by
  intro pins s σ H Q I h
  refine UnaryOp_ (thn (ha pins s σ H _ I h) fun v s1 ⟨x, H1, I1, r1, q1⟩ => ?_)
  obtain ⟨c, rfl, q1⟩ := q1
  cases r1
  exact not_of (wpAny_truthy_bool ⟨.bl (!c), H1, I1, rfl, q1⟩)
def tIf (t : TT) (ta tb : TE) : TE := fun σ H Q => t σ H fun c H1 => if c = true then ta σ H1 Q else tb σ H1 Q
theorem pe_ifExp {c : Expr} (hc : PT X c tA) (ha : PE X a ta) (hb : PE X b tb) : PE X (.IfExp c a b pos) (tIf tA ta tb) := by
  intro pins s σ H Q I h
  refine wpAny_IfExp (thn (hc pins s σ H _ I h) fun d s1 ⟨H1, I1, q1⟩ => ?_)
  cases d with
  | true => exact ha pins s1 σ H1 Q I1 q1
  | false => exact hb pins s1 σ H1 Q I1 q1
end
end L2

namespace L2
open PySem PySem.Spec PyProof.Rows

def SqL (K : PySem.W.Frag) (H : Hp) (a : Addr) (xs : List V) : Prop :=
  Rd H a (.lst xs) ∨
    ∃ (o : Obj) (its : Array Value) (n : Nat), K.lookup a = some o ∧ o.cls = .type "list" ∧ o.dict = none ∧ o.data = .seq its n ∧ its.size ≤ sizeLine ∧ Vals xs its.toList
def SqT (K : PySem.W.Frag) (H : Hp) (a : Addr) (xs : List V) : Prop :=
  Rd H a (.tup xs) ∨
    ∃ (o : Obj) (its : Array Value) (n : Nat), K.lookup a = some o ∧ o.cls = .type "tuple" ∧ o.data = .seq its n ∧ its.size ≤ sizeLine ∧ Vals xs its.toList
def absV : Value → Option V
  | .none => some .non
  | .bool b => some (.bl b)
  | .int i _ => some (.int i)
  | .str x _ => some (.str x)
  | .bytes b _ => some (.byt b)
  | .float b _ => some (.flt b)
  | .ref a => some (.ref a)
  | .type n => some (.ty n)
  | _ => none
theorem RelV.abs {x : V} {u : Value} (r : RelV x u) : absV u = some x := by
  cases x with
  | non => cases r; rfl
  | bl _ => cases r; rfl
  | int _ => obtain ⟨t, rfl⟩ := r; rfl
  | str _ => obtain ⟨t, rfl⟩ := r; rfl
  | byt _ => obtain ⟨t, rfl⟩ := r; rfl
  | flt _ => obtain ⟨t, rfl⟩ := r; rfl
  | ref _ => cases r; rfl
  | ty _ => cases r; rfl
theorem RelV.inj {x y : V} {u : Value} (r : RelV x u) (q : RelV y u) : x = y := Option.some.inj (r.abs.symm.trans q.abs)
theorem Vals.inj : ∀ {xs ys : List V} {us : List Value}, Vals xs us → Vals ys us → xs = ys
  | _, _, _, .nil, .nil => rfl
  | _, _, _, .cons r t, .cons r' t' => by rw [r.inj r', Vals.inj t t']
section
variable {X : Cx} {pins : List (Addr × Obj)} {σ : St} {H : Hp} {s : Shared} {a : Addr} {xs ys : List V}
theorem SqL.of {K : PySem.W.Frag} (h : H a = some (.lst xs)) : SqL K H a xs := .inl (.inl h)
theorem SqT.of {K : PySem.W.Frag} (h : H a = some (.tup xs)) : SqT K H a xs := .inl (.inl h)
theorem Inv.list (I : Inv X pins σ H s) (h : SqL X.K H a xs) : ∃ its : List Value, Vals xs its ∧ PlainL s.heap a its.toArray ∧ xs.length ≤ sizeLine := by
  rcases h with h | ⟨o, its, n, hk, hc, hd, hs, hz, r⟩
  · obtain ⟨z, its, n, r, e⟩ := h.ok I.hok
    exact ⟨its, r, ⟨_, n, e, rfl, rfl, rfl⟩, z⟩
  · refine ⟨its.toList, r, ⟨o, n, I.kIn a o hk, hc, hd, by simpa using hs⟩, ?_⟩
    have e := r.length
    simp only [Array.length_toList] at e
    omega
theorem Inv.tuple (I : Inv X pins σ H s) (h : SqT X.K H a xs) : ∃ its : List Value, Vals xs its ∧ IsTup s.heap a its.toArray ∧ xs.length ≤ sizeLine := by
  rcases h with h | ⟨o, its, n, hk, hc, hs, hz, r⟩
  · obtain ⟨z, its, r, p⟩ := h.ok I.hok
    exact ⟨its, r, p, z⟩
  · refine ⟨its.toList, r, ⟨o, I.kIn a o hk, hc, n, by simpa using hs⟩, ?_⟩
    have e := r.length
    simp only [Array.length_toList] at e
    omega
theorem Inv.list_inj (I : Inv X pins σ H s) (h : SqL X.K H a xs) (h' : SqL X.K H a ys) : xs = ys := by
  obtain ⟨its, r, ⟨o, n, e, _, _, d⟩, _⟩ := I.list h
  obtain ⟨its', r', ⟨o', n', e', _, _, d'⟩, _⟩ := I.list h'
  rw [e] at e'; cases e'
  rw [d] at d'
  injection d' with d1 _
  have : its = its' := by simpa using congrArg Array.toList d1
  subst this
  exact r.inj r'
theorem Inv.tuple_inj (I : Inv X pins σ H s) (h : SqT X.K H a xs) (h' : SqT X.K H a ys) : xs = ys := by
  obtain ⟨its, r, ⟨o, e, _, n, d⟩, _⟩ := I.tuple h
  obtain ⟨its', r', ⟨o', e', _, n', d'⟩, _⟩ := I.tuple h'
  rw [e] at e'; cases e'
  rw [d] at d'
  injection d' with d1 _
  have : its = its' := by simpa using congrArg Array.toList d1
  subst this
  exact r.inj r'
end

abbrev Cx.wish (X : Cx) (E : Value → Shared → Prop) : Cx := { X with xe := E }
abbrev Cx.nox (X : Cx) : Cx := X.wish fun _ _ => False
theorem Cx.Ok.wish {X : Cx} (ok : X.Ok) (E : Value → Shared → Prop) : (X.wish E).Ok :=
  ⟨ok.mod, ok.kind, ok.glob, ok.blt, ok.above, ok.inj, ok.has, ok.cab, ok.hd, ok.frames, ok.stk, ok.exf, ok.bs, ok.bsz, ok.noex, ok.exfs, ok.funs, ok.frf⟩
theorem Cx.Ok.unwish {X : Cx} {E : Value → Shared → Prop} (ok : (X.wish E).Ok) : X.Ok :=
  ⟨ok.mod, ok.kind, ok.glob, ok.blt, ok.above, ok.inj, ok.has, ok.cab, ok.hd, ok.frames, ok.stk, ok.exf, ok.bs, ok.bsz, ok.noex, ok.exfs, ok.funs, ok.frf⟩
section
variable {X : Cx} {pins : List (Addr × Obj)} {σ : St} {H : Hp} {s : Shared} {E : Value → Shared → Prop}
theorem Inv.wish (I : Inv X pins σ H s) (E : Value → Shared → Prop) : Inv (X.wish E) pins σ H s := ⟨I.ok.wish E, I.os, I.bare, I.base, I.loc, I.cell, I.free, I.freeC, I.pin, I.hok, I.len⟩
theorem Inv.unwish (I : Inv (X.wish E) pins σ H s) : Inv X pins σ H s := ⟨I.ok.unwish, I.os, I.bare, I.base, I.loc, I.cell, I.free, I.freeC, I.pin, I.hok, I.len⟩
theorem SP.unwish {D : Ends} {f : Flow} {s' : Shared} (h : SP (X.wish E) pins D f s') : SP X pins D f s' := by
  cases f with
  | next => obtain ⟨σ', H', I, q⟩ := h; exact ⟨σ', H', I.unwish, q⟩
  | brk => obtain ⟨σ', H', I, q⟩ := h; exact ⟨σ', H', I.unwish, q⟩
  | cont => obtain ⟨σ', H', I, q⟩ := h; exact ⟨σ', H', I.unwish, q⟩
  | ret u => obtain ⟨v, σ', H', I, r, q⟩ := h; exact ⟨v, σ', H', I.unwish, r, q⟩
theorem PE.nox {e : Expr} {t : TE} (h : PE X.nox e t) : PE X e t := fun pins s σ H Q I hw =>
  wpAny_mono (h pins s σ H Q (I.wish _) hw) (fun _ _ ⟨v, H', I', r, q⟩ => ⟨v, H', I'.unwish, r, q⟩) fun _ _ z => False.elim z
theorem PT.nox {e : Expr} {t : TT} (h : PT X.nox e t) : PT X e t := fun pins s σ H Q I hw =>
  wpAny_mono (h pins s σ H Q (I.wish _) hw) (fun _ _ ⟨H', I', q⟩ => ⟨H', I'.unwish, q⟩) fun _ _ z => False.elim z
theorem PSs.nox {st : List Stmt} {t : TS} (h : PSs X.nox st t) : PSs X st t := fun pins s σ H D I hw =>
  wpAny_mono (h pins s σ H D (I.wish _) hw) (fun _ _ q => q.unwish) fun _ _ z => False.elim z
end

section
variable {X : Cx} {st : Stmt} {rest : List Stmt} {t u : TS} {e : Expr} {te : TE} {pos : Pos}
def tNext : TS := fun D σ H => D.nx σ H
def tSeq (t u : TS) : TS := fun D σ H => t { D with nx := u D } σ H
theorem pss_nil : PSs X [] tNext := fun _ _ σ H _ I h => wpAny_execs_nil ⟨σ, H, I, h⟩
theorem pss_cons (h1 : PS X st t) (h2 : PSs X rest u) : PSs X (st :: rest) (tSeq t u) := by
  intro pins s σ H D I h
  refine wpAny_execs_cons (thn (h1 pins s σ H { D with nx := u D } I h) fun f s1 q => ?_)
  cases f with
  | next =>
    obtain ⟨σ', H', I', q⟩ := q
    exact h2 pins s1 σ' H' D I' q
  | ret v => exact q
  | brk => exact q
  | cont => exact q
theorem pss_one (h1 : PS X st t) : PSs X [st] t := by
  intro pins s σ H D I h
  refine wpAny_execs_cons (thn (h1 pins s σ H D I h) fun f s1 q => ?_)
  cases f with
  | next => exact wpAny_execs_nil q
  | ret v => exact q
  | brk => exact q
  | cont => exact q
def tCont : TS := fun D σ H => D.ct σ H
theorem ps_continue : PS X (.Continue pos) tCont := fun _ _ σ H _ I h => wpAny_Continue ⟨σ, H, I, h⟩
theorem Inv.quiet {pins : List (Addr × Obj)} {σ : St} {H : Hp} {s : Shared} (I : Inv X pins σ H s) : interactive X.env = false := by simp [interactive, I.ok.kind]
def tDrop (te : TE) : TS := fun D σ H => te σ H fun _ H1 => D.nx σ H1
theorem ps_expr (he : PE X e te) (hs : swapsWith e none pos.line X.env = pure false := by rfl) : PS X (.Expr e pos) (tDrop te) := by
  intro pins s σ H D I h
  exact wpAny_Expr_any (thn (he pins s σ H _ I h) fun v s1 ⟨x, H1, I1, r1, q1⟩ => ⟨σ, H1, I1, q1⟩) I.quiet hs
def tRet (te : TE) : TS := fun D σ H => te σ H D.rt
theorem ps_ret (he : PE X e te) : PS X (.Return (some e) pos) (tRet te) := by
  intro pins s σ H D I h
  exact wpAny_Return_some (thn (he pins s σ H _ I h) fun v s1 ⟨x, H1, I1, r1, q1⟩ => ⟨x, σ, H1, I1, r1, q1⟩)
def tIfS (c : TT) (t u : TS) : TS := fun D σ H => c σ H fun b H1 => if b = true then t D σ H1 else u D σ H1
theorem ps_if {c : Expr} {a b : List Stmt} {tc : TT} (hc : PT X c tc) (ha : PSs X a t) (hb : PSs X b u) : PS X (.If c a b pos) (tIfS tc t u) := by
  intro pins s σ H D I h
  refine wpAny_If (thn (hc pins s σ H _ I h) fun d s1 ⟨H1, I1, q1⟩ => ?_)
  cases d with
  | true => exact ha pins s1 σ H1 D I1 q1
  | false => exact hb pins s1 σ H1 D I1 q1
end

abbrev TG := V → St → Hp → (St → Hp → Prop) → Prop
abbrev TGs := List V → St → Hp → (St → Hp → Prop) → Prop
def PG (X : Cx) (target : Expr) (t : TG) : Prop :=
  ∀ (pins : List (Addr × Obj)) (s : Shared) (σ : St) (H : Hp) (v : V) (u : Value) (Q : St → Hp → Prop), Inv X pins σ H s → RelV v u → t v σ H Q →
    wpAny (model X.prog X.w) X.A (assign target X.env u) (fun _ s' => ∃ σ' H', Inv X pins σ' H' s' ∧ Q σ' H') X.xe s
def PGs (X : Cx) (ts : List Expr) (t : TGs) : Prop :=
  ∀ (pins : List (Addr × Obj)) (s : Shared) (σ : St) (H : Hp) (vs : List V) (us : List Value) (Q : St → Hp → Prop), Inv X pins σ H s → Vals vs us → t vs σ H Q →
    wpAny (model X.prog X.w) X.A (assignInOrder ((assignEach ts X.env).map (·.2)) us) (fun _ s' => ∃ σ' H', Inv X pins σ' H' s' ∧ Q σ' H') X.xe s
abbrev TIp := V → V → Hp → VK → Prop
def PIp (X : Cx) (op : Operator) (t : TIp) : Prop :=
  ∀ (pins : List (Addr × Obj)) (s : Shared) (σ : St) (H : Hp) (x y : V) (v u : Value) (Q : VK), Inv X pins σ H s → RelV x v → RelV y u → t x y H Q →
    wpAny (model X.prog X.w) X.A (inplaceOp op v u) (EP X pins σ Q) X.xe s
section
variable {X : Cx} {pos : Pos}
def gName (i : Nat) : TG := fun v σ H Q => Q (σ.set i (some v)) H
theorem pg_name {i : Nat} {x : Str} (hN : X.N.Nodup) (hi : X.N[i]? = some x) (hx : Loc X.env.scope x) (hf : X.fn x = true ∨ X.env.scope.names.lookup x = some .local := by first | exact .inl rfl | exact .inr rfl | assumption) : PG X (.Name x pos) (gName i) := by
  intro pins s σ H v u Q I r h
  exact wpAny_assign_Name (store_ok I hN hi hx r (fun s' I' => ⟨_, H, I', h⟩) hf)
def gNil : TGs := fun vs σ H Q => vs = [] ∧ Q σ H
def gCons (t : TG) (u : TGs) : TGs := fun vs σ H Q => ∃ v r, vs = v :: r ∧ t v σ H fun σ' H' => u r σ' H' Q
theorem pgs_nil : PGs X [] gNil := by
  intro pins s σ H vs us Q I r h
  obtain ⟨e, h⟩ := h
  subst e
  cases r
  exact assignInOrder_nil ⟨σ, H, I, h⟩
theorem pgs_cons {e : Expr} {es : List Expr} {t : TG} {u : TGs} (h1 : PG X e t) (h2 : PGs X es u)
    (hs : (assignEach (e :: es) X.env).map (·.2) = assign e X.env :: (assignEach es X.env).map (·.2) := by rfl) : PGs X (e :: es) (gCons t u) := by
  intro pins s σ H vs us Q I r h
  obtain ⟨v, vr, e1, h⟩ := h
  subst e1
  cases r with
  | cons r rr =>
    rw [hs]
    refine assignInOrder_cons (thn (h1 pins s σ H _ _ _ I r h) fun _ s1 ⟨σ1, H1, I1, q1⟩ => ?_)
    exact h2 pins s1 σ1 H1 _ _ Q I1 rr q1
def gTup (K : PySem.W.Frag) (n : Nat) (t : TGs) : TG := fun v σ H Q => ∃ a xs, v = .ref a ∧ SqT K H a xs ∧ xs.length = n ∧ t xs σ H Q
theorem pg_tup {es : List Expr} {k : Nat} {t : TGs} {n : Nat} (hc : X.calm = true) (h : PGs X es t)
    (hn : (assignEach es X.env).length = n := by rfl) (hst : (assignEach es X.env).findIdx? (·.1) = none := by rfl) : PG X (.Tuple es k pos) (gTup X.K n t) := by
  intro pins s σ H v u Q I r hw
  obtain ⟨a, xs, e1, hq, hl, hw⟩ := hw
  subst e1
  cases r
  obtain ⟨its, rv, ht, hz⟩ := I.tuple hq
  refine assign_Tuple_tuple (I.ok.hd hc) ht (by simp [hn, ← hl, rv.length]) hst fun h' hx => ?_
  have I1 : Inv X pins σ H { s with heap := h' } := I.kept (t' := s.toks) fun b o e => hx b o (Nat.ne_of_lt (Heap.lt_size e)) e
  exact h pins _ σ H xs _ Q I1 (by simpa using rv) hw
def tAsg (te : TE) (g : TG) : TS := fun D σ H => te σ H fun x H1 => g x σ H1 D.nx
theorem ps_set {i : Nat} {x : Str} {e : Expr} {te : TE} {pos' : Pos} (hN : X.N.Nodup) (hi : X.N[i]? = some x) (hx : Loc X.env.scope x) (he : PE X e te) (hs : swapsWith e (some (.Name x pos')) pos.line X.env = pure false := by rfl) (hf : X.fn x = true ∨ X.env.scope.names.lookup x = some .local := by first | exact .inl rfl | exact .inr rfl | assumption) :
    PS X (.Assign [.Name x pos'] e pos) (tAsg te (gName i)) := by
  intro pins s σ H D I h
  refine wpAny_Assign_Name (thn (he pins s σ H _ I h) fun v s1 ⟨y, H1, I1, r1, q1⟩ => ?_) hs
  exact store_ok I1 hN hi hx r1 (fun s2 I2 => ⟨_, H1, I2, q1⟩) hf
def tAug (i : Nat) (te : TE) (ti : TIp) : TS := fun D σ H => ∃ x, σ[i]? = some (some x) ∧ te σ H fun y H1 => ti x y H1 fun z H2 => D.nx (σ.set i (some z)) H2
theorem ps_aug {i : Nat} {x : Str} {e : Expr} {te : TE} {op : Operator} {ti : TIp} {pos' : Pos} (hN : X.N.Nodup) (hi : X.N[i]? = some x) (hx : Loc X.env.scope x) (he : PE X e te) (ho : PIp X op ti) (hf : X.fn x = true ∨ X.env.scope.names.lookup x = some .local := by first | exact .inl rfl | exact .inr rfl | assumption) :
    PS X (.AugAssign (.Name x pos') op e pos) (tAug i te ti) := by
  intro pins s σ H D I h
  obtain ⟨v, e1, h⟩ := h
  obtain ⟨m, hn, hl⟩ := I.loc
  have vis : Vis X.env.scope x := by rcases hx with k | k; exact .inl k; exact .inr (.inl k)
  obtain ⟨u, r, l⟩ := hl i x v hi e1 vis
  refine wpAny_AugAssign_Name ?_
  have go : wpAny (model X.prog X.w) X.A (eval e X.env) (fun w s₂ => wpAny (model X.prog X.w) X.A (inplaceOp op u w) (fun r s₃ => wpAny (model X.prog X.w) X.A (storeName X.env x r) (fun _ => SP X pins D .next) X.xe s₃) X.xe s₂) X.xe s := by
    refine thn (he pins s σ H _ I h) fun w s1 ⟨y, H1, I1, r1, q1⟩ => ?_
    refine thn (ho pins s1 σ H1 v y u w _ I1 r r1 q1) fun z s2 ⟨zv, H2, I2, r2, q2⟩ => ?_
    exact store_ok I2 hN hi hx r2 (fun s3 I3 => ⟨_, H2, I3, q2⟩) hf
  rcases l with ⟨hk, hm⟩ | ⟨hk, c, hc, hcell⟩
  · exact wpAny_loadName_local I.ok.kind hk hn hm go
  · rcases hk with hk | hk
    · exact wpAny_loadName_cell I.ok.kind hk hc hcell go
    · rcases hx with k | k
      · have : X.env.scope.names.lookup x = some .free := hk
        rw [k] at this; cases this
      · have : X.env.scope.names.lookup x = some .free := hk
        rw [k] at this; cases this
end

section
variable {X : Cx} {pos : Pos}
end

structure It where
  go : Nat → Hp → Prop
  yld : Nat → Hp → V → Hp → Prop
  stop : Nat → Hp → Prop
def FpOk (X : Cx) (pins : List (Addr × Obj)) (H : Hp) (b : Addr) : Prop :=
  H b = none ∧ b ≠ X.env.locals ∧ b ∉ X.fs ∧ (b ∈ X.ex ∨ X.s₀.heap.objs.size ≤ b) ∧ (∀ x c, X.env.cells.lookup x = some c → c ≠ b) ∧ ∀ p ∈ X.pn ++ pins, p.1 ≠ b
theorem Inv.fpOk {X : Cx} {pins : List (Addr × Obj)} {σ : St} {H H' : Hp} {s : Shared} {b : Addr} (I : Inv X pins σ H s) (hb : s.heap.objs.size ≤ b) (hn : H' b = none) : FpOk X pins H' b := by
  refine ⟨hn, Nat.ne_of_gt (Nat.lt_of_lt_of_le I.lt hb), I.nofs hb, .inr (Nat.le_trans I.sz hb), fun x c e z => ?_, fun p hp z => ?_⟩
  · obtain ⟨v, q⟩ := I.cell x c e
    exact absurd (Nat.lt_of_lt_of_le q.lt (by rw [z]; exact hb)) (Nat.lt_irrefl _)
  · exact absurd (Nat.lt_of_lt_of_le (Heap.lt_size (I.pin p hp).1) (by rw [z]; exact hb)) (Nat.lt_irrefl _)
structure Turn (P : Program) (w : World) (K : PySem.W.Frag) (tg : Expr) (J : It) (fp : List Addr) (it : Addr) (tn : Nat → Heap → Prop) : Prop where
  mem : it ∈ fp
  obj : ∀ i h, tn i h → ∀ b ∈ fp, ∃ o, h.get? b = some o ∧ ∀ v, o.data ≠ .cell v
  keep : ∀ i h h', tn i h → (∀ b ∈ fp, ∀ o, h.get? b = some o → h'.get? b = some o) → tn i h'
  item : ∀ (X : Cx), X.prog = P → X.w = w → X.K = K → X.calm = true → ∀ (i : Nat) (pins : List (Addr × Obj)) (s : Shared) (σ : St) (H : Hp) (E : Value → Shared → Prop), Inv X pins σ H s → (∀ b ∈ fp, FpOk X pins H b) → tn i s.heap → J.go i H →
    wpAny (model P w) X.A (pyNext (.ref it)) (fun r s1 => ∃ u, r = some u ∧
      wpAny (model P w) X.A (letOwnedTupleGo tg (.ref it) u) (fun _ s2 => ∃ x H', Inv X pins σ H' s2 ∧ RelV x u ∧ J.yld i H x H' ∧ tn (i + 1) s2.heap ∧ ∀ b ∈ fp, H' b = none) E s1) E s
  done : ∀ (X : Cx), X.prog = P → X.w = w → X.K = K → X.calm = true → ∀ (i : Nat) (pins : List (Addr × Obj)) (s : Shared) (σ : St) (H : Hp) (E : Value → Shared → Prop), Inv X pins σ H s → (∀ b ∈ fp, FpOk X pins H b) → tn i s.heap → J.stop i H →
    wpAny (model P w) X.A (pyNext (.ref it)) (fun r s1 => r = none ∧ Inv X pins σ H s1) E s
  self : ∀ (A : Around) (i : Nat) (s : Shared) (Q : Value → Shared → Prop) (E : Value → Shared → Prop), tn i s.heap → Q (.ref it) s → wpAny (model P w) A (pyIter (.ref it)) Q E s
abbrev TI := St → Hp → (It → Hp → Prop) → Prop
def PIE (X : Cx) (pins : List (Addr × Obj)) (σ : St) (tg : Expr) (R : It → Hp → Prop) (itv : Value) (s2 : Shared) : Prop :=
  ∃ (it : Addr) (fp : List Addr) (tn : Nat → Heap → Prop) (J : It) (H' : Hp), itv = .ref it ∧ Inv X pins σ H' s2 ∧ Turn X.prog X.w X.K tg J fp it tn ∧ tn 0 s2.heap ∧ (∀ b ∈ fp, FpOk X pins H' b) ∧ R J H'
def PI (X : Cx) (tg iter : Expr) (wi : TI) : Prop :=
  ∀ (pins : List (Addr × Obj)) (s : Shared) (σ : St) (H : Hp) (R : It → Hp → Prop), Inv X pins σ H s → wi σ H R →
    wpAny (model X.prog X.w) X.A (eval iter X.env) (fun v s1 => wpAny (model X.prog X.w) X.A (pyIter v) (PIE X pins σ tg R) X.xe s1) X.xe s

theorem go_of {M : Model} {A : Around} {E : Value → Shared → Prop} {s : Shared} {tg : Expr} {it : Addr} {u : Value} {o : Obj} {n : String} {vs : Array Value} {Q : Unit → Shared → Prop} (ho : s.heap.get? it = some o) (hc : o.cls = .type n) (hd : o.data = .fields vs)
    (hn : ["enumerate", "zip", "dict_itemiterator", "dict_reverseitemiterator", "odict_iterator", "itertools.zip_longest", "itertools.pairwise"].contains n = false) (hQ : Q () s) : wpAny M A (letOwnedTupleGo tg (.ref it) u) Q E s := by
  unfold letOwnedTupleGo
  cases tg <;> first
    | exact wpAny_pure hQ
    | (cases u <;> first
        | exact wpAny_pure hQ
        | (refine wpAny_bind (wpAny_load ho ?_)
           rw [hc, hd]
           show wpAny M A (if (["enumerate", "zip", "dict_itemiterator", "dict_reverseitemiterator", "odict_iterator", "itertools.zip_longest", "itertools.pairwise"].contains n && vs[0]? == some (rawInt _)) = true then _ else _) Q E s
           rw [if_neg (by intro h; rw [hn, Bool.false_and] at h; cases h)]
           exact wpAny_pure hQ))

def Itl (K : PySem.W.Frag) (a : Addr) : It :=
  ⟨fun i H => ∃ xs x, SqL K H a xs ∧ xs[i]? = some x, fun i H x H' => H' = H ∧ ∀ xs, SqL K H a xs → xs[i]? = some x, fun i H => ∃ xs, SqL K H a xs ∧ xs.length ≤ i⟩
def Itt (K : PySem.W.Frag) (a : Addr) : It :=
  ⟨fun i H => ∃ xs x, SqT K H a xs ∧ xs[i]? = some x, fun i H x H' => H' = H ∧ ∀ xs, SqT K H a xs → xs[i]? = some x, fun i H => ∃ xs, SqT K H a xs ∧ xs.length ≤ i⟩
def Itr (lo : Int) (n : Nat) : It := ⟨fun i _ => i < n, fun i H x H' => H' = H ∧ x = .int (lo + i), fun i _ => n ≤ i⟩
theorem turn_list {P : Program} {w : World} {K : PySem.W.Frag} {tg : Expr} (a it : Addr) : Turn P w K tg (Itl K a) [it] it (fun i h => h.IsListIter it a i) where
  mem := by simp
  obj := fun i h st b hb => by
    have e : b = it := by simpa using hb
    subst e
    obtain ⟨o, e, c, d⟩ := st
    exact ⟨o, e, fun v z => by rw [d] at z; cases z⟩
  keep := fun i h h' st k => st.at fun o e => k it (by simp) o e
  item := by
    intro X hP hw hK hc i pins s σ H E I hf st hg
    subst hP hw hK
    obtain ⟨xs, x, hq, hx⟩ := hg
    obtain ⟨its, rv, p, hz⟩ := I.list hq
    obtain ⟨u, hu, ru⟩ := rv.get hx
    obtain ⟨f0, f1, f2, f3, f4, f5⟩ := hf it (by simp)
    refine wpAny_pyNext_list_item st p.isList (x := u) (by simpa using hu) fun h' st' sb => ?_
    have I1 : Inv X pins σ H { s with heap := h' } := I.turned (t' := s.toks) (fun b o hb e => (sb.2 b hb).trans e) f0 f1 f3 f4 f5
    obtain ⟨o, e, c, d⟩ := id st'
    exact ⟨u, rfl, go_of (s := { s with heap := h' }) e c d (by decide) ⟨x, H, I1, ru, ⟨rfl, fun ys hy => by rw [I.list_inj hy hq]; exact hx⟩, st', fun b hb => (hf b hb).1⟩⟩
  done := by
    intro X hP hw hK hc i pins s σ H E I hf st hg
    subst hP hw hK
    obtain ⟨xs, hq, hx⟩ := hg
    obtain ⟨its, rv, p, hz⟩ := I.list hq
    obtain ⟨f0, f1, f2, f3, f4, f5⟩ := hf it (by simp)
    have hl := rv.length
    exact wpAny_pyNext_list_end (I.ok.hd hc) st p.isList (by simp; omega) fun h' eb => ⟨rfl, I.turned (t' := s.toks) (fun b o hb e => eb b o hb e) f0 f1 f3 f4 f5⟩
  self := fun _ _ _ _ _ st h => wpAny_pyIter_listiter st h
theorem turn_tuple {P : Program} {w : World} {K : PySem.W.Frag} {tg : Expr} (a it : Addr) : Turn P w K tg (Itt K a) [it] it (fun i h => h.IsTupleIter it a i) where
  mem := by simp
  obj := fun i h st b hb => by
    have e : b = it := by simpa using hb
    subst e
    obtain ⟨o, e, c, d⟩ := st
    exact ⟨o, e, fun v z => by rw [d] at z; cases z⟩
  keep := fun i h h' st k => st.at fun o e => k it (by simp) o e
  item := by
    intro X hP hw hK hc i pins s σ H E I hf st hg
    subst hP hw hK
    obtain ⟨xs, x, hq, hx⟩ := hg
    obtain ⟨its, rv, p, hz⟩ := I.tuple hq
    obtain ⟨u, hu, ru⟩ := rv.get hx
    obtain ⟨f0, f1, f2, f3, f4, f5⟩ := hf it (by simp)
    refine wpAny_pyNext_tuple_item st (show s.heap.IsTuple a its.toArray from p) (x := u) (by simpa using hu) fun h' st' sb => ?_
    have I1 : Inv X pins σ H { s with heap := h' } := I.turned (t' := s.toks) (fun b o hb e => (sb.2 b hb).trans e) f0 f1 f3 f4 f5
    obtain ⟨o, e, c, d⟩ := id st'
    exact ⟨u, rfl, go_of (s := { s with heap := h' }) e c d (by decide) ⟨x, H, I1, ru, ⟨rfl, fun ys hy => by rw [I.tuple_inj hy hq]; exact hx⟩, st', fun b hb => (hf b hb).1⟩⟩
  done := by
    intro X hP hw hK hc i pins s σ H E I hf st hg
    subst hP hw hK
    obtain ⟨xs, hq, hx⟩ := hg
    obtain ⟨its, rv, p, hz⟩ := I.tuple hq
    obtain ⟨f0, f1, f2, f3, f4, f5⟩ := hf it (by simp)
    have hl := rv.length
    exact wpAny_pyNext_tuple_end (I.ok.hd hc) st (show s.heap.IsTuple a its.toArray from p) (by simp; omega) fun h' eb => ⟨rfl, I.turned (t' := s.toks) (fun b o hb e => eb b o hb e) f0 f1 f3 f4 f5⟩
  self := fun _ _ _ _ _ st h => wpAny_pyIter_tupleiter st h
theorem turn_range {P : Program} {w : World} {K : PySem.W.Frag} {tg : Expr} (it : Addr) (lo : Int) (n : Nat) : Turn P w K tg (Itr lo n) [it] it (fun i h => IsRangeIter h it (lo + (i : Nat) * 1) ((n : Int) - (i : Nat)) 1) where
  mem := by simp
  obj := fun i h st b hb => by
    have e : b = it := by simpa using hb
    subst e
    exact ⟨_, st, fun v z => by
      have z' : Data.fields _ = Data.cell v := z
      cases z'⟩
  keep := fun i h h' st k => k it (by simp) _ st
  item := by
    intro X hP hw hK hc i pins s σ H E I hf st hg
    subst hP hw hK
    obtain ⟨f0, f1, f2, f3, f4, f5⟩ := hf it (by simp)
    have W := Walks.range (prog := X.prog) (w := X.w) (I.ok.hd hc) it lo 1 n
    refine W.item i s _ _ hg st fun v h' tk hv st' kk => ?_
    obtain ⟨t, rfl⟩ := hv
    have I1 : Inv X pins σ H { s with heap := h', toks := tk } := I.turned (fun b o hb e => kk b o (by simpa using hb) e) f0 f1 f3 f4 f5
    refine ⟨_, rfl, go_of (s := { s with heap := h', toks := tk }) (n := "range_iterator") st' rfl rfl (by decide) ⟨.int (lo + i), H, I1, ⟨t, ?_⟩, ⟨rfl, rfl⟩, st', fun b hb => (hf b hb).1⟩⟩
    rw [Int.mul_one]
  done := by
    intro X hP hw hK hc i pins s σ H E I hf st hg
    subst hP hw hK
    obtain ⟨f0, f1, f2, f3, f4, f5⟩ := hf it (by simp)
    exact wpAny_pyNext_range_end (I.ok.hd hc) st (by have : n ≤ i := hg; omega) fun h' eb => ⟨rfl, I.turned (t' := s.toks) (fun b o hb e => eb b o hb e) f0 f1 f3 f4 f5⟩
  self := fun _ _ _ _ _ st h => wpAny_pyIter_rangeiter st h
end L2

namespace L2
open PySem PySem.Spec PyProof.Rows
section
variable {X : Cx} {tg : Expr}
theorem range_it {pins : List (Addr × Obj)} {σ : St} {H : Hp} {s : Shared} {R : It → Hp → Prop} {E : Value → Shared → Prop} {lo hi : Int} {t u v : Tok} {tk : Nat} (I : Inv X pins σ H s) (h1 : -(2 ^ 62) ≤ lo) (h2 : lo < 2 ^ 62) (h3 : -(2 ^ 62) ≤ hi) (h4 : hi < 2 ^ 62)
    (q : R (Itr lo (hi - lo).toNat) H) : wpAny (model X.prog X.w) X.A (pyIter (.ref s.heap.objs.size)) (PIE X pins σ tg R) E { s with heap := s.heap.push { cls := .type "range", data := .fields #[.int lo t, .int hi u, .int 1 v] }, toks := tk } := by
  refine wpAny_pyIter_range (IsRange.new ..) (small_one h1 h2 h3 h4) ?_
  have I1 : Inv X pins σ H { s with heap := s.heap.push { cls := .type "range", data := .fields #[.int lo t, .int hi u, .int 1 v] }, toks := tk } := I.kept fun b o e => Heap.get?_push_of_some _ e
  refine ⟨(s.heap.push { cls := .type "range", data := .fields #[.int lo t, .int hi u, .int 1 v] }).objs.size, [(s.heap.push { cls := .type "range", data := .fields #[.int lo t, .int hi u, .int 1 v] }).objs.size], _, _, H, rfl,
    I1.kept (t' := tk) fun b o e => Heap.get?_push_of_some _ e, turn_range _ lo (hi - lo).toNat, ?_, fun b hb => ?_, q⟩
  · have e1 : lo + ((0 : Nat) : Int) * 1 = lo := by simp
    have e2 : (((hi - lo).toNat : Nat) : Int) - ((0 : Nat) : Int) = Builtin.Range.rangeSize lo hi 1 := by rw [rangeSize_one]; split <;> omega
    show IsRangeIter _ _ (lo + ((0 : Nat) : Int) * 1) ((((hi - lo).toNat : Nat) : Int) - ((0 : Nat) : Int)) 1
    rw [e1, e2]
    exact Heap.get?_push_size _ rfl
  · have e : b = (s.heap.push { cls := .type "range", data := .fields #[.int lo t, .int hi u, .int 1 v] }).objs.size := by simpa using hb
    subst e
    exact I1.fpOk (Nat.le_refl _) (I1.hok.fresh (Nat.le_refl _))
def iRng1 (ta : TA) : TI := fun σ H R => ta σ H fun vs H1 => ∃ j : Int, vs = [.int j] ∧ -(2 ^ 62) ≤ j ∧ j < 2 ^ 62 ∧ R (Itr 0 j.toNat) H1
theorem pi_range1 {a : Expr} {ta : TA} {p pos : Pos} (hg : Gl X "range") (hm : X.mg "range" = none) (ha : PA X [a] ta) (hs : starEach [a] X.env = [(false, eval a X.env)] := by rfl) : PI X tg (.Call (.Name "range" p) [a] [] pos) (iRng1 ta) := by
  intro pins s σ H R I h
  refine Call_ (ld_blt I hg hm boot_range (PyProof.Rows.callWith_type1 (thn (ha pos pins s σ H _ I h) fun us s1 ⟨vs, H1, I1, r1, q1⟩ => ?_) hs rfl))
  obtain ⟨j, e, q1, q2, q⟩ := q1
  subst e
  cases r1 with
  | cons r rr =>
    cases rr
    obtain ⟨t, rfl⟩ := r
    exact call_range_1 (range_it I1 (by omega) (by omega) q1 q2 (by simpa using q))
def tFor (wi : TI) (g : TG) (tb : TS) : TS := fun D σ H => wi σ H fun J H1 => ∃ W : Nat → Nat → St → Hp → Prop, (∃ m, W 0 m σ H1) ∧ ∀ i m σ H, W i m σ H →
  (J.stop i H ∧ D.nx σ H) ∨ (J.go i H ∧ ∃ N : St → Hp → Prop, (∀ σ' H', N σ' H' → ∃ m', m' < m ∧ W (i + 1) m' σ' H') ∧ ∀ x H', J.yld i H x H' → g x σ H' fun σ2 H2 => tb { D with nx := N, ct := N, bk := D.nx } σ2 H2)
def pinsAt (fp : List Addr) (h : Heap) : List (Addr × Obj) := fp.filterMap fun b => (h.get? b).map fun o => (b, o)
theorem mem_pinsAt {fp : List Addr} {h : Heap} {b : Addr} {o : Obj} (hb : b ∈ fp) (e : h.get? b = some o) : (b, o) ∈ pinsAt fp h := List.mem_filterMap.mpr ⟨b, hb, by rw [e]; rfl⟩
theorem of_pinsAt {fp : List Addr} {h : Heap} {p : Addr × Obj} (hp : p ∈ pinsAt fp h) : p.1 ∈ fp ∧ h.get? p.1 = some p.2 := by
  obtain ⟨b, hb, e⟩ := List.mem_filterMap.mp hp
  cases q : h.get? b with
  | none => rw [q] at e; cases e
  | some o =>
    rw [q] at e
    have e' : (b, o) = p := Option.some.inj e
    subst e'
    exact ⟨hb, q⟩
theorem Inv.pinned {pins : List (Addr × Obj)} {σ : St} {H : Hp} {s : Shared} {fp : List Addr} (I : Inv X pins σ H s) (hf : ∀ b ∈ fp, FpOk X pins H b) (ho : ∀ b ∈ fp, ∃ o, s.heap.get? b = some o ∧ ∀ v, o.data ≠ .cell v) : Inv X (pins ++ pinsAt fp s.heap) σ H s :=
  I.pins_of fun p hp => (List.mem_append.mp hp).elim (fun z => I.pin p (List.mem_append_right _ z)) fun z => by
    obtain ⟨hb, e⟩ := of_pinsAt z
    obtain ⟨f0, f1, f2, _⟩ := hf p.1 hb
    obtain ⟨o, e', d⟩ := ho p.1 hb
    rw [e] at e'; cases e'
    exact ⟨e, f0, f1, f2, d⟩
theorem Inv.unpinned {pins pl : List (Addr × Obj)} {σ : St} {H : Hp} {s : Shared} (I : Inv X (pins ++ pl) σ H s) : Inv X pins σ H s := I.pins_of fun p hp => I.pin p (List.mem_append_right _ (List.mem_append_left _ hp))
theorem ps_for {iter : Expr} {body : List Stmt} {wi : TI} {g : TG} {tb : TS} {pos : Pos} (hp : PassesOwn (model X.prog X.w) X.A X.env X.xe) (hc : X.calm = true) (hi : PI X tg iter wi) (hg : PG X tg g) (hb : PSs X body tb)
    (hs : ∀ x, foldedSetIterable iter X.env x = pure x := by intro _; rfl) : PS X (.For tg iter body [] pos) (tFor wi g tb) := by
  intro pins s σ H D I h
  refine wpAny_For (thn (hi pins s σ H _ I h) fun v s1 h1 => thn h1 fun itv s2 h2 => ?_) hs
  obtain ⟨it, fp, tn, J, H2, e, I2, T, st2, f2, W, ⟨m0, w0⟩, turn⟩ := h2
  subst e
  have stat : ∀ {H' : Hp}, (∀ b ∈ fp, H' b = none) → ∀ b ∈ fp, FpOk X pins H' b := fun hn b hb => ⟨hn b hb, (f2 b hb).2⟩
  refine codeAny_forLoop_any (fun n s' => ∃ i σ' H', Inv X pins σ' H' s' ∧ tn i s'.heap ∧ (∀ b ∈ fp, H' b = none) ∧ W i n σ' H') ?_ m0 ⟨0, σ, H2, I2, st2, fun b hb => (f2 b hb).1, w0⟩
  rintro n s3 ⟨i, σ3, H3, I3, st3, fr3, w3⟩
  rcases turn i n σ3 H3 w3 with ⟨stop, qn⟩ | ⟨go, N, hN, step⟩
  · refine wpAny_passesOwn hp (thn (T.done X rfl rfl rfl hc i pins s3 σ3 H3 X.xe I3 (stat fr3) st3 stop) fun r s4 ⟨hr, I4⟩ => ?_)
    subst hr
    exact wpAny_execs_nil ⟨σ3, H3, I4, qn⟩
  · refine wpAny_passesOwn hp (thn (T.item X rfl rfl rfl hc i pins s3 σ3 H3 X.xe I3 (stat fr3) st3 go) fun r s4 ⟨u, hr, h4⟩ => ?_)
    subst hr
    refine wpAny_passesOwn hp (thn h4 fun _ s5 ⟨x, H5, I5, r5, y5, st5, fr5⟩ => ?_)
    have I5' := I5.pinned (stat fr5) (T.obj _ _ st5)
    refine wpAny_passesOwn hp (thn (hg _ s5 σ3 H5 x u _ I5' r5 (step x H5 y5)) fun _ s6 ⟨σ6, H6, I6, q6⟩ => ?_)
    refine wpAny_passesOwn hp (thn (hb _ s6 σ6 H6 _ I6 q6) fun f s7 q7 => ?_)
    have again : ∀ {σ7 : St} {H7 : Hp}, Inv X (pins ++ pinsAt fp s5.heap) σ7 H7 s7 → N σ7 H7 → ∃ m, m < n ∧ ∃ i σ' H', Inv X pins σ' H' s7 ∧ tn i s7.heap ∧ (∀ b ∈ fp, H' b = none) ∧ W i m σ' H' := fun {σ7 H7} I7 n7 => by
      obtain ⟨m', hm, w7⟩ := hN σ7 H7 n7
      refine ⟨m', hm, i + 1, σ7, H7, I7.unpinned, T.keep _ _ _ st5 fun b hb o e => (I7.pin (b, o) (List.mem_append_right _ (List.mem_append_right _ (mem_pinsAt hb e)))).1, fun b hb => ?_, w7⟩
      obtain ⟨o, e, d⟩ := T.obj _ _ st5 b hb
      exact (I7.pin (b, o) (List.mem_append_right _ (List.mem_append_right _ (mem_pinsAt hb e)))).2.1
    cases f with
    | next => obtain ⟨σ7, H7, I7, n7⟩ := q7; exact again I7 n7
    | cont => obtain ⟨σ7, H7, I7, n7⟩ := q7; exact again I7 n7
    | brk => obtain ⟨σ7, H7, I7, q7⟩ := q7; exact ⟨σ7, H7, I7.unpinned, q7⟩
    | ret v => obtain ⟨x7, σ7, H7, I7, r7, q7⟩ := q7; exact ⟨x7, σ7, H7, I7.unpinned, r7, q7⟩
end

theorem for_list {K : PySem.W.Frag} {a : Addr} {xs : List V} {g : TG} {tb : TS} {D : Ends} {σ : St} {H : Hp} (Pv : Nat → St → Hp → Prop) (h0 : Pv 0 σ H) (hl : ∀ i σ H, i ≤ xs.length → Pv i σ H → SqL K H a xs)
    (hs : ∀ i x σ H, xs[i]? = some x → Pv i σ H → g x σ H fun σ2 H2 => tb { D with nx := Pv (i + 1), ct := Pv (i + 1), bk := D.nx } σ2 H2) (hd : ∀ σ H, Pv xs.length σ H → D.nx σ H) :
    ∃ W : Nat → Nat → St → Hp → Prop, (∃ m, W 0 m σ H) ∧ ∀ i m σ H, W i m σ H →
      ((Itl K a).stop i H ∧ D.nx σ H) ∨ ((Itl K a).go i H ∧ ∃ N : St → Hp → Prop, (∀ σ' H', N σ' H' → ∃ m', m' < m ∧ W (i + 1) m' σ' H') ∧ ∀ x H', (Itl K a).yld i H x H' → g x σ H' fun σ2 H2 => tb { D with nx := N, ct := N, bk := D.nx } σ2 H2) := by
  refine ⟨fun i m σ H => m = xs.length - i ∧ i ≤ xs.length ∧ Pv i σ H, ⟨xs.length, by simp, Nat.zero_le _, h0⟩, ?_⟩
  rintro i m σ H ⟨rfl, hi, p⟩
  have q := hl i σ H hi p
  by_cases hlt : i < xs.length
  · refine .inr ⟨⟨xs, xs[i], q, by simp [hlt]⟩, Pv (i + 1), fun σ' H' p' => ⟨xs.length - (i + 1), by omega, rfl, hlt, p'⟩, fun x H' y => ?_⟩
    obtain ⟨e, y⟩ := y
    subst e
    exact hs i x σ _ (y xs q) p
  · have e : i = xs.length := by omega
    subst e
    exact .inl ⟨⟨xs, q, Nat.le_refl _⟩, hd σ H p⟩
theorem for_tup {K : PySem.W.Frag} {a : Addr} {xs : List V} {g : TG} {tb : TS} {D : Ends} {σ : St} {H : Hp} (Pv : Nat → St → Hp → Prop) (h0 : Pv 0 σ H) (hl : ∀ i σ H, i ≤ xs.length → Pv i σ H → SqT K H a xs)
    (hs : ∀ i x σ H, xs[i]? = some x → Pv i σ H → g x σ H fun σ2 H2 => tb { D with nx := Pv (i + 1), ct := Pv (i + 1), bk := D.nx } σ2 H2) (hd : ∀ σ H, Pv xs.length σ H → D.nx σ H) :
    ∃ W : Nat → Nat → St → Hp → Prop, (∃ m, W 0 m σ H) ∧ ∀ i m σ H, W i m σ H →
      ((Itt K a).stop i H ∧ D.nx σ H) ∨ ((Itt K a).go i H ∧ ∃ N : St → Hp → Prop, (∀ σ' H', N σ' H' → ∃ m', m' < m ∧ W (i + 1) m' σ' H') ∧ ∀ x H', (Itt K a).yld i H x H' → g x σ H' fun σ2 H2 => tb { D with nx := N, ct := N, bk := D.nx } σ2 H2) := by
  refine ⟨fun i m σ H => m = xs.length - i ∧ i ≤ xs.length ∧ Pv i σ H, ⟨xs.length, by simp, Nat.zero_le _, h0⟩, ?_⟩
  rintro i m σ H ⟨rfl, hi, p⟩
  have q := hl i σ H hi p
  by_cases hlt : i < xs.length
  · refine .inr ⟨⟨xs, xs[i], q, by simp [hlt]⟩, Pv (i + 1), fun σ' H' p' => ⟨xs.length - (i + 1), by omega, rfl, hlt, p'⟩, fun x H' y => ?_⟩
    obtain ⟨e, y⟩ := y
    subst e
    exact hs i x σ _ (y xs q) p
  · have e : i = xs.length := by omega
    subst e
    exact .inl ⟨⟨xs, q, Nat.le_refl _⟩, hd σ H p⟩
theorem for_range {lo : Int} {n : Nat} {g : TG} {tb : TS} {D : Ends} {σ : St} {H : Hp} (Pv : Nat → St → Hp → Prop) (h0 : Pv 0 σ H)
    (hs : ∀ i σ H, i < n → Pv i σ H → g (.int (lo + i)) σ H fun σ2 H2 => tb { D with nx := Pv (i + 1), ct := Pv (i + 1), bk := D.nx } σ2 H2) (hd : ∀ σ H, Pv n σ H → D.nx σ H) :
    ∃ W : Nat → Nat → St → Hp → Prop, (∃ m, W 0 m σ H) ∧ ∀ i m σ H, W i m σ H →
      ((Itr lo n).stop i H ∧ D.nx σ H) ∨ ((Itr lo n).go i H ∧ ∃ N : St → Hp → Prop, (∀ σ' H', N σ' H' → ∃ m', m' < m ∧ W (i + 1) m' σ' H') ∧ ∀ x H', (Itr lo n).yld i H x H' → g x σ H' fun σ2 H2 => tb { D with nx := N, ct := N, bk := D.nx } σ2 H2) := by
  refine ⟨fun i m σ H => m = n - i ∧ i ≤ n ∧ Pv i σ H, ⟨n, by simp, Nat.zero_le _, h0⟩, ?_⟩
  rintro i m σ H ⟨rfl, hi, p⟩
  by_cases hlt : i < n
  · refine .inr ⟨hlt, Pv (i + 1), fun σ' H' p' => ⟨n - (i + 1), by omega, rfl, hlt, p'⟩, fun x H' y => ?_⟩
    obtain ⟨e, y⟩ := y
    subst e y
    exact hs i σ _ hlt p
  · have e : i = n := by omega
    subst e
    exact .inl ⟨Nat.le_refl _, hd σ H p⟩
end L2

namespace L2
open PySem PySem.Spec PyProof.Rows

abbrev R2 := V → V → Hp → VK → Prop
def OpR (X : Cx) (f : Value → Value → Sem Value) (r : R2) : Prop :=
  ∀ (pins : List (Addr × Obj)) (s : Shared) (σ : St) (H : Hp) (x y : V) (v u : Value) (Q : VK), Inv X pins σ H s → RelV x v → RelV y u → r x y H Q →
    wpAny (model X.prog X.w) X.A (f v u) (EP X pins σ Q) X.xe s
def UnR (X : Cx) (f : Value → Sem Value) (r : V → Hp → VK → Prop) : Prop :=
  ∀ (pins : List (Addr × Obj)) (s : Shared) (σ : St) (H : Hp) (x : V) (v : Value) (Q : VK), Inv X pins σ H s → RelV x v → r x H Q →
    wpAny (model X.prog X.w) X.A (f v) (EP X pins σ Q) X.xe s
def CallR (X : Cx) (f : Value) (r : List V → Hp → VK → Prop) : Prop :=
  ∀ (pins : List (Addr × Obj)) (s : Shared) (σ : St) (H : Hp) (xs : List V) (us : List Value) (Q : VK), Inv X pins σ H s → Vals xs us → r xs H Q →
    wpAny (model X.prog X.w) X.A (call f us) (EP X pins σ Q) X.xe s
def TruR (X : Cx) (r : V → Hp → (Bool → Hp → Prop) → Prop) : Prop :=
  ∀ (pins : List (Addr × Obj)) (s : Shared) (σ : St) (H : Hp) (x : V) (v : Value) (Q : Bool → Hp → Prop), Inv X pins σ H s → RelV x v → r x H Q →
    wpAny (model X.prog X.w) X.A (truthy v) (TP X pins σ Q) X.xe s

def tOp (r : R2) (ta tb : TE) : TE := fun σ H Q => ta σ H fun x H1 => tb σ H1 fun y H2 => r x y H2 Q
def tUn (r : V → Hp → VK → Prop) (ta : TE) : TE := fun σ H Q => ta σ H fun x H1 => r x H1 Q
def rI (C : Int → Int → Prop) (g : Int → Int → V) : R2 := fun x y H Q => ∃ i j, x = .int i ∧ y = .int j ∧ C i j ∧ Q (g i j) H
def rI0 (g : Int → Int → V) : R2 := fun x y H Q => ∃ i j, x = .int i ∧ y = .int j ∧ Q (g i j) H
def rU (g : Int → V) : V → Hp → VK → Prop := fun x H Q => ∃ i, x = .int i ∧ Q (g i) H

section
variable {X : Cx} {a b c : Expr} {ta tb tc : TE} {pos : Pos}

theorem binT (ha : PE X a ta) (hb : PE X b tb) {pins : List (Addr × Obj)} {s : Shared} {σ : St} {H : Hp} {R : V → V → Hp → Prop} (I : Inv X pins σ H s)
    (h : ta σ H fun x H1 => tb σ H1 fun y H2 => R x y H2) {Q : Value → Shared → Prop} {f : Value → Value → Sem Value}
    (hf : ∀ v u s2 x y H2, Inv X pins σ H2 s2 → RelV x v → RelV y u → R x y H2 → wpAny (model X.prog X.w) X.A (f v u) Q X.xe s2) :
    wpAny (model X.prog X.w) X.A (eval a X.env) (fun v s₁ => wpAny (model X.prog X.w) X.A (eval b X.env) (fun u s₂ => wpAny (model X.prog X.w) X.A (f v u) Q X.xe s₂) X.xe s₁) X.xe s := by
  refine thn (ha pins s σ H _ I h) fun v s1 ⟨x, H1, I1, r1, q1⟩ => ?_
  refine thn (hb pins s1 σ H1 _ I1 q1) fun u s2 ⟨y, H2, I2, r2, q2⟩ => ?_
  exact hf v u s2 x y H2 I2 r1 r2 q2

theorem pe_op {op : Operator} {r : R2} (ho : OpR X (binaryOp op) r) (ha : PE X a ta) (hb : PE X b tb) : PE X (.BinOp a op b pos) (tOp r ta tb) := by
  intro pins s σ H Q I h
  exact wpAny_BinOp (binT ha hb I h fun v u s2 x y H2 I2 rx ry q => ho pins s2 σ H2 x y v u Q I2 rx ry q)
theorem pe_un {op : UnaryOp} {r : V → Hp → VK → Prop} (ho : UnR X (unaryOp op) r) (ha : PE X a ta) : PE X (.UnaryOp op a pos) (tUn r ta) := by
  intro pins s σ H Q I h
  exact UnaryOp_ (thn (ha pins s σ H _ I h) fun v s1 ⟨x, H1, I1, r1, q1⟩ => ho pins s1 σ H1 x v Q I1 r1 q1)
theorem opI {f : Value → Value → Sem Value} {C : Int → Int → Prop} {g : Int → Int → Int}
    (rule : ∀ (i j : Int) (t u : Tok) (s : Shared) (Q : Value → Shared → Prop) (E : Value → Shared → Prop), C i j → Q (.int (g i j) s.toks) { s with toks := s.toks + 1 } → wpAny (model X.prog X.w) X.A (f (.int i t) (.int j u)) Q E s) :
    OpR X f (rI C fun i j => .int (g i j)) := by
  intro pins s σ H x y v u Q I rx ry h
  obtain ⟨i, j, rfl, rfl, hc, q⟩ := h
  obtain ⟨t, rfl⟩ := rx
  obtain ⟨t', rfl⟩ := ry
  exact rule i j t t' s _ _ hc ⟨.int (g i j), H, I.tok _, ⟨_, rfl⟩, q⟩
theorem opI0 {f : Value → Value → Sem Value} {g : Int → Int → Int}
    (rule : ∀ (i j : Int) (t u : Tok) (s : Shared) (Q : Value → Shared → Prop) (E : Value → Shared → Prop), Q (.int (g i j) s.toks) { s with toks := s.toks + 1 } → wpAny (model X.prog X.w) X.A (f (.int i t) (.int j u)) Q E s) :
    OpR X f (rI0 fun i j => .int (g i j)) := by
  intro pins s σ H x y v u Q I rx ry h
  obtain ⟨i, j, rfl, rfl, q⟩ := h
  obtain ⟨t, rfl⟩ := rx
  obtain ⟨t', rfl⟩ := ry
  exact rule i j t t' s _ _ ⟨.int (g i j), H, I.tok _, ⟨_, rfl⟩, q⟩
theorem opB0 {f : Value → Value → Sem Value} {g : Int → Int → Bool}
    (rule : ∀ (i j : Int) (t u : Tok) (s : Shared) (Q : Value → Shared → Prop) (E : Value → Shared → Prop), Q (.bool (g i j)) s → wpAny (model X.prog X.w) X.A (f (.int i t) (.int j u)) Q E s) :
    OpR X f (rI0 fun i j => .bl (g i j)) := by
  intro pins s σ H x y v u Q I rx ry h
  obtain ⟨i, j, rfl, rfl, q⟩ := h
  obtain ⟨t, rfl⟩ := rx
  obtain ⟨t', rfl⟩ := ry
  exact rule i j t t' s _ _ ⟨.bl (g i j), H, I, rfl, q⟩

def CDiv (i j : Int) : Prop := 0 < j ∧ j < 1073741824
def CMul (i j : Int) : Prop := (-(2 ^ 64) < i ∧ i < 2 ^ 64) ∨ (-(2 ^ 64) < j ∧ j < 2 ^ 64)
theorem CMul.ok {i j : Int} (h : CMul i j) : IntMulOk i j := by
  rcases h with ⟨h1, h2⟩ | ⟨h1, h2⟩
  · exact .of_left (intBits_le_64 h1 h2)
  · exact .of_right (intBits_le_64 h1 h2)
theorem op_add : OpR X (binaryOp .Add) (rI0 fun i j => .int (i + j)) := opI0 fun _ _ _ _ _ _ _ q => add_int q
theorem op_sub : OpR X (binaryOp .Sub) (rI0 fun i j => .int (i - j)) := opI0 fun _ _ _ _ _ _ _ q => sub_int q
theorem op_mul : OpR X (binaryOp .Mult) (rI CMul fun i j => .int (i * j)) := opI fun _ _ _ _ _ _ _ hc q => mul_int q hc.ok
theorem op_fdiv : OpR X (binaryOp .FloorDiv) (rI CDiv fun i j => .int (i / j)) := opI fun i j _ _ _ _ _ hc q => by
  have h1 : (0 : Int) < j := hc.1
  have h2 : j < 1073741824 := hc.2
  exact floordiv_int (by omega) (by rw [Int.fdiv_eq_ediv_of_nonneg i (by omega)]; exact q) (.inl (PyProof.noPylong_small (by omega)))
theorem op_mod : OpR X (binaryOp .Mod) (rI (fun _ j => 0 < j) fun i j => .int (i % j)) := opI fun i j _ _ _ _ _ hc q => by
  have h1 : (0 : Int) < j := hc
  exact mod_int' (by omega) (by rw [Int.fmod_eq_emod_of_nonneg i (by omega)]; exact q)
theorem iop_add : OpR X (inplaceOp .Add) (rI0 fun i j => .int (i + j)) := opI0 fun _ _ _ _ _ _ _ q => iadd_int q
theorem unI {f : Value → Sem Value} {g : Int → Int}
    (rule : ∀ (i : Int) (t : Tok) (s : Shared) (Q : Value → Shared → Prop) (E : Value → Shared → Prop), Q (.int (g i) s.toks) { s with toks := s.toks + 1 } → wpAny (model X.prog X.w) X.A (f (.int i t)) Q E s) :
    UnR X f (rU fun i => .int (g i)) := by
  intro pins s σ H x v Q I rx h
  obtain ⟨i, rfl, q⟩ := h
  obtain ⟨t, rfl⟩ := rx
  exact rule i t s _ _ ⟨.int (g i), H, I.tok _, ⟨_, rfl⟩, q⟩
theorem un_neg : UnR X (unaryOp .USub) (rU fun i => .int (-i)) := unI fun _ _ _ _ _ q => neg_int q
end

def scal : V → V → Bool
  | .non, .non => true | .non, .int _ => true | .int _, .non => true | .non, .bl _ => true | .bl _, .non => true | .non, .str _ => true | .str _, .non => true
  | .int _, .int _ => true | .bl _, .bl _ => true | .str _, .str _ => true | .byt _, .byt _ => true
  | .int _, .str _ => true | .str _, .int _ => true | .bl _, .str _ => true | .str _, .bl _ => true
  | _, _ => false
def rEq : R2 := fun x y H Q => scal x y = true ∧ Q (.bl (decide (x = y))) H
def rNe : R2 := fun x y H Q => scal x y = true ∧ Q (.bl (!decide (x = y))) H

theorem dec_int {i j : Int} : decide (V.int i = V.int j) = (i == j) := by
  rw [Bool.eq_iff_iff]
  simp
theorem dec_bl {i j : Bool} : decide (V.bl i = V.bl j) = (i == j) := by
  rw [Bool.eq_iff_iff]
  simp
theorem dec_str {i j : Str} : decide (V.str i = V.str j) = (i == j) := by
  rw [Bool.eq_iff_iff]
  simp
theorem dec_byt {i j : Array UInt8} : decide (V.byt i = V.byt j) = (i.toList == j.toList) := by
  rw [Bool.eq_iff_iff]
  cases i
  cases j
  simp

section
variable {X : Cx} {a b c : Expr} {ta tb tc : TE} {pos : Pos}
theorem fin_bl {pins : List (Addr × Obj)} {σ : St} {H : Hp} {s : Shared} {Q : VK} {k k' : Bool} (I : Inv X pins σ H s) (q : Q (.bl k) H) (e : k = k') : EP X pins σ Q (.bool k') s := by
  subst e
  exact ⟨.bl k, H, I, rfl, q⟩
theorem op_eq : OpR X (compareOp .Eq) rEq := by
  intro pins s σ H x y v u Q I rx ry h
  obtain ⟨hs, q⟩ := h
  cases x with
  | non =>
    cases rx
    cases y with
    | non => cases ry; exact PySem.EqNone.eq_none_none (fin_bl I q (by simp))
    | bl j => cases ry; exact PySem.EqNone.eq_none_bool (fin_bl I q (by simp))
    | int j => obtain ⟨t', rfl⟩ := ry; exact PySem.EqNone.eq_none_int (fin_bl I q (by simp))
    | str j => obtain ⟨t', rfl⟩ := ry; exact PySem.EqNone.eq_none_str (fin_bl I q (by simp))
    | _ => exact absurd (show false = true from hs) Bool.false_ne_true
  | bl i =>
    cases rx
    cases y with
    | non => cases ry; exact PySem.EqNone.eq_bool_none (fin_bl I q (by simp))
    | bl j => cases ry; exact eq_bool (fin_bl I q dec_bl)
    | str j => obtain ⟨t', rfl⟩ := ry; exact PySem.EqMixed.eq_bool_str (fin_bl I q (by simp))
    | _ => exact absurd (show false = true from hs) Bool.false_ne_true
  | int i =>
    obtain ⟨t, rfl⟩ := rx
    cases y with
    | non => cases ry; exact PySem.EqNone.eq_int_none (fin_bl I q (by simp))
    | int j => obtain ⟨t', rfl⟩ := ry; exact eq_int (fin_bl I q dec_int)
    | str j => obtain ⟨t', rfl⟩ := ry; exact PySem.EqMixed.eq_int_str (fin_bl I q (by simp))
    | _ => exact absurd (show false = true from hs) Bool.false_ne_true
  | str i =>
    obtain ⟨t, rfl⟩ := rx
    cases y with
    | non => cases ry; exact PySem.EqNone.eq_str_none (fin_bl I q (by simp))
    | bl j => cases ry; exact PySem.EqMixed.eq_str_bool (fin_bl I q (by simp))
    | int j => obtain ⟨t', rfl⟩ := ry; exact PySem.EqMixed.eq_str_int (fin_bl I q (by simp))
    | str j => obtain ⟨t', rfl⟩ := ry; exact eq_str (fin_bl I q dec_str)
    | _ => exact absurd (show false = true from hs) Bool.false_ne_true
  | byt i =>
    obtain ⟨t, rfl⟩ := rx
    cases y with
    | byt j => obtain ⟨t', rfl⟩ := ry; exact PySem.W.eq_bytes (fin_bl I q dec_byt)
    | _ => exact absurd (show false = true from hs) Bool.false_ne_true
  | _ => cases y <;> exact absurd (show false = true from hs) Bool.false_ne_true
theorem op_ne : OpR X (compareOp .NotEq) rNe := by
  intro pins s σ H x y v u Q I rx ry h
  obtain ⟨hs, q⟩ := h
  cases x with
  | non =>
    cases rx
    cases y with
    | non => cases ry; exact PySem.EqNone.ne_none_none (fin_bl I q (by simp))
    | bl j => cases ry; exact PySem.EqNone.ne_none_bool (fin_bl I q (by simp))
    | int j => obtain ⟨t', rfl⟩ := ry; exact PySem.EqNone.ne_none_int (fin_bl I q (by simp))
    | str j => obtain ⟨t', rfl⟩ := ry; exact PySem.EqNone.ne_none_str (fin_bl I q (by simp))
    | _ => exact absurd (show false = true from hs) Bool.false_ne_true
  | bl i =>
    cases rx
    cases y with
    | non => cases ry; exact PySem.EqNone.ne_bool_none (fin_bl I q (by simp))
    | bl j => cases ry; exact ne_bool (fin_bl I q (congrArg not dec_bl))
    | str j => obtain ⟨t', rfl⟩ := ry; exact PySem.EqMixed.ne_bool_str (fin_bl I q (by simp))
    | _ => exact absurd (show false = true from hs) Bool.false_ne_true
  | int i =>
    obtain ⟨t, rfl⟩ := rx
    cases y with
    | non => cases ry; exact PySem.EqNone.ne_int_none (fin_bl I q (by simp))
    | int j => obtain ⟨t', rfl⟩ := ry; exact ne_int (fin_bl I q (congrArg not dec_int))
    | str j => obtain ⟨t', rfl⟩ := ry; exact PySem.EqMixed.ne_int_str (fin_bl I q (by simp))
    | _ => exact absurd (show false = true from hs) Bool.false_ne_true
  | str i =>
    obtain ⟨t, rfl⟩ := rx
    cases y with
    | non => cases ry; exact PySem.EqNone.ne_str_none (fin_bl I q (by simp))
    | bl j => cases ry; exact PySem.EqMixed.ne_str_bool (fin_bl I q (by simp))
    | int j => obtain ⟨t', rfl⟩ := ry; exact PySem.EqMixed.ne_str_int (fin_bl I q (by simp))
    | str j => obtain ⟨t', rfl⟩ := ry; exact ne_str (fin_bl I q (congrArg not dec_str))
    | _ => exact absurd (show false = true from hs) Bool.false_ne_true
  | byt i =>
    obtain ⟨t, rfl⟩ := rx
    cases y with
    | byt j => obtain ⟨t', rfl⟩ := ry; exact PySem.W.ne_bytes (fin_bl I q (congrArg not dec_byt))
    | _ => exact absurd (show false = true from hs) Bool.false_ne_true
  | _ => cases y <;> exact absurd (show false = true from hs) Bool.false_ne_true

theorem op_lt : OpR X (compareOp .Lt) (rI0 fun i j => .bl (decide (i < j))) := opB0 fun _ _ _ _ _ _ _ q => lt_int q
theorem op_le : OpR X (compareOp .LtE) (rI0 fun i j => .bl (decide (i ≤ j))) := opB0 fun _ _ _ _ _ _ _ q => le_int q
theorem op_gt : OpR X (compareOp .Gt) (rI0 fun i j => .bl (decide (j < i))) := opB0 fun _ _ _ _ _ _ _ q => gt_int q
theorem op_ge : OpR X (compareOp .GtE) (rI0 fun i j => .bl (decide (j ≤ i))) := opB0 fun _ _ _ _ _ _ _ q => ge_int q
theorem op_lt_str : OpR X (compareOp .Lt) (fun x y H Q => ∃ i j, x = .str i ∧ y = .str j ∧ Q (.bl (decide (i.cps.toList < j.cps.toList))) H) := by
  intro pins s σ H x y v u Q I rx ry h
  obtain ⟨i, j, rfl, rfl, q⟩ := h
  obtain ⟨t, rfl⟩ := rx
  obtain ⟨t', rfl⟩ := ry
  exact lt_str (fin_bl I q rfl)
theorem op_in_str : OpR X (compareOp .In) (fun x y H Q => ∃ i j, x = .str i ∧ y = .str j ∧ Q (.bl (!(Builtin.Str.occurrences j i 0 j.length 1).isEmpty)) H) := by
  intro pins s σ H x y v u Q I rx ry h
  obtain ⟨i, j, rfl, rfl, q⟩ := h
  obtain ⟨t, rfl⟩ := rx
  obtain ⟨t', rfl⟩ := ry
  exact in_str (fin_bl I q rfl)

theorem op_isN : OpR X (compareOp .Is) (fun x y H Q => y = .non ∧ Q (.bl (decide (x = .non))) H) := by
  intro pins s σ H x y v u Q I rx ry h
  obtain ⟨rfl, q⟩ := h
  cases ry
  refine is_none_gen (fin_bl I q ?_)
  cases x <;> first
    | (cases rx; rfl)
    | (obtain ⟨t, rfl⟩ := rx; rfl)
theorem op_notin_str : OpR X (compareOp .NotIn) (fun x y H Q => ∃ i j, x = .str i ∧ y = .str j ∧ Q (.bl (!(!(Builtin.Str.occurrences j i 0 j.length 1).isEmpty))) H) := by
  intro pins s σ H x y v u Q I rx ry h
  obtain ⟨i, j, rfl, rfl, q⟩ := h
  obtain ⟨t, rfl⟩ := rx
  obtain ⟨t', rfl⟩ := ry
  exact notIn_str (fin_bl I q rfl)
theorem nomark (b : Expr) {op : CmpOp} (h : op ≠ .In := by decide) (h2 : op ≠ .NotIn := by decide) : behindInMarks op b = false := by
  have e1 : (op == CmpOp.In) = false := by cases op <;> first | rfl | exact absurd rfl h
  have e2 : (op == CmpOp.NotIn) = false := by cases op <;> first | rfl | exact absurd rfl h2
  cases b <;> simp [behindInMarks, e1, e2]
theorem pe_cmpR {op : CmpOp} {r : R2} (ho : OpR X (compareOp op) r) (ha : PE X a ta) (hb : PE X b tb) (hm : behindInMarks op b = false) : PE X (.Compare a [op] [b] pos) (tOp r ta tb) := by
  intro pins s σ H Q I h
  exact wpAny_Compare1 (binT ha hb I h fun v u s2 x y H2 I2 rx ry q => ho pins s2 σ H2 x y v u Q I2 rx ry q) hm
def tTest (t : TE) : TT := fun σ H Q => t σ H fun x H' => ∃ k, x = .bl k ∧ Q k H'
theorem pt_cmpR {op : CmpOp} {r : R2} (ho : OpR X (compareOp op) r) (ha : PE X a ta) (hb : PE X b tb) (hm : behindInMarks op b = false) : PT X (.Compare a [op] [b] pos) (tTest (tOp r ta tb)) := by
  intro pins s σ H Q I h
  refine wpAny_isTrue_Compare1 (thn (ha pins s σ H _ I h) fun v s1 ⟨x, H1, I1, r1, q1⟩ => thn (hb pins s1 σ H1 _ I1 q1) fun u s2 ⟨y, H2, I2, r2, q2⟩ =>
    thn (ho pins s2 σ H2 x y v u _ I2 r1 r2 q2) fun c s3 ⟨z, H3, I3, r3, k, e, q3⟩ => ?_) hm
  subst e
  cases r3
  exact wpAny_truthy_bool ⟨H3, I3, q3⟩
def tChain (r r' : R2) (ta tb tc : TE) : TE := fun σ H Q => ta σ H fun x H1 => tb σ H1 fun y H2 => r x y H2 fun z H3 => ∃ k, z = .bl k ∧
  (if k = true then tc σ H3 fun w' H4 => r' y w' H4 Q else Q (.bl false) H3)
theorem pe_chain {op op' : CmpOp} {r r' : R2} (ho : OpR X (compareOp op) r) (ho' : OpR X (compareOp op') r') (ha : PE X a ta) (hb : PE X b tb) (hc : PE X c tc)
    (hm : lastMarks [op, op'] [b, c] = false := by with_unfolding_all rfl) : PE X (.Compare a [op, op'] [b, c] pos) (tChain r r' ta tb tc) := by
  intro pins s σ H Q I h
  refine Compare_chain (thn (ha pins s σ H _ I h) fun v s1 ⟨x, H1, I1, r1, q1⟩ => chain_link (thn (hb pins s1 σ H1 _ I1 q1) fun u s2 ⟨y, H2, I2, r2, q2⟩ =>
    thn (ho pins s2 σ H2 x y v u _ I2 r1 r2 q2) fun d s3 ⟨z, H3, I3, r3, k, e, q3⟩ => ?_)) hm
  subst e
  cases r3
  refine wpAny_truthy_bool ?_
  cases k with
  | false => exact ite_ff ⟨.bl false, H3, I3, rfl, q3⟩
  | true => exact ite_tt (chain_last (thn (hc pins s3 σ H3 _ I3 q3) fun w' s4 ⟨z', H4, I4, r4, q4⟩ => ho' pins s4 σ H4 y z' u w' Q I4 r2 r4 q4))
theorem pt_chain {op op' : CmpOp} {r r' : R2} (ho : OpR X (compareOp op) r) (ho' : OpR X (compareOp op') r') (ha : PE X a ta) (hb : PE X b tb) (hc : PE X c tc)
    (hm : lastMarks [op, op'] [b, c] = false := by with_unfolding_all rfl) : PT X (.Compare a [op, op'] [b, c] pos) (tTest (tChain r r' ta tb tc)) := by
  intro pins s σ H Q I h
  refine isTrue_chain (thn (ha pins s σ H _ I h) fun v s1 ⟨x, H1, I1, r1, q1⟩ => test_link (thn (hb pins s1 σ H1 _ I1 q1) fun u s2 ⟨y, H2, I2, r2, q2⟩ =>
    thn (ho pins s2 σ H2 x y v u _ I2 r1 r2 q2) fun d s3 ⟨z, H3, I3, r3, k, e, q3⟩ => ?_)) hm
  subst e
  cases r3
  refine wpAny_truthy_bool ?_
  cases k with
  | false =>
    obtain ⟨k', e', q'⟩ := q3
    cases e'
    exact ite_ff ⟨H3, I3, q'⟩
  | true =>
    refine ite_tt (test_last (thn (hc pins s3 σ H3 _ I3 q3) fun w' s4 ⟨z', H4, I4, r4, q4⟩ => thn (ho' pins s4 σ H4 y z' u w' _ I4 r2 r4 q4) fun d' s5 ⟨z2, H5, I5, r5, k2, e2, q5⟩ => ?_))
    subst e2
    cases r5
    exact wpAny_truthy_bool ⟨H5, I5, q5⟩

def TruV (K : PySem.W.Frag) (x : V) (H : Hp) (k : Bool) : Prop :=
  match x with
  | .non => k = false
  | .bl b => k = b
  | .int i => k = (i != 0)
  | .str y => y.length ≤ sizeLine ∧ k = ((y.length : Int) != 0)
  | .byt y => y.size ≤ sizeLine ∧ k = ((y.size : Int) != 0)
  | .ref p => (∃ xs, SqL K H p xs ∧ k = !xs.isEmpty) ∨ (∃ xs, SqT K H p xs ∧ k = !xs.isEmpty) ∨ ∃ kvs, H p = some (.dK kvs) ∧ k = !kvs.isEmpty
  | _ => False
theorem isEmpty_kv {κ : Type} {kvs : List (κ × V)} {vs : List (κ × Value)} (r : KV kvs vs) : (!vs.isEmpty) = !kvs.isEmpty := by
  cases r <;> rfl
theorem isEmpty_of {xs : List V} {its : List Value} (r : Vals xs its) : (!its.toArray.isEmpty) = !xs.isEmpty := by
  cases r <;> simp
theorem line63 : (sizeLine : Nat) < 2 ^ 63 := by rw [sizeLine_eq]; decide
theorem tru_ok : TruR X (fun x H Q => ∃ k, TruV X.K x H k ∧ Q k H) := by
  intro pins s σ H x v Q I rx h
  obtain ⟨k, e, q⟩ := h
  have hl := line63
  have hs : sizeLine = 16777216 := sizeLine_eq
  cases x with
  | non =>
    cases rx
    have e' : k = false := e
    subst e'
    exact truthy_none ⟨H, I, q⟩
  | bl b =>
    cases rx
    have e' : k = b := e
    subst e'
    exact wpAny_truthy_bool ⟨H, I, q⟩
  | int i =>
    obtain ⟨t, rfl⟩ := rx
    have e' : k = (i != 0) := e
    subst e'
    exact PySem.P.truthy_int ⟨H, I, q⟩
  | str y =>
    obtain ⟨t, rfl⟩ := rx
    obtain ⟨hy, e'⟩ : y.length ≤ sizeLine ∧ k = ((y.length : Int) != 0) := e
    subst e'
    exact PySem.P.truthy_str (by omega) ⟨H, I.tok _, q⟩
  | byt y =>
    obtain ⟨t, rfl⟩ := rx
    obtain ⟨hy, e'⟩ : y.size ≤ sizeLine ∧ k = ((y.size : Int) != 0) := e
    subst e'
    exact PySem.W.truthy_bytes (by omega) ⟨H, I.tok _, q⟩
  | ref p =>
    cases rx
    have e' : (∃ xs, SqL X.K H p xs ∧ k = !xs.isEmpty) ∨ (∃ xs, SqT X.K H p xs ∧ k = !xs.isEmpty) ∨ ∃ kvs, H p = some (.dK kvs) ∧ k = !kvs.isEmpty := e
    rcases e' with ⟨xs, hx, e'⟩ | ⟨xs, hx, e'⟩ | ⟨kvs, hx, e'⟩
    · subst e'
      obtain ⟨its, r, pl, hz⟩ := I.list hx
      have hlen := r.length
      exact wpAny_truthy_list pl.isList (by simp only [List.size_toArray]; omega) ⟨H, I.tok _, by rw [isEmpty_of r]; exact q⟩
    · subst e'
      obtain ⟨its, r, pl, hz⟩ := I.tuple hx
      have hlen := r.length
      exact truthy_tuple pl (by simp only [List.size_toArray]; omega) ⟨H, I.tok _, by rw [isEmpty_of r]; exact q⟩
    · subst e'
      obtain ⟨hz, hS, vs, r, m⟩ : kvs.length ≤ sizeLine ∧ (p == sysModules) = false ∧ ∃ vs, KV kvs vs ∧ s.heap.DictOf (mixKind X.prog X.w) p vs := I.hok p _ hx
      have hlen : kvs.length = vs.length := Paired.length r
      exact wpAny_truthy_dict hS m (by omega) ⟨H, I.tok _, by rw [isEmpty_kv r]; exact q⟩
  | _ => exact (show False from e).elim
theorem pt_truth (ha : PE X a ta) (he : ∀ whole, isTrue a X.env whole = (do let v ← whole; standAt a.pos; holding [v] (truthy v))) :
    PT X a (fun σ H Q => ta σ H fun x H' => ∃ k, TruV X.K x H' k ∧ Q k H') := by
  intro pins s σ H Q I h
  exact isTrue_plain (thn (ha pins s σ H _ I h) fun v s1 ⟨x, H1, I1, r1, q1⟩ => tru_ok pins s1 σ H1 x v Q I1 r1 q1) (he _)

theorem op_add_str : OpR X (binaryOp .Add) (fun x y H Q => ∃ i j, x = .str i ∧ y = .str j ∧ i.length + j.length ≤ sizeLine ∧ Q (.str (i ++ j)) H) := by
  intro pins s σ H x y v u Q I rx ry h
  obtain ⟨i, j, rfl, rfl, hz, q⟩ := h
  obtain ⟨t, rfl⟩ := rx
  obtain ⟨t', rfl⟩ := ry
  exact add_str (fun t' tk => ⟨.str (i ++ j), H, I.tok _, ⟨_, rfl⟩, q⟩) hz
theorem iop_add_str : OpR X (inplaceOp .Add) (fun x y H Q => ∃ i j, x = .str i ∧ y = .str j ∧ i.length + j.length ≤ sizeLine ∧ Q (.str (i ++ j)) H) := by
  intro pins s σ H x y v u Q I rx ry h
  obtain ⟨i, j, rfl, rfl, hz, q⟩ := h
  obtain ⟨t, rfl⟩ := rx
  obtain ⟨t', rfl⟩ := ry
  exact iadd_str (fun t' tk => ⟨.str (i ++ j), H, I.tok _, ⟨_, rfl⟩, q⟩) hz
theorem vals1 {x : V} {us : List Value} (r : Vals [x] us) : ∃ u, us = [u] ∧ RelV x u := by
  cases r with
  | cons r1 r2 => cases r2; exact ⟨_, rfl, r1⟩
theorem vals2 {x y : V} {us : List Value} (r : Vals [x, y] us) : ∃ u w', us = [u, w'] ∧ RelV x u ∧ RelV y w' := by
  cases r with
  | cons r1 r2 =>
    cases r2 with
    | cons r3 r4 => cases r4; exact ⟨_, _, rfl, r1, r3⟩
theorem call_max2 (hc : X.calm = true) : CallR X (.builtin "max") (fun xs H Q => ∃ i j, xs = [.int i, .int j] ∧ Q (.int (if j > i then j else i)) H) := by
  intro pins s σ H xs us Q I r h
  obtain ⟨i, j, rfl, q⟩ := h
  obtain ⟨u, w', rfl, ⟨t, rfl⟩, ⟨t', rfl⟩⟩ := vals2 r
  refine max_two_ints (I.ok.hd hc) fun h' tk k => ⟨_, H, I.kept k, ?_, q⟩
  by_cases hj : j > i
  · rw [if_pos hj, if_pos hj]; exact ⟨_, rfl⟩
  · rw [if_neg hj, if_neg hj]; exact ⟨_, rfl⟩
theorem call_min2 (hc : X.calm = true) : CallR X (.builtin "min") (fun xs H Q => ∃ i j, xs = [.int i, .int j] ∧ Q (.int (if j < i then j else i)) H) := by
  intro pins s σ H xs us Q I r h
  obtain ⟨i, j, rfl, q⟩ := h
  obtain ⟨u, w', rfl, ⟨t, rfl⟩, ⟨t', rfl⟩⟩ := vals2 r
  refine min_two_ints (I.ok.hd hc) fun h' tk k => ⟨_, H, I.kept k, ?_, q⟩
  by_cases hj : j < i
  · rw [if_pos hj, if_pos hj]; exact ⟨_, rfl⟩
  · rw [if_neg hj, if_neg hj]; exact ⟨_, rfl⟩
theorem call_int1 : CallR X (.type "int") (fun xs H Q => (∃ i, xs = [.int i] ∧ Q (.int i) H) ∨ ∃ k, xs = [.bl k] ∧ Q (.int (if k then 1 else 0)) H) := by
  intro pins s σ H xs us Q I r h
  rcases h with ⟨i, rfl, q⟩ | ⟨k, rfl, q⟩
  · obtain ⟨u, rfl, t, rfl⟩ := vals1 r
    exact call_int_int ⟨.int i, H, I, ⟨_, rfl⟩, q⟩
  · obtain ⟨u, rfl, r1⟩ := vals1 r
    cases r1
    exact call_int_bool ⟨.int (if k then 1 else 0), H, I.tok _, ⟨_, rfl⟩, q⟩
theorem call_ord : CallR X (.builtin "ord") (fun xs H Q => ∃ x, xs = [.str x] ∧ x.length = 1 ∧ Q (.int (x.cps.getD 0 0 : Nat)) H) := by
  intro pins s σ H xs us Q I r h
  obtain ⟨x, rfl, hz, q⟩ := h
  obtain ⟨u, rfl, t, rfl⟩ := vals1 r
  exact ord_of_one hz ⟨.int _, H, I.tok _, ⟨_, rfl⟩, q⟩
end
end L2

namespace L2
open PySem PySem.Spec PyProof.Rows

structure ObjM (h : Heap) (x dx C : Addr) (mA : Str → Option Value) : Prop where
  obj : h.get? x = some (PySem.W.instObj C dx)
  ns : h.Ns1 dx mA
  ne : dx ≠ x

section
variable {prog : Program} {w : World} {A : Around} {E : Value → Shared → Prop} {s : Shared} {K : PySem.W.Frag} {x dx C f : Addr} {mA : Str → Option Value} {name : Str} {v : Value}

end

theorem RelO.some_of {v : V} {o : Option Value} (r : RelO (some v) o) : ∃ u, o = some u ∧ RelV v u := by
  cases o with
  | none => exact (show False from r).elim
  | some u => exact ⟨u, rfl, r⟩
section
variable {P : Program} {w : World} {H H' : Hp} {h h' : Heap} {a C dx : Addr} {fs fs' : List (Str × V)}
end

structure Cls (K : PySem.W.Frag) (C : Addr) : Prop where
  pg : PySem.W.plainGet K C Str.empty = true
  hd : PySem.W.hasDictIn K C = true
  po : PySem.W.plainOver K C = true
  sa : PySem.W.findIn K (.ref C) "__setattr__" = some (some (.builtin "object.__setattr__"))
theorem Cls.get {K : PySem.W.Frag} {C : Addr} (c : Cls K C) (f : Str) : PySem.W.plainGet K C f = true := c.pg
structure Con (K : PySem.W.Frag) (C : Addr) (f : Str) (v : V) (u : Value) : Prop where
  at_ : PySem.W.findIn K (.ref C) f = some (some u)
  rel : RelV v u
  get : PySem.W.specialIn K u "__get__" = some none
  cp : PySem.W.copiedNames.contains f = false
structure Meth (K : PySem.W.Frag) (C : Addr) (m : Str) (f : Addr) : Prop where
  at_ : PySem.W.findIn K (.ref C) m = some (some (.ref f))
  fn : PySem.W.isFn K (.ref f) = true
  kp : PySem.W.keepIn K (.ref f) = true

section
variable {X : Cx} {pins : List (Addr × Obj)} {σ : St} {H : Hp} {s : Shared} {a C dx : Addr} {fs : List (Str × V)} {f : Str} {v : V} {A : Around} {E : Value → Shared → Prop}

end

section
variable {X : Cx} {o e value : Expr} {f : Str} {pos pos' tpos : Pos} {ta tv : TE}
end

section
variable {X : Cx} {pins : List (Addr × Obj)} {σ : St} {H : Hp} {s : Shared} {A : Around} {E : Value → Shared → Prop} {Q : Value → Shared → Prop} {c : Value} {b : Bool}
inductive TyOf (K : PySem.W.Frag) (H : Hp) : V → Value → Prop where
  | non : TyOf K H .non (.type "NoneType")
  | bl (x : Bool) : TyOf K H (.bl x) (.type "bool")
  | int (i : Int) : TyOf K H (.int i) (.type "int")
  | str (x : Str) : TyOf K H (.str x) (.type "str")
  | flt (x : UInt64) : TyOf K H (.flt x) (.type "float")
  | lst {a : Addr} {xs : List V} (e : H a = some (.lst xs)) : TyOf K H (.ref a) (.type "list")
  | frz {a : Addr} {o : Obj} {xs : List V} (e : H a = some (.frz o (.lst xs))) : TyOf K H (.ref a) (.type "list")
  | tup {a : Addr} {xs : List V} (e : H a = some (.tup xs)) : TyOf K H (.ref a) (.type "tuple")
  | dK {a : Addr} {kvs : List (Key × V)} (e : H a = some (.dK kvs)) : TyOf K H (.ref a) (.type "dict")
  | dT {a : Addr} {kvs : List (List Key × V)} (e : H a = some (.dT kvs)) : TyOf K H (.ref a) (.type "dict")
  | ins {a C dx : Addr} {fs : List (Str × V)} (e : H a = some (.ins C dx fs)) (cl : Cls K C) (ha : PySem.W.findIn K (.ref C) "__class__" = some (some (.builtin "object.__class__")))
      (hn : PySem.W.specialIn K (.builtin "object.__class__") "__get__" = some (some (.builtin "getset_descriptor.__get__"))) (htk : PySem.W.takesIn K (.builtin "object.__class__") = some true)
      (hm : PySem.W.mroIn K C (.type "object") = some true) : TyOf K H (.ref a) (.ref C)
end
end L2

namespace L2
open PySem PySem.Spec PyProof.Rows

structure Room (k : Nat) (A : Around) : Prop where
  hd : A.handled = none
  dp : A.depth + 3 * k + 5 < recursionLimit
  un : A.units + 16 * k + 200 < cLine
  gd : A.guards = some []
theorem Room.mono {j k : Nat} {A : Around} (r : Room k A) (h : j ≤ k) : Room j A := ⟨r.hd, by have := r.dp; omega, by have := r.un; omega, r.gd⟩
theorem Room.deeper {k : Nat} {A : Around} (r : Room (k + 1) A) (env : Env) : Room k (A.deeper env) :=
  ⟨r.hd, by have := r.dp; show A.depth + 1 + 3 * k + 5 < _; omega, by have := r.un; show A.units + 3 + 16 * k + 200 < _; omega, r.gd⟩
theorem Room.in1 {k : Nat} {A : Around} (r : Room (k + 1) A) : Room k A.in1 :=
  ⟨r.hd, by have := r.dp; show A.depth + 3 * k + 5 < _; omega, by have := r.un; show A.units + 1 + 16 * k + 200 < _; omega, r.gd⟩
theorem Room.depth {k : Nat} {A : Around} (r : Room k A) : A.depth < recursionLimit := by have := r.dp; omega
theorem Room.units {k : Nat} {A : Around} (r : Room k A) : A.units + 64 < cLine := by have := r.un; omega
def tNil : TA := fun _ H Q => Q [] H
def tCons (ta : TE) (tr : TA) : TA := fun σ H Q => ta σ H fun x H1 => tr σ H1 fun xs H2 => Q (x :: xs) H2
section
variable {X : Cx} {e : Expr} {es : List Expr} {te : TE} {t : TA} {pos : Pos}
theorem pa_nil : PA X [] tNil := fun _ _ _ _ H Q I h => Calls.spliced_nil ⟨[], H, I, .nil, h⟩
theorem pa_cons (ha : PE X e te) (hr : PA X es t) (hs : starEach (e :: es) X.env = (false, eval e X.env) :: starEach es X.env := by rfl) : PA X (e :: es) (tCons te t) := by
  intro pos pins s σ H Q I h
  rw [hs]
  show wpAny _ _ (spliced ((false, eval e X.env) :: backTo pos (starEach es X.env))) _ _ s
  refine Calls.spliced_cons (thn (ha pins s σ H _ I h) fun u s1 ⟨x, H1, I1, r1, q1⟩ => ?_)
  exact thn (hr pos pins s1 σ H1 _ I1 q1) fun us s2 ⟨xs, H2, I2, r2, q2⟩ => ⟨x :: xs, H2, I2, .cons r1 r2, q2⟩

def tTup (t : TA) : TE := fun σ H Q => t σ H fun xs H1 => xs.length ≤ sizeLine ∧ ∀ p, H1 p = none → Q (.ref p) (upd H1 p (.tup xs))
def tLst (t : TA) : TE := fun σ H Q => t σ H fun xs H1 => xs.length ≤ sizeLine ∧ ∀ p, H1 p = none → Q (.ref p) (upd H1 p (.lst xs))
theorem pe_tup {x1} (h : PA X es t) : PE X (.Tuple es x1 pos) (tTup t) := by
  intro pins s σ H Q I hq
  refine wpAny_Tuple_spliced (thn (h pos pins s σ H _ I hq) fun us s1 ⟨xs, H1, I1, r, z, q⟩ => ⟨by rw [← r.length]; exact z, ?_⟩)
  have hf : H1 s1.heap.objs.size = none := I1.hok.fresh (Nat.le_refl _)
  refine ⟨.ref s1.heap.objs.size, upd H1 s1.heap.objs.size (.tup xs), I1.laid (t' := s1.toks) (fun b u e => Heap.get?_push_of_some _ e) (Nat.le_refl _) ?_, rfl, q _ hf⟩
  exact ⟨z, us, r, ⟨_, Heap.get?_push_size _ rfl, rfl, _, rfl⟩⟩
theorem pe_lst (h : PA X es t) : PE X (.List es pos) (tLst t) := by
  intro pins s σ H Q I hq
  refine wpAny_List_spliced (thn (h pos pins s σ H _ I hq) fun us s1 ⟨xs, H1, I1, r, z, q⟩ => ⟨by rw [← r.length]; exact z, ?_⟩)
  have hf : H1 s1.heap.objs.size = none := I1.hok.fresh (Nat.le_refl _)
  refine ⟨.ref s1.heap.objs.size, upd H1 s1.heap.objs.size (.lst xs), I1.laid (t' := s1.toks) (fun b u e => Heap.get?_push_of_some _ e) (Nat.le_refl _) ?_, rfl, q _ hf⟩
  exact ⟨z, us, 0, r, Heap.get?_push_size _ rfl⟩
end

abbrev Sp := List V → Hp → VK → XK → Prop
abbrev CXT := List Env → Hp → Shared → XK → Value → Shared → Prop

structure Env0 (P : Program) (w : World) (K : PySem.W.Frag) (mg : Str → Option Value) (base : Heap) (A : Around) (outer : List Env) (s : Shared) (H : Hp) : Prop where
  frames : A.frames = some outer
  mod : Mod K mg base
  bs : ∀ b o, base.get? b = some o → s.heap.get? b = some o ∧ H b = none
  bsz : base.objs.size ≤ s.heap.objs.size
  funs : s.heap.FunFrames base outer
  frf : ∀ b ∈ frs outer, H b = none
  hok : HOk P w H s.heap
  bare : AllBare s.gens
def CE (outer : List Env) (P : Program) (w : World) (H : Hp) (s : Shared) (Q : VK) (u : Value) (s' : Shared) : Prop :=
  ∃ v H', s'.os = s.os ∧ AllBare s'.gens ∧ Un (frs outer) [] H H' s.heap s'.heap ∧ HOk P w H' s'.heap ∧ RelV v u ∧ Q v H'
def CR (CX : CXT) (outer : List Env) (P : Program) (w : World) (H : Hp) (s : Shared) (Q : VK) (E : XK) (r : Result) (s' : Shared) : Prop :=
  match r with
  | .ok (.ret u) => CE outer P w H s Q u s'
  | .ok _ => False
  | .error e => CX outer H s E e s'
structure FnOk (P : Program) (w : World) (K : PySem.W.Frag) (mg : Str → Option Value) (base : Heap) (CX : CXT) (k : Nat) (f : Addr) (fd : FuncData) (ps : List Str) (sp : Sp) : Prop where
  len : ∀ vs H Q E, sp vs H Q E → vs.length = ps.length
  run : ∀ (A : Around) (outer : List Env) (s : Shared) (H : Hp) (args : Args) (us : List Value) (vs : List V) (Q : VK) (E : XK), Room k A → Env0 P w K mg base A outer s H → BindsTo s fd args (ps.zip us) → Vals vs us → sp vs H Q E →
    codeAny (model P w) A (.call (.ref f) args) (CR CX outer P w H s Q E) s
theorem FnOk.mono {P : Program} {w : World} {K : PySem.W.Frag} {mg : Str → Option Value} {base : Heap} {CX : CXT} {j k : Nat} {f : Addr} {fd : FuncData} {ps : List Str} {sp : Sp} (F : FnOk P w K mg base CX j f fd ps sp) (h : j ≤ k) :
    FnOk P w K mg base CX k f fd ps sp := ⟨F.len, fun A outer s H args us vs Q E hr => F.run A outer s H args us vs Q E (hr.mono h)⟩
theorem Env0.in1 {P : Program} {w : World} {K : PySem.W.Frag} {mg : Str → Option Value} {base : Heap} {A : Around} {outer : List Env} {s : Shared} {H : Hp} (e : Env0 P w K mg base A outer s H) :
    Env0 P w K mg base A.in1 outer s H := ⟨e.frames, e.mod, e.bs, e.bsz, e.funs, e.frf, e.hok, e.bare⟩

section
variable {X : Cx} {pins : List (Addr × Obj)} {σ : St} {H : Hp} {s s' : Shared}
theorem Inv.env0 (I : Inv X pins σ H s) : Env0 X.prog X.w X.K X.mg X.base X.A X.stack s H :=
  ⟨I.ok.frames, I.ok.mod, I.bs, Nat.le_trans I.ok.bsz I.sz, I.stack, I.stkFree, I.hok, I.bare⟩
theorem Inv.after {Q : VK} {u : Value} (I : Inv X pins σ H s) (h : CE X.stack X.prog X.w H s Q u s') : EP X pins σ Q u s' := by
  obtain ⟨v, H', os, bare, un, hok, r, q⟩ := h
  obtain ⟨hh, g, d, t, os'⟩ := s'
  obtain rfl : os' = s.os := os
  exact ⟨v, H', I.call (h' := hh) (g' := g) (d' := d) (t' := t) (ch := []) un hok bare (fun b z => absurd z (by simp)), r, q⟩
end

def tCall (sp : Sp) (dvs : List V) (E : XK) (t : TA) : TE := fun σ H Q => t σ H fun vs H1 => sp (vs ++ dvs) H1 Q E
def Binds (K : PySem.W.Frag) (fd : FuncData) (ps : List Str) (ds : List Value) : Prop :=
  ∀ (s : Shared) (us : List Value), K.In s.heap → (us ++ ds).length = ps.length → BindsTo s fd ⟨us, []⟩ (ps.zip (us ++ ds))
theorem Binds.all {K : PySem.W.Frag} {fd : FuncData} {ps : List Str} (h : ∀ us : List Value, us.length = ps.length → bindArgs fd ⟨us, []⟩ = pure (ps.zip us)) : Binds K fd ps [] := fun s us _ hl => by
  rw [List.append_nil] at hl ⊢
  exact .of_eq (h us hl)

def Passes (CX : CXT) (X : Cx) (E : XK) : Prop := ∀ (pins : List (Addr × Obj)) (σ : St) (H : Hp) (s : Shared) (e : Value) (s' : Shared), Inv X pins σ H s → CX X.stack H s E e s' → X.xe e s'

section
variable {X : Cx} {CX : CXT} {k : Nat} {f C : Addr} {fd : FuncData} {ps : List Str} {sp : Sp} {dvs : List V} {ds : List Value} {E : XK} {x m : Str} {p pos apos : Pos} {e o : Expr} {es : List Expr} {ta : TE} {t : TA}

theorem run_fn {pins : List (Addr × Obj)} {σ : St} {H : Hp} {s : Shared} {Q : VK} {us : List Value} {vs : List V} (F : FnOk X.prog X.w X.K X.mg X.base CX k f fd ps sp) (hr : Room k X.A) (hb : Binds X.K fd ps ds) (hd : Vals dvs ds) (hx : Passes CX X E)
    (I : Inv X pins σ H s) (r : Vals vs us) (h : sp (vs ++ dvs) H Q E) : wpAny (model X.prog X.w) X.A (call (.ref f) us) (EP X pins σ Q) X.xe s := by
  have r2 : Vals (vs ++ dvs) (us ++ ds) := r.append hd
  have hl : (us ++ ds).length = ps.length := by rw [← r2.length]; exact F.len _ _ _ _ h
  refine wpAny_call (codeAny_mono (F.run X.A X.stack s H ⟨us, []⟩ (us ++ ds) (vs ++ dvs) Q E hr I.env0 (hb s us I.kIn hl) r2 h) fun r s' hq => ?_)
  cases r with
  | error e => exact hx pins σ H s e s' I hq
  | ok fl =>
    cases fl with
    | ret u => exact I.after hq
    | next => exact False.elim hq
    | brk => exact False.elim hq
    | cont => exact False.elim hq

theorem pe_call (F : FnOk X.prog X.w X.K X.mg X.base CX k f fd ps sp) (hr : Room k X.A) (hg : Gl X x) (hm : X.mg x = some (.ref f)) (hk : PySem.W.keepIn X.K (.ref f) = true) (hb : Binds X.K fd ps ds) (hd : Vals dvs ds) (hx : Passes CX X E)
    (ha : PA X (e :: es) t) (hdb : (x == ("__debug__" : Str)) = false := by decide) (he : starEach (e :: es) X.env = (false, eval e X.env) :: starEach es X.env := by rfl) (hpl : (backTo pos (starEach es X.env)).any (·.1) = false := by rfl) :
    PE X (.Call (.Name x p) (e :: es) [] pos) (tCall sp dvs E t) := by
  intro pins s σ H Q I h
  refine wpAny_Call_Name_kw (ld_glob I hg hm ?_ hdb)
  refine PySem.W.callWith_K (h₀ := X.base) I.ok.mod.kin hk (thn (ha pos pins s σ H _ I h) fun us s1 ⟨vs, H1, I1, r, q⟩ => ⟨I1.kIn, ?_⟩) he hpl
  exact run_fn F hr hb hd hx I1 r q
structure Mk (K : PySem.W.Frag) (C f : Addr) : Prop where
  makes : PySem.W.makesIn K C = true
  init : PySem.W.findIn K (.ref C) "__init__" = some (some (.ref f))
  fn : PySem.W.isFn K (.ref f) = true
  kp : PySem.W.keepIn K (.ref C) = true

end

section
variable {X : Cx} {CX : CXT} {k : Nat} {f C : Addr} {fd : FuncData} {ps ks : List Str} {sp : Sp} {E : XK} {x m : Str} {p pos apos kpos : Pos} {e o : Expr} {es : List Expr} {kws : List Keyword} {te ta : TE} {t tk : TA} {nm : Option Str}
structure KBinds (K : PySem.W.Frag) (fd : FuncData) (ps ks : List Str) (g : List Value → List Value → List Value) (gV : List V → List V → List V) : Prop where
  to : ∀ (s : Shared) (us ws : List Value), K.In s.heap → (g us ws).length = ps.length → BindsTo s fd ⟨us, ks.zip ws⟩ (ps.zip (g us ws))
  rel : ∀ {vs : List V} {us : List Value} {zs : List V} {ws : List Value}, Vals vs us → Vals zs ws → Vals (gV vs zs) (g us ws)
variable {g : List Value → List Value → List Value} {gV : List V → List V → List V}
end

structure FnScope (N P : List Str) (sc : Scope) : Prop where
  kind : sc.kind = .function
  co : sc.isCoroutine = false
  gen : sc.isGenerator = false
  nd : N.Nodup
  pre : N.take P.length = P
  par : ∀ x ∈ P, sc.names.lookup x = some .local ∨ sc.names.lookup x = some .cell
  nofree : ∀ y ∈ sc.names, y.2 ≠ .free

theorem bindL_out {kindOf : Str → Option NameKind} {x : Str} : ∀ {binds : List (Str × Value)} {m : Str → Option Value}, (∀ v, (x, v) ∉ binds) → bindL kindOf binds m x = m x
  | [], _, _ => rfl
  | (n, v) :: r, m, h => by
    unfold bindL
    rw [bindL_out fun w hw => h w (List.mem_cons_of_mem _ hw)]
    split
    · have : x ≠ n := by rintro rfl; exact h v List.mem_cons_self
      simp [this]
    · rfl
theorem bindC_out {kindOf : Str → Option NameKind} {x : Str} : ∀ {binds : List (Str × Value)} {m : Str → Option Value}, (∀ v, (x, v) ∉ binds) → bindC kindOf binds m x = m x
  | [], _, _ => rfl
  | (n, v) :: r, m, h => by
    unfold bindC
    rw [bindC_out fun w hw => h w (List.mem_cons_of_mem _ hw)]
    split
    · rfl
    · have : x ≠ n := by rintro rfl; exact h v List.mem_cons_self
      simp [this]
theorem bindL_get {kindOf : Str → Option NameKind} {x : Str} {v : Value} : ∀ {P : List Str} {vs : List Value} {i : Nat} {m : Str → Option Value}, P.Nodup → P[i]? = some x → vs[i]? = some v → kindOf x = some .local →
    bindL kindOf (P.zip vs) m x = some v
  | [], _, _, _, _, h, _, _ => by simp at h
  | _ :: _, [], _, _, _, _, h, _ => by simp at h
  | p :: P, w :: vs, 0, m, nd, h1, h2, hk => by
    simp at h1 h2; subst h1; subst h2
    show bindL kindOf ((p, w) :: P.zip vs) m p = _
    unfold bindL
    rw [bindL_out fun v hv => (List.nodup_cons.mp nd).1 (List.of_mem_zip hv).1, if_pos hk]
    simp
  | p :: P, w :: vs, i + 1, m, nd, h1, h2, hk => by
    show bindL kindOf ((p, w) :: P.zip vs) m x = _
    unfold bindL
    exact bindL_get (i := i) (List.nodup_cons.mp nd).2 (by simpa using h1) (by simpa using h2) hk
theorem bindC_get {kindOf : Str → Option NameKind} {x : Str} {v : Value} : ∀ {P : List Str} {vs : List Value} {i : Nat} {m : Str → Option Value}, P.Nodup → P[i]? = some x → vs[i]? = some v → kindOf x ≠ some .local →
    bindC kindOf (P.zip vs) m x = some v
  | [], _, _, _, _, h, _, _ => by simp at h
  | _ :: _, [], _, _, _, _, h, _ => by simp at h
  | p :: P, w :: vs, 0, m, nd, h1, h2, hk => by
    simp at h1 h2; subst h1; subst h2
    show bindC kindOf ((p, w) :: P.zip vs) m p = _
    unfold bindC
    rw [bindC_out fun v hv => (List.nodup_cons.mp nd).1 (List.of_mem_zip hv).1, if_neg hk]
    simp
  | p :: P, w :: vs, i + 1, m, nd, h1, h2, hk => by
    show bindC kindOf ((p, w) :: P.zip vs) m x = _
    unfold bindC
    exact bindC_get (i := i) (List.nodup_cons.mp nd).2 (by simpa using h1) (by simpa using h2) hk

def start (N : List Str) (vs : List V) : St := vs.map some ++ List.replicate (N.length - vs.length) none

def cxOf (CX : CXT) (P : Program) (w : World) (K : PySem.W.Frag) (mg : Str → Option Value) (base : Heap) (N : List Str) (qual : Str) (scope : Scope) (f : Addr) (cd : Value) (A : Around) (outer : List Env) (s : Shared) (H : Hp) (E : XK) : Cx where
  prog := P
  w := w
  K := K
  mg := mg
  base := base
  A := A.deeper (envOfC qual scope s.heap.objs.size f cd)
  N := N
  s₀ := s
  H₀ := H
  env := envOfC qual scope s.heap.objs.size f cd
  outer := outer
  stack := envOfC qual scope s.heap.objs.size f cd :: outer
  ex := []
  calm := true
  fn := fun _ => true
  pn := []
  xe := fun e s' => wpAny (model P w) (A.deeper (envOfC qual scope s.heap.objs.size f cd)) (leaving (envOfC qual scope s.heap.objs.size f cd) e) (fun _ s'' => CX outer H s E e s'') (fun e' s'' => CX outer H s E e' s'') s'

theorem cell_has {sc : Scope} {n : Nat} {x : Str} (h : sc.names.lookup x = some .cell) : ∃ c, (cellsFrom n sc.names []).lookup x = some c := by
  have q := PySem.W.cellsFrom_some sc.names n [] (.inl h)
  exact Option.isSome_iff_exists.mp q

theorem inv_start {CX : CXT} {P : Program} {w : World} {K : PySem.W.Frag} {mg : Str → Option Value} {base : Heap} {N ps : List Str} {qual : Str} {scope : Scope} {f : Addr} {cd : Value} {A : Around} {outer : List Env} {s s1 : Shared} {H : Hp} {E : XK} {us : List Value} {vs : List V}
    (S : FnScope N ps scope) (hd : A.handled = none) (e0 : Env0 P w K mg base A outer s H) (hl : vs.length = ps.length) (r : Vals vs us)
    (x : InCallC s s.heap.objs.size (bindL (envOfC qual scope s.heap.objs.size f cd).kindOf (ps.zip us) fun _ => none) (cellsFrom (s.heap.objs.size + 1) scope.names []) (bindC (envOfC qual scope s.heap.objs.size f cd).kindOf (ps.zip us) fun _ => none) s1) :
    Inv (cxOf CX P w K mg base N qual scope f cd A outer s H E) [] (start N vs) H s1 := by
  have hpl : ps.length ≤ N.length := by have := congrArg List.length S.pre; rw [List.length_take] at this; omega
  obtain ⟨h1, tk, rfl, hk⟩ := x.done
  have noA : ∀ b : Addr, b ∉ (cxOf CX P w K mg base N qual scope f cd A outer s H E).ex := fun b z => absurd (show b ∈ ([] : List Addr) from z) (by simp)
  refine ⟨⟨e0.mod, S.kind, rfl, rfl, Nat.le_refl _, fun y z c h1 h2 => ?_, fun y hy => ?_, fun y c _ h => ?_, fun _ => hd, Around.frames_deeper e0.frames, .inr ⟨rfl, rfl⟩, fun b z => absurd z (noA b), e0.bs, e0.bsz, fun b _ _ => noA b, fun b z => absurd z (noA b), e0.funs, e0.frf⟩,
    rfl, e0.bare, Un.kept hk, ⟨_, x.toInCall.ns, fun i y v h1 h2 h3 => ?_⟩, fun y c h => ⟨_, x.cell y c h⟩, e0.hok.fresh (Nat.le_refl _), fun y c h => ?_, fun p hp => absurd (show p ∈ ([] : List (Addr × Obj)) from hp) (by simp), e0.hok.kept hk, ?_⟩
  · exact name_of_addr x.apart (PySem.mem_of_lookup h1) (PySem.mem_of_lookup h2)
  · have hy : scope.names.lookup y = some .cell ∨ scope.names.lookup y = some .free := hy
    rcases hy with hy | hy
    · exact cell_has hy
    · exact absurd rfl (S.nofree _ (PySem.mem_of_lookup hy))
  · exact Nat.le_of_lt (x.above y c (PySem.mem_of_lookup h))
  · have hi : i < vs.length := by
      unfold start at h2
      by_cases hi : i < vs.length
      · exact hi
      · rw [List.getElem?_append_right (by simpa using hi)] at h2
        rw [List.getElem?_replicate] at h2
        split at h2 <;> cases h2
    have ha : vs[i]? = some v := by
      unfold start at h2
      rw [List.getElem?_append_left (by simpa using hi), List.getElem?_map] at h2
      cases e : vs[i]? with
      | none => rw [e] at h2; cases h2
      | some a => rw [e] at h2; cases h2; rfl
    obtain ⟨u, hu, rv⟩ := r.get ha
    have hp : ps[i]? = some y := by
      rw [← S.pre, List.getElem?_take_of_lt (by omega)]; exact h1
    have ndP : ps.Nodup := by rw [← S.pre]; exact S.nd.sublist (List.take_sublist _ _)
    refine ⟨u, rv, ?_⟩
    rcases S.par y (List.mem_of_getElem? hp) with k | k
    · exact .inl ⟨k, bindL_get ndP hp hu k⟩
    · obtain ⟨c, e⟩ := cell_has (n := s.heap.objs.size + 1) k
      refine .inr ⟨.inl k, c, e, ?_⟩
      have q := x.cell y c e
      rw [bindC_get ndP hp hu (by show scope.names.lookup y ≠ _; rw [k]; decide)] at q
      exact q
  · exact e0.hok.fresh (Nat.le_of_lt (x.above y c (PySem.mem_of_lookup h)))
  · unfold start
    show _ = N.length
    rw [List.length_append, List.length_map, List.length_replicate]
    omega

theorem fn_of {CX : CXT} {P : Program} {w : World} {K : PySem.W.Frag} {mg : Str → Option Value} {base : Heap} {k : Nat} {f : Addr} {name qual : Str} {params : Arguments} {body : List Stmt} {scope : Scope} {dV kV doc pm cdv ct oc : Value} {an od : Option Addr}
    {osl : Array (Option Value)} {N ps : List Str} {sp : Sp} (lk : K.lookup f = some ⟨oc, od, .func (PySem.W.fnOf name qual params body scope dV kV doc pm an cdv ct), osl⟩) (hcd : PySem.W.codeIn K cdv qual = true) (S : FnScope N ps scope)
    (len : ∀ vs H Q E, sp vs H Q E → vs.length = ps.length)
    (hbody : ∀ (A : Around) (outer : List Env) (s : Shared) (H : Hp) (vs : List V) (Q : VK) (E : XK), Room k (A.deeper (envOfC qual scope s.heap.objs.size f cdv)) → sp vs H Q E →
      ∃ t, PSs (cxOf CX P w K mg base N qual scope f cdv A outer s H E) body t ∧ t { nx := fun _ H' => Q .non H', rt := Q } (start N vs) H) :
    FnOk P w K mg base CX (k + 1) f (PySem.W.fnOf name qual params body scope dV kV doc pm an cdv ct) ps sp := by
  refine ⟨len, fun A outer s H args us vs Q E hr e0 hb r hsp => ?_⟩
  have hl := len _ _ _ _ hsp
  have KX : K.In s.heap := e0.mod.kin.keeps fun b o e => (e0.bs b o e).1
  have lim : s.heap.NoLimit := e0.mod.nolimit.keeps fun b o e => (e0.bs b o e).1
  have hkind : ∀ y ∈ ps.zip us, scope.names.lookup y.1 = some .local ∨ (scope.names.lookup y.1 = some .cell ∧ ((cellsFrom (s.heap.objs.size + 1) scope.names []).lookup y.1).isSome = true) := fun ⟨n, v⟩ hy => by
    rcases S.par n (List.of_mem_zip hy).1 with q | q
    · exact .inl q
    · exact .inr ⟨q, PySem.W.cellsFrom_some _ _ _ (.inl q)⟩
  refine codeAny_call_function hr.depth (KX _ _ lk) rfl S.co S.gen rfl (PySem.W.codeRec_of KX hcd) (hb _ _ _ _ ?_)
  refine wpAny_newFunctionEnv_cells S.kind hkind fun env he s1 x => ?_
  subst he
  refine ⟨lim.keeps x.toInCall.keep, codeAny_func ?_⟩
  obtain ⟨t, ht, hq⟩ := hbody A outer s H vs Q E (hr.deeper _) hsp
  have I : Inv (cxOf CX P w K mg base N qual scope f cdv A outer s H E) [] (start N vs) H s1 := inv_start S hr.hd e0 hl r x
  refine wpAny_mono (ht [] s1 (start N vs) H _ I hq) (fun fl s' hs => ?_) fun e s' hs => hs
  have fin : ∀ {σ' : St} {H' : Hp} {v : V} {u : Value}, Inv (cxOf CX P w K mg base N qual scope f cdv A outer s H E) [] σ' H' s' → RelV v u → Q v H' → CE outer P w H s Q u s' :=
    fun {σ' H' v u} J rv q => ⟨v, H', J.os, J.bare, J.base, J.hok, rv, q⟩
  cases fl with
  | ret u =>
    obtain ⟨v, σ', H', J, rv, q⟩ := hs
    exact fin J rv q
  | next =>
    obtain ⟨σ', H', J, q⟩ := hs
    exact fin (v := V.non) (u := Value.none) J rfl q
  | brk =>
    obtain ⟨_, _, _, q⟩ := hs
    exact False.elim q
  | cont =>
    obtain ⟨_, _, _, q⟩ := hs
    exact False.elim q
end L2

namespace L2
open PySem PySem.Spec PyProof.Rows
section
variable {X : Cx} {x : Str} {p pos : Pos} {e : Expr} {es : List Expr} {t : TA} {id T : String} {r : List V → Hp → VK → Prop}

def tCB (r : List V → Hp → VK → Prop) (t : TA) : TE := fun σ H Q => t σ H fun vs H1 => r vs H1 Q
theorem pe_callB (hc : CallR X (.builtin id) r) (hg : Gl X x) (hm : X.mg x = none) (hv : bootBuiltins x = some (.builtin id)) (ha : PA X (e :: es) t) (hn : x ≠ "__name__" := by decide) (hdb : (x == ("__debug__" : Str)) = false := by decide)
    (he : starEach (e :: es) X.env = (false, eval e X.env) :: starEach es X.env := by rfl) (hpl : (backTo pos (starEach es X.env)).any (·.1) = false := by rfl) : PE X (.Call (.Name x p) (e :: es) [] pos) (tCB r t) := by
  intro pins s σ H Q I h
  refine wpAny_Call_Name_kw (ld_blt I hg hm hv ?_ hn hdb)
  exact PyProof.Rows.callWith_builtin1 (thn (ha pos pins s σ H _ I h) fun us s1 ⟨vs, H1, I1, r1, q1⟩ => hc pins s1 σ H1 vs us Q I1 r1 q1) he hpl
theorem pe_callTy (hc : CallR X (.type T) r) (hg : Gl X x) (hm : X.mg x = none) (hv : bootBuiltins x = some (.type T)) (ha : PA X (e :: es) t) (hn : x ≠ "__name__" := by decide) (hdb : (x == ("__debug__" : Str)) = false := by decide)
    (he : starEach (e :: es) X.env = (false, eval e X.env) :: starEach es X.env := by rfl) (hpl : (backTo pos (starEach es X.env)).any (·.1) = false := by rfl) : PE X (.Call (.Name x p) (e :: es) [] pos) (tCB r t) := by
  intro pins s σ H Q I h
  refine wpAny_Call_Name_kw (ld_blt I hg hm hv ?_ hn hdb)
  exact PyProof.Rows.callWith_type1 (thn (ha pos pins s σ H _ I h) fun us s1 ⟨vs, H1, I1, r1, q1⟩ => hc pins s1 σ H1 vs us Q I1 r1 q1) he hpl
end
end L2

namespace HT
open PySem PyProof.Rows

section
open PySem.SeqAt
open PySem.AutoSeq1 (wpAny_loadPart')
open PySem.MeetsSeq PySem.MeetsSeq2 PySem.MeetsSeq3

end

section
variable {prog : Program} {w : World} {A : Around} {E : Value → Shared → Prop} {s : Shared}

theorem cat_tup {t b : Addr} {vs ws : List Value} {Q : Value → Shared → Prop} (ht : IsTup s.heap t vs.toArray) (hb : IsTup s.heap b ws.toArray) (hv : vs ≠ [])
    (h1 : ws = [] → Q (.ref t) s) (h2 : ws ≠ [] → Q (.ref s.heap.objs.size) { s with heap := s.heap.push { cls := .type "tuple", data := .seq (vs ++ ws).toArray } })
    (hsz : vs.length + ws.length ≤ sizeLine) : wpAny (model prog w) A (binaryOp .Add (.ref t) (.ref b)) Q E s := by
  obtain ⟨⟨cls, dd, data, sl⟩, ho, hc, n, hd⟩ := id ht
  obtain ⟨⟨cls2, dd2, data2, sl2⟩, ho2, hc2, n2, hd2⟩ := id hb
  simp only at hc hd hc2 hd2
  subst hc hd hc2 hd2
  have e : vs.toArray ++ ws.toArray = (vs ++ ws).toArray := by simp
  by_cases hw : ws = []
  · exact concat_meets ⟨_, ho, rfl⟩ ⟨_, ho2, rfl⟩ noFill_tuple_add seq_tuple_add PySem.F.slot_tuple_add PySem.F.entry_tuple_add (PySem.F.args_tuple_add_2 _ _)
      (tuple_addW1 t b vs.toArray ws.toArray n n2 dd dd2 sl sl2 (by simpa using hv) (by simp [hw])) ⟨ho, ho2, h1 hw⟩
  · refine concat_meets ⟨_, ho, rfl⟩ ⟨_, ho2, rfl⟩ noFill_tuple_add seq_tuple_add PySem.F.slot_tuple_add PySem.F.entry_tuple_add (PySem.F.args_tuple_add_2 _ _)
      (tuple_addW2 t b vs.toArray ws.toArray n n2 dd dd2 sl sl2 (by simpa using hv) (by simpa using hw) (by rw [List.size_toArray, List.size_toArray]; exact hsz)) ⟨ho, ho2, ?_⟩
    rw [e]
    exact h2 hw

def sIx (n d : Nat) : Option Int → Nat
  | none => d
  | some v => if v < 0 then (v + (n : Int)).toNat else min v.toNat n
theorem sIx_none (n d : Nat) : sIx n d none = d := rfl
theorem sIx_nat (n d k : Nat) : sIx n d (some (k : Int)) = min k n := by
  show (if (k : Int) < 0 then ((k : Int) + (n : Int)).toNat else min (k : Int).toNat n) = min k n
  rw [if_neg (by omega), Int.toNat_natCast]
theorem sIx_le (n d : Nat) (hd : d ≤ n) (o : Option Int) : sIx n d o ≤ n := by
  cases o with
  | none => exact hd
  | some v =>
    show (if v < 0 then (v + (n : Int)).toNat else min v.toNat n) ≤ n
    by_cases hv : v < 0
    · rw [if_pos hv]; omega
    · rw [if_neg hv]; exact Nat.min_le_right _ _
theorem clip_eq (v : Int) (n d : Nat) : (if v < 0 then max (v + (n : Int)) 0 else min v (n : Int)) = ((sIx n d (some v) : Nat) : Int) := by
  show (if v < 0 then max (v + (n : Int)) 0 else min v (n : Int)) = (((if v < 0 then (v + (n : Int)).toNat else min v.toNat n) : Nat) : Int)
  by_cases hv : v < 0
  · simp only [if_pos hv]; omega
  · simp only [if_neg hv]; omega
theorem adjust_gen (lo hi : Option Int) (n : Nat) : Builtin.Slice.sliceAdjust lo hi 1 (n : Int) = (((sIx n 0 lo : Nat) : Int), ((sIx n n hi : Nat) : Int)) := by
  have h1 : ¬ ((1 : Int) < 0) := by omega
  unfold Builtin.Slice.sliceAdjust
  simp only [h1, if_false]
  refine Prod.ext ?_ ?_
  · cases lo with
    | none => rfl
    | some v => exact clip_eq v n 0
  · cases hi with
    | none => rfl
    | some v => exact clip_eq v n n
theorem places_gen (i j : Nat) : Builtin.Slice.slicePlaces (i : Int) (j : Int) 1 = j - i := by
  unfold Builtin.Slice.slicePlaces
  have h1 : (1 : Int) > 0 := by omega
  simp only [h1, if_true, Int.ediv_one]
  split <;> omega
theorem slicePart_ {v : Value} {o : Option Int} {Q : Option Int → Shared → Prop} (p : IsPart v o) (h : Q o s) : wpAny (model prog w) A (Builtin.Slice.slicePartIndex v) Q E s := by
  cases p with
  | none => exact slicePart_none h
  | int i t => exact slicePart_int h
theorem sliceApplied_gen {sl : Addr} {vl vu : Value} {lo hi : Option Int} {n : Nat} {Q : Int × Int × Nat → Shared → Prop} (hs : s.heap.IsSliceOf sl vl vu .none) (pl : IsPart vl lo) (pu : IsPart vu hi)
    (h : Q (((sIx n 0 lo : Nat) : Int), 1, sIx n n hi - sIx n 0 lo) s) : wpAny (model prog w) A (Builtin.Slice.sliceApplied (.ref sl) (pure (n : Int))) Q E s := by
  obtain ⟨os, hos, hcs, hds⟩ := id hs
  unfold Builtin.Slice.sliceApplied Builtin.Slice.sliceFields
  refine wpAny_bind (wpAny_bind (wpAny_field hos hds (x := vl) rfl (wpAny_bind (wpAny_field hos hds (x := vu) rfl (wpAny_bind (wpAny_field hos hds (x := .none) rfl (wpAny_pure ?_)))))))
  refine wpAny_bind (slicePart_none ?_)
  show wpAny _ _ (if ((1 : Int) == 0) = true then _ else _) _ _ s
  rw [if_neg (by decide)]
  refine wpAny_bind (slicePart_ pl (wpAny_bind (slicePart_ pu (wpAny_bind (wpAny_pure ?_)))))
  show wpAny _ _ (match Builtin.Slice.sliceAdjust lo hi 1 (n : Int) with | (lo, hi) => pure (lo, (1 : Int), Builtin.Slice.slicePlaces lo hi 1)) _ _ s
  rw [adjust_gen lo hi n]
  show wpAny _ _ (pure (((sIx n 0 lo : Nat) : Int), (1 : Int), Builtin.Slice.slicePlaces ((sIx n 0 lo : Nat) : Int) ((sIx n n hi : Nat) : Int) 1)) _ _ s
  rw [places_gen]
  exact wpAny_pure h
theorem pick_gen (xs : Array Value) (i k : Nat) : ((List.range k).filterMap fun (m : Nat) => xs[((i : Int) + (m : Int) * 1).toNat]?).toArray = ((xs.toList.drop i).take k).toArray := by
  have e : (fun (m : Nat) => xs[((i : Int) + (m : Int) * 1).toNat]?) = fun m => xs[i + m]? := by
    funext m
    have : ((i : Int) + (m : Int) * 1).toNat = i + m := by omega
    rw [this]
  rw [e]
  have := pick_run xs i k
  rw [List.filterMap_map] at this
  have e2 : ((fun x => xs[x]?) ∘ fun x => i + x) = fun m => xs[i + m]? := rfl
  rw [e2] at this
  rw [this]

theorem getItem_tuple_cut {t sl : Addr} {items : Array Value} {vl vu : Value} {lo hi : Option Int} {Q : Value → Shared → Prop} (ht : IsTup s.heap t items) (hs : s.heap.IsSliceOf sl vl vu .none) (pl : IsPart vl lo) (pu : IsPart vu hi)
    (hw : ¬ (sIx items.size 0 lo = 0 ∧ sIx items.size items.size hi = items.size))
    (h : Q (.ref s.heap.objs.size) { s with heap := s.heap.push { cls := .type "tuple", data := .seq ((items.toList.drop (sIx items.size 0 lo)).take (sIx items.size items.size hi - sIx items.size 0 lo)).toArray } })
    (hsz : items.size ≤ sizeLine) : wpAny (model prog w) A (getItem (.ref t) (.ref sl)) Q E s := by
  have htake : sizeOk (.seq ((items.toList.drop (sIx items.size 0 lo)).take (sIx items.size items.size hi - sIx items.size 0 lo)).toArray) := by
    show ((items.toList.drop (sIx items.size 0 lo)).take (sIx items.size items.size hi - sIx items.size 0 lo)).toArray.size ≤ sizeLine
    rw [List.size_toArray, List.length_take, List.length_drop, Array.length_toList]
    omega
  have hj : sIx items.size items.size hi ≤ items.size := sIx_le _ _ (Nat.le_refl _) hi
  obtain ⟨os, hos, hcs, hds⟩ := id hs
  have hTs : s.TypeIs (.ref sl) "slice" := ⟨os, hos, hcs⟩
  unfold getItem
  try with_reducible refine wpAny_holding ?_
  first | refine wpAny_bind (wpAny_pure ?_) | skip
  refine wpAny_bind (wpAny_sequenceKey ht.typeIs (by decide) ?_)
  refine wpAny_bind (wpAny_callSpecial?_slot (name := Str.ofString "__getitem__") ht.typeIs PyProof.Rows.slot_tuple_getitem
    (wpAny_call_entry PyProof.Rows.slot_tuple_getitem ht.typeIs entry_tuple_getitem ?_ (args_tuple_getitem _ _)))
  show wpAny _ _ (Builtin.Tuple.tupleItemsOf (.ref t) >>= _) _ _ s
  refine wpAny_bind (tupleItemsOf_ ht ?_)
  refine wpAny_bind (wpAny_typeOf hTs ?_)
  rw [if_pos (by decide)]
  refine wpAny_bind (sliceApplied_gen hs pl pu ?_)
  have hno : ¬ ((((sIx items.size 0 lo : Nat) : Int) == 0 && (1 : Int) == 1 && (sIx items.size items.size hi - sIx items.size 0 lo) == items.size) = true) := by
    intro q
    rw [Bool.and_eq_true, Bool.and_eq_true] at q
    have q1 : ((sIx items.size 0 lo : Nat) : Int) = 0 := eq_of_beq q.1.1
    have q2 : sIx items.size items.size hi - sIx items.size 0 lo = items.size := eq_of_beq q.2
    exact hw ⟨by omega, by omega⟩
  show wpAny _ _ (if (((sIx items.size 0 lo : Nat) : Int) == 0 && (1 : Int) == 1 && (sIx items.size items.size hi - sIx items.size 0 lo) == items.size) = true then _ else _) _ _ s
  rw [if_neg hno, pick_gen]
  first
    | exact wpAny_bind (m := Builtin.Tuple.tupleExact _) (wpAny_newObj_type (wpAny_pure ⟨_, rfl, wpAny_pure h⟩) htake)
    | exact wpAny_bind (m := Builtin.Tuple.tupleExact _) (wpAny_newObj_type (wpAny_bind (wpAny_pure (wpAny_pure ⟨_, rfl, wpAny_pure h⟩))) htake)
    | exact wpAny_bind (wpAny_bind (m := Builtin.Tuple.tupleExact _) (wpAny_newObj_type (wpAny_pure (wpAny_pure ⟨_, rfl, wpAny_pure h⟩)) htake))
    | exact wpAny_bind (wpAny_bind (m := Builtin.Tuple.tupleExact _) (wpAny_newObj_type (wpAny_pure ⟨_, rfl, wpAny_pure h⟩) htake))
end
end HT

namespace L2
open PySem PySem.Spec PyProof.Rows

abbrev TO := St → Hp → (Option Int → Hp → Prop) → Prop
def PO (X : Cx) (e : Option Expr) (t : TO) : Prop :=
  ∀ (pins : List (Addr × Obj)) (s : Shared) (σ : St) (H : Hp) (Q : Option Int → Hp → Prop), Inv X pins σ H s → t σ H Q →
    wpAny (model X.prog X.w) X.A (evalPart e X.env) (fun u s' => ∃ o H', Inv X pins σ H' s' ∧ IsPart u o ∧ Q o H') X.xe s
def tNoPart : TO := fun _ H Q => Q none H
def tPart (t : TE) : TO := fun σ H Q => t σ H fun x H1 => ∃ i, x = .int i ∧ Q (some i) H1

section
variable {X : Cx} {e : Expr} {te : TE} {lo hi : Option Expr} {tl th : TO} {pos p2 : Pos}

theorem po_none : PO X none tNoPart := by
  intro pins s σ H Q I h
  rw [evalPart_none]
  exact wpAny_pure ⟨none, H, I, .none, h⟩
theorem po_some (h : PE X e te) : PO X (some e) (tPart te) := by
  intro pins s σ H Q I hw
  rw [evalPart_some]
  refine thn (h pins s σ H _ I hw) fun u s1 ⟨x, H1, I1, r1, q1⟩ => ?_
  obtain ⟨i, rfl, q⟩ := q1
  obtain ⟨t, rfl⟩ := r1
  exact ⟨some i, H1, I1, .int i t, q⟩

def SlR (X : Cx) (r : V → Option Int → Option Int → Hp → VK → Prop) : Prop :=
  ∀ (pins : List (Addr × Obj)) (s : Shared) (σ : St) (H : Hp) (x : V) (v vl vu : Value) (lo hi : Option Int) (sl : Addr) (Q : VK), Inv X pins σ H s → RelV x v → s.heap.IsSliceOf sl vl vu .none → IsPart vl lo → IsPart vu hi → r x lo hi H Q →
    ∃ T id, typeLookup (.type T) "__getitem__" = pure (some (.builtin id)) ∧ s.TypeIs v T ∧ wpAny (model X.prog X.w) X.A (getItem v (.ref sl)) (EP X pins σ Q) X.xe s
def tSl (r : V → Option Int → Option Int → Hp → VK → Prop) (te : TE) (tl th : TO) : TE := fun σ H Q => te σ H fun x H1 => tl σ H1 fun l H2 => th σ H2 fun u H3 => r x l u H3 Q
theorem pe_slice {r : V → Option Int → Option Int → Hp → VK → Prop} (hr : SlR X r) (he : PE X e te) (hl : PO X lo tl) (hu : PO X hi th) : PE X (.Subscript e (.Slice lo hi none p2) pos) (tSl r te tl th) := by
  intro pins s σ H Q I h
  refine Subscript_ (thn (he pins s σ H _ I h) fun v s1 ⟨x, H1, I1, r1, q1⟩ => ?_)
  refine wpAny_Slice (thn (hl pins s1 σ H1 _ I1 q1) fun vl s2 ⟨l, H2, I2, pl, q2⟩ => thn (hu pins s2 σ H2 _ I2 q2) fun vu s3 ⟨u, H3, I3, pu, q3⟩ => ?_)
  rw [evalPart_none]
  refine wpAny_pure ?_
  have I4 : Inv X pins σ H3 { s3 with heap := s3.heap.push { cls := .type "slice", data := .fields #[vl, vu, .none] } } := I3.kept (t' := s3.toks) fun b ob q => Heap.get?_push_of_some _ q
  obtain ⟨T, id, hT, ht, hg⟩ := hr pins { s3 with heap := s3.heap.push { cls := .type "slice", data := .fields #[vl, vu, .none] } } σ H3 x v vl vu l u s3.heap.objs.size Q I4 r1 (Heap.IsSliceOf.new ..) pl pu q3
  show wpAny (model X.prog X.w) X.A (subscriptTail e (.Slice lo hi none p2) v (.ref s3.heap.objs.size)) (EP X pins σ Q) X.xe { s3 with heap := s3.heap.push { cls := .type "slice", data := .fields #[vl, vu, .none] } }
  exact tail_any (ops := [.ref s3.heap.objs.size, v]) ht hT hg (by with_unfolding_all rfl)

def cutV (xs : List V) (lo hi : Option Int) : List V := (xs.drop (HT.sIx xs.length 0 lo)).take (HT.sIx xs.length xs.length hi - HT.sIx xs.length 0 lo)
theorem cutV_length (xs : List V) (lo hi : Option Int) : (cutV xs lo hi).length ≤ xs.length := by
  unfold cutV
  rw [List.length_take, List.length_drop]
  omega
def rSlT (K : PySem.W.Frag) : V → Option Int → Option Int → Hp → VK → Prop := fun x lo hi H Q => ∃ a xs, x = .ref a ∧ SqT K H a xs ∧
  ¬ (HT.sIx xs.length 0 lo = 0 ∧ HT.sIx xs.length xs.length hi = xs.length) ∧ ∀ p, H p = none → Q (.ref p) (upd H p (.tup (cutV xs lo hi)))
theorem sl_tup : SlR X (rSlT X.K) := by
  intro pins s σ H x v vl vu lo hi sl Q I rx hs pl pu h
  obtain ⟨a, xs, rfl, hx, hw, q⟩ := h
  cases rx
  obtain ⟨its, r, ht, hz⟩ := I.tuple hx
  have hlen : its.toArray.size = xs.length := by rw [List.size_toArray]; exact r.length.symm
  refine ⟨"tuple", _, PyProof.Rows.slot_tuple_getitem.lookup, ht.typeIs, ?_⟩
  refine HT.getItem_tuple_cut ht hs pl pu (by rw [hlen]; exact hw) ?_ (by rw [hlen]; exact hz)
  rw [hlen]
  refine ⟨.ref s.heap.objs.size, _, I.laid (t' := s.toks) (o := .tup (cutV xs lo hi)) (fun b ob q => Heap.get?_push_of_some _ q) (Nat.le_refl _) ?_, rfl, q _ (I.hok.fresh (Nat.le_refl _))⟩
  exact ⟨Nat.le_trans (cutV_length xs lo hi) hz, _, (r.drop (HT.sIx xs.length 0 lo)).take (HT.sIx xs.length xs.length hi - HT.sIx xs.length 0 lo), IsTup.new _ _⟩

def rCatT (K : PySem.W.Frag) : R2 := fun x y H Q => ∃ a b xs ys, x = .ref a ∧ y = .ref b ∧ SqT K H a xs ∧ SqT K H b ys ∧ xs ≠ [] ∧ xs.length + ys.length ≤ sizeLine ∧
  (ys = [] → Q (.ref a) H) ∧ (ys ≠ [] → ∀ p, H p = none → Q (.ref p) (upd H p (.tup (xs ++ ys))))
theorem Vals.nil_iff {xs : List V} {us : List Value} (r : Vals xs us) : us = [] ↔ xs = [] := by
  cases r with
  | nil => simp
  | cons _ _ => simp
theorem op_catT : OpR X (binaryOp .Add) (rCatT X.K) := by
  intro pins s σ H x y v u Q I rx ry h
  obtain ⟨a, b, xs, ys, rfl, rfl, ha, hb, hx, hz, q1, q2⟩ := h
  cases rx
  cases ry
  obtain ⟨its, r1, p1, _⟩ := I.tuple ha
  obtain ⟨its2, r2, p2, _⟩ := I.tuple hb
  refine HT.cat_tup p1 p2 (fun z => hx (r1.nil_iff.mp z)) (fun z => ⟨.ref a, H, I, rfl, q1 (r2.nil_iff.mp z)⟩) (fun z => ?_) (by rw [← r1.length, ← r2.length]; exact hz)
  refine ⟨.ref s.heap.objs.size, _, I.laid (t' := s.toks) (o := .tup (xs ++ ys)) (fun b ob q => Heap.get?_push_of_some _ q) (Nat.le_refl _) ?_, rfl, q2 (fun w => z (r2.nil_iff.mpr w)) _ (I.hok.fresh (Nat.le_refl _))⟩
  exact ⟨by rw [List.length_append]; exact hz, _, r1.append r2, IsTup.new _ _⟩
end
end L2

namespace L2
open PySem PySem.Spec PyProof.Rows

def ixN (n : Nat) (i : Int) : Option Nat := if 0 ≤ i then (if i < n then some i.toNat else none) else if -(n : Int) ≤ i then some (i + n).toNat else none
def atI {α : Type} (xs : List α) (i : Int) : Option α := (ixN xs.length i).bind fun j => xs[j]?
theorem ixN_seq {n : Nat} {i : Int} {j : Nat} (h : ixN n i = some j) : seqIndex? i n = some j ∧ j < n ∧ -(n : Int) ≤ i ∧ i < n := by
  unfold ixN at h
  by_cases h0 : 0 ≤ i
  · rw [if_pos h0] at h
    by_cases h1 : i < n
    · rw [if_pos h1] at h
      have e : i.toNat = j := Option.some.inj h
      exact ⟨by rw [seqIndex_of h0 h1, e], by omega, by omega, h1⟩
    · rw [if_neg h1] at h; cases h
  · rw [if_neg h0] at h
    by_cases h1 : -(n : Int) ≤ i
    · rw [if_pos h1] at h
      have e : (i + n).toNat = j := Option.some.inj h
      exact ⟨by rw [seqIndex_neg (by omega) h1, e], by omega, h1, by omega⟩
    · rw [if_neg h1] at h; cases h
theorem atI_get {α : Type} {xs : List α} {i : Int} {v : α} (h : atI xs i = some v) : ∃ j, seqIndex? i xs.length = some j ∧ xs[j]? = some v ∧ j < xs.length ∧ -(xs.length : Int) ≤ i ∧ i < xs.length := by
  unfold atI at h
  cases e : ixN xs.length i with
  | none => rw [e] at h; cases h
  | some j =>
    rw [e] at h
    obtain ⟨h1, h2, h3, h4⟩ := ixN_seq e
    exact ⟨j, h1, h, h2, h3, h4⟩
theorem atI_nat {α : Type} {xs : List α} {j : Nat} {v : α} (h : xs[j]? = some v) : atI xs (j : Int) = some v := by
  have hj : j < xs.length := (List.getElem?_eq_some_iff.mp h).1
  have e : ixN xs.length (j : Int) = some j := by
    unfold ixN
    rw [if_pos (by omega), if_pos (by omega)]; simp
  unfold atI; rw [e]; exact h
def PlainIx (b : Expr) : Prop := ∀ o i, subscripted b false o i = operate [o, i] (getItem o i)
def IxR (X : Cx) (r : R2) : Prop :=
  ∀ (value slice : Expr) (pins : List (Addr × Obj)) (s : Shared) (σ : St) (H : Hp) (x y : V) (v u : Value) (Q : VK), Inv X pins σ H s → RelV x v → RelV y u → r x y H Q →
    subscripted slice false v u = operate [v, u] (getItem v u) → wpAny (model X.prog X.w) X.A (subscriptTail value slice v u) (EP X pins σ Q) X.xe s
def MtR (X : Cx) (id : String) (r : V → List V → Hp → VK → Prop) : Prop :=
  ∀ (pins : List (Addr × Obj)) (s : Shared) (σ : St) (H : Hp) (x : V) (xs : List V) (v : Value) (us : List Value) (Q : VK), Inv X pins σ H s → RelV x v → Vals xs us → r x xs H Q →
    wpAny (model X.prog X.w) X.A (call (.builtin id) (v :: us)) (EP X pins σ Q) X.xe s
section
variable {X : Cx} {a b : Expr} {ta tb : TE} {pos : Pos}
theorem pe_ix {r : R2} (hr : IxR X r) (ha : PE X a ta) (hb : PE X b tb) (hs : PlainIx b) : PE X (.Subscript a b pos) (tOp r ta tb) := by
  intro pins s σ H Q I h
  exact Subscript_ (binT ha hb I h fun v u s2 x y H2 I2 rx ry q => hr a b pins s2 σ H2 x y v u Q I2 rx ry q (hs _ _))

def rIxL (K : PySem.W.Frag) : R2 := fun x y H Q => ∃ p xs i v, x = .ref p ∧ y = .int i ∧ SqL K H p xs ∧ atI xs i = some v ∧ Q v H
def rIxT (K : PySem.W.Frag) : R2 := fun x y H Q => ∃ p xs i v, x = .ref p ∧ y = .int i ∧ SqT K H p xs ∧ atI xs i = some v ∧ Q v H
def rIxS : R2 := fun x y H Q => ∃ z i c, x = .str z ∧ y = .int i ∧ z.length ≤ sizeLine ∧ atI z.cps.toList i = some c ∧ Q (.str ⟨#[c]⟩) H
theorem ix_list : IxR X (rIxL X.K) := by
  intro value slice pins s σ H x y v u Q I rx ry h hs
  obtain ⟨p, xs, i, z, rfl, rfl, hq, he, q⟩ := h
  cases rx
  obtain ⟨t, rfl⟩ := ry
  obtain ⟨its, r, pl, hz⟩ := I.list hq
  obtain ⟨j, h1, h2, h3, h4, h5⟩ := atI_get he
  obtain ⟨w, ew, rw'⟩ := r.get h2
  have hl := r.length
  have hn := line63
  have fin : EP X pins σ Q w s := ⟨z, H, I, rw', q⟩
  by_cases h0 : 0 ≤ i
  · have hj : i.toNat = j := by
      rw [seqIndex_of h0 h5] at h1
      exact Option.some.inj h1
    exact item_listR pl.isList h0 (by omega) (by rw [hj]; simpa using ew) fin hs
  · have hj : (i + (its.toArray.size : Int)).toNat = j := by
      rw [seqIndex_neg (by omega) h4] at h1
      rw [List.size_toArray, ← hl]
      exact Option.some.inj h1
    exact subscriptTail_builtinR (x := w) pl.isList.typeIs slot_list_getitem.lookup
      (wpAny_getItem_list_neg (Q := fun r s' => r = w ∧ EP X pins σ Q r s') pl.isList (by omega) (by rw [List.size_toArray] <;> omega) (by omega) (by rw [hj]; simpa using ew) ⟨rfl, fin⟩) hs
theorem ix_tup : IxR X (rIxT X.K) := by
  intro value slice pins s σ H x y v u Q I rx ry h hs
  obtain ⟨p, xs, i, z, rfl, rfl, hq, he, q⟩ := h
  cases rx
  obtain ⟨t, rfl⟩ := ry
  obtain ⟨its, r, pl, hz⟩ := I.tuple hq
  obtain ⟨j, h1, h2, h3, h4, h5⟩ := atI_get he
  obtain ⟨w, ew, rw'⟩ := r.get h2
  have hl := r.length
  have hn := line63
  have fin : EP X pins σ Q w s := ⟨z, H, I, rw', q⟩
  exact subscriptTail_builtinR (x := w) pl.typeIs slot_tuple_getitem.lookup
    (getItem_tuple (j := j) (Q := fun r s' => r = w ∧ EP X pins σ Q r s') pl (by omega) (by omega) (by rw [List.size_toArray, ← hl]; exact h1) (by simpa using ew) ⟨rfl, fin⟩) hs
theorem ix_str : IxR X rIxS := by
  intro value slice pins s σ H x y v u Q I rx ry h hs
  obtain ⟨z, i, c, rfl, rfl, hz, he, q⟩ := h
  obtain ⟨t, rfl⟩ := rx
  obtain ⟨t', rfl⟩ := ry
  obtain ⟨j, h1, h2, h3, h4, h5⟩ := atI_get he
  have hl : z.cps.toList.length = z.length := by simp [Str.length]
  rw [hl] at h1 h4 h5
  have hn := line63
  exact tail_any (typeIs_str s z t) slot_str_getitem.lookup (getItem_str (c := c) (by
    have e1 : decide (i < -(2 ^ 63 : Int)) = false := decide_eq_false (by omega)
    have e2 : decide (i ≥ 2 ^ 63) = false := decide_eq_false (by omega)
    rw [e1, e2, Bool.or_false]) (by rw [h1]; simpa using h2) ⟨.str ⟨#[c]⟩, H, I.tok _, ⟨_, rfl⟩, q⟩) hs
theorem Inv.lst {pins : List (Addr × Obj)} {σ : St} {H : Hp} {s : Shared} {p : Addr} {xs : List V} (I : Inv X pins σ H s) (h : H p = some (.lst xs)) :
    ∃ (its : List Value) (n : Nat), Vals xs its ∧ s.heap.get? p = some { cls := .type "list", data := .seq its.toArray n } ∧ xs.length ≤ sizeLine := by
  obtain ⟨z, its, n, r, e⟩ := I.hok p _ h
  exact ⟨its, n, r, e, z⟩
theorem slice_bounds (lo hi : Option Int) (n : Nat) : (sliceBounds lo hi none n).1 = ((HT.sIx n 0 lo : Nat) : Int) ∧ (sliceBounds lo hi none n).2.1 = ((HT.sIx n n hi : Nat) : Int) ∧ (sliceBounds lo hi none n).2.2 = 1 := by
  refine ⟨?_, ?_, rfl⟩
  · cases lo with
    | none => simp [sliceBounds, HT.sIx]
    | some i =>
      simp only [sliceBounds, HT.sIx, Option.getD_none, show (1 : Int) > 0 by decide, if_true]
      by_cases h : i < 0
      · simp only [h, if_true] <;> omega
      · simp only [h, if_false] <;> omega
  · cases hi with
    | none => simp [sliceBounds, HT.sIx]
    | some i =>
      simp only [sliceBounds, HT.sIx, Option.getD_none, show (1 : Int) > 0 by decide, if_true]
      by_cases h : i < 0
      · simp only [h, if_true] <;> omega
      · simp only [h, if_false] <;> omega
theorem slicePick_cut (its : List Value) (lo hi : Option Int) : slicePick its.toArray lo hi none = ((its.drop (HT.sIx its.length 0 lo)).take (HT.sIx its.length its.length hi - HT.sIx its.length 0 lo)).toArray := by
  obtain ⟨h1, h2, h3⟩ := slice_bounds lo hi its.toArray.size
  unfold slicePick
  rw [h1, h2, h3]
  simp only [sliceRange_one, pick_run, List.size_toArray] <;> rfl
def rSlL (K : PySem.W.Frag) : V → Option Int → Option Int → Hp → VK → Prop := fun x lo hi H Q => ∃ a xs, x = .ref a ∧ SqL K H a xs ∧ ∀ p, H p = none → Q (.ref p) (upd H p (.lst (cutV xs lo hi)))
theorem sl_list : SlR X (rSlL X.K) := by
  intro pins s σ H x v vl vu lo hi sl Q I rx hs pl pu h
  obtain ⟨a, xs, rfl, hx, q⟩ := h
  cases rx
  obtain ⟨its, r, ht, hz⟩ := I.list hx
  have hlen := r.length
  refine ⟨"list", _, slot_list_getitem.lookup, ht.isList.typeIs, ?_⟩
  refine wpAny_getItem_list_slice ht.isList hs pl pu .none (by simp) ?_ (by rw [List.size_toArray] <;> omega)
  rw [slicePick_cut, ← hlen]
  refine ⟨.ref s.heap.objs.size, _, I.laid (t' := s.toks) (o := .lst (cutV xs lo hi)) (fun b ob q => Heap.get?_push_of_some _ q) (Nat.le_refl _) ?_, rfl, q _ (I.hok.fresh (Nat.le_refl _))⟩
  exact ⟨Nat.le_trans (cutV_length xs lo hi) hz, _, 0, (r.drop (HT.sIx xs.length 0 lo)).take (HT.sIx xs.length xs.length hi - HT.sIx xs.length 0 lo), Heap.get?_push_size _ rfl⟩

def flatV : V → Bool
  | .non => true
  | .bl _ => true
  | .int _ => true
  | .str _ => true
  | _ => false
def eqV : V → V → Bool
  | .non, .non => true
  | .bl a, .bl b => a == b
  | .bl a, .int b => (if a then 1 else 0) == b
  | .int a, .bl b => a == (if b then 1 else 0)
  | .int a, .int b => a == b
  | .str a, .str b => a == b
  | _, _ => false
theorem eqAt_V {A : Around} {s : Shared} {y x : V} {u v : Value} (ry : RelV y u) (rx : RelV x v) (fy : flatV y = true) (fx : flatV x = true) : SeqAt.EqAt A s u v (eqV y x) := by
  cases y with
  | non =>
    cases ry
    cases x with
    | non => cases rx; exact SeqAt.EqAt.same _
    | bl b => cases rx; exact SeqAt.EqAt.none_bool b
    | int b => obtain ⟨t, rfl⟩ := rx; exact SeqAt.EqAt.none_int b t
    | str b => obtain ⟨t, rfl⟩ := rx; exact SeqAt.EqAt.none_str b t
    | _ => exact absurd (show false = true from fx) Bool.false_ne_true
  | bl a =>
    cases ry
    cases x with
    | non => cases rx; exact SeqAt.EqAt.bool_none a
    | bl b => cases rx; exact SeqAt.EqAt.bool_bool a b
    | int b => obtain ⟨t, rfl⟩ := rx; exact SeqAt.EqAt.bool_int a b t
    | str b => obtain ⟨t, rfl⟩ := rx; exact SeqAt.EqAt.bool_str a b t
    | _ => exact absurd (show false = true from fx) Bool.false_ne_true
  | int a =>
    obtain ⟨t', rfl⟩ := ry
    cases x with
    | non => cases rx; exact SeqAt.EqAt.int_none a t'
    | bl b => cases rx; exact SeqAt.EqAt.int_bool a t' b
    | int b => obtain ⟨t, rfl⟩ := rx; exact SeqAt.EqAt.int_int a t' b t
    | str b => obtain ⟨t, rfl⟩ := rx; exact SeqAt.EqAt.int_str a t' b t
    | _ => exact absurd (show false = true from fx) Bool.false_ne_true
  | str a =>
    obtain ⟨t', rfl⟩ := ry
    cases x with
    | non => cases rx; exact SeqAt.EqAt.str_none a t'
    | bl b => cases rx; exact SeqAt.EqAt.str_bool a t' b
    | int b => obtain ⟨t, rfl⟩ := rx; exact SeqAt.EqAt.str_int a t' b t
    | str b => obtain ⟨t, rfl⟩ := rx; exact SeqAt.EqAt.str_str a t' b t
    | _ => exact absurd (show false = true from fx) Bool.false_ne_true
  | _ => exact absurd (show false = true from fy) Bool.false_ne_true
def eqU (x : V) (u : Value) : Bool := match u with
  | .none => eqV .non x
  | .bool b => eqV (.bl b) x
  | .int i _ => eqV (.int i) x
  | .str z _ => eqV (.str z) x
  | _ => false
theorem eqU_of {x y : V} {u : Value} (r : RelV y u) (f : flatV y = true) : eqU x u = eqV y x := by
  cases y with
  | non => cases r; rfl
  | bl b => cases r; rfl
  | int i => obtain ⟨t, rfl⟩ := r; rfl
  | str z => obtain ⟨t, rfl⟩ := r; rfl
  | _ => exact absurd (show false = true from f) Bool.false_ne_true
theorem any_eqU {x : V} : ∀ {xs : List V} {us : List Value}, Vals xs us → xs.all flatV = true → us.any (eqU x) = xs.any fun y => eqV y x
  | _, _, .nil, _ => rfl
  | y :: xs, u :: us, .cons r t, f => by
    rw [List.all_cons, Bool.and_eq_true] at f
    rw [List.any_cons, List.any_cons, eqU_of r f.1, any_eqU t f.2]
theorem mem_eqAt {A : Around} {s : Shared} {x : V} {v : Value} (rx : RelV x v) (fx : flatV x = true) : ∀ {xs : List V} {us : List Value}, Vals xs us → xs.all flatV = true → ∀ u ∈ us, SeqAt.EqAt A s u v (eqU x u)
  | _, _, .nil, _ => fun u hu => by cases hu
  | y :: xs, u :: us, .cons r t, f => fun u' hu => by
    rw [List.all_cons, Bool.and_eq_true] at f
    rcases List.mem_cons.mp hu with rfl | hu
    · rw [eqU_of r f.1]; exact eqAt_V r rx f.1 fx
    · exact mem_eqAt rx fx t f.2 u' hu
def inV (x : V) (xs : List V) : Bool := xs.any fun y => eqV y x
def rIn (K : PySem.W.Frag) (neg : Bool) : R2 := fun x y H Q => ∃ p xs, y = .ref p ∧ (SqL K H p xs ∨ SqT K H p xs) ∧ flatV x = true ∧ xs.all flatV = true ∧ Q (.bl (if neg then !inV x xs else inV x xs)) H
theorem op_in_seq : OpR X (compareOp .In) (rIn X.K false) := by
  intro pins s σ H x y v u Q I rx ry h
  obtain ⟨p, xs, rfl, hq, fx, fs, q⟩ := h
  cases ry
  rcases hq with hq | hq
  · obtain ⟨its, r, pl, hz⟩ := I.list hq
    refine SeqAt.in_listAt (eqU x) pl.isList (fun w hw => mem_eqAt rx fx r fs w (by simpa using hw)) ⟨.bl _, H, I, rfl, ?_⟩
    rw [show its.toArray.any (eqU x) = its.any (eqU x) by simp, any_eqU r fs]
    exact q
  · obtain ⟨its, r, pl, hz⟩ := I.tuple hq
    refine SeqAt.in_tupleAt (eqU x) pl (fun w hw => mem_eqAt rx fx r fs w (by simpa using hw)) ⟨.bl _, H, I, rfl, ?_⟩
    rw [show its.toArray.any (eqU x) = its.any (eqU x) by simp, any_eqU r fs]
    exact q
theorem op_notIn_seq : OpR X (compareOp .NotIn) (rIn X.K true) := by
  intro pins s σ H x y v u Q I rx ry h
  obtain ⟨p, xs, rfl, hq, fx, fs, q⟩ := h
  cases ry
  rcases hq with hq | hq
  · obtain ⟨its, r, pl, hz⟩ := I.list hq
    refine SeqAt.notIn_listAt (eqU x) pl.isList (fun w hw => mem_eqAt rx fx r fs w (by simpa using hw)) ⟨.bl _, H, I, rfl, ?_⟩
    rw [show its.toArray.any (eqU x) = its.any (eqU x) by simp, any_eqU r fs]
    exact q
  · obtain ⟨its, r, pl, hz⟩ := I.tuple hq
    refine SeqAt.notIn_tupleAt (eqU x) pl (fun w hw => mem_eqAt rx fx r fs w (by simpa using hw)) ⟨.bl _, H, I, rfl, ?_⟩
    rw [show its.toArray.any (eqU x) = its.any (eqU x) by simp, any_eqU r fs]
    exact q
theorem call_len_seq : CallR X (.builtin "len") (fun xs H Q => ∃ p ys, xs = [.ref p] ∧ (SqL X.K H p ys ∨ SqT X.K H p ys) ∧ Q (.int ys.length) H) := by
  intro pins s σ H xs us Q I r h
  obtain ⟨p, ys, rfl, hq, q⟩ := h
  obtain ⟨u, rfl, rx⟩ := vals1 r
  cases rx
  have hn := line63
  rcases hq with hq | hq
  · obtain ⟨its, r', pl, hz⟩ := I.list hq
    have hlen := r'.length
    exact Calls.call_len_list pl.isList (by simp only [List.size_toArray] <;> omega) ⟨.int ys.length, H, I.tok _, ⟨s.toks + 1, by rw [List.size_toArray, hlen]⟩, q⟩
  · obtain ⟨its, r', pl, hz⟩ := I.tuple hq
    have hlen := r'.length
    exact len_tuple pl (by simp only [List.size_toArray] <;> omega) ⟨.int ys.length, H, I.tok _, ⟨s.toks + 1, by rw [List.size_toArray, hlen]⟩, q⟩
theorem call_len_str : CallR X (.builtin "len") (fun xs H Q => ∃ z, xs = [.str z] ∧ z.length ≤ sizeLine ∧ Q (.int z.length) H) := by
  intro pins s σ H xs us Q I r h
  obtain ⟨z, rfl, hz, q⟩ := h
  obtain ⟨u, rfl, t, rfl⟩ := vals1 r
  have hn := line63
  exact len_str (by omega) ⟨.int z.length, H, I.tok _, ⟨_, rfl⟩, q⟩
theorem call_tuple_of : CallR X (.type "tuple") (fun xs H Q => ∃ p ys, xs = [.ref p] ∧ ((SqL X.K H p ys ∧ ∀ l, H l = none → Q (.ref l) (upd H l (.tup ys))) ∨ (SqT X.K H p ys ∧ Q (.ref p) H))) := by
  intro pins s σ H xs us Q I r h
  obtain ⟨p, ys, rfl, h⟩ := h
  obtain ⟨u, rfl, rx⟩ := vals1 r
  cases rx
  rcases h with ⟨hq, q⟩ | ⟨hq, q⟩
  · obtain ⟨its, r', pl, hz⟩ := I.list hq
    have hlen := r'.length
    refine call_tuple_list pl.isList (fun h' kp => ?_) (by simp only [List.size_toArray] <;> omega)
    have I1 : Inv X pins σ H { s with heap := h' } := I.kept (t' := s.toks) kp
    have I2 : Inv X pins σ (upd H h'.objs.size (.tup ys)) { s with heap := h'.push { cls := .type "tuple", data := .seq its.toArray } } :=
      I1.laid (t' := s.toks) (fun b o e => Heap.get?_push_of_some _ e) (Nat.le_refl _) (show ObjOk X.prog X.w _ _ _ (.tup ys) from ⟨hz, its, r', IsTup.new _ _⟩)
    exact ⟨.ref h'.objs.size, _, I2, rfl, q _ (I1.hok.fresh (Nat.le_refl _))⟩
  · obtain ⟨its, r', pl, hz⟩ := I.tuple hq
    exact call_tuple_same pl ⟨.ref p, H, I, rfl, q⟩

def tyV (K : PySem.W.Frag) (T : String) (x : V) (H : Hp) : Prop := match x with
  | .str _ => T = "str"
  | .int _ => T = "int"
  | .ref p => (T = "list" ∧ ∃ xs, SqL K H p xs) ∨ (T = "tuple" ∧ ∃ o, K.lookup p = some o ∧ o.cls = .type "tuple" ∧ o.dict = none) ∨
      (T = "dict" ∧ ((∃ kvs, H p = some (.dK kvs)) ∨ ∃ kvs, H p = some (.dT kvs))) ∨ (T = "set" ∧ ∃ S n, H p = some (.set S n))
  | _ => False
theorem tyV_is {pins : List (Addr × Obj)} {σ : St} {H : Hp} {s : Shared} {T : String} {x : V} {v : Value} (I : Inv X pins σ H s) (r : RelV x v) (ty : tyV X.K T x H) :
    s.TypeIs v T ∧ ∀ a, v = .ref a → ∃ ob, s.heap.get? a = some ob ∧ ob.dict = none := by
  cases x with
  | str z =>
    obtain ⟨t, rfl⟩ := r
    cases (show T = "str" from ty)
    exact ⟨typeIs_str s z t, fun _ e => nomatch e⟩
  | int i =>
    obtain ⟨t, rfl⟩ := r
    cases (show T = "int" from ty)
    exact ⟨typeIs_int s i t, fun _ e => nomatch e⟩
  | ref p =>
    cases r
    rcases ty with ⟨rfl, xs, hq⟩ | ⟨rfl, o, hk, hc, hd⟩ | ⟨rfl, hk⟩ | ⟨rfl, S, n, hk⟩
    · obtain ⟨its, _, pl, _⟩ := I.list hq
      refine ⟨pl.isList.typeIs, fun a e => ?_⟩
      cases e
      obtain ⟨o, n, e, c, hd, _⟩ := pl
      exact ⟨o, e, hd⟩
    · refine ⟨⟨o, I.kIn p o hk, hc⟩, fun a e => ?_⟩
      cases e
      exact ⟨o, I.kIn _ o hk, hd⟩
    · have z : ∃ o, s.heap.get? p = some o ∧ o.ExactDict := by
        rcases hk with ⟨kvs, hk⟩ | ⟨kvs, hk⟩
        · obtain ⟨_, _, _, _, o, _, _, e, ex, _⟩ := I.hok p _ hk
          exact ⟨o, e, ex⟩
        · obtain ⟨_, _, _, _, o, _, _, e, ex, _⟩ := I.hok p _ hk
          exact ⟨o, e, ex⟩
      obtain ⟨o, e, ex⟩ := z
      refine ⟨⟨o, e, ex.1⟩, fun a e2 => ?_⟩
      cases e2
      exact ⟨o, e, ex.2.1⟩
    · obtain ⟨o, _, _, _, e, ex, _⟩ := I.hok p _ hk
      refine ⟨⟨o, e, ex.1⟩, fun a e2 => ?_⟩
      cases e2
      exact ⟨o, e, ex.2.1⟩
  | _ => exact False.elim ty
def tBM (K : PySem.W.Frag) (T : String) (r : V → List V → Hp → VK → Prop) (to : TE) (t : TA) : TE := fun σ H Q => to σ H fun x H1 => tyV K T x H1 ∧ t σ H1 fun xs H2 => r x xs H2 Q
variable {o e : Expr} {es : List Expr} {to : TE} {t : TA} {name : Str} {apos cpos : Pos} {T id : String} {r : V → List V → Hp → VK → Prop}
theorem pe_bm (pa : PlainAttrs T) (slot : Slot T name id) (hty : typeOf (.builtin id) = pure (.type "method_descriptor")) (hm : MtR X id r) (ho : PE X o to) (ha : PA X (e :: es) t)
    (hbase : attributeBase o name X.env (eval o X.env) = eval o X.env := by rfl)
    (hfew : ((backTo cpos (starEach (e :: es) X.env)).all (fun x => !x.1) && (backToKw cpos (keywordEach [] X.env)).all (fun x => x.1.isSome)
      && decide ((e :: es).length + ([] : List Keyword).length + (if ([] : List Keyword).isEmpty then 0 else 1) < 30)) = true := by rfl)
    (hline : (apos.endLine == cpos.line) = true := by rfl) (hs : starEach (e :: es) X.env = (false, eval e X.env) :: starEach es X.env := by rfl) (hplain : (backTo cpos (starEach es X.env)).any (·.1) = false := by rfl) :
    PE X (.Call (.Attribute o name apos) (e :: es) [] cpos) (tBM X.K T r to t) := by
  intro pins s σ H Q I h
  refine wpAny_Call_method_late hbase hfew hline rfl (thn (ho pins s σ H _ I h) fun v s1 ⟨x, H1, I1, r1, ty, q1⟩ => ?_)
  obtain ⟨h1, h2⟩ := tyV_is I1 r1 ty
  refine ⟨T, id, pa, slot, hty, h1, h2, ?_⟩
  have hA := ha cpos pins s1 σ H1 _ I1 q1
  rw [hs] at hA ⊢
  refine Calls.callWith_builtin (by show (false || (backTo cpos (starEach es X.env)).any (·.1)) = false; rw [hplain] <;> rfl) (Calls.evalArgs_plain ?_)
  exact thn hA fun us s2 ⟨vs, H2, I2, r2, q2⟩ => hm pins s2 σ H2 x vs v us Q I2 r1 r2 q2
end
end L2

namespace L2
open PySem PySem.Spec PyProof.Rows

def MtM (X : Cx) (id : String) (r : V → List V → Hp → VK → Prop) : Prop :=
  ∀ (pins : List (Addr × Obj)) (s : Shared) (σ : St) (H : Hp) (x : V) (xs : List V) (v : Value) (us : List Value) (Q : VK), Inv X pins σ H s → RelV x v → Vals xs us → r x xs H Q →
    wpAny (model X.prog X.w) X.A (call (.builtin id) (v :: us)) (EP X pins σ Q) X.xe s

theorem Vals.one : ∀ {x : V} {us : List Value}, Vals [x] us → ∃ u, us = [u] ∧ RelV x u
  | _, _, .cons r .nil => ⟨_, rfl, r⟩
theorem Vals.zero : ∀ {us : List Value}, Vals [] us → us = []
  | _, .nil => rfl
theorem Vals.rep {xs : List V} {us : List Value} (h : Vals xs us) : ∀ k : Nat, Vals (List.replicate k xs).flatten (List.replicate k us).flatten
  | 0 => .nil
  | k + 1 => by
    rw [List.replicate_succ, List.replicate_succ, List.flatten_cons, List.flatten_cons]
    exact Vals.append h (Vals.rep h k)
theorem foldl_rep (its : List Value) : ∀ (k : Nat) (acc : List Value),
    List.foldl (fun x1 x2 => x1 ++ x2) acc.toArray (List.replicate k its.toArray) = (acc ++ (List.replicate k its).flatten).toArray
  | 0, acc => by simp
  | k + 1, acc => by
    have e : acc.toArray ++ its.toArray = (acc ++ its).toArray := by simp
    have e2 : (acc ++ its) ++ (List.replicate k its).flatten = acc ++ (List.replicate (k + 1) its).flatten := by
      rw [List.replicate_succ, List.flatten_cons, List.append_assoc]
    rw [← e2, ← foldl_rep its k (acc ++ its), ← e, List.replicate_succ, List.foldl_cons]

section
variable {X : Cx} {pins : List (Addr × Obj)} {σ : St} {H : Hp} {s : Shared} {l b : Addr} {xs ys zs : List V}

theorem Inv.lset {its its' : List Value} {n : Nat} {f : Array Value → Array Value} {t' : Nat} (I : Inv X pins σ H s) (hH : H l = some (.lst xs))
    (e : s.heap.get? l = some { cls := .type "list", data := .seq its.toArray n }) (hf : f its.toArray = its'.toArray) (hv : Vals ys its') (hz : ys.length ≤ sizeLine) :
    Inv X pins σ (upd H l (.lst ys)) { s with heap := s.heap.update l (Obj.mapSeq f), toks := t' } := by
  have q := PySem.IsL.update e f
  rw [hf] at q
  refine I.write (x := l) (e := l) (by rw [hH]; exact trivial) (.inl rfl) (fun b' u hb hu => (Heap.get?_update_other s.heap (Obj.mapSeq f) (Ne.symm hb)).trans hu) ⟨_, q⟩ ?_
  exact ⟨hz, its', _, hv, q⟩
theorem Inv.lnew {its : List Value} {t' : Nat} (I : Inv X pins σ H s) (hv : Vals ys its) (hz : ys.length ≤ sizeLine) :
    Inv X pins σ (upd H s.heap.objs.size (.lst ys)) { s with heap := s.heap.push { cls := .type "list", data := .seq its.toArray }, toks := t' } :=
  I.laid (fun _ _ q => Heap.get?_push_of_some _ q) (Nat.le_refl _) ⟨hz, its, 0, hv, Heap.get?_push_size _ rfl⟩
theorem Inv.fresh (I : Inv X pins σ H s) : H s.heap.objs.size = none := I.hok.fresh (Nat.le_refl _)
theorem Inv.lstM (I : Inv X pins σ H s) (hH : H l = some (.lst xs)) : xs.length ≤ sizeLine ∧ ∃ (its : List Value) (n : Nat), Vals xs its ∧ xs.length = its.length ∧ s.heap.get? l = some { cls := .type "list", data := .seq its.toArray n } := by
  obtain ⟨z, its, n, r, e⟩ := I.hok l _ hH
  exact ⟨z, its, n, r, r.length, e⟩

theorem notLongL {n : Nat} (h : n ≤ sizeLine) : Builtin.List.listTooLong n = false := by
  unfold Builtin.List.listTooLong
  exact decide_eq_false (by omega)
end

section
variable {X : Cx}

def rAppend : V → List V → Hp → VK → Prop := fun x vs H Q => ∃ l xs y, x = .ref l ∧ vs = [y] ∧ H l = some (.lst xs) ∧ xs.length < sizeLine ∧ Q .non (upd H l (.lst (xs ++ [y])))
theorem mt_append : MtM X "list.append" rAppend := by
  intro pins s σ H x vs v us Q I rx rv h
  obtain ⟨l, xs, y, rfl, rfl, hH, hz, q⟩ := h
  cases rx
  obtain ⟨u, rfl, ru⟩ := rv.one
  obtain ⟨z, its, n, r, hl, e⟩ := I.lstM hH
  refine call_meets F.slot_list_append ⟨_, e, rfl⟩ F.entry_list_append (F.args_list_append_2 _ _) (PySem.list_append l its.toArray n u (by rw [List.size_toArray]; omega)) ⟨e, ?_⟩
  refine ⟨.non, _, I.lset (its' := its ++ [u]) hH e (by simp) (r.append (.cons ru .nil)) ?_, rfl, q⟩
  rw [List.length_append, List.length_singleton]
  omega

def rCat : R2 := fun x y H Q => ∃ l b xs zs, x = .ref l ∧ y = .ref b ∧ H l = some (.lst xs) ∧ H b = some (.lst zs) ∧ xs.length + zs.length ≤ sizeLine ∧ ∀ p, H p = none → Q (.ref p) (upd H p (.lst (xs ++ zs)))
theorem op_cat : OpR X (binaryOp .Add) rCat := by
  intro pins s σ H x y v u Q I rx ry h
  obtain ⟨l, b, xs, zs, rfl, rfl, hH, hB, hz, q⟩ := h
  cases rx
  cases ry
  obtain ⟨z, its, n, r, hl, e⟩ := I.lstM hH
  obtain ⟨z2, its2, n2, r2, hl2, e2⟩ := I.lstM hB
  refine PySem.P.add_list e e2 ?_ (by rw [List.size_toArray, List.size_toArray]; omega)
  have ea : its.toArray ++ its2.toArray = (its ++ its2).toArray := by simp
  rw [ea]
  exact ⟨.ref _, _, I.lnew (t' := s.toks) (r.append r2) (by rw [List.length_append]; omega), rfl, q _ I.fresh⟩
def rRep : R2 := fun x y H Q => ∃ l k xs, x = .ref l ∧ y = .int k ∧ H l = some (.lst xs) ∧ -(2 ^ 63) ≤ k ∧ k < 2 ^ 63 ∧ xs.length * k.toNat ≤ sizeLine ∧
  ∀ p, H p = none → Q (.ref p) (upd H p (.lst (List.replicate k.toNat xs).flatten))
theorem len_rep {α : Type} (xs : List α) (k : Nat) : (List.replicate k xs).flatten.length = k * xs.length := by
  induction k with
  | zero => simp
  | succ k ih => rw [List.replicate_succ, List.flatten_cons, List.length_append, ih, Nat.succ_mul, Nat.add_comm]
theorem op_rep : OpR X (binaryOp .Mult) rRep := by
  intro pins s σ H x y v u Q I rx ry h
  obtain ⟨l, k, xs, rfl, rfl, hH, h1, h2, hz, q⟩ := h
  cases rx
  obtain ⟨t, rfl⟩ := ry
  obtain ⟨z, its, n, r, hl, e⟩ := I.lstM hH
  have hlen : its.toArray.size * k.toNat ≤ sizeLine := by rw [List.size_toArray, ← hl]; exact hz
  have hcap : ¬ its.toArray.size * k.toNat > (2 ^ 63 - 1) / 8 := by
    have : (sizeLine : Nat) ≤ (2 ^ 63 - 1) / 8 := by decide
    omega
  have hfit : ¬ (!Builtin.List.listFitsIndex k) = true := by
    rw [fitsIndex_both h1 h2]
    exact Bool.false_ne_true
  have hlong : ¬ Builtin.List.listTooLong (its.toArray.size * k.toNat) = true := by
    rw [notLongL hlen]
    exact Bool.false_ne_true
  have hnew : List.foldl (fun x1 x2 => x1 ++ x2) #[] (List.replicate (if its.toArray.isEmpty = true then 0 else k.toNat) its.toArray) = (List.replicate k.toNat its).flatten.toArray := by
    have f0 : ∀ m : Nat, List.foldl (fun x1 x2 => x1 ++ x2) #[] (List.replicate m its.toArray) = (List.replicate m its).flatten.toArray := fun m => by
      have := foldl_rep its m []
      rw [List.nil_append] at this
      exact this
    rw [f0]
    cases its with
    | nil => simp
    | cons a r' => rw [if_neg (by simp)]
  refine wpAny_binaryOp_repeat_ref (T := "list") (U := "int") (by decide) ⟨_, e, rfl⟩ (fun s' => typeIs_int s' k t) noFill_list_mul F.fills_int_mul F.slot_int_rmul repeat_list F.slot_int_index.lookup
    (call_meets F.slot_int_rmul (typeIs_int s k t) F.entry_int_rmul (F.args_int_rmul_2 _ _) (int___rmul___int_list k t l its.toArray n)
      ⟨e, rfl, ⟨_, e, rfl⟩, call_meets F.slot_list_mul ⟨_, e, rfl⟩ F.entry_list_mul (F.args_list_mul_2 _ _) (AutoListH.list___mul___list_int_3 l its.toArray n k t hfit hcap hlong) ⟨e, ?_⟩⟩)
  rw [hnew]
  exact ⟨.ref _, _, I.lnew (t' := s.toks) (r.rep k.toNat) (by rw [len_rep, Nat.mul_comm]; exact hz), rfl, q _ I.fresh⟩

end

section
variable {prog : Program} {w : World} {A : Around} {E : Value → Shared → Prop} {s : Shared}
end

section
variable {X : Cx}
end
end L2

namespace L2
open PySem PySem.Spec PyProof.Rows

section
variable {κ : Type} [DecidableEq κ]
def valV (kvs : List (κ × V)) (k : κ) : Option V := (kvs.find? fun kv => decide (kv.1 = k)).map (·.2)
def putK (kvs : List (κ × V)) (k : κ) (v : V) : List (κ × V) :=
  if (kvs.any fun kv => decide (kv.1 = k)) = true then kvs.map (fun kv => if kv.1 = k then (kv.1, v) else kv) else kvs ++ [(k, v)]
def dropK (kvs : List (κ × V)) (k : κ) : List (κ × V) := kvs.filter fun kv => decide (kv.1 ≠ k)

theorem valV_pos {p : κ × V} {r : List (κ × V)} {k : κ} (e : p.1 = k) : valV (p :: r) k = some p.2 := by simp [valV, List.find?_cons, e]
theorem valV_neg {p : κ × V} {r : List (κ × V)} {k : κ} (e : ¬ p.1 = k) : valV (p :: r) k = valV r k := by simp [valV, List.find?_cons, e]
theorem valV_any (k : κ) : ∀ kvs : List (κ × V), (kvs.any fun kv => decide (kv.1 = k)) = (valV kvs k).isSome
  | [] => rfl
  | p :: r => by
    rw [List.any_cons]
    by_cases e : p.1 = k
    · simp only [valV_pos e, decide_eq_true e, Bool.true_or, Option.isSome_some]
    · rw [valV_neg e, decide_eq_false e, Bool.false_or]; exact valV_any k r
theorem RelO.isSome_eq {o : Option V} {u : Option Value} (r : RelO o u) : o.isSome = u.isSome := by
  cases o with
  | none => cases u with
    | none => rfl
    | some _ => exact (show False from r).elim
  | some _ => cases u with
    | none => exact (show False from r).elim
    | some _ => rfl
theorem RelO.getD {o : Option V} {u : Option Value} {d : V} {d' : Value} (r : RelO o u) (rd : RelV d d') : RelV (o.getD d) (u.getD d') := by
  cases o with
  | none => cases u with
    | none => exact rd
    | some _ => exact (show False from r).elim
  | some _ => cases u with
    | none => exact (show False from r).elim
    | some _ => exact r

theorem KV.val {kvs : List (κ × V)} {vs : List (κ × Value)} (r : KV kvs vs) (k : κ) : RelO (valV kvs k) (valueAt vs k) := by
  unfold KV at r
  induction r with
  | nil => exact True.intro
  | @cons p q ps qs h t ih =>
    obtain ⟨h1, h2⟩ := h
    by_cases e : p.1 = k
    · have e' : q.1 = k := h1.symm.trans e
      have b : valueAt (q :: qs) k = some q.2 := by simp [valueAt, List.find?_cons, e']
      rw [valV_pos e, b]; exact h2
    · have e' : ¬ q.1 = k := fun z => e (h1.trans z)
      have b : valueAt (q :: qs) k = valueAt qs k := by simp [valueAt, List.find?_cons, e']
      rw [valV_neg e, b]; exact ih
theorem KV.any {kvs : List (κ × V)} {vs : List (κ × Value)} (r : KV kvs vs) (k : κ) : (kvs.any fun kv => decide (kv.1 = k)) = vs.any fun kv => decide (kv.1 = k) := by
  unfold KV at r
  induction r with
  | nil => rfl
  | cons h t ih => rw [List.any_cons, List.any_cons, ih, h.1]
theorem KV.repl {kvs : List (κ × V)} {vs : List (κ × Value)} (r : KV kvs vs) (k : κ) {y : V} {u : Value} (ry : RelV y u) :
    KV (kvs.map fun kv => if kv.1 = k then (kv.1, y) else kv) (vs.map fun kv => if kv.1 = k then (kv.1, u) else kv) := by
  unfold KV at r ⊢
  induction r with
  | nil => exact .nil
  | @cons p q ps qs h t ih =>
    rw [List.map_cons, List.map_cons]
    refine .cons ?_ ih
    obtain ⟨h1, h2⟩ := h
    by_cases e : p.1 = k
    · rw [if_pos e, if_pos (h1.symm.trans e)]; exact ⟨h1, ry⟩
    · rw [if_neg e, if_neg (fun z => e (h1.trans z))]; exact ⟨h1, h2⟩
theorem KV.put {kvs : List (κ × V)} {vs : List (κ × Value)} (r : KV kvs vs) (k : κ) {y : V} {u : Value} (ry : RelV y u) : KV (putK kvs k y) (stored vs k u) := by
  unfold putK stored
  rw [r.any k]
  by_cases e : (vs.any fun kv => decide (kv.1 = k)) = true
  · rw [if_pos e, if_pos e]; exact r.repl k ry
  · rw [if_neg e, if_neg e]; exact Paired.snoc r ⟨rfl, ry⟩
theorem KV.drop {kvs : List (κ × V)} {vs : List (κ × Value)} (r : KV kvs vs) (k : κ) : KV (dropK kvs k) (without vs k) := by
  unfold KV at r ⊢
  unfold dropK without
  induction r with
  | nil => exact .nil
  | @cons p q ps qs h t ih =>
    obtain ⟨h1, h2⟩ := h
    rw [List.filter_cons, List.filter_cons]
    by_cases e : p.1 = k
    · have a : ¬ decide (p.1 ≠ k) = true := by simp [e]
      have b : ¬ decide (q.1 ≠ k) = true := by simp [h1.symm.trans e]
      rw [if_neg a, if_neg b]; exact ih
    · have e' : ¬ q.1 = k := fun z => e (h1.trans z)
      have a : decide (p.1 ≠ k) = true := by simp [e]
      have b : decide (q.1 ≠ k) = true := by simp [e']
      rw [if_pos a, if_pos b]; exact .cons ⟨h1, h2⟩ ih
theorem KV.keys {kvs : List (κ × V)} {vs : List (κ × Value)} (r : KV kvs vs) : kvs.map (·.1) = vs.map (·.1) := by
  unfold KV at r
  induction r with
  | nil => rfl
  | cons h t ih => rw [List.map_cons, List.map_cons, ih, h.1]
theorem KV.length {kvs : List (κ × V)} {vs : List (κ × Value)} (r : KV kvs vs) : kvs.length = vs.length := Paired.length r
end


theorem kV_is {P : Program} {w : World} {k : Key} {u : Value} (r : RelV (kV k) u) : (mixKind P w).is k u = true := by
  cases k with
  | inl i => obtain ⟨t, e⟩ := (show ∃ t, u = Value.int i t from r); subst e; exact mixKind_int P w i t
  | inr x => obtain ⟨t, e⟩ := (show ∃ t, u = Value.str x t from r); subst e; exact mixKind_str P w x t
theorem items_are {P : Program} {w : World} : ∀ {ks : List Key} {us : List Value}, Vals (ks.map kV) us → ItemsAre (mixKind P w) ks us
  | [], _, r => by rw [List.map_nil] at r; cases r; exact .nil
  | k :: ks, _, r => by
    rw [List.map_cons] at r
    cases r with
    | cons h t => exact .cons (kV_is h) (items_are t)

abbrev KT (H : Hp) : List (List Key × V) → List (List Key × Addr × Value) → Prop := Paired fun p q => p.1 = q.1 ∧ H q.2.1 = some (.tup (p.1.map kV)) ∧ RelV p.2 q.2.2
theorem KT.val {H : Hp} {kvs : List (List Key × V)} {xs : List (List Key × Addr × Value)} (r : KT H kvs xs) (k : List Key) : RelO (valV kvs k) ((atKey xs k).map (·.2)) := by
  induction r with
  | nil => exact True.intro
  | @cons p q ps qs h t ih =>
    obtain ⟨h1, _, h2⟩ := h
    by_cases e : p.1 = k
    · have e' : q.1 = k := h1.symm.trans e
      have b : atKey (q :: qs) k = some q.2 := by simp [atKey, List.find?_cons, e']
      rw [valV_pos e, b]; exact h2
    · have e' : ¬ q.1 = k := fun z => e (h1.trans z)
      have b : atKey (q :: qs) k = atKey qs k := by simp [atKey, List.find?_cons, e']
      rw [valV_neg e, b]; exact ih
theorem KT.repl {H : Hp} {kvs : List (List Key × V)} {xs : List (List Key × Addr × Value)} (r : KT H kvs xs) (k : List Key) {y : V} {u : Value} (ry : RelV y u) :
    KT H (kvs.map fun kv => if kv.1 = k then (kv.1, y) else kv) (xs.map (putAt k u)) := by
  induction r with
  | nil => exact .nil
  | @cons p q ps qs h t ih =>
    rw [List.map_cons, List.map_cons]
    refine .cons ?_ ih
    obtain ⟨h1, h2, h3⟩ := h
    unfold putAt
    by_cases e : p.1 = k
    · rw [if_pos e, if_pos (h1.symm.trans e)]; exact ⟨h1, h2, ry⟩
    · rw [if_neg e, if_neg (fun z => e (h1.trans z))]; exact ⟨h1, h2, h3⟩
theorem KT.put {H : Hp} {kvs : List (List Key × V)} {xs : List (List Key × Addr × Value)} (r : KT H kvs xs) (k : List Key) {b : Addr} {y : V} {u : Value} (hb : H b = some (.tup (k.map kV))) (ry : RelV y u) :
    KT H (putK kvs k y) (storedH xs k b u) := by
  have e : (kvs.any fun kv => decide (kv.1 = k)) = (atKey xs k).isSome := by
    rw [valV_any, (r.val k).isSome_eq, Option.isSome_map]
  unfold putK storedH
  rw [e]
  by_cases q : (atKey xs k).isSome = true
  · rw [if_pos q, if_pos q]; exact r.repl k ry
  · rw [if_neg q, if_neg q]; exact Paired.snoc r ⟨rfl, hb, ry⟩
theorem KT.keeps {H H' : Hp} {kvs : List (List Key × V)} {xs : List (List Key × Addr × Value)} (r : KT H kvs xs) (ht : ∀ b ys, H b = some (.tup ys) → H' b = some (.tup ys)) : KT H' kvs xs :=
  Paired.mapP r fun _ _ z => ⟨z.1, ht _ _ z.2.1, z.2.2⟩

section
variable {P : Program} {w : World} {H : Hp} {h : Heap} {a : Addr}
theorem rd_of {u : HO} (ok : HOk P w H h) (e : Rd H a u) : ObjOk P w H h a u := e.ok ok
theorem dk_rd {kvs : List (Key × V)} (ok : HOk P w H h) (e : Rd H a (.dK kvs)) : kvs.length ≤ sizeLine ∧ (a == sysModules) = false ∧ ∃ vs, KV kvs vs ∧ h.DictOf (mixKind P w) a vs :=
  show ObjOk P w H h a (.dK kvs) from rd_of ok e
theorem dk_of {kvs : List (Key × V)} (ok : HOk P w H h) (e : H a = some (.dK kvs)) : kvs.length ≤ sizeLine ∧ (a == sysModules) = false ∧ ∃ vs, KV kvs vs ∧ h.DictOf (mixKind P w) a vs := dk_rd ok (.inl e)
theorem key_of {ks : List Key} (ok : HOk P w H h) (e : H a = some (.tup (ks.map kV))) : (tupleKind (mixKind P w)).is h ks a := by
  obtain ⟨_, its, r, o, h1, h2, n, h3⟩ := (show ObjOk P w H h a (.tup (ks.map kV)) from ok a _ e)
  exact ⟨o, its.toArray, n, h1, h2, h3, by simpa using items_are r⟩
theorem dt_rd {kvs : List (List Key × V)} (ok : HOk P w H h) (e : Rd H a (.dT kvs)) : kvs.length ≤ sizeLine ∧ (a == sysModules) = false ∧
    ∃ xs, KT H kvs xs ∧ h.DictOfH (tupleKind (mixKind P w)) a xs := by
  obtain ⟨z, y, xs, r, o, es, ep, h1, h2, h3, h4, h5⟩ := (show ObjOk P w H h a (.dT kvs) from rd_of ok e)
  refine ⟨z, y, xs, r, o, es, ep, h1, h2, h3, h4, fun x hx => ?_, h5⟩
  have all : ∀ {l : List (List Key × V)} {m : List (List Key × Addr × Value)}, KT H l m → ∀ x ∈ m, (tupleKind (mixKind P w)).is h x.1 x.2.1 := by
    intro l m q
    induction q with
    | nil => intro x hx; exact nomatch hx
    | @cons p q ps qs hq t ih =>
      intro x hx
      rcases List.mem_cons.mp hx with e | hx
      · subst e
        exact key_of ok (by rw [← hq.1]; exact hq.2.1)
      · exact ih x hx
  exact all r x hx
end

def DGet (H : Hp) (a : Addr) (y : V) (r : Option V) : Prop :=
  (∃ kvs k, Rd H a (.dK kvs) ∧ y = kV k ∧ r = valV kvs k) ∨ ∃ kvs k b, Rd H a (.dT kvs) ∧ y = .ref b ∧ H b = some (.tup (k.map kV)) ∧ r = valV kvs k
def DPut (H : Hp) (a : Addr) (y v : V) (H' : Hp) : Prop :=
  (∃ kvs k, H a = some (.dK kvs) ∧ y = kV k ∧ kvs.length < sizeLine ∧ H' = upd H a (.dK (putK kvs k v))) ∨
  ∃ kvs k b, H a = some (.dT kvs) ∧ y = .ref b ∧ H b = some (.tup (k.map kV)) ∧ kvs.length < sizeLine ∧ H' = upd H a (.dT (putK kvs k v))
theorem DGet.k {H : Hp} {a : Addr} {kvs : List (Key × V)} {k : Key} (e : H a = some (.dK kvs)) : DGet H a (kV k) (valV kvs k) := .inl ⟨kvs, k, .inl e, rfl, rfl⟩
theorem DGet.t {H : Hp} {a b : Addr} {kvs : List (List Key × V)} {k : List Key} (e : H a = some (.dT kvs)) (eb : H b = some (.tup (k.map kV))) : DGet H a (.ref b) (valV kvs k) := .inr ⟨kvs, k, b, .inl e, rfl, eb, rfl⟩
theorem DPut.k {H : Hp} {a : Addr} {kvs : List (Key × V)} {k : Key} {v : V} (e : H a = some (.dK kvs)) (hl : kvs.length < sizeLine) : DPut H a (kV k) v (upd H a (.dK (putK kvs k v))) := .inl ⟨kvs, k, e, rfl, hl, rfl⟩
theorem DPut.t {H : Hp} {a b : Addr} {kvs : List (List Key × V)} {k : List Key} {v : V} (e : H a = some (.dT kvs)) (eb : H b = some (.tup (k.map kV))) (hl : kvs.length < sizeLine) :
    DPut H a (.ref b) v (upd H a (.dT (putK kvs k v))) := .inr ⟨kvs, k, b, e, rfl, eb, hl, rfl⟩


section
variable {X : Cx} {pins : List (Addr × Obj)} {σ : St} {H : Hp} {s : Shared} {a : Addr} {y v : V} {u r : Value} {o : Option V} {A : Around} {E : Value → Shared → Prop}

theorem Inv.big (I : Inv X pins σ H s) : sysModules < s.heap.objs.size := by
  have h : mainGlobals < s.heap.objs.size := (I.mod.glob.keeps I.bk).lt
  exact Nat.lt_trans (by decide) h

theorem d_getItem {Q : Value → Shared → Prop} (hu : A.units + 1 < cLine) (I : Inv X pins σ H s) (g : DGet H a y (some v)) (ry : RelV y u) (h : ∀ w' s', Inv X pins σ H s' → RelV v w' → Q w' s') :
    wpAny (model X.prog X.w) A (getItem (.ref a) u) Q E s := by
  rcases g with ⟨kvs, k, e, ey, l⟩ | ⟨kvs, k, b, e, ey, eb, l⟩
  · subst ey
    obtain ⟨z, hd, vs, rel, dd⟩ := dk_rd I.hok e
    obtain ⟨w', hw, rw'⟩ := RelO.some_of (v := v) (o := valueAt vs k) (by rw [l]; exact rel.val k)
    exact wpAny_getItem_of (kV_is ry) dd.mapOf hw (h w' _ (I.tok _) rw')
  · subst ey
    cases (show u = Value.ref b from ry)
    obtain ⟨z, hd, xs, rel, dd⟩ := dt_rd I.hok e
    obtain ⟨w', hw, rw'⟩ := RelO.some_of (v := v) (o := (atKey xs k).map (·.2)) (by rw [l]; exact rel.val k)
    obtain ⟨p, hp, hp2⟩ := Option.map_eq_some_iff.mp hw
    refine wpAny_getItem_heap (tupleKind_room_in1 hu) (key_of I.hok eb) dd hp ?_
    rw [hp2]
    exact h w' _ (I.tok _) rw'
theorem d_in {Q : Value → Shared → Prop} (hu : A.units + 1 < cLine) (I : Inv X pins σ H s) (g : DGet H a y o) (ry : RelV y u) (h : ∀ s', Inv X pins σ H s' → Q (.bool o.isSome) s') :
    wpAny (model X.prog X.w) A (compareOp .In u (.ref a)) Q E s := by
  rcases g with ⟨kvs, k, e, ey, l⟩ | ⟨kvs, k, b, e, ey, eb, l⟩
  · subst ey
    obtain ⟨z, hd, vs, rel, dd⟩ := dk_rd I.hok e
    refine wpAny_in_of (kV_is ry) hd dd.mapOf ?_
    rw [← (rel.val k).isSome_eq, ← l]
    exact h _ (I.tok _)
  · subst ey
    cases (show u = Value.ref b from ry)
    obtain ⟨z, hd, xs, rel, dd⟩ := dt_rd I.hok e
    refine wpAny_in_heap (tupleKind_room_in1 hu) (key_of I.hok eb) hd dd ?_
    have q := (rel.val k).isSome_eq
    rw [Option.isSome_map] at q
    rw [← q, ← l]
    exact h _ (I.tok _)
theorem d_notIn {Q : Value → Shared → Prop} (hu : A.units + 1 < cLine) (I : Inv X pins σ H s) (g : DGet H a y o) (ry : RelV y u) (h : ∀ s', Inv X pins σ H s' → Q (.bool (!o.isSome)) s') :
    wpAny (model X.prog X.w) A (compareOp .NotIn u (.ref a)) Q E s := by
  rcases g with ⟨kvs, k, e, ey, l⟩ | ⟨kvs, k, b, e, ey, eb, l⟩
  · subst ey
    obtain ⟨z, hd, vs, rel, dd⟩ := dk_rd I.hok e
    refine wpAny_notIn_of (kV_is ry) hd dd.mapOf ?_
    rw [← (rel.val k).isSome_eq, ← l]
    exact h _ (I.tok _)
  · subst ey
    cases (show u = Value.ref b from ry)
    obtain ⟨z, hd, xs, rel, dd⟩ := dt_rd I.hok e
    refine wpAny_notIn_heap (tupleKind_room_in1 hu) (key_of I.hok eb) hd dd ?_
    have q := (rel.val k).isSome_eq
    rw [Option.isSome_map] at q
    rw [← q, ← l]
    exact h _ (I.tok _)
end

section
variable {X : Cx} {pins : List (Addr × Obj)} {σ : St} {H : Hp} {s : Shared} {a : Addr} {kvs : List (Key × V)} {k : Key} {u : Value} {A : Around} {E : Value → Shared → Prop}
end


section
variable {X : Cx} {o i e value : Expr} {pos pos' tpos : Pos} {td ty tv : TE}
end


section
variable {X : Cx} {pos : Pos}
end

structure M1 (X : Cx) (o : Expr) (m : Str) (apos : Pos) (e : Expr) (cpos : Pos) : Prop where
  base : attributeBase o m X.env (eval o X.env) = eval o X.env
  few : ((backTo cpos (starEach [e] X.env)).all (fun x => !x.1) && (backToKw cpos (keywordEach [] X.env)).all (fun x => x.1.isSome)
    && decide (([e] : List Expr).length + ([] : List Keyword).length + (if ([] : List Keyword).isEmpty then 0 else 1) < 30)) = true
  line : (apos.endLine == cpos.line) = true
  trees : backTo cpos (starEach [e] X.env) = [(false, eval e X.env)]
structure M2 (X : Cx) (o : Expr) (m : Str) (apos : Pos) (e f : Expr) (cpos : Pos) : Prop where
  base : attributeBase o m X.env (eval o X.env) = eval o X.env
  few : ((backTo cpos (starEach [e, f] X.env)).all (fun x => !x.1) && (backToKw cpos (keywordEach [] X.env)).all (fun x => x.1.isSome)
    && decide (([e, f] : List Expr).length + ([] : List Keyword).length + (if ([] : List Keyword).isEmpty then 0 else 1) < 30)) = true
  line : (apos.endLine == cpos.line) = true
  trees : backTo cpos (starEach [e, f] X.env) = [(false, eval e X.env), (false, eval f X.env)]

def IsD (H : Hp) (a : Addr) : Prop := (∃ kvs, Rd H a (.dK kvs)) ∨ ∃ kvs, Rd H a (.dT kvs)
section
variable {X : Cx} {pins : List (Addr × Obj)} {σ : St} {H : Hp} {s : Shared} {a : Addr} {y d : V} {u r : Value} {o : Option V} {A : Around} {E : Value → Shared → Prop}
end

section
variable {X : Cx} {o e f : Expr} {apos cpos : Pos} {td ty tx : TE}
end

section
variable {X : Cx} {pins : List (Addr × Obj)} {σ : St} {H : Hp} {s : Shared} {a : Addr} {kvs : List (Key × V)} {A : Around} {E : Value → Shared → Prop}
end


section
variable {X : Cx} {pins : List (Addr × Obj)} {σ : St} {H : Hp} {s : Shared} {a : Addr} {y : V} {u : Value} {A : Around} {E : Value → Shared → Prop}
end
end L2

namespace Att
open PySem PySem.W PySem.Calls PyProof.Rows

theorem ints_of_wellAll {P : Params} {h : Heap} : ∀ (ns : List Int) (vs : List Value), WellAll P h vs (ns.map WData.int) → IntsAre vs ns := by
  intro ns
  induction ns with
  | nil =>
    intro vs w
    rw [List.map_nil] at w
    cases w
    exact .nil
  | cons n ns ih =>
    intro vs w
    rw [List.map_cons] at w
    cases w with
    | cons a b =>
      cases a
      exact .cons _ _ (ih _ b)

theorem script_of {l : OpenLaw} {n : Nat} (hn : l.most = some n) {P : Params} {h : Heap} {args : List WData} {vals : List Value}
    (hpre : l.row.toRowW.claim.pre args = true) (hwl : WellAll P h vals args) :
    ∃ a vs ns, vals = [Value.ref a] ∧ args = [WData.list (ns.map WData.int)] ∧ h.get? a = some { cls := .type "list", data := .seq vs.toArray } ∧ IntsAre vs ns ∧ ns.length ≤ n := by
  have hsh : WShape.hasAll [] args [.list .int] = true := (pre_splitW hpre).1
  have hc : l.pre.holds [] { args := args } = true := (pre_splitW hpre).2
  obtain ⟨d, r, rfl, h1, h2⟩ := hasAllW_cons hsh
  obtain rfl := hasAllW_nil h2
  obtain ⟨xs, rfl, h3⟩ := hasW_list h1
  obtain ⟨ns, rfl⟩ := items_int h3
  have hlen : ns.length ≤ n := by
    unfold OpenLaw.pre at hc
    have h4 : (WTm.not (.lt (.lit (.int (n : Int))) (.len (.arg 0)))).holds [] { args := [.list (ns.map .int)] } = true := by
      have h4 := (holds_andW hc).1
      rw [hn] at h4
      exact h4
    have h5 := condW_of h4 (w_not (w_lt w_lit (w_len_list (w_arg rfl))))
    rw [List.length_map] at h5
    refine Nat.le_of_not_lt fun q => ?_
    have q' : (n : Int) < ((ns.length : Nat) : Int) := by omega
    first
      | (rw [decide_eq_true q'] at h5; exact absurd h5 (by decide))
      | (simp at h5; omega)
  cases hwl with
  | cons w1 w2 =>
    cases w2
    cases w1 with
    | list ho hall => exact ⟨_, _, ns, rfl, rfl, ho, ints_of_wellAll ns _ hall, hlen⟩

theorem post_true (l : OpenLaw) (args : List WData) : l.row.toRowW.claim.post args (.bool true) args = true :=
  postW_of (r := l.row.toRowW) (X := (true == true))
    (show WShape.has [] (.bool true) .bool = true by first | rfl | decide | simp [WShape.has, WShape.arms, WShape.armsAll])
    (show (WTm.eq .res (.lit (.bool true))).value [] { args := args, res := some (.bool true), after := args } = some (.bool (true == true)) from w_eq_bool (w_res rfl) w_lit) rfl

theorem attach_call {l : OpenLaw} {n : Nat} {q : Program} {loose : List Str} {XP : (Str → Option Value) → Heap → Prop} {YP : World → Heap → Prop} {d : DefRec}
    (hn : l.most = some n) (hdf : d.params.defaults = [])
    (call : ∀ (w : World) (s₀ s₁ : Shared) (mg mb : Str → Option Value) (fa : Addr) (o : Obj) (pm cd doc : Value) (a : Addr) (vs : List Value) (ns : List Int),
      Ground q loose [] XP w s₀ mg mb s₁.heap → YP w s₁.heap →
      s₁.heap.get? fa = some o → o.data = .func (docDef d.name d.params d.body d.scope pm cd doc) → s₁.heap.CodeRec cd d.name → mg d.name = some (.ref fa) →
      s₁.heap.get? a = some { cls := .type "list", data := .seq vs.toArray } → IntsAre vs ns → ns.length ≤ n → s₁.gens = #[] →
      codeAny (model l.prog w) callerA (.call (.ref fa) ⟨[.ref a], []⟩) (fun r s' => r = .ok (.ret (.bool true)) ∧ OldK s₁.heap s'.heap ∧ s'.os = s₁.os ∧ AllBare s'.gens) s₁) :
    WalkO q loose XP YP l.row.toRowW d [] (fun f vs => PySem.call f vs) := by
  intro w s₀ s₁ mg mb G Y fa o pm cd doc dV kV ho hd hcd hD hmg hg args vals as hpre hlay hrd hwl hlo
  obtain rfl : dV = .none := Dflts.none hD hdf
  obtain rfl : kV = .none := Dflts.noKw hD
  obtain ⟨a, vs, ns, rfl, rfl, hobj, hints, hlen⟩ := script_of hn hpre hwl
  refine enter_call (codeAny_mono (call w s₀ s₁ mg mb fa o pm cd doc a vs ns G Y ho (fd_plain hd) hcd hmg hobj hints hlen hg) fun r s' hq => ?_)
  obtain ⟨rfl, h2, h3, h4⟩ := hq
  exact ⟨.inl ⟨.bool true, .bool true, [], rfl, fun _ => rfl, .bool true, post_true l _, fun _ => ⟨List.Pairwise.nil, fun _ hm => (nomatch hm)⟩⟩, h2, h3, h4⟩

section
variable {prog : Program} {w : World} {A : Around} {E : Value → Shared → Prop} {s : Shared} {K : Frag}

end
end Att

namespace L2
open PySem PySem.Spec PyProof.Rows

theorem vals_ints : ∀ {vs : List Value} {ns : List Int}, IntsAre vs ns → Vals (ns.map V.int) vs
  | _, _, .nil => .nil
  | _, _, .cons n t h => .cons ⟨t, rfl⟩ (vals_ints h)

def Only (H : Hp) : Prop := ∀ b, H b = none ∨ ∃ o xs, H b = some (.frz o (.lst xs))

theorem law_call {P : Program} {w : World} {K : PySem.W.Frag} {mg mb : Str → Option Value} {CX : CXT} {k : Nat} {fa a : Addr} {fd : FuncData} {x : Str} {sp : Sp} {s₁ : Shared} {vs : List Value} {ns : List Int}
    (KX : K.In s₁.heap) (hns : s₁.heap.Ns mainGlobals mg) (hb : s₁.heap.Ns builtinsNs mb) (hbb : ∀ x : Str, x ≠ "__name__" → mb x = bootBuiltins x) (hlim : s₁.heap.NoLimit) (hg : s₁.gens = #[])
    (ha : s₁.heap.get? a = some { cls := .type "list", data := .seq vs.toArray }) (hi : IntsAre vs ns) (hl : ns.length ≤ sizeLine) (hr : Room k callerA)
    (F : ∀ base : Heap, K.In base → base.Ns mainGlobals mg → FnOk P w K mg base CX k fa fd [x] sp) (hbind : ∀ (s : Shared) (u : Value), BindsTo s fd ⟨[u], []⟩ [(x, u)])
    (hsp : ∀ H : Hp, Only H → SqL K H a (ns.map V.int) → sp [.ref a] H (fun v _ => v = .bl true) fun _ _ _ => False)
    (hCX : ∀ H e s', CX [] H s₁ (fun _ _ _ => False) e s' → False) :
    codeAny (model P w) callerA (.call (.ref fa) ⟨[.ref a], []⟩) (fun r s' => r = .ok (.ret (.bool true)) ∧ OldK s₁.heap s'.heap ∧ s'.os = s₁.os ∧ AllBare s'.gens) s₁ := by
  have rv := vals_ints hi
  have lenV := hi.length
  have core : ∀ H : Hp, Only H → SqL K H a (ns.map V.int) → HOk P w H s₁.heap → (∀ b, H b ≠ none → b = a) → (H a ≠ none → K.lookup a = none) →
      codeAny (model P w) callerA (.call (.ref fa) ⟨[.ref a], []⟩) (fun r s' => r = .ok (.ret (.bool true)) ∧ OldK s₁.heap s'.heap ∧ s'.os = s₁.os ∧ AllBare s'.gens) s₁ := by
    intro H hO hS hok hA hK
    have base_of : ∀ {b : Addr} {o : Obj}, s₁.heap.get? b = some o → H b = none → (hidT s₁.heap H).get? b = some o := fun e n => hidT_get e n
    have noA : ∀ {b : Addr} {o : Obj} {es : Array DictEntry} {ep : Nat}, s₁.heap.get? b = some o → o.data = .dict es ep → H b = none := fun {b o es ep} e d => by
      cases q : H b with
      | none => rfl
      | some u =>
        have e' : b = a := hA b (by rw [q]; simp)
        subst e'
        rw [ha] at e; cases e
        have d' : Data.seq vs.toArray _ = Data.dict es ep := d
        cases d'
    have nsK : ∀ {b : Addr} {m : Str → Option Value}, s₁.heap.Ns b m → (hidT s₁.heap H).Ns b m := fun {b m} ⟨o, es, ep, e, d, r⟩ => ⟨o, es, ep, base_of e (noA e d), d, r⟩
    have hKb : K.In (hidT s₁.heap H) := fun b o e => base_of (KX b o e) (by
      cases q : H b with
      | none => rfl
      | some u =>
        have e' : b = a := hA b (by rw [q]; simp)
        subst e'
        rw [hK (by rw [q]; simp)] at e; cases e)
    have hM : Mod K mg (hidT s₁.heap H) := ⟨hKb, nsK hns, ⟨mb, nsK hb, hbb⟩, let ⟨mc, h1, h2⟩ := hlim; ⟨mc, nsK h1, h2⟩⟩
    have e0 : Env0 P w K mg (hidT s₁.heap H) callerA [] s₁ H := ⟨rfl, hM, fun b o e => of_hidT e, Nat.le_of_eq (hidT_size _ _), trivial, fun b hb => absurd (show b ∈ ([] : List Addr) from hb) (by simp), hok, .of_eq hg⟩
    refine codeAny_mono ((F _ hKb (nsK hns)).run callerA [] s₁ H ⟨[.ref a], []⟩ [.ref a] [.ref a] _ _ hr e0 (hbind s₁ (.ref a)) (.cons rfl .nil) (hsp H hO hS)) fun r s' h => ?_
    cases r with
    | error e => exact (hCX H e s' h).elim
    | ok fl =>
      cases fl with
      | next => exact False.elim h
      | brk => exact False.elim h
      | cont => exact False.elim h
      | ret u =>
        obtain ⟨v, H', os, bare, un, hok', r', q⟩ := h
        have q' : v = .bl true := q
        subst q'
        obtain rfl : u = Value.bool true := r'
        refine ⟨rfl, OldK.of_keep fun b o e => ?_, os, bare⟩
        cases q : H b with
        | none => exact un.keep b o e q (by intro z; exact absurd (show b ∈ ([] : List Addr) from z) (by simp)) (by simp)
        | some u =>
          rcases hO b with z | ⟨ob, xs, z⟩
          · rw [q] at z; cases z
          · have z2 := un.frzs b ob _ z
            obtain ⟨e1, _⟩ := hok b _ z
            obtain ⟨e2, _⟩ := hok' b _ z2
            rw [e] at e1; cases e1
            exact e2
  cases hk : K.lookup a with
  | some o =>
    have e := KX a o hk
    rw [ha] at e
    cases e
    refine core (fun _ => none) (fun _ => .inl rfl) (.inr ⟨_, vs.toArray, _, hk, rfl, rfl, rfl, by rw [List.size_toArray, lenV]; exact hl, by simpa using rv⟩) (fun b u z => by have z' : (none : Option HO) = some u := z; cases z') (fun b z => absurd rfl z) fun z => absurd rfl z
  | none =>
    refine core (fun b => if b = a then some (.frz { cls := .type "list", data := .seq vs.toArray } (.lst (ns.map V.int))) else none) (fun b => ?_) (.inl (.inr ⟨{ cls := .type "list", data := .seq vs.toArray }, if_pos rfl⟩)) (fun b u z => ?_) (fun b z => ?_) fun _ => hk
    · by_cases hb : b = a
      · exact .inr ⟨_, _, if_pos hb⟩
      · exact .inl (if_neg hb)
    · by_cases hb : b = a
      · have z' := (if_pos hb).symm.trans z
        cases z'
        subst hb
        exact ⟨ha, by rw [List.length_map]; exact hl, vs, _, rv, ha⟩
      · have z' := (if_neg hb).symm.trans z
        cases z'
    · by_cases hb : b = a
      · exact hb
      · exact absurd (if_neg hb) z
end L2

namespace L2
open PySem PySem.Spec PyProof.Rows

abbrev KOf {K : PySem.W.Frag} {h : Heap} (_ : K.In h) : PySem.W.Frag := K

theorem walk_of {l : PySem.W.OpenLaw} {n k : Nat} {q : Program} {loose : List Str} {XP : (Str → Option Value) → Heap → Prop} {YP : World → Heap → Prop} {d : DefRec} {K : Params → PySem.W.Frag} {CX : World → CXT} {sp : World → Sp} {x : Str}
    (hn : l.most = some n) (hn2 : n ≤ sizeLine) (hdf : d.params.defaults = []) (hr : Room k callerA)
    (hY : ∀ (w : World) (h : Heap), YP w h → (K w.params).In h)
    (F : ∀ (w : World) (mg : Str → Option Value) (fa : Addr) (h : Heap), (K w.params).In h → h.Ns mainGlobals mg → mg d.name = some (.ref fa) →
      ∃ fd : FuncData, (∀ (s : Shared) (u : Value), BindsTo s fd ⟨[u], []⟩ [(x, u)]) ∧
        ∀ base : Heap, (K w.params).In base → base.Ns mainGlobals mg → FnOk l.prog w (K w.params) mg base (CX w) k fa fd [x] (sp w))
    (hsp : ∀ (w : World) (H : Hp) (a : Addr) (ns : List Int), ns.length ≤ n → Only H → SqL (K w.params) H a (ns.map V.int) → sp w [.ref a] H (fun v _ => v = .bl true) fun _ _ _ => False)
    (hCX : ∀ (w : World) (H : Hp) (s : Shared) (e : Value) (s' : Shared), CX w [] H s (fun _ _ _ => False) e s' → False) :
    PySem.W.WalkO q loose XP YP l.row.toRowW d [] (fun f vs => PySem.call f vs) := by
  refine Att.attach_call hn hdf fun w s₀ s₁ mg mb fa o pm cd doc a vs ns G Y ho hd hcd hmg hobj hints hlen hg => ?_
  have KX := hY w _ Y
  obtain ⟨fd, hb, hF⟩ := F w mg fa _ KX G.T.g hmg
  exact law_call KX G.T.g G.T.b G.T.builtins G.T.nolimit hg hobj hints (Nat.le_trans hlen hn2) hr hF hb (fun H hO hS => hsp w H a ns hlen hO hS) fun H e s' => hCX w H s₁ e s'
theorem walk_ofK {l : PySem.W.OpenLaw} {n k : Nat} {q : Program} {loose : List Str} {XP : (Str → Option Value) → Heap → Prop} {YP : World → Heap → Prop} {d : DefRec} {K : Params → PySem.W.Frag} {CX : CXT} {sp : PySem.W.Frag → Sp} {x : Str}
    (hn : l.most = some n) (hn2 : n ≤ sizeLine) (hdf : d.params.defaults = []) (hr : Room k callerA)
    (hY : ∀ (w : World) (h : Heap), YP w h → (K w.params).In h)
    (F : ∀ (w : World) (mg : Str → Option Value) (fa : Addr) (h : Heap), (K w.params).In h → h.Ns mainGlobals mg → mg d.name = some (.ref fa) →
      ∃ fd : FuncData, (∀ (s : Shared) (u : Value), BindsTo s fd ⟨[u], []⟩ [(x, u)]) ∧
        ∀ base : Heap, (K w.params).In base → base.Ns mainGlobals mg → FnOk l.prog w (K w.params) mg base CX k fa fd [x] (sp (K w.params)))
    (hsp : ∀ (K : PySem.W.Frag) (H : Hp) (a : Addr) (ns : List Int), ns.length ≤ n → Only H → SqL K H a (ns.map V.int) → sp K [.ref a] H (fun v _ => v = .bl true) fun _ _ _ => False)
    (hCX : ∀ (H : Hp) (s : Shared) (e : Value) (s' : Shared), CX [] H s (fun _ _ _ => False) e s' → False) :
    PySem.W.WalkO q loose XP YP l.row.toRowW d [] (fun f vs => PySem.call f vs) :=
  walk_of (K := K) (CX := fun _ => CX) (sp := fun w => sp (K w.params)) hn hn2 hdf hr hY F (fun w H a ns h1 h2 h3 => hsp (K w.params) H a ns h1 h2 h3) fun _ H s e s' => hCX H s e s'
end L2


namespace L2
open PySem PySem.Spec PyProof.Rows

def defArgs (s : Stmt) : Arguments := match s with
  | .FunctionDef _ a _ _ _ _ _ _ _ _ => a
  | _ => { posonlyargs := [], args := [], vararg := none, kwonlyargs := [], kw_defaults := [], kwarg := none, defaults := [] }
def defBody (s : Stmt) : List Stmt := match s with
  | .FunctionDef _ _ b _ _ _ _ _ _ _ => b
  | _ => []
def defScope (s : Stmt) : Scope := match s with
  | .FunctionDef _ _ _ _ _ _ sc _ _ _ => sc
  | _ => { kind := .function, names := [], isGenerator := false, isCoroutine := false }

abbrev CX0 : CXT := fun _ _ _ _ _ _ => False
abbrev E0 : XK := fun _ _ _ => False
theorem pass0 {X : Cx} : Passes CX0 X E0 := fun _ _ _ _ _ _ _ h => h.elim

structure Fun (K : PySem.W.Frag) (x qual : Str) (st : Stmt) (f : Addr) (fd : FuncData) : Prop where
  ex : ∃ (oc : Value) (od : Option Addr) (kV doc pm : Value) (an : Option Addr) (cdv ct : Value) (osl : Array (Option Value)),
    fd = PySem.W.fnOf x qual (defArgs st) (defBody st) (defScope st) .none kV doc pm an cdv ct ∧ K.lookup f = some ⟨oc, od, .func fd, osl⟩ ∧ PySem.W.codeIn K cdv qual = true
  kp : PySem.W.keepIn K (.ref f) = true
section
variable {P : Program} {w : World} {K : PySem.W.Frag} {mg : Str → Option Value} {base : Heap}
theorem Fun.ok {x qual : Str} {st : Stmt} {f : Addr} {fd : FuncData} {N ps : List Str} {k : Nat} {sp : Sp} (F : Fun K x qual st f fd) (S : FnScope N ps (defScope st)) (len : ∀ vs H Q E, sp vs H Q E → vs.length = ps.length)
    (hbody : ∀ (cdv : Value) (A : Around) (outer : List Env) (s : Shared) (H : Hp) (vs : List V) (Q : VK) (E : XK), Room k (A.deeper (envOfC qual (defScope st) s.heap.objs.size f cdv)) → sp vs H Q E →
      ∃ t, PSs (cxOf CX0 P w K mg base N qual (defScope st) f cdv A outer s H E).nox (defBody st) t ∧ t { nx := fun _ H' => Q .non H', rt := Q } (start N vs) H) : FnOk P w K mg base CX0 (k + 1) f fd ps sp := by
  obtain ⟨oc, od, kV, doc, pm, an, cdv, ct, osl, rfl, lk, hcd⟩ := F.ex
  refine fn_of lk hcd S len fun A outer s H vs Q E hr hsp => ?_
  obtain ⟨t, h, q⟩ := hbody cdv A outer s H vs Q E hr hsp
  exact ⟨t, h.nox, q⟩
theorem Fun.binds {x qual : Str} {st : Stmt} {f : Addr} {fd : FuncData} {ps : List Str} (F : Fun K x qual st f fd)
    (h : ∀ (kV doc pm : Value) (an : Option Addr) (cdv ct : Value) (us : List Value), us.length = ps.length → bindArgs (PySem.W.fnOf x qual (defArgs st) (defBody st) (defScope st) .none kV doc pm an cdv ct) ⟨us, []⟩ = pure (ps.zip us)) : Binds K fd ps [] := by
  obtain ⟨oc, od, kV, doc, pm, an, cdv, ct, osl, rfl, lk, hcd⟩ := F.ex
  exact .all (h kV doc pm an cdv ct)
theorem fun_mk {x qual : Str} {st : Stmt} {f : Addr} {oc : Value} {od an : Option Addr} {osl : Array (Option Value)} {kV doc pm cdv ct : Value} (l : K.lookup f = some ⟨oc, od, .func (PySem.W.fnOf x qual (defArgs st) (defBody st) (defScope st) .none kV doc pm an cdv ct), osl⟩)
    (c : PySem.W.codeIn K cdv qual = true) (k : PySem.W.keepIn K (.ref f) = true) : Fun K x qual st f (PySem.W.fnOf x qual (defArgs st) (defBody st) (defScope st) .none kV doc pm an cdv ct) := ⟨⟨oc, od, kV, doc, pm, an, cdv, ct, osl, rfl, l, c⟩, k⟩
end
section
variable {X : Cx}
end

theorem ite2 {c A B : Prop} [Decidable c] (h1 : c → A) (h2 : ¬ c → B) : if c then A else B := by
  by_cases h : c
  · rw [if_pos h]
    exact h1 h
  · rw [if_neg h]
    exact h2 h
def Same (H H' : Hp) : Prop := ∀ b o, H b = some o → H' b = some o
theorem Same.refl (H : Hp) : Same H H := fun _ _ h => h
theorem Same.trans {H H1 H2 : Hp} (a : Same H H1) (b : Same H1 H2) : Same H H2 := fun c o h => b c o (a c o h)
theorem Same.free {H H' : Hp} (e : Same H H') {l : Addr} (h : H' l = Option.none) : H l = Option.none := by
  cases q : H l with
  | none => rfl
  | some o =>
    rw [e l o q] at h
    cases h
theorem Same.seq {K : PySem.W.Frag} {H H' : Hp} {a : Addr} {xs : List V} (e : Same H H') (h : SqL K H a xs) : SqL K H' a xs := by
  rcases h with (h | ⟨o, h⟩) | h
  · exact .inl (.inl (e _ _ h))
  · exact .inl (.inr ⟨o, e _ _ h⟩)
  · exact .inr h

section
variable {κ : Type} [DecidableEq κ]
end
end L2

set_option Elab.async false
set_option linter.all false
set_option maxRecDepth 100000
set_option maxHeartbeats 4000000
namespace L2
open PySem PySem.Spec PyProof.Rows

def closOf (env : Env) : List (Str × NameKind) → List (Str × Addr) → List (Str × Addr)
  | [], acc => acc
  | (n, k) :: r, acc => if k == .free then (match env.cells.lookup n with
      | some c => closOf env r ((n, c) :: acc)
      | none => closOf env r acc) else closOf env r acc
theorem closOf_ok {env : Env} : ∀ {names : List (Str × NameKind)} {acc : List (Str × Addr)}, (∀ n c, acc.lookup n = some c → env.cells.lookup n = some c) →
    ∀ n c, (closOf env names acc).lookup n = some c → env.cells.lookup n = some c
  | [], acc, h, n, c, e => h n c e
  | (x, k) :: r, acc, h, n, c, e => by
    unfold closOf at e
    split at e
    · split at e
      · rename_i cx hx
        refine closOf_ok (fun y d q => ?_) n c e
        rw [List.lookup_cons] at q
        cases hb : y == x with
        | true => rw [hb] at q; cases q; rw [beq_iff_eq.mp hb]; exact hx
        | false => rw [hb] at q; exact h y d q
      · exact closOf_ok h n c e
    · exact closOf_ok h n c e
theorem closOf_acc {env : Env} : ∀ {names : List (Str × NameKind)} {acc : List (Str × Addr)} {n : Str}, (acc.lookup n).isSome = true → ((closOf env names acc).lookup n).isSome = true
  | [], _, _, h => h
  | (x, k) :: r, acc, n, h => by
    unfold closOf
    split
    · split
      · refine closOf_acc ?_
        rw [List.lookup_cons]
        cases n == x with
        | true => rfl
        | false => exact h
      · exact closOf_acc h
    · exact closOf_acc h
theorem closOf_has {env : Env} : ∀ {names : List (Str × NameKind)} {acc : List (Str × Addr)} {n : Str} {c : Addr}, (n, NameKind.free) ∈ names → env.cells.lookup n = some c → ((closOf env names acc).lookup n).isSome = true
  | [], _, _, _, h, _ => nomatch h
  | (x, k) :: r, acc, n, c, h, e => by
    rcases List.mem_cons.mp h with q | q
    · cases q
      unfold closOf
      rw [if_pos (by rfl), e]
      refine closOf_acc ?_
      rw [List.lookup_cons, beq_self_eq_true]
      rfl
    · unfold closOf
      split
      · split
        · exact closOf_has q e
        · exact closOf_has q e
      · exact closOf_has q e
theorem closureFor_of {scope : Scope} {env : Env} (h : ∀ y ∈ scope.names, y.2 = .free → ∃ c, env.cells.lookup y.1 = some c) : closureFor scope env = pure (closOf env scope.names []) := by
  simp only [closureFor]
  have go : ∀ (names : List (Str × NameKind)) (acc : List (Str × Addr)), (∀ y ∈ names, y.2 = .free → ∃ c, env.cells.lookup y.1 = some c) →
      (forIn names acc (fun x cs => if (x.2 == NameKind.free) = true then (do let a ← cellOf env x.1; pure (ForInStep.yield ((x.1, a) :: cs))) else pure (ForInStep.yield cs)) : Sem (List (Str × Addr))) = pure (closOf env names acc) := by
    intro names
    induction names with
    | nil => intro acc _; rfl
    | cons p r ih =>
      intro acc hh
      obtain ⟨n, k⟩ := p
      rw [List.forIn_cons]
      unfold closOf
      by_cases hk : (k == NameKind.free) = true
      · obtain ⟨c, hc⟩ := hh (n, k) List.mem_cons_self (by simpa using hk)
        have hc' : env.cells.lookup n = some c := hc
        rw [if_pos hk, if_pos hk, hc']
        have e : cellOf env n = pure c := by unfold cellOf; rw [hc']
        simp only [e, pure_bind]
        exact ih _ fun y hy => hh y (List.mem_cons_of_mem _ hy)
      · rw [if_neg hk, if_neg hk]
        simp only [pure_bind]
        exact ih _ fun y hy => hh y (List.mem_cons_of_mem _ hy)
  have := go scope.names [] h
  simpa using this

theorem lookup_relabel {env : Env} : ∀ {names : List (Str × NameKind)} {x : Str},
    (names.map fun (n, k) => if (k == NameKind.free && env.scope.kind == .function && env.kindOf n == some .cell) then (n, NameKind.cell) else (n, k)).lookup x =
      (names.lookup x).map fun k => if (k == NameKind.free && env.scope.kind == .function && env.kindOf x == some .cell) then NameKind.cell else k
  | [], _ => rfl
  | (n, k) :: r, x => by
    have ih := @lookup_relabel env r x
    rw [List.map_cons]
    show List.lookup x ((if (k == NameKind.free && env.scope.kind == .function && env.kindOf n == some .cell) = true then (n, NameKind.cell) else (n, k)) :: _) = _
    cases hx : x == n with
    | true =>
      have e : x = n := beq_iff_eq.mp hx
      subst e
      by_cases hc : (k == NameKind.free && env.scope.kind == .function && env.kindOf x == some .cell) = true
      · rw [if_pos hc, List.lookup_cons, List.lookup_cons, hx]
        simp only [Option.map_some, hc, if_true]
      · rw [if_neg hc, List.lookup_cons, List.lookup_cons, hx]
        simp only [Option.map_some]
        rw [if_neg hc]
    | false =>
      by_cases hc : (k == NameKind.free && env.scope.kind == .function && env.kindOf n == some .cell) = true
      · rw [if_pos hc, List.lookup_cons, List.lookup_cons, hx]; exact ih
      · rw [if_neg hc, List.lookup_cons, List.lookup_cons, hx]; exact ih

theorem comp_loop {prog : Program} {w : World} {A : Around} {R : Result → Shared → Prop} {s : Shared} {elt target iter : Expr} {ifs : List Expr} {scope : Scope} {pos : Pos} {it acc : Value} {env : Env} (I : Nat → Shared → Prop)
    (turn : ∀ n s, I n s → wpAny (model prog w) A (pyNext it) (fun r s₁ => match r with
      | none => R (.ok .next) s₁
      | some v => wpAny (model prog w) A (letOwnedTupleGo target it v) (fun _ s₁' => wpAny (model prog w) A (assign target env v) (fun _ s₂ =>
          wpAny (model prog w) A (forIn ifs true fun c r => if r = true then do let ok ← isTrue c env (eval c env); pure (ForInStep.yield ok) else pure (ForInStep.yield r)) (fun ok s₃ =>
            if ok = true then wpAny (model prog w) A (eval elt env) (fun x s₄ =>
              wpAny (model prog w) A (call (.builtin "list.append") [acc, x]) (fun _ s₅ => ∃ m, m < n ∧ I m s₅) (notedBy (model prog w) A env fun e s' => R (.error e) s') s₄) (notedBy (model prog w) A env fun e s' => R (.error e) s') s₃
            else ∃ m, m < n ∧ I m s₃) (notedBy (model prog w) A env fun e s' => R (.error e) s') s₂) (notedBy (model prog w) A env fun e s' => R (.error e) s') s₁') (notedBy (model prog w) A env fun e s' => R (.error e) s') s₁) (notedBy (model prog w) A env fun e s' => R (.error e) s') s)
    (n : Nat) (h : I n s) :
    codeAny (model prog w) A (.compLoop (.ListComp elt [⟨target, iter, ifs, 0⟩] scope pos) 0 it acc env) R s := by
  refine codeAny_loop rfl I (fun n s hI => ?_) n h
  show wpAny _ A ((compTurn (.ListComp elt [⟨target, iter, ifs, 0⟩] scope pos) 0 it acc env).onRaise (fun x => do noteFrame x env; theTreesLotGoes x)) _ _ s
  refine wpAny_noted ?_
  rw [compTurn_list]
  refine wpAny_bind (wpAny_standAt (wpAny_bind (wpAny_mono (turn n s hI) (fun r s₁ h₁ => ?_) fun _ _ h' => h')))
  cases r with
  | none => exact wpAny_pure h₁
  | some v =>
    refine wpAny_bind (wpAny_mono h₁ (fun _ s₁' h₁' => ?_) fun _ _ h' => h')
    refine wpAny_bind (wpAny_mono h₁' (fun _ s₂ h₂ => wpAny_bind (wpAny_mono h₂ (fun ok s₃ h₃ => ?_) fun _ _ h' => h')) fun _ _ h' => h')
    cases ok with
    | false => exact wpAny_pure ⟨rfl, h₃⟩
    | true =>
      exact wpAny_bind (wpAny_bind (wpAny_mono h₃ (fun x s₄ h₄ => wpAny_bind (wpAny_mono h₄ (fun _ s₅ h₅ => wpAny_pure (wpAny_pure ⟨rfl, h₅⟩)) fun _ _ h' => h')) fun _ _ h' => h'))

def capt (cap : List (Option Nat)) (σ : St) : St := cap.map fun o => o.bind fun i => (σ[i]?).join

def cxComp (X : Cx) (N : List Str) (scope : Scope) (C : Addr) (s : Shared) (H : Hp) (ex : List Addr) : Cx where
  prog := X.prog
  w := X.w
  K := X.K
  mg := X.mg
  base := X.base
  A := X.A
  N := N
  s₀ := s
  H₀ := H
  env := compEnvC scope (closOf X.env scope.names []) C X.env
  outer := X.stack
  stack := X.stack
  ex := ex
  fn := fun _ => false
  calm := X.calm
  pn := []
  xe := fun _ _ => False

structure CompScope (X : Cx) (N : List Str) (cap : List (Option Nat)) (scope : Scope) : Prop where
  kind : scope.kind = .function
  nocell : ∀ y ∈ scope.names, y.2 ≠ .cell
  loc : ∀ y ∈ scope.names, y.2 = .local → scope.names.lookup y.1 = some .local
  fre : ∀ y ∈ scope.names, y.2 = .free → X.env.scope.names.lookup y.1 = some .cell ∨ X.env.scope.names.lookup y.1 = some .free
  nd : N.Nodup
  len : cap.length = N.length
  cap : ∀ (j i : Nat), cap[j]? = some (some i) → ∃ y, N[j]? = some y ∧ X.N[i]? = some y ∧ scope.names.lookup y = some .free
def compChk (outer : List (Str × NameKind)) (N0 N : List Str) (cap : List (Option Nat)) (names : List (Str × NameKind)) : Bool :=
  names.all (fun y => y.2 != .cell && (y.2 != .local || names.lookup y.1 == some .local) && (y.2 != .free || outer.lookup y.1 == some .cell || outer.lookup y.1 == some .free)) &&
  decide N.Nodup && cap.length == N.length &&
  (List.range cap.length).all fun j => match cap[j]? with
    | some (some i) => (match N[j]? with
      | some y => N0[i]? == some y && names.lookup y == some .free
      | none => false)
    | _ => true
theorem CompScope.of {X : Cx} {N : List Str} {cap : List (Option Nat)} {scope : Scope} (hk : scope.kind = .function) (h : compChk X.env.scope.names X.N N cap scope.names = true) : CompScope X N cap scope := by
  unfold compChk at h
  simp only [Bool.and_eq_true, List.all_eq_true, decide_eq_true_eq, beq_iff_eq] at h
  obtain ⟨⟨⟨h1, h2⟩, h3⟩, h4⟩ := h
  refine ⟨hk, fun y hy e => ?_, fun y hy e => ?_, fun y hy e => ?_, h2, h3, fun j i e => ?_⟩
  · have := (h1 y hy).1.1
    rw [e] at this
    exact absurd this (by decide)
  · have := (h1 y hy).1.2
    rw [e] at this
    simpa using this
  · have := (h1 y hy).2
    rw [e] at this
    simpa using this
  · have hj : j < cap.length := (List.getElem?_eq_some_iff.mp e).1
    have := h4 j (List.mem_range.mpr hj)
    rw [e] at this
    dsimp only at this
    cases q : N[j]? with
    | none => rw [q] at this; exact absurd this Bool.false_ne_true
    | some y =>
      rw [q] at this
      simp only [Bool.and_eq_true, beq_iff_eq] at this
      exact ⟨y, rfl, this.1, this.2⟩

theorem getElem?_capt {cap : List (Option Nat)} {σ : St} {j : Nat} {v : V} (h : (capt cap σ)[j]? = some (some v)) : ∃ i, cap[j]? = some (some i) ∧ σ[i]? = some (some v) := by
  unfold capt at h
  rw [List.getElem?_map] at h
  cases e : cap[j]? with
  | none => rw [e] at h; cases h
  | some o =>
    rw [e] at h
    cases o with
    | none => simp at h
    | some i =>
      refine ⟨i, rfl, ?_⟩
      simp only [Option.map_some, Option.bind_some, Option.some.injEq] at h
      cases q : σ[i]? with
      | none => rw [q] at h; simp at h
      | some z => rw [q] at h; simp at h; rw [h]

theorem inv_comp {X : Cx} {pins : List (Addr × Obj)} {σ : St} {H : Hp} {s : Shared} {N : List Str} {cap : List (Option Nat)} {scope : Scope} {ex : List Addr} {h₁ : Heap} {tk : Nat} {C : Addr} (S : CompScope X N cap scope) (I : Inv X pins σ H s) (hC : s.heap.objs.size ≤ C)
    (hns : h₁.Ns C (fun _ => none)) (hk : ∀ b o, s.heap.get? b = some o → h₁.get? b = some o) (hex : ∀ b ∈ ex, b < s.heap.objs.size ∧ FpOk X pins H b) :
    Inv (cxComp X N scope C s H ex) [] (capt cap σ) H { s with heap := h₁, toks := tk } := by
  have hcl : ∀ n c, (closOf X.env scope.names []).lookup n = some c → X.env.cells.lookup n = some c := closOf_ok (fun n c e => by simp at e)
  have cne : ∀ x c, (closOf X.env scope.names []).lookup x = some c → c < s.heap.objs.size := fun x c e => by
    obtain ⟨v, q⟩ := I.cell x c (hcl x c e)
    exact q.lt
  have nob : ∀ b o, X.base.get? b = some o → b ∉ ex := fun b o e hb => by
    obtain ⟨hlt, f0, f1, f2, f3, f4, f5⟩ := hex b hb
    rcases f3 with z | z
    · exact I.ok.noex b o e z
    · exact absurd (Nat.lt_of_lt_of_le (Heap.lt_size e) (Nat.le_trans I.ok.bsz z)) (Nat.lt_irrefl _)
  refine ⟨⟨I.ok.mod, ?_, I.ok.glob, I.ok.blt, hC, fun x y c h1 h2 => I.ok.inj x y c (hcl x c h1) (hcl y c h2), fun x hx => ?_, fun x c hf _ => ?_, I.ok.hd, I.ok.frames, .inl rfl, fun b hb => ?_, fun b o e => I.bs b o e, Nat.le_trans I.ok.bsz I.sz, nob, fun b hb => ?_, I.stack, I.stkFree⟩,
    rfl, I.bare, Un.kept hk, ⟨_, hns, fun j y v h1 h2 h3 => ?_⟩, fun x c e => ?_, I.hok.fresh hC, fun x c e => ?_, fun p hp => absurd (show p ∈ ([] : List (Addr × Obj)) from hp) (by simp), I.hok.kept hk, ?_⟩
  · exact S.kind
  · have hx : (relabel scope X.env).names.lookup x = some .cell ∨ (relabel scope X.env).names.lookup x = some .free := hx
    unfold relabel at hx
    simp only [lookup_relabel] at hx
    cases q : scope.names.lookup x with
    | none => rw [q] at hx; simp at hx
    | some k =>
      have hm := PySem.mem_of_lookup q
      have hkf : k = .free := by
        rw [q] at hx
        simp only [Option.map_some, Option.some.injEq] at hx
        by_cases z : (k == NameKind.free && X.env.scope.kind == .function && X.env.kindOf x == some .cell) = true
        · have : (k == NameKind.free) = true := by
            rw [Bool.and_eq_true, Bool.and_eq_true] at z
            exact z.1.1
          exact beq_iff_eq.mp this
        · rw [if_neg z] at hx
          rcases hx with hx | hx
          · exact absurd hx (S.nocell _ hm)
          · exact hx
      subst hkf
      obtain ⟨c, hc⟩ := I.ok.has x (S.fre _ hm rfl)
      exact Option.isSome_iff_exists.mp (closOf_has hm hc)
  · exact absurd (show false = true from hf) Bool.false_ne_true
  · obtain ⟨hlt, _⟩ := hex b hb
    refine ⟨Nat.ne_of_lt (Nat.lt_of_lt_of_le hlt hC), fun x c e z => ?_⟩
    exact (hex b hb).2.2.2.2.2.1 x c (hcl x c e) z
  · intro hb2
    rcases List.mem_cons.mp (I.stkSub b hb2) with e | e
    · exact (hex b hb).2.2.1 e
    · exact (hex b hb).2.2.2.1 e
  · obtain ⟨i, e1, e2⟩ := getElem?_capt h2
    obtain ⟨y', e3, e4, e5⟩ := S.cap j i e1
    rw [show N[j]? = some y from h1] at e3
    cases e3
    obtain ⟨m, _, hl⟩ := I.loc
    have hm := PySem.mem_of_lookup e5
    have hv : Vis X.env.scope y := by
      rcases S.fre _ hm rfl with z | z
      · exact .inr (.inl z)
      · exact .inr (.inr z)
    obtain ⟨u, r, l⟩ := hl i y v e4 e2 hv
    refine ⟨u, r, .inr ⟨?_, ?_⟩⟩
    · show (relabel scope X.env).names.lookup y = some .cell ∨ (relabel scope X.env).names.lookup y = some .free
      unfold relabel
      simp only [lookup_relabel, e5, Option.map_some, Option.some.injEq]
      split
      · exact .inl rfl
      · exact .inr rfl
    · rcases l with ⟨hk2, _⟩ | ⟨_, c, hc, hcell⟩
      · rcases S.fre _ hm rfl with z | z
        · rw [show X.env.kindOf y = some .cell from z] at hk2; cases hk2
        · rw [show X.env.kindOf y = some .free from z] at hk2; cases hk2
      · refine ⟨c, ?_, hcell.keeps hk⟩
        obtain ⟨c', hc'⟩ := Option.isSome_iff_exists.mp (closOf_has (acc := []) hm hc)
        have := hcl y c' hc'
        rw [hc] at this
        cases this
        exact hc'
  · obtain ⟨v, q⟩ := I.cell x c (hcl x c e)
    exact ⟨v, q.keeps hk⟩
  · exact I.freeC x c (hcl x c e)
  · show (capt cap σ).length = N.length
    unfold capt
    rw [List.length_map]
    exact S.len

def Gath (J : It) (cap : List (Option Nat)) (g : TG) (tc : TT) (te : TE) (Q : Addr → Hp → Prop) (σ : St) (H : Hp) : Prop :=
  ∃ W : Nat → Nat → List V → St → Hp → Prop, (∃ m, W 0 m [] (capt cap σ) H) ∧ ∀ i m ys σ' H', W i m ys σ' H' →
    (J.stop i H' ∧ ys.length ≤ sizeLine ∧ ∀ D, H' D = none → Q D (upd H' D (.lst ys))) ∨ (J.go i H' ∧ ys.length < sizeLine ∧ ∃ N : List V → St → Hp → Prop, (∀ ys2 σ2 H2, N ys2 σ2 H2 → ∃ m', m' < m ∧ W (i + 1) m' ys2 σ2 H2) ∧
      ∀ x H2, J.yld i H' x H2 → g x σ' H2 fun σ3 H3 => tc σ3 H3 fun b H4 => if b = true then te σ3 H4 fun y H5 => N (ys ++ [y]) σ3 H5 else N ys σ3 H4)
def tComp (cap : List (Option Nat)) (wi : TI) (g : TG) (tc : TT) (te : TE) (Q : Addr → Hp → Prop) : St → Hp → Prop := fun σ H => wi σ H fun J H1 => Gath J cap g tc te Q σ H1

def tTrue : TT := fun _ H Q => Q true H
def PTs (X : Cx) (ifs : List Expr) (t : TT) : Prop :=
  ∀ (pins : List (Addr × Obj)) (s : Shared) (σ : St) (H : Hp) (Q : Bool → Hp → Prop), Inv X pins σ H s → t σ H Q →
    wpAny (model X.prog X.w) X.A (forIn ifs true fun c r => if r = true then do let ok ← isTrue c X.env (eval c X.env); pure (ForInStep.yield ok) else pure (ForInStep.yield r)) (TP X pins σ Q) X.xe s
theorem pts_nil {X : Cx} : PTs X [] tTrue := fun pins s σ H Q I h => wpAny_tests_nil ⟨H, I, h⟩
theorem pts_one {X : Cx} {c : Expr} {t : TT} (h : PT X c t) : PTs X [c] t := fun pins s σ H Q I hw => wpAny_tests_one (h pins s σ H Q I hw)

theorem HOk.add {P : Program} {w : World} {H : Hp} {h : Heap} {a : Addr} {o : HO} (x : HOk P w H h) (hn : H a = none) (new : ObjOk P w (upd H a o) h a o) : HOk P w (upd H a o) h := fun b u e => by
  by_cases hb : b = a
  · subst hb; rw [upd_same] at e; cases e; exact new
  · rw [upd_ne hb] at e
    exact (x b u e).stay (fun c v _ q => q) (fun c q => by rw [upd_ne (ne_of_none q hn)]; exact q) fun c xs q => by rw [upd_ne (ne_of_none q hn)]; exact q
theorem Un.add {fs ex : List Addr} {H H1 : Hp} {h h1 : Heap} {a : Addr} {o : HO} (u : Un fs ex H H1 h h1) (ha : h.objs.size ≤ a) (hn : H1 a = none) : Un fs ex H (upd H1 a o) h h1 where
  keep := u.keep
  slot := u.slot
  free := fun b ob q n hx => by rw [upd_ne (Nat.ne_of_lt (Nat.lt_of_lt_of_le (Heap.lt_size q) ha))]; exact u.free b ob q n hx
  there := u.there
  tups := fun b xs q => by
    have q' := u.tups b xs q
    rw [upd_ne (ne_of_none q' hn)]; exact q'
  frzs := fun b ob xs q => by
    have q' := u.frzs b ob xs q
    rw [upd_ne (ne_of_none q' hn)]; exact q'
  tbls := fun b ps q => by
    obtain ⟨m, q'⟩ := u.tbls b ps q
    exact ⟨m, by rw [upd_ne (ne_of_none q' hn)]; exact q'⟩

abbrev lobj (its : List Value) (k : Nat) : Obj := { cls := .type "list", data := .seq its.toArray k }

theorem comp_block {X : Cx} {pins : List (Addr × Obj)} {σ : St} {H : Hp} {s : Shared} {N : List Str} {cap : List (Option Nat)} {scope : Scope} {elt target iter : Expr} {ifs : List Expr} {pos : Pos} {g : TG} {tc : TT} {te : TE} {J : It} {fp : List Addr} {it : Addr} {tn : Nat → Heap → Prop}
    {Q : Addr → Hp → Prop} {RR : Value → Addr → Result → Shared → Prop} {E : Value → Shared → Prop} (hc : X.calm = true) (S : CompScope X N cap scope) (I : Inv X pins σ H s) (T : Turn X.prog X.w X.K target J fp it tn) (st : tn 0 s.heap) (fo : ∀ b ∈ fp, FpOk X pins H b)
    (hg : ∀ C s₀ H₀, PG (cxComp X N scope C s₀ H₀ fp) target g) (ht : ∀ C s₀ H₀, PTs (cxComp X N scope C s₀ H₀ fp) ifs tc) (he : ∀ C s₀ H₀, PE (cxComp X N scope C s₀ H₀ fp) elt te)
    (h : Gath J cap g tc te Q σ H)
    (hRR : ∀ D C s' H', Inv X pins σ H' s' → Q D H' → (∃ m, s'.heap.Ns C m) → H' C = none → X.s₀.heap.objs.size ≤ C → C ≠ X.env.locals → (∀ x c, X.env.cells.lookup x = some c → c ≠ C) → (∀ p ∈ X.pn ++ pins, p.1 ≠ C) → RR (.ref D) C (.ok .next) s') :
    wpAny (model X.prog X.w) X.A (newList []) (fun acc s₃ => wpAny (model X.prog X.w) X.A (newFunctionEnv scope X.env.globals (closOf X.env scope.names []) [] X.env.qual none .none (some X.env)) (fun cenv s₄ =>
      codeAny (model X.prog X.w) X.A (.compStart (.ListComp elt [⟨target, iter, ifs, 0⟩] scope pos) 0 (.ref it) acc { cenv with scope := relabel scope X.env }) (RR acc cenv.locals) s₄) E s₃) E s := by
  have hfr : ∀ a, s.heap.objs.size ≤ a → H a = none := fun a ha => I.hok.fresh ha
  obtain ⟨W, ⟨m0, w0⟩, turn⟩ := h
  have fol : ∀ b ∈ fp, b < s.heap.objs.size := fun b hb => by
    obtain ⟨o, ho, _⟩ := T.obj 0 _ st b hb
    exact Heap.lt_size ho
  have clt : ∀ x c, X.env.cells.lookup x = some c → c < s.heap.objs.size := fun x c e => by
    obtain ⟨v, q⟩ := I.cell x c e
    exact q.lt
  refine wpAny_newObj_type (wpAny_newFunctionEnv S.nocell (by intro y hy; simp at hy) (fun h₁ hns₁ hsb₁ => ?_) S.kind)
  dsimp only at hns₁ hsb₁ ⊢
  generalize hD : s.heap.objs.size = D at *
  generalize hH3 : s.heap.push { cls := .type "list", data := .seq ([] : List Value).toArray } = H3 at *
  have hC : H3.objs.size = D + 1 := by rw [← hH3, Heap.size_push, hD]
  have keep3 : ∀ b o, s.heap.get? b = some o → H3.get? b = some o := fun b o e => by rw [← hH3]; exact Heap.get?_push_of_some _ e
  have keep4 : ∀ b o, H3.get? b = some o → h₁.get? b = some o := fun b o e => hsb₁.extBut b o (Nat.ne_of_lt (Heap.lt_size e)) (Heap.get?_push_of_some _ e)
  have D4 : h₁.get? D = some (lobj [] 0) := keep4 _ _ (by rw [← hH3, ← hD]; exact Heap.get?_push_size _ rfl)
  generalize hCC : H3.objs.size = C at *
  have hDC : D < C := by omega
  have hDC' : D ≤ C := Nat.le_of_lt hDC
  have hL : X.env.locals < D := by rw [← hD]; exact I.lt
  have I4 : Inv (cxComp X N scope C s H fp) [] (capt cap σ) H { s with heap := h₁, toks := s.toks + ([] : List (Str × Value)).length } :=
    inv_comp S I (by omega) hns₁ (fun b o e => keep4 b o (keep3 b o e)) fun b hb => ⟨by rw [hD]; exact fol b hb, fo b hb⟩
  have fp4 : ∀ {H' : Hp} {ob : Obj}, (∀ b ∈ fp, H' b = none) → ∀ b ∈ fp, FpOk (cxComp X N scope C s H fp) [(D, ob)] H' b := fun {H' ob} hn b hb => by
    obtain ⟨f0, f1, f2, f3, f4, f5⟩ := fo b hb
    have hlt := fol b hb
    refine ⟨hn b hb, ?_, fun z => ?_, .inl hb, fun x c e => f4 x c (closOf_ok (fun n c e => by simp at e) x c e), fun p hp => ?_⟩
    · exact Nat.ne_of_lt (Nat.lt_of_lt_of_le hlt hDC')
    · rcases List.mem_cons.mp (I.stkSub b z) with e | e
      · exact f1 e
      · exact f2 e
    · have hp' : p ∈ [(D, ob)] := hp
      rw [List.mem_singleton.mp hp']
      exact Nat.ne_of_gt hlt
  have st4 : tn 0 h₁ := T.keep _ _ _ st fun b hb o e => keep4 b o (keep3 b o e)
  have nfs : D ∉ (cxComp X N scope C s H fp).fs := fun z => by
    rcases List.mem_cons.mp (I.stkSub D z) with e | e
    · exact Nat.ne_of_gt hL e
    · exact I.nofs (Nat.le_of_eq hD) e
  have pinD : ∀ {σ' : St} {H' : Hp} {s' : Shared} {ob : Obj}, Inv (cxComp X N scope C s H fp) [] σ' H' s' → H' D = none → s'.heap.get? D = some ob → (∀ v, ob.data ≠ .cell v) → Inv (cxComp X N scope C s H fp) [(D, ob)] σ' H' s' := fun {σ' H' s' ob} J hn e nc =>
    J.pins_of fun p hp => by
      rw [List.mem_singleton.mp hp]
      exact ⟨e, hn, Nat.ne_of_lt hDC, nfs, nc⟩
  have loop : ∀ s₄ : Shared, s₄ = { s with heap := h₁, toks := s.toks + ([] : List (Str × Value)).length } →
      codeAny (model X.prog X.w) X.A (.compLoop (.ListComp elt [⟨target, iter, ifs, 0⟩] scope pos) 0 (.ref it) (.ref D) (compEnvC scope (closOf X.env scope.names []) C X.env)) (RR (.ref D) C) s₄ := by
    rintro s₄ rfl
    refine comp_loop (fun n s' => ∃ i ys its k σ' H', Inv (cxComp X N scope C s H fp) [(D, lobj its k)] σ' H' s' ∧ Vals ys its ∧ tn i s'.heap ∧ (∀ b ∈ fp, H' b = none) ∧ W i n ys σ' H') ?_ m0
      ⟨0, [], [], 0, _, _, pinD I4 (hfr D (Nat.le_refl _)) D4 (fun v z => by cases z), .nil, st4, fun b hb => (fo b hb).1, w0⟩
    rintro n s5 ⟨i, ys, its, k, σ5, H5, I5, rv5, st5, fr5, w5⟩
    have hpin := I5.pin (D, lobj its k) (List.mem_append_right _ List.mem_cons_self)
    rcases turn i n ys σ5 H5 w5 with ⟨stop, hz, q⟩ | ⟨go, hz, NN, hNN, step⟩
    · refine thn (T.done (cxComp X N scope C s H fp) rfl rfl rfl hc i _ s5 σ5 H5 _ I5 (fp4 fr5) st5 stop) fun r s6 ⟨hr, I6⟩ => ?_
      subst hr
      have p6 := I6.pin (D, lobj its k) (List.mem_append_right _ List.mem_cons_self)
      have I7 : Inv X pins σ (upd H5 D (.lst ys)) s6 := I.call' (ch := fp) I6.os (I6.base.add (Nat.le_of_eq hD) p6.2.1) (I6.hok.add p6.2.1 ⟨hz, its, k, rv5, p6.1⟩) I6.bare fun b hb => by
        obtain ⟨f0, f1, f2, f3, f4, f5⟩ := fo b hb
        exact ⟨f3, f1, f4, f5⟩
      obtain ⟨m6, hn6, _⟩ := I6.loc
      refine hRR _ C s6 _ I7 (q D p6.2.1) ⟨m6, hn6⟩ ?_ ?_ ?_ ?_ ?_
      · rw [upd_ne (Nat.ne_of_gt hDC)]; exact I6.free
      · exact Nat.le_trans (by rw [← hD]; exact I.sz) hDC'
      · exact Nat.ne_of_gt (Nat.lt_of_lt_of_le hL hDC')
      · intro x c e z
        exact Nat.ne_of_lt (Nat.lt_of_lt_of_le (clt x c e) hDC') z
      · intro p hp z
        have h6 := Heap.lt_size (I.pin p hp).1
        rw [hD] at h6
        exact Nat.ne_of_lt (Nat.lt_of_lt_of_le h6 hDC') z
    · refine thn (T.item (cxComp X N scope C s H fp) rfl rfl rfl hc i _ s5 σ5 H5 _ I5 (fp4 fr5) st5 go) fun r s6 ⟨u, hr, h6⟩ => ?_
      subst hr
      refine thn h6 fun _ s7 ⟨x, H7, I7, r7, y7, st7, fr7⟩ => ?_
      have I7' := I7.pinned (fp4 fr7) (T.obj _ _ st7)
      have kept : ∀ {σ8 : St} {H8 : Hp} {s8 : Shared}, Inv (cxComp X N scope C s H fp) ([(D, lobj its k)] ++ pinsAt fp s7.heap) σ8 H8 s8 → tn (i + 1) s8.heap ∧ ∀ b ∈ fp, H8 b = none := fun {σ8 H8 s8} I8 =>
        ⟨T.keep _ _ _ st7 fun b hb o e => (I8.pin (b, o) (List.mem_append_right _ (List.mem_append_right _ (mem_pinsAt hb e)))).1, fun b hb => by
          obtain ⟨o, e, d⟩ := T.obj _ _ st7 b hb
          exact (I8.pin (b, o) (List.mem_append_right _ (List.mem_append_right _ (mem_pinsAt hb e)))).2.1⟩
      refine wpAny_mono (hg C s H _ s7 σ5 H7 x u _ I7' r7 (step x H7 y7)) (fun _ s8 ⟨σ8, H8, I8, q8⟩ => ?_) fun _ _ f => f.elim
      refine wpAny_mono (ht C s H _ s8 σ8 H8 _ I8 q8) (fun ok s9 ⟨H9, I9, q9⟩ => ?_) fun _ _ f => f.elim
      cases ok with
      | false =>
        rw [if_neg Bool.false_ne_true] at q9 ⊢
        obtain ⟨m', hm, w9⟩ := hNN _ _ _ q9
        exact ⟨m', hm, i + 1, ys, its, k, σ8, H9, I9.unpinned, rv5, (kept I9).1, (kept I9).2, w9⟩
      | true =>
        rw [if_pos rfl] at q9 ⊢
        refine wpAny_mono (he C s H _ s9 σ8 H9 _ I9 q9) (fun y s10 ⟨yv, H10, I10, r10, n10⟩ => ?_) fun _ _ f => f.elim
        obtain ⟨m', hm, w10⟩ := hNN _ _ _ n10
        obtain ⟨k10, f10⟩ := kept I10
        have p10 := I10.pin (D, lobj its k) (List.mem_append_right _ (List.mem_append_left _ List.mem_cons_self))
        have hlen := rv5.length
        refine wpAny_list_append_plain (hsz := by rw [List.size_toArray]; omega) (show s10.heap.PlainList D its.toArray from ⟨k, p10.1⟩) fun h11 hl11 hsb11 => ?_
        obtain ⟨k11, e11⟩ := hl11
        have J0 : Inv (cxComp X N scope C s H fp) [] σ8 H10 s10 := I10.pins_of fun p hp => nomatch hp
        have J1 : Inv (cxComp X N scope C s H fp) [] σ8 H10 { s10 with heap := h11 } := J0.turned (t' := s10.toks) (fun b o hb e => hsb11.extBut b o hb e) p10.2.1 (Nat.ne_of_lt hDC) (.inr (Nat.le_of_eq hD)) (fun x c e z => Nat.ne_of_lt (clt x c (closOf_ok (fun n c e => by simp at e) x c e)) z) fun p hp => nomatch (show p ∈ ([] : List (Addr × Obj)) from hp)
        have e12 : h11.get? D = some (lobj (its ++ [y]) k11) := by rw [e11]; simp [lobj]
        refine ⟨m', hm, i + 1, ys ++ [yv], its ++ [y], k11, σ8, H10, pinD J1 p10.2.1 e12 (fun v z => by cases z), rv5.append (.cons r10 .nil), ?_, f10, w10⟩
        exact T.keep _ _ _ k10 fun b hb o e => hsb11.extBut b o (Nat.ne_of_lt (fol b hb)) e
  refine codeAny_compStart_list (loop _ ?_) (T.self X.A 0 _ _ _ ?_ (loop _ ?_))
  · rfl
  · exact st4
  · rfl

theorem pe_comp {X : Cx} {N : List Str} {cap : List (Option Nat)} {scope : Scope} {elt target iter : Expr} {ifs : List Expr} {pos : Pos} {wi : TI} {g : TG} {tc : TT} {te : TE} (hc : X.calm = true) (S : CompScope X N cap scope) (hi : PI X target iter wi)
    (hg : ∀ C s₀ H₀ ex, PG (cxComp X N scope C s₀ H₀ ex) target g) (ht : ∀ C s₀ H₀ ex, PTs (cxComp X N scope C s₀ H₀ ex) ifs tc) (he : ∀ C s₀ H₀ ex, PE (cxComp X N scope C s₀ H₀ ex) elt te)
    (hs : ∀ x, foldedSetIterable iter X.env x = pure x := by intro _; rfl) :
    PE X (.ListComp elt [⟨target, iter, ifs, 0⟩] scope pos) (fun σ H Q => tComp cap wi g tc te (fun D H' => Q (.ref D) H') σ H) := by
  intro pins s σ H Q I h
  have hclos : closureFor scope X.env = pure (closOf X.env scope.names []) := closureFor_of fun y hy hf => I.ok.has y.1 (S.fre y hy hf)
  rw [eval_ListComp]
  refine wpAny_comprehension_free (use := none) rfl hs hclos S.kind S.loc (thn (hi pins s σ H _ I h) fun xv s1 h1 => thn h1 fun itv s2 h2 => ?_)
  obtain ⟨it, fp, tn, J, H2, e, I2, T, st2, f2, q2⟩ := h2
  subst e
  refine comp_block (RR := fun acc C => compPost (model X.prog X.w) X.A X.xe none (EP X pins σ Q) acc C) hc S I2 T st2 f2 (fun C s₀ H₀ => hg C s₀ H₀ fp) (fun C s₀ H₀ => ht C s₀ H₀ fp) (fun C s₀ H₀ => he C s₀ H₀ fp) q2 ?_
  intro D C s' H' I' q ⟨m, hn⟩ hf hsz hL hcell hpin
  refine ⟨m, hn, fun h' hsb => ⟨.ref D, H', ?_, rfl, q⟩⟩
  exact I'.turned (t' := s'.toks) (fun b o hb e => hsb.extBut b o hb e) hf hL (.inr hsz) hcell hpin

theorem ps_comp {X : Cx} {N : List Str} {cap : List (Option Nat)} {scope : Scope} {elt target iter : Expr} {ifs : List Expr} {pos pos' spos : Pos} {wi : TI} {g : TG} {tc : TT} {te : TE} {i : Nat} {x : Str} (hc : X.calm = true) (S : CompScope X N cap scope) (hi : PI X target iter wi)
    (hg : ∀ C s₀ H₀ ex, PG (cxComp X N scope C s₀ H₀ ex) target g) (ht : ∀ C s₀ H₀ ex, PTs (cxComp X N scope C s₀ H₀ ex) ifs tc) (he : ∀ C s₀ H₀ ex, PE (cxComp X N scope C s₀ H₀ ex) elt te)
    (hN : X.N.Nodup) (hix : X.N[i]? = some x) (hx : X.env.scope.names.lookup x = some .local) (hsw : swapsWith (.ListComp elt [⟨target, iter, ifs, 0⟩] scope pos) (some (.Name x pos')) spos.line X.env = pure true := by rfl)
    (hs : ∀ x, foldedSetIterable iter X.env x = pure x := by intro _; rfl) :
    PS X (.Assign [.Name x pos'] (.ListComp elt [⟨target, iter, ifs, 0⟩] scope pos) spos) (fun D σ H => tComp cap wi g tc te (fun d H' => D.nx (σ.set i (some (.ref d))) H') σ H) := by
  intro pins s σ H D I h
  have hclos : closureFor scope X.env = pure (closOf X.env scope.names []) := closureFor_of fun y hy hf => I.ok.has y.1 (S.fre y hy hf)
  rw [exec_Assign_Name_used _ _ _ _ hsw]
  refine wpAny_bind (wpAny_standAt (wpAny_bind ?_))
  show wpAny _ X.A (do let _ ← comprehension (.ListComp elt [⟨target, iter, ifs, 0⟩] scope pos) scope X.env _ (newList []) false (eval iter X.env) (some (assign (.Name x pos') X.env))) _ _ s
  refine wpAny_bind (wpAny_mono (wpAny_comprehension_free (use := some (assign (.Name x pos') X.env)) (Q := fun _ s' => SP X pins D .next s') rfl hs hclos S.kind S.loc
    (thn (hi pins s σ H _ I h) fun xv s1 h1 => thn h1 fun itv s2 h2 => ?_)) (fun _ s' hq => wpAny_pure (wpAny_pure hq)) fun _ _ e => e)
  obtain ⟨it, fp, tn, J, H2, e, I2, T, st2, f2, q2⟩ := h2
  subst e
  refine comp_block (RR := fun acc C => compPost (model X.prog X.w) X.A X.xe (some (assign (.Name x pos') X.env)) (fun _ s' => SP X pins D .next s') acc C) hc S I2 T st2 f2 (fun C s₀ H₀ => hg C s₀ H₀ fp) (fun C s₀ H₀ => ht C s₀ H₀ fp) (fun C s₀ H₀ => he C s₀ H₀ fp) q2 ?_
  intro d C s' H' I' q ⟨m, hn⟩ hf hsz hL hcell hpin
  show wpAny _ X.A (assign (.Name x pos') X.env (.ref d)) _ _ s'
  refine wpAny_assign_Name (store_ok2 I' hN hix (.inl hx) (show RelV (.ref d) (.ref d) from rfl) (fun s'' I'' ⟨a, hsb, ha⟩ => ?_) (.inr hx))
  have hCa : C ≠ a := by
    rcases ha with z | z
    · rw [z]; exact hL
    · exact fun w => hcell x a z w.symm
  refine ⟨m, hn.sameBut hsb hCa, fun h' hsb' => ⟨_, H', ?_, q⟩⟩
  exact I''.turned (t' := s''.toks) (fun b o hb e => hsb'.extBut b o hb e) hf hL (.inr hsz) hcell hpin
end L2

set_option Elab.async false
set_option linter.all false
set_option maxRecDepth 100000
set_option maxHeartbeats 4000000
namespace L2
open PySem PySem.Spec PyProof.Rows

def Its (x : Str) : It := ⟨fun i _ => i < x.cps.size, fun i H v H' => H' = H ∧ ∃ c, x.cps[i]? = some c ∧ v = .str ⟨#[c]⟩, fun i _ => i = x.cps.size⟩
theorem turn_str {P : Program} {w : World} {K : PySem.W.Frag} {tg : Expr} (ty : String) (it : Addr) (x : Str) (t : Tok)
    (hw : ∀ A' : Around, A'.handled = none → Walks P w A' it [it] [it] x.cps.size (SignAt x) (fun i h => h.IsStrIter it ty x t i))
    (hself : ∀ (A : Around) (i : Nat) (s : Shared) (Q : Value → Shared → Prop) (E : Value → Shared → Prop), s.heap.IsStrIter it ty x t i → Q (.ref it) s → wpAny (model P w) A (pyIter (.ref it)) Q E s)
    (hn : ["enumerate", "zip", "dict_itemiterator", "dict_reverseitemiterator", "odict_iterator", "itertools.zip_longest", "itertools.pairwise"].contains ty = false) :
    Turn P w K tg (Its x) [it] it (fun i h => h.IsStrIter it ty x t i) where
  mem := by simp
  obj := fun i h st b hb => by
    have e : b = it := by simpa using hb
    subst e
    obtain ⟨o, e, c, d⟩ := st
    exact ⟨o, e, fun v z => by rw [d] at z; cases z⟩
  keep := fun i h h' st k => let ⟨o, e, r⟩ := st; ⟨o, k it (by simp) o e, r⟩
  item := by
    intro X hP hw' hK hc i pins s σ H E I hf st hg
    subst hP hw' hK
    obtain ⟨f0, f1, f2, f3, f4, f5⟩ := hf it (by simp)
    refine (hw X.A (I.ok.hd hc)).item i s _ _ hg st fun v h' tk hv st' kk => ?_
    obtain ⟨c, u, hc', rfl⟩ := hv
    have I1 : Inv X pins σ H { s with heap := h', toks := tk } := I.turned (fun b o hb e => kk b o (by simpa using hb) e) f0 f1 f3 f4 f5
    obtain ⟨o, e, cc, d⟩ := id st'
    exact ⟨_, rfl, go_of (s := { s with heap := h', toks := tk }) e cc d hn ⟨.str ⟨#[c]⟩, H, I1, ⟨u, rfl⟩, ⟨rfl, c, hc', rfl⟩, st', fun b hb => (hf b hb).1⟩⟩
  done := by
    intro X hP hw' hK hc i pins s σ H E I hf st hg
    subst hP hw' hK
    obtain ⟨f0, f1, f2, f3, f4, f5⟩ := hf it (by simp)
    have hg' : i = x.cps.size := hg
    subst hg'
    exact (hw X.A (I.ok.hd hc)).done s _ _ st fun h' tk kk => ⟨rfl, I.turned (fun b o hb e => kk b o (by simpa using hb) e) f0 f1 f3 f4 f5⟩
  self := hself
theorem for_str {x : Str} {g : TG} {tb : TS} {D : Ends} {σ : St} {H : Hp} (Pv : Nat → St → Hp → Prop) (h0 : Pv 0 σ H)
    (hs : ∀ i c σ H, x.cps[i]? = some c → Pv i σ H → g (.str ⟨#[c]⟩) σ H fun σ2 H2 => tb { D with nx := Pv (i + 1), ct := Pv (i + 1), bk := D.nx } σ2 H2) (hd : ∀ σ H, Pv x.cps.size σ H → D.nx σ H) :
    ∃ W : Nat → Nat → St → Hp → Prop, (∃ m, W 0 m σ H) ∧ ∀ i m σ H, W i m σ H →
      ((Its x).stop i H ∧ D.nx σ H) ∨ ((Its x).go i H ∧ ∃ N : St → Hp → Prop, (∀ σ' H', N σ' H' → ∃ m', m' < m ∧ W (i + 1) m' σ' H') ∧ ∀ v H', (Its x).yld i H v H' → g v σ H' fun σ2 H2 => tb { D with nx := N, ct := N, bk := D.nx } σ2 H2) := by
  refine ⟨fun i m σ H => m = x.cps.size - i ∧ i ≤ x.cps.size ∧ Pv i σ H, ⟨x.cps.size, by simp, Nat.zero_le _, h0⟩, ?_⟩
  rintro i m σ H ⟨rfl, hi, p⟩
  by_cases hlt : i < x.cps.size
  · refine .inr ⟨hlt, Pv (i + 1), fun σ' H' p' => ⟨x.cps.size - (i + 1), by omega, rfl, hlt, p'⟩, fun v H' y => ?_⟩
    obtain ⟨e, c, hc, rfl⟩ := y
    subst e
    exact hs i c σ _ hc p
  · have e : i = x.cps.size := by omega
    subst e
    exact .inl ⟨rfl, hd σ H p⟩

section
variable {X : Cx}
theorem op_le_str : OpR X (compareOp .LtE) (fun x y H Q => ∃ i j, x = .str i ∧ y = .str j ∧ Q (.bl (!decide (j.cps.toList < i.cps.toList))) H) := by
  intro pins s σ H x y v u Q I r1 r2 h
  obtain ⟨i, j, rfl, rfl, q⟩ := h
  obtain ⟨t, rfl⟩ := r1
  obtain ⟨t', rfl⟩ := r2
  exact PySem.P.le_str ⟨.bl _, H, I, rfl, q⟩
theorem op_mul_str : OpR X (binaryOp .Mult) (fun x y H Q => ∃ z n, x = .str z ∧ y = .int n ∧ MulOk z n ∧ Q (.str (Txt.mul z n)) H) := by
  intro pins s σ H x y v u Q I r1 r2 h
  obtain ⟨z, n, rfl, rfl, ok, q⟩ := h
  obtain ⟨t, rfl⟩ := r1
  obtain ⟨t', rfl⟩ := r2
  exact SB.mul ok fun t' k => ⟨.str _, H, I.tok k, ⟨t', rfl⟩, q⟩
theorem vals_strs : ∀ {texts : List Str} {its : List Value}, Vals (texts.map V.str) its → ∃ l : List (Str × Tok), its = strValues l ∧ l.map (·.1) = texts
  | [], _, r => by rw [List.map_nil] at r; cases r; exact ⟨[], rfl, rfl⟩
  | x :: xs, _, r => by
    rw [List.map_cons] at r
    cases r with
    | cons r1 r2 =>
      obtain ⟨t, rfl⟩ := r1
      obtain ⟨l, e1, e2⟩ := vals_strs r2
      exact ⟨(x, t) :: l, by rw [e1]; rfl, by rw [List.map_cons, e2]⟩
theorem strs_vals : ∀ (l : List (Str × Tok)), Vals (l.map fun p => V.str p.1) (strValues l)
  | [] => .nil
  | (x, t) :: l => .cons ⟨t, rfl⟩ (strs_vals l)
def rJoin (K : PySem.W.Frag) : V → List V → Hp → VK → Prop := fun x vs H Q => ∃ sep l texts, x = .str sep ∧ vs = [.ref l] ∧ SqL K H l (texts.map V.str) ∧ JoinOk sep texts = true ∧ Q (.str (Txt.join sep texts)) H
theorem mt_join : MtR X "str.join" (rJoin X.K) := by
  intro pins s σ H x xs v us Q I rx rs h
  obtain ⟨sep, l, texts, rfl, rfl, hq, hok, q⟩ := h
  obtain ⟨t, rfl⟩ := rx
  obtain ⟨u, rfl, ru⟩ := vals1 rs
  cases ru
  obtain ⟨its, rv, pl, hz⟩ := I.list hq
  obtain ⟨ls, e1, e2⟩ := vals_strs rv
  subst e1
  exact SC.join (D := l) (l := ls) pl.isList e2 hok fun t' k => ⟨.str _, H, I.tok k, ⟨t', rfl⟩, q⟩
def rSplit : V → List V → Hp → VK → Prop := fun x vs H Q => ∃ z y, x = .str z ∧ vs = [.str y] ∧ y.length ≠ 0 ∧ z.length < sizeLine ∧ (Txt.split z y).length ≤ sizeLine ∧ ∀ l, H l = none → Q (.ref l) (upd H l (.lst ((Txt.split z y).map V.str)))
theorem split_laid {pins : List (Addr × Obj)} {σ : St} {H : Hp} {s : Shared} {l : List (Str × Tok)} {ts : List Str} {tk : Nat} {Q : VK} (I : Inv X pins σ H s) (e : l.map (·.1) = ts) (hz : ts.length ≤ sizeLine) (q : ∀ l, H l = none → Q (.ref l) (upd H l (.lst (ts.map V.str)))) :
    EP X pins σ Q (.ref s.heap.objs.size) { s with heap := s.heap.push { cls := .type "list", data := .seq (strValues l).toArray }, toks := tk } := by
  subst e
  refine ⟨.ref s.heap.objs.size, _, I.laid (o := .lst ((l.map (·.1)).map V.str)) (fun b ob q => Heap.get?_push_of_some _ q) (Nat.le_refl _) ?_, rfl, q _ (I.hok.fresh (Nat.le_refl _))⟩
  refine ⟨by rw [List.length_map]; exact hz, strValues l, 0, ?_, Heap.get?_push_size _ rfl⟩
  have := strs_vals l
  rw [List.map_map]
  exact this
open Builtin Builtin.Str in
theorem mt_split : MtR X "str.split" rSplit := by
  intro pins s σ H x xs v us Q I rx rs h
  obtain ⟨z, y, rfl, rfl, hy0, hz, hl, q⟩ := h
  obtain ⟨t, rfl⟩ := rx
  obtain ⟨uu, rfl, ru⟩ := vals1 rs
  obtain ⟨u, rfl⟩ := ru
  have hy : (y.length == 0) = false := by simpa using hy0
  have hz' : z.length ≤ sizeLine := Nat.le_of_lt hz
  unfold Txt.split at hl q
  cases h1 : (decide (z.length < y.length) || decide (strKind z < strKind y))
  · rw [h1] at hl q
    simp only [Bool.false_eq_true, if_false] at hl q
    cases hf : (occurrences z y 0 z.length (z.length + 1)).isEmpty
    · rw [hf] at hl q
      simp only [Bool.false_eq_true, if_false] at hl q
      refine call_meets F.slot_str_split (typeIs_str _ _ _) F.entry_str_split (F.args_str_split_2 _ _) (meets_str_split_sep z y t u h1 hy hf hz' hl) ?_
      show wants _ _ _ { s with toks := _, heap := s.heap.push { cls := .type "list", data := .seq (strsFrom s.toks (partsBetween z (occurrences z y 0 z.length (z.length + 1)) y.length)).toArray } }
      rw [strsFrom_eq]
      exact split_laid (l := numbered s.toks _) I (numbered_texts _ _) hl q
    · rw [hf] at hl q
      simp only [if_true] at hl q
      exact call_meets F.slot_str_split (typeIs_str _ _ _) F.entry_str_split (F.args_str_split_2 _ _) (meets_str_split_not_found z y t u h1 hy hf)
        (split_laid (l := [(z, t)]) (tk := s.toks) I rfl hl q)
  · rw [h1] at hl q
    simp only [if_true] at hl q
    exact call_meets F.slot_str_split (typeIs_str _ _ _) F.entry_str_split (F.args_str_split_2 _ _) (meets_str_split_cannot_occur z y t u h1)
      (split_laid (l := [(z, t)]) (tk := s.toks) I rfl hl q)
def rSlS : V → Option Int → Option Int → Hp → VK → Prop := fun x lo hi H Q => ∃ z, x = .str z ∧ z.length ≤ sizeLine ∧ Q (.str (Txt.slice z lo hi)) H
theorem sl_str : SlR X rSlS := by
  intro pins s σ H x v vl vu lo hi sl Q I rx hs pl pu h
  obtain ⟨z, rfl, hz, q⟩ := h
  obtain ⟨t, rfl⟩ := rx
  refine ⟨"str", _, F.slot_str_getitem.lookup, typeIs_str _ _ _, ?_⟩
  have fin : ∀ t' k, EP X pins σ Q (.str (Txt.slice z lo hi) t') { s with toks := k } := fun t' k => ⟨.str _, H, I.tok k, ⟨t', rfl⟩, q⟩
  cases pl with
  | none =>
    cases pu with
    | none => exact wpAny_getItem_str_slice (l := none) (u := none) (st := none) hs rfl (post_val_or_str ⟨Nat.le_trans (Txt.slice_le z _ _) hz, fin⟩)
    | int j uj => exact wpAny_getItem_str_slice (l := none) (u := some (j, uj)) (st := none) hs rfl (post_val_or_str ⟨Nat.le_trans (Txt.slice_le z _ _) hz, fin⟩)
  | int i ui =>
    cases pu with
    | none => exact wpAny_getItem_str_slice (l := some (i, ui)) (u := none) (st := none) hs rfl (post_val_or_str ⟨Nat.le_trans (Txt.slice_le z _ _) hz, fin⟩)
    | int j uj => exact wpAny_getItem_str_slice (l := some (i, ui)) (u := some (j, uj)) (st := none) hs rfl (post_val_or_str ⟨Nat.le_trans (Txt.slice_le z _ _) hz, fin⟩)

end

mutual
inductive DatV (K : PySem.W.Frag) (H : Hp) : V → PyData → Prop
  | none : DatV K H .non .none
  | bool (b : Bool) : DatV K H (.bl b) (.bool b)
  | int (i : Int) : DatV K H (.int i) (.int i)
  | str (x : Str) : DatV K H (.str x) (.str x)
  | list {a : Addr} {xs : List V} {ds : List PyData} : SqL K H a xs → DatVs K H xs ds → DatV K H (.ref a) (.list ds)
  | tuple {a : Addr} {xs : List V} {ds : List PyData} : SqT K H a xs → DatVs K H xs ds → DatV K H (.ref a) (.tuple ds)
inductive DatVs (K : PySem.W.Frag) (H : Hp) : List V → List PyData → Prop
  | nil : DatVs K H [] []
  | cons {x : V} {xs : List V} {d : PyData} {ds : List PyData} : DatV K H x d → DatVs K H xs ds → DatVs K H (x :: xs) (d :: ds)
end
theorem Same.seqT {K : PySem.W.Frag} {H H' : Hp} {a : Addr} {xs : List V} (e : Same H H') (h : SqT K H a xs) : SqT K H' a xs := by
  rcases h with (h | ⟨o, h⟩) | h
  · exact .inl (.inl (e _ _ h))
  · exact .inl (.inr ⟨o, e _ _ h⟩)
  · exact .inr h
mutual
theorem DatV.same {K : PySem.W.Frag} {H H' : Hp} (e : Same H H') : ∀ {x : V} {d : PyData}, DatV K H x d → DatV K H' x d
  | _, _, .none => .none
  | _, _, .bool b => .bool b
  | _, _, .int i => .int i
  | _, _, .str x => .str x
  | _, _, .list h hs => .list (e.seq h) (DatVs.same e hs)
  | _, _, .tuple h hs => .tuple (e.seqT h) (DatVs.same e hs)
theorem DatVs.same {K : PySem.W.Frag} {H H' : Hp} (e : Same H H') : ∀ {xs : List V} {ds : List PyData}, DatVs K H xs ds → DatVs K H' xs ds
  | _, _, .nil => .nil
  | _, _, .cons h hs => .cons (DatV.same e h) (DatVs.same e hs)
end
mutual
theorem DatV.reads {X : Cx} {pins : List (Addr × Obj)} {σ : St} {H : Hp} {s : Shared} (I : Inv X pins σ H s) : ∀ {x : V} {d : PyData} {u : Value}, DatV X.K H x d → RelV x u → ∃ as, Reads s.heap u d as
  | _, _, _, .none, r => by cases r; exact ⟨_, .none⟩
  | _, _, _, .bool b, r => by cases r; exact ⟨_, .bool b⟩
  | _, _, _, .int i, r => by obtain ⟨t, rfl⟩ := r; exact ⟨_, .int i t⟩
  | _, _, _, .str x, r => by obtain ⟨t, rfl⟩ := r; exact ⟨_, .str x t⟩
  | _, _, _, .list h hs, r => by
    cases r
    obtain ⟨its, rv, ⟨o, n, h1, h2, h3, h4⟩, hz⟩ := I.list h
    obtain ⟨as, ra⟩ := DatVs.reads I hs rv
    exact ⟨_, .list h1 h2 h4 ra⟩
  | _, _, _, .tuple h hs, r => by
    cases r
    obtain ⟨its, rv, ⟨o, h1, h2, n, h4⟩, hz⟩ := I.tuple h
    obtain ⟨as, ra⟩ := DatVs.reads I hs rv
    exact ⟨_, .tuple h1 h2 h4 ra⟩
theorem DatVs.reads {X : Cx} {pins : List (Addr × Obj)} {σ : St} {H : Hp} {s : Shared} (I : Inv X pins σ H s) : ∀ {xs : List V} {ds : List PyData} {us : List Value}, DatVs X.K H xs ds → Vals xs us → ∃ as, ReadsAll s.heap us ds as
  | _, _, _, .nil, r => by cases r; exact ⟨_, .nil⟩
  | _, _, _, .cons h hs, r => by
    cases r with
    | cons r1 r2 =>
      obtain ⟨as, ra⟩ := DatV.reads I h r1
      obtain ⟨bs, rb⟩ := DatVs.reads I hs r2
      exact ⟨_, .cons ra rb⟩
end
theorem DatVs.length {K : PySem.W.Frag} {H : Hp} : ∀ {xs : List V} {ds : List PyData}, DatVs K H xs ds → xs.length = ds.length
  | _, _, .nil => rfl
  | _, _, .cons _ hs => by rw [List.length_cons, List.length_cons, DatVs.length hs]
theorem DatVs.get {K : PySem.W.Frag} {H : Hp} : ∀ {xs : List V} {ds : List PyData} {i : Nat} {x : V}, DatVs K H xs ds → xs[i]? = some x → ∃ d, ds[i]? = some d ∧ DatV K H x d
  | _, _, _, _, .nil, e => by simp at e
  | _, _, 0, _, .cons h _, e => by simp at e; subst e; exact ⟨_, rfl, h⟩
  | _, _, i + 1, x, .cons _ hs, e => by
    obtain ⟨d, h1, h2⟩ := DatVs.get (i := i) (x := x) hs (by simpa using e)
    exact ⟨d, by simpa using h1, h2⟩
theorem DatVs.snoc {K : PySem.W.Frag} {H : Hp} {x : V} {d : PyData} (h : DatV K H x d) : ∀ {xs : List V} {ds : List PyData}, DatVs K H xs ds → DatVs K H (xs ++ [x]) (ds ++ [d])
  | _, _, .nil => .cons h .nil
  | _, _, .cons h' hs => .cons h' (DatVs.snoc h hs)
def rEqD (K : PySem.W.Frag) : R2 := fun x y H Q => ∃ da db, DatV K H x da ∧ DatV K H y db ∧ da.canLay0 = true ∧ db.canLay0 = true ∧ min da.depth db.depth ≤ 60 ∧ Q (.bl (PyData.eqv da db)) H
def rNeD (K : PySem.W.Frag) : R2 := fun x y H Q => ∃ da db, DatV K H x da ∧ DatV K H y db ∧ da.canLay0 = true ∧ db.canLay0 = true ∧ min da.depth db.depth ≤ 60 ∧ Q (.bl (!PyData.eqv da db)) H
theorem op_eqD {X : Cx} (hu : X.A.units + 64 < cLine) : OpR X (compareOp .Eq) (rEqD X.K) := by
  intro pins s σ H x y v u Q I rx ry h
  obtain ⟨da, db, h1, h2, l1, l2, hd, q⟩ := h
  obtain ⟨as, ra⟩ := h1.reads I rx
  obtain ⟨bs, rb⟩ := h2.reads I ry
  exact SeqAt.compareEq_reads ra rb l1 l2 (by omega) ⟨.bl _, H, I, rfl, q⟩
theorem op_neD {X : Cx} (hu : X.A.units + 64 < cLine) : OpR X (compareOp .NotEq) (rNeD X.K) := by
  intro pins s σ H x y v u Q I rx ry h
  obtain ⟨da, db, h1, h2, l1, l2, hd, q⟩ := h
  obtain ⟨as, ra⟩ := h1.reads I rx
  obtain ⟨bs, rb⟩ := h2.reads I ry
  exact SeqAt.compareNe_reads ra rb l1 l2 (by omega) ⟨.bl _, H, I, rfl, q⟩
end L2

set_option Elab.async false
set_option linter.all false
set_option maxRecDepth 100000
set_option maxHeartbeats 4000000
namespace L2
open PySem PySem.Spec PyProof.Rows

structure KTab (K : PySem.W.Frag) (w : World) (a : Addr) (kvs : List (Str × V)) : Prop where
  ex : ∃ es n, K.lookup a = some ⟨.type "dict", none, .dict es n, #[]⟩ ∧ PySem.W.KeysLit w.params es.toList ∧ Paired (fun (p : Str × V) (e : DictEntry) => (∃ t, e.key = .str p.1 t) ∧ RelV p.2 e.val) kvs es.toList
  lo : (a == sysModules) = false
theorem findBy_rel {kvs : List (Str × V)} {es : List DictEntry} (r : Paired (fun (p : Str × V) (e : DictEntry) => (∃ t, e.key = .str p.1 t) ∧ RelV p.2 e.val) kvs es) (x : Str) : RelO (kvs.lookup x) (findBy Value.isStrOf es.toArray x) := by
  unfold findBy
  rw [List.find?_toArray]
  induction r with
  | nil => exact True.intro
  | @cons p e ps qs h t ih =>
    obtain ⟨⟨tk, hk⟩, hv⟩ := h
    rw [List.lookup_cons, List.find?_cons, hk]
    by_cases q : x = p.1
    · subst q
      simp only [beq_self_eq_true]
      have : Value.isStrOf p.1 (.str p.1 tk) = true := by simp [Value.isStrOf]
      rw [this]
      exact hv
    · have h1 : (x == p.1) = false := by simpa using q
      have h2 : Value.isStrOf x (.str p.1 tk) = false := by
        simp only [Value.isStrOf]
        simpa using fun z => q z.symm
      rw [h1, h2]
      exact ih
theorem KTab.map {X : Cx} {pins : List (Addr × Obj)} {σ : St} {H : Hp} {s : Shared} {a : Addr} {kvs : List (Str × V)} (T : KTab X.K X.w a kvs) (I : Inv X pins σ H s) :
    ∃ f : Str → Option Value, s.heap.MapOf (strKind X.prog X.w) a f ∧ ∀ x, RelO (kvs.lookup x) (f x) := by
  obtain ⟨es, n, hl, hk, r⟩ := T.ex
  refine ⟨_, PySem.W.mapOf_K (prog := X.prog) I.kIn hl hk, fun x => ?_⟩
  have := findBy_rel r x
  simpa using this
section
variable {X : Cx} {o e f : Expr} {apos cpos pos : Pos} {td ty tx : TE}
def tKGet1 (K : PySem.W.Frag) (w : World) (td ty : TE) : TE := fun σ H Q => td σ H fun x H1 => ∃ a kvs, x = .ref a ∧ KTab K w a kvs ∧ ty σ H1 fun y H2 => ∃ k, y = .str k ∧ Q ((kvs.lookup k).getD .non) H2
theorem MapOf.dict {h : Heap} {P : Program} {w : World} {a : Addr} {f : Str → Option Value} (m : h.MapOf (strKind P w) a f) : ∀ b, Value.ref a = .ref b → ∃ ob, h.get? b = some ob ∧ ob.dict = none := fun b q => by
  cases q
  obtain ⟨ob, _, _, h1, h2, _⟩ := m
  exact ⟨ob, h1, h2.2.1⟩
theorem pe_kget1 (ho : PE X o td) (he : PE X e ty) (m : M1 X o "get" apos e cpos) : PE X (.Call (.Attribute o "get" apos) [e] [] cpos) (tKGet1 X.K X.w td ty) := by
  intro pins s σ H Q I h
  refine wpAny_Call_method m.base m.few m.line PySem.F.plainAttrs_dict PySem.F.slot_dict_get PySem.F.type_dict_get (thn (ho pins s σ H _ I h) fun u s1 ⟨x, H1, I1, rx, a, kvs, ex, T, q1⟩ => ?_)
  subst ex
  obtain rfl : u = Value.ref a := rx
  obtain ⟨f0, m0, _⟩ := T.map I1
  refine ⟨m0.typeIs, MapOf.dict m0, ?_⟩
  rw [m.trees]
  refine Calls.callWith_builtin rfl (Calls.evalArgs_plain (Calls.spliced_cons (thn (he pins s1 σ H1 _ I1 q1) fun iv s2 ⟨y, H2, I2, ry, k, ey, q2⟩ => Calls.spliced_nil ?_)))
  subst ey
  obtain ⟨t, rfl⟩ := ry
  obtain ⟨f2, m2, r2⟩ := T.map I2
  refine call_meetsIn PySem.F.slot_dict_get m2.typeIs PySem.F.entry_dict_get (PySem.F.args_dict_get_2 _ _) (meets_dict_get (strKind X.prog X.w) a (strKind_is X.prog X.w k t) T.lo) ⟨_, m2, ?_⟩
  exact ⟨_, H2, I2.tok _, (r2 k).getD (d := .non) (show RelV .non Value.none from rfl), q2⟩
def rIxK (K : PySem.W.Frag) (w : World) : R2 := fun x y H Q => ∃ a kvs k v, x = .ref a ∧ y = .str k ∧ KTab K w a kvs ∧ kvs.lookup k = some v ∧ Q v H
theorem ix_ktab : IxR X (rIxK X.K X.w) := by
  intro value slice pins s σ H x y v u Q I rx ry h hs
  obtain ⟨a, kvs, k, z, rfl, rfl, T, hl, q⟩ := h
  cases rx
  obtain ⟨t, rfl⟩ := ry
  obtain ⟨f2, m2, r2⟩ := T.map I
  obtain ⟨w', hw, rw'⟩ := RelO.some_of (v := z) (o := f2 k) (by rw [← hl]; exact r2 k)
  exact tail_any m2.typeIs slot_dict_getitem.lookup (wpAny_getItem_of (strKind_is X.prog X.w k t) m2 hw ⟨z, H, I.tok _, rw', q⟩) hs
end
end L2

set_option Elab.async false
set_option linter.all false
set_option maxRecDepth 100000
set_option maxHeartbeats 4000000
namespace L2
open PySem PySem.Spec PyProof.Rows
section
variable {X : Cx} {a b c e o : Expr} {ta tb tc te : TE} {pos p : Pos}

def mVar (i : Nat) : TE := fun σ H Q => match σ[i]? with
  | some (some v) => Q v H
  | _ => False
theorem mVar_eq (i : Nat) : mVar i = tVar i := by
  funext σ H Q
  refine propext ⟨fun h => ?_, fun ⟨v, e, h⟩ => ?_⟩
  · unfold mVar at h
    split at h
    · exact ⟨_, ‹_›, h⟩
    · exact h.elim
  · unfold mVar
    rw [e]
    exact h
theorem pn (i : Nat) {x : Str} {pos : Pos} (hN : X.N[i]? = some x := by rfl) (hv : Vis X.env.scope x := by first | exact Or.inl rfl | exact Or.inr (Or.inl rfl) | exact Or.inr (Or.inr rfl)) (hd : (x == ("__debug__" : Str)) = false := by decide)
    (hcd : (x == ("__classdict__" : Str)) = false := by decide) : PE X (.Name x pos) (mVar i) := by
  rw [mVar_eq]
  exact pe_var hN hv hd hcd

def mTest (t : TE) : TT := fun σ H Q => t σ H fun x H' => match x with
  | .bl k => Q k H'
  | _ => False
theorem mTest_eq (t : TE) : mTest t = tTest t := by
  funext σ H Q
  unfold mTest tTest
  congr 1
  funext x H'
  refine propext ⟨fun h => ?_, fun ⟨k, e, h⟩ => ?_⟩
  · split at h
    · exact ⟨_, rfl, h⟩
    · exact h.elim
  · subst e
    exact h
theorem mTest_eqB (t : TE) : mTest t = tB t := by rw [mTest_eq]; rfl
theorem pt_cmpM {op : CmpOp} {r : R2} (ho : OpR X (compareOp op) r) (ha : PE X a ta) (hb : PE X b tb) (hm : behindInMarks op b = false := by first | exact nomark _ | rfl) : PT X (.Compare a [op] [b] pos) (mTest (tOp r ta tb)) := by
  rw [mTest_eq]
  exact pt_cmpR ho ha hb hm
theorem pt_chainM {op op' : CmpOp} {r r' : R2} (ho : OpR X (compareOp op) r) (ho' : OpR X (compareOp op') r') (ha : PE X a ta) (hb : PE X b tb) (hc : PE X c tc)
    (hm : lastMarks [op, op'] [b, c] = false := by with_unfolding_all rfl) : PT X (.Compare a [op, op'] [b, c] pos) (mTest (tChain r r' ta tb tc)) := by
  rw [mTest_eq]
  exact pt_chain ho ho' ha hb hc hm
theorem pt_valM {e : Expr} {t : TE} (h : PE X e t) (he : ∀ whole, isTrue e X.env whole = (do let v ← whole; standAt e.pos; holding [v] (truthy v)) := by intro _; rfl) : PT X e (mTest t) := by
  rw [mTest_eqB]
  exact pt_val h he
def mTruth (K : PySem.W.Frag) (t : TE) : TT := fun σ H Q => t σ H fun x H' => ∃ k, TruV K x H' k ∧ Q k H'
def mAndV (ta tb : TE) : TE := fun σ H Q => ta σ H fun x H1 => match x with
  | .bl c => if c = true then tb σ H1 Q else Q (.bl false) H1
  | _ => False
def mOrV (ta tb : TE) : TE := fun σ H Q => ta σ H fun x H1 => match x with
  | .bl c => if c = true then Q (.bl true) H1 else tb σ H1 Q
  | _ => False
def mNotV (ta : TE) : TE := fun σ H Q => ta σ H fun x H1 => match x with
  | .bl c => Q (.bl (!c)) H1
  | _ => False
theorem mAndV_eq (ta tb : TE) : mAndV ta tb = tAndV ta tb := by
  funext σ H Q
  unfold mAndV tAndV
  congr 1
  funext x H'
  refine propext ⟨fun h => ?_, fun ⟨k, e, h⟩ => ?_⟩
  · split at h
    · exact ⟨_, rfl, h⟩
    · exact h.elim
  · subst e; exact h
theorem mOrV_eq (ta tb : TE) : mOrV ta tb = tOrV ta tb := by
  funext σ H Q
  unfold mOrV tOrV
  congr 1
  funext x H'
  refine propext ⟨fun h => ?_, fun ⟨k, e, h⟩ => ?_⟩
  · split at h
    · exact ⟨_, rfl, h⟩
    · exact h.elim
  · subst e; exact h
theorem mNotV_eq (ta : TE) : mNotV ta = tNotV ta := by
  funext σ H Q
  unfold mNotV tNotV
  congr 1
  funext x H'
  refine propext ⟨fun h => ?_, fun ⟨k, e, h⟩ => ?_⟩
  · split at h
    · exact ⟨_, rfl, h⟩
    · exact h.elim
  · subst e; exact h
theorem pe_andM {rest : List Expr} (ha : PE X a ta) (hb : PE X (.BoolOp .And (b :: rest) pos) tb) : PE X (.BoolOp .And (a :: b :: rest) pos) (mAndV ta tb) := by rw [mAndV_eq]; exact pe_and ha hb
theorem pe_orM {rest : List Expr} (ha : PE X a ta) (hb : PE X (.BoolOp .Or (b :: rest) pos) tb) : PE X (.BoolOp .Or (a :: b :: rest) pos) (mOrV ta tb) := by rw [mOrV_eq]; exact pe_or ha hb
theorem pe_notM (ha : PE X a ta) : PE X (.UnaryOp .Not a pos) (mNotV ta) := by rw [mNotV_eq]; exact pe_not ha
def mChain (r r' : R2) (ta tb tc : TE) : TE := fun σ H Q => ta σ H fun x H1 => tb σ H1 fun y H2 => r x y H2 fun z H3 => match z with
  | .bl k => if k = true then tc σ H3 fun w' H4 => r' y w' H4 Q else Q (.bl false) H3
  | _ => False
theorem mChain_eq (r r' : R2) (ta tb tc : TE) : mChain r r' ta tb tc = tChain r r' ta tb tc := by
  funext σ H Q
  unfold mChain tChain
  congr 1
  funext x H1
  congr 1
  funext y H2
  congr 1
  funext z H3
  refine propext ⟨fun h => ?_, fun ⟨k, e, h⟩ => ?_⟩
  · split at h
    · exact ⟨_, rfl, h⟩
    · exact h.elim
  · subst e; exact h
theorem pe_chainM {op op' : CmpOp} {r r' : R2} (ho : OpR X (compareOp op) r) (ho' : OpR X (compareOp op') r') (ha : PE X a ta) (hb : PE X b tb) (hc : PE X c tc)
    (hm : lastMarks [op, op'] [b, c] = false := by with_unfolding_all rfl) : PE X (.Compare a [op, op'] [b, c] pos) (mChain r r' ta tb tc) := by
  rw [mChain_eq]; exact pe_chain ho ho' ha hb hc hm

def gAdd (K : PySem.W.Frag) : R2 := fun x y H Q => match x, y with
  | .int i, .int j => Q (.int (i + j)) H
  | .str i, .str j => i.length + j.length ≤ sizeLine ∧ Q (.str (i ++ j)) H
  | .ref l, .ref b => (∃ xs zs, H l = some (.lst xs) ∧ H b = some (.lst zs) ∧ xs.length + zs.length ≤ sizeLine ∧ ∀ p, H p = none → Q (.ref p) (upd H p (.lst (xs ++ zs)))) ∨
      ∃ xs ys, SqT K H l xs ∧ SqT K H b ys ∧ xs ≠ [] ∧ xs.length + ys.length ≤ sizeLine ∧ (ys = [] → Q (.ref l) H) ∧ (ys ≠ [] → ∀ p, H p = none → Q (.ref p) (upd H p (.tup (xs ++ ys))))
  | _, _ => False
theorem og_add {K : PySem.W.Frag} (hK : X.K = K := by rfl) : OpR X (binaryOp .Add) (gAdd K) := by
  subst hK
  intro pins s σ H x y v u Q I rx ry h
  unfold gAdd at h
  split at h
  · exact op_add pins s σ H _ _ v u Q I rx ry ⟨_, _, rfl, rfl, h⟩
  · exact op_add_str pins s σ H _ _ v u Q I rx ry ⟨_, _, rfl, rfl, h.1, h.2⟩
  · rcases h with ⟨xs, zs, h1, h2, h3, h4⟩ | ⟨xs, ys, h1, h2, h3, h4, h5, h6⟩
    · exact op_cat pins s σ H _ _ v u Q I rx ry ⟨_, _, xs, zs, rfl, rfl, h1, h2, h3, h4⟩
    · exact op_catT pins s σ H _ _ v u Q I rx ry ⟨_, _, xs, ys, rfl, rfl, h1, h2, h3, h4, h5, h6⟩
  · exact h.elim
def gMinus : R2 := fun x y H Q => match x, y with
  | .int i, .int j => Q (.int (i - j)) H
  | _, _ => False
theorem og_sub : OpR X (binaryOp .Sub) gMinus := by
  intro pins s σ H x y v u Q I rx ry h
  unfold gMinus at h
  split at h
  · exact op_sub pins s σ H _ _ v u Q I rx ry ⟨_, _, rfl, rfl, h⟩
  · exact h.elim
def gMul : R2 := fun x y H Q => match x, y with
  | .int i, .int j => CMul i j ∧ Q (.int (i * j)) H
  | .str z, .int n => MulOk z n ∧ Q (.str (Txt.mul z n)) H
  | .ref l, .int k => ∃ xs, H l = some (.lst xs) ∧ -(2 ^ 63) ≤ k ∧ k < 2 ^ 63 ∧ xs.length * k.toNat ≤ sizeLine ∧ ∀ p, H p = none → Q (.ref p) (upd H p (.lst (List.replicate k.toNat xs).flatten))
  | _, _ => False
theorem og_mul : OpR X (binaryOp .Mult) gMul := by
  intro pins s σ H x y v u Q I rx ry h
  unfold gMul at h
  split at h
  · exact op_mul pins s σ H _ _ v u Q I rx ry ⟨_, _, rfl, rfl, h.1, h.2⟩
  · exact op_mul_str pins s σ H _ _ v u Q I rx ry ⟨_, _, rfl, rfl, h.1, h.2⟩
  · obtain ⟨xs, h1, h2, h3, h4, h5⟩ := h
    exact op_rep pins s σ H _ _ v u Q I rx ry ⟨_, _, xs, rfl, rfl, h1, h2, h3, h4, h5⟩
  · exact h.elim
def gDiv : R2 := fun x y H Q => match x, y with
  | .int i, .int j => CDiv i j ∧ Q (.int (i / j)) H
  | _, _ => False
theorem og_div : OpR X (binaryOp .FloorDiv) gDiv := by
  intro pins s σ H x y v u Q I rx ry h
  unfold gDiv at h
  split at h
  · exact op_fdiv pins s σ H _ _ v u Q I rx ry ⟨_, _, rfl, rfl, h.1, h.2⟩
  · exact h.elim
def gMod : R2 := fun x y H Q => match x, y with
  | .int i, .int j => 0 < j ∧ Q (.int (i % j)) H
  | _, _ => False
theorem og_mod : OpR X (binaryOp .Mod) gMod := by
  intro pins s σ H x y v u Q I rx ry h
  unfold gMod at h
  split at h
  · exact op_mod pins s σ H _ _ v u Q I rx ry ⟨_, _, rfl, rfl, h.1, h.2⟩
  · exact h.elim
def gIadd : R2 := fun x y H Q => match x, y with
  | .int i, .int j => Q (.int (i + j)) H
  | .str i, .str j => i.length + j.length ≤ sizeLine ∧ Q (.str (i ++ j)) H
  | _, _ => False
theorem og_iadd : PIp X .Add gIadd := by
  intro pins s σ H x y v u Q I rx ry h
  unfold gIadd at h
  split at h
  · exact iop_add pins s σ H _ _ v u Q I rx ry ⟨_, _, rfl, rfl, h⟩
  · exact iop_add_str pins s σ H _ _ v u Q I rx ry ⟨_, _, rfl, rfl, h.1, h.2⟩
  · exact h.elim
def mAug (i : Nat) (te : TE) (ti : TIp) : TS := fun D σ H => match σ[i]? with
  | some (some x) => te σ H fun y H1 => ti x y H1 fun z H2 => D.nx (σ.set i (some z)) H2
  | _ => False
theorem mAug_eq (i : Nat) (te : TE) (ti : TIp) : mAug i te ti = tAug i te ti := by
  funext D σ H
  refine propext ⟨fun h => ?_, fun ⟨v, e, h⟩ => ?_⟩
  · unfold mAug at h
    split at h
    · exact ⟨_, ‹_›, h⟩
    · exact h.elim
  · unfold mAug
    rw [e]
    exact h
theorem ps_augM {i : Nat} {x : Str} {op : Operator} {ti : TIp} {pos' : Pos} (hN : X.N.Nodup) (hi : X.N[i]? = some x) (hx : Loc X.env.scope x) (he : PE X e te) (ho : PIp X op ti) (hf : X.fn x = true ∨ X.env.scope.names.lookup x = some .local := by first | exact .inl rfl | exact .inr rfl | assumption) :
    PS X (.AugAssign (.Name x pos') op e pos) (mAug i te ti) := by
  rw [mAug_eq]; exact ps_aug hN hi hx he ho hf

def gEq (K : PySem.W.Frag) (neg : Bool) : R2 := fun x y H Q => match x, y with
  | .int i, .int j => Q (.bl (neg ^^ decide (i = j))) H
  | .str i, .str j => Q (.bl (neg ^^ decide (i = j))) H
  | .bl i, .bl j => Q (.bl (neg ^^ decide (i = j))) H
  | .ref i, .ref j => ∃ da db, DatV K H (.ref i) da ∧ DatV K H (.ref j) db ∧ da.canLay0 = true ∧ db.canLay0 = true ∧ min da.depth db.depth ≤ 60 ∧ Q (.bl (neg ^^ PyData.eqv da db)) H
  | _, _ => False
theorem og_eq (hu : X.A.units + 64 < cLine) {K : PySem.W.Frag} (hK : X.K = K := by rfl) : OpR X (compareOp .Eq) (gEq K false) := by
  subst hK
  intro pins s σ H x y v u Q I rx ry h
  unfold gEq at h
  split at h
  · refine op_eq pins s σ H _ _ v u Q I rx ry ⟨rfl, ?_⟩
    simpa using h
  · refine op_eq pins s σ H _ _ v u Q I rx ry ⟨rfl, ?_⟩
    simpa using h
  · refine op_eq pins s σ H _ _ v u Q I rx ry ⟨rfl, ?_⟩
    simpa using h
  · obtain ⟨da, db, h1, h2, h3, h4, h5, h6⟩ := h
    exact op_eqD hu pins s σ H _ _ v u Q I rx ry ⟨da, db, h1, h2, h3, h4, h5, by simpa using h6⟩
  · exact h.elim
theorem og_ne (hu : X.A.units + 64 < cLine) {K : PySem.W.Frag} (hK : X.K = K := by rfl) : OpR X (compareOp .NotEq) (gEq K true) := by
  subst hK
  intro pins s σ H x y v u Q I rx ry h
  unfold gEq at h
  split at h
  · refine op_ne pins s σ H _ _ v u Q I rx ry ⟨rfl, ?_⟩
    simpa using h
  · refine op_ne pins s σ H _ _ v u Q I rx ry ⟨rfl, ?_⟩
    simpa using h
  · refine op_ne pins s σ H _ _ v u Q I rx ry ⟨rfl, ?_⟩
    simpa using h
  · obtain ⟨da, db, h1, h2, h3, h4, h5, h6⟩ := h
    exact op_neD hu pins s σ H _ _ v u Q I rx ry ⟨da, db, h1, h2, h3, h4, h5, by simpa using h6⟩
  · exact h.elim
def gLt : R2 := fun x y H Q => match x, y with
  | .int i, .int j => Q (.bl (decide (i < j))) H
  | .str i, .str j => Q (.bl (decide (i.cps.toList < j.cps.toList))) H
  | _, _ => False
theorem og_lt : OpR X (compareOp .Lt) gLt := by
  intro pins s σ H x y v u Q I rx ry h
  unfold gLt at h
  split at h
  · exact op_lt pins s σ H _ _ v u Q I rx ry ⟨_, _, rfl, rfl, h⟩
  · exact op_lt_str pins s σ H _ _ v u Q I rx ry ⟨_, _, rfl, rfl, h⟩
  · exact h.elim
def gLe : R2 := fun x y H Q => match x, y with
  | .int i, .int j => Q (.bl (decide (i ≤ j))) H
  | .str i, .str j => Q (.bl (!decide (j.cps.toList < i.cps.toList))) H
  | _, _ => False
theorem og_le : OpR X (compareOp .LtE) gLe := by
  intro pins s σ H x y v u Q I rx ry h
  unfold gLe at h
  split at h
  · exact op_le pins s σ H _ _ v u Q I rx ry ⟨_, _, rfl, rfl, h⟩
  · exact op_le_str pins s σ H _ _ v u Q I rx ry ⟨_, _, rfl, rfl, h⟩
  · exact h.elim
def gGt : R2 := fun x y H Q => match x, y with
  | .int i, .int j => Q (.bl (decide (j < i))) H
  | _, _ => False
theorem og_gt : OpR X (compareOp .Gt) gGt := by
  intro pins s σ H x y v u Q I rx ry h
  unfold gGt at h
  split at h
  · exact op_gt pins s σ H _ _ v u Q I rx ry ⟨_, _, rfl, rfl, h⟩
  · exact h.elim
def gGe : R2 := fun x y H Q => match x, y with
  | .int i, .int j => Q (.bl (decide (j ≤ i))) H
  | _, _ => False
theorem og_ge : OpR X (compareOp .GtE) gGe := by
  intro pins s σ H x y v u Q I rx ry h
  unfold gGe at h
  split at h
  · exact op_ge pins s σ H _ _ v u Q I rx ry ⟨_, _, rfl, rfl, h⟩
  · exact h.elim
def gIn (K : PySem.W.Frag) (neg : Bool) : R2 := fun x y H Q => match y with
  | .str j => (match x with
    | .str i => Q (.bl (neg ^^ !(Builtin.Str.occurrences j i 0 j.length 1).isEmpty)) H
    | _ => False)
  | .ref p => ∃ xs, (SqL K H p xs ∨ SqT K H p xs) ∧ flatV x = true ∧ xs.all flatV = true ∧ Q (.bl (neg ^^ inV x xs)) H
  | _ => False
theorem og_in {K : PySem.W.Frag} (hK : X.K = K := by rfl) : OpR X (compareOp .In) (gIn K false) := by
  subst hK
  intro pins s σ H x y v u Q I rx ry h
  unfold gIn at h
  split at h
  · split at h
    · refine op_in_str pins s σ H _ _ v u Q I rx ry ⟨_, _, rfl, rfl, ?_⟩
      simpa using h
    · exact h.elim
  · obtain ⟨xs, h1, h2, h3, h4⟩ := h
    exact op_in_seq pins s σ H _ _ v u Q I rx ry ⟨_, xs, rfl, h1, h2, h3, by simpa using h4⟩
  · exact h.elim
theorem og_notin {K : PySem.W.Frag} (hK : X.K = K := by rfl) : OpR X (compareOp .NotIn) (gIn K true) := by
  subst hK
  intro pins s σ H x y v u Q I rx ry h
  unfold gIn at h
  split at h
  · split at h
    · refine op_notin_str pins s σ H _ _ v u Q I rx ry ⟨_, _, rfl, rfl, ?_⟩
      simpa using h
    · exact h.elim
  · obtain ⟨xs, h1, h2, h3, h4⟩ := h
    exact op_notIn_seq pins s σ H _ _ v u Q I rx ry ⟨_, xs, rfl, h1, h2, h3, by simpa using h4⟩
  · exact h.elim
def gIs (neg : Bool) : R2 := fun x y H Q => match y with
  | .non => (match x with
    | .non => Q (.bl (neg ^^ true)) H
    | _ => Q (.bl (neg ^^ false)) H)
  | _ => False
theorem og_is : OpR X (compareOp .Is) (gIs false) := by
  intro pins s σ H x y v u Q I rx ry h
  unfold gIs at h
  split at h
  · refine op_isN pins s σ H _ _ v u Q I rx ry ⟨rfl, ?_⟩
    split at h
    · exact h
    · rename_i hn
      have e : decide (x = V.non) = false := decide_eq_false hn
      rw [e]
      exact h
  · exact h.elim
def gIx (K : PySem.W.Frag) (w : World) : R2 := fun x y H Q => match x, y with
  | .ref q, .int i => (∃ xs v, SqL K H q xs ∧ atI xs i = some v ∧ Q v H) ∨ ∃ xs v, SqT K H q xs ∧ atI xs i = some v ∧ Q v H
  | .str z, .int i => z.length ≤ sizeLine ∧ ∃ c, atI z.cps.toList i = some c ∧ Q (.str ⟨#[c]⟩) H
  | .ref q, .str k => (∃ kvs v, KTab K w q kvs ∧ kvs.lookup k = some v ∧ Q v H) ∨ ∃ (kvs : List (Key × V)) (v : V), H q = some (.dK kvs) ∧ valV kvs (Sum.inr k) = some v ∧ Q v H
  | _, _ => False
theorem og_ix (hu : X.A.units + 64 < cLine) {K : PySem.W.Frag} {w : World} (hK : X.K = K := by rfl) (hw : X.w = w := by rfl) : IxR X (gIx K w) := by
  subst hK
  subst hw
  intro value slice pins s σ H x y v u Q I rx ry h hs
  unfold gIx at h
  split at h
  · rcases h with ⟨xs, z, h1, h2, h3⟩ | ⟨xs, z, h1, h2, h3⟩
    · exact ix_list value slice pins s σ H _ _ v u Q I rx ry ⟨_, xs, _, z, rfl, rfl, h1, h2, h3⟩ hs
    · exact ix_tup value slice pins s σ H _ _ v u Q I rx ry ⟨_, xs, _, z, rfl, rfl, h1, h2, h3⟩ hs
  · obtain ⟨hz, c, h1, h2⟩ := h
    exact ix_str value slice pins s σ H _ _ v u Q I rx ry ⟨_, _, c, rfl, rfl, hz, h1, h2⟩ hs
  · rcases h with ⟨kvs, z, h1, h2, h3⟩ | ⟨kvs, z, h1, h2, h3⟩
    · exact ix_ktab value slice pins s σ H _ _ v u Q I rx ry ⟨_, kvs, _, z, rfl, rfl, h1, h2, h3⟩ hs
    · cases rx
      have hd := dk_of I.hok h1
      obtain ⟨_, _, vs, _, dd⟩ := hd
      exact tail_any dd.typeIs slot_dict_getitem.lookup (d_getItem (y := kV (Sum.inr _)) (v := z) (by omega) I (.inl ⟨kvs, _, .inl h1, rfl, h2.symm⟩) ry fun w' s' I' rw' => ⟨z, H, I', rw', h3⟩) hs
  · exact h.elim
def gSl (K : PySem.W.Frag) : V → Option Int → Option Int → Hp → VK → Prop := fun x lo hi H Q => match x with
  | .str z => z.length ≤ sizeLine ∧ Q (.str (Txt.slice z lo hi)) H
  | .ref a => ∃ xs, SqL K H a xs ∧ ∀ p, H p = none → Q (.ref p) (upd H p (.lst (cutV xs lo hi)))
  | _ => False
theorem og_sl {K : PySem.W.Frag} (hK : X.K = K := by rfl) : SlR X (gSl K) := by
  subst hK
  intro pins s σ H x v vl vu lo hi sl Q I rx hs pl pu h
  unfold gSl at h
  split at h
  · exact sl_str pins s σ H _ v vl vu lo hi sl Q I rx hs pl pu ⟨_, rfl, h.1, h.2⟩
  · obtain ⟨xs, h1, h2⟩ := h
    exact sl_list pins s σ H _ v vl vu lo hi sl Q I rx hs pl pu ⟨_, xs, rfl, h1, h2⟩
  · exact h.elim
def mPart (t : TE) : TO := fun σ H Q => t σ H fun x H1 => match x with
  | .int i => Q (some i) H1
  | _ => False
theorem mPart_eq (t : TE) : mPart t = tPart t := by
  funext σ H Q
  unfold mPart tPart
  congr 1
  funext x H'
  refine propext ⟨fun h => ?_, fun ⟨k, e, h⟩ => ?_⟩
  · split at h
    · exact ⟨_, rfl, h⟩
    · exact h.elim
  · subst e; exact h
theorem po_someM (h : PE X e te) : PO X (some e) (mPart te) := by rw [mPart_eq]; exact po_some h

def gLen (K : PySem.W.Frag) : List V → Hp → VK → Prop := fun xs H Q => match xs with
  | [.str y] => y.length ≤ sizeLine ∧ Q (.int y.length) H
  | [.ref p] => ∃ ys, (SqL K H p ys ∨ SqT K H p ys) ∧ Q (.int ys.length) H
  | _ => False
theorem cg_len {K : PySem.W.Frag} (hK : X.K = K := by rfl) : CallR X (.builtin "len") (gLen K) := by
  subst hK
  intro pins s σ H xs us Q I r h
  unfold gLen at h
  split at h
  · exact call_len_str pins s σ H _ us Q I r ⟨_, rfl, h.1, h.2⟩
  · obtain ⟨ys, h1, h2⟩ := h
    exact call_len_seq pins s σ H _ us Q I r ⟨_, ys, rfl, h1, h2⟩
  · exact h.elim
def gOrd : List V → Hp → VK → Prop := fun xs H Q => match xs with
  | [.str x] => x.length = 1 ∧ Q (.int (x.cps.getD 0 0 : Nat)) H
  | _ => False
theorem cg_ord : CallR X (.builtin "ord") gOrd := by
  intro pins s σ H xs us Q I r h
  unfold gOrd at h
  split at h
  · exact call_ord pins s σ H _ us Q I r ⟨_, rfl, h.1, h.2⟩
  · exact h.elim
def gMax : List V → Hp → VK → Prop := fun xs H Q => match xs with
  | [.int i, .int j] => Q (.int (max i j)) H
  | _ => False
theorem cg_max (hc : X.calm = true) : CallR X (.builtin "max") gMax := by
  intro pins s σ H xs us Q I r h
  unfold gMax at h
  split at h
  · rename_i i j
    refine call_max2 hc pins s σ H _ us Q I r ⟨i, j, rfl, ?_⟩
    have e : (if j > i then j else i) = max i j := by split <;> omega
    rw [e]; exact h
  · exact h.elim
def gMin : List V → Hp → VK → Prop := fun xs H Q => match xs with
  | [.int i, .int j] => Q (.int (min i j)) H
  | _ => False
theorem cg_min (hc : X.calm = true) : CallR X (.builtin "min") gMin := by
  intro pins s σ H xs us Q I r h
  unfold gMin at h
  split at h
  · rename_i i j
    refine call_min2 hc pins s σ H _ us Q I r ⟨i, j, rfl, ?_⟩
    have e : (if j < i then j else i) = min i j := by split <;> omega
    rw [e]; exact h
  · exact h.elim
def gJoin (K : PySem.W.Frag) : V → List V → Hp → VK → Prop := fun x vs H Q => match x, vs with
  | .str sep, [.ref l] => ∃ texts : List Str, SqL K H l (texts.map V.str) ∧ JoinOk sep texts = true ∧ Q (.str (Txt.join sep texts)) H
  | _, _ => False
theorem mg_join {K : PySem.W.Frag} (hK : X.K = K := by rfl) : MtR X "str.join" (gJoin K) := by
  subst hK
  intro pins s σ H x xs v us Q I rx rs h
  unfold gJoin at h
  split at h
  · obtain ⟨texts, h1, h2, h3⟩ := h
    exact mt_join pins s σ H _ _ v us Q I rx rs ⟨_, _, texts, rfl, rfl, h1, h2, h3⟩
  · exact h.elim
def gSplit : V → List V → Hp → VK → Prop := fun x vs H Q => match x, vs with
  | .str z, [.str y] => y.length ≠ 0 ∧ z.length < sizeLine ∧ (Txt.split z y).length ≤ sizeLine ∧ ∀ l, H l = none → Q (.ref l) (upd H l (.lst ((Txt.split z y).map V.str)))
  | _, _ => False
theorem mg_split : MtR X "str.split" gSplit := by
  intro pins s σ H x xs v us Q I rx rs h
  unfold gSplit at h
  split at h
  · obtain ⟨h1, h2, h3, h4⟩ := h
    exact mt_split pins s σ H _ _ v us Q I rx rs ⟨_, _, rfl, rfl, h1, h2, h3, h4⟩
  · exact h.elim
def gAppend : V → List V → Hp → VK → Prop := fun x vs H Q => match x, vs with
  | .ref l, [y] => ∃ xs, H l = some (.lst xs) ∧ xs.length < sizeLine ∧ Q .non (upd H l (.lst (xs ++ [y])))
  | _, _ => False
theorem mg_append : MtR X "list.append" gAppend := by
  intro pins s σ H x xs v us Q I rx rs h
  unfold gAppend at h
  split at h
  · obtain ⟨ys, h1, h2, h3⟩ := h
    exact mt_append pins s σ H _ _ v us Q I rx rs ⟨_, ys, _, rfl, rfl, h1, h2, h3⟩
  · exact h.elim
end
end L2

namespace L2
open PySem PySem.Spec PyProof.Rows
section
variable {X : Cx} {tg : Expr}
def iAny (K : PySem.W.Frag) (tl : TE) : TI := fun σ H R => tl σ H fun x H1 => match x with
  | .str z => R (Its z) H1
  | .ref a => ((∃ xs, SqL K H1 a xs) ∧ R (Itl K a) H1) ∨ ((∃ xs, SqT K H1 a xs) ∧ R (Itt K a) H1)
  | _ => False
theorem pi_any {l : Expr} {tl : TE} (hl : PE X l tl) {K : PySem.W.Frag} (hK : X.K = K := by rfl) : PI X tg l (iAny K tl) := by
  subst hK
  intro pins s σ H R I h
  refine thn (hl pins s σ H _ I h) fun v s1 ⟨x, H1, I1, r1, q1⟩ => ?_
  dsimp only at q1
  split at q1
  · rename_i z
    obtain ⟨t, rfl⟩ := r1
    have fin : ∀ b ∈ [s1.heap.objs.size], FpOk X pins H1 b := fun b hb => by
      have e : b = s1.heap.objs.size := by simpa using hb
      subst e
      exact I1.fpOk (Nat.le_refl _) (I1.hok.fresh (Nat.le_refl _))
    cases ha : z.cps.all (· < 128)
    · refine wpAny_pyIter_wide ha ?_
      exact ⟨s1.heap.objs.size, [s1.heap.objs.size], _, _, H1, rfl, I1.kept (t' := s1.toks) fun b o e => Heap.get?_push_of_some _ e,
        turn_str "str_iterator" _ z t (fun A' hA => Walks.strWide hA _ z t) (fun A i s Q E st h => wpAny_pyIter_striter_wide st h) (by decide), ⟨_, Heap.get?_push_size _ rfl, rfl, rfl⟩, fin, q1⟩
    · refine wpAny_pyIter_ascii ha ?_
      exact ⟨s1.heap.objs.size, [s1.heap.objs.size], _, _, H1, rfl, I1.kept (t' := s1.toks) fun b o e => Heap.get?_push_of_some _ e,
        turn_str "str_ascii_iterator" _ z t (fun A' hA => Walks.strAscii hA _ z t) (fun A i s Q E st h => wpAny_pyIter_striter_ascii st h) (by decide), ⟨_, Heap.get?_push_size _ rfl, rfl, rfl⟩, fin, q1⟩
  · rename_i a
    cases r1
    have fin : ∀ b ∈ [s1.heap.objs.size], FpOk X pins H1 b := fun b hb => by
      have e : b = s1.heap.objs.size := by simpa using hb
      subst e
      exact I1.fpOk (Nat.le_refl _) (I1.hok.fresh (Nat.le_refl _))
    rcases q1 with ⟨⟨xs, hq⟩, q⟩ | ⟨⟨xs, hq⟩, q⟩
    · obtain ⟨its, rv, p, hz⟩ := I1.list hq
      refine wpAny_pyIter_list p.isList ?_
      exact ⟨s1.heap.objs.size, [s1.heap.objs.size], _, _, H1, rfl, I1.kept (t' := s1.toks) fun b o e => Heap.get?_push_of_some _ e, turn_list a _, ⟨_, Heap.get?_push_size _ rfl, rfl, rfl⟩, fin, q⟩
    · obtain ⟨its, rv, p, hz⟩ := I1.tuple hq
      refine wpAny_pyIter_tuple (show s1.heap.IsTuple a its.toArray from p) ?_
      exact ⟨s1.heap.objs.size, [s1.heap.objs.size], _, _, H1, rfl, I1.kept (t' := s1.toks) fun b o e => Heap.get?_push_of_some _ e, turn_tuple a _, ⟨_, Heap.get?_push_size _ rfl, rfl, rfl⟩, fin, q⟩
  · exact q1.elim
def mRng1 (ta : TA) : TI := fun σ H R => ta σ H fun vs H1 => match vs with
  | [.int j] => -(2 ^ 62) ≤ j ∧ j < 2 ^ 62 ∧ R (Itr 0 j.toNat) H1
  | _ => False
theorem mRng1_eq (ta : TA) : mRng1 ta = iRng1 ta := by
  funext σ H R
  unfold mRng1 iRng1
  congr 1
  funext vs H'
  refine propext ⟨fun h => ?_, fun ⟨k, e, h⟩ => ?_⟩
  · split at h
    · exact ⟨_, rfl, h⟩
    · exact h.elim
  · subst e; exact h
theorem pi_rng1 {a : Expr} {ta : TA} {p pos : Pos} (hg : Gl X "range") (hm : X.mg "range" = none) (ha : PA X [a] ta) (hs : starEach [a] X.env = [(false, eval a X.env)] := by rfl) : PI X tg (.Call (.Name "range" p) [a] [] pos) (mRng1 ta) := by
  rw [mRng1_eq]; exact pi_range1 hg hm ha hs

def noStar : Expr → Bool
  | .Starred .. => false
  | _ => true
def noStars : List Expr → Bool
  | [] => true
  | e :: r => noStar e && noStars r
theorem starEach_cons {e : Expr} {es : List Expr} {env : Env} (h : noStar e = true) : starEach (e :: es) env = (false, eval e env) :: starEach es env := by
  cases e <;> first | rfl | exact absurd h Bool.false_ne_true
theorem stars_none : ∀ {es : List Expr} {env : Env}, noStars es = true → ∀ x ∈ starEach es env, x.1 = false
  | [], env, _, x, hx => by
    have : starEach [] env = [] := rfl
    rw [this] at hx
    exact nomatch hx
  | e :: r, env, h, x, hx => by
    have h' : noStar e = true ∧ noStars r = true := by simpa [noStars] using h
    rw [starEach_cons h'.1] at hx
    rcases List.mem_cons.mp hx with q | q
    · rw [q]
    · exact stars_none h'.2 x q
theorem back_any {es : List Expr} {env : Env} {pos : Pos} (h : noStars es = true) : (backTo pos (starEach es env)).any (·.1) = false := by
  rw [List.any_eq_false]
  intro x hx
  unfold backTo at hx
  obtain ⟨y, hy, e⟩ := List.mem_map.mp hx
  have := stars_none h y hy
  obtain ⟨b, t⟩ := y
  dsimp only at e this
  rw [← e, this]
  exact Bool.false_ne_true
theorem back_all {es : List Expr} {env : Env} {pos : Pos} (h : noStars es = true) : (backTo pos (starEach es env)).all (fun x => !x.1) = true := by
  rw [List.all_eq_true]
  intro x hx
  unfold backTo at hx
  obtain ⟨y, hy, e⟩ := List.mem_map.mp hx
  have := stars_none h y hy
  obtain ⟨b, t⟩ := y
  dsimp only at e this
  rw [← e, this]
  rfl
def notSuper : Expr → Bool
  | .Call (.Name _ _) [] [] _ => false
  | _ => true
theorem base_of {o : Expr} {attr : Str} {env : Env} {whole : Sem Value} (h : notSuper o = true) : attributeBase o attr env whole = whole := by
  unfold attributeBase
  split
  · exact absurd h Bool.false_ne_true
  · rfl
theorem pa_consM {es : List Expr} {t : TA} (ha : PE X e te) (hr : PA X es t) (h : noStar e = true := by rfl) : PA X (e :: es) (tCons te t) := pa_cons ha hr (starEach_cons h)
theorem pe_callBM {x : Str} {id : String} {r : List V → Hp → VK → Prop} {es : List Expr} {t : TA} {p pos : Pos} (hc : CallR X (.builtin id) r) (hg : Gl X x) (hm : X.mg x = none) (hv : bootBuiltins x = some (.builtin id)) (ha : PA X (e :: es) t) (hn : x ≠ "__name__" := by decide) (hdb : (x == ("__debug__" : Str)) = false := by decide)
    (h : noStars (e :: es) = true := by rfl) : PE X (.Call (.Name x p) (e :: es) [] pos) (tCB r t) := by
  have h' : noStar e = true ∧ noStars es = true := by simpa [noStars] using h
  exact pe_callB hc hg hm hv ha hn hdb (starEach_cons h'.1) (back_any h'.2)
theorem pe_callTyM {x : Str} {T : String} {r : List V → Hp → VK → Prop} {es : List Expr} {t : TA} {p pos : Pos} (hc : CallR X (.type T) r) (hg : Gl X x) (hm : X.mg x = none) (hv : bootBuiltins x = some (.type T)) (ha : PA X (e :: es) t) (hn : x ≠ "__name__" := by decide) (hdb : (x == ("__debug__" : Str)) = false := by decide)
    (h : noStars (e :: es) = true := by rfl) : PE X (.Call (.Name x p) (e :: es) [] pos) (tCB r t) := by
  have h' : noStar e = true ∧ noStars es = true := by simpa [noStars] using h
  exact pe_callTy hc hg hm hv ha hn hdb (starEach_cons h'.1) (back_any h'.2)
theorem pe_bmK {K : PySem.W.Frag} {o e : Expr} {es : List Expr} {to : TE} {t : TA} {name : Str} {apos cpos : Pos} {T id : String} {r : V → List V → Hp → VK → Prop} (pa : PlainAttrs T) (slot : Slot T name id) (hty : typeOf (.builtin id) = pure (.type "method_descriptor")) (hm : MtR X id r) (ho : PE X o to) (ha : PA X (e :: es) t) (hK : X.K = K := by rfl)
    (hsup : notSuper o = true := by rfl) (h : noStars (e :: es) = true := by rfl) (h30 : (e :: es).length < 30 := by decide) (hline : (apos.endLine == cpos.line) = true := by rfl) :
    PE X (.Call (.Attribute o name apos) (e :: es) [] cpos) (tBM K T r to t) := by
  subst hK
  have h' : noStar e = true ∧ noStars es = true := by simpa [noStars] using h
  refine pe_bm pa slot hty hm ho ha (base_of hsup) ?_ hline (starEach_cons h'.1) (back_any h'.2)
  rw [back_all h]
  have e0 : keywordEach [] X.env = [] := rfl
  rw [e0]
  simpa [backToKw] using h30
theorem pg_tupK {K : PySem.W.Frag} {es : List Expr} {k : Nat} {t : TGs} {n : Nat} {pos : Pos} (hc : X.calm = true) (h : PGs X es t) (hK : X.K = K := by rfl)
    (hn : (assignEach es X.env).length = n := by rfl) (hst : (assignEach es X.env).findIdx? (·.1) = none := by rfl) : PG X (.Tuple es k pos) (gTup K n t) := by
  subst hK
  exact pg_tup hc h hn hst
theorem pe_kget1K {K : PySem.W.Frag} {w : World} {o e : Expr} {apos cpos : Pos} {td ty : TE} (ho : PE X o td) (he : PE X e ty) (m : M1 X o "get" apos e cpos) (hK : X.K = K := by rfl) (hw : X.w = w := by rfl) : PE X (.Call (.Attribute o "get" apos) [e] [] cpos) (tKGet1 K w td ty) := by
  subst hK hw
  exact pe_kget1 ho he m
structure Def (P : Program) (w : World) (K : PySem.W.Frag) (mg : Str → Option Value) (base : Heap) (k : Nat) (x : Str) (ps : List Str) (sp : Sp) : Prop where
  ex : ∃ f fd, mg x = some (.ref f) ∧ PySem.W.keepIn K (.ref f) = true ∧ (∃ oc od osl, K.lookup f = some ⟨oc, od, .func fd, osl⟩) ∧ Binds K fd ps [] ∧ FnOk P w K mg base CX0 k f fd ps sp
theorem pe_def {k : Nat} {x : Str} {ps : List Str} {sp : Sp} {e : Expr} {es : List Expr} {t : TA} {p pos : Pos} (D : Def X.prog X.w X.K X.mg X.base k x ps sp) (hr : Room k X.A) (hg : Gl X x) (ha : PA X (e :: es) t) (hdb : (x == ("__debug__" : Str)) = false := by decide)
    (hst : noStars (e :: es) = true := by rfl) (hx : Passes CX0 X E0 := by exact pass0) :
    PE X (.Call (.Name x p) (e :: es) [] pos) (fun σ H Q => t σ H fun vs H1 => sp vs H1 Q E0) := by
  obtain ⟨f, fd, mgf, kp, _, b, G⟩ := D.ex
  have h' : noStar e = true ∧ noStars es = true := by simpa [noStars] using hst
  have he := starEach_cons (es := es) (env := X.env) h'.1
  have hpl := back_any (env := X.env) (pos := pos) h'.2
  have h := pe_call (X := X) (dvs := []) (E := E0) (p := p) (pos := pos) G hr hg mgf kp b .nil hx ha hdb he hpl
  intro pins s σ H Q I hq
  refine h pins s σ H Q I ?_
  show t σ H fun vs H1 => sp (vs ++ []) H1 Q E0
  have e1 : (fun (vs : List V) H1 => sp (vs ++ []) H1 Q E0) = fun vs H1 => sp vs H1 Q E0 := by funext vs H1; rw [List.append_nil]
  rw [e1]
  exact hq
end
theorem Fun.lk {K : PySem.W.Frag} {x qual : Str} {st : Stmt} {f : Addr} {fd : FuncData} (F : Fun K x qual st f fd) : ∃ oc od osl, K.lookup f = some ⟨oc, od, .func fd, osl⟩ := by
  obtain ⟨oc, od, kV, doc, pm, an, cdv, ct, osl, _, lk, _⟩ := F.ex
  exact ⟨oc, od, osl, lk⟩
structure Raw (K : PySem.W.Frag) (mg : Str → Option Value) (x : Str) (st : Stmt) (ps : List Str) : Prop where
  ex : ∃ f fd, mg x = some (.ref f) ∧ Fun K x x st f fd ∧ ∀ (us : List Value), us.length = ps.length → bindArgs fd ⟨us, []⟩ = pure (ps.zip us)
theorem Raw.mk' {K : PySem.W.Frag} {mg : Str → Option Value} {h : Heap} {x : Str} {st : Stmt} {ps : List Str} {f : Addr} {oc : Value} {od an : Option Addr} {osl : Array (Option Value)} {kV doc pm cdv ct : Value} (X : K.In h) (G : h.Ns mainGlobals mg)
    (a : PySem.W.nsIn K mainGlobals x = some (some (.ref f))) (l : K.lookup f = some ⟨oc, od, .func (PySem.W.fnOf x x (defArgs st) (defBody st) (defScope st) .none kV doc pm an cdv ct), osl⟩)
    (c : PySem.W.codeIn K cdv x = true) (k : PySem.W.keepIn K (.ref f) = true)
    (hb : ∀ (us : List Value), us.length = ps.length → bindArgs (PySem.W.fnOf x x (defArgs st) (defBody st) (defScope st) .none kV doc pm an cdv ct) ⟨us, []⟩ = pure (ps.zip us)) : Raw K mg x st ps :=
  ⟨⟨f, _, PySem.W.mg_of X G a, fun_mk l c k, hb⟩⟩
theorem Raw.def {P : Program} {w : World} {K : PySem.W.Frag} {mg : Str → Option Value} {base : Heap} {x : Str} {st : Stmt} {N ps : List Str} {k : Nat} {sp : Sp} (R : Raw K mg x st ps) (S : FnScope N ps (defScope st)) (len : ∀ vs H Q E, sp vs H Q E → vs.length = ps.length)
    (hbody : ∀ (f : Addr) (cdv : Value) (A : Around) (outer : List Env) (s : Shared) (H : Hp) (vs : List V) (Q : VK) (E : XK), Room k (A.deeper (envOfC x (defScope st) s.heap.objs.size f cdv)) → sp vs H Q E →
      ∃ t, PSs (cxOf CX0 P w K mg base N x (defScope st) f cdv A outer s H E).nox (defBody st) t ∧ t { nx := fun _ H' => Q .non H', rt := Q } (start N vs) H) : Def P w K mg base (k + 1) x ps sp := by
  obtain ⟨f, fd, h1, F, b⟩ := R.ex
  exact ⟨f, fd, h1, F.kp, F.lk, .all b, F.ok S len (fun cdv => hbody f cdv)⟩
theorem Def.at {P : Program} {w : World} {K : PySem.W.Frag} {mg : Str → Option Value} {base : Heap} {k : Nat} {x : Str} {ps : List Str} {sp : Sp} {f : Addr} {fd : FuncData} (D : Def P w K mg base k x ps sp) (h : mg x = some (.ref f))
    (l : ∃ oc od osl, K.lookup f = some ⟨oc, od, .func fd, osl⟩) : FnOk P w K mg base CX0 k f fd ps sp := by
  obtain ⟨f', fd', h', _, ⟨oc', od', osl', l'⟩, _, F⟩ := D.ex
  obtain ⟨oc, od, osl, l⟩ := l
  cases h.symm.trans h'
  have e := l.symm.trans l'
  simp only [Option.some.injEq, Obj.mk.injEq, Data.func.injEq] at e
  rw [e.2.2.1]
  exact F
section
variable {K : PySem.W.Frag} {w : World} {mg : Str → Option Value} {h : Heap} {x : Str}
theorem int_mk {i : Int} {t : Tok} (X : K.In h) (G : h.Ns mainGlobals mg) (a : PySem.W.nsIn K mainGlobals x = some (some (.int i t))) : ∃ t, mg x = some (.int i t) := ⟨_, PySem.W.mg_of X G a⟩
theorem str_mk {i : Str} {t : Tok} (X : K.In h) (G : h.Ns mainGlobals mg) (a : PySem.W.nsIn K mainGlobals x = some (some (.str i t))) : ∃ t, mg x = some (.str i t) := ⟨_, PySem.W.mg_of X G a⟩
theorem dict_mk {b : Addr} {es : Array DictEntry} {n : Nat} {kvs : List (Str × V)} (X : K.In h) (G : h.Ns mainGlobals mg) (a : PySem.W.nsIn K mainGlobals x = some (some (.ref b))) (l : K.lookup b = some ⟨.type "dict", none, .dict es n, #[]⟩)
    (k : PySem.W.KeysLit w.params es.toList) (p : Paired (fun (p : Str × V) (e : DictEntry) => (∃ t, e.key = .str p.1 t) ∧ RelV p.2 e.val) kvs es.toList) (s : (b == sysModules) = false) : ∃ t, mg x = some (.ref t) ∧ KTab K w t kvs :=
  ⟨_, PySem.W.mg_of X G a, ⟨es, n, l, k, p⟩, s⟩
theorem tup_mk {b : Addr} {od : Option Addr} {its : Array Value} {n : Nat} {osl : Array (Option Value)} {xs : List V} (X : K.In h) (G : h.Ns mainGlobals mg) (a : PySem.W.nsIn K mainGlobals x = some (some (.ref b))) (l : K.lookup b = some ⟨.type "tuple", od, .seq its n, osl⟩)
    (z : its.size ≤ sizeLine) (v : Vals xs its.toList) : ∃ t, mg x = some (.ref t) ∧ ∀ H, SqT K H t xs :=
  ⟨_, PySem.W.mg_of X G a, fun H => .inr ⟨_, its, n, l, rfl, rfl, z, v⟩⟩
end
end L2

set_option Elab.async false
set_option linter.all false
set_option maxRecDepth 100000
set_option maxHeartbeats 4000000
namespace L2
open PySem PySem.Spec PyProof.Rows

theorem same_upd {H H' : Hp} {p : Addr} {o : HO} (e : Same H H') (h : H p = none) : Same H (upd H' p o) := fun b u q => by
  rw [upd_ne (ne_of_none q h)]
  exact e b u q
theorem same_new {H : Hp} {p : Addr} {o : HO} (h : H p = none) : Same H (upd H p o) := same_upd (Same.refl H) h
section
variable {cap : List (Option Nat)} {g : TG} {tc : TT} {te : TE} {Q : Addr → Hp → Prop} {σ : St} {H : Hp}
theorem gath_of {J : It} {n : Nat} {item : Nat → V → Prop} (Pv : Nat → List V → St → Hp → Prop) (hn : n ≤ 1000000) (h0 : Pv 0 [] (capt cap σ) H) (hlen : ∀ i ys σ' H', Pv i ys σ' H' → ys.length ≤ i)
    (hgo : ∀ i ys σ' H', i < n → Pv i ys σ' H' → J.go i H') (hyld : ∀ i ys σ' H' x H2, i < n → Pv i ys σ' H' → J.yld i H' x H2 → item i x ∧ H2 = H') (hstop : ∀ ys σ' H', Pv n ys σ' H' → J.stop n H')
    (hs : ∀ i x ys σ' H', i < n → item i x → Pv i ys σ' H' → g x σ' H' fun σ3 H3 => tc σ3 H3 fun b H4 => if b = true then te σ3 H4 fun y H5 => Pv (i + 1) (ys ++ [y]) σ3 H5 else Pv (i + 1) ys σ3 H4)
    (hd : ∀ ys σ' H', Pv n ys σ' H' → ∀ D, H' D = none → Q D (upd H' D (.lst ys))) : Gath J cap g tc te Q σ H := by
  have big : (1000000 : Nat) < sizeLine := by rw [sizeLine_eq]; decide
  refine ⟨fun i m ys σ' H' => m = n - i ∧ i ≤ n ∧ Pv i ys σ' H', ⟨n, by simp, Nat.zero_le _, h0⟩, ?_⟩
  rintro i m ys σ' H' ⟨rfl, hi, p⟩
  have hl := hlen i ys σ' H' p
  by_cases hlt : i < n
  · refine .inr ⟨hgo i ys σ' H' hlt p, by omega, Pv (i + 1), fun ys2 σ2 H2 p' => ⟨n - (i + 1), by omega, rfl, hlt, p'⟩, fun x H2 y => ?_⟩
    obtain ⟨h1, h2⟩ := hyld i ys σ' H' x H2 hlt p y
    subst h2
    exact hs i x ys σ' _ hlt h1 p
  · have e : i = n := by omega
    subst e
    exact .inl ⟨hstop ys σ' H' p, by omega, hd ys σ' H' p⟩
theorem gath_range {lo : Int} {n : Nat} (Pv : Nat → List V → St → Hp → Prop) (hn : n ≤ 1000000) (h0 : Pv 0 [] (capt cap σ) H) (hlen : ∀ i ys σ' H', Pv i ys σ' H' → ys.length ≤ i)
    (hs : ∀ i ys σ' H', i < n → Pv i ys σ' H' → g (.int (lo + i)) σ' H' fun σ3 H3 => tc σ3 H3 fun b H4 => if b = true then te σ3 H4 fun y H5 => Pv (i + 1) (ys ++ [y]) σ3 H5 else Pv (i + 1) ys σ3 H4)
    (hd : ∀ ys σ' H', Pv n ys σ' H' → ∀ D, H' D = none → Q D (upd H' D (.lst ys))) : Gath (Itr lo n) cap g tc te Q σ H :=
  gath_of (item := fun i x => x = .int (lo + i)) Pv hn h0 hlen (fun i ys σ' H' hi _ => hi) (fun i ys σ' H' x H2 _ _ y => ⟨y.2, y.1⟩) (fun _ _ _ _ => Nat.le_refl n) (fun i x ys σ' H' hi e p => by subst e; exact hs i ys σ' H' hi p) hd
theorem gath_list {K : PySem.W.Frag} {a : Addr} {xs : List V} (Pv : Nat → List V → St → Hp → Prop) (hn : xs.length ≤ 1000000) (h0 : Pv 0 [] (capt cap σ) H) (hlen : ∀ i ys σ' H', Pv i ys σ' H' → ys.length ≤ i)
    (hl : ∀ i ys σ' H', Pv i ys σ' H' → SqL K H' a xs)
    (hs : ∀ i x ys σ' H', xs[i]? = some x → Pv i ys σ' H' → g x σ' H' fun σ3 H3 => tc σ3 H3 fun b H4 => if b = true then te σ3 H4 fun y H5 => Pv (i + 1) (ys ++ [y]) σ3 H5 else Pv (i + 1) ys σ3 H4)
    (hd : ∀ ys σ' H', Pv xs.length ys σ' H' → ∀ D, H' D = none → Q D (upd H' D (.lst ys))) : Gath (Itl K a) cap g tc te Q σ H :=
  gath_of (item := fun i x => xs[i]? = some x) Pv hn h0 hlen (fun i ys σ' H' hi p => ⟨xs, xs[i], hl i ys σ' H' p, by simp [hi]⟩) (fun i ys σ' H' x H2 _ p y => ⟨y.2 xs (hl i ys σ' H' p), y.1⟩)
    (fun ys σ' H' p => ⟨xs, hl _ ys σ' H' p, Nat.le_refl _⟩) (fun i x ys σ' H' hi e p => hs i x ys σ' H' e p) hd
theorem gath_str {x : Str} (Pv : Nat → List V → St → Hp → Prop) (hn : x.cps.size ≤ 1000000) (h0 : Pv 0 [] (capt cap σ) H) (hlen : ∀ i ys σ' H', Pv i ys σ' H' → ys.length ≤ i)
    (hs : ∀ i c ys σ' H', x.cps[i]? = some c → Pv i ys σ' H' → g (.str ⟨#[c]⟩) σ' H' fun σ3 H3 => tc σ3 H3 fun b H4 => if b = true then te σ3 H4 fun y H5 => Pv (i + 1) (ys ++ [y]) σ3 H5 else Pv (i + 1) ys σ3 H4)
    (hd : ∀ ys σ' H', Pv x.cps.size ys σ' H' → ∀ D, H' D = none → Q D (upd H' D (.lst ys))) : Gath (Its x) cap g tc te Q σ H :=
  gath_of (item := fun i v => ∃ c, x.cps[i]? = some c ∧ v = .str ⟨#[c]⟩) Pv hn h0 hlen (fun i ys σ' H' hi _ => hi) (fun i ys σ' H' v H2 _ _ y => ⟨y.2, y.1⟩)
    (fun _ _ _ _ => rfl) (fun i v ys σ' H' hi ⟨c, e, q⟩ p => by subst q; exact hs i c ys σ' H' e p) hd
end
end L2

set_option Elab.async false
set_option linter.all false
set_option maxRecDepth 100000
set_option maxHeartbeats 4000000
namespace L2
open PySem PySem.Spec PyProof.Rows
@[irreducible] def Irr (p : Prop) : Prop := p
theorem Irr.mk {p : Prop} (h : p) : Irr p := by unfold Irr; exact h
theorem Irr.out {p : Prop} (h : Irr p) : p := by unfold Irr at h; exact h
abbrev JE (X : Cx) (e : Expr) (t : TE) : Prop := Irr (PE X e t)
abbrev JT (X : Cx) (e : Expr) (t : TT) : Prop := Irr (PT X e t)
abbrev JW (X : Cx) (e : Expr) (t : TT) : Prop := Irr (PW X e t)
abbrev JA (X : Cx) (es : List Expr) (t : TA) : Prop := Irr (PA X es t)
abbrev JO (X : Cx) (e : Option Expr) (t : TO) : Prop := Irr (PO X e t)
abbrev JS (X : Cx) (st : Stmt) (t : TS) : Prop := Irr (PS X st t)
abbrev JSs (X : Cx) (st : List Stmt) (t : TS) : Prop := Irr (PSs X st t)
abbrev JG (X : Cx) (e : Expr) (t : TG) : Prop := Irr (PG X e t)
abbrev JGs (X : Cx) (e : List Expr) (t : TGs) : Prop := Irr (PGs X e t)
abbrev JI (X : Cx) (tg it : Expr) (t : TI) : Prop := Irr (PI X tg it t)
section
variable {X : Cx} {a b c e f k o v tg it : Expr} {es : List Expr} {ta tb tc te td ty tx tk tv : TE} {tA tB' : TT} {t : TA} {u u' : TS} {pos pos' p p2 apos cpos spos : Pos} {st : Stmt} {sts sts' : List Stmt} {K : PySem.W.Frag} {w : World}

theorem o_add (hK : X.K = K := by rfl) : Irr (OpR X (binaryOp .Add) (gAdd K)) := .mk (og_add hK)
theorem o_sub : Irr (OpR X (binaryOp .Sub) gMinus) := .mk og_sub
theorem o_mul : Irr (OpR X (binaryOp .Mult) gMul) := .mk og_mul
theorem o_div : Irr (OpR X (binaryOp .FloorDiv) gDiv) := .mk og_div
theorem o_mod : Irr (OpR X (binaryOp .Mod) gMod) := .mk og_mod
theorem o_iadd : Irr (PIp X .Add gIadd) := .mk og_iadd
theorem o_eq (hu : X.A.units + 64 < cLine) (hK : X.K = K := by rfl) : Irr (OpR X (compareOp .Eq) (gEq K false)) := .mk (og_eq hu hK)
theorem o_ne (hu : X.A.units + 64 < cLine) (hK : X.K = K := by rfl) : Irr (OpR X (compareOp .NotEq) (gEq K true)) := .mk (og_ne hu hK)
theorem o_lt : Irr (OpR X (compareOp .Lt) gLt) := .mk og_lt
theorem o_le : Irr (OpR X (compareOp .LtE) gLe) := .mk og_le
theorem o_gt : Irr (OpR X (compareOp .Gt) gGt) := .mk og_gt
theorem o_ge : Irr (OpR X (compareOp .GtE) gGe) := .mk og_ge
theorem o_notin (hK : X.K = K := by rfl) : Irr (OpR X (compareOp .NotIn) (gIn K true)) := .mk (og_notin hK)
theorem o_is : Irr (OpR X (compareOp .Is) (gIs false)) := .mk og_is
theorem o_ix (hu : X.A.units + 64 < cLine) (hK : X.K = K := by rfl) (hw : X.w = w := by rfl) : Irr (IxR X (gIx K w)) := .mk (og_ix hu hK hw)
theorem o_sl (hK : X.K = K := by rfl) : Irr (SlR X (gSl K)) := .mk (og_sl hK)
theorem c_len (hK : X.K = K := by rfl) : Irr (CallR X (.builtin "len") (gLen K)) := .mk (cg_len hK)
theorem c_ord : Irr (CallR X (.builtin "ord") gOrd) := .mk cg_ord
theorem c_max (hc : X.calm = true) : Irr (CallR X (.builtin "max") gMax) := .mk (cg_max hc)
theorem c_min (hc : X.calm = true) : Irr (CallR X (.builtin "min") gMin) := .mk (cg_min hc)
theorem m_join (hK : X.K = K := by rfl) : Irr (MtR X "str.join" (gJoin K)) := .mk (mg_join hK)
theorem m_split : Irr (MtR X "str.split" gSplit) := .mk mg_split
theorem m_append : Irr (MtR X "list.append" gAppend) := .mk mg_append
theorem jn (i : Nat) {x : Str} (hN : X.N[i]? = some x := by rfl) (hv : Vis X.env.scope x := by first | exact Or.inl rfl | exact Or.inr (Or.inl rfl) | exact Or.inr (Or.inr rfl)) (hd : (x == ("__debug__" : Str)) = false := by decide)
    (hcd : (x == ("__classdict__" : Str)) = false := by decide) : JE X (.Name x pos) (mVar i) := .mk (pn i hN hv hd hcd)
theorem j_int {i : Int} {j : Nat} : JE X (.Constant (.int i) j pos) (tC (.int i)) := .mk pe_int
theorem j_bl {b : Bool} {j : Nat} : JE X (.Constant (.bool b) j pos) (tC (.bl b)) := .mk pe_bl
theorem j_non {j : Nat} : JE X (.Constant .none j pos) (tC .non) := .mk pe_non
theorem j_str {x : Str} {j : Nat} : JE X (.Constant (.str x) j pos) (tC (.str x)) := .mk pe_str
theorem j_glob {x : Str} {v : V} {u : Value} (hg : Gl X x) (hm : X.mg x = some u) (r : RelV v u) (hd : (x == ("__debug__" : Str)) = false := by decide) : JE X (.Name x pos) (tC v) := .mk (pe_glob hg hm r hd)
theorem j_bltn {x : Str} {v : V} {u : Value} (hg : Gl X x) (hm : X.mg x = none) (hv : bootBuiltins x = some u) (r : RelV v u) (hn : x ≠ "__name__" := by decide) (hd : (x == ("__debug__" : Str)) = false := by decide) : JE X (.Name x pos) (tC v) := .mk (pe_bltn hg hm hv r hn hd)
theorem j_op {op : Operator} {r : R2} (ho : Irr (OpR X (binaryOp op) r)) (ha : JE X a ta) (hb : JE X b tb) : JE X (.BinOp a op b pos) (tOp r ta tb) := .mk (pe_op ho.out ha.out hb.out)
theorem j_cmp {op : CmpOp} {r : R2} (ho : Irr (OpR X (compareOp op) r)) (ha : JE X a ta) (hb : JE X b tb) (hm : behindInMarks op b = false := by first | exact nomark _ | rfl) : JE X (.Compare a [op] [b] pos) (tOp r ta tb) := .mk (pe_cmpR ho.out ha.out hb.out hm)
theorem j_chain {op op' : CmpOp} {r r' : R2} (ho : Irr (OpR X (compareOp op) r)) (ho' : Irr (OpR X (compareOp op') r')) (ha : JE X a ta) (hb : JE X b tb) (hc : JE X c tc)
    (hm : lastMarks [op, op'] [b, c] = false := by with_unfolding_all rfl) : JE X (.Compare a [op, op'] [b, c] pos) (mChain r r' ta tb tc) := .mk (pe_chainM ho.out ho'.out ha.out hb.out hc.out hm)
theorem j_and (ha : JE X a ta) (hb : JE X (.BoolOp .And (b :: es) pos) tb) : JE X (.BoolOp .And (a :: b :: es) pos) (mAndV ta tb) := .mk (pe_andM ha.out hb.out)
theorem j_or (ha : JE X a ta) (hb : JE X (.BoolOp .Or (b :: es) pos) tb) : JE X (.BoolOp .Or (a :: b :: es) pos) (mOrV ta tb) := .mk (pe_orM ha.out hb.out)
theorem j_one {op : BoolOp} (h : JE X a ta) : JE X (.BoolOp op [a] pos) ta := .mk (pe_one h.out)
theorem j_not (ha : JE X a ta) : JE X (.UnaryOp .Not a pos) (mNotV ta) := .mk (pe_notM ha.out)
theorem j_ife (hc : JT X c tA) (ha : JE X a ta) (hb : JE X b tb) : JE X (.IfExp c a b pos) (tIf tA ta tb) := .mk (pe_ifExp hc.out ha.out hb.out)
theorem ja_nil : JA X [] tNil := .mk pa_nil
theorem ja_cons (ha : JE X e te) (hr : JA X es t) (h : noStar e = true := by rfl) : JA X (e :: es) (tCons te t) := .mk (pa_consM ha.out hr.out h)
theorem j_tup {x1 : Nat} (h : JA X es t) : JE X (.Tuple es x1 pos) (tTup t) := .mk (pe_tup h.out)
theorem j_lst (h : JA X es t) : JE X (.List es pos) (tLst t) := .mk (pe_lst h.out)
theorem jo_none : JO X none tNoPart := .mk po_none
theorem jo_some (h : JE X e te) : JO X (some e) (mPart te) := .mk (po_someM h.out)
theorem j_slice {r : V → Option Int → Option Int → Hp → VK → Prop} {lo hi : Option Expr} {tl th : TO} (hr : Irr (SlR X r)) (he : JE X e te) (hl : JO X lo tl) (hu : JO X hi th) : JE X (.Subscript e (.Slice lo hi none p2) pos) (tSl r te tl th) := .mk (pe_slice hr.out he.out hl.out hu.out)
theorem j_ix {r : R2} (hr : Irr (IxR X r)) (ha : JE X a ta) (hb : JE X b tb) (hs : PlainIx b := by exact fun _ _ => rfl) : JE X (.Subscript a b pos) (tOp r ta tb) := .mk (pe_ix hr.out ha.out hb.out hs)
theorem j_def {k : Nat} {x : Str} {ps : List Str} {sp : Sp} (D : Def X.prog X.w X.K X.mg X.base k x ps sp) (hr : Room k X.A) (hg : Gl X x) (ha : JA X (e :: es) t) (hdb : (x == ("__debug__" : Str)) = false := by decide)
    (hst : noStars (e :: es) = true := by rfl) : JE X (.Call (.Name x p) (e :: es) [] pos) (fun σ H Q => t σ H fun vs H1 => sp vs H1 Q E0) := .mk (pe_def D hr hg ha.out hdb hst)
theorem j_callB {x : Str} {id : String} {r : List V → Hp → VK → Prop} (hc : Irr (CallR X (.builtin id) r)) (hg : Gl X x) (hm : X.mg x = none) (hv : bootBuiltins x = some (.builtin id)) (ha : JA X (e :: es) t) (hn : x ≠ "__name__" := by decide) (hdb : (x == ("__debug__" : Str)) = false := by decide)
    (h : noStars (e :: es) = true := by rfl) : JE X (.Call (.Name x p) (e :: es) [] pos) (tCB r t) := .mk (pe_callBM hc.out hg hm hv ha.out hn hdb h)
theorem j_callTy {x : Str} {T : String} {r : List V → Hp → VK → Prop} (hc : Irr (CallR X (.type T) r)) (hg : Gl X x) (hm : X.mg x = none) (hv : bootBuiltins x = some (.type T)) (ha : JA X (e :: es) t) (hn : x ≠ "__name__" := by decide) (hdb : (x == ("__debug__" : Str)) = false := by decide)
    (h : noStars (e :: es) = true := by rfl) : JE X (.Call (.Name x p) (e :: es) [] pos) (tCB r t) := .mk (pe_callTyM hc.out hg hm hv ha.out hn hdb h)
theorem j_kget1 (ho : JE X o td) (he : JE X e ty) (m : M1 X o "get" apos e cpos := by exact ⟨rfl, rfl, rfl, rfl⟩) (hK : X.K = K := by rfl) (hw : X.w = w := by rfl) : JE X (.Call (.Attribute o "get" apos) [e] [] cpos) (tKGet1 K w td ty) := .mk (pe_kget1K ho.out he.out m hK hw)
theorem j_bm {name : Str} {T id : String} {r : V → List V → Hp → VK → Prop} {to : TE} (pa : PlainAttrs T) (slot : Slot T name id) (hty : typeOf (.builtin id) = pure (.type "method_descriptor")) (hm : Irr (MtR X id r)) (ho : JE X o to) (ha : JA X (e :: es) t) (hK : X.K = K := by rfl)
    (hsup : notSuper o = true := by rfl) (h : noStars (e :: es) = true := by rfl) (h30 : (e :: es).length < 30 := by decide) (hline : (apos.endLine == cpos.line) = true := by rfl) :
    JE X (.Call (.Attribute o name apos) (e :: es) [] cpos) (tBM K T r to t) := .mk (pe_bmK pa slot hty hm.out ho.out ha.out hK hsup h h30 hline)
theorem jt_cmp {op : CmpOp} {r : R2} (ho : Irr (OpR X (compareOp op) r)) (ha : JE X a ta) (hb : JE X b tb) (hm : behindInMarks op b = false := by first | exact nomark _ | rfl) : JT X (.Compare a [op] [b] pos) (mTest (tOp r ta tb)) := .mk (pt_cmpM ho.out ha.out hb.out hm)
theorem jt_chain {op op' : CmpOp} {r r' : R2} (ho : Irr (OpR X (compareOp op) r)) (ho' : Irr (OpR X (compareOp op') r')) (ha : JE X a ta) (hb : JE X b tb) (hc : JE X c tc)
    (hm : lastMarks [op, op'] [b, c] = false := by with_unfolding_all rfl) : JT X (.Compare a [op, op'] [b, c] pos) (mTest (mChain r r' ta tb tc)) := .mk (by rw [mChain_eq]; exact pt_chainM ho.out ho'.out ha.out hb.out hc.out hm)
theorem jt_val (h : JE X e te) (he : ∀ whole, isTrue e X.env whole = (do let v ← whole; standAt e.pos; holding [v] (truthy v)) := by intro _; rfl) : JT X e (mTest te) := .mk (pt_valM h.out he)
theorem jt_not (ha : JT X a tA) : JT X (.UnaryOp .Not a pos) (tNot tA) := .mk (pt_not ha.out)
theorem jw_and1 (ha : JT X a tA) : JW X (.BoolOp .And [a] pos) tA := .mk (pw_and1 ha.out)
theorem jw_or1 (ha : JT X a tA) : JW X (.BoolOp .Or [a] pos) tA := .mk (pw_or1 ha.out)
theorem jw_and (ha : JT X a tA) (hb : JW X (.BoolOp .And (b :: es) pos) tB') : JW X (.BoolOp .And (a :: b :: es) pos) (tAnd tA tB') := .mk (pw_and ha.out hb.out)
theorem jw_or (ha : JT X a tA) (hb : JW X (.BoolOp .Or (b :: es) pos) tB') : JW X (.BoolOp .Or (a :: b :: es) pos) (tOr tA tB') := .mk (pw_or ha.out hb.out)
theorem jw_t (h : JW X e tA) : JT X e tA := .mk h.out.pt

theorem ji_any (h : JE X e te) (hK : X.K = K := by rfl) : JI X tg e (iAny K te) := .mk (pi_any h.out hK)
theorem ji_rng1 (hg : Gl X "range") (hm : X.mg "range" = none) (ha : JA X [a] t) (h : noStar a = true := by rfl) : JI X tg (.Call (.Name "range" p) [a] [] pos) (mRng1 t) := .mk (pi_rng1 hg hm ha.out (starEach_cons h))
theorem jg_name {i : Nat} {x : Str} (hN : X.N.Nodup) (hi : X.N[i]? = some x) (hx : Loc X.env.scope x) (hf : X.fn x = true ∨ X.env.scope.names.lookup x = some .local := by first | exact .inl rfl | exact .inr rfl | assumption) : JG X (.Name x pos) (gName i) := .mk (pg_name hN hi hx hf)
theorem jgs_nil : JGs X [] gNil := .mk pgs_nil
theorem jgs_cons {g : TG} {gs : TGs} (h1 : JG X e g) (h2 : JGs X es gs) (hs : (assignEach (e :: es) X.env).map (·.2) = assign e X.env :: (assignEach es X.env).map (·.2) := by rfl) : JGs X (e :: es) (gCons g gs) := .mk (pgs_cons h1.out h2.out hs)
theorem jg_tup {k : Nat} {gs : TGs} {n : Nat} (hc : X.calm = true) (h : JGs X es gs) (hK : X.K = K := by rfl) (hn : (assignEach es X.env).length = n := by rfl) (hst : (assignEach es X.env).findIdx? (·.1) = none := by rfl) : JG X (.Tuple es k pos) (gTup K n gs) := .mk (pg_tupK hc h.out hK hn hst)
abbrev JTs (X : Cx) (ifs : List Expr) (t : TT) : Prop := Irr (PTs X ifs t)
theorem jts_nil : JTs X [] tTrue := .mk pts_nil
theorem jts_one (h : JT X c tA) : JTs X [c] tA := .mk (pts_one h.out)
theorem j_comp {N : List Str} {cap : List (Option Nat)} {scope : Scope} {ifs : List Expr} {wi : TI} {g : TG} (hc : X.calm = true) (S : CompScope X N cap scope) (hi : JI X tg it wi)
    (hg : ∀ C s₀ H₀ ex, JG (cxComp X N scope C s₀ H₀ ex) tg g) (ht : ∀ C s₀ H₀ ex, JTs (cxComp X N scope C s₀ H₀ ex) ifs tA) (he : ∀ C s₀ H₀ ex, JE (cxComp X N scope C s₀ H₀ ex) e te)
    (hs : ∀ x, foldedSetIterable it X.env x = pure x := by intro _; rfl) :
    JE X (.ListComp e [⟨tg, it, ifs, 0⟩] scope pos) (fun σ H Q => tComp cap wi g tA te (fun D H' => Q (.ref D) H') σ H) :=
  .mk (pe_comp hc S hi.out (fun C s₀ H₀ ex => (hg C s₀ H₀ ex).out) (fun C s₀ H₀ ex => (ht C s₀ H₀ ex).out) (fun C s₀ H₀ ex => (he C s₀ H₀ ex).out) hs)
theorem js_comp {N : List Str} {cap : List (Option Nat)} {scope : Scope} {ifs : List Expr} {wi : TI} {g : TG} {i : Nat} {x : Str} (hc : X.calm = true) (S : CompScope X N cap scope) (hi : JI X tg it wi)
    (hg : ∀ C s₀ H₀ ex, JG (cxComp X N scope C s₀ H₀ ex) tg g) (ht : ∀ C s₀ H₀ ex, JTs (cxComp X N scope C s₀ H₀ ex) ifs tA) (he : ∀ C s₀ H₀ ex, JE (cxComp X N scope C s₀ H₀ ex) e te)
    (hN : X.N.Nodup) (hix : X.N[i]? = some x) (hx : X.env.scope.names.lookup x = some .local) (hsw : swapsWith (.ListComp e [⟨tg, it, ifs, 0⟩] scope pos) (some (.Name x pos')) spos.line X.env = pure true := by rfl)
    (hs : ∀ x, foldedSetIterable it X.env x = pure x := by intro _; rfl) :
    JS X (.Assign [.Name x pos'] (.ListComp e [⟨tg, it, ifs, 0⟩] scope pos) spos) (fun D σ H => tComp cap wi g tA te (fun d H' => D.nx (σ.set i (some (.ref d))) H') σ H) :=
  .mk (ps_comp hc S hi.out (fun C s₀ H₀ ex => (hg C s₀ H₀ ex).out) (fun C s₀ H₀ ex => (ht C s₀ H₀ ex).out) (fun C s₀ H₀ ex => (he C s₀ H₀ ex).out) hN hix hx hsw hs)

theorem jss_nil : JSs X [] tNext := .mk pss_nil
theorem jss_cons (h1 : JS X st u) (h2 : JSs X sts u') : JSs X (st :: sts) (tSeq u u') := .mk (pss_cons h1.out h2.out)
theorem jss_one (h1 : JS X st u) : JSs X [st] u := .mk (pss_one h1.out)
theorem js_set {i : Nat} {x : Str} (hN : X.N.Nodup) (hi : X.N[i]? = some x) (hx : Loc X.env.scope x) (he : JE X e te) (hs : swapsWith e (some (.Name x pos')) pos.line X.env = pure false := by rfl) (hf : X.fn x = true ∨ X.env.scope.names.lookup x = some .local := by first | exact .inl rfl | exact .inr rfl | assumption) :
    JS X (.Assign [.Name x pos'] e pos) (tAsg te (gName i)) := .mk (ps_set hN hi hx he.out hs hf)
theorem js_aug {i : Nat} {x : Str} {op : Operator} {ti : TIp} (hN : X.N.Nodup) (hi : X.N[i]? = some x) (hx : Loc X.env.scope x) (he : JE X e te) (ho : Irr (PIp X op ti)) (hf : X.fn x = true ∨ X.env.scope.names.lookup x = some .local := by first | exact .inl rfl | exact .inr rfl | assumption) :
    JS X (.AugAssign (.Name x pos') op e pos) (mAug i te ti) := .mk (ps_augM hN hi hx he.out ho.out hf)
theorem js_if (hc : JT X c tA) (ha : JSs X sts u) (hb : JSs X sts' u') : JS X (.If c sts sts' pos) (tIfS tA u u') := .mk (ps_if hc.out ha.out hb.out)
theorem js_ret (he : JE X e te) : JS X (.Return (some e) pos) (tRet te) := .mk (ps_ret he.out)
theorem js_expr (he : JE X e te) (hs : swapsWith e none pos.line X.env = pure false := by rfl) : JS X (.Expr e pos) (tDrop te) := .mk (ps_expr he.out hs)
theorem js_continue : JS X (.Continue pos) tCont := .mk ps_continue
theorem js_for {wi : TI} {g : TG} (hp : PassesOwn (model X.prog X.w) X.A X.env X.xe) (hc : X.calm = true) (hi : JI X tg it wi) (hg : JG X tg g) (hb : JSs X sts u)
    (hs : ∀ x, foldedSetIterable it X.env x = pure x := by intro _; rfl) : JS X (.For tg it sts [] pos) (tFor wi g u) := .mk (ps_for hp hc hi.out hg.out hb.out hs)
end
theorem Raw.defJ {P : Program} {w : World} {K : PySem.W.Frag} {mg : Str → Option Value} {base : Heap} {x : Str} {st : Stmt} {N ps : List Str} {k : Nat} {sp : Sp} (R : Raw K mg x st ps) (S : FnScope N ps (defScope st)) (len : ∀ vs H Q E, sp vs H Q E → vs.length = ps.length)
    (hbody : ∀ (f : Addr) (cdv : Value) (A : Around) (outer : List Env) (s : Shared) (H : Hp) (vs : List V) (Q : VK) (E : XK), Room k (A.deeper (envOfC x (defScope st) s.heap.objs.size f cdv)) → sp vs H Q E →
      ∃ t, JSs (cxOf CX0 P w K mg base N x (defScope st) f cdv A outer s H E).nox (defBody st) t ∧ t { nx := fun _ H' => Q .non H', rt := Q } (start N vs) H) : Def P w K mg base (k + 1) x ps sp :=
  R.def S len fun f cdv A outer s H vs Q E hr h => let ⟨t, h1, h2⟩ := hbody f cdv A outer s H vs Q E hr h; ⟨t, h1.out, h2⟩
end L2

namespace L2
open PySem PySem.Spec PyProof.Rows
inductive TyD (K : PySem.W.Frag) (H : Hp) : V → String → Prop where
  | non : TyD K H .non "NoneType"
  | bl (x : Bool) : TyD K H (.bl x) "bool"
  | int (i : Int) : TyD K H (.int i) "int"
  | str (x : Str) : TyD K H (.str x) "str"
  | list {a : Addr} {xs : List V} (e : SqL K H a xs) : TyD K H (.ref a) "list"
  | tuple {a : Addr} {xs : List V} (e : SqT K H a xs) : TyD K H (.ref a) "tuple"
end L2

set_option Elab.async false
set_option linter.all false
set_option maxRecDepth 100000
set_option maxHeartbeats 4000000
namespace L2
open PySem PySem.Spec PyProof.Rows

abbrev anyHO : HO := .ext fun _ => True
def Kn (H : Hp) (a : Addr) (o : Obj) : Prop := H a = some (.frz o anyHO)
theorem Kn.get {P : Program} {w : World} {H : Hp} {h : Heap} {a : Addr} {o : Obj} (k : Kn H a o) (x : HOk P w H h) : h.get? a = some o := (x a _ k).1
theorem ok_any {P : Program} {w : World} {H : Hp} {h : Heap} {a : Addr} {o : Obj} (e : h.get? a = some o) : ObjOk P w H h a (.frz o anyHO) := ⟨e, True.intro, ⟨o, e⟩, fun _ _ _ _ => True.intro⟩

def rem (cs : List Addr) (H : Hp) : Hp := fun b => if b ∈ cs then none else H b
theorem rem_in {cs : List Addr} {H : Hp} {b : Addr} (h : b ∈ cs) : rem cs H b = none := if_pos h
theorem rem_out {cs : List Addr} {H : Hp} {b : Addr} (h : b ∉ cs) : rem cs H b = H b := if_neg h
section
variable {P : Program} {w : World} {H H' : Hp} {h h' : Heap} {cs fs : List Addr}
theorem kn_not {c : Addr} {u : HO} (k : ∀ c ∈ cs, ∃ o, Kn H c o) (e : H c = some u) (n : ∀ o, u ≠ .frz o anyHO) : c ∉ cs := fun m => by
  obtain ⟨o, q⟩ := k c m
  unfold Kn at q
  rw [e] at q
  exact n o (Option.some.inj q)
theorem HOk.rem (x : HOk P w H h) (k : ∀ c ∈ cs, ∃ o, Kn H c o) : HOk P w (rem cs H) h := fun b u e => by
  have nb : b ∉ cs := fun m => by rw [rem_in m] at e; cases e
  rw [rem_out nb] at e
  refine (x b u e).stay (fun c v _ q => q) (fun c q => ?_) fun c xs q => ?_
  · rw [rem_out (kn_not k q fun o z => by cases z)]; exact q
  · rw [rem_out (kn_not k q fun o z => by cases z)]; exact q
end

structure CloScope (ps ls fr : List Str) (sc : Scope) : Prop where
  kind : sc.kind = .function
  co : sc.isCoroutine = false
  gen : sc.isGenerator = false
  nd : (ps ++ ls ++ fr).Nodup
  par : ∀ x ∈ ps, sc.names.lookup x = some .local
  nocell : ∀ y ∈ sc.names, y.2 ≠ .cell
  fre : ∀ x ∈ fr, sc.names.lookup x = some .free
  all : ∀ y ∈ sc.names, y.2 = .free → y.1 ∈ fr
structure Made (H : Hp) (f : Addr) (name qual : Str) (st : Stmt) (cl : List (Str × Addr)) : Prop where
  ex : ∃ (doc pm : Value) (c' : Addr) (ctv : Value) (oc : Obj) (vs : Array Value) (t : Tok), Kn H f (PySem.W.fnMade name qual (defArgs st) (defBody st) (defScope st) cl doc pm c' ctv) ∧ Kn H c' oc ∧ oc.data = .fields vs ∧ vs[1]? = some (.str qual t)
structure CloAt (H : Hp) (f : Addr) (name qual : Str) (st : Stmt) (fr : List Str) (cs : List Addr) (ws : List V) : Prop where
  ex : ∃ cl, Made H f name qual st cl ∧ (∀ x c, cl.lookup x = some c → ∃ j : Nat, fr[j]? = some x ∧ cs[j]? = some c) ∧ ∀ (j : Nat) x, fr[j]? = some x → ∃ c, cl.lookup x = some c ∧ cs[j]? = some c
  cells : ∀ (j : Nat) x, ws[j]? = some x → ∃ c o u, cs[j]? = some c ∧ Kn H c o ∧ o.data = .cell (some u) ∧ RelV x u
  l1 : cs.length = fr.length
  l2 : ws.length = fr.length
  nd : cs.Nodup
theorem CloAt.kn {H : Hp} {f : Addr} {name qual : Str} {st : Stmt} {fr : List Str} {cs : List Addr} {ws : List V} (C : CloAt H f name qual st fr cs ws) : ∀ c ∈ cs, ∃ o, Kn H c o := fun c m => by
  obtain ⟨j, hj, e⟩ := List.mem_iff_getElem.mp m
  have hw : j < ws.length := by rw [C.l2, ← C.l1]; exact hj
  obtain ⟨c', o, u, h1, h2, _⟩ := C.cells j ws[j] (List.getElem?_eq_getElem hw)
  rw [List.getElem?_eq_getElem hj, e] at h1
  cases h1
  exact ⟨o, h2⟩
theorem CloAt.same {H H' : Hp} {f : Addr} {name qual : Str} {st : Stmt} {fr : List Str} {cs : List Addr} {ws : List V} (C : CloAt H f name qual st fr cs ws) (h : ∀ b o, Kn H b o → Kn H' b o) : CloAt H' f name qual st fr cs ws := by
  obtain ⟨cl, ⟨doc, pm, c', ctv, oc, vs, t, h1, h2, h3, h4⟩, h5, h6⟩ := C.ex
  refine ⟨⟨cl, ⟨doc, pm, c', ctv, oc, vs, t, h _ _ h1, h _ _ h2, h3, h4⟩, h5, h6⟩, fun j x e => ?_, C.l1, C.l2, C.nd⟩
  obtain ⟨c, o, u, q1, q2, q3, q4⟩ := C.cells j x e
  exact ⟨c, o, u, q1, h _ _ q2, q3, q4⟩

end L2

set_option Elab.async false
set_option linter.all false
set_option maxRecDepth 100000
set_option maxHeartbeats 4000000
namespace L2
open PySem PySem.Spec PyProof.Rows

structure FnV (P : Program) (w : World) (K : PySem.W.Frag) (mg : Str → Option Value) (base : Heap) (k : Nat) (f : Addr) (sp : Sp) : Prop where
  fn : ∀ vs H Q E, sp vs H Q E → ∃ oc od fd sl, Kn H f ⟨oc, od, .func fd, sl⟩
  run : ∀ (A : Around) (outer : List Env) (s : Shared) (H : Hp) (us : List Value) (vs : List V) (Q : VK) (E : XK), Room k A → Env0 P w K mg base A outer s H → Vals vs us → sp vs H Q E →
    codeAny (model P w) A (.call (.ref f) ⟨us, []⟩) (CR CX0 outer P w H s Q E) s
section
variable {X : Cx} {e : Expr} {es : List Expr} {t : TA} {p pos : Pos}
end

structure TabOk (H : Hp) (Pt : Addr) (qs : List (Pos × Str)) : Prop where
  ex : ∃ l : List (Pos × Addr), H Pt = some (.tbl (triples l).toArray) ∧ ∀ q ∈ l, ∃ qual oc vs t, (q.1, qual) ∈ qs ∧ Kn H q.2 oc ∧ oc.data = .fields vs ∧ vs[1]? = some (.str qual t)
theorem TabOk.same {H H' : Hp} {Pt : Addr} {qs : List (Pos × Str)} (T : TabOk H Pt qs) (h1 : H' Pt = H Pt) (h2 : ∀ b o, Kn H b o → Kn H' b o) : TabOk H' Pt qs := by
  obtain ⟨l, e, h⟩ := T.ex
  refine ⟨l, h1.trans e, fun q m => ?_⟩
  obtain ⟨qual, oc, vs, t, a, b, c⟩ := h q m
  exact ⟨qual, oc, vs, t, a, h2 _ _ b, c⟩
section
variable {X : Cx}
end
end L2

set_option Elab.async false
set_option linter.all false
set_option maxRecDepth 100000
set_option maxHeartbeats 4000000
namespace L2
open PySem PySem.Spec PyProof.Rows

structure Froz (env : Env) (N : List Str) (σ : St) (fr : List Str) (cs : List Addr) (os : List Obj) : Prop where
  l1 : cs.length = fr.length
  l2 : os.length = fr.length
  at_ : ∀ (j : Nat) x, fr[j]? = some x → ∃ (c : Addr) (o : Obj) (i : Nat) (v : V) (u : Value), cs[j]? = some c ∧ os[j]? = some o ∧ env.cells.lookup x = some c ∧ N[i]? = some x ∧ σ[i]? = some (some v) ∧ o.data = .cell (some u) ∧ RelV v u
  nd : cs.Nodup
section
variable {X : Cx} {e : Expr} {es : List Expr} {t : TA} {p pos : Pos}
end
structure Only2 (ts : List (Addr × Addr)) (H : Hp) : Prop where
  tabs : ∀ q ∈ ts, H q.2 = some (.tbl #[])
  rest : ∀ b, H b = none ∨ (∃ q ∈ ts, q.2 = b) ∨ ∃ o xs, H b = some (.frz o (.lst xs))
end L2

set_option Elab.async false
set_option linter.all false
set_option maxRecDepth 100000
set_option maxHeartbeats 4000000
namespace L2
open PySem PySem.Spec PyProof.Rows
section
variable {X : Cx} {e a : Expr} {es : List Expr} {t : TA} {ta te : TE} {p pos : Pos} {K : PySem.W.Frag}

def mNeg (ta : TE) : TE := fun σ H Q => ta σ H fun x H1 => match x with
  | .int i => Q (.int (-i)) H1
  | _ => False
theorem j_neg (ha : JE X a ta) : JE X (.UnaryOp .USub a pos) (mNeg ta) := by
  refine .mk ?_
  have h := pe_un (pos := pos) un_neg ha.out
  intro pins s σ H Q I q
  refine h pins s σ H Q I ?_
  unfold mNeg at q
  unfold tUn
  refine cast (congrArg (ta σ H) ?_) q
  funext x H1
  refine propext ⟨fun z => ?_, fun z => ?_⟩
  · split at z
    · exact ⟨_, rfl, z⟩
    · exact z.elim
  · obtain ⟨i, rfl, z⟩ := z
    exact z

end

structure FunC (K : PySem.W.Frag) (x : Str) (st : Stmt) (f : Addr) (fd : FuncData) (c : Addr) : Prop where
  ex : ∃ (oc : Value) (od : Option Addr) (kV doc pm : Value) (an : Option Addr) (ct : Value) (osl : Array (Option Value)),
    fd = PySem.W.fnOf x x (defArgs st) (defBody st) (defScope st) .none kV doc pm an (.ref c) ct ∧ K.lookup f = some ⟨oc, od, .func fd, osl⟩ ∧ PySem.W.codeIn K (.ref c) x = true
  kp : PySem.W.keepIn K (.ref f) = true
structure RawC (K : PySem.W.Frag) (mg : Str → Option Value) (x : Str) (st : Stmt) (ps : List Str) (c Pt : Addr) : Prop where
  ex : ∃ f fd, mg x = some (.ref f) ∧ FunC K x st f fd c ∧ ∀ (us : List Value), us.length = ps.length → bindArgs fd ⟨us, []⟩ = pure (ps.zip us)
  hd : PySem.W.codeHdIn K c Pt = true
theorem RawC.mk' {K : PySem.W.Frag} {mg : Str → Option Value} {h : Heap} {x : Str} {st : Stmt} {ps : List Str} {f c Pt : Addr} {oc : Value} {od an : Option Addr} {osl : Array (Option Value)} {kV doc pm ct : Value} (X : K.In h) (G : h.Ns mainGlobals mg)
    (a : PySem.W.nsIn K mainGlobals x = some (some (.ref f))) (l : K.lookup f = some ⟨oc, od, .func (PySem.W.fnOf x x (defArgs st) (defBody st) (defScope st) .none kV doc pm an (.ref c) ct), osl⟩)
    (cd : PySem.W.codeIn K (.ref c) x = true) (k : PySem.W.keepIn K (.ref f) = true) (hd : PySem.W.codeHdIn K c Pt = true)
    (hb : ∀ (us : List Value), us.length = ps.length → bindArgs (PySem.W.fnOf x x (defArgs st) (defBody st) (defScope st) .none kV doc pm an (.ref c) ct) ⟨us, []⟩ = pure (ps.zip us)) : RawC K mg x st ps c Pt :=
  ⟨⟨f, _, PySem.W.mg_of X G a, ⟨⟨oc, od, kV, doc, pm, an, ct, osl, rfl, l, cd⟩, k⟩, hb⟩, hd⟩
theorem FunC.lk {K : PySem.W.Frag} {x : Str} {st : Stmt} {f c : Addr} {fd : FuncData} (F : FunC K x st f fd c) : ∃ oc od osl, K.lookup f = some ⟨oc, od, .func fd, osl⟩ := by
  obtain ⟨oc, od, kV, doc, pm, an, ct, osl, _, lk, _⟩ := F.ex
  exact ⟨oc, od, osl, lk⟩
theorem RawC.defJ {P : Program} {w : World} {K : PySem.W.Frag} {mg : Str → Option Value} {base : Heap} {x : Str} {st : Stmt} {N ps : List Str} {k : Nat} {sp : Sp} {c Pt : Addr} (R : RawC K mg x st ps c Pt) (S : FnScope N ps (defScope st)) (len : ∀ vs H Q E, sp vs H Q E → vs.length = ps.length)
    (hbody : ∀ (f : Addr) (A : Around) (outer : List Env) (s : Shared) (H : Hp) (vs : List V) (Q : VK) (E : XK), Room k (A.deeper (envOfC x (defScope st) s.heap.objs.size f (.ref c))) → sp vs H Q E →
      ∃ t, JSs (cxOf CX0 P w K mg base N x (defScope st) f (.ref c) A outer s H E).nox (defBody st) t ∧ t { nx := fun _ H' => Q .non H', rt := Q } (start N vs) H) : Def P w K mg base (k + 1) x ps sp := by
  obtain ⟨f, fd, h1, F, b⟩ := R.ex
  have lk := F.lk
  obtain ⟨oc, od, kV, doc, pm, an, ct, osl, rfl, l, hcd⟩ := F.ex
  refine ⟨f, _, h1, F.kp, lk, .all b, fn_of l hcd S len fun A outer s H vs Q E hr hsp => ?_⟩
  obtain ⟨t, h, q⟩ := hbody f A outer s H vs Q E hr hsp
  exact ⟨t, h.out.nox, q⟩
end L2
namespace L2
open PySem
end L2

set_option Elab.async false
set_option linter.all false
set_option maxRecDepth 100000
set_option maxHeartbeats 4000000
namespace L2
open PySem PySem.Spec PyProof.Rows
section
variable {X : Cx} {e k : Expr} {es : List Expr} {t : TA} {te tk : TE} {p pos p2 : Pos} {K : PySem.W.Frag}
end
end L2

set_option Elab.async false
set_option linter.all false
set_option maxRecDepth 100000
set_option maxHeartbeats 4000000
namespace L2
open PySem PySem.Spec PyProof.Rows

theorem Inv.turnedL {X : Cx} {pins : List (Addr × Obj)} {σ : List (Option V)} {H : Hp} {s : Shared} {h' : Heap} {t' : Nat} {fp : List Addr} (I : Inv X pins σ H s) (k : ∀ b o, b ∉ fp → s.heap.get? b = some o → h'.get? b = some o)
    (hf : ∀ b ∈ fp, FpOk X pins H b) : Inv X pins σ H { s with heap := h', toks := t' } := by
  have nit : ∀ b u, H b = some u → b ∉ fp := fun b u e z => by rw [(hf b z).1] at e; cases e
  refine I.step (g' := s.gens) (d' := s.drawn) (ch := fp) (fun b hb => ?_) (fun b o _ _ hc e _ => k b o hc e) (fun b o _ _ hc e _ => ⟨o.slots, k b o hc e⟩) (fun _ _ _ _ n => n)
    (fun b o hc e => ⟨o, k b o hc e⟩) (fun _ _ e => e) (fun _ _ _ e => e) (fun b ps e => ⟨#[], by rw [e]; simp⟩) (fun m hm => ?_) (fun b u e => ?_) I.bare
  · obtain ⟨_, f1, _, f3, f4, f5⟩ := hf b hb
    exact ⟨f3, f1, f4, f5⟩
  · obtain ⟨o, es, ep, ho, r⟩ := hm
    exact ⟨o, es, ep, k _ o (fun z => (hf _ z).2.1 rfl) ho, r⟩
  · refine (I.hok b u e).stay (fun c v hc q => k c v ?_ q) (fun _ q => q) fun _ _ q => q
    rcases hc with z | z
    · rw [z]; exact nit b u e
    · exact nit c _ z

section
variable {prog : Program} {w : World} {A : Around} {E : Value → Shared → Prop} {s : Shared}
theorem nextOf_tup_item {it l : Addr} {i : Nat} {items} {x : Value} {Q : Value → Shared → Prop} (hit : s.heap.IsTupleIter it l i)
    (hl : s.heap.IsTuple l items) (hx : items[i]? = some x)
    (hQ : ∀ h', h'.IsTupleIter it l (i + 1) → Heap.SameBut it s.heap h' → Q x { s with heap := h' }) :
    wpAny (model prog w) A (Builtin.SmallTypes.nextOf (.ref it)) Q E s := by
  obtain ⟨o, ho, hc, hd⟩ := id hit
  obtain ⟨ol, hol, _, nl, hdl⟩ := hl
  unfold Builtin.SmallTypes.nextOf
  refine wpAny_bind (wpAny_callSpecial?_slot (name := Str.ofString "__next__") hit.typeIs F.slot_tuple_iterator_next
    (wpAny_call_entry F.slot_tuple_iterator_next hit.typeIs F.entry_tuple_iterator_next ?_ (F.args_tuple_iterator_next_1 _)))
  show wpAny _ _ (field (.ref it) 0 >>= _) _ _ s
  refine wpAny_bind (wpAny_field ho hd (x := .ref l) rfl ?_)
  show wpAny _ _ (if (Value.ref l == Value.none) = true then _ else _) _ _ s
  rw [if_neg (show ¬ ((Value.ref l == Value.none) = true) from Bool.false_ne_true)]
  show wpAny _ _ (field (.ref it) 1 >>= _) _ _ s
  refine wpAny_bind (wpAny_field ho hd (x := .int i 0) rfl ?_)
  show wpAny _ _ (seqItems? (.ref l) >>= _) _ _ s
  refine wpAny_bind (wpAny_seqItems hol hdl ?_)
  simp only [Int.toNat_natCast, hx]
  refine wpAny_bind (wpAny_setField ho hd (by simp) (wpAny_pure ⟨x, rfl, wpAny_pure (hQ _ ?_ (Heap.SameBut.update ..))⟩))
  exact ⟨_, Heap.get?_update_self _ ho (Obj.isFreed_of_fields (Obj.data_mapFields hd _)), (Obj.cls_mapFields ..).trans hc, by
    rw [Obj.data_mapFields hd]; simp [rawInt]⟩
theorem nextOf_tup_end {it l : Addr} {i : Nat} {items} {Q : Value → Shared → Prop} (hh : A.handled = none)
    (hit : s.heap.IsTupleIter it l i) (hl : s.heap.IsTuple l items) (hx : items[i]? = none)
    (hE : ∀ h' e, Heap.ExtBut it s.heap h' → (∃ o, h'.get? e = some o ∧ o.cls = .type "StopIteration") → E (.ref e) { s with heap := h' }) :
    wpAny (model prog w) A (Builtin.SmallTypes.nextOf (.ref it)) Q E s := by
  obtain ⟨o, ho, hc, hd⟩ := id hit
  obtain ⟨ol, hol, _, nl, hdl⟩ := hl
  unfold Builtin.SmallTypes.nextOf
  refine wpAny_bind (wpAny_callSpecial?_slot (name := Str.ofString "__next__") hit.typeIs F.slot_tuple_iterator_next
    (wpAny_call_entry F.slot_tuple_iterator_next hit.typeIs F.entry_tuple_iterator_next ?_ (F.args_tuple_iterator_next_1 _)))
  show wpAny _ _ (field (.ref it) 0 >>= _) _ _ s
  refine wpAny_bind (wpAny_field ho hd (x := .ref l) rfl ?_)
  show wpAny _ _ (if (Value.ref l == Value.none) = true then _ else _) _ _ s
  rw [if_neg (show ¬ ((Value.ref l == Value.none) = true) from Bool.false_ne_true)]
  show wpAny _ _ (field (.ref it) 1 >>= _) _ _ s
  refine wpAny_bind (wpAny_field ho hd (x := .int i 0) rfl ?_)
  show wpAny _ _ (seqItems? (.ref l) >>= _) _ _ s
  refine wpAny_bind (wpAny_seqItems hol hdl ?_)
  simp only [Int.toNat_natCast, hx]
  refine wpAny_bind (wpAny_rule (wpAny_bind (wpAny_setField ho hd (by simp) ?_)))
  show wpAny _ _ (newExc (.type "StopIteration") [] >>= _) _ _ _
  refine wpAny_bind ?_
  simp only [newExc, newTuple]
  refine wpAny_bind (wpAny_newObj_type ?_ (by size_fits))
  refine wpAny_bind (m := firstArgMember _ _) (wpAny_of_eq (a := Value.none) (by first | rfl | (simp only [firstArgMember]; rfl)) ?_)
  refine wpAny_newObj_type ?_ (by size_fits)
  simp only [raiseNew]
  refine wpAny_bind (wpAny_handled ?_)
  first | rw [show A.in1.handled = none from hh] | rw [hh]
  refine wpAny_bind (wpAny_pure (wpAny_throw ?_))
  exact hE _ _ (((Heap.SameBut.update ..).extBut.push _).push _) ⟨_, Heap.get?_push_size _ rfl, rfl⟩

def ItAt (t : Bool) (h : Heap) (it a : Addr) (k : Nat) : Prop := match t with
  | true => h.IsTupleIter it a k
  | false => h.IsListIter it a k
def SrcAt (t : Bool) (h : Heap) (a : Addr) (xs : Array Value) : Prop := match t with
  | true => h.IsTuple a xs
  | false => h.IsList a xs
def itCls (t : Bool) : String := match t with
  | true => "tuple_iterator"
  | false => "list_iterator"
theorem ItAt.at {t : Bool} {h h' : Heap} {it a : Addr} {k : Nat} (x : ItAt t h it a k) (e : ∀ o, h.get? it = some o → h'.get? it = some o) : ItAt t h' it a k := by
  cases t with
  | true => obtain ⟨o, ho, r⟩ := x; exact ⟨o, e o ho, r⟩
  | false => obtain ⟨o, ho, r⟩ := x; exact ⟨o, e o ho, r⟩
theorem ItAt.obj {t : Bool} {h : Heap} {it a : Addr} {k : Nat} (x : ItAt t h it a k) : ∃ o, h.get? it = some o ∧ ∀ v, o.data ≠ .cell v := by
  cases t with
  | true => obtain ⟨o, ho, _, d⟩ := x; exact ⟨o, ho, fun v z => by rw [d] at z; cases z⟩
  | false => obtain ⟨o, ho, _, d⟩ := x; exact ⟨o, ho, fun v z => by rw [d] at z; cases z⟩
theorem SrcAt.at {t : Bool} {h h' : Heap} {a : Addr} {xs : Array Value} (x : SrcAt t h a xs) (e : ∀ o, h.get? a = some o → h'.get? a = some o) : SrcAt t h' a xs := by
  cases t with
  | true => obtain ⟨o, ho, r⟩ := x; exact ⟨o, e o ho, r⟩
  | false => obtain ⟨o, ho, r⟩ := x; exact ⟨o, e o ho, r⟩
theorem SrcAt.lt {t : Bool} {h : Heap} {a : Addr} {xs : Array Value} (x : SrcAt t h a xs) : a < h.objs.size := by
  cases t with
  | true => obtain ⟨o, ho, _⟩ := x; exact Heap.lt_size ho
  | false => obtain ⟨o, ho, _⟩ := x; exact Heap.lt_size ho
theorem nextOf_item {t : Bool} {it a : Addr} {k : Nat} {xs : Array Value} {x : Value} {Q : Value → Shared → Prop} (hit : ItAt t s.heap it a k) (hs : SrcAt t s.heap a xs) (hx : xs[k]? = some x)
    (hQ : ∀ h', ItAt t h' it a (k + 1) → Heap.SameBut it s.heap h' → Q x { s with heap := h' }) : wpAny (model prog w) A (Builtin.SmallTypes.nextOf (.ref it)) Q E s := by
  cases t with
  | true => exact nextOf_tup_item hit hs hx hQ
  | false => exact wpAny_nextOf_list_item hit hs hx hQ
theorem nextOf_end {t : Bool} {it a : Addr} {k : Nat} {xs : Array Value} {Q : Value → Shared → Prop} (hh : A.handled = none) (hit : ItAt t s.heap it a k) (hs : SrcAt t s.heap a xs) (hx : xs[k]? = none)
    (hE : ∀ h' e, Heap.ExtBut it s.heap h' → (∃ o, h'.get? e = some o ∧ o.cls = .type "StopIteration") → E (.ref e) { s with heap := h' }) : wpAny (model prog w) A (Builtin.SmallTypes.nextOf (.ref it)) Q E s := by
  cases t with
  | true => exact nextOf_tup_end hh hit hs hx hE
  | false => exact wpAny_nextOf_list_end hh hit hs hx hE
theorem pyIter_src {t : Bool} {a : Addr} {xs : Array Value} {Q : Value → Shared → Prop} (hs : SrcAt t s.heap a xs)
    (hQ : Q (.ref s.heap.objs.size) { s with heap := s.heap.push { cls := .type (itCls t), data := .fields #[.ref a, .int 0 0] } }) : wpAny (model prog w) A (pyIter (.ref a)) Q E s := by
  cases t with
  | true => exact wpAny_pyIter_tuple hs hQ
  | false => exact wpAny_pyIter_list hs hQ
theorem ItAt.new {t : Bool} {h : Heap} {it a : Addr} (e : h.get? it = some { cls := .type (itCls t), data := .fields #[.ref a, .int 0 0] }) : ItAt t h it a 0 := by
  cases t with
  | true => exact ⟨_, e, rfl, rfl⟩
  | false => exact ⟨_, e, rfl, rfl⟩

theorem zipN_item {t1 t2 : Bool} {z TI TO i1 i2 l1 l2 : Addr} {k1 k2 : Nat} {xs ys : Array Value} {x y a b : Value} {Q : Option Value → Shared → Prop} (D : ZipApart z TI TO i1 i2 l1 l2)
    (hz : IsZip s.heap z TI TO .none) (hTI : IsPair s.heap TI (.ref i1) (.ref i2)) (hTO : IsPair s.heap TO a b)
    (h1 : ItAt t1 s.heap i1 l1 k1) (h2 : ItAt t2 s.heap i2 l2 k2) (hl1 : SrcAt t1 s.heap l1 xs) (hl2 : SrcAt t2 s.heap l2 ys) (hx : xs[k1]? = some x) (hy : ys[k2]? = some y)
    (hQ : ∀ h', IsZip h' z TI TO (rawInt s.heap.objs.size) → IsPair h' TO x y → ItAt t1 h' i1 l1 (k1 + 1) → ItAt t2 h' i2 l2 (k2 + 1) → IsPair h' s.heap.objs.size x y → h'.objs.size = s.heap.objs.size + 1 →
      (∀ c o, c ≠ z → c ≠ TO → c ≠ i1 → c ≠ i2 → s.heap.get? c = some o → h'.get? c = some o) → Q (some (.ref s.heap.objs.size)) { s with heap := h' }) :
    wpAny (model prog w) A (pyNext (.ref z)) Q E s := by
  have hT : s.TypeIs (.ref z) "zip" := ⟨_, hz, rfl⟩
  unfold pyNext
  refine wpAny_bind (wpAny_attempt (wpAny_callSpecial?_slot (name := Str.ofString "__next__") hT F.slot_zip_next
    (wpAny_call_entry F.slot_zip_next hT F.entry_zip_next ?_ (F.args_zip_next_1 _))))
  show wpAny _ _ (field (.ref z) 2 >>= _) _ _ _
  refine wpAny_bind (wpAny_field hz rfl (x := .bool false) rfl ?_)
  show wpAny _ _ (field (.ref z) 3 >>= _) _ _ _
  refine wpAny_bind (wpAny_field hz rfl (x := .ref TI) rfl ?_)
  refine wpAny_bind (wpAny_seqItems hTI rfl ?_)
  show wpAny _ _ (Builtin.SmallTypes.ownedTupleIsFree (.ref z) >>= _) _ _ _
  refine wpAny_bind ?_
  unfold Builtin.SmallTypes.ownedTupleIsFree
  refine wpAny_bind (wpAny_field hz rfl (x := .none) rfl (wpAny_pure ?_))
  simp only [if_true]
  refine wpAny_bind (wpAny_rule ?_)
  refine wpAny_bind (wpAny_field hz rfl (x := .ref TO) rfl ?_)
  refine wpAny_bind (wpAny_setField_rec hz (by simp) fun h₁ hz₁ hs₁ => ?_)
  replace hz₁ : IsZip h₁ z TI TO .ellipsis := hz₁
  refine wpAny_bind ?_
  simp only [List.zipIdx_cons, List.zipIdx_nil, List.forIn_cons, List.forIn_nil]
  refine wpAny_bind (wpAny_bind (wpAny_onRaise ?_))
  show wpAny _ _ (Builtin.SmallTypes.nextOf (.ref i1) >>= _) _ _ _
  refine wpAny_bind (nextOf_item (h1.at fun o e => hs₁.extBut _ _ D.i1z e) (hl1.at fun o e => hs₁.extBut _ _ D.l1z e) hx fun h₂ h1₂ hs₂ => wpAny_pure ?_)
  have hTO₂ : IsPair h₂ TO a b := hs₂.extBut _ _ D.TOi1 (hs₁.extBut _ _ D.TOz hTO)
  refine wpAny_bind (wpAny_seqItems hTO₂ rfl ?_)
  refine wpAny_bind (wpAny_updateSeq_pair hTO₂ fun h₃ hTO₃ hs₃ => ?_)
  replace hTO₃ : IsPair h₃ TO x b := hTO₃
  refine wpAny_bind (wpAny_letGo (wpAny_pure ?_))
  refine wpAny_bind (wpAny_bind (wpAny_onRaise ?_))
  show wpAny _ _ (Builtin.SmallTypes.nextOf (.ref i2) >>= _) _ _ _
  refine wpAny_bind (nextOf_item (h2.at fun o e => hs₃.extBut _ _ D.TOi2.symm (hs₂.extBut _ _ D.i12.symm (hs₁.extBut _ _ D.i2z e)))
    (hl2.at fun o e => hs₃.extBut _ _ D.l2TO (hs₂.extBut _ _ D.l2i1 (hs₁.extBut _ _ D.l2z e))) hy fun h₄ h2₄ hs₄ => wpAny_pure ?_)
  have hTO₄ : IsPair h₄ TO x b := hs₄.extBut _ _ D.TOi2 hTO₃
  refine wpAny_bind (wpAny_seqItems hTO₄ rfl ?_)
  refine wpAny_bind (wpAny_updateSeq_pair hTO₄ fun h₅ hTO₅ hs₅ => ?_)
  replace hTO₅ : IsPair h₅ TO x y := hTO₅
  refine wpAny_bind (wpAny_letGo (wpAny_pure (wpAny_pure ?_)))
  refine wpAny_bind (wpAny_seqItems hTO₅ rfl ?_)
  refine wpAny_bind (wpAny_newTuple ?_)
  have hsz : h₅.objs.size = s.heap.objs.size := by rw [hs₅.1, hs₄.1, hs₃.1, hs₂.1, hs₁.1]
  have hz₅ : IsZip h₅ z TI TO .ellipsis := hs₅.extBut _ _ D.TOz.symm (hs₄.extBut _ _ D.i2z.symm (hs₃.extBut _ _ D.TOz.symm (hs₂.extBut _ _ D.i1z.symm hz₁)))
  have hk₅ : ∀ c o, c ≠ z → c ≠ TO → c ≠ i1 → c ≠ i2 → s.heap.get? c = some o → h₅.get? c = some o := fun c o c1 c2 c3 c4 e =>
    hs₅.extBut _ _ c2 (hs₄.extBut _ _ c4 (hs₃.extBut _ _ c2 (hs₂.extBut _ _ c3 (hs₁.extBut _ _ c1 e))))
  have h1₅ : ItAt t1 h₅ i1 l1 (k1 + 1) := h1₂.at fun o e => hs₅.extBut _ _ D.TOi1.symm (hs₄.extBut _ _ D.i12 (hs₃.extBut _ _ D.TOi1.symm e))
  have h2₅ : ItAt t2 h₅ i2 l2 (k2 + 1) := h2₄.at fun o e => hs₅.extBut _ _ D.TOi2.symm e
  have hzlt : z < h₅.objs.size := Heap.lt_size hz₅
  show wpAny _ _ (Builtin.SmallTypes.ownedTupleHandOut (.ref z) (.ref h₅.objs.size) >>= _) _ _ _
  refine wpAny_bind ?_
  unfold Builtin.SmallTypes.ownedTupleHandOut
  have hz₆ : IsZip (h₅.push { cls := .type "tuple", data := .seq #[x, y] }) z TI TO .ellipsis := Heap.get?_push_of_some _ hz₅
  refine wpAny_bind (wpAny_setField_rec hz₆ (by simp) fun h₇ hz₇ hs₇ => ?_)
  replace hz₇ : IsZip h₇ z TI TO (rawInt h₅.objs.size) := hz₇
  refine wpAny_setField_rec hz₇ (by simp) fun h₈ hz₈ hs₈ => ?_
  replace hz₈ : IsZip h₈ z TI TO (rawInt h₅.objs.size) := hz₈
  have up : ∀ c o, c ≠ z → h₅.get? c = some o → h₈.get? c = some o := fun c o c1 e => hs₈.extBut _ _ c1 (hs₇.extBut _ _ c1 (Heap.get?_push_of_some _ e))
  have hT₈ : IsPair h₈ h₅.objs.size x y := hs₈.extBut _ _ (Nat.ne_of_gt hzlt) (hs₇.extBut _ _ (Nat.ne_of_gt hzlt) (Heap.get?_push_size _ rfl))
  have hz8 : h₈.objs.size = h₅.objs.size + 1 := by rw [hs₈.1, hs₇.1, Heap.size_push]
  rw [hsz] at hz₈ hT₈ hz8
  refine wpAny_pure ⟨_, rfl, ?_⟩
  refine wpAny_pure ?_
  show Q (some (.ref h₅.objs.size)) _
  rw [hsz]
  exact hQ h₈ hz₈ (up _ _ D.TOz hTO₅) (h1₅.at fun o e => up _ o D.i1z e) (h2₅.at fun o e => up _ o D.i2z e) hT₈ hz8 fun c o c1 c2 c3 c4 e => up c o c1 (hk₅ c o c1 c2 c3 c4 e)
theorem zipN_end {t1 t2 : Bool} {z TI TO i1 i2 l1 l2 : Addr} {k1 k2 : Nat} {xs ys : Array Value} {a b : Value} {Q : Option Value → Shared → Prop} (hh : A.handled = none) (D : ZipApart z TI TO i1 i2 l1 l2)
    (hz : IsZip s.heap z TI TO .none) (hTI : IsPair s.heap TI (.ref i1) (.ref i2)) (hTO : IsPair s.heap TO a b)
    (h1 : ItAt t1 s.heap i1 l1 k1) (h2 : ItAt t2 s.heap i2 l2 k2) (hl1 : SrcAt t1 s.heap l1 xs) (hl2 : SrcAt t2 s.heap l2 ys) (hend : xs[k1]? = none ∨ ys[k2]? = none)
    (hQ : ∀ h', (∀ c o, c ≠ z → c ≠ TO → c ≠ i1 → c ≠ i2 → s.heap.get? c = some o → h'.get? c = some o) → Q none { s with heap := h' }) : wpAny (model prog w) A (pyNext (.ref z)) Q E s := by
  have hT : s.TypeIs (.ref z) "zip" := ⟨_, hz, rfl⟩
  have hE : ∀ h' e, (∀ c o, c ≠ z → c ≠ TO → c ≠ i1 → c ≠ i2 → s.heap.get? c = some o → h'.get? c = some o) → (∃ o, h'.get? e = some o ∧ o.cls = .type "StopIteration") →
      wpAny (model prog w) A (do if (← isInstance (.ref e) (.type "StopIteration")) then pure none else throw (.ref e)) Q E { s with heap := h' } := fun h' e hk he => by
    obtain ⟨o, ho, hc⟩ := he
    exact wpAny_bind (wpAny_isInstance (T := "StopIteration") (b := true) ⟨o, ho, hc⟩ isSubtype_stop (wpAny_pure (hQ _ hk)))
  unfold pyNext
  refine wpAny_bind (wpAny_attempt (wpAny_callSpecial?_slot (name := Str.ofString "__next__") hT F.slot_zip_next
    (wpAny_call_entry F.slot_zip_next hT F.entry_zip_next ?_ (F.args_zip_next_1 _))))
  show wpAny _ _ (field (.ref z) 2 >>= _) _ _ _
  refine wpAny_bind (wpAny_field hz rfl (x := .bool false) rfl ?_)
  show wpAny _ _ (field (.ref z) 3 >>= _) _ _ _
  refine wpAny_bind (wpAny_field hz rfl (x := .ref TI) rfl ?_)
  refine wpAny_bind (wpAny_seqItems hTI rfl ?_)
  show wpAny _ _ (Builtin.SmallTypes.ownedTupleIsFree (.ref z) >>= _) _ _ _
  refine wpAny_bind ?_
  unfold Builtin.SmallTypes.ownedTupleIsFree
  refine wpAny_bind (wpAny_field hz rfl (x := .none) rfl (wpAny_pure ?_))
  simp only [if_true]
  refine wpAny_bind (wpAny_rule ?_)
  refine wpAny_bind (wpAny_field hz rfl (x := .ref TO) rfl ?_)
  refine wpAny_bind (wpAny_setField_rec hz (by simp) fun h₁ hz₁ hs₁ => ?_)
  replace hz₁ : IsZip h₁ z TI TO .ellipsis := hz₁
  refine wpAny_bind ?_
  simp only [List.zipIdx_cons, List.zipIdx_nil, List.forIn_cons, List.forIn_nil]
  refine wpAny_bind (wpAny_bind (wpAny_onRaise ?_))
  show wpAny _ _ (Builtin.SmallTypes.nextOf (.ref i1) >>= _) _ _ _
  cases hx : xs[k1]? with
  | none =>
    refine wpAny_bind (nextOf_end hh (h1.at fun o e => hs₁.extBut _ _ D.i1z e) (hl1.at fun o e => hs₁.extBut _ _ D.l1z e) hx fun h₂ e hs₂ he => ?_)
    obtain ⟨oe, hoe, hce⟩ := he
    have hz₂ : IsZip h₂ z TI TO .ellipsis := hs₂ _ _ D.i1z.symm hz₁
    have hez : e ≠ z := fun x => by subst x; rw [hz₂] at hoe; cases hoe; simp at hce
    refine wpAny_setField_rec hz₂ (by simp) fun h₃ _ hs₃ => hE h₃ e (fun c o c1 _ c3 _ x => hs₃.extBut _ _ c1 (hs₂ _ _ c3 (hs₁.extBut _ _ c1 x))) ⟨oe, hs₃.extBut _ _ hez hoe, hce⟩
  | some x =>
    have hy : ys[k2]? = none := by rcases hend with h | h; rw [hx] at h; cases h; exact h
    refine wpAny_bind (nextOf_item (h1.at fun o e => hs₁.extBut _ _ D.i1z e) (hl1.at fun o e => hs₁.extBut _ _ D.l1z e) hx fun h₂ h1₂ hs₂ => wpAny_pure ?_)
    have hTO₂ : IsPair h₂ TO a b := hs₂.extBut _ _ D.TOi1 (hs₁.extBut _ _ D.TOz hTO)
    refine wpAny_bind (wpAny_seqItems hTO₂ rfl ?_)
    refine wpAny_bind (wpAny_updateSeq_pair hTO₂ fun h₃ hTO₃ hs₃ => ?_)
    refine wpAny_bind (wpAny_letGo (wpAny_pure ?_))
    refine wpAny_bind (wpAny_bind (wpAny_onRaise ?_))
    show wpAny _ _ (Builtin.SmallTypes.nextOf (.ref i2) >>= _) _ _ _
    refine wpAny_bind (nextOf_end hh (h2.at fun o e => hs₃.extBut _ _ D.TOi2.symm (hs₂.extBut _ _ D.i12.symm (hs₁.extBut _ _ D.i2z e)))
      (hl2.at fun o e => hs₃.extBut _ _ D.l2TO (hs₂.extBut _ _ D.l2i1 (hs₁.extBut _ _ D.l2z e))) hy fun h₄ e hs₄ he => ?_)
    obtain ⟨oe, hoe, hce⟩ := he
    have hz₄ : IsZip h₄ z TI TO .ellipsis := hs₄ _ _ D.i2z.symm (hs₃.extBut _ _ D.TOz.symm (hs₂.extBut _ _ D.i1z.symm hz₁))
    have hez : e ≠ z := fun x => by subst x; rw [hz₄] at hoe; cases hoe; simp at hce
    refine wpAny_setField_rec hz₄ (by simp) fun h₅ _ hs₅ => hE h₅ e (fun c o c1 c2 c3 c4 x => hs₅.extBut _ _ c1 (hs₄ _ _ c4 (hs₃.extBut _ _ c2 (hs₂.extBut _ _ c3 (hs₁.extBut _ _ c1 x))))) ⟨oe, hs₅.extBut _ _ hez hoe, hce⟩
end

def zipI (t1 : Bool) (h : Heap) (l1 : Addr) : Heap := h.push { cls := .type (itCls t1), data := .fields #[.ref l1, .int 0 0] }
def zipJ (t1 t2 : Bool) (h : Heap) (l1 l2 : Addr) : Heap := (zipI t1 h l1).push { cls := .type (itCls t2), data := .fields #[.ref l2, .int 0 0] }
def zipK (t1 t2 : Bool) (h : Heap) (l1 l2 : Addr) : Heap := (zipJ t1 t2 h l1 l2).push { cls := .type "tuple", data := .seq #[.ref h.objs.size, .ref (zipI t1 h l1).objs.size] }
def zipL (t1 t2 : Bool) (h : Heap) (l1 l2 : Addr) : Heap := (zipK t1 t2 h l1 l2).push { cls := .type "tuple", data := .seq #[.none, .none] }
def zipM (t1 t2 : Bool) (h : Heap) (l1 l2 : Addr) : Heap := (zipL t1 t2 h l1 l2).push { cls := .type "zip", data := .fields #[.none, .bool false, .bool false, .ref (zipJ t1 t2 h l1 l2).objs.size, .ref (zipK t1 t2 h l1 l2).objs.size] }
theorem meets_zip (t1 t2 : Bool) (l1 l2 : Addr) (xs ys : Array Value) :
    Meets (Builtin.«zip.__new__» ⟨[.type "zip", .ref l1, .ref l2], []⟩) (fun _ R s => SrcAt t1 s.heap l1 xs ∧ SrcAt t2 s.heap l2 ys ∧
      R (.ok (.ret (.ref (zipL t1 t2 s.heap l1 l2).objs.size))) { s with heap := zipM t1 t2 s.heap l1 l2 }) :=
  .of_wp fun prog w A R s h => by
    obtain ⟨hp, g, d, tk, os⟩ := s; obtain ⟨hl1, hl2, h⟩ := h
    have hsub := sub_zip
    have hL1 : SrcAt t1 (Shared.heap ⟨hp, g, d, tk, os⟩) l1 xs := hl1
    have hL2 : SrcAt t2 (Shared.heap ⟨hp.push { cls := .type (itCls t1), data := .fields #[.ref l1, .int 0 0] }, g, d, tk, os⟩) l2 ys := hl2.at fun o e => Heap.get?_push_of_some _ e
    wp_walk using pyIter_src hL1, pyIter_src hL2
    exact ⟨_, rfl, h⟩
end L2

set_option Elab.async false
set_option linter.all false
set_option maxRecDepth 100000
set_option maxHeartbeats 4000000
namespace L2
open PySem PySem.Spec PyProof.Rows
section
variable {prog : Program} {w : World} {A : Around} {E : Value → Shared → Prop} {s : Shared}
theorem call_zip {t1 t2 : Bool} {l1 l2 : Addr} {xs ys : Array Value} {Q : Value → Shared → Prop} (hl1 : SrcAt t1 s.heap l1 xs) (hl2 : SrcAt t2 s.heap l2 ys)
    (h : ∀ h', IsZip h' (s.heap.objs.size + 4) (s.heap.objs.size + 2) (s.heap.objs.size + 3) .none → IsPair h' (s.heap.objs.size + 2) (.ref s.heap.objs.size) (.ref (s.heap.objs.size + 1)) →
      IsPair h' (s.heap.objs.size + 3) .none .none → ItAt t1 h' s.heap.objs.size l1 0 → ItAt t2 h' (s.heap.objs.size + 1) l2 0 →
      (∀ c o, s.heap.get? c = some o → h'.get? c = some o) → Q (.ref (s.heap.objs.size + 4)) { s with heap := h' }) :
    wpAny (model prog w) A (call (.type "zip") [.ref l1, .ref l2]) Q E s := by
  refine callType_new F.called_zip (by decide) (F.typeCall_zip_2 _ _) (F.newCall_zip_2 _ _) (fun obj => F.args_object_init_3 obj _ _) F.entry_zip_new
    (meets_zip t1 t2 l1 l2 xs ys) ⟨hl1, hl2, ?_⟩
  have z1 : (zipI t1 s.heap l1).objs.size = s.heap.objs.size + 1 := Heap.size_push ..
  have z2 : (zipJ t1 t2 s.heap l1 l2).objs.size = s.heap.objs.size + 2 := by rw [zipJ, Heap.size_push, z1]
  have z3 : (zipK t1 t2 s.heap l1 l2).objs.size = s.heap.objs.size + 3 := by rw [zipK, Heap.size_push, z2]
  have z4 : (zipL t1 t2 s.heap l1 l2).objs.size = s.heap.objs.size + 4 := by rw [zipL, Heap.size_push, z3]
  have g5 : (zipM t1 t2 s.heap l1 l2).get? (zipL t1 t2 s.heap l1 l2).objs.size = some _ := Heap.get?_push_size _ rfl
  have g4 : (zipM t1 t2 s.heap l1 l2).get? (zipK t1 t2 s.heap l1 l2).objs.size = some _ := Heap.get?_push_of_some _ (Heap.get?_push_size _ rfl)
  have g3 : (zipM t1 t2 s.heap l1 l2).get? (zipJ t1 t2 s.heap l1 l2).objs.size = some _ := Heap.get?_push_of_some _ (Heap.get?_push_of_some _ (Heap.get?_push_size _ rfl))
  have g2 : (zipM t1 t2 s.heap l1 l2).get? (zipI t1 s.heap l1).objs.size = some _ := Heap.get?_push_of_some _ (Heap.get?_push_of_some _ (Heap.get?_push_of_some _ (Heap.get?_push_size _ rfl)))
  have g1 : (zipM t1 t2 s.heap l1 l2).get? s.heap.objs.size = some _ := Heap.get?_push_of_some _ (Heap.get?_push_of_some _ (Heap.get?_push_of_some _ (Heap.get?_push_of_some _ (Heap.get?_push_size _ rfl))))
  show _ ∧ _
  rw [z2, z3, z4] at g5
  rw [z1, z2] at g3
  rw [z3] at g4
  rw [z1] at g2
  rw [z4]
  exact ⟨⟨_, g5, rfl⟩, h _ g5 g3 g4 (ItAt.new g1) (ItAt.new g2) fun c o x =>
    Heap.get?_push_of_some _ (Heap.get?_push_of_some _ (Heap.get?_push_of_some _ (Heap.get?_push_of_some _ (Heap.get?_push_of_some _ x))))⟩
end

def SqA (t : Bool) (K : PySem.W.Frag) (H : Hp) (a : Addr) (xs : List V) : Prop := match t with
  | true => SqT K H a xs
  | false => SqL K H a xs
theorem Inv.src {X : Cx} {pins : List (Addr × Obj)} {σ : List (Option V)} {H : Hp} {s : Shared} {t : Bool} {a : Addr} {xs : List V} (I : Inv X pins σ H s) (h : SqA t X.K H a xs) : ∃ its : List Value, Vals xs its ∧ SrcAt t s.heap a its.toArray := by
  cases t with
  | true => obtain ⟨its, rv, p, _⟩ := I.tuple h; exact ⟨its, rv, p⟩
  | false => obtain ⟨its, rv, p, _⟩ := I.list h; exact ⟨its, rv, p.isList⟩
theorem Inv.src_inj {X : Cx} {pins : List (Addr × Obj)} {σ : List (Option V)} {H : Hp} {s : Shared} {t : Bool} {a : Addr} {xs ys : List V} (I : Inv X pins σ H s) (h : SqA t X.K H a xs) (h' : SqA t X.K H a ys) : xs = ys := by
  cases t with
  | true => exact I.tuple_inj h h'
  | false => exact I.list_inj h h'
def Itz (K : PySem.W.Frag) (t1 t2 : Bool) (a b : Addr) : It :=
  ⟨fun i H => ∃ xs x ys y, SqA t1 K H a xs ∧ xs[i]? = some x ∧ SqA t2 K H b ys ∧ ys[i]? = some y,
   fun i H v H' => ∃ T x y, (∀ xs, SqA t1 K H a xs → xs[i]? = some x) ∧ (∀ ys, SqA t2 K H b ys → ys[i]? = some y) ∧ H T = none ∧ v = .ref T ∧ H' = upd H T (.tup [x, y]),
   fun i H => ∃ xs ys, SqA t1 K H a xs ∧ SqA t2 K H b ys ∧ (xs.length ≤ i ∨ ys.length ≤ i)⟩
theorem turn_zip {P : Program} {w : World} {K : PySem.W.Frag} {elts : List Expr} {x1} {pos : Pos} {t1 t2 : Bool} {a b z TI TO i1 i2 : Addr} (D : ZipApart z TI TO i1 i2 a b) :
    Turn P w K (.Tuple elts x1 pos) (Itz K t1 t2 a b) [z, TI, TO, i1, i2] z (fun i h => IsZip h z TI TO .none ∧ IsPair h TI (.ref i1) (.ref i2) ∧ (∃ u v, IsPair h TO u v) ∧ ItAt t1 h i1 a i ∧ ItAt t2 h i2 b i) where
  mem := by simp
  obj := by
    rintro i h ⟨hz, hTI, ⟨u, v, hTO⟩, h1, h2⟩ c hc
    simp only [List.mem_cons, List.not_mem_nil, or_false] at hc
    rcases hc with rfl | rfl | rfl | rfl | rfl
    · exact ⟨_, hz, fun v z => by cases z⟩
    · exact ⟨_, hTI, fun v z => by cases z⟩
    · exact ⟨_, hTO, fun v z => by cases z⟩
    · exact h1.obj
    · exact h2.obj
  keep := by
    rintro i h h' ⟨hz, hTI, ⟨u, v, hTO⟩, h1, h2⟩ k
    exact ⟨k z (by simp) _ hz, k TI (by simp) _ hTI, ⟨u, v, k TO (by simp) _ hTO⟩, h1.at fun o e => k i1 (by simp) o e, h2.at fun o e => k i2 (by simp) o e⟩
  item := by
    rintro X hP hw hK hc i pins s σ H E I hf ⟨hz, hTI, ⟨u, v, hTO⟩, h1, h2⟩ ⟨xs, x, ys, y, q1, hx, q2, hy⟩
    subst hP hw hK
    obtain ⟨its1, rv1, p1⟩ := I.src q1
    obtain ⟨its2, rv2, p2⟩ := I.src q2
    obtain ⟨ux, hux, rx⟩ := rv1.get hx
    obtain ⟨uy, huy, ry⟩ := rv2.get hy
    refine zipN_item D hz hTI hTO h1 h2 p1 p2 (x := ux) (y := uy) (by simpa using hux) (by simpa using huy) fun h' a1 a2 a3 a4 a5 a6 a7 => ?_
    have hT : H s.heap.objs.size = none := I.hok.fresh (Nat.le_refl _)
    have I1 : Inv X pins σ (upd H s.heap.objs.size (.tup [x, y])) { s with heap := s.heap.push { cls := .type "tuple", data := .seq [ux, uy].toArray } } :=
      I.laid (t' := s.toks) (fun b o e => Heap.get?_push_of_some _ e) (Nat.le_refl _) (show ObjOk X.prog X.w _ _ _ (.tup [x, y]) from ⟨by show 2 ≤ sizeLine; decide, [ux, uy], .cons rx (.cons ry .nil), IsTup.new _ _⟩)
    have hlt : ∀ c ∈ [z, TI, TO, i1, i2], c < s.heap.objs.size := by
      intro c hc
      simp only [List.mem_cons, List.not_mem_nil, or_false] at hc
      rcases hc with rfl | rfl | rfl | rfl | rfl
      · exact Heap.lt_size hz
      · exact Heap.lt_size hTI
      · exact Heap.lt_size hTO
      · obtain ⟨o, e, _⟩ := h1.obj; exact Heap.lt_size e
      · obtain ⟨o, e, _⟩ := h2.obj; exact Heap.lt_size e
    have hf' : ∀ c ∈ [z, TI, TO, i1, i2], FpOk X pins (upd H s.heap.objs.size (.tup [x, y])) c := fun c hc => by
      obtain ⟨f0, fr⟩ := hf c hc
      exact ⟨by rw [upd_ne (Nat.ne_of_lt (hlt c hc))]; exact f0, fr⟩
    have kept : ∀ c o, c ∉ [z, TI, TO, i1, i2] → (s.heap.push { cls := .type "tuple", data := .seq [ux, uy].toArray }).get? c = some o → h'.get? c = some o := by
      intro c o hc e
      have hc' : c ≠ z ∧ c ≠ TI ∧ c ≠ TO ∧ c ≠ i1 ∧ c ≠ i2 := by simpa using hc
      by_cases hn : c = s.heap.objs.size
      · subst hn
        have e0 : (s.heap.push { cls := .type "tuple", data := .seq [ux, uy].toArray }).get? s.heap.objs.size = some { cls := .type "tuple", data := .seq [ux, uy].toArray } := Heap.get?_push_size _ rfl
        rw [e0] at e
        cases e
        exact a5
      · have e1 : s.heap.get? c = some o := by
          rw [Heap.get?_push_ne _ _ _ hn] at e
          exact e
        exact a7 c o hc'.1 hc'.2.2.1 hc'.2.2.2.1 hc'.2.2.2.2 e1
    have I2 : Inv X pins σ (upd H s.heap.objs.size (.tup [x, y])) { s with heap := h' } := I1.turnedL (t' := s.toks) kept hf'
    refine ⟨_, rfl, ?_⟩
    refine wpAny_letOwnedTupleGo_zip a1 fun h2' hz2 hs2 => ?_
    have I3 : Inv X pins σ (upd H s.heap.objs.size (.tup [x, y])) { s with heap := h2' } := Inv.turnedL (s := { s with heap := h' }) (h' := h2') (t' := s.toks) (fp := [z, TI, TO, i1, i2]) I2 (fun c o hc e => hs2.extBut _ _ (fun q => hc (by simp [q])) e) hf'
    refine ⟨.ref s.heap.objs.size, _, I3, rfl, ⟨_, x, y, fun zs hq => by rw [I.src_inj hq q1]; exact hx, fun zs hq => by rw [I.src_inj hq q2]; exact hy, hT, rfl, rfl⟩, ?_, fun c hc => (hf' c hc).1⟩
    exact ⟨hz2, hs2.extBut _ _ D.TIz (a7 _ _ D.TIz D.TITO D.TIi1 D.TIi2 hTI), ⟨_, _, hs2.extBut _ _ D.TOz a2⟩, a3.at fun o e => hs2.extBut _ _ D.i1z e, a4.at fun o e => hs2.extBut _ _ D.i2z e⟩
  done := by
    rintro X hP hw hK hc i pins s σ H E I hf ⟨hz, hTI, ⟨u, v, hTO⟩, h1, h2⟩ ⟨xs, ys, q1, q2, hend⟩
    subst hP hw hK
    obtain ⟨its1, rv1, p1⟩ := I.src q1
    obtain ⟨its2, rv2, p2⟩ := I.src q2
    have l1 := rv1.length
    have l2 := rv2.length
    refine zipN_end (I.ok.hd hc) D hz hTI hTO h1 h2 p1 p2 (by simp; omega) fun h' hk => ⟨rfl, I.turnedL (t' := s.toks) (fp := [z, TI, TO, i1, i2]) (fun c o hc e => ?_) hf⟩
    have hc' : c ≠ z ∧ c ≠ TI ∧ c ≠ TO ∧ c ≠ i1 ∧ c ≠ i2 := by simpa using hc
    exact hk c o hc'.1 hc'.2.2.1 hc'.2.2.2.1 hc'.2.2.2.2 e
  self := fun _ _ _ _ _ st h => wpAny_pyIter_zip st.1 h

section
variable {X : Cx} {K : PySem.W.Frag}
def iZip (K : PySem.W.Frag) (ta : TA) : TI := fun σ H R => ta σ H fun vs H1 => match vs with
  | [.ref a, .ref b] => ∃ t1 t2, (∃ xs, SqA t1 K H1 a xs) ∧ (∃ ys, SqA t2 K H1 b ys) ∧ R (Itz K t1 t2 a b) H1
  | _ => False
theorem pi_zip {a b : Expr} {ta : TA} {p pos : Pos} {elts : List Expr} {x1} {pos' : Pos} (hg : Gl X "zip") (hm : X.mg "zip" = none) (ha : PA X [a, b] ta) (hK : X.K = K := by rfl) (hs : starEach [a, b] X.env = [(false, eval a X.env), (false, eval b X.env)] := by rfl) (hs2 : starEach [b] X.env = [(false, eval b X.env)] := by rfl) :
    PI X (.Tuple elts x1 pos') (.Call (.Name "zip" p) [a, b] [] pos) (iZip K ta) := by
  subst hK
  intro pins s σ H R I h
  refine Call_ (ld_blt I hg hm boot_zip (PyProof.Rows.callWith_type1 (thn (ha pos pins s σ H _ I h) fun us s1 ⟨vs, H1, I1, r1, q1⟩ => ?_) (by rw [hs, hs2]) (by rw [hs2]; rfl)))
  dsimp only at q1
  split at q1
  · obtain ⟨u, u', rfl, r, r'⟩ := vals2 r1
    cases r
    cases r'
    obtain ⟨t1, t2, ⟨xs, hx⟩, ⟨ys, hy⟩, q⟩ := q1
    obtain ⟨its1, rv1, p1⟩ := I1.src hx
    obtain ⟨its2, rv2, p2⟩ := I1.src hy
    refine call_zip p1 p2 fun h' hz hTI hTO h1 h2 hk => ?_
    refine wpAny_pyIter_zip hz ?_
    refine ⟨_, [s1.heap.objs.size + 4, s1.heap.objs.size + 2, s1.heap.objs.size + 3, s1.heap.objs.size, s1.heap.objs.size + 1], _, _, H1, rfl, I1.kept (t' := s1.toks) hk, turn_zip (zipApart_new p1.lt p2.lt), ⟨hz, hTI, ⟨_, _, hTO⟩, h1, h2⟩, fun c hc => ?_, q⟩
    have hge : s1.heap.objs.size ≤ c := by
      simp only [List.mem_cons, List.not_mem_nil, or_false] at hc
      rcases hc with rfl | rfl | rfl | rfl | rfl
      · exact Nat.le_add_right _ 4
      · exact Nat.le_add_right _ 2
      · exact Nat.le_add_right _ 3
      · exact Nat.le_refl _
      · exact Nat.le_add_right _ 1
    exact I1.fpOk hge (I1.hok.fresh hge)
  · exact q1.elim
theorem ji_zip {a b : Expr} {ta : TA} {p pos : Pos} {elts : List Expr} {x1} {pos' : Pos} (hg : Gl X "zip") (hm : X.mg "zip" = none) (ha : JA X [a, b] ta) (hK : X.K = K := by rfl) (h1 : noStar a = true := by rfl) (h2 : noStar b = true := by rfl) :
    JI X (.Tuple elts x1 pos') (.Call (.Name "zip" p) [a, b] [] pos) (iZip K ta) := .mk (pi_zip hg hm ha.out hK (by rw [starEach_cons h1, starEach_cons h2]; rfl) (by rw [starEach_cons h2]; rfl))
end
theorem for_zip {K : PySem.W.Frag} {t1 t2 : Bool} {a b : Addr} {xs ys : List V} {g : TG} {tb : TS} {D : Ends} {σ : St} {H : Hp} (Pv : Nat → St → Hp → Prop) (h0 : Pv 0 σ H) (hle : xs.length = ys.length)
    (hl : ∀ i σ H, i ≤ xs.length → Pv i σ H → SqA t1 K H a xs ∧ SqA t2 K H b ys)
    (hs : ∀ i x y σ H, xs[i]? = some x → ys[i]? = some y → Pv i σ H → ∀ T, H T = none → g (.ref T) σ (upd H T (.tup [x, y])) fun σ2 H2 => tb { D with nx := Pv (i + 1), ct := Pv (i + 1), bk := D.nx } σ2 H2) (hd : ∀ σ H, Pv xs.length σ H → D.nx σ H) :
    ∃ W : Nat → Nat → St → Hp → Prop, (∃ m, W 0 m σ H) ∧ ∀ i m σ H, W i m σ H →
      ((Itz K t1 t2 a b).stop i H ∧ D.nx σ H) ∨ ((Itz K t1 t2 a b).go i H ∧ ∃ N : St → Hp → Prop, (∀ σ' H', N σ' H' → ∃ m', m' < m ∧ W (i + 1) m' σ' H') ∧ ∀ x H', (Itz K t1 t2 a b).yld i H x H' → g x σ H' fun σ2 H2 => tb { D with nx := N, ct := N, bk := D.nx } σ2 H2) := by
  refine ⟨fun i m σ H => m = xs.length - i ∧ i ≤ xs.length ∧ Pv i σ H, ⟨xs.length, by simp, Nat.zero_le _, h0⟩, ?_⟩
  rintro i m σ H ⟨rfl, hi, p⟩
  obtain ⟨q1, q2⟩ := hl i σ H hi p
  by_cases hlt : i < xs.length
  · have hlt2 : i < ys.length := by omega
    refine .inr ⟨⟨xs, xs[i], ys, ys[i], q1, by simp [hlt], q2, by simp [hlt2]⟩, Pv (i + 1), fun σ' H' p' => ⟨xs.length - (i + 1), by omega, rfl, hlt, p'⟩, fun v H' y => ?_⟩
    obtain ⟨T, x, y, e1, e2, hT, rfl, rfl⟩ := y
    exact hs i x y σ H (e1 xs q1) (e2 ys q2) p T hT
  · have e : i = xs.length := by omega
    subst e
    exact .inl ⟨⟨xs, ys, q1, q2, .inl (Nat.le_refl _)⟩, hd σ H p⟩
end L2

set_option Elab.async false
set_option linter.all false
set_option maxRecDepth 100000
set_option maxHeartbeats 4000000
namespace L2
open PySem PySem.Spec PyProof.Rows

def FlyG (B : Heap) (l : List Env) (e : Addr) (cls a0 : Value) (h : Heap) : Prop := B.StaysIn h ∧ B.get? e = none ∧ h.FunFrames B l ∧ ∃ fl, h.TracedAtW B e cls a0 fl
theorem FlyG.of {B h : Heap} {l : List Env} {e : Addr} {cls a0 : Value} (x : Heap.FlyingW B l e cls a0 h) : FlyG B l e cls a0 h := ⟨x.1, x.2.1, x.2.2.1, _, x.2.2.2.at⟩
section
variable {M : Model} {A : Around} {E : Value → Shared → Prop} {s : Shared} {B : Heap} {env : Env} {outer : List Env} {L e : Addr} {cls a0 : Value} {Q : Unit → Shared → Prop}
theorem note_any (hfr : A.frames = some (env :: outer)) (hf : env.frame = some L) (x : FlyG B (env :: outer) e cls a0 s.heap)
    (hQ : ∀ h', Heap.HeldW B (env :: outer) e cls a0 L h' → s.heap.UpToSlots h' → Q () { s with heap := h' }) : wpAny M A (noteFrame (.ref e) env) Q E s := by
  obtain ⟨st, hn, hl, fl, ht⟩ := x
  by_cases hfl : fl = rawInt L
  · subst hfl
    exact wpAny_noteFrame_againW hf ht (hQ s.heap ⟨st, hn, hl, ht⟩ (.refl _))
  · obtain ⟨oe, vs, T, oT, ts, he, ⟨hcls, h0⟩, hd, h1, hnT, hTe, hT, hdT, h3⟩ := ht
    subst hcls
    unfold noteFrame
    simp only [hf]
    refine wpAny_bind (wpAny_field he hd h1 ?_)
    rw [if_pos (show (Value.ref T != Value.none) = true from by simp)]
    refine wpAny_bind (wpAny_field hT hdT h3 ?_)
    rw [if_neg (show ¬ ((fl == rawInt L) = true) from fun z => hfl (beq_iff_eq.mp z))]
    refine wpAny_bind (wpAny_setField hT hdT (Array.getElem?_eq_some_iff.mp h3).1 ?_)
    have other : ∀ b, b ≠ T → (s.heap.update T (Obj.mapFields (·.setIfInBounds 3 Value.none))).get? b = s.heap.get? b := fun b hb => Heap.get?_update_other _ _ (Ne.symm hb)
    have noRecord : ∀ b o, s.heap.get? b = some o → (∀ vs, o.data ≠ .fields vs) → b ≠ T := fun b o hb hnf q => by
      rw [q, hT] at hb; injection hb with hb; subst hb; exact hnf ts hdT
    refine wpAny_entryW hfr (hl.of_keeps fun b o hb hnf => ⟨o, (other b (noRecord b o hb hnf)).trans hb, rfl⟩) hf ((other e (Ne.symm hTe)).trans he)
      (fun b o hbo => (other b fun q => by rw [q, hnT] at hbo; cases hbo).trans (st b o hbo)) hn hd (Array.getElem?_eq_some_iff.mp h1).1 h0
      fun h' ⟨x1, x2, x3, x4⟩ => hQ h' ⟨x1, hn, x2, x3⟩ fun b o hb hnf => x4 b o ((other b (noRecord b o hb hnf)).trans hb) hnf
theorem leaving_any (hfr : A.frames = some (env :: outer)) (hf : env.frame = some L) (x : FlyG B (env :: outer) e cls a0 s.heap)
    (hQ : ∀ h', Heap.FlyingW B outer e cls a0 h' → s.heap.UpToSlots h' → Q () { s with heap := h' }) : wpAny M A (leaving env (.ref e)) Q E s := by
  unfold leaving
  refine wpAny_bind (note_any hfr hf x fun h1 hh us1 => ?_)
  refine wpAny_landsW (s := { s with heap := h1 }) hh fun h2 fl us2 => ?_
  obtain ⟨k1, k2, ⟨_, _, k3⟩, k4⟩ := fl
  exact hQ h2 ⟨k1, k2, k3, k4⟩ (us1.trans us2)
end

def FlyAt (P : Program) (w : World) (stack : List Env) (fs ex : List Addr) (H₀ : Hp) (h₀ : Heap) (os : OsState) (E : XK) (e : Value) (s' : Shared) : Prop :=
  ∃ (a : Addr) (B : Heap) (cls a0 : Value) (H' : Hp), e = .ref a ∧ s'.os = os ∧ AllBare s'.gens ∧ FlyG B stack a cls a0 s'.heap ∧ HOk P w H' B ∧ Un fs ex H₀ H' h₀ s'.heap ∧
  (∀ b o, h₀.get? b = some o → b ∉ fs → b ∉ ex → (∃ o', B.get? b = some o') ∧ (H₀ b = none → B.get? b = some o)) ∧ E cls none H'
def CX1 (P : Program) (w : World) : CXT := fun outer H s E e s' => FlyAt P w outer (frs outer) [] H s.heap s.os E e s'
def FlyX (X : Cx) (E : XK) (e : Value) (s' : Shared) : Prop := FlyAt X.prog X.w X.stack X.fs X.ex X.H₀ X.s₀.heap X.s₀.os E e s'
def Exits (X : Cx) (E : XK) : Prop := X.Ok → ∀ e s', FlyX X E e s' → X.xe e s'

section
variable {X : Cx} {E : XK} {pins : List (Addr × Obj)} {σ : List (Option V)} {H H' : Hp} {s : Shared} {h'' B : Heap}
theorem Inv.nostk (I : Inv X pins σ H s) {b : Addr} {o : Obj} (e : X.s₀.heap.get? b = some o) (hb : b ∉ X.fs) : b ∉ frs X.stack := fun z => by
  rcases List.mem_cons.mp (I.stkSub b z) with q | q
  · exact absurd (Nat.lt_of_lt_of_le (Heap.lt_size e) I.ok.above) (by rw [q]; exact Nat.lt_irrefl _)
  · exact hb q
theorem fly_core {fp : List Addr} {h' : Heap} (I : Inv X pins σ H s) (hfp : ∀ b ∈ fp, b ∈ X.ex ∨ X.s₀.heap.objs.size ≤ b) (un : Un (frs X.stack) fp H H' s.heap h')
    (kb : ∀ b o, s.heap.get? b = some o → b ∉ frs X.stack → b ∉ fp → (∃ o', B.get? b = some o') ∧ (H b = none → B.get? b = some o)) (st : B.StaysIn h') :
    Un X.fs X.ex X.H₀ H' X.s₀.heap h' ∧ ∀ b o, X.s₀.heap.get? b = some o → b ∉ X.fs → b ∉ X.ex → (∃ o', B.get? b = some o') ∧ (X.H₀ b = none → B.get? b = some o) := by
  have nofp : ∀ b o, X.s₀.heap.get? b = some o → b ∉ X.ex → b ∉ fp := fun b o e hx z => by
    rcases hfp b z with q | q
    · exact hx q
    · exact absurd (Nat.lt_of_lt_of_le (Heap.lt_size e) q) (Nat.lt_irrefl _)
  have kb' : ∀ b o, X.s₀.heap.get? b = some o → b ∉ X.fs → b ∉ X.ex → (∃ o', B.get? b = some o') ∧ (X.H₀ b = none → B.get? b = some o) := fun b o e hb hx => by
    obtain ⟨o1, e1⟩ := I.base.there b o e hx
    refine ⟨(kb b o1 e1 (I.nostk e hb) (nofp b o e hx)).1, fun n => ?_⟩
    exact (kb b o (I.base.keep b o e n hb hx) (I.nostk e hb) (nofp b o e hx)).2 (I.base.free b o e n hx)
  have inS : ∀ b, b ∈ X.fs → b ∈ frs X.stack := fun b hb => by
    rcases I.ok.stk with q | ⟨q, hf⟩
    · rw [q]; exact hb
    · rw [q]; unfold frs; rw [List.filterMap_cons, hf]; exact List.mem_cons_of_mem _ hb
  refine ⟨⟨fun b o e n hb hx => st b o ((kb' b o e hb hx).2 n), fun b o e n hb hx => ?_, fun b o e n hx => ?_, fun b o e hx => ?_, fun b xs e => un.tups b xs (I.base.tups b xs e), fun b o u e => un.frzs b o u (I.base.frzs b o u e), fun b ps e => ?_⟩, kb'⟩
  · obtain ⟨sl1, e1⟩ := I.base.slot b o e n hb hx
    obtain ⟨sl2, e2⟩ := un.slot b _ e1 (I.base.free b o e n hx) (inS b hb) (nofp b o e hx)
    exact ⟨sl2, e2⟩
  · obtain ⟨o1, e1⟩ := I.base.there b o e hx
    exact un.free b o1 e1 (I.base.free b o e n hx) (nofp b o e hx)
  · obtain ⟨o1, e1⟩ := I.base.there b o e hx
    exact un.there b o1 e1 (nofp b o e hx)
  · obtain ⟨m1, e1⟩ := I.base.tbls b ps e
    obtain ⟨m2, e2⟩ := un.tbls b _ e1
    exact ⟨m1 ++ m2, by rw [e2, Array.append_assoc]⟩
theorem fly_back {fp : List Addr} (I : Inv X pins σ H s) (hfp : ∀ b ∈ fp, b ∈ X.ex ∨ X.s₀.heap.objs.size ≤ b) {e : Value} {s' : Shared} (h : FlyAt X.prog X.w X.stack (frs X.stack) fp H s.heap s.os E e s') : FlyX X E e s' := by
  obtain ⟨a, B, cls, a0, H', rfl, os, bare, fl, hok, un, kb, hE⟩ := h
  obtain ⟨un', kb'⟩ := fly_core I hfp un kb fl.1
  exact ⟨a, B, cls, a0, H', rfl, os.trans I.os, bare, fl, hok, un', kb', hE⟩
theorem Exits.passes (h : Exits X E) : Passes (CX1 X.prog X.w) X E := fun pins σ H s e s' I q => h I.ok e s' (fly_back (fp := []) I (fun _ z => nomatch z) q)
end
section
variable {P : Program} {w : World} {K : PySem.W.Frag} {mg : Str → Option Value} {base : Heap} {N : List Str} {qual : Str} {scope : Scope} {f : Addr} {cd : Value} {A : Around} {outer : List Env} {s₀ : Shared} {H₀ : Hp} {E : XK}
  {pins : List (Addr × Obj)} {σ : List (Option V)} {H H' : Hp} {s : Shared} {h' h'' B : Heap}
theorem frs_cons {env : Env} {l : List Env} {L : Addr} (h : env.frame = some L) : frs (env :: l) = L :: frs l := by unfold frs; rw [List.filterMap_cons, h]
theorem un_left {fs ex : List Addr} {H₀ H' : Hp} {h₀ h1 h2 : Heap} (un : Un fs ex H₀ H' h₀ h1) (kb : ∀ b o, h₀.get? b = some o → b ∉ fs → b ∉ ex → (∃ o', B.get? b = some o') ∧ (H₀ b = none → B.get? b = some o)) (st : B.StaysIn h2) (us : ∀ b ∈ fs, ∀ o, h1.get? b = some o → (∀ vs, o.data ≠ .fields vs) → ∃ sl, h2.get? b = some { o with slots := sl })
    (nf : ∀ b ∈ fs, ∃ o, h₀.get? b = some o ∧ ∀ vs, o.data ≠ .fields vs) (hfree : ∀ b ∈ fs, H₀ b = none) : Un fs ex H₀ H' h₀ h2 := by
  have slot : ∀ b o, h₀.get? b = some o → H₀ b = none → b ∈ fs → b ∉ ex → ∃ sl, h2.get? b = some { o with slots := sl } := fun b o e n hb hx => by
    obtain ⟨sl, e1⟩ := un.slot b o e n hb hx
    obtain ⟨o', e', d'⟩ := nf b hb
    rw [e] at e'; cases e'
    obtain ⟨sl2, e2⟩ := us b hb _ e1 d'
    exact ⟨sl2, e2⟩
  refine ⟨fun b o e n hb hx => st b o ((kb b o e hb hx).2 n), slot, un.free, fun b o e hx => ?_, un.tups, un.frzs, un.tbls⟩
  by_cases hb : b ∈ fs
  · obtain ⟨sl, e1⟩ := slot b o e (hfree b hb) hb hx
    exact ⟨_, e1⟩
  · obtain ⟨o', e'⟩ := (kb b o e hb hx).1
    exact ⟨o', st b o' e'⟩
theorem exits_fn : Exits (cxOf (CX1 P w) P w K mg base N qual scope f cd A outer s₀ H₀ E) E := by
  intro ok e s' h
  obtain ⟨a, B, cls, a0, H', rfl, os, bare, fl, hok, un, kb, hE⟩ := h
  show wpAny (model P w) (A.deeper (envOfC qual scope s₀.heap.objs.size f cd)) (leaving (envOfC qual scope s₀.heap.objs.size f cd) (.ref a)) (fun _ s'' => CX1 P w outer H₀ s₀ E (.ref a) s'') (fun e' s'' => CX1 P w outer H₀ s₀ E e' s'') s'
  refine leaving_any (L := s₀.heap.objs.size) ok.frames rfl fl fun h'' fl' us => ?_
  exact ⟨a, B, cls, a0, H', rfl, os, bare, .of fl', hok, un_left un kb fl'.1 (fun b _ => us b) (fun b hb => (ok.funs.mem hb).2) ok.frf, kb, hE⟩
theorem pass1 : Passes (CX1 P w) (cxOf (CX1 P w) P w K mg base N qual scope f cd A outer s₀ H₀ E) E := exits_fn.passes
theorem leave_made {e : Addr} {cls : Value} {args : List Value} (I : Inv (cxOf (CX1 P w) P w K mg base N qual scope f cd A outer s₀ H₀ E) pins σ H s) (hx : Heap.MadeExcOf s.heap h' e cls args) (hE : E cls none H) :
    (cxOf (CX1 P w) P w K mg base N qual scope f cd A outer s₀ H₀ E).xe (.ref e) { s with heap := h' } := by
  show wpAny (model P w) (A.deeper (envOfC qual scope s₀.heap.objs.size f cd)) (leaving (envOfC qual scope s₀.heap.objs.size f cd) (.ref e)) (fun _ s'' => CX1 P w outer H₀ s₀ E (.ref e) s'') (fun e' s'' => CX1 P w outer H₀ s₀ E e' s'') { s with heap := h' }
  have hin : ∀ env ∈ (envOfC qual scope s₀.heap.objs.size f cd :: outer), ∀ b, env.frame = some b → b ∈ frs (envOfC qual scope s₀.heap.objs.size f cd :: outer) := fun env he b hb => List.mem_filterMap.mpr ⟨env, he, hb⟩
  refine wpAny_leaves_madeW (base := PySem.W.hideAll s.heap (frs (envOfC qual scope s₀.heap.objs.size f cd :: outer))) (h := s.heap) (L := s₀.heap.objs.size) I.ok.frames rfl (fun b o q => PySem.W.of_hideAll _ q) (PySem.W.funFrames_hide I.stack hin) hx fun h'' t fl tup hbt us => ?_
  have hidden : ∀ b o, s.heap.get? b = some o → b ∉ frs (envOfC qual scope s₀.heap.objs.size f cd :: outer) → (PySem.W.hideAll s.heap (frs (envOfC qual scope s₀.heap.objs.size f cd :: outer))).get? b = some o := fun b o q hb => PySem.W.hideAll_get _ q hb
  have noex : ∀ b : Addr, b ∉ (cxOf (CX1 P w) P w K mg base N qual scope f cd A outer s₀ H₀ E).ex := fun b z => nomatch (show b ∈ ([] : List Addr) from z)
  have kb : ∀ b o, s₀.heap.get? b = some o → b ∉ frs outer → b ∉ ([] : List Addr) → (∃ o', (PySem.W.hideAll s.heap (frs (envOfC qual scope s₀.heap.objs.size f cd :: outer))).get? b = some o') ∧ (H₀ b = none → (PySem.W.hideAll s.heap (frs (envOfC qual scope s₀.heap.objs.size f cd :: outer))).get? b = some o) := fun b o q hb _ => by
    obtain ⟨o1, e1⟩ := I.base.there b o q (noex b)
    exact ⟨⟨o1, hidden b o1 e1 (I.nostk q hb)⟩, fun n => hidden b o (I.base.keep b o q n hb (noex b)) (I.nostk q hb)⟩
  have un : Un (frs outer) [] H₀ H s₀.heap h'' := un_left (I.base) kb fl.1 (fun b _ => ((Heap.UpToSlots.of_keeps hx.keeps).trans us) b) (fun b hb => (I.ok.funs.mem hb).2) I.ok.frf
  refine ⟨e, _, cls, _, H, rfl, I.os, I.bare, .of fl, fun b u q => ?_, un, kb, hE⟩
  refine (I.hok b u q).stay (fun c v hc z => hidden c v z fun m => ?_) (fun _ z => z) fun _ _ z => z
  have hn : H c = none := I.stkFree c m
  rcases hc with rfl | hc
  · rw [q] at hn; cases hn
  · rw [hc] at hn; cases hn
end
end L2

set_option Elab.async false
set_option linter.all false
set_option maxRecDepth 100000
set_option maxHeartbeats 4000000
namespace L2
open PySem PySem.Spec PyProof.Rows

abbrev bmVE : List Value := [.type "ValueError", .type "Exception", .type "BaseException", .type "object"]
theorem exc_of_in {K : PySem.W.Frag} {h : Heap} {C : Addr} {bmB : List Value} {newId : String} (X : K.In h) (q : PySem.W.excIn K C bmB newId = true) :
    ∃ bm N nm q bs hdct sn sub ab col dd k0 k1 k2 k3 k5 mN, h.get? C = some (excClassObj nm q C N bs bm hdct sn sub ab col dd k0 k1 k2 k3 k5 newId) ∧ h.Ns N mN ∧ mN "__init__" = none ∧ OwnTail h bmB bm := by
  unfold PySem.W.excIn at q
  split at q
  · rename_i dd cd sl ho
    split at q
    · rename_i C' bm k0 k1 k2 k3 n k5 hm hs
      simp only [Bool.and_eq_true, beq_iff_eq, Bool.not_eq_true'] at q
      obtain ⟨⟨⟨⟨⟨rfl, rfl⟩, hdel⟩, ht⟩, hok⟩, hni⟩ := q
      obtain ⟨nm, bs, mro, ns, qn, hd, sn, sub, ab, col, del⟩ := cd
      dsimp only at hm hdel hok hni
      subst hm hdel
      have hsl : sl = #[k0, k1, k2, k3, some (.builtin n), k5] := by
        obtain ⟨l⟩ := sl
        simp only at hs
        rw [hs]
      subst hsl
      exact ⟨bm, ns, nm, qn, bs, hd, sn, sub, ab, col, dd, k0, k1, k2, k3, k5, _, X _ _ ho, .of_isNs (PySem.W.isNs_of_in X hok), PySem.W.nsMap_none_of_in X hok hni, PySem.W.tail_of_in X ht⟩
    · cases q
  · cases q

def PF (X : Cx) (e : Expr) (c : St → Hp → Prop) : Prop := ∀ (pins : List (Addr × Obj)) (s : Shared) (σ : St) (H : Hp), Inv X pins σ H s → c σ H →
  wpAny (model X.prog X.w) X.A (eval e X.env) (fun v s' => ∃ y t, v = .str y t ∧ y.length ≤ 1100000 ∧ Inv X pins σ H s') X.xe s
def PFs (X : Cx) (es : List Expr) (c : St → Hp → Prop) : Prop := ∀ (pins : List (Addr × Obj)) (s : Shared) (σ : St) (H : Hp) (acc : Str) (n : Nat), Inv X pins σ H s → c σ H → acc.length ≤ n * 1100000 → n + es.length ≤ 12 →
  Joins (model X.prog X.w) X.A X.xe (evalEach es X.env) acc (fun out s' => out.length ≤ sizeLine ∧ Inv X pins σ H s') s
section
variable {X : Cx} {e : Expr} {es : List Expr} {te : TE} {c c' : St → Hp → Prop} {pos : Pos}
theorem size12 {n : Nat} (h : n ≤ 12 * 1100000) : n ≤ sizeLine := by rw [sizeLine_eq]; omega
theorem pf_str {x : Str} {k : Nat} (h : x.length ≤ 1100000 := by decide) : PF X (.Constant (.str x) k pos) (fun _ _ => True) := fun pins s σ H I _ =>
  Calls.Constant_str (show ∃ y t, Value.str x s.toks = .str y t ∧ y.length ≤ 1100000 ∧ Inv X pins σ H { s with toks := s.toks + 1 } from ⟨x, _, rfl, h, I.tok _⟩)
theorem pf_repr (he : PE X e te) : PF X (.FormattedValue e 114 none pos) (fun σ H => te σ H fun v H1 => H1 = H ∧ ∃ x, v = .str x ∧ x.length ≤ 100000 ∧ ∀ c ∈ x.cps.toList, c < 16 ^ 8) := by
  intro pins s σ H I h
  refine wpAny_FormattedValue_repr (thn (he pins s σ H _ I h) fun u s1 ⟨v, H1, I1, r1, e1, x, ex, hl, hc⟩ => ?_)
  subst e1 ex
  obtain ⟨t, rfl⟩ := r1
  have hr := StrLaws.reprText_len x hc
  have hz := size12 (Nat.le_trans hr (show 10 * x.length + 2 ≤ 12 * 1100000 by omega))
  refine wpAny_pyReprObj_str ?_ hz
  refine wpAny_formatField_str ⟨_, _, rfl, by omega, I1.tok _⟩ ⟨_, _, rfl, by omega, ?_⟩ hz
  exact (I1.tok (s1.toks + 1)).tok _
theorem pf_plain (he : PE X e te) : PF X (.FormattedValue e (-1) none pos) (fun σ H => te σ H fun v H1 => H1 = H ∧ ((∃ x, v = .str x ∧ x.length ≤ 100000) ∨ ∃ a, v = .int a ∧ a.natAbs.log2 < 1920 ∧ (Str.ofString (toString a)).length ≤ 1100000)) := by
  intro pins s σ H I h
  refine wpAny_FormattedValue_plain (thn (he pins s σ H _ I h) fun u s1 ⟨v, H1, I1, r1, e1, q⟩ => ?_)
  subst e1
  rcases q with ⟨x, ex, hl⟩ | ⟨a, ea, hl, hs⟩
  · subst ex
    obtain ⟨t, rfl⟩ := r1
    exact wpAny_formatField_str ⟨_, _, rfl, by omega, I1⟩ ⟨_, _, rfl, by omega, I1.tok _⟩ (size12 (by omega))
  · subst ea
    obtain ⟨t, rfl⟩ := r1
    exact wpAny_formatField_int hl ⟨_, _, rfl, hs, I1.tok _⟩
theorem pfs_nil : PFs X [] (fun _ _ => True) := fun pins s σ H acc n I _ hl hn => by
  have h2 : n ≤ 12 := by simpa using hn
  exact ⟨size12 (Nat.le_trans hl (Nat.mul_le_mul_right 1100000 h2)), I⟩
theorem pfs_cons (h1 : PF X e c) (h2 : PFs X es c') (he : evalEach (e :: es) X.env = eval e X.env :: evalEach es X.env := by rfl) : PFs X (e :: es) (fun σ H => c σ H ∧ c' σ H) := by
  intro pins s σ H acc n I hc hl hn
  rw [he]
  have hn' : n + 1 + es.length ≤ 12 := by rw [List.length_cons] at hn; omega
  refine thn (h1 pins s σ H I hc.1) fun v s1 ⟨y, t, ev, hy, I1⟩ => ⟨y, t, ev, ?_, ?_⟩
  · rw [strLen_append]
    exact size12 (by omega)
  · refine h2 pins s1 σ H (acc ++ y) (n + 1) I1 hc.2 ?_ hn'
    rw [strLen_append]; omega
def tFs (c : St → Hp → Prop) : TE := fun σ H Q => c σ H ∧ ∀ z : Str, z.length ≤ sizeLine → Q (.str z) H
theorem joins_mono {M : Model} {A : Around} {E : Value → Shared → Prop} {Q Q' : Str → Shared → Prop} (hQ : ∀ z s, Q z s → Q' z s) : ∀ (l : List (Sem Value)) (acc : Str) (s : Shared), Joins M A E l acc Q s → Joins M A E l acc Q' s
  | [], acc, s, h => hQ _ _ h
  | x :: r, acc, s, h => thn h fun v s1 ⟨y, t, ev, hz, hr⟩ => ⟨y, t, ev, hz, joins_mono hQ r _ s1 hr⟩
theorem pe_fs {e1 e2 : Expr} (h : PFs X (e1 :: e2 :: es) c) (hn : (e1 :: e2 :: es).length ≤ 12 := by decide) : PE X (.JoinedStr (e1 :: e2 :: es) pos) (tFs c) := by
  intro pins s σ H Q I hq
  refine wpAny_JoinedStr (joins_mono (fun z s' ⟨hz, I'⟩ => ⟨hz, ?_⟩) _ _ _ (h pins s σ H Str.empty 0 I hq.1 (by decide) (by omega)))
  exact ⟨.str z, H, I'.tok _, ⟨_, rfl⟩, hq.2 z hz⟩
end
end L2

set_option Elab.async false
set_option linter.all false
set_option maxRecDepth 100000
set_option maxHeartbeats 4000000
namespace L2
open PySem PySem.Spec PyProof.Rows

def tRaise (C : Addr) (E : XK) (t : TA) : TS := fun D σ H => t σ H fun vs H1 => vs.length ≤ sizeLine ∧ E (.ref C) none H1
section
variable {P : Program} {w : World} {K : PySem.W.Frag} {mg : Str → Option Value} {base : Heap} {N : List Str} {qual : Str} {scope : Scope} {f : Addr} {cd : Value} {A : Around} {outer : List Env} {s₀ : Shared} {H₀ : Hp} {E : XK}
theorem ps_raise {x : Str} {C : Addr} {e : Expr} {es : List Expr} {t : TA} {np cpos pos : Pos} (hg : Gl (cxOf (CX1 P w) P w K mg base N qual scope f cd A outer s₀ H₀ E) x) (hm : mg x = some (.ref C)) (hq : PySem.W.excIn K C bmVE "ValueError.__new__" = true)
    (ha : PA (cxOf (CX1 P w) P w K mg base N qual scope f cd A outer s₀ H₀ E) (e :: es) t) (hst : noStars (e :: es) = true := by rfl) (hd : (x == ("__debug__" : Str)) = false := by decide) :
    PS (cxOf (CX1 P w) P w K mg base N qual scope f cd A outer s₀ H₀ E) (.Raise (some (.Call (.Name x np) (e :: es) [] cpos)) none pos) (tRaise C E t) := by
  intro pins s σ H D I h
  have h' : noStar e = true ∧ noStars es = true := by simpa [noStars] using hst
  have he := starEach_cons (es := es) (env := (cxOf (CX1 P w) P w K mg base N qual scope f cd A outer s₀ H₀ E).env) h'.1
  have hpl := back_any (env := (cxOf (CX1 P w) P w K mg base N qual scope f cd A outer s₀ H₀ E).env) (pos := cpos) hst
  obtain ⟨bm, N', nm, q, bs, hdct, sn, sub, ab, col, dd, k0, k1, k2, k3, k5, mN, hC, hN, hni, T⟩ := exc_of_in (h := base) I.ok.mod.kin hq
  refine wpAny_Raise_call_subU (C := C) (nm := nm) (q := q) (N := N') (bs := bs) (bm := bm) (hdct := hdct) (sn := sn) (sub := sub) (ab := ab) (col := col) (dd := dd) (k0 := k0) (k1 := k1) (k2 := k2) (k3 := k3) (k5 := k5)
    F.excBase_ValueError (by decide +kernel) F.excBase_ValueError (mN := mN) (T.hasType F.excBase_ValueError.hasBase) (I.ok.hd rfl) hpl hni (ld_glob I hg hm ⟨rfl, ?_⟩ hd)
  have h0 := ha cpos pins s σ H _ I h
  rw [he] at h0 ⊢
  refine Calls.evalArgs_plain (wpAny_mono h0 (fun us s2 h2 => ?_) fun _ _ y => y)
  obtain ⟨vs, H2, I2, r2, hl, hE⟩ := h2
  have hlen := r2.length
  exact ⟨rfl, by show us.length ≤ sizeLine; omega, I2.bk _ _ hC, hN.keeps I2.bk, T.keeps I2.bk, fun h3 e3 hm3 => leave_made I2 hm3 hE⟩
theorem js_raise {x : Str} {C : Addr} {e : Expr} {es : List Expr} {t : TA} {np cpos pos : Pos} (hg : Gl (cxOf (CX1 P w) P w K mg base N qual scope f cd A outer s₀ H₀ E) x) (hm : mg x = some (.ref C)) (hq : PySem.W.excIn K C bmVE "ValueError.__new__" = true)
    (ha : JA (cxOf (CX1 P w) P w K mg base N qual scope f cd A outer s₀ H₀ E) (e :: es) t) (hst : noStars (e :: es) = true := by rfl) (hd : (x == ("__debug__" : Str)) = false := by decide) :
    JS (cxOf (CX1 P w) P w K mg base N qual scope f cd A outer s₀ H₀ E) (.Raise (some (.Call (.Name x np) (e :: es) [] cpos)) none pos) (tRaise C E t) := .mk (ps_raise hg hm hq ha.out hst hd)
theorem passes_loop : PassesOwn (model P w) (cxOf (CX1 P w) P w K mg base N qual scope f cd A outer s₀ H₀ E).A (cxOf (CX1 P w) P w K mg base N qual scope f cd A outer s₀ H₀ E).env (cxOf (CX1 P w) P w K mg base N qual scope f cd A outer s₀ H₀ E).xe := PassesOwn.leaving
end
abbrev JF (X : Cx) (e : Expr) (c : St → Hp → Prop) : Prop := Irr (PF X e c)
abbrev JFs (X : Cx) (es : List Expr) (c : St → Hp → Prop) : Prop := Irr (PFs X es c)
section
variable {X : Cx} {e e1 e2 : Expr} {es : List Expr} {te : TE} {c c' : St → Hp → Prop} {pos : Pos}
def cRepr (te : TE) : St → Hp → Prop := fun σ H => te σ H fun v H1 => H1 = H ∧ ∃ x, v = .str x ∧ x.length ≤ 100000 ∧ ∀ c ∈ x.cps.toList, c < 16 ^ 8
def cPlain (te : TE) : St → Hp → Prop := fun σ H => te σ H fun v H1 => H1 = H ∧ ((∃ x, v = .str x ∧ x.length ≤ 100000) ∨ ∃ a, v = .int a ∧ a.natAbs.log2 < 1920 ∧ (Str.ofString (toString a)).length ≤ 1100000)
def cTrue : St → Hp → Prop := fun _ _ => True
def cAnd (c c' : St → Hp → Prop) : St → Hp → Prop := fun σ H => c σ H ∧ c' σ H
theorem jf_str {x : Str} {k : Nat} (h : x.length ≤ 1100000 := by decide) : JF X (.Constant (.str x) k pos) cTrue := .mk (pf_str h)
theorem jf_repr (he : JE X e te) : JF X (.FormattedValue e 114 none pos) (cRepr te) := .mk (pf_repr he.out)
theorem jf_plain (he : JE X e te) : JF X (.FormattedValue e (-1) none pos) (cPlain te) := .mk (pf_plain he.out)
theorem jfs_nil : JFs X [] cTrue := .mk pfs_nil
theorem jfs_cons (h1 : JF X e c) (h2 : JFs X es c') (he : evalEach (e :: es) X.env = eval e X.env :: evalEach es X.env := by rfl) : JFs X (e :: es) (cAnd c c') := .mk (pfs_cons h1.out h2.out he)
theorem j_fs (h : JFs X (e1 :: e2 :: es) c) (hn : (e1 :: e2 :: es).length ≤ 12 := by decide) : JE X (.JoinedStr (e1 :: e2 :: es) pos) (tFs c) := .mk (pe_fs h.out hn)
end
structure DefX (P : Program) (w : World) (K : PySem.W.Frag) (mg : Str → Option Value) (base : Heap) (k : Nat) (x : Str) (ps : List Str) (sp : Sp) : Prop where
  ex : ∃ f fd, mg x = some (.ref f) ∧ PySem.W.keepIn K (.ref f) = true ∧ (∃ oc od osl, K.lookup f = some ⟨oc, od, .func fd, osl⟩) ∧ Binds K fd ps [] ∧ FnOk P w K mg base (CX1 P w) k f fd ps sp
section
variable {X : Cx} {k : Nat} {x : Str} {ps : List Str} {sp : Sp} {e : Expr} {es : List Expr} {t : TA} {p pos : Pos} {E : XK}
theorem pe_defX (D : DefX X.prog X.w X.K X.mg X.base k x ps sp) (hr : Room k X.A) (hg : Gl X x) (ha : PA X (e :: es) t) (hx : Passes (CX1 X.prog X.w) X E) (hdb : (x == ("__debug__" : Str)) = false := by decide)
    (hst : noStars (e :: es) = true := by rfl) : PE X (.Call (.Name x p) (e :: es) [] pos) (fun σ H Q => t σ H fun vs H1 => sp vs H1 Q E) := by
  obtain ⟨f, fd, mgf, kp, _, b, G⟩ := D.ex
  have h' : noStar e = true ∧ noStars es = true := by simpa [noStars] using hst
  have he := starEach_cons (es := es) (env := X.env) h'.1
  have hpl := back_any (env := X.env) (pos := pos) h'.2
  have h := pe_call (X := X) (dvs := []) (E := E) (p := p) (pos := pos) G hr hg mgf kp b .nil hx ha hdb he hpl
  intro pins s σ H Q I hq
  refine h pins s σ H Q I ?_
  show t σ H fun vs H1 => sp (vs ++ []) H1 Q E
  have e1 : (fun (vs : List V) H1 => sp (vs ++ []) H1 Q E) = fun vs H1 => sp vs H1 Q E := by funext vs H1; rw [List.append_nil]
  rw [e1]
  exact hq
theorem j_defX (D : DefX X.prog X.w X.K X.mg X.base k x ps sp) (hr : Room k X.A) (hg : Gl X x) (ha : JA X (e :: es) t) (hx : Passes (CX1 X.prog X.w) X E) (hdb : (x == ("__debug__" : Str)) = false := by decide)
    (hst : noStars (e :: es) = true := by rfl) : JE X (.Call (.Name x p) (e :: es) [] pos) (fun σ H Q => t σ H fun vs H1 => sp vs H1 Q E) := .mk (pe_defX D hr hg ha.out hx hdb hst)
end
theorem Raw.defX {P : Program} {w : World} {K : PySem.W.Frag} {mg : Str → Option Value} {base : Heap} {x : Str} {st : Stmt} {N ps : List Str} {k : Nat} {sp : Sp} (R : Raw K mg x st ps) (S : FnScope N ps (defScope st)) (len : ∀ vs H Q E, sp vs H Q E → vs.length = ps.length)
    (hbody : ∀ (f : Addr) (cdv : Value) (A : Around) (outer : List Env) (s : Shared) (H : Hp) (vs : List V) (Q : VK) (E : XK), Room k (A.deeper (envOfC x (defScope st) s.heap.objs.size f cdv)) → sp vs H Q E →
      ∃ t, JSs (cxOf (CX1 P w) P w K mg base N x (defScope st) f cdv A outer s H E) (defBody st) t ∧ t { nx := fun _ H' => Q .non H', rt := Q } (start N vs) H) : DefX P w K mg base (k + 1) x ps sp := by
  obtain ⟨f, fd, h1, F, b⟩ := R.ex
  refine ⟨f, fd, h1, F.kp, F.lk, .all b, ?_⟩
  obtain ⟨oc, od, kV, doc, pm, an, cdv, ct, osl, rfl, lk, hcd⟩ := F.ex
  refine fn_of lk hcd S len fun A outer s H vs Q E hr hsp => ?_
  obtain ⟨t, h, q⟩ := hbody f cdv A outer s H vs Q E hr hsp
  exact ⟨t, h.out, q⟩
end L2

set_option Elab.async false
set_option linter.all false
set_option maxRecDepth 100000
set_option maxHeartbeats 4000000
namespace L2
open PySem PySem.Spec PyProof.Rows
def FlyC (P : Program) (w : World) (stack : List Env) (ex : List Addr) (H₀ : Hp) (h₀ : Heap) (os : OsState) (E : XK) (C : Addr) (e : Value) (s' : Shared) : Prop :=
  ∃ (a : Addr) (B : Heap) (cls a0 : Value) (H' : Hp), e = .ref a ∧ s'.os = os ∧ AllBare s'.gens ∧ FlyG B stack a cls a0 s'.heap ∧ HOk P w H' B ∧ Un (frs stack) ex H₀ H' h₀ s'.heap ∧
  (∀ b o, h₀.get? b = some o → b ∉ frs stack → b ∉ ex → (∃ o', B.get? b = some o') ∧ (H₀ b = none → B.get? b = some o)) ∧ E cls none H' ∧ (∃ m, B.Ns C m) ∧ H' C = none
def cxCompX (X : Cx) (N : List Str) (scope : Scope) (C : Addr) (s : Shared) (H : Hp) (ex : List Addr) (E : XK) : Cx :=
  { cxComp X N scope C s H ex with xe := FlyC X.prog X.w X.stack ex H s.heap s.os E C }
theorem inv_compX {X : Cx} {pins : List (Addr × Obj)} {σ : St} {H : Hp} {s : Shared} {N : List Str} {cap : List (Option Nat)} {scope : Scope} {ex : List Addr} {h₁ : Heap} {tk : Nat} {C : Addr} {E : XK} (S : CompScope X N cap scope) (I : Inv X pins σ H s) (hC : s.heap.objs.size ≤ C)
    (hns : h₁.Ns C (fun _ => none)) (hk : ∀ b o, s.heap.get? b = some o → h₁.get? b = some o) (hex : ∀ b ∈ ex, b < s.heap.objs.size ∧ FpOk X pins H b) :
    Inv (cxCompX X N scope C s H ex E) [] (capt cap σ) H { s with heap := h₁, toks := tk } := (inv_comp S I hC hns hk hex).wish _
theorem passes_comp {X : Cx} {N : List Str} {scope : Scope} {C : Addr} {s : Shared} {H : Hp} {ex : List Addr} {E : XK} : Passes (CX1 X.prog X.w) (cxCompX X N scope C s H ex E) E := by
  intro pins σ H1 s1 e s' I q
  obtain ⟨a, B, cls, a0, H', rfl, os, bare, fl, hok, un, kb, hE⟩ := q
  obtain ⟨un', kb'⟩ := fly_core (fp := []) I (fun _ z => nomatch z) un kb fl.1
  obtain ⟨m, ⟨o, es, ep, ho, r⟩, _⟩ := I.loc
  have hC : C ∉ frs X.stack := fun z => by
    obtain ⟨_, o', e', _⟩ := I.ok.funs.mem z
    exact absurd (Nat.lt_of_lt_of_le (Heap.lt_size e') I.ok.above) (Nat.lt_irrefl _)
  have hB : B.get? C = some o := (kb C o ho hC (by simp)).2 I.free
  exact ⟨a, B, cls, a0, H', rfl, os.trans I.os, bare, fl, hok, un', kb', hE, ⟨m, o, es, ep, hB, r⟩, un.free C o ho I.free (by simp)⟩
theorem comp_blockX {X : Cx} {EX : XK} {pins : List (Addr × Obj)} {σ : St} {H : Hp} {s : Shared} {N : List Str} {cap : List (Option Nat)} {scope : Scope} {elt target iter : Expr} {ifs : List Expr} {pos : Pos} {g : TG} {tc : TT} {te : TE} {J : It} {fp : List Addr} {it : Addr} {tn : Nat → Heap → Prop}
    {Q : Addr → Hp → Prop} {RR : Value → Addr → Result → Shared → Prop} {E : Value → Shared → Prop} (hc : X.calm = true) (S : CompScope X N cap scope) (I : Inv X pins σ H s) (T : Turn X.prog X.w X.K target J fp it tn) (st : tn 0 s.heap) (fo : ∀ b ∈ fp, FpOk X pins H b)
    (hg : ∀ C s₀ H₀, PG (cxCompX X N scope C s₀ H₀ fp EX) target g) (ht : ∀ C s₀ H₀, PTs (cxCompX X N scope C s₀ H₀ fp EX) ifs tc) (he : ∀ C s₀ H₀, PE (cxCompX X N scope C s₀ H₀ fp EX) elt te)
    (h : Gath J cap g tc te Q σ H)
    (hER : ∀ D C, s.heap.objs.size ≤ C → X.env.locals ≠ C → ∀ e s', FlyC X.prog X.w X.stack fp H s.heap s.os EX C e s' → notedBy (model X.prog X.w) X.A (compEnvC scope (closOf X.env scope.names []) C X.env) (fun e' s'' => RR (.ref D) C (.error e') s'') e s')
    (hRR : ∀ D C s' H', Inv X pins σ H' s' → Q D H' → (∃ m, s'.heap.Ns C m) → H' C = none → X.s₀.heap.objs.size ≤ C → C ≠ X.env.locals → (∀ x c, X.env.cells.lookup x = some c → c ≠ C) → (∀ p ∈ X.pn ++ pins, p.1 ≠ C) → RR (.ref D) C (.ok .next) s') :
    wpAny (model X.prog X.w) X.A (newList []) (fun acc s₃ => wpAny (model X.prog X.w) X.A (newFunctionEnv scope X.env.globals (closOf X.env scope.names []) [] X.env.qual none .none (some X.env)) (fun cenv s₄ =>
      codeAny (model X.prog X.w) X.A (.compStart (.ListComp elt [⟨target, iter, ifs, 0⟩] scope pos) 0 (.ref it) acc { cenv with scope := relabel scope X.env }) (RR acc cenv.locals) s₄) E s₃) E s := by
  have hfr : ∀ a, s.heap.objs.size ≤ a → H a = none := fun a ha => I.hok.fresh ha
  obtain ⟨W, ⟨m0, w0⟩, turn⟩ := h
  have fol : ∀ b ∈ fp, b < s.heap.objs.size := fun b hb => by
    obtain ⟨o, ho, _⟩ := T.obj 0 _ st b hb
    exact Heap.lt_size ho
  have clt : ∀ x c, X.env.cells.lookup x = some c → c < s.heap.objs.size := fun x c e => by
    obtain ⟨v, q⟩ := I.cell x c e
    exact q.lt
  refine wpAny_newObj_type (wpAny_newFunctionEnv S.nocell (by intro y hy; simp at hy) (fun h₁ hns₁ hsb₁ => ?_) S.kind)
  dsimp only at hns₁ hsb₁ ⊢
  generalize hD : s.heap.objs.size = D at *
  generalize hH3 : s.heap.push { cls := .type "list", data := .seq ([] : List Value).toArray } = H3 at *
  have hC : H3.objs.size = D + 1 := by rw [← hH3, Heap.size_push, hD]
  have keep3 : ∀ b o, s.heap.get? b = some o → H3.get? b = some o := fun b o e => by rw [← hH3]; exact Heap.get?_push_of_some _ e
  have keep4 : ∀ b o, H3.get? b = some o → h₁.get? b = some o := fun b o e => hsb₁.extBut b o (Nat.ne_of_lt (Heap.lt_size e)) (Heap.get?_push_of_some _ e)
  have D4 : h₁.get? D = some (lobj [] 0) := keep4 _ _ (by rw [← hH3, ← hD]; exact Heap.get?_push_size _ rfl)
  generalize hCC : H3.objs.size = C at *
  have hDC : D < C := by omega
  have hDC' : D ≤ C := Nat.le_of_lt hDC
  have hL : X.env.locals < D := by rw [← hD]; exact I.lt
  have I4 : Inv (cxCompX X N scope C s H fp EX) [] (capt cap σ) H { s with heap := h₁, toks := s.toks + ([] : List (Str × Value)).length } :=
    inv_compX S I (by omega) hns₁ (fun b o e => keep4 b o (keep3 b o e)) fun b hb => ⟨by rw [hD]; exact fol b hb, fo b hb⟩
  have fp4 : ∀ {H' : Hp} {ob : Obj}, (∀ b ∈ fp, H' b = none) → ∀ b ∈ fp, FpOk (cxCompX X N scope C s H fp EX) [(D, ob)] H' b := fun {H' ob} hn b hb => by
    obtain ⟨f0, f1, f2, f3, f4, f5⟩ := fo b hb
    have hlt := fol b hb
    refine ⟨hn b hb, ?_, fun z => ?_, .inl hb, fun x c e => f4 x c (closOf_ok (fun n c e => by simp at e) x c e), fun p hp => ?_⟩
    · exact Nat.ne_of_lt (Nat.lt_of_lt_of_le hlt hDC')
    · rcases List.mem_cons.mp (I.stkSub b z) with e | e
      · exact f1 e
      · exact f2 e
    · have hp' : p ∈ [(D, ob)] := hp
      rw [List.mem_singleton.mp hp']
      exact Nat.ne_of_gt hlt
  have st4 : tn 0 h₁ := T.keep _ _ _ st fun b hb o e => keep4 b o (keep3 b o e)
  have nfs : D ∉ (cxCompX X N scope C s H fp EX).fs := fun z => by
    rcases List.mem_cons.mp (I.stkSub D z) with e | e
    · exact Nat.ne_of_gt hL e
    · exact I.nofs (Nat.le_of_eq hD) e
  have pinD : ∀ {σ' : St} {H' : Hp} {s' : Shared} {ob : Obj}, Inv (cxCompX X N scope C s H fp EX) [] σ' H' s' → H' D = none → s'.heap.get? D = some ob → (∀ v, ob.data ≠ .cell v) → Inv (cxCompX X N scope C s H fp EX) [(D, ob)] σ' H' s' := fun {σ' H' s' ob} J hn e nc =>
    J.pins_of fun p hp => by
      rw [List.mem_singleton.mp hp]
      exact ⟨e, hn, Nat.ne_of_lt hDC, nfs, nc⟩
  have loop : ∀ s₄ : Shared, s₄ = { s with heap := h₁, toks := s.toks + ([] : List (Str × Value)).length } →
      codeAny (model X.prog X.w) X.A (.compLoop (.ListComp elt [⟨target, iter, ifs, 0⟩] scope pos) 0 (.ref it) (.ref D) (compEnvC scope (closOf X.env scope.names []) C X.env)) (RR (.ref D) C) s₄ := by
    rintro s₄ rfl
    refine comp_loop (fun n s' => ∃ i ys its k σ' H', Inv (cxCompX X N scope C s H fp EX) [(D, lobj its k)] σ' H' s' ∧ Vals ys its ∧ tn i s'.heap ∧ (∀ b ∈ fp, H' b = none) ∧ W i n ys σ' H') ?_ m0
      ⟨0, [], [], 0, _, _, pinD I4 (hfr D (Nat.le_refl _)) D4 (fun v z => by cases z), .nil, st4, fun b hb => (fo b hb).1, w0⟩
    rintro n s5 ⟨i, ys, its, k, σ5, H5, I5, rv5, st5, fr5, w5⟩
    have hpin := I5.pin (D, lobj its k) (List.mem_append_right _ List.mem_cons_self)
    rcases turn i n ys σ5 H5 w5 with ⟨stop, hz, q⟩ | ⟨go, hz, NN, hNN, step⟩
    · refine thn (T.done (cxCompX X N scope C s H fp EX) rfl rfl rfl hc i _ s5 σ5 H5 _ I5 (fp4 fr5) st5 stop) fun r s6 ⟨hr, I6⟩ => ?_
      subst hr
      have p6 := I6.pin (D, lobj its k) (List.mem_append_right _ List.mem_cons_self)
      have I7 : Inv X pins σ (upd H5 D (.lst ys)) s6 := I.call' (ch := fp) I6.os (I6.base.add (Nat.le_of_eq hD) p6.2.1) (I6.hok.add p6.2.1 ⟨hz, its, k, rv5, p6.1⟩) I6.bare fun b hb => by
        obtain ⟨f0, f1, f2, f3, f4, f5⟩ := fo b hb
        exact ⟨f3, f1, f4, f5⟩
      obtain ⟨m6, hn6, _⟩ := I6.loc
      refine hRR _ C s6 _ I7 (q D p6.2.1) ⟨m6, hn6⟩ ?_ ?_ ?_ ?_ ?_
      · rw [upd_ne (Nat.ne_of_gt hDC)]; exact I6.free
      · exact Nat.le_trans (by rw [← hD]; exact I.sz) hDC'
      · exact Nat.ne_of_gt (Nat.lt_of_lt_of_le hL hDC')
      · intro x c e z
        exact Nat.ne_of_lt (Nat.lt_of_lt_of_le (clt x c e) hDC') z
      · intro p hp z
        have h6 := Heap.lt_size (I.pin p hp).1
        rw [hD] at h6
        exact Nat.ne_of_lt (Nat.lt_of_lt_of_le h6 hDC') z
    · refine thn (T.item (cxCompX X N scope C s H fp EX) rfl rfl rfl hc i _ s5 σ5 H5 _ I5 (fp4 fr5) st5 go) fun r s6 ⟨u, hr, h6⟩ => ?_
      subst hr
      refine thn h6 fun _ s7 ⟨x, H7, I7, r7, y7, st7, fr7⟩ => ?_
      have I7' := I7.pinned (fp4 fr7) (T.obj _ _ st7)
      have kept : ∀ {σ8 : St} {H8 : Hp} {s8 : Shared}, Inv (cxCompX X N scope C s H fp EX) ([(D, lobj its k)] ++ pinsAt fp s7.heap) σ8 H8 s8 → tn (i + 1) s8.heap ∧ ∀ b ∈ fp, H8 b = none := fun {σ8 H8 s8} I8 =>
        ⟨T.keep _ _ _ st7 fun b hb o e => (I8.pin (b, o) (List.mem_append_right _ (List.mem_append_right _ (mem_pinsAt hb e)))).1, fun b hb => by
          obtain ⟨o, e, d⟩ := T.obj _ _ st7 b hb
          exact (I8.pin (b, o) (List.mem_append_right _ (List.mem_append_right _ (mem_pinsAt hb e)))).2.1⟩
      refine wpAny_mono (hg C s H _ s7 σ5 H7 x u _ I7' r7 (step x H7 y7)) (fun _ s8 ⟨σ8, H8, I8, q8⟩ => ?_) fun e' s'' f => hER D C hDC' (Nat.ne_of_lt (Nat.lt_of_lt_of_le hL hDC')) e' s'' f
      refine wpAny_mono (ht C s H _ s8 σ8 H8 _ I8 q8) (fun ok s9 ⟨H9, I9, q9⟩ => ?_) fun e' s'' f => hER D C hDC' (Nat.ne_of_lt (Nat.lt_of_lt_of_le hL hDC')) e' s'' f
      cases ok with
      | false =>
        rw [if_neg Bool.false_ne_true] at q9 ⊢
        obtain ⟨m', hm, w9⟩ := hNN _ _ _ q9
        exact ⟨m', hm, i + 1, ys, its, k, σ8, H9, I9.unpinned, rv5, (kept I9).1, (kept I9).2, w9⟩
      | true =>
        rw [if_pos rfl] at q9 ⊢
        refine wpAny_mono (he C s H _ s9 σ8 H9 _ I9 q9) (fun y s10 ⟨yv, H10, I10, r10, n10⟩ => ?_) fun e' s'' f => hER D C hDC' (Nat.ne_of_lt (Nat.lt_of_lt_of_le hL hDC')) e' s'' f
        obtain ⟨m', hm, w10⟩ := hNN _ _ _ n10
        obtain ⟨k10, f10⟩ := kept I10
        have p10 := I10.pin (D, lobj its k) (List.mem_append_right _ (List.mem_append_left _ List.mem_cons_self))
        have hlen := rv5.length
        refine wpAny_list_append_plain (hsz := by rw [List.size_toArray]; omega) (show s10.heap.PlainList D its.toArray from ⟨k, p10.1⟩) fun h11 hl11 hsb11 => ?_
        obtain ⟨k11, e11⟩ := hl11
        have J0 : Inv (cxCompX X N scope C s H fp EX) [] σ8 H10 s10 := I10.pins_of fun p hp => nomatch hp
        have J1 : Inv (cxCompX X N scope C s H fp EX) [] σ8 H10 { s10 with heap := h11 } := J0.turned (t' := s10.toks) (fun b o hb e => hsb11.extBut b o hb e) p10.2.1 (Nat.ne_of_lt hDC) (.inr (Nat.le_of_eq hD)) (fun x c e z => Nat.ne_of_lt (clt x c (closOf_ok (fun n c e => by simp at e) x c e)) z) fun p hp => nomatch (show p ∈ ([] : List (Addr × Obj)) from hp)
        have e12 : h11.get? D = some (lobj (its ++ [y]) k11) := by rw [e11]; simp [lobj]
        refine ⟨m', hm, i + 1, ys ++ [yv], its ++ [y], k11, σ8, H10, pinD J1 p10.2.1 e12 (fun v z => by cases z), rv5.append (.cons r10 .nil), ?_, f10, w10⟩
        exact T.keep _ _ _ k10 fun b hb o e => hsb11.extBut b o (Nat.ne_of_lt (fol b hb)) e
  refine codeAny_compStart_list (loop _ ?_) (T.self X.A 0 _ _ _ ?_ (loop _ ?_))
  · rfl
  · exact st4
  · rfl

end L2

set_option Elab.async false
set_option linter.all false
set_option maxRecDepth 100000
set_option maxHeartbeats 4000000
namespace L2
open PySem PySem.Spec PyProof.Rows
theorem funFrames_to {B B' h h' : Heap} (hB : ∀ L, B.get? L = none → B'.get? L = none) : ∀ {l : List Env}, h.FunFrames B l → (∀ L ∈ frs l, ∀ o, h.get? L = some o → (∀ vs, o.data ≠ .fields vs) → ∃ o', h'.get? L = some o' ∧ o'.data = o.data) → h'.FunFrames B' l
  | [], _, _ => trivial
  | env :: r, ⟨hk, ⟨L, o, hf, hn, ho, hd⟩, hr⟩, k => by
    obtain ⟨o', e', d'⟩ := k L (by rw [frs_cons hf]; exact List.mem_cons_self) o ho hd
    refine ⟨hk, ⟨L, o', hf, hB L hn, e', fun vs z => hd vs (d' ▸ z)⟩, funFrames_to hB hr fun L' hL' => k L' ?_⟩
    rw [frs_cons hf]; exact List.mem_cons_of_mem _ hL'
section
variable {X : Cx} {E : XK} {pins : List (Addr × Obj)} {σ : List (Option V)} {H : Hp} {s : Shared}
theorem comp_exit {scope : Scope} {cl : List (Str × Addr)} {use : Option (Value → Sem Unit)} {Q : Value → Shared → Prop} {D C : Addr} {fp : List Addr} (hX : Exits X E) (I : Inv X pins σ H s) (hst : X.stack = X.env :: X.outer) (hfr : X.env.frame = some X.env.locals)
    (fo : ∀ b ∈ fp, b ∈ X.ex ∨ X.s₀.heap.objs.size ≤ b) (hC : s.heap.objs.size ≤ C) (e : Value) (s' : Shared) (h : FlyC X.prog X.w X.stack fp H s.heap s.os E C e s') :
    notedBy (model X.prog X.w) X.A (compEnvC scope cl C X.env) (fun e' s'' => compPost (model X.prog X.w) X.A X.xe use Q (.ref D) C (.error e') s'') e s' := by
  obtain ⟨a, B, cls, a0, H', rfl, os, bare, fl, hok, un, kb, hE, ⟨m, hns⟩, hHC⟩ := h
  obtain ⟨oC, es, ep, hBC, rC⟩ := id hns
  show wpAny (model X.prog X.w) X.A (noteFrame (.ref a) X.env) _ _ s'
  refine note_any (outer := X.outer) (L := X.env.locals) (by rw [← hst]; exact I.ok.frames) hfr (by rw [← hst]; exact fl) fun h1 held us1 => ?_
  obtain ⟨st1, hn1, fr1, tr1⟩ := held
  have flt : ∀ L ∈ frs X.stack, L ≠ C := fun L hL z => by
    obtain ⟨_, o', e', _⟩ := I.stack.mem hL
    rw [z] at e'
    exact absurd (Nat.lt_of_lt_of_le (Heap.lt_size e') hC) (Nat.lt_irrefl _)
  refine ⟨m, ⟨oC, es, ep, st1 C oC hBC, rC⟩, fun h2 hsb cenv hloc => ?_⟩
  obtain ⟨oe, vs, T, oT, ts, he, hcls, hd, hv1, hnT, hTe, hT, hdT, hv3⟩ := tr1
  have haC : a ≠ C := fun z => by rw [z, hBC] at hn1; cases hn1
  have hTC : T ≠ C := fun z => by rw [z, hBC] at hnT; cases hnT
  have he2 : h2.get? a = some oe := hsb.extBut _ _ haC he
  have hT2 : h2.get? T = some oT := hsb.extBut _ _ hTC hT
  unfold PySem.passOn
  refine wpAny_bind (wpAny_field (s := { s' with heap := h2 }) he2 hd hv1 ?_)
  rw [if_neg (show ¬ ((Value.ref T == Value.none) = true) from Bool.false_ne_true)]
  refine wpAny_bind ?_
  unfold setFlight
  refine wpAny_bind (wpAny_field (s := { s' with heap := h2 }) he2 hd hv1 ?_)
  rw [if_pos (show (Value.ref T != Value.none) = true from by simp)]
  refine wpAny_setField (s := { s' with heap := h2 }) hT2 hdT (Array.getElem?_eq_some_iff.mp hv3).1 (wpAny_throw ?_)
  generalize (cenv.frame.elim Value.none fun f => rawInt f) = fl3
  have other : ∀ b, b ≠ T → (h2.update T (Obj.mapFields (·.setIfInBounds 3 fl3))).get? b = h2.get? b := fun b hb => Heap.get?_update_other _ _ (Ne.symm hb)
  have hT3 : (h2.update T (Obj.mapFields (·.setIfInBounds 3 fl3))).get? T = some (oT.mapFields (·.setIfInBounds 3 fl3)) := Heap.get?_update_self _ hT2 (Obj.isFreed_of_fields (Obj.data_mapFields hdT _))
  generalize h2.update T (Obj.mapFields (·.setIfInBounds 3 fl3)) = h3 at other hT3 ⊢
  have hide : ∀ b o, B.get? b = some o → b ≠ C → (PySem.W.hideAll B [C]).get? b = some o := fun b o q hb => PySem.W.hideAll_get _ q (by simpa using hb)
  have unhide : ∀ b, B.get? b = none → (PySem.W.hideAll B [C]).get? b = none := fun b q => by
    cases z : (PySem.W.hideAll B [C]).get? b with
    | none => rfl
    | some o => rw [PySem.W.of_hideAll _ z] at q; cases q
  have h13 : ∀ b o, b ≠ C → b ≠ T → h1.get? b = some o → h3.get? b = some o := fun b o hb hb' q => (other b hb').trans (hsb.extBut b o hb q)
  have st3 : (PySem.W.hideAll B [C]).StaysIn h3 := fun b o q => by
    have q' := PySem.W.of_hideAll _ q
    have hb : b ≠ C := fun z => by rw [z, PySem.W.hideAll_none _ (by simp)] at q; cases q
    exact h13 b o hb (fun z => by rw [z, hnT] at q'; cases q') (st1 b o q')
  have frT : ∀ L ∈ frs X.stack, ∀ o, h1.get? L = some o → (∀ vs, o.data ≠ .fields vs) → h3.get? L = some o := fun L hL o q hd' => h13 L o (flt L hL) (fun z => by
    rw [z, hT] at q; cases q; exact hd' ts hdT) q
  have fr3 : h3.FunFrames (PySem.W.hideAll B [C]) X.stack := funFrames_to unhide (by rw [hst]; exact fr1) fun L hL o q hd' => ⟨o, frT L hL o q hd', rfl⟩
  have fl3' : FlyG (PySem.W.hideAll B [C]) X.stack a cls a0 h3 := ⟨st3, unhide a hn1, fr3, fl3, oe, vs, T, _, _, (other a (Ne.symm hTe)).trans he2, hcls, hd, hv1, unhide T hnT, hTe, hT3, Obj.data_mapFields hdT _, by simp [(Array.getElem?_eq_some_iff.mp hv3).1]⟩
  have kb3 : ∀ b o, s.heap.get? b = some o → b ∉ frs X.stack → b ∉ fp → (∃ o', (PySem.W.hideAll B [C]).get? b = some o') ∧ (H b = none → (PySem.W.hideAll B [C]).get? b = some o) := fun b o q hb hx => by
    have hbC : b ≠ C := Nat.ne_of_lt (Nat.lt_of_lt_of_le (Heap.lt_size q) hC)
    obtain ⟨⟨o', e'⟩, k2⟩ := kb b o q hb hx
    exact ⟨⟨o', hide b o' e' hbC⟩, fun n => hide b o (k2 n) hbC⟩
  have un3 : Un (frs X.stack) fp H H' s.heap h3 := un_left un kb3 st3 (fun b hb o q hd' => by
    obtain ⟨sl, q1⟩ := us1 b o q hd'
    exact ⟨sl, frT b hb _ q1 hd'⟩) (fun b hb => (I.stack.mem hb).2) I.stkFree
  have hok3 : HOk X.prog X.w H' (PySem.W.hideAll B [C]) := fun b u q => (hok b u q).stay (fun c v hc z => hide c v z fun y => by
    rcases hc with rfl | hc
    · rw [y, hHC] at q; cases q
    · rw [y, hHC] at hc; cases hc) (fun _ z => z) fun _ _ z => z
  exact hX I.ok _ _ (fly_back I fo ⟨a, _, cls, a0, H', rfl, os, bare, fl3', hok3, un3, kb3, hE⟩)
end
section
variable {X : Cx} {E : XK} {N : List Str} {cap : List (Option Nat)} {scope : Scope} {elt target iter : Expr} {ifs : List Expr} {pos pos' spos : Pos} {wi : TI} {g : TG} {tc : TT} {te : TE}
theorem pe_compX (hX : Exits X E) (hst : X.stack = X.env :: X.outer) (hfr : X.env.frame = some X.env.locals) (hc : X.calm = true) (S : CompScope X N cap scope) (hi : PI X target iter wi)
    (hg : ∀ C s₀ H₀ ex, PG (cxCompX X N scope C s₀ H₀ ex E) target g) (ht : ∀ C s₀ H₀ ex, PTs (cxCompX X N scope C s₀ H₀ ex E) ifs tc) (he : ∀ C s₀ H₀ ex, PE (cxCompX X N scope C s₀ H₀ ex E) elt te)
    (hs : ∀ x, foldedSetIterable iter X.env x = pure x := by intro _; rfl) :
    PE X (.ListComp elt [⟨target, iter, ifs, 0⟩] scope pos) (fun σ H Q => tComp cap wi g tc te (fun D H' => Q (.ref D) H') σ H) := by
  intro pins s σ H Q I h
  have hclos : closureFor scope X.env = pure (closOf X.env scope.names []) := closureFor_of fun y hy hf => I.ok.has y.1 (S.fre y hy hf)
  rw [eval_ListComp]
  refine wpAny_comprehension_free (use := none) rfl hs hclos S.kind S.loc (thn (hi pins s σ H _ I h) fun xv s1 h1 => thn h1 fun itv s2 h2 => ?_)
  obtain ⟨it, fp, tn, J, H2, e, I2, T, st2, f2, q2⟩ := h2
  subst e
  refine comp_blockX (EX := E) (RR := fun acc C => compPost (model X.prog X.w) X.A X.xe none (EP X pins σ Q) acc C) hc S I2 T st2 f2 (fun C s₀ H₀ => hg C s₀ H₀ fp) (fun C s₀ H₀ => ht C s₀ H₀ fp) (fun C s₀ H₀ => he C s₀ H₀ fp) q2
    (fun D C hC _ e s' hf => comp_exit hX I2 hst hfr (fun b hb => (f2 b hb).2.2.2.1) hC e s' hf) ?_
  intro D C s' H' I' q ⟨m, hn⟩ hf hsz hL hcell hpin
  refine ⟨m, hn, fun h' hsb => ⟨.ref D, H', ?_, rfl, q⟩⟩
  exact I'.turned (t' := s'.toks) (fun b o hb e => hsb.extBut b o hb e) hf hL (.inr hsz) hcell hpin
end
end L2

set_option Elab.async false
set_option linter.all false
set_option maxRecDepth 100000
set_option maxHeartbeats 4000000
namespace L2
open PySem PySem.Spec PyProof.Rows
section
variable {X : Cx} {E : XK} {N : List Str} {cap : List (Option Nat)} {scope : Scope} {elt target iter : Expr} {ifs : List Expr} {pos pos' spos : Pos} {wi : TI} {g : TG} {tc : TT} {te : TE}
theorem j_compX (hX : Exits X E) (hst : X.stack = X.env :: X.outer) (hfr : X.env.frame = some X.env.locals) (hc : X.calm = true) (S : CompScope X N cap scope) (hi : JI X target iter wi)
    (hg : ∀ C s₀ H₀ ex, JG (cxCompX X N scope C s₀ H₀ ex E) target g) (ht : ∀ C s₀ H₀ ex, JTs (cxCompX X N scope C s₀ H₀ ex E) ifs tc) (he : ∀ C s₀ H₀ ex, JE (cxCompX X N scope C s₀ H₀ ex E) elt te)
    (hs : ∀ x, foldedSetIterable iter X.env x = pure x := by intro _; rfl) :
    JE X (.ListComp elt [⟨target, iter, ifs, 0⟩] scope pos) (fun σ H Q => tComp cap wi g tc te (fun D H' => Q (.ref D) H') σ H) :=
  .mk (pe_compX hX hst hfr hc S hi.out (fun C s₀ H₀ ex => (hg C s₀ H₀ ex).out) (fun C s₀ H₀ ex => (ht C s₀ H₀ ex).out) (fun C s₀ H₀ ex => (he C s₀ H₀ ex).out) hs)
end
end L2

set_option Elab.async false
set_option linter.all false
set_option maxRecDepth 100000
set_option maxHeartbeats 4000000
namespace L2
open PySem PySem.Spec PyProof.Rows

def mroHas (K : PySem.W.Frag) (C : Addr) (v : Value) : Bool := match K.lookup C with
  | some ⟨_, _, .cls cd, _⟩ => cd.mro.contains v
  | _ => false
theorem exc_of_in2 {K : PySem.W.Frag} {h : Heap} {C : Addr} {bmB : List Value} {newId : String} (X : K.In h) (q : PySem.W.excIn K C bmB newId = true) :
    ∃ bm N nm q bs hdct sn sub ab col dd k0 k1 k2 k3 k5 mN, h.get? C = some (excClassObj nm q C N bs bm hdct sn sub ab col dd k0 k1 k2 k3 k5 newId) ∧ h.Ns N mN ∧ mN "__init__" = none ∧ OwnTail h bmB bm ∧ ∀ v, mroHas K C v = (Value.ref C :: bm).contains v := by
  unfold PySem.W.excIn at q
  split at q
  · rename_i dd cd sl ho
    split at q
    · rename_i C' bm k0 k1 k2 k3 n k5 hm hs
      simp only [Bool.and_eq_true, beq_iff_eq, Bool.not_eq_true'] at q
      obtain ⟨⟨⟨⟨⟨rfl, rfl⟩, hdel⟩, ht⟩, hok⟩, hni⟩ := q
      have hv : ∀ v, mroHas K C' v = (Value.ref C' :: bm).contains v := fun v => by unfold mroHas; rw [ho]; dsimp only; rw [hm]
      obtain ⟨nm, bs, mro, ns, qn, hd, sn, sub, ab, col, del⟩ := cd
      dsimp only at hm hdel hok hni
      subst hm hdel
      have hsl : sl = #[k0, k1, k2, k3, some (.builtin n), k5] := by
        obtain ⟨l⟩ := sl
        simp only at hs
        rw [hs]
      subst hsl
      exact ⟨bm, ns, nm, qn, bs, hd, sn, sub, ab, col, dd, k0, k1, k2, k3, k5, _, X _ _ ho, .of_isNs (PySem.W.isNs_of_in X hok), PySem.W.nsMap_none_of_in X hok hni, PySem.W.tail_of_in X ht, hv⟩
    · cases q
  · cases q
section
variable {M : Model} {A : Around} {E : Value → Shared → Prop}
variable {nm q : Str} {C N : Addr} {bs bm : List Value} {hdct : Bool} {sn : List Str} {sub : List Value} {ab : Bool} {col : Option Bool} {dd : Option Addr} {k0 k1 k2 k3 k5 : Option Value} {newId : String}
variable {nm' q' : Str} {G N' : Addr} {bs' bm' : List Value} {hdct' : Bool} {sn' : List Str} {sub' : List Value} {ab' : Bool} {col' : Option Bool} {dd' : Option Addr} {k0' k1' k2' k3' k5' : Option Value} {newId' : String}
theorem excMatches_own {h : Heap} {g : Array GenState} {d : Drawn} {t : Nat} {os : OsState} {e : Addr} {oe : Obj} {Q : Bool → Shared → Prop}
    (hC : h.get? C = some (excClassObj nm q C N bs bm hdct sn sub ab col dd k0 k1 k2 k3 k5 newId)) (hG : h.get? G = some (excClassObj nm' q' G N' bs' bm' hdct' sn' sub' ab' col' dd' k0' k1' k2' k3' k5' newId')) (he : h.get? e = some oe) (hcls : oe.cls = .ref C)
    (hbase : bm'.contains (.type "BaseException") = true) (hm : (Value.ref C :: bm).contains (.ref G) = true)
    (hq : Q true ⟨h, g, d, t, os⟩) : wpAny M A (excMatches (.ref e) (.ref G)) Q E ⟨h, g, d, t, os⟩ := by
  have hcB : (Value.ref G :: bm').contains (.type "BaseException") = true := by rw [List.contains_cons, hbase, Bool.or_true]
  have f := tc_notTuple
  unfold excMatches
  repeat (first | (with_reducible refine wpAny_loadPart_at he ?_; rw [hcls]) | with_reducible refine wpAny_loadPart_at hG ?_ | with_reducible refine wpAny_loadPart_at hC ?_ | (with_reducible refine wpAny_isSubtype_exc hG ?_; rw [hcB]) | (with_reducible refine wpAny_isSubtype_exc hC ?_; rw [hm]) | wp_step)
  exact hq
end
section
variable {X : Cx} {pins : List (Addr × Obj)} {σ : List (Option V)} {H : Hp} {s : Shared}
theorem goes_ok {M : Model} {A : Around} {E : Value → Shared → Prop} {i : Nat} {n : Str} {pos : Pos} {Q : Unit → Shared → Prop} (I : Inv X pins σ H s) (hN : X.N.Nodup) (hi : X.N[i]? = some n) (hk : X.env.kindOf n = some .local)
    (h : ∀ s', Inv X pins (σ.set i none) H s' → Q () s') : wpAny M A (do bindName X.env n .none; unbindBehindTheSuite X.env n pos) Q E s := by
  obtain ⟨m, hn, hl⟩ := id I.loc
  have hcls : (X.env.scope.kind == .class || (X.env.scope.kind == .module && X.env.locals != X.env.globals)) = false := by rw [I.ok.kind]; rfl
  have hiσ : i < σ.length := by rw [I.len]; exact (List.getElem?_eq_some_iff.mp hi).1
  have cne := I.cne
  refine wpAny_nameGoes_keeps hk hn hcls fun h' v hn' hs => h _ ?_
  obtain ⟨oL, _, _, hoL, _⟩ := id hn
  have tracked : HOk X.prog X.w H h' := fun b ob e => by
    refine (I.hok b ob e).stay (fun c w' hc q => (hs.2 c ?_).trans q) (fun _ q => q) fun _ _ q => q
    rintro rfl
    have hfree := I.free
    rcases hc with rfl | hc
    · rw [hfree] at e; cases e
    · rw [hfree] at hc; cases hc
  refine Inv.tok (s := { s with heap := h' }) ⟨I.ok, I.os, I.bare, ⟨fun b o e n hb hx => ?_, fun b o e n hb hx => ?_, I.base.free, fun b o e hx => ?_, I.base.tups, I.base.frzs, I.base.tbls⟩, ⟨_, hn', fun j y v' e1 e2 e3 => ?_⟩, fun y c e => ?_, I.free, I.freeC, fun p hp => ?_, tracked, by simpa using I.len⟩ _
  · exact (hs.2 b (Nat.ne_of_lt (Nat.lt_of_lt_of_le (Heap.lt_size e) I.ok.above))).trans (I.base.keep b o e n hb hx)
  · obtain ⟨sl, e1⟩ := I.base.slot b o e n hb hx
    exact ⟨sl, (hs.2 b (Nat.ne_of_lt (Nat.lt_of_lt_of_le (Heap.lt_size e) I.ok.above))).trans e1⟩
  · obtain ⟨o', e1⟩ := I.base.there b o e hx
    exact ⟨o', (hs.2 b (Nat.ne_of_lt (Nat.lt_of_lt_of_le (Heap.lt_size e) I.ok.above))).trans e1⟩
  · by_cases hj : j = i
    · subst hj
      rw [List.getElem?_set_self hiσ] at e2
      cases e2
    · rw [List.getElem?_set_ne (Ne.symm hj)] at e2
      obtain ⟨u', r', q⟩ := hl j y v' e1 e2 e3
      refine ⟨u', r', ?_⟩
      rcases q with ⟨k, e⟩ | ⟨k, c, e, z⟩
      · refine .inl ⟨k, ?_⟩
        have : y ≠ n := fun e => hj (nodup_ix hN e1 (e ▸ hi))
        simp [this, e]
      · exact .inr ⟨k, c, e, z.sameBut hs (cne y c e)⟩
  · obtain ⟨w', z⟩ := I.cell y c e
    exact ⟨w', z.sameBut hs (cne y c e)⟩
  · obtain ⟨e, n, ne, nf, d⟩ := I.pin p hp
    exact ⟨(hs.2 p.1 ne).trans e, n, ne, nf, d⟩
end
def cxSuite (X : Cx) (a : Addr) (oe : Obj) : Cx := { X with A := X.A.mark (some (.ref a)), calm := false, pn := X.pn ++ [(a, oe)], xe := fun _ _ => False }
theorem suite_in {X : Cx} {pins : List (Addr × Obj)} {σ : List (Option V)} {H : Hp} {s : Shared} {a : Addr} {oe : Obj} (I : Inv X pins σ H s) (he : s.heap.get? a = some oe) (hn : H a = none) (hL : a ≠ X.env.locals) (hf : a ∉ X.fs) (hd : ∀ v, oe.data ≠ .cell v) :
    Inv (cxSuite X a oe) pins σ H s :=
  ⟨⟨I.ok.mod, I.ok.kind, I.ok.glob, I.ok.blt, I.ok.above, I.ok.inj, I.ok.has, I.ok.cab, fun z => absurd z Bool.false_ne_true, I.ok.frames, I.ok.stk, I.ok.exf, I.ok.bs, I.ok.bsz, I.ok.noex, I.ok.exfs, I.ok.funs, I.ok.frf⟩, I.os, I.bare, I.base, I.loc, I.cell, I.free, I.freeC, fun p hp => by
    have hp' : p ∈ (X.pn ++ [(a, oe)]) ++ pins := hp
    rcases List.mem_append.mp hp' with z | z
    · rcases List.mem_append.mp z with y | y
      · exact I.pin p (List.mem_append_left _ y)
      · rw [List.mem_singleton.mp y]; exact ⟨he, hn, hL, hf, hd⟩
    · exact I.pin p (List.mem_append_right _ z), I.hok, I.len⟩
theorem suite_out {X : Cx} {pins : List (Addr × Obj)} {σ : List (Option V)} {H : Hp} {s : Shared} {a : Addr} {oe : Obj} (ok : X.Ok) (I : Inv (cxSuite X a oe) pins σ H s) : Inv X pins σ H s :=
  ⟨ok, I.os, I.bare, I.base, I.loc, I.cell, I.free, I.freeC, fun p hp => I.pin p (by
    show p ∈ (X.pn ++ [(a, oe)]) ++ pins
    rcases List.mem_append.mp hp with z | z
    · exact List.mem_append_left _ (List.mem_append_left _ z)
    · exact List.mem_append_right _ z), I.hok, I.len⟩
end L2

set_option Elab.async false
set_option linter.all false
set_option maxRecDepth 100000
set_option maxHeartbeats 4000000
namespace L2
open PySem PySem.Spec PyProof.Rows
theorem objOk_there {P : Program} {w : World} {H : Hp} {h : Heap} {a : Addr} {o : HO} (x : ObjOk P w H h a o) : ∃ u, h.get? a = some u := by
  induction o with
  | lst xs => obtain ⟨_, _, _, _, e⟩ := x; exact ⟨_, e⟩
  | tup xs => obtain ⟨_, _, _, o, e, _⟩ := x; exact ⟨_, e⟩
  | dK kvs => obtain ⟨_, _, _, _, o, _, _, e, _⟩ := x; exact ⟨_, e⟩
  | dT kvs => obtain ⟨_, _, _, _, o, _, _, e, _⟩ := x; exact ⟨_, e⟩
  | set S n => obtain ⟨o, _, _, _, e, _⟩ := x; exact ⟨_, e⟩
  | ins C dx fs => obtain ⟨_, _, _, e, _⟩ := x; exact ⟨_, e⟩
  | own y => exact x
  | xd fs => obtain ⟨_, ⟨_, _, _, e, _⟩, _⟩ := x; exact ⟨_, e⟩
  | rng lo hi => obtain ⟨_, _, _, e⟩ := x; exact ⟨_, e⟩
  | frz o u ih => exact ⟨_, x.1⟩
  | tbl ps => exact ⟨_, x⟩
  | met f y => exact ⟨_, x⟩
  | ext φ => exact x.2.1
structure ExcK (K : PySem.W.Frag) (C : Addr) : Prop where
  exc : PySem.W.excIn K C bmVE "ValueError.__new__" = true
  f1 : PySem.W.findIn K (.ref C) "__getattribute__" = some (some (.builtin "BaseException.__getattribute__"))
  f2 : PySem.W.findIn K (.ref C) "__getattr__" = some none
  f3 : PySem.W.findIn K (.ref C) "__class__" = some (some (.builtin "object.__class__"))
  obj : PySem.W.mroIn K C (.type "object") = some true
section
variable {X : Cx} {k : Nat} {x G n : Str} {ps : List Str} {sp : Sp} {e : Expr} {es : List Expr} {t : TA} {p gp cpos epos hpos pos : Pos} {CG : Addr} {newId : String} {i : Nat} {b₀ : Stmt} {suite : List Stmt} {ts : Addr → Addr → TS}
end
end L2

set_option Elab.async false
set_option linter.all false
set_option maxRecDepth 100000
set_option maxHeartbeats 4000000
namespace PySem.W
open PySem PySem.Calls PyProof.Rows Builtin Builtin.ObjectAttr Builtin.Getset_descriptor
theorem class_getE {prog : Program} {w : World} {A : Around} {R : Result → Shared → Prop} {s : Shared} {K : Frag} {x C : Addr} {ox : Obj} {tp : Value} (X : K.In s.heap) (hx : s.heap.get? x = some ox) (hc : ox.cls = .ref C) (hm : mroIn K C (.type "object") = some true)
    (h : R (.ok (.ret (.ref C))) s) : codeAny (model prog w) A (.call (.builtin "getset_descriptor.__get__") ⟨[.builtin "object.__class__", .ref x, tp], []⟩) R s := by
  obtain ⟨hh, g, dr, t, os⟩ := s
  have L0 : Looks (model prog w) hh (typeOf (.ref x)) (.ref C) := hc ▸ (Looks.ld hx).andThen .now
  have L1 := looks_mroIn (M := model prog w) X hm
  refine codeAny_call_builtin KF.slot_gs.plain KF.entry_gs (KF.slot_gs.check _ _ _ _ _ _ _ _ KF.type_class (KF.args_gs _ _ _) ?_)
  unfold Builtin.«getset_descriptor.__get__» descrGet
  rw [dga_obj]
  refine wpAny_bind (wpAny_pure ?_)
  unfold descrGetter descrCheckInstance descrNameAndClass isInstance
  simp only [KF.owner_class]
  repeat lk
  refine ⟨Code.quiet_builtin _ (by decide +kernel), codeAny_builtin KF.entry_class ?_⟩
  unfold Builtin.«object.__class__» shownTypeOf
  repeat lk
  exact h
end PySem.W
namespace L2
open PySem PySem.Spec PyProof.Rows PySem.W
structure InstE (h : Heap) (a : Addr) (o : Obj) (C : Addr) : Prop where
  at_ : h.get? a = some o
  cls : o.cls = .ref C
section
variable {prog : Program} {w : World} {A : Around} {E : Value → Shared → Prop} {h : Heap} {g : Array GenState} {d : Drawn} {t : Nat} {os : OsState} {a : Addr} {o : Obj} {K : Frag}
  {nm q : Str} {C N : Addr} {bs bm : List Value} {hdct : Bool} {sn : List Str} {sub : List Value} {ab : Bool} {col : Option Bool} {dd : Option Addr} {k0 k1 k2 k3 k5 : Option Value} {newId : String}
theorem tl_in {M : Model} {name : Str} {r : Option Value} {Q : Option Value → Shared → Prop} (X : K.In h) (f : findIn K (.ref C) name = some r) (hq : Q r ⟨h, g, d, t, os⟩) : wpAny M A (typeLookup (.ref C) name) Q E ⟨h, g, d, t, os⟩ :=
  (looks_findIn (M := M) X f).at hq
theorem check_ga {M : Model} {nameV : Value} {Q : Unit → Shared → Prop} (hC : h.get? C = some (excClassObj nm q C N bs bm hdct sn sub ab col dd k0 k1 k2 k3 k5 newId)) (hcB : (Value.ref C :: bm).contains (.type "BaseException") = true)
    (hx : h.get? a = some o) (hc : o.cls = .ref C) (hq : Q () ⟨h, g, d, t, os⟩) : wpAny M A (checkBuiltinCall "BaseException.__getattribute__" ⟨[.ref a, nameV], []⟩) Q E ⟨h, g, d, t, os⟩ := by
  have hk : builtinKind "BaseException.__getattribute__" = some .slot := by decide +kernel
  have hsplit : splitId "BaseException.__getattribute__" = some ("BaseException", "__getattribute__") := by decide +kernel
  have ha := F.args_bexc_ga (.ref a) nameV
  simp only [checkBuiltinCall, hk, hsplit]
  refine wpAny_bind ?_
  · unfold isInstance
    repeat (first | (with_reducible refine wpAny_loadPart_at hx ?_; rw [hc]) | (with_reducible refine wpAny_isSubtype_exc hC ?_; rw [hcB]) | wp_step)
    exact hq
theorem class_entry {tk : Tok} {Q : Fin → Shared → Prop} (X : K.In h) (I : InstE h a o C) (f3 : findIn K (.ref C) "__class__" = some (some (.builtin "object.__class__"))) (hm : mroIn K C (.type "object") = some true)
    (hq : Q (.done (.ret (.ref C))) ⟨h, g, d, t, os⟩) :
    wpAny (model prog w) A (Builtin.«object.__getattribute__» ⟨[.ref a, .str "__class__" tk], []⟩) Q E ⟨h, g, d, t, os⟩ := by
  have hx := I.at_
  have hc := I.cls
  have hT5 : (⟨h, g, d, t, os⟩ : Shared).TypeIs (.builtin "object.__class__") "getset_descriptor" := F.typeOf_object_class
  have f5 := F.typeOf_object_class
  have f6 := F.slot_gs_get.lookup
  have f7 := F.slot_gs_set.lookup
  repeat (any_goals (first | assumption | (with_reducible refine wpAny_loadPart_at hx ?_; rw [hc]) | with_reducible refine tl_in X f3 ?_ | wp_step))
  refine PySem.W.class_getE (s := ⟨h, g, d, t, os⟩) X I.at_ I.cls hm ?_
  repeat (any_goals (first | assumption | wp_step))
theorem class_call {tk : Tok} {R : Result → Shared → Prop} (X : K.In h) (I : InstE h a o C) (hC : h.get? C = some (excClassObj nm q C N bs bm hdct sn sub ab col dd k0 k1 k2 k3 k5 newId)) (hcB : (Value.ref C :: bm).contains (.type "BaseException") = true)
    (f3 : findIn K (.ref C) "__class__" = some (some (.builtin "object.__class__"))) (hm : mroIn K C (.type "object") = some true) (hq : R (.ok (.ret (.ref C))) ⟨h, g, d, t, os⟩) :
    codeAny (model prog w) A (.call (.builtin "BaseException.__getattribute__") ⟨[.ref a, .str "__class__" tk], []⟩) R ⟨h, g, d, t, os⟩ :=
  codeAny_call_builtin F.attr_ValueError.ga.plain F.entry_bexc_ga (check_ga hC hcB I.at_ I.cls (class_entry X I f3 hm hq))
theorem class_by {tk : Tok} {Q : Value → Shared → Prop} (X : K.In h) (I : InstE h a o C) (hC : h.get? C = some (excClassObj nm q C N bs bm hdct sn sub ab col dd k0 k1 k2 k3 k5 newId)) (hcB : (Value.ref C :: bm).contains (.type "BaseException") = true)
    (f1 : findIn K (.ref C) "__getattribute__" = some (some (.builtin "BaseException.__getattribute__"))) (f2 : findIn K (.ref C) "__getattr__" = some none)
    (f3 : findIn K (.ref C) "__class__" = some (some (.builtin "object.__class__"))) (hm : mroIn K C (.type "object") = some true) (hq : Q (.ref C) ⟨h, g, d, t, os⟩) :
    wpAny (model prog w) A (getAttrBy (.ref a) (.str "__class__" tk) false) Q E ⟨h, g, d, t, os⟩ := by
  have hx := I.at_
  have hc := I.cls
  have f3' := F.attr_ValueError.ga.bind (.ref a)
  have hx2 : (Value.builtin "BaseException.__getattribute__" == Value.builtin "object.__getattribute__") = false := by decide +kernel
  have hx1 : (onTheHeap (Value.ref C) && Value.builtin "BaseException.__getattribute__" == Value.builtin "object.__getattribute__") = false := by rw [hx2]; rfl
  have hx0 : (false && onTheHeap (Value.builtin "BaseException.__getattribute__")) = false := rfl
  repeat (any_goals (first | assumption | (with_reducible refine wpAny_loadPart_at hx ?_; rw [hc]) | with_reducible refine tl_in X f1 ?_ | with_reducible refine tl_in X f2 ?_ | wp_step))
  refine class_call X I hC hcB f3 hm ?_
  repeat (any_goals (first | assumption | wp_step))
end
theorem kitx_exc {K : Frag} {a C : Addr} {o : Obj} (Z : ExcK K C) : KitX K (.ref a) (.ref C) (fun h => InstE h a o C) where
  ty := fun _ _ _ I => I.cls ▸ (Looks.ld I.at_).andThen .now
  it := fun _ h X _ => by
    obtain ⟨bm, N, nm, qn, bs, hdct, sn, sub, ab, col, dd, k0, k1, k2, k3, k5, mN, hC, _⟩ := exc_of_in2 X Z.exc
    intro A' Q' E' s' k q
    unfold isType loadHead
    exact wpAny_bind (wpAny_loadPart (k _ _ hC) (wpAny_pure q))
  ne := fun h tp dd its n sl X htp => by
    obtain ⟨bm, N, nm, qn, bs, hdct, sn, sub, ab, col, dd', k0, k1, k2, k3, k5, mN, hC, _⟩ := exc_of_in2 X Z.exc
    refine Bool.eq_false_iff.mpr fun q => ?_
    have e : C = tp := Value.ref.inj (beq_iff_eq.mp q)
    subst e
    rw [htp] at hC
    have z : Value.type "tuple" = Value.type "type" := congrArg Obj.cls (Option.some.inj hC)
    exact absurd z (by decide)
  ca := fun {prog w A E Q s} X I k => by
    obtain ⟨hh, g, d, t, os⟩ := s
    obtain ⟨bm, N, nm, qn, bs, hdct, sn, sub, ab, col, dd', k0, k1, k2, k3, k5, mN, hC, _, _, TL, _⟩ := exc_of_in2 X Z.exc
    have hcB : (Value.ref C :: bm).contains (.type "BaseException") = true := by rw [List.contains_cons, TL.hasType F.excBase_ValueError.hasBase, Bool.or_true]
    unfold getAttr? getAttrBy?
    refine wpAny_bind (wpAny_mkText (wpAny_bind (wpAny_attempt ?_)))
    exact class_by (h := hh) X I hC hcB Z.f1 Z.f2 Z.f3 Z.obj (wpAny_pure k)

end L2

set_option Elab.async false
set_option linter.all false
set_option maxRecDepth 100000
set_option maxHeartbeats 4000000
namespace L2
open PySem PySem.Spec PyProof.Rows PySem.W
section
variable {X : Cx} {pins : List (Addr × Obj)} {σ : List (Option V)} {H : Hp} {s : Shared}
theorem Inv.track {a : Addr} {oe : Obj} (I : Inv X pins σ H s) (he : s.heap.get? a = some oe) (hn : H a = none) (hL : a ≠ X.env.locals) (hd : ∀ v, oe.data ≠ .cell v) (h0 : ∀ o, X.s₀.heap.get? a = some o → a ∈ X.ex)
    (hp : ∀ p ∈ X.pn ++ pins, p.1 ≠ a) : Inv X pins σ (upd H a (.frz oe anyHO)) s := by
  have keep : ∀ {b : Addr} {u : HO}, H b = some u → upd H a (.frz oe anyHO) b = some u := fun {b u} e => by
    rw [upd_ne (ne_of_none e hn)]; exact e
  refine ⟨I.ok, I.os, I.bare, ⟨I.base.keep, I.base.slot, fun b o e n hx => ?_, I.base.there, fun b xs e => keep (I.base.tups b xs e), fun b o u e => keep (I.base.frzs b o u e), fun b ps e => ?_⟩, I.loc, I.cell, ?_, fun x c e => ?_, fun p hpp => ?_, fun b u e => ?_, I.len⟩
  · have nb : b ≠ a := fun z => by
      subst z
      exact hx (h0 o e)
    rw [upd_ne nb]
    exact I.base.free b o e n hx
  · obtain ⟨more, q⟩ := I.base.tbls b ps e
    exact ⟨more, keep q⟩
  · rw [upd_ne (Ne.symm hL)]
    exact I.free
  · have nc : c ≠ a := fun z => by
      subst z
      obtain ⟨v, q⟩ := I.cell x c e
      obtain ⟨o, q1, q2⟩ := id q
      rw [he] at q1
      cases q1
      first | exact hd _ q2 | exact hd _ q2.2 | exact hd _ q2.1
    rw [upd_ne nc]
    exact I.freeC x c e
  · obtain ⟨e1, e2, e3⟩ := I.pin p hpp
    exact ⟨e1, by rw [upd_ne (hp p hpp)]; exact e2, e3⟩
  · by_cases hb : b = a
    · subst hb
      rw [upd_same] at e
      cases e
      exact ok_any he
    · rw [upd_ne hb] at e
      exact (I.hok b u e).stay (fun _ _ _ q => q) (fun c q => keep q) fun c xs q => keep q
end
def kepEnds (i : Nat) (a : Addr) (oe : Obj) (D : Ends) : Ends := { nx := fun σ H => D.nx (σ.set i none) (upd H a (.frz oe anyHO)), rt := D.rt, bk := fun σ H => D.bk (σ.set i none) H, ct := fun σ H => D.ct (σ.set i none) H }
def tTryK (K : PySem.W.Frag) (CG : Addr) (i : Nat) (sp : Sp) (t : TA) (ts : Addr → Addr → TS) : TS := fun D σ H => t σ H fun vs H1 => sp vs H1 (fun _ H2 => D.nx σ H2) fun cls _ H2 =>
  ∃ C, cls = .ref C ∧ ExcK K C ∧ mroHas K C (.ref CG) = true ∧ ∀ a oe, H2 a = none → oe.cls = .ref C → ts a C (kepEnds i a oe D) (σ.set i (some (.ref a))) H2
section
variable {X : Cx} {k : Nat} {x G n : Str} {ps : List Str} {sp : Sp} {e : Expr} {es : List Expr} {t : TA} {p gp cpos epos hpos pos : Pos} {CG : Addr} {newId : String} {i : Nat} {b₀ : Stmt} {suite : List Stmt} {ts : Addr → Addr → TS}
theorem ps_tryK (hst : X.stack = X.env :: X.outer) (hfr : X.env.frame = some X.env.locals) (D : DefX X.prog X.w X.K X.mg X.base k x ps sp) (hr : Room k X.A) (hg : Gl X x) (ha : PA X.nox (e :: es) t)
    (hgG : Gl X G) (hmG : X.mg G = some (.ref CG)) (hqG : PySem.W.excIn X.K CG bmVE "ValueError.__new__" = true) (hN : X.N.Nodup) (hi : X.N[i]? = some n) (hk : X.env.scope.names.lookup n = some .local)
    (hsu : ∀ a oe C, oe.cls = .ref C → ExcK X.K C → PSs (cxSuite X a oe) (b₀ :: suite) (ts a C)) (hdb : (x == ("__debug__" : Str)) = false := by decide) (hdG : (G == ("__debug__" : Str)) = false := by decide)
    (hstar : noStars (e :: es) = true := by rfl) (hsw : swapsWith (.Call (.Name x p) (e :: es) [] cpos) none epos.line X.env = pure false := by rfl) :
    PS X (.Try [.Expr (.Call (.Name x p) (e :: es) [] cpos) epos] [.ExceptHandler (some (.Name G gp)) (some n) (b₀ :: suite) hpos] [] [] pos) (tTryK X.K CG i sp t ts) := by
  intro pins s σ H Dn I h
  obtain ⟨f, fd, mgf, kp, _, b, Fk⟩ := D.ex
  have h' : noStar e = true ∧ noStars es = true := by simpa [noStars] using hstar
  have he := starEach_cons (es := es) (env := X.env) h'.1
  have hpl := back_any (env := X.env) (pos := cpos) h'.2
  refine wpAny_Try_except (wpAny_execs_cons (wpAny_Expr_any (wpAny_Call_Name_kw (ld_glob I hg mgf ?_ hdb)) I.quiet hsw))
  refine PySem.W.callWith_K (h₀ := X.base) I.ok.mod.kin kp (wpAny_mono (ha cpos pins s σ H _ (I.wish _) h) (fun us s1 h1 => ?_) fun _ _ z => False.elim z) he hpl
  obtain ⟨vs, H1, I1', r, q⟩ := h1
  have I1 := I1'.unwish
  refine ⟨I1.kIn, ?_⟩
  have hl : us.length = ps.length := by rw [← r.length]; exact Fk.len _ _ _ _ q
  have hbind : BindsTo s1 fd ⟨us, []⟩ (ps.zip us) := by
    have := b s1 us I1.kIn (by rw [List.append_nil]; exact hl)
    rw [List.append_nil] at this; exact this
  refine wpAny_call (codeAny_mono (Fk.run X.A X.stack s1 H1 ⟨us, []⟩ us vs _ _ hr I1.env0 hbind r q) fun r' s' hq => ?_)
  cases r' with
  | ok fl =>
    cases fl with
    | ret u =>
      obtain ⟨v, H2, I2, rv, q2⟩ := I1.after hq
      exact wpAny_execs_nil (wpAny_execs_nil ⟨σ, H2, I2, q2⟩)
    | next => exact False.elim hq
    | brk => exact False.elim hq
    | cont => exact False.elim hq
  | error er =>
    obtain ⟨a, B, cls, a0, H', rfl, os, bare, fl, hok, un, kb, C, rfl, hqC, hmro, hts⟩ := hq
    have nf : ∀ b ∈ frs X.stack, ∃ o, s1.heap.get? b = some o ∧ ∀ vs, o.data ≠ .fields vs := fun b hb => (I1.stack.mem hb).2
    have mk : ∀ h1, B.StaysIn h1 → s'.heap.UpToSlots h1 → Inv X pins σ H' { s' with heap := h1 } := fun h1 st us =>
      I1.call' (s' := { s' with heap := h1 }) (ch := []) os (un_left un kb st (fun b _ => us b) nf I1.stkFree) (hok.kept st) bare fun b z => nomatch z
    refine note_any (env := X.env) (outer := X.outer) (L := X.env.locals) (by rw [← hst]; exact I.ok.frames) hfr (by rw [← hst]; exact fl) fun h1 held us1 => ?_
    refine wpAny_landsW (s := { s' with heap := h1 }) held fun h2 fl2 us2 => ?_
    have I2 := mk h2 fl2.1 (us1.trans us2)
    obtain ⟨ob, hob, hobc⟩ := fl2.there
    obtain ⟨bm, N, nm, qn, bs, hdct, sn, sub, ab, col, dd, k0, k1, k2, k3, k5, mN, hC, hN', hni, TL, hv⟩ := exc_of_in2 (h := X.base) I.ok.mod.kin hqC.exc
    obtain ⟨bm', N'', nm', qn', bs', hdct', sn', sub', ab', col', dd', k0', k1', k2', k3', k5', mN', hCG, hNG, hniG, TG, hvG⟩ := exc_of_in2 (h := X.base) I.ok.mod.kin hqG
    refine wpAny_handleBy_cons (codeAny_handlers_test (Calls.Name_function_global I2.ok.kind hgG (Calls.loadGlobal_global (by rw [I2.ok.glob]; exact I2.mod.glob.keeps I2.bk) hmG ?_) hdG)) (by intro q; cases q)
    refine excMatches_own (I2.bk _ _ hC) (I2.bk _ _ hCG) hob hobc (TG.hasType F.excBase_ValueError.hasBase) (by rw [← hv]; exact hmro) (codeAny_handlers_suite_as ?_)
    refine lands_againW (s := { s' with heap := h2 }) fl2 fun h3 fl3 us3 => ?_
    have I3 := mk h3 fl3.1 ((us1.trans us2).trans us3)
    obtain ⟨oe, ws, hoe, hoec, hoed, _⟩ := fl3.first
    have hBa : B.get? a = none := fl.2.1
    have hHa : H' a = none := by
      cases z : H' a with
      | none => rfl
      | some o =>
        obtain ⟨u, hu⟩ := objOk_there (hok a o z)
        rw [hBa] at hu; cases hu
    have notfr : a ∉ frs (X.env :: X.outer) := fun z => by
      obtain ⟨_, o', e', d'⟩ := fl3.2.2.1.mem z
      rw [hoe] at e'; cases e'
      exact d' ws hoed
    have hL : a ≠ X.env.locals := fun z => notfr (by rw [frs_cons hfr, z]; exact List.mem_cons_self)
    have hF : a ∉ X.fs := fun z => notfr (by rw [frs_cons hfr]; exact List.mem_cons_of_mem _ z)
    have old : ∀ b o, s1.heap.get? b = some o → b ∉ frs X.stack → b ≠ a := fun b o hb hf z => by
      obtain ⟨⟨o', ho'⟩, _⟩ := kb b o hb hf (by simp)
      rw [z, hBa] at ho'; cases ho'
    have h0 : ∀ o, X.s₀.heap.get? a = some o → a ∈ X.ex := fun o e0 => Classical.byContradiction fun hx => by
      obtain ⟨o', e1⟩ := I1.base.there a o e0 hx
      exact old a o' e1 (by rw [hst]; exact notfr) rfl
    have hpp : ∀ p ∈ X.pn ++ pins, p.1 ≠ a := fun p hp => by
      obtain ⟨e1, e2, e3, e4, e5⟩ := I1.pin p hp
      refine old p.1 p.2 e1 fun z => ?_
      rcases List.mem_cons.mp (I1.stkSub _ z) with y | y
      · exact e3 y
      · exact e4 y
    have hcell : ∀ v, oe.data ≠ .cell v := fun v z => by rw [hoed] at z; cases z
    have Is := suite_in I3 hoe hHa hL hF hcell
    have hkl : X.env.kindOf n = some .local := hk
    refine store_ok (X := cxSuite X a oe) Is hN hi (.inl hk) (show RelV (.ref a) (.ref a) from rfl) (fun s4 I4 => ?_) (.inr hk)
    refine wpAny_mono (hsu a oe C hoec hqC pins s4 _ H' (kepEnds i a oe Dn) I4 (hts a oe hHa hoec)) (fun fl s5 h5 => ?_) fun _ _ z => z.elim
    cases fl with
    | next =>
      obtain ⟨σ5, H5, I5, q5⟩ := h5
      have hpa := I5.pin (a, oe) (List.mem_append_left _ (List.mem_append_right _ List.mem_cons_self))
      exact goes_ok ((suite_out I.ok I5).track hpa.1 hpa.2.1 hL hcell h0 hpp) hN hi hkl fun s6 I6 => ⟨_, _, I6, q5⟩
    | brk =>
      obtain ⟨σ5, H5, I5, q5⟩ := h5
      exact goes_ok (suite_out I.ok I5) hN hi hkl fun s6 I6 => ⟨_, H5, I6, q5⟩
    | cont =>
      obtain ⟨σ5, H5, I5, q5⟩ := h5
      exact goes_ok (suite_out I.ok I5) hN hi hkl fun s6 I6 => ⟨_, H5, I6, q5⟩
    | ret u =>
      obtain ⟨v, σ5, H5, I5, r5, q5⟩ := h5
      exact goes_ok (suite_out I.ok I5) hN hi hkl fun s6 I6 => ⟨v, _, H5, I6, r5, q5⟩
theorem js_tryK {K : PySem.W.Frag} (hst : X.stack = X.env :: X.outer) (hfr : X.env.frame = some X.env.locals) (D : DefX X.prog X.w X.K X.mg X.base k x ps sp) (hr : Room k X.A) (hg : Gl X x) (ha : JA X.nox (e :: es) t)
    (hgG : Gl X G) (hmG : X.mg G = some (.ref CG)) (hqG : PySem.W.excIn X.K CG bmVE "ValueError.__new__" = true) (hN : X.N.Nodup) (hi : X.N[i]? = some n) (hk : X.env.scope.names.lookup n = some .local)
    (hsu : ∀ a oe C, oe.cls = .ref C → ExcK X.K C → JSs (cxSuite X a oe) (b₀ :: suite) (ts a C)) (hK : X.K = K := by rfl) (hdb : (x == ("__debug__" : Str)) = false := by decide) (hdG : (G == ("__debug__" : Str)) = false := by decide)
    (hstar : noStars (e :: es) = true := by rfl) (hsw : swapsWith (.Call (.Name x p) (e :: es) [] cpos) none epos.line X.env = pure false := by rfl) :
    JS X (.Try [.Expr (.Call (.Name x p) (e :: es) [] cpos) epos] [.ExceptHandler (some (.Name G gp)) (some n) (b₀ :: suite) hpos] [] [] pos) (tTryK K CG i sp t ts) := by
  subst hK
  exact .mk (ps_tryK hst hfr D hr hg ha.out hgG hmG hqG hN hi hk (fun a oe C h Z => (hsu a oe C h Z).out) hdb hdG hstar hsw)
end
def gIsiE (K : Frag) : List V → Hp → VK → Prop := fun xs H Q => match xs with
  | [.ref a, .ref y] => ∃ oe C b, Kn H a oe ∧ oe.cls = .ref C ∧ ExcK K C ∧ kitOne K (.ref C) (.ref y) = some b ∧ Q (.bl b) H
  | [.ref a, .ty T] => ∃ oe C b, Kn H a oe ∧ oe.cls = .ref C ∧ ExcK K C ∧ kitOne K (.ref C) (.type T) = some b ∧ Q (.bl b) H
  | _ => False
theorem c_isiE {X : Cx} {K : Frag} (hK : X.K = K := by rfl) : Irr (CallR X (.builtin "isinstance") (gIsiE K)) := by
  refine .mk ?_
  subst hK
  intro pins s σ H xs us Q I r h
  unfold gIsiE at h
  split at h
  · obtain ⟨u, u', rfl, r1, r2⟩ := vals2 r
    obtain ⟨oe, C, b, hk, hc, Z, hb, q⟩ := h
    cases r1
    cases r2
    exact kia_one (kitx_exc Z) I.kIn (⟨hk.get I.hok, hc⟩ : InstE s.heap _ oe C) hb (fun z => nomatch z) fun tk => ⟨.bl b, H, I.tok tk, rfl, q⟩
  · obtain ⟨u, u', rfl, r1, r2⟩ := vals2 r
    obtain ⟨oe, C, b, hk, hc, Z, hb, q⟩ := h
    cases r1
    cases r2
    exact kia_one (kitx_exc Z) I.kIn (⟨hk.get I.hok, hc⟩ : InstE s.heap _ oe C) hb (fun z => nomatch z) fun tk => ⟨.bl b, H, I.tok tk, rfl, q⟩
  · exact h.elim
end L2

set_option Elab.async false
set_option linter.all false
set_option maxRecDepth 100000
set_option maxHeartbeats 4000000
namespace L2
open PySem PySem.Spec PyProof.Rows PySem.W
abbrev TX := (St → Hp → Prop) → (St → XK) → St → Hp → Prop
section
variable {X : Cx} {k : Nat} {x G n : Str} {ps : List Str} {sp : Sp} {e c : Expr} {es : List Expr} {t : TA} {p gp cpos epos hpos pos : Pos} {CG : Addr} {newId : String} {i : Nat} {b₀ : Stmt} {suite b1 b2 body : List Stmt} {ts : Addr → Addr → TS} {tx t1 t2 : TX} {tc : TT}
end
section
variable {X : Cx} {k : Nat} {x G n : Str} {ps : List Str} {sp : Sp} {e c : Expr} {es : List Expr} {t : TA} {p gp cpos epos hpos pos : Pos} {CG : Addr} {i : Nat} {b₀ : Stmt} {suite b1 b2 body : List Stmt} {ts : Addr → Addr → TS} {tx t1 t2 : TX} {tc : TT}
end
end L2

set_option Elab.async false
set_option linter.all false
set_option maxRecDepth 100000
set_option maxHeartbeats 4000000
namespace L2
open PySem PySem.Spec PyProof.Rows

def lamArgs (e : Expr) : Arguments := match e with
  | .Lambda a _ _ _ => a
  | _ => { posonlyargs := [], args := [], vararg := none, kwonlyargs := [], kw_defaults := [], kwarg := none, defaults := [] }
def lamBody (e : Expr) : Expr := match e with
  | .Lambda _ b _ _ => b
  | _ => e
def lamScope (e : Expr) : Scope := match e with
  | .Lambda _ _ sc _ => sc
  | _ => { kind := .function, names := [], isGenerator := false, isCoroutine := false }
structure MadeL (H : Hp) (f : Addr) (qual : Str) (le : Expr) (cl : List (Str × Addr)) : Prop where
  ex : ∃ (pm : Value) (c' : Addr) (ctv : Value) (oc : Obj) (vs : Array Value) (t : Tok), Kn H f (PySem.W.kla_obj "<lambda>" qual (lamArgs le) (lamBody le) (lamScope le) cl pm c' ctv) ∧ Kn H c' oc ∧ oc.data = .fields vs ∧ vs[1]? = some (.str qual t)
structure CloAtL (H : Hp) (f : Addr) (qual : Str) (le : Expr) (fr : List Str) (cs : List Addr) (ws : List V) : Prop where
  ex : ∃ cl, MadeL H f qual le cl ∧ (∀ x c, cl.lookup x = some c → ∃ j : Nat, fr[j]? = some x ∧ cs[j]? = some c) ∧ ∀ (j : Nat) x, fr[j]? = some x → ∃ c, cl.lookup x = some c ∧ cs[j]? = some c
  cells : ∀ (j : Nat) x, ws[j]? = some x → ∃ c o u, cs[j]? = some c ∧ Kn H c o ∧ o.data = .cell (some u) ∧ RelV x u
  l1 : cs.length = fr.length
  l2 : ws.length = fr.length
  nd : cs.Nodup
theorem CloAtL.kn {H : Hp} {f : Addr} {qual : Str} {le : Expr} {fr : List Str} {cs : List Addr} {ws : List V} (C : CloAtL H f qual le fr cs ws) : ∀ c ∈ cs, ∃ o, Kn H c o := fun c m => by
  obtain ⟨j, hj, e⟩ := List.mem_iff_getElem.mp m
  have hw : j < ws.length := by rw [C.l2, ← C.l1]; exact hj
  obtain ⟨c', o, u, h1, h2, _⟩ := C.cells j ws[j] (List.getElem?_eq_getElem hw)
  rw [List.getElem?_eq_getElem hj, e] at h1
  cases h1
  exact ⟨o, h2⟩
theorem CloAtL.same {H H' : Hp} {f : Addr} {qual : Str} {le : Expr} {fr : List Str} {cs : List Addr} {ws : List V} (C : CloAtL H f qual le fr cs ws) (h : ∀ b o, Kn H b o → Kn H' b o) : CloAtL H' f qual le fr cs ws := by
  obtain ⟨cl, ⟨pm, c', ctv, oc, vs, t, h1, h2, h3, h4⟩, h5, h6⟩ := C.ex
  refine ⟨⟨cl, ⟨pm, c', ctv, oc, vs, t, h _ _ h1, h _ _ h2, h3, h4⟩, h5, h6⟩, fun j x e => ?_, C.l1, C.l2, C.nd⟩
  obtain ⟨c, o, u, q1, q2, q3, q4⟩ := C.cells j x e
  exact ⟨c, o, u, q1, h _ _ q2, q3, q4⟩
theorem CloAtL.fn {H : Hp} {f : Addr} {qual : Str} {le : Expr} {fr : List Str} {cs : List Addr} {ws : List V} (C : CloAtL H f qual le fr cs ws) : ∃ oc od fd sl, Kn H f ⟨oc, od, .func fd, sl⟩ := by
  obtain ⟨cl, ⟨pm, c', ctv, oc, vs, t, h1, _⟩, _⟩ := C.ex
  exact ⟨_, _, _, _, h1⟩
section
variable {X : Cx}
end
end L2

set_option Elab.async false
set_option linter.all false
set_option maxRecDepth 100000
set_option maxHeartbeats 4000000
namespace L2
open PySem PySem.Spec PyProof.Rows
section
variable {X : Cx} {pos : Pos} {K : PySem.W.Frag}
def gSlA (K : PySem.W.Frag) : V → Option Int → Option Int → Hp → VK → Prop := fun x lo hi H Q => match x with
  | .str z => z.length ≤ sizeLine ∧ Q (.str (Txt.slice z lo hi)) H
  | .ref a => (∃ xs, SqL K H a xs ∧ ∀ p, H p = none → Q (.ref p) (upd H p (.lst (cutV xs lo hi)))) ∨ ∃ xs, SqT K H a xs ∧ ¬ (HT.sIx xs.length 0 lo = 0 ∧ HT.sIx xs.length xs.length hi = xs.length) ∧ ∀ p, H p = none → Q (.ref p) (upd H p (.tup (cutV xs lo hi)))
  | _ => False
theorem o_slA (hK : X.K = K := by rfl) : Irr (SlR X (gSlA K)) := by
  refine .mk ?_
  subst hK
  intro pins s σ H x v vl vu lo hi sl Q I rx hs pl pu h
  unfold gSlA at h
  split at h
  · exact sl_str pins s σ H _ v vl vu lo hi sl Q I rx hs pl pu ⟨_, rfl, h.1, h.2⟩
  · rcases h with ⟨xs, h1, h2⟩ | ⟨xs, h1, h2, h3⟩
    · exact sl_list pins s σ H _ v vl vu lo hi sl Q I rx hs pl pu ⟨_, xs, rfl, h1, h2⟩
    · exact sl_tup pins s σ H _ v vl vu lo hi sl Q I rx hs pl pu ⟨_, xs, rfl, h1, h2, h3⟩
  · exact h.elim
theorem j_gstr {x : Str} {v : Str} (hg : Gl X x) (hm : ∃ t, X.mg x = some (.str v t)) (hd : (x == ("__debug__" : Str)) = false := by decide) : JE X (.Name x pos) (tC (.str v)) := by
  obtain ⟨t, h⟩ := hm
  exact j_glob hg h ⟨_, rfl⟩ hd
theorem j_gint {x : Str} {v : Int} (hg : Gl X x) (hm : ∃ t, X.mg x = some (.int v t)) (hd : (x == ("__debug__" : Str)) = false := by decide) : JE X (.Name x pos) (tC (.int v)) := by
  obtain ⟨t, h⟩ := hm
  exact j_glob hg h ⟨_, rfl⟩ hd
end
end L2

set_option Elab.async false
set_option linter.all false
set_option maxRecDepth 100000
set_option maxHeartbeats 4000000
namespace L2
open PySem PySem.Spec PyProof.Rows
section
variable {X : Cx} {a b c e f i o k v value : Expr} {ta tb te td ty tv tx : TE} {K : PySem.W.Frag} {w : World} {pos pos' p2 apos cpos : Pos}
def gInA (K : PySem.W.Frag) (neg : Bool) : R2 := fun x y H Q => match y with
  | .str j => (match x with
    | .str i => Q (.bl (neg ^^ !(Builtin.Str.occurrences j i 0 j.length 1).isEmpty)) H
    | _ => False)
  | .ref p => (∃ xs, (SqL K H p xs ∨ SqT K H p xs) ∧ flatV x = true ∧ xs.all flatV = true ∧ Q (.bl (neg ^^ inV x xs)) H) ∨ ∃ o, DGet H p x o ∧ Q (.bl (neg ^^ o.isSome)) H
  | _ => False
theorem o_inA (hu : X.A.units + 64 < cLine) (hK : X.K = K := by rfl) : Irr (OpR X (compareOp .In) (gInA K false)) := by
  refine .mk ?_
  subst hK
  intro pins s σ H x y v u Q I rx ry h
  cases y with
  | str j => exact og_in rfl pins s σ H x (.str j) v u Q I rx ry h
  | ref p =>
    rcases h with h | ⟨ov, g, q⟩
    · exact og_in rfl pins s σ H x (.ref p) v u Q I rx ry h
    · obtain rfl : u = Value.ref p := ry
      exact d_in (by omega) I g rx fun s3 I3 => ⟨.bl ov.isSome, H, I3, rfl, by simpa using q⟩
  | _ => exact False.elim h
theorem o_notinA (hu : X.A.units + 64 < cLine) (hK : X.K = K := by rfl) : Irr (OpR X (compareOp .NotIn) (gInA K true)) := by
  refine .mk ?_
  subst hK
  intro pins s σ H x y v u Q I rx ry h
  cases y with
  | str j => exact og_notin rfl pins s σ H x (.str j) v u Q I rx ry h
  | ref p =>
    rcases h with h | ⟨ov, g, q⟩
    · exact og_notin rfl pins s σ H x (.ref p) v u Q I rx ry h
    · obtain rfl : u = Value.ref p := ry
      exact d_notIn (by omega) I g rx fun s3 I3 => ⟨.bl (!ov.isSome), H, I3, rfl, by simpa using q⟩
  | _ => exact False.elim h
theorem IsD.kd {H : Hp} {a : Addr} {kvs : List (Key × V)} (e : H a = some (.dK kvs)) : IsD H a := .inl ⟨kvs, .inl e⟩
theorem IsD.tk {H : Hp} {a : Addr} {kvs : List (List Key × V)} (e : H a = some (.dT kvs)) : IsD H a := .inr ⟨kvs, .inl e⟩
def gInt : List V → Hp → VK → Prop := fun xs H Q => match xs with
  | [.int i] => Q (.int i) H
  | [.bl b] => Q (.int (if b then 1 else 0)) H
  | _ => False
theorem c_int : Irr (CallR X (.type "int") gInt) := by
  refine .mk ?_
  intro pins s σ H xs us Q I r h
  unfold gInt at h
  split at h
  · exact call_int1 pins s σ H _ us Q I r (.inl ⟨_, rfl, h⟩)
  · exact call_int1 pins s σ H _ us Q I r (.inr ⟨_, rfl, h⟩)
  · exact h.elim
def gTuple (K : PySem.W.Frag) : List V → Hp → VK → Prop := fun xs H Q => match xs with
  | [.ref p] => ∃ ys, (SqL K H p ys ∧ ∀ l, H l = none → Q (.ref l) (upd H l (.tup ys))) ∨ (SqT K H p ys ∧ Q (.ref p) H)
  | _ => False
theorem c_tuple (hK : X.K = K := by rfl) : Irr (CallR X (.type "tuple") (gTuple K)) := by
  refine .mk ?_
  subst hK
  intro pins s σ H xs us Q I r h
  unfold gTuple at h
  split at h
  · obtain ⟨ys, h⟩ := h
    exact call_tuple_of pins s σ H _ us Q I r ⟨_, ys, rfl, h⟩
  · exact h.elim
end
end L2

set_option Elab.async false
set_option linter.all false
set_option maxRecDepth 100000
set_option maxHeartbeats 4000000
namespace L2
open PySem PySem.Spec PyProof.Rows
section
variable {X : Cx} {K : PySem.W.Frag}
end
end L2

set_option Elab.async false
set_option linter.all false
set_option maxRecDepth 100000
set_option maxHeartbeats 4000000
namespace L2
open PySem PySem.Spec PyProof.Rows
def Ite (K : PySem.W.Frag) (a : Addr) : It :=
  ⟨fun i H => ∃ xs x, SqL K H a xs ∧ xs[i]? = some x,
   fun i H v H' => ∃ T x, (∀ xs, SqL K H a xs → xs[i]? = some x) ∧ H T = none ∧ v = .ref T ∧ H' = upd H T (.tup [.int (i : Nat), x]),
   fun i H => ∃ xs, SqL K H a xs ∧ xs.length ≤ i⟩
theorem turn_enum {P : Program} {w : World} {K : PySem.W.Frag} {elts : List Expr} {x1} {pos : Pos} {a e it : Addr} (hne : e ≠ it) :
    Turn P w K (.Tuple elts x1 pos) (Ite K a) [e, it] e (fun i h => (∃ old, IsEnum h e it (i : Nat) old) ∧ h.IsListIter it a i) where
  mem := by simp
  obj := by
    rintro i h ⟨⟨old, he⟩, hi⟩ c hc
    simp only [List.mem_cons, List.not_mem_nil, or_false] at hc
    rcases hc with rfl | rfl
    · exact ⟨_, he, fun v z => by cases z⟩
    · obtain ⟨o, ho, _, d⟩ := hi
      exact ⟨o, ho, fun v z => by rw [d] at z; cases z⟩
  keep := by
    rintro i h h' ⟨⟨old, he⟩, hi⟩ k
    refine ⟨⟨old, k e (by simp) _ he⟩, ?_⟩
    obtain ⟨o, ho, r⟩ := hi
    exact ⟨o, k it (by simp) _ ho, r⟩
  item := by
    rintro X hP hw hK hc i pins s σ H E I hf ⟨⟨old, he⟩, hi⟩ ⟨xs, x, q1, hx⟩
    subst hP hw hK
    obtain ⟨its, rv, p1, _⟩ := I.list q1
    obtain ⟨ux, hux, rx⟩ := rv.get hx
    refine wpAny_pyNext_enum_item he hi p1.isList (x := ux) (by simpa using hux) hne fun h' a1 a2 a3 a4 a5 => ?_
    have hT : H s.heap.objs.size = none := I.hok.fresh (Nat.le_refl _)
    have I1 : Inv X pins σ (upd H s.heap.objs.size (.tup [.int (i : Nat), x])) { s with heap := s.heap.push { cls := .type "tuple", data := .seq [.int (i : Nat) s.toks, ux].toArray }, toks := s.toks + 1 } :=
      I.laid (t' := s.toks + 1) (fun b o q => Heap.get?_push_of_some _ q) (Nat.le_refl _) (show ObjOk X.prog X.w _ _ _ (.tup [.int (i : Nat), x]) from ⟨by show 2 ≤ sizeLine; decide, [.int (i : Nat) s.toks, ux], .cons ⟨_, rfl⟩ (.cons rx .nil), IsTup.new _ _⟩)
    have hlt : ∀ c ∈ [e, it], c < s.heap.objs.size := by
      intro c hc
      simp only [List.mem_cons, List.not_mem_nil, or_false] at hc
      rcases hc with rfl | rfl
      · exact Heap.lt_size he
      · obtain ⟨o, ho, _⟩ := hi; exact Heap.lt_size ho
    have hf' : ∀ c ∈ [e, it], FpOk X pins (upd H s.heap.objs.size (.tup [.int (i : Nat), x])) c := fun c hc => by
      obtain ⟨f0, fr⟩ := hf c hc
      exact ⟨by rw [upd_ne (Nat.ne_of_lt (hlt c hc))]; exact f0, fr⟩
    have kept : ∀ c o, c ∉ [e, it] → (s.heap.push { cls := .type "tuple", data := .seq [.int (i : Nat) s.toks, ux].toArray }).get? c = some o → h'.get? c = some o := by
      intro c o hc q
      have hc' : c ≠ e ∧ c ≠ it := by simpa using hc
      by_cases hn : c = s.heap.objs.size
      · subst hn
        have e0 : (s.heap.push { cls := .type "tuple", data := .seq [.int (i : Nat) s.toks, ux].toArray }).get? s.heap.objs.size = some { cls := .type "tuple", data := .seq [.int (i : Nat) s.toks, ux].toArray } := Heap.get?_push_size _ rfl
        rw [e0] at q
        cases q
        exact a3
      · rw [Heap.get?_push_ne _ _ _ hn] at q
        exact a5 c o hc'.1 hc'.2 q
    have I2 : Inv X pins σ (upd H s.heap.objs.size (.tup [.int (i : Nat), x])) { s with heap := h', toks := s.toks + 1 } := I1.turnedL (t' := s.toks + 1) kept hf'
    refine ⟨_, rfl, ?_⟩
    refine wpAny_letOwnedTupleGo_enum a1 fun h2' he2 hs2 => ?_
    have I3 : Inv X pins σ (upd H s.heap.objs.size (.tup [.int (i : Nat), x])) { s with heap := h2', toks := s.toks + 1 } := Inv.turnedL (s := { s with heap := h', toks := s.toks + 1 }) (h' := h2') (t' := s.toks + 1) (fp := [e, it]) I2 (fun c o hc q => hs2.extBut _ _ (fun z => hc (by simp [z])) q) hf'
    refine ⟨.ref s.heap.objs.size, _, I3, rfl, ⟨_, x, fun zs hq => by rw [I.list_inj hq q1]; exact hx, hT, rfl, rfl⟩, ⟨⟨_, he2⟩, ?_⟩, fun c hc => (hf' c hc).1⟩
    obtain ⟨o, ho, r⟩ := a2
    exact ⟨o, hs2.extBut _ _ hne.symm ho, r⟩
  done := by
    rintro X hP hw hK hc i pins s σ H E I hf ⟨⟨old, he⟩, hi⟩ ⟨xs, q1, hend⟩
    subst hP hw hK
    obtain ⟨its, rv, p1, _⟩ := I.list q1
    have l1 := rv.length
    refine wpAny_pyNext_enum_end (I.ok.hd hc) he hi p1.isList (by simp; omega) fun h' hk => ⟨rfl, I.turnedL (t' := s.toks) (fp := [e, it]) (fun c o hc q => ?_) hf⟩
    have hc' : c ≠ e ∧ c ≠ it := by simpa using hc
    exact hk c o hc'.2 q
  self := fun _ _ _ _ _ st h => by
    obtain ⟨⟨old, he⟩, _⟩ := st
    exact wpAny_pyIter_enum he h
section
variable {X : Cx} {K : PySem.W.Frag}
def iEnum (K : PySem.W.Frag) (ta : TA) : TI := fun σ H R => ta σ H fun vs H1 => match vs with
  | [.ref a] => (∃ xs, SqL K H1 a xs) ∧ R (Ite K a) H1
  | _ => False
theorem pi_enum {a : Expr} {ta : TA} {p pos : Pos} {elts : List Expr} {x1} {pos' : Pos} (hg : Gl X "enumerate") (hm : X.mg "enumerate" = none) (ha : PA X [a] ta) (hK : X.K = K := by rfl) (hs : starEach [a] X.env = [(false, eval a X.env)] := by rfl) :
    PI X (.Tuple elts x1 pos') (.Call (.Name "enumerate" p) [a] [] pos) (iEnum K ta) := by
  subst hK
  intro pins s σ H R I h
  refine Call_ (ld_blt I hg hm boot_enumerate (PyProof.Rows.callWith_type1 (thn (ha pos pins s σ H _ I h) fun us s1 ⟨vs, H1, I1, r1, q1⟩ => ?_) (by rw [hs]; rfl) rfl))
  dsimp only at q1
  split at q1
  · obtain ⟨u, rfl, r⟩ := vals1 r1
    cases r
    obtain ⟨⟨xs, hx⟩, q⟩ := q1
    obtain ⟨its, rv, p1, _⟩ := I1.list hx
    refine call_enumerate_list p1.isList fun h' he hi hz hk => ?_
    refine wpAny_pyIter_enum he ?_
    refine ⟨_, [s1.heap.objs.size + 1, s1.heap.objs.size], _, _, H1, rfl, I1.kept (t' := s1.toks) hk, turn_enum (Nat.succ_ne_self _), ⟨⟨_, he⟩, hi⟩, fun c hc => ?_, q⟩
    have hge : s1.heap.objs.size ≤ c := by
      simp only [List.mem_cons, List.not_mem_nil, or_false] at hc
      rcases hc with rfl | rfl
      · exact Nat.le_succ _
      · exact Nat.le_refl _
    exact I1.fpOk hge (I1.hok.fresh hge)
  · exact q1.elim
theorem ji_enum {a : Expr} {ta : TA} {p pos : Pos} {elts : List Expr} {x1} {pos' : Pos} (hg : Gl X "enumerate") (hm : X.mg "enumerate" = none) (ha : JA X [a] ta) (hK : X.K = K := by rfl) (h1 : noStar a = true := by rfl) :
    JI X (.Tuple elts x1 pos') (.Call (.Name "enumerate" p) [a] [] pos) (iEnum K ta) := .mk (pi_enum hg hm ha.out hK (by rw [starEach_cons h1]; rfl))
end
end L2

set_option Elab.async false
set_option linter.all false
set_option maxRecDepth 100000
set_option maxHeartbeats 4000000
namespace L2
open PySem PySem.Spec PyProof.Rows
namespace FX
end FX
section
variable {prog : Program} {w : World} {A : Around} {E : Value → Shared → Prop} {s : Shared}
end
section
variable {X : Cx} {K : PySem.W.Frag}
end
end L2

set_option Elab.async false
set_option linter.all false
set_option maxRecDepth 100000
set_option maxHeartbeats 4000000
namespace L2
open PySem PySem.Spec PyProof.Rows
section
variable {X : Cx}
end
end L2

set_option Elab.async false
set_option linter.all false
set_option maxRecDepth 100000
set_option maxHeartbeats 4000000
namespace L2
open PySem PySem.Spec PyProof.Rows
section
variable {X : Cx} {K : PySem.W.Frag}
end
end L2

set_option Elab.async false
set_option linter.all false
set_option maxRecDepth 100000
set_option maxHeartbeats 4000000
namespace L2
open PySem PySem.Spec PyProof.Rows
section
variable {X : Cx} {K : PySem.W.Frag}
def bls (bs : List Bool) : List V := bs.map V.bl
def gAll (K : PySem.W.Frag) : List V → Hp → VK → Prop := fun xs H Q => match xs with
  | [.ref a] => ∃ bs : List Bool, SqL K H a (bls bs) ∧ Q (.bl (bs.all id)) H
  | _ => False
def gAny (K : PySem.W.Frag) : List V → Hp → VK → Prop := fun xs H Q => match xs with
  | [.ref a] => ∃ bs : List Bool, SqL K H a (bls bs) ∧ Q (.bl (bs.any id)) H
  | _ => False
theorem bls_at : ∀ {bs : List Bool} {its : List Value} {i : Nat} {v : Value}, Vals (bls bs) its → its[i]? = some v → v = .bool (bs.getD i false)
  | [], _, i, v, h, e => by cases h; simp at e
  | b :: r, _, 0, v, h, e => by
    cases h with
    | cons a t => simp at e; subst e; exact a
  | b :: r, _, i + 1, v, h, e => by
    cases h with
    | cons a t =>
      simp at e
      have := bls_at (bs := r) t e
      simpa using this
theorem range_bs (bs : List Bool) : (List.range bs.length).map (fun i => bs.getD i false) = bs := by
  refine List.ext_getElem (by simp) fun i h1 h2 => ?_
  simp [List.getD, h2]
theorem all_bs (bs : List Bool) : (List.range bs.length).all (fun i => bs.getD i false) = bs.all id := by
  have h := List.all_map (f := fun i => bs.getD i false) (p := id) (l := List.range bs.length)
  rw [range_bs] at h
  exact h.symm
theorem any_bs (bs : List Bool) : (List.range bs.length).any (fun i => bs.getD i false) = bs.any id := by
  have h := List.any_map (f := fun i => bs.getD i false) (p := id) (l := List.range bs.length)
  rw [range_bs] at h
  exact h.symm
theorem c_all (hc : X.calm = true) (hK : X.K = K := by rfl) : Irr (CallR X (.builtin "all") (gAll K)) := by
  refine .mk ?_
  subst hK
  intro pins s σ H xs us Q I r h
  unfold gAll at h
  split at h
  · rename_i la
    obtain ⟨bs, hS, q⟩ := h
    obtain ⟨u, rfl, rx⟩ := vals1 r
    cases rx
    obtain ⟨its, rv, pl, _⟩ := I.list hS
    have hlen : its.length = bs.length := by have := rv.length; unfold bls at this; rw [List.length_map] at this; exact this.symm
    have hll : la < s.heap.objs.size := by obtain ⟨o, n, e, _⟩ := pl; exact Heap.lt_size e
    refine call_all_walk (wpAny_pyIter_list pl.isList ?_)
    refine ⟨_, _, _, _, _, _, fun i => bs.getD i false, rfl, Walks.list (A := X.A.in1) (I.ok.hd hc) s.heap.objs.size la (Nat.ne_of_lt hll) its.toArray, ⟨⟨_, Heap.get?_push_size _ rfl, rfl, rfl⟩, pl.isList.push _⟩, fun i v s2 Q2 E2 hv hq => ?_, fun h' tk hk => ?_⟩
    · have e := bls_at (i := i) (v := v) rv (by simpa using hv)
      rw [e]
      exact wpAny_truthy_bool hq
    · refine ⟨.bl (bs.all id), H, I.kept (t' := tk) (fun b o e => hk b o (fun m => ?_) (Heap.get?_push_of_some _ e)), ?_, q⟩
      · rw [List.mem_singleton.mp m] at e; exact absurd (Heap.lt_size e) (Nat.lt_irrefl _)
      · show Value.bool _ = Value.bool _
        rw [List.size_toArray, hlen, all_bs]
  · exact h.elim
theorem c_any (hc : X.calm = true) (hK : X.K = K := by rfl) : Irr (CallR X (.builtin "any") (gAny K)) := by
  refine .mk ?_
  subst hK
  intro pins s σ H xs us Q I r h
  unfold gAny at h
  split at h
  · rename_i la
    obtain ⟨bs, hS, q⟩ := h
    obtain ⟨u, rfl, rx⟩ := vals1 r
    cases rx
    obtain ⟨its, rv, pl, _⟩ := I.list hS
    have hlen : its.length = bs.length := by have := rv.length; unfold bls at this; rw [List.length_map] at this; exact this.symm
    have hll : la < s.heap.objs.size := by obtain ⟨o, n, e, _⟩ := pl; exact Heap.lt_size e
    refine call_any_walk (wpAny_pyIter_list pl.isList ?_)
    refine ⟨_, _, _, _, _, _, fun i => bs.getD i false, rfl, Walks.list (A := X.A.in1) (I.ok.hd hc) s.heap.objs.size la (Nat.ne_of_lt hll) its.toArray, ⟨⟨_, Heap.get?_push_size _ rfl, rfl, rfl⟩, pl.isList.push _⟩, fun i v s2 Q2 E2 hv hq => ?_, fun h' tk hk => ?_⟩
    · have e := bls_at (i := i) (v := v) rv (by simpa using hv)
      rw [e]
      exact wpAny_truthy_bool hq
    · refine ⟨.bl (bs.any id), H, I.kept (t' := tk) (fun b o e => hk b o (fun m => ?_) (Heap.get?_push_of_some _ e)), ?_, q⟩
      · rw [List.mem_singleton.mp m] at e; exact absurd (Heap.lt_size e) (Nat.lt_irrefl _)
      · show Value.bool _ = Value.bool _
        rw [List.size_toArray, hlen, any_bs]
  · exact h.elim
def gIntT : List V → Hp → VK → Prop := fun xs H Q => match xs with
  | [.str z] => ∃ n : Int, z = Str.ofString (toString n) ∧ 0 ≤ n ∧ n < 10 ^ 10 ∧ Q (.int n) H
  | [.int i] => Q (.int i) H
  | [.bl b] => Q (.int (if b then 1 else 0)) H
  | _ => False
theorem c_intT : Irr (CallR X (.type "int") gIntT) := by
  refine .mk ?_
  intro pins s σ H xs us Q I r h
  unfold gIntT at h
  split at h
  · obtain ⟨n, rfl, h0, h1, q⟩ := h
    obtain ⟨u, rfl, rx⟩ := vals1 r
    obtain ⟨t, rfl⟩ := rx
    exact PySem.W.KIN.call_num h0 h1 ⟨.int _, H, I.tok _, ⟨_, rfl⟩, q⟩
  · exact (c_int (X := X)).out pins s σ H _ us Q I r h
  · exact (c_int (X := X)).out pins s σ H _ us Q I r h
  · exact h.elim
end
section
variable {X : Cx} {p pos : Pos}
end
section
variable {cap : List (Option Nat)} {g : TG} {tc : TT} {te : TE} {Q : Addr → Hp → Prop} {σ : St} {H : Hp} {K : PySem.W.Frag}
theorem gath_enum {a : Addr} {xs : List V} (Pv : Nat → List V → St → Hp → Prop) (hn : xs.length ≤ 1000000) (h0 : Pv 0 [] (capt cap σ) H) (hlen : ∀ i ys σ' H', Pv i ys σ' H' → ys.length ≤ i)
    (hl : ∀ i ys σ' H', Pv i ys σ' H' → SqL K H' a xs)
    (hs : ∀ i x ys σ' H', xs[i]? = some x → Pv i ys σ' H' → ∀ T, H' T = none → g (.ref T) σ' (upd H' T (.tup [.int (i : Nat), x])) fun σ3 H3 => tc σ3 H3 fun b H4 => if b = true then te σ3 H4 fun y H5 => Pv (i + 1) (ys ++ [y]) σ3 H5 else Pv (i + 1) ys σ3 H4)
    (hd : ∀ ys σ' H', Pv xs.length ys σ' H' → ∀ D, H' D = none → Q D (upd H' D (.lst ys))) : Gath (Ite K a) cap g tc te Q σ H := by
  have big : (1000000 : Nat) < sizeLine := by rw [sizeLine_eq]; decide
  refine ⟨fun i m ys σ' H' => m = xs.length - i ∧ i ≤ xs.length ∧ Pv i ys σ' H', ⟨xs.length, by simp, Nat.zero_le _, h0⟩, ?_⟩
  rintro i m ys σ' H' ⟨rfl, hi, p⟩
  have hle := hlen i ys σ' H' p
  have q1 := hl i ys σ' H' p
  by_cases hlt : i < xs.length
  · refine .inr ⟨⟨xs, xs[i], q1, by simp [hlt]⟩, by omega, Pv (i + 1), fun ys2 σ2 H2 p' => ⟨xs.length - (i + 1), by omega, rfl, hlt, p'⟩, fun v H2 y => ?_⟩
    obtain ⟨T, x, e1, hT, rfl, rfl⟩ := y
    exact hs i x ys σ' H' (e1 xs q1) p T hT
  · have e : i = xs.length := by omega
    subst e
    exact .inl ⟨⟨xs, q1, Nat.le_refl _⟩, by omega, hd ys σ' H' p⟩
end
end L2

set_option Elab.async false
set_option linter.all false
namespace L2
open PySem PySem.Spec PyProof.Rows
section
variable {X : Cx} {K : PySem.W.Frag} {e : Expr} {te : TE}
theorem jt_tru (h : JE X e te) (hK : X.K = K := by rfl) (he : ∀ whole, isTrue e X.env whole = (do let v ← whole; standAt e.pos; holding [v] (truthy v)) := by intro _; rfl) : JT X e (mTruth K te) := by
  refine .mk ?_
  subst hK
  exact pt_truth h.out he
end
end L2

namespace Rg

def splitOn (c : Nat) : List Nat → List (List Nat)
  | [] => [[]]
  | x :: r => if x = c then [] :: splitOn c r else match splitOn c r with
    | [] => [[x]]
    | p :: ps => (x :: p) :: ps
def joinWith (sep : List Nat) : List (List Nat) → List Nat
  | [] => []
  | [p] => p
  | p :: q :: r => p ++ sep ++ joinWith sep (q :: r)
theorem splitOn_ne (c : Nat) (l : List Nat) : splitOn c l ≠ [] := by
  cases l with
  | nil => simp [splitOn]
  | cons x r =>
    unfold splitOn
    split
    · simp
    · split <;> simp
theorem splitOn_none {c : Nat} : ∀ {l : List Nat}, c ∉ l → splitOn c l = [l]
  | [], _ => rfl
  | x :: r, h => by
    have hx : x ≠ c := fun e => h (by simp [e])
    have hr : c ∉ r := fun m => h (List.mem_cons_of_mem _ m)
    unfold splitOn
    rw [if_neg hx, splitOn_none hr]
theorem splitOn_append {c : Nat} : ∀ {p : List Nat} {l : List Nat}, c ∉ p → splitOn c (p ++ c :: l) = p :: splitOn c l
  | [], l, _ => by simp [splitOn]
  | x :: p, l, h => by
    have hx : x ≠ c := fun e => h (by simp [e])
    have hr : c ∉ p := fun m => h (List.mem_cons_of_mem _ m)
    show (if x = c then [] :: splitOn c (p ++ c :: l) else match splitOn c (p ++ c :: l) with | [] => [[x]] | q :: qs => (x :: q) :: qs) = _
    rw [if_neg hx, splitOn_append hr]
theorem splitOn_join {c : Nat} : ∀ {ps : List (List Nat)}, ps ≠ [] → (∀ p ∈ ps, c ∉ p) → splitOn c (joinWith [c] ps) = ps
  | [], h, _ => absurd rfl h
  | [p], _, h => by
    unfold joinWith
    exact splitOn_none (h p (by simp))
  | p :: q :: r, _, h => by
    unfold joinWith
    rw [List.append_assoc]
    show splitOn c (p ++ c :: joinWith [c] (q :: r)) = _
    rw [splitOn_append (h p (by simp)), splitOn_join (by simp) fun x hx => h x (List.mem_cons_of_mem _ hx)]
theorem splitOn_unique {c : Nat} {l : List Nat} {ps : List (List Nat)} (h0 : ps ≠ []) (h1 : ∀ p ∈ ps, c ∉ p) (h2 : joinWith [c] ps = l) : ps = splitOn c l := by
  rw [← h2, splitOn_join h0 h1]

def small : List Nat := (List.range 26).map (· + 97)
def great : List Nat := (List.range 26).map (· + 65)
def figs : List Nat := (List.range 10).map (· + 48)
def meant (c : Nat) : Option (List Nat) :=
  if c = 98 then some [32] else if c = 110 then some [10] else if c = 116 then some [126] else if c = 97 then some small else if c = 65 then some great else if c = 48 then some figs else none
def decGo : List (List Nat) → Option (List Nat)
  | [] => some []
  | [] :: _ => none
  | (c :: r) :: ps => match meant c with
    | none => none
    | some m => (decGo ps).map fun t => m ++ r ++ t
def dec (l : List Nat) : Option (List Nat) := match splitOn 126 l with
  | [] => none
  | p :: ps => (decGo ps).map (p ++ ·)
end Rg

set_option linter.all false
namespace Rg
open PySem PySem.Builtin PySem.Builtin.Str

abbrev S (l : List Nat) : Str := ⟨l.toArray⟩
theorem S_inj {a b : List Nat} (h : S a = S b) : a = b := by
  have : (S a).cps.toList = (S b).cps.toList := by rw [h]
  simpa using this
theorem S_of (x : Str) : x = S x.cps.toList := by cases x; simp [S]
theorem S_app (a b : List Nat) : S a ++ S b = S (a ++ b) := Str.ext' (by rw [Str.cps_append]; simp)
theorem S_len (a : List Nat) : (S a).length = a.length := by simp [Str.length]
theorem join_S (sep : List Nat) : ∀ ps : List (List Nat), Str.join (S sep) (ps.map S) = S (joinWith sep ps)
  | [] => rfl
  | [p] => rfl
  | p :: q :: r => by
    show S p ++ S sep ++ Str.join (S sep) ((q :: r).map S) = _
    rw [join_S sep (q :: r), S_app, S_app]
    rfl
theorem txtJoin_S (sep : List Nat) (ps : List (List Nat)) : Txt.join (S sep) (ps.map S) = S (joinWith sep ps) := by
  unfold Txt.join
  rw [StrLaws.glued_eq_join, join_S]

theorem occ_all (x : Str) (c : Nat) (limit : Nat) : ∀ (l : List Nat) (st : Array Nat × Nat), (∀ i ∈ l, st.snd ≤ i) → l.Pairwise (· < ·) → st.fst.size + l.length < limit + 1 →
    ∀ i, (i ∈ st.fst.toList ∨ (i ∈ l ∧ StrLaws.At x (S [c]) x.length i)) → i ∈ (forIn l st (StrLaws.occBody x (S [c]) x.length limit)).run.fst.toList
  | [], st, _, _, _, i, h => by
    rcases h with h | h
    · exact h
    · exact absurd h.1 (by simp)
  | a :: l, st, hle, hp, hsz, i, h => by
    obtain ⟨hp1, hp2⟩ := List.pairwise_cons.mp hp
    rw [List.forIn_cons]
    unfold StrLaws.occBody
    by_cases hc : ((st.fst.size < limit ∧ st.snd ≤ a) ∧ a + (S [c]).length ≤ x.length) ∧ subAt x (S [c]) a = true
    · rw [if_pos hc]
      refine occ_all x c limit l _ (fun j hj => ?_) hp2 ?_ i ?_
      · have := hp1 j hj
        show a + (S [c]).length ≤ j
        rw [S_len]
        simp
        omega
      · show (st.fst.push a).size + l.length < limit + 1
        rw [Array.size_push]
        rw [List.length_cons] at hsz
        omega
      · show i ∈ (st.fst.push a).toList ∨ _
        rw [Array.toList_push]
        rcases h with h | ⟨h1, h2⟩
        · exact .inl (List.mem_append_left _ h)
        · rcases List.mem_cons.mp h1 with e | e
          · exact .inl (List.mem_append_right _ (by simp [e]))
          · exact .inr ⟨e, h2⟩
    · rw [if_neg hc]
      refine occ_all x c limit l _ (fun j hj => hle j (List.mem_cons_of_mem _ hj)) hp2 ?_ i ?_
      · show st.fst.size + l.length < limit + 1
        rw [List.length_cons] at hsz
        omega
      · rcases h with h | ⟨h1, h2⟩
        · exact .inl h
        · rcases List.mem_cons.mp h1 with e | e
          · subst e
            refine absurd ⟨⟨⟨?_, hle i List.mem_cons_self⟩, h2.1⟩, h2.2⟩ hc
            rw [List.length_cons] at hsz
            omega
          · exact .inr ⟨e, h2⟩

theorem at_iff (x : Str) (c i : Nat) : StrLaws.At x (S [c]) x.length i ↔ x.cps.toList[i]? = some c := by
  unfold StrLaws.At
  rw [StrLaws.subAt_eq, S_len]
  simp only [List.length_singleton]
  have hl : x.cps.toList.length = x.length := by simp [Str.length]
  constructor
  · rintro ⟨h1, h2⟩
    have e := eq_of_beq h2
    have hi : i < x.cps.toList.length := by omega
    rw [List.drop_eq_getElem_cons hi] at e
    simp at e
    rw [List.getElem?_eq_getElem hi]
    simp [e]
  · intro h
    obtain ⟨hi, e⟩ := List.getElem?_eq_some_iff.mp h
    refine ⟨by omega, ?_⟩
    rw [List.drop_eq_getElem_cons hi, e]
    simp

theorem occ_mem (x : Str) (c i : Nat) (h : x.cps.toList[i]? = some c) : i ∈ occurrences x (S [c]) 0 x.length (x.length + 1) := by
  rw [StrLaws.occ_eq]
  have hi : i < x.length := by
    obtain ⟨hi, _⟩ := List.getElem?_eq_some_iff.mp h
    simpa [Str.length] using hi
  refine occ_all x c (x.length + 1) _ (#[], 0) (fun j _ => Nat.zero_le _) List.pairwise_lt_range' ?_ i (.inr ⟨?_, (at_iff x c i).mpr h⟩)
  · rw [List.length_range']
    simp
  · rw [List.mem_range']
    exact ⟨i, by omega, by omega⟩

theorem partsFrom_free (x : Str) (c : Nat) : ∀ (cuts : List Nat) (a f : Nat), StrLaws.ChainTo x (S [c]) x.length a cuts f → (∀ i, a ≤ i → x.cps.toList[i]? = some c → i ∈ cuts) → cuts.Pairwise (· < ·) →
    ∀ p ∈ StrLaws.partsFrom x 1 a cuts, c ∉ p.cps.toList
  | [], a, f, _, hall, _, p, hp => by
    have hp' : p = strSub x a x.length := by simpa [StrLaws.partsFrom] using hp
    subst hp'
    rw [StrLaws.strSub_toList]
    intro m
    obtain ⟨k, hk, e⟩ := List.getElem_of_mem m
    have h2 : (x.cps.toList.drop a)[k]? = some c := by
      rw [List.getElem_take] at e
      rw [List.getElem?_eq_getElem (by rw [List.length_take] at hk; omega), e]
    rw [List.getElem?_drop] at h2
    exact absurd (hall (a + k) (by omega) h2) (by simp)
  | b :: r, a, f, h, hall, hp, p, hm => by
    obtain ⟨h1, h2, h3⟩ := h
    obtain ⟨hp1, hp2⟩ := List.pairwise_cons.mp hp
    have hm' : p = strSub x a b ∨ p ∈ StrLaws.partsFrom x 1 (b + 1) r := by simpa [StrLaws.partsFrom] using hm
    rcases hm' with e | e
    · subst e
      rw [StrLaws.strSub_toList]
      intro m
      obtain ⟨k, hk, e⟩ := List.getElem_of_mem m
      have hk' : k < b - a := by rw [List.length_take] at hk; omega
      have h4 : (x.cps.toList.drop a)[k]? = some c := by
        rw [List.getElem_take] at e
        rw [List.getElem?_eq_getElem (by rw [List.length_take] at hk; omega), e]
      rw [List.getElem?_drop] at h4
      rcases List.mem_cons.mp (hall (a + k) (by omega) h4) with z | z
      · omega
      · have := hp1 _ z
        omega
    · refine partsFrom_free x c r (b + 1) f ?_ (fun i hi hc => ?_) hp2 p e
      · have e1 : (S [c]).length = 1 := S_len [c]
        rw [e1] at h3
        exact h3
      · rcases List.mem_cons.mp (hall i (by omega) hc) with z | z
        · omega
        · exact z
theorem chain_sorted (x : Str) (c : Nat) : ∀ (cuts : List Nat) (a f : Nat), StrLaws.ChainTo x (S [c]) x.length a cuts f → cuts.Pairwise (· < ·) ∧ ∀ i ∈ cuts, a ≤ i
  | [], _, _, _ => ⟨.nil, by simp⟩
  | b :: r, a, f, h => by
    obtain ⟨h1, _, h3⟩ := h
    have e1 : (S [c]).length = 1 := S_len [c]
    rw [e1] at h3
    obtain ⟨p, q⟩ := chain_sorted x c r _ f h3
    refine ⟨List.pairwise_cons.mpr ⟨fun i hi => ?_, p⟩, fun i hi => ?_⟩
    · have := q i hi
      omega
    · rcases List.mem_cons.mp hi with e | e
      · omega
      · have := q i e
        omega
theorem split_S (l : List Nat) (c : Nat) (hc : c < 256) : Txt.split (S l) (S [c]) = (splitOn c l).map S := by
  have one : c ∉ l → [S l] = (splitOn c l).map S := fun h => by rw [splitOn_none h]; rfl
  have big : ∀ ts : List Str, ts ≠ [] → (∀ t ∈ ts, c ∉ t.cps.toList) → Str.join (S [c]) ts = S l → ts = (splitOn c l).map S := fun ts h0 h1 h2 => by
    have e : ts = (ts.map fun t => t.cps.toList).map S := by
      rw [List.map_map]
      conv => lhs; rw [← List.map_id ts]
      exact List.map_congr_left fun t _ => S_of t
    have e2 : joinWith [c] (ts.map fun t => t.cps.toList) = l := by
      rw [e, join_S] at h2
      exact S_inj h2
    rw [e, ← splitOn_unique (by simpa using h0) (fun p hp => by
      obtain ⟨t, ht, rfl⟩ := List.mem_map.mp hp
      exact h1 t ht) e2]
  unfold Txt.split
  split
  · rename_i h
    refine one fun m => ?_
    rw [Bool.or_eq_true, decide_eq_true_iff, decide_eq_true_iff, S_len, S_len] at h
    rcases h with h | h
    · cases l with
      | nil => simp at m
      | cons _ _ => simp at h
    · have : PySem.Builtin.Str.strKind (S [c]) = 1 := by simp [PySem.Builtin.Str.strKind, hc]
      rw [this] at h
      unfold PySem.Builtin.Str.strKind at h
      split at h <;> (try split at h) <;> omega
  · split
    · rename_i h
      refine one fun m => ?_
      obtain ⟨i, hi, e⟩ := List.getElem_of_mem m
      have := occ_mem (S l) c i (by simp [hi, e])
      rw [List.isEmpty_iff] at h
      rw [h] at this
      simp at this
    · refine big _ ?_ ?_ ?_
      · rw [StrLaws.partsBetween_eq]
        obtain ⟨p, r, e⟩ := StrLaws.partsFrom_ne (S l) (S [c]).length 0 (occurrences (S l) (S [c]) 0 (S l).length ((S l).length + 1))
        rw [e]
        simp
      · obtain ⟨f, h⟩ := StrLaws.occ_chain (S l) (S [c]) ((S l).length + 1)
        rw [StrLaws.partsBetween_eq, S_len [c]]
        exact partsFrom_free (S l) c _ 0 f h (fun i _ hi => occ_mem (S l) c i hi) (chain_sorted (S l) c _ 0 f h).1
      · obtain ⟨f, h⟩ := StrLaws.occ_chain (S l) (S [c]) ((S l).length + 1)
        rw [StrLaws.partsBetween_eq, StrLaws.join_partsFrom (S l) (S [c]) _ 0 f h, StrLaws.sub_whole]
def clipN (n : Nat) (d : Nat) : Option Int → Nat
  | none => d
  | some i => if i < 0 then (i + n).toNat else min i.toNat n
theorem sliceIdx (lo hi : Option Int) (n : Nat) : strSliceIndices lo hi 1 n = (List.range (clipN n n hi - clipN n 0 lo)).map (fun k => clipN n 0 lo + k) := by
  have clip : ∀ (v : Option Int) (d : Nat), (match v with | none => ((d : Nat) : Int) | some i => let i := if i < 0 then i + (n : Int) else i; if (1 : Int) > 0 then max 0 (min i n) else max (-1) (min i (n - 1))) = (clipN n d v : Int) := by
    intro v d
    cases v with
    | none => rfl
    | some i =>
      unfold clipN
      dsimp only
      rw [if_pos (by decide)]
      by_cases h : i < 0
      · rw [if_pos h, if_pos h]; omega
      · rw [if_neg h, if_neg h]; omega
  have e : strSliceIndices lo hi 1 n = sliceRange (clipN n 0 lo : Int) (clipN n n hi : Int) 1 := by
    rw [← clip lo 0, ← clip hi n]
    unfold strSliceIndices
    cases lo <;> cases hi <;> rfl
  rw [e]
  unfold sliceRange
  dsimp only
  rw [if_pos (by decide)]
  by_cases hlt : ((clipN n 0 lo : Nat) : Int) < (clipN n n hi : Int)
  · rw [if_pos hlt]
    have e3 : ((((clipN n n hi : Nat) : Int) - (clipN n 0 lo : Nat) + 1 - 1) / 1).toNat = clipN n n hi - clipN n 0 lo := by
      rw [Int.ediv_one]; omega
    rw [e3]
    refine List.map_congr_left fun k _ => ?_
    omega
  · rw [if_neg hlt]
    have : clipN n n hi - clipN n 0 lo = 0 := by omega
    rw [this]
    simp
theorem clipN_le {n d : Nat} (hd : d ≤ n) (v : Option Int) : clipN n d v ≤ n := by
  cases v with
  | none => exact hd
  | some i => unfold clipN; dsimp only; split <;> omega
def cut (l : List Nat) (lo hi : Option Int) : List Nat := (l.drop (clipN l.length 0 lo)).take (clipN l.length l.length hi - clipN l.length 0 lo)
theorem slice_S (l : List Nat) (lo hi : Option Int) : Txt.slice (S l) lo hi = S (cut l lo hi) := by
  have h1 := clipN_le (Nat.zero_le l.length) lo
  have h2 := clipN_le (Nat.le_refl l.length) hi
  have hp : (strSliceIndices lo hi 1 (S l).length).filterMap ((S l).cps[·]?) = cut l lo hi := by
    rw [S_len, sliceIdx]
    unfold cut
    by_cases h : clipN l.length 0 lo ≤ clipN l.length l.length hi
    · have := StrLaws.picks l (clipN l.length l.length hi - clipN l.length 0 lo) (clipN l.length 0 lo) (by omega)
      simpa using this
    · have e : clipN l.length l.length hi - clipN l.length 0 lo = 0 := by omega
      rw [e]
      simp
  unfold Txt.slice
  split
  · rename_i h
    have h3 : (strSliceIndices lo hi 1 (S l).length).length = (S l).length := by simpa using h
    rw [S_len, sliceIdx, List.length_map, List.length_range] at h3
    have e1 : clipN l.length 0 lo = 0 := by omega
    have e2 : clipN l.length l.length hi = l.length := by omega
    unfold cut
    rw [e1, e2]
    simp
  · rw [hp]
theorem clipN_nat (n d a : Nat) : clipN n d (some (a : Int)) = min a n := by
  unfold clipN
  dsimp only
  rw [if_neg (by omega), Int.toNat_natCast]
theorem clipN_none (n d : Nat) : clipN n d none = d := rfl
theorem cut_some (l : List Nat) (a b : Nat) : cut l (some (a : Int)) (some (b : Int)) = (l.drop a).take (b - a) := by
  unfold cut
  rw [clipN_nat, clipN_nat]
  by_cases h : a ≤ l.length
  · have e : min a l.length = a := by omega
    rw [e]
    by_cases h2 : b ≤ l.length
    · rw [show min b l.length = b by omega]
    · rw [show min b l.length = l.length by omega, List.take_of_length_le (by simp), List.take_of_length_le (by simp; omega)]
  · rw [List.drop_eq_nil_of_le (by omega : l.length ≤ a), List.drop_eq_nil_of_le (by omega : l.length ≤ min a l.length)]
    simp
theorem cut_from (l : List Nat) (a : Nat) : cut l (some (a : Int)) none = l.drop a := by
  unfold cut
  rw [clipN_nat, clipN_none]
  by_cases h : a ≤ l.length
  · rw [show min a l.length = a by omega]
    exact List.take_of_length_le (by simp)
  · rw [List.drop_eq_nil_of_le (by omega : l.length ≤ a), List.drop_eq_nil_of_le (by omega : l.length ≤ min a l.length)]
    simp
theorem cut_to (l : List Nat) (b : Nat) : cut l none (some (b : Int)) = l.take b := by
  unfold cut
  rw [clipN_nat, clipN_none, List.drop_zero, Nat.sub_zero]
  by_cases h : b ≤ l.length
  · rw [show min b l.length = b by omega]
  · rw [show min b l.length = l.length by omega, List.take_of_length_le (Nat.le_refl _), List.take_of_length_le (by omega)]
end Rg

set_option Elab.async false
set_option linter.all false
set_option maxRecDepth 100000
set_option maxHeartbeats 4000000
namespace K81
open PySem PySem.Spec PyProof.Rows L2 Rg
--@RAISES but law
def top (i : Nat) : Stmt := PySem.Challenge.pw_regrowth_k81_no_grammars.main.body.getD i (.Pass ⟨0, 0, 0, 0⟩)

def deedS : Nat → Str
  | 0 => "in"
  | 1 => "out"
  | _ => "row"
def manyS : Nat → Str
  | 0 => "once"
  | 1 => "maybe"
  | 2 => "some"
  | 3 => "any"
  | 4 => "ahead"
  | _ => "not"
structure Prt where
  d : Nat
  m : Nat
  l : List Nat
def Prt.dat (p : Prt) : PyData := .tuple [.str (deedS p.d), .str (S p.l), .str (manyS p.m)]
def deedOf (c : Nat) : Option Nat := if c = 64 then some 0 else if c = 94 then some 1 else if c = 61 then some 2 else none
def manyOf (c : Nat) : Option Nat := if c = 46 then some 0 else if c = 63 then some 1 else if c = 43 then some 2 else if c = 42 then some 3 else if c = 62 then some 4 else if c = 45 then some 5 else none
def rowB (m : Nat) : Bool := m == 0 || m == 4 || m == 5
def partF : List Nat → Option Prt
  | c :: c2 :: r => match deedOf c, manyOf c2 with
    | some d, some m => if d = 2 ∧ rowB m = false then none else match dec r with
      | none => none
      | some l => if 1 ≤ l.length ∧ l.length ≤ 100 then some ⟨d, m, l⟩ else none
    | _, _ => none
  | _ => none
def partsF : List (List Nat) → Option (List Prt)
  | [] => some []
  | t :: r => match partF t with
    | none => none
    | some p => (partsF r).map (p :: ·)
def wrB (c : Nat) : Bool := decide (32 ≤ c) && decide (c ≤ 126) && decide (c ≠ 37)
def formF (t : List Nat) : Option (List Prt) := if t.all wrB = true then (if (splitOn 32 t).length ≤ 12 then partsF (splitOn 32 t) else none) else none

abbrev kvDeeds : List (Str × V) := [("@", .str "in"), ("^", .str "out"), ("=", .str "row")]
abbrev kvManies : List (Str × V) := [(".", .str "once"), ("?", .str "maybe"), ("+", .str "some"), ("*", .str "any"), (">", .str "ahead"), ("-", .str "not")]
abbrev kvMeant : List (Str × V) := [("b", .str " "), ("n", .str "\n"), ("t", .str "~"), ("a", .str "abcdefghijklmnopqrstuvwxyz"), ("A", .str "ABCDEFGHIJKLMNOPQRSTUVWXYZ"), ("0", .str "0123456789")]

structure Txt (K : PySem.W.Frag) (w : World) (mg : Str → Option Value) (tD tM tR tN C : Addr) (t1 t2 t3 : Tok) : Prop where
  n_len : mg "len" = none
  n_ord : mg "ord" = none
  n_list : mg "list" = none
  n_isinstance : mg "isinstance" = none
  g_MOST_PARTS : mg "MOST_PARTS" = some (.int 12 t1)
  g_MOST_SIGNS : mg "MOST_SIGNS" = some (.int 100 t2)
  g_PERCENT : mg "PERCENT" = some (.int 37 t3)
  g_DEEDS_forms : mg "DEEDS_forms" = some (.ref tD)
  g_MANIES : mg "MANIES" = some (.ref tM)
  g_ROW_MANIES : mg "ROW_MANIES" = some (.ref tR)
  g_MEANT : mg "MEANT" = some (.ref tN)
  c_NoForm : mg "NoForm" = some (.ref C)
  x_NoForm : PySem.W.excIn K C bmVE "ValueError.__new__" = true
  k_DEEDS : KTab K w tD kvDeeds
  k_MANIES : KTab K w tM kvManies
  k_MEANT : KTab K w tN kvMeant
  k_ROW : ∀ H, SqT K H tR [.str "once", .str "ahead", .str "not"]

theorem big : (1000000 : Nat) < sizeLine := by rw [sizeLine_eq]; decide
section
variable {P : Program} {w : World} {K : PySem.W.Frag} {mg : Str → Option Value} {base : Heap} {tD tM tR tN C : Addr} {t1 t2 t3 : Tok}

def spCell (K : PySem.W.Frag) : Sp := fun vs H Q _ => ∃ (a : Addr) (ns : List Int) (k : Nat), vs = [.ref a, .int k] ∧ SqL K H a (ns.map V.int) ∧ Q (.int (ns.getD k 0)) H
abbrev st__law_cell_at : Stmt := top 39
theorem sc__law_cell_at : FnScope ["_law_script", "_law_k"] ["_law_script", "_law_k"] (defScope st__law_cell_at) := ⟨rfl, rfl, rfl, by decide +kernel, rfl, by decide +kernel, by decide +kernel⟩
theorem def_cell (R : Raw K mg "_law_cell_at" st__law_cell_at ["_law_script", "_law_k"]) (T : Txt K w mg tD tM tR tN C t1 t2 t3) : Def P w K mg base 1 "_law_cell_at" ["_law_script", "_law_k"] (spCell K) := by
  refine R.defJ sc__law_cell_at (fun vs H Q E h => ?_) (fun f cdv A outer s H vs Q E hr h => ?_)
  · obtain ⟨a, ns, k, rfl, _⟩ := h
    rfl
  · obtain ⟨a, ns, k, rfl, hS, q⟩ := h
    have sc := sc__law_cell_at
    have hu := hr.units
    refine ⟨_, (jss_cons (js_if (jt_cmp o_lt (jn 1) (j_callB (c_len (K := K)) rfl T.n_len PySem.boot_len (ja_cons (jn 0) ja_nil)))
    (jss_one (js_ret (j_ix (o_ix hu (K := K) (w := w)) (jn 0) (jn 1))))
    jss_nil)
    (jss_one (js_ret j_int))), ?_⟩
    refine ⟨_, .inl hS, ?_⟩
    rw [List.length_map]
    show if decide ((k : Int) < (ns.length : Int)) = true then _ else _
    refine ite2 (fun h => ?_) (fun h => ?_)
    · have hk : k < ns.length := by
        have := of_decide_eq_true h
        omega
      refine .inl ⟨_, .int (ns.getD k 0), hS, atI_nat ?_, q⟩
      rw [List.getElem?_map, List.getElem?_eq_getElem hk]
      simp [List.getD, hk]
    · have hk : ¬ k < ns.length := fun z => h (decide_eq_true (by omega))
      have e : ns.getD k 0 = 0 := by simp [List.getD, List.getElem?_eq_none (by omega : ns.length ≤ k)]
      rw [e] at q
      exact q

theorem joinOk_of {sep : Str} {texts : List Str} {B : Nat} (hB : ∀ y ∈ texts, y.length ≤ B) (h : texts.length * B + texts.length * sep.length ≤ 16777216) : JoinOk sep texts = true := by
  unfold JoinOk
  rw [Bool.not_eq_true']
  exact StrLaws.joinFits hB h
theorem lt1 (a b : Nat) : decide (([a] : List Nat) < [b]) = decide (a < b) := by
  rw [StrLaws.lt_cons_cons]
  by_cases h : a < b
  · simp [h]
  · simp [h]
def spMay : Sp := fun vs H Q _ => ∃ c : Nat, vs = [.str (S [c])] ∧ Q (.bl (wrB c)) H
abbrev st_may_write : Stmt := top 16
theorem sc_may_write : FnScope ["sign"] ["sign"] (defScope st_may_write) := ⟨rfl, rfl, rfl, by decide +kernel, rfl, by decide +kernel, by decide +kernel⟩
theorem def_may (R : Raw K mg "may_write" st_may_write ["sign"]) (T : Txt K w mg tD tM tR tN C t1 t2 t3) : Def P w K mg base 1 "may_write" ["sign"] spMay := by
  refine R.defJ sc_may_write (fun vs H Q E h => ?_) (fun f cdv A outer s H vs Q E hr h => ?_)
  · obtain ⟨c, rfl, _⟩ := h
    rfl
  · obtain ⟨c, rfl, q⟩ := h
    have sc := sc_may_write
    have hu := hr.units
    refine ⟨_, (jss_one (js_ret (j_and (j_chain o_le o_le j_str (jn 0) j_str) (j_one (j_cmp (o_ne hu (K := K)) (j_callB c_ord rfl T.n_ord boot_ord (ja_cons (jn 0) ja_nil)) (j_glob (v := .int 37) rfl T.g_PERCENT ⟨_, rfl⟩)))))), ?_⟩
    have e1 : (!decide ((S [c]).cps.toList < (Str.ofString " ").cps.toList)) = decide (32 ≤ c) := by
      show (!decide (([c] : List Nat) < [32])) = _
      rw [lt1]
      by_cases h : c < 32
      · rw [decide_eq_true h, decide_eq_false (by omega)]; rfl
      · rw [decide_eq_false h, decide_eq_true (by omega)]; rfl
    have e2 : (!decide ((Str.ofString "~").cps.toList < (S [c]).cps.toList)) = decide (c ≤ 126) := by
      show (!decide (([126] : List Nat) < [c])) = _
      rw [lt1]
      by_cases h : 126 < c
      · rw [decide_eq_true h, decide_eq_false (by omega)]; rfl
      · rw [decide_eq_false h, decide_eq_true (by omega)]; rfl
    unfold wrB at q
    by_cases h1 : 32 ≤ c
    · rw [decide_eq_true h1] at e1 q
      refine (if_pos e1).mpr ?_
      by_cases h2 : c ≤ 126
      · rw [decide_eq_true h2] at e2 q
        refine (if_pos e2).mpr ?_
        refine ⟨by rw [S_len]; rfl, ?_⟩
        have e3 : (true ^^ decide (((c : Nat) : Int) = 37)) = decide (c ≠ 37) := by
          by_cases h3 : c = 37
          · subst h3; decide
          · rw [decide_eq_false (by omega), decide_eq_true h3]; rfl
        have q' : Q (.bl (true ^^ decide (((c : Nat) : Int) = 37))) H := by rw [e3]; exact q
        exact q'
      · rw [decide_eq_false h2] at e2 q
        refine (if_neg (by rw [e2]; exact Bool.false_ne_true)).mpr ?_
        exact q
    · rw [decide_eq_false h1] at e1 q
      refine (if_neg (by rw [e1]; exact Bool.false_ne_true)).mpr ?_
      exact q

theorem meant_lookup {c : Nat} {m : List Nat} (h : meant c = some m) : kvMeant.lookup (S [c]) = some (.str (S m)) ∧ m.length ≤ 26 := by
  unfold meant at h
  split at h
  · rename_i e; subst e; cases h; exact ⟨by decide +kernel, by decide⟩
  · split at h
    · rename_i e; subst e; cases h; exact ⟨by decide +kernel, by decide⟩
    · split at h
      · rename_i e; subst e; cases h; exact ⟨by decide +kernel, by decide⟩
      · split at h
        · rename_i e; subst e; cases h; exact ⟨by decide +kernel, by decide⟩
        · split at h
          · rename_i e; subst e; cases h; exact ⟨by decide +kernel, by decide⟩
          · split at h
            · rename_i e; subst e; cases h; exact ⟨by decide +kernel, by decide⟩
            · cases h
theorem splitOn_len (c : Nat) : ∀ l : List Nat, (splitOn c l).length ≤ l.length + 1
  | [] => by simp [splitOn]
  | x :: r => by
    have ih := splitOn_len c r
    unfold splitOn
    split
    · simp; omega
    · split
      · simp
      · rename_i e
        rw [e] at ih
        simp at ih ⊢
        omega
theorem cutV_from1 (x : V) (xs : List V) : cutV (x :: xs) (some 1) none = xs := by
  unfold cutV
  have h1 : HT.sIx (x :: xs).length 0 (some 1) = 1 := by
    have := HT.sIx_nat (x :: xs).length 0 1
    rw [show ((1 : Nat) : Int) = 1 from rfl] at this
    rw [this]
    simp
  rw [h1, HT.sIx_none]
  simp
theorem lookup_none {c : Nat} (h : meant c = none) : kvMeant.lookup (S [c]) = none := by
  unfold meant at h
  have ne : ∀ k : Nat, c ≠ k → (S [c] == S [k]) = false := fun k hk => beq_eq_false_iff_ne.mpr fun e => hk (by simpa using S_inj e)
  split at h
  · cases h
  · rename_i n1
    split at h
    · cases h
    · rename_i n2
      split at h
      · cases h
      · rename_i n3
        split at h
        · cases h
        · rename_i n4
          split at h
          · cases h
          · rename_i n5
            split at h
            · cases h
            · rename_i n6
              show List.lookup (S [c]) [(S [98], V.str " "), (S [110], V.str "\n"), (S [116], V.str "~"), (S [97], V.str "abcdefghijklmnopqrstuvwxyz"), (S [65], V.str "ABCDEFGHIJKLMNOPQRSTUVWXYZ"), (S [48], V.str "0123456789")] = none
              rw [List.lookup_cons, ne _ n1, List.lookup_cons, ne _ n2, List.lookup_cons, ne _ n3, List.lookup_cons, ne _ n4, List.lookup_cons, ne _ n5, List.lookup_cons, ne _ n6]
              rfl
theorem splitOn_short {c : Nat} : ∀ {l p : List Nat}, p ∈ splitOn c l → p.length ≤ l.length
  | [], p, h => by simp [splitOn] at h; simp [h]
  | x :: r, p, h => by
    have ih := fun {q : List Nat} => @splitOn_short c r q
    unfold splitOn at h
    by_cases hx : x = c
    · rw [if_pos hx] at h
      rcases List.mem_cons.mp h with e | e
      · simp [e]
      · have := ih e; simp; omega
    · rw [if_neg hx] at h
      cases e : splitOn c r with
      | nil => exact absurd e (splitOn_ne c r)
      | cons q qs =>
        rw [e] at h ih
        rcases List.mem_cons.mp h with e2 | e2
        · subst e2
          have := ih (q := q) List.mem_cons_self
          simp; omega
        · have := ih (List.mem_cons_of_mem _ e2)
          simp; omega
structure Tl (t : List Nat) : Prop where
  len : t.length ≤ 2000
  sgn : ∀ c ∈ t, c < 16 ^ 8
theorem Tl.rp {t : List Nat} (h : Tl t) : (S t).length ≤ 100000 ∧ ∀ c ∈ (S t).cps.toList, c < 16 ^ 8 := ⟨by rw [S_len]; have := h.len; omega, fun c hc => h.sgn c (by simpa using hc)⟩
def spSigns (C : Addr) : Sp := fun vs H Q E => ∃ t, vs = [.str (S t)] ∧ Tl t ∧ (∀ l, dec t = some l → l.length ≤ 5000000 → ∀ H', Same H H' → Q (.str (S l)) H') ∧ (dec t = none → ∀ H', Same H H' → E (.ref C) none H')
abbrev st_signs_of : Stmt := top 18
theorem sc_signs_of : FnScope ["text", "pieces", "signs", "piece", "meant"] ["text"] (defScope st_signs_of) := ⟨rfl, rfl, rfl, by decide +kernel, rfl, by decide +kernel, by decide +kernel⟩
theorem def_signs (R : Raw K mg "signs_of" st_signs_of ["text"]) (T : Txt K w mg tD tM tR tN C t1 t2 t3) : DefX P w K mg base 1 "signs_of" ["text"] (spSigns C) := by
  refine R.defX sc_signs_of (fun vs H Q E h => ?_) (fun f cdv A outer s H vs Q E hr h => ?_)
  · obtain ⟨t, rfl, _⟩ := h
    rfl
  · obtain ⟨t, rfl, tl, q, qe⟩ := h
    have sc := sc_signs_of
    have hu := hr.units
    refine ⟨_, (jss_cons (js_set (i := 1) sc.nd rfl (Or.inl rfl) (j_bm (K := K) PySem.F.plainAttrs_str PySem.F.slot_str_split PySem.F.type_str_split m_split (jn 0) (ja_cons j_str ja_nil)))
    (jss_cons (js_set (i := 2) sc.nd rfl (Or.inl rfl) (j_ix (o_ix hu (K := K) (w := w)) (jn 1) j_int))
    (jss_cons (js_for passes_loop rfl (ji_any (K := K) (j_slice (o_sl (K := K)) (jn 1) (jo_some j_int) jo_none)) (jg_name (i := 3) sc.nd rfl (Or.inl rfl))
    (jss_cons (js_set (i := 4) sc.nd rfl (Or.inl rfl) (j_kget1 (K := K) (w := w) (j_glob (v := .ref _) rfl T.g_MEANT rfl) (j_slice (o_sl (K := K)) (jn 3) jo_none (jo_some j_int))))
    (jss_cons (js_if (jt_cmp o_is (jn 4) j_non)
    (jss_one (js_raise rfl T.c_NoForm T.x_NoForm (ja_cons (j_fs (jfs_cons jf_str (jfs_cons (jf_repr (jn 0)) jfs_nil))) ja_nil)))
    jss_nil)
    (jss_one (js_aug (i := 2) sc.nd rfl (Or.inl rfl) (j_op (o_add (K := K)) (jn 4) (j_slice (o_sl (K := K)) (jn 3) (jo_some j_int) jo_none)) o_iadd)))))
    (jss_one (js_ret (jn 2)))))), ?_⟩
    have hb := big
    have h5 : (5000000 : Nat) < sizeLine := by rw [sizeLine_eq]; decide
    have tlen := tl.len
    have e1 : Txt.split (S t) (Str.ofString "~") = (splitOn 126 t).map S := split_S t 126 (by decide)
    have hlen : (splitOn 126 t).length ≤ 2001 := by have := splitOn_len 126 t; omega
    refine ⟨rfl, by decide, by rw [S_len]; omega, by rw [e1, List.length_map]; omega, fun p hp => ?_⟩
    rw [e1]
    have hshort : ∀ pc ∈ splitOn 126 t, pc.length ≤ 2000 := fun pc hpc => Nat.le_trans (splitOn_short hpc) tlen
    have hdec : dec t = match splitOn 126 t with | [] => none | p :: ps => (decGo ps).map (p ++ ·) := rfl
    cases es : splitOn 126 t with
    | nil => exact absurd es (splitOn_ne _ _)
    | cons p0 ps =>
      rw [es] at hdec hlen hshort
      dsimp only at hdec
      have s1 : Same H (upd H p (.lst (((p0 :: ps).map S).map V.str))) := same_new hp
      have hp1 : upd H p (.lst (((p0 :: ps).map S).map V.str)) p = some (.lst (((p0 :: ps).map S).map V.str)) := upd_same
      generalize upd H p (.lst (((p0 :: ps).map S).map V.str)) = H1 at s1 hp1 ⊢
      refine .inl ⟨_, .str (S p0), SqL.of hp1, atI_nat (j := 0) rfl, ?_⟩
      refine ⟨_, SqL.of hp1, fun p2 hp2 => ?_⟩
      have ec : cutV (((p0 :: ps).map S).map V.str) (some 1) none = (ps.map S).map V.str := cutV_from1 _ _
      rw [ec]
      have s2 : Same H (upd H1 p2 (.lst ((ps.map S).map V.str))) := s1.trans (same_new hp2)
      have hp3 : upd H1 p2 (.lst ((ps.map S).map V.str)) p2 = some (.lst ((ps.map S).map V.str)) := upd_same
      generalize upd H1 p2 (.lst ((ps.map S).map V.str)) = H2 at s2 hp3 ⊢
      have lps : ps.length ≤ 2000 := by simp at hlen; omega
      refine .inl ⟨⟨_, SqL.of hp3⟩, for_list (K := K) (a := p2) (xs := (ps.map S).map V.str) (fun i σ H' => H' = H2 ∧ ∃ (acc : List Nat) (v3 v4 : Option V), σ = [some (.str (S t)), some (.ref p), some (.str (S acc)), v3, v4] ∧ dec t = (decGo (ps.drop i)).map (acc ++ ·) ∧ acc.length ≤ 2000 + i * 2026)
        ⟨rfl, p0, none, none, rfl, by rw [hdec]; rfl, by have := hshort p0 List.mem_cons_self; omega⟩ (fun i σ H' _ h => by rw [h.1]; exact SqL.of hp3) ?_ ?_⟩
      · rintro i x σ H' hi ⟨rfl, acc, v3, v4, rfl, hg, ha⟩
        rw [List.map_map, List.getElem?_map] at hi
        cases ei : ps[i]? with
        | none => rw [ei] at hi; cases hi
        | some pc =>
          rw [ei] at hi
          have ex : x = .str (S pc) := (Option.some.inj hi).symm
          subst ex
          obtain ⟨hlt, epc⟩ := List.getElem?_eq_some_iff.mp ei
          rw [List.drop_eq_getElem_cons hlt, epc] at hg
          have hpl : pc.length ≤ 2000 := hshort pc (List.mem_cons_of_mem _ (List.mem_of_getElem? ei))
          have hlenS : (S pc).length ≤ sizeLine := by rw [S_len]; omega
          have e3 : Txt.slice (S pc) none (some 1) = S (pc.take 1) := by
            rw [slice_S]
            have := cut_to pc 1
            rw [show ((1 : Nat) : Int) = 1 from rfl] at this
            rw [this]
          refine ⟨tN, kvMeant, rfl, T.k_MEANT, hlenS, _, rfl, ?_⟩
          rw [e3]
          cases pc with
          | nil =>
            have hn : dec t = none := by rw [hg]; rfl
            have hk : kvMeant.lookup (S (List.take 1 [])) = none := by decide +kernel
            rw [hk]
            exact ⟨⟨True.intro, ⟨rfl, S t, rfl, tl.rp.1, tl.rp.2⟩, True.intro⟩, fun z hz => ⟨(show 1 ≤ sizeLine by decide), qe hn _ s2⟩⟩
          | cons c r =>
            have hg' : dec t = (match meant c with | none => none | some m => (decGo (ps.drop (i + 1))).map fun t => m ++ r ++ t).map (acc ++ ·) := hg
            rw [show List.take 1 (c :: r) = [c] from rfl]
            cases em : meant c with
            | none =>
              have hn : dec t = none := by rw [hg', em]; rfl
              rw [lookup_none em]
              exact ⟨⟨True.intro, ⟨rfl, S t, rfl, tl.rp.1, tl.rp.2⟩, True.intro⟩, fun z hz => ⟨(show 1 ≤ sizeLine by decide), qe hn _ s2⟩⟩
            | some m =>
              rw [em] at hg'
              dsimp only at hg'
              obtain ⟨hk, hm⟩ := meant_lookup em
              rw [hk]
              have hr2 : r.length + 1 ≤ 2000 := by simpa using hpl
              have hi2 : i < 2000 := by omega
              refine ⟨hlenS, ?_⟩
              have e4 : Txt.slice (S (c :: r)) (some 1) none = S r := by
                rw [slice_S]
                have := cut_from (c :: r) 1
                rw [show ((1 : Nat) : Int) = 1 from rfl] at this
                rw [this]; rfl
              rw [e4]
              refine ⟨by rw [S_len, S_len]; omega, ?_⟩
              rw [S_app]
              refine ⟨by rw [S_len, S_len]; simp; omega, ?_⟩
              rw [S_app]
              refine ⟨rfl, acc ++ (m ++ r), _, _, rfl, ?_, by simp; omega⟩
              rw [hg']
              cases decGo (ps.drop (i + 1)) with
              | none => rfl
              | some rem => show some (acc ++ (m ++ r ++ rem)) = some (acc ++ (m ++ r) ++ rem); simp
      · rintro σ H' ⟨rfl, acc, v3, v4, rfl, hg, ha⟩
        rw [List.length_map, List.length_map] at ha
        rw [List.length_map, List.length_map, List.drop_length] at hg
        exact q acc (by rw [hg]; show some (acc ++ []) = _; rw [List.append_nil]) (by omega) _ s2

theorem deed_lookup (c : Nat) : (kvDeeds.lookup (S [c])).getD .non = (match deedOf c with | some d => V.str (deedS d) | none => .non) := by
  unfold deedOf
  have ne : ∀ k : Nat, c ≠ k → (S [c] == S [k]) = false := fun k hk => beq_eq_false_iff_ne.mpr fun e => hk (by simpa using S_inj e)
  by_cases h1 : c = 64
  · subst h1; decide +kernel
  · by_cases h2 : c = 94
    · subst h2; decide +kernel
    · by_cases h3 : c = 61
      · subst h3; decide +kernel
      · rw [if_neg h1, if_neg h2, if_neg h3]
        show (List.lookup (S [c]) [(S [64], V.str "in"), (S [94], V.str "out"), (S [61], V.str "row")]).getD .non = _
        rw [List.lookup_cons, ne _ h1, List.lookup_cons, ne _ h2, List.lookup_cons, ne _ h3]
        rfl
theorem many_lookup (c : Nat) : (kvManies.lookup (S [c])).getD .non = (match manyOf c with | some d => V.str (manyS d) | none => .non) := by
  unfold manyOf
  have ne : ∀ k : Nat, c ≠ k → (S [c] == S [k]) = false := fun k hk => beq_eq_false_iff_ne.mpr fun e => hk (by simpa using S_inj e)
  by_cases h1 : c = 46
  · subst h1; decide +kernel
  · by_cases h2 : c = 63
    · subst h2; decide +kernel
    · by_cases h3 : c = 43
      · subst h3; decide +kernel
      · by_cases h4 : c = 42
        · subst h4; decide +kernel
        · by_cases h5 : c = 62
          · subst h5; decide +kernel
          · by_cases h6 : c = 45
            · subst h6; decide +kernel
            · rw [if_neg h1, if_neg h2, if_neg h3, if_neg h4, if_neg h5, if_neg h6]
              show (List.lookup (S [c]) [(S [46], V.str "once"), (S [63], V.str "maybe"), (S [43], V.str "some"), (S [42], V.str "any"), (S [62], V.str "ahead"), (S [45], V.str "not")]).getD .non = _
              rw [List.lookup_cons, ne _ h1, List.lookup_cons, ne _ h2, List.lookup_cons, ne _ h3, List.lookup_cons, ne _ h4, List.lookup_cons, ne _ h5, List.lookup_cons, ne _ h6]
              rfl
theorem deedOf_lt {c d : Nat} (h : deedOf c = some d) : d < 3 := by
  unfold deedOf at h
  split at h
  · cases h; decide
  · split at h
    · cases h; decide
    · split at h
      · cases h; decide
      · cases h
theorem manyOf_lt {c d : Nat} (h : manyOf c = some d) : d < 6 := by
  unfold manyOf at h
  split at h
  · cases h; decide
  · split at h
    · cases h; decide
    · split at h
      · cases h; decide
      · split at h
        · cases h; decide
        · split at h
          · cases h; decide
          · split at h
            · cases h; decide
            · cases h
theorem Tl.drop {t : List Nat} (h : Tl t) (k : Nat) : Tl (t.drop k) := ⟨by have := h.len; rw [List.length_drop]; omega, fun c hc => h.sgn c (List.mem_of_mem_drop hc)⟩
def spPartOf (K : PySem.W.Frag) (C : Addr) : Sp := fun vs H Q E => ∃ t, vs = [.str (S t)] ∧ Tl t ∧ (∀ p, partF t = some p → ∀ r H', Same H H' → DatV K H' r p.dat → Q r H') ∧ (partF t = none → ∀ H', Same H H' → E (.ref C) none H')
theorem deed_take (t : List Nat) : (kvDeeds.lookup (S (t.take 1))).getD .non = (match t.head?.bind deedOf with | some d => V.str (deedS d) | none => .non) := by
  cases t with
  | nil => decide +kernel
  | cons c r => exact deed_lookup c
theorem many_take (t : List Nat) : (kvManies.lookup (S ((t.drop 1).take 1))).getD .non = (match (t.drop 1).head?.bind manyOf with | some d => V.str (manyS d) | none => .non) := by
  generalize t.drop 1 = t
  cases t with
  | nil => decide +kernel
  | cons c r => exact many_lookup c
theorem partF_none1 {t : List Nat} (h : t.head?.bind deedOf = none) : partF t = none := by
  match t, h with
  | [], _ => rfl
  | [_], _ => rfl
  | c :: c2 :: r, h =>
    have h' : deedOf c = none := h
    show (match deedOf c, manyOf c2 with | some d, some m => _ | _, _ => none) = none
    rw [h']
theorem partF_none2 {t : List Nat} (h : (t.drop 1).head?.bind manyOf = none) : partF t = none := by
  match t, h with
  | [], _ => rfl
  | [_], _ => rfl
  | c :: c2 :: r, h =>
    have h' : manyOf c2 = none := h
    show (match deedOf c, manyOf c2 with | some d, some m => _ | _, _ => none) = none
    rw [h']
    cases deedOf c <;> rfl
theorem partF_row {t : List Nat} {d m : Nat} (h : t.head?.bind deedOf = some d) (h2 : (t.drop 1).head?.bind manyOf = some m) (hd : d = 2) (hr : rowB m = false) : partF t = none := by
  match t, h, h2 with
  | [], h, _ => cases h
  | [_], _, h2 => cases h2
  | c :: c2 :: r, h, h2 =>
    have h' : deedOf c = some d := h
    have h2' : manyOf c2 = some m := h2
    show (match deedOf c, manyOf c2 with | some d, some m => (if d = 2 ∧ rowB m = false then none else match dec r with | none => none | some l => if 1 ≤ l.length ∧ l.length ≤ 100 then some (Prt.mk d m l) else none) | _, _ => none) = none
    rw [h', h2']
    dsimp only
    rw [if_pos ⟨hd, hr⟩]
theorem partF_main {t : List Nat} {d m : Nat} (h : t.head?.bind deedOf = some d) (h2 : (t.drop 1).head?.bind manyOf = some m) (hr : ¬ (d = 2 ∧ rowB m = false)) :
    partF t = match dec (t.drop 2) with | none => none | some l => if 1 ≤ l.length ∧ l.length ≤ 100 then some ⟨d, m, l⟩ else none := by
  match t, h, h2 with
  | [], h, _ => cases h
  | [_], _, h2 => cases h2
  | c :: c2 :: r, h, h2 =>
    have h' : deedOf c = some d := h
    have h2' : manyOf c2 = some m := h2
    show (match deedOf c, manyOf c2 with | some d, some m => (if d = 2 ∧ rowB m = false then none else match dec r with | none => none | some l => if 1 ≤ l.length ∧ l.length ≤ 100 then some (Prt.mk d m l) else none) | _, _ => none) = _
    rw [h', h2']
    dsimp only
    rw [if_neg hr]
    rfl
theorem deed_head {t : List Nat} {d : Nat} (h : t.head?.bind deedOf = some d) : d < 3 := by
  cases t with
  | nil => cases h
  | cons c r => exact deedOf_lt h
theorem many_head {t : List Nat} {d : Nat} (h : (t.drop 1).head?.bind manyOf = some d) : d < 6 := by
  generalize t.drop 1 = t at h
  cases t with
  | nil => cases h
  | cons c r => exact manyOf_lt h
theorem is_row {d : Nat} (hd : d < 3) : decide (deedS d = "row") = decide (d = 2) := by
  have h3 : d = 0 ∨ d = 1 ∨ d = 2 := by omega
  rcases h3 with rfl | rfl | rfl <;> decide +kernel
theorem in_rows {m : Nat} (hm : m < 6) : inV (.str (manyS m)) [.str "once", .str "ahead", .str "not"] = rowB m := by
  have h6 : m = 0 ∨ m = 1 ∨ m = 2 ∨ m = 3 ∨ m = 4 ∨ m = 5 := by omega
  rcases h6 with rfl | rfl | rfl | rfl | rfl | rfl <;> decide +kernel
abbrev st_part_of : Stmt := top 17
theorem sc_part_of : FnScope ["text", "deed", "many", "signs"] ["text"] (defScope st_part_of) := ⟨rfl, rfl, rfl, by decide +kernel, rfl, by decide +kernel, by decide +kernel⟩
theorem def_partOf (R : Raw K mg "part_of" st_part_of ["text"]) (T : Txt K w mg tD tM tR tN C t1 t2 t3) (D_signs_of : DefX P w K mg base 1 "signs_of" ["text"] (spSigns C)) : DefX P w K mg base 2 "part_of" ["text"] (spPartOf K C) := by
  refine R.defX sc_part_of (fun vs H Q E h => ?_) (fun f cdv A outer s H vs Q E hr h => ?_)
  · obtain ⟨p, rfl, _⟩ := h
    rfl
  · obtain ⟨t, rfl, tl, q, qe⟩ := h
    have sc := sc_part_of
    have hu := hr.units
    have hb := big
    have tlen := tl.len
    have hz : (S t).length ≤ sizeLine := by rw [S_len]; omega
    have e0 : Txt.slice (S t) none (some 1) = S (t.take 1) := by
      rw [slice_S]
      have := cut_to t 1
      rw [show ((1 : Nat) : Int) = 1 from rfl] at this
      rw [this]
    have e1 : Txt.slice (S t) (some 1) (some 2) = S ((t.drop 1).take 1) := by
      rw [slice_S]
      have := cut_some t 1 2
      rw [show ((1 : Nat) : Int) = 1 from rfl, show ((2 : Nat) : Int) = 2 from rfl] at this
      rw [this]
    have e2 : Txt.slice (S t) (some 2) none = S (t.drop 2) := by
      rw [slice_S]
      have := cut_from t 2
      rw [show ((2 : Nat) : Int) = 2 from rfl] at this
      rw [this]
    obtain ⟨u, hP, hq⟩ : ∃ u, JSs (cxOf (CX1 P w) P w K mg base ["text", "deed", "many", "signs"] "part_of" (defScope st_part_of) f cdv A outer s H E) ((defBody st_part_of).drop 4) u ∧
        ∀ d m, t.head?.bind deedOf = some d → (t.drop 1).head?.bind manyOf = some m → ¬ (d = 2 ∧ rowB m = false) → u { nx := fun _ H' => Q .non H', rt := Q } [some (.str (S t)), some (.str (deedS d)), some (.str (manyS m)), none] H := by
      refine ⟨_, (jss_cons (js_set (i := 3) sc.nd rfl (Or.inl rfl) (j_defX D_signs_of (hr.mono (by decide)) rfl (ja_cons (j_slice (o_sl (K := K)) (jn 0) (jo_some j_int) jo_none) ja_nil) pass1))
    (jss_cons (js_if (jt_not (jt_chain o_le o_le j_int (j_callB (c_len (K := K)) rfl T.n_len PySem.boot_len (ja_cons (jn 3) ja_nil)) (j_glob (v := .int 100) rfl T.g_MOST_SIGNS ⟨_, rfl⟩)))
    (jss_one (js_raise rfl T.c_NoForm T.x_NoForm (ja_cons (j_fs (jfs_cons jf_str (jfs_cons (jf_plain (j_glob (v := .int 100) rfl T.g_MOST_SIGNS ⟨_, rfl⟩)) (jfs_cons jf_str (jfs_cons (jf_repr (jn 0)) jfs_nil))))) ja_nil)))
    jss_nil)
    (jss_one (js_ret (j_tup (ja_cons (jn 1) (ja_cons (jn 3) (ja_cons (jn 2) ja_nil)))))))), fun d m hd hm hrow => ?_⟩
      have hp := partF_main hd hm hrow
      refine ⟨hz, t.drop 2, by rw [e2], tl.drop 2, fun l hl l5 H1 s1 => ?_, fun hn H1 s1 => ?_⟩
      · rw [hl] at hp
        dsimp only at hp
        have h5 : (5000000 : Nat) < sizeLine := by rw [sizeLine_eq]; decide
        have fin : ∀ (H3 : Hp), Same H H3 → partF t = some ⟨d, m, l⟩ → ∀ p3, H3 p3 = none → Q (.ref p3) (upd H3 p3 (.tup [.str (deedS d), .str (S l), .str (manyS m)])) := fun H3 s3 hs p3 hp3 =>
          q _ hs _ _ (s3.trans (same_new hp3)) (.tuple (SqT.of upd_same) (.cons (.str _) (.cons (.str _) (.cons (.str _) .nil))))
        refine ⟨by rw [S_len]; omega, ?_⟩
        by_cases h1 : 1 ≤ l.length
        · have c1 : decide ((1 : Int) ≤ ((S l).length : Nat)) = true := decide_eq_true (by rw [S_len]; omega)
          refine (if_pos c1).mpr ?_
          by_cases h2 : l.length ≤ 100
          · have c2 : (!decide (((S l).length : Int) ≤ 100)) = false := by rw [decide_eq_true (by rw [S_len]; omega)]; rfl
            refine (if_neg (by rw [c2]; exact Bool.false_ne_true)).mpr ?_
            rw [if_pos ⟨h1, h2⟩] at hp
            exact ⟨(show 3 ≤ sizeLine by decide), fun p3 hp3 => fin H1 s1 hp p3 hp3⟩
          · have c2 : (!decide (((S l).length : Int) ≤ 100)) = true := by rw [decide_eq_false (by rw [S_len]; omega)]; rfl
            refine (if_pos c2).mpr ?_
            rw [if_neg (fun z => h2 z.2)] at hp
            exact ⟨⟨True.intro, ⟨rfl, .inr ⟨100, rfl, by decide, by decide +kernel⟩⟩, True.intro, ⟨rfl, S t, rfl, tl.rp.1, tl.rp.2⟩, True.intro⟩, fun z hz => ⟨(show 1 ≤ sizeLine by decide), qe hp _ s1⟩⟩
        · have c1 : decide ((1 : Int) ≤ ((S l).length : Nat)) = false := decide_eq_false (by rw [S_len]; omega)
          refine (if_neg (by rw [c1]; exact Bool.false_ne_true)).mpr ?_
          rw [if_neg (fun z => h1 z.1)] at hp
          exact ⟨⟨True.intro, ⟨rfl, .inr ⟨100, rfl, by decide, by decide +kernel⟩⟩, True.intro, ⟨rfl, S t, rfl, tl.rp.1, tl.rp.2⟩, True.intro⟩, fun z hz => ⟨(show 1 ≤ sizeLine by decide), qe hp _ s1⟩⟩
      · rw [hn] at hp
        exact qe hp _ s1
    refine ⟨_, (jss_cons (js_set (i := 1) sc.nd rfl (Or.inl rfl) (j_kget1 (K := K) (w := w) (j_glob (v := .ref _) rfl T.g_DEEDS_forms rfl) (j_slice (o_sl (K := K)) (jn 0) jo_none (jo_some j_int))))
    (jss_cons (js_set (i := 2) sc.nd rfl (Or.inl rfl) (j_kget1 (K := K) (w := w) (j_glob (v := .ref _) rfl T.g_MANIES rfl) (j_slice (o_sl (K := K)) (jn 0) (jo_some j_int) (jo_some j_int))))
    (jss_cons (js_if (jw_t (jw_or (jt_cmp o_is (jn 1) j_non) (jw_or1 (jt_cmp o_is (jn 2) j_non))))
    (jss_one (js_raise rfl T.c_NoForm T.x_NoForm (ja_cons (j_fs (jfs_cons jf_str (jfs_cons (jf_repr (jn 0)) jfs_nil))) ja_nil)))
    jss_nil)
    (jss_cons (js_if (jw_t (jw_and (jt_cmp (o_eq hu (K := K)) (jn 1) j_str) (jw_and1 (jt_cmp (o_notin (K := K)) (jn 2) (j_glob (v := .ref _) rfl T.g_ROW_MANIES rfl)))))
    (jss_one (js_raise rfl T.c_NoForm T.x_NoForm (ja_cons (j_fs (jfs_cons jf_str (jfs_cons (jf_repr (jn 0)) jfs_nil))) ja_nil)))
    jss_nil)
    hP)))), ?_⟩
    refine ⟨tD, kvDeeds, rfl, T.k_DEEDS, hz, _, rfl, ?_⟩
    rw [e0, deed_take]
    refine ⟨tM, kvManies, rfl, T.k_MANIES, hz, _, rfl, ?_⟩
    rw [e1, many_take]
    cases hd : t.head?.bind deedOf with
    | none => exact ⟨⟨True.intro, ⟨rfl, S t, rfl, tl.rp.1, tl.rp.2⟩, True.intro⟩, fun z hz => ⟨(show 1 ≤ sizeLine by decide), qe (partF_none1 hd) _ (Same.refl H)⟩⟩
    | some d =>
      cases hm : (t.drop 1).head?.bind manyOf with
      | none => exact ⟨⟨True.intro, ⟨rfl, S t, rfl, tl.rp.1, tl.rp.2⟩, True.intro⟩, fun z hz => ⟨(show 1 ≤ sizeLine by decide), qe (partF_none2 hm) _ (Same.refl H)⟩⟩
      | some m =>
        have hd3 := deed_head hd
        have hm6 := many_head hm
        conv => whnf
        refine ite2 (fun h => ?_) (fun h => hq d m hd hm ?_)
        · have h' : (false ^^ decide (deedS d = "row")) = true := h
          rw [is_row hd3, Bool.false_xor] at h'
          have d2 : d = 2 := of_decide_eq_true h'
          refine ⟨_, .inr (T.k_ROW _), rfl, rfl, ?_⟩
          conv => whnf
          refine ite2 (fun h5 => ?_) (fun h5 => hq d m hd hm ?_)
          · have h6 : (true ^^ inV (.str (manyS m)) [.str "once", .str "ahead", .str "not"]) = true := h5
            rw [in_rows hm6] at h6
            have hr0 : rowB m = false := by cases hb : rowB m with | true => rw [hb] at h6; cases h6 | false => rfl
            exact ⟨⟨True.intro, ⟨rfl, S t, rfl, tl.rp.1, tl.rp.2⟩, True.intro⟩, fun z hz => ⟨(show 1 ≤ sizeLine by decide), qe (partF_row hd hm d2 hr0) _ (Same.refl H)⟩⟩
          · rintro ⟨_, hr0⟩
            refine h5 ?_
            show (true ^^ inV (.str (manyS m)) [.str "once", .str "ahead", .str "not"]) = true
            rw [in_rows hm6, hr0]; rfl
        · rintro ⟨d2, _⟩
          refine h ?_
          show (false ^^ decide (deedS d = "row")) = true
          rw [is_row hd3, Bool.false_xor]
          exact decide_eq_true d2

theorem partsF_snoc : ∀ {l : List (List Nat)} {ps : List Prt} {t : List Nat} {p : Prt}, partsF l = some ps → partF t = some p → partsF (l ++ [t]) = some (ps ++ [p])
  | [], ps, t, p, h, hp => by
    cases h
    show (match partF t with | none => none | some p => (some []).map (p :: ·)) = _
    rw [hp]; rfl
  | x :: r, ps, t, p, h, hp => by
    have h' : (match partF x with | none => none | some p => (partsF r).map (p :: ·)) = some ps := h
    cases hx : partF x with
    | none => rw [hx] at h'; cases h'
    | some p0 =>
      rw [hx] at h'
      dsimp only at h'
      cases hr : partsF r with
      | none => rw [hr] at h'; cases h'
      | some ps' =>
        rw [hr] at h'
        have e : p0 :: ps' = ps := Option.some.inj h'
        subst e
        show (match partF x with | none => none | some p => (partsF (r ++ [t])).map (p :: ·)) = _
        rw [hx, partsF_snoc hr hp]; rfl
theorem partsF_bad : ∀ {l : List (List Nat)} {t : List Nat}, t ∈ l → partF t = none → partsF l = none
  | x :: r, t, h, hn => by
    show (match partF x with | none => none | some p => (partsF r).map (p :: ·)) = none
    rcases List.mem_cons.mp h with e | e
    · rw [← e, hn]
    · rw [partsF_bad e hn]
      cases partF x <;> rfl
theorem splitOn_mem {c : Nat} : ∀ {l p : List Nat}, p ∈ splitOn c l → ∀ {d : Nat}, d ∈ p → d ∈ l
  | [], p, h, d, hd => by simp [splitOn] at h; rw [h] at hd; exact hd
  | x :: r, p, h, d, hd => by
    have ih := fun {q : List Nat} (hq : q ∈ splitOn c r) => @splitOn_mem c r q hq d
    unfold splitOn at h
    by_cases hx : x = c
    · rw [if_pos hx] at h
      rcases List.mem_cons.mp h with e | e
      · rw [e] at hd; cases hd
      · exact List.mem_cons_of_mem _ (ih e hd)
    · rw [if_neg hx] at h
      cases e : splitOn c r with
      | nil => exact absurd e (splitOn_ne c r)
      | cons q qs =>
        rw [e] at h ih
        rcases List.mem_cons.mp h with e2 | e2
        · subst e2
          rcases List.mem_cons.mp hd with e3 | e3
          · rw [e3]; exact List.mem_cons_self
          · exact List.mem_cons_of_mem _ (ih List.mem_cons_self e3)
        · exact List.mem_cons_of_mem _ (ih (List.mem_cons_of_mem _ e2) hd)
theorem Tl.piece {t p : List Nat} (h : Tl t) (hp : p ∈ splitOn 32 t) : Tl p := by
  refine ⟨Nat.le_trans (splitOn_short hp) h.len, fun c hc => h.sgn c ?_⟩
  exact splitOn_mem hp hc
def spFO (K : PySem.W.Frag) (C : Addr) : Sp := fun vs H Q E => ∃ t, vs = [.str (S t)] ∧ Tl t ∧ (∀ ps, formF t = some ps → ∀ a xs H', H a = none → Same H H' → H' a = some (.lst xs) → DatVs K H' xs (ps.map Prt.dat) → Q (.ref a) H') ∧
  (formF t = none → ∀ H', Same H H' → E (.ref C) none H')
abbrev st_form_of : Stmt := top 15
theorem sc_form_of : FnScope ["text", "sign", "parts"] ["text"] (defScope st_form_of) := ⟨rfl, rfl, rfl, by decide +kernel, rfl, by decide +kernel, by decide +kernel⟩
theorem def_formOf (R : Raw K mg "form_of" st_form_of ["text"]) (T : Txt K w mg tD tM tR tN C t1 t2 t3) (D_may_write : Def P w K mg base 1 "may_write" ["sign"] spMay) (D_part_of : DefX P w K mg base 2 "part_of" ["text"] (spPartOf K C)) : DefX P w K mg base 3 "form_of" ["text"] (spFO K C) := by
  refine R.defX sc_form_of (fun vs H Q E h => ?_) (fun f cdv A outer s H vs Q E hr h => ?_)
  · obtain ⟨t, rfl, _⟩ := h
    rfl
  · obtain ⟨t, rfl, tl, q, qe⟩ := h
    have sc := sc_form_of
    have hu := hr.units
    have hb := big
    have tlen := tl.len
    have esp : Txt.split (S t) (Str.ofString " ") = (splitOn 32 t).map S := split_S t 32 (by decide)
    have hsl : (splitOn 32 t).length ≤ 2001 := by have := splitOn_len 32 t; omega
    refine ⟨_, (jss_cons (js_for passes_loop rfl (ji_any (K := K) (jn 0)) (jg_name (i := 1) sc.nd rfl (Or.inl rfl))
    (jss_one (js_if (jt_not (jt_val (j_def D_may_write (hr.mono (by decide)) rfl (ja_cons (jn 1) ja_nil))))
    (jss_one (js_raise rfl T.c_NoForm T.x_NoForm (ja_cons (j_fs (jfs_cons jf_str (jfs_cons (jf_repr (jn 1)) jfs_nil))) ja_nil)))
    jss_nil)))
    (jss_cons (js_set (i := 2) sc.nd rfl (Or.inl rfl) (j_bm (K := K) PySem.F.plainAttrs_str PySem.F.slot_str_split PySem.F.type_str_split m_split (jn 0) (ja_cons j_str ja_nil)))
    (jss_cons (js_if (jt_cmp o_gt (j_callB (c_len (K := K)) rfl T.n_len PySem.boot_len (ja_cons (jn 2) ja_nil)) (j_glob (v := .int 12) rfl T.g_MOST_PARTS ⟨_, rfl⟩))
    (jss_one (js_raise rfl T.c_NoForm T.x_NoForm (ja_cons (j_fs (jfs_cons jf_str (jfs_cons (jf_plain (j_glob (v := .int 12) rfl T.g_MOST_PARTS ⟨_, rfl⟩)) (jfs_cons jf_str jfs_nil)))) ja_nil)))
    jss_nil)
    (jss_one (js_ret (j_compX exits_fn rfl rfl (N := ["part"]) (cap := [none]) rfl (CompScope.of rfl (by rfl)) (ji_any (K := K) (jn 2)) (fun _ _ _ _ => (jg_name (i := 0) (show List.Nodup [("part" : Str)] by decide +kernel) rfl (Or.inl rfl))) (fun _ _ _ _ => jts_nil) (fun _ _ _ _ => (j_defX D_part_of (hr.mono (by decide)) rfl (ja_cons (jn 0) ja_nil) passes_comp)))))))), ?_⟩
    refine for_str (x := S t) (fun i σ H' => H' = H ∧ (t.take i).all wrB = true ∧ ∃ v : Option V, σ = [some (.str (S t)), v, none]) ⟨rfl, rfl, none, rfl⟩ ?_ ?_
    · rintro i c σ H' hi ⟨rfl, ha, v, rfl⟩
      have hc' : t[i]? = some c := by simpa using hi
      have hc : c ∈ t := List.mem_of_getElem? hc'
      refine ⟨c, rfl, ?_⟩
      cases hw : wrB c with
      | true =>
        refine ⟨rfl, ?_, _, rfl⟩
        rw [List.take_add_one, hc', List.all_append, ha]
        show (true && (wrB c && true)) = true
        rw [hw]; rfl
      | false =>
        have hn : formF t = none := by
          unfold formF
          rw [if_neg (fun z => by have := List.all_eq_true.mp z c hc; rw [hw] at this; cases this)]
        exact ⟨⟨True.intro, ⟨rfl, S [c], rfl, (show 1 ≤ 100000 by decide), fun d hd => by
          have e : d = c := by simpa using hd
          rw [e]; exact tl.sgn c hc⟩, True.intro⟩, fun z hz => ⟨(show 1 ≤ sizeLine by decide), qe hn _ (Same.refl H')⟩⟩
    · rintro σ H' ⟨rfl, ha, v, rfl⟩
      have hall : t.all wrB = true := by
        have et : t.take (S t).cps.size = t := List.take_of_length_le (by simp)
        rw [et] at ha; exact ha
      refine ⟨rfl, by decide, by rw [S_len]; omega, by rw [esp, List.length_map]; omega, fun p hp => ?_⟩
      rw [esp]
      have s1 : Same H' (upd H' p (.lst (((splitOn 32 t).map S).map V.str))) := same_new hp
      have hp1 : upd H' p (.lst (((splitOn 32 t).map S).map V.str)) p = some (.lst (((splitOn 32 t).map S).map V.str)) := upd_same
      generalize upd H' p (.lst (((splitOn 32 t).map S).map V.str)) = H1 at s1 hp1 ⊢
      refine ⟨_, .inl (SqL.of hp1), ?_⟩
      rw [List.length_map, List.length_map]
      conv => whnf
      refine ite2 (fun h => ?_) (fun h => ?_)
      · have h' := of_decide_eq_true h
        have h'' : (12 : Int) < ((splitOn 32 t).length : Nat) := h'
        have hn : formF t = none := by
          unfold formF
          rw [if_pos hall, if_neg (by omega)]
        exact ⟨⟨True.intro, ⟨rfl, .inr ⟨12, rfl, by decide, by decide +kernel⟩⟩, True.intro, True.intro⟩, fun z hz => ⟨(show 1 ≤ sizeLine by decide), qe hn _ s1⟩⟩
      have h12 : (splitOn 32 t).length ≤ 12 := by
        have h' : ¬ (12 : Int) < ((splitOn 32 t).length : Nat) := fun z => h (decide_eq_true z)
        omega
      have hform : formF t = partsF (splitOn 32 t) := by unfold formF; rw [if_pos hall, if_pos h12]
      refine .inl ⟨⟨_, SqL.of hp1⟩, ?_⟩
      refine gath_list (xs := ((splitOn 32 t).map S).map V.str) (fun i ys σ' H2 => Same H1 H2 ∧ ∃ (ps : List Prt) (v1 : Option V), partsF ((splitOn 32 t).take i) = some ps ∧ ps.length ≤ i ∧ DatVs K H2 ys (ps.map Prt.dat) ∧ σ' = [v1]) (by rw [List.length_map, List.length_map]; omega) ⟨Same.refl H1, [], none, rfl, by simp, .nil, rfl⟩
        (fun i ys σ' H2 h => by obtain ⟨_, ps, v1, _, hl, hd, _⟩ := h; have := hd.length; simp at this; omega) (fun i ys σ' H2 h => h.1.seq (SqL.of hp1)) ?_ ?_
      · rintro i x ys σ' H2 hi ⟨s2, ps, v1, hps, hl, hd, rfl⟩
        rw [List.map_map, List.getElem?_map] at hi
        cases ep : (splitOn 32 t)[i]? with
        | none => rw [ep] at hi; cases hi
        | some pc =>
          rw [ep] at hi
          have ex : x = .str (S pc) := (Option.some.inj hi).symm
          subst ex
          have hm := List.mem_of_getElem? ep
          refine ⟨pc, rfl, tl.piece hm, fun pp hpp r H3 s3 hr2 => ?_, fun hn H3 s3 => ?_⟩
          · refine ⟨s2.trans s3, ps ++ [pp], _, ?_, by simp; omega, ?_, rfl⟩
            · rw [List.take_add_one, ep]; exact partsF_snoc hps hpp
            · rw [List.map_append]; exact DatVs.snoc hr2 (hd.same s3)
          · exact qe (by rw [hform]; exact partsF_bad hm hn) _ ((s1.trans s2).trans s3)
      · rintro ys σ' H2 ⟨s2, ps, v1, hps, hl, hd, rfl⟩ D hD
        rw [List.length_map, List.length_map, List.take_length] at hps
        have hDH : H' D = none := by
          cases z : H' D with
          | none => rfl
          | some u => rw [(s1.trans s2) _ _ z] at hD; cases hD
        exact q ps (by rw [hform]; exact hps) D ys _ hDH ((s1.trans s2).trans (same_new hD)) upd_same (hd.same (same_new hD))
end
end K81

set_option Elab.async false
set_option linter.all false
namespace Rg
open PySem PySem.Spec PyProof.Rows L2
def low (l : List Nat) : Prop := ∀ c ∈ l, c < 0x110000
theorem tx_dat {K : PySem.W.Frag} {H : Hp} : ∀ ks : List (List Nat), DatVs K H (ks.map fun k => V.str (S k)) (ks.map fun k => PyData.str (S k))
  | [] => .nil
  | k :: r => .cons (.str _) (tx_dat r)
theorem tx_deep : ∀ ks : List (List Nat), PyData.depthAll (ks.map fun k => PyData.str (S k)) ≤ 2
  | [] => by simp only [List.map_nil, PyData.depthAll]; omega
  | k :: r => by
    have ih := tx_deep r
    rw [List.map_cons]
    simp only [PyData.depthAll, PyData.depth]
    omega
theorem eqS_iff {l m : List Nat} : decide ((S l : Str) = S m) = (l == m) := by
  by_cases h : l = m
  · rw [h, decide_eq_true rfl]; simp
  · rw [decide_eq_false fun z => h (S_inj z)]
    exact (Bool.eq_false_iff.mpr fun z => h (beq_iff_eq.mp z)).symm
end Rg

set_option Elab.async false
set_option linter.all false
set_option maxRecDepth 100000
set_option maxHeartbeats 4000000
namespace L2
open PySem PySem.Spec PyProof.Rows
section
variable {X : Cx} {K : PySem.W.Frag} {e : Expr} {te : TE} {pos : Pos}
def cReprD (K : PySem.W.Frag) (te : TE) : St → Hp → Prop := fun σ H => te σ H fun v H1 => H1 = H ∧ ∃ a d, v = .ref a ∧ DatV K H v d ∧ d.showable = true ∧ d.hasDict = false ∧ d.depth ≤ 60 ∧ d.shown.length ≤ 1100000
theorem jf_reprD (hg : X.A.guards = some []) (hu : X.A.units + 64 < cLine) (he : JE X e te) (hK : X.K = K := by rfl) : JF X (.FormattedValue e 114 none pos) (cReprD K te) := by
  subst hK
  refine .mk ?_
  intro pins s σ H I h
  refine wpAny_FormattedValue_repr (thn (he.out pins s σ H _ I h) fun u s1 ⟨v, H1, I1, r1, e1, a, d, ev, hd, hs, hn, hp, hl⟩ => ?_)
  subst e1 ev
  obtain ⟨as, ra⟩ := hd.reads I1 r1
  cases r1
  have hz := size12 (Nat.le_trans hl (show 1100000 ≤ 12 * 1100000 by omega))
  refine pyReprObj_of_reads ra hs (fun z => by rw [hn] at z; cases z) hg (by omega) (fun _ _ e => e) (fun h' t tk hk => ?_) hz
  refine wpAny_formatField_str ⟨_, _, rfl, hl, I1.kept hk⟩ ⟨_, _, rfl, hl, ?_⟩ hz
  exact (I1.kept (t' := tk) hk).tok _
end
end L2
namespace L2
open PySem PySem.Spec PyProof.Rows
section
variable {X : Cx} {K : PySem.W.Frag}
end
end L2
namespace L2
open PySem PySem.Spec PyProof.Rows
theorem piled_le : ∀ (ts : List Str) (B : Nat), (∀ t ∈ ts, t.length ≤ B) → piled ts ≤ ts.length * (B + 2)
  | [], B, _ => by simp [piled]
  | t :: r, B, h => by
    have ih := piled_le r B fun x hx => h x (List.mem_cons_of_mem _ hx)
    have h1 := h t List.mem_cons_self
    rw [piled_cons, List.length_cons, Nat.add_mul, Nat.one_mul]
    omega
end L2
namespace L2
open PySem PySem.Spec PyProof.Rows
section
variable {cap : List (Option Nat)} {g : TG} {tc : TT} {te : TE} {Q : Addr → Hp → Prop} {σ : St} {H : Hp}
end
end L2

set_option Elab.async false
set_option linter.all false
set_option maxRecDepth 100000
set_option maxHeartbeats 4000000





--@RAISES but law
namespace K81
open PySem PySem.Spec PyProof.Rows L2 Rg
abbrev W := List Nat
def azB (c : Nat) : Bool := decide (97 ≤ c) && decide (c ≤ 122)
def isKF (l : W) : Bool := decide (1 ≤ l.length) && decide (l.length ≤ 12) && l.all azB && !(l == [101, 110, 100] || l == [115, 116, 114, 97, 121])
def dgB (c : Nat) : Bool := decide (48 ≤ c) && decide (c ≤ 57)
def rankB (l : W) : Bool := l.all dgB && (decide (l.length = 1) || (decide (l.length = 2) && !(l.take 1 == [48])))
def bareF (t : W) : W := if t.take 1 = [63] ∨ t.take 1 = [33] then t.drop 1 else t
def placesF (c : Nat) : Nat → List W → List Nat
  | _, [] => []
  | i, t :: r => if t.take 1 = [c] then i :: placesF c (i + 1) r else placesF c (i + 1) r
structure WsOk (ws : List W) : Prop where
  n : ws.length ≤ 60
  w : ∀ t ∈ ws, t.length ≤ 200 ∧ low t
theorem WsOk.getD {ws : List W} (h : WsOk ws) (k : Nat) : (ws.getD k []).length ≤ 200 ∧ low (ws.getD k []) := by
  rw [List.getD]
  cases e : ws[k]? with
  | none => exact ⟨Nat.zero_le _, fun c hc => by cases hc⟩
  | some t => exact h.w t (List.mem_of_getElem? e)
theorem lowc {l : List Nat} (h : low l) : ∀ c ∈ (S l).cps.toList, c < 16 ^ 8 := fun c hc => by
  have := h c (by simpa using hc)
  omega
theorem rep_ok {l : W} (h : l.length ≤ 200 ∧ low l) : ∃ x, V.str (S l) = V.str x ∧ x.length ≤ 100000 ∧ ∀ c ∈ x.cps.toList, c < 16 ^ 8 := ⟨_, rfl, by rw [S_len]; omega, lowc h.2⟩
theorem shown_txt : ∀ (ks : List (List Nat)), PyData.shownAll (ks.map fun k => PyData.str (S k)) = ks.map fun k => reprText (S k)
  | [] => by simp [PyData.shownAll]
  | k :: r => by rw [List.map_cons, PyData.shownAll, shown_txt r, PyData.shown]; rfl
theorem show_txt : ∀ (ks : List (List Nat)), PyData.showableAll (ks.map fun k => PyData.str (S k)) = true
  | [] => by simp [PyData.showableAll]
  | k :: r => by rw [List.map_cons, PyData.showableAll, show_txt r, PyData.showable]; rfl
theorem nodict_txt : ∀ (ks : List (List Nat)), PyData.hasDictAll (ks.map fun k => PyData.str (S k)) = false
  | [] => by simp [PyData.hasDictAll]
  | k :: r => by rw [List.map_cons, PyData.hasDictAll, nodict_txt r, PyData.hasDict]; rfl
theorem listT_le {ts : List Str} {B : Nat} (h : ∀ t ∈ ts, t.length ≤ B) : (listText ts).length ≤ ts.length * (B + 2) + 2 := by
  cases ts with
  | nil => exact Nat.le_trans (show (listText []).length ≤ 2 by decide) (by simp)
  | cons t r =>
    have h2 := piled_le (t :: r) B h
    have h3 := textFrom_length_pos r 1 (("[" : Str) ++ (if (0 : Nat) > 0 then ", " else "" : String) ++ t) (Nat.succ_pos 0)
    have e : ((("[" : Str) ++ (if (0 : Nat) > 0 then ", " else "" : String) ++ t)).length = 1 + t.length := by
      rw [strLen_append, strLen_append]; rfl
    have hX : (listText (t :: r)).length = (textFrom 1 (("[" : Str) ++ (if (0 : Nat) > 0 then ", " else "" : String) ++ t) r).length + 1 := by
      show (textFrom 0 "[" (t :: r) ++ "]").length = _
      rw [strLen_append]; rfl
    rw [piled_cons] at h2
    rw [hX, h3, e]
    omega
section
variable {P : Program} {w : World} {K : PySem.W.Frag} {mg : Str → Option Value} {base : Heap} {aN aD aS CR : Addr}
theorem rep_words {H : Hp} {a : Addr} {ws : List W} (h : WsOk ws) (hS : SqL K H a (ws.map fun t => V.str (S t))) : ∃ b d, V.ref a = V.ref b ∧ DatV K H (.ref a) d ∧ d.showable = true ∧ d.hasDict = false ∧ d.depth ≤ 60 ∧ d.shown.length ≤ 1100000 := by
  have dp := tx_deep ws
  refine ⟨a, _, rfl, .list hS (tx_dat ws), by rw [PyData.showable]; exact show_txt _, by rw [PyData.hasDict]; exact nodict_txt _, by simp only [PyData.depth]; omega, ?_⟩
  rw [PyData.shown, shown_txt]
  refine Nat.le_trans (listT_le (B := 2002) fun t ht => ?_) ?_
  · obtain ⟨k, hk, rfl⟩ := List.mem_map.mp ht
    obtain ⟨h1, h2⟩ := h.w k hk
    have h3 := StrLaws.reprText_len (S k) (lowc h2)
    have h4 : (S k).length = k.length := S_len k
    exact Nat.le_trans h3 (by omega)
  · rw [List.length_map]
    have := h.n
    omega
structure Txt2 (K : PySem.W.Frag) (w : World) (mg : Str → Option Value) (aN aD aS CR : Addr) : Prop where
  n_len : mg "len" = none
  n_range : mg "range" = none
  n_int : mg "int" = none
  n_tuple : mg "tuple" = none
  n_list : mg "list" = none
  n_all : mg "all" = none
  n_any : mg "any" = none
  n_enumerate : mg "enumerate" = none
  n_zip : mg "zip" = none
  n_min : mg "min" = none
  n_max : mg "max" = none
  g_GAP : ∃ t, mg "GAP" = some (.str "" t)
  g_MOST_FORMS : ∃ t, mg "MOST_FORMS" = some (.int 24 t)
  g_MOST_ENDS : ∃ t, mg "MOST_ENDS" = some (.int 24 t)
  g_MOST_LETTERS : ∃ t, mg "MOST_LETTERS" = some (.int 12 t)
  g_NO_KINDS : mg "NO_KINDS" = some (.ref aN)
  g_DEEDS_grammars : mg "DEEDS_grammars" = some (.ref aD)
  g_SIDES : mg "SIDES" = some (.ref aS)
  k_NO : ∀ H, SqT K H aN [.str "end", .str "stray"]
  k_DE : ∀ H, SqT K H aD [.str "stop", .str "open", .str "close"]
  k_SI : ∀ H, SqT K H aS [.str "left", .str "right", .str "none"]
  c_NoRow : mg "NoRow" = some (.ref CR)
  x_NoRow : PySem.W.excIn K CR bmVE "ValueError.__new__" = true
theorem leB (c d : Nat) : (!decide ((S [d]).cps.toList < (S [c]).cps.toList)) = decide (c ≤ d) := by
  show (!decide (([d] : List Nat) < [c])) = _
  rw [lt1]
  by_cases h : c ≤ d
  · rw [decide_eq_true h, decide_eq_false (by omega)]; rfl
  · rw [decide_eq_false h, decide_eq_true (by omega)]; rfl
theorem beqS {l m : List Nat} : ((S l : Str) == S m) = (l == m) := by
  rw [← eqS_iff]
  by_cases h : (S l : Str) = S m
  · rw [decide_eq_true h]; exact beq_iff_eq.mpr h
  · rw [decide_eq_false h]; exact Bool.eq_false_iff.mpr fun z => h (beq_iff_eq.mp z)
theorem beqC {l m : List Nat} : (l == m) = (m == l) := by
  by_cases h : l = m
  · rw [h]
  · rw [Bool.eq_false_iff.mpr fun z => h (beq_iff_eq.mp z), Bool.eq_false_iff.mpr fun z => h (beq_iff_eq.mp z).symm]
theorem bls_app (bs : List Bool) (b : Bool) : bls bs ++ [V.bl b] = bls (bs ++ [b]) := by unfold bls; rw [List.map_append]; rfl
theorem bls_len (bs : List Bool) : (bls bs).length = bs.length := by unfold bls; simp
theorem all_map {α : Type} (g : α → Bool) (l : List α) : (l.map g).all id = l.all g := by induction l with
  | nil => rfl
  | cons x r ih => rw [List.map_cons, List.all_cons, List.all_cons, ih]; rfl
theorem any_map {α : Type} (g : α → Bool) (l : List α) : (l.map g).any id = l.any g := by induction l with
  | nil => rfl
  | cons x r ih => rw [List.map_cons, List.any_cons, List.any_cons, ih]; rfl
def spIsK : Sp := fun vs H Q _ => ∃ l : List Nat, vs = [.str (S l)] ∧ l.length ≤ 200 ∧ ∀ H', Same H H' → Q (.bl (isKF l)) H'
abbrev st_is_kind : Stmt := top 29
theorem sc_is_kind : FnScope ["word"] ["word"] (defScope st_is_kind) := ⟨rfl, rfl, rfl, by decide +kernel, rfl, by decide +kernel, by decide +kernel⟩
theorem def_isK (R : Raw K mg "is_kind" st_is_kind ["word"]) (T : Txt2 K w mg aN aD aS CR) : Def P w K mg base 1 "is_kind" ["word"] spIsK := by
  refine R.defJ sc_is_kind (fun vs H Q E h => ?_) (fun f cdv A outer s H vs Q E hr h => ?_)
  · obtain ⟨l, rfl, _⟩ := h
    rfl
  · obtain ⟨l, rfl, hl, q⟩ := h
    have sc := sc_is_kind
    have hu := hr.units
    have hb := big
    have no : isKF l = false → ∀ H', Same H H' → Q (.bl false) H' := fun e H' s' => by rw [← e]; exact q H' s'
    refine ⟨_, (jss_one (js_ret (j_and (j_chain o_le o_le j_int (j_callB (c_len (K := K)) rfl T.n_len PySem.boot_len (ja_cons (jn 0) ja_nil)) (j_gint rfl T.g_MOST_LETTERS)) (j_and (j_callB (c_all rfl (K := K)) rfl T.n_all boot_all (ja_cons (j_comp (N := ["sign"]) (cap := [none]) rfl (CompScope.of rfl (by rfl)) (ji_any (K := K) (jn 0)) (fun _ _ _ _ => (jg_name (i := 0) (show List.Nodup [("sign" : Str)] by decide +kernel) rfl (Or.inl rfl))) (fun _ _ _ _ => jts_nil) (fun _ _ _ _ => (j_chain o_le o_le j_str (jn 0) j_str))) ja_nil)) (j_one (j_cmp (o_notinA hu (K := K)) (jn 0) (j_glob (v := .ref _) rfl T.g_NO_KINDS rfl))))))), ?_⟩
    refine ⟨by rw [S_len]; omega, ?_⟩
    rw [S_len]
    show if decide ((1 : Int) ≤ ((l.length : Nat) : Int)) = true then _ else _
    refine ite2 (fun h1 => ?_) (fun h1 => ?_)
    · have k1 : 1 ≤ l.length := by have := of_decide_eq_true h1; omega
      show if decide (((l.length : Nat) : Int) ≤ 12) = true then _ else _
      refine ite2 (fun h2 => ?_) (fun h2 => ?_)
      · have k2 : l.length ≤ 12 := by have := of_decide_eq_true h2; omega
        refine gath_str (x := S l) (fun i ys σ' H' => H' = H ∧ ys = bls ((l.take i).map azB) ∧ ∃ v, σ' = [v]) (by show l.toArray.size ≤ _; simp; omega) ⟨rfl, rfl, none, rfl⟩ (fun i ys σ' H' h => by rw [h.2.1, bls_len, List.length_map, List.length_take]; omega) ?_ ?_
        · rintro i c ys σ' H' hi ⟨rfl, rfl, v, rfl⟩
          have ec : l[i]? = some c := by simpa using hi
          have et : l.take (i + 1) = l.take i ++ [c] := by rw [List.take_add_one, ec]; rfl
          show if (!decide ((S [c]).cps.toList < (S [97]).cps.toList)) = true then _ else _
          rw [leB]
          refine ite2 (fun z => ?_) (fun z => ?_)
          · refine ⟨rfl, ?_, _, rfl⟩
            show bls ((l.take i).map azB) ++ [V.bl (!decide ((S [122]).cps.toList < (S [c]).cps.toList))] = _
            rw [leB, bls_app, et, List.map_append]
            unfold azB
            rw [List.map_cons, z]; rfl
          · refine ⟨rfl, ?_, _, rfl⟩
            rw [bls_app, et, List.map_append]
            unfold azB
            rw [List.map_cons, Bool.eq_false_iff.mpr z]; rfl
        · rintro ys σ' H' ⟨rfl, rfl, v, rfl⟩ D hD
          have es : l.take (S l).cps.size = l := by show l.take l.toArray.size = l; simp
          rw [es]
          refine ⟨l.map azB, SqL.of upd_same, ?_⟩
          rw [all_map]
          have s1 : Same H' (upd H' D (.lst (bls (l.map azB)))) := same_new hD
          generalize upd H' D (.lst (bls (l.map azB))) = H1 at s1 ⊢
          show if l.all azB = true then _ else _
          refine ite2 (fun h3 => ?_) (fun h3 => ?_)
          · refine .inl ⟨_, .inr (T.k_NO _), rfl, rfl, ?_⟩
            have e : (true ^^ inV (.str (S l)) [.str "end", .str "stray"]) = isKF l := by
              show (true ^^ (((S [101, 110, 100] : Str) == S l) || (((S [115, 116, 114, 97, 121] : Str) == S l) || false))) = _
              rw [beqS, beqS, Bool.or_false, Bool.true_xor, beqC (l := [101, 110, 100]), beqC (l := [115, 116, 114, 97, 121])]
              unfold isKF
              rw [decide_eq_true k1, decide_eq_true k2, h3]; rfl
            exact Eq.mpr (congrArg (fun z => Q (.bl z) _) e) (q _ s1)
          · refine no ?_ _ s1
            unfold isKF
            rw [Bool.eq_false_iff.mpr h3]; simp
      · refine no ?_ _ (Same.refl _)
        have k2 : ¬ l.length ≤ 12 := fun z => h2 (decide_eq_true (by omega))
        unfold isKF
        rw [decide_eq_false k2]; simp
    · refine no ?_ _ (Same.refl _)
      have k1 : ¬ 1 ≤ l.length := fun z => h1 (decide_eq_true (by omega))
      unfold isKF
      rw [decide_eq_false k1]; simp
def spKA (K : PySem.W.Frag) (CR : Addr) : Sp := fun vs H Q E => ∃ (a : Addr) (ws : List W) (k : Nat), vs = [.ref a, .int (k : Nat)] ∧ SqL K H a (ws.map fun t => V.str (S t)) ∧ WsOk ws ∧
  (isKF (ws.getD k []) = true → ∀ H', Same H H' → Q (.str (S (ws.getD k []))) H') ∧ (isKF (ws.getD k []) = false → ∀ H', E (.ref CR) none H')
abbrev st_kind_at : Stmt := top 28
theorem sc_kind_at : FnScope ["words", "place", "word"] ["words", "place"] (defScope st_kind_at) := ⟨rfl, rfl, rfl, by decide +kernel, rfl, by decide +kernel, by decide +kernel⟩
theorem def_kAt (R : Raw K mg "kind_at" st_kind_at ["words", "place"]) (T : Txt2 K w mg aN aD aS CR) (D_is_kind : Def P w K mg base 1 "is_kind" ["word"] spIsK) : DefX P w K mg base 2 "kind_at" ["words", "place"] (spKA K CR) := by
  refine R.defX sc_kind_at (fun vs H Q E h => ?_) (fun f cdv A outer s H vs Q E hr h => ?_)
  · obtain ⟨a, ws, k, rfl, _⟩ := h
    rfl
  · obtain ⟨a, ws, k, rfl, hS, ok, qO, qX⟩ := h
    have sc := sc_kind_at
    have hu := hr.units
    have hg := ok.getD k
    obtain ⟨u1, hP1, hq1⟩ : ∃ u, JSs (cxOf (CX1 P w) P w K mg base ["words", "place", "word"] "kind_at" (defScope st_kind_at) f cdv A outer s H E) ((defBody st_kind_at).drop 1) u ∧
        u { nx := fun _ H' => Q .non H', rt := Q } [some (.ref a), some (.int (k : Nat)), some (.str (S (ws.getD k [])))] H := by
      refine ⟨_, (jss_cons (js_if (jt_not (jt_val (j_def D_is_kind (hr.mono (by decide)) rfl (ja_cons (jn 2) ja_nil))))
    (jss_one (js_raise rfl T.c_NoRow T.x_NoRow (ja_cons (j_fs (jfs_cons jf_str (jfs_cons (jf_repr (jn 2)) jfs_nil))) ja_nil)))
    jss_nil)
    (jss_one (js_ret (jn 2)))), ?_⟩
      refine ⟨_, rfl, hg.1, fun H1 s1 => ?_⟩
      cases e : isKF (ws.getD k []) with
      | true => exact qO e H1 s1
      | false => exact ⟨⟨trivial, ⟨rfl, rep_ok hg⟩, trivial⟩, fun y _ => ⟨(show 1 ≤ sizeLine by decide), qX e _⟩⟩
    refine ⟨_, (jss_cons (js_set (i := 2) sc.nd rfl (Or.inl rfl) (j_ife (jt_cmp o_lt (jn 1) (j_callB (c_len (K := K)) rfl T.n_len PySem.boot_len (ja_cons (jn 0) ja_nil))) (j_ix (o_ix hu (K := K) (w := w)) (jn 0) (jn 1)) j_str))
    hP1), ?_⟩
    refine ⟨_, .inl hS, ?_⟩
    rw [List.length_map]
    show if decide (((k : Nat) : Int) < ((ws.length : Nat) : Int)) = true then _ else _
    refine ite2 (fun h => ?_) (fun h => ?_)
    · have hk : k < ws.length := by have := of_decide_eq_true h; omega
      have eg : (ws.map fun t => V.str (S t))[k]? = some (V.str (S (ws.getD k []))) := by rw [List.getElem?_map, List.getD, List.getElem?_eq_getElem hk]; rfl
      exact .inl ⟨_, _, hS, atI_nat eg, hq1⟩
    · have hk : ¬ k < ws.length := fun z => h (decide_eq_true (by omega))
      have e : ws.getD k [] = [] := by rw [List.getD, List.getElem?_eq_none (by omega)]; rfl
      rw [e] at hq1
      exact hq1
def spRank : Sp := fun vs H Q _ => ∃ l : W, vs = [.str (S l)] ∧ l.length ≤ 200 ∧ ∀ H', Same H H' → Q (.bl (rankB l)) H'
abbrev st_is_rank : Stmt := top 33
theorem sc_is_rank : FnScope ["word"] ["word"] (defScope st_is_rank) := ⟨rfl, rfl, rfl, by decide +kernel, rfl, by decide +kernel, by decide +kernel⟩
theorem def_rank (R : Raw K mg "is_rank" st_is_rank ["word"]) (T : Txt2 K w mg aN aD aS CR) : Def P w K mg base 1 "is_rank" ["word"] spRank := by
  refine R.defJ sc_is_rank (fun vs H Q E h => ?_) (fun f cdv A outer s H vs Q E hr h => ?_)
  · obtain ⟨l, rfl, _⟩ := h
    rfl
  · obtain ⟨l, rfl, hl, q⟩ := h
    have sc := sc_is_rank
    have hu := hr.units
    have hb := big
    refine ⟨_, (jss_cons (js_if (jt_not (jt_val (j_callB (c_all rfl (K := K)) rfl T.n_all boot_all (ja_cons (j_comp (N := ["sign"]) (cap := [none]) rfl (CompScope.of rfl (by rfl)) (ji_any (K := K) (jn 0)) (fun _ _ _ _ => (jg_name (i := 0) (show List.Nodup [("sign" : Str)] by decide +kernel) rfl (Or.inl rfl))) (fun _ _ _ _ => jts_nil) (fun _ _ _ _ => (j_chain o_le o_le j_str (jn 0) j_str))) ja_nil))))
    (jss_one (js_ret j_bl))
    jss_nil)
    (jss_one (js_ret (j_or (j_cmp (o_eq hu (K := K)) (j_callB (c_len (K := K)) rfl T.n_len PySem.boot_len (ja_cons (jn 0) ja_nil)) j_int) (j_one (j_and (j_cmp (o_eq hu (K := K)) (j_callB (c_len (K := K)) rfl T.n_len PySem.boot_len (ja_cons (jn 0) ja_nil)) j_int) (j_one (j_cmp (o_ne hu (K := K)) (j_ix (o_ix hu (K := K) (w := w)) (jn 0) j_int) j_str)))))))), ?_⟩
    refine gath_str (x := S l) (fun i ys σ' H' => H' = H ∧ ys = bls ((l.take i).map dgB) ∧ ∃ v, σ' = [v]) (by show l.toArray.size ≤ _; simp; omega) ⟨rfl, rfl, none, rfl⟩ (fun i ys σ' H' h => by rw [h.2.1, bls_len, List.length_map, List.length_take]; omega) ?_ ?_
    · rintro i c ys σ' H' hi ⟨rfl, rfl, v, rfl⟩
      have ec : l[i]? = some c := by simpa using hi
      have et : l.take (i + 1) = l.take i ++ [c] := by rw [List.take_add_one, ec]; rfl
      show if (!decide ((S [c]).cps.toList < (S [48]).cps.toList)) = true then _ else _
      rw [leB]
      refine ite2 (fun z => ?_) (fun z => ?_)
      · refine ⟨rfl, ?_, _, rfl⟩
        show bls ((l.take i).map dgB) ++ [V.bl (!decide ((S [57]).cps.toList < (S [c]).cps.toList))] = _
        rw [leB, bls_app, et, List.map_append]
        unfold dgB
        rw [List.map_cons, z]; rfl
      · refine ⟨rfl, ?_, _, rfl⟩
        rw [bls_app, et, List.map_append]
        unfold dgB
        rw [List.map_cons, Bool.eq_false_iff.mpr z]; rfl
    · rintro ys σ' H' ⟨rfl, rfl, v, rfl⟩ D hD
      have es : l.take (S l).cps.size = l := by show l.take l.toArray.size = l; simp
      rw [es]
      refine ⟨l.map dgB, SqL.of upd_same, ?_⟩
      rw [all_map]
      have s1 : Same H' (upd H' D (.lst (bls (l.map dgB)))) := same_new hD
      generalize upd H' D (.lst (bls (l.map dgB))) = H1 at s1 ⊢
      have q1 := q H1 s1
      show if (!(l.all dgB)) = true then _ else _
      refine ite2 (fun h3 => ?_) (fun h3 => ?_)
      · have e : rankB l = false := by
          unfold rankB
          cases z : l.all dgB with
          | true => rw [z] at h3; cases h3
          | false => rfl
        rw [e] at q1
        exact q1
      · have h3' : l.all dgB = true := by
          cases z : l.all dgB with
          | true => rfl
          | false => exact absurd (by rw [z]; rfl) h3
        refine ⟨by rw [S_len]; omega, ?_⟩
        rw [S_len]
        show if (false ^^ decide (((l.length : Nat) : Int) = 1)) = true then _ else _
        rw [Bool.false_xor]
        refine ite2 (fun h4 => ?_) (fun h4 => ?_)
        · have e : rankB l = true := by
            unfold rankB
            rw [h3', decide_eq_true (show l.length = 1 by have := of_decide_eq_true h4; omega)]; rfl
          rw [e] at q1
          exact q1
        · have n1 : ¬ l.length = 1 := fun z => h4 (decide_eq_true (by omega))
          refine ⟨by rw [S_len]; omega, ?_⟩
          rw [S_len]
          show if (false ^^ decide (((l.length : Nat) : Int) = 2)) = true then _ else _
          rw [Bool.false_xor]
          refine ite2 (fun h5 => ?_) (fun h5 => ?_)
          · have e2 : l.length = 2 := by have := of_decide_eq_true h5; omega
            cases l with
            | nil => cases e2
            | cons x r =>
              refine ⟨by rw [S_len]; omega, x, atI_nat (j := 0) rfl, ?_⟩
              have e : (true ^^ decide ((S [x] : Str) = S [48])) = rankB (x :: r) := by
                unfold rankB
                rw [h3', decide_eq_false n1, decide_eq_true e2, eqS_iff, Bool.true_xor]; rfl
              exact Eq.mpr (congrArg (fun z => Q (.bl z) _) e) q1
          · have e : rankB l = false := by
              unfold rankB
              rw [h3', decide_eq_false n1, decide_eq_false (show ¬ l.length = 2 from fun z => h5 (decide_eq_true (by omega)))]; rfl
            rw [e] at q1
            exact q1
end
end K81

set_option Elab.async false
set_option linter.all false
set_option maxRecDepth 100000
set_option maxHeartbeats 4000000





--@RAISES but law
namespace K81
open PySem PySem.Spec PyProof.Rows L2 Rg
theorem slice1 (t : List Nat) : Txt.slice (S t) none (some 1) = S (t.take 1) := by
  rw [slice_S]
  have := cut_to t 1
  rw [show ((1 : Nat) : Int) = 1 from rfl] at this
  rw [this]
theorem sliceF1 (t : List Nat) : Txt.slice (S t) (some 1) none = S (t.drop 1) := by
  rw [slice_S]
  have := cut_from t 1
  rw [show ((1 : Nat) : Int) = 1 from rfl] at this
  rw [this]
section
variable {P : Program} {w : World} {K : PySem.W.Frag} {mg : Str → Option Value} {base : Heap} {aN aD aS CR : Addr}
def spBare : Sp := fun vs H Q _ => ∃ t : W, vs = [.str (S t)] ∧ t.length ≤ 200 ∧ ∀ H', Same H H' → Q (.str (S (bareF t))) H'
abbrev st_bare_part : Stmt := top 34
theorem sc_bare_part : FnScope ["word"] ["word"] (defScope st_bare_part) := ⟨rfl, rfl, rfl, by decide +kernel, rfl, by decide +kernel, by decide +kernel⟩
theorem def_bare (R : Raw K mg "bare_part" st_bare_part ["word"]) : Def P w K mg base 1 "bare_part" ["word"] spBare := by
  refine R.defJ sc_bare_part (fun vs H Q E h => ?_) (fun f cdv A outer s H vs Q E hr h => ?_)
  · obtain ⟨t, rfl, _⟩ := h
    rfl
  · obtain ⟨t, rfl, ht, q⟩ := h
    have sc := sc_bare_part
    have hu := hr.units
    have hb := big
    refine ⟨_, (jss_one (js_ret (j_ife (jt_cmp (o_inA hu (K := K)) (j_slice (o_slA (K := K)) (jn 0) jo_none (jo_some j_int)) (j_tup (ja_cons j_str (ja_cons j_str ja_nil)))) (j_slice (o_slA (K := K)) (jn 0) (jo_some j_int) jo_none) (jn 0)))), ?_⟩
    refine ⟨by rw [S_len]; omega, (show 2 ≤ sizeLine by decide), fun p hp => ?_⟩
    have s1 : Same H (upd H p (.tup [.str "?", .str "!"])) := same_new hp
    have h1 : upd H p (.tup [.str "?", .str "!"]) p = some (.tup [.str "?", .str "!"]) := upd_same
    generalize upd H p (.tup [.str "?", .str "!"]) = H1 at s1 h1 ⊢
    refine .inl ⟨_, .inr (SqT.of h1), rfl, rfl, ?_⟩
    rw [slice1]
    have ev : (false ^^ inV (.str (S (t.take 1))) [.str "?", .str "!"]) = ((t.take 1 == [63]) || (t.take 1 == [33])) := by
      show (false ^^ (((S [63] : Str) == S (t.take 1)) || (((S [33] : Str) == S (t.take 1)) || false))) = _
      rw [beqS, beqS, Bool.false_xor, Bool.or_false, beqC (l := [63]), beqC (l := [33])]
    show if (false ^^ inV (.str (S (t.take 1))) [.str "?", .str "!"]) = true then _ else _
    rw [ev]
    have q1 := q H1 s1
    refine ite2 (fun h => ?_) (fun h => ?_)
    · refine ⟨by rw [S_len]; omega, ?_⟩
      rw [sliceF1]
      have e : bareF t = t.drop 1 := by
        unfold bareF
        rw [if_pos]
        rcases Bool.or_eq_true _ _ ▸ h with z | z
        · exact .inl (beq_iff_eq.mp z)
        · exact .inr (beq_iff_eq.mp z)
      rw [e] at q1
      exact q1
    · have e : bareF t = t := by
        unfold bareF
        rw [if_neg]
        rintro (z | z)
        · exact h (by rw [z]; rfl)
        · exact h (by rw [z]; simp)
      rw [e] at q1
      exact q1
theorem places_app (c : Nat) : ∀ (i : Nat) (xs : List W) (t : W), placesF c i (xs ++ [t]) = placesF c i xs ++ (if t.take 1 = [c] then [i + xs.length] else [])
  | i, [], t => by
    show (if t.take 1 = [c] then i :: placesF c (i + 1) [] else placesF c (i + 1) []) = _
    by_cases h : t.take 1 = [c]
    · rw [if_pos h, if_pos h]; rfl
    · rw [if_neg h, if_neg h]; rfl
  | i, x :: r, t => by
    have ih := places_app c (i + 1) r t
    show (if x.take 1 = [c] then i :: placesF c (i + 1) (r ++ [t]) else placesF c (i + 1) (r ++ [t])) = (if x.take 1 = [c] then i :: placesF c (i + 1) r else placesF c (i + 1) r) ++ _
    rw [ih, show i + 1 + r.length = i + (x :: r).length by simp; omega]
    by_cases h : x.take 1 = [c]
    · rw [if_pos h, if_pos h]; rfl
    · rw [if_neg h, if_neg h]
theorem places_len (c : Nat) : ∀ (i : Nat) (xs : List W), (placesF c i xs).length ≤ xs.length
  | i, [] => Nat.le_refl _
  | i, x :: r => by
    have := places_len c (i + 1) r
    show (if x.take 1 = [c] then i :: placesF c (i + 1) r else placesF c (i + 1) r).length ≤ r.length + 1
    split
    · rw [List.length_cons]; omega
    · omega
theorem places_lt (c : Nat) : ∀ (i : Nat) (xs : List W), ∀ p ∈ placesF c i xs, i ≤ p ∧ p < i + xs.length
  | i, [], p, hp => by cases hp
  | i, x :: r, p, hp => by
    have ih := places_lt c (i + 1) r
    have e : p ∈ (if x.take 1 = [c] then i :: placesF c (i + 1) r else placesF c (i + 1) r) := hp
    split at e
    · rcases List.mem_cons.mp e with z | z
      · rw [z]; simp
      · have := ih p z; rw [List.length_cons]; omega
    · have := ih p e; rw [List.length_cons]; omega
def plF (c : Nat) (ws : List W) : Int := match placesF c 0 ws with | [] => -1 | p :: _ => (p : Int)
def spPS (K : PySem.W.Frag) (CR : Addr) : Sp := fun vs H Q E => ∃ (a : Addr) (ws : List W) (c : Nat), vs = [.ref a, .str (S [c])] ∧ SqL K H a (ws.map fun t => V.str (S t)) ∧ WsOk ws ∧ c < 128 ∧
  ((placesF c 0 ws).length ≤ 1 → ∀ H', Same H H' → Q (.int (plF c ws)) H') ∧ (1 < (placesF c 0 ws).length → ∀ H', E (.ref CR) none H')
abbrev st_place_signed : Stmt := top 36
theorem sc_place_signed : FnScope ["words", "sign", "places"] ["words", "sign"] (defScope st_place_signed) := ⟨rfl, rfl, rfl, by decide +kernel, rfl, by decide +kernel, by decide +kernel⟩
theorem def_ps (R : Raw K mg "place_signed" st_place_signed ["words", "sign"]) (T : Txt2 K w mg aN aD aS CR) : DefX P w K mg base 1 "place_signed" ["words", "sign"] (spPS K CR) := by
  refine R.defX sc_place_signed (fun vs H Q E h => ?_) (fun f cdv A outer s H vs Q E hr h => ?_)
  · obtain ⟨a, ws, c, rfl, _⟩ := h
    rfl
  · obtain ⟨a, ws, c, rfl, hS, ok, hc, qO, qX⟩ := h
    have sc := sc_place_signed
    have hu := hr.units
    have hb := big
    have hn := ok.n
    refine ⟨_, (jss_cons (js_comp (i := 2) (N := ["place", "word", "sign"]) (cap := [none, none, some 1]) rfl (CompScope.of rfl (by rfl)) (ji_enum (K := K) rfl T.n_enumerate (ja_cons (jn 0) ja_nil)) (fun _ _ _ _ => (jg_tup (K := K) (n := 2) rfl (jgs_cons (jg_name (i := 0) (show List.Nodup [("place" : Str), ("word" : Str), ("sign" : Str)] by decide +kernel) rfl (Or.inl rfl)) (jgs_cons (jg_name (i := 1) (show List.Nodup [("place" : Str), ("word" : Str), ("sign" : Str)] by decide +kernel) rfl (Or.inl rfl)) jgs_nil)))) (fun _ _ _ _ => (jts_one (jt_cmp (o_eq hu (K := K)) (j_slice (o_slA (K := K)) (jn 1) jo_none (jo_some j_int)) (jn 2)))) (fun _ _ _ _ => (jn 0)) sc.nd rfl rfl)
    (jss_cons (js_if (jt_cmp o_gt (j_callB (c_len (K := K)) rfl T.n_len PySem.boot_len (ja_cons (jn 2) ja_nil)) j_int)
    (jss_one (js_raise rfl T.c_NoRow T.x_NoRow (ja_cons (j_fs (jfs_cons jf_str (jfs_cons (jf_plain (jn 1)) (jfs_cons jf_str (jfs_cons (jf_reprD (K := K) hr.gd hu (jn 0)) jfs_nil))))) ja_nil)))
    jss_nil)
    (jss_one (js_ret (j_ife (jt_tru (K := K) (jn 2)) (j_ix (o_ix hu (K := K) (w := w)) (jn 2) j_int) (j_neg j_int)))))), ?_⟩
    refine ⟨⟨_, hS⟩, ?_⟩
    refine gath_enum (xs := ws.map fun t => V.str (S t)) (fun i ys σ' H' => Same H H' ∧ ys = (placesF c 0 (ws.take i)).map (fun p => V.int (p : Nat)) ∧ ∃ v1 v2, σ' = [v1, v2, some (.str (S [c]))]) (by rw [List.length_map]; omega) ⟨Same.refl _, rfl, none, none, rfl⟩
      (fun i ys σ' H' h => by rw [h.2.1, List.length_map]; exact Nat.le_trans (places_len c 0 _) (by rw [List.length_take]; omega)) (fun i ys σ' H' h => h.1.seq hS) ?_ ?_
    · rintro i x ys σ' H' hi ⟨s2, rfl, v1, v2, rfl⟩ T hT
      rw [List.getElem?_map] at hi
      cases et : ws[i]? with
      | none => rw [et] at hi; cases hi
      | some t =>
        rw [et] at hi
        have ex : x = .str (S t) := (Option.some.inj hi).symm
        subst ex
        have h13 := (ok.w t (List.mem_of_getElem? et)).1
        have hil := (List.getElem?_eq_some_iff.mp et).1
        have ett : ws.take (i + 1) = ws.take i ++ [t] := by rw [List.take_add_one, et]; rfl
        refine ⟨T, _, rfl, SqT.of upd_same, rfl, _, _, rfl, _, _, rfl, rfl, ?_⟩
        refine ⟨by rw [S_len]; omega, ?_⟩
        rw [slice1]
        show if (false ^^ decide ((S (t.take 1) : Str) = S [c])) = true then _ else _
        rw [Bool.false_xor, eqS_iff]
        refine ite2 (fun h => ?_) (fun h => ?_)
        · refine ⟨s2.trans (same_new hT), ?_, _, _, rfl⟩
          rw [ett, places_app, if_pos (beq_iff_eq.mp h), List.map_append, List.length_take, Nat.min_eq_left (by omega), Nat.zero_add]
          rfl
        · refine ⟨s2.trans (same_new hT), ?_, _, _, rfl⟩
          rw [ett, places_app, if_neg (fun z => h (beq_iff_eq.mpr z)), List.append_nil]
    · rintro ys σ' H' ⟨s2, rfl, v1, v2, rfl⟩ D hD
      rw [List.length_map, List.take_length]
      have s3 := s2.trans (same_new (o := .lst ((placesF c 0 ws).map (fun p => V.int (p : Nat)))) hD)
      have h3 : upd H' D (.lst ((placesF c 0 ws).map (fun p => V.int (p : Nat)))) D = some (.lst ((placesF c 0 ws).map (fun p => V.int (p : Nat)))) := upd_same
      generalize upd H' D (.lst ((placesF c 0 ws).map (fun p => V.int (p : Nat)))) = H3 at s3 h3 ⊢
      refine ⟨_, .inl (SqL.of h3), ?_⟩
      rw [List.length_map]
      show if decide ((((placesF c 0 ws).length : Nat) : Int) > 1) = true then _ else _
      refine ite2 (fun h => ?_) (fun h => ?_)
      · exact ⟨⟨trivial, ⟨rfl, .inl ⟨_, rfl, by rw [S_len]; show 1 ≤ 100000; omega⟩⟩, trivial, ⟨rfl, rep_words ok (s3.seq hS)⟩, trivial⟩, fun y _ => ⟨(show 1 ≤ sizeLine by decide), qX (by have := of_decide_eq_true h; omega) _⟩⟩
      · have hle : (placesF c 0 ws).length ≤ 1 := Nat.not_lt.mp fun z => h (decide_eq_true (by omega))
        have q1 := qO hle H3 s3
        unfold plF at q1
        cases e : placesF c 0 ws with
        | nil =>
          rw [e] at h3 q1
          exact ⟨false, .inl ⟨_, SqL.of h3, rfl⟩, q1⟩
        | cons p r =>
          rw [e] at h3 q1
          exact ⟨true, .inl ⟨_, SqL.of h3, rfl⟩, .inl ⟨_, _, SqL.of h3, atI_nat (j := 0) rfl, q1⟩⟩
def noteB (ws : List W) : Bool := decide ((placesF 63 0 ws).length ≤ 1) && decide ((placesF 33 0 ws).length ≤ 1)
def spNote (K : PySem.W.Frag) (CR : Addr) : Sp := fun vs H Q E => ∃ (a : Addr) (ws : List W), vs = [.ref a] ∧ SqL K H a (ws.map fun t => V.str (S t)) ∧ WsOk ws ∧
  (noteB ws = true → ∀ H' t, Same H H' → H' t = some (.tup [.int (plF 63 ws), .int (plF 33 ws)]) → Q (.ref t) H') ∧ (noteB ws = false → ∀ H', E (.ref CR) none H')
abbrev st_note_of : Stmt := top 35
theorem sc_note_of : FnScope ["words"] ["words"] (defScope st_note_of) := ⟨rfl, rfl, rfl, by decide +kernel, rfl, by decide +kernel, by decide +kernel⟩
theorem def_note (R : Raw K mg "note_of" st_note_of ["words"]) (D_place_signed : DefX P w K mg base 1 "place_signed" ["words", "sign"] (spPS K CR)) : DefX P w K mg base 2 "note_of" ["words"] (spNote K CR) := by
  refine R.defX sc_note_of (fun vs H Q E h => ?_) (fun f cdv A outer s H vs Q E hr h => ?_)
  · obtain ⟨a, ws, rfl, _⟩ := h
    rfl
  · obtain ⟨a, ws, rfl, hS, ok, qO, qX⟩ := h
    have sc := sc_note_of
    have hu := hr.units
    refine ⟨_, (jss_one (js_ret (j_tup (ja_cons (j_defX D_place_signed (hr.mono (by decide)) rfl (ja_cons (jn 0) (ja_cons j_str ja_nil)) pass1) (ja_cons (j_defX D_place_signed (hr.mono (by decide)) rfl (ja_cons (jn 0) (ja_cons j_str ja_nil)) pass1) ja_nil))))), ?_⟩
    refine ⟨a, ws, 63, rfl, hS, ok, by decide, fun h1 H1 s1 => ?_, fun h1 H1 => ?_⟩
    · refine ⟨a, ws, 33, rfl, s1.seq hS, ok, by decide, fun h2 H2 s2 => ?_, fun h2 H2 => ?_⟩
      · refine ⟨(show 2 ≤ sizeLine by decide), fun t ht => ?_⟩
        exact qO (by unfold noteB; rw [decide_eq_true h1, decide_eq_true h2]; rfl) _ t ((s1.trans s2).trans (same_new ht)) upd_same
      · exact qX (by unfold noteB; rw [decide_eq_false (by omega : ¬ (placesF 33 0 ws).length ≤ 1)]; simp) H2
    · exact qX (by unfold noteB; rw [decide_eq_false (by omega : ¬ (placesF 63 0 ws).length ≤ 1)]; simp) H1
end
end K81

set_option Elab.async false
set_option linter.all false
set_option maxRecDepth 100000
set_option maxHeartbeats 4000000





--@RAISES but law
namespace K81
open PySem PySem.Spec PyProof.Rows L2 Rg
inductive Cl where
  | nr
  | nf
  deriving DecidableEq
def clA (CR CF : Addr) : Cl → Addr
  | .nr => CR
  | .nf => CF
def putFormF (nb : Nat) (fw : List W) : Option Cl := if fw = [] then some .nr else if nb = 24 then some .nr else if (formF (joinWith [32] fw)).isNone then some .nf else none
theorem rem_le {cs : List Addr} {H H' : Hp} (s : Same H H') : Same (rem cs H) (rem cs H') := fun b u e => by
  have nb : b ∉ cs := fun m => by rw [rem_in m] at e; cases e
  rw [rem_out nb] at e ⊢
  exact s b u e
theorem same_put {b : Addr} {H : Hp} {o : HO} : Same (rem [b] H) (upd H b o) := fun x u e => by
  have nb : x ∉ [b] := fun m => by rw [rem_in m] at e; cases e
  rw [rem_out nb] at e
  rw [upd_ne fun z => nb (by rw [z]; exact List.mem_singleton.mpr rfl)]
  exact e
section
variable {P : Program} {w : World} {K : PySem.W.Frag} {mg : Str → Option Value} {base : Heap} {aN aD aS CR CF : Addr}
def spPF (K : PySem.W.Frag) (CR CF : Addr) : Sp := fun vs H Q E => ∃ (b wa : Addr) (bl : List V) (kd : Str) (fw : List W), vs = [.ref b, .str kd, .ref wa] ∧ H b = some (.lst bl) ∧ bl.length ≤ 24 ∧ SqL K H wa (fw.map fun t => V.str (S t)) ∧ WsOk fw ∧ Tl (joinWith [32] fw) ∧
  (putFormF bl.length fw = none → ∀ H' y, Same (rem [b] H) H' → H' b = some (.lst (bl ++ [y])) → Q .non H') ∧ ∀ c, putFormF bl.length fw = some c → ∀ H', E (.ref (clA CR CF c)) none H'
abbrev st_put_form : Stmt := top 30
theorem sc_put_form : FnScope ["book", "kind", "words"] ["book", "kind", "words"] (defScope st_put_form) := ⟨rfl, rfl, rfl, by decide +kernel, rfl, by decide +kernel, by decide +kernel⟩
theorem def_pf (R : Raw K mg "put_form" st_put_form ["book", "kind", "words"]) (T : Txt2 K w mg aN aD aS CR) (D_form_of : DefX P w K mg base 3 "form_of" ["text"] (spFO K CF)) : DefX P w K mg base 4 "put_form" ["book", "kind", "words"] (spPF K CR CF) := by
  refine R.defX sc_put_form (fun vs H Q E h => ?_) (fun f cdv A outer s H vs Q E hr h => ?_)
  · obtain ⟨b, wa, bl, kd, fw, rfl, _⟩ := h
    rfl
  · obtain ⟨b, wa, bl, kd, fw, rfl, hB, hbl, hS, ok, tl, qO, qX⟩ := h
    have sc := sc_put_form
    have hu := hr.units
    have hb := big
    have hn := ok.n
    refine ⟨_, (jss_cons (js_if (jt_not (jt_tru (K := K) (jn 2)))
    (jss_one (js_raise rfl T.c_NoRow T.x_NoRow (ja_cons j_str ja_nil)))
    jss_nil)
    (jss_cons (js_if (jt_cmp (o_eq hu (K := K)) (j_callB (c_len (K := K)) rfl T.n_len PySem.boot_len (ja_cons (jn 0) ja_nil)) (j_gint rfl T.g_MOST_FORMS))
    (jss_one (js_raise rfl T.c_NoRow T.x_NoRow (ja_cons (j_fs (jfs_cons jf_str (jfs_cons (jf_plain (j_gint rfl T.g_MOST_FORMS)) (jfs_cons jf_str jfs_nil)))) ja_nil)))
    jss_nil)
    (jss_one (js_expr (j_bm (K := K) PySem.F.plainAttrs_list PySem.F.slot_list_append PySem.F.type_list_append m_append (jn 0) (ja_cons (j_tup (ja_cons (jn 1) (ja_cons (j_defX D_form_of (hr.mono (by decide)) rfl (ja_cons (j_bm (K := K) PySem.F.plainAttrs_str PySem.F.slot_str_join PySem.F.type_str_join (m_join (K := K)) j_str (ja_cons (jn 2) ja_nil)) ja_nil) pass1) ja_nil))) ja_nil)))))), ?_⟩
    by_cases hf : fw = []
    · refine ⟨false, .inl ⟨_, hS, by rw [hf]; rfl⟩, ?_⟩
      exact ⟨(show 1 ≤ sizeLine by decide), qX .nr (by unfold putFormF; rw [if_pos hf]) H⟩
    · refine ⟨true, .inl ⟨_, hS, by cases fw with | nil => exact absurd rfl hf | cons p r => rfl⟩, ?_⟩
      refine ⟨_, .inl (SqL.of hB), ?_⟩
      show if (false ^^ decide (((bl.length : Nat) : Int) = 24)) = true then _ else _
      rw [Bool.false_xor]
      refine ite2 (fun h => ?_) (fun h => ?_)
      · have e24 : bl.length = 24 := by have := of_decide_eq_true h; omega
        exact ⟨⟨trivial, ⟨rfl, .inr ⟨24, rfl, by decide, by decide +kernel⟩⟩, trivial, trivial⟩, fun y _ => ⟨(show 1 ≤ sizeLine by decide), qX .nr (by unfold putFormF; rw [if_neg hf, if_pos e24]) _⟩⟩
      · have n24 : ¬ bl.length = 24 := fun z => h (decide_eq_true (by omega))
        refine ⟨.inl ⟨rfl, _, SqL.of hB⟩, ?_⟩
        refine ⟨rfl, fw.map S, by rw [List.map_map]; exact hS, joinOk_of (B := 200) (fun y hy => ?_) ?_, ?_⟩
        · obtain ⟨t, ht, rfl⟩ := List.mem_map.mp hy
          rw [S_len]; exact (ok.w t ht).1
        · rw [List.length_map]
          have : (S [32] : Str).length = 1 := rfl
          show fw.length * 200 + fw.length * (S [32] : Str).length ≤ 16777216
          rw [this]; omega
        have ej : Txt.join (Str.ofString " ") (fw.map S) = S (joinWith [32] fw) := txtJoin_S [32] fw
        rw [ej]
        refine ⟨joinWith [32] fw, rfl, tl, fun ps hps fa fv H1 hfa s1 hfv hD => ?_, fun hn1 H1 s1 => ?_⟩
        · refine ⟨(show 2 ≤ sizeLine by decide), fun t ht => ?_⟩
          have s2 : Same H1 (upd H1 t (.tup [.str kd, .ref fa])) := same_new ht
          generalize upd H1 t (.tup [.str kd, .ref fa]) = H2 at s2 ⊢
          have hB2 := s2 _ _ (s1 _ _ hB)
          refine ⟨_, hB2, by omega, ?_⟩
          exact qO (by unfold putFormF; rw [if_neg hf, if_neg n24, hps]; rfl) _ (.ref t) ((rem_le (s1.trans s2)).trans same_put) upd_same
        · exact qX .nf (by unfold putFormF; rw [if_neg hf, if_neg n24, hn1]; rfl) H1
def All2 {α : Type} (R : V → α → Prop) (xs : List V) (as : List α) : Prop := xs.length = as.length ∧ ∀ (i : Nat) (x : V) (a : α), xs[i]? = some x → as[i]? = some a → R x a
theorem All2.nil {α : Type} {R : V → α → Prop} : All2 R [] [] := ⟨rfl, fun i x a h => by cases h⟩
theorem All2.snoc {α : Type} {R : V → α → Prop} {xs : List V} {as : List α} {x : V} {a : α} (h : All2 R xs as) (r : R x a) : All2 R (xs ++ [x]) (as ++ [a]) := by
  refine ⟨by rw [List.length_append, List.length_append, h.1]; rfl, fun i y b e1 e2 => ?_⟩
  by_cases hi : i < xs.length
  · rw [List.getElem?_append_left hi] at e1
    rw [List.getElem?_append_left (by rw [← h.1]; exact hi)] at e2
    exact h.2 i y b e1 e2
  · rw [List.getElem?_append_right (by omega)] at e1
    rw [List.getElem?_append_right (by rw [← h.1]; omega)] at e2
    rw [← h.1] at e2
    have h0 : i - xs.length = 0 := by
      have := (List.getElem?_eq_some_iff.mp e1).1
      simp at this
      omega
    rw [h0] at e1 e2
    cases Option.some.inj e1
    cases Option.some.inj e2
    exact r
theorem All2.mono {α : Type} {R R' : V → α → Prop} {xs : List V} {as : List α} (h : All2 R xs as) (m : ∀ x a, R x a → R' x a) : All2 R' xs as := ⟨h.1, fun i x a e1 e2 => m x a (h.2 i x a e1 e2)⟩
def EndAt (K : PySem.W.Frag) (H : Hp) (x : V) (k : W) : Prop := ∃ (t : Addr) (d : Str), x = .ref t ∧ SqT K H t [.str (S k), .str d]
def putEndF (es : List W) (ws : List W) : Bool := isKF (ws.getD 1 []) && decide (ws.length ≤ 2) && !(es.any fun k => k == ws.getD 1 []) && decide (es.length ≠ 24)
def spPE (K : PySem.W.Frag) (CR : Addr) : Sp := fun vs H Q E => ∃ (e wa : Addr) (el : List V) (es ws : List W), vs = [.ref e, .ref wa] ∧ H e = some (.lst el) ∧ All2 (EndAt K H) el es ∧ es.length ≤ 24 ∧ SqL K H wa (ws.map fun t => V.str (S t)) ∧ WsOk ws ∧ 1 ≤ ws.length ∧
  (putEndF es ws = true → ∀ H' t d, Same (rem [e] H) H' → H' e = some (.lst (el ++ [.ref t])) → H' t = some (.tup [.str (S (ws.getD 1 [])), .str d]) → Q .non H') ∧ (putEndF es ws = false → ∀ H', E (.ref CR) none H')
abbrev st_put_end : Stmt := top 31
theorem sc_put_end : FnScope ["ends", "words", "kind"] ["ends", "words"] (defScope st_put_end) := ⟨rfl, rfl, rfl, by decide +kernel, rfl, by decide +kernel, by decide +kernel⟩
theorem def_pe (R : Raw K mg "put_end" st_put_end ["ends", "words"]) (T : Txt2 K w mg aN aD aS CR) (D_kind_at : DefX P w K mg base 2 "kind_at" ["words", "place"] (spKA K CR)) : DefX P w K mg base 3 "put_end" ["ends", "words"] (spPE K CR) := by
  refine R.defX sc_put_end (fun vs H Q E h => ?_) (fun f cdv A outer s H vs Q E hr h => ?_)
  · obtain ⟨e, wa, el, es, ws, rfl, _⟩ := h
    rfl
  · obtain ⟨e, wa, el, es, ws, rfl, hE, hD, hel, hS, ok, h1w, qO, qX⟩ := h
    have sc := sc_put_end
    have hu := hr.units
    have hb := big
    have hn := ok.n
    have hll := hD.1
    refine ⟨_, (jss_cons (js_set (i := 2) sc.nd rfl (Or.inr rfl) (j_defX D_kind_at (hr.mono (by decide)) rfl (ja_cons (jn 1) (ja_cons j_int ja_nil)) pass1))
    (jss_cons (js_if (jt_cmp o_gt (j_callB (c_len (K := K)) rfl T.n_len PySem.boot_len (ja_cons (jn 1) ja_nil)) j_int)
    (jss_one (js_raise rfl T.c_NoRow T.x_NoRow (ja_cons (j_fs (jfs_cons jf_str (jfs_cons (jf_reprD (K := K) hr.gd hu (jn 1)) jfs_nil))) ja_nil)))
    jss_nil)
    (jss_cons (js_if (jt_val (j_callB (c_any rfl (K := K)) rfl T.n_any boot_any (ja_cons (j_comp (N := ["end", "kind"]) (cap := [none, some 2]) rfl (CompScope.of rfl (by rfl)) (ji_any (K := K) (jn 0)) (fun _ _ _ _ => (jg_name (i := 0) (show List.Nodup [("end" : Str), ("kind" : Str)] by decide +kernel) rfl (Or.inl rfl))) (fun _ _ _ _ => jts_nil) (fun _ _ _ _ => (j_cmp (o_eq hu (K := K)) (j_ix (o_ix hu (K := K) (w := w)) (jn 0) j_int) (jn 1)))) ja_nil)))
    (jss_one (js_raise rfl T.c_NoRow T.x_NoRow (ja_cons (j_fs (jfs_cons jf_str (jfs_cons (jf_repr (jn 2)) jfs_nil))) ja_nil)))
    jss_nil)
    (jss_cons (js_if (jt_cmp (o_eq hu (K := K)) (j_callB (c_len (K := K)) rfl T.n_len PySem.boot_len (ja_cons (jn 0) ja_nil)) (j_gint rfl T.g_MOST_ENDS))
    (jss_one (js_raise rfl T.c_NoRow T.x_NoRow (ja_cons (j_fs (jfs_cons jf_str (jfs_cons (jf_plain (j_gint rfl T.g_MOST_ENDS)) (jfs_cons jf_str jfs_nil)))) ja_nil)))
    jss_nil)
    (jss_one (js_expr (j_bm (K := K) PySem.F.plainAttrs_list PySem.F.slot_list_append PySem.F.type_list_append m_append (jn 0) (ja_cons (j_tup (ja_cons (jn 2) (ja_cons (j_ix (o_ix hu (K := K) (w := w)) (jn 1) j_int) ja_nil))) ja_nil)))))))), ?_⟩
    refine ⟨wa, ws, 1, rfl, hS, ok, fun hk H1 s1 => ?_, fun hk H1 => qX (by unfold putEndF; rw [hk]; rfl) H1⟩
    generalize hkd : ws.getD 1 [] = k at hk
    refine ⟨_, .inl (s1.seq hS), ?_⟩
    rw [List.length_map]
    show if decide (((ws.length : Nat) : Int) > 2) = true then _ else _
    refine ite2 (fun h => ?_) (fun h => ?_)
    · have n2 : ¬ ws.length ≤ 2 := by have := of_decide_eq_true h; omega
      exact ⟨⟨trivial, ⟨rfl, rep_words ok (s1.seq hS)⟩, trivial⟩, fun y _ => ⟨(show 1 ≤ sizeLine by decide), qX (by unfold putEndF; rw [decide_eq_false n2]; simp) _⟩⟩
    have l2 : ws.length ≤ 2 := Nat.not_lt.mp fun z => h (decide_eq_true (by omega))
    refine .inl ⟨⟨_, SqL.of (s1 _ _ hE)⟩, ?_⟩
    refine gath_list (xs := el) (fun i ys σ' H' => H' = H1 ∧ ys = bls ((es.take i).map fun x => x == k) ∧ ∃ v, σ' = [v, some (.str (S k))]) (by omega) ⟨rfl, rfl, none, rfl⟩ (fun i ys σ' H' h => by rw [h.2.1, bls_len, List.length_map, List.length_take]; omega) (fun i ys σ' H' h => by rw [h.1]; exact SqL.of (s1 _ _ hE)) ?_ ?_
    · rintro i x ys σ' H' hi ⟨rfl, rfl, v, rfl⟩
      have hil := (List.getElem?_eq_some_iff.mp hi).1
      have ee : es[i]? = some es[i] := List.getElem?_eq_getElem (by omega)
      generalize es[i] = en at ee
      obtain ⟨t, d, rfl, hT⟩ := hD.2 i x en hi ee
      have et : es.take (i + 1) = es.take i ++ [en] := by rw [List.take_add_one, ee]; rfl
      refine .inr ⟨_, _, s1.seqT hT, atI_nat (j := 0) rfl, ?_⟩
      refine ⟨rfl, ?_, _, rfl⟩
      show bls _ ++ [V.bl (false ^^ decide ((S en : Str) = S k))] = _
      rw [Bool.false_xor, eqS_iff, bls_app, et, List.map_append]
      rfl
    · rintro ys σ' H' ⟨rfl, rfl, v, rfl⟩ D hD1
      rw [hll, List.take_length]
      refine ⟨es.map fun x => x == k, SqL.of upd_same, ?_⟩
      rw [any_map]
      have s2 := s1.trans (same_new (o := .lst (bls (es.map fun x => x == k))) hD1)
      generalize upd H' D (.lst (bls (es.map fun x => x == k))) = H2 at s2 ⊢
      refine ite2 (fun h3 => ?_) (fun h3 => ?_)
      · have hgk : k.length ≤ 200 ∧ low k := by rw [← hkd]; exact ok.getD 1
        exact ⟨⟨trivial, ⟨rfl, rep_ok hgk⟩, trivial⟩, fun y _ => ⟨(show 1 ≤ sizeLine by decide), qX (by unfold putEndF; rw [hkd, h3]; simp) _⟩⟩
      · refine ⟨_, .inl (SqL.of (s2 _ _ hE)), ?_⟩
        rw [hll]
        show if (false ^^ decide (((es.length : Nat) : Int) = 24)) = true then _ else _
        rw [Bool.false_xor]
        refine ite2 (fun h4 => ?_) (fun h4 => ?_)
        · have e24 : es.length = 24 := by have := of_decide_eq_true h4; omega
          exact ⟨⟨trivial, ⟨rfl, .inr ⟨24, rfl, by decide, by decide +kernel⟩⟩, trivial, trivial⟩, fun y _ => ⟨(show 1 ≤ sizeLine by decide), qX (by unfold putEndF; rw [decide_eq_false (show ¬ es.length ≠ 24 from fun z => z e24)]; simp) _⟩⟩
        · have n24 : es.length ≠ 24 := fun z => h4 (decide_eq_true (by omega))
          refine ⟨.inl ⟨rfl, _, SqL.of (s2 _ _ hE)⟩, ?_⟩
          have e0 : (ws.map fun t => V.str (S t))[0]? = some (V.str (S (ws.getD 0 []))) := by rw [List.getElem?_map, List.getD, List.getElem?_eq_getElem (by omega)]; rfl
          refine .inl ⟨_, _, s2.seq hS, atI_nat e0, ?_⟩
          refine ⟨(show 2 ≤ sizeLine by decide), fun t ht => ?_⟩
          have s3 : Same H2 (upd H2 t (.tup [.str (S k), .str (S (ws.getD 0 []))])) := same_new ht
          have h3' : upd H2 t (.tup [.str (S k), .str (S (ws.getD 0 []))]) t = some (.tup [.str (S k), .str (S (ws.getD 0 []))]) := upd_same
          have nt : t ≠ e := fun z => by rw [z, s2 _ _ hE] at ht; cases ht
          generalize upd H2 t (.tup [.str (S k), .str (S (ws.getD 0 []))]) = H3 at s3 h3' ⊢
          have hE3 := s3 _ _ (s2 _ _ hE)
          refine ⟨_, hE3, by omega, ?_⟩
          refine qO ?_ _ t _ ((rem_le (s2.trans s3)).trans same_put) upd_same (by rw [hkd, upd_ne nt]; exact h3')
          unfold putEndF
          rw [hkd, hk, decide_eq_true l2, Bool.eq_false_iff.mpr h3, decide_eq_true n24]; rfl
def sideW (t : W) : Bool := inV (.str (S t)) [.str "left", .str "right", .str "none"]
def ruleB (ws : List W) : Bool := decide (4 ≤ ws.length) && isKF (ws.getD 1 []) && rankB (ws.getD 2 []) && sideW (ws.getD 3 []) && ((ws.drop 4).map bareF).all isKF
def RulAt (K : PySem.W.Frag) (H : Hp) (x : V) (q : W × List W) : Prop := ∃ (t tp : Addr) (n : Int) (sd : Str), x = .ref t ∧ SqT K H t [.str (S q.1), .int n, .str sd, .ref tp] ∧ SqT K H tp (q.2.map fun l => V.str (S l))
def spRule (K : PySem.W.Frag) (CR : Addr) : Sp := fun vs H Q E => ∃ (a : Addr) (ws : List W), vs = [.ref a] ∧ SqL K H a (ws.map fun t => V.str (S t)) ∧ WsOk ws ∧
  (ruleB ws = true → ∀ H' x, Same H H' → RulAt K H' x (ws.getD 1 [], (ws.drop 4).map bareF) → Q x H') ∧ (ruleB ws = false → ∀ H', E (.ref CR) none H')
theorem rk_all : (List.range 100).all (fun n => (Str.ofString (toString ((n : Nat) : Int))).cps.toList == (if n < 10 then [48 + n] else [48 + n / 10, 48 + n % 10])) = true := by decide +kernel
theorem rk_txt {l : W} (h : rankB l = true) : ∃ n : Int, S l = Str.ofString (toString n) ∧ 0 ≤ n ∧ n < 10 ^ 10 := by
  unfold rankB at h
  simp only [Bool.and_eq_true, Bool.or_eq_true, decide_eq_true_eq, Bool.not_eq_true', List.all_eq_true] at h
  obtain ⟨hd, hl⟩ := h
  have dg : ∀ c ∈ l, 48 ≤ c ∧ c ≤ 57 := fun c hc => by
    have := hd c hc
    unfold dgB at this
    simp only [Bool.and_eq_true, decide_eq_true_eq] at this
    exact this
  have key : ∀ n, n < 100 → (Str.ofString (toString ((n : Nat) : Int))).cps.toList = (if n < 10 then [48 + n] else [48 + n / 10, 48 + n % 10]) := fun n hn => beq_iff_eq.mp (List.all_eq_true.mp rk_all n (List.mem_range.mpr hn))
  rcases hl with h1 | ⟨h2, h0⟩
  · match l, h1 with
    | [a], _ =>
      have := dg a List.mem_cons_self
      refine ⟨((a - 48 : Nat) : Int), ?_, by omega, by omega⟩
      have k := key (a - 48) (by omega)
      rw [if_pos (by omega), show 48 + (a - 48) = a by omega] at k
      rw [← k]
  · match l, h2 with
    | [a, b], _ =>
      have ha := dg a List.mem_cons_self
      have hb := dg b (List.mem_cons_of_mem _ List.mem_cons_self)
      have na : a ≠ 48 := fun z => by rw [z] at h0; simp at h0
      refine ⟨(((a - 48) * 10 + (b - 48) : Nat) : Int), ?_, by omega, by omega⟩
      have k := key ((a - 48) * 10 + (b - 48)) (by omega)
      rw [if_neg (by omega), show 48 + ((a - 48) * 10 + (b - 48)) / 10 = a by omega, show 48 + ((a - 48) * 10 + (b - 48)) % 10 = b by omega] at k
      rw [← k]
end
end K81

set_option Elab.async false
set_option linter.all false
set_option maxRecDepth 100000
set_option maxHeartbeats 4000000





--@RAISES but law
namespace K81
open PySem PySem.Spec PyProof.Rows L2 Rg
theorem cutV_from (xs : List V) (k : Nat) : cutV xs (some (k : Int)) none = xs.drop k := by
  unfold cutV
  rw [HT.sIx_none, HT.sIx_nat]
  rcases Nat.le_total k xs.length with h | h
  · rw [Nat.min_eq_left h]; exact List.take_of_length_le (by simp)
  · rw [Nat.min_eq_right h, List.drop_length, List.drop_of_length_le h]; simp
theorem cut4 (ws : List W) : cutV (ws.map fun t => V.str (S t)) (some 4) none = (ws.drop 4).map fun t => V.str (S t) := by
  rw [List.map_drop]; exact cutV_from _ 4
theorem WsOk.drop {ws : List W} (h : WsOk ws) (k : Nat) : WsOk (ws.drop k) := ⟨by rw [List.length_drop]; have := h.n; omega, fun t ht => h.w t (List.mem_of_mem_drop ht)⟩
theorem bare_ok {t : W} (h : t.length ≤ 200 ∧ low t) : (bareF t).length ≤ 200 ∧ low (bareF t) := by
  unfold bareF
  split
  · exact ⟨by rw [List.length_drop]; omega, fun c hc => h.2 c (List.mem_of_mem_drop hc)⟩
  · exact h
theorem WsOk.bare {ws : List W} (h : WsOk ws) : WsOk (ws.map bareF) := ⟨by rw [List.length_map]; exact h.n, fun t ht => by
  obtain ⟨u, hu, rfl⟩ := List.mem_map.mp ht
  exact bare_ok (h.w u hu)⟩
section
variable {P : Program} {w : World} {K : PySem.W.Frag} {mg : Str → Option Value} {base : Heap} {aN aD aS CR CF : Addr}
abbrev st_rule_of : Stmt := top 32
theorem sc_rule_of : FnScope ["words", "sort", "parts"] ["words"] (defScope st_rule_of) := ⟨rfl, rfl, rfl, by decide +kernel, rfl, by decide +kernel, by decide +kernel⟩
theorem def_rule (R : Raw K mg "rule_of" st_rule_of ["words"]) (T : Txt2 K w mg aN aD aS CR) (D_kind_at : DefX P w K mg base 2 "kind_at" ["words", "place"] (spKA K CR)) (D_is_rank : Def P w K mg base 1 "is_rank" ["word"] spRank) (D_bare_part : Def P w K mg base 1 "bare_part" ["word"] spBare) : DefX P w K mg base 3 "rule_of" ["words"] (spRule K CR) := by
  refine R.defX sc_rule_of (fun vs H Q E h => ?_) (fun f cdv A outer s H vs Q E hr h => ?_)
  · obtain ⟨a, ws, rfl, _⟩ := h
    rfl
  · obtain ⟨a, ws, rfl, hS, ok, qO, qX⟩ := h
    have sc := sc_rule_of
    have hu := hr.units
    have hb := big
    have hn := ok.n
    refine ⟨_, (jss_cons (js_if (jt_cmp o_lt (j_callB (c_len (K := K)) rfl T.n_len PySem.boot_len (ja_cons (jn 0) ja_nil)) j_int)
    (jss_one (js_raise rfl T.c_NoRow T.x_NoRow (ja_cons (j_fs (jfs_cons jf_str (jfs_cons (jf_reprD (K := K) hr.gd hu (jn 0)) jfs_nil))) ja_nil)))
    jss_nil)
    (jss_cons (js_set (i := 1) sc.nd rfl (Or.inl rfl) (j_defX D_kind_at (hr.mono (by decide)) rfl (ja_cons (jn 0) (ja_cons j_int ja_nil)) pass1))
    (jss_cons (js_if (jt_not (jt_val (j_def D_is_rank (hr.mono (by decide)) rfl (ja_cons (j_ix (o_ix hu (K := K) (w := w)) (jn 0) j_int) ja_nil))))
    (jss_one (js_raise rfl T.c_NoRow T.x_NoRow (ja_cons (j_fs (jfs_cons jf_str (jfs_cons (jf_reprD (K := K) hr.gd hu (jn 0)) jfs_nil))) ja_nil)))
    jss_nil)
    (jss_cons (js_if (jt_cmp (o_notinA hu (K := K)) (j_ix (o_ix hu (K := K) (w := w)) (jn 0) j_int) (j_glob (v := .ref _) rfl T.g_SIDES rfl))
    (jss_one (js_raise rfl T.c_NoRow T.x_NoRow (ja_cons (j_fs (jfs_cons jf_str (jfs_cons (jf_reprD (K := K) hr.gd hu (jn 0)) jfs_nil))) ja_nil)))
    jss_nil)
    (jss_cons (js_set (i := 2) sc.nd rfl (Or.inr rfl) (j_comp (N := ["word"]) (cap := [none]) rfl (CompScope.of rfl (by rfl)) (ji_any (K := K) (j_slice (o_slA (K := K)) (jn 0) (jo_some j_int) jo_none)) (fun _ _ _ _ => (jg_name (i := 0) (show List.Nodup [("word" : Str)] by decide +kernel) rfl (Or.inl rfl))) (fun _ _ _ _ => jts_nil) (fun _ _ _ _ => (j_def D_bare_part (hr.mono (by decide)) rfl (ja_cons (jn 0) ja_nil)))))
    (jss_one (js_ret (j_tup (ja_cons (jn 1) (ja_cons (j_callTy c_intT rfl T.n_int boot_int (ja_cons (j_ix (o_ix hu (K := K) (w := w)) (jn 0) j_int) ja_nil)) (ja_cons (j_ix (o_ix hu (K := K) (w := w)) (jn 0) j_int) (ja_cons (j_callTy (c_tuple (K := K)) rfl T.n_tuple boot_tuple (ja_cons (j_compX exits_fn rfl rfl (N := ["place", "parts"]) (cap := [none, some 2]) rfl (CompScope.of rfl (by rfl)) (ji_rng1 rfl T.n_range (ja_cons (j_callB (c_len (K := K)) rfl T.n_len PySem.boot_len (ja_cons (jn 2) ja_nil)) ja_nil)) (fun _ _ _ _ => (jg_name (i := 0) (show List.Nodup [("place" : Str), ("parts" : Str)] by decide +kernel) rfl (Or.inl rfl))) (fun _ _ _ _ => jts_nil) (fun _ _ _ _ => (j_defX D_kind_at (hr.mono (by decide)) rfl (ja_cons (jn 1) (ja_cons (jn 0) ja_nil)) passes_comp))) ja_nil)) ja_nil)))))))))))), ?_⟩
    refine ⟨_, .inl hS, ?_⟩
    rw [List.length_map]
    show if decide (((ws.length : Nat) : Int) < 4) = true then _ else _
    refine ite2 (fun h => ?_) (fun h => ?_)
    · have n4 : ¬ 4 ≤ ws.length := by have := of_decide_eq_true h; omega
      exact ⟨⟨trivial, ⟨rfl, rep_words ok hS⟩, trivial⟩, fun y _ => ⟨(show 1 ≤ sizeLine by decide), qX (by unfold ruleB; rw [decide_eq_false n4]; rfl) _⟩⟩
    have l4 : 4 ≤ ws.length := Nat.not_lt.mp fun z => h (decide_eq_true (by omega))
    have gat : ∀ k, k < 4 → (ws.map fun t => V.str (S t))[k]? = some (V.str (S (ws.getD k []))) := fun k hk => by rw [List.getElem?_map, List.getD, List.getElem?_eq_getElem (by omega)]; rfl
    refine ⟨a, ws, 1, rfl, hS, ok, fun hk H1 s1 => ?_, fun hk H1 => qX (by unfold ruleB; rw [hk]; simp) H1⟩
    refine .inl ⟨_, _, s1.seq hS, atI_nat (gat 2 (by decide)), ?_⟩
    refine ⟨_, rfl, (ok.getD 2).1, fun H2 s2 => ?_⟩
    have hS2 := (s1.trans s2).seq hS
    show if (!(rankB (ws.getD 2 []))) = true then _ else _
    refine ite2 (fun h2 => ?_) (fun h2 => ?_)
    · exact ⟨⟨trivial, ⟨rfl, rep_words ok hS2⟩, trivial⟩, fun y _ => ⟨(show 1 ≤ sizeLine by decide), qX (by unfold ruleB; rw [show rankB (ws.getD 2 []) = false by simpa using h2]; simp) _⟩⟩
    have hrk : rankB (ws.getD 2 []) = true := by simpa using h2
    refine .inl ⟨_, _, hS2, atI_nat (gat 3 (by decide)), ?_⟩
    refine .inl ⟨_, .inr (T.k_SI _), rfl, rfl, ?_⟩
    show if (true ^^ sideW (ws.getD 3 [])) = true then _ else _
    refine ite2 (fun h3 => ?_) (fun h3 => ?_)
    · exact ⟨⟨trivial, ⟨rfl, rep_words ok hS2⟩, trivial⟩, fun y _ => ⟨(show 1 ≤ sizeLine by decide), qX (by unfold ruleB; rw [show sideW (ws.getD 3 []) = false by simpa using h3]; simp) _⟩⟩
    have hsd : sideW (ws.getD 3 []) = true := by simpa using h3
    refine .inl ⟨_, hS2, fun p hp => ?_⟩
    rw [cut4]
    have ok4 := ok.drop 4
    generalize hts : ws.drop 4 = ts at ok4
    have hn4 := ok4.n
    have s3 : Same H2 (upd H2 p (.lst (ts.map fun t => V.str (S t)))) := same_new hp
    have h3' : upd H2 p (.lst (ts.map fun t => V.str (S t))) p = some (.lst (ts.map fun t => V.str (S t))) := upd_same
    generalize upd H2 p (.lst (ts.map fun t => V.str (S t))) = H3 at s3 h3' ⊢
    refine .inl ⟨⟨_, SqL.of h3'⟩, ?_⟩
    refine gath_list (xs := ts.map fun t => V.str (S t)) (fun i ys σ' H' => Same H3 H' ∧ ys = ((ts.take i).map bareF).map (fun l => V.str (S l)) ∧ ∃ v, σ' = [v]) (by rw [List.length_map]; omega) ⟨Same.refl _, rfl, none, rfl⟩
      (fun i ys σ' H' h => by rw [h.2.1, List.length_map, List.length_map, List.length_take]; omega) (fun i ys σ' H' h => h.1.seq (SqL.of h3')) ?_ ?_
    · rintro i x ys σ' H' hi ⟨s4, rfl, v, rfl⟩
      rw [List.getElem?_map] at hi
      cases et : ts[i]? with
      | none => rw [et] at hi; cases hi
      | some t =>
        rw [et] at hi
        have ex : x = .str (S t) := (Option.some.inj hi).symm
        subst ex
        refine ⟨t, rfl, (ok4.w t (List.mem_of_getElem? et)).1, fun H5 s5 => ?_⟩
        refine ⟨s4.trans s5, ?_, _, rfl⟩
        rw [List.take_add_one, et, List.map_append, List.map_append]
        rfl
    · rintro ys σ' H' ⟨s4, rfl, v, rfl⟩ D hD
      rw [List.length_map, List.take_length]
      have okb := ok4.bare
      generalize hps : ts.map bareF = ps at okb
      have hnp := okb.n
      have s5 : Same H' (upd H' D (.lst (ps.map fun l => V.str (S l)))) := same_new hD
      have h5 : upd H' D (.lst (ps.map fun l => V.str (S l))) D = some (.lst (ps.map fun l => V.str (S l))) := upd_same
      generalize upd H' D (.lst (ps.map fun l => V.str (S l))) = H5 at s5 h5 ⊢
      have s15 : Same H H5 := (((s1.trans s2).trans s3).trans s4).trans s5
      have hS5 := s15.seq hS
      refine .inl ⟨_, _, hS5, atI_nat (gat 2 (by decide)), ?_⟩
      obtain ⟨n, en, n0, n1⟩ := rk_txt hrk
      refine ⟨n, en, n0, n1, ?_⟩
      refine .inl ⟨_, _, hS5, atI_nat (gat 3 (by decide)), ?_⟩
      refine ⟨_, .inl (SqL.of h5), ?_⟩
      rw [List.length_map]
      refine ⟨by omega, by omega, ?_⟩
      refine gath_range (n := ((ps.length : Nat) : Int).toNat) (fun i ys σ' H' => Same H5 H' ∧ ys = (ps.take i).map (fun l => V.str (S l)) ∧ (∀ l ∈ ps.take i, isKF l = true) ∧ ∃ v, σ' = [v, some (.ref D)]) (by omega) ⟨Same.refl _, rfl, (fun l hl => by simp at hl), none, rfl⟩
        (fun i ys σ' H' h => by rw [h.2.1, List.length_map, List.length_take]; omega) ?_ ?_
      · rintro i ys σ' H' hi ⟨s6, rfl, hk6, v, rfl⟩
        have hi' : i < ps.length := by omega
        have el := List.getElem?_eq_getElem hi'
        generalize ps[i] = l at el
        have eg : ps.getD i [] = l := by rw [List.getD, el]; rfl
        refine ⟨D, ps, i, by rw [Int.zero_add], s6.seq (SqL.of h5), okb, fun hk7 H7 s7 => ?_, fun hk7 H7 => qX ?_ H7⟩
        · refine ⟨s6.trans s7, ?_, fun x hx => ?_, _, rfl⟩
          · rw [List.take_add_one, el, List.map_append, eg]
            rfl
          · rw [List.take_add_one, el] at hx
            rcases List.mem_append.mp hx with z | z
            · exact hk6 x z
            · rw [List.mem_singleton.mp z, ← eg]; exact hk7
        · unfold ruleB
          have : ((ws.drop 4).map bareF).all isKF = false := by
            rw [hts, hps]
            refine Bool.eq_false_iff.mpr fun z => ?_
            have := List.all_eq_true.mp z l (List.mem_of_getElem? el)
            rw [eg, this] at hk7; cases hk7
          rw [this]; simp
      · rintro ys σ' H' ⟨s6, rfl, hk6, v, rfl⟩ D2 hD2
        rw [show ((ps.length : Nat) : Int).toNat = ps.length by omega, List.take_length] at hk6 ⊢
        have s7 : Same H' (upd H' D2 (.lst (ps.map fun l => V.str (S l)))) := same_new hD2
        have h7 : upd H' D2 (.lst (ps.map fun l => V.str (S l))) D2 = some (.lst (ps.map fun l => V.str (S l))) := upd_same
        generalize upd H' D2 (.lst (ps.map fun l => V.str (S l))) = H7 at s7 h7 ⊢
        refine ⟨_, .inl ⟨SqL.of h7, fun tp htp => ?_⟩⟩
        have s8 : Same H7 (upd H7 tp (.tup (ps.map fun l => V.str (S l)))) := same_new htp
        have h8 : upd H7 tp (.tup (ps.map fun l => V.str (S l))) tp = some (.tup (ps.map fun l => V.str (S l))) := upd_same
        generalize upd H7 tp (.tup (ps.map fun l => V.str (S l))) = H8 at s8 h8 ⊢
        refine ⟨(show 4 ≤ sizeLine by decide), fun t ht => ?_⟩
        have s9 : Same H8 (upd H8 t (.tup [.str (S (ws.getD 1 [])), .int n, .str (S (ws.getD 3 [])), .ref tp])) := same_new ht
        refine qO ?_ _ (.ref t) ((((s15.trans s6).trans s7).trans s8).trans s9) ⟨t, tp, n, _, rfl, SqT.of upd_same, ?_⟩
        · unfold ruleB
          rw [decide_eq_true l4, hk, hrk, hsd, hts, hps, List.all_eq_true.mpr hk6]; rfl
        · show SqT K _ tp (((ws.drop 4).map bareF).map fun l => V.str (S l))
          rw [hts, hps]
          exact SqT.of (s9 _ _ h8)
def NotAt (K : PySem.W.Frag) (H : Hp) (x : V) (q : Int × Int) : Prop := ∃ t : Addr, x = .ref t ∧ SqT K H t [.int q.1, .int q.2]
def badAt (sorts : List W) (q : W × List W) (r : Int) : Bool := decide (0 ≤ r) && (sorts.any fun s => s == q.2.getD r.toNat [])
def notesB (rs : List (W × List W)) (ns : List (Int × Int)) : Bool := (rs.zip ns).any fun x => badAt (rs.map Prod.fst) x.1 x.2.1 || badAt (rs.map Prod.fst) x.1 x.2.2
theorem inV_any (l : W) (ss : List W) : inV (.str (S l)) (ss.map fun s => V.str (S s)) = ss.any fun s => s == l := by
  induction ss with
  | nil => rfl
  | cons s r ih =>
    show (((S s : Str) == S l) || inV (.str (S l)) (r.map fun s => V.str (S s))) = _
    rw [beqS, ih]; rfl
theorem flat_strs (ks : List W) : (ks.map fun k => V.str (S k)).all flatV = true := by
  rw [List.all_eq_true]
  intro x hx
  obtain ⟨k, _, rfl⟩ := List.mem_map.mp hx
  rfl
def spCN (K : PySem.W.Frag) (CR : Addr) : Sp := fun vs H Q E => ∃ (ra na : Addr) (rl nl : List V) (rs : List (W × List W)) (ns : List (Int × Int)), vs = [.ref ra, .ref na] ∧ H ra = some (.lst rl) ∧ H na = some (.lst nl) ∧ All2 (RulAt K H) rl rs ∧ All2 (NotAt K H) nl ns ∧ rs.length = ns.length ∧ rs.length ≤ 60 ∧
  (∀ (i : Nat) (q : W × List W) (n : Int × Int), rs[i]? = some q → ns[i]? = some n → (n.1 < q.2.length ∧ n.2 < q.2.length) ∧ ∀ t ∈ q.2, t.length ≤ 200 ∧ low t) ∧ notesB rs ns = true ∧ ∀ H', E (.ref CR) none H'
abbrev st_check_notes : Stmt := top 37
theorem sc_check_notes : FnScope ["rules", "notes", "rule", "sorts", "note", "place", "sort"] ["rules", "notes"] (defScope st_check_notes) := ⟨rfl, rfl, rfl, by decide +kernel, rfl, by decide +kernel, by decide +kernel⟩
theorem def_cn (R : Raw K mg "check_notes" st_check_notes ["rules", "notes"]) (T : Txt2 K w mg aN aD aS CR) : DefX P w K mg base 1 "check_notes" ["rules", "notes"] (spCN K CR) := by
  refine R.defX sc_check_notes (fun vs H Q E h => ?_) (fun f cdv A outer s H vs Q E hr h => ?_)
  · obtain ⟨ra, na, rl, nl, rs, ns, rfl, _⟩ := h
    rfl
  · obtain ⟨ra, na, rl, nl, rs, ns, rfl, hR, hN, hDr, hDn, hrn, hql, hok, hbad, qX⟩ := h
    have sc := sc_check_notes
    have hu := hr.units
    have hb := big
    have hrl := hDr.1
    have hnl := hDn.1
    refine ⟨_, (jss_cons (js_comp (i := 3) (N := ["rule"]) (cap := [none]) rfl (CompScope.of rfl (by rfl)) (ji_any (K := K) (jn 0)) (fun _ _ _ _ => (jg_name (i := 0) (show List.Nodup [("rule" : Str)] by decide +kernel) rfl (Or.inl rfl))) (fun _ _ _ _ => jts_nil) (fun _ _ _ _ => (j_ix (o_ix hu (K := K) (w := w)) (jn 0) j_int)) sc.nd rfl rfl)
    (jss_one (js_for passes_loop rfl (ji_zip (K := K) rfl T.n_zip (ja_cons (jn 0) (ja_cons (jn 1) ja_nil))) (jg_tup (K := K) (n := 2) rfl (jgs_cons (jg_name (i := 2) sc.nd rfl (Or.inl rfl)) (jgs_cons (jg_name (i := 4) sc.nd rfl (Or.inl rfl)) jgs_nil)))
    (jss_one (js_for passes_loop rfl (ji_any (K := K) (jn 4)) (jg_name (i := 5) sc.nd rfl (Or.inl rfl))
    (jss_one (js_if (jw_t (jw_and (jt_cmp o_ge (jn 5) j_int) (jw_and1 (jt_cmp (o_inA hu (K := K)) (j_ix (o_ix hu (K := K) (w := w)) (j_ix (o_ix hu (K := K) (w := w)) (jn 2) j_int) (jn 5)) (jn 3)))))
    (jss_cons (js_set (i := 6) sc.nd rfl (Or.inl rfl) (j_ix (o_ix hu (K := K) (w := w)) (j_ix (o_ix hu (K := K) (w := w)) (jn 2) j_int) (jn 5)))
    (jss_one (js_raise rfl T.c_NoRow T.x_NoRow (ja_cons (j_fs (jfs_cons jf_str (jfs_cons (jf_repr (jn 6)) jfs_nil))) ja_nil))))
    jss_nil))))))), ?_⟩
    refine .inl ⟨⟨_, SqL.of hR⟩, ?_⟩
    refine gath_list (xs := rl) (fun i ys σ' H' => H' = H ∧ ys = ((rs.take i).map Prod.fst).map (fun q => V.str (S q)) ∧ ∃ v, σ' = [v]) (by omega) ⟨rfl, rfl, none, rfl⟩
      (fun i ys σ' H' h => by rw [h.2.1, List.length_map, List.length_map, List.length_take]; omega) (fun i ys σ' H' h => by rw [h.1]; exact SqL.of hR) ?_ ?_
    · rintro i x ys σ' H' hi ⟨rfl, rfl, v, rfl⟩
      have hil := (List.getElem?_eq_some_iff.mp hi).1
      have ee : rs[i]? = some rs[i] := List.getElem?_eq_getElem (by omega)
      generalize rs[i] = g at ee
      obtain ⟨t, tp, n, sd, rfl, hT, _⟩ := hDr.2 i x g hi ee
      refine .inr ⟨_, .str (S g.1), hT, atI_nat (j := 0) rfl, ?_⟩
      refine ⟨rfl, ?_, _, rfl⟩
      rw [List.take_add_one, ee, List.map_append, List.map_append]
      rfl
    · rintro ys σ' H' ⟨rfl, rfl, v, rfl⟩ D hD
      rw [hrl, List.take_length]
      have s1 : Same H' (upd H' D (.lst ((rs.map Prod.fst).map fun q => V.str (S q)))) := same_new hD
      have h1 : upd H' D (.lst ((rs.map Prod.fst).map fun q => V.str (S q))) D = some (.lst ((rs.map Prod.fst).map fun q => V.str (S q))) := upd_same
      generalize upd H' D (.lst ((rs.map Prod.fst).map fun q => V.str (S q))) = H1 at s1 h1 ⊢
      refine ⟨false, false, ⟨_, SqL.of (s1 _ _ hR)⟩, ⟨_, SqL.of (s1 _ _ hN)⟩, ?_⟩
      refine for_zip (K := K) (t1 := false) (t2 := false) (a := ra) (b := na) (xs := rl) (ys := nl) (fun i σ H2 => Same H1 H2 ∧ (((rs.zip ns).take i).any fun x => badAt (rs.map Prod.fst) x.1 x.2.1 || badAt (rs.map Prod.fst) x.1 x.2.2) = false ∧ ∃ (v2 v4 v5 v6 : Option V), σ = [some (.ref ra), some (.ref na), v2, some (.ref D), v4, v5, v6]) ⟨Same.refl _, rfl, none, none, none, none, rfl⟩ (by omega)
        (fun i σ H2 _ h => ⟨SqL.of (h.1 _ _ (s1 _ _ hR)), SqL.of (h.1 _ _ (s1 _ _ hN))⟩) ?_ ?_
      · rintro i x y σ H2 hi hy ⟨s2, hno, v2, v4, v5, v6, rfl⟩ T3 hT3
        have hil := (List.getElem?_eq_some_iff.mp hi).1
        have ee : rs[i]? = some rs[i] := List.getElem?_eq_getElem (by omega)
        have en : ns[i]? = some ns[i] := List.getElem?_eq_getElem (by omega)
        generalize rs[i] = g at ee
        generalize ns[i] = m at en
        have hgm := hok i g m ee en
        have ez : (rs.zip ns)[i]? = some (g, m) := by rw [List.getElem?_zip_eq_some]; exact ⟨ee, en⟩
        obtain ⟨t, tp, n, sd, rfl, hT, hTp⟩ := hDr.2 i x g hi ee
        obtain ⟨tn, rfl, hTn⟩ := hDn.2 i y m hy en
        have s3 : Same H2 (upd H2 T3 (.tup [.ref t, .ref tn])) := same_new hT3
        have h3 : upd H2 T3 (.tup [.ref t, .ref tn]) T3 = some (.tup [.ref t, .ref tn]) := upd_same
        generalize upd H2 T3 (.tup [.ref t, .ref tn]) = H3 at s3 h3 ⊢
        have s13 : Same H' H3 := (s1.trans s2).trans s3
        refine ⟨T3, _, rfl, SqT.of h3, rfl, _, _, rfl, _, _, rfl, rfl, ?_⟩
        refine .inr ⟨⟨_, s13.seqT hTn⟩, ?_⟩
        refine for_tup (K := K) (a := tn) (xs := [.int m.1, .int m.2]) (fun j σ H4 => H4 = H3 ∧ (1 ≤ j → badAt (rs.map Prod.fst) g m.1 = false) ∧ (2 ≤ j → badAt (rs.map Prod.fst) g m.2 = false) ∧ ∃ (v5 v6 : Option V), σ = [some (.ref ra), some (.ref na), some (.ref t), some (.ref D), some (.ref tn), v5, v6]) ⟨rfl, (fun z => by omega), (fun z => by omega), v5, v6, rfl⟩
          (fun j σ H4 _ h => by rw [h.1]; exact s13.seqT hTn) ?_ ?_
        · rintro j z σ H4 hj ⟨rfl, b1, b2, v5, v6, rfl⟩
          obtain ⟨r, rfl, hlt, hset⟩ : ∃ r : Int, z = .int r ∧ r < g.2.length ∧ (badAt (rs.map Prod.fst) g r = false → (1 ≤ j + 1 → badAt (rs.map Prod.fst) g m.1 = false) ∧ (2 ≤ j + 1 → badAt (rs.map Prod.fst) g m.2 = false)) := by
            match j, hj with
            | 0, hj => exact ⟨m.1, (Option.some.inj hj).symm, hgm.1.1, fun e => ⟨fun _ => e, fun z => by omega⟩⟩
            | 1, hj => exact ⟨m.2, (Option.some.inj hj).symm, hgm.1.2, fun e => ⟨fun _ => b1 (by omega), fun _ => e⟩⟩
          show if decide (r ≥ (0 : Int)) = true then _ else _
          refine ite2 (fun h => ?_) (fun h => ?_)
          · have h0 : 0 ≤ r := of_decide_eq_true h
            have hlt' : r.toNat < g.2.length := by omega
            have el := List.getElem?_eq_getElem hlt'
            generalize g.2[r.toNat] = l at el
            have eg : g.2.getD r.toNat [] = l := by rw [List.getD, el]; rfl
            have atl : atI (g.2.map fun l => V.str (S l)) r = some (.str (S l)) := by
              have key := atI_nat (xs := g.2.map fun l => V.str (S l)) (j := r.toNat) (v := .str (S l)) (by rw [List.getElem?_map, el]; rfl)
              rw [show ((r.toNat : Nat) : Int) = r by omega] at key
              exact key
            refine .inr ⟨_, .ref tp, s13.seqT hT, atI_nat (j := 3) rfl, ?_⟩
            refine .inr ⟨_, .str (S l), s13.seqT hTp, atl, ?_⟩
            refine .inl ⟨_, .inl (SqL.of ((s2.trans s3) _ _ h1)), rfl, flat_strs _, ?_⟩
            rw [inV_any]
            show if (false ^^ ((rs.map Prod.fst).any fun s => s == l)) = true then _ else _
            rw [Bool.false_xor]
            refine ite2 (fun hin => ?_) (fun hin => ?_)
            · refine .inr ⟨_, .ref tp, s13.seqT hT, atI_nat (j := 3) rfl, ?_⟩
              refine .inr ⟨_, .str (S l), s13.seqT hTp, atl, ?_⟩
              exact ⟨⟨trivial, ⟨rfl, rep_ok (hgm.2 l (List.mem_of_getElem? el))⟩, trivial⟩, fun y _ => ⟨(show 1 ≤ sizeLine by decide), qX _⟩⟩
            · have e : badAt (rs.map Prod.fst) g r = false := by
                unfold badAt
                rw [eg, Bool.eq_false_iff.mpr hin]; simp
              exact ⟨rfl, (hset e).1, (hset e).2, _, _, rfl⟩
          · have e : badAt (rs.map Prod.fst) g r = false := by
              unfold badAt
              rw [decide_eq_false (fun z => h (decide_eq_true z))]; rfl
            exact ⟨rfl, (hset e).1, (hset e).2, _, _, rfl⟩
        · rintro σ H4 ⟨rfl, b1, b2, v5, v6, rfl⟩
          refine ⟨s2.trans s3, ?_, _, _, _, _, rfl⟩
          rw [List.take_add_one, ez, List.any_append, hno]
          show (false || ((badAt (rs.map Prod.fst) g m.1 || badAt (rs.map Prod.fst) g m.2) || false)) = false
          rw [b1 (show 1 ≤ 2 by decide), b2 (show 2 ≤ 2 by decide)]; rfl
      · rintro σ H2 ⟨s2, hno, v2, v4, v5, v6, rfl⟩
        have hz : (rs.zip ns).length = rl.length := by rw [List.length_zip]; omega
        rw [← hz, List.take_length] at hno
        unfold notesB at hbad
        rw [hno] at hbad; cases hbad
end
end K81

set_option Elab.async false
set_option linter.all false
set_option maxRecDepth 100000
set_option maxHeartbeats 4000000





--@RAISES but law
namespace K81
open PySem PySem.Spec PyProof.Rows L2 Rg
structure Gs where
  nb : Nat
  es : List W
  rs : List (W × List W)
  ns : List (Int × Int)
abbrev gapW : W := [103, 97, 112]
abbrev wordW : W := [119, 111, 114, 100]
abbrev ruleW : W := [114, 117, 108, 101]
def deedW (t : W) : Bool := inV (.str (S t)) [.str "stop", .str "open", .str "close"]
def formed (st : Gs) (fw : List W) : Except Cl Gs := match putFormF st.nb fw with
  | some c => .error c
  | none => .ok { st with nb := st.nb + 1 }
def rowF (st : Gs) (ws : List W) : Except Cl Gs :=
  if ws = [[]] then .ok st
  else if (ws.any fun t => t == []) = true then .error .nr
  else if ws.getD 0 [] = gapW then formed st (ws.drop 1)
  else if ws.getD 0 [] = wordW then (if isKF (ws.getD 1 []) = true then formed st (ws.drop 2) else .error .nr)
  else if deedW (ws.getD 0 []) = true then (if putEndF st.es ws = true then .ok { st with es := st.es ++ [ws.getD 1 []] } else .error .nr)
  else if ws.getD 0 [] = ruleW then (if ruleB ws = true then (if noteB (ws.drop 4) = true then .ok { st with rs := st.rs ++ [(ws.getD 1 [], (ws.drop 4).map bareF)], ns := st.ns ++ [(plF 63 (ws.drop 4), plF 33 (ws.drop 4))] } else .error .nr) else .error .nr)
  else .error .nr
def gramF (st : Gs) : List (List W) → Option Cl
  | [] => if notesB st.rs st.ns = true then some .nr else none
  | r :: rest => match rowF st r with
    | .error c => some c
    | .ok st' => gramF st' rest
structure RowOk (ws : List W) : Prop where
  ne : ws ≠ []
  ok : WsOk ws
  bl : ∀ t ∈ ws, 32 ∉ t ∧ 10 ∉ t
  sz : (joinWith [32] ws).length ≤ 2000
theorem join_mem {c : Nat} : ∀ {ps : List (List Nat)}, c ∈ joinWith [32] ps → c = 32 ∨ ∃ p ∈ ps, c ∈ p
  | [], h => by cases h
  | [p], h => .inr ⟨p, List.mem_cons_self, h⟩
  | p :: q :: r, h => by
    have h' : c ∈ p ++ [32] ++ joinWith [32] (q :: r) := h
    rcases List.mem_append.mp h' with z | z
    · rcases List.mem_append.mp z with z | z
      · exact .inr ⟨p, List.mem_cons_self, z⟩
      · exact .inl (List.mem_singleton.mp z)
    · rcases join_mem z with z | ⟨x, hx, hc⟩
      · exact .inl z
      · exact .inr ⟨x, List.mem_cons_of_mem _ hx, hc⟩
theorem join_drop : ∀ (ps : List (List Nat)) (k : Nat), (joinWith [32] (ps.drop k)).length ≤ (joinWith [32] ps).length
  | [], k => by simp
  | p :: r, 0 => Nat.le_refl _
  | [p], k + 1 => by simp [joinWith]
  | p :: q :: r, k + 1 => by
    have ih := join_drop (q :: r) k
    show (joinWith [32] ((q :: r).drop k)).length ≤ (p ++ [32] ++ joinWith [32] (q :: r)).length
    rw [List.length_append]
    omega
theorem RowOk.tl {ws : List W} (h : RowOk ws) (k : Nat) : Tl (joinWith [32] (ws.drop k)) := by
  refine ⟨Nat.le_trans (join_drop ws k) h.sz, fun c hc => ?_⟩
  rcases join_mem hc with z | ⟨p, hp, z⟩
  · omega
  · have := (h.ok.w p (List.mem_of_mem_drop hp)).2 c z
    omega
theorem RowOk.split {ws : List W} (h : RowOk ws) : splitOn 32 (joinWith [32] ws) = ws := splitOn_join h.ne fun p hp => (h.bl p hp).1
theorem RowOk.no10 {ws : List W} (h : RowOk ws) : 10 ∉ joinWith [32] ws := fun z => by
  rcases join_mem z with z | ⟨p, hp, z⟩
  · omega
  · exact (h.bl p hp).2 z
theorem join_nil {ws : List W} (h : ws ≠ []) : joinWith [32] ws = [] ↔ ws = [[]] := by
  match ws, h with
  | [p], _ =>
    constructor
    · intro e
      have : p = [] := e
      rw [this]
    · intro e
      rw [e]; rfl
  | p :: q :: r, _ =>
    constructor
    · intro e
      have h2 := congrArg List.length e
      have h3 : (joinWith [32] (p :: q :: r)).length = (p ++ [32] ++ joinWith [32] (q :: r)).length := rfl
      rw [h3, List.length_append, List.length_append] at h2
      simp at h2
    · intro e; cases e
section
variable {P : Program} {w : World} {K : PySem.W.Frag} {mg : Str → Option Value} {base : Heap} {aN aD aS CR CF : Addr}
structure GSt (K : PySem.W.Frag) (H : Hp) (b1 b2 b3 b4 : Addr) (l1 l2 l3 l4 : List V) (st : Gs) : Prop where
  h1 : H b1 = some (.lst l1)
  h2 : H b2 = some (.lst l2)
  h3 : H b3 = some (.lst l3)
  h4 : H b4 = some (.lst l4)
  n1 : l1.length = st.nb
  a2 : All2 (RulAt K H) l2 st.rs
  a3 : All2 (EndAt K H) l3 st.es
  a4 : All2 (NotAt K H) l4 st.ns
structure GsOk (st : Gs) (i : Nat) : Prop where
  nb : st.nb ≤ 24
  es : st.es.length ≤ 24
  rs : st.rs.length ≤ i
  rn : st.rs.length = st.ns.length
  in_ : ∀ (j : Nat) (q : W × List W) (n : Int × Int), st.rs[j]? = some q → st.ns[j]? = some n → (n.1 < q.2.length ∧ n.2 < q.2.length) ∧ ∀ t ∈ q.2, t.length ≤ 200 ∧ low t
theorem RulAt.on {H H' : Hp} (m : ∀ t xs, SqT K H t xs → SqT K H' t xs) {x : V} {q : W × List W} (h : RulAt K H x q) : RulAt K H' x q := by
  obtain ⟨t, tp, n, sd, e, h1, h2⟩ := h
  exact ⟨t, tp, n, sd, e, m _ _ h1, m _ _ h2⟩
theorem EndAt.on {H H' : Hp} (m : ∀ t xs, SqT K H t xs → SqT K H' t xs) {x : V} {q : W} (h : EndAt K H x q) : EndAt K H' x q := by
  obtain ⟨t, d, e, h1⟩ := h
  exact ⟨t, d, e, m _ _ h1⟩
theorem NotAt.on {H H' : Hp} (m : ∀ t xs, SqT K H t xs → SqT K H' t xs) {x : V} {q : Int × Int} (h : NotAt K H x q) : NotAt K H' x q := by
  obtain ⟨t, e, h1⟩ := h
  exact ⟨t, e, m _ _ h1⟩
theorem seqT_rem {H H' : Hp} {b : Addr} {l : List V} (hb : H b = some (.lst l)) (s : Same (rem [b] H) H') (t : Addr) (xs : List V) (h : SqT K H t xs) : SqT K H' t xs := by
  have ne : ∀ {u : HO}, H t = some u → (∀ l, u ≠ .lst l) → t ∉ [b] := fun {u} e n z => by
    rw [List.mem_singleton.mp z, hb] at e
    exact n l (Option.some.inj e).symm
  rcases h with (h | ⟨o', h⟩) | h
  · exact .inl (.inl (s _ _ (by rw [rem_out (ne h fun l z => nomatch z)]; exact h)))
  · exact .inl (.inr ⟨o', s _ _ (by rw [rem_out (ne h fun l z => nomatch z)]; exact h)⟩)
  · exact .inr h
theorem lst_rem {H H' : Hp} {b c : Addr} {l : List V} (n : c ≠ b) (s : Same (rem [b] H) H') (h : H c = some (.lst l)) : H' c = some (.lst l) :=
  s _ _ (by rw [rem_out fun z => n (List.mem_singleton.mp z)]; exact h)
section
variable {H H' : Hp} {b1 b2 b3 b4 : Addr} {l1 l2 l3 l4 : List V} {st : Gs}
theorem GSt.same (g : GSt K H b1 b2 b3 b4 l1 l2 l3 l4 st) (s : Same H H') : GSt K H' b1 b2 b3 b4 l1 l2 l3 l4 st :=
  ⟨s _ _ g.h1, s _ _ g.h2, s _ _ g.h3, s _ _ g.h4, g.n1, g.a2.mono fun x a => RulAt.on fun _ _ h => s.seqT h, g.a3.mono fun x a => EndAt.on fun _ _ h => s.seqT h, g.a4.mono fun x a => NotAt.on fun _ _ h => s.seqT h⟩
end
def spGO (K : PySem.W.Frag) (CR CF : Addr) : Sp := fun vs H Q E => ∃ (rows : List (List W)) (c : Cl), vs = [.str (S (joinWith [10] (rows.map (joinWith [32]))))] ∧ rows ≠ [] ∧ rows.length ≤ 60 ∧ (∀ r ∈ rows, RowOk r) ∧ gramF ⟨0, [], [], []⟩ rows = some c ∧ ∀ H', E (.ref (clA CR CF c)) none H'
end
end K81

set_option Elab.async false
set_option linter.all false
set_option maxRecDepth 100000
set_option maxHeartbeats 4000000





--@RAISES but law
namespace K81
open PySem PySem.Spec PyProof.Rows L2 Rg
theorem join_le {c B : Nat} : ∀ {ps : List (List Nat)}, (∀ p ∈ ps, p.length ≤ B) → (joinWith [c] ps).length ≤ ps.length * (B + 1)
  | [], _ => by simp [joinWith]
  | [p], h => by have := h p List.mem_cons_self; simp [joinWith]; omega
  | p :: q :: r, h => by
    have ih := join_le (c := c) (B := B) (ps := q :: r) fun x hx => h x (List.mem_cons_of_mem _ hx)
    have h1 := h p List.mem_cons_self
    show (p ++ [c] ++ joinWith [c] (q :: r)).length ≤ (q :: r).length.succ * (B + 1)
    rw [List.length_append, List.length_append, Nat.succ_mul]
    show p.length + 1 + _ ≤ _
    omega
theorem place_in {c : Nat} {ws : List W} : plF c ws < ws.length := by
  unfold plF
  cases e : placesF c 0 ws with
  | nil => show (-1 : Int) < _; omega
  | cons p r =>
    have := places_lt c 0 ws p (by rw [e]; exact List.mem_cons_self)
    show (p : Int) < _
    omega
section
variable {P : Program} {w : World} {K : PySem.W.Frag} {mg : Str → Option Value} {base : Heap} {aN aD aS CR CF : Addr}
abbrev st_grammar_of : Stmt := top 27
theorem sc_grammar_of : FnScope ["text", "book", "rules", "ends", "notes", "row", "words"] ["text"] (defScope st_grammar_of) := ⟨rfl, rfl, rfl, by decide +kernel, rfl, by decide +kernel, by decide +kernel⟩
theorem def_go (R : Raw K mg "grammar_of" st_grammar_of ["text"]) (T : Txt2 K w mg aN aD aS CR) (D_check_notes : DefX P w K mg base 1 "check_notes" ["rules", "notes"] (spCN K CR)) (D_kind_at : DefX P w K mg base 2 "kind_at" ["words", "place"] (spKA K CR)) (D_note_of : DefX P w K mg base 2 "note_of" ["words"] (spNote K CR))
    (D_put_end : DefX P w K mg base 3 "put_end" ["ends", "words"] (spPE K CR)) (D_put_form : DefX P w K mg base 4 "put_form" ["book", "kind", "words"] (spPF K CR CF)) (D_rule_of : DefX P w K mg base 3 "rule_of" ["words"] (spRule K CR)) : DefX P w K mg base 5 "grammar_of" ["text"] (spGO K CR CF) := by
  refine R.defX sc_grammar_of (fun vs H Q E h => ?_) (fun f cdv A outer s H vs Q E hr h => ?_)
  · obtain ⟨rows, c, rfl, _⟩ := h
    rfl
  · obtain ⟨rows, c, rfl, hne, hrl, rok, hg, qX⟩ := h
    have sc := sc_grammar_of
    have hu := hr.units
    have hb := big
    have h10 : splitOn 10 (joinWith [10] (rows.map (joinWith [32]))) = rows.map (joinWith [32]) := splitOn_join (by simpa using hne) fun p hp => by
      obtain ⟨r, hr, rfl⟩ := List.mem_map.mp hp
      exact (rok r hr).no10
    have htx : (joinWith [10] (rows.map (joinWith [32]))).length ≤ 200000 := by
      refine Nat.le_trans (join_le (B := 2000) fun p hp => ?_) ?_
      · obtain ⟨r, hr, rfl⟩ := List.mem_map.mp hp
        exact (rok r hr).sz
      · rw [List.length_map]; omega
    generalize joinWith [10] (rows.map (joinWith [32])) = tx at h10 htx ⊢
    refine ⟨_, (jss_cons (js_set (i := 1) sc.nd rfl (Or.inl rfl) (j_lst ja_nil))
    (jss_cons (js_set (i := 2) sc.nd rfl (Or.inl rfl) (j_lst ja_nil))
    (jss_cons (js_set (i := 3) sc.nd rfl (Or.inl rfl) (j_lst ja_nil))
    (jss_cons (js_set (i := 4) sc.nd rfl (Or.inl rfl) (j_lst ja_nil))
    (jss_cons (js_for passes_loop rfl (ji_any (K := K) (j_bm (K := K) PySem.F.plainAttrs_str PySem.F.slot_str_split PySem.F.type_str_split m_split (jn 0) (ja_cons j_str ja_nil))) (jg_name (i := 5) sc.nd rfl (Or.inl rfl))
    (jss_cons (js_set (i := 6) sc.nd rfl (Or.inl rfl) (j_bm (K := K) PySem.F.plainAttrs_str PySem.F.slot_str_split PySem.F.type_str_split m_split (jn 5) (ja_cons j_str ja_nil)))
    (jss_cons (js_if (jt_cmp (o_eq hu (K := K)) (jn 5) j_str)
    (jss_one js_continue)
    jss_nil)
    (jss_cons (js_if (jt_cmp (o_inA hu (K := K)) j_str (jn 6))
    (jss_one (js_raise rfl T.c_NoRow T.x_NoRow (ja_cons (j_fs (jfs_cons jf_str (jfs_cons (jf_repr (jn 5)) jfs_nil))) ja_nil)))
    jss_nil)
    (jss_one (js_if (jt_cmp (o_eq hu (K := K)) (j_ix (o_ix hu (K := K) (w := w)) (jn 6) j_int) j_str)
    (jss_one (js_expr (j_defX D_put_form (hr.mono (by decide)) rfl (ja_cons (jn 1) (ja_cons (j_gstr rfl T.g_GAP) (ja_cons (j_slice (o_slA (K := K)) (jn 6) (jo_some j_int) jo_none) ja_nil))) pass1)))
    (jss_one (js_if (jt_cmp (o_eq hu (K := K)) (j_ix (o_ix hu (K := K) (w := w)) (jn 6) j_int) j_str)
    (jss_one (js_expr (j_defX D_put_form (hr.mono (by decide)) rfl (ja_cons (jn 1) (ja_cons (j_defX D_kind_at (hr.mono (by decide)) rfl (ja_cons (jn 6) (ja_cons j_int ja_nil)) pass1) (ja_cons (j_slice (o_slA (K := K)) (jn 6) (jo_some j_int) jo_none) ja_nil))) pass1)))
    (jss_one (js_if (jt_cmp (o_inA hu (K := K)) (j_ix (o_ix hu (K := K) (w := w)) (jn 6) j_int) (j_glob (v := .ref _) rfl T.g_DEEDS_grammars rfl))
    (jss_one (js_expr (j_defX D_put_end (hr.mono (by decide)) rfl (ja_cons (jn 3) (ja_cons (jn 6) ja_nil)) pass1)))
    (jss_one (js_if (jt_cmp (o_eq hu (K := K)) (j_ix (o_ix hu (K := K) (w := w)) (jn 6) j_int) j_str)
    (jss_cons (js_expr (j_bm (K := K) PySem.F.plainAttrs_list PySem.F.slot_list_append PySem.F.type_list_append m_append (jn 2) (ja_cons (j_defX D_rule_of (hr.mono (by decide)) rfl (ja_cons (jn 6) ja_nil) pass1) ja_nil)))
    (jss_one (js_expr (j_bm (K := K) PySem.F.plainAttrs_list PySem.F.slot_list_append PySem.F.type_list_append m_append (jn 4) (ja_cons (j_defX D_note_of (hr.mono (by decide)) rfl (ja_cons (j_slice (o_slA (K := K)) (jn 6) (jo_some j_int) jo_none) ja_nil) pass1) ja_nil)))))
    (jss_one (js_raise rfl T.c_NoRow T.x_NoRow (ja_cons (j_fs (jfs_cons jf_str (jfs_cons (jf_repr (jn 5)) jfs_nil))) ja_nil)))))))))))))))
    (jss_cons (js_expr (j_defX D_check_notes (hr.mono (by decide)) rfl (ja_cons (jn 2) (ja_cons (jn 4) ja_nil)) pass1))
    (jss_one (js_ret (j_tup (ja_cons (jn 1) (ja_cons (jn 2) (ja_cons (jn 3) (ja_cons (jn 4) ja_nil))))))))))))), ?_⟩
    refine ⟨(show 0 ≤ sizeLine by decide), fun b1 hb1 => ?_⟩
    have h1 : upd H b1 (.lst []) b1 = some (.lst []) := upd_same
    generalize upd H b1 (.lst []) = H1 at h1 ⊢
    refine ⟨(show 0 ≤ sizeLine by decide), fun b2 hb2 => ?_⟩
    have s2 : Same H1 (upd H1 b2 (.lst [])) := same_new hb2
    have h2 : upd H1 b2 (.lst []) b2 = some (.lst []) := upd_same
    generalize upd H1 b2 (.lst []) = H2 at s2 h2 ⊢
    refine ⟨(show 0 ≤ sizeLine by decide), fun b3 hb3 => ?_⟩
    have s3 : Same H2 (upd H2 b3 (.lst [])) := same_new hb3
    have h3 : upd H2 b3 (.lst []) b3 = some (.lst []) := upd_same
    generalize upd H2 b3 (.lst []) = H3 at s3 h3 ⊢
    refine ⟨(show 0 ≤ sizeLine by decide), fun b4 hb4 => ?_⟩
    have s4 : Same H3 (upd H3 b4 (.lst [])) := same_new hb4
    have h4 : upd H3 b4 (.lst []) b4 = some (.lst []) := upd_same
    generalize upd H3 b4 (.lst []) = H4 at s4 h4 ⊢
    have n21 : b2 ≠ b1 := fun z => by rw [z, h1] at hb2; cases hb2
    have n31 : b3 ≠ b1 := fun z => by rw [z, s2 _ _ h1] at hb3; cases hb3
    have n32 : b3 ≠ b2 := fun z => by rw [z, h2] at hb3; cases hb3
    have n41 : b4 ≠ b1 := fun z => by rw [z, s3 _ _ (s2 _ _ h1)] at hb4; cases hb4
    have n42 : b4 ≠ b2 := fun z => by rw [z, s3 _ _ h2] at hb4; cases hb4
    have n43 : b4 ≠ b3 := fun z => by rw [z, h3] at hb4; cases hb4
    have G0 : GSt K H4 b1 b2 b3 b4 [] [] [] [] ⟨0, [], [], []⟩ := ⟨s4 _ _ (s3 _ _ (s2 _ _ h1)), s4 _ _ (s3 _ _ h2), s4 _ _ h3, h4, rfl, .nil, .nil, .nil⟩
    clear h1 h2 h3 h4 s2 s3 s4 hb1 hb2 hb3 hb4
    have esp : Txt.split (S tx) (Str.ofString "\n") = rows.map fun r => S (joinWith [32] r) := by
      have e1 := split_S tx 10 (by decide)
      rw [h10, List.map_map] at e1
      exact e1
    refine ⟨rfl, by decide, by rw [S_len]; omega, by rw [esp, List.length_map]; omega, fun p hp => ?_⟩
    rw [esp, List.map_map]
    have s5 : Same H4 (upd H4 p (.lst (rows.map (V.str ∘ fun r => S (joinWith [32] r))))) := same_new hp
    have h5 : upd H4 p (.lst (rows.map (V.str ∘ fun r => S (joinWith [32] r)))) p = some (.lst (rows.map (V.str ∘ fun r => S (joinWith [32] r)))) := upd_same
    have np1 : p ≠ b1 := fun z => by rw [z, G0.h1] at hp; cases hp
    have np2 : p ≠ b2 := fun z => by rw [z, G0.h2] at hp; cases hp
    have np3 : p ≠ b3 := fun z => by rw [z, G0.h3] at hp; cases hp
    have np4 : p ≠ b4 := fun z => by rw [z, G0.h4] at hp; cases hp
    generalize upd H4 p (.lst (rows.map (V.str ∘ fun r => S (joinWith [32] r)))) = H5 at s5 h5 ⊢
    refine .inl ⟨⟨_, SqL.of h5⟩, ?_⟩
    refine for_list (K := K) (a := p) (xs := rows.map (V.str ∘ fun r => S (joinWith [32] r))) (fun i σ H' => ∃ (l1 l2 l3 l4 : List V) (st : Gs) (v5 v6 : Option V), H' p = some (.lst (rows.map (V.str ∘ fun r => S (joinWith [32] r)))) ∧ GSt K H' b1 b2 b3 b4 l1 l2 l3 l4 st ∧ GsOk st i ∧ gramF st (rows.drop i) = some c ∧ σ = [some (.str (S tx)), some (.ref b1), some (.ref b2), some (.ref b3), some (.ref b4), v5, v6])
      ⟨[], [], [], [], ⟨0, [], [], []⟩, none, none, h5, G0.same s5, ⟨Nat.zero_le _, Nat.zero_le _, Nat.zero_le _, rfl, (fun j q n e => by cases e)⟩, hg, rfl⟩ (fun i σ H' _ h => by obtain ⟨l1, l2, l3, l4, st, v5, v6, hh, _⟩ := h; exact SqL.of hh) ?_ ?_
    · rintro i x σ H' hi ⟨l1, l2, l3, l4, st, v5, v6, hP, G, gok, hgr, rfl⟩
      rw [List.getElem?_map] at hi
      cases er : rows[i]? with
      | none => rw [er] at hi; cases hi
      | some ws =>
        rw [er] at hi
        have ex : x = .str (S (joinWith [32] ws)) := (Option.some.inj hi).symm
        subst ex
        have ok := rok ws (List.mem_of_getElem? er)
        have hwn := ok.ok.n
        have hil := (List.getElem?_eq_some_iff.mp er).1
        have edr : rows.drop i = ws :: rows.drop (i + 1) := by
          rw [List.drop_eq_getElem_cons hil]
          congr 1
          rw [List.getElem?_eq_getElem hil] at er
          exact Option.some.inj er
        rw [edr] at hgr
        have take_ : ∀ st', rowF st ws = .ok st' → gramF st' (rows.drop (i + 1)) = some c := fun st' e => by
          unfold gramF at hgr
          rw [e] at hgr
          exact hgr
        have bad : ∀ c', rowF st ws = .error c' → ∀ H', E (.ref (clA CR CF c')) none H' := fun c' e H' => by
          unfold gramF at hgr
          rw [e] at hgr
          rw [Option.some.inj hgr]
          exact qX H'
        have esr : Txt.split (S (joinWith [32] ws)) (Str.ofString " ") = ws.map S := by
          have e1 := split_S (joinWith [32] ws) 32 (by decide)
          rw [ok.split] at e1
          exact e1
        have hsz := ok.sz
        refine ⟨rfl, by decide, by rw [S_len]; omega, by rw [esr, List.length_map]; omega, fun pw hpw => ?_⟩
        rw [esr, List.map_map]
        have s6 : Same H' (upd H' pw (.lst (ws.map (V.str ∘ S)))) := same_new hpw
        have h6 : upd H' pw (.lst (ws.map (V.str ∘ S))) pw = some (.lst (ws.map fun t => V.str (S t))) := upd_same
        have nw1 : pw ≠ b1 := fun z => by rw [z, G.h1] at hpw; cases hpw
        have nw2 : pw ≠ b2 := fun z => by rw [z, G.h2] at hpw; cases hpw
        generalize upd H' pw (.lst (ws.map (V.str ∘ S))) = H6 at s6 h6 ⊢
        have hP6 := s6 _ _ hP
        have G6 := G.same s6
        have hS6 : SqL K H6 pw (ws.map fun t => V.str (S t)) := SqL.of h6
        clear s6 hP G hpw
        show if (false ^^ decide ((S (joinWith [32] ws) : Str) = S [])) = true then _ else _
        rw [Bool.false_xor, eqS_iff]
        refine ite2 (fun e0 => ?_) (fun e0 => ?_)
        · have ew : ws = [[]] := (join_nil ok.ne).mp (beq_iff_eq.mp e0)
          refine ⟨l1, l2, l3, l4, st, _, _, hP6, G6, ⟨gok.nb, gok.es, Nat.le_succ_of_le gok.rs, gok.rn, gok.in_⟩, take_ st (by unfold rowF; rw [if_pos ew]), rfl⟩
        have n0 : ¬ ws = [[]] := fun z => e0 (beq_iff_eq.mpr ((join_nil ok.ne).mpr z))
        refine .inl ⟨_, .inl hS6, rfl, flat_strs _, ?_⟩
        have ei : (false ^^ inV (V.str (Str.ofString "")) (ws.map fun k => V.str (S k))) = ws.any fun t => t == [] := by rw [Bool.false_xor]; exact inV_any [] ws
        show if (false ^^ inV (V.str (Str.ofString "")) (ws.map fun k => V.str (S k))) = true then _ else _
        rw [ei]
        refine ite2 (fun e1 => ?_) (fun e1 => ?_)
        · have rpr : ∃ x, V.str (S (joinWith [32] ws)) = V.str x ∧ x.length ≤ 100000 ∧ ∀ c ∈ x.cps.toList, c < 16 ^ 8 := ⟨_, rfl, (ok.tl 0).rp⟩
          exact ⟨⟨trivial, ⟨rfl, rpr⟩, trivial⟩, fun y _ => ⟨(show 1 ≤ sizeLine by decide), bad .nr (by unfold rowF; rw [if_neg n0, if_pos e1]) _⟩⟩
        have l1w : 1 ≤ ws.length := by
          cases ws with
          | nil => exact absurd rfl ok.ne
          | cons a r => simp
        have e00 : (ws.map fun t => V.str (S t))[0]? = some (V.str (S (ws.getD 0 []))) := by rw [List.getElem?_map, List.getD, List.getElem?_eq_getElem (by omega)]; rfl
        have cutk : ∀ k : Nat, cutV (ws.map fun t => V.str (S t)) (some (k : Int)) none = (ws.drop k).map fun t => V.str (S t) := fun k => by rw [List.map_drop]; exact cutV_from _ k
        have put : ∀ (k : Nat) (kd : Str) (H7 : Hp) (p7 : Addr), Same H6 H7 → SqL K H7 p7 ((ws.drop k).map fun t => V.str (S t)) → (∀ st', formed st (ws.drop k) = .ok st' → rowF st ws = .ok st') → (∀ c', formed st (ws.drop k) = .error c' → rowF st ws = .error c') →
            ∀ Q', (∀ H8 l1' st', H8 p = some (.lst (rows.map (V.str ∘ fun r => S (joinWith [32] r)))) → GSt K H8 b1 b2 b3 b4 l1' l2 l3 l4 st' → GsOk st' (i + 1) → gramF st' (rows.drop (i + 1)) = some c → Q' V.non H8) → spPF K CR CF [.ref b1, .str kd, .ref p7] H7 Q' E := fun k kd H7 p7 s7 hS7 hok7 hbad7 Q' hQ' => by
          have G7 := G6.same s7
          refine ⟨b1, p7, l1, kd, ws.drop k, rfl, G7.h1, by rw [G7.n1]; exact gok.nb, hS7, ok.ok.drop k, ok.tl k, fun e H8 y s8 h8 => ?_, fun c' e H8 => ?_⟩
          · rw [G7.n1] at e
            have ef : formed st (ws.drop k) = .ok { st with nb := st.nb + 1 } := by unfold formed; rw [e]
            have n24 : st.nb ≠ 24 := fun z => by
              unfold putFormF at e
              by_cases hf : ws.drop k = []
              · rw [if_pos hf] at e; cases e
              · rw [if_neg hf, if_pos z] at e; cases e
            have hnb := gok.nb
            refine hQ' H8 (l1 ++ [y]) { st with nb := st.nb + 1 } (lst_rem np1 s8 (s7 _ _ hP6)) ⟨h8, lst_rem n21 s8 G7.h2, lst_rem n31 s8 G7.h3, lst_rem n41 s8 G7.h4, by rw [List.length_append, G7.n1]; rfl, G7.a2.mono fun x a => RulAt.on (seqT_rem G7.h1 s8), G7.a3.mono fun x a => EndAt.on (seqT_rem G7.h1 s8), G7.a4.mono fun x a => NotAt.on (seqT_rem G7.h1 s8)⟩ ⟨by show st.nb + 1 ≤ 24; omega, gok.es, Nat.le_succ_of_le gok.rs, gok.rn, gok.in_⟩ (take_ _ (hok7 _ ef))
          · rw [G7.n1] at e
            exact bad c' (hbad7 c' (by unfold formed; rw [e])) H8
        refine .inl ⟨_, _, hS6, atI_nat e00, ?_⟩
        show if (false ^^ decide ((S (ws.getD 0 []) : Str) = S gapW)) = true then _ else _
        rw [Bool.false_xor, eqS_iff]
        refine ite2 (fun e2 => ?_) (fun e2 => ?_)
        · have eg := beq_iff_eq.mp e2
          refine .inl ⟨_, hS6, fun p7 hp7 => ?_⟩
          rw [show cutV (ws.map fun t => V.str (S t)) (some 1) none = (ws.drop 1).map fun t => V.str (S t) from cutk 1]
          dsimp only [tNil]
          refine put 1 _ _ p7 (same_new hp7) (SqL.of upd_same) (fun st' e => by unfold rowF; rw [if_neg n0, if_neg e1, if_pos eg]; exact e) (fun c' e => by unfold rowF; rw [if_neg n0, if_neg e1, if_pos eg]; exact e) _ fun H8 l1' st' hp8 G8 gok8 hg8 => ?_
          exact ⟨l1', l2, l3, l4, st', _, _, hp8, G8, gok8, hg8, rfl⟩
        have n2 : ¬ ws.getD 0 [] = gapW := fun z => e2 (beq_iff_eq.mpr z)
        refine .inl ⟨_, _, hS6, atI_nat e00, ?_⟩
        show if (false ^^ decide ((S (ws.getD 0 []) : Str) = S wordW)) = true then _ else _
        rw [Bool.false_xor, eqS_iff]
        refine ite2 (fun e3 => ?_) (fun e3 => ?_)
        · have eg := beq_iff_eq.mp e3
          refine ⟨pw, ws, 1, rfl, hS6, ok.ok, fun hk H7 s7 => ?_, fun hk H7 => bad .nr (by unfold rowF; rw [if_neg n0, if_neg e1, if_neg n2, if_pos eg, hk]; rfl) H7⟩
          refine .inl ⟨_, s7.seq hS6, fun p7 hp7 => ?_⟩
          rw [show cutV (ws.map fun t => V.str (S t)) (some 2) none = (ws.drop 2).map fun t => V.str (S t) from cutk 2]
          dsimp only [tNil]
          refine put 2 _ _ p7 (s7.trans (same_new hp7)) (SqL.of upd_same) (fun st' e => by unfold rowF; rw [if_neg n0, if_neg e1, if_neg n2, if_pos eg, if_pos hk]; exact e) (fun c' e => by unfold rowF; rw [if_neg n0, if_neg e1, if_neg n2, if_pos eg, if_pos hk]; exact e) _ fun H8 l1' st' hp8 G8 gok8 hg8 => ?_
          exact ⟨l1', l2, l3, l4, st', _, _, hp8, G8, gok8, hg8, rfl⟩
        have n3 : ¬ ws.getD 0 [] = wordW := fun z => e3 (beq_iff_eq.mpr z)
        refine .inl ⟨_, _, hS6, atI_nat e00, ?_⟩
        refine .inl ⟨_, .inr (T.k_DE _), rfl, rfl, ?_⟩
        show if (false ^^ deedW (ws.getD 0 [])) = true then _ else _
        rw [Bool.false_xor]
        refine ite2 (fun e4 => ?_) (fun e4 => ?_)
        · have hes := gok.es
          refine ⟨b3, pw, l3, st.es, ws, rfl, G6.h3, G6.a3, gok.es, hS6, ok.ok, l1w, fun e H8 t d s8 h8 ht8 => ?_, fun e H8 => bad .nr (by unfold rowF; rw [if_neg n0, if_neg e1, if_neg n2, if_neg n3, if_pos e4, e]; rfl) H8⟩
          have n24 : st.es.length ≠ 24 := fun z => by
            unfold putEndF at e
            rw [decide_eq_false (show ¬ st.es.length ≠ 24 from fun y => y z)] at e
            simp at e
          refine ⟨l1, l2, l3 ++ [.ref t], l4, { st with es := st.es ++ [ws.getD 1 []] }, _, _, lst_rem np3 s8 hP6, ⟨lst_rem (Ne.symm n31) s8 G6.h1, lst_rem (Ne.symm n32) s8 G6.h2, h8, lst_rem n43 s8 G6.h4, G6.n1, G6.a2.mono fun x a => RulAt.on (seqT_rem G6.h3 s8), All2.snoc (G6.a3.mono fun x a => EndAt.on (seqT_rem G6.h3 s8)) ⟨t, d, rfl, SqT.of ht8⟩, G6.a4.mono fun x a => NotAt.on (seqT_rem G6.h3 s8)⟩, ⟨gok.nb, by show (st.es ++ [ws.getD 1 []]).length ≤ 24; rw [List.length_append]; show st.es.length + 1 ≤ 24; omega, Nat.le_succ_of_le gok.rs, gok.rn, gok.in_⟩, take_ _ (by unfold rowF; rw [if_neg n0, if_neg e1, if_neg n2, if_neg n3, if_pos e4, if_pos e]), rfl⟩
        refine .inl ⟨_, _, hS6, atI_nat e00, ?_⟩
        show if (false ^^ decide ((S (ws.getD 0 []) : Str) = S ruleW)) = true then _ else _
        rw [Bool.false_xor, eqS_iff]
        refine ite2 (fun e5 => ?_) (fun e5 => ?_)
        · have eg := beq_iff_eq.mp e5
          refine ⟨.inl ⟨rfl, _, SqL.of G6.h2⟩, ?_⟩
          refine ⟨pw, ws, rfl, hS6, ok.ok, fun hrb H7 xr s7 hxr => ?_, fun hrb H7 => bad .nr (by unfold rowF; rw [if_neg n0, if_neg e1, if_neg n2, if_neg n3, if_neg e4, if_pos eg, hrb]; rfl) H7⟩
          have G7 := G6.same s7
          have hrs := gok.rs
          refine ⟨_, G7.h2, by rw [G7.a2.1]; omega, ?_⟩
          have s8 : Same (rem [b2] H7) (upd H7 b2 (.lst (l2 ++ [xr]))) := same_put
          have h8 : upd H7 b2 (.lst (l2 ++ [xr])) b2 = some (.lst (l2 ++ [xr])) := upd_same
          generalize upd H7 b2 (.lst (l2 ++ [xr])) = H8 at s8 h8 ⊢
          have mv := seqT_rem (K := K) G7.h2 s8
          have hS8 : SqL K H8 pw (ws.map fun t => V.str (S t)) := SqL.of (lst_rem nw2 s8 (s7 _ _ h6))
          refine ⟨.inl ⟨rfl, _, SqL.of (lst_rem n42 s8 G7.h4)⟩, ?_⟩
          refine .inl ⟨_, hS8, fun p9 hp9 => ?_⟩
          have s9 : Same H8 (upd H8 p9 (.lst (cutV (ws.map fun t => V.str (S t)) (some 4) none))) := same_new hp9
          have h9 : SqL K (upd H8 p9 (.lst (cutV (ws.map fun t => V.str (S t)) (some 4) none))) p9 ((ws.drop 4).map fun t => V.str (S t)) := by rw [← cutk 4]; exact SqL.of upd_same
          generalize upd H8 p9 (.lst (cutV (ws.map fun t => V.str (S t)) (some 4) none)) = H9 at s9 h9 ⊢
          refine ⟨p9, ws.drop 4, rfl, h9, ok.ok.drop 4, fun hnb H10 tn s10 h10 => ?_, fun hnb H10 => bad .nr (by unfold rowF; rw [if_neg n0, if_neg e1, if_neg n2, if_neg n3, if_neg e4, if_pos eg, if_pos hrb, hnb]; rfl) H10⟩
          have s810 := s9.trans s10
          have h4' := s810 _ _ (lst_rem n42 s8 G7.h4)
          refine ⟨_, h4', by rw [G7.a4.1, ← gok.rn]; omega, ?_⟩
          have s11 : Same (rem [b4] H10) (upd H10 b4 (.lst (l4 ++ [.ref tn]))) := same_put
          have h11 : upd H10 b4 (.lst (l4 ++ [.ref tn])) b4 = some (.lst (l4 ++ [.ref tn])) := upd_same
          generalize upd H10 b4 (.lst (l4 ++ [.ref tn])) = H11 at s11 h11 ⊢
          have mv2 := seqT_rem (K := K) h4' s11
          have mvA : ∀ t xs, SqT K H7 t xs → SqT K H11 t xs := fun t xs h => mv2 t xs (s810.seqT (mv t xs h))
          refine ⟨l1, l2 ++ [xr], l3, l4 ++ [.ref tn], { st with rs := st.rs ++ [(ws.getD 1 [], (ws.drop 4).map bareF)], ns := st.ns ++ [(plF 63 (ws.drop 4), plF 33 (ws.drop 4))] }, _, _, lst_rem np4 s11 (s810 _ _ (lst_rem np2 s8 (s7 _ _ hP6))), ⟨lst_rem (Ne.symm n41) s11 (s810 _ _ (lst_rem (Ne.symm n21) s8 G7.h1)), lst_rem (Ne.symm n42) s11 (s810 _ _ h8), lst_rem (Ne.symm n43) s11 (s810 _ _ (lst_rem n32 s8 G7.h3)), h11, G7.n1, ?_, G7.a3.mono fun x a => EndAt.on mvA, ?_⟩, ⟨gok.nb, gok.es, ?_, ?_, ?_⟩, take_ _ (by unfold rowF; rw [if_neg n0, if_neg e1, if_neg n2, if_neg n3, if_neg e4, if_pos eg, if_pos hrb, if_pos hnb]), rfl⟩
          · exact All2.snoc (G7.a2.mono fun x a => RulAt.on mvA) (RulAt.on mvA hxr)
          · exact All2.snoc (G7.a4.mono fun x a => NotAt.on mvA) ⟨tn, rfl, mv2 _ _ (SqT.of h10)⟩
          · show (st.rs ++ [_]).length ≤ i + 1
            rw [List.length_append]; show st.rs.length + 1 ≤ i + 1; omega
          · show (st.rs ++ [_]).length = (st.ns ++ [_]).length
            rw [List.length_append, List.length_append, gok.rn]; rfl
          · intro j q n ejq ejn
            by_cases hj : j < st.rs.length
            · rw [List.getElem?_append_left hj] at ejq
              rw [List.getElem?_append_left (by rw [← gok.rn]; exact hj)] at ejn
              exact gok.in_ j q n ejq ejn
            · rw [List.getElem?_append_right (by omega)] at ejq
              rw [List.getElem?_append_right (by rw [← gok.rn]; omega)] at ejn
              rw [← gok.rn] at ejn
              have hj0 : j - st.rs.length = 0 := by
                have := (List.getElem?_eq_some_iff.mp ejq).1
                simp at this
                omega
              rw [hj0] at ejq ejn
              cases Option.some.inj ejq
              cases Option.some.inj ejn
              refine ⟨⟨?_, ?_⟩, fun t ht => ?_⟩
              · show plF 63 (ws.drop 4) < (((ws.drop 4).map bareF).length : Nat)
                rw [List.length_map]; exact place_in
              · show plF 33 (ws.drop 4) < (((ws.drop 4).map bareF).length : Nat)
                rw [List.length_map]; exact place_in
              · exact (ok.ok.drop 4).bare.w t ht
        have n5 : ¬ ws.getD 0 [] = ruleW := fun z => e5 (beq_iff_eq.mpr z)
        have rpr : ∃ x, V.str (S (joinWith [32] ws)) = V.str x ∧ x.length ≤ 100000 ∧ ∀ c ∈ x.cps.toList, c < 16 ^ 8 := ⟨_, rfl, (ok.tl 0).rp⟩
        exact ⟨⟨trivial, ⟨rfl, rpr⟩, trivial⟩, fun y _ => ⟨(show 1 ≤ sizeLine by decide), bad .nr (by unfold rowF; rw [if_neg n0, if_neg e1, if_neg n2, if_neg n3, if_neg e4, if_neg n5]) _⟩⟩
    · rintro σ H' ⟨l1, l2, l3, l4, st, v5, v6, hP, G, gok, hgr, rfl⟩
      rw [List.length_map, List.drop_length] at hgr
      unfold gramF at hgr
      have hrs := gok.rs
      rw [List.length_map] at hrs
      by_cases hnb : notesB st.rs st.ns = true
      · rw [if_pos hnb] at hgr
        refine ⟨b2, b4, l2, l4, st.rs, st.ns, rfl, G.h2, G.h4, G.a2, G.a4, gok.rn, by omega, gok.in_, hnb, fun H8 => ?_⟩
        have := qX H8
        rw [← Option.some.inj hgr] at this
        exact this
      · rw [if_neg hnb] at hgr; cases hgr
end
end K81

set_option Elab.async false
set_option linter.all false
set_option maxRecDepth 100000
set_option maxHeartbeats 4000000




--@RAISES but law

namespace K81
open PySem PySem.Spec PyProof.Rows L2 Rg
theorem boot_ValueError : bootBuiltins "ValueError" = some (.type "ValueError") := by decide +kernel
structure Cls (K : PySem.W.Frag) (mg : Str → Option Value) (CR CF CG : Addr) (cs : List Addr) : Prop where
  n_isinstance : mg "isinstance" = none
  n_ValueError : mg "ValueError" = none
  n_int : mg "int" = none
  c_NoRow : mg "NoRow" = some (.ref CR)
  c_NoForm : mg "NoForm" = some (.ref CF)
  c_GrowthError : mg "GrowthError" = some (.ref CG)
  x_GrowthError : PySem.W.excIn K CG bmVE "ValueError.__new__" = true
  c_NoRule : mg "NoRule" = some (.ref (cs.getD 0 0))
  c_Clash : mg "Clash" = some (.ref (cs.getD 1 0))
  c_TooLong : mg "TooLong" = some (.ref (cs.getD 2 0))
  ZR : ExcK K CR
  ZF : ExcK K CF
  mR : mroHas K CR (.ref CG) = true
  mF : mroHas K CF (.ref CG) = true
  vR : PySem.W.kitOne K (.ref CR) (.type "ValueError") = some true
  vF : PySem.W.kitOne K (.ref CF) (.type "ValueError") = some true
  nR : ∀ i, i < 3 → PySem.W.kitOne K (.ref CR) (.ref (cs.getD i 0)) = some false
  nF : ∀ i, i < 3 → PySem.W.kitOne K (.ref CF) (.ref (cs.getD i 0)) = some false
  sR : PySem.W.kitOne K (.ref CR) (.ref CR) = some true
  sF : PySem.W.kitOne K (.ref CF) (.ref CF) = some true
  rf : PySem.W.kitOne K (.ref CR) (.ref CF) = some false
  fr : PySem.W.kitOne K (.ref CF) (.ref CR) = some false
section
variable {P : Program} {w : World} {K : PySem.W.Frag} {mg : Str → Option Value} {base : Heap} {aN aD aS CR CF CG : Addr} {cs : List Addr}
abbrev lettersL : List Nat := ("abcdefghijklmnopqrstuvwxyz" : Str).cps.toList
def ltF (x : Int) : Nat := lettersL.getD (x % 26).toNat 0
theorem lettersL_len : lettersL.length = 26 := by decide +kernel
theorem lt_at (x : Int) : atI lettersL (x % 26) = some (ltF x) := by
  have h1 : (x % 26).toNat < lettersL.length := by rw [lettersL_len]; omega
  have e : (((x % 26).toNat : Nat) : Int) = x % 26 := by omega
  have key := atI_nat (xs := lettersL) (List.getElem?_eq_getElem h1)
  rw [e] at key
  rw [key]
  unfold ltF
  rw [List.getD, List.getElem?_eq_getElem h1]
  rfl
theorem let_inj : ∀ i, i < 26 → ∀ j, j < 26 → lettersL.getD i 0 = lettersL.getD j 0 → i = j := by decide +kernel
theorem lt_inj {x y : Int} (h : ltF x = ltF y) : x % 26 = y % 26 := by
  have := let_inj (x % 26).toNat (by omega) (y % 26).toNat (by omega) h
  omega
def nmSz (c : Int) : Nat := (1 + c % 10).toNat
def nmAt (c : Int) : Nat := (c / 10 % (1 + c % 10)).toNat
theorem nm_sz (c : Int) : ((nmSz c : Nat) : Int) = 1 + c % 10 ∧ 1 ≤ nmSz c ∧ nmSz c ≤ 10 := by unfold nmSz; omega
theorem nm_at (c : Int) : ((nmAt c : Nat) : Int) = c / 10 % (1 + c % 10) ∧ nmAt c < nmSz c := by
  have h0 := Int.emod_nonneg (c / 10) (show 1 + c % 10 ≠ 0 by omega)
  have h1 := Int.emod_lt_of_pos (c / 10) (show 0 < 1 + c % 10 by omega)
  unfold nmAt nmSz
  omega
def nmC (c : Int) (k j : Nat) : Nat := ltF (c / 100 + ((j : Int) * (j : Int) + (k : Int) * (if j = nmAt c then 1 else 0)))
def nameL (c : Int) (k : Nat) : List Nat := (List.range (nmSz c)).map (nmC c k)
theorem nameL_len (c : Int) (k : Nat) : (nameL c k).length = nmSz c := by unfold nameL; simp
theorem nameL_inj {c : Int} {k k' : Nat} (hk : k < 26) (hk' : k' < 26) (h : nameL c k = nameL c k') : k = k' := by
  have h1 := congrArg (fun l => l[nmAt c]?) h
  unfold nameL at h1
  have hlt := (nm_at c).2
  simp [hlt] at h1
  unfold nmC at h1
  simp only [if_pos] at h1
  have := lt_inj h1
  omega
theorem ltF_val (x : Int) : ltF x = 97 + (x % 26).toNat := by
  have h : ∀ i, i < 26 → lettersL.getD i 0 = 97 + i := by decide +kernel
  exact h _ (by omega)
theorem nmC_val (c : Int) (k j : Nat) : nmC c k j = 97 + ((c / 100 + ((j : Int) * (j : Int) + (if j = nmAt c then (k : Int) else 0))) % 26).toNat := by
  unfold nmC
  rw [ltF_val]
  by_cases h : j = nmAt c
  · rw [if_pos h, if_pos h, Int.mul_one]
  · rw [if_neg h, if_neg h, Int.mul_zero]
theorem nameL_at {c : Int} {k : Nat} {l : List Nat} (h : nameL c k = l) (j : Nat) (hj : j < l.length) : l[j]? = some (nmC c k j) := by
  have e : l.length = nmSz c := by rw [← h]; exact nameL_len c k
  rw [← h]
  unfold nameL
  rw [List.getElem?_map, List.getElem?_range (by omega)]
  rfl
theorem name_end (c : Int) (k : Nat) (hk : k < 26) : nameL c k ≠ [101, 110, 100] := fun h => by
  have h0 := Option.some.inj (nameL_at h 0 (by decide))
  have h1 := Option.some.inj (nameL_at h 1 (by decide))
  have h2 := Option.some.inj (nameL_at h 2 (by decide))
  rw [nmC_val] at h0 h1 h2
  generalize c / 100 = b at h0 h1 h2
  generalize nmAt c = a at h0 h1 h2
  split at h0 <;> split at h1 <;> split at h2 <;> omega
theorem name_stray (c : Int) (k : Nat) (hk : k < 26) : nameL c k ≠ [115, 116, 114, 97, 121] := fun h => by
  have h0 := Option.some.inj (nameL_at h 0 (by decide))
  have h1 := Option.some.inj (nameL_at h 1 (by decide))
  have h2 := Option.some.inj (nameL_at h 2 (by decide))
  have h3 := Option.some.inj (nameL_at h 3 (by decide))
  rw [nmC_val] at h0 h1 h2 h3
  generalize c / 100 = b at h0 h1 h2 h3
  generalize nmAt c = a at h0 h1 h2 h3
  split at h0 <;> split at h1 <;> split at h2 <;> split at h3 <;> omega
def spNames (K : PySem.W.Frag) : Sp := fun vs H Q _ => ∃ (c : Int) (m : Nat), vs = [.int c, .int (m : Nat)] ∧ m ≤ 30 ∧ ∀ (H' : Hp) (p : Addr), Same H H' → H p = none → H' p = some (.lst ((List.range m).map fun k => V.str (S (nameL c k)))) → Q (.ref p) H'
abbrev st__law_names : Stmt := top 40
theorem sc__law_names : FnScope ["_law_cell", "_law_many", "_law_letters", "_law_size", "_law_at", "_law_names_here", "_law_k", "_law_name", "_law_j", "_law_step"] ["_law_cell", "_law_many"] (defScope st__law_names) := ⟨rfl, rfl, rfl, by decide +kernel, rfl, by decide +kernel, by decide +kernel⟩
theorem def_names (R : Raw K mg "_law_names" st__law_names ["_law_cell", "_law_many"]) (T : Txt2 K w mg aN aD aS CR) : Def P w K mg base 1 "_law_names" ["_law_cell", "_law_many"] (spNames K) := by
  refine R.defJ sc__law_names (fun vs H Q E h => ?_) (fun f cdv A outer s H vs Q E hr h => ?_)
  · obtain ⟨c, m, rfl, _⟩ := h
    rfl
  · obtain ⟨c, m, rfl, hm, q⟩ := h
    have sc := sc__law_names
    have hu := hr.units
    have hb : (1000000 : Nat) < sizeLine := by rw [sizeLine_eq]; decide
    refine ⟨_, (jss_cons (js_set (i := 2) sc.nd rfl (Or.inl rfl) j_str)
    (jss_cons (js_set (i := 3) sc.nd rfl (Or.inl rfl) (j_op (o_add (K := K)) j_int (j_op o_mod (jn 0) j_int)))
    (jss_cons (js_set (i := 4) sc.nd rfl (Or.inl rfl) (j_op o_mod (j_op o_div (jn 0) j_int) (jn 3)))
    (jss_cons (js_set (i := 5) sc.nd rfl (Or.inl rfl) (j_lst ja_nil))
    (jss_cons (js_for PassesOwn.never rfl (ji_rng1 rfl T.n_range (ja_cons (jn 1) ja_nil)) (jg_name (i := 6) sc.nd rfl (Or.inl rfl))
    (jss_cons (js_set (i := 7) sc.nd rfl (Or.inl rfl) j_str)
    (jss_cons (js_for PassesOwn.never rfl (ji_rng1 rfl T.n_range (ja_cons (jn 3) ja_nil)) (jg_name (i := 8) sc.nd rfl (Or.inl rfl))
    (jss_cons (js_set (i := 9) sc.nd rfl (Or.inl rfl) (j_op (o_add (K := K)) (j_op o_mul (jn 8) (jn 8)) (j_op o_mul (jn 6) (j_callTy c_int rfl T.n_int boot_int (ja_cons (j_cmp (o_eq hu (K := K)) (jn 8) (jn 4)) ja_nil)))))
    (jss_one (js_set (i := 7) sc.nd rfl (Or.inl rfl) (j_op (o_add (K := K)) (jn 7) (j_ix (o_ix hu (K := K) (w := w)) (jn 2) (j_op o_mod (j_op (o_add (K := K)) (j_op o_div (jn 0) j_int) (jn 9)) j_int)))))))
    (jss_one (js_expr (j_bm (K := K) PySem.F.plainAttrs_list PySem.F.slot_list_append PySem.F.type_list_append m_append (jn 5) (ja_cons (jn 7) ja_nil)))))))
    (jss_one (js_ret (jn 5)))))))), ?_⟩
    refine ⟨by decide, ⟨by decide, by decide⟩, show (0 : Int) < 1 + c % 10 by omega, ?_⟩
    rw [← (nm_at c).1]
    refine ⟨(show 0 ≤ sizeLine by decide), fun p hp => ?_⟩
    have s1 : Same H (upd H p (.lst [])) := same_new hp
    have h1 : upd H p (.lst []) p = some (.lst []) := upd_same
    generalize upd H p (.lst []) = H1 at s1 h1 ⊢
    refine ⟨by omega, by omega, ?_⟩
    refine for_range (n := ((m : Nat) : Int).toNat) (fun i σ H' => ∃ (v5 v6 v7 v8 : Option V), Same H H' ∧ H' p = some (.lst ((List.range i).map fun k => V.str (S (nameL c k)))) ∧ σ = [some (.int c), some (.int (m : Nat)), some (.str "abcdefghijklmnopqrstuvwxyz"), some (.int (1 + c % 10)), some (.int (nmAt c : Nat)), some (.ref p), v5, v6, v7, v8]) ⟨none, none, none, none, s1, h1, rfl⟩ ?_ ?_
    · rintro i σ H' hi ⟨v5, v6, v7, v8, s2, hp2, rfl⟩
      have esz := (nm_sz c).1
      have hsz := (nm_sz c).2
      refine ⟨show -(2 ^ 62) ≤ 1 + c % 10 by omega, show 1 + c % 10 < 2 ^ 62 by omega, ?_⟩
      refine for_range (n := (1 + c % 10).toNat) (fun j σ H2 => H2 = H' ∧ ∃ (v7 v8 : Option V), σ = [some (.int c), some (.int (m : Nat)), some (.str "abcdefghijklmnopqrstuvwxyz"), some (.int (1 + c % 10)), some (.int (nmAt c : Nat)), some (.ref p), some (.int (i : Nat)), some (.str (S ((List.range j).map (nmC c i)))), v7, v8])
        ⟨rfl, v7, v8, by simp; rfl⟩ ?_ ?_
      · rintro j σ H2 hj ⟨rfl, v7, v8, rfl⟩
        have hj7 : j < 10 := by omega
        have put : ∀ st : Int, st = (j : Int) * (j : Int) + (i : Int) * (if j = nmAt c then 1 else 0) → ∃ o, atI lettersL ((c / 100 + st) % 26) = some o ∧ S ((List.range j).map (nmC c i)) ++ S [o] = S ((List.range (j + 1)).map (nmC c i)) := fun st e => by
          refine ⟨ltF (c / 100 + st), lt_at _, ?_⟩
          rw [S_app, List.range_succ, List.map_append]
          congr 2
          show [ltF (c / 100 + st)] = [nmC c i j]
          unfold nmC
          rw [e]
        have e0 : (0 : Int) + ((j : Nat) : Int) = (j : Int) := Int.zero_add _
        rw [e0]
        have key := put ((j : Int) * (j : Int) + (i : Int) * (if (false ^^ decide (((j : Nat) : Int) = ((nmAt c : Nat) : Int))) = true then 1 else 0)) (by
          rw [Bool.false_xor]
          by_cases hj : j = nmAt c
          · rw [if_pos hj, if_pos (decide_eq_true (by omega))]
          · rw [if_neg hj, if_neg (fun z => hj (by have := of_decide_eq_true z; omega))])
        obtain ⟨o, eo, es⟩ := key
        refine ⟨.inl ⟨by omega, by omega⟩, .inl ⟨by omega, by omega⟩, ⟨by decide, by decide⟩, by decide, by decide +kernel, o, eo, by rw [S_len, S_len, List.length_map, List.length_range]; simp; omega, ?_⟩
        rw [es]
        exact ⟨rfl, _, _, rfl⟩
      · rintro σ H2 ⟨rfl, v7, v8, rfl⟩
        rw [show (1 + c % 10).toNat = nmSz c from rfl]
        refine ⟨.inl ⟨rfl, _, SqL.of hp2⟩, _, hp2, by rw [List.length_map, List.length_range]; omega, ?_⟩
        refine ⟨_, _, _, _, fun b u e => ?_, ?_, rfl⟩
        · rw [upd_ne fun z => by rw [z, hp] at e; cases e]; exact s2 b u e
        · rw [upd_same, List.range_succ, List.map_append]
          rfl
    · rintro σ H' ⟨v5, v6, v7, v8, s2, hp2, rfl⟩
      exact q H' p s2 hp (by simpa using hp2)
def clN : Cl → Int
  | .nr => 1
  | .nf => 2
def spTold : Sp := fun vs H Q _ => ∃ (rows : List (List W)) (c : Cl), vs = [.str (S (joinWith [10] (rows.map (joinWith [32]))))] ∧ rows ≠ [] ∧ rows.length ≤ 60 ∧ (∀ r ∈ rows, RowOk r) ∧ gramF ⟨0, [], [], []⟩ rows = some c ∧ ∀ H', Q (.int (clN c)) H'
abbrev st__law_told : Stmt := top 46
theorem sc__law_told : FnScope ["_law_text", "_law_error", "e"] ["_law_text"] (defScope st__law_told) := ⟨rfl, rfl, rfl, by decide +kernel, rfl, by decide +kernel, by decide +kernel⟩
theorem def_told (R : Raw K mg "_law_told" st__law_told ["_law_text"]) (T : Cls K mg CR CF CG cs) (D_grammar_of : DefX P w K mg base 5 "grammar_of" ["text"] (spGO K CR CF)) : Def P w K mg base 6 "_law_told" ["_law_text"] spTold := by
  refine R.defJ sc__law_told (fun vs H Q E h => ?_) (fun f cdv A outer s H vs Q E hr h => ?_)
  · obtain ⟨rows, c, rfl, _⟩ := h
    rfl
  · obtain ⟨rows, c, rfl, hne, hl, hok, hg, q⟩ := h
    have sc := sc__law_told
    have hu := hr.units
    refine ⟨_, (jss_cons (js_set (i := 1) sc.nd rfl (Or.inl rfl) j_non)
    (jss_cons (js_tryK (K := K) rfl rfl D_grammar_of (hr.mono (by decide)) rfl (ja_cons (jn 0) ja_nil) rfl T.c_GrowthError T.x_GrowthError (i := 2) sc.nd rfl rfl (fun a oe C hoe Z => (jss_one (js_set (i := 1) sc.nd rfl (Or.inl rfl) (jn 2)))))
    (jss_cons (js_if (jw_t (jw_or (jt_cmp o_is (jn 1) j_non) (jw_or (jt_not (jt_val (j_callB (c_isiE (K := K)) rfl T.n_isinstance boot_isinstance (ja_cons (jn 1) (ja_cons (j_bltn (v := .ty "ValueError") rfl T.n_ValueError boot_ValueError rfl) ja_nil))))) (jw_or1 (jt_val (j_callB (c_isiE (K := K)) rfl T.n_isinstance boot_isinstance (ja_cons (jn 1) (ja_cons (j_glob (v := .ref _) rfl T.c_NoRule rfl) ja_nil))))))))
    (jss_one (js_ret j_int))
    jss_nil)
    (jss_cons (js_if (jw_t (jw_or (jt_val (j_callB (c_isiE (K := K)) rfl T.n_isinstance boot_isinstance (ja_cons (jn 1) (ja_cons (j_glob (v := .ref _) rfl T.c_Clash rfl) ja_nil)))) (jw_or1 (jt_val (j_callB (c_isiE (K := K)) rfl T.n_isinstance boot_isinstance (ja_cons (jn 1) (ja_cons (j_glob (v := .ref _) rfl T.c_TooLong rfl) ja_nil)))))))
    (jss_one (js_ret j_int))
    jss_nil)
    (jss_cons (js_if (jt_val (j_callB (c_isiE (K := K)) rfl T.n_isinstance boot_isinstance (ja_cons (jn 1) (ja_cons (j_glob (v := .ref _) rfl T.c_NoRow rfl) ja_nil))))
    (jss_one (js_ret (j_callTy c_int rfl T.n_int boot_int (ja_cons (j_not (j_callB (c_isiE (K := K)) rfl T.n_isinstance boot_isinstance (ja_cons (jn 1) (ja_cons (j_glob (v := .ref _) rfl T.c_NoForm rfl) ja_nil)))) ja_nil))))
    jss_nil)
    (jss_one (js_ret (j_op o_mul j_int (j_callTy c_int rfl T.n_int boot_int (ja_cons (j_callB (c_isiE (K := K)) rfl T.n_isinstance boot_isinstance (ja_cons (jn 1) (ja_cons (j_glob (v := .ref _) rfl T.c_NoForm rfl) ja_nil))) ja_nil)))))))))), ?_⟩
    refine ⟨rows, c, rfl, hne, hl, hok, hg, fun H1 => ?_⟩
    cases c with
    | nr =>
      refine ⟨CR, rfl, T.ZR, T.mR, fun x oe hx hoe => ?_⟩
      have kn : Kn (upd H1 x (.frz oe anyHO)) x oe := upd_same
      refine ⟨oe, CR, true, kn, hoe, T.ZR, T.vR, ?_⟩
      refine ⟨oe, CR, false, kn, hoe, T.ZR, T.nR 0 (by decide), ?_⟩
      refine ⟨oe, CR, false, kn, hoe, T.ZR, T.nR 1 (by decide), ?_⟩
      refine ⟨oe, CR, false, kn, hoe, T.ZR, T.nR 2 (by decide), ?_⟩
      refine ⟨oe, CR, true, kn, hoe, T.ZR, T.sR, ?_⟩
      refine ⟨oe, CR, false, kn, hoe, T.ZR, T.rf, ?_⟩
      exact q _
    | nf =>
      refine ⟨CF, rfl, T.ZF, T.mF, fun x oe hx hoe => ?_⟩
      have kn : Kn (upd H1 x (.frz oe anyHO)) x oe := upd_same
      refine ⟨oe, CF, true, kn, hoe, T.ZF, T.vF, ?_⟩
      refine ⟨oe, CF, false, kn, hoe, T.ZF, T.nF 0 (by decide), ?_⟩
      refine ⟨oe, CF, false, kn, hoe, T.ZF, T.nF 1 (by decide), ?_⟩
      refine ⟨oe, CF, false, kn, hoe, T.ZF, T.nF 2 (by decide), ?_⟩
      refine ⟨oe, CF, false, kn, hoe, T.ZF, T.fr, ?_⟩
      refine ⟨oe, CF, true, kn, hoe, T.ZF, T.sF, ?_⟩
      exact ⟨.inl ⟨by decide, by decide⟩, q _⟩
end
end K81

set_option Elab.async false
set_option linter.all false
set_option maxRecDepth 100000
set_option maxHeartbeats 4000000
namespace K81
open PySem PySem.Spec PyProof.Rows L2 Rg
structure Nm (n : W) : Prop where
  l1 : 1 ≤ n.length
  l2 : n.length ≤ 10
  az : ∀ c ∈ n, azB c = true
  ne : n ≠ [101, 110, 100]
  ns : n ≠ [115, 116, 114, 97, 121]
def wdB (t : W) : Bool := decide (t.length ≤ 110) && t.all fun c => decide (33 ≤ c) && decide (c ≤ 126)
theorem Nm.k {n : W} (h : Nm n) : isKF n = true := by
  have h1 := h.l1
  have h2 := h.l2
  have h4 : (n == [101, 110, 100]) = false := Bool.eq_false_iff.mpr fun z => h.ne (beq_iff_eq.mp z)
  have h5 : (n == [115, 116, 114, 97, 121]) = false := Bool.eq_false_iff.mpr fun z => h.ns (beq_iff_eq.mp z)
  unfold isKF
  rw [decide_eq_true h1, decide_eq_true (show n.length ≤ 12 by omega), List.all_eq_true.mpr h.az, h4, h5]; rfl
theorem az_sg {c : Nat} (h : azB c = true) : (decide (33 ≤ c) && decide (c ≤ 126)) = true := by
  unfold azB at h
  simp only [Bool.and_eq_true, decide_eq_true_eq] at h ⊢
  omega
theorem Nm.wd {n : W} (h : Nm n) : wdB n = true := by
  have h2 := h.l2
  unfold wdB
  rw [decide_eq_true (show n.length ≤ 110 by omega), List.all_eq_true.mpr fun c hc => az_sg (h.az c hc)]; rfl
theorem wd_pre {n l : W} (h : Nm n) (hl : (wdB l && decide (l.length ≤ 100)) = true) : wdB (l ++ n) = true := by
  have h2 := h.l2
  unfold wdB at hl ⊢
  simp only [Bool.and_eq_true, decide_eq_true_eq] at hl
  rw [decide_eq_true (show (l ++ n).length ≤ 110 by rw [List.length_append]; omega), List.all_append, hl.1.2, List.all_eq_true.mpr fun c hc => az_sg (h.az c hc)]; rfl
theorem wd_suf {n l : W} (h : Nm n) (hl : (wdB l && decide (l.length ≤ 100)) = true) : wdB (n ++ l) = true := by
  have h2 := h.l2
  unfold wdB at hl ⊢
  simp only [Bool.and_eq_true, decide_eq_true_eq] at hl
  rw [decide_eq_true (show (n ++ l).length ≤ 110 by rw [List.length_append]; omega), List.all_append, hl.1.2, List.all_eq_true.mpr fun c hc => az_sg (h.az c hc)]; rfl
def c13 (n : W) : W := ((List.replicate 13 n).flatten).take 13
theorem flat_len (n : W) : ∀ k, ((List.replicate k n).flatten).length = k * n.length
  | 0 => by simp
  | k + 1 => by rw [List.replicate_succ, List.flatten_cons, List.length_append, flat_len n k, Nat.succ_mul]; omega
theorem c13_len {n : W} (h : Nm n) : (c13 n).length = 13 := by
  have := h.l1
  unfold c13
  rw [List.length_take, flat_len]
  omega
theorem c13_az {n : W} (h : Nm n) : ∀ c ∈ c13 n, azB c = true := fun c hc => by
  unfold c13 at hc
  obtain ⟨l, hl, hc⟩ := List.mem_flatten.mp (List.mem_of_mem_take hc)
  rw [(List.mem_replicate.mp hl).2] at hc
  exact h.az c hc
theorem c13_wd {n : W} (h : Nm n) : wdB (c13 n) = true := by
  unfold wdB
  rw [decide_eq_true (show (c13 n).length ≤ 110 by rw [c13_len h]; decide), List.all_eq_true.mpr fun c hc => az_sg (c13_az h c hc)]; rfl
theorem c13_k {n : W} (h : Nm n) : isKF (c13 n) = false := by
  unfold isKF
  rw [decide_eq_false (show ¬ (c13 n).length ≤ 12 by rw [c13_len h]; decide)]; simp
abbrev ab51 : W := ((List.replicate 51 [97, 98]).flatten)
inductive Ro : List W → Prop
  | nil : Ro []
  | cons {t : W} {r : List W} (h : wdB t = true) (hr : Ro r) : Ro (t :: r)
theorem Ro.all : ∀ {ws : List W}, Ro ws → ∀ t ∈ ws, wdB t = true
  | _, .nil, t, ht => by cases ht
  | _, .cons h hr, t, ht => by
    rcases List.mem_cons.mp ht with z | z
    · rw [z]; exact h
    · exact hr.all t z
structure Row1 (ws : List W) : Prop where
  n : ws.length ≤ 17
  ne : ws ≠ []
  w : Ro ws
theorem Row1.ok {ws : List W} (h : Row1 ws) : RowOk ws := by
  have hw : ∀ t ∈ ws, t.length ≤ 110 ∧ ∀ c ∈ t, 33 ≤ c ∧ c ≤ 126 := fun t ht => by
    have := h.w.all t ht
    unfold wdB at this
    simp only [Bool.and_eq_true, decide_eq_true_eq, List.all_eq_true] at this
    exact this
  have hn := h.n
  refine ⟨h.ne, ⟨by omega, fun t ht => ⟨by have := (hw t ht).1; omega, fun c hc => by have := (hw t ht).2 c hc; omega⟩⟩, fun t ht => ⟨fun z => by have := (hw t ht).2 32 z; omega, fun z => by have := (hw t ht).2 10 z; omega⟩, ?_⟩
  refine Nat.le_trans (join_le (B := 110) fun p hp => (hw p hp).1) (by omega)
def El (P : List W → Prop) (x : Str) : Prop := ∃ ws, x = S (joinWith [32] ws) ∧ Row1 ws ∧ P ws
def isNR (ws : List W) : Prop := ∀ st, rowF st ws = .error .nr
def isNF (ws : List W) : Prop := ∀ st, st.nb < 24 → rowF st ws = .error .nf
def noE (r : List W) : Bool := !(r.any fun t => t == [])
theorem noE_cons {t : W} {r : List W} (h : t ≠ []) (hr : noE r = true) : noE (t :: r) = true := by
  unfold noE at hr ⊢
  rw [List.any_cons, Bool.eq_false_iff.mpr fun z => h (beq_iff_eq.mp z), Bool.false_or]
  exact hr
theorem noE_any {r : List W} (h : noE r = true) : ¬ (r.any fun t => t == []) = true := by
  unfold noE at h
  intro z
  rw [z] at h
  cases h
theorem Nm.nn {n : W} (h : Nm n) : n ≠ [] := fun z => by have := h.l1; rw [z] at this; simp at this
section
variable {st : Gs}
theorem rf_gap {fw : List W} (h : noE (gapW :: fw) = true) : rowF st (gapW :: fw) = formed st fw := by
  unfold rowF
  rw [show (gapW :: fw).getD 0 [] = gapW from rfl, if_neg (by simp), if_neg (noE_any h), if_pos rfl]
  rfl
theorem rf_blank {ws : List W} (h : ws ≠ [[]]) (h2 : (ws.any fun t => t == []) = true) : rowF st ws = .error .nr := by
  unfold rowF
  rw [if_neg h, if_pos h2]
theorem rf_word {r : List W} (h : noE (wordW :: r) = true) : rowF st (wordW :: r) = if isKF (r.getD 0 []) = true then formed st (r.drop 1) else .error .nr := by
  unfold rowF
  rw [show (wordW :: r).getD 0 [] = wordW from rfl, if_neg (by simp), if_neg (noE_any h), if_neg (by decide), if_pos rfl]
  cases r <;> rfl
theorem rf_end {d : W} {r : List W} (h : noE (d :: r) = true) (h1 : d ≠ gapW) (h2 : d ≠ wordW) (h3 : deedW d = true) : rowF st (d :: r) = if putEndF st.es (d :: r) = true then .ok { st with es := st.es ++ [(d :: r).getD 1 []] } else .error .nr := by
  have h0 : d ≠ [] := fun z => by rw [z] at h; exact absurd h (by unfold noE; simp)
  unfold rowF
  rw [show (d :: r).getD 0 [] = d from rfl, if_neg (fun z => h0 (List.cons.inj z).1), if_neg (noE_any h), if_neg h1, if_neg h2, if_pos h3]
theorem rf_rule {r : List W} (h : noE (ruleW :: r) = true) : rowF st (ruleW :: r) = if ruleB (ruleW :: r) = true then (if noteB ((ruleW :: r).drop 4) = true then .ok { st with rs := st.rs ++ [((ruleW :: r).getD 1 [], ((ruleW :: r).drop 4).map bareF)], ns := st.ns ++ [(plF 63 ((ruleW :: r).drop 4), plF 33 ((ruleW :: r).drop 4))] } else .error .nr) else .error .nr := by
  unfold rowF
  rw [show (ruleW :: r).getD 0 [] = ruleW from rfl, if_neg (by simp), if_neg (noE_any h), if_neg (by decide), if_neg (by decide), if_neg (by decide +kernel), if_pos rfl]
theorem rf_else {d : W} {r : List W} (h : noE (d :: r) = true) (h1 : d ≠ gapW) (h2 : d ≠ wordW) (h3 : deedW d = false) (h4 : d ≠ ruleW) : rowF st (d :: r) = .error .nr := by
  have h0 : d ≠ [] := fun z => by rw [z] at h; exact absurd h (by unfold noE; simp)
  unfold rowF
  rw [show (d :: r).getD 0 [] = d from rfl, if_neg (fun z => h0 (List.cons.inj z).1), if_neg (noE_any h), if_neg h1, if_neg h2, if_neg (by rw [h3]; decide), if_neg h4]
end
theorem form_nil (st : Gs) : formed st [] = .error .nr := by unfold formed putFormF; rw [if_pos rfl]
theorem nr_gap {fw : List W} (h : noE (gapW :: fw) = true) (e : fw = []) : isNR (gapW :: fw) := fun st => by rw [rf_gap h, e]; exact form_nil st
theorem nr_wordK {r : List W} (h : noE (wordW :: r) = true) (e : isKF (r.getD 0 []) = false) : isNR (wordW :: r) := fun st => by rw [rf_word h, e]; rfl
theorem nr_wordF {k : W} (h : noE [wordW, k] = true) (e : isKF k = true) : isNR [wordW, k] := fun st => by
  rw [rf_word h]
  show (if isKF k = true then formed st [] else _) = _
  rw [if_pos e]; exact form_nil st
theorem nr_blank {ws : List W} (h : ws ≠ [[]]) (h2 : (ws.any fun t => t == []) = true) : isNR ws := fun st => rf_blank h h2
theorem nr_endK {d : W} {r : List W} (h : noE (d :: r) = true) (h1 : d ≠ gapW) (h2 : d ≠ wordW) (h3 : deedW d = true) (e : isKF ((d :: r).getD 1 []) = false) : isNR (d :: r) := fun st => by
  rw [rf_end h h1 h2 h3, if_neg]
  unfold putEndF
  rw [e]; simp
theorem nr_endL {d : W} {r : List W} (h : noE (d :: r) = true) (h1 : d ≠ gapW) (h2 : d ≠ wordW) (h3 : deedW d = true) (e : decide ((d :: r).length ≤ 2) = false) : isNR (d :: r) := fun st => by
  rw [rf_end h h1 h2 h3, if_neg]
  unfold putEndF
  rw [e]; simp
theorem nr_rule {r : List W} (h : noE (ruleW :: r) = true) (e : ruleB (ruleW :: r) = false) : isNR (ruleW :: r) := fun st => by rw [rf_rule h, e]; rfl
theorem nr_note {r : List W} (h : noE (ruleW :: r) = true) (e : noteB ((ruleW :: r).drop 4) = false) : isNR (ruleW :: r) := fun st => by
  rw [rf_rule h, e]
  by_cases z : ruleB (ruleW :: r) = true
  · rw [if_pos z]; rfl
  · rw [if_neg z]
theorem rbL {ws : List W} (h : decide (4 ≤ ws.length) = false) : ruleB ws = false := by unfold ruleB; rw [h]; rfl
theorem rbS {ws : List W} (h : isKF (ws.getD 1 []) = false) : ruleB ws = false := by unfold ruleB; rw [h]; simp
theorem rbR {ws : List W} (h : rankB (ws.getD 2 []) = false) : ruleB ws = false := by unfold ruleB; rw [h]; simp
theorem rbD {ws : List W} (h : sideW (ws.getD 3 []) = false) : ruleB ws = false := by unfold ruleB; rw [h]; simp
theorem rbP {ws : List W} (h : ((ws.drop 4).map bareF).all isKF = false) : ruleB ws = false := by unfold ruleB; rw [h]; simp
theorem nf_gap {fw : List W} (h : noE (gapW :: fw) = true) (hf : fw ≠ []) (e : formF (joinWith [32] fw) = none) : isNF (gapW :: fw) := fun st hst => by
  rw [rf_gap h]
  unfold formed putFormF
  rw [if_neg hf, if_neg (by omega), e]; rfl
theorem nf_word {k : W} {fw : List W} (h : noE (wordW :: k :: fw) = true) (hk : isKF k = true) (hf : fw ≠ []) (e : formF (joinWith [32] fw) = none) : isNF (wordW :: k :: fw) := fun st hst => by
  rw [rf_word h]
  show (if isKF k = true then formed st fw else _) = _
  rw [if_pos hk]
  unfold formed putFormF
  rw [if_neg hf, if_neg (by omega), e]; rfl
theorem lq_0 : (Str.ofString "gap") = S [103, 97, 112] := rfl
theorem lq_1 : (Str.ofString "word ") = S [119, 111, 114, 100, 32] := rfl
theorem lq_2 : (Str.ofString "word") = S [119, 111, 114, 100] := rfl
theorem lq_3 : (Str.ofString "A @.a") = S [65, 32, 64, 46, 97] := rfl
theorem lq_4 : (Str.ofString "word end @.a") = S [119, 111, 114, 100, 32, 101, 110, 100, 32, 64, 46, 97] := rfl
theorem lq_5 : (Str.ofString "word stray =.a") = S [119, 111, 114, 100, 32, 115, 116, 114, 97, 121, 32, 61, 46, 97] := rfl
theorem lq_6 : (Str.ofString " gap @.a") = S [32, 103, 97, 112, 32, 64, 46, 97] := rfl
theorem lq_7 : (Str.ofString "gap @.a ") = S [103, 97, 112, 32, 64, 46, 97, 32] := rfl
theorem lq_8 : (Str.ofString "gap  @.a") = S [103, 97, 112, 32, 32, 64, 46, 97] := rfl
theorem lq_9 : (Str.ofString "word  ") = S [119, 111, 114, 100, 32, 32] := rfl
theorem lq_10 : (Str.ofString " @.a") = S [32, 64, 46, 97] := rfl
theorem lq_11 : (Str.ofString "stop") = S [115, 116, 111, 112] := rfl
theorem lq_12 : (Str.ofString "stop ") = S [115, 116, 111, 112, 32] := rfl
theorem lq_13 : (Str.ofString " ") = S [32] := rfl
theorem lq_14 : (Str.ofString "Stop ") = S [83, 116, 111, 112, 32] := rfl
theorem lq_15 : (Str.ofString "open end") = S [111, 112, 101, 110, 32, 101, 110, 100] := rfl
theorem lq_16 : (Str.ofString "close stray") = S [99, 108, 111, 115, 101, 32, 115, 116, 114, 97, 121] := rfl
theorem lq_17 : (Str.ofString "open 1") = S [111, 112, 101, 110, 32, 49] := rfl
theorem lq_18 : (Str.ofString "rule") = S [114, 117, 108, 101] := rfl
theorem lq_19 : (Str.ofString "rule ") = S [114, 117, 108, 101, 32] := rfl
theorem lq_20 : (Str.ofString " 1") = S [32, 49] := rfl
theorem lq_21 : (Str.ofString " 100 left ") = S [32, 49, 48, 48, 32, 108, 101, 102, 116, 32] := rfl
theorem lq_22 : (Str.ofString " 07 left ") = S [32, 48, 55, 32, 108, 101, 102, 116, 32] := rfl
theorem lq_23 : (Str.ofString " 00 none") = S [32, 48, 48, 32, 110, 111, 110, 101] := rfl
theorem lq_24 : (Str.ofString " -1 left a") = S [32, 45, 49, 32, 108, 101, 102, 116, 32, 97] := rfl
theorem lq_25 : (Str.ofString " 1 Left a") = S [32, 49, 32, 76, 101, 102, 116, 32, 97] := rfl
theorem lq_26 : (Str.ofString " 1 left aB") = S [32, 49, 32, 108, 101, 102, 116, 32, 97, 66] := rfl
theorem lq_27 : (Str.ofString " 1 none ?a b ?") = S [32, 49, 32, 110, 111, 110, 101, 32, 63, 97, 32, 98, 32, 63] := rfl
theorem lq_28 : (Str.ofString " 1 none !a !") = S [32, 49, 32, 110, 111, 110, 101, 32, 33, 97, 32, 33] := rfl
theorem lq_29 : (Str.ofString " b") = S [32, 98] := rfl
theorem lq_30 : (Str.ofString "rule end 1 none a") = S [114, 117, 108, 101, 32, 101, 110, 100, 32, 49, 32, 110, 111, 110, 101, 32, 97] := rfl
theorem lq_31 : (Str.ofString " 1 none a end") = S [32, 49, 32, 110, 111, 110, 101, 32, 97, 32, 101, 110, 100] := rfl
theorem lq_32 : (Str.ofString " 1 right ?!a") = S [32, 49, 32, 114, 105, 103, 104, 116, 32, 63, 33, 97] := rfl
theorem lq_33 : (Str.ofString " 1 left ?") = S [32, 49, 32, 108, 101, 102, 116, 32, 63] := rfl
theorem lq_34 : (Str.ofString " +1 none ") = S [32, 43, 49, 32, 110, 111, 110, 101, 32] := rfl
theorem lq_35 : (Str.ofString "word end @") = S [119, 111, 114, 100, 32, 101, 110, 100, 32, 64] := rfl
theorem lq_36 : (Str.ofString " 1 none !") = S [32, 49, 32, 110, 111, 110, 101, 32, 33] := rfl
theorem lq_37 : (Str.ofString "gap a") = S [103, 97, 112, 32, 97] := rfl
theorem lq_38 : (Str.ofString "gap @") = S [103, 97, 112, 32, 64] := rfl
theorem lq_39 : (Str.ofString "gap @.") = S [103, 97, 112, 32, 64, 46] := rfl
theorem lq_40 : (Str.ofString "gap @.~") = S [103, 97, 112, 32, 64, 46, 126] := rfl
theorem lq_41 : (Str.ofString "gap @.a~c") = S [103, 97, 112, 32, 64, 46, 97, 126, 99] := rfl
theorem lq_42 : (Str.ofString " =+a") = S [32, 61, 43, 97] := rfl
theorem lq_43 : (Str.ofString " =*a") = S [32, 61, 42, 97] := rfl
theorem lq_44 : (Str.ofString " =?") = S [32, 61, 63] := rfl
theorem lq_45 : (Str.ofString " @.a b") = S [32, 64, 46, 97, 32, 98] := rfl
theorem lq_46 : (Str.ofString "gap &.a") = S [103, 97, 112, 32, 38, 46, 97] := rfl
theorem lq_47 : (Str.ofString "gap @!a") = S [103, 97, 112, 32, 64, 33, 97] := rfl
theorem lq_48 : (Str.ofString "gap @.~~") = S [103, 97, 112, 32, 64, 46, 126, 126] := rfl
theorem lq_49 : (Str.ofString " ^+~a~A~a~0~a") = S [32, 94, 43, 126, 97, 126, 65, 126, 97, 126, 48, 126, 97] := rfl
theorem lq_50 : (Str.ofString "gap ^.~B") = S [103, 97, 112, 32, 94, 46, 126, 66] := rfl
theorem lq_51 : (Str.ofString " =.a @>") = S [32, 61, 46, 97, 32, 64, 62] := rfl
theorem suf_k {n l : W} (hl : (l.any fun c => !azB c) = true) : isKF (n ++ l) = false := by
  obtain ⟨c, hc, e⟩ := List.any_eq_true.mp hl
  have : (n ++ l).all azB = false := Bool.eq_false_iff.mpr fun z => by
    have := List.all_eq_true.mp z c (List.mem_append_right _ hc)
    rw [this] at e; cases e
  unfold isKF
  rw [this]; simp
theorem nr_name {n : W} (h : Nm n) : isNR [n] := fun st => by
  have hn : noE [n] = true := noE_cons h.nn rfl
  by_cases h1 : n = gapW
  · subst h1; exact nr_gap hn rfl st
  by_cases h2 : n = wordW
  · subst h2; exact nr_wordK hn (by decide) st
  by_cases h4 : n = ruleW
  · subst h4; exact nr_rule hn (rbL rfl) st
  cases h3 : deedW n with
  | true => exact nr_endK hn h1 h2 h3 (show isKF [] = false by decide) st
  | false => exact rf_else hn h1 h2 h3 h4
theorem nf_q {n : W} (h : Nm n) : formF (joinWith [32] [[61, 63] ++ n]) = none := by
  have e0 : joinWith [32] [[61, 63] ++ n] = 61 :: 63 :: n := rfl
  have hb : 32 ∉ 61 :: 63 :: n := fun z => by
    rcases List.mem_cons.mp z with y | y
    · cases y
    · rcases List.mem_cons.mp y with y | y
      · cases y
      · have := h.az 32 y
        exact absurd this (by decide)
  have es : splitOn 32 (61 :: 63 :: n) = [61 :: 63 :: n] := by
    have := splitOn_join (c := 32) (ps := [61 :: 63 :: n]) (by simp) fun p hp => by rw [List.mem_singleton.mp hp]; exact hb
    exact this
  rw [e0]
  unfold formF
  rw [es]
  split
  · split
    · show (match partF (61 :: 63 :: n) with | none => none | some p => (partsF []).map (p :: ·)) = none
      have : partF (61 :: 63 :: n) = none := by
        show (match deedOf 61, manyOf 63 with | some d, some m => (if d = 2 ∧ rowB m = false then none else match dec n with | none => none | some l => if 1 ≤ l.length ∧ l.length ≤ 100 then some ⟨d, m, l⟩ else none) | _, _ => none) = none
        rfl
      rw [this]
    · rfl
  · rfl

theorem nr_0 {n : W} (h : Nm n) : El isNR (Str.ofString "gap") :=
  ⟨[[103, 97, 112]], rfl, ⟨by simp, by simp, (Ro.cons (by decide) Ro.nil)⟩, (nr_gap (noE_cons (by decide) (by decide)) rfl)⟩
theorem nr_1 {n : W} (h : Nm n) : El isNR ((Str.ofString "word ") ++ (S n)) :=
  ⟨[[119, 111, 114, 100], n], by (simp only [lq_0, lq_1, lq_2, lq_3, lq_4, lq_5, lq_6, lq_7, lq_8, lq_9, lq_10, lq_11, lq_12, lq_13, lq_14, lq_15, lq_16, lq_17, lq_18, lq_19, lq_20, lq_21, lq_22, lq_23, lq_24, lq_25, lq_26, lq_27, lq_28, lq_29, lq_30, lq_31, lq_32, lq_33, lq_34, lq_35, lq_36, lq_37, lq_38, lq_39, lq_40, lq_41, lq_42, lq_43, lq_44, lq_45, lq_46, lq_47, lq_48, lq_49, lq_50, lq_51, S_app]; exact congrArg S (by simp [joinWith])), ⟨by simp, by simp, (Ro.cons (by decide) (Ro.cons h.wd Ro.nil))⟩, (nr_wordF (noE_cons (by decide) (noE_cons h.nn (by decide))) h.k)⟩
theorem nr_2 {n : W} (h : Nm n) : El isNR (Str.ofString "word") :=
  ⟨[[119, 111, 114, 100]], rfl, ⟨by simp, by simp, (Ro.cons (by decide) Ro.nil)⟩, (nr_wordK (noE_cons (by decide) (by decide)) (by decide))⟩
theorem nr_3 {n : W} (h : Nm n) : El isNR (((Str.ofString "word ") ++ (S n)) ++ (Str.ofString "A @.a")) :=
  ⟨[[119, 111, 114, 100], (n ++ [65]), [64, 46, 97]], by (simp only [lq_0, lq_1, lq_2, lq_3, lq_4, lq_5, lq_6, lq_7, lq_8, lq_9, lq_10, lq_11, lq_12, lq_13, lq_14, lq_15, lq_16, lq_17, lq_18, lq_19, lq_20, lq_21, lq_22, lq_23, lq_24, lq_25, lq_26, lq_27, lq_28, lq_29, lq_30, lq_31, lq_32, lq_33, lq_34, lq_35, lq_36, lq_37, lq_38, lq_39, lq_40, lq_41, lq_42, lq_43, lq_44, lq_45, lq_46, lq_47, lq_48, lq_49, lq_50, lq_51, S_app]; exact congrArg S (by simp [joinWith])), ⟨by simp, by simp, (Ro.cons (by decide) (Ro.cons (wd_suf h (by decide)) (Ro.cons (by decide) Ro.nil)))⟩, (nr_wordK (noE_cons (by decide) (noE_cons (fun z => h.nn (List.append_eq_nil_iff.mp z).1) (noE_cons (by decide) (by decide)))) (suf_k (by decide)))⟩
theorem nr_4 {n : W} (h : Nm n) : El isNR (Str.ofString "word end @.a") :=
  ⟨[[119, 111, 114, 100], [101, 110, 100], [64, 46, 97]], rfl, ⟨by simp, by simp, (Ro.cons (by decide) (Ro.cons (by decide) (Ro.cons (by decide) Ro.nil)))⟩, (nr_wordK (noE_cons (by decide) (noE_cons (by decide) (noE_cons (by decide) (by decide)))) (by decide))⟩
theorem nr_5 {n : W} (h : Nm n) : El isNR (Str.ofString "word stray =.a") :=
  ⟨[[119, 111, 114, 100], [115, 116, 114, 97, 121], [61, 46, 97]], rfl, ⟨by simp, by simp, (Ro.cons (by decide) (Ro.cons (by decide) (Ro.cons (by decide) Ro.nil)))⟩, (nr_wordK (noE_cons (by decide) (noE_cons (by decide) (noE_cons (by decide) (by decide)))) (by decide))⟩
theorem nr_6 {n : W} (h : Nm n) : El isNR (Str.ofString " gap @.a") :=
  ⟨[[], [103, 97, 112], [64, 46, 97]], rfl, ⟨by simp, by simp, (Ro.cons (by decide) (Ro.cons (by decide) (Ro.cons (by decide) Ro.nil)))⟩, (nr_blank (by simp) (by simp))⟩
theorem nr_7 {n : W} (h : Nm n) : El isNR (Str.ofString "gap @.a ") :=
  ⟨[[103, 97, 112], [64, 46, 97], []], rfl, ⟨by simp, by simp, (Ro.cons (by decide) (Ro.cons (by decide) (Ro.cons (by decide) Ro.nil)))⟩, (nr_blank (by simp) (by simp))⟩
theorem nr_8 {n : W} (h : Nm n) : El isNR (Str.ofString "gap  @.a") :=
  ⟨[[103, 97, 112], [], [64, 46, 97]], rfl, ⟨by simp, by simp, (Ro.cons (by decide) (Ro.cons (by decide) (Ro.cons (by decide) Ro.nil)))⟩, (nr_blank (by simp) (by simp))⟩
theorem nr_9 {n : W} (h : Nm n) : El isNR (((Str.ofString "word  ") ++ (S n)) ++ (Str.ofString " @.a")) :=
  ⟨[[119, 111, 114, 100], [], n, [64, 46, 97]], by (simp only [lq_0, lq_1, lq_2, lq_3, lq_4, lq_5, lq_6, lq_7, lq_8, lq_9, lq_10, lq_11, lq_12, lq_13, lq_14, lq_15, lq_16, lq_17, lq_18, lq_19, lq_20, lq_21, lq_22, lq_23, lq_24, lq_25, lq_26, lq_27, lq_28, lq_29, lq_30, lq_31, lq_32, lq_33, lq_34, lq_35, lq_36, lq_37, lq_38, lq_39, lq_40, lq_41, lq_42, lq_43, lq_44, lq_45, lq_46, lq_47, lq_48, lq_49, lq_50, lq_51, S_app]; exact congrArg S (by simp [joinWith])), ⟨by simp, by simp, (Ro.cons (by decide) (Ro.cons (by decide) (Ro.cons h.wd (Ro.cons (by decide) Ro.nil))))⟩, (nr_blank (by simp) (by simp))⟩
theorem nr_10 {n : W} (h : Nm n) : El isNR (Str.ofString "stop") :=
  ⟨[[115, 116, 111, 112]], rfl, ⟨by simp, by simp, (Ro.cons (by decide) Ro.nil)⟩, (nr_endK (noE_cons (by decide) (by decide)) (by decide) (by decide) (by decide +kernel) (by decide))⟩
theorem nr_11 {n : W} (h : Nm n) : El isNR ((((Str.ofString "stop ") ++ (S n)) ++ (Str.ofString " ")) ++ (S n)) :=
  ⟨[[115, 116, 111, 112], n, n], by (simp only [lq_0, lq_1, lq_2, lq_3, lq_4, lq_5, lq_6, lq_7, lq_8, lq_9, lq_10, lq_11, lq_12, lq_13, lq_14, lq_15, lq_16, lq_17, lq_18, lq_19, lq_20, lq_21, lq_22, lq_23, lq_24, lq_25, lq_26, lq_27, lq_28, lq_29, lq_30, lq_31, lq_32, lq_33, lq_34, lq_35, lq_36, lq_37, lq_38, lq_39, lq_40, lq_41, lq_42, lq_43, lq_44, lq_45, lq_46, lq_47, lq_48, lq_49, lq_50, lq_51, S_app]; exact congrArg S (by simp [joinWith])), ⟨by simp, by simp, (Ro.cons (by decide) (Ro.cons h.wd (Ro.cons h.wd Ro.nil)))⟩, (nr_endL (noE_cons (by decide) (noE_cons h.nn (noE_cons h.nn (by decide)))) (by decide) (by decide) (by decide +kernel) rfl)⟩
theorem nr_12 {n : W} (h : Nm n) : El isNR ((Str.ofString "Stop ") ++ (S n)) :=
  ⟨[[83, 116, 111, 112], n], by (simp only [lq_0, lq_1, lq_2, lq_3, lq_4, lq_5, lq_6, lq_7, lq_8, lq_9, lq_10, lq_11, lq_12, lq_13, lq_14, lq_15, lq_16, lq_17, lq_18, lq_19, lq_20, lq_21, lq_22, lq_23, lq_24, lq_25, lq_26, lq_27, lq_28, lq_29, lq_30, lq_31, lq_32, lq_33, lq_34, lq_35, lq_36, lq_37, lq_38, lq_39, lq_40, lq_41, lq_42, lq_43, lq_44, lq_45, lq_46, lq_47, lq_48, lq_49, lq_50, lq_51, S_app]; exact congrArg S (by simp [joinWith])), ⟨by simp, by simp, (Ro.cons (by decide) (Ro.cons h.wd Ro.nil))⟩, (fun st => rf_else (noE_cons (by decide) (noE_cons h.nn (by decide))) (by decide) (by decide) (by decide +kernel) (by decide))⟩
theorem nr_13 {n : W} (h : Nm n) : El isNR (Str.ofString "open end") :=
  ⟨[[111, 112, 101, 110], [101, 110, 100]], rfl, ⟨by simp, by simp, (Ro.cons (by decide) (Ro.cons (by decide) Ro.nil))⟩, (nr_endK (noE_cons (by decide) (noE_cons (by decide) (by decide))) (by decide) (by decide) (by decide +kernel) (by decide))⟩
theorem nr_14 {n : W} (h : Nm n) : El isNR (Str.ofString "close stray") :=
  ⟨[[99, 108, 111, 115, 101], [115, 116, 114, 97, 121]], rfl, ⟨by simp, by simp, (Ro.cons (by decide) (Ro.cons (by decide) Ro.nil))⟩, (nr_endK (noE_cons (by decide) (noE_cons (by decide) (by decide))) (by decide) (by decide) (by decide +kernel) (by decide))⟩
theorem nr_15 {n : W} (h : Nm n) : El isNR (Str.ofString "open 1") :=
  ⟨[[111, 112, 101, 110], [49]], rfl, ⟨by simp, by simp, (Ro.cons (by decide) (Ro.cons (by decide) Ro.nil))⟩, (nr_endK (noE_cons (by decide) (noE_cons (by decide) (by decide))) (by decide) (by decide) (by decide +kernel) (by decide))⟩
theorem nr_16 {n : W} (h : Nm n) : El isNR (Str.ofString "rule") :=
  ⟨[[114, 117, 108, 101]], rfl, ⟨by simp, by simp, (Ro.cons (by decide) Ro.nil)⟩, (nr_rule (noE_cons (by decide) (by decide)) (rbL rfl))⟩
theorem nr_17 {n : W} (h : Nm n) : El isNR ((Str.ofString "rule ") ++ (S n)) :=
  ⟨[[114, 117, 108, 101], n], by (simp only [lq_0, lq_1, lq_2, lq_3, lq_4, lq_5, lq_6, lq_7, lq_8, lq_9, lq_10, lq_11, lq_12, lq_13, lq_14, lq_15, lq_16, lq_17, lq_18, lq_19, lq_20, lq_21, lq_22, lq_23, lq_24, lq_25, lq_26, lq_27, lq_28, lq_29, lq_30, lq_31, lq_32, lq_33, lq_34, lq_35, lq_36, lq_37, lq_38, lq_39, lq_40, lq_41, lq_42, lq_43, lq_44, lq_45, lq_46, lq_47, lq_48, lq_49, lq_50, lq_51, S_app]; exact congrArg S (by simp [joinWith])), ⟨by simp, by simp, (Ro.cons (by decide) (Ro.cons h.wd Ro.nil))⟩, (nr_rule (noE_cons (by decide) (noE_cons h.nn (by decide))) (rbL rfl))⟩
theorem nr_18 {n : W} (h : Nm n) : El isNR (((Str.ofString "rule ") ++ (S n)) ++ (Str.ofString " 1")) :=
  ⟨[[114, 117, 108, 101], n, [49]], by (simp only [lq_0, lq_1, lq_2, lq_3, lq_4, lq_5, lq_6, lq_7, lq_8, lq_9, lq_10, lq_11, lq_12, lq_13, lq_14, lq_15, lq_16, lq_17, lq_18, lq_19, lq_20, lq_21, lq_22, lq_23, lq_24, lq_25, lq_26, lq_27, lq_28, lq_29, lq_30, lq_31, lq_32, lq_33, lq_34, lq_35, lq_36, lq_37, lq_38, lq_39, lq_40, lq_41, lq_42, lq_43, lq_44, lq_45, lq_46, lq_47, lq_48, lq_49, lq_50, lq_51, S_app]; exact congrArg S (by simp [joinWith])), ⟨by simp, by simp, (Ro.cons (by decide) (Ro.cons h.wd (Ro.cons (by decide) Ro.nil)))⟩, (nr_rule (noE_cons (by decide) (noE_cons h.nn (noE_cons (by decide) (by decide)))) (rbL rfl))⟩
theorem nr_19 {n : W} (h : Nm n) : El isNR ((((Str.ofString "rule ") ++ (S n)) ++ (Str.ofString " 100 left ")) ++ (S n)) :=
  ⟨[[114, 117, 108, 101], n, [49, 48, 48], [108, 101, 102, 116], n], by (simp only [lq_0, lq_1, lq_2, lq_3, lq_4, lq_5, lq_6, lq_7, lq_8, lq_9, lq_10, lq_11, lq_12, lq_13, lq_14, lq_15, lq_16, lq_17, lq_18, lq_19, lq_20, lq_21, lq_22, lq_23, lq_24, lq_25, lq_26, lq_27, lq_28, lq_29, lq_30, lq_31, lq_32, lq_33, lq_34, lq_35, lq_36, lq_37, lq_38, lq_39, lq_40, lq_41, lq_42, lq_43, lq_44, lq_45, lq_46, lq_47, lq_48, lq_49, lq_50, lq_51, S_app]; exact congrArg S (by simp [joinWith])), ⟨by simp, by simp, (Ro.cons (by decide) (Ro.cons h.wd (Ro.cons (by decide) (Ro.cons (by decide) (Ro.cons h.wd Ro.nil)))))⟩, (nr_rule (noE_cons (by decide) (noE_cons h.nn (noE_cons (by decide) (noE_cons (by decide) (noE_cons h.nn (by decide)))))) (rbR (show rankB [49, 48, 48] = false by decide)))⟩
theorem nr_20 {n : W} (h : Nm n) : El isNR ((((Str.ofString "rule ") ++ (S n)) ++ (Str.ofString " 07 left ")) ++ (S n)) :=
  ⟨[[114, 117, 108, 101], n, [48, 55], [108, 101, 102, 116], n], by (simp only [lq_0, lq_1, lq_2, lq_3, lq_4, lq_5, lq_6, lq_7, lq_8, lq_9, lq_10, lq_11, lq_12, lq_13, lq_14, lq_15, lq_16, lq_17, lq_18, lq_19, lq_20, lq_21, lq_22, lq_23, lq_24, lq_25, lq_26, lq_27, lq_28, lq_29, lq_30, lq_31, lq_32, lq_33, lq_34, lq_35, lq_36, lq_37, lq_38, lq_39, lq_40, lq_41, lq_42, lq_43, lq_44, lq_45, lq_46, lq_47, lq_48, lq_49, lq_50, lq_51, S_app]; exact congrArg S (by simp [joinWith])), ⟨by simp, by simp, (Ro.cons (by decide) (Ro.cons h.wd (Ro.cons (by decide) (Ro.cons (by decide) (Ro.cons h.wd Ro.nil)))))⟩, (nr_rule (noE_cons (by decide) (noE_cons h.nn (noE_cons (by decide) (noE_cons (by decide) (noE_cons h.nn (by decide)))))) (rbR (show rankB [48, 55] = false by decide)))⟩
theorem nr_21 {n : W} (h : Nm n) : El isNR (((Str.ofString "rule ") ++ (S n)) ++ (Str.ofString " 00 none")) :=
  ⟨[[114, 117, 108, 101], n, [48, 48], [110, 111, 110, 101]], by (simp only [lq_0, lq_1, lq_2, lq_3, lq_4, lq_5, lq_6, lq_7, lq_8, lq_9, lq_10, lq_11, lq_12, lq_13, lq_14, lq_15, lq_16, lq_17, lq_18, lq_19, lq_20, lq_21, lq_22, lq_23, lq_24, lq_25, lq_26, lq_27, lq_28, lq_29, lq_30, lq_31, lq_32, lq_33, lq_34, lq_35, lq_36, lq_37, lq_38, lq_39, lq_40, lq_41, lq_42, lq_43, lq_44, lq_45, lq_46, lq_47, lq_48, lq_49, lq_50, lq_51, S_app]; exact congrArg S (by simp [joinWith])), ⟨by simp, by simp, (Ro.cons (by decide) (Ro.cons h.wd (Ro.cons (by decide) (Ro.cons (by decide) Ro.nil))))⟩, (nr_rule (noE_cons (by decide) (noE_cons h.nn (noE_cons (by decide) (noE_cons (by decide) (by decide))))) (rbR (show rankB [48, 48] = false by decide)))⟩
theorem nr_22 {n : W} (h : Nm n) : El isNR (((Str.ofString "rule ") ++ (S n)) ++ (Str.ofString " -1 left a")) :=
  ⟨[[114, 117, 108, 101], n, [45, 49], [108, 101, 102, 116], [97]], by (simp only [lq_0, lq_1, lq_2, lq_3, lq_4, lq_5, lq_6, lq_7, lq_8, lq_9, lq_10, lq_11, lq_12, lq_13, lq_14, lq_15, lq_16, lq_17, lq_18, lq_19, lq_20, lq_21, lq_22, lq_23, lq_24, lq_25, lq_26, lq_27, lq_28, lq_29, lq_30, lq_31, lq_32, lq_33, lq_34, lq_35, lq_36, lq_37, lq_38, lq_39, lq_40, lq_41, lq_42, lq_43, lq_44, lq_45, lq_46, lq_47, lq_48, lq_49, lq_50, lq_51, S_app]; exact congrArg S (by simp [joinWith])), ⟨by simp, by simp, (Ro.cons (by decide) (Ro.cons h.wd (Ro.cons (by decide) (Ro.cons (by decide) (Ro.cons (by decide) Ro.nil)))))⟩, (nr_rule (noE_cons (by decide) (noE_cons h.nn (noE_cons (by decide) (noE_cons (by decide) (noE_cons (by decide) (by decide)))))) (rbR (show rankB [45, 49] = false by decide)))⟩
theorem nr_23 {n : W} (h : Nm n) : El isNR (((Str.ofString "rule ") ++ (S n)) ++ (Str.ofString " 1 Left a")) :=
  ⟨[[114, 117, 108, 101], n, [49], [76, 101, 102, 116], [97]], by (simp only [lq_0, lq_1, lq_2, lq_3, lq_4, lq_5, lq_6, lq_7, lq_8, lq_9, lq_10, lq_11, lq_12, lq_13, lq_14, lq_15, lq_16, lq_17, lq_18, lq_19, lq_20, lq_21, lq_22, lq_23, lq_24, lq_25, lq_26, lq_27, lq_28, lq_29, lq_30, lq_31, lq_32, lq_33, lq_34, lq_35, lq_36, lq_37, lq_38, lq_39, lq_40, lq_41, lq_42, lq_43, lq_44, lq_45, lq_46, lq_47, lq_48, lq_49, lq_50, lq_51, S_app]; exact congrArg S (by simp [joinWith])), ⟨by simp, by simp, (Ro.cons (by decide) (Ro.cons h.wd (Ro.cons (by decide) (Ro.cons (by decide) (Ro.cons (by decide) Ro.nil)))))⟩, (nr_rule (noE_cons (by decide) (noE_cons h.nn (noE_cons (by decide) (noE_cons (by decide) (noE_cons (by decide) (by decide)))))) (rbD (show sideW [76, 101, 102, 116] = false by decide +kernel)))⟩
theorem nr_24 {n : W} (h : Nm n) : El isNR (((Str.ofString "rule ") ++ (S n)) ++ (Str.ofString " 1 left aB")) :=
  ⟨[[114, 117, 108, 101], n, [49], [108, 101, 102, 116], [97, 66]], by (simp only [lq_0, lq_1, lq_2, lq_3, lq_4, lq_5, lq_6, lq_7, lq_8, lq_9, lq_10, lq_11, lq_12, lq_13, lq_14, lq_15, lq_16, lq_17, lq_18, lq_19, lq_20, lq_21, lq_22, lq_23, lq_24, lq_25, lq_26, lq_27, lq_28, lq_29, lq_30, lq_31, lq_32, lq_33, lq_34, lq_35, lq_36, lq_37, lq_38, lq_39, lq_40, lq_41, lq_42, lq_43, lq_44, lq_45, lq_46, lq_47, lq_48, lq_49, lq_50, lq_51, S_app]; exact congrArg S (by simp [joinWith])), ⟨by simp, by simp, (Ro.cons (by decide) (Ro.cons h.wd (Ro.cons (by decide) (Ro.cons (by decide) (Ro.cons (by decide) Ro.nil)))))⟩, (nr_rule (noE_cons (by decide) (noE_cons h.nn (noE_cons (by decide) (noE_cons (by decide) (noE_cons (by decide) (by decide)))))) (rbP (show (([[97, 66]] : List W).map bareF).all isKF = false by decide)))⟩
theorem nr_25 {n : W} (h : Nm n) : El isNR ((((Str.ofString "rule ") ++ (S n)) ++ (Str.ofString " 1 none ?a b ?")) ++ (S n)) :=
  ⟨[[114, 117, 108, 101], n, [49], [110, 111, 110, 101], [63, 97], [98], ([63] ++ n)], by (simp only [lq_0, lq_1, lq_2, lq_3, lq_4, lq_5, lq_6, lq_7, lq_8, lq_9, lq_10, lq_11, lq_12, lq_13, lq_14, lq_15, lq_16, lq_17, lq_18, lq_19, lq_20, lq_21, lq_22, lq_23, lq_24, lq_25, lq_26, lq_27, lq_28, lq_29, lq_30, lq_31, lq_32, lq_33, lq_34, lq_35, lq_36, lq_37, lq_38, lq_39, lq_40, lq_41, lq_42, lq_43, lq_44, lq_45, lq_46, lq_47, lq_48, lq_49, lq_50, lq_51, S_app]; exact congrArg S (by simp [joinWith])), ⟨by simp, by simp, (Ro.cons (by decide) (Ro.cons h.wd (Ro.cons (by decide) (Ro.cons (by decide) (Ro.cons (by decide) (Ro.cons (by decide) (Ro.cons (wd_pre h (by decide)) Ro.nil)))))))⟩, (nr_note (noE_cons (by decide) (noE_cons h.nn (noE_cons (by decide) (noE_cons (by decide) (noE_cons (by decide) (noE_cons (by decide) (noE_cons (by simp) (by decide)))))))) (show noteB [[63, 97], [98], ([63] ++ n)] = false from by simp [noteB, placesF]))⟩
theorem nr_26 {n : W} (h : Nm n) : El isNR (((((Str.ofString "rule ") ++ (S n)) ++ (Str.ofString " 1 none !a !")) ++ (S n)) ++ (Str.ofString " b")) :=
  ⟨[[114, 117, 108, 101], n, [49], [110, 111, 110, 101], [33, 97], ([33] ++ n), [98]], by (simp only [lq_0, lq_1, lq_2, lq_3, lq_4, lq_5, lq_6, lq_7, lq_8, lq_9, lq_10, lq_11, lq_12, lq_13, lq_14, lq_15, lq_16, lq_17, lq_18, lq_19, lq_20, lq_21, lq_22, lq_23, lq_24, lq_25, lq_26, lq_27, lq_28, lq_29, lq_30, lq_31, lq_32, lq_33, lq_34, lq_35, lq_36, lq_37, lq_38, lq_39, lq_40, lq_41, lq_42, lq_43, lq_44, lq_45, lq_46, lq_47, lq_48, lq_49, lq_50, lq_51, S_app]; exact congrArg S (by simp [joinWith])), ⟨by simp, by simp, (Ro.cons (by decide) (Ro.cons h.wd (Ro.cons (by decide) (Ro.cons (by decide) (Ro.cons (by decide) (Ro.cons (wd_pre h (by decide)) (Ro.cons (by decide) Ro.nil)))))))⟩, (nr_note (noE_cons (by decide) (noE_cons h.nn (noE_cons (by decide) (noE_cons (by decide) (noE_cons (by decide) (noE_cons (by simp) (noE_cons (by decide) (by decide)))))))) (show noteB [[33, 97], ([33] ++ n), [98]] = false from by simp [noteB, placesF]))⟩
theorem nr_27 {n : W} (h : Nm n) : El isNR (Str.ofString "rule end 1 none a") :=
  ⟨[[114, 117, 108, 101], [101, 110, 100], [49], [110, 111, 110, 101], [97]], rfl, ⟨by simp, by simp, (Ro.cons (by decide) (Ro.cons (by decide) (Ro.cons (by decide) (Ro.cons (by decide) (Ro.cons (by decide) Ro.nil)))))⟩, (nr_rule (noE_cons (by decide) (noE_cons (by decide) (noE_cons (by decide) (noE_cons (by decide) (noE_cons (by decide) (by decide)))))) (rbS (show isKF [101, 110, 100] = false by decide)))⟩
theorem nr_28 {n : W} (h : Nm n) : El isNR (((Str.ofString "rule ") ++ (S n)) ++ (Str.ofString " 1 none a end")) :=
  ⟨[[114, 117, 108, 101], n, [49], [110, 111, 110, 101], [97], [101, 110, 100]], by (simp only [lq_0, lq_1, lq_2, lq_3, lq_4, lq_5, lq_6, lq_7, lq_8, lq_9, lq_10, lq_11, lq_12, lq_13, lq_14, lq_15, lq_16, lq_17, lq_18, lq_19, lq_20, lq_21, lq_22, lq_23, lq_24, lq_25, lq_26, lq_27, lq_28, lq_29, lq_30, lq_31, lq_32, lq_33, lq_34, lq_35, lq_36, lq_37, lq_38, lq_39, lq_40, lq_41, lq_42, lq_43, lq_44, lq_45, lq_46, lq_47, lq_48, lq_49, lq_50, lq_51, S_app]; exact congrArg S (by simp [joinWith])), ⟨by simp, by simp, (Ro.cons (by decide) (Ro.cons h.wd (Ro.cons (by decide) (Ro.cons (by decide) (Ro.cons (by decide) (Ro.cons (by decide) Ro.nil))))))⟩, (nr_rule (noE_cons (by decide) (noE_cons h.nn (noE_cons (by decide) (noE_cons (by decide) (noE_cons (by decide) (noE_cons (by decide) (by decide))))))) (rbP (show (([[97], [101, 110, 100]] : List W).map bareF).all isKF = false by decide)))⟩
theorem nr_29 {n : W} (h : Nm n) : El isNR (((Str.ofString "rule ") ++ (S n)) ++ (Str.ofString " 1 right ?!a")) :=
  ⟨[[114, 117, 108, 101], n, [49], [114, 105, 103, 104, 116], [63, 33, 97]], by (simp only [lq_0, lq_1, lq_2, lq_3, lq_4, lq_5, lq_6, lq_7, lq_8, lq_9, lq_10, lq_11, lq_12, lq_13, lq_14, lq_15, lq_16, lq_17, lq_18, lq_19, lq_20, lq_21, lq_22, lq_23, lq_24, lq_25, lq_26, lq_27, lq_28, lq_29, lq_30, lq_31, lq_32, lq_33, lq_34, lq_35, lq_36, lq_37, lq_38, lq_39, lq_40, lq_41, lq_42, lq_43, lq_44, lq_45, lq_46, lq_47, lq_48, lq_49, lq_50, lq_51, S_app]; exact congrArg S (by simp [joinWith])), ⟨by simp, by simp, (Ro.cons (by decide) (Ro.cons h.wd (Ro.cons (by decide) (Ro.cons (by decide) (Ro.cons (by decide) Ro.nil)))))⟩, (nr_rule (noE_cons (by decide) (noE_cons h.nn (noE_cons (by decide) (noE_cons (by decide) (noE_cons (by decide) (by decide)))))) (rbP (show (([[63, 33, 97]] : List W).map bareF).all isKF = false by decide)))⟩
theorem nr_30 {n : W} (h : Nm n) : El isNR (S n) :=
  ⟨[n], rfl, ⟨by simp, by simp, (Ro.cons h.wd Ro.nil)⟩, (nr_name h)⟩
theorem nr_31 {n : W} (h : Nm n) : El isNR (Str.ofString " ") :=
  ⟨[[], []], rfl, ⟨by simp, by simp, (Ro.cons (by decide) (Ro.cons (by decide) Ro.nil))⟩, (nr_blank (by simp) (by simp))⟩
theorem nr_32 {n : W} (h : Nm n) : El isNR (((Str.ofString "rule ") ++ (S n)) ++ (Str.ofString " 1 left ?")) :=
  ⟨[[114, 117, 108, 101], n, [49], [108, 101, 102, 116], [63]], by (simp only [lq_0, lq_1, lq_2, lq_3, lq_4, lq_5, lq_6, lq_7, lq_8, lq_9, lq_10, lq_11, lq_12, lq_13, lq_14, lq_15, lq_16, lq_17, lq_18, lq_19, lq_20, lq_21, lq_22, lq_23, lq_24, lq_25, lq_26, lq_27, lq_28, lq_29, lq_30, lq_31, lq_32, lq_33, lq_34, lq_35, lq_36, lq_37, lq_38, lq_39, lq_40, lq_41, lq_42, lq_43, lq_44, lq_45, lq_46, lq_47, lq_48, lq_49, lq_50, lq_51, S_app]; exact congrArg S (by simp [joinWith])), ⟨by simp, by simp, (Ro.cons (by decide) (Ro.cons h.wd (Ro.cons (by decide) (Ro.cons (by decide) (Ro.cons (by decide) Ro.nil)))))⟩, (nr_rule (noE_cons (by decide) (noE_cons h.nn (noE_cons (by decide) (noE_cons (by decide) (noE_cons (by decide) (by decide)))))) (rbP (show (([[63]] : List W).map bareF).all isKF = false by decide)))⟩
theorem nr_33 {n : W} (h : Nm n) : El isNR ((Str.ofString "stop ") ++ (S (c13 n))) :=
  ⟨[[115, 116, 111, 112], c13 n], by (simp only [lq_0, lq_1, lq_2, lq_3, lq_4, lq_5, lq_6, lq_7, lq_8, lq_9, lq_10, lq_11, lq_12, lq_13, lq_14, lq_15, lq_16, lq_17, lq_18, lq_19, lq_20, lq_21, lq_22, lq_23, lq_24, lq_25, lq_26, lq_27, lq_28, lq_29, lq_30, lq_31, lq_32, lq_33, lq_34, lq_35, lq_36, lq_37, lq_38, lq_39, lq_40, lq_41, lq_42, lq_43, lq_44, lq_45, lq_46, lq_47, lq_48, lq_49, lq_50, lq_51, S_app]; exact congrArg S (by simp [joinWith])), ⟨by simp, by simp, (Ro.cons (by decide) (Ro.cons (c13_wd h) Ro.nil))⟩, (nr_endK (noE_cons (by decide) (noE_cons (fun z => by have := c13_len h; rw [z] at this; cases this) (by decide))) (by decide) (by decide) (by decide +kernel) (c13_k h))⟩
theorem nr_34 {n : W} (h : Nm n) : El isNR ((((Str.ofString "rule ") ++ (S n)) ++ (Str.ofString " +1 none ")) ++ (S n)) :=
  ⟨[[114, 117, 108, 101], n, [43, 49], [110, 111, 110, 101], n], by (simp only [lq_0, lq_1, lq_2, lq_3, lq_4, lq_5, lq_6, lq_7, lq_8, lq_9, lq_10, lq_11, lq_12, lq_13, lq_14, lq_15, lq_16, lq_17, lq_18, lq_19, lq_20, lq_21, lq_22, lq_23, lq_24, lq_25, lq_26, lq_27, lq_28, lq_29, lq_30, lq_31, lq_32, lq_33, lq_34, lq_35, lq_36, lq_37, lq_38, lq_39, lq_40, lq_41, lq_42, lq_43, lq_44, lq_45, lq_46, lq_47, lq_48, lq_49, lq_50, lq_51, S_app]; exact congrArg S (by simp [joinWith])), ⟨by simp, by simp, (Ro.cons (by decide) (Ro.cons h.wd (Ro.cons (by decide) (Ro.cons (by decide) (Ro.cons h.wd Ro.nil)))))⟩, (nr_rule (noE_cons (by decide) (noE_cons h.nn (noE_cons (by decide) (noE_cons (by decide) (noE_cons h.nn (by decide)))))) (rbR (show rankB [43, 49] = false by decide)))⟩
theorem nr_35 {n : W} (h : Nm n) : El isNR (Str.ofString "word end @") :=
  ⟨[[119, 111, 114, 100], [101, 110, 100], [64]], rfl, ⟨by simp, by simp, (Ro.cons (by decide) (Ro.cons (by decide) (Ro.cons (by decide) Ro.nil)))⟩, (nr_wordK (noE_cons (by decide) (noE_cons (by decide) (noE_cons (by decide) (by decide)))) (by decide))⟩
theorem nr_36 {n : W} (h : Nm n) : El isNR (((Str.ofString "word ") ++ (S (c13 n))) ++ (Str.ofString " @.a")) :=
  ⟨[[119, 111, 114, 100], c13 n, [64, 46, 97]], by (simp only [lq_0, lq_1, lq_2, lq_3, lq_4, lq_5, lq_6, lq_7, lq_8, lq_9, lq_10, lq_11, lq_12, lq_13, lq_14, lq_15, lq_16, lq_17, lq_18, lq_19, lq_20, lq_21, lq_22, lq_23, lq_24, lq_25, lq_26, lq_27, lq_28, lq_29, lq_30, lq_31, lq_32, lq_33, lq_34, lq_35, lq_36, lq_37, lq_38, lq_39, lq_40, lq_41, lq_42, lq_43, lq_44, lq_45, lq_46, lq_47, lq_48, lq_49, lq_50, lq_51, S_app]; exact congrArg S (by simp [joinWith])), ⟨by simp, by simp, (Ro.cons (by decide) (Ro.cons (c13_wd h) (Ro.cons (by decide) Ro.nil)))⟩, (nr_wordK (noE_cons (by decide) (noE_cons (fun z => by have := c13_len h; rw [z] at this; cases this) (noE_cons (by decide) (by decide)))) (c13_k h))⟩
theorem nr_37 {n : W} (h : Nm n) : El isNR (((Str.ofString "rule ") ++ (S n)) ++ (Str.ofString " 1 none !")) :=
  ⟨[[114, 117, 108, 101], n, [49], [110, 111, 110, 101], [33]], by (simp only [lq_0, lq_1, lq_2, lq_3, lq_4, lq_5, lq_6, lq_7, lq_8, lq_9, lq_10, lq_11, lq_12, lq_13, lq_14, lq_15, lq_16, lq_17, lq_18, lq_19, lq_20, lq_21, lq_22, lq_23, lq_24, lq_25, lq_26, lq_27, lq_28, lq_29, lq_30, lq_31, lq_32, lq_33, lq_34, lq_35, lq_36, lq_37, lq_38, lq_39, lq_40, lq_41, lq_42, lq_43, lq_44, lq_45, lq_46, lq_47, lq_48, lq_49, lq_50, lq_51, S_app]; exact congrArg S (by simp [joinWith])), ⟨by simp, by simp, (Ro.cons (by decide) (Ro.cons h.wd (Ro.cons (by decide) (Ro.cons (by decide) (Ro.cons (by decide) Ro.nil)))))⟩, (nr_rule (noE_cons (by decide) (noE_cons h.nn (noE_cons (by decide) (noE_cons (by decide) (noE_cons (by decide) (by decide)))))) (rbP (show (([[33]] : List W).map bareF).all isKF = false by decide)))⟩
theorem nf_0 {n : W} (h : Nm n) : El isNF (Str.ofString "gap a") :=
  ⟨[[103, 97, 112], [97]], rfl, ⟨by simp, by simp, (Ro.cons (by decide) (Ro.cons (by decide) Ro.nil))⟩, (nf_gap (noE_cons (by decide) (noE_cons (by decide) (by decide))) (by simp) (show formF (joinWith [32] [[97]]) = none by decide +kernel))⟩
theorem nf_1 {n : W} (h : Nm n) : El isNF (Str.ofString "gap @") :=
  ⟨[[103, 97, 112], [64]], rfl, ⟨by simp, by simp, (Ro.cons (by decide) (Ro.cons (by decide) Ro.nil))⟩, (nf_gap (noE_cons (by decide) (noE_cons (by decide) (by decide))) (by simp) (show formF (joinWith [32] [[64]]) = none by decide +kernel))⟩
theorem nf_2 {n : W} (h : Nm n) : El isNF (Str.ofString "gap @.") :=
  ⟨[[103, 97, 112], [64, 46]], rfl, ⟨by simp, by simp, (Ro.cons (by decide) (Ro.cons (by decide) Ro.nil))⟩, (nf_gap (noE_cons (by decide) (noE_cons (by decide) (by decide))) (by simp) (show formF (joinWith [32] [[64, 46]]) = none by decide +kernel))⟩
theorem nf_3 {n : W} (h : Nm n) : El isNF (Str.ofString "gap @.~") :=
  ⟨[[103, 97, 112], [64, 46, 126]], rfl, ⟨by simp, by simp, (Ro.cons (by decide) (Ro.cons (by decide) Ro.nil))⟩, (nf_gap (noE_cons (by decide) (noE_cons (by decide) (by decide))) (by simp) (show formF (joinWith [32] [[64, 46, 126]]) = none by decide +kernel))⟩
theorem nf_4 {n : W} (h : Nm n) : El isNF (Str.ofString "gap @.a~c") :=
  ⟨[[103, 97, 112], [64, 46, 97, 126, 99]], rfl, ⟨by simp, by simp, (Ro.cons (by decide) (Ro.cons (by decide) Ro.nil))⟩, (nf_gap (noE_cons (by decide) (noE_cons (by decide) (by decide))) (by simp) (show formF (joinWith [32] [[64, 46, 97, 126, 99]]) = none by decide +kernel))⟩
theorem nf_5 {n : W} (h : Nm n) : El isNF (((Str.ofString "word ") ++ (S n)) ++ (Str.ofString " =+a")) :=
  ⟨[[119, 111, 114, 100], n, [61, 43, 97]], by (simp only [lq_0, lq_1, lq_2, lq_3, lq_4, lq_5, lq_6, lq_7, lq_8, lq_9, lq_10, lq_11, lq_12, lq_13, lq_14, lq_15, lq_16, lq_17, lq_18, lq_19, lq_20, lq_21, lq_22, lq_23, lq_24, lq_25, lq_26, lq_27, lq_28, lq_29, lq_30, lq_31, lq_32, lq_33, lq_34, lq_35, lq_36, lq_37, lq_38, lq_39, lq_40, lq_41, lq_42, lq_43, lq_44, lq_45, lq_46, lq_47, lq_48, lq_49, lq_50, lq_51, S_app]; exact congrArg S (by simp [joinWith])), ⟨by simp, by simp, (Ro.cons (by decide) (Ro.cons h.wd (Ro.cons (by decide) Ro.nil)))⟩, (nf_word (noE_cons (by decide) (noE_cons h.nn (noE_cons (by decide) (by decide)))) h.k (by simp) (show formF (joinWith [32] [[61, 43, 97]]) = none by decide +kernel))⟩
theorem nf_6 {n : W} (h : Nm n) : El isNF (((Str.ofString "word ") ++ (S n)) ++ (Str.ofString " =*a")) :=
  ⟨[[119, 111, 114, 100], n, [61, 42, 97]], by (simp only [lq_0, lq_1, lq_2, lq_3, lq_4, lq_5, lq_6, lq_7, lq_8, lq_9, lq_10, lq_11, lq_12, lq_13, lq_14, lq_15, lq_16, lq_17, lq_18, lq_19, lq_20, lq_21, lq_22, lq_23, lq_24, lq_25, lq_26, lq_27, lq_28, lq_29, lq_30, lq_31, lq_32, lq_33, lq_34, lq_35, lq_36, lq_37, lq_38, lq_39, lq_40, lq_41, lq_42, lq_43, lq_44, lq_45, lq_46, lq_47, lq_48, lq_49, lq_50, lq_51, S_app]; exact congrArg S (by simp [joinWith])), ⟨by simp, by simp, (Ro.cons (by decide) (Ro.cons h.wd (Ro.cons (by decide) Ro.nil)))⟩, (nf_word (noE_cons (by decide) (noE_cons h.nn (noE_cons (by decide) (by decide)))) h.k (by simp) (show formF (joinWith [32] [[61, 42, 97]]) = none by decide +kernel))⟩
theorem nf_7 {n : W} (h : Nm n) : El isNF ((((Str.ofString "word ") ++ (S n)) ++ (Str.ofString " =?")) ++ (S n)) :=
  ⟨[[119, 111, 114, 100], n, ([61, 63] ++ n)], by (simp only [lq_0, lq_1, lq_2, lq_3, lq_4, lq_5, lq_6, lq_7, lq_8, lq_9, lq_10, lq_11, lq_12, lq_13, lq_14, lq_15, lq_16, lq_17, lq_18, lq_19, lq_20, lq_21, lq_22, lq_23, lq_24, lq_25, lq_26, lq_27, lq_28, lq_29, lq_30, lq_31, lq_32, lq_33, lq_34, lq_35, lq_36, lq_37, lq_38, lq_39, lq_40, lq_41, lq_42, lq_43, lq_44, lq_45, lq_46, lq_47, lq_48, lq_49, lq_50, lq_51, S_app]; exact congrArg S (by simp [joinWith])), ⟨by simp, by simp, (Ro.cons (by decide) (Ro.cons h.wd (Ro.cons (wd_pre h (by decide)) Ro.nil)))⟩, (nf_word (noE_cons (by decide) (noE_cons h.nn (noE_cons (by simp) (by decide)))) h.k (by simp) (nf_q h))⟩
theorem nf_8 {n : W} (h : Nm n) : El isNF (((Str.ofString "word ") ++ (S n)) ++ (Str.ofString " @.a b")) :=
  ⟨[[119, 111, 114, 100], n, [64, 46, 97], [98]], by (simp only [lq_0, lq_1, lq_2, lq_3, lq_4, lq_5, lq_6, lq_7, lq_8, lq_9, lq_10, lq_11, lq_12, lq_13, lq_14, lq_15, lq_16, lq_17, lq_18, lq_19, lq_20, lq_21, lq_22, lq_23, lq_24, lq_25, lq_26, lq_27, lq_28, lq_29, lq_30, lq_31, lq_32, lq_33, lq_34, lq_35, lq_36, lq_37, lq_38, lq_39, lq_40, lq_41, lq_42, lq_43, lq_44, lq_45, lq_46, lq_47, lq_48, lq_49, lq_50, lq_51, S_app]; exact congrArg S (by simp [joinWith])), ⟨by simp, by simp, (Ro.cons (by decide) (Ro.cons h.wd (Ro.cons (by decide) (Ro.cons (by decide) Ro.nil))))⟩, (nf_word (noE_cons (by decide) (noE_cons h.nn (noE_cons (by decide) (noE_cons (by decide) (by decide))))) h.k (by simp) (show formF (joinWith [32] [[64, 46, 97], [98]]) = none by decide +kernel))⟩
theorem nf_9 {n : W} (h : Nm n) : El isNF (Str.ofString "gap &.a") :=
  ⟨[[103, 97, 112], [38, 46, 97]], rfl, ⟨by simp, by simp, (Ro.cons (by decide) (Ro.cons (by decide) Ro.nil))⟩, (nf_gap (noE_cons (by decide) (noE_cons (by decide) (by decide))) (by simp) (show formF (joinWith [32] [[38, 46, 97]]) = none by decide +kernel))⟩
theorem nf_10 {n : W} (h : Nm n) : El isNF (Str.ofString "gap @!a") :=
  ⟨[[103, 97, 112], [64, 33, 97]], rfl, ⟨by simp, by simp, (Ro.cons (by decide) (Ro.cons (by decide) Ro.nil))⟩, (nf_gap (noE_cons (by decide) (noE_cons (by decide) (by decide))) (by simp) (show formF (joinWith [32] [[64, 33, 97]]) = none by decide +kernel))⟩
theorem nf_11 {n : W} (h : Nm n) : El isNF (Str.ofString "gap @.~~") :=
  ⟨[[103, 97, 112], [64, 46, 126, 126]], rfl, ⟨by simp, by simp, (Ro.cons (by decide) (Ro.cons (by decide) Ro.nil))⟩, (nf_gap (noE_cons (by decide) (noE_cons (by decide) (by decide))) (by simp) (show formF (joinWith [32] [[64, 46, 126, 126]]) = none by decide +kernel))⟩
--SPECIAL nf_12
theorem nf_13 {n : W} (h : Nm n) : El isNF (((Str.ofString "word ") ++ (S n)) ++ (Str.ofString " ^+~a~A~a~0~a")) :=
  ⟨[[119, 111, 114, 100], n, [94, 43, 126, 97, 126, 65, 126, 97, 126, 48, 126, 97]], by (simp only [lq_0, lq_1, lq_2, lq_3, lq_4, lq_5, lq_6, lq_7, lq_8, lq_9, lq_10, lq_11, lq_12, lq_13, lq_14, lq_15, lq_16, lq_17, lq_18, lq_19, lq_20, lq_21, lq_22, lq_23, lq_24, lq_25, lq_26, lq_27, lq_28, lq_29, lq_30, lq_31, lq_32, lq_33, lq_34, lq_35, lq_36, lq_37, lq_38, lq_39, lq_40, lq_41, lq_42, lq_43, lq_44, lq_45, lq_46, lq_47, lq_48, lq_49, lq_50, lq_51, S_app]; exact congrArg S (by simp [joinWith])), ⟨by simp, by simp, (Ro.cons (by decide) (Ro.cons h.wd (Ro.cons (by decide) Ro.nil)))⟩, (nf_word (noE_cons (by decide) (noE_cons h.nn (noE_cons (by decide) (by decide)))) h.k (by simp) (show formF (joinWith [32] [[94, 43, 126, 97, 126, 65, 126, 97, 126, 48, 126, 97]]) = none by decide +kernel))⟩
theorem nf_14 {n : W} (h : Nm n) : El isNF (Str.ofString "gap ^.~B") :=
  ⟨[[103, 97, 112], [94, 46, 126, 66]], rfl, ⟨by simp, by simp, (Ro.cons (by decide) (Ro.cons (by decide) Ro.nil))⟩, (nf_gap (noE_cons (by decide) (noE_cons (by decide) (by decide))) (by simp) (show formF (joinWith [32] [[94, 46, 126, 66]]) = none by decide +kernel))⟩
theorem nf_15 {n : W} (h : Nm n) : El isNF ((((Str.ofString "word ") ++ (S n)) ++ (Str.ofString " =.a @>")) ++ (S ab51)) :=
  ⟨[[119, 111, 114, 100], n, [61, 46, 97], ([64, 62] ++ ab51)], by (simp only [lq_0, lq_1, lq_2, lq_3, lq_4, lq_5, lq_6, lq_7, lq_8, lq_9, lq_10, lq_11, lq_12, lq_13, lq_14, lq_15, lq_16, lq_17, lq_18, lq_19, lq_20, lq_21, lq_22, lq_23, lq_24, lq_25, lq_26, lq_27, lq_28, lq_29, lq_30, lq_31, lq_32, lq_33, lq_34, lq_35, lq_36, lq_37, lq_38, lq_39, lq_40, lq_41, lq_42, lq_43, lq_44, lq_45, lq_46, lq_47, lq_48, lq_49, lq_50, lq_51, S_app]; exact congrArg S (by simp [joinWith])), ⟨by simp, by simp, (Ro.cons (by decide) (Ro.cons h.wd (Ro.cons (by decide) (Ro.cons (by decide +kernel) Ro.nil))))⟩, (nf_word (noE_cons (by decide) (noE_cons h.nn (noE_cons (by decide) (noE_cons (by simp) (by decide))))) h.k (by simp) (show formF (joinWith [32] [[61, 46, 97], ([64, 62] ++ ab51)]) = none by decide +kernel))⟩
theorem ro_rep {w : W} (h : wdB w = true) : ∀ k, Ro (List.replicate k w)
  | 0 => .nil
  | k + 1 => by rw [List.replicate_succ]; exact .cons h (ro_rep h k)
theorem noE_rep {w : W} (h : w ≠ []) : ∀ k, noE (List.replicate k w) = true
  | 0 => rfl
  | k + 1 => by rw [List.replicate_succ]; exact noE_cons h (noE_rep h k)
theorem nf_12 {n : W} (h : Nm n) : El isNF (Str.ofString "gap " ++ S (joinWith [32] (List.replicate 13 ([64, 46] ++ n)))) := by
  refine ⟨gapW :: List.replicate 13 ([64, 46] ++ n), S_app [103, 97, 112, 32] _, ⟨by simp, by simp, .cons (by decide) (ro_rep (wd_pre h (by decide)) 13)⟩, nf_gap (noE_cons (by decide) (noE_rep (by simp) 13)) (by simp) ?_⟩
  have hb : 32 ∉ [64, 46] ++ n := fun z => by
    rcases List.mem_append.mp z with y | y
    · exact absurd y (by decide)
    · exact absurd (h.az 32 y) (by decide)
  have es : splitOn 32 (joinWith [32] (List.replicate 13 ([64, 46] ++ n))) = List.replicate 13 ([64, 46] ++ n) := splitOn_join (by simp) fun p hp => by rw [(List.mem_replicate.mp hp).2]; exact hb
  unfold formF
  rw [es]
  split
  · rw [if_neg (by simp)]
  · rfl

end K81

set_option Elab.async false
set_option linter.all false
set_option maxRecDepth 100000
set_option maxHeartbeats 4000000



--@RAISES but law
namespace K81
open PySem PySem.Spec PyProof.Rows L2 Rg
theorem ll_0 : (Str.ofString "gap").length = 3 := rfl
theorem ll_1 : (Str.ofString "word").length = 4 := rfl
theorem ll_2 : (Str.ofString "word end @.a").length = 12 := rfl
theorem ll_3 : (Str.ofString "word stray =.a").length = 14 := rfl
theorem ll_4 : (Str.ofString " gap @.a").length = 8 := rfl
theorem ll_5 : (Str.ofString "word ").length = 5 := rfl
theorem ll_6 : (Str.ofString "A @.a").length = 5 := rfl
theorem ll_7 : (Str.ofString "gap @.a ").length = 8 := rfl
theorem ll_8 : (Str.ofString "gap  @.a").length = 8 := rfl
theorem ll_9 : (Str.ofString "stop").length = 4 := rfl
theorem ll_10 : (Str.ofString "open end").length = 8 := rfl
theorem ll_11 : (Str.ofString "close stray").length = 11 := rfl
theorem ll_12 : (Str.ofString "open 1").length = 6 := rfl
theorem ll_13 : (Str.ofString "rule").length = 4 := rfl
theorem ll_14 : (Str.ofString "rule end 1 none a").length = 17 := rfl
theorem ll_15 : (Str.ofString " ").length = 1 := rfl
theorem ll_16 : (Str.ofString "word end @").length = 10 := rfl
theorem ll_17 : (Str.ofString " @.a").length = 4 := rfl
theorem ll_18 : (Str.ofString "Stop ").length = 5 := rfl
theorem ll_19 : (Str.ofString "rule ").length = 5 := rfl
theorem ll_20 : (Str.ofString " 1").length = 2 := rfl
theorem ll_21 : (Str.ofString " 00 none").length = 8 := rfl
theorem ll_22 : (Str.ofString " -1 left a").length = 10 := rfl
theorem ll_23 : (Str.ofString " 1 Left a").length = 9 := rfl
theorem ll_24 : (Str.ofString " 1 left aB").length = 10 := rfl
theorem ll_25 : (Str.ofString " b").length = 2 := rfl
theorem ll_26 : (Str.ofString " 1 none a end").length = 13 := rfl
theorem ll_27 : (Str.ofString " 1 right ?!a").length = 12 := rfl
theorem ll_28 : (Str.ofString " 1 left ?").length = 9 := rfl
theorem ll_29 : (Str.ofString "stop ").length = 5 := rfl
theorem ll_30 : (Str.ofString " 1 none !").length = 9 := rfl
theorem ll_31 : (Str.ofString "word  ").length = 6 := rfl
theorem ll_32 : (Str.ofString " 100 left ").length = 10 := rfl
theorem ll_33 : (Str.ofString " 07 left ").length = 9 := rfl
theorem ll_34 : (Str.ofString " 1 none ?a b ?").length = 14 := rfl
theorem ll_35 : (Str.ofString " +1 none ").length = 9 := rfl
theorem ll_36 : (Str.ofString " 1 none !a !").length = 12 := rfl
theorem ll_37 : (Str.ofString "gap a").length = 5 := rfl
theorem ll_38 : (Str.ofString "gap @").length = 5 := rfl
theorem ll_39 : (Str.ofString "gap @.").length = 6 := rfl
theorem ll_40 : (Str.ofString "gap @.~").length = 7 := rfl
theorem ll_41 : (Str.ofString "gap @.a~c").length = 9 := rfl
theorem ll_42 : (Str.ofString " =+a").length = 4 := rfl
theorem ll_43 : (Str.ofString " =*a").length = 4 := rfl
theorem ll_44 : (Str.ofString "gap &.a").length = 7 := rfl
theorem ll_45 : (Str.ofString "gap @!a").length = 7 := rfl
theorem ll_46 : (Str.ofString "gap @.~~").length = 8 := rfl
theorem ll_47 : (Str.ofString "gap ^.~B").length = 8 := rfl
theorem ll_48 : (Str.ofString " @.a b").length = 6 := rfl
theorem ll_49 : (Str.ofString "gap ").length = 4 := rfl
theorem ll_50 : (Str.ofString " ^+~a~A~a~0~a").length = 13 := rfl
theorem ll_51 : (Str.ofString " =?").length = 3 := rfl
theorem ll_52 : (Str.ofString " =.a @>").length = 7 := rfl
theorem ll_53 : (Str.ofString "ab").length = 2 := rfl
theorem ll_54 : (Str.ofString "@.").length = 2 := rfl
theorem ll_55 : (Str.ofString "gap @+~b~n").length = 10 := rfl
theorem ll_56 : (Str.ofString "gap =.# ^*~n").length = 12 := rfl
theorem ll_57 : (Str.ofString " @.~a @*~a~0").length = 12 := rfl
theorem ll_58 : (Str.ofString "").length = 0 := rfl
theorem ll_59 : (Str.ofString " =.< =-=").length = 8 := rfl
theorem ll_60 : (Str.ofString "close ").length = 6 := rfl
theorem ll_61 : (Str.ofString " 0 none").length = 7 := rfl
theorem ll_62 : (Str.ofString " 99 left ").length = 9 := rfl
theorem ll_63 : (Str.ofString "?!").length = 2 := rfl
theorem ll_64 : (Str.ofString "open ").length = 5 := rfl
theorem ll_65 : (Str.ofString " 1 none b").length = 9 := rfl
theorem ll_66 : (Str.ofString "gap @.a").length = 7 := rfl
theorem ll_67 : (Str.ofString " 1 none a ").length = 10 := rfl
theorem ll_68 : (Str.ofString " =.b").length = 4 := rfl
theorem foldl_app : ∀ (n : Nat) (a b : Array Nat), ((List.replicate n a).foldl (· ++ ·) b).toList = b.toList ++ (List.replicate n a.toList).flatten
  | 0, a, b => by simp
  | n + 1, a, b => by
    rw [List.replicate_succ, List.foldl_cons, foldl_app n a (b ++ a), List.replicate_succ, List.flatten_cons]
    simp
theorem mul_S (l : List Nat) (n : Nat) : Txt.mul (S l) ((n : Nat) : Int) = S (List.replicate n l).flatten := by
  unfold Txt.mul
  cases n with
  | zero =>
    rw [if_pos (by decide)]
    rfl
  | succ n =>
    rw [if_neg (by omega)]
    split
    · rename_i h
      rw [Bool.or_eq_true, beq_iff_eq, beq_iff_eq, S_len] at h
      rcases h with h | h
      · have : n = 0 := by omega
        subst this
        simp
      · have : l = [] := List.length_eq_zero_iff.mp h
        subst this
        simp
    · refine Str.ext' ?_
      have := foldl_app (n + 1) (S l).cps #[]
      have e : (((n + 1 : Nat) : Int)).toNat = n + 1 := by omega
      rw [e]
      refine Array.toList_inj.mp ?_
      rw [this]
      simp
theorem mulOk_S {l : List Nat} {n : Nat} (h : l.length ≤ 10000) (hn : n ≤ 100) : MulOk (S l) ((n : Nat) : Int) := by
  have hmul : l.length * n ≤ 10000 * 100 := Nat.mul_le_mul h hn
  refine ⟨?_, fun h1 _ => ?_, fun _ _ => ?_⟩
  · rw [Bool.or_eq_false_iff, decide_eq_false_iff_not, decide_eq_false_iff_not]
    omega
  · rw [S_len]
    have : (100000 : Int) ≤ (2 ^ 63 - 1) / ((n : Nat) : Int) := by
      refine (Int.le_ediv_iff_mul_le (by omega)).mpr ?_
      omega
    omega
  · rw [S_len]
    have e : (((n : Nat) : Int)).toNat = n := by omega
    rw [e]
    have := big
    show decide (l.length * n > sizeLine) = false
    rw [decide_eq_false_iff_not]
    omega

def Ls (P : List W → Prop) (xs : List V) (n : Nat) : Prop := xs.length = n ∧ ∀ v ∈ xs, ∃ x, v = .str x ∧ El P x
theorem Ls.nil {P : List W → Prop} : Ls P [] 0 := ⟨rfl, fun v hv => by cases hv⟩
theorem Ls.cons {P : List W → Prop} {x : Str} {r : List V} {n : Nat} (h : El P x) (t : Ls P r n) : Ls P (.str x :: r) (n + 1) := ⟨by rw [List.length_cons, t.1], fun v hv => by
  rcases List.mem_cons.mp hv with z | z
  · exact ⟨x, z, h⟩
  · exact t.2 v z⟩
theorem Ls.at {P : List W → Prop} {xs : List V} {n : Nat} (h : Ls P xs n) (i : Int) (h0 : 0 ≤ i) (h1 : i < n) : ∃ x, atI xs i = some (.str x) ∧ El P x := by
  have hl := h.1
  have hi : i.toNat < xs.length := by omega
  have e := List.getElem?_eq_getElem hi
  obtain ⟨x, ex, hx⟩ := h.2 _ (List.getElem_mem hi)
  rw [ex] at e
  have := atI_nat e
  rw [Int.toNat_of_nonneg h0] at this
  exact ⟨x, this, hx⟩
theorem Ls.app {P : List W → Prop} {xs ys : List V} {n m : Nat} (o1 : Ls P xs n) (o2 : Ls P ys m) : Ls P (xs ++ ys) (n + m) := ⟨by rw [List.length_append, o1.1, o2.1], fun v hv => by
  rcases List.mem_append.mp hv with z | z
  · exact o1.2 v z
  · exact o2.2 v z⟩
abbrev nm26 (c0 : Int) : List V := (List.range 26).map fun k => V.str (S (nameL c0 k))
theorem at26 (c0 : Int) (i : Int) (h0 : 0 ≤ i) (h1 : i < 26) : atI (nm26 c0) i = some (V.str (S (nameL c0 i.toNat))) := by
  have h : (nm26 c0)[i.toNat]? = some (V.str (S (nameL c0 i.toNat))) := by
    rw [List.getElem?_map, List.getElem?_range (by omega)]; rfl
  have := atI_nat h
  rw [Int.toNat_of_nonneg h0] at this
  exact this
theorem nm_ok (c : Int) (k : Nat) (hk : k < 26) : Nm (nameL c k) := by
  have hs := (nm_sz c).2
  refine ⟨by rw [nameL_len]; omega, by rw [nameL_len]; omega, fun x hx => ?_, name_end c k hk, name_stray c k hk⟩
  unfold nameL at hx
  obtain ⟨j, _, rfl⟩ := List.mem_map.mp hx
  rw [nmC_val]
  unfold azB
  simp only [Bool.and_eq_true, decide_eq_true_eq]
  omega
section
variable {P : Program} {w : World} {K : PySem.W.Frag} {mg : Str → Option Value} {base : Heap} {aN aD aS CR CF : Addr}

def sp_no_row (K : PySem.W.Frag) : Sp := fun vs H Q _ => ∃ (c c0 : Int) (l : Addr), vs = [.int c, .ref l] ∧ SqL K H l (nm26 c0) ∧ ∀ H' x, Same H H' → El isNR x → Q (.str x) H'
abbrev st__law_no_row : Stmt := top 42
theorem sc__law_no_row : FnScope ["_law_cell", "_law_names_here", "_law_one", "_law_some"] ["_law_cell", "_law_names_here"] (defScope st__law_no_row) := ⟨rfl, rfl, rfl, by decide +kernel, rfl, by decide +kernel, by decide +kernel⟩
theorem def_no_row (R : Raw K mg "_law_no_row" st__law_no_row ["_law_cell", "_law_names_here"]) : Def P w K mg base 1 "_law_no_row" ["_law_cell", "_law_names_here"] (sp_no_row K) := by
  refine R.defJ sc__law_no_row (fun vs H Q E h => ?_) (fun f cdv A outer s H vs Q E hr h => ?_)
  · obtain ⟨c, c0, l, rfl, _⟩ := h
    rfl
  · obtain ⟨c, c0, l, rfl, hS, q⟩ := h
    have sc := sc__law_no_row
    have hu := hr.units
    have hb := big
    refine ⟨_, (jss_cons (js_set (i := 2) sc.nd rfl (Or.inl rfl) (j_ix (o_ix hu (K := K) (w := w)) (jn 1) (j_op o_mod (j_op o_div (jn 0) j_int) j_int)))
    (jss_cons (js_set (i := 3) sc.nd rfl (Or.inl rfl) (j_lst (ja_cons j_str (ja_cons (j_op (o_add (K := K)) j_str (jn 2)) (ja_cons j_str (ja_cons (j_op (o_add (K := K)) (j_op (o_add (K := K)) j_str (jn 2)) j_str) (ja_cons j_str (ja_cons j_str (ja_cons j_str ja_nil)))))))))
    (jss_cons (js_set (i := 3) sc.nd rfl (Or.inl rfl) (j_op (o_add (K := K)) (jn 3) (j_lst (ja_cons j_str (ja_cons j_str (ja_cons (j_op (o_add (K := K)) (j_op (o_add (K := K)) j_str (jn 2)) j_str) (ja_cons j_str (ja_cons (j_op (o_add (K := K)) (j_op (o_add (K := K)) (j_op (o_add (K := K)) j_str (jn 2)) j_str) (jn 2)) (ja_cons (j_op (o_add (K := K)) j_str (jn 2)) ja_nil)))))))))
    (jss_cons (js_set (i := 3) sc.nd rfl (Or.inl rfl) (j_op (o_add (K := K)) (jn 3) (j_lst (ja_cons j_str (ja_cons j_str (ja_cons j_str (ja_cons j_str (ja_cons (j_op (o_add (K := K)) j_str (jn 2)) (ja_cons (j_op (o_add (K := K)) (j_op (o_add (K := K)) j_str (jn 2)) j_str) ja_nil)))))))))
    (jss_cons (js_set (i := 3) sc.nd rfl (Or.inl rfl) (j_op (o_add (K := K)) (jn 3) (j_lst (ja_cons (j_op (o_add (K := K)) (j_op (o_add (K := K)) (j_op (o_add (K := K)) j_str (jn 2)) j_str) (jn 2)) (ja_cons (j_op (o_add (K := K)) (j_op (o_add (K := K)) (j_op (o_add (K := K)) j_str (jn 2)) j_str) (jn 2)) (ja_cons (j_op (o_add (K := K)) (j_op (o_add (K := K)) j_str (jn 2)) j_str) ja_nil))))))
    (jss_cons (js_set (i := 3) sc.nd rfl (Or.inl rfl) (j_op (o_add (K := K)) (jn 3) (j_lst (ja_cons (j_op (o_add (K := K)) (j_op (o_add (K := K)) j_str (jn 2)) j_str) (ja_cons (j_op (o_add (K := K)) (j_op (o_add (K := K)) j_str (jn 2)) j_str) (ja_cons (j_op (o_add (K := K)) (j_op (o_add (K := K)) j_str (jn 2)) j_str) ja_nil))))))
    (jss_cons (js_set (i := 3) sc.nd rfl (Or.inl rfl) (j_op (o_add (K := K)) (jn 3) (j_lst (ja_cons (j_op (o_add (K := K)) (j_op (o_add (K := K)) (j_op (o_add (K := K)) j_str (jn 2)) j_str) (jn 2)) (ja_cons (j_op (o_add (K := K)) (j_op (o_add (K := K)) (j_op (o_add (K := K)) (j_op (o_add (K := K)) j_str (jn 2)) j_str) (jn 2)) j_str) ja_nil)))))
    (jss_cons (js_set (i := 3) sc.nd rfl (Or.inl rfl) (j_op (o_add (K := K)) (jn 3) (j_lst (ja_cons j_str (ja_cons (j_op (o_add (K := K)) (j_op (o_add (K := K)) j_str (jn 2)) j_str) (ja_cons (j_op (o_add (K := K)) (j_op (o_add (K := K)) j_str (jn 2)) j_str) (ja_cons (jn 2) ja_nil)))))))
    (jss_cons (js_set (i := 3) sc.nd rfl (Or.inl rfl) (j_op (o_add (K := K)) (jn 3) (j_lst (ja_cons j_str (ja_cons (j_op (o_add (K := K)) (j_op (o_add (K := K)) j_str (jn 2)) j_str) (ja_cons (j_op (o_add (K := K)) j_str (j_slice (o_slA (K := K)) (j_op o_mul (jn 2) j_int) jo_none (jo_some j_int))) (ja_cons (j_op (o_add (K := K)) (j_op (o_add (K := K)) (j_op (o_add (K := K)) j_str (jn 2)) j_str) (jn 2)) ja_nil)))))))
    (jss_cons (js_set (i := 3) sc.nd rfl (Or.inl rfl) (j_op (o_add (K := K)) (jn 3) (j_lst (ja_cons j_str (ja_cons (j_op (o_add (K := K)) (j_op (o_add (K := K)) j_str (j_slice (o_slA (K := K)) (j_op o_mul (jn 2) j_int) jo_none (jo_some j_int))) j_str) (ja_cons (j_op (o_add (K := K)) (j_op (o_add (K := K)) j_str (jn 2)) j_str) ja_nil))))))
    (jss_one (js_ret (j_ix (o_ix hu (K := K) (w := w)) (jn 3) (j_op o_mod (jn 0) j_int)))))))))))))), ?_⟩
    refine ⟨⟨by decide, by decide⟩, by decide, .inl ⟨_, _, hS, at26 c0 (c / 38 % 26) (by omega) (by omega), ?_⟩⟩
    have hn := nm_ok c0 (c / 38 % 26).toNat (by omega)
    generalize nameL c0 (c / 38 % 26).toNat = n at hn
    have hl1 := hn.l1
    have hl2 := hn.l2
    refine ⟨by (simp only [strLen_append, S_len, ll_0, ll_1, ll_2, ll_3, ll_4, ll_5, ll_6, ll_7, ll_8, ll_9, ll_10, ll_11, ll_12, ll_13, ll_14, ll_15, ll_16, ll_17, ll_18, ll_19, ll_20, ll_21, ll_22, ll_23, ll_24, ll_25, ll_26, ll_27, ll_28, ll_29, ll_30, ll_31, ll_32, ll_33, ll_34, ll_35, ll_36, ll_37, ll_38, ll_39, ll_40, ll_41, ll_42, ll_43, ll_44, ll_45, ll_46, ll_47, ll_48, ll_49, ll_50, ll_51, ll_52, ll_53, ll_54, ll_55, ll_56, ll_57, ll_58, ll_59, ll_60, ll_61, ll_62, ll_63, ll_64, ll_65, ll_66, ll_67, ll_68]; omega), by (simp only [strLen_append, S_len, ll_0, ll_1, ll_2, ll_3, ll_4, ll_5, ll_6, ll_7, ll_8, ll_9, ll_10, ll_11, ll_12, ll_13, ll_14, ll_15, ll_16, ll_17, ll_18, ll_19, ll_20, ll_21, ll_22, ll_23, ll_24, ll_25, ll_26, ll_27, ll_28, ll_29, ll_30, ll_31, ll_32, ll_33, ll_34, ll_35, ll_36, ll_37, ll_38, ll_39, ll_40, ll_41, ll_42, ll_43, ll_44, ll_45, ll_46, ll_47, ll_48, ll_49, ll_50, ll_51, ll_52, ll_53, ll_54, ll_55, ll_56, ll_57, ll_58, ll_59, ll_60, ll_61, ll_62, ll_63, ll_64, ll_65, ll_66, ll_67, ll_68]; omega), by (simp only [strLen_append, S_len, ll_0, ll_1, ll_2, ll_3, ll_4, ll_5, ll_6, ll_7, ll_8, ll_9, ll_10, ll_11, ll_12, ll_13, ll_14, ll_15, ll_16, ll_17, ll_18, ll_19, ll_20, ll_21, ll_22, ll_23, ll_24, ll_25, ll_26, ll_27, ll_28, ll_29, ll_30, ll_31, ll_32, ll_33, ll_34, ll_35, ll_36, ll_37, ll_38, ll_39, ll_40, ll_41, ll_42, ll_43, ll_44, ll_45, ll_46, ll_47, ll_48, ll_49, ll_50, ll_51, ll_52, ll_53, ll_54, ll_55, ll_56, ll_57, ll_58, ll_59, ll_60, ll_61, ll_62, ll_63, ll_64, ll_65, ll_66, ll_67, ll_68]; omega), (show 7 ≤ sizeLine by decide), fun p0 hp0 => ?_⟩
    refine ⟨by (simp only [strLen_append, S_len, ll_0, ll_1, ll_2, ll_3, ll_4, ll_5, ll_6, ll_7, ll_8, ll_9, ll_10, ll_11, ll_12, ll_13, ll_14, ll_15, ll_16, ll_17, ll_18, ll_19, ll_20, ll_21, ll_22, ll_23, ll_24, ll_25, ll_26, ll_27, ll_28, ll_29, ll_30, ll_31, ll_32, ll_33, ll_34, ll_35, ll_36, ll_37, ll_38, ll_39, ll_40, ll_41, ll_42, ll_43, ll_44, ll_45, ll_46, ll_47, ll_48, ll_49, ll_50, ll_51, ll_52, ll_53, ll_54, ll_55, ll_56, ll_57, ll_58, ll_59, ll_60, ll_61, ll_62, ll_63, ll_64, ll_65, ll_66, ll_67, ll_68]; omega), by (simp only [strLen_append, S_len, ll_0, ll_1, ll_2, ll_3, ll_4, ll_5, ll_6, ll_7, ll_8, ll_9, ll_10, ll_11, ll_12, ll_13, ll_14, ll_15, ll_16, ll_17, ll_18, ll_19, ll_20, ll_21, ll_22, ll_23, ll_24, ll_25, ll_26, ll_27, ll_28, ll_29, ll_30, ll_31, ll_32, ll_33, ll_34, ll_35, ll_36, ll_37, ll_38, ll_39, ll_40, ll_41, ll_42, ll_43, ll_44, ll_45, ll_46, ll_47, ll_48, ll_49, ll_50, ll_51, ll_52, ll_53, ll_54, ll_55, ll_56, ll_57, ll_58, ll_59, ll_60, ll_61, ll_62, ll_63, ll_64, ll_65, ll_66, ll_67, ll_68]; omega), by (simp only [strLen_append, S_len, ll_0, ll_1, ll_2, ll_3, ll_4, ll_5, ll_6, ll_7, ll_8, ll_9, ll_10, ll_11, ll_12, ll_13, ll_14, ll_15, ll_16, ll_17, ll_18, ll_19, ll_20, ll_21, ll_22, ll_23, ll_24, ll_25, ll_26, ll_27, ll_28, ll_29, ll_30, ll_31, ll_32, ll_33, ll_34, ll_35, ll_36, ll_37, ll_38, ll_39, ll_40, ll_41, ll_42, ll_43, ll_44, ll_45, ll_46, ll_47, ll_48, ll_49, ll_50, ll_51, ll_52, ll_53, ll_54, ll_55, ll_56, ll_57, ll_58, ll_59, ll_60, ll_61, ll_62, ll_63, ll_64, ll_65, ll_66, ll_67, ll_68]; omega), by (simp only [strLen_append, S_len, ll_0, ll_1, ll_2, ll_3, ll_4, ll_5, ll_6, ll_7, ll_8, ll_9, ll_10, ll_11, ll_12, ll_13, ll_14, ll_15, ll_16, ll_17, ll_18, ll_19, ll_20, ll_21, ll_22, ll_23, ll_24, ll_25, ll_26, ll_27, ll_28, ll_29, ll_30, ll_31, ll_32, ll_33, ll_34, ll_35, ll_36, ll_37, ll_38, ll_39, ll_40, ll_41, ll_42, ll_43, ll_44, ll_45, ll_46, ll_47, ll_48, ll_49, ll_50, ll_51, ll_52, ll_53, ll_54, ll_55, ll_56, ll_57, ll_58, ll_59, ll_60, ll_61, ll_62, ll_63, ll_64, ll_65, ll_66, ll_67, ll_68]; omega), by (simp only [strLen_append, S_len, ll_0, ll_1, ll_2, ll_3, ll_4, ll_5, ll_6, ll_7, ll_8, ll_9, ll_10, ll_11, ll_12, ll_13, ll_14, ll_15, ll_16, ll_17, ll_18, ll_19, ll_20, ll_21, ll_22, ll_23, ll_24, ll_25, ll_26, ll_27, ll_28, ll_29, ll_30, ll_31, ll_32, ll_33, ll_34, ll_35, ll_36, ll_37, ll_38, ll_39, ll_40, ll_41, ll_42, ll_43, ll_44, ll_45, ll_46, ll_47, ll_48, ll_49, ll_50, ll_51, ll_52, ll_53, ll_54, ll_55, ll_56, ll_57, ll_58, ll_59, ll_60, ll_61, ll_62, ll_63, ll_64, ll_65, ll_66, ll_67, ll_68]; omega), by (simp only [strLen_append, S_len, ll_0, ll_1, ll_2, ll_3, ll_4, ll_5, ll_6, ll_7, ll_8, ll_9, ll_10, ll_11, ll_12, ll_13, ll_14, ll_15, ll_16, ll_17, ll_18, ll_19, ll_20, ll_21, ll_22, ll_23, ll_24, ll_25, ll_26, ll_27, ll_28, ll_29, ll_30, ll_31, ll_32, ll_33, ll_34, ll_35, ll_36, ll_37, ll_38, ll_39, ll_40, ll_41, ll_42, ll_43, ll_44, ll_45, ll_46, ll_47, ll_48, ll_49, ll_50, ll_51, ll_52, ll_53, ll_54, ll_55, ll_56, ll_57, ll_58, ll_59, ll_60, ll_61, ll_62, ll_63, ll_64, ll_65, ll_66, ll_67, ll_68]; omega), (show 6 ≤ sizeLine by decide), fun p7 hp7 => .inl ⟨_, _, same_new hp7 _ _ upd_same, upd_same, (show 13 ≤ sizeLine by decide), fun q7 hq7 => ?_⟩⟩
    refine ⟨by (simp only [strLen_append, S_len, ll_0, ll_1, ll_2, ll_3, ll_4, ll_5, ll_6, ll_7, ll_8, ll_9, ll_10, ll_11, ll_12, ll_13, ll_14, ll_15, ll_16, ll_17, ll_18, ll_19, ll_20, ll_21, ll_22, ll_23, ll_24, ll_25, ll_26, ll_27, ll_28, ll_29, ll_30, ll_31, ll_32, ll_33, ll_34, ll_35, ll_36, ll_37, ll_38, ll_39, ll_40, ll_41, ll_42, ll_43, ll_44, ll_45, ll_46, ll_47, ll_48, ll_49, ll_50, ll_51, ll_52, ll_53, ll_54, ll_55, ll_56, ll_57, ll_58, ll_59, ll_60, ll_61, ll_62, ll_63, ll_64, ll_65, ll_66, ll_67, ll_68]; omega), by (simp only [strLen_append, S_len, ll_0, ll_1, ll_2, ll_3, ll_4, ll_5, ll_6, ll_7, ll_8, ll_9, ll_10, ll_11, ll_12, ll_13, ll_14, ll_15, ll_16, ll_17, ll_18, ll_19, ll_20, ll_21, ll_22, ll_23, ll_24, ll_25, ll_26, ll_27, ll_28, ll_29, ll_30, ll_31, ll_32, ll_33, ll_34, ll_35, ll_36, ll_37, ll_38, ll_39, ll_40, ll_41, ll_42, ll_43, ll_44, ll_45, ll_46, ll_47, ll_48, ll_49, ll_50, ll_51, ll_52, ll_53, ll_54, ll_55, ll_56, ll_57, ll_58, ll_59, ll_60, ll_61, ll_62, ll_63, ll_64, ll_65, ll_66, ll_67, ll_68]; omega), by (simp only [strLen_append, S_len, ll_0, ll_1, ll_2, ll_3, ll_4, ll_5, ll_6, ll_7, ll_8, ll_9, ll_10, ll_11, ll_12, ll_13, ll_14, ll_15, ll_16, ll_17, ll_18, ll_19, ll_20, ll_21, ll_22, ll_23, ll_24, ll_25, ll_26, ll_27, ll_28, ll_29, ll_30, ll_31, ll_32, ll_33, ll_34, ll_35, ll_36, ll_37, ll_38, ll_39, ll_40, ll_41, ll_42, ll_43, ll_44, ll_45, ll_46, ll_47, ll_48, ll_49, ll_50, ll_51, ll_52, ll_53, ll_54, ll_55, ll_56, ll_57, ll_58, ll_59, ll_60, ll_61, ll_62, ll_63, ll_64, ll_65, ll_66, ll_67, ll_68]; omega), (show 6 ≤ sizeLine by decide), fun p13 hp13 => .inl ⟨_, _, same_new hp13 _ _ upd_same, upd_same, (show 19 ≤ sizeLine by decide), fun q13 hq13 => ?_⟩⟩
    refine ⟨by (simp only [strLen_append, S_len, ll_0, ll_1, ll_2, ll_3, ll_4, ll_5, ll_6, ll_7, ll_8, ll_9, ll_10, ll_11, ll_12, ll_13, ll_14, ll_15, ll_16, ll_17, ll_18, ll_19, ll_20, ll_21, ll_22, ll_23, ll_24, ll_25, ll_26, ll_27, ll_28, ll_29, ll_30, ll_31, ll_32, ll_33, ll_34, ll_35, ll_36, ll_37, ll_38, ll_39, ll_40, ll_41, ll_42, ll_43, ll_44, ll_45, ll_46, ll_47, ll_48, ll_49, ll_50, ll_51, ll_52, ll_53, ll_54, ll_55, ll_56, ll_57, ll_58, ll_59, ll_60, ll_61, ll_62, ll_63, ll_64, ll_65, ll_66, ll_67, ll_68]; omega), by (simp only [strLen_append, S_len, ll_0, ll_1, ll_2, ll_3, ll_4, ll_5, ll_6, ll_7, ll_8, ll_9, ll_10, ll_11, ll_12, ll_13, ll_14, ll_15, ll_16, ll_17, ll_18, ll_19, ll_20, ll_21, ll_22, ll_23, ll_24, ll_25, ll_26, ll_27, ll_28, ll_29, ll_30, ll_31, ll_32, ll_33, ll_34, ll_35, ll_36, ll_37, ll_38, ll_39, ll_40, ll_41, ll_42, ll_43, ll_44, ll_45, ll_46, ll_47, ll_48, ll_49, ll_50, ll_51, ll_52, ll_53, ll_54, ll_55, ll_56, ll_57, ll_58, ll_59, ll_60, ll_61, ll_62, ll_63, ll_64, ll_65, ll_66, ll_67, ll_68]; omega), by (simp only [strLen_append, S_len, ll_0, ll_1, ll_2, ll_3, ll_4, ll_5, ll_6, ll_7, ll_8, ll_9, ll_10, ll_11, ll_12, ll_13, ll_14, ll_15, ll_16, ll_17, ll_18, ll_19, ll_20, ll_21, ll_22, ll_23, ll_24, ll_25, ll_26, ll_27, ll_28, ll_29, ll_30, ll_31, ll_32, ll_33, ll_34, ll_35, ll_36, ll_37, ll_38, ll_39, ll_40, ll_41, ll_42, ll_43, ll_44, ll_45, ll_46, ll_47, ll_48, ll_49, ll_50, ll_51, ll_52, ll_53, ll_54, ll_55, ll_56, ll_57, ll_58, ll_59, ll_60, ll_61, ll_62, ll_63, ll_64, ll_65, ll_66, ll_67, ll_68]; omega), by (simp only [strLen_append, S_len, ll_0, ll_1, ll_2, ll_3, ll_4, ll_5, ll_6, ll_7, ll_8, ll_9, ll_10, ll_11, ll_12, ll_13, ll_14, ll_15, ll_16, ll_17, ll_18, ll_19, ll_20, ll_21, ll_22, ll_23, ll_24, ll_25, ll_26, ll_27, ll_28, ll_29, ll_30, ll_31, ll_32, ll_33, ll_34, ll_35, ll_36, ll_37, ll_38, ll_39, ll_40, ll_41, ll_42, ll_43, ll_44, ll_45, ll_46, ll_47, ll_48, ll_49, ll_50, ll_51, ll_52, ll_53, ll_54, ll_55, ll_56, ll_57, ll_58, ll_59, ll_60, ll_61, ll_62, ll_63, ll_64, ll_65, ll_66, ll_67, ll_68]; omega), by (simp only [strLen_append, S_len, ll_0, ll_1, ll_2, ll_3, ll_4, ll_5, ll_6, ll_7, ll_8, ll_9, ll_10, ll_11, ll_12, ll_13, ll_14, ll_15, ll_16, ll_17, ll_18, ll_19, ll_20, ll_21, ll_22, ll_23, ll_24, ll_25, ll_26, ll_27, ll_28, ll_29, ll_30, ll_31, ll_32, ll_33, ll_34, ll_35, ll_36, ll_37, ll_38, ll_39, ll_40, ll_41, ll_42, ll_43, ll_44, ll_45, ll_46, ll_47, ll_48, ll_49, ll_50, ll_51, ll_52, ll_53, ll_54, ll_55, ll_56, ll_57, ll_58, ll_59, ll_60, ll_61, ll_62, ll_63, ll_64, ll_65, ll_66, ll_67, ll_68]; omega), by (simp only [strLen_append, S_len, ll_0, ll_1, ll_2, ll_3, ll_4, ll_5, ll_6, ll_7, ll_8, ll_9, ll_10, ll_11, ll_12, ll_13, ll_14, ll_15, ll_16, ll_17, ll_18, ll_19, ll_20, ll_21, ll_22, ll_23, ll_24, ll_25, ll_26, ll_27, ll_28, ll_29, ll_30, ll_31, ll_32, ll_33, ll_34, ll_35, ll_36, ll_37, ll_38, ll_39, ll_40, ll_41, ll_42, ll_43, ll_44, ll_45, ll_46, ll_47, ll_48, ll_49, ll_50, ll_51, ll_52, ll_53, ll_54, ll_55, ll_56, ll_57, ll_58, ll_59, ll_60, ll_61, ll_62, ll_63, ll_64, ll_65, ll_66, ll_67, ll_68]; omega), by (simp only [strLen_append, S_len, ll_0, ll_1, ll_2, ll_3, ll_4, ll_5, ll_6, ll_7, ll_8, ll_9, ll_10, ll_11, ll_12, ll_13, ll_14, ll_15, ll_16, ll_17, ll_18, ll_19, ll_20, ll_21, ll_22, ll_23, ll_24, ll_25, ll_26, ll_27, ll_28, ll_29, ll_30, ll_31, ll_32, ll_33, ll_34, ll_35, ll_36, ll_37, ll_38, ll_39, ll_40, ll_41, ll_42, ll_43, ll_44, ll_45, ll_46, ll_47, ll_48, ll_49, ll_50, ll_51, ll_52, ll_53, ll_54, ll_55, ll_56, ll_57, ll_58, ll_59, ll_60, ll_61, ll_62, ll_63, ll_64, ll_65, ll_66, ll_67, ll_68]; omega), by (simp only [strLen_append, S_len, ll_0, ll_1, ll_2, ll_3, ll_4, ll_5, ll_6, ll_7, ll_8, ll_9, ll_10, ll_11, ll_12, ll_13, ll_14, ll_15, ll_16, ll_17, ll_18, ll_19, ll_20, ll_21, ll_22, ll_23, ll_24, ll_25, ll_26, ll_27, ll_28, ll_29, ll_30, ll_31, ll_32, ll_33, ll_34, ll_35, ll_36, ll_37, ll_38, ll_39, ll_40, ll_41, ll_42, ll_43, ll_44, ll_45, ll_46, ll_47, ll_48, ll_49, ll_50, ll_51, ll_52, ll_53, ll_54, ll_55, ll_56, ll_57, ll_58, ll_59, ll_60, ll_61, ll_62, ll_63, ll_64, ll_65, ll_66, ll_67, ll_68]; omega), (show 3 ≤ sizeLine by decide), fun p19 hp19 => .inl ⟨_, _, same_new hp19 _ _ upd_same, upd_same, (show 22 ≤ sizeLine by decide), fun q19 hq19 => ?_⟩⟩
    refine ⟨by (simp only [strLen_append, S_len, ll_0, ll_1, ll_2, ll_3, ll_4, ll_5, ll_6, ll_7, ll_8, ll_9, ll_10, ll_11, ll_12, ll_13, ll_14, ll_15, ll_16, ll_17, ll_18, ll_19, ll_20, ll_21, ll_22, ll_23, ll_24, ll_25, ll_26, ll_27, ll_28, ll_29, ll_30, ll_31, ll_32, ll_33, ll_34, ll_35, ll_36, ll_37, ll_38, ll_39, ll_40, ll_41, ll_42, ll_43, ll_44, ll_45, ll_46, ll_47, ll_48, ll_49, ll_50, ll_51, ll_52, ll_53, ll_54, ll_55, ll_56, ll_57, ll_58, ll_59, ll_60, ll_61, ll_62, ll_63, ll_64, ll_65, ll_66, ll_67, ll_68]; omega), by (simp only [strLen_append, S_len, ll_0, ll_1, ll_2, ll_3, ll_4, ll_5, ll_6, ll_7, ll_8, ll_9, ll_10, ll_11, ll_12, ll_13, ll_14, ll_15, ll_16, ll_17, ll_18, ll_19, ll_20, ll_21, ll_22, ll_23, ll_24, ll_25, ll_26, ll_27, ll_28, ll_29, ll_30, ll_31, ll_32, ll_33, ll_34, ll_35, ll_36, ll_37, ll_38, ll_39, ll_40, ll_41, ll_42, ll_43, ll_44, ll_45, ll_46, ll_47, ll_48, ll_49, ll_50, ll_51, ll_52, ll_53, ll_54, ll_55, ll_56, ll_57, ll_58, ll_59, ll_60, ll_61, ll_62, ll_63, ll_64, ll_65, ll_66, ll_67, ll_68]; omega), by (simp only [strLen_append, S_len, ll_0, ll_1, ll_2, ll_3, ll_4, ll_5, ll_6, ll_7, ll_8, ll_9, ll_10, ll_11, ll_12, ll_13, ll_14, ll_15, ll_16, ll_17, ll_18, ll_19, ll_20, ll_21, ll_22, ll_23, ll_24, ll_25, ll_26, ll_27, ll_28, ll_29, ll_30, ll_31, ll_32, ll_33, ll_34, ll_35, ll_36, ll_37, ll_38, ll_39, ll_40, ll_41, ll_42, ll_43, ll_44, ll_45, ll_46, ll_47, ll_48, ll_49, ll_50, ll_51, ll_52, ll_53, ll_54, ll_55, ll_56, ll_57, ll_58, ll_59, ll_60, ll_61, ll_62, ll_63, ll_64, ll_65, ll_66, ll_67, ll_68]; omega), by (simp only [strLen_append, S_len, ll_0, ll_1, ll_2, ll_3, ll_4, ll_5, ll_6, ll_7, ll_8, ll_9, ll_10, ll_11, ll_12, ll_13, ll_14, ll_15, ll_16, ll_17, ll_18, ll_19, ll_20, ll_21, ll_22, ll_23, ll_24, ll_25, ll_26, ll_27, ll_28, ll_29, ll_30, ll_31, ll_32, ll_33, ll_34, ll_35, ll_36, ll_37, ll_38, ll_39, ll_40, ll_41, ll_42, ll_43, ll_44, ll_45, ll_46, ll_47, ll_48, ll_49, ll_50, ll_51, ll_52, ll_53, ll_54, ll_55, ll_56, ll_57, ll_58, ll_59, ll_60, ll_61, ll_62, ll_63, ll_64, ll_65, ll_66, ll_67, ll_68]; omega), by (simp only [strLen_append, S_len, ll_0, ll_1, ll_2, ll_3, ll_4, ll_5, ll_6, ll_7, ll_8, ll_9, ll_10, ll_11, ll_12, ll_13, ll_14, ll_15, ll_16, ll_17, ll_18, ll_19, ll_20, ll_21, ll_22, ll_23, ll_24, ll_25, ll_26, ll_27, ll_28, ll_29, ll_30, ll_31, ll_32, ll_33, ll_34, ll_35, ll_36, ll_37, ll_38, ll_39, ll_40, ll_41, ll_42, ll_43, ll_44, ll_45, ll_46, ll_47, ll_48, ll_49, ll_50, ll_51, ll_52, ll_53, ll_54, ll_55, ll_56, ll_57, ll_58, ll_59, ll_60, ll_61, ll_62, ll_63, ll_64, ll_65, ll_66, ll_67, ll_68]; omega), by (simp only [strLen_append, S_len, ll_0, ll_1, ll_2, ll_3, ll_4, ll_5, ll_6, ll_7, ll_8, ll_9, ll_10, ll_11, ll_12, ll_13, ll_14, ll_15, ll_16, ll_17, ll_18, ll_19, ll_20, ll_21, ll_22, ll_23, ll_24, ll_25, ll_26, ll_27, ll_28, ll_29, ll_30, ll_31, ll_32, ll_33, ll_34, ll_35, ll_36, ll_37, ll_38, ll_39, ll_40, ll_41, ll_42, ll_43, ll_44, ll_45, ll_46, ll_47, ll_48, ll_49, ll_50, ll_51, ll_52, ll_53, ll_54, ll_55, ll_56, ll_57, ll_58, ll_59, ll_60, ll_61, ll_62, ll_63, ll_64, ll_65, ll_66, ll_67, ll_68]; omega), (show 3 ≤ sizeLine by decide), fun p22 hp22 => .inl ⟨_, _, same_new hp22 _ _ upd_same, upd_same, (show 25 ≤ sizeLine by decide), fun q22 hq22 => ?_⟩⟩
    refine ⟨by (simp only [strLen_append, S_len, ll_0, ll_1, ll_2, ll_3, ll_4, ll_5, ll_6, ll_7, ll_8, ll_9, ll_10, ll_11, ll_12, ll_13, ll_14, ll_15, ll_16, ll_17, ll_18, ll_19, ll_20, ll_21, ll_22, ll_23, ll_24, ll_25, ll_26, ll_27, ll_28, ll_29, ll_30, ll_31, ll_32, ll_33, ll_34, ll_35, ll_36, ll_37, ll_38, ll_39, ll_40, ll_41, ll_42, ll_43, ll_44, ll_45, ll_46, ll_47, ll_48, ll_49, ll_50, ll_51, ll_52, ll_53, ll_54, ll_55, ll_56, ll_57, ll_58, ll_59, ll_60, ll_61, ll_62, ll_63, ll_64, ll_65, ll_66, ll_67, ll_68]; omega), by (simp only [strLen_append, S_len, ll_0, ll_1, ll_2, ll_3, ll_4, ll_5, ll_6, ll_7, ll_8, ll_9, ll_10, ll_11, ll_12, ll_13, ll_14, ll_15, ll_16, ll_17, ll_18, ll_19, ll_20, ll_21, ll_22, ll_23, ll_24, ll_25, ll_26, ll_27, ll_28, ll_29, ll_30, ll_31, ll_32, ll_33, ll_34, ll_35, ll_36, ll_37, ll_38, ll_39, ll_40, ll_41, ll_42, ll_43, ll_44, ll_45, ll_46, ll_47, ll_48, ll_49, ll_50, ll_51, ll_52, ll_53, ll_54, ll_55, ll_56, ll_57, ll_58, ll_59, ll_60, ll_61, ll_62, ll_63, ll_64, ll_65, ll_66, ll_67, ll_68]; omega), by (simp only [strLen_append, S_len, ll_0, ll_1, ll_2, ll_3, ll_4, ll_5, ll_6, ll_7, ll_8, ll_9, ll_10, ll_11, ll_12, ll_13, ll_14, ll_15, ll_16, ll_17, ll_18, ll_19, ll_20, ll_21, ll_22, ll_23, ll_24, ll_25, ll_26, ll_27, ll_28, ll_29, ll_30, ll_31, ll_32, ll_33, ll_34, ll_35, ll_36, ll_37, ll_38, ll_39, ll_40, ll_41, ll_42, ll_43, ll_44, ll_45, ll_46, ll_47, ll_48, ll_49, ll_50, ll_51, ll_52, ll_53, ll_54, ll_55, ll_56, ll_57, ll_58, ll_59, ll_60, ll_61, ll_62, ll_63, ll_64, ll_65, ll_66, ll_67, ll_68]; omega), by (simp only [strLen_append, S_len, ll_0, ll_1, ll_2, ll_3, ll_4, ll_5, ll_6, ll_7, ll_8, ll_9, ll_10, ll_11, ll_12, ll_13, ll_14, ll_15, ll_16, ll_17, ll_18, ll_19, ll_20, ll_21, ll_22, ll_23, ll_24, ll_25, ll_26, ll_27, ll_28, ll_29, ll_30, ll_31, ll_32, ll_33, ll_34, ll_35, ll_36, ll_37, ll_38, ll_39, ll_40, ll_41, ll_42, ll_43, ll_44, ll_45, ll_46, ll_47, ll_48, ll_49, ll_50, ll_51, ll_52, ll_53, ll_54, ll_55, ll_56, ll_57, ll_58, ll_59, ll_60, ll_61, ll_62, ll_63, ll_64, ll_65, ll_66, ll_67, ll_68]; omega), by (simp only [strLen_append, S_len, ll_0, ll_1, ll_2, ll_3, ll_4, ll_5, ll_6, ll_7, ll_8, ll_9, ll_10, ll_11, ll_12, ll_13, ll_14, ll_15, ll_16, ll_17, ll_18, ll_19, ll_20, ll_21, ll_22, ll_23, ll_24, ll_25, ll_26, ll_27, ll_28, ll_29, ll_30, ll_31, ll_32, ll_33, ll_34, ll_35, ll_36, ll_37, ll_38, ll_39, ll_40, ll_41, ll_42, ll_43, ll_44, ll_45, ll_46, ll_47, ll_48, ll_49, ll_50, ll_51, ll_52, ll_53, ll_54, ll_55, ll_56, ll_57, ll_58, ll_59, ll_60, ll_61, ll_62, ll_63, ll_64, ll_65, ll_66, ll_67, ll_68]; omega), by (simp only [strLen_append, S_len, ll_0, ll_1, ll_2, ll_3, ll_4, ll_5, ll_6, ll_7, ll_8, ll_9, ll_10, ll_11, ll_12, ll_13, ll_14, ll_15, ll_16, ll_17, ll_18, ll_19, ll_20, ll_21, ll_22, ll_23, ll_24, ll_25, ll_26, ll_27, ll_28, ll_29, ll_30, ll_31, ll_32, ll_33, ll_34, ll_35, ll_36, ll_37, ll_38, ll_39, ll_40, ll_41, ll_42, ll_43, ll_44, ll_45, ll_46, ll_47, ll_48, ll_49, ll_50, ll_51, ll_52, ll_53, ll_54, ll_55, ll_56, ll_57, ll_58, ll_59, ll_60, ll_61, ll_62, ll_63, ll_64, ll_65, ll_66, ll_67, ll_68]; omega), by (simp only [strLen_append, S_len, ll_0, ll_1, ll_2, ll_3, ll_4, ll_5, ll_6, ll_7, ll_8, ll_9, ll_10, ll_11, ll_12, ll_13, ll_14, ll_15, ll_16, ll_17, ll_18, ll_19, ll_20, ll_21, ll_22, ll_23, ll_24, ll_25, ll_26, ll_27, ll_28, ll_29, ll_30, ll_31, ll_32, ll_33, ll_34, ll_35, ll_36, ll_37, ll_38, ll_39, ll_40, ll_41, ll_42, ll_43, ll_44, ll_45, ll_46, ll_47, ll_48, ll_49, ll_50, ll_51, ll_52, ll_53, ll_54, ll_55, ll_56, ll_57, ll_58, ll_59, ll_60, ll_61, ll_62, ll_63, ll_64, ll_65, ll_66, ll_67, ll_68]; omega), (show 2 ≤ sizeLine by decide), fun p25 hp25 => .inl ⟨_, _, same_new hp25 _ _ upd_same, upd_same, (show 27 ≤ sizeLine by decide), fun q25 hq25 => ?_⟩⟩
    refine ⟨by (simp only [strLen_append, S_len, ll_0, ll_1, ll_2, ll_3, ll_4, ll_5, ll_6, ll_7, ll_8, ll_9, ll_10, ll_11, ll_12, ll_13, ll_14, ll_15, ll_16, ll_17, ll_18, ll_19, ll_20, ll_21, ll_22, ll_23, ll_24, ll_25, ll_26, ll_27, ll_28, ll_29, ll_30, ll_31, ll_32, ll_33, ll_34, ll_35, ll_36, ll_37, ll_38, ll_39, ll_40, ll_41, ll_42, ll_43, ll_44, ll_45, ll_46, ll_47, ll_48, ll_49, ll_50, ll_51, ll_52, ll_53, ll_54, ll_55, ll_56, ll_57, ll_58, ll_59, ll_60, ll_61, ll_62, ll_63, ll_64, ll_65, ll_66, ll_67, ll_68]; omega), by (simp only [strLen_append, S_len, ll_0, ll_1, ll_2, ll_3, ll_4, ll_5, ll_6, ll_7, ll_8, ll_9, ll_10, ll_11, ll_12, ll_13, ll_14, ll_15, ll_16, ll_17, ll_18, ll_19, ll_20, ll_21, ll_22, ll_23, ll_24, ll_25, ll_26, ll_27, ll_28, ll_29, ll_30, ll_31, ll_32, ll_33, ll_34, ll_35, ll_36, ll_37, ll_38, ll_39, ll_40, ll_41, ll_42, ll_43, ll_44, ll_45, ll_46, ll_47, ll_48, ll_49, ll_50, ll_51, ll_52, ll_53, ll_54, ll_55, ll_56, ll_57, ll_58, ll_59, ll_60, ll_61, ll_62, ll_63, ll_64, ll_65, ll_66, ll_67, ll_68]; omega), by (simp only [strLen_append, S_len, ll_0, ll_1, ll_2, ll_3, ll_4, ll_5, ll_6, ll_7, ll_8, ll_9, ll_10, ll_11, ll_12, ll_13, ll_14, ll_15, ll_16, ll_17, ll_18, ll_19, ll_20, ll_21, ll_22, ll_23, ll_24, ll_25, ll_26, ll_27, ll_28, ll_29, ll_30, ll_31, ll_32, ll_33, ll_34, ll_35, ll_36, ll_37, ll_38, ll_39, ll_40, ll_41, ll_42, ll_43, ll_44, ll_45, ll_46, ll_47, ll_48, ll_49, ll_50, ll_51, ll_52, ll_53, ll_54, ll_55, ll_56, ll_57, ll_58, ll_59, ll_60, ll_61, ll_62, ll_63, ll_64, ll_65, ll_66, ll_67, ll_68]; omega), by (simp only [strLen_append, S_len, ll_0, ll_1, ll_2, ll_3, ll_4, ll_5, ll_6, ll_7, ll_8, ll_9, ll_10, ll_11, ll_12, ll_13, ll_14, ll_15, ll_16, ll_17, ll_18, ll_19, ll_20, ll_21, ll_22, ll_23, ll_24, ll_25, ll_26, ll_27, ll_28, ll_29, ll_30, ll_31, ll_32, ll_33, ll_34, ll_35, ll_36, ll_37, ll_38, ll_39, ll_40, ll_41, ll_42, ll_43, ll_44, ll_45, ll_46, ll_47, ll_48, ll_49, ll_50, ll_51, ll_52, ll_53, ll_54, ll_55, ll_56, ll_57, ll_58, ll_59, ll_60, ll_61, ll_62, ll_63, ll_64, ll_65, ll_66, ll_67, ll_68]; omega), (show 4 ≤ sizeLine by decide), fun p27 hp27 => .inl ⟨_, _, same_new hp27 _ _ upd_same, upd_same, (show 31 ≤ sizeLine by decide), fun q27 hq27 => ?_⟩⟩
    refine ⟨by (simp only [strLen_append, S_len, ll_0, ll_1, ll_2, ll_3, ll_4, ll_5, ll_6, ll_7, ll_8, ll_9, ll_10, ll_11, ll_12, ll_13, ll_14, ll_15, ll_16, ll_17, ll_18, ll_19, ll_20, ll_21, ll_22, ll_23, ll_24, ll_25, ll_26, ll_27, ll_28, ll_29, ll_30, ll_31, ll_32, ll_33, ll_34, ll_35, ll_36, ll_37, ll_38, ll_39, ll_40, ll_41, ll_42, ll_43, ll_44, ll_45, ll_46, ll_47, ll_48, ll_49, ll_50, ll_51, ll_52, ll_53, ll_54, ll_55, ll_56, ll_57, ll_58, ll_59, ll_60, ll_61, ll_62, ll_63, ll_64, ll_65, ll_66, ll_67, ll_68]; omega), by (simp only [strLen_append, S_len, ll_0, ll_1, ll_2, ll_3, ll_4, ll_5, ll_6, ll_7, ll_8, ll_9, ll_10, ll_11, ll_12, ll_13, ll_14, ll_15, ll_16, ll_17, ll_18, ll_19, ll_20, ll_21, ll_22, ll_23, ll_24, ll_25, ll_26, ll_27, ll_28, ll_29, ll_30, ll_31, ll_32, ll_33, ll_34, ll_35, ll_36, ll_37, ll_38, ll_39, ll_40, ll_41, ll_42, ll_43, ll_44, ll_45, ll_46, ll_47, ll_48, ll_49, ll_50, ll_51, ll_52, ll_53, ll_54, ll_55, ll_56, ll_57, ll_58, ll_59, ll_60, ll_61, ll_62, ll_63, ll_64, ll_65, ll_66, ll_67, ll_68]; omega), ?_⟩
    refine ⟨mulOk_S (n := 13) (by omega) (by decide), ?_⟩
    rw [show Txt.mul (S n) 13 = S (List.replicate 13 n).flatten from mul_S n 13]
    refine ⟨by rw [S_len, flat_len]; omega, ?_⟩
    rw [show Txt.slice (S (List.replicate 13 n).flatten) none (some 13) = S (c13 n) from by rw [slice_S]; exact congrArg S (cut_to _ 13)]
    have hc13 := c13_len hn
    refine ⟨by (simp only [strLen_append, S_len, ll_0, ll_1, ll_2, ll_3, ll_4, ll_5, ll_6, ll_7, ll_8, ll_9, ll_10, ll_11, ll_12, ll_13, ll_14, ll_15, ll_16, ll_17, ll_18, ll_19, ll_20, ll_21, ll_22, ll_23, ll_24, ll_25, ll_26, ll_27, ll_28, ll_29, ll_30, ll_31, ll_32, ll_33, ll_34, ll_35, ll_36, ll_37, ll_38, ll_39, ll_40, ll_41, ll_42, ll_43, ll_44, ll_45, ll_46, ll_47, ll_48, ll_49, ll_50, ll_51, ll_52, ll_53, ll_54, ll_55, ll_56, ll_57, ll_58, ll_59, ll_60, ll_61, ll_62, ll_63, ll_64, ll_65, ll_66, ll_67, ll_68]; omega), by (simp only [strLen_append, S_len, ll_0, ll_1, ll_2, ll_3, ll_4, ll_5, ll_6, ll_7, ll_8, ll_9, ll_10, ll_11, ll_12, ll_13, ll_14, ll_15, ll_16, ll_17, ll_18, ll_19, ll_20, ll_21, ll_22, ll_23, ll_24, ll_25, ll_26, ll_27, ll_28, ll_29, ll_30, ll_31, ll_32, ll_33, ll_34, ll_35, ll_36, ll_37, ll_38, ll_39, ll_40, ll_41, ll_42, ll_43, ll_44, ll_45, ll_46, ll_47, ll_48, ll_49, ll_50, ll_51, ll_52, ll_53, ll_54, ll_55, ll_56, ll_57, ll_58, ll_59, ll_60, ll_61, ll_62, ll_63, ll_64, ll_65, ll_66, ll_67, ll_68]; omega), by (simp only [strLen_append, S_len, ll_0, ll_1, ll_2, ll_3, ll_4, ll_5, ll_6, ll_7, ll_8, ll_9, ll_10, ll_11, ll_12, ll_13, ll_14, ll_15, ll_16, ll_17, ll_18, ll_19, ll_20, ll_21, ll_22, ll_23, ll_24, ll_25, ll_26, ll_27, ll_28, ll_29, ll_30, ll_31, ll_32, ll_33, ll_34, ll_35, ll_36, ll_37, ll_38, ll_39, ll_40, ll_41, ll_42, ll_43, ll_44, ll_45, ll_46, ll_47, ll_48, ll_49, ll_50, ll_51, ll_52, ll_53, ll_54, ll_55, ll_56, ll_57, ll_58, ll_59, ll_60, ll_61, ll_62, ll_63, ll_64, ll_65, ll_66, ll_67, ll_68]; omega), by (simp only [strLen_append, S_len, ll_0, ll_1, ll_2, ll_3, ll_4, ll_5, ll_6, ll_7, ll_8, ll_9, ll_10, ll_11, ll_12, ll_13, ll_14, ll_15, ll_16, ll_17, ll_18, ll_19, ll_20, ll_21, ll_22, ll_23, ll_24, ll_25, ll_26, ll_27, ll_28, ll_29, ll_30, ll_31, ll_32, ll_33, ll_34, ll_35, ll_36, ll_37, ll_38, ll_39, ll_40, ll_41, ll_42, ll_43, ll_44, ll_45, ll_46, ll_47, ll_48, ll_49, ll_50, ll_51, ll_52, ll_53, ll_54, ll_55, ll_56, ll_57, ll_58, ll_59, ll_60, ll_61, ll_62, ll_63, ll_64, ll_65, ll_66, ll_67, ll_68]; omega), (show 4 ≤ sizeLine by decide), fun p31 hp31 => .inl ⟨_, _, same_new hp31 _ _ upd_same, upd_same, (show 35 ≤ sizeLine by decide), fun q31 hq31 => ?_⟩⟩
    refine ⟨mulOk_S (n := 13) (by omega) (by decide), ?_⟩
    rw [show Txt.mul (S n) 13 = S (List.replicate 13 n).flatten from mul_S n 13]
    refine ⟨by rw [S_len, flat_len]; omega, ?_⟩
    rw [show Txt.slice (S (List.replicate 13 n).flatten) none (some 13) = S (c13 n) from by rw [slice_S]; exact congrArg S (cut_to _ 13)]
    have hc13 := c13_len hn
    refine ⟨by (simp only [strLen_append, S_len, ll_0, ll_1, ll_2, ll_3, ll_4, ll_5, ll_6, ll_7, ll_8, ll_9, ll_10, ll_11, ll_12, ll_13, ll_14, ll_15, ll_16, ll_17, ll_18, ll_19, ll_20, ll_21, ll_22, ll_23, ll_24, ll_25, ll_26, ll_27, ll_28, ll_29, ll_30, ll_31, ll_32, ll_33, ll_34, ll_35, ll_36, ll_37, ll_38, ll_39, ll_40, ll_41, ll_42, ll_43, ll_44, ll_45, ll_46, ll_47, ll_48, ll_49, ll_50, ll_51, ll_52, ll_53, ll_54, ll_55, ll_56, ll_57, ll_58, ll_59, ll_60, ll_61, ll_62, ll_63, ll_64, ll_65, ll_66, ll_67, ll_68]; omega), by (simp only [strLen_append, S_len, ll_0, ll_1, ll_2, ll_3, ll_4, ll_5, ll_6, ll_7, ll_8, ll_9, ll_10, ll_11, ll_12, ll_13, ll_14, ll_15, ll_16, ll_17, ll_18, ll_19, ll_20, ll_21, ll_22, ll_23, ll_24, ll_25, ll_26, ll_27, ll_28, ll_29, ll_30, ll_31, ll_32, ll_33, ll_34, ll_35, ll_36, ll_37, ll_38, ll_39, ll_40, ll_41, ll_42, ll_43, ll_44, ll_45, ll_46, ll_47, ll_48, ll_49, ll_50, ll_51, ll_52, ll_53, ll_54, ll_55, ll_56, ll_57, ll_58, ll_59, ll_60, ll_61, ll_62, ll_63, ll_64, ll_65, ll_66, ll_67, ll_68]; omega), by (simp only [strLen_append, S_len, ll_0, ll_1, ll_2, ll_3, ll_4, ll_5, ll_6, ll_7, ll_8, ll_9, ll_10, ll_11, ll_12, ll_13, ll_14, ll_15, ll_16, ll_17, ll_18, ll_19, ll_20, ll_21, ll_22, ll_23, ll_24, ll_25, ll_26, ll_27, ll_28, ll_29, ll_30, ll_31, ll_32, ll_33, ll_34, ll_35, ll_36, ll_37, ll_38, ll_39, ll_40, ll_41, ll_42, ll_43, ll_44, ll_45, ll_46, ll_47, ll_48, ll_49, ll_50, ll_51, ll_52, ll_53, ll_54, ll_55, ll_56, ll_57, ll_58, ll_59, ll_60, ll_61, ll_62, ll_63, ll_64, ll_65, ll_66, ll_67, ll_68]; omega), by (simp only [strLen_append, S_len, ll_0, ll_1, ll_2, ll_3, ll_4, ll_5, ll_6, ll_7, ll_8, ll_9, ll_10, ll_11, ll_12, ll_13, ll_14, ll_15, ll_16, ll_17, ll_18, ll_19, ll_20, ll_21, ll_22, ll_23, ll_24, ll_25, ll_26, ll_27, ll_28, ll_29, ll_30, ll_31, ll_32, ll_33, ll_34, ll_35, ll_36, ll_37, ll_38, ll_39, ll_40, ll_41, ll_42, ll_43, ll_44, ll_45, ll_46, ll_47, ll_48, ll_49, ll_50, ll_51, ll_52, ll_53, ll_54, ll_55, ll_56, ll_57, ll_58, ll_59, ll_60, ll_61, ll_62, ll_63, ll_64, ll_65, ll_66, ll_67, ll_68]; omega), (show 3 ≤ sizeLine by decide), fun p35 hp35 => .inl ⟨_, _, same_new hp35 _ _ upd_same, upd_same, (show 38 ≤ sizeLine by decide), fun q35 hq35 => ?_⟩⟩
    obtain ⟨x, hx, hel⟩ := Ls.at (Ls.app (Ls.app (Ls.app (Ls.app (Ls.app (Ls.app (Ls.app (Ls.app (Ls.cons (nr_0 hn) (Ls.cons (nr_1 hn) (Ls.cons (nr_2 hn) (Ls.cons (nr_3 hn) (Ls.cons (nr_4 hn) (Ls.cons (nr_5 hn) (Ls.cons (nr_6 hn) Ls.nil))))))) (Ls.cons (nr_7 hn) (Ls.cons (nr_8 hn) (Ls.cons (nr_9 hn) (Ls.cons (nr_10 hn) (Ls.cons (nr_11 hn) (Ls.cons (nr_12 hn) Ls.nil))))))) (Ls.cons (nr_13 hn) (Ls.cons (nr_14 hn) (Ls.cons (nr_15 hn) (Ls.cons (nr_16 hn) (Ls.cons (nr_17 hn) (Ls.cons (nr_18 hn) Ls.nil))))))) (Ls.cons (nr_19 hn) (Ls.cons (nr_20 hn) (Ls.cons (nr_21 hn) Ls.nil)))) (Ls.cons (nr_22 hn) (Ls.cons (nr_23 hn) (Ls.cons (nr_24 hn) Ls.nil)))) (Ls.cons (nr_25 hn) (Ls.cons (nr_26 hn) Ls.nil))) (Ls.cons (nr_27 hn) (Ls.cons (nr_28 hn) (Ls.cons (nr_29 hn) (Ls.cons (nr_30 hn) Ls.nil))))) (Ls.cons (nr_31 hn) (Ls.cons (nr_32 hn) (Ls.cons (nr_33 hn) (Ls.cons (nr_34 hn) Ls.nil))))) (Ls.cons (nr_35 hn) (Ls.cons (nr_36 hn) (Ls.cons (nr_37 hn) Ls.nil)))) (c % 38) (by omega) (by omega)
    exact ⟨by decide, .inl ⟨_, _, SqL.of upd_same, hx, q _ x (((((((((((((((((same_new hp0).trans (same_new hp7)).trans (same_new hq7)).trans (same_new hp13)).trans (same_new hq13)).trans (same_new hp19)).trans (same_new hq19)).trans (same_new hp22)).trans (same_new hq22)).trans (same_new hp25)).trans (same_new hq25)).trans (same_new hp27)).trans (same_new hq27)).trans (same_new hp31)).trans (same_new hq31)).trans (same_new hp35)).trans (same_new hq35)) hel⟩⟩
def sp_no_form (K : PySem.W.Frag) : Sp := fun vs H Q _ => ∃ (c c0 : Int) (l : Addr), vs = [.int c, .ref l] ∧ SqL K H l (nm26 c0) ∧ ∀ H' x, Same H H' → El isNF x → Q (.str x) H'
abbrev st__law_no_form : Stmt := top 43
theorem sc__law_no_form : FnScope ["_law_cell", "_law_names_here", "_law_one", "_law_some"] ["_law_cell", "_law_names_here"] (defScope st__law_no_form) := ⟨rfl, rfl, rfl, by decide +kernel, rfl, by decide +kernel, by decide +kernel⟩
theorem def_no_form (R : Raw K mg "_law_no_form" st__law_no_form ["_law_cell", "_law_names_here"]) : Def P w K mg base 1 "_law_no_form" ["_law_cell", "_law_names_here"] (sp_no_form K) := by
  refine R.defJ sc__law_no_form (fun vs H Q E h => ?_) (fun f cdv A outer s H vs Q E hr h => ?_)
  · obtain ⟨c, c0, l, rfl, _⟩ := h
    rfl
  · obtain ⟨c, c0, l, rfl, hS, q⟩ := h
    have sc := sc__law_no_form
    have hu := hr.units
    have hb := big
    refine ⟨_, (jss_cons (js_set (i := 2) sc.nd rfl (Or.inl rfl) (j_ix (o_ix hu (K := K) (w := w)) (jn 1) (j_op o_mod (j_op o_div (jn 0) j_int) j_int)))
    (jss_cons (js_set (i := 3) sc.nd rfl (Or.inl rfl) (j_lst (ja_cons j_str (ja_cons j_str (ja_cons j_str (ja_cons j_str (ja_cons j_str (ja_cons (j_op (o_add (K := K)) (j_op (o_add (K := K)) j_str (jn 2)) j_str) (ja_cons (j_op (o_add (K := K)) (j_op (o_add (K := K)) j_str (jn 2)) j_str) ja_nil)))))))))
    (jss_cons (js_set (i := 3) sc.nd rfl (Or.inl rfl) (j_op (o_add (K := K)) (jn 3) (j_lst (ja_cons (j_op (o_add (K := K)) (j_op (o_add (K := K)) (j_op (o_add (K := K)) j_str (jn 2)) j_str) (jn 2)) (ja_cons (j_op (o_add (K := K)) (j_op (o_add (K := K)) j_str (jn 2)) j_str) (ja_cons j_str (ja_cons j_str (ja_cons j_str ja_nil))))))))
    (jss_cons (js_set (i := 3) sc.nd rfl (Or.inl rfl) (j_op (o_add (K := K)) (jn 3) (j_lst (ja_cons (j_op (o_add (K := K)) j_str (j_bm (K := K) PySem.F.plainAttrs_str PySem.F.slot_str_join PySem.F.type_str_join (m_join (K := K)) j_str (ja_cons (j_op o_mul (j_lst (ja_cons (j_op (o_add (K := K)) j_str (jn 2)) ja_nil)) j_int) ja_nil))) (ja_cons (j_op (o_add (K := K)) (j_op (o_add (K := K)) j_str (jn 2)) j_str) (ja_cons j_str ja_nil))))))
    (jss_cons (js_set (i := 3) sc.nd rfl (Or.inl rfl) (j_op (o_add (K := K)) (jn 3) (j_lst (ja_cons (j_op (o_add (K := K)) (j_op (o_add (K := K)) (j_op (o_add (K := K)) j_str (jn 2)) j_str) (j_op o_mul j_str j_int)) ja_nil))))
    (jss_one (js_ret (j_ix (o_ix hu (K := K) (w := w)) (jn 3) (j_op o_mod (jn 0) j_int))))))))), ?_⟩
    refine ⟨⟨by decide, by decide⟩, by decide, .inl ⟨_, _, hS, at26 c0 (c / 16 % 26) (by omega) (by omega), ?_⟩⟩
    have hn := nm_ok c0 (c / 16 % 26).toNat (by omega)
    generalize nameL c0 (c / 16 % 26).toNat = n at hn
    have hl1 := hn.l1
    have hl2 := hn.l2
    refine ⟨by (simp only [strLen_append, S_len, ll_0, ll_1, ll_2, ll_3, ll_4, ll_5, ll_6, ll_7, ll_8, ll_9, ll_10, ll_11, ll_12, ll_13, ll_14, ll_15, ll_16, ll_17, ll_18, ll_19, ll_20, ll_21, ll_22, ll_23, ll_24, ll_25, ll_26, ll_27, ll_28, ll_29, ll_30, ll_31, ll_32, ll_33, ll_34, ll_35, ll_36, ll_37, ll_38, ll_39, ll_40, ll_41, ll_42, ll_43, ll_44, ll_45, ll_46, ll_47, ll_48, ll_49, ll_50, ll_51, ll_52, ll_53, ll_54, ll_55, ll_56, ll_57, ll_58, ll_59, ll_60, ll_61, ll_62, ll_63, ll_64, ll_65, ll_66, ll_67, ll_68]; omega), by (simp only [strLen_append, S_len, ll_0, ll_1, ll_2, ll_3, ll_4, ll_5, ll_6, ll_7, ll_8, ll_9, ll_10, ll_11, ll_12, ll_13, ll_14, ll_15, ll_16, ll_17, ll_18, ll_19, ll_20, ll_21, ll_22, ll_23, ll_24, ll_25, ll_26, ll_27, ll_28, ll_29, ll_30, ll_31, ll_32, ll_33, ll_34, ll_35, ll_36, ll_37, ll_38, ll_39, ll_40, ll_41, ll_42, ll_43, ll_44, ll_45, ll_46, ll_47, ll_48, ll_49, ll_50, ll_51, ll_52, ll_53, ll_54, ll_55, ll_56, ll_57, ll_58, ll_59, ll_60, ll_61, ll_62, ll_63, ll_64, ll_65, ll_66, ll_67, ll_68]; omega), by (simp only [strLen_append, S_len, ll_0, ll_1, ll_2, ll_3, ll_4, ll_5, ll_6, ll_7, ll_8, ll_9, ll_10, ll_11, ll_12, ll_13, ll_14, ll_15, ll_16, ll_17, ll_18, ll_19, ll_20, ll_21, ll_22, ll_23, ll_24, ll_25, ll_26, ll_27, ll_28, ll_29, ll_30, ll_31, ll_32, ll_33, ll_34, ll_35, ll_36, ll_37, ll_38, ll_39, ll_40, ll_41, ll_42, ll_43, ll_44, ll_45, ll_46, ll_47, ll_48, ll_49, ll_50, ll_51, ll_52, ll_53, ll_54, ll_55, ll_56, ll_57, ll_58, ll_59, ll_60, ll_61, ll_62, ll_63, ll_64, ll_65, ll_66, ll_67, ll_68]; omega), by (simp only [strLen_append, S_len, ll_0, ll_1, ll_2, ll_3, ll_4, ll_5, ll_6, ll_7, ll_8, ll_9, ll_10, ll_11, ll_12, ll_13, ll_14, ll_15, ll_16, ll_17, ll_18, ll_19, ll_20, ll_21, ll_22, ll_23, ll_24, ll_25, ll_26, ll_27, ll_28, ll_29, ll_30, ll_31, ll_32, ll_33, ll_34, ll_35, ll_36, ll_37, ll_38, ll_39, ll_40, ll_41, ll_42, ll_43, ll_44, ll_45, ll_46, ll_47, ll_48, ll_49, ll_50, ll_51, ll_52, ll_53, ll_54, ll_55, ll_56, ll_57, ll_58, ll_59, ll_60, ll_61, ll_62, ll_63, ll_64, ll_65, ll_66, ll_67, ll_68]; omega), (show 7 ≤ sizeLine by decide), fun p0 hp0 => ?_⟩
    refine ⟨by (simp only [strLen_append, S_len, ll_0, ll_1, ll_2, ll_3, ll_4, ll_5, ll_6, ll_7, ll_8, ll_9, ll_10, ll_11, ll_12, ll_13, ll_14, ll_15, ll_16, ll_17, ll_18, ll_19, ll_20, ll_21, ll_22, ll_23, ll_24, ll_25, ll_26, ll_27, ll_28, ll_29, ll_30, ll_31, ll_32, ll_33, ll_34, ll_35, ll_36, ll_37, ll_38, ll_39, ll_40, ll_41, ll_42, ll_43, ll_44, ll_45, ll_46, ll_47, ll_48, ll_49, ll_50, ll_51, ll_52, ll_53, ll_54, ll_55, ll_56, ll_57, ll_58, ll_59, ll_60, ll_61, ll_62, ll_63, ll_64, ll_65, ll_66, ll_67, ll_68]; omega), by (simp only [strLen_append, S_len, ll_0, ll_1, ll_2, ll_3, ll_4, ll_5, ll_6, ll_7, ll_8, ll_9, ll_10, ll_11, ll_12, ll_13, ll_14, ll_15, ll_16, ll_17, ll_18, ll_19, ll_20, ll_21, ll_22, ll_23, ll_24, ll_25, ll_26, ll_27, ll_28, ll_29, ll_30, ll_31, ll_32, ll_33, ll_34, ll_35, ll_36, ll_37, ll_38, ll_39, ll_40, ll_41, ll_42, ll_43, ll_44, ll_45, ll_46, ll_47, ll_48, ll_49, ll_50, ll_51, ll_52, ll_53, ll_54, ll_55, ll_56, ll_57, ll_58, ll_59, ll_60, ll_61, ll_62, ll_63, ll_64, ll_65, ll_66, ll_67, ll_68]; omega), by (simp only [strLen_append, S_len, ll_0, ll_1, ll_2, ll_3, ll_4, ll_5, ll_6, ll_7, ll_8, ll_9, ll_10, ll_11, ll_12, ll_13, ll_14, ll_15, ll_16, ll_17, ll_18, ll_19, ll_20, ll_21, ll_22, ll_23, ll_24, ll_25, ll_26, ll_27, ll_28, ll_29, ll_30, ll_31, ll_32, ll_33, ll_34, ll_35, ll_36, ll_37, ll_38, ll_39, ll_40, ll_41, ll_42, ll_43, ll_44, ll_45, ll_46, ll_47, ll_48, ll_49, ll_50, ll_51, ll_52, ll_53, ll_54, ll_55, ll_56, ll_57, ll_58, ll_59, ll_60, ll_61, ll_62, ll_63, ll_64, ll_65, ll_66, ll_67, ll_68]; omega), by (simp only [strLen_append, S_len, ll_0, ll_1, ll_2, ll_3, ll_4, ll_5, ll_6, ll_7, ll_8, ll_9, ll_10, ll_11, ll_12, ll_13, ll_14, ll_15, ll_16, ll_17, ll_18, ll_19, ll_20, ll_21, ll_22, ll_23, ll_24, ll_25, ll_26, ll_27, ll_28, ll_29, ll_30, ll_31, ll_32, ll_33, ll_34, ll_35, ll_36, ll_37, ll_38, ll_39, ll_40, ll_41, ll_42, ll_43, ll_44, ll_45, ll_46, ll_47, ll_48, ll_49, ll_50, ll_51, ll_52, ll_53, ll_54, ll_55, ll_56, ll_57, ll_58, ll_59, ll_60, ll_61, ll_62, ll_63, ll_64, ll_65, ll_66, ll_67, ll_68]; omega), by (simp only [strLen_append, S_len, ll_0, ll_1, ll_2, ll_3, ll_4, ll_5, ll_6, ll_7, ll_8, ll_9, ll_10, ll_11, ll_12, ll_13, ll_14, ll_15, ll_16, ll_17, ll_18, ll_19, ll_20, ll_21, ll_22, ll_23, ll_24, ll_25, ll_26, ll_27, ll_28, ll_29, ll_30, ll_31, ll_32, ll_33, ll_34, ll_35, ll_36, ll_37, ll_38, ll_39, ll_40, ll_41, ll_42, ll_43, ll_44, ll_45, ll_46, ll_47, ll_48, ll_49, ll_50, ll_51, ll_52, ll_53, ll_54, ll_55, ll_56, ll_57, ll_58, ll_59, ll_60, ll_61, ll_62, ll_63, ll_64, ll_65, ll_66, ll_67, ll_68]; omega), (show 5 ≤ sizeLine by decide), fun p7 hp7 => .inl ⟨_, _, same_new hp7 _ _ upd_same, upd_same, (show 12 ≤ sizeLine by decide), fun q7 hq7 => ?_⟩⟩
    have ej13 : (List.replicate (13 : Int).toNat [V.str (Str.ofString "@." ++ S n)]).flatten = (List.replicate 13 (S ([64, 46] ++ n))).map V.str := by
      rw [show Str.ofString "@." ++ S n = S ([64, 46] ++ n) from S_app [64, 46] n]; rfl
    refine ⟨rfl, by (simp only [strLen_append, S_len, ll_0, ll_1, ll_2, ll_3, ll_4, ll_5, ll_6, ll_7, ll_8, ll_9, ll_10, ll_11, ll_12, ll_13, ll_14, ll_15, ll_16, ll_17, ll_18, ll_19, ll_20, ll_21, ll_22, ll_23, ll_24, ll_25, ll_26, ll_27, ll_28, ll_29, ll_30, ll_31, ll_32, ll_33, ll_34, ll_35, ll_36, ll_37, ll_38, ll_39, ll_40, ll_41, ll_42, ll_43, ll_44, ll_45, ll_46, ll_47, ll_48, ll_49, ll_50, ll_51, ll_52, ll_53, ll_54, ll_55, ll_56, ll_57, ll_58, ll_59, ll_60, ll_61, ll_62, ll_63, ll_64, ll_65, ll_66, ll_67, ll_68]; omega), (show 1 ≤ sizeLine by decide), fun pj hpj => ⟨_, upd_same, by decide, by decide, (show 1 * 13 ≤ sizeLine by decide), fun pk hpk => ⟨List.replicate 13 (S ([64, 46] ++ n)), SqL.of (upd_same.trans (congrArg (fun z => some (HO.lst z)) ej13)), joinOk_of (B := 12) (fun y hy => ?_) (by rw [List.length_replicate]; decide), ?_⟩⟩⟩
    · rw [(List.mem_replicate.mp hy).2, S_len, List.length_append]; show 2 + n.length ≤ 12; omega
    have ejn : Txt.join (Str.ofString " ") (List.replicate 13 (S ([64, 46] ++ n))) = S (joinWith [32] (List.replicate 13 ([64, 46] ++ n))) := by
      have := txtJoin_S [32] (List.replicate 13 ([64, 46] ++ n))
      rw [List.map_replicate] at this
      exact this
    rw [ejn]
    have hjl : (joinWith [32] (List.replicate 13 ([64, 46] ++ n))).length ≤ 200 := Nat.le_trans (join_le (B := 12) fun p hp => by rw [(List.mem_replicate.mp hp).2, List.length_append]; show 2 + n.length ≤ 12; omega) (by rw [List.length_replicate]; decide)
    refine ⟨by (simp only [strLen_append, S_len, ll_0, ll_1, ll_2, ll_3, ll_4, ll_5, ll_6, ll_7, ll_8, ll_9, ll_10, ll_11, ll_12, ll_13, ll_14, ll_15, ll_16, ll_17, ll_18, ll_19, ll_20, ll_21, ll_22, ll_23, ll_24, ll_25, ll_26, ll_27, ll_28, ll_29, ll_30, ll_31, ll_32, ll_33, ll_34, ll_35, ll_36, ll_37, ll_38, ll_39, ll_40, ll_41, ll_42, ll_43, ll_44, ll_45, ll_46, ll_47, ll_48, ll_49, ll_50, ll_51, ll_52, ll_53, ll_54, ll_55, ll_56, ll_57, ll_58, ll_59, ll_60, ll_61, ll_62, ll_63, ll_64, ll_65, ll_66, ll_67, ll_68]; omega), by (simp only [strLen_append, S_len, ll_0, ll_1, ll_2, ll_3, ll_4, ll_5, ll_6, ll_7, ll_8, ll_9, ll_10, ll_11, ll_12, ll_13, ll_14, ll_15, ll_16, ll_17, ll_18, ll_19, ll_20, ll_21, ll_22, ll_23, ll_24, ll_25, ll_26, ll_27, ll_28, ll_29, ll_30, ll_31, ll_32, ll_33, ll_34, ll_35, ll_36, ll_37, ll_38, ll_39, ll_40, ll_41, ll_42, ll_43, ll_44, ll_45, ll_46, ll_47, ll_48, ll_49, ll_50, ll_51, ll_52, ll_53, ll_54, ll_55, ll_56, ll_57, ll_58, ll_59, ll_60, ll_61, ll_62, ll_63, ll_64, ll_65, ll_66, ll_67, ll_68]; omega), by (simp only [strLen_append, S_len, ll_0, ll_1, ll_2, ll_3, ll_4, ll_5, ll_6, ll_7, ll_8, ll_9, ll_10, ll_11, ll_12, ll_13, ll_14, ll_15, ll_16, ll_17, ll_18, ll_19, ll_20, ll_21, ll_22, ll_23, ll_24, ll_25, ll_26, ll_27, ll_28, ll_29, ll_30, ll_31, ll_32, ll_33, ll_34, ll_35, ll_36, ll_37, ll_38, ll_39, ll_40, ll_41, ll_42, ll_43, ll_44, ll_45, ll_46, ll_47, ll_48, ll_49, ll_50, ll_51, ll_52, ll_53, ll_54, ll_55, ll_56, ll_57, ll_58, ll_59, ll_60, ll_61, ll_62, ll_63, ll_64, ll_65, ll_66, ll_67, ll_68]; omega), (show 3 ≤ sizeLine by decide), fun p12 hp12 => .inl ⟨_, _, same_new hp12 _ _ (same_new hpk _ _ (same_new hpj _ _ upd_same)), upd_same, (show 15 ≤ sizeLine by decide), fun q12 hq12 => ?_⟩⟩
    refine ⟨by (simp only [strLen_append, S_len, ll_0, ll_1, ll_2, ll_3, ll_4, ll_5, ll_6, ll_7, ll_8, ll_9, ll_10, ll_11, ll_12, ll_13, ll_14, ll_15, ll_16, ll_17, ll_18, ll_19, ll_20, ll_21, ll_22, ll_23, ll_24, ll_25, ll_26, ll_27, ll_28, ll_29, ll_30, ll_31, ll_32, ll_33, ll_34, ll_35, ll_36, ll_37, ll_38, ll_39, ll_40, ll_41, ll_42, ll_43, ll_44, ll_45, ll_46, ll_47, ll_48, ll_49, ll_50, ll_51, ll_52, ll_53, ll_54, ll_55, ll_56, ll_57, ll_58, ll_59, ll_60, ll_61, ll_62, ll_63, ll_64, ll_65, ll_66, ll_67, ll_68]; omega), by (simp only [strLen_append, S_len, ll_0, ll_1, ll_2, ll_3, ll_4, ll_5, ll_6, ll_7, ll_8, ll_9, ll_10, ll_11, ll_12, ll_13, ll_14, ll_15, ll_16, ll_17, ll_18, ll_19, ll_20, ll_21, ll_22, ll_23, ll_24, ll_25, ll_26, ll_27, ll_28, ll_29, ll_30, ll_31, ll_32, ll_33, ll_34, ll_35, ll_36, ll_37, ll_38, ll_39, ll_40, ll_41, ll_42, ll_43, ll_44, ll_45, ll_46, ll_47, ll_48, ll_49, ll_50, ll_51, ll_52, ll_53, ll_54, ll_55, ll_56, ll_57, ll_58, ll_59, ll_60, ll_61, ll_62, ll_63, ll_64, ll_65, ll_66, ll_67, ll_68]; omega), ?_⟩
    refine ⟨mulOk_S (l := [97, 98]) (n := 51) (by decide) (by decide), ?_⟩
    rw [show Txt.mul (Str.ofString "ab") 51 = S ab51 from mul_S [97, 98] 51]
    have hab : ab51.length = 102 := by decide
    refine ⟨by (simp only [strLen_append, S_len, ll_0, ll_1, ll_2, ll_3, ll_4, ll_5, ll_6, ll_7, ll_8, ll_9, ll_10, ll_11, ll_12, ll_13, ll_14, ll_15, ll_16, ll_17, ll_18, ll_19, ll_20, ll_21, ll_22, ll_23, ll_24, ll_25, ll_26, ll_27, ll_28, ll_29, ll_30, ll_31, ll_32, ll_33, ll_34, ll_35, ll_36, ll_37, ll_38, ll_39, ll_40, ll_41, ll_42, ll_43, ll_44, ll_45, ll_46, ll_47, ll_48, ll_49, ll_50, ll_51, ll_52, ll_53, ll_54, ll_55, ll_56, ll_57, ll_58, ll_59, ll_60, ll_61, ll_62, ll_63, ll_64, ll_65, ll_66, ll_67, ll_68]; omega), (show 1 ≤ sizeLine by decide), fun p15 hp15 => .inl ⟨_, _, same_new hp15 _ _ upd_same, upd_same, (show 16 ≤ sizeLine by decide), fun q15 hq15 => ?_⟩⟩
    obtain ⟨x, hx, hel⟩ := Ls.at (Ls.app (Ls.app (Ls.app (Ls.cons (nf_0 hn) (Ls.cons (nf_1 hn) (Ls.cons (nf_2 hn) (Ls.cons (nf_3 hn) (Ls.cons (nf_4 hn) (Ls.cons (nf_5 hn) (Ls.cons (nf_6 hn) Ls.nil))))))) (Ls.cons (nf_7 hn) (Ls.cons (nf_8 hn) (Ls.cons (nf_9 hn) (Ls.cons (nf_10 hn) (Ls.cons (nf_11 hn) Ls.nil)))))) (Ls.cons (nf_12 hn) (Ls.cons (nf_13 hn) (Ls.cons (nf_14 hn) Ls.nil)))) (Ls.cons (nf_15 hn) Ls.nil)) (c % 16) (by omega) (by omega)
    exact ⟨by decide, .inl ⟨_, _, SqL.of upd_same, hx, q _ x (((((((((same_new hp0).trans (same_new hp7)).trans (same_new hq7)).trans (same_new hpj)).trans (same_new hpk)).trans (same_new hp12)).trans (same_new hq12)).trans (same_new hp15)).trans (same_new hq15)) hel⟩⟩
def badP (k : Nat) (ws : List W) : Prop := (k = 1 ∧ isNR ws) ∨ (k = 2 ∧ isNF ws)
def RowAt (K : PySem.W.Frag) (H : Hp) (x : V) (r : Nat × List W) : Prop := ∃ t : Addr, x = .ref t ∧ SqT K H t [.int (r.1 : Nat), .str (S (joinWith [32] r.2))]
def spBad (K : PySem.W.Frag) : Sp := fun vs H Q _ => ∃ (c c0 : Int) (l : Addr), vs = [.int c, .ref l] ∧ SqL K H l (nm26 c0) ∧ ∀ H' x k ws, Same H H' → Row1 ws → badP k ws → RowAt K H' x (k, ws) → Q x H'
abbrev st__law_bad : Stmt := top 44
theorem sc__law_bad : FnScope ["_law_cell", "_law_names_here"] ["_law_cell", "_law_names_here"] (defScope st__law_bad) := ⟨rfl, rfl, rfl, by decide +kernel, rfl, by decide +kernel, by decide +kernel⟩
theorem def_bad (R : Raw K mg "_law_bad" st__law_bad ["_law_cell", "_law_names_here"]) (D__law_no_form : Def P w K mg base 1 "_law_no_form" ["_law_cell", "_law_names_here"] (sp_no_form K)) (D__law_no_row : Def P w K mg base 1 "_law_no_row" ["_law_cell", "_law_names_here"] (sp_no_row K)) : Def P w K mg base 2 "_law_bad" ["_law_cell", "_law_names_here"] (spBad K) := by
  refine R.defJ sc__law_bad (fun vs H Q E h => ?_) (fun f cdv A outer s H vs Q E hr h => ?_)
  · obtain ⟨c, c0, l, rfl, _⟩ := h
    rfl
  · obtain ⟨c, c0, l, rfl, hS, q⟩ := h
    have sc := sc__law_bad
    have hu := hr.units
    refine ⟨_, (jss_cons (js_if (jt_cmp (o_eq hu (K := K)) (j_op o_mod (jn 0) j_int) j_int)
    (jss_one (js_ret (j_tup (ja_cons j_int (ja_cons (j_def D__law_no_form (hr.mono (by decide)) rfl (ja_cons (j_op o_div (jn 0) j_int) (ja_cons (jn 1) ja_nil))) ja_nil)))))
    jss_nil)
    (jss_one (js_ret (j_tup (ja_cons j_int (ja_cons (j_def D__law_no_row (hr.mono (by decide)) rfl (ja_cons (j_op o_div (jn 0) j_int) (ja_cons (jn 1) ja_nil))) ja_nil)))))), ?_⟩
    refine ⟨by decide, ?_⟩
    show if (false ^^ decide (c % 3 = 0)) = true then _ else _
    rw [Bool.false_xor]
    refine ite2 (fun h => ?_) (fun h => ?_)
    · refine ⟨⟨by decide, by decide⟩, c / 3, c0, l, rfl, hS, fun H1 x s1 hel => ?_⟩
      obtain ⟨ws, rfl, hr1, hp⟩ := hel
      exact ⟨(show 2 ≤ sizeLine by decide), fun t ht => q _ (.ref t) 2 ws (s1.trans (same_new ht)) hr1 (.inr ⟨rfl, hp⟩) ⟨t, rfl, SqT.of upd_same⟩⟩
    · refine ⟨⟨by decide, by decide⟩, c / 3, c0, l, rfl, hS, fun H1 x s1 hel => ?_⟩
      obtain ⟨ws, rfl, hr1, hp⟩ := hel
      exact ⟨(show 2 ≤ sizeLine by decide), fun t ht => q _ (.ref t) 1 ws (s1.trans (same_new ht)) hr1 (.inl ⟨rfl, hp⟩) ⟨t, rfl, SqT.of upd_same⟩⟩
end
end K81

set_option Elab.async false
set_option linter.all false
set_option maxRecDepth 100000
set_option maxHeartbeats 4000000



--@RAISES but law
namespace K81
open PySem PySem.Spec PyProof.Rows L2 Rg
theorem lk_0 : (Str.ofString "gap @+~b~n") = S [103, 97, 112, 32, 64, 43, 126, 98, 126, 110] := rfl
theorem lk_1 : (Str.ofString "gap =.# ^*~n") = S [103, 97, 112, 32, 61, 46, 35, 32, 94, 42, 126, 110] := rfl
theorem lk_2 : (Str.ofString "word ") = S [119, 111, 114, 100, 32] := rfl
theorem lk_3 : (Str.ofString " @.~a @*~a~0") = S [32, 64, 46, 126, 97, 32, 64, 42, 126, 97, 126, 48] := rfl
theorem lk_4 : (Str.ofString " =.< =-=") = S [32, 61, 46, 60, 32, 61, 45, 61] := rfl
theorem lk_5 : (Str.ofString "stop ") = S [115, 116, 111, 112, 32] := rfl
theorem lk_6 : (Str.ofString "close ") = S [99, 108, 111, 115, 101, 32] := rfl
theorem lk_7 : (Str.ofString "rule ") = S [114, 117, 108, 101, 32] := rfl
theorem lk_8 : (Str.ofString " 99 left ") = S [32, 57, 57, 32, 108, 101, 102, 116, 32] := rfl
theorem lk_9 : (Str.ofString " ") = S [32] := rfl
theorem lk_10 : (Str.ofString " 0 none") = S [32, 48, 32, 110, 111, 110, 101] := rfl
theorem lk_11 : (Str.ofString "") = S [] := rfl
def goodP (n : W) (ws : List W) : Prop := ∀ st : Gs, st.nb < 24 → st.es.length < 24 → n ∉ st.es → ∃ st', rowF st ws = .ok st' ∧ st'.nb ≤ st.nb + 1 ∧ (st'.es = st.es ∨ st'.es = st.es ++ [n])
theorem gd_emp {n : W} : goodP n [[]] := fun st _ _ _ => ⟨st, by unfold rowF; rw [if_pos rfl], Nat.le_succ _, .inl rfl⟩
theorem put_ok {st : Gs} {fw : List W} (h : st.nb < 24) (hf : fw ≠ []) (e : (formF (joinWith [32] fw)).isNone = false) : formed st fw = .ok { st with nb := st.nb + 1 } := by
  unfold formed putFormF
  rw [if_neg hf, if_neg (by omega), e]; rfl
theorem gd_gap {n : W} {a : W} {r : List W} (h : noE (gapW :: a :: r) = true) (e : (formF (joinWith [32] (a :: r))).isNone = false) : goodP n (gapW :: a :: r) := fun st h1 _ _ =>
  ⟨{ st with nb := st.nb + 1 }, by rw [rf_gap h]; exact put_ok h1 (List.cons_ne_nil _ _) e, Nat.le_refl _, .inl rfl⟩
theorem gd_word {n o : W} {a : W} {r : List W} (ho : Nm o) (h : noE (a :: r) = true) (e : (formF (joinWith [32] (a :: r))).isNone = false) : goodP n (wordW :: o :: a :: r) := fun st h1 _ _ => by
  refine ⟨{ st with nb := st.nb + 1 }, ?_, Nat.le_refl _, .inl rfl⟩
  rw [rf_word (noE_cons (by decide) (noE_cons ho.nn h))]
  show (if isKF o = true then formed st (a :: r) else _) = _
  rw [if_pos ho.k]
  exact put_ok h1 (List.cons_ne_nil _ _) e
theorem gd_end {n d : W} (hn : Nm n) (h1 : d ≠ gapW) (h2 : d ≠ wordW) (h3 : deedW d = true) (h0 : d ≠ [] := by decide) : goodP n [d, n] := fun st _ he hni => by
  refine ⟨{ st with es := st.es ++ [n] }, ?_, Nat.le_succ _, .inr rfl⟩
  rw [rf_end (noE_cons h0 (noE_cons hn.nn rfl)) h1 h2 h3, if_pos]
  · rfl
  unfold putEndF
  have e1 : (st.es.any fun k => k == n) = false := Bool.eq_false_iff.mpr fun z => by
    obtain ⟨k, hk, e⟩ := List.any_eq_true.mp z
    rw [beq_iff_eq.mp e] at hk
    exact hni hk
  show (isKF n && decide ((2 : Nat) ≤ 2) && !(st.es.any fun k => k == n) && decide (st.es.length ≠ 24)) = true
  rw [hn.k, e1, decide_eq_true (show st.es.length ≠ 24 by omega)]; rfl
theorem Nm.hd {n : W} (h : Nm n) : n.take 1 ≠ [63] ∧ n.take 1 ≠ [33] := by
  have h1 := h.l1
  match n, h1 with
  | a :: r, _ =>
    have := h.az a List.mem_cons_self
    unfold azB at this
    simp only [Bool.and_eq_true, decide_eq_true_eq] at this
    simp
    omega
theorem Nm.bare {n : W} (h : Nm n) : bareF n = n := by
  unfold bareF
  rw [if_neg]
  rintro (z | z)
  · exact h.hd.1 z
  · exact h.hd.2 z
theorem gd_rule6 {n o : W} (hn : Nm n) (ho : Nm o) : goodP n [ruleW, o, [57, 57], [108, 101, 102, 116], n, o] := fun st _ _ _ => by
  have hnb : noteB [n, o] = true := by
    unfold noteB placesF placesF placesF
    rw [if_neg hn.hd.1, if_neg ho.hd.1, if_neg hn.hd.2, if_neg ho.hd.2]; rfl
  have hrb : ruleB [ruleW, o, [57, 57], [108, 101, 102, 116], n, o] = true := by
    unfold ruleB
    show (true && isKF o && rankB [57, 57] && sideW [108, 101, 102, 116] && ([bareF n, bareF o] : List W).all isKF) = true
    rw [hn.bare, ho.bare, ho.k, show rankB [57, 57] = true by decide, show sideW [108, 101, 102, 116] = true by decide +kernel]
    simp [hn.k, ho.k]
  have e := rf_rule (st := st) (r := [o, [57, 57], [108, 101, 102, 116], n, o]) (noE_cons (by decide) (noE_cons ho.nn (noE_cons (by decide) (noE_cons (by decide) (noE_cons hn.nn (noE_cons ho.nn rfl))))))
  rw [if_pos hrb, if_pos (show noteB (List.drop 4 [ruleW, o, [57, 57], [108, 101, 102, 116], n, o]) = true from hnb)] at e
  exact ⟨_, e, Nat.le_succ _, .inl rfl⟩
theorem gd_rule7 {n : W} (hn : Nm n) : goodP n [ruleW, n, [48], [110, 111, 110, 101]] := fun st _ _ _ => by
  have hrb : ruleB [ruleW, n, [48], [110, 111, 110, 101]] = true := by
    unfold ruleB
    show (true && isKF n && rankB [48] && sideW [110, 111, 110, 101] && ([] : List W).all isKF) = true
    rw [hn.k, show rankB [48] = true by decide, show sideW [110, 111, 110, 101] = true by decide +kernel]; rfl
  have e := rf_rule (st := st) (r := [n, [48], [110, 111, 110, 101]]) (noE_cons (by decide) (noE_cons hn.nn (noE_cons (by decide) (noE_cons (by decide) rfl))))
  rw [if_pos hrb, if_pos (show noteB (List.drop 4 [ruleW, n, [48], [110, 111, 110, 101]]) = true from rfl)] at e
  exact ⟨_, e, Nat.le_succ _, .inl rfl⟩
theorem dec_plainL {l : W} (h : 126 ∉ l) : dec l = some l := by
  have e : splitOn 126 l = [l] := by
    have := splitOn_join (c := 126) (ps := [l]) (by simp) fun p hp => by rw [List.mem_singleton.mp hp]; exact h
    exact this
  unfold dec
  rw [e]
  show (decGo []).map (l ++ ·) = some l
  simp [decGo]
theorem Nm.no {n : W} (h : Nm n) {c : Nat} (hc : azB c = false) : c ∉ n := fun z => by rw [h.az c z] at hc; cases hc
theorem gd_form {n : W} (hn : Nm n) : (formF (joinWith [32] [[61, 46, 60], [61, 45, 61] ++ n])).isNone = false := by
  have hl2 := hn.l2
  have e0 : joinWith [32] [[61, 46, 60], [61, 45, 61] ++ n] = 61 :: 46 :: 60 :: 32 :: 61 :: 45 :: 61 :: n := rfl
  have es : splitOn 32 (joinWith [32] [[61, 46, 60], [61, 45, 61] ++ n]) = [[61, 46, 60], [61, 45, 61] ++ n] := splitOn_join (by simp) fun p hp => by
    rcases List.mem_cons.mp hp with z | z
    · rw [z]; decide
    · rw [List.mem_singleton.mp z]
      intro y
      rcases List.mem_append.mp y with y | y
      · exact absurd y (by decide)
      · exact hn.no (by decide) y
  have ea : (joinWith [32] [[61, 46, 60], [61, 45, 61] ++ n]).all wrB = true := by
    rw [e0]
    show (wrB 61 && (wrB 46 && (wrB 60 && (wrB 32 && (wrB 61 && (wrB 45 && (wrB 61 && n.all wrB))))))) = true
    have : n.all wrB = true := List.all_eq_true.mpr fun c hc => by
      have := hn.az c hc
      unfold azB at this
      unfold wrB
      simp only [Bool.and_eq_true, decide_eq_true_eq] at this ⊢
      omega
    rw [this]; decide
  have ed : dec (61 :: n) = some (61 :: n) := dec_plainL fun z => by
    rcases List.mem_cons.mp z with y | y
    · cases y
    · exact hn.no (by decide) y
  unfold formF
  rw [if_pos ea, es, if_pos (show [[61, 46, 60], [61, 45, 61] ++ n].length ≤ 12 from (show (2 : Nat) ≤ 12 by decide))]
  show (match partF [61, 46, 60] with | none => none | some p => (partsF [[61, 45, 61] ++ n]).map (p :: ·)).isNone = false
  have p2 : partF ([61, 45, 61] ++ n) = some ⟨2, 5, 61 :: n⟩ := by
    show (match dec (61 :: n) with | none => none | some l => if 1 ≤ l.length ∧ l.length ≤ 100 then some (⟨2, 5, l⟩ : Prt) else none) = _
    rw [ed]
    show (if 1 ≤ (61 :: n).length ∧ (61 :: n).length ≤ 100 then some (⟨2, 5, 61 :: n⟩ : Prt) else none) = _
    rw [if_pos (by rw [List.length_cons]; omega)]
  have p1 : partF [61, 46, 60] = some ⟨2, 0, [60]⟩ := rfl
  rw [p1]
  show ((partsF [[61, 45, 61] ++ n]).map (_ :: ·)).isNone = false
  unfold partsF
  rw [p2]
  rfl

theorem gd_0 {n o : W} (hn : Nm n) (ho : Nm o) : El (goodP n) (Str.ofString "gap @+~b~n") :=
  ⟨[[103, 97, 112], [64, 43, 126, 98, 126, 110]], rfl, ⟨by simp, by simp, (Ro.cons (by decide) (Ro.cons (by decide) Ro.nil))⟩, gd_gap (by decide) (by decide +kernel)⟩
theorem gd_1 {n o : W} (hn : Nm n) (ho : Nm o) : El (goodP n) (Str.ofString "gap =.# ^*~n") :=
  ⟨[[103, 97, 112], [61, 46, 35], [94, 42, 126, 110]], rfl, ⟨by simp, by simp, (Ro.cons (by decide) (Ro.cons (by decide) (Ro.cons (by decide) Ro.nil)))⟩, gd_gap (by decide) (by decide +kernel)⟩
theorem gd_2 {n o : W} (hn : Nm n) (ho : Nm o) : El (goodP n) (((Str.ofString "word ") ++ (S o)) ++ (Str.ofString " @.~a @*~a~0")) :=
  ⟨[[119, 111, 114, 100], o, [64, 46, 126, 97], [64, 42, 126, 97, 126, 48]], by (simp only [lk_0, lk_1, lk_2, lk_3, lk_4, lk_5, lk_6, lk_7, lk_8, lk_9, lk_10, lk_11, S_app]; exact congrArg S (by simp [joinWith])), ⟨by simp, by simp, (Ro.cons (by decide) (Ro.cons ho.wd (Ro.cons (by decide) (Ro.cons (by decide) Ro.nil))))⟩, gd_word ho (by decide) (by decide +kernel)⟩
theorem gd_3 {n o : W} (hn : Nm n) (ho : Nm o) : El (goodP n) ((((Str.ofString "word ") ++ (S o)) ++ (Str.ofString " =.< =-=")) ++ (S n)) :=
  ⟨[[119, 111, 114, 100], o, [61, 46, 60], ([61, 45, 61] ++ n)], by (simp only [lk_0, lk_1, lk_2, lk_3, lk_4, lk_5, lk_6, lk_7, lk_8, lk_9, lk_10, lk_11, S_app]; exact congrArg S (by simp [joinWith])), ⟨by simp, by simp, (Ro.cons (by decide) (Ro.cons ho.wd (Ro.cons (by decide) (Ro.cons (wd_pre hn (by decide)) Ro.nil))))⟩, gd_word ho rfl (gd_form hn)⟩
theorem gd_4 {n o : W} (hn : Nm n) (ho : Nm o) : El (goodP n) ((Str.ofString "stop ") ++ (S n)) :=
  ⟨[[115, 116, 111, 112], n], by (simp only [lk_0, lk_1, lk_2, lk_3, lk_4, lk_5, lk_6, lk_7, lk_8, lk_9, lk_10, lk_11, S_app]; exact congrArg S (by simp [joinWith])), ⟨by simp, by simp, (Ro.cons (by decide) (Ro.cons hn.wd Ro.nil))⟩, gd_end hn (by decide) (by decide) (by decide +kernel)⟩
theorem gd_5 {n o : W} (hn : Nm n) (ho : Nm o) : El (goodP n) ((Str.ofString "close ") ++ (S n)) :=
  ⟨[[99, 108, 111, 115, 101], n], by (simp only [lk_0, lk_1, lk_2, lk_3, lk_4, lk_5, lk_6, lk_7, lk_8, lk_9, lk_10, lk_11, S_app]; exact congrArg S (by simp [joinWith])), ⟨by simp, by simp, (Ro.cons (by decide) (Ro.cons hn.wd Ro.nil))⟩, gd_end hn (by decide) (by decide) (by decide +kernel)⟩
theorem gd_6 {n o : W} (hn : Nm n) (ho : Nm o) : El (goodP n) ((((((Str.ofString "rule ") ++ (S o)) ++ (Str.ofString " 99 left ")) ++ (S n)) ++ (Str.ofString " ")) ++ (S o)) :=
  ⟨[[114, 117, 108, 101], o, [57, 57], [108, 101, 102, 116], n, o], by (simp only [lk_0, lk_1, lk_2, lk_3, lk_4, lk_5, lk_6, lk_7, lk_8, lk_9, lk_10, lk_11, S_app]; exact congrArg S (by simp [joinWith])), ⟨by simp, by simp, (Ro.cons (by decide) (Ro.cons ho.wd (Ro.cons (by decide) (Ro.cons (by decide) (Ro.cons hn.wd (Ro.cons ho.wd Ro.nil))))))⟩, gd_rule6 hn ho⟩
theorem gd_7 {n o : W} (hn : Nm n) (ho : Nm o) : El (goodP n) (((Str.ofString "rule ") ++ (S n)) ++ (Str.ofString " 0 none")) :=
  ⟨[[114, 117, 108, 101], n, [48], [110, 111, 110, 101]], by (simp only [lk_0, lk_1, lk_2, lk_3, lk_4, lk_5, lk_6, lk_7, lk_8, lk_9, lk_10, lk_11, S_app]; exact congrArg S (by simp [joinWith])), ⟨by simp, by simp, (Ro.cons (by decide) (Ro.cons hn.wd (Ro.cons (by decide) (Ro.cons (by decide) Ro.nil))))⟩, gd_rule7 hn⟩
theorem gd_8 {n o : W} (hn : Nm n) (ho : Nm o) : El (goodP n) (Str.ofString "") :=
  ⟨[[]], rfl, ⟨by simp, by simp, (Ro.cons (by decide) Ro.nil)⟩, gd_emp⟩
section
variable {P : Program} {w : World} {K : PySem.W.Frag} {mg : Str → Option Value} {base : Heap} {aN aD aS CR CF : Addr}
def spGood (K : PySem.W.Frag) : Sp := fun vs H Q _ => ∃ (c c0 : Int) (l : Addr) (k : Nat), vs = [.int c, .ref l, .int (k : Nat)] ∧ k < 26 ∧ SqL K H l (nm26 c0) ∧ ∀ H' x, Same H H' → El (goodP (nameL c0 k)) x → Q (.str x) H'
abbrev st__law_good : Stmt := top 41
theorem sc__law_good : FnScope ["_law_cell", "_law_names_here", "_law_k", "_law_one", "_law_other", "_law_some"] ["_law_cell", "_law_names_here", "_law_k"] (defScope st__law_good) := ⟨rfl, rfl, rfl, by decide +kernel, rfl, by decide +kernel, by decide +kernel⟩
theorem def_good (R : Raw K mg "_law_good" st__law_good ["_law_cell", "_law_names_here", "_law_k"]) : Def P w K mg base 1 "_law_good" ["_law_cell", "_law_names_here", "_law_k"] (spGood K) := by
  refine R.defJ sc__law_good (fun vs H Q E h => ?_) (fun f cdv A outer s H vs Q E hr h => ?_)
  · obtain ⟨c, c0, l, k, rfl, _⟩ := h
    rfl
  · obtain ⟨c, c0, l, k, rfl, hk, hS, q⟩ := h
    have sc := sc__law_good
    have hu := hr.units
    have hb := big
    refine ⟨_, (jss_cons (js_set (i := 3) sc.nd rfl (Or.inl rfl) (j_ix (o_ix hu (K := K) (w := w)) (jn 1) (jn 2)))
    (jss_cons (js_set (i := 4) sc.nd rfl (Or.inl rfl) (j_ix (o_ix hu (K := K) (w := w)) (jn 1) (j_op o_mod (j_op o_div (jn 0) j_int) j_int)))
    (jss_cons (js_set (i := 5) sc.nd rfl (Or.inl rfl) (j_lst (ja_cons j_str (ja_cons j_str (ja_cons (j_op (o_add (K := K)) (j_op (o_add (K := K)) j_str (jn 4)) j_str) (ja_cons (j_op (o_add (K := K)) (j_op (o_add (K := K)) (j_op (o_add (K := K)) j_str (jn 4)) j_str) (jn 3)) ja_nil))))))
    (jss_cons (js_set (i := 5) sc.nd rfl (Or.inl rfl) (j_op (o_add (K := K)) (jn 5) (j_lst (ja_cons (j_op (o_add (K := K)) j_str (jn 3)) (ja_cons (j_op (o_add (K := K)) j_str (jn 3)) (ja_cons (j_op (o_add (K := K)) (j_op (o_add (K := K)) (j_op (o_add (K := K)) (j_op (o_add (K := K)) (j_op (o_add (K := K)) j_str (jn 4)) j_str) (jn 3)) j_str) (jn 4)) ja_nil))))))
    (jss_cons (js_set (i := 5) sc.nd rfl (Or.inl rfl) (j_op (o_add (K := K)) (jn 5) (j_lst (ja_cons (j_op (o_add (K := K)) (j_op (o_add (K := K)) j_str (jn 3)) j_str) (ja_cons j_str ja_nil)))))
    (jss_one (js_ret (j_ix (o_ix hu (K := K) (w := w)) (jn 5) (j_op o_mod (jn 0) j_int))))))))), ?_⟩
    have ek := at26 c0 ((k : Nat) : Int) (by omega) (by omega)
    rw [Int.toNat_natCast] at ek
    refine .inl ⟨_, _, hS, ek, ?_⟩
    refine ⟨⟨by decide, by decide⟩, by decide, .inl ⟨_, _, hS, at26 c0 (c / 8 % 26) (by omega) (by omega), ?_⟩⟩
    have hn := nm_ok c0 k hk
    have ho := nm_ok c0 (c / 8 % 26).toNat (by omega)
    generalize nameL c0 (c / 8 % 26).toNat = o at ho
    generalize nameL c0 k = n at hn q
    have hl1 := hn.l1
    have hl2 := hn.l2
    have ho2 := ho.l2
    refine ⟨by (simp only [strLen_append, S_len, ll_0, ll_1, ll_2, ll_3, ll_4, ll_5, ll_6, ll_7, ll_8, ll_9, ll_10, ll_11, ll_12, ll_13, ll_14, ll_15, ll_16, ll_17, ll_18, ll_19, ll_20, ll_21, ll_22, ll_23, ll_24, ll_25, ll_26, ll_27, ll_28, ll_29, ll_30, ll_31, ll_32, ll_33, ll_34, ll_35, ll_36, ll_37, ll_38, ll_39, ll_40, ll_41, ll_42, ll_43, ll_44, ll_45, ll_46, ll_47, ll_48, ll_49, ll_50, ll_51, ll_52, ll_53, ll_54, ll_55, ll_56, ll_57, ll_58, ll_59, ll_60, ll_61, ll_62, ll_63, ll_64, ll_65, ll_66, ll_67, ll_68]; omega), by (simp only [strLen_append, S_len, ll_0, ll_1, ll_2, ll_3, ll_4, ll_5, ll_6, ll_7, ll_8, ll_9, ll_10, ll_11, ll_12, ll_13, ll_14, ll_15, ll_16, ll_17, ll_18, ll_19, ll_20, ll_21, ll_22, ll_23, ll_24, ll_25, ll_26, ll_27, ll_28, ll_29, ll_30, ll_31, ll_32, ll_33, ll_34, ll_35, ll_36, ll_37, ll_38, ll_39, ll_40, ll_41, ll_42, ll_43, ll_44, ll_45, ll_46, ll_47, ll_48, ll_49, ll_50, ll_51, ll_52, ll_53, ll_54, ll_55, ll_56, ll_57, ll_58, ll_59, ll_60, ll_61, ll_62, ll_63, ll_64, ll_65, ll_66, ll_67, ll_68]; omega), by (simp only [strLen_append, S_len, ll_0, ll_1, ll_2, ll_3, ll_4, ll_5, ll_6, ll_7, ll_8, ll_9, ll_10, ll_11, ll_12, ll_13, ll_14, ll_15, ll_16, ll_17, ll_18, ll_19, ll_20, ll_21, ll_22, ll_23, ll_24, ll_25, ll_26, ll_27, ll_28, ll_29, ll_30, ll_31, ll_32, ll_33, ll_34, ll_35, ll_36, ll_37, ll_38, ll_39, ll_40, ll_41, ll_42, ll_43, ll_44, ll_45, ll_46, ll_47, ll_48, ll_49, ll_50, ll_51, ll_52, ll_53, ll_54, ll_55, ll_56, ll_57, ll_58, ll_59, ll_60, ll_61, ll_62, ll_63, ll_64, ll_65, ll_66, ll_67, ll_68]; omega), by (simp only [strLen_append, S_len, ll_0, ll_1, ll_2, ll_3, ll_4, ll_5, ll_6, ll_7, ll_8, ll_9, ll_10, ll_11, ll_12, ll_13, ll_14, ll_15, ll_16, ll_17, ll_18, ll_19, ll_20, ll_21, ll_22, ll_23, ll_24, ll_25, ll_26, ll_27, ll_28, ll_29, ll_30, ll_31, ll_32, ll_33, ll_34, ll_35, ll_36, ll_37, ll_38, ll_39, ll_40, ll_41, ll_42, ll_43, ll_44, ll_45, ll_46, ll_47, ll_48, ll_49, ll_50, ll_51, ll_52, ll_53, ll_54, ll_55, ll_56, ll_57, ll_58, ll_59, ll_60, ll_61, ll_62, ll_63, ll_64, ll_65, ll_66, ll_67, ll_68]; omega), by (simp only [strLen_append, S_len, ll_0, ll_1, ll_2, ll_3, ll_4, ll_5, ll_6, ll_7, ll_8, ll_9, ll_10, ll_11, ll_12, ll_13, ll_14, ll_15, ll_16, ll_17, ll_18, ll_19, ll_20, ll_21, ll_22, ll_23, ll_24, ll_25, ll_26, ll_27, ll_28, ll_29, ll_30, ll_31, ll_32, ll_33, ll_34, ll_35, ll_36, ll_37, ll_38, ll_39, ll_40, ll_41, ll_42, ll_43, ll_44, ll_45, ll_46, ll_47, ll_48, ll_49, ll_50, ll_51, ll_52, ll_53, ll_54, ll_55, ll_56, ll_57, ll_58, ll_59, ll_60, ll_61, ll_62, ll_63, ll_64, ll_65, ll_66, ll_67, ll_68]; omega), (show 4 ≤ sizeLine by decide), fun p0 hp0 => ?_⟩
    refine ⟨by (simp only [strLen_append, S_len, ll_0, ll_1, ll_2, ll_3, ll_4, ll_5, ll_6, ll_7, ll_8, ll_9, ll_10, ll_11, ll_12, ll_13, ll_14, ll_15, ll_16, ll_17, ll_18, ll_19, ll_20, ll_21, ll_22, ll_23, ll_24, ll_25, ll_26, ll_27, ll_28, ll_29, ll_30, ll_31, ll_32, ll_33, ll_34, ll_35, ll_36, ll_37, ll_38, ll_39, ll_40, ll_41, ll_42, ll_43, ll_44, ll_45, ll_46, ll_47, ll_48, ll_49, ll_50, ll_51, ll_52, ll_53, ll_54, ll_55, ll_56, ll_57, ll_58, ll_59, ll_60, ll_61, ll_62, ll_63, ll_64, ll_65, ll_66, ll_67, ll_68]; omega), by (simp only [strLen_append, S_len, ll_0, ll_1, ll_2, ll_3, ll_4, ll_5, ll_6, ll_7, ll_8, ll_9, ll_10, ll_11, ll_12, ll_13, ll_14, ll_15, ll_16, ll_17, ll_18, ll_19, ll_20, ll_21, ll_22, ll_23, ll_24, ll_25, ll_26, ll_27, ll_28, ll_29, ll_30, ll_31, ll_32, ll_33, ll_34, ll_35, ll_36, ll_37, ll_38, ll_39, ll_40, ll_41, ll_42, ll_43, ll_44, ll_45, ll_46, ll_47, ll_48, ll_49, ll_50, ll_51, ll_52, ll_53, ll_54, ll_55, ll_56, ll_57, ll_58, ll_59, ll_60, ll_61, ll_62, ll_63, ll_64, ll_65, ll_66, ll_67, ll_68]; omega), by (simp only [strLen_append, S_len, ll_0, ll_1, ll_2, ll_3, ll_4, ll_5, ll_6, ll_7, ll_8, ll_9, ll_10, ll_11, ll_12, ll_13, ll_14, ll_15, ll_16, ll_17, ll_18, ll_19, ll_20, ll_21, ll_22, ll_23, ll_24, ll_25, ll_26, ll_27, ll_28, ll_29, ll_30, ll_31, ll_32, ll_33, ll_34, ll_35, ll_36, ll_37, ll_38, ll_39, ll_40, ll_41, ll_42, ll_43, ll_44, ll_45, ll_46, ll_47, ll_48, ll_49, ll_50, ll_51, ll_52, ll_53, ll_54, ll_55, ll_56, ll_57, ll_58, ll_59, ll_60, ll_61, ll_62, ll_63, ll_64, ll_65, ll_66, ll_67, ll_68]; omega), by (simp only [strLen_append, S_len, ll_0, ll_1, ll_2, ll_3, ll_4, ll_5, ll_6, ll_7, ll_8, ll_9, ll_10, ll_11, ll_12, ll_13, ll_14, ll_15, ll_16, ll_17, ll_18, ll_19, ll_20, ll_21, ll_22, ll_23, ll_24, ll_25, ll_26, ll_27, ll_28, ll_29, ll_30, ll_31, ll_32, ll_33, ll_34, ll_35, ll_36, ll_37, ll_38, ll_39, ll_40, ll_41, ll_42, ll_43, ll_44, ll_45, ll_46, ll_47, ll_48, ll_49, ll_50, ll_51, ll_52, ll_53, ll_54, ll_55, ll_56, ll_57, ll_58, ll_59, ll_60, ll_61, ll_62, ll_63, ll_64, ll_65, ll_66, ll_67, ll_68]; omega), by (simp only [strLen_append, S_len, ll_0, ll_1, ll_2, ll_3, ll_4, ll_5, ll_6, ll_7, ll_8, ll_9, ll_10, ll_11, ll_12, ll_13, ll_14, ll_15, ll_16, ll_17, ll_18, ll_19, ll_20, ll_21, ll_22, ll_23, ll_24, ll_25, ll_26, ll_27, ll_28, ll_29, ll_30, ll_31, ll_32, ll_33, ll_34, ll_35, ll_36, ll_37, ll_38, ll_39, ll_40, ll_41, ll_42, ll_43, ll_44, ll_45, ll_46, ll_47, ll_48, ll_49, ll_50, ll_51, ll_52, ll_53, ll_54, ll_55, ll_56, ll_57, ll_58, ll_59, ll_60, ll_61, ll_62, ll_63, ll_64, ll_65, ll_66, ll_67, ll_68]; omega), by (simp only [strLen_append, S_len, ll_0, ll_1, ll_2, ll_3, ll_4, ll_5, ll_6, ll_7, ll_8, ll_9, ll_10, ll_11, ll_12, ll_13, ll_14, ll_15, ll_16, ll_17, ll_18, ll_19, ll_20, ll_21, ll_22, ll_23, ll_24, ll_25, ll_26, ll_27, ll_28, ll_29, ll_30, ll_31, ll_32, ll_33, ll_34, ll_35, ll_36, ll_37, ll_38, ll_39, ll_40, ll_41, ll_42, ll_43, ll_44, ll_45, ll_46, ll_47, ll_48, ll_49, ll_50, ll_51, ll_52, ll_53, ll_54, ll_55, ll_56, ll_57, ll_58, ll_59, ll_60, ll_61, ll_62, ll_63, ll_64, ll_65, ll_66, ll_67, ll_68]; omega), by (simp only [strLen_append, S_len, ll_0, ll_1, ll_2, ll_3, ll_4, ll_5, ll_6, ll_7, ll_8, ll_9, ll_10, ll_11, ll_12, ll_13, ll_14, ll_15, ll_16, ll_17, ll_18, ll_19, ll_20, ll_21, ll_22, ll_23, ll_24, ll_25, ll_26, ll_27, ll_28, ll_29, ll_30, ll_31, ll_32, ll_33, ll_34, ll_35, ll_36, ll_37, ll_38, ll_39, ll_40, ll_41, ll_42, ll_43, ll_44, ll_45, ll_46, ll_47, ll_48, ll_49, ll_50, ll_51, ll_52, ll_53, ll_54, ll_55, ll_56, ll_57, ll_58, ll_59, ll_60, ll_61, ll_62, ll_63, ll_64, ll_65, ll_66, ll_67, ll_68]; omega), (show 3 ≤ sizeLine by decide), fun p4 hp4 => .inl ⟨_, _, same_new hp4 _ _ upd_same, upd_same, (show 7 ≤ sizeLine by decide), fun q4 hq4 => ?_⟩⟩
    refine ⟨by (simp only [strLen_append, S_len, ll_0, ll_1, ll_2, ll_3, ll_4, ll_5, ll_6, ll_7, ll_8, ll_9, ll_10, ll_11, ll_12, ll_13, ll_14, ll_15, ll_16, ll_17, ll_18, ll_19, ll_20, ll_21, ll_22, ll_23, ll_24, ll_25, ll_26, ll_27, ll_28, ll_29, ll_30, ll_31, ll_32, ll_33, ll_34, ll_35, ll_36, ll_37, ll_38, ll_39, ll_40, ll_41, ll_42, ll_43, ll_44, ll_45, ll_46, ll_47, ll_48, ll_49, ll_50, ll_51, ll_52, ll_53, ll_54, ll_55, ll_56, ll_57, ll_58, ll_59, ll_60, ll_61, ll_62, ll_63, ll_64, ll_65, ll_66, ll_67, ll_68]; omega), by (simp only [strLen_append, S_len, ll_0, ll_1, ll_2, ll_3, ll_4, ll_5, ll_6, ll_7, ll_8, ll_9, ll_10, ll_11, ll_12, ll_13, ll_14, ll_15, ll_16, ll_17, ll_18, ll_19, ll_20, ll_21, ll_22, ll_23, ll_24, ll_25, ll_26, ll_27, ll_28, ll_29, ll_30, ll_31, ll_32, ll_33, ll_34, ll_35, ll_36, ll_37, ll_38, ll_39, ll_40, ll_41, ll_42, ll_43, ll_44, ll_45, ll_46, ll_47, ll_48, ll_49, ll_50, ll_51, ll_52, ll_53, ll_54, ll_55, ll_56, ll_57, ll_58, ll_59, ll_60, ll_61, ll_62, ll_63, ll_64, ll_65, ll_66, ll_67, ll_68]; omega), (show 2 ≤ sizeLine by decide), fun p7 hp7 => .inl ⟨_, _, same_new hp7 _ _ upd_same, upd_same, (show 9 ≤ sizeLine by decide), fun q7 hq7 => ?_⟩⟩
    obtain ⟨x, hx, hel⟩ := Ls.at (Ls.app (Ls.app (Ls.cons (gd_0 hn ho) (Ls.cons (gd_1 hn ho) (Ls.cons (gd_2 hn ho) (Ls.cons (gd_3 hn ho) Ls.nil)))) (Ls.cons (gd_4 hn ho) (Ls.cons (gd_5 hn ho) (Ls.cons (gd_6 hn ho) Ls.nil)))) (Ls.cons (gd_7 hn ho) (Ls.cons (gd_8 hn ho) Ls.nil))) (c % 9) (by omega) (by omega)
    exact ⟨by decide, .inl ⟨_, _, SqL.of upd_same, hx, q _ x (((((same_new hp0).trans (same_new hp4)).trans (same_new hq4)).trans (same_new hp7)).trans (same_new hq7)) hel⟩⟩
end
end K81

set_option Elab.async false
set_option linter.all false
set_option maxRecDepth 100000
set_option maxHeartbeats 4000000



--@RAISES but law
namespace K81
open PySem PySem.Spec PyProof.Rows L2 Rg
abbrev Rw := Nat × List W
def AllG (c0 : Int) : Nat → List Rw → Prop
  | _, [] => True
  | i, r :: rest => r.1 = 0 ∧ goodP (nameL c0 i) r.2 ∧ AllG c0 (i + 1) rest
def FirstG (c0 : Int) : Nat → List Rw → Prop
  | _, [] => True
  | i, r :: rest => badP r.1 r.2 ∨ (r.1 = 0 ∧ goodP (nameL c0 i) r.2 ∧ FirstG c0 (i + 1) rest)
theorem AllG.first {c0 : Int} : ∀ {rs : List Rw} {i : Nat}, AllG c0 i rs → FirstG c0 i rs
  | [], _, _ => trivial
  | r :: rest, i, h => .inr ⟨h.1, h.2.1, h.2.2.first⟩
theorem AllG.snoc {c0 : Int} {ws : List W} : ∀ {rs : List Rw} {i : Nat}, AllG c0 i rs → goodP (nameL c0 (i + rs.length)) ws → AllG c0 i (rs ++ [(0, ws)])
  | [], i, _, g => ⟨rfl, g, trivial⟩
  | r :: rest, i, h, g => ⟨h.1, h.2.1, AllG.snoc h.2.2 (by rw [show i + 1 + rest.length = i + (r :: rest).length by rw [List.length_cons]; omega]; exact g)⟩
theorem FirstG.ins {c0 : Int} {b : Rw} (hb : badP b.1 b.2) : ∀ {rs : List Rw} {i : Nat} (k : Nat), FirstG c0 i rs → FirstG c0 i (rs.take k ++ b :: rs.drop k)
  | rs, i, 0, _ => .inl hb
  | [], i, k + 1, _ => .inl hb
  | r :: rest, i, k + 1, h => by
    rcases h with h | ⟨h1, h2, h3⟩
    · exact .inl h
    · exact .inr ⟨h1, h2, FirstG.ins hb k h3⟩
structure StG (c0 : Int) (i : Nat) (st : Gs) : Prop where
  nb : st.nb ≤ i
  es : st.es.length ≤ i
  nm : ∀ n ∈ st.es, ∃ j, j < i ∧ n = nameL c0 j
  rn : st.rs.length = st.ns.length
theorem StG.zero (c0 : Int) : StG c0 0 ⟨0, [], [], []⟩ := ⟨Nat.le_refl _, Nat.le_refl _, (fun n h => by cases h), rfl⟩
theorem rowF_rn {st st' : Gs} {ws : List W} (h : rowF st ws = .ok st') (e : st.rs.length = st.ns.length) : st'.rs.length = st'.ns.length := by
  have fm : ∀ {fw : List W}, formed st fw = .ok st' → st'.rs.length = st'.ns.length := fun {fw} h => by
    unfold formed at h
    cases e2 : putFormF st.nb fw with
    | some c => rw [e2] at h; cases h
    | none => rw [e2] at h; cases h; exact e
  unfold rowF at h
  by_cases h0 : ws = [[]]
  · rw [if_pos h0] at h; cases h; exact e
  rw [if_neg h0] at h
  by_cases h1 : (ws.any fun t => t == []) = true
  · rw [if_pos h1] at h; cases h
  rw [if_neg h1] at h
  by_cases h2 : ws.getD 0 [] = gapW
  · rw [if_pos h2] at h; exact fm h
  rw [if_neg h2] at h
  by_cases h3 : ws.getD 0 [] = wordW
  · rw [if_pos h3] at h
    by_cases h4 : isKF (ws.getD 1 []) = true
    · rw [if_pos h4] at h; exact fm h
    · rw [if_neg h4] at h; cases h
  rw [if_neg h3] at h
  by_cases h5 : deedW (ws.getD 0 []) = true
  · rw [if_pos h5] at h
    by_cases h4 : putEndF st.es ws = true
    · rw [if_pos h4] at h; cases h; exact e
    · rw [if_neg h4] at h; cases h
  rw [if_neg h5] at h
  by_cases h6 : ws.getD 0 [] = ruleW
  · rw [if_pos h6] at h
    by_cases h7 : ruleB ws = true
    · rw [if_pos h7] at h
      by_cases h8 : noteB (ws.drop 4) = true
      · rw [if_pos h8] at h; cases h
        show (st.rs ++ [_]).length = (st.ns ++ [_]).length
        rw [List.length_append, List.length_append, e]; rfl
      · rw [if_neg h8] at h; cases h
    · rw [if_neg h7] at h; cases h
  · rw [if_neg h6] at h; cases h
theorem StG.step {c0 : Int} {i : Nat} {st : Gs} (h : StG c0 i st) (hi : i < 24) {ws : List W} (g : goodP (nameL c0 i) ws) : ∃ st', rowF st ws = .ok st' ∧ StG c0 (i + 1) st' := by
  have hnb := h.nb
  have hes := h.es
  obtain ⟨st', e, h1, h2⟩ := g st (by omega) (by omega) fun z => by
    obtain ⟨j, hj, ej⟩ := h.nm _ z
    have := nameL_inj (by omega) (by omega) ej
    omega
  refine ⟨st', e, by omega, ?_, ?_, rowF_rn e h.rn⟩
  · rcases h2 with z | z
    · rw [z]; omega
    · rw [z, List.length_append, List.length_singleton]; omega
  · intro n hn
    rcases h2 with z | z
    · rw [z] at hn
      obtain ⟨j, hj, ej⟩ := h.nm _ hn
      exact ⟨j, by omega, ej⟩
    · rw [z] at hn
      rcases List.mem_append.mp hn with y | y
      · obtain ⟨j, hj, ej⟩ := h.nm _ y
        exact ⟨j, by omega, ej⟩
      · exact ⟨i, by omega, List.mem_singleton.mp y⟩
def dueF (rs : List Rw) : Nat := ((rs.filter fun (r : Rw) => decide (0 < r.1)).map Prod.fst ++ [1]).headD 0
def Verd (st : Gs) (rs : List Rw) : Prop := ∃ c : Cl, gramF st (rs.map Prod.snd) = some c ∧ clN c = ((dueF rs : Nat) : Int)
theorem due_zero {r : Rw} {rest : List Rw} (h : r.1 = 0) : dueF (r :: rest) = dueF rest := by
  unfold dueF
  rw [List.filter_cons_of_neg (by rw [h]; decide)]
theorem due_pos {r : Rw} {rest : List Rw} (h : 0 < r.1) : dueF (r :: rest) = r.1 := by
  unfold dueF
  rw [List.filter_cons_of_pos (by simpa using h)]; rfl
theorem Verd.good {st st' : Gs} {r : Rw} {rest : List Rw} (h : r.1 = 0) (e : rowF st r.2 = .ok st') (v : Verd st' rest) : Verd st (r :: rest) := by
  obtain ⟨c, h1, h2⟩ := v
  refine ⟨c, ?_, by rw [due_zero h]; exact h2⟩
  rw [List.map_cons]
  unfold gramF
  rw [e]; exact h1
theorem Verd.bad {st : Gs} {r : Rw} {rest : List Rw} {c : Cl} (h : clN c = ((r.1 : Nat) : Int)) (e : rowF st r.2 = .error c) : Verd st (r :: rest) := by
  refine ⟨c, ?_, ?_⟩
  · rw [List.map_cons]
    unfold gramF
    rw [e]
  · rw [due_pos (by cases c <;> (unfold clN at h; simp only at h; omega))]; exact h
theorem FirstG.verd {c0 : Int} : ∀ {rs : List Rw} {i : Nat} {st : Gs}, FirstG c0 i rs → StG c0 i st → i + rs.length ≤ 24 → (∃ r ∈ rs, badP r.1 r.2) → Verd st rs
  | [], i, st, _, _, _, h => by obtain ⟨r, hr, _⟩ := h; cases hr
  | r :: rest, i, st, h, hs, hl, hx => by
    have hnb := hs.nb
    rw [List.length_cons] at hl
    rcases h with h | ⟨h1, h2, h3⟩
    · rcases h with ⟨e, h⟩ | ⟨e, h⟩
      · exact Verd.bad (c := .nr) (by rw [e]; rfl) (h st)
      · exact Verd.bad (c := .nf) (by rw [e]; rfl) (h st (by omega))
    · obtain ⟨st', e, hs'⟩ := hs.step (by omega) h2
      refine Verd.good h1 e (FirstG.verd h3 hs' (by omega) ?_)
      obtain ⟨r', hr', hb⟩ := hx
      rcases List.mem_cons.mp hr' with z | z
      · rw [z] at hb
        rcases hb with ⟨y, _⟩ | ⟨y, _⟩ <;> omega
      · exact ⟨r', z, hb⟩
theorem AllG.verd {c0 : Int} {tl : List Rw} : ∀ {rs : List Rw} {i : Nat} {st : Gs}, AllG c0 i rs → StG c0 i st → i + rs.length ≤ 24 → (∀ st', StG c0 (i + rs.length) st' → Verd st' tl) → Verd st (rs ++ tl)
  | [], i, st, _, hs, _, k => k st hs
  | r :: rest, i, st, h, hs, hl, k => by
    rw [List.length_cons] at hl
    obtain ⟨st', e, hs'⟩ := hs.step (by omega) h.2.1
    exact Verd.good h.1 e (AllG.verd h.2.2 hs' (by omega) fun st2 h2 => k st2 (by rw [List.length_cons, show i + (rest.length + 1) = i + 1 + rest.length by omega]; exact h2))
theorem Nm.end_ok {n d : W} (hn : Nm n) (h1 : d ≠ gapW) (h2 : d ≠ wordW) (h3 : deedW d = true) (h0 : d ≠ []) {st : Gs} (he : st.es.length < 24) (hni : n ∉ st.es) : rowF st [d, n] = .ok { st with es := st.es ++ [n] } := by
  rw [rf_end (noE_cons h0 (noE_cons hn.nn rfl)) h1 h2 h3, if_pos]
  · rfl
  unfold putEndF
  have e1 : (st.es.any fun k => k == n) = false := Bool.eq_false_iff.mpr fun z => by
    obtain ⟨k, hk, e⟩ := List.any_eq_true.mp z
    rw [beq_iff_eq.mp e] at hk
    exact hni hk
  show (isKF n && decide ((2 : Nat) ≤ 2) && !(st.es.any fun k => k == n) && decide (st.es.length ≠ 24)) = true
  rw [hn.k, e1, decide_eq_true (show st.es.length ≠ 24 by omega)]; rfl
theorem Nm.end_no {n d : W} (hn : Nm n) (h1 : d ≠ gapW) (h2 : d ≠ wordW) (h3 : deedW d = true) (h0 : d ≠ []) {st : Gs} (h : n ∈ st.es ∨ st.es.length = 24) : rowF st [d, n] = .error .nr := by
  rw [rf_end (noE_cons h0 (noE_cons hn.nn rfl)) h1 h2 h3, if_neg]
  unfold putEndF
  show ¬ (isKF n && decide ((2 : Nat) ≤ 2) && !(st.es.any fun k => k == n) && decide (st.es.length ≠ 24)) = true
  intro z
  simp only [Bool.and_eq_true, decide_eq_true_eq, Bool.not_eq_true'] at z
  rcases h with h | h
  · have := z.1.2
    rw [show (st.es.any fun k => k == n) = true from List.any_eq_true.mpr ⟨n, h, beq_self_eq_true n⟩] at this
    cases this
  · exact z.2 h
abbrev openW : W := [111, 112, 101, 110]
abbrev stopW : W := [115, 116, 111, 112]
abbrev closeW : W := [99, 108, 111, 115, 101]
theorem verd7 {c0 : Int} {rs : List Rw} {d : W} (g : AllG c0 0 rs) (hl : rs.length ≤ 12) (hd : d = openW ∨ d = stopW ∨ d = closeW) : Verd ⟨0, [], [], []⟩ (rs ++ [(0, [openW, nameL c0 20]), (1, [d, nameL c0 20])]) := by
  refine g.verd (StG.zero c0) (by omega) fun st hs => ?_
  have hn := nm_ok c0 20 (by decide)
  have hes := hs.es
  refine Verd.good rfl (hn.end_ok (by decide) (by decide) (by decide +kernel) (by decide) (by omega) fun z => ?_) ?_
  · obtain ⟨j, hj, ej⟩ := hs.nm _ z
    have := nameL_inj (c := c0) (by omega) (by omega) ej
    omega
  have hm : nameL c0 20 ∈ st.es ++ [nameL c0 20] := List.mem_append.mpr (.inr (List.mem_singleton.mpr rfl))
  rcases hd with e | e | e <;> subst e <;> exact Verd.bad (c := .nr) rfl (hn.end_no (by decide) (by decide) (by decide +kernel) (by decide) (.inl hm))
theorem verd5 {tl : W} {fw : List W} (hl : ∀ st : Gs, st.nb = 24 → rowF st (tl :: fw) = .error .nr) : ∀ (m : Nat) (st : Gs), st.nb + m = 24 → Verd st (List.replicate m (0, [gapW, [64, 46, 97]]) ++ [(1, tl :: fw)])
  | 0, st, h => Verd.bad (c := .nr) rfl (hl st (by omega))
  | m + 1, st, h => by
    rw [List.replicate_succ, List.cons_append]
    refine Verd.good (st' := { st with nb := st.nb + 1 }) rfl ?_ (verd5 hl m _ (show st.nb + 1 + m = 24 by omega))
    show rowF st [gapW, [64, 46, 97]] = _
    rw [rf_gap (by decide)]
    exact put_ok (by omega) (by simp) (by decide +kernel)
theorem full_no {st : Gs} {fw : List W} (h : st.nb = 24) : formed st fw = .error .nr := by
  unfold formed putFormF
  by_cases e : fw = []
  · rw [if_pos e]
  · rw [if_neg e, if_pos h]
theorem full_gap (st : Gs) (h : st.nb = 24) : rowF st [gapW, [64, 46]] = .error .nr := by
  rw [rf_gap (by decide)]
  exact full_no h
theorem full_word {n : W} (hn : Nm n) (st : Gs) (h : st.nb = 24) : rowF st [wordW, n, [61, 46, 98]] = .error .nr := by
  rw [rf_word (noE_cons (by decide) (noE_cons hn.nn rfl))]
  show (if isKF n = true then formed st [[61, 46, 98]] else _) = _
  rw [if_pos hn.k]
  exact full_no h
theorem verd6 (c0 : Int) : ∀ (m : Nat) (st : Gs), st.es.length + m = 24 → (∀ n ∈ st.es, ∃ j, j < 24 - m ∧ n = nameL c0 j) → Verd st (((List.range 24).drop (24 - m)).map (fun k => ((0, [openW, nameL c0 k]) : Rw)) ++ [(1, [stopW, nameL c0 24])])
  | 0, st, h, _ => by
    show Verd st [(1, [stopW, nameL c0 24])]
    exact Verd.bad (c := .nr) rfl ((nm_ok c0 24 (by decide)).end_no (by decide) (by decide) (by decide +kernel) (by decide) (.inr (by omega)))
  | m + 1, st, h, hm => by
    have hlt : 24 - (m + 1) < (List.range 24).length := by rw [List.length_range]; omega
    rw [List.drop_eq_getElem_cons hlt, List.getElem_range, List.map_cons, List.cons_append, show 24 - (m + 1) + 1 = 24 - m by omega]
    have hn := nm_ok c0 (24 - (m + 1)) (by omega)
    refine Verd.good rfl (hn.end_ok (by decide) (by decide) (by decide +kernel) (by decide) (by omega) fun z => ?_) (verd6 c0 m _ ?_ fun n hn => ?_)
    · obtain ⟨j, hj, ej⟩ := hm _ z
      have := nameL_inj (c := c0) (by omega) (by omega) ej
      omega
    · show (st.es ++ [_]).length + m = 24
      rw [List.length_append, List.length_singleton]; omega
    · have hn' : n ∈ st.es ++ [nameL c0 (24 - (m + 1))] := hn
      rcases List.mem_append.mp hn' with y | y
      · obtain ⟨j, hj, ej⟩ := hm _ y
        exact ⟨j, by omega, ej⟩
      · exact ⟨24 - (m + 1), by omega, List.mem_singleton.mp y⟩
theorem verd8 {c0 : Int} {rs : List Rw} {m : Nat} (g : AllG c0 0 rs) (hl : rs.length ≤ 12) (hm : m = 63 ∨ m = 33) : Verd ⟨0, [], [], []⟩ (rs ++ [(0, [ruleW, nameL c0 21, [49], [110, 111, 110, 101], [97], m :: nameL c0 22]), (0, [ruleW, nameL c0 22, [49], [110, 111, 110, 101], [98]])]) := by
  refine g.verd (StG.zero c0) (by omega) fun st hs => ?_
  have hrn := hs.rn
  have h1 := nm_ok c0 21 (by decide)
  have h2 := nm_ok c0 22 (by decide)
  generalize nameL c0 21 = n1 at h1
  generalize nameL c0 22 = n2 at h2
  have hs1 : sideW [110, 111, 110, 101] = true := by decide +kernel
  have hr1 : rankB [49] = true := by decide
  have eb : bareF (m :: n2) = n2 := by
    unfold bareF
    rw [if_pos (by rcases hm with z | z <;> subst z <;> simp)]; rfl
  have r1 : ruleB [ruleW, n1, [49], [110, 111, 110, 101], [97], m :: n2] = true := by
    unfold ruleB
    show (true && isKF n1 && rankB [49] && sideW [110, 111, 110, 101] && ([bareF [97], bareF (m :: n2)] : List W).all isKF) = true
    rw [eb, h1.k, hr1, hs1]
    show (true && (isKF (bareF [97]) && (isKF n2 && true))) = true
    rw [h2.k]; decide
  have r2 : ruleB [ruleW, n2, [49], [110, 111, 110, 101], [98]] = true := by
    unfold ruleB
    show (true && isKF n2 && rankB [49] && sideW [110, 111, 110, 101] && ([bareF [98]] : List W).all isKF) = true
    rw [h2.k, hr1, hs1]; decide
  have n1' : noteB [[97], m :: n2] = true := by
    rcases hm with z | z <;> subst z <;> rfl
  have n2' : noteB [[98]] = true := by decide
  have e1 := rf_rule (st := st) (r := [n1, [49], [110, 111, 110, 101], [97], m :: n2]) (noE_cons (by decide) (noE_cons h1.nn (noE_cons (by decide) (noE_cons (by decide) (noE_cons (by decide) (noE_cons (by simp) rfl))))))
  rw [if_pos r1, if_pos (show noteB (List.drop 4 [ruleW, n1, [49], [110, 111, 110, 101], [97], m :: n2]) = true from n1')] at e1
  refine Verd.good rfl e1 ?_
  generalize e1' : ({ st with rs := _, ns := _ } : Gs) = st1
  have e2 := rf_rule (st := st1) (r := [n2, [49], [110, 111, 110, 101], [98]]) (noE_cons (by decide) (noE_cons h2.nn (noE_cons (by decide) (noE_cons (by decide) (noE_cons (by decide) rfl)))))
  rw [if_pos r2, if_pos (show noteB (List.drop 4 [ruleW, n2, [49], [110, 111, 110, 101], [98]]) = true from n2')] at e2
  refine Verd.good rfl e2 ?_
  refine ⟨.nr, ?_, rfl⟩
  show (if notesB _ _ = true then some Cl.nr else none) = some Cl.nr
  rw [if_pos]
  subst e1'
  unfold notesB
  refine List.any_eq_true.mpr ⟨((n1, [[97], n2]), (plF 63 [[97], m :: n2], plF 33 [[97], m :: n2])), ?_, ?_⟩
  · show _ ∈ ((st.rs ++ [(n1, ([[97], m :: n2] : List W).map bareF)]) ++ [(n2, _)]).zip ((st.ns ++ [(plF 63 [[97], m :: n2], plF 33 [[97], m :: n2])]) ++ [_])
    rw [List.append_assoc, List.append_assoc, List.zip_append hrn]
    refine List.mem_append.mpr (.inr ?_)
    show _ ∈ ((n1, [bareF [97], bareF (m :: n2)]), _) :: _
    rw [eb]
    exact List.mem_cons_self
  · have hk : (((st.rs ++ [(n1, ([[97], m :: n2] : List W).map bareF)]) ++ [(n2, ([[98]] : List W).map bareF)]).map Prod.fst).any (fun s => s == n2) = true := List.any_eq_true.mpr ⟨n2, by simp, beq_self_eq_true n2⟩
    show (badAt (((st.rs ++ [(n1, ([[97], m :: n2] : List W).map bareF)]) ++ [(n2, ([[98]] : List W).map bareF)]).map Prod.fst) (n1, [[97], n2]) (plF 63 [[97], m :: n2]) || badAt (((st.rs ++ [(n1, ([[97], m :: n2] : List W).map bareF)]) ++ [(n2, ([[98]] : List W).map bareF)]).map Prod.fst) (n1, [[97], n2]) (plF 33 [[97], m :: n2])) = true
    generalize ((st.rs ++ [(n1, ([[97], m :: n2] : List W).map bareF)]) ++ [(n2, ([[98]] : List W).map bareF)]).map Prod.fst = ss at hk
    rcases hm with z | z <;> subst z
    · have : badAt ss (n1, [[97], n2]) 1 = true := by
        unfold badAt
        show (true && ss.any fun s => s == n2) = true
        rw [hk]; rfl
      show (badAt ss (n1, [[97], n2]) 1 || _) = true
      rw [this]; rfl
    · have : badAt ss (n1, [[97], n2]) 1 = true := by
        unfold badAt
        show (true && ss.any fun s => s == n2) = true
        rw [hk]; rfl
      show (_ || badAt ss (n1, [[97], n2]) 1) = true
      rw [this, Bool.or_true]
end K81

set_option Elab.async false
set_option linter.all false
set_option maxRecDepth 100000
set_option maxHeartbeats 4000000



--@RAISES but law
namespace K81
open PySem PySem.Spec PyProof.Rows L2 Rg
structure RowsOk (rs : List Rw) : Prop where
  ne : rs ≠ []
  n : rs.length ≤ 60
  r : ∀ r ∈ rs, Row1 r.2
  v : Verd ⟨0, [], [], []⟩ rs
theorem All2.app {α : Type} {R : V → α → Prop} {xs ys : List V} {as bs : List α} (h : All2 R xs as) (g : All2 R ys bs) : All2 R (xs ++ ys) (as ++ bs) := by
  refine ⟨by rw [List.length_append, List.length_append, h.1, g.1], fun i x a e1 e2 => ?_⟩
  by_cases hi : i < xs.length
  · rw [List.getElem?_append_left hi] at e1
    rw [List.getElem?_append_left (by rw [← h.1]; exact hi)] at e2
    exact h.2 i x a e1 e2
  · rw [List.getElem?_append_right (by omega)] at e1
    rw [List.getElem?_append_right (by rw [← h.1]; omega), ← h.1] at e2
    exact g.2 _ x a e1 e2
theorem All2.one {α : Type} {R : V → α → Prop} {x : V} {a : α} (h : R x a) : All2 R [x] [a] := All2.snoc All2.nil h
theorem All2.take {α : Type} {R : V → α → Prop} {xs : List V} {as : List α} (h : All2 R xs as) (k : Nat) : All2 R (xs.take k) (as.take k) := by
  refine ⟨by rw [List.length_take, List.length_take, h.1], fun i x a e1 e2 => ?_⟩
  have hi : i < k := by
    have := (List.getElem?_eq_some_iff.mp e1).1
    rw [List.length_take] at this
    omega
  rw [List.getElem?_take_of_lt hi] at e1 e2
  exact h.2 i x a e1 e2
theorem All2.drop {α : Type} {R : V → α → Prop} {xs : List V} {as : List α} (h : All2 R xs as) (k : Nat) : All2 R (xs.drop k) (as.drop k) := by
  refine ⟨by rw [List.length_drop, List.length_drop, h.1], fun i x a e1 e2 => ?_⟩
  rw [List.getElem?_drop] at e1 e2
  exact h.2 _ x a e1 e2
theorem cut_to (xs : List V) (k : Nat) (h : k ≤ xs.length) : cutV xs none (some ((k : Nat) : Int)) = xs.take k := by
  unfold cutV
  rw [HT.sIx_nat, HT.sIx_none, show min k xs.length = k by omega]; rfl
theorem cut_of (xs : List V) (k : Nat) (h : k ≤ xs.length) : cutV xs (some ((k : Nat) : Int)) none = xs.drop k := by
  unfold cutV
  rw [HT.sIx_nat, HT.sIx_none, show min k xs.length = k by omega]
  exact List.take_of_length_le (by rw [List.length_drop]; exact Nat.le_refl _)
section
variable {P : Program} {w : World} {K : PySem.W.Frag} {mg : Str → Option Value} {base : Heap} {aN aD aS CR CF : Addr}
theorem RowAt.on {H H' : Hp} (m : ∀ t xs, SqT K H t xs → SqT K H' t xs) {x : V} {q : Rw} (h : RowAt K H x q) : RowAt K H' x q := by
  obtain ⟨t, e, h1⟩ := h
  exact ⟨t, e, m _ _ h1⟩
theorem rowT_upd {H : Hp} {b : Addr} {o : HO} {l : List V} (hb : H b = some (.lst l)) (a : Addr) (xs : List V) (h : SqT K H a xs) : SqT K (upd H b o) a xs := by
  have ne : ∀ {u : HO}, H a = some u → (∀ l, u ≠ .lst l) → a ≠ b := fun {u} e n z => by
    rw [z, hb] at e
    exact n l (Option.some.inj e).symm
  rcases h with (h | ⟨o', h⟩) | h
  · exact .inl (.inl (by rw [upd_ne (ne h fun l z => nomatch z)]; exact h))
  · exact .inl (.inr ⟨o', by rw [upd_ne (ne h fun l z => nomatch z)]; exact h⟩)
  · exact .inr h
theorem rows_upd {H : Hp} {b : Addr} {o : HO} {l : List V} (hb : H b = some (.lst l)) {rl : List V} {rs : List Rw} (h : All2 (RowAt K H) rl rs) : All2 (RowAt K (upd H b o)) rl rs := h.mono fun x r => RowAt.on (rowT_upd hb)
theorem rows_same {H H' : Hp} (s : Same H H') {rl : List V} {rs : List Rw} (h : All2 (RowAt K H) rl rs) : All2 (RowAt K H') rl rs := h.mono fun x r => RowAt.on fun _ _ h => s.seqT h
theorem same_in {H H' : Hp} {b : Addr} {o : HO} (h : H b = none) (s : Same H H') : Same H (upd H' b o) := fun x u ex => by
  rw [upd_ne fun z => by rw [z, h] at ex; cases ex]
  exact s x u ex
theorem open_row (n : W) : Str.ofString "open " ++ S n = S (joinWith [32] [openW, n]) := by
  show S [111, 112, 101, 110, 32] ++ S n = _
  rw [S_app]; rfl
theorem stop_row (n : W) : Str.ofString "stop " ++ S n = S (joinWith [32] [stopW, n]) := by
  show S [115, 116, 111, 112, 32] ++ S n = _
  rw [S_app]; rfl
theorem close_row (n : W) : Str.ofString "close " ++ S n = S (joinWith [32] [closeW, n]) := by
  show S [99, 108, 111, 115, 101, 32] ++ S n = _
  rw [S_app]; rfl
theorem word_row (n : W) : Str.ofString "word " ++ S n ++ Str.ofString " =.b" = S (joinWith [32] [wordW, n, [61, 46, 98]]) := by
  show S [119, 111, 114, 100, 32] ++ S n ++ S [32, 61, 46, 98] = _
  rw [S_app, S_app]
  exact congrArg S (by simp [joinWith])
theorem rule_row (n m : W) (c : Nat) : Str.ofString "rule " ++ S n ++ Str.ofString " 1 none a " ++ S [c] ++ S m = S (joinWith [32] [ruleW, n, [49], [110, 111, 110, 101], [97], c :: m]) := by
  show S [114, 117, 108, 101, 32] ++ S n ++ S [32, 49, 32, 110, 111, 110, 101, 32, 97, 32] ++ S [c] ++ S m = _
  rw [S_app, S_app, S_app, S_app]
  exact congrArg S (by simp [joinWith])
theorem rule_row2 (n : W) : Str.ofString "rule " ++ S n ++ Str.ofString " 1 none b" = S (joinWith [32] [ruleW, n, [49], [110, 111, 110, 101], [98]]) := by
  show S [114, 117, 108, 101, 32] ++ S n ++ S [32, 49, 32, 110, 111, 110, 101, 32, 98] = _
  rw [S_app, S_app]
  exact congrArg S (by simp [joinWith])
theorem All2.rep {α : Type} {R : V → α → Prop} {x : V} {a : α} (h : R x a) (m : Nat) : All2 R (List.replicate m [x]).flatten (List.replicate m a) := by
  have e : (List.replicate m [x]).flatten = List.replicate m x := by
    induction m with
    | zero => rfl
    | succ k ih => rw [List.replicate_succ, List.flatten_cons, ih, List.replicate_succ]; rfl
  rw [e]
  refine ⟨by rw [List.length_replicate, List.length_replicate], fun i y b e1 e2 => ?_⟩
  rw [(List.mem_replicate.mp (List.mem_of_getElem? e1)).2, (List.mem_replicate.mp (List.mem_of_getElem? e2)).2]
  exact h
theorem y_1 : (Str.ofString "open ").length = 5 := rfl
theorem y_2 : (Str.ofString "stop ").length = 5 := rfl
theorem y_3 : (Str.ofString "close ").length = 6 := rfl
theorem y_4 : (Str.ofString "word ").length = 5 := rfl
theorem y_5 : (Str.ofString " =.b").length = 4 := rfl
theorem y_6 : (Str.ofString "rule ").length = 5 := rfl
theorem y_7 : (Str.ofString " 1 none a ").length = 10 := rfl
theorem y_8 : (Str.ofString " 1 none b").length = 9 := rfl
theorem row_end {d n : W} (hd : wdB d = true) (hn : Nm n) : Row1 [d, n] := ⟨by simp, by simp, .cons hd (.cons hn.wd .nil)⟩
def spRows (K : PySem.W.Frag) : Sp := fun vs H Q _ => ∃ (a l : Addr) (ns : List Int) (c0 : Int), vs = [.ref a, .ref l] ∧ SqL K H a (ns.map V.int) ∧ ns.length ≤ 63 ∧ SqL K H l (nm26 c0) ∧ ∀ H' b rl rs, Same H H' → SqL K H' b rl → All2 (RowAt K H') rl rs → RowsOk rs → Q (.ref b) H'
abbrev st__law_rows : Stmt := top 45
theorem sc__law_rows : FnScope ["_law_script", "_law_names_here", "_law_rows_here", "_law_k", "_law_way", "_law_cell", "_law_at", "_law_mark"] ["_law_script", "_law_names_here"] (defScope st__law_rows) := ⟨rfl, rfl, rfl, by decide +kernel, rfl, by decide +kernel, by decide +kernel⟩
theorem def_rows (R : Raw K mg "_law_rows" st__law_rows ["_law_script", "_law_names_here"]) (T : Txt2 K w mg aN aD aS CR) (n_int : mg "int" = none) (n_max : mg "max" = none) (n_min : mg "min" = none) (n_len : mg "len" = none) (D__law_cell_at : Def P w K mg base 1 "_law_cell_at" ["_law_script", "_law_k"] (spCell K)) (D__law_good : Def P w K mg base 1 "_law_good" ["_law_cell", "_law_names_here", "_law_k"] (spGood K)) (D__law_bad : Def P w K mg base 2 "_law_bad" ["_law_cell", "_law_names_here"] (spBad K)) : Def P w K mg base 3 "_law_rows" ["_law_script", "_law_names_here"] (spRows K) := by
  refine R.defJ sc__law_rows (fun vs H Q E h => ?_) (fun f cdv A outer s H vs Q E hr h => ?_)
  · obtain ⟨a, l, ns, c0, rfl, _⟩ := h
    rfl
  · obtain ⟨a, l, ns, c0, rfl, hS, hns, hN, q⟩ := h
    have sc := sc__law_rows
    have hu := hr.units
    have hb := big
    have w0 : 0 ≤ ns.getD 1 0 % 9 ∧ ns.getD 1 0 % 9 < 9 := by omega
    obtain ⟨wy, ewy⟩ : ∃ wy, wy = ns.getD 1 0 % 9 := ⟨_, rfl⟩
    rw [← ewy] at w0
    obtain ⟨u5, hP5, hq5⟩ : ∃ u, JSs (cxOf CX0 P w K mg base ["_law_script", "_law_names_here", "_law_rows_here", "_law_k", "_law_way", "_law_cell", "_law_at", "_law_mark"] "_law_rows" (defScope st__law_rows) f cdv A outer s H E).nox ((defBody st__law_rows).drop 5) u ∧
        ∀ (v3 v6 : Option V) (cc : Int) (b : Addr) (rl : List V) (rs : List Rw) (H1 : Hp), Same H H1 → H b = none → H1 b = some (.lst rl) → All2 (RowAt K H1) rl rs → (∀ r ∈ rs, Row1 r.2) → rs.length ≤ 14 → (wy < 5 → FirstG c0 0 rs ∧ ∃ r ∈ rs, badP r.1 r.2) → (5 ≤ wy → AllG c0 0 rs ∧ rs.length ≤ 12) →
          u { nx := fun _ H' => Q .non H', rt := Q } [some (.ref a), some (.ref l), some (.ref b), v3, some (.int wy), some (.int cc), v6, none] H1 := by
      refine ⟨_, (jss_cons (js_if (jt_cmp (o_eq hu (K := K)) (jn 4) j_int)
    (jss_one (js_set (i := 2) sc.nd rfl (Or.inl rfl) (j_op (o_add (K := K)) (j_op o_mul (j_lst (ja_cons (j_tup (ja_cons j_int (ja_cons j_str ja_nil))) ja_nil)) j_int) (j_lst (ja_cons (j_tup (ja_cons j_int (ja_cons (j_ix (o_ix hu (K := K) (w := w)) (j_lst (ja_cons j_str (ja_cons (j_op (o_add (K := K)) (j_op (o_add (K := K)) j_str (j_ix (o_ix hu (K := K) (w := w)) (jn 1) j_int)) j_str) ja_nil))) (j_op o_mod (jn 5) j_int)) ja_nil))) ja_nil)))))
    jss_nil)
    (jss_cons (js_if (jt_cmp (o_eq hu (K := K)) (jn 4) j_int)
    (jss_one (js_set (i := 2) sc.nd rfl (Or.inl rfl) (j_op (o_add (K := K)) (j_comp (N := ["_law_name"]) (cap := [none]) rfl (CompScope.of rfl (by rfl)) (ji_any (K := K) (j_slice (o_slA (K := K)) (jn 1) jo_none (jo_some j_int))) (fun _ _ _ _ => (jg_name (i := 0) (show List.Nodup [("_law_name" : Str)] by decide +kernel) rfl (Or.inl rfl))) (fun _ _ _ _ => jts_nil) (fun _ _ _ _ => (j_tup (ja_cons j_int (ja_cons (j_op (o_add (K := K)) j_str (jn 0)) ja_nil))))) (j_lst (ja_cons (j_tup (ja_cons j_int (ja_cons (j_op (o_add (K := K)) j_str (j_ix (o_ix hu (K := K) (w := w)) (jn 1) j_int)) ja_nil))) ja_nil)))))
    jss_nil)
    (jss_cons (js_if (jt_cmp (o_eq hu (K := K)) (jn 4) j_int)
    (jss_cons (js_expr (j_bm (K := K) PySem.F.plainAttrs_list PySem.F.slot_list_append PySem.F.type_list_append m_append (jn 2) (ja_cons (j_tup (ja_cons j_int (ja_cons (j_op (o_add (K := K)) j_str (j_ix (o_ix hu (K := K) (w := w)) (jn 1) j_int)) ja_nil))) ja_nil)))
    (jss_one (js_expr (j_bm (K := K) PySem.F.plainAttrs_list PySem.F.slot_list_append PySem.F.type_list_append m_append (jn 2) (ja_cons (j_tup (ja_cons j_int (ja_cons (j_op (o_add (K := K)) (j_ix (o_ix hu (K := K) (w := w)) (j_lst (ja_cons j_str (ja_cons j_str (ja_cons j_str ja_nil)))) (j_op o_mod (jn 5) j_int)) (j_ix (o_ix hu (K := K) (w := w)) (jn 1) j_int)) ja_nil))) ja_nil)))))
    jss_nil)
    (jss_cons (js_if (jt_cmp (o_eq hu (K := K)) (jn 4) j_int)
    (jss_cons (js_set (i := 7) sc.nd rfl (Or.inl rfl) (j_ix (o_ix hu (K := K) (w := w)) j_str (j_op o_mod (jn 5) j_int)))
    (jss_cons (js_expr (j_bm (K := K) PySem.F.plainAttrs_list PySem.F.slot_list_append PySem.F.type_list_append m_append (jn 2) (ja_cons (j_tup (ja_cons j_int (ja_cons (j_op (o_add (K := K)) (j_op (o_add (K := K)) (j_op (o_add (K := K)) (j_op (o_add (K := K)) j_str (j_ix (o_ix hu (K := K) (w := w)) (jn 1) j_int)) j_str) (jn 7)) (j_ix (o_ix hu (K := K) (w := w)) (jn 1) j_int)) ja_nil))) ja_nil)))
    (jss_one (js_expr (j_bm (K := K) PySem.F.plainAttrs_list PySem.F.slot_list_append PySem.F.type_list_append m_append (jn 2) (ja_cons (j_tup (ja_cons j_int (ja_cons (j_op (o_add (K := K)) (j_op (o_add (K := K)) j_str (j_ix (o_ix hu (K := K) (w := w)) (jn 1) j_int)) j_str) ja_nil))) ja_nil))))))
    jss_nil)
    (jss_one (js_ret (jn 2))))))), ?_⟩
      intro v3 v6 cc b rl rs H1 s1 hb0 hb1 hrl hr1 hlen hF hA
      have hN1 := s1.seq hN
      have hll := hrl.1
      have ne : ∀ (k : Int), wy ≠ k → ¬ (false ^^ decide (wy = k)) = true := fun k h z => by
        rw [Bool.false_xor] at z
        exact h (of_decide_eq_true z)
      have eq : ∀ (k : Int), wy = k → (false ^^ decide (wy = k)) = true := fun k h => by
        rw [Bool.false_xor]
        exact decide_eq_true h
      by_cases h5 : wy = 5
      · -- too many forms
        refine (if_pos (eq 5 h5)).mpr ?_
        have hn := nm_ok c0 0 (by decide)
        have hn2 := hn.l2
        have e0 := at26 c0 0 (by decide) (by decide)
        rw [show Int.toNat 0 = 0 from rfl] at e0
        generalize nameL c0 0 = n0 at hn hn2 e0
        refine ⟨(show 2 ≤ sizeLine by decide), fun t ht => ?_⟩
        have s2 := same_new (o := .tup [.int 0, .str (Str.ofString "gap @.a")]) ht
        have h2 : RowAt K (upd H1 t (.tup [.int 0, .str (Str.ofString "gap @.a")])) (.ref t) (0, [gapW, [64, 46, 97]]) := ⟨t, rfl, SqT.of upd_same⟩
        generalize upd H1 t (.tup [.int 0, .str (Str.ofString "gap @.a")]) = H2 at s2 h2 ⊢
        refine ⟨(show 1 ≤ sizeLine by decide), fun p hp => ?_⟩
        have s3 := same_new (o := .lst [.ref t]) hp
        refine ⟨[.ref t], upd_same, by decide, by decide, (show 1 * 24 ≤ sizeLine by decide), ?_⟩
        generalize upd H2 p (.lst [.ref t]) = H3 at s3 ⊢
        intro p2 hp2
        have s4 := same_new (o := .lst (List.replicate (Int.toNat 24) [V.ref t]).flatten) hp2
        have h4 : upd H3 p2 (.lst (List.replicate (Int.toNat 24) [V.ref t]).flatten) p2 = some (.lst (List.replicate 24 [V.ref t]).flatten) := upd_same
        generalize upd H3 p2 (.lst (List.replicate (Int.toNat 24) [V.ref t]).flatten) = H4 at s4 h4 ⊢
        have s14 := s2.trans (s3.trans s4)
        refine .inl ⟨_, _, s14.seq hN1, e0, ?_⟩
        refine ⟨by (simp only [strLen_append, S_len, y_1, y_2, y_3, y_4, y_5, y_6, y_7, y_8, List.length_cons, List.length_nil]; omega), by (simp only [strLen_append, S_len, y_1, y_2, y_3, y_4, y_5, y_6, y_7, y_8, List.length_cons, List.length_nil]; omega), (show 2 ≤ sizeLine by decide), fun p3 hp3 => ?_⟩
        rw [word_row]
        have s5 := same_new (o := .lst [.str (Str.ofString "gap @."), .str (S (joinWith [32] [wordW, n0, [61, 46, 98]]))]) hp3
        have h5 : upd H4 p3 (.lst [.str (Str.ofString "gap @."), .str (S (joinWith [32] [wordW, n0, [61, 46, 98]]))]) p3 = some (.lst [.str (Str.ofString "gap @."), .str (S (joinWith [32] [wordW, n0, [61, 46, 98]]))]) := upd_same
        generalize upd H4 p3 (.lst [.str (Str.ofString "gap @."), .str (S (joinWith [32] [wordW, n0, [61, 46, 98]]))]) = H5 at s5 h5 ⊢
        obtain ⟨tl, fw, ex, er, hno⟩ : ∃ (tl : W) (fw : List W), atI [V.str (Str.ofString "gap @."), V.str (S (joinWith [32] [wordW, n0, [61, 46, 98]]))] (cc % 2) = some (.str (S (joinWith [32] (tl :: fw)))) ∧ Row1 (tl :: fw) ∧ ∀ st : Gs, st.nb = 24 → rowF st (tl :: fw) = .error .nr := by
          rcases (show cc % 2 = 0 ∨ cc % 2 = 1 by omega) with z | z
          · exact ⟨gapW, [[64, 46]], by rw [z]; rfl, ⟨by simp, by simp, .cons (by decide) (.cons (by decide) .nil)⟩, full_gap⟩
          · exact ⟨wordW, [n0, [61, 46, 98]], by rw [z]; rfl, ⟨by simp, by simp, .cons (by decide) (.cons hn.wd (.cons (by decide) .nil))⟩, full_word hn⟩
        refine ⟨by decide, .inl ⟨_, _, SqL.of h5, ex, ?_⟩⟩
        refine ⟨(show 2 ≤ sizeLine by decide), fun t2 ht2 => ?_⟩
        have s6 := same_new (o := .tup [.int 1, .str (S (joinWith [32] (tl :: fw)))]) ht2
        have h6 : RowAt K (upd H5 t2 (.tup [.int 1, .str (S (joinWith [32] (tl :: fw)))])) (.ref t2) (1, tl :: fw) := ⟨t2, rfl, SqT.of upd_same⟩
        generalize upd H5 t2 (.tup [.int 1, .str (S (joinWith [32] (tl :: fw)))]) = H6 at s6 h6 ⊢
        refine ⟨(show 1 ≤ sizeLine by decide), fun p4 hp4 => ?_⟩
        have s7 := same_new (o := .lst [.ref t2]) hp4
        have h7 : upd H6 p4 (.lst [.ref t2]) p4 = some (.lst [.ref t2]) := upd_same
        generalize upd H6 p4 (.lst [.ref t2]) = H7 at s7 h7 ⊢
        have s47 := s5.trans (s6.trans s7)
        refine .inl ⟨_, _, s47 _ _ h4, h7, (show 25 ≤ sizeLine by decide), fun p5 hp5 => ?_⟩
        have s8 := same_new (o := .lst ((List.replicate 24 [V.ref t]).flatten ++ [.ref t2])) hp5
        refine (if_neg (ne 6 (by omega))).mpr ?_
        refine (if_neg (ne 7 (by omega))).mpr ?_
        refine (if_neg (ne 8 (by omega))).mpr ?_
        refine q _ p5 _ (List.replicate 24 (0, [gapW, [64, 46, 97]]) ++ [(1, tl :: fw)]) (s1.trans (s14.trans (s47.trans s8))) (SqL.of upd_same) ?_ ⟨by simp, by simp, fun r hr => ?_, verd5 hno 24 _ rfl⟩
        · exact All2.app (All2.rep (RowAt.on (fun _ _ h => (s3.trans (s4.trans (s47.trans s8))).seqT h) h2) 24) (All2.one (RowAt.on (fun _ _ h => (s7.trans s8).seqT h) h6))
        · rcases List.mem_append.mp hr with z | z
          · rw [(List.mem_replicate.mp z).2]; exact ⟨by simp, by simp, .cons (by decide) (.cons (by decide) .nil)⟩
          · rw [List.mem_singleton.mp z]; exact er
      refine (if_neg (ne 5 h5)).mpr ?_
      by_cases h6 : wy = 6
      · -- too many ends
        refine (if_pos (eq 6 h6)).mpr ?_
        refine .inl ⟨_, hN1, fun p hp => ?_⟩
        have ecut : cutV (nm26 c0) none (some 24) = (List.range 24).map fun k => V.str (S (nameL c0 k)) := by
          rw [show (some (24 : Int)) = some ((24 : Nat) : Int) from rfl, cut_to _ 24 (by simp)]
          unfold nm26
          rw [← List.map_take]; rfl
        rw [ecut]
        have s2 := same_new (o := .lst ((List.range 24).map fun k => V.str (S (nameL c0 k)))) hp
        have h2 : upd H1 p (.lst ((List.range 24).map fun k => V.str (S (nameL c0 k)))) p = some (.lst ((List.range 24).map fun k => V.str (S (nameL c0 k)))) := upd_same
        generalize upd H1 p (.lst ((List.range 24).map fun k => V.str (S (nameL c0 k)))) = H2 at s2 h2 ⊢
        refine .inl ⟨⟨_, SqL.of h2⟩, ?_⟩
        refine gath_list (K := K) (a := p) (xs := (List.range 24).map fun k => V.str (S (nameL c0 k))) (fun i ys σ' H' => Same H2 H' ∧ All2 (RowAt K H') ys ((List.range i).map fun k => ((0, [openW, nameL c0 k]) : Rw)) ∧ ∃ v, σ' = [v]) (by simp) ⟨Same.refl _, All2.nil, _, rfl⟩ (fun i ys σ' H' h => by have := h.2.1.1; rw [List.length_map, List.length_range] at this; omega) (fun i ys σ' H' h => h.1.seq (SqL.of h2)) ?_ ?_
        · rintro i x ys σ' H' hi ⟨s3, h3, v, rfl⟩
          have hi24 : i < 24 := by
            have := (List.getElem?_eq_some_iff.mp hi).1
            rw [List.length_map, List.length_range] at this
            exact this
          rw [List.getElem?_map, List.getElem?_range hi24] at hi
          have ex : x = .str (S (nameL c0 i)) := (Option.some.inj hi).symm
          subst ex
          have hn2 := (nm_ok c0 i (by omega)).l2
          refine ⟨by (simp only [strLen_append, S_len, y_1, y_2, y_3, y_4, y_5, y_6, y_7, y_8, List.length_cons, List.length_nil]; omega), (show 2 ≤ sizeLine by decide), fun t ht => ?_⟩
          rw [open_row]
          refine ⟨s3.trans (same_new ht), ?_, _, rfl⟩
          rw [List.range_succ, List.map_append]
          exact All2.snoc (rows_same (same_new ht) h3) ⟨t, rfl, SqT.of upd_same⟩
        · rintro ys σ' H' ⟨s3, h3, v, rfl⟩ D hD
          rw [List.length_map, List.length_range] at h3
          have hyl := h3.1
          rw [List.length_map, List.length_range] at hyl
          have s4 := same_new (o := .lst ys) hD
          have h4 : upd H' D (.lst ys) D = some (.lst ys) := upd_same
          have h4a := rows_same s4 h3
          generalize upd H' D (.lst ys) = H4 at s4 h4 h4a ⊢
          have s14 := s2.trans (s3.trans s4)
          have hn2 := (nm_ok c0 24 (by decide)).l2
          refine .inl ⟨_, _, s14.seq hN1, at26 c0 24 (by decide) (by decide), ?_⟩
          rw [show Int.toNat 24 = 24 from rfl]
          refine ⟨by (simp only [strLen_append, S_len, y_1, y_2, y_3, y_4, y_5, y_6, y_7, y_8, List.length_cons, List.length_nil]; omega), (show 2 ≤ sizeLine by decide), fun t ht => ?_⟩
          rw [stop_row]
          have s5 := same_new (o := .tup [.int 1, .str (S (joinWith [32] [stopW, nameL c0 24]))]) ht
          have h5 : RowAt K (upd H4 t (.tup [.int 1, .str (S (joinWith [32] [stopW, nameL c0 24]))])) (.ref t) (1, [stopW, nameL c0 24]) := ⟨t, rfl, SqT.of upd_same⟩
          generalize upd H4 t (.tup [.int 1, .str (S (joinWith [32] [stopW, nameL c0 24]))]) = H5 at s5 h5 ⊢
          refine ⟨(show 1 ≤ sizeLine by decide), fun p4 hp4 => ?_⟩
          have s6 := same_new (o := .lst [.ref t]) hp4
          have h6 : upd H5 p4 (.lst [.ref t]) p4 = some (.lst [.ref t]) := upd_same
          generalize upd H5 p4 (.lst [.ref t]) = H6 at s6 h6 ⊢
          refine .inl ⟨_, _, s6 _ _ (s5 _ _ h4), h6, (by show ys.length + 1 ≤ sizeLine; omega), fun p5 hp5 => ?_⟩
          have s7 := same_new (o := .lst (ys ++ [.ref t])) hp5
          refine (if_neg (ne 7 (by omega))).mpr ?_
          refine (if_neg (ne 8 (by omega))).mpr ?_
          have hv := verd6 c0 24 ⟨0, [], [], []⟩ rfl (fun n h => by cases h)
          rw [Nat.sub_self, List.drop_zero] at hv
          refine q _ p5 _ _ (s1.trans (s14.trans (s5.trans (s6.trans s7)))) (SqL.of upd_same) (All2.app (rows_same (s5.trans (s6.trans s7)) h4a) (All2.one (RowAt.on (fun _ _ h => (s6.trans s7).seqT h) h5))) ⟨by simp, by simp, fun r hr => ?_, hv⟩
          rcases List.mem_append.mp hr with z | z
          · obtain ⟨k, hk, rfl⟩ := List.mem_map.mp z
            exact row_end (by decide) (nm_ok c0 k (by have := List.mem_range.mp hk; omega))
          · rw [List.mem_singleton.mp z]; exact row_end (by decide) (nm_ok c0 24 (by decide))
      refine (if_neg (ne 6 h6)).mpr ?_
      by_cases h7 : wy = 7
      · -- twice an end
        refine (if_pos (eq 7 h7)).mpr ?_
        obtain ⟨gA, gl⟩ := hA (by omega)
        have hn := nm_ok c0 20 (by decide)
        have hn2 := hn.l2
        have e20 := at26 c0 20 (by decide) (by decide)
        rw [show Int.toNat 20 = 20 from rfl] at e20
        refine ⟨.inl ⟨rfl, _, SqL.of hb1⟩, .inl ⟨_, _, hN1, e20, ?_⟩⟩
        refine ⟨by (simp only [strLen_append, S_len, y_1, y_2, y_3, y_4, y_5, y_6, y_7, y_8, List.length_cons, List.length_nil]; omega), (show 2 ≤ sizeLine by decide), fun t ht => ?_⟩
        rw [open_row]
        have s2 := same_new (o := .tup [.int 0, .str (S (joinWith [32] [openW, nameL c0 20]))]) ht
        have h2 : RowAt K (upd H1 t (.tup [.int 0, .str (S (joinWith [32] [openW, nameL c0 20]))])) (.ref t) (0, [openW, nameL c0 20]) := ⟨t, rfl, SqT.of upd_same⟩
        generalize upd H1 t (.tup [.int 0, .str (S (joinWith [32] [openW, nameL c0 20]))]) = H2 at s2 h2 ⊢
        have hb2 := s2 _ _ hb1
        refine ⟨rl, hb2, by omega, ?_⟩
        have s3 : Same H (upd H2 b (.lst (rl ++ [.ref t]))) := same_in hb0 (s1.trans s2)
        have hb3 : upd H2 b (.lst (rl ++ [.ref t])) b = some (.lst (rl ++ [.ref t])) := upd_same
        have a3 : All2 (RowAt K (upd H2 b (.lst (rl ++ [.ref t])))) (rl ++ [.ref t]) (rs ++ [(0, [openW, nameL c0 20])]) := rows_upd hb2 (All2.snoc (rows_same s2 hrl) h2)
        generalize upd H2 b (.lst (rl ++ [.ref t])) = H3 at s3 hb3 a3 ⊢
        refine ⟨.inl ⟨rfl, _, SqL.of hb3⟩, (show 3 ≤ sizeLine by decide), fun p hp => ?_⟩
        have s4 := same_new (o := .lst [.str (Str.ofString "open "), .str (Str.ofString "stop "), .str (Str.ofString "close ")]) hp
        have h4 : upd H3 p (.lst [.str (Str.ofString "open "), .str (Str.ofString "stop "), .str (Str.ofString "close ")]) p = some (.lst [.str (Str.ofString "open "), .str (Str.ofString "stop "), .str (Str.ofString "close ")]) := upd_same
        generalize upd H3 p (.lst [.str (Str.ofString "open "), .str (Str.ofString "stop "), .str (Str.ofString "close ")]) = H4 at s4 h4 ⊢
        obtain ⟨d, x, ex, exl, exr, hd, hdw⟩ : ∃ (d : W) (x : Str), atI [V.str (Str.ofString "open "), V.str (Str.ofString "stop "), V.str (Str.ofString "close ")] (cc % 3) = some (.str x) ∧ x.length ≤ 6 ∧ x ++ S (nameL c0 20) = S (joinWith [32] [d, nameL c0 20]) ∧ (d = openW ∨ d = stopW ∨ d = closeW) ∧ wdB d = true := by
          rcases (show cc % 3 = 0 ∨ cc % 3 = 1 ∨ cc % 3 = 2 by omega) with z | z | z
          · exact ⟨openW, _, by rw [z]; rfl, by decide, open_row _, .inl rfl, by decide⟩
          · exact ⟨stopW, _, by rw [z]; rfl, by decide, stop_row _, .inr (.inl rfl), by decide⟩
          · exact ⟨closeW, _, by rw [z]; rfl, by decide, close_row _, .inr (.inr rfl), by decide⟩
        refine ⟨by decide, .inl ⟨_, _, SqL.of h4, ex, ?_⟩⟩
        refine .inl ⟨_, _, (s3.trans s4).seq hN, e20, ?_⟩
        have hsl := S_len (nameL c0 20)
        refine ⟨(show x.length + (S (nameL c0 20)).length ≤ sizeLine by omega), (show 2 ≤ sizeLine by decide), fun t2 ht2 => ?_⟩
        rw [exr]
        have s5 := same_new (o := .tup [.int 1, .str (S (joinWith [32] [d, nameL c0 20]))]) ht2
        have h5 : RowAt K (upd H4 t2 (.tup [.int 1, .str (S (joinWith [32] [d, nameL c0 20]))])) (.ref t2) (1, [d, nameL c0 20]) := ⟨t2, rfl, SqT.of upd_same⟩
        generalize upd H4 t2 (.tup [.int 1, .str (S (joinWith [32] [d, nameL c0 20]))]) = H5 at s5 h5 ⊢
        have hb5 := s5 _ _ (s4 _ _ hb3)
        refine ⟨_, hb5, (by rw [List.length_append, List.length_singleton]; omega), ?_⟩
        refine (if_neg (ne 8 (by omega))).mpr ?_
        have hv := verd7 gA gl hd
        refine q _ b _ (rs ++ [(0, [openW, nameL c0 20]), (1, [d, nameL c0 20])]) (same_in hb0 (s3.trans (s4.trans s5))) (SqL.of upd_same) ?_ ⟨by simp, by rw [List.length_append]; show rs.length + 2 ≤ 60; omega, fun r hr => ?_, hv⟩
        · have := rows_upd (o := .lst (rl ++ [V.ref t] ++ [V.ref t2])) hb5 (All2.snoc (rows_same (s4.trans s5) a3) h5)
          rw [List.append_assoc rs] at this
          exact this
        · rcases List.mem_append.mp hr with z | z
          · exact hr1 r z
          rcases List.mem_cons.mp z with z | z
          · rw [z]; exact row_end (by decide) hn
          · rw [List.mem_singleton.mp z]; exact row_end hdw hn
      refine (if_neg (ne 7 h7)).mpr ?_
      by_cases h8 : wy = 8
      · -- a note of a sort
        refine (if_pos (eq 8 h8)).mpr ?_
        obtain ⟨gA, gl⟩ := hA (by omega)
        have hn := nm_ok c0 21 (by decide)
        have hn2 := hn.l2
        have hm := nm_ok c0 22 (by decide)
        have hm2 := hm.l2
        have e21 := at26 c0 21 (by decide) (by decide)
        rw [show Int.toNat 21 = 21 from rfl] at e21
        have e22 := at26 c0 22 (by decide) (by decide)
        rw [show Int.toNat 22 = 22 from rfl] at e22
        obtain ⟨m, em, hmm⟩ : ∃ m : Nat, atI (Str.ofString "?!").cps.toList (cc % 2) = some m ∧ (m = 63 ∨ m = 33) := by
          rcases (show cc % 2 = 0 ∨ cc % 2 = 1 by omega) with z | z
          · exact ⟨63, by rw [z]; rfl, .inl rfl⟩
          · exact ⟨33, by rw [z]; rfl, .inr rfl⟩
        refine ⟨by decide, (show 2 ≤ sizeLine by decide), m, em, ?_⟩
        refine ⟨.inl ⟨rfl, _, SqL.of hb1⟩, .inl ⟨_, _, hN1, e21, ?_⟩⟩
        have hv := verd8 gA gl hmm
        generalize nameL c0 21 = n1 at hn hn2 hv
        generalize nameL c0 22 = n2 at hm hm2 hv e22
        refine ⟨by (simp only [strLen_append, S_len, y_1, y_2, y_3, y_4, y_5, y_6, y_7, y_8, List.length_cons, List.length_nil]; omega), by (simp only [strLen_append, S_len, y_1, y_2, y_3, y_4, y_5, y_6, y_7, y_8, List.length_cons, List.length_nil]; omega), (show (Str.ofString "rule " ++ S n1 ++ Str.ofString " 1 none a ").length + (S [m]).length ≤ sizeLine by (simp only [strLen_append, S_len, y_1, y_2, y_3, y_4, y_5, y_6, y_7, y_8, List.length_cons, List.length_nil]; omega)), .inl ⟨_, _, hN1, e22, ?_⟩⟩
        refine ⟨(show (Str.ofString "rule " ++ S n1 ++ Str.ofString " 1 none a " ++ S [m]).length + (S n2).length ≤ sizeLine by (simp only [strLen_append, S_len, y_1, y_2, y_3, y_4, y_5, y_6, y_7, y_8, List.length_cons, List.length_nil]; omega)), (show 2 ≤ sizeLine by decide), fun t ht => ?_⟩
        have er := rule_row n1 n2 m
        change H1 t = none at ht
        have ht' : upd H1 t (.tup [.int 0, .str (Str.ofString "rule " ++ S n1 ++ Str.ofString " 1 none a " ++ S [m] ++ S n2)]) = upd H1 t (.tup [.int 0, .str (S (joinWith [32] [ruleW, n1, [49], [110, 111, 110, 101], [97], m :: n2]))]) := by rw [er]
        have s2 := same_new (o := .tup [.int 0, .str (Str.ofString "rule " ++ S n1 ++ Str.ofString " 1 none a " ++ S [m] ++ S n2)]) ht
        have h2 : RowAt K (upd H1 t (.tup [.int 0, .str (Str.ofString "rule " ++ S n1 ++ Str.ofString " 1 none a " ++ S [m] ++ S n2)])) (.ref t) (0, [ruleW, n1, [49], [110, 111, 110, 101], [97], m :: n2]) := by
          rw [ht']
          exact ⟨t, rfl, SqT.of upd_same⟩
        have hb2 : upd H1 t (.tup [.int 0, .str (Str.ofString "rule " ++ S n1 ++ Str.ofString " 1 none a " ++ S [m] ++ S n2)]) b = some (.lst rl) := s2 _ _ hb1
        refine ⟨rl, hb2, by omega, ?_⟩
        generalize e2 : upd H1 t (.tup [.int 0, .str (Str.ofString "rule " ++ S n1 ++ Str.ofString " 1 none a " ++ S [m] ++ S n2)]) = H2 at s2 h2 hb2
        have s3 : Same H (upd H2 b (.lst (rl ++ [.ref t]))) := same_in hb0 (s1.trans s2)
        have hb3 : upd H2 b (.lst (rl ++ [.ref t])) b = some (.lst (rl ++ [.ref t])) := upd_same
        have a3 : All2 (RowAt K (upd H2 b (.lst (rl ++ [.ref t])))) (rl ++ [.ref t]) (rs ++ [(0, [ruleW, n1, [49], [110, 111, 110, 101], [97], m :: n2])]) := rows_upd hb2 (All2.snoc (rows_same s2 hrl) h2)
        subst e2
        refine ⟨.inl ⟨rfl, _, SqL.of hb3⟩, .inl ⟨_, _, s3.seq hN, e22, ?_⟩⟩
        generalize upd (upd H1 t (.tup [.int 0, .str (Str.ofString "rule " ++ S n1 ++ Str.ofString " 1 none a " ++ S [m] ++ S n2)])) b (.lst (rl ++ [.ref t])) = H3 at s3 hb3 a3
        refine ⟨by (simp only [strLen_append, S_len, y_1, y_2, y_3, y_4, y_5, y_6, y_7, y_8, List.length_cons, List.length_nil]; omega), by (simp only [strLen_append, S_len, y_1, y_2, y_3, y_4, y_5, y_6, y_7, y_8, List.length_cons, List.length_nil]; omega), (show 2 ≤ sizeLine by decide), fun t2 ht2 => ?_⟩
        rw [rule_row2]
        have s5 := same_new (o := .tup [.int 0, .str (S (joinWith [32] [ruleW, n2, [49], [110, 111, 110, 101], [98]]))]) ht2
        have h5 : RowAt K (upd H3 t2 (.tup [.int 0, .str (S (joinWith [32] [ruleW, n2, [49], [110, 111, 110, 101], [98]]))])) (.ref t2) (0, [ruleW, n2, [49], [110, 111, 110, 101], [98]]) := ⟨t2, rfl, SqT.of upd_same⟩
        generalize upd H3 t2 (.tup [.int 0, .str (S (joinWith [32] [ruleW, n2, [49], [110, 111, 110, 101], [98]]))]) = H5 at s5 h5 ⊢
        have hb5 := s5 _ _ hb3
        refine ⟨_, hb5, (by rw [List.length_append, List.length_singleton]; omega), ?_⟩
        refine q _ b _ (rs ++ [(0, [ruleW, n1, [49], [110, 111, 110, 101], [97], m :: n2]), (0, [ruleW, n2, [49], [110, 111, 110, 101], [98]])]) (same_in hb0 (s3.trans s5)) (SqL.of upd_same) ?_ ⟨by simp, by rw [List.length_append]; show rs.length + 2 ≤ 60; omega, fun r hr => ?_, hv⟩
        · have := rows_upd (o := .lst (rl ++ [V.ref t] ++ [V.ref t2])) hb5 (All2.snoc (rows_same s5 a3) h5)
          rw [List.append_assoc rs] at this
          exact this
        · have hmw : wdB (m :: n2) = true := wd_pre (l := [m]) hm (by rcases hmm with z | z <;> subst z <;> decide)
          rcases List.mem_append.mp hr with z | z
          · exact hr1 r z
          rcases List.mem_cons.mp z with z | z
          · rw [z]; exact ⟨by simp, by simp, .cons (by decide) (.cons hn.wd (.cons (by decide) (.cons (by decide) (.cons (by decide) (.cons hmw .nil)))))⟩
          · rw [List.mem_singleton.mp z]; exact ⟨by simp, by simp, .cons (by decide) (.cons hm.wd (.cons (by decide) (.cons (by decide) (.cons (by decide) .nil))))⟩
      refine (if_neg (ne 8 h8)).mpr ?_
      obtain ⟨gF, gB⟩ := hF (by omega)
      refine q H1 b rl rs s1 (SqL.of hb1) hrl ⟨fun z => ?_, by omega, hr1, gF.verd (StG.zero c0) (by omega) gB⟩
      rw [z] at gB
      obtain ⟨r, hr, _⟩ := gB
      cases hr
    refine ⟨_, (jss_cons (js_set (i := 2) sc.nd rfl (Or.inl rfl) (j_lst ja_nil))
    (jss_cons (js_for PassesOwn.never rfl (ji_rng1 rfl T.n_range (ja_cons (j_callB (c_min rfl) rfl T.n_min boot_min (ja_cons j_int (ja_cons (j_callB (c_max rfl) rfl T.n_max boot_max (ja_cons j_int (ja_cons (j_op o_sub (j_callB (c_len (K := K)) rfl T.n_len PySem.boot_len (ja_cons (jn 0) ja_nil)) j_int) ja_nil))) ja_nil))) ja_nil)) (jg_name (i := 3) sc.nd rfl (Or.inl rfl))
    (jss_one (js_expr (j_bm (K := K) PySem.F.plainAttrs_list PySem.F.slot_list_append PySem.F.type_list_append m_append (jn 2) (ja_cons (j_tup (ja_cons j_int (ja_cons (j_def D__law_good (hr.mono (by decide)) rfl (ja_cons (j_ix (o_ix hu (K := K) (w := w)) (jn 0) (j_op (o_add (K := K)) j_int (jn 3))) (ja_cons (jn 1) (ja_cons (jn 3) ja_nil)))) ja_nil))) ja_nil)))))
    (jss_cons (js_set (i := 4) sc.nd rfl (Or.inl rfl) (j_op o_mod (j_def D__law_cell_at (hr.mono (by decide)) rfl (ja_cons (jn 0) (ja_cons j_int ja_nil))) j_int))
    (jss_cons (js_set (i := 5) sc.nd rfl (Or.inl rfl) (j_def D__law_cell_at (hr.mono (by decide)) rfl (ja_cons (jn 0) (ja_cons j_int ja_nil))))
    (jss_cons (js_for PassesOwn.never rfl (ji_rng1 rfl T.n_range (ja_cons (j_op (o_add (K := K)) j_int (j_callTy c_int rfl T.n_int boot_int (ja_cons (j_cmp (o_eq hu (K := K)) (j_op o_mod (jn 4) j_int) j_int) ja_nil))) ja_nil)) (jg_name (i := 3) sc.nd rfl (Or.inl rfl))
    (jss_cons (js_set (i := 6) sc.nd rfl (Or.inl rfl) (j_op o_mod (j_def D__law_cell_at (hr.mono (by decide)) rfl (ja_cons (jn 0) (ja_cons (j_op (o_add (K := K)) j_int (jn 3)) ja_nil))) (j_op (o_add (K := K)) (j_callB (c_len (K := K)) rfl T.n_len PySem.boot_len (ja_cons (jn 2) ja_nil)) j_int)))
    (jss_one (js_if (jt_cmp o_lt (jn 4) j_int)
    (jss_one (js_set (i := 2) sc.nd rfl (Or.inl rfl) (j_op (o_add (K := K)) (j_op (o_add (K := K)) (j_slice (o_slA (K := K)) (jn 2) jo_none (jo_some (jn 6))) (j_lst (ja_cons (j_def D__law_bad (hr.mono (by decide)) rfl (ja_cons (j_def D__law_cell_at (hr.mono (by decide)) rfl (ja_cons (jn 0) (ja_cons (j_op (o_add (K := K)) j_int (jn 3)) ja_nil))) (ja_cons (jn 1) ja_nil))) ja_nil))) (j_slice (o_slA (K := K)) (jn 2) (jo_some (jn 6)) jo_none))))
    jss_nil))))
    hP5))))), ?_⟩
    refine ⟨(show 0 ≤ sizeLine by decide), fun b hb0 => ?_⟩
    have s1 : Same H (upd H b (.lst [])) := same_new hb0
    have h1 : upd H b (.lst []) b = some (.lst []) := upd_same
    generalize upd H b (.lst []) = H1 at s1 h1 ⊢
    refine ⟨_, .inl (s1.seq hS), ?_⟩
    rw [List.length_map]
    obtain ⟨n, en, hn12, hnl⟩ : ∃ n : Nat, min 12 (max 0 (((ns.length : Nat) : Int) - 7)) = (n : Int) ∧ n ≤ 12 ∧ (0 < n → n + 7 ≤ ns.length) := ⟨(min 12 (max 0 (((ns.length : Nat) : Int) - 7))).toNat, by omega, by omega, by omega⟩
    refine ⟨show -(2 ^ 62) ≤ min 12 (max 0 (((ns.length : Nat) : Int) - 7)) by omega, show min 12 (max 0 (((ns.length : Nat) : Int) - 7)) < 2 ^ 62 by omega, ?_⟩
    have en2 : (min 12 (max 0 (((ns.length : Nat) : Int) - 7))).toNat = n := by omega
    refine for_range (n := (min 12 (max 0 (((ns.length : Nat) : Int) - 7))).toNat) (fun i σ H' => ∃ (v3 : Option V) (rl : List V) (rs : List Rw), Same H H' ∧ H' b = some (.lst rl) ∧ All2 (RowAt K H') rl rs ∧ (∀ r ∈ rs, Row1 r.2) ∧ rs.length = i ∧ AllG c0 0 rs ∧ σ = [some (.ref a), some (.ref l), some (.ref b), v3, none, none, none, none])
      ⟨none, [], [], s1, h1, All2.nil, (fun r hr => by cases hr), rfl, trivial, rfl⟩ ?_ ?_
    · rintro i σ H' hi ⟨v3, rl, rs, s3, hb3, a3, r3, hrs, g3, rfl⟩
      rw [en2] at hi
      have hll := a3.1
      have eat : atI (ns.map V.int) (7 + (0 + ((i : Nat) : Int))) = some (.int (ns.getD (7 + i) 0)) := by
        have hlt : 7 + i < ns.length := by have := hnl (by omega); omega
        have e1 : (ns.map V.int)[7 + i]? = some (.int (ns.getD (7 + i) 0)) := by
          rw [List.getElem?_map, List.getD, List.getElem?_eq_getElem hlt]; rfl
        have := atI_nat e1
        rw [show ((7 : Int) + (0 + ((i : Nat) : Int))) = ((7 + i : Nat) : Int) by omega]
        exact this
      refine ⟨.inl ⟨rfl, _, SqL.of hb3⟩, .inl ⟨_, _, s3.seq hS, eat, ?_⟩⟩
      refine ⟨_, c0, l, i, congrArg (fun z => [V.int (ns.getD (7 + i) 0), V.ref l, V.int z]) (Int.zero_add _), by omega, s3.seq hN, fun H4 x s4 hel => ?_⟩
      obtain ⟨ws, rfl, hw1, hgd⟩ := hel
      refine ⟨(show 2 ≤ sizeLine by decide), fun t ht => ?_⟩
      have s5 := same_new (o := .tup [.int 0, .str (S (joinWith [32] ws))]) ht
      have h5 : RowAt K (upd H4 t (.tup [.int 0, .str (S (joinWith [32] ws))])) (.ref t) (0, ws) := ⟨t, rfl, SqT.of upd_same⟩
      generalize upd H4 t (.tup [.int 0, .str (S (joinWith [32] ws))]) = H5 at s5 h5 ⊢
      have hb5 := s5 _ _ (s4 _ _ hb3)
      refine ⟨rl, hb5, by omega, ?_⟩
      refine ⟨_, rl ++ [.ref t], rs ++ [(0, ws)], same_in hb0 (s3.trans (s4.trans s5)), upd_same, rows_upd hb5 (All2.snoc (rows_same (s4.trans s5) a3) h5), fun r hr => ?_, by rw [List.length_append, hrs]; rfl, g3.snoc (by rw [hrs, Nat.zero_add]; exact hgd), rfl⟩
      rcases List.mem_append.mp hr with z | z
      · exact r3 r z
      · rw [List.mem_singleton.mp z]; exact hw1
    · rintro σ H2 ⟨v3, rl, rs, s2, hb2, a2, r2, hrs, g2, rfl⟩
      rw [en2] at hrs
      refine ⟨a, ns, 1, rfl, s2.seq hS, by decide, ?_⟩
      rw [← ewy]
      refine ⟨a, ns, 2, rfl, s2.seq hS, ?_⟩
      refine ⟨by decide, ?_⟩
      obtain ⟨z, ez, hz1, hz2⟩ : ∃ z : Int, z = 1 + (if (false ^^ decide (wy % 2 = 0)) = true then 1 else 0) ∧ 1 ≤ z ∧ z ≤ 2 := ⟨_, rfl, by split <;> omega, by split <;> omega⟩
      refine (show -(2 ^ 62) ≤ 1 + (if (false ^^ decide (wy % 2 = 0)) = true then (1 : Int) else 0) ∧ 1 + (if (false ^^ decide (wy % 2 = 0)) = true then (1 : Int) else 0) < 2 ^ 62 ∧ _ from ?_)
      rw [← ez]
      refine ⟨by omega, by omega, ?_⟩
      refine for_range (n := z.toNat) (fun i σ H' => ∃ (v3 v6 : Option V) (b : Addr) (rl : List V) (rs : List Rw), Same H H' ∧ H b = none ∧ H' b = some (.lst rl) ∧ All2 (RowAt K H') rl rs ∧ (∀ r ∈ rs, Row1 r.2) ∧ rs.length ≤ 12 + i ∧ (wy < 5 → FirstG c0 0 rs ∧ (1 ≤ i → ∃ r ∈ rs, badP r.1 r.2)) ∧ (5 ≤ wy → AllG c0 0 rs ∧ rs.length ≤ 12) ∧ σ = [some (.ref a), some (.ref l), some (.ref b), v3, some (.int wy), some (.int (ns.getD 2 0)), v6, none])
        ⟨v3, none, b, rl, rs, s2, hb0, hb2, a2, r2, by omega, (fun _ => ⟨g2.first, fun z => by omega⟩), (fun _ => ⟨g2, by omega⟩), rfl⟩ ?_ ?_
      · rintro i σ H3 hi ⟨v3, v6, b, rl, rs, s3, hb0, hb3, a3, r3, hl3, hF, hA, rfl⟩
        have hll := a3.1
        refine ⟨a, ns, 3 + i, congrArg (fun z => [V.ref a, V.int z]) (show (3 : Int) + (0 + ((i : Nat) : Int)) = ((3 + i : Nat) : Int) by omega), s3.seq hS, _, .inl (SqL.of hb3), show (0 : Int) < ((rl.length : Nat) : Int) + 1 by omega, ?_⟩
        have j0 := Int.emod_nonneg (ns.getD (3 + i) 0) (show ((rl.length : Nat) : Int) + 1 ≠ 0 by omega)
        have j1 := Int.emod_lt_of_pos (ns.getD (3 + i) 0) (show (0 : Int) < ((rl.length : Nat) : Int) + 1 by omega)
        obtain ⟨j, ej⟩ : ∃ j : Nat, ns.getD (3 + i) 0 % (((rl.length : Nat) : Int) + 1) = (j : Int) := ⟨(ns.getD (3 + i) 0 % (((rl.length : Nat) : Int) + 1)).toNat, by omega⟩
        rw [ej] at j1 ⊢
        have hj : j ≤ rl.length := by omega
        show if decide (wy < 5) = true then _ else _
        refine ite2 (fun h => ?_) (fun h => ?_)
        · have hw := of_decide_eq_true h
          obtain ⟨gF, _⟩ := hF hw
          refine .inl ⟨rl, SqL.of hb3, fun p1 hp1 => ?_⟩
          rw [cut_to rl j hj]
          have s4 := same_new (o := .lst (rl.take j)) hp1
          have h4 : upd H3 p1 (.lst (rl.take j)) p1 = some (.lst (rl.take j)) := upd_same
          generalize upd H3 p1 (.lst (rl.take j)) = H4 at s4 h4 ⊢
          refine ⟨a, ns, 5 + i, congrArg (fun z => [V.ref a, V.int z]) (show (5 : Int) + (0 + ((i : Nat) : Int)) = ((5 + i : Nat) : Int) by omega), (s3.trans s4).seq hS, ?_⟩
          refine ⟨_, c0, l, rfl, (s3.trans s4).seq hN, fun H5 x k ws s5 hw1 hbp hra => ?_⟩
          refine ⟨(show 1 ≤ sizeLine by decide), fun p2 hp2 => ?_⟩
          have s6 := same_new (o := .lst [x]) hp2
          have h6 : upd H5 p2 (.lst [x]) p2 = some (.lst [x]) := upd_same
          generalize upd H5 p2 (.lst [x]) = H6 at s6 h6 ⊢
          refine .inl ⟨_, _, s6 _ _ (s5 _ _ h4), h6, (by rw [List.length_take, List.length_singleton]; omega), fun p3 hp3 => ?_⟩
          have s7 := same_new (o := .lst (rl.take j ++ [x])) hp3
          have h7 : upd H6 p3 (.lst (rl.take j ++ [x])) p3 = some (.lst (rl.take j ++ [x])) := upd_same
          generalize upd H6 p3 (.lst (rl.take j ++ [x])) = H7 at s7 h7 ⊢
          have s57 := s6.trans s7
          have s37 := s4.trans (s5.trans s57)
          refine .inl ⟨rl, SqL.of (s37 _ _ hb3), fun p4 hp4 => ?_⟩
          rw [cut_of rl j hj]
          have s8 := same_new (o := .lst (rl.drop j)) hp4
          have h8 : upd H7 p4 (.lst (rl.drop j)) p4 = some (.lst (rl.drop j)) := upd_same
          generalize upd H7 p4 (.lst (rl.drop j)) = H8 at s8 h8 ⊢
          refine .inl ⟨_, _, s8 _ _ h7, h8, (by rw [List.length_append, List.length_take, List.length_singleton, List.length_drop]; omega), fun p5 hp5 => ?_⟩
          have s9 := same_new (o := .lst (rl.take j ++ [x] ++ rl.drop j)) hp5
          have s39 := s37.trans (s8.trans s9)
          have hp5' : H p5 = none := by
            cases e : H p5 with
            | none => rfl
            | some u => rw [(s3.trans (s37.trans s8)) _ _ e] at hp5; cases hp5
          refine ⟨_, _, p5, rl.take j ++ [x] ++ rl.drop j, rs.take j ++ (k, ws) :: rs.drop j, s3.trans s39, hp5', upd_same, ?_, fun r hr => ?_, ?_, fun _ => ⟨FirstG.ins hbp j gF, fun _ => ⟨(k, ws), by simp, hbp⟩⟩, fun z => by omega, rfl⟩
          · rw [show rs.take j ++ (k, ws) :: rs.drop j = rs.take j ++ [(k, ws)] ++ rs.drop j by simp]
            have a9 := rows_same s39 a3
            exact All2.app (All2.app (a9.take j) (All2.one (RowAt.on (fun _ _ h => (s57.trans (s8.trans s9)).seqT h) hra))) (a9.drop j)
          · rcases List.mem_append.mp hr with z | z
            · exact r3 r (List.mem_of_mem_take z)
            rcases List.mem_cons.mp z with z | z
            · rw [z]; exact hw1
            · exact r3 r (List.mem_of_mem_drop z)
          · rw [List.length_append, List.length_cons, List.length_take, List.length_drop]; omega
        · have hw : ¬ wy < 5 := fun z => h (decide_eq_true z)
          exact ⟨_, _, b, rl, rs, s3, hb0, hb3, a3, r3, by omega, (fun z => absurd z hw), hA, rfl⟩
      · rintro σ H3 ⟨v3, v6, b, rl, rs, s3, hb0, hb3, a3, r3, hl3, hF, hA, rfl⟩
        exact hq5 v3 v6 _ b rl rs H3 s3 hb0 hb3 a3 r3 (by omega) (fun z => ⟨(hF z).1, (hF z).2 (by omega)⟩) hA
end
end K81

set_option Elab.async false
set_option linter.all false
set_option maxRecDepth 100000
set_option maxHeartbeats 4000000



--@RAISES but law
namespace K81
open PySem PySem.Spec PyProof.Rows L2 Rg
section
variable {P : Program} {w : World} {K : PySem.W.Frag} {mg : Str → Option Value} {base : Heap} {aN aD aS CR CF : Addr}
def spLaw (K : PySem.W.Frag) : Sp := fun vs H Q _ => ∃ (a : Addr) (ns : List Int), vs = [.ref a] ∧ SqL K H a (ns.map V.int) ∧ ns.length ≤ 63 ∧ ∀ H', Q (.bl true) H'
abbrev st_law : Stmt := top 47
theorem sc_law : FnScope ["_law_script", "_law_names_here", "_law_rows_here", "_law_text", "_law_bad_here", "_law_due"] ["_law_script"] (defScope st_law) := ⟨rfl, rfl, rfl, by decide +kernel, rfl, by decide +kernel, by decide +kernel⟩
theorem def_law (R : Raw K mg "law" st_law ["_law_script"]) (D__law_cell_at : Def P w K mg base 1 "_law_cell_at" ["_law_script", "_law_k"] (spCell K)) (D__law_names : Def P w K mg base 1 "_law_names" ["_law_cell", "_law_many"] (spNames K)) (D__law_rows : Def P w K mg base 3 "_law_rows" ["_law_script", "_law_names_here"] (spRows K)) (D__law_told : Def P w K mg base 6 "_law_told" ["_law_text"] spTold) : Def P w K mg base 7 "law" ["_law_script"] (spLaw K) := by
  refine R.defJ sc_law (fun vs H Q E h => ?_) (fun f cdv A outer s H vs Q E hr h => ?_)
  · obtain ⟨a, ns, rfl, _⟩ := h
    rfl
  · obtain ⟨a, ns, rfl, hS, hns, q⟩ := h
    have sc := sc_law
    have hu := hr.units
    have hb := big
    refine ⟨_, (jss_cons (js_set (i := 1) sc.nd rfl (Or.inl rfl) (j_def D__law_names (hr.mono (by decide)) rfl (ja_cons (j_def D__law_cell_at (hr.mono (by decide)) rfl (ja_cons (jn 0) (ja_cons j_int ja_nil))) (ja_cons j_int ja_nil))))
    (jss_cons (js_set (i := 2) sc.nd rfl (Or.inl rfl) (j_def D__law_rows (hr.mono (by decide)) rfl (ja_cons (jn 0) (ja_cons (jn 1) ja_nil))))
    (jss_cons (js_set (i := 3) sc.nd rfl (Or.inl rfl) (j_bm (K := K) PySem.F.plainAttrs_str PySem.F.slot_str_join PySem.F.type_str_join (m_join (K := K)) j_str (ja_cons (j_comp (N := ["_law_row"]) (cap := [none]) rfl (CompScope.of rfl (by rfl)) (ji_any (K := K) (jn 2)) (fun _ _ _ _ => (jg_name (i := 0) (show List.Nodup [("_law_row" : Str)] by decide +kernel) rfl (Or.inl rfl))) (fun _ _ _ _ => jts_nil) (fun _ _ _ _ => (j_ix (o_ix hu (K := K) (w := w)) (jn 0) j_int))) ja_nil)))
    (jss_cons (js_comp (i := 4) (N := ["_law_row"]) (cap := [none]) rfl (CompScope.of rfl (by rfl)) (ji_any (K := K) (jn 2)) (fun _ _ _ _ => (jg_name (i := 0) (show List.Nodup [("_law_row" : Str)] by decide +kernel) rfl (Or.inl rfl))) (fun _ _ _ _ => (jts_one (jt_cmp o_gt (j_ix (o_ix hu (K := K) (w := w)) (jn 0) j_int) j_int))) (fun _ _ _ _ => (j_ix (o_ix hu (K := K) (w := w)) (jn 0) j_int)) sc.nd rfl rfl)
    (jss_cons (js_set (i := 5) sc.nd rfl (Or.inl rfl) (j_ix (o_ix hu (K := K) (w := w)) (j_op (o_add (K := K)) (jn 4) (j_lst (ja_cons j_int ja_nil))) j_int))
    (jss_one (js_ret (j_and (j_cmp (o_eq hu (K := K)) (j_def D__law_told (hr.mono (by decide)) rfl (ja_cons (jn 3) ja_nil)) (jn 5)) (j_one (j_cmp (o_eq hu (K := K)) (j_def D__law_told (hr.mono (by decide)) rfl (ja_cons (jn 3) ja_nil)) (jn 5))))))))))), ?_⟩
    refine ⟨a, ns, 0, rfl, hS, ?_⟩
    refine ⟨ns.getD 0 0, 26, rfl, by decide, fun H1 l s1 hl0 hl1 => ?_⟩
    refine ⟨a, l, ns, ns.getD 0 0, rfl, s1.seq hS, hns, SqL.of hl1, fun H2 b rl rs s2 hb2 a2 ok => ?_⟩
    have hll := a2.1
    have rlen := ok.n
    have at2 : ∀ (H' : Hp), Same H2 H' → ∀ (i : Nat) (x : V), rl[i]? = some x → ∃ (t : Addr) (r : Rw), x = .ref t ∧ rs[i]? = some r ∧ SqT K H' t [.int (r.1 : Nat), .str (S (joinWith [32] r.2))] := fun H' s i x hi => by
      have hlt := (List.getElem?_eq_some_iff.mp hi).1
      have hr : rs[i]? = some rs[i] := List.getElem?_eq_getElem (by omega)
      obtain ⟨t, e, hT⟩ := a2.2 i x _ hi hr
      exact ⟨t, _, e, hr, s.seqT hT⟩
    have tk : ∀ (i : Nat) (r : Rw), rs[i]? = some r → rs.take (i + 1) = rs.take i ++ [r] := fun i r hr => by
      rw [List.take_succ, hr]; rfl
    refine ⟨rfl, .inl ⟨⟨_, hb2⟩, ?_⟩⟩
    refine gath_list (K := K) (a := b) (xs := rl) (fun i ys σ' H' => H' = H2 ∧ ys = (rs.take i).map (fun r => V.str (S (joinWith [32] r.2))) ∧ ∃ v, σ' = [v]) (by omega) ⟨rfl, rfl, _, rfl⟩ (fun i ys σ' H' h => by rw [h.2.1, List.length_map, List.length_take]; omega) (fun i ys σ' H' h => by rw [h.1]; exact hb2) ?_ ?_
    · rintro i x ys σ' H' hi ⟨rfl, rfl, v, rfl⟩
      obtain ⟨t, r, rfl, hr, hT⟩ := at2 _ (Same.refl _) i x hi
      refine .inr ⟨_, _, hT, rfl, ?_⟩
      exact ⟨rfl, by rw [tk i r hr, List.map_append]; rfl, _, rfl⟩
    rintro ys σ' H' ⟨rfl, rfl, v, rfl⟩ D hD
    rw [show rs.take rl.length = rs from List.take_of_length_le (by omega)]
    have s3 := same_new (o := .lst (rs.map fun r => V.str (S (joinWith [32] r.2)))) hD
    have h3 : upd H' D (.lst (rs.map fun r => V.str (S (joinWith [32] r.2)))) D = some (.lst (rs.map fun r => V.str (S (joinWith [32] r.2)))) := upd_same
    generalize upd H' D (.lst (rs.map fun r => V.str (S (joinWith [32] r.2)))) = H3 at s3 h3 ⊢
    refine ⟨rs.map fun r => S (joinWith [32] r.2), by rw [List.map_map]; exact SqL.of h3, joinOk_of (B := 2000) (fun y hy => ?_) ?_, ?_⟩
    · obtain ⟨r, hr, rfl⟩ := List.mem_map.mp hy
      rw [S_len]
      exact (ok.r r hr).ok.sz
    · rw [List.length_map, show (Str.ofString "\n").length = 1 from rfl]
      omega
    have ej : Txt.join (Str.ofString "\n") (rs.map fun r => S (joinWith [32] r.2)) = S (joinWith [10] ((rs.map Prod.snd).map (joinWith [32]))) := by
      have e : ((rs.map Prod.snd).map (joinWith [32])).map S = rs.map fun r => S (joinWith [32] r.2) := by rw [List.map_map, List.map_map]; rfl
      rw [← e]
      exact txtJoin_S [10] _
    rw [ej]
    refine .inl ⟨⟨_, s3.seq hb2⟩, ?_⟩
    refine gath_list (K := K) (a := b) (xs := rl) (fun i ys σ' H' => H' = H3 ∧ ys = ((rs.take i).filter fun (r : Rw) => decide (0 < r.1)).map (fun r => V.int ((r.1 : Nat) : Int)) ∧ ∃ v, σ' = [v]) (by omega) ⟨rfl, rfl, _, rfl⟩ (fun i ys σ' H' h => by
        rw [h.2.1, List.length_map]
        have := List.length_filter_le (fun (r : Rw) => decide (0 < r.1)) (rs.take i)
        rw [List.length_take] at this
        omega) (fun i ys σ' H' h => by rw [h.1]; exact s3.seq hb2) ?_ ?_
    · rintro i x ys σ' H'' hi ⟨rfl, rfl, v, rfl⟩
      obtain ⟨t, r, rfl, hr, hT⟩ := at2 _ s3 i x hi
      refine .inr ⟨_, _, hT, rfl, ?_⟩
      show if decide (0 < ((r.1 : Nat) : Int)) = true then _ else _
      refine ite2 (fun h => ?_) (fun h => ?_)
      · have h := of_decide_eq_true h
        refine .inr ⟨_, _, hT, rfl, ?_⟩
        refine ⟨rfl, ?_, _, rfl⟩
        rw [tk i r hr, List.filter_append, List.map_append, List.filter_cons_of_pos (by simp; omega)]; rfl
      · have h : ¬ 0 < ((r.1 : Nat) : Int) := fun z => h (decide_eq_true z)
        refine ⟨rfl, ?_, _, rfl⟩
        rw [tk i r hr, List.filter_append, List.map_append, List.filter_cons_of_neg (by simp; omega)]; simp
    rintro ys σ' H'' ⟨rfl, rfl, v, rfl⟩ D2 hD2
    rw [show rs.take rl.length = rs from List.take_of_length_le (by omega)]
    have hfl := List.length_filter_le (fun (r : Rw) => decide (0 < r.1)) rs
    have edue : atI ((rs.filter fun (r : Rw) => decide (0 < r.1)).map (fun r => V.int ((r.1 : Nat) : Int)) ++ [V.int 1]) 0 = some (.int ((dueF rs : Nat) : Int)) := by
      unfold dueF
      cases rs.filter fun (r : Rw) => decide (0 < r.1) with
      | nil => rfl
      | cons r t => exact atI_nat (j := 0) (show ((r :: t).map (fun r => V.int ((r.1 : Nat) : Int)) ++ [V.int 1])[0]? = _ from rfl)
    generalize rs.filter (fun (r : Rw) => decide (0 < r.1)) = fl at hfl edue ⊢
    have h4 : upd H'' D2 (.lst (fl.map fun r => V.int ((r.1 : Nat) : Int))) D2 = some (.lst (fl.map fun r => V.int ((r.1 : Nat) : Int))) := upd_same
    generalize upd H'' D2 (.lst (fl.map fun r => V.int ((r.1 : Nat) : Int))) = H4 at h4 ⊢
    refine ⟨(show 1 ≤ sizeLine by decide), fun p hp => ?_⟩
    refine .inl ⟨_, _, same_new hp _ _ h4, upd_same, (by rw [List.length_map, List.length_singleton]; omega), fun p2 hp2 => ?_⟩
    refine .inl ⟨_, _, SqL.of upd_same, edue, ?_⟩
    obtain ⟨c, hg, hc⟩ := ok.v
    have rok : ∀ r ∈ rs.map Prod.snd, RowOk r := fun r hr => by
      obtain ⟨x, hx, rfl⟩ := List.mem_map.mp hr
      exact (ok.r x hx).ok
    have rne : rs.map Prod.snd ≠ [] := fun z => ok.ne (List.map_eq_nil_iff.mp z)
    refine ⟨rs.map Prod.snd, c, rfl, rne, by rw [List.length_map]; omega, rok, hg, fun H5 => ?_⟩
    rw [hc]
    have ed : (false ^^ decide (((dueF rs : Nat) : Int) = ((dueF rs : Nat) : Int))) = true := by simp
    refine (if_pos ed).mpr ?_
    refine ⟨rs.map Prod.snd, c, rfl, rne, by rw [List.length_map]; omega, rok, hg, fun H6 => ?_⟩
    rw [hc]
    show Q (.bl (false ^^ decide (((dueF rs : Nat) : Int) = ((dueF rs : Nat) : Int)))) H6
    rw [ed]
    exact q _
end
end K81

set_option Elab.async false
set_option linter.all false
set_option maxRecDepth 100000
set_option maxHeartbeats 4000000
namespace K81
open PySem PySem.Spec PyProof.Rows L2 Rg
section
variable {P : Program} {w : World} {K : PySem.W.Frag} {mg : Str → Option Value} {base : Heap} {aN aD aS CR CF CG tD tM tR tN : Addr} {cs : List Addr} {t1 t2 t3 : Tok}
theorem law_of (R0 : Raw K mg "_law_cell_at" st__law_cell_at ["_law_script", "_law_k"]) (R1 : Raw K mg "may_write" st_may_write ["sign"]) (R2 : Raw K mg "signs_of" st_signs_of ["text"]) (R3 : Raw K mg "part_of" st_part_of ["text"]) (R4 : Raw K mg "form_of" st_form_of ["text"]) (R5 : Raw K mg "is_kind" st_is_kind ["word"]) (R6 : Raw K mg "kind_at" st_kind_at ["words", "place"]) (R7 : Raw K mg "is_rank" st_is_rank ["word"]) (R8 : Raw K mg "bare_part" st_bare_part ["word"]) (R9 : Raw K mg "place_signed" st_place_signed ["words", "sign"]) (R10 : Raw K mg "note_of" st_note_of ["words"]) (R11 : Raw K mg "put_form" st_put_form ["book", "kind", "words"]) (R12 : Raw K mg "put_end" st_put_end ["ends", "words"]) (R13 : Raw K mg "rule_of" st_rule_of ["words"]) (R14 : Raw K mg "check_notes" st_check_notes ["rules", "notes"]) (R15 : Raw K mg "grammar_of" st_grammar_of ["text"]) (R16 : Raw K mg "_law_names" st__law_names ["_law_cell", "_law_many"]) (R17 : Raw K mg "_law_told" st__law_told ["_law_text"]) (R18 : Raw K mg "_law_no_row" st__law_no_row ["_law_cell", "_law_names_here"]) (R19 : Raw K mg "_law_no_form" st__law_no_form ["_law_cell", "_law_names_here"]) (R20 : Raw K mg "_law_bad" st__law_bad ["_law_cell", "_law_names_here"]) (R21 : Raw K mg "_law_good" st__law_good ["_law_cell", "_law_names_here", "_law_k"]) (R22 : Raw K mg "_law_rows" st__law_rows ["_law_script", "_law_names_here"]) (R23 : Raw K mg "law" st_law ["_law_script"]) (T : Txt K w mg tD tM tR tN CF t1 t2 t3) (TT : Txt2 K w mg aN aD aS CR) (T2 : Cls K mg CR CF CG cs) : Def P w K mg base 7 "law" ["_law_script"] (spLaw K) :=
  have Dk : DefX P w K mg base 2 "kind_at" ["words", "place"] (spKA K CR) := def_kAt R6 TT (def_isK R5 TT)
  have Df : DefX P w K mg base 3 "form_of" ["text"] (spFO K CF) := def_formOf R4 T (def_may R1 T) (def_partOf R3 T (def_signs R2 T))
  have Dg : DefX P w K mg base 5 "grammar_of" ["text"] (spGO K CR CF) := def_go R15 TT (def_cn R14 TT) Dk (def_note R10 (def_ps R9 TT)) (def_pe R12 TT Dk) (def_pf R11 TT Df) (def_rule R13 TT Dk (def_rank R7 TT) (def_bare R8))
  have Dc := def_cell R0 T
  def_law R23 Dc (def_names R16 TT) (def_rows R22 TT TT.n_int TT.n_max TT.n_min TT.n_len Dc (def_good R21) (def_bad R20 (def_no_form R19) (def_no_row R18))) (def_told R17 T2 Dg)
end
theorem has_of {K : PySem.W.Frag} {C : Addr} {v : Value} (up : PySem.W.mroIn K C v = some true) : mroHas K C v = true := by
  obtain ⟨cd, a, b⟩ := Option.bind_eq_some_iff.mp up
  unfold PySem.W.clsIn at a
  split at a
  · rename_i ho
    cases a
    split at b
    · cases b
    · unfold mroHas
      rw [ho]
      exact Option.some.inj b
  · cases a
theorem cls_mk {K : PySem.W.Frag} {mg : Str → Option Value} {h : Heap} {CR CF CG b0 b1 b2 : Addr} (X : K.In h) (G : h.Ns mainGlobals mg) (n1 : mg "isinstance" = none) (n2 : mg "ValueError" = none) (n3 : mg "int" = none)
    (a1 : PySem.W.nsIn K mainGlobals "NoRow" = some (some (.ref CR))) (a2 : PySem.W.nsIn K mainGlobals "NoForm" = some (some (.ref CF))) (a3 : PySem.W.nsIn K mainGlobals "GrowthError" = some (some (.ref CG)))
    (c0 : PySem.W.nsIn K mainGlobals "NoRule" = some (some (.ref b0))) (c1 : PySem.W.nsIn K mainGlobals "Clash" = some (some (.ref b1))) (c2 : PySem.W.nsIn K mainGlobals "TooLong" = some (some (.ref b2)))
    (xg : PySem.W.excIn K CG bmVE "ValueError.__new__" = true) (z1a : PySem.W.excIn K CR bmVE "ValueError.__new__" = true)
    (z2a : PySem.W.findIn K (.ref CR) "__getattribute__" = some (some (.builtin "BaseException.__getattribute__"))) (z3a : PySem.W.findIn K (.ref CR) "__getattr__" = some none)
    (z4a : PySem.W.findIn K (.ref CR) "__class__" = some (some (.builtin "object.__class__"))) (z5a : PySem.W.mroIn K CR (.type "object") = some true) (upa : PySem.W.mroIn K CR (.ref CG) = some true)
    (z1b : PySem.W.excIn K CF bmVE "ValueError.__new__" = true)
    (z2b : PySem.W.findIn K (.ref CF) "__getattribute__" = some (some (.builtin "BaseException.__getattribute__"))) (z3b : PySem.W.findIn K (.ref CF) "__getattr__" = some none)
    (z4b : PySem.W.findIn K (.ref CF) "__class__" = some (some (.builtin "object.__class__"))) (z5b : PySem.W.mroIn K CF (.type "object") = some true) (upb : PySem.W.mroIn K CF (.ref CG) = some true)
    (ve1 : PySem.W.kitOne K (.ref CR) (.type "ValueError") = some true) (ve2 : PySem.W.kitOne K (.ref CF) (.type "ValueError") = some true)
    (no0 : PySem.W.kitOne K (.ref CR) (.ref b0) = some false) (no1 : PySem.W.kitOne K (.ref CR) (.ref b1) = some false) (no2 : PySem.W.kitOne K (.ref CR) (.ref b2) = some false)
    (no3 : PySem.W.kitOne K (.ref CF) (.ref b0) = some false) (no4 : PySem.W.kitOne K (.ref CF) (.ref b1) = some false) (no5 : PySem.W.kitOne K (.ref CF) (.ref b2) = some false)
    (ve3 : PySem.W.kitOne K (.ref CR) (.ref CR) = some true) (ve4 : PySem.W.kitOne K (.ref CF) (.ref CF) = some true) (no6 : PySem.W.kitOne K (.ref CR) (.ref CF) = some false) (no7 : PySem.W.kitOne K (.ref CF) (.ref CR) = some false) : ∃ CR CF CG cs, Cls K mg CR CF CG cs :=
  ⟨CR, CF, CG, [b0, b1, b2], ⟨n1, n2, n3, PySem.W.mg_of X G a1, PySem.W.mg_of X G a2, PySem.W.mg_of X G a3, xg, PySem.W.mg_of X G c0, PySem.W.mg_of X G c1, PySem.W.mg_of X G c2, ⟨z1a, z2a, z3a, z4a, z5a⟩, ⟨z1b, z2b, z3b, z4b, z5b⟩, has_of upa, has_of upb, ve1, ve2,
    (fun i hi => match i, hi with | 0, _ => no0 | 1, _ => no1 | 2, _ => no2), (fun i hi => match i, hi with | 0, _ => no3 | 1, _ => no4 | 2, _ => no5), ve3, ve4, no6, no7⟩⟩
end K81

open PySem PySem.W PyProof.Rows
set_option Elab.async false
set_option linter.all false
def PySem.W.Fast.tw12131028359584384898 : Nat := 0
def PySem.W.Fast.tw5539170484988930809 : Nat := 0
def PySem.W.Fast.tw17768306906947723483 : Nat := 0
def PySem.W.Fast.tw1736764150557575952 : Nat := 0
def PySem.W.Fast.tw14684426651984327704 : Nat := 0
def PySem.W.Fast.tw2377482415194612509 : Nat := 0
def PySem.W.Fast.tw168538116745270276 : Nat := 0
def PySem.W.Fast.tw15683869778611554708 : Nat := 0
def PySem.W.Fast.tw11881110638351714532 : Nat := 0
def PySem.W.Fast.tw8060288961716144295 : Nat := 0
def PySem.W.Fast.tw4495719479247183387 : Nat := 0
def PySem.W.Fast.tw6485375441367862734 : Nat := 0
def PySem.W.Fast.tw1435358108608510509 : Nat := 0
def PySem.W.Fast.tw17050514024622638512 : Nat := 0
def PySem.W.Fast.tw10247673168531528723 : Nat := 0
def PySem.W.Fast.tw15650798197566010850 : Nat := 0
def PySem.W.Fast.tw15616188070517006835 : Nat := 0
def PySem.W.Fast.tw2589054877120013363 : Nat := 0
def PySem.W.Fast.tw10259967271210568261 : Nat := 0
def PySem.W.Fast.tw2371563889457933359 : Nat := 0
def PySem.W.Fast.tw16633417179590523638 : Nat := 0
def PySem.W.Fast.tw8153562935342146805 : Nat := 0
def PySem.W.Fast.tw6833101430765119934 : Nat := 0
def PySem.W.Fast.tw13197055923020073999 : Nat := 0
def PySem.W.Fast.tw12984645385219866349 : Nat := 0
def PySem.W.Fast.tw7503265603046737531 : Nat := 0
def PySem.W.Fast.tw18345324306487282439 : Nat := 0
def PySem.W.Fast.tw8692002739825830906 : Nat := 0
def PySem.W.Fast.tw14930849806437438065 : Nat := 0
def PySem.W.Fast.tw12937109861715601586 : Nat := 0
def PySem.W.Fast.tw3937554367775747914 : Nat := 0
def PySem.W.Fast.tw5826803230918137289 : Nat := 0
def PySem.W.Fast.tw6652738486358168542 : Nat := 0
def PySem.W.Fast.tw9327246422735434346 : Nat := 0
def PySem.W.Fast.tw16761046026802667630 : Nat := 0
def PySem.W.Fast.tw11094767527094733043 : Nat := 0
def PySem.W.Fast.tw2988048756552532984 : Nat := 0
def PySem.W.Fast.tw7987058532456244340 : Nat := 0
def PySem.W.Fast.tw18444716144460105188 : Nat := 0
def PySem.W.Fast.tw17141247329764705060 : Nat := 0
def PySem.W.Fast.tw5497287704990056743 : Nat := 0
def PySem.W.Fast.tw8195243550945524227 : Nat := 0
def PySem.W.Fast.tw12472004035191406841 : Nat := 0
def PySem.W.Fast.tw3031418474198875098 : Nat := 0
def PySem.W.Fast.tw3414256009564218336 : Nat := 0
def PySem.W.Fast.tw3755046500517009713 : Nat := 0
def PySem.W.Fast.tw12928870599401357787 : Nat := 0
def PySem.W.Fast.tw11690423655717121380 : Nat := 0
def PySem.W.Fast.tw13740728710929100195 : Nat := 0
def PySem.W.Fast.tw15114318563397192362 : Nat := 0
def PySem.W.Fast.tw2574382414526308152 : Nat := 0
def PySem.W.Fast.tw17316446240433010046 : Nat := 0
def PySem.W.Fast.tw8402704748690677302 : Nat := 0
def PySem.W.Fast.tw12320889786857318799 : Nat := 0
def PySem.W.Fast.tw4010467378222776052 : Nat := 0
def PySem.W.Fast.tw15614756574165565791 : Nat := 0
def PySem.W.Fast.tw17780722161647409087 : Nat := 0
def PySem.W.Fast.tw13081915416026355171 : Nat := 0
def PySem.W.Fast.tw17283314757665892658 : Nat := 0
def PySem.W.Fast.tw14339472052926265269 : Nat := 0
def PySem.W.Fast.tw8286325794096307532 : Nat := 0
def PySem.W.Fast.tw18338361723050933912 : Nat := 0
def PySem.W.Fast.tw1655591820653683499 : Nat := 0
def PySem.W.Fast.tw12028960302811854152 : Nat := 0
def PySem.W.Fast.tw4022002037116656687 : Nat := 0
def PySem.W.Fast.tw15768598133551713546 : Nat := 0
def PySem.W.Fast.tw3665238567942661939 : Nat := 0
def PySem.W.Fast.tw1093369919261571413 : Nat := 0
def PySem.W.Fast.tw13492980466493728388 : Nat := 0
def PySem.W.Fast.tw15332868127893733407 : Nat := 0
def PySem.W.Fast.tw1601849005321739563 : Nat := 0
def PySem.W.Fast.tw16495555427817706449 : Nat := 0
def PySem.W.Fast.tw17557858596885601591 : Nat := 0
def PySem.W.Fast.tw5695531099939932849 : Nat := 0
def PySem.W.Fast.tw5772744391684246332 : Nat := 0
def PySem.W.Fast.tw11738242299757163367 : Nat := 0
def PySem.W.Fast.tw15102140018880703057 : Nat := 0
def PySem.W.Fast.tw7336670308821786921 : Nat := 0
def PySem.W.Fast.tw14702872973593958658 : Nat := 0
def PySem.W.Fast.tw3037343435289961674 : Nat := 0
def PySem.W.Fast.tw4724016750060825856 : Nat := 0
def PySem.W.Fast.tw9931585498523351215 : Nat := 0
def PySem.W.Fast.tw866197653160249218 : Nat := 0
def PySem.W.Fast.tw17168078458763235447 : Nat := 0
def PySem.W.Fast.tw2653263042971205679 : Nat := 0
def PySem.W.Fast.tw11659223775505083143 : Nat := 0
def PySem.W.Fast.tw2926535342344048767 : Nat := 0
def PySem.W.Fast.tw2618985880572145793 : Nat := 0
def PySem.W.Fast.tw4484255768178691044 : Nat := 0
def PySem.W.Fast.tw17967580135033198723 : Nat := 0
def PySem.W.Fast.tw14193423650061892996 : Nat := 0
def PySem.W.Fast.tw4469214740713047788 : Nat := 0
def PySem.W.Fast.tw9843958703317593016 : Nat := 0
def PySem.W.Fast.tw5809855083341482492 : Nat := 0
def PySem.W.Fast.tw14801699071504008384 : Nat := 0
def PySem.W.Fast.tw14559845190571208132 : Nat := 0
def PySem.W.Fast.tw15720558780651132639 : Nat := 0
def PySem.W.Fast.tw14203623383131603077 : Nat := 0
def PySem.W.Fast.tw12020260262409280244 : Nat := 0
def PySem.W.Fast.tw12823932386928720431 : Nat := 0
def PySem.W.Fast.tw9841446163852407691 : Nat := 0
def PySem.W.Fast.tw3212434925504049426 : Nat := 0
def PySem.W.Fast.tw13235299598797281290 : Nat := 0
def PySem.W.Fast.tw15513902850329179352 : Nat := 0
def PySem.W.Fast.tw1793998697829230407 : Nat := 0
def PySem.W.Fast.tw8315069386824472127 : Nat := 0
def PySem.W.Fast.tw4356454291660430867 : Nat := 0
def PySem.W.Fast.tw1659806605855836092 : Nat := 0
def PySem.W.Fast.tw4891512639270245009 : Nat := 0
def PySem.W.Fast.tw10964151854496488889 : Nat := 0
def PySem.W.Fast.tw14477285398940541568 : Nat := 0
def PySem.W.Fast.tw8289519636602611536 : Nat := 0
def PySem.W.Fast.tw1162278798672614802 : Nat := 0
def PySem.W.Fast.tw910479082913484606 : Nat := 0
def PySem.W.Fast.tw9719785111467614945 : Nat := 0
def PySem.W.Fast.tw13292828381604345385 : Nat := 0
def PySem.W.Fast.tw3820533456880543314 : Nat := 0
def PySem.W.Fast.tw16857268570091391357 : Nat := 0
def PySem.W.Fast.tw8880899401997096947 : Nat := 0
def PySem.W.Fast.tw2163251312852637872 : Nat := 0
def PySem.W.Fast.tw9558758230078239710 : Nat := 0
def PySem.W.Fast.tw14700950112589428207 : Nat := 0
def PySem.W.Fast.tw8307923318089509603 : Nat := 0
def PySem.W.Fast.tw6602226289780282556 : Nat := 0
def PySem.W.Fast.tw13166409984205882777 : Nat := 0
def PySem.W.Fast.tw10510045363310382181 : Nat := 0
def PySem.W.Fast.tw2557451610205114037 : Nat := 0
def PySem.W.Fast.tw873264091684206819 : Nat := 0
def PySem.W.Fast.tw5986744447557853744 : Nat := 0
def PySem.W.Fast.tw12879499737414911311 : Nat := 0
def PySem.W.Fast.tw3943680183049529045 : Nat := 0
def PySem.W.Fast.tw13244574523381894454 : Nat := 0
def PySem.W.Fast.tw5903049809798244274 : Nat := 0
def PySem.W.Fast.tw12407690511398517290 : Nat := 0
def PySem.W.Fast.tw3580550407734733278 : Nat := 0
def PySem.W.Fast.tw13852874758675516585 : Nat := 0
def PySem.W.Fast.tw10483802405720652101 : Nat := 0
def PySem.W.Fast.tw4529586180604734727 : Nat := 0
def PySem.W.Fast.tw5000877575820435415 : Nat := 0
def PySem.W.Fast.tw11333913717188773266 : Nat := 0
def PySem.W.Fast.tw13365695577660532859 : Nat := 0
def PySem.W.Fast.tw12219645310434586193 : Nat := 0
def PySem.W.Fast.tw9345419228258049099 : Nat := 0
def PySem.W.Fast.tw710235925549862488 : Nat := 0
def PySem.W.Fast.tw3053832343934994486 : Nat := 0
def PySem.W.Fast.tw18396866978017219856 : Nat := 0
def PySem.W.Fast.tw17490717053813434833 : Nat := 0
def PySem.W.Fast.tw10188286171693643921 : Nat := 0
def PySem.W.Fast.tw9748577585051685822 : Nat := 0
def PySem.W.Fast.tw7670282194639875766 : Nat := 0
def PySem.W.Fast.tw11670084149593893901 : Nat := 0
def PySem.W.Fast.tw5458926282661972799 : Nat := 0
def PySem.W.Fast.tw5521686113554403706 : Nat := 0
def PySem.W.Fast.tw15026634947526779768 : Nat := 0
def PySem.W.Fast.tw9168108640267179978 : Nat := 0
def PySem.W.Fast.tw14881995220900462804 : Nat := 0
def PySem.W.Fast.tw11425667428809112443 : Nat := 0
def PySem.W.Fast.tw10873896511075216766 : Nat := 0
def PySem.W.Fast.tw9836636543672395274 : Nat := 0
def PySem.W.Fast.tw13180485526409724110 : Nat := 0
def PySem.W.Fast.tw6429176630843343316 : Nat := 0
def PySem.W.Fast.tw9968268954866606877 : Nat := 0
def PySem.W.Fast.tw668124963391478941 : Nat := 0
def PySem.W.Fast.tw10734933121786569597 : Nat := 0
def PySem.W.Fast.tw17997827226546127270 : Nat := 0
def PySem.W.Fast.tw1874032330317118701 : Nat := 0
def PySem.W.Fast.tw12088109578857642008 : Nat := 0
def PySem.W.Fast.tw3630754101675720540 : Nat := 0
def PySem.W.Fast.tw5761625104448800962 : Nat := 0
def PySem.W.Fast.tw3715531331075533326 : Nat := 0
def PySem.W.Fast.tw3096187568773733324 : Nat := 0
def PySem.W.Fast.tw4954878615955427403 : Nat := 0
def PySem.W.Fast.tw12954162622303233214 : Nat := 0
def PySem.W.Fast.tw8597019753834956562 : Nat := 0
def PySem.W.Fast.tw7776749782591184132 : Nat := 0
def PySem.W.Fast.tw14859063108059512972 : Nat := 0
def PySem.W.Fast.tw6284908567539198018 : Nat := 0
def PySem.W.Fast.tw3945810802870723593 : Nat := 0
def PySem.W.Fast.tw3874601307278832183 : Nat := 0
def PySem.W.Fast.tw4134374152669610899 : Nat := 0
def PySem.W.Fast.tw7641290021820472140 : Nat := 0
def PySem.W.Fast.tw9443931670089229960 : Nat := 0
def PySem.W.Fast.tw2196933089437903212 : Nat := 0
def PySem.W.Fast.tw6815939406323303159 : Nat := 0
def PySem.W.Fast.tw3393735822173066539 : Nat := 0
def PySem.W.Fast.tw2716573405842544670 : Nat := 0
def PySem.W.Fast.tw12809496497528934630 : Nat := 0
def PySem.W.Fast.tw10464223116127267890 : Nat := 0
def PySem.W.Fast.tw3522635408893245608 : Nat := 0
def PySem.W.Fast.tw11388507005245998875 : Nat := 0
def PySem.W.Fast.tw952110985888306287 : Nat := 0
def PySem.W.Fast.tw3847508856962432550 : Nat := 0
def PySem.W.Fast.tw13650968345637490360 : Nat := 0
def PySem.W.Fast.tw13142246225347567393 : Nat := 0
def PySem.W.Fast.tw8729016631178147899 : Nat := 0
def PySem.W.Fast.tw14002279871603631972 : Nat := 0
def PySem.W.Fast.tw2970696719337282341 : Nat := 0
def PySem.W.Fast.tw12752807054476670944 : Nat := 0
def PySem.W.Fast.tw9969009119311657384 : Nat := 0
def PySem.W.Fast.tw3216025080239457268 : Nat := 0
def PySem.W.Fast.tw1171124314178928133 : Nat := 0
def PySem.W.Fast.tw16046185548930580525 : Nat := 0
def PySem.W.Fast.tw5961279115840270526 : Nat := 0
def PySem.W.Fast.tw8305302549819391258 : Nat := 0
def PySem.W.Fast.tw13647927893494253585 : Nat := 0
def PySem.W.Fast.tw8012742051910998562 : Nat := 0
def PySem.W.Fast.tw14823362158753255871 : Nat := 0
def PySem.W.Fast.tw10497108257370793771 : Nat := 0
def PySem.W.Fast.tw12284957246336598699 : Nat := 0
def PySem.W.Fast.tw5657214397587567760 : Nat := 0
def PySem.W.Fast.tw3566548493539827830 : Nat := 0
def PySem.W.Fast.tw3205786104492438232 : Nat := 0
def PySem.W.Fast.tw11852090193060222414 : Nat := 0
def PySem.W.Fast.tw16822885808074422554 : Nat := 0
def PySem.W.Fast.tw11619106523515813171 : Nat := 0
def PySem.W.Fast.tw10492268903930379337 : Nat := 0
def PySem.W.Fast.tw12028365152161138206 : Nat := 0
def PySem.W.Fast.tw9907004809246002508 : Nat := 0
def PySem.W.Fast.tw4670278672079071327 : Nat := 0
def PySem.W.Fast.tw14034701531475367891 : Nat := 0
def PySem.W.Fast.tw6427755831780414885 : Nat := 0
def PySem.W.Fast.tw9844668677742317368 : Nat := 0
def PySem.W.Fast.tw9083136908759270885 : Nat := 0
def PySem.W.Fast.tw7688655201234511498 : Nat := 0
def PySem.W.Fast.tw5135171502334571016 : Nat := 0
def PySem.W.Fast.tw10472621663758375577 : Nat := 0
def PySem.W.Fast.tw14739910630929388687 : Nat := 0
def PySem.W.Fast.tw9431194564583227116 : Nat := 0
def PySem.W.Fast.tw17130403338149995127 : Nat := 0
def PySem.W.Fast.tw15073872345993169595 : Nat := 0
def PySem.W.Fast.tw12892618480345863253 : Nat := 0
def PySem.W.Fast.tw12254370516815732394 : Nat := 0
def PySem.W.Fast.tw8646844204056819059 : Nat := 0
def PySem.W.Fast.tw1653983170995973922 : Nat := 0
def PySem.W.Fast.tw8430016875797511427 : Nat := 0
def PySem.W.Fast.tw1433031016755506802 : Nat := 0
def PySem.W.Fast.tw12515524161659501013 : Nat := 0
def PySem.W.Fast.tw10474365386744203209 : Nat := 0
def PySem.W.Fast.tw1279383370473745738 : Nat := 0
def PySem.W.Fast.tw10566831533429449836 : Nat := 0
def PySem.W.Fast.tw15575460718914763482 : Nat := 0
def PySem.W.Fast.tw11727655250166266450 : Nat := 0
def PySem.W.Fast.tw15535320608368127530 : Nat := 0
def PySem.W.Fast.tw6146507242848087355 : Nat := 0
def PySem.W.Fast.tw14380003006760138 : Nat := 0
def PySem.W.Fast.tw17618613990975554077 : Nat := 0
def PySem.W.Fast.tw5818134546567384418 : Nat := 0
def PySem.W.Fast.tw11989512533531052713 : Nat := 0
def PySem.W.Fast.tw2624680806391684397 : Nat := 0
namespace L2
theorem ofLen0 {p : List Value → Prop} (h : Unit → p []) : ∀ us, us.length = 0 → p us := fun us e => by rw [List.length_eq_zero_iff.mp e]; exact h ()
theorem ofLen1 {p : List Value → Prop} (h : ∀ a, p [a]) : ∀ us, us.length = 1 → p us := fun us e => by obtain ⟨a, rfl⟩ := List.length_eq_one_iff.mp e; exact h a
theorem ofLen2 {p : List Value → Prop} (h : ∀ a b, p [a, b]) : ∀ us, us.length = 2 → p us := fun us e => match us with
  | [] => by cases e
  | a :: r => ofLen1 (p := fun z => p (a :: z)) (h a) r (Nat.succ.inj e)
theorem ofLen3 {p : List Value → Prop} (h : ∀ a b c, p [a, b, c]) : ∀ us, us.length = 3 → p us := fun us e => match us with
  | [] => by cases e
  | a :: r => ofLen2 (p := fun z => p (a :: z)) (h a) r (Nat.succ.inj e)
theorem ofLen4 {p : List Value → Prop} (h : ∀ a b c d, p [a, b, c, d]) : ∀ us, us.length = 4 → p us := fun us e => match us with
  | [] => by cases e
  | a :: r => ofLen3 (p := fun z => p (a :: z)) (h a) r (Nat.succ.inj e)
theorem ofLen5 {p : List Value → Prop} (h : ∀ a b c d e, p [a, b, c, d, e]) : ∀ us, us.length = 5 → p us := fun us e => match us with
  | [] => by cases e
  | a :: r => ofLen4 (p := fun z => p (a :: z)) (h a) r (Nat.succ.inj e)
theorem ofLen6 {p : List Value → Prop} (h : ∀ a b c d e f, p [a, b, c, d, e, f]) : ∀ us, us.length = 6 → p us := fun us e => match us with
  | [] => by cases e
  | a :: r => ofLen5 (p := fun z => p (a :: z)) (h a) r (Nat.succ.inj e)
theorem ofLen7 {p : List Value → Prop} (h : ∀ a b c d e f g, p [a, b, c, d, e, f, g]) : ∀ us, us.length = 7 → p us := fun us e => match us with
  | [] => by cases e
  | a :: r => ofLen6 (p := fun z => p (a :: z)) (h a) r (Nat.succ.inj e)
theorem ofLen8 {p : List Value → Prop} (h : ∀ a b c d e f g h, p [a, b, c, d, e, f, g, h]) : ∀ us, us.length = 8 → p us := fun us e => match us with
  | [] => by cases e
  | a :: r => ofLen7 (p := fun z => p (a :: z)) (h a) r (Nat.succ.inj e)
end L2
set_option maxRecDepth 100000 in
set_option maxHeartbeats 0 in
theorem PySem.Challenge.cw_regrowth_k81_no_grammars_holds : PySem.Challenge.rw_regrowth_k81_no_grammars.Holds := by
  w_on; o_law; k_head; (case hw => w_witness2)
  k_fill
  refine L2.walk_ofK (l := PySem.Challenge.rw_regrowth_k81_no_grammars) (n := 63) (k := 7) (x := "_law_script") (CX := L2.CX0) (sp := K81.spLaw) rfl (by decide) rfl ⟨rfl, by decide, by decide, rfl⟩ (fun w h Y => PySem.W.kIn_of Y) ?F ?S ?C
  case F =>
    intro w mg fa h KX G hmg
    have R0 : L2.Raw (L2.KOf KX) mg "_law_cell_at" K81.st__law_cell_at ["_law_script", "_law_k"] := by
      dsimp only [L2.KOf]
      refine' L2.Raw.mk' KX G ?a0 ?l0 ?c0 ?k0 ?b0
      (case a0 => k_is)
      (case l0 => k_is)
      (case c0 => k_is)
      (case k0 => k_is)
      exact L2.ofLen2 fun _ _ => rfl
    have R1 : L2.Raw (L2.KOf KX) mg "may_write" K81.st_may_write ["sign"] := by
      dsimp only [L2.KOf]
      refine' L2.Raw.mk' KX G ?a1 ?l1 ?c1 ?k1 ?b1
      (case a1 => k_is)
      (case l1 => k_is)
      (case c1 => k_is)
      (case k1 => k_is)
      exact L2.ofLen1 fun _ => rfl
    have R2 : L2.Raw (L2.KOf KX) mg "signs_of" K81.st_signs_of ["text"] := by
      dsimp only [L2.KOf]
      refine' L2.Raw.mk' KX G ?a2 ?l2 ?c2 ?k2 ?b2
      (case a2 => k_is)
      (case l2 => k_is)
      (case c2 => k_is)
      (case k2 => k_is)
      exact L2.ofLen1 fun _ => rfl
    have R3 : L2.Raw (L2.KOf KX) mg "part_of" K81.st_part_of ["text"] := by
      dsimp only [L2.KOf]
      refine' L2.Raw.mk' KX G ?a3 ?l3 ?c3 ?k3 ?b3
      (case a3 => k_is)
      (case l3 => k_is)
      (case c3 => k_is)
      (case k3 => k_is)
      exact L2.ofLen1 fun _ => rfl
    have R4 : L2.Raw (L2.KOf KX) mg "form_of" K81.st_form_of ["text"] := by
      dsimp only [L2.KOf]
      refine' L2.Raw.mk' KX G ?a4 ?l4 ?c4 ?k4 ?b4
      (case a4 => k_is)
      (case l4 => k_is)
      (case c4 => k_is)
      (case k4 => k_is)
      exact L2.ofLen1 fun _ => rfl
    have R5 : L2.Raw (L2.KOf KX) mg "is_kind" K81.st_is_kind ["word"] := by
      dsimp only [L2.KOf]
      refine' L2.Raw.mk' KX G ?a5 ?l5 ?c5 ?k5 ?b5
      (case a5 => k_is)
      (case l5 => k_is)
      (case c5 => k_is)
      (case k5 => k_is)
      exact L2.ofLen1 fun _ => rfl
    have R6 : L2.Raw (L2.KOf KX) mg "kind_at" K81.st_kind_at ["words", "place"] := by
      dsimp only [L2.KOf]
      refine' L2.Raw.mk' KX G ?a6 ?l6 ?c6 ?k6 ?b6
      (case a6 => k_is)
      (case l6 => k_is)
      (case c6 => k_is)
      (case k6 => k_is)
      exact L2.ofLen2 fun _ _ => rfl
    have R7 : L2.Raw (L2.KOf KX) mg "is_rank" K81.st_is_rank ["word"] := by
      dsimp only [L2.KOf]
      refine' L2.Raw.mk' KX G ?a7 ?l7 ?c7 ?k7 ?b7
      (case a7 => k_is)
      (case l7 => k_is)
      (case c7 => k_is)
      (case k7 => k_is)
      exact L2.ofLen1 fun _ => rfl
    have R8 : L2.Raw (L2.KOf KX) mg "bare_part" K81.st_bare_part ["word"] := by
      dsimp only [L2.KOf]
      refine' L2.Raw.mk' KX G ?a8 ?l8 ?c8 ?k8 ?b8
      (case a8 => k_is)
      (case l8 => k_is)
      (case c8 => k_is)
      (case k8 => k_is)
      exact L2.ofLen1 fun _ => rfl
    have R9 : L2.Raw (L2.KOf KX) mg "place_signed" K81.st_place_signed ["words", "sign"] := by
      dsimp only [L2.KOf]
      refine' L2.Raw.mk' KX G ?a9 ?l9 ?c9 ?k9 ?b9
      (case a9 => k_is)
      (case l9 => k_is)
      (case c9 => k_is)
      (case k9 => k_is)
      exact L2.ofLen2 fun _ _ => rfl
    have R10 : L2.Raw (L2.KOf KX) mg "note_of" K81.st_note_of ["words"] := by
      dsimp only [L2.KOf]
      refine' L2.Raw.mk' KX G ?a10 ?l10 ?c10 ?k10 ?b10
      (case a10 => k_is)
      (case l10 => k_is)
      (case c10 => k_is)
      (case k10 => k_is)
      exact L2.ofLen1 fun _ => rfl
    have R11 : L2.Raw (L2.KOf KX) mg "put_form" K81.st_put_form ["book", "kind", "words"] := by
      dsimp only [L2.KOf]
      refine' L2.Raw.mk' KX G ?a11 ?l11 ?c11 ?k11 ?b11
      (case a11 => k_is)
      (case l11 => k_is)
      (case c11 => k_is)
      (case k11 => k_is)
      exact L2.ofLen3 fun _ _ _ => rfl
    have R12 : L2.Raw (L2.KOf KX) mg "put_end" K81.st_put_end ["ends", "words"] := by
      dsimp only [L2.KOf]
      refine' L2.Raw.mk' KX G ?a12 ?l12 ?c12 ?k12 ?b12
      (case a12 => k_is)
      (case l12 => k_is)
      (case c12 => k_is)
      (case k12 => k_is)
      exact L2.ofLen2 fun _ _ => rfl
    have R13 : L2.Raw (L2.KOf KX) mg "rule_of" K81.st_rule_of ["words"] := by
      dsimp only [L2.KOf]
      refine' L2.Raw.mk' KX G ?a13 ?l13 ?c13 ?k13 ?b13
      (case a13 => k_is)
      (case l13 => k_is)
      (case c13 => k_is)
      (case k13 => k_is)
      exact L2.ofLen1 fun _ => rfl
    have R14 : L2.Raw (L2.KOf KX) mg "check_notes" K81.st_check_notes ["rules", "notes"] := by
      dsimp only [L2.KOf]
      refine' L2.Raw.mk' KX G ?a14 ?l14 ?c14 ?k14 ?b14
      (case a14 => k_is)
      (case l14 => k_is)
      (case c14 => k_is)
      (case k14 => k_is)
      exact L2.ofLen2 fun _ _ => rfl
    have R15 : L2.Raw (L2.KOf KX) mg "grammar_of" K81.st_grammar_of ["text"] := by
      dsimp only [L2.KOf]
      refine' L2.Raw.mk' KX G ?a15 ?l15 ?c15 ?k15 ?b15
      (case a15 => k_is)
      (case l15 => k_is)
      (case c15 => k_is)
      (case k15 => k_is)
      exact L2.ofLen1 fun _ => rfl
    have R16 : L2.Raw (L2.KOf KX) mg "_law_names" K81.st__law_names ["_law_cell", "_law_many"] := by
      dsimp only [L2.KOf]
      refine' L2.Raw.mk' KX G ?a16 ?l16 ?c16 ?k16 ?b16
      (case a16 => k_is)
      (case l16 => k_is)
      (case c16 => k_is)
      (case k16 => k_is)
      exact L2.ofLen2 fun _ _ => rfl
    have R17 : L2.Raw (L2.KOf KX) mg "_law_told" K81.st__law_told ["_law_text"] := by
      dsimp only [L2.KOf]
      refine' L2.Raw.mk' KX G ?a17 ?l17 ?c17 ?k17 ?b17
      (case a17 => k_is)
      (case l17 => k_is)
      (case c17 => k_is)
      (case k17 => k_is)
      exact L2.ofLen1 fun _ => rfl
    have R18 : L2.Raw (L2.KOf KX) mg "_law_no_row" K81.st__law_no_row ["_law_cell", "_law_names_here"] := by
      dsimp only [L2.KOf]
      refine' L2.Raw.mk' KX G ?a18 ?l18 ?c18 ?k18 ?b18
      (case a18 => k_is)
      (case l18 => k_is)
      (case c18 => k_is)
      (case k18 => k_is)
      exact L2.ofLen2 fun _ _ => rfl
    have R19 : L2.Raw (L2.KOf KX) mg "_law_no_form" K81.st__law_no_form ["_law_cell", "_law_names_here"] := by
      dsimp only [L2.KOf]
      refine' L2.Raw.mk' KX G ?a19 ?l19 ?c19 ?k19 ?b19
      (case a19 => k_is)
      (case l19 => k_is)
      (case c19 => k_is)
      (case k19 => k_is)
      exact L2.ofLen2 fun _ _ => rfl
    have R20 : L2.Raw (L2.KOf KX) mg "_law_bad" K81.st__law_bad ["_law_cell", "_law_names_here"] := by
      dsimp only [L2.KOf]
      refine' L2.Raw.mk' KX G ?a20 ?l20 ?c20 ?k20 ?b20
      (case a20 => k_is)
      (case l20 => k_is)
      (case c20 => k_is)
      (case k20 => k_is)
      exact L2.ofLen2 fun _ _ => rfl
    have R21 : L2.Raw (L2.KOf KX) mg "_law_good" K81.st__law_good ["_law_cell", "_law_names_here", "_law_k"] := by
      dsimp only [L2.KOf]
      refine' L2.Raw.mk' KX G ?a21 ?l21 ?c21 ?k21 ?b21
      (case a21 => k_is)
      (case l21 => k_is)
      (case c21 => k_is)
      (case k21 => k_is)
      exact L2.ofLen3 fun _ _ _ => rfl
    have R22 : L2.Raw (L2.KOf KX) mg "_law_rows" K81.st__law_rows ["_law_script", "_law_names_here"] := by
      dsimp only [L2.KOf]
      refine' L2.Raw.mk' KX G ?a22 ?l22 ?c22 ?k22 ?b22
      (case a22 => k_is)
      (case l22 => k_is)
      (case c22 => k_is)
      (case k22 => k_is)
      exact L2.ofLen2 fun _ _ => rfl
    have R23 : L2.Raw (L2.KOf KX) mg "law" K81.st_law ["_law_script"] := by
      dsimp only [L2.KOf]
      refine' L2.Raw.mk' KX G ?a23 ?l23 ?c23 ?k23 ?b23
      (case a23 => k_is)
      (case l23 => k_is)
      (case c23 => k_is)
      (case k23 => k_is)
      exact L2.ofLen1 fun _ => rfl
    have n_ValueError : mg "ValueError" = none := PySem.W.mg_none_of KX G (by k_is)
    have n_all : mg "all" = none := PySem.W.mg_none_of KX G (by k_is)
    have n_any : mg "any" = none := PySem.W.mg_none_of KX G (by k_is)
    have n_enumerate : mg "enumerate" = none := PySem.W.mg_none_of KX G (by k_is)
    have n_int : mg "int" = none := PySem.W.mg_none_of KX G (by k_is)
    have n_isinstance : mg "isinstance" = none := PySem.W.mg_none_of KX G (by k_is)
    have n_len : mg "len" = none := PySem.W.mg_none_of KX G (by k_is)
    have n_list : mg "list" = none := PySem.W.mg_none_of KX G (by k_is)
    have n_max : mg "max" = none := PySem.W.mg_none_of KX G (by k_is)
    have n_min : mg "min" = none := PySem.W.mg_none_of KX G (by k_is)
    have n_ord : mg "ord" = none := PySem.W.mg_none_of KX G (by k_is)
    have n_range : mg "range" = none := PySem.W.mg_none_of KX G (by k_is)
    have n_tuple : mg "tuple" = none := PySem.W.mg_none_of KX G (by k_is)
    have n_zip : mg "zip" = none := PySem.W.mg_none_of KX G (by k_is)
    have g_MOST_PARTS : ∃ t, mg "MOST_PARTS" = some (.int 12 t) := by
      refine' L2.int_mk KX G ?aMOST_PARTS
      (case aMOST_PARTS => k_is)
    have g_MOST_SIGNS : ∃ t, mg "MOST_SIGNS" = some (.int 100 t) := by
      refine' L2.int_mk KX G ?aMOST_SIGNS
      (case aMOST_SIGNS => k_is)
    have g_PERCENT : ∃ t, mg "PERCENT" = some (.int 37 t) := by
      refine' L2.int_mk KX G ?aPERCENT
      (case aPERCENT => k_is)
    have g_MOST_FORMS : ∃ t, mg "MOST_FORMS" = some (.int 24 t) := by
      refine' L2.int_mk KX G ?aMOST_FORMS
      (case aMOST_FORMS => k_is)
    have g_MOST_ENDS : ∃ t, mg "MOST_ENDS" = some (.int 24 t) := by
      refine' L2.int_mk KX G ?aMOST_ENDS
      (case aMOST_ENDS => k_is)
    have g_MOST_LETTERS : ∃ t, mg "MOST_LETTERS" = some (.int 12 t) := by
      refine' L2.int_mk KX G ?aMOST_LETTERS
      (case aMOST_LETTERS => k_is)
    have g_GAP : ∃ t, mg "GAP" = some (.str "" t) := by
      refine' L2.str_mk KX G ?aGAP
      (case aGAP => k_is)
    have g_ROW_MANIES : ∃ t, mg "ROW_MANIES" = some (.ref t) ∧ ∀ H, L2.SqT (L2.KOf KX) H t [.str "once", .str "ahead", .str "not"] := by
      dsimp only [L2.KOf]
      refine' L2.tup_mk KX G ?aROW_MANIES ?lROW_MANIES ?zROW_MANIES ?vROW_MANIES
      (case aROW_MANIES => k_is)
      (case lROW_MANIES => k_is)
      (case zROW_MANIES => decide)
      (case vROW_MANIES => exact .cons ⟨_, rfl⟩ (.cons ⟨_, rfl⟩ (.cons ⟨_, rfl⟩ .nil)))
    obtain ⟨a_ROW_MANIES, g_ROW_MANIES, k_ROW_MANIES⟩ := g_ROW_MANIES
    have g_NO_KINDS : ∃ t, mg "NO_KINDS" = some (.ref t) ∧ ∀ H, L2.SqT (L2.KOf KX) H t [.str "end", .str "stray"] := by
      dsimp only [L2.KOf]
      refine' L2.tup_mk KX G ?aNO_KINDS ?lNO_KINDS ?zNO_KINDS ?vNO_KINDS
      (case aNO_KINDS => k_is)
      (case lNO_KINDS => k_is)
      (case zNO_KINDS => decide)
      (case vNO_KINDS => exact .cons ⟨_, rfl⟩ (.cons ⟨_, rfl⟩ .nil))
    obtain ⟨a_NO_KINDS, g_NO_KINDS, k_NO_KINDS⟩ := g_NO_KINDS
    have g_DEEDS_grammars : ∃ t, mg "DEEDS_grammars" = some (.ref t) ∧ ∀ H, L2.SqT (L2.KOf KX) H t [.str "stop", .str "open", .str "close"] := by
      dsimp only [L2.KOf]
      refine' L2.tup_mk KX G ?aDEEDS_grammars ?lDEEDS_grammars ?zDEEDS_grammars ?vDEEDS_grammars
      (case aDEEDS_grammars => k_is)
      (case lDEEDS_grammars => k_is)
      (case zDEEDS_grammars => decide)
      (case vDEEDS_grammars => exact .cons ⟨_, rfl⟩ (.cons ⟨_, rfl⟩ (.cons ⟨_, rfl⟩ .nil)))
    obtain ⟨a_DEEDS_grammars, g_DEEDS_grammars, k_DEEDS_grammars⟩ := g_DEEDS_grammars
    have g_SIDES : ∃ t, mg "SIDES" = some (.ref t) ∧ ∀ H, L2.SqT (L2.KOf KX) H t [.str "left", .str "right", .str "none"] := by
      dsimp only [L2.KOf]
      refine' L2.tup_mk KX G ?aSIDES ?lSIDES ?zSIDES ?vSIDES
      (case aSIDES => k_is)
      (case lSIDES => k_is)
      (case zSIDES => decide)
      (case vSIDES => exact .cons ⟨_, rfl⟩ (.cons ⟨_, rfl⟩ (.cons ⟨_, rfl⟩ .nil)))
    obtain ⟨a_SIDES, g_SIDES, k_SIDES⟩ := g_SIDES
    have g_DEEDS_forms : ∃ t, mg "DEEDS_forms" = some (.ref t) ∧ L2.KTab (L2.KOf KX) w t K81.kvDeeds := by
      dsimp only [L2.KOf]
      refine' L2.dict_mk KX G ?aDEEDS_forms ?lDEEDS_forms ?kDEEDS_forms ?pDEEDS_forms ?sDEEDS_forms
      (case aDEEDS_forms => k_is)
      (case lDEEDS_forms => k_is)
      (case kDEEDS_forms => repeat (first | exact True.intro | refine And.intro ⟨_, _, rfl, rfl⟩ ?_))
      (case pDEEDS_forms => repeat (first | exact .nil | refine .cons ⟨⟨_, rfl⟩, ⟨_, rfl⟩⟩ ?_))
      (case sDEEDS_forms => decide)
    obtain ⟨a_DEEDS_forms, g_DEEDS_forms, k_DEEDS_forms⟩ := g_DEEDS_forms
    have g_MANIES : ∃ t, mg "MANIES" = some (.ref t) ∧ L2.KTab (L2.KOf KX) w t K81.kvManies := by
      dsimp only [L2.KOf]
      refine' L2.dict_mk KX G ?aMANIES ?lMANIES ?kMANIES ?pMANIES ?sMANIES
      (case aMANIES => k_is)
      (case lMANIES => k_is)
      (case kMANIES => repeat (first | exact True.intro | refine And.intro ⟨_, _, rfl, rfl⟩ ?_))
      (case pMANIES => repeat (first | exact .nil | refine .cons ⟨⟨_, rfl⟩, ⟨_, rfl⟩⟩ ?_))
      (case sMANIES => decide)
    obtain ⟨a_MANIES, g_MANIES, k_MANIES⟩ := g_MANIES
    have g_MEANT : ∃ t, mg "MEANT" = some (.ref t) ∧ L2.KTab (L2.KOf KX) w t K81.kvMeant := by
      dsimp only [L2.KOf]
      refine' L2.dict_mk KX G ?aMEANT ?lMEANT ?kMEANT ?pMEANT ?sMEANT
      (case aMEANT => k_is)
      (case lMEANT => k_is)
      (case kMEANT => repeat (first | exact True.intro | refine And.intro ⟨_, _, rfl, rfl⟩ ?_))
      (case pMEANT => repeat (first | exact .nil | refine .cons ⟨⟨_, rfl⟩, ⟨_, rfl⟩⟩ ?_))
      (case sMEANT => decide)
    obtain ⟨a_MEANT, g_MEANT, k_MEANT⟩ := g_MEANT
    have T2 : ∃ CR CF CG cs, K81.Cls (L2.KOf KX) mg CR CF CG cs := by
      dsimp only [L2.KOf]
      refine' K81.cls_mk KX G n_isinstance n_ValueError n_int ?a1 ?a2 ?a3 ?c0 ?c1 ?c2 ?xg ?z1a ?z2a ?z3a ?z4a ?z5a ?upa ?z1b ?z2b ?z3b ?z4b ?z5b ?upb ?ve1 ?ve2 ?no0 ?no1 ?no2 ?no3 ?no4 ?no5 ?ve3 ?ve4 ?no6 ?no7
      (case a1 => k_is)
      (case a2 => k_is)
      (case a3 => k_is)
      (case c0 => k_is)
      (case c1 => k_is)
      (case c2 => k_is)
      (case xg => first | k_exc | rfl | decide)
      (case z1a => first | k_exc | rfl | decide)
      (case z2a => k_is)
      (case z3a => k_is)
      (case z4a => k_is)
      (case z5a => k_is)
      (case upa => k_is)
      (case z1b => first | k_exc | rfl | decide)
      (case z2b => k_is)
      (case z3b => k_is)
      (case z4b => k_is)
      (case z5b => k_is)
      (case upb => k_is)
      (case ve1 => first | kit_is | rfl | decide)
      (case ve2 => first | kit_is | rfl | decide)
      (case no0 => first | kit_is | rfl | decide)
      (case no1 => first | kit_is | rfl | decide)
      (case no2 => first | kit_is | rfl | decide)
      (case no3 => first | kit_is | rfl | decide)
      (case no4 => first | kit_is | rfl | decide)
      (case no5 => first | kit_is | rfl | decide)
      (case ve3 => first | kit_is | rfl | decide)
      (case ve4 => first | kit_is | rfl | decide)
      (case no6 => first | kit_is | rfl | decide)
      (case no7 => first | kit_is | rfl | decide)
    obtain ⟨CR, CF, CG, cs, T2⟩ := T2
    obtain ⟨i_MP, e_MP⟩ := g_MOST_PARTS
    obtain ⟨i_MS, e_MS⟩ := g_MOST_SIGNS
    obtain ⟨i_PC, e_PC⟩ := g_PERCENT
    have T : K81.Txt (L2.KOf KX) w mg a_DEEDS_forms a_MANIES a_ROW_MANIES a_MEANT CF i_MP i_MS i_PC := ⟨n_len, n_ord, n_list, n_isinstance, e_MP, e_MS, e_PC, g_DEEDS_forms, g_MANIES, g_ROW_MANIES, g_MEANT, T2.c_NoForm, T2.ZF.exc, k_DEEDS_forms, k_MANIES, k_MEANT, k_ROW_MANIES⟩
    have TT : K81.Txt2 (L2.KOf KX) w mg a_NO_KINDS a_DEEDS_grammars a_SIDES CR := ⟨n_len, n_range, n_int, n_tuple, n_list, n_all, n_any, n_enumerate, n_zip, n_min, n_max, g_GAP, g_MOST_FORMS, g_MOST_ENDS, g_MOST_LETTERS, g_NO_KINDS, g_DEEDS_grammars, g_SIDES, k_NO_KINDS, k_DEEDS_grammars, k_SIDES, T2.c_NoRow, T2.ZR.exc⟩
    obtain ⟨f, fd, hf, Fu, hb⟩ := R23.ex
    have e0 := hmg.symm.trans hf
    cases e0
    refine ⟨fd, fun s u => ?_, fun base kb nb => (K81.law_of R0 R1 R2 R3 R4 R5 R6 R7 R8 R9 R10 R11 R12 R13 R14 R15 R16 R17 R18 R19 R20 R21 R22 ⟨⟨_, fd, hf, Fu, hb⟩⟩ T TT T2).at hf Fu.lk⟩
    exact .of_eq (hb [u] rfl)
  case S => exact fun K H a ns hl hO hS => ⟨a, ns, rfl, hS, hl, fun _ => rfl⟩
  case C => exact fun _ _ _ _ z => z

