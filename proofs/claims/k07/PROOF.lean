import PyProof.Rows.All
import Wide.All
import OpenK.AllK
import Wide.FinOn
import Lean
import PyProof.EqAt
import PyProof.EqKinds
import PyProof.TupleCall
import PyProof.ListRange
import PyProof.ZipIter
import PyProof.Rows.ZipGen
import OpenK.KRaise
import OpenK.KOwn
import PyProof.ExcClass3
import PyProof.ExcBaseAll.ValueError
import PyProof.FString
import PyProof.FString4
import PyProof.StrLawsRepr
import PyProof.NsDelKeeps
import PyProof.Rows.Catch
import PyProof.ExcArgsOwn
import PyProof.ExcAttrAll.ValueError
import OpenK.KDescr
import KE.KIsAll
import PyProof.StrLawsChain
import PyProof.StrBlockI
import PyProof.StrBlock2
import KE.RegKIsAll
import PySem.Challenge.RW_regrowth_k07_no_forms
set_option Elab.async false
set_option linter.all false
set_option maxRecDepth 100000
namespace L2
open PySem PySem.Spec PyProof.Rows

abbrev Key := Sum Int Str
def keyIs : Key → Value → Bool
  | .inl k, v => Value.isInt k v
  | .inr x, v => Value.isStrOf x v
def keyH (w : World) : Key → Int
  | .inl k => hashInt k
  | .inr x => hashStr w x
theorem keyIs_shape : ∀ {k : Key} {v : Value}, keyIs k v = true → (∃ i t, k = Sum.inl i ∧ v = Value.int i t) ∨ (∃ x t, k = Sum.inr x ∧ v = Value.str x t)
  | .inl i, v, h => by
    obtain ⟨t, e⟩ := Value.isInt_shape (k := i) (v := v) h
    exact .inl ⟨i, t, rfl, e⟩
  | .inr x, v, h => by
    obtain ⟨t, e⟩ := Value.isStrOf_shape (x := x) (v := v) h
    exact .inr ⟨x, t, rfl, e⟩
theorem keyIs_int (i : Int) (t : Tok) : keyIs (.inl i) (.int i t) = true := by simp [keyIs, Value.isInt]
theorem keyIs_str (x : Str) (t : Tok) : keyIs (.inr x) (.str x t) = true := by simp [keyIs, Value.isStrOf]
theorem key_ll (a b : Int) : decide ((Sum.inl a : Key) = Sum.inl b) = (a == b) := by
  by_cases e : a = b
  · subst e; simp
  · have h : ¬ (Sum.inl a : Key) = Sum.inl b := fun q => e (Sum.inl.inj q)
    rw [decide_eq_false h]
    exact (beq_eq_false_iff_ne.mpr e).symm
theorem key_rr (a b : Str) : decide ((Sum.inr a : Key) = Sum.inr b) = decide (a = b) := by
  by_cases e : a = b
  · subst e; simp
  · have h : ¬ (Sum.inr a : Key) = Sum.inr b := fun q => e (Sum.inr.inj q)
    rw [decide_eq_false h, decide_eq_false e]
theorem key_lr (a : Int) (b : Str) : decide ((Sum.inl a : Key) = Sum.inr b) = false := decide_eq_false (fun q => nomatch q)
theorem key_rl (a : Str) (b : Int) : decide ((Sum.inr a : Key) = Sum.inl b) = false := decide_eq_false (fun q => nomatch q)

def mixKind (prog : Program) (w : World) : PySem.KeyKind prog w Key where
  is := keyIs
  hash := keyH w
  inj := fun v a b ha hb => by
    rcases keyIs_shape ha with ⟨i, t, rfl, rfl⟩ | ⟨x, t, rfl, rfl⟩
    · rcases keyIs_shape hb with ⟨j, u, rfl, e⟩ | ⟨y, u, rfl, e⟩
      · injection e with e1 _; rw [e1]
      · exact nomatch e
    · rcases keyIs_shape hb with ⟨j, u, rfl, e⟩ | ⟨y, u, rfl, e⟩
      · exact nomatch e
      · injection e with e1 _; rw [e1]
  byValue := fun k v h => by
    rcases keyIs_shape h with ⟨i, t, rfl, rfl⟩ | ⟨x, t, rfl, rfl⟩ <;> rfl
  pyHash := fun hv h => by
    rcases keyIs_shape hv with ⟨i, t, rfl, rfl⟩ | ⟨x, t, rfl, rfl⟩
    · exact wpAny_pyHash_int h
    · exact wpAny_pyHash_str h
  eqBool := fun hu hv h => by
    rcases keyIs_shape hu with ⟨i, t, rfl, rfl⟩ | ⟨x, t, rfl, rfl⟩
    · rcases keyIs_shape hv with ⟨j, u, rfl, rfl⟩ | ⟨y, u, rfl, rfl⟩
      · rw [key_ll] at h; exact wpAny_eqBool_int h
      · rw [key_lr] at h; exact SeqAt.EqAt.int_str i t y u _ _ _ _ h
    · rcases keyIs_shape hv with ⟨j, u, rfl, rfl⟩ | ⟨y, u, rfl, rfl⟩
      · rw [key_rl] at h; exact SeqAt.EqAt.str_int x t j u _ _ _ _ h
      · rw [key_rr] at h; exact wpAny_eqBool_str h
  «strs» := fun k x t v h => by
    rcases keyIs_shape h with ⟨i, u, rfl, e⟩ | ⟨y, u, rfl, e⟩
    · exact nomatch e
    · injection e with e1 _
      subst e1
      cases v <;> rfl

theorem mixKind_int (prog : Program) (w : World) (i : Int) (t : Tok) : (mixKind prog w).is (.inl i) (.int i t) = true := keyIs_int i t
theorem mixKind_str (prog : Program) (w : World) (x : Str) (t : Tok) : (mixKind prog w).is (.inr x) (.str x t) = true := keyIs_str x t
end L2

namespace L2
open PySem PySem.Spec PyProof.Rows

inductive V where
  | non | bl (b : Bool) | int (i : Int) | str (x : Str) | byt (b : Array UInt8) | flt (b : UInt64) | ref (a : Addr) | ty (n : String)
  deriving DecidableEq

def RelV : V → Value → Prop
  | .non, u => u = Value.none
  | .bl b, u => u = Value.bool b
  | .int i, u => ∃ t, u = Value.int i t
  | .str x, u => ∃ t, u = Value.str x t
  | .byt b, u => ∃ t, u = Value.bytes b t
  | .flt b, u => ∃ t, u = Value.float b t
  | .ref a, u => u = Value.ref a
  | .ty n, u => u = Value.type n

abbrev Vals : List V → List Value → Prop := Paired RelV
theorem Vals.length {xs : List V} {us : List Value} (r : Vals xs us) : xs.length = us.length := Paired.length r
theorem Vals.get : ∀ {xs : List V} {us : List Value} {i : Nat} {x : V}, Vals xs us → xs[i]? = some x → ∃ u, us[i]? = some u ∧ RelV x u
  | _, _, _, _, .nil, e => by simp at e
  | _, _, 0, _, .cons r _, e => by simp at e; subst e; exact ⟨_, rfl, r⟩
  | _, _, i + 1, x, .cons _ t, e => by
    obtain ⟨u, h1, h2⟩ := Vals.get (i := i) (x := x) t (by simpa using e)
    exact ⟨u, by simpa using h1, h2⟩
theorem Vals.set {x : V} {u : Value} (r : RelV x u) : ∀ {xs : List V} {us : List Value} (i : Nat), Vals xs us → Vals (xs.set i x) (us.set i u)
  | _, _, _, .nil => .nil
  | _, _, 0, .cons _ t => .cons r t
  | _, _, i + 1, .cons q t => .cons q (Vals.set r i t)
theorem Vals.append : ∀ {xs ys : List V} {us ws : List Value}, Vals xs us → Vals ys ws → Vals (xs ++ ys) (us ++ ws)
  | _, _, _, _, .nil, s => s
  | _, _, _, _, .cons r t, s => .cons r (Vals.append t s)
theorem Vals.take : ∀ {xs : List V} {us : List Value} (n : Nat), Vals xs us → Vals (xs.take n) (us.take n)
  | _, _, 0, _ => .nil
  | _, _, _ + 1, .nil => .nil
  | _, _, n + 1, .cons r t => .cons r (Vals.take n t)
theorem Vals.drop : ∀ {xs : List V} {us : List Value} (n : Nat), Vals xs us → Vals (xs.drop n) (us.drop n)
  | _, _, 0, r => r
  | _, _, _ + 1, .nil => .nil
  | _, _, n + 1, .cons _ t => Vals.drop n t
def RelO : Option V → Option Value → Prop
  | some v, some u => RelV v u
  | none, none => True
  | _, _ => False
def KV {κ : Type} : List (κ × V) → List (κ × Value) → Prop := Paired fun (p : κ × V) (q : κ × Value) => p.1 = q.1 ∧ RelV p.2 q.2

def kV : Key → V
  | .inl i => .int i
  | .inr x => .str x

inductive HO where
  /-- a list -/
  | lst (xs : List V)
  /-- a tuple (never changes) -/
  | tup (xs : List V)
  /-- a dict whose keys are ints and texts; one whose keys are tuples of ints and texts (the empty one is both) -/
  | dK (kvs : List (Key × V)) | dT (kvs : List (List Key × V))
  /-- a set of ints: its members, its size -/
  | set (S : Int → Bool) (n : Nat)
  /-- an instance of the class at C, its dict at dx, its attributes -/
  | ins (C dx : Addr) (fs : List (Str × V))
  /-- the dict of the instance at x -/
  | own (x : Addr)
  /-- the dict of an exception -/
  | xd (fs : List (Str × V))
  /-- a bound method, f of x -/
  | met (f x : Addr)
  /-- a range object lo, lo + 1, .. below hi -/
  | rng (lo hi : Int)
  /-- a thing that is known to the object (the script; a dict while a loop walks it): read, never written while it is so -/
  | frz (o : Obj) (u : HO)
  /-- a code object's table -/
  | tbl (ps : Array Value)
  /-- any other thing, by what is true of its one object (a def of one's own: SetO a S n := HO.ext fun h => ..) -/
  | ext (φ : Heap → Prop)

abbrev Hp := Addr → Option HO
def upd (H : Hp) (a : Addr) (o : HO) : Hp := fun b => if b = a then some o else H b
theorem upd_same {H : Hp} {a : Addr} {o : HO} : upd H a o a = some o := by unfold upd; rw [if_pos rfl]
theorem upd_ne {H : Hp} {a b : Addr} {o : HO} (h : b ≠ a) : upd H a o b = H b := by unfold upd; rw [if_neg h]
theorem ne_of_none {H : Hp} {a b : Addr} {o : HO} (h : H a = some o) (h' : H b = none) : a ≠ b := by
  intro e; subst e; rw [h] at h'; cases h'

section
variable (P : Program) (w : World)
def ObjOk (H : Hp) (h : Heap) (a : Addr) : HO → Prop
  | .lst xs => xs.length ≤ sizeLine ∧ ∃ (its : List Value) (n : Nat), Vals xs its ∧ h.get? a = some { cls := .type "list", data := .seq its.toArray n }
  | .tup xs => xs.length ≤ sizeLine ∧ ∃ its : List Value, Vals xs its ∧ IsTup h a its.toArray
  | .dK kvs => kvs.length ≤ sizeLine ∧ (a == sysModules) = false ∧ ∃ vs, KV kvs vs ∧ h.DictOf (mixKind P w) a vs
  | .dT kvs => kvs.length ≤ sizeLine ∧ (a == sysModules) = false ∧ ∃ xs : List (List Key × Addr × Value),
      Paired (fun (p : List Key × V) (q : List Key × Addr × Value) => p.1 = q.1 ∧ H q.2.1 = some (.tup (p.1.map kV)) ∧ RelV p.2 q.2.2) kvs xs ∧
      ∃ o es ep, h.get? a = some o ∧ o.ExactDict ∧ o.data = .dict es ep ∧ es.toList = xs.map (entryOfKey (tupleKind (mixKind P w))) ∧ (xs.map (·.1)).Nodup
  | .set S n => h.SetOf (intKind P w) a S n
  | .ins C dx fs => H dx = some (.own a) ∧ fs.length ≤ 1000 ∧ dx ≠ a ∧ h.get? a = some (PySem.W.instObj C dx) ∧
      ∃ mA, h.Ns1 dx mA ∧ (∀ f, RelO (fs.lookup f) (mA f)) ∧ PySem.Within mA (fs.map (·.1))
  | .own _ => ∃ o, h.get? a = some o
  | .xd fs => ∃ mA, h.Ns1 a mA ∧ ∀ f, RelO (fs.lookup f) (mA f)
  | .rng lo hi => ∃ t u v, h.get? a = some { cls := .type "range", data := .fields #[.int lo t, .int hi u, .int 1 v] }
  | .frz o u => h.get? a = some o ∧ ObjOk H h a u
  | .tbl ps => h.get? a = some { cls := .none, data := .fields ps }
  | .met f x => h.get? a = some (PySem.W.methodObj (.ref f) (.ref x))
  | .ext φ => φ h ∧ (∃ o, h.get? a = some o) ∧ ∀ h1 h2 : Heap, φ h1 → (∀ o, h1.get? a = some o → h2.get? a = some o) → φ h2
def HOk (H : Hp) (h : Heap) : Prop := ∀ a o, H a = some o → ObjOk P w H h a o
end

section
variable {P : Program} {w : World} {H H' : Hp} {h h' : Heap} {a : Addr} {o : HO}
theorem ObjOk.lt (x : ObjOk P w H h a o) : a < h.objs.size := by
  cases o with
  | lst xs => obtain ⟨_, _, _, _, e⟩ := x; exact Heap.lt_size e
  | tup xs => obtain ⟨_, _, _, p⟩ := x; exact p.lt
  | dK kvs => obtain ⟨_, _, _, _, o, _, _, e, _⟩ := x; exact Heap.lt_size e
  | dT kvs => obtain ⟨_, _, _, _, o, _, _, e, _⟩ := x; exact Heap.lt_size e
  | set S n => obtain ⟨o, _, _, _, e, _⟩ := x; exact Heap.lt_size e
  | ins C dx fs => obtain ⟨_, _, _, e, _⟩ := x; exact Heap.lt_size e
  | own y => obtain ⟨_, e⟩ := x; exact Heap.lt_size e
  | xd fs => obtain ⟨_, ⟨_, _, _, e, _⟩, _⟩ := x; exact Heap.lt_size e
  | rng lo hi => obtain ⟨_, _, _, e⟩ := x; exact Heap.lt_size e
  | frz ob u => obtain ⟨e, _⟩ := x; exact Heap.lt_size e
  | tbl ps => exact Heap.lt_size (show h.get? a = some _ from x)
  | met f y => exact Heap.lt_size (show h.get? a = some _ from x)
  | ext φ => obtain ⟨_, ⟨_, e⟩, _⟩ := x; exact Heap.lt_size e
theorem Paired.mapP {α β : Type} {F G : α → β → Prop} : ∀ {l₁ : List α} {l₂ : List β}, Paired F l₁ l₂ → (∀ a b, F a b → G a b) → Paired G l₁ l₂
  | _, _, .nil, _ => .nil
  | _, _, .cons r t, f => .cons (f _ _ r) (Paired.mapP t f)
theorem ObjOk.stay (x : ObjOk P w H h a o) (k : ∀ b u, (b = a ∨ H b = some (.own a)) → h.get? b = some u → h'.get? b = some u)
    (ho : ∀ b, H b = some (.own a) → H' b = some (.own a)) (ht : ∀ b xs, H b = some (.tup xs) → H' b = some (.tup xs)) : ObjOk P w H' h' a o := by
  induction o with
  | lst xs => obtain ⟨z, its, n, r, e⟩ := x; exact ⟨z, its, n, r, k _ _ (.inl rfl) e⟩
  | tup xs => obtain ⟨z, its, r, ob, e, c⟩ := x; exact ⟨z, its, r, ob, k _ _ (.inl rfl) e, c⟩
  | dK kvs => obtain ⟨z, y, vs, r, ob, es, ep, e, c⟩ := x; exact ⟨z, y, vs, r, ob, es, ep, k _ _ (.inl rfl) e, c⟩
  | dT kvs =>
    obtain ⟨z, y, xs, r, ob, es, ep, e, c⟩ := x
    exact ⟨z, y, xs, Paired.mapP r fun p q z => ⟨z.1, ht _ _ z.2.1, z.2.2⟩, ob, es, ep, k _ _ (.inl rfl) e, c⟩
  | set S n => obtain ⟨ob, es, ep, t, e, c⟩ := x; exact ⟨ob, es, ep, t, k _ _ (.inl rfl) e, c⟩
  | ins C dx fs =>
    obtain ⟨d, z, ne, e, mA, ⟨od, es, ep, e2, c⟩, r⟩ := x
    exact ⟨ho _ d, z, ne, k _ _ (.inl rfl) e, mA, ⟨od, es, ep, k _ _ (.inr d) e2, c⟩, r⟩
  | own y => obtain ⟨ob, e⟩ := x; exact ⟨ob, k _ _ (.inl rfl) e⟩
  | xd fs => obtain ⟨mA, ⟨od, es, ep, e, c⟩, r⟩ := x; exact ⟨mA, ⟨od, es, ep, k _ _ (.inl rfl) e, c⟩, r⟩
  | rng lo hi => obtain ⟨t, u, v, e⟩ := x; exact ⟨t, u, v, k _ _ (.inl rfl) e⟩
  | frz ob u ih => obtain ⟨e, q⟩ := x; exact ⟨k _ _ (.inl rfl) e, ih q⟩
  | tbl ps =>
    have e : h.get? a = some { cls := .none, data := .fields ps } := x
    show h'.get? a = some { cls := .none, data := .fields ps }
    exact k a _ (.inl rfl) e
  | met f y =>
    have e : h.get? a = some (PySem.W.methodObj (.ref f) (.ref y)) := x
    show h'.get? a = some (PySem.W.methodObj (.ref f) (.ref y))
    exact k a _ (.inl rfl) e
  | ext φ => obtain ⟨p, ⟨o, e⟩, st⟩ := x; exact ⟨st _ _ p fun o q => k _ _ (.inl rfl) q, ⟨o, k _ _ (.inl rfl) e⟩, st⟩
theorem HOk.lt (x : HOk P w H h) (e : H a = some o) : a < h.objs.size := (x a o e).lt
theorem HOk.fresh (x : HOk P w H h) (e : h.objs.size ≤ a) : H a = none := by
  cases q : H a with
  | none => rfl
  | some u => exact absurd (Nat.lt_of_lt_of_le (x.lt q) e) (Nat.lt_irrefl _)
theorem HOk.kept (x : HOk P w H h) (k : ∀ b u, h.get? b = some u → h'.get? b = some u) : HOk P w H h' := fun a o e =>
  (x a o e).stay (fun b u _ q => k b u q) (fun _ q => q) fun _ _ q => q
theorem HOk.laid (x : HOk P w H h) (k : ∀ b u, h.get? b = some u → h'.get? b = some u) (hp : h.objs.size ≤ a) (new : ObjOk P w (upd H a o) h' a o) : HOk P w (upd H a o) h' := fun b u e => by
  have hn := x.fresh hp
  by_cases hb : b = a
  · subst hb; rw [upd_same] at e; cases e; exact new
  · rw [upd_ne hb] at e
    exact (x b u e).stay (fun c v _ q => k c v q) (fun c q => by rw [upd_ne (ne_of_none q hn)]; exact q) fun c xs q => by rw [upd_ne (ne_of_none q hn)]; exact q
end

def Rd (H : Hp) (a : Addr) (u : HO) : Prop := H a = some u ∨ ∃ o, H a = some (.frz o u)
theorem Rd.of {H : Hp} {a : Addr} {u : HO} (h : H a = some u) : Rd H a u := .inl h
theorem Rd.ok {P : Program} {w : World} {H : Hp} {h : Heap} {a : Addr} {u : HO} (r : Rd H a u) (x : HOk P w H h) : ObjOk P w H h a u := by
  rcases r with r | ⟨o, r⟩
  · exact x a u r
  · obtain ⟨_, q⟩ := x a _ r
    exact q
def Mut : Option HO → Prop
  | some (.lst _) => True
  | some (.dK _) => True
  | some (.dT _) => True
  | some (.set _ _) => True
  | some (.ins _ _ _) => True
  | some (.ext _) => True
  | _ => False
section
variable {P : Program} {w : World} {H : Hp} {h h' : Heap} {x e : Addr} {o' : HO}
theorem HOk.write (ok : HOk P w H h) (mu : Mut (H x)) (he : e = x ∨ H e = some (.own x)) (k : ∀ b u, b ≠ e → h.get? b = some u → h'.get? b = some u) (heo : ∃ u, h'.get? e = some u)
    (new : ObjOk P w (upd H x o') h' x o') : HOk P w (upd H x o') h' := fun b u q => by
  have nown : ∀ c y, H c = some (.own y) → c ≠ x := fun c y r z => by subst z; rw [r] at mu; exact mu
  have ntup : ∀ c xs, H c = some (.tup xs) → c ≠ x := fun c xs r z => by subst z; rw [r] at mu; exact mu
  by_cases hb : b = x
  · subst hb; rw [upd_same] at q; cases q; exact new
  · rw [upd_ne hb] at q
    by_cases hbe : b = e
    · have q' : H b = some (.own x) := by
        rcases he with z | z
        · exact absurd (hbe.trans z) hb
        · rw [hbe]; exact z
      rw [q] at q'; cases q'
      obtain ⟨v, hv⟩ := heo
      exact ⟨v, by rw [hbe]; exact hv⟩
    · refine (ok b u q).stay (fun c v hc r => k c v ?_ r) (fun c r => by rw [upd_ne (nown c b r)]; exact r) fun c xs r => by rw [upd_ne (ntup c xs r)]; exact r
      rcases hc with rfl | hc
      · exact hbe
      · rintro rfl
        rcases he with z | z
        · exact nown c b hc z
        · rw [hc] at z; cases z; exact hb rfl
end

structure Un (fs ex : List Addr) (H H' : Hp) (h h' : Heap) : Prop where
  keep : ∀ b o, h.get? b = some o → H b = none → b ∉ fs → b ∉ ex → h'.get? b = some o
  slot : ∀ b o, h.get? b = some o → H b = none → b ∈ fs → b ∉ ex → ∃ sl, h'.get? b = some { o with slots := sl }
  free : ∀ b o, h.get? b = some o → H b = none → b ∉ ex → H' b = none
  there : ∀ b o, h.get? b = some o → b ∉ ex → ∃ o', h'.get? b = some o'
  tups : ∀ b xs, H b = some (.tup xs) → H' b = some (.tup xs)
  frzs : ∀ b o u, H b = some (.frz o u) → H' b = some (.frz o u)
  tbls : ∀ b ps, H b = some (.tbl ps) → ∃ more, H' b = some (.tbl (ps ++ more))
section
variable {fs fs' ex ex' : List Addr} {H H1 H2 : Hp} {h h1 h2 h' : Heap} {a x e : Addr} {o : HO}
theorem Un.any (u : Un fs ex H H1 h h1) {b : Addr} {ob : Obj} (q : h.get? b = some ob) (n : H b = none) (hx : b ∉ ex) : ∃ sl, h1.get? b = some { ob with slots := sl } := by
  by_cases hb : b ∈ fs
  · exact u.slot b ob q n hb hx
  · exact ⟨ob.slots, u.keep b ob q n hb hx⟩
theorem Un.trans (a : Un fs ex H H1 h h1) (b : Un fs ex H1 H2 h1 h2) : Un fs ex H H2 h h2 where
  keep := fun c ob q n hc hx => b.keep c ob (a.keep c ob q n hc hx) (a.free c ob q n hx) hc hx
  slot := fun c ob q n hc hx => by
    obtain ⟨sl, e1⟩ := a.slot c ob q n hc hx
    obtain ⟨sl', e2⟩ := b.slot c _ e1 (a.free c ob q n hx) hc hx
    exact ⟨sl', e2⟩
  free := fun c ob q n hx => by
    obtain ⟨o', e1⟩ := a.there c ob q hx
    exact b.free c o' e1 (a.free c ob q n hx) hx
  there := fun c ob q hx => by
    obtain ⟨o', e1⟩ := a.there c ob q hx
    exact b.there c o' e1 hx
  tups := fun c xs q => b.tups c xs (a.tups c xs q)
  frzs := fun c ob xs q => b.frzs c ob xs (a.frzs c ob xs q)
  tbls := fun c ps q => by
    obtain ⟨m1, e1⟩ := a.tbls c ps q
    obtain ⟨m2, e2⟩ := b.tbls c _ e1
    exact ⟨m1 ++ m2, by rw [e2, Array.append_assoc]⟩
theorem Un.kept (k : ∀ b u, h.get? b = some u → h'.get? b = some u) : Un fs ex H H h h' :=
  ⟨fun b ob q _ _ _ => k b ob q, fun b ob q _ _ _ => ⟨ob.slots, k b ob q⟩, fun _ _ _ n _ => n, fun b ob q _ => ⟨ob, k b ob q⟩, fun _ _ q => q, fun _ _ _ q => q, fun _ ps q => ⟨#[], by rw [q]; simp⟩⟩
theorem Un.refl : Un fs ex H H h h := Un.kept fun _ _ q => q
theorem Un.laid (k : ∀ b u, h.get? b = some u → h'.get? b = some u) (hp : h.objs.size ≤ a) (hn : H a = none) : Un fs ex H (upd H a o) h h' where
  keep := fun b u q _ _ _ => k b u q
  slot := fun b u q _ _ _ => ⟨u.slots, k b u q⟩
  free := fun b u q n _ => by rw [upd_ne (Nat.ne_of_lt (Nat.lt_of_lt_of_le (Heap.lt_size q) hp))]; exact n
  there := fun b u q _ => ⟨u, k b u q⟩
  tups := fun b xs q => by rw [upd_ne (ne_of_none q hn)]; exact q
  frzs := fun b u xs q => by rw [upd_ne (ne_of_none q hn)]; exact q
  tbls := fun b ps q => ⟨#[], by rw [upd_ne (ne_of_none q hn), q]; simp⟩
theorem Un.write (mu : Mut (H x)) (he : e = x ∨ H e = some (.own x)) (k : ∀ b u, b ≠ e → h.get? b = some u → h'.get? b = some u) (heo : ∃ u, h'.get? e = some u) : Un fs ex H (upd H x o) h h' := by
  have hx : ∀ b, H b = none → b ≠ x := fun b n z => by subst z; rw [n] at mu; exact mu
  have hb : ∀ b, H b = none → b ≠ e := fun b n z => by
    subst z
    rcases he with r | r
    · exact hx b n r
    · rw [n] at r; cases r
  have hm : ∀ b u, H b = some u → ¬ Mut (some u) → b ≠ x := fun b u q nm z => by subst z; rw [q] at mu; exact nm mu
  refine ⟨fun b u q n _ _ => k b u (hb b n) q, fun b u q n _ _ => ⟨u.slots, k b u (hb b n) q⟩, fun b u q n _ => by rw [upd_ne (hx b n)]; exact n, fun b u q _ => ?_,
    fun b xs q => by rw [upd_ne (hm b _ q fun z => z)]; exact q, fun b u xs q => by rw [upd_ne (hm b _ q fun z => z)]; exact q, fun b ps q => ⟨#[], by rw [upd_ne (hm b _ q fun z => z), q]; simp⟩⟩
  by_cases hbe : b = e
  · subst hbe; exact heo
  · exact ⟨u, k b u hbe q⟩
theorem Un.mono (u : Un fs ex H H1 h h1) (hs : ∀ b ∈ fs, b ∈ fs') (hx : ∀ b ∈ ex, b ∈ ex') : Un fs' ex' H H1 h h1 :=
  ⟨fun b ob q n hb he => u.keep b ob q n (fun z => hb (hs b z)) fun z => he (hx b z), fun _ _ q n _ he => u.any q n fun z => he (hx _ z), fun b ob q n he => u.free b ob q n fun z => he (hx b z), fun b ob q he => u.there b ob q fun z => he (hx b z), u.tups, u.frzs, u.tbls⟩
end

def trk (h : Heap) (H : Hp) : List Addr := (List.range h.objs.size).filter fun a => (H a).isSome
def hidT (h : Heap) (H : Hp) : Heap := PySem.W.hideAll h (trk h H)
theorem hidT_size (h : Heap) (H : Hp) : (hidT h H).objs.size = h.objs.size := PySem.W.hideAll_size _ _
theorem hidT_get {h : Heap} {H : Hp} {b : Addr} {o : Obj} (e : h.get? b = some o) (n : H b = none) : (hidT h H).get? b = some o :=
  PySem.W.hideAll_get _ e fun hm => by
    have q : (H b).isSome = true := (List.mem_filter.mp hm).2
    rw [n] at q; simp at q
theorem of_hidT {h : Heap} {H : Hp} {b : Addr} {o : Obj} (e : (hidT h H).get? b = some o) : h.get? b = some o ∧ H b = none := by
  have e' : h.get? b = some o := PySem.W.of_hideAll (trk h H) e
  refine ⟨e', ?_⟩
  cases q : H b with
  | none => rfl
  | some x =>
    have hm : b ∈ trk h H := List.mem_filter.mpr ⟨List.mem_range.mpr (Heap.lt_size e'), by simp [q]⟩
    have z : (hidT h H).get? b = none := PySem.W.hideAll_none (trk h H) hm
    rw [z] at e; cases e

def allNews (g h : Heap) (L : Addr) : List (Addr × Obj) := (List.range h.objs.size).filterMap fun a => if a = L ∨ (g.get? a).isSome = true then none else (h.get? a).map fun o => (a, o)
def rest (g h : Heap) (L d : Addr) : List (Addr × Obj) := (allNews g h L).filter fun p => decide (p.1 ≠ d)
end L2

namespace L2
open PySem PySem.Spec PyProof.Rows

structure Mod (K : PySem.W.Frag) (mg : Str → Option Value) (base : Heap) : Prop where
  kin : K.In base
  glob : base.Ns mainGlobals mg
  blt : ∃ mb, base.Ns builtinsNs mb ∧ ∀ x : Str, x ≠ "__name__" → mb x = bootBuiltins x
  nolimit : base.NoLimit

structure Cx where
  prog : Program
  w : World
  K : PySem.W.Frag
  mg : Str → Option Value
  base : Heap
  A : Around
  N : List Str
  s₀ : Shared
  H₀ : Hp
  env : Env
  outer : List Env
  stack : List Env
  ex : List Addr
  fn : Str → Bool
  calm : Bool
  pn : List (Addr × Obj)
  xe : Value → Shared → Prop
def frs (l : List Env) : List Addr := l.filterMap (·.frame)
abbrev Cx.fs (X : Cx) : List Addr := frs X.outer

def Vis (sc : Scope) (x : Str) : Prop := sc.names.lookup x = some .local ∨ sc.names.lookup x = some .cell ∨ sc.names.lookup x = some .free
def Loc (sc : Scope) (x : Str) : Prop := sc.names.lookup x = some .local ∨ sc.names.lookup x = some .cell
def Look (env : Env) (h : Heap) (m : Str → Option Value) (x : Str) (u : Value) : Prop :=
  (env.kindOf x = some .local ∧ m x = some u) ∨ ((env.kindOf x = some .cell ∨ env.kindOf x = some .free) ∧ ∃ c, env.cells.lookup x = some c ∧ h.IsCell c (some u))

structure Cx.Ok (X : Cx) : Prop where
  mod : Mod X.K X.mg X.base
  kind : X.env.scope.kind = .function
  glob : X.env.globals = mainGlobals
  blt : X.env.builtins = builtinsNs
  above : X.s₀.heap.objs.size ≤ X.env.locals
  inj : ∀ x y c, X.env.cells.lookup x = some c → X.env.cells.lookup y = some c → x = y
  has : ∀ x, (X.env.kindOf x = some .cell ∨ X.env.kindOf x = some .free) → ∃ c, X.env.cells.lookup x = some c
  cab : ∀ x c, X.fn x = true → X.env.cells.lookup x = some c → X.s₀.heap.objs.size ≤ c
  hd : X.calm = true → X.A.handled = none
  frames : X.A.frames = some X.stack
  stk : X.stack = X.outer ∨ (X.stack = X.env :: X.outer ∧ X.env.frame = some X.env.locals)
  exf : ∀ b ∈ X.ex, b ≠ X.env.locals ∧ ∀ x c, X.env.cells.lookup x = some c → c ≠ b
  bs : ∀ b o, X.base.get? b = some o → X.s₀.heap.get? b = some o ∧ X.H₀ b = none
  bsz : X.base.objs.size ≤ X.s₀.heap.objs.size
  noex : ∀ b o, X.base.get? b = some o → b ∉ X.ex
  exfs : ∀ b ∈ X.ex, b ∉ X.fs
  funs : X.s₀.heap.FunFrames X.base X.outer
  frf : ∀ b ∈ X.fs, X.H₀ b = none

structure Inv (X : Cx) (pins : List (Addr × Obj)) (σ : List (Option V)) (H : Hp) (s : Shared) : Prop where
  ok : X.Ok
  os : s.os = X.s₀.os
  bare : AllBare s.gens
  base : Un X.fs X.ex X.H₀ H X.s₀.heap s.heap
  loc : ∃ m, s.heap.Ns X.env.locals m ∧ ∀ (i : Nat) (x : Str) (v : V), X.N[i]? = some x → σ[i]? = some (some v) → Vis X.env.scope x → ∃ u, RelV v u ∧ Look X.env s.heap m x u
  cell : ∀ x c, X.env.cells.lookup x = some c → ∃ v, s.heap.IsCell c v
  free : H X.env.locals = none
  freeC : ∀ x c, X.env.cells.lookup x = some c → H c = none
  pin : ∀ p ∈ X.pn ++ pins, s.heap.get? p.1 = some p.2 ∧ H p.1 = none ∧ p.1 ≠ X.env.locals ∧ p.1 ∉ X.fs ∧ ∀ v, p.2.data ≠ .cell v
  hok : HOk X.prog X.w H s.heap
  len : σ.length = X.N.length

section
variable {X : Cx} {pins : List (Addr × Obj)} {σ : List (Option V)} {H H' : Hp} {s : Shared} {h' : Heap}

theorem Cx.Ok.nofr (ok : X.Ok) {b : Addr} {o : Obj} (e : X.base.get? b = some o) : b ∉ X.fs := fun hb => by
  have := (ok.funs.mem hb).1
  rw [e] at this; cases this
theorem Inv.bs (I : Inv X pins σ H s) : ∀ b o, X.base.get? b = some o → s.heap.get? b = some o ∧ H b = none := fun b o e =>
  ⟨I.base.keep b o (I.ok.bs b o e).1 (I.ok.bs b o e).2 (I.ok.nofr e) (I.ok.noex b o e), I.base.free b o (I.ok.bs b o e).1 (I.ok.bs b o e).2 (I.ok.noex b o e)⟩
theorem Inv.bk (I : Inv X pins σ H s) : ∀ b o, X.base.get? b = some o → s.heap.get? b = some o := fun b o e => (I.bs b o e).1
theorem Inv.mod (I : Inv X pins σ H s) : Mod X.K X.mg X.base := I.ok.mod
theorem Inv.kIn (I : Inv X pins σ H s) : X.K.In s.heap := I.ok.mod.kin.keeps I.bk
theorem Inv.nolimit (I : Inv X pins σ H s) : s.heap.NoLimit := I.ok.mod.nolimit.keeps I.bk
theorem Inv.fr (I : Inv X pins σ H s) : ∃ m, Fr X.base X.env.locals s.heap m :=
  let ⟨m, hn, _⟩ := I.loc
  ⟨m, hn, I.bk, Nat.le_trans I.ok.bsz I.ok.above⟩
theorem Inv.lt (I : Inv X pins σ H s) : X.env.locals < s.heap.objs.size := let ⟨_, hn, _⟩ := I.loc; hn.lt
theorem Inv.sz (I : Inv X pins σ H s) : X.s₀.heap.objs.size ≤ s.heap.objs.size := Nat.le_trans I.ok.above (Nat.le_of_lt I.lt)
theorem Inv.nofs (I : Inv X pins σ H s) {a : Addr} (h : s.heap.objs.size ≤ a) : a ∉ X.fs := fun hb => by
  obtain ⟨_, o, ho, _⟩ := I.ok.funs.mem hb
  exact absurd (Nat.lt_of_lt_of_le (Heap.lt_size ho) (Nat.le_trans I.sz h)) (Nat.lt_irrefl _)
theorem Inv.cne (I : Inv X pins σ H s) : ∀ x c, X.env.cells.lookup x = some c → c ≠ X.env.locals := fun x c e z => by
  obtain ⟨v, o, ho, hd⟩ := I.cell x c e
  obtain ⟨m, ⟨o', es, ep, ho', hd', _⟩, _⟩ := I.loc
  rw [z, ho'] at ho; cases ho; rw [hd'] at hd; cases hd
theorem Inv.funs (I : Inv X pins σ H s) : s.heap.FunFrames X.base X.outer := by
  have all : ∀ (l : List Env), (∀ b ∈ frs l, b ∈ X.fs) → X.s₀.heap.FunFrames X.base l → s.heap.FunFrames X.base l := by
    intro l
    induction l with
    | nil => intro _ _; trivial
    | cons env r ih =>
      intro hs hl
      obtain ⟨hk, ⟨L, o, hf, hn, ho, hd⟩, hr⟩ := hl
      have hL : L ∈ X.fs := hs L (by unfold frs; rw [List.filterMap_cons, hf]; exact List.mem_cons_self)
      obtain ⟨sl, e⟩ := I.base.slot L o ho (I.ok.frf L hL) hL fun z => I.ok.exfs L z hL
      exact ⟨hk, ⟨L, _, hf, hn, e, hd⟩, ih (fun b hb => hs b (by unfold frs; rw [List.filterMap_cons, hf]; exact List.mem_cons_of_mem _ hb)) hr⟩
  exact all X.outer (fun _ hb => hb) I.ok.funs

theorem Inv.stack (I : Inv X pins σ H s) : s.heap.FunFrames X.base X.stack := by
  rcases I.ok.stk with e | ⟨e, hf⟩
  · rw [e]; exact I.funs
  · rw [e]
    obtain ⟨m, hn, _⟩ := I.loc
    refine .cons (by rw [I.ok.kind]; decide) hf hn ?_ I.funs
    exact Heap.get?_none_of_le (Nat.le_trans I.ok.bsz I.ok.above)
theorem Inv.stkSub (I : Inv X pins σ H s) : ∀ b ∈ frs X.stack, b ∈ X.env.locals :: X.fs := fun b hb => by
  rcases I.ok.stk with e | ⟨e, hf⟩
  · rw [e] at hb; exact List.mem_cons_of_mem _ hb
  · rw [e] at hb
    unfold frs at hb
    rw [List.filterMap_cons, hf] at hb
    exact hb
theorem Inv.stkFree (I : Inv X pins σ H s) : ∀ b ∈ frs X.stack, H b = none := fun b hb => by
  rcases List.mem_cons.mp (I.stkSub b hb) with e | hb
  · rw [e]; exact I.free
  · obtain ⟨_, o, ho, _⟩ := I.ok.funs.mem hb
    exact I.base.free b o ho (I.ok.frf b hb) fun z => I.ok.exfs b z hb

theorem Inv.step {g' : Array GenState} {t' : Nat} {d' : Drawn} {ch : List Addr} (I : Inv X pins σ H s)
    (hch : ∀ b ∈ ch, (b ∈ X.ex ∨ X.s₀.heap.objs.size ≤ b) ∧ b ≠ X.env.locals ∧ (∀ x c, X.env.cells.lookup x = some c → c ≠ b) ∧ ∀ p ∈ X.pn ++ pins, p.1 ≠ b)
    (keep : ∀ b o, b ≠ X.env.locals → b ∉ X.fs → b ∉ ch → s.heap.get? b = some o → H b = none → h'.get? b = some o)
    (slot : ∀ b o, b ≠ X.env.locals → b ∈ X.fs → b ∉ ch → s.heap.get? b = some o → H b = none → ∃ sl, h'.get? b = some { o with slots := sl }) (free : ∀ b o, b ∉ ch → s.heap.get? b = some o → H b = none → H' b = none)
    (there : ∀ b o, b ∉ ch → s.heap.get? b = some o → ∃ o', h'.get? b = some o')
    (tups : ∀ b xs, H b = some (.tup xs) → H' b = some (.tup xs)) (frzs : ∀ b o u, H b = some (.frz o u) → H' b = some (.frz o u)) (tbls : ∀ b ps, H b = some (.tbl ps) → ∃ more, H' b = some (.tbl (ps ++ more)))
    (ns : ∀ m, s.heap.Ns X.env.locals m → h'.Ns X.env.locals m) (hok : HOk X.prog X.w H' h') (hg : AllBare g') :
    Inv X pins σ H' { s with heap := h', gens := g', drawn := d', toks := t' } := by
  have neL : ∀ b o, X.s₀.heap.get? b = some o → b ≠ X.env.locals := fun b o e => Nat.ne_of_lt (Nat.lt_of_lt_of_le (Heap.lt_size e) I.ok.above)
  have neC : ∀ b o, X.s₀.heap.get? b = some o → b ∉ X.ex → b ∉ ch := fun b o e hx hb => by
    rcases (hch b hb).1 with z | z
    · exact hx z
    · exact absurd (Nat.lt_of_lt_of_le (Heap.lt_size e) z) (Nat.lt_irrefl _)
  have cellK : ∀ x c, X.env.cells.lookup x = some c → ∀ v, s.heap.IsCell c v → h'.IsCell c v := fun x c e v ⟨o, ho, hd⟩ => by
    have nch : c ∉ ch := fun z => (hch c z).2.2.1 x c e rfl
    by_cases hc : c ∈ X.fs
    · obtain ⟨sl, q⟩ := slot c o (I.cne x c e) hc nch ho (I.freeC x c e)
      exact ⟨_, q, hd⟩
    · exact ⟨o, keep c o (I.cne x c e) hc nch ho (I.freeC x c e), hd⟩
  refine ⟨I.ok, I.os, hg, ⟨fun b o e n hb hx => ?_, fun b o e n hb hx => ?_, fun b o e n hx => ?_, fun b o e hx => ?_, fun b xs e => tups b xs (I.base.tups b xs e), fun b o xs e => frzs b o xs (I.base.frzs b o xs e), fun b ps e => ?_⟩, ?_, fun x c e => ?_, ?_, fun x c e => ?_, fun p hp => ?_, hok, I.len⟩
  · exact keep b o (neL b o e) hb (neC b o e hx) (I.base.keep b o e n hb hx) (I.base.free b o e n hx)
  · obtain ⟨sl, e1⟩ := I.base.slot b o e n hb hx
    obtain ⟨sl', e2⟩ := slot b _ (neL b o e) hb (neC b o e hx) e1 (I.base.free b o e n hx)
    exact ⟨sl', e2⟩
  · obtain ⟨o', e1⟩ := I.base.there b o e hx
    exact free b o' (neC b o e hx) e1 (I.base.free b o e n hx)
  · obtain ⟨o', e1⟩ := I.base.there b o e hx
    exact there b o' (neC b o e hx) e1
  · obtain ⟨m1, e1⟩ := I.base.tbls b ps e
    obtain ⟨m2, e2⟩ := tbls b _ e1
    exact ⟨m1 ++ m2, by rw [e2, Array.append_assoc]⟩
  · obtain ⟨m, hn, hl⟩ := I.loc
    refine ⟨m, ns m hn, fun i x v e1 e2 e3 => ?_⟩
    obtain ⟨u, r, l⟩ := hl i x v e1 e2 e3
    refine ⟨u, r, ?_⟩
    rcases l with l | ⟨k, c, e, z⟩
    · exact .inl l
    · exact .inr ⟨k, c, e, cellK x c e _ z⟩
  · obtain ⟨v, z⟩ := I.cell x c e
    exact ⟨v, cellK x c e v z⟩
  · obtain ⟨m, ⟨o, _, _, ho, _⟩, _⟩ := I.loc
    exact free _ o (fun z => (hch _ z).2.1 rfl) ho I.free
  · obtain ⟨v, o, ho, hd⟩ := I.cell x c e
    exact free c o (fun z => (hch c z).2.2.1 x c e rfl) ho (I.freeC x c e)
  · obtain ⟨e, n, ne, nf, d⟩ := I.pin p hp
    have nch : p.1 ∉ ch := fun z => (hch p.1 z).2.2.2 p hp rfl
    exact ⟨keep p.1 p.2 ne nf nch e n, free p.1 p.2 nch e n, ne, nf, d⟩
theorem Inv.un {t' : Nat} (I : Inv X pins σ H s) (u : Un X.fs [] H H' s.heap h') (hok : HOk X.prog X.w H' h') : Inv X pins σ H' { s with heap := h', toks := t' } := by
  obtain ⟨m, ⟨o, es, ep, ho, r⟩, _⟩ := id I.loc
  obtain ⟨sl, hL⟩ := u.any ho I.free (by simp)
  exact I.step (g' := s.gens) (d' := s.drawn) (ch := []) (fun _ z => nomatch z) (fun b o _ hb _ e n => u.keep b o e n hb (by simp)) (fun b o _ hb _ e n => u.slot b o e n hb (by simp)) (fun b o _ e n => u.free b o e n (by simp)) (fun b o _ e => u.there b o e (by simp)) u.tups u.frzs u.tbls (fun m' hm => by
    obtain ⟨o', es', ep', ho', r'⟩ := hm
    rw [ho] at ho'; cases ho'
    exact ⟨_, es', ep', hL, r'⟩) hok I.bare
theorem Inv.call {g' : Array GenState} {t' : Nat} {d' : Drawn} {ch : List Addr} (I : Inv X pins σ H s) (u : Un (frs X.stack) ch H H' s.heap h') (hok : HOk X.prog X.w H' h') (hg : AllBare g')
    (hch : ∀ b ∈ ch, (b ∈ X.ex ∨ X.s₀.heap.objs.size ≤ b) ∧ b ≠ X.env.locals ∧ (∀ x c, X.env.cells.lookup x = some c → c ≠ b) ∧ ∀ p ∈ X.pn ++ pins, p.1 ≠ b) :
    Inv X pins σ H' { s with heap := h', gens := g', drawn := d', toks := t' } := by
  obtain ⟨m, ⟨o, es, ep, ho, r⟩, _⟩ := id I.loc
  obtain ⟨sl, hL⟩ := u.any ho I.free fun z => (hch _ z).2.1 rfl
  exact I.step (ch := ch) hch (fun b o hL hb hc e n => u.keep b o e n (fun z => (List.mem_cons.mp (I.stkSub b z)).elim hL hb) hc) (fun b o _ _ hc e n => u.any e n hc) (fun b o hc e n => u.free b o e n hc) (fun b o hc e => u.there b o e hc) u.tups u.frzs u.tbls (fun m' hm => by
    obtain ⟨o', es', ep', ho', r'⟩ := hm
    rw [ho] at ho'; cases ho'
    exact ⟨_, es', ep', hL, r'⟩) hok hg
theorem Inv.turned {t' : Nat} {it : Addr} (I : Inv X pins σ H s) (k : ∀ b o, b ≠ it → s.heap.get? b = some o → h'.get? b = some o) (hn : H it = none) (hL : it ≠ X.env.locals)
    (h1 : it ∈ X.ex ∨ X.s₀.heap.objs.size ≤ it) (h2 : ∀ x c, X.env.cells.lookup x = some c → c ≠ it) (h3 : ∀ p ∈ X.pn ++ pins, p.1 ≠ it) : Inv X pins σ H { s with heap := h', toks := t' } := by
  have nit : ∀ b u, H b = some u → b ≠ it := fun b u e z => by rw [z, hn] at e; cases e
  refine I.step (g' := s.gens) (d' := s.drawn) (ch := [it]) (fun b hb => ?_) (fun b o _ _ hc e _ => k b o (fun z => hc (by simp [z])) e) (fun b o _ _ hc e _ => ⟨o.slots, k b o (fun z => hc (by simp [z])) e⟩) (fun _ _ _ _ n => n)
    (fun b o hc e => ⟨o, k b o (fun z => hc (by simp [z])) e⟩) (fun _ _ e => e) (fun _ _ _ e => e) (fun b ps e => ⟨#[], by rw [e]; simp⟩) (fun m hm => ?_) (fun b u e => ?_) I.bare
  · have e : b = it := by simpa using hb
    subst e
    exact ⟨h1, hL, h2, h3⟩
  · obtain ⟨o, es, ep, ho, r⟩ := hm
    exact ⟨o, es, ep, k _ o (Ne.symm hL) ho, r⟩
  · refine (I.hok b u e).stay (fun c v hc q => k c v ?_ q) (fun _ q => q) fun _ _ q => q
    rcases hc with z | z
    · rw [z]; exact nit b u e
    · exact nit c _ z
theorem Inv.tok (I : Inv X pins σ H s) (t : Nat) : Inv X pins σ H { s with toks := t } := I.un (h' := s.heap) (t' := t) Un.refl I.hok
theorem Inv.kept {t' : Nat} (I : Inv X pins σ H s) (k : ∀ b u, s.heap.get? b = some u → h'.get? b = some u) : Inv X pins σ H { s with heap := h', toks := t' } := I.un (Un.kept k) (I.hok.kept k)
theorem Inv.laid {a : Addr} {o : HO} {t' : Nat} (I : Inv X pins σ H s) (k : ∀ b u, s.heap.get? b = some u → h'.get? b = some u) (hp : s.heap.objs.size ≤ a) (new : ObjOk X.prog X.w (upd H a o) h' a o) :
    Inv X pins σ (upd H a o) { s with heap := h', toks := t' } := I.un (Un.laid k hp (I.hok.fresh hp)) (I.hok.laid k hp new)
theorem Inv.write {x e : Addr} {o : HO} {t' : Nat} (I : Inv X pins σ H s) (mu : Mut (H x)) (he : e = x ∨ H e = some (.own x)) (k : ∀ b u, b ≠ e → s.heap.get? b = some u → h'.get? b = some u) (heo : ∃ u, h'.get? e = some u)
    (new : ObjOk X.prog X.w (upd H x o) h' x o) : Inv X pins σ (upd H x o) { s with heap := h', toks := t' } := I.un (Un.write mu he k heo) (I.hok.write mu he k heo new)
theorem Inv.pins_of {pins' : List (Addr × Obj)} (I : Inv X pins σ H s) (h : ∀ p ∈ pins', s.heap.get? p.1 = some p.2 ∧ H p.1 = none ∧ p.1 ≠ X.env.locals ∧ p.1 ∉ X.fs ∧ ∀ v, p.2.data ≠ .cell v) : Inv X pins' σ H s :=
  ⟨I.ok, I.os, I.bare, I.base, I.loc, I.cell, I.free, I.freeC, fun p hp => (List.mem_append.mp hp).elim (fun z => I.pin p (List.mem_append_left _ z)) (h p), I.hok, I.len⟩

theorem nodup_ix {N : List Str} (hN : N.Nodup) {i j : Nat} {x : Str} (a : N[i]? = some x) (b : N[j]? = some x) : i = j := by
  obtain ⟨h1, e1⟩ := List.getElem?_eq_some_iff.mp a
  obtain ⟨h2, e2⟩ := List.getElem?_eq_some_iff.mp b
  exact (List.getElem_inj hN).mp (e1.trans e2.symm)

theorem store_ok2 {M : Model} {A : Around} {E : Value → Shared → Prop} {i : Nat} {x : Str} {v : V} {u : Value} {Q : Unit → Shared → Prop} (I : Inv X pins σ H s) (hN : X.N.Nodup) (hi : X.N[i]? = some x) (hx : Loc X.env.scope x) (r : RelV v u)
    (h : ∀ s', Inv X pins (σ.set i (some v)) H s' → (∃ a, Heap.SameBut a s.heap s'.heap ∧ (a = X.env.locals ∨ X.env.cells.lookup x = some a)) → Q () s') (hf : X.fn x = true ∨ X.env.scope.names.lookup x = some .local := by first | exact .inl rfl | exact .inr rfl | assumption) : wpAny M A (storeName X.env x u) Q E s := by
  obtain ⟨m, hn, hl⟩ := id I.loc
  have hcls : (X.env.scope.kind == .class || (X.env.scope.kind == .module && X.env.locals != X.env.globals)) = false := by rw [I.ok.kind]; rfl
  have hiσ : i < σ.length := by rw [I.len]; exact (List.getElem?_eq_some_iff.mp hi).1
  have cne := I.cne
  have tracked : ∀ {a : Addr} {h' : Heap}, (∃ o, s.heap.get? a = some o ∧ H a = none) → Heap.SameBut a s.heap h' → HOk X.prog X.w H h' := fun {a h'} ha hs b ob e => by
    obtain ⟨_, _, hfree⟩ := ha
    refine (I.hok b ob e).stay (fun c w' hc q => (hs.2 c ?_).trans q) (fun _ q => q) fun _ _ q => q
    rintro rfl
    rcases hc with rfl | hc
    · rw [hfree] at e; cases e
    · rw [hfree] at hc; cases hc
  rcases hx with hk | hk
  · refine wpAny_storeName_local hk hn (fun h' hn' hs => ?_) hcls
    obtain ⟨oL, _, _, hoL, _⟩ := id hn
    refine h _ ⟨I.ok, I.os, I.bare, ⟨fun b o e n hb hx => ?_, fun b o e n hb hx => ?_, I.base.free, fun b o e hx => ?_, I.base.tups, I.base.frzs, I.base.tbls⟩, ⟨_, hn', fun j y v' e1 e2 e3 => ?_⟩, fun y c e => ?_, I.free, I.freeC, fun p hp => ?_, tracked ⟨oL, hoL, I.free⟩ hs, by simpa using I.len⟩ ⟨_, hs, .inl rfl⟩
    · exact (hs.2 b (Nat.ne_of_lt (Nat.lt_of_lt_of_le (Heap.lt_size e) I.ok.above))).trans (I.base.keep b o e n hb hx)
    · obtain ⟨sl, e1⟩ := I.base.slot b o e n hb hx
      exact ⟨sl, (hs.2 b (Nat.ne_of_lt (Nat.lt_of_lt_of_le (Heap.lt_size e) I.ok.above))).trans e1⟩
    · obtain ⟨o', e1⟩ := I.base.there b o e hx
      exact ⟨o', (hs.2 b (Nat.ne_of_lt (Nat.lt_of_lt_of_le (Heap.lt_size e) I.ok.above))).trans e1⟩
    · by_cases hj : j = i
      · subst hj
        rw [hi] at e1; cases e1
        rw [List.getElem?_set_self hiσ] at e2
        cases e2
        exact ⟨u, r, .inl ⟨hk, by simp⟩⟩
      · rw [List.getElem?_set_ne (Ne.symm hj)] at e2
        obtain ⟨u', r', q⟩ := hl j y v' e1 e2 e3
        refine ⟨u', r', ?_⟩
        rcases q with ⟨k, e⟩ | ⟨k, c, e, z⟩
        · refine .inl ⟨k, ?_⟩
          have : y ≠ x := fun e => hj (nodup_ix hN e1 (e ▸ hi))
          simp [this, e]
        · exact .inr ⟨k, c, e, z.sameBut hs (cne y c e)⟩
    · obtain ⟨w', z⟩ := I.cell y c e
      exact ⟨w', z.sameBut hs (cne y c e)⟩
    · obtain ⟨e, n, ne, nf, d⟩ := I.pin p hp
      exact ⟨(hs.2 p.1 ne).trans e, n, ne, nf, d⟩
  · have hfn : X.fn x = true := by
      rcases hf with z | z
      · exact z
      · rw [z] at hk; cases hk
    obtain ⟨c, hc⟩ := I.ok.has x (.inl hk)
    obtain ⟨w', z⟩ := I.cell x c hc
    refine wpAny_storeName_cell I.ok.kind hk hc z (fun h' hc' hs => ?_)
    obtain ⟨oc, hoc, hocd⟩ := id z
    refine h { s with heap := h' } ⟨I.ok, I.os, I.bare, ⟨fun b o e n hb hx => ?_, fun b o e n hb hx => ?_, I.base.free, fun b o e hx => ?_, I.base.tups, I.base.frzs, I.base.tbls⟩, ⟨m, hn.sameBut hs (Ne.symm (cne x c hc)), fun j y v' e1 e2 e3 => ?_⟩, fun y c' e => ?_, I.free, I.freeC, fun p hp => ?_, tracked ⟨oc, hoc, I.freeC x c hc⟩ hs, by simpa using I.len⟩ ⟨c, hs, .inr hc⟩
    · exact (hs.2 b (Nat.ne_of_lt (Nat.lt_of_lt_of_le (Heap.lt_size e) (I.ok.cab x c hfn hc)))).trans (I.base.keep b o e n hb hx)
    · obtain ⟨sl, e1⟩ := I.base.slot b o e n hb hx
      exact ⟨sl, (hs.2 b (Nat.ne_of_lt (Nat.lt_of_lt_of_le (Heap.lt_size e) (I.ok.cab x c hfn hc)))).trans e1⟩
    · obtain ⟨o', e1⟩ := I.base.there b o e hx
      exact ⟨o', (hs.2 b (Nat.ne_of_lt (Nat.lt_of_lt_of_le (Heap.lt_size e) (I.ok.cab x c hfn hc)))).trans e1⟩
    · by_cases hj : j = i
      · subst hj
        rw [hi] at e1; cases e1
        rw [List.getElem?_set_self hiσ] at e2
        cases e2
        exact ⟨u, r, .inr ⟨.inl hk, c, hc, hc'⟩⟩
      · rw [List.getElem?_set_ne (Ne.symm hj)] at e2
        obtain ⟨u', r', q⟩ := hl j y v' e1 e2 e3
        refine ⟨u', r', ?_⟩
        rcases q with q | ⟨k, c', e, z'⟩
        · exact .inl q
        · refine .inr ⟨k, c', e, z'.sameBut hs ?_⟩
          rintro rfl
          exact hj (nodup_ix hN e1 (I.ok.inj _ _ _ e hc ▸ hi))
    · by_cases hcc : c' = c
      · subst hcc; exact ⟨_, hc'⟩
      · obtain ⟨w2, z2⟩ := I.cell y c' e
        exact ⟨w2, z2.sameBut hs hcc⟩
    · obtain ⟨e, n, ne, nf, d⟩ := I.pin p hp
      refine ⟨(hs.2 p.1 ?_).trans e, n, ne, nf, d⟩
      intro q
      rw [q, hoc] at e
      have q' : oc = p.2 := Option.some.inj e
      exact d w' (by rw [← q']; exact hocd)
theorem store_ok {M : Model} {A : Around} {E : Value → Shared → Prop} {i : Nat} {x : Str} {v : V} {u : Value} {Q : Unit → Shared → Prop} (I : Inv X pins σ H s) (hN : X.N.Nodup) (hi : X.N[i]? = some x) (hx : Loc X.env.scope x) (r : RelV v u)
    (h : ∀ s', Inv X pins (σ.set i (some v)) H s' → Q () s') (hf : X.fn x = true ∨ X.env.scope.names.lookup x = some .local := by first | exact .inl rfl | exact .inr rfl | assumption) : wpAny M A (storeName X.env x u) Q E s :=
  store_ok2 I hN hi hx r (fun s' I' _ => h s' I') hf
theorem Inv.call' {s' : Shared} {ch : List Addr} (I : Inv X pins σ H s) (ho : s'.os = s.os) (u : Un (frs X.stack) ch H H' s.heap s'.heap) (hok : HOk X.prog X.w H' s'.heap) (hg : AllBare s'.gens)
    (hch : ∀ b ∈ ch, (b ∈ X.ex ∨ X.s₀.heap.objs.size ≤ b) ∧ b ≠ X.env.locals ∧ (∀ x c, X.env.cells.lookup x = some c → c ≠ b) ∧ ∀ p ∈ X.pn ++ pins, p.1 ≠ b) : Inv X pins σ H' s' := by
  obtain ⟨h', g', d', t', o'⟩ := s'
  have e : o' = s.os := ho
  subst e
  exact I.call (g' := g') (t' := t') (d' := d') u hok hg hch
end

abbrev XK := Value → Option Addr → Hp → Prop
abbrev St := List (Option V)
abbrev VK := V → Hp → Prop
abbrev TE := St → Hp → VK → Prop
abbrev TT := St → Hp → (Bool → Hp → Prop) → Prop
abbrev TA := St → Hp → (List V → Hp → Prop) → Prop
structure Ends where
  nx : St → Hp → Prop
  rt : VK
  bk : St → Hp → Prop := fun _ _ => False
  ct : St → Hp → Prop := fun _ _ => False
abbrev TS := Ends → St → Hp → Prop

def EP (X : Cx) (pins : List (Addr × Obj)) (σ : St) (Q : VK) (u : Value) (s' : Shared) : Prop := ∃ v H', Inv X pins σ H' s' ∧ RelV v u ∧ Q v H'
def TP (X : Cx) (pins : List (Addr × Obj)) (σ : St) (Q : Bool → Hp → Prop) (b : Bool) (s' : Shared) : Prop := ∃ H', Inv X pins σ H' s' ∧ Q b H'
def AP (X : Cx) (pins : List (Addr × Obj)) (σ : St) (Q : List V → Hp → Prop) (us : List Value) (s' : Shared) : Prop := ∃ vs H', Inv X pins σ H' s' ∧ Vals vs us ∧ Q vs H'
def SP (X : Cx) (pins : List (Addr × Obj)) (D : Ends) (f : Flow) (s' : Shared) : Prop :=
  match f with
  | .next => ∃ σ' H', Inv X pins σ' H' s' ∧ D.nx σ' H'
  | .brk => ∃ σ' H', Inv X pins σ' H' s' ∧ D.bk σ' H'
  | .cont => ∃ σ' H', Inv X pins σ' H' s' ∧ D.ct σ' H'
  | .ret u => ∃ v σ' H', Inv X pins σ' H' s' ∧ RelV v u ∧ D.rt v H'

def PE (X : Cx) (e : Expr) (t : TE) : Prop :=
  ∀ (pins : List (Addr × Obj)) (s : Shared) (σ : St) (H : Hp) (Q : VK), Inv X pins σ H s → t σ H Q → wpAny (model X.prog X.w) X.A (eval e X.env) (EP X pins σ Q) X.xe s
def PT (X : Cx) (e : Expr) (t : TT) : Prop :=
  ∀ (pins : List (Addr × Obj)) (s : Shared) (σ : St) (H : Hp) (Q : Bool → Hp → Prop), Inv X pins σ H s → t σ H Q → wpAny (model X.prog X.w) X.A (isTrue e X.env (eval e X.env)) (TP X pins σ Q) X.xe s
def PW (X : Cx) (e : Expr) (t : TT) : Prop :=
  ∀ (whole : Sem Value) (pins : List (Addr × Obj)) (s : Shared) (σ : St) (H : Hp) (Q : Bool → Hp → Prop), Inv X pins σ H s → t σ H Q → wpAny (model X.prog X.w) X.A (isTrue e X.env whole) (TP X pins σ Q) X.xe s
theorem PW.pt {X : Cx} {e : Expr} {t : TT} (h : PW X e t) : PT X e t := h _
def PA (X : Cx) (es : List Expr) (t : TA) : Prop :=
  ∀ (pos : Pos) (pins : List (Addr × Obj)) (s : Shared) (σ : St) (H : Hp) (Q : List V → Hp → Prop), Inv X pins σ H s → t σ H Q → wpAny (model X.prog X.w) X.A (spliced (backTo pos (starEach es X.env))) (AP X pins σ Q) X.xe s
def PS (X : Cx) (st : Stmt) (t : TS) : Prop :=
  ∀ (pins : List (Addr × Obj)) (s : Shared) (σ : St) (H : Hp) (D : Ends), Inv X pins σ H s → t D σ H → wpAny (model X.prog X.w) X.A (exec st X.env) (SP X pins D) X.xe s
def PSs (X : Cx) (st : List Stmt) (t : TS) : Prop :=
  ∀ (pins : List (Addr × Obj)) (s : Shared) (σ : St) (H : Hp) (D : Ends), Inv X pins σ H s → t D σ H → wpAny (model X.prog X.w) X.A (execs st X.env) (SP X pins D) X.xe s
theorem thn {α : Type} {t : Sem α} {Q Q' : α → Shared → Prop} {M : Model} {A : Around} {E : Value → Shared → Prop} {s : Shared} (h : wpAny M A t Q E s) (hQ : ∀ a s, Q a s → Q' a s) : wpAny M A t Q' E s := wpAny_mono h hQ fun _ _ x => x
end L2

namespace L2
open PySem PySem.Spec PyProof.Rows
section
variable {X : Cx}

def tVar (i : Nat) : TE := fun σ H Q => ∃ v, σ[i]? = some (some v) ∧ Q v H
def tC (v : V) : TE := fun _ H Q => Q v H
theorem pe_var {i : Nat} {x : Str} {pos : Pos} (hN : X.N[i]? = some x) (hv : Vis X.env.scope x) (hd : (x == ("__debug__" : Str)) = false := by decide) (hcd : (x == ("__classdict__" : Str)) = false := by decide) : PE X (.Name x pos) (tVar i) := by
  intro pins s σ H Q I h
  obtain ⟨v, e, h⟩ := h
  obtain ⟨m, hn, hl⟩ := I.loc
  obtain ⟨u, r, l⟩ := hl i x v hN e hv
  have fin : EP X pins σ Q u s := ⟨v, H, I, r, h⟩
  rcases l with ⟨hk, hm⟩ | ⟨hk, c, hc, hcell⟩
  · exact wpAny_Name (wpAny_loadName_local I.ok.kind hk hn hm fin) hd
  · rcases hk with hk | hk
    · exact wpAny_Name (wpAny_loadName_cell I.ok.kind hk hc hcell fin) hd
    · exact wpAny_Name (wpAny_loadName_free I.ok.kind hk hc hcell fin hcd) hd
theorem pe_int {i j pos} : PE X (.Constant (.int i) j pos) (tC (.int i)) := fun _ _ _ H _ I h => wpAny_Constant_int ⟨.int i, H, I.tok _, ⟨_, rfl⟩, h⟩
theorem pe_bl {b j pos} : PE X (.Constant (.bool b) j pos) (tC (.bl b)) := fun _ _ _ H _ I h => Constant_bool ⟨.bl b, H, I, rfl, h⟩
theorem pe_non {j pos} : PE X (.Constant .none j pos) (tC .non) := fun _ _ _ H _ I h => Constant_none ⟨.non, H, I, rfl, h⟩
theorem pe_str {x j pos} : PE X (.Constant (.str x) j pos) (tC (.str x)) := fun _ _ _ H _ I h => Calls.Constant_str ⟨.str x, H, I.tok _, ⟨_, rfl⟩, h⟩

def Gl (X : Cx) (x : Str) : Prop := X.env.kindOf x = some .globalImplicit
theorem ld_glob {E : Value → Shared → Prop} {pins : List (Addr × Obj)} {s : Shared} {σ : St} {H : Hp} {x : Str} {u : Value} {pos : Pos} {Q : Value → Shared → Prop} (I : Inv X pins σ H s) (hg : Gl X x) (hm : X.mg x = some u) (h : Q u s)
    (hd : (x == ("__debug__" : Str)) = false := by decide) : wpAny (model X.prog X.w) X.A (eval (.Name x pos) X.env) Q E s :=
  Calls.Name_function_global I.ok.kind hg (Calls.loadGlobal_global (by rw [I.ok.glob]; exact I.mod.glob.keeps I.bk) hm h) hd
theorem ld_blt {E : Value → Shared → Prop} {pins : List (Addr × Obj)} {s : Shared} {σ : St} {H : Hp} {x : Str} {u : Value} {pos : Pos} {Q : Value → Shared → Prop} (I : Inv X pins σ H s) (hg : Gl X x) (hm : X.mg x = none) (hv : bootBuiltins x = some u) (h : Q u s)
    (hn : x ≠ "__name__" := by decide) (hd : (x == ("__debug__" : Str)) = false := by decide) : wpAny (model X.prog X.w) X.A (eval (.Name x pos) X.env) Q E s := by
  obtain ⟨mb, h1, h2⟩ := I.mod.blt
  exact Calls.Name_function_global I.ok.kind hg (Calls.loadGlobal_builtin (by rw [I.ok.glob]; exact I.mod.glob.keeps I.bk) hm (by rw [I.ok.blt]; exact h1.keeps I.bk) ((h2 x hn).trans hv) h) hd
theorem pe_glob {x : Str} {v : V} {u : Value} {pos : Pos} (hg : Gl X x) (hm : X.mg x = some u) (r : RelV v u) (hd : (x == ("__debug__" : Str)) = false := by decide) : PE X (.Name x pos) (tC v) :=
  fun _ _ _ H _ I h => ld_glob I hg hm ⟨v, H, I, r, h⟩ hd
theorem pe_bltn {x : Str} {v : V} {u : Value} {pos : Pos} (hg : Gl X x) (hm : X.mg x = none) (hv : bootBuiltins x = some u) (r : RelV v u) (hn : x ≠ "__name__" := by decide) (hd : (x == ("__debug__" : Str)) = false := by decide) : PE X (.Name x pos) (tC v) :=
  fun _ _ _ H _ I h => ld_blt I hg hm hv ⟨v, H, I, r, h⟩ hn hd

variable {a b : Expr} {ta tb : TE} {pos : Pos}
def tB (t : TE) : TT := fun σ H Q => t σ H fun x H1 => ∃ c, x = .bl c ∧ Q c H1
theorem pt_val {e : Expr} {t : TE} (h : PE X e t) (he : ∀ whole, isTrue e X.env whole = (do let v ← whole; standAt e.pos; holding [v] (truthy v)) := by intro _; rfl) : PT X e (tB t) := by
  intro pins s σ H Q I hw
  refine isTrue_plain (thn (h pins s σ H _ I hw) fun v s1 ⟨x, H1, I1, r1, q1⟩ => ?_) (he _)
  obtain ⟨d, rfl, q⟩ := q1
  cases r1
  exact wpAny_truthy_bool ⟨H1, I1, q⟩

variable {tA tB' : TT} {rest : List Expr}
def tAnd (t u : TT) : TT := fun σ H Q => t σ H fun c H1 => if c = true then u σ H1 Q else Q false H1
def tOr (t u : TT) : TT := fun σ H Q => t σ H fun c H1 => if c = true then Q true H1 else u σ H1 Q
def tNot (t : TT) : TT := fun σ H Q => t σ H fun c H1 => Q (!c) H1
theorem pw_and1 (ha : PT X a tA) : PW X (.BoolOp .And [a] pos) tA := by
  intro wh pins s σ H Q I h
  refine isTrue_and (thn (ha pins s σ H Q I h) fun c s1 e => ?_)
  cases c with
  | true => exact isTrue_and_nil e
  | false => exact e
theorem pw_or1 (ha : PT X a tA) : PW X (.BoolOp .Or [a] pos) tA := by
  intro wh pins s σ H Q I h
  refine isTrue_or (thn (ha pins s σ H Q I h) fun c s1 e => ?_)
  cases c with
  | false => exact isTrue_or_nil e
  | true => exact e
theorem pw_and (ha : PT X a tA) (hb : PW X (.BoolOp .And (b :: rest) pos) tB') : PW X (.BoolOp .And (a :: b :: rest) pos) (tAnd tA tB') := by
  intro wh pins s σ H Q I h
  refine isTrue_and (thn (ha pins s σ H _ I h) fun c s1 ⟨H1, I1, q1⟩ => ?_)
  cases c with
  | true => exact hb wh pins s1 σ H1 Q I1 q1
  | false => exact ⟨H1, I1, q1⟩
theorem pw_or (ha : PT X a tA) (hb : PW X (.BoolOp .Or (b :: rest) pos) tB') : PW X (.BoolOp .Or (a :: b :: rest) pos) (tOr tA tB') := by
  intro wh pins s σ H Q I h
  refine isTrue_or (thn (ha pins s σ H _ I h) fun c s1 ⟨H1, I1, q1⟩ => ?_)
  cases c with
  | true => exact ⟨H1, I1, q1⟩
  | false => exact hb wh pins s1 σ H1 Q I1 q1
theorem pt_not (ha : PT X a tA) : PT X (.UnaryOp .Not a pos) (tNot tA) := by
  intro pins s σ H Q I h
  exact isTrue_not (ha pins s σ H (fun c H1 => Q (!c) H1) I h)
def tAndV (ta tb : TE) : TE := fun σ H Q => ta σ H fun x H1 => ∃ c, x = .bl c ∧ if c = true then tb σ H1 Q else Q (.bl false) H1
theorem pe_one {op} {t : TE} (h : PE X a t) : PE X (.BoolOp op [a] pos) t := fun pins s σ H Q I hw => BoolOp_one (h pins s σ H Q I hw)
theorem pe_and (ha : PE X a ta) (hb : PE X (.BoolOp .And (b :: rest) pos) tb) : PE X (.BoolOp .And (a :: b :: rest) pos) (tAndV ta tb) := by
  intro pins s σ H Q I h
  refine BoolOp_and (thn (ha pins s σ H _ I h) fun v s1 ⟨x, H1, I1, r1, q1⟩ => ?_)
  obtain ⟨c, rfl, q1⟩ := q1
  cases r1
  refine wpAny_truthy_bool ?_
  cases c with
  | true => exact hb pins s1 σ H1 Q I1 q1
  | false => exact ⟨.bl false, H1, I1, rfl, q1⟩
end
end L2

namespace L2
open PySem PySem.Spec PyProof.Rows

def SqL (K : PySem.W.Frag) (H : Hp) (a : Addr) (xs : List V) : Prop :=
  Rd H a (.lst xs) ∨
    ∃ (o : Obj) (its : Array Value) (n : Nat), K.lookup a = some o ∧ o.cls = .type "list" ∧ o.dict = none ∧ o.data = .seq its n ∧ its.size ≤ sizeLine ∧ Vals xs its.toList
def SqT (K : PySem.W.Frag) (H : Hp) (a : Addr) (xs : List V) : Prop :=
  Rd H a (.tup xs) ∨
    ∃ (o : Obj) (its : Array Value) (n : Nat), K.lookup a = some o ∧ o.cls = .type "tuple" ∧ o.data = .seq its n ∧ its.size ≤ sizeLine ∧ Vals xs its.toList
def absV : Value → Option V
  | .none => some .non
  | .bool b => some (.bl b)
  | .int i _ => some (.int i)
  | .str x _ => some (.str x)
  | .bytes b _ => some (.byt b)
  | .float b _ => some (.flt b)
  | .ref a => some (.ref a)
  | .type n => some (.ty n)
  | _ => none
theorem RelV.abs {x : V} {u : Value} (r : RelV x u) : absV u = some x := by
  cases x with
  | non => cases r; rfl
  | bl _ => cases r; rfl
  | int _ => obtain ⟨t, rfl⟩ := r; rfl
  | str _ => obtain ⟨t, rfl⟩ := r; rfl
  | byt _ => obtain ⟨t, rfl⟩ := r; rfl
  | flt _ => obtain ⟨t, rfl⟩ := r; rfl
  | ref _ => cases r; rfl
  | ty _ => cases r; rfl
theorem RelV.inj {x y : V} {u : Value} (r : RelV x u) (q : RelV y u) : x = y := Option.some.inj (r.abs.symm.trans q.abs)
theorem Vals.inj : ∀ {xs ys : List V} {us : List Value}, Vals xs us → Vals ys us → xs = ys
  | _, _, _, .nil, .nil => rfl
  | _, _, _, .cons r t, .cons r' t' => by rw [r.inj r', Vals.inj t t']
section
variable {X : Cx} {pins : List (Addr × Obj)} {σ : St} {H : Hp} {s : Shared} {a : Addr} {xs ys : List V}
theorem SqL.of {K : PySem.W.Frag} (h : H a = some (.lst xs)) : SqL K H a xs := .inl (.inl h)
theorem SqT.of {K : PySem.W.Frag} (h : H a = some (.tup xs)) : SqT K H a xs := .inl (.inl h)
theorem Inv.list (I : Inv X pins σ H s) (h : SqL X.K H a xs) : ∃ its : List Value, Vals xs its ∧ PlainL s.heap a its.toArray ∧ xs.length ≤ sizeLine := by
  rcases h with h | ⟨o, its, n, hk, hc, hd, hs, hz, r⟩
  · obtain ⟨z, its, n, r, e⟩ := h.ok I.hok
    exact ⟨its, r, ⟨_, n, e, rfl, rfl, rfl⟩, z⟩
  · refine ⟨its.toList, r, ⟨o, n, I.kIn a o hk, hc, hd, by simpa using hs⟩, ?_⟩
    have e := r.length
    simp only [Array.length_toList] at e
    omega
theorem Inv.tuple (I : Inv X pins σ H s) (h : SqT X.K H a xs) : ∃ its : List Value, Vals xs its ∧ IsTup s.heap a its.toArray ∧ xs.length ≤ sizeLine := by
  rcases h with h | ⟨o, its, n, hk, hc, hs, hz, r⟩
  · obtain ⟨z, its, r, p⟩ := h.ok I.hok
    exact ⟨its, r, p, z⟩
  · refine ⟨its.toList, r, ⟨o, I.kIn a o hk, hc, n, by simpa using hs⟩, ?_⟩
    have e := r.length
    simp only [Array.length_toList] at e
    omega
theorem Inv.list_inj (I : Inv X pins σ H s) (h : SqL X.K H a xs) (h' : SqL X.K H a ys) : xs = ys := by
  obtain ⟨its, r, ⟨o, n, e, _, _, d⟩, _⟩ := I.list h
  obtain ⟨its', r', ⟨o', n', e', _, _, d'⟩, _⟩ := I.list h'
  rw [e] at e'; cases e'
  rw [d] at d'
  injection d' with d1 _
  have : its = its' := by simpa using congrArg Array.toList d1
  subst this
  exact r.inj r'
theorem Inv.tuple_inj (I : Inv X pins σ H s) (h : SqT X.K H a xs) (h' : SqT X.K H a ys) : xs = ys := by
  obtain ⟨its, r, ⟨o, e, _, n, d⟩, _⟩ := I.tuple h
  obtain ⟨its', r', ⟨o', e', _, n', d'⟩, _⟩ := I.tuple h'
  rw [e] at e'; cases e'
  rw [d] at d'
  injection d' with d1 _
  have : its = its' := by simpa using congrArg Array.toList d1
  subst this
  exact r.inj r'
end

abbrev Cx.wish (X : Cx) (E : Value → Shared → Prop) : Cx := { X with xe := E }
abbrev Cx.nox (X : Cx) : Cx := X.wish fun _ _ => False
theorem Cx.Ok.wish {X : Cx} (ok : X.Ok) (E : Value → Shared → Prop) : (X.wish E).Ok :=
  ⟨ok.mod, ok.kind, ok.glob, ok.blt, ok.above, ok.inj, ok.has, ok.cab, ok.hd, ok.frames, ok.stk, ok.exf, ok.bs, ok.bsz, ok.noex, ok.exfs, ok.funs, ok.frf⟩
theorem Cx.Ok.unwish {X : Cx} {E : Value → Shared → Prop} (ok : (X.wish E).Ok) : X.Ok :=
  ⟨ok.mod, ok.kind, ok.glob, ok.blt, ok.above, ok.inj, ok.has, ok.cab, ok.hd, ok.frames, ok.stk, ok.exf, ok.bs, ok.bsz, ok.noex, ok.exfs, ok.funs, ok.frf⟩
section
variable {X : Cx} {pins : List (Addr × Obj)} {σ : St} {H : Hp} {s : Shared} {E : Value → Shared → Prop}
theorem Inv.wish (I : Inv X pins σ H s) (E : Value → Shared → Prop) : Inv (X.wish E) pins σ H s := ⟨I.ok.wish E, I.os, I.bare, I.base, I.loc, I.cell, I.free, I.freeC, I.pin, I.hok, I.len⟩
theorem Inv.unwish (I : Inv (X.wish E) pins σ H s) : Inv X pins σ H s := ⟨I.ok.unwish, I.os, I.bare, I.base, I.loc, I.cell, I.free, I.freeC, I.pin, I.hok, I.len⟩
theorem SP.unwish {D : Ends} {f : Flow} {s' : Shared} (h : SP (X.wish E) pins D f s') : SP X pins D f s' := by
  cases f with
  | next => obtain ⟨σ', H', I, q⟩ := h; exact ⟨σ', H', I.unwish, q⟩
  | brk => obtain ⟨σ', H', I, q⟩ := h; exact ⟨σ', H', I.unwish, q⟩
  | cont => obtain ⟨σ', H', I, q⟩ := h; exact ⟨σ', H', I.unwish, q⟩
  | ret u => obtain ⟨v, σ', H', I, r, q⟩ := h; exact ⟨v, σ', H', I.unwish, r, q⟩
theorem PE.nox {e : Expr} {t : TE} (h : PE X.nox e t) : PE X e t := fun pins s σ H Q I hw =>
  wpAny_mono (h pins s σ H Q (I.wish _) hw) (fun _ _ ⟨v, H', I', r, q⟩ => ⟨v, H', I'.unwish, r, q⟩) fun _ _ z => False.elim z
theorem PT.nox {e : Expr} {t : TT} (h : PT X.nox e t) : PT X e t := fun pins s σ H Q I hw =>
  wpAny_mono (h pins s σ H Q (I.wish _) hw) (fun _ _ ⟨H', I', q⟩ => ⟨H', I'.unwish, q⟩) fun _ _ z => False.elim z
theorem PSs.nox {st : List Stmt} {t : TS} (h : PSs X.nox st t) : PSs X st t := fun pins s σ H D I hw =>
  wpAny_mono (h pins s σ H D (I.wish _) hw) (fun _ _ q => q.unwish) fun _ _ z => False.elim z
end

section
variable {X : Cx} {st : Stmt} {rest : List Stmt} {t u : TS} {e : Expr} {te : TE} {pos : Pos}
def tNext : TS := fun D σ H => D.nx σ H
def tSeq (t u : TS) : TS := fun D σ H => t { D with nx := u D } σ H
theorem pss_nil : PSs X [] tNext := fun _ _ σ H _ I h => wpAny_execs_nil ⟨σ, H, I, h⟩
theorem pss_cons (h1 : PS X st t) (h2 : PSs X rest u) : PSs X (st :: rest) (tSeq t u) := by
  intro pins s σ H D I h
  refine wpAny_execs_cons (thn (h1 pins s σ H { D with nx := u D } I h) fun f s1 q => ?_)
  cases f with
  | next =>
    obtain ⟨σ', H', I', q⟩ := q
    exact h2 pins s1 σ' H' D I' q
  | ret v => exact q
  | brk => exact q
  | cont => exact q
theorem pss_one (h1 : PS X st t) : PSs X [st] t := by
  intro pins s σ H D I h
  refine wpAny_execs_cons (thn (h1 pins s σ H D I h) fun f s1 q => ?_)
  cases f with
  | next => exact wpAny_execs_nil q
  | ret v => exact q
  | brk => exact q
  | cont => exact q
theorem Inv.quiet {pins : List (Addr × Obj)} {σ : St} {H : Hp} {s : Shared} (I : Inv X pins σ H s) : interactive X.env = false := by simp [interactive, I.ok.kind]
def tDrop (te : TE) : TS := fun D σ H => te σ H fun _ H1 => D.nx σ H1
theorem ps_expr (he : PE X e te) (hs : swapsWith e none pos.line X.env = pure false := by rfl) : PS X (.Expr e pos) (tDrop te) := by
  intro pins s σ H D I h
  exact wpAny_Expr_any (thn (he pins s σ H _ I h) fun v s1 ⟨x, H1, I1, r1, q1⟩ => ⟨σ, H1, I1, q1⟩) I.quiet hs
def tRet (te : TE) : TS := fun D σ H => te σ H D.rt
theorem ps_ret (he : PE X e te) : PS X (.Return (some e) pos) (tRet te) := by
  intro pins s σ H D I h
  exact wpAny_Return_some (thn (he pins s σ H _ I h) fun v s1 ⟨x, H1, I1, r1, q1⟩ => ⟨x, σ, H1, I1, r1, q1⟩)
def tIfS (c : TT) (t u : TS) : TS := fun D σ H => c σ H fun b H1 => if b = true then t D σ H1 else u D σ H1
theorem ps_if {c : Expr} {a b : List Stmt} {tc : TT} (hc : PT X c tc) (ha : PSs X a t) (hb : PSs X b u) : PS X (.If c a b pos) (tIfS tc t u) := by
  intro pins s σ H D I h
  refine wpAny_If (thn (hc pins s σ H _ I h) fun d s1 ⟨H1, I1, q1⟩ => ?_)
  cases d with
  | true => exact ha pins s1 σ H1 D I1 q1
  | false => exact hb pins s1 σ H1 D I1 q1
end

abbrev TG := V → St → Hp → (St → Hp → Prop) → Prop
def PG (X : Cx) (target : Expr) (t : TG) : Prop :=
  ∀ (pins : List (Addr × Obj)) (s : Shared) (σ : St) (H : Hp) (v : V) (u : Value) (Q : St → Hp → Prop), Inv X pins σ H s → RelV v u → t v σ H Q →
    wpAny (model X.prog X.w) X.A (assign target X.env u) (fun _ s' => ∃ σ' H', Inv X pins σ' H' s' ∧ Q σ' H') X.xe s
abbrev TSet := V → V → V → Hp → (Hp → Prop) → Prop
def PSet (X : Cx) (t : TSet) : Prop :=
  ∀ (pins : List (Addr × Obj)) (s : Shared) (σ : St) (H : Hp) (o i v : V) (ov iv u : Value) (Q : Hp → Prop), Inv X pins σ H s → RelV o ov → RelV i iv → RelV v u → t o i v H Q →
    wpAny (model X.prog X.w) X.A (setItem ov iv u) (fun _ s' => ∃ H', Inv X pins σ H' s' ∧ Q H') X.xe s
abbrev TIp := V → V → Hp → VK → Prop
def PIp (X : Cx) (op : Operator) (t : TIp) : Prop :=
  ∀ (pins : List (Addr × Obj)) (s : Shared) (σ : St) (H : Hp) (x y : V) (v u : Value) (Q : VK), Inv X pins σ H s → RelV x v → RelV y u → t x y H Q →
    wpAny (model X.prog X.w) X.A (inplaceOp op v u) (EP X pins σ Q) X.xe s
section
variable {X : Cx} {pos : Pos}
def gName (i : Nat) : TG := fun v σ H Q => Q (σ.set i (some v)) H
theorem pg_name {i : Nat} {x : Str} (hN : X.N.Nodup) (hi : X.N[i]? = some x) (hx : Loc X.env.scope x) (hf : X.fn x = true ∨ X.env.scope.names.lookup x = some .local := by first | exact .inl rfl | exact .inr rfl | assumption) : PG X (.Name x pos) (gName i) := by
  intro pins s σ H v u Q I r h
  exact wpAny_assign_Name (store_ok I hN hi hx r (fun s' I' => ⟨_, H, I', h⟩) hf)
def gSub (to ti : TE) (t : TSet) : TG := fun v σ H Q => to σ H fun o H1 => ti σ H1 fun i H2 => t o i v H2 fun H3 => Q σ H3
theorem pg_sub {o i : Expr} {to ti : TE} {t : TSet} (ho : PE X o to) (hi : PE X i ti) (hs : PSet X t)
    (ha : ∀ v, assign (.Subscript o i pos) X.env v = (do
      let ov ← holding [v] (eval o X.env)
      let iv ← holding [v, ov] (eval i X.env)
      standAt pos
      holding [v, ov, iv] (setItem ov iv v)
      release [v, ov, iv] []) := by intro _; rfl) : PG X (.Subscript o i pos) (gSub to ti t) := by
  intro pins s σ H v u Q I r h
  rw [ha]
  refine wpAny_bind (wpAny_holding (thn (ho pins s σ H _ I h) fun ov s1 ⟨x, H1, I1, r1, q1⟩ => ?_))
  refine wpAny_bind (wpAny_holding (thn (hi pins s1 σ H1 _ I1 q1) fun iv s2 ⟨y, H2, I2, r2, q2⟩ => ?_))
  refine wpAny_bind (wpAny_standAt (wpAny_bind (wpAny_holding (thn (hs pins s2 σ H2 x y v ov iv u _ I2 r1 r2 r q2) fun _ s3 ⟨H3, I3, q3⟩ => ?_))))
  exact wpAny_release ⟨σ, H3, I3, q3⟩
def tAsg (te : TE) (g : TG) : TS := fun D σ H => te σ H fun x H1 => g x σ H1 D.nx
theorem ps_asg {tg e : Expr} {te : TE} {g : TG} (he : PE X e te) (hg : PG X tg g) (hs : swapsWithSole [tg] e pos.line X.env = pure false := by rfl) (hw : swappedStores [tg] e X.env = pure none := by rfl)
    (h1 : (assignEach [tg] X.env).map (·.2) = [assign tg X.env] := by rfl) : PS X (.Assign [tg] e pos) (tAsg te g) := by
  intro pins s σ H D I h
  refine wpAny_Assign_stores (thn (he pins s σ H _ I h) fun v s1 ⟨x, H1, I1, r1, q1⟩ => ?_) hs hw
  rw [h1]
  exact thn (hg pins s1 σ H1 x v _ I1 r1 q1) fun _ s2 q => q
theorem ps_set {i : Nat} {x : Str} {e : Expr} {te : TE} {pos' : Pos} (hN : X.N.Nodup) (hi : X.N[i]? = some x) (hx : Loc X.env.scope x) (he : PE X e te) (hs : swapsWith e (some (.Name x pos')) pos.line X.env = pure false := by rfl) (hf : X.fn x = true ∨ X.env.scope.names.lookup x = some .local := by first | exact .inl rfl | exact .inr rfl | assumption) :
    PS X (.Assign [.Name x pos'] e pos) (tAsg te (gName i)) := by
  intro pins s σ H D I h
  refine wpAny_Assign_Name (thn (he pins s σ H _ I h) fun v s1 ⟨y, H1, I1, r1, q1⟩ => ?_) hs
  exact store_ok I1 hN hi hx r1 (fun s2 I2 => ⟨_, H1, I2, q1⟩) hf
def tAug (i : Nat) (te : TE) (ti : TIp) : TS := fun D σ H => ∃ x, σ[i]? = some (some x) ∧ te σ H fun y H1 => ti x y H1 fun z H2 => D.nx (σ.set i (some z)) H2
theorem ps_aug {i : Nat} {x : Str} {e : Expr} {te : TE} {op : Operator} {ti : TIp} {pos' : Pos} (hN : X.N.Nodup) (hi : X.N[i]? = some x) (hx : Loc X.env.scope x) (he : PE X e te) (ho : PIp X op ti) (hf : X.fn x = true ∨ X.env.scope.names.lookup x = some .local := by first | exact .inl rfl | exact .inr rfl | assumption) :
    PS X (.AugAssign (.Name x pos') op e pos) (tAug i te ti) := by
  intro pins s σ H D I h
  obtain ⟨v, e1, h⟩ := h
  obtain ⟨m, hn, hl⟩ := I.loc
  have vis : Vis X.env.scope x := by rcases hx with k | k; exact .inl k; exact .inr (.inl k)
  obtain ⟨u, r, l⟩ := hl i x v hi e1 vis
  refine wpAny_AugAssign_Name ?_
  have go : wpAny (model X.prog X.w) X.A (eval e X.env) (fun w s₂ => wpAny (model X.prog X.w) X.A (inplaceOp op u w) (fun r s₃ => wpAny (model X.prog X.w) X.A (storeName X.env x r) (fun _ => SP X pins D .next) X.xe s₃) X.xe s₂) X.xe s := by
    refine thn (he pins s σ H _ I h) fun w s1 ⟨y, H1, I1, r1, q1⟩ => ?_
    refine thn (ho pins s1 σ H1 v y u w _ I1 r r1 q1) fun z s2 ⟨zv, H2, I2, r2, q2⟩ => ?_
    exact store_ok I2 hN hi hx r2 (fun s3 I3 => ⟨_, H2, I3, q2⟩) hf
  rcases l with ⟨hk, hm⟩ | ⟨hk, c, hc, hcell⟩
  · exact wpAny_loadName_local I.ok.kind hk hn hm go
  · rcases hk with hk | hk
    · exact wpAny_loadName_cell I.ok.kind hk hc hcell go
    · rcases hx with k | k
      · have : X.env.scope.names.lookup x = some .free := hk
        rw [k] at this; cases this
      · have : X.env.scope.names.lookup x = some .free := hk
        rw [k] at this; cases this
end

section
variable {X : Cx} {pos : Pos}
end

structure It where
  go : Nat → Hp → Prop
  yld : Nat → Hp → V → Hp → Prop
  stop : Nat → Hp → Prop
def FpOk (X : Cx) (pins : List (Addr × Obj)) (H : Hp) (b : Addr) : Prop :=
  H b = none ∧ b ≠ X.env.locals ∧ b ∉ X.fs ∧ (b ∈ X.ex ∨ X.s₀.heap.objs.size ≤ b) ∧ (∀ x c, X.env.cells.lookup x = some c → c ≠ b) ∧ ∀ p ∈ X.pn ++ pins, p.1 ≠ b
theorem Inv.fpOk {X : Cx} {pins : List (Addr × Obj)} {σ : St} {H H' : Hp} {s : Shared} {b : Addr} (I : Inv X pins σ H s) (hb : s.heap.objs.size ≤ b) (hn : H' b = none) : FpOk X pins H' b := by
  refine ⟨hn, Nat.ne_of_gt (Nat.lt_of_lt_of_le I.lt hb), I.nofs hb, .inr (Nat.le_trans I.sz hb), fun x c e z => ?_, fun p hp z => ?_⟩
  · obtain ⟨v, q⟩ := I.cell x c e
    exact absurd (Nat.lt_of_lt_of_le q.lt (by rw [z]; exact hb)) (Nat.lt_irrefl _)
  · exact absurd (Nat.lt_of_lt_of_le (Heap.lt_size (I.pin p hp).1) (by rw [z]; exact hb)) (Nat.lt_irrefl _)
structure Turn (P : Program) (w : World) (K : PySem.W.Frag) (tg : Expr) (J : It) (fp : List Addr) (it : Addr) (tn : Nat → Heap → Prop) : Prop where
  mem : it ∈ fp
  obj : ∀ i h, tn i h → ∀ b ∈ fp, ∃ o, h.get? b = some o ∧ ∀ v, o.data ≠ .cell v
  keep : ∀ i h h', tn i h → (∀ b ∈ fp, ∀ o, h.get? b = some o → h'.get? b = some o) → tn i h'
  item : ∀ (X : Cx), X.prog = P → X.w = w → X.K = K → X.calm = true → ∀ (i : Nat) (pins : List (Addr × Obj)) (s : Shared) (σ : St) (H : Hp) (E : Value → Shared → Prop), Inv X pins σ H s → (∀ b ∈ fp, FpOk X pins H b) → tn i s.heap → J.go i H →
    wpAny (model P w) X.A (pyNext (.ref it)) (fun r s1 => ∃ u, r = some u ∧
      wpAny (model P w) X.A (letOwnedTupleGo tg (.ref it) u) (fun _ s2 => ∃ x H', Inv X pins σ H' s2 ∧ RelV x u ∧ J.yld i H x H' ∧ tn (i + 1) s2.heap ∧ ∀ b ∈ fp, H' b = none) E s1) E s
  done : ∀ (X : Cx), X.prog = P → X.w = w → X.K = K → X.calm = true → ∀ (i : Nat) (pins : List (Addr × Obj)) (s : Shared) (σ : St) (H : Hp) (E : Value → Shared → Prop), Inv X pins σ H s → (∀ b ∈ fp, FpOk X pins H b) → tn i s.heap → J.stop i H →
    wpAny (model P w) X.A (pyNext (.ref it)) (fun r s1 => r = none ∧ Inv X pins σ H s1) E s
  self : ∀ (A : Around) (i : Nat) (s : Shared) (Q : Value → Shared → Prop) (E : Value → Shared → Prop), tn i s.heap → Q (.ref it) s → wpAny (model P w) A (pyIter (.ref it)) Q E s
abbrev TI := St → Hp → (It → Hp → Prop) → Prop
def PIE (X : Cx) (pins : List (Addr × Obj)) (σ : St) (tg : Expr) (R : It → Hp → Prop) (itv : Value) (s2 : Shared) : Prop :=
  ∃ (it : Addr) (fp : List Addr) (tn : Nat → Heap → Prop) (J : It) (H' : Hp), itv = .ref it ∧ Inv X pins σ H' s2 ∧ Turn X.prog X.w X.K tg J fp it tn ∧ tn 0 s2.heap ∧ (∀ b ∈ fp, FpOk X pins H' b) ∧ R J H'
def PI (X : Cx) (tg iter : Expr) (wi : TI) : Prop :=
  ∀ (pins : List (Addr × Obj)) (s : Shared) (σ : St) (H : Hp) (R : It → Hp → Prop), Inv X pins σ H s → wi σ H R →
    wpAny (model X.prog X.w) X.A (eval iter X.env) (fun v s1 => wpAny (model X.prog X.w) X.A (pyIter v) (PIE X pins σ tg R) X.xe s1) X.xe s

theorem go_of {M : Model} {A : Around} {E : Value → Shared → Prop} {s : Shared} {tg : Expr} {it : Addr} {u : Value} {o : Obj} {n : String} {vs : Array Value} {Q : Unit → Shared → Prop} (ho : s.heap.get? it = some o) (hc : o.cls = .type n) (hd : o.data = .fields vs)
    (hn : ["enumerate", "zip", "dict_itemiterator", "dict_reverseitemiterator", "odict_iterator", "itertools.zip_longest", "itertools.pairwise"].contains n = false) (hQ : Q () s) : wpAny M A (letOwnedTupleGo tg (.ref it) u) Q E s := by
  unfold letOwnedTupleGo
  cases tg <;> first
    | exact wpAny_pure hQ
    | (cases u <;> first
        | exact wpAny_pure hQ
        | (refine wpAny_bind (wpAny_load ho ?_)
           rw [hc, hd]
           show wpAny M A (if (["enumerate", "zip", "dict_itemiterator", "dict_reverseitemiterator", "odict_iterator", "itertools.zip_longest", "itertools.pairwise"].contains n && vs[0]? == some (rawInt _)) = true then _ else _) Q E s
           rw [if_neg (by intro h; rw [hn, Bool.false_and] at h; cases h)]
           exact wpAny_pure hQ))

def Itl (K : PySem.W.Frag) (a : Addr) : It :=
  ⟨fun i H => ∃ xs x, SqL K H a xs ∧ xs[i]? = some x, fun i H x H' => H' = H ∧ ∀ xs, SqL K H a xs → xs[i]? = some x, fun i H => ∃ xs, SqL K H a xs ∧ xs.length ≤ i⟩
def Itt (K : PySem.W.Frag) (a : Addr) : It :=
  ⟨fun i H => ∃ xs x, SqT K H a xs ∧ xs[i]? = some x, fun i H x H' => H' = H ∧ ∀ xs, SqT K H a xs → xs[i]? = some x, fun i H => ∃ xs, SqT K H a xs ∧ xs.length ≤ i⟩
theorem turn_list {P : Program} {w : World} {K : PySem.W.Frag} {tg : Expr} (a it : Addr) : Turn P w K tg (Itl K a) [it] it (fun i h => h.IsListIter it a i) where
  mem := by simp
  obj := fun i h st b hb => by
    have e : b = it := by simpa using hb
    subst e
    obtain ⟨o, e, c, d⟩ := st
    exact ⟨o, e, fun v z => by rw [d] at z; cases z⟩
  keep := fun i h h' st k => st.at fun o e => k it (by simp) o e
  item := by
    intro X hP hw hK hc i pins s σ H E I hf st hg
    subst hP hw hK
    obtain ⟨xs, x, hq, hx⟩ := hg
    obtain ⟨its, rv, p, hz⟩ := I.list hq
    obtain ⟨u, hu, ru⟩ := rv.get hx
    obtain ⟨f0, f1, f2, f3, f4, f5⟩ := hf it (by simp)
    refine wpAny_pyNext_list_item st p.isList (x := u) (by simpa using hu) fun h' st' sb => ?_
    have I1 : Inv X pins σ H { s with heap := h' } := I.turned (t' := s.toks) (fun b o hb e => (sb.2 b hb).trans e) f0 f1 f3 f4 f5
    obtain ⟨o, e, c, d⟩ := id st'
    exact ⟨u, rfl, go_of (s := { s with heap := h' }) e c d (by decide) ⟨x, H, I1, ru, ⟨rfl, fun ys hy => by rw [I.list_inj hy hq]; exact hx⟩, st', fun b hb => (hf b hb).1⟩⟩
  done := by
    intro X hP hw hK hc i pins s σ H E I hf st hg
    subst hP hw hK
    obtain ⟨xs, hq, hx⟩ := hg
    obtain ⟨its, rv, p, hz⟩ := I.list hq
    obtain ⟨f0, f1, f2, f3, f4, f5⟩ := hf it (by simp)
    have hl := rv.length
    exact wpAny_pyNext_list_end (I.ok.hd hc) st p.isList (by simp; omega) fun h' eb => ⟨rfl, I.turned (t' := s.toks) (fun b o hb e => eb b o hb e) f0 f1 f3 f4 f5⟩
  self := fun _ _ _ _ _ st h => wpAny_pyIter_listiter st h
theorem turn_tuple {P : Program} {w : World} {K : PySem.W.Frag} {tg : Expr} (a it : Addr) : Turn P w K tg (Itt K a) [it] it (fun i h => h.IsTupleIter it a i) where
  mem := by simp
  obj := fun i h st b hb => by
    have e : b = it := by simpa using hb
    subst e
    obtain ⟨o, e, c, d⟩ := st
    exact ⟨o, e, fun v z => by rw [d] at z; cases z⟩
  keep := fun i h h' st k => st.at fun o e => k it (by simp) o e
  item := by
    intro X hP hw hK hc i pins s σ H E I hf st hg
    subst hP hw hK
    obtain ⟨xs, x, hq, hx⟩ := hg
    obtain ⟨its, rv, p, hz⟩ := I.tuple hq
    obtain ⟨u, hu, ru⟩ := rv.get hx
    obtain ⟨f0, f1, f2, f3, f4, f5⟩ := hf it (by simp)
    refine wpAny_pyNext_tuple_item st (show s.heap.IsTuple a its.toArray from p) (x := u) (by simpa using hu) fun h' st' sb => ?_
    have I1 : Inv X pins σ H { s with heap := h' } := I.turned (t' := s.toks) (fun b o hb e => (sb.2 b hb).trans e) f0 f1 f3 f4 f5
    obtain ⟨o, e, c, d⟩ := id st'
    exact ⟨u, rfl, go_of (s := { s with heap := h' }) e c d (by decide) ⟨x, H, I1, ru, ⟨rfl, fun ys hy => by rw [I.tuple_inj hy hq]; exact hx⟩, st', fun b hb => (hf b hb).1⟩⟩
  done := by
    intro X hP hw hK hc i pins s σ H E I hf st hg
    subst hP hw hK
    obtain ⟨xs, hq, hx⟩ := hg
    obtain ⟨its, rv, p, hz⟩ := I.tuple hq
    obtain ⟨f0, f1, f2, f3, f4, f5⟩ := hf it (by simp)
    have hl := rv.length
    exact wpAny_pyNext_tuple_end (I.ok.hd hc) st (show s.heap.IsTuple a its.toArray from p) (by simp; omega) fun h' eb => ⟨rfl, I.turned (t' := s.toks) (fun b o hb e => eb b o hb e) f0 f1 f3 f4 f5⟩
  self := fun _ _ _ _ _ st h => wpAny_pyIter_tupleiter st h
end L2

namespace L2
open PySem PySem.Spec PyProof.Rows
section
variable {X : Cx} {tg : Expr}
def tFor (wi : TI) (g : TG) (tb : TS) : TS := fun D σ H => wi σ H fun J H1 => ∃ W : Nat → Nat → St → Hp → Prop, (∃ m, W 0 m σ H1) ∧ ∀ i m σ H, W i m σ H →
  (J.stop i H ∧ D.nx σ H) ∨ (J.go i H ∧ ∃ N : St → Hp → Prop, (∀ σ' H', N σ' H' → ∃ m', m' < m ∧ W (i + 1) m' σ' H') ∧ ∀ x H', J.yld i H x H' → g x σ H' fun σ2 H2 => tb { D with nx := N, ct := N, bk := D.nx } σ2 H2)
def pinsAt (fp : List Addr) (h : Heap) : List (Addr × Obj) := fp.filterMap fun b => (h.get? b).map fun o => (b, o)
theorem mem_pinsAt {fp : List Addr} {h : Heap} {b : Addr} {o : Obj} (hb : b ∈ fp) (e : h.get? b = some o) : (b, o) ∈ pinsAt fp h := List.mem_filterMap.mpr ⟨b, hb, by rw [e]; rfl⟩
theorem of_pinsAt {fp : List Addr} {h : Heap} {p : Addr × Obj} (hp : p ∈ pinsAt fp h) : p.1 ∈ fp ∧ h.get? p.1 = some p.2 := by
  obtain ⟨b, hb, e⟩ := List.mem_filterMap.mp hp
  cases q : h.get? b with
  | none => rw [q] at e; cases e
  | some o =>
    rw [q] at e
    have e' : (b, o) = p := Option.some.inj e
    subst e'
    exact ⟨hb, q⟩
theorem Inv.pinned {pins : List (Addr × Obj)} {σ : St} {H : Hp} {s : Shared} {fp : List Addr} (I : Inv X pins σ H s) (hf : ∀ b ∈ fp, FpOk X pins H b) (ho : ∀ b ∈ fp, ∃ o, s.heap.get? b = some o ∧ ∀ v, o.data ≠ .cell v) : Inv X (pins ++ pinsAt fp s.heap) σ H s :=
  I.pins_of fun p hp => (List.mem_append.mp hp).elim (fun z => I.pin p (List.mem_append_right _ z)) fun z => by
    obtain ⟨hb, e⟩ := of_pinsAt z
    obtain ⟨f0, f1, f2, _⟩ := hf p.1 hb
    obtain ⟨o, e', d⟩ := ho p.1 hb
    rw [e] at e'; cases e'
    exact ⟨e, f0, f1, f2, d⟩
theorem Inv.unpinned {pins pl : List (Addr × Obj)} {σ : St} {H : Hp} {s : Shared} (I : Inv X (pins ++ pl) σ H s) : Inv X pins σ H s := I.pins_of fun p hp => I.pin p (List.mem_append_right _ (List.mem_append_left _ hp))
theorem ps_for {iter : Expr} {body : List Stmt} {wi : TI} {g : TG} {tb : TS} {pos : Pos} (hp : PassesOwn (model X.prog X.w) X.A X.env X.xe) (hc : X.calm = true) (hi : PI X tg iter wi) (hg : PG X tg g) (hb : PSs X body tb)
    (hs : ∀ x, foldedSetIterable iter X.env x = pure x := by intro _; rfl) : PS X (.For tg iter body [] pos) (tFor wi g tb) := by
  intro pins s σ H D I h
  refine wpAny_For (thn (hi pins s σ H _ I h) fun v s1 h1 => thn h1 fun itv s2 h2 => ?_) hs
  obtain ⟨it, fp, tn, J, H2, e, I2, T, st2, f2, W, ⟨m0, w0⟩, turn⟩ := h2
  subst e
  have stat : ∀ {H' : Hp}, (∀ b ∈ fp, H' b = none) → ∀ b ∈ fp, FpOk X pins H' b := fun hn b hb => ⟨hn b hb, (f2 b hb).2⟩
  refine codeAny_forLoop_any (fun n s' => ∃ i σ' H', Inv X pins σ' H' s' ∧ tn i s'.heap ∧ (∀ b ∈ fp, H' b = none) ∧ W i n σ' H') ?_ m0 ⟨0, σ, H2, I2, st2, fun b hb => (f2 b hb).1, w0⟩
  rintro n s3 ⟨i, σ3, H3, I3, st3, fr3, w3⟩
  rcases turn i n σ3 H3 w3 with ⟨stop, qn⟩ | ⟨go, N, hN, step⟩
  · refine wpAny_passesOwn hp (thn (T.done X rfl rfl rfl hc i pins s3 σ3 H3 X.xe I3 (stat fr3) st3 stop) fun r s4 ⟨hr, I4⟩ => ?_)
    subst hr
    exact wpAny_execs_nil ⟨σ3, H3, I4, qn⟩
  · refine wpAny_passesOwn hp (thn (T.item X rfl rfl rfl hc i pins s3 σ3 H3 X.xe I3 (stat fr3) st3 go) fun r s4 ⟨u, hr, h4⟩ => ?_)
    subst hr
    refine wpAny_passesOwn hp (thn h4 fun _ s5 ⟨x, H5, I5, r5, y5, st5, fr5⟩ => ?_)
    have I5' := I5.pinned (stat fr5) (T.obj _ _ st5)
    refine wpAny_passesOwn hp (thn (hg _ s5 σ3 H5 x u _ I5' r5 (step x H5 y5)) fun _ s6 ⟨σ6, H6, I6, q6⟩ => ?_)
    refine wpAny_passesOwn hp (thn (hb _ s6 σ6 H6 _ I6 q6) fun f s7 q7 => ?_)
    have again : ∀ {σ7 : St} {H7 : Hp}, Inv X (pins ++ pinsAt fp s5.heap) σ7 H7 s7 → N σ7 H7 → ∃ m, m < n ∧ ∃ i σ' H', Inv X pins σ' H' s7 ∧ tn i s7.heap ∧ (∀ b ∈ fp, H' b = none) ∧ W i m σ' H' := fun {σ7 H7} I7 n7 => by
      obtain ⟨m', hm, w7⟩ := hN σ7 H7 n7
      refine ⟨m', hm, i + 1, σ7, H7, I7.unpinned, T.keep _ _ _ st5 fun b hb o e => (I7.pin (b, o) (List.mem_append_right _ (List.mem_append_right _ (mem_pinsAt hb e)))).1, fun b hb => ?_, w7⟩
      obtain ⟨o, e, d⟩ := T.obj _ _ st5 b hb
      exact (I7.pin (b, o) (List.mem_append_right _ (List.mem_append_right _ (mem_pinsAt hb e)))).2.1
    cases f with
    | next => obtain ⟨σ7, H7, I7, n7⟩ := q7; exact again I7 n7
    | cont => obtain ⟨σ7, H7, I7, n7⟩ := q7; exact again I7 n7
    | brk => obtain ⟨σ7, H7, I7, q7⟩ := q7; exact ⟨σ7, H7, I7.unpinned, q7⟩
    | ret v => obtain ⟨x7, σ7, H7, I7, r7, q7⟩ := q7; exact ⟨x7, σ7, H7, I7.unpinned, r7, q7⟩
end

theorem for_list {K : PySem.W.Frag} {a : Addr} {xs : List V} {g : TG} {tb : TS} {D : Ends} {σ : St} {H : Hp} (Pv : Nat → St → Hp → Prop) (h0 : Pv 0 σ H) (hl : ∀ i σ H, i ≤ xs.length → Pv i σ H → SqL K H a xs)
    (hs : ∀ i x σ H, xs[i]? = some x → Pv i σ H → g x σ H fun σ2 H2 => tb { D with nx := Pv (i + 1), ct := Pv (i + 1), bk := D.nx } σ2 H2) (hd : ∀ σ H, Pv xs.length σ H → D.nx σ H) :
    ∃ W : Nat → Nat → St → Hp → Prop, (∃ m, W 0 m σ H) ∧ ∀ i m σ H, W i m σ H →
      ((Itl K a).stop i H ∧ D.nx σ H) ∨ ((Itl K a).go i H ∧ ∃ N : St → Hp → Prop, (∀ σ' H', N σ' H' → ∃ m', m' < m ∧ W (i + 1) m' σ' H') ∧ ∀ x H', (Itl K a).yld i H x H' → g x σ H' fun σ2 H2 => tb { D with nx := N, ct := N, bk := D.nx } σ2 H2) := by
  refine ⟨fun i m σ H => m = xs.length - i ∧ i ≤ xs.length ∧ Pv i σ H, ⟨xs.length, by simp, Nat.zero_le _, h0⟩, ?_⟩
  rintro i m σ H ⟨rfl, hi, p⟩
  have q := hl i σ H hi p
  by_cases hlt : i < xs.length
  · refine .inr ⟨⟨xs, xs[i], q, by simp [hlt]⟩, Pv (i + 1), fun σ' H' p' => ⟨xs.length - (i + 1), by omega, rfl, hlt, p'⟩, fun x H' y => ?_⟩
    obtain ⟨e, y⟩ := y
    subst e
    exact hs i x σ _ (y xs q) p
  · have e : i = xs.length := by omega
    subst e
    exact .inl ⟨⟨xs, q, Nat.le_refl _⟩, hd σ H p⟩
end L2

namespace L2
open PySem PySem.Spec PyProof.Rows

abbrev R2 := V → V → Hp → VK → Prop
def OpR (X : Cx) (f : Value → Value → Sem Value) (r : R2) : Prop :=
  ∀ (pins : List (Addr × Obj)) (s : Shared) (σ : St) (H : Hp) (x y : V) (v u : Value) (Q : VK), Inv X pins σ H s → RelV x v → RelV y u → r x y H Q →
    wpAny (model X.prog X.w) X.A (f v u) (EP X pins σ Q) X.xe s
def UnR (X : Cx) (f : Value → Sem Value) (r : V → Hp → VK → Prop) : Prop :=
  ∀ (pins : List (Addr × Obj)) (s : Shared) (σ : St) (H : Hp) (x : V) (v : Value) (Q : VK), Inv X pins σ H s → RelV x v → r x H Q →
    wpAny (model X.prog X.w) X.A (f v) (EP X pins σ Q) X.xe s
def CallR (X : Cx) (f : Value) (r : List V → Hp → VK → Prop) : Prop :=
  ∀ (pins : List (Addr × Obj)) (s : Shared) (σ : St) (H : Hp) (xs : List V) (us : List Value) (Q : VK), Inv X pins σ H s → Vals xs us → r xs H Q →
    wpAny (model X.prog X.w) X.A (call f us) (EP X pins σ Q) X.xe s
def tOp (r : R2) (ta tb : TE) : TE := fun σ H Q => ta σ H fun x H1 => tb σ H1 fun y H2 => r x y H2 Q
def tUn (r : V → Hp → VK → Prop) (ta : TE) : TE := fun σ H Q => ta σ H fun x H1 => r x H1 Q
def rI (C : Int → Int → Prop) (g : Int → Int → V) : R2 := fun x y H Q => ∃ i j, x = .int i ∧ y = .int j ∧ C i j ∧ Q (g i j) H
def rI0 (g : Int → Int → V) : R2 := fun x y H Q => ∃ i j, x = .int i ∧ y = .int j ∧ Q (g i j) H
def rU (g : Int → V) : V → Hp → VK → Prop := fun x H Q => ∃ i, x = .int i ∧ Q (g i) H

section
variable {X : Cx} {a b c : Expr} {ta tb tc : TE} {pos : Pos}

theorem binT (ha : PE X a ta) (hb : PE X b tb) {pins : List (Addr × Obj)} {s : Shared} {σ : St} {H : Hp} {R : V → V → Hp → Prop} (I : Inv X pins σ H s)
    (h : ta σ H fun x H1 => tb σ H1 fun y H2 => R x y H2) {Q : Value → Shared → Prop} {f : Value → Value → Sem Value}
    (hf : ∀ v u s2 x y H2, Inv X pins σ H2 s2 → RelV x v → RelV y u → R x y H2 → wpAny (model X.prog X.w) X.A (f v u) Q X.xe s2) :
    wpAny (model X.prog X.w) X.A (eval a X.env) (fun v s₁ => wpAny (model X.prog X.w) X.A (eval b X.env) (fun u s₂ => wpAny (model X.prog X.w) X.A (f v u) Q X.xe s₂) X.xe s₁) X.xe s := by
  refine thn (ha pins s σ H _ I h) fun v s1 ⟨x, H1, I1, r1, q1⟩ => ?_
  refine thn (hb pins s1 σ H1 _ I1 q1) fun u s2 ⟨y, H2, I2, r2, q2⟩ => ?_
  exact hf v u s2 x y H2 I2 r1 r2 q2

theorem pe_op {op : Operator} {r : R2} (ho : OpR X (binaryOp op) r) (ha : PE X a ta) (hb : PE X b tb) : PE X (.BinOp a op b pos) (tOp r ta tb) := by
  intro pins s σ H Q I h
  exact wpAny_BinOp (binT ha hb I h fun v u s2 x y H2 I2 rx ry q => ho pins s2 σ H2 x y v u Q I2 rx ry q)
theorem pe_un {op : UnaryOp} {r : V → Hp → VK → Prop} (ho : UnR X (unaryOp op) r) (ha : PE X a ta) : PE X (.UnaryOp op a pos) (tUn r ta) := by
  intro pins s σ H Q I h
  exact UnaryOp_ (thn (ha pins s σ H _ I h) fun v s1 ⟨x, H1, I1, r1, q1⟩ => ho pins s1 σ H1 x v Q I1 r1 q1)
theorem opI {f : Value → Value → Sem Value} {C : Int → Int → Prop} {g : Int → Int → Int}
    (rule : ∀ (i j : Int) (t u : Tok) (s : Shared) (Q : Value → Shared → Prop) (E : Value → Shared → Prop), C i j → Q (.int (g i j) s.toks) { s with toks := s.toks + 1 } → wpAny (model X.prog X.w) X.A (f (.int i t) (.int j u)) Q E s) :
    OpR X f (rI C fun i j => .int (g i j)) := by
  intro pins s σ H x y v u Q I rx ry h
  obtain ⟨i, j, rfl, rfl, hc, q⟩ := h
  obtain ⟨t, rfl⟩ := rx
  obtain ⟨t', rfl⟩ := ry
  exact rule i j t t' s _ _ hc ⟨.int (g i j), H, I.tok _, ⟨_, rfl⟩, q⟩
theorem opI0 {f : Value → Value → Sem Value} {g : Int → Int → Int}
    (rule : ∀ (i j : Int) (t u : Tok) (s : Shared) (Q : Value → Shared → Prop) (E : Value → Shared → Prop), Q (.int (g i j) s.toks) { s with toks := s.toks + 1 } → wpAny (model X.prog X.w) X.A (f (.int i t) (.int j u)) Q E s) :
    OpR X f (rI0 fun i j => .int (g i j)) := by
  intro pins s σ H x y v u Q I rx ry h
  obtain ⟨i, j, rfl, rfl, q⟩ := h
  obtain ⟨t, rfl⟩ := rx
  obtain ⟨t', rfl⟩ := ry
  exact rule i j t t' s _ _ ⟨.int (g i j), H, I.tok _, ⟨_, rfl⟩, q⟩
theorem opB0 {f : Value → Value → Sem Value} {g : Int → Int → Bool}
    (rule : ∀ (i j : Int) (t u : Tok) (s : Shared) (Q : Value → Shared → Prop) (E : Value → Shared → Prop), Q (.bool (g i j)) s → wpAny (model X.prog X.w) X.A (f (.int i t) (.int j u)) Q E s) :
    OpR X f (rI0 fun i j => .bl (g i j)) := by
  intro pins s σ H x y v u Q I rx ry h
  obtain ⟨i, j, rfl, rfl, q⟩ := h
  obtain ⟨t, rfl⟩ := rx
  obtain ⟨t', rfl⟩ := ry
  exact rule i j t t' s _ _ ⟨.bl (g i j), H, I, rfl, q⟩

def CDiv (i j : Int) : Prop := 0 < j ∧ j < 1073741824
def CMul (i j : Int) : Prop := (-(2 ^ 64) < i ∧ i < 2 ^ 64) ∨ (-(2 ^ 64) < j ∧ j < 2 ^ 64)
theorem CMul.ok {i j : Int} (h : CMul i j) : IntMulOk i j := by
  rcases h with ⟨h1, h2⟩ | ⟨h1, h2⟩
  · exact .of_left (intBits_le_64 h1 h2)
  · exact .of_right (intBits_le_64 h1 h2)
theorem op_add : OpR X (binaryOp .Add) (rI0 fun i j => .int (i + j)) := opI0 fun _ _ _ _ _ _ _ q => add_int q
theorem op_sub : OpR X (binaryOp .Sub) (rI0 fun i j => .int (i - j)) := opI0 fun _ _ _ _ _ _ _ q => sub_int q
theorem op_mul : OpR X (binaryOp .Mult) (rI CMul fun i j => .int (i * j)) := opI fun _ _ _ _ _ _ _ hc q => mul_int q hc.ok
theorem op_fdiv : OpR X (binaryOp .FloorDiv) (rI CDiv fun i j => .int (i / j)) := opI fun i j _ _ _ _ _ hc q => by
  have h1 : (0 : Int) < j := hc.1
  have h2 : j < 1073741824 := hc.2
  exact floordiv_int (by omega) (by rw [Int.fdiv_eq_ediv_of_nonneg i (by omega)]; exact q) (.inl (PyProof.noPylong_small (by omega)))
theorem op_mod : OpR X (binaryOp .Mod) (rI (fun _ j => 0 < j) fun i j => .int (i % j)) := opI fun i j _ _ _ _ _ hc q => by
  have h1 : (0 : Int) < j := hc
  exact mod_int' (by omega) (by rw [Int.fmod_eq_emod_of_nonneg i (by omega)]; exact q)
theorem iop_add : OpR X (inplaceOp .Add) (rI0 fun i j => .int (i + j)) := opI0 fun _ _ _ _ _ _ _ q => iadd_int q
theorem unI {f : Value → Sem Value} {g : Int → Int}
    (rule : ∀ (i : Int) (t : Tok) (s : Shared) (Q : Value → Shared → Prop) (E : Value → Shared → Prop), Q (.int (g i) s.toks) { s with toks := s.toks + 1 } → wpAny (model X.prog X.w) X.A (f (.int i t)) Q E s) :
    UnR X f (rU fun i => .int (g i)) := by
  intro pins s σ H x v Q I rx h
  obtain ⟨i, rfl, q⟩ := h
  obtain ⟨t, rfl⟩ := rx
  exact rule i t s _ _ ⟨.int (g i), H, I.tok _, ⟨_, rfl⟩, q⟩
theorem un_neg : UnR X (unaryOp .USub) (rU fun i => .int (-i)) := unI fun _ _ _ _ _ q => neg_int q
end

def scal : V → V → Bool
  | .non, .non => true | .non, .int _ => true | .int _, .non => true | .non, .bl _ => true | .bl _, .non => true | .non, .str _ => true | .str _, .non => true
  | .int _, .int _ => true | .bl _, .bl _ => true | .str _, .str _ => true | .byt _, .byt _ => true
  | .int _, .str _ => true | .str _, .int _ => true | .bl _, .str _ => true | .str _, .bl _ => true
  | _, _ => false
def rEq : R2 := fun x y H Q => scal x y = true ∧ Q (.bl (decide (x = y))) H
def rNe : R2 := fun x y H Q => scal x y = true ∧ Q (.bl (!decide (x = y))) H

theorem dec_int {i j : Int} : decide (V.int i = V.int j) = (i == j) := by
  rw [Bool.eq_iff_iff]
  simp
theorem dec_bl {i j : Bool} : decide (V.bl i = V.bl j) = (i == j) := by
  rw [Bool.eq_iff_iff]
  simp
theorem dec_str {i j : Str} : decide (V.str i = V.str j) = (i == j) := by
  rw [Bool.eq_iff_iff]
  simp
theorem dec_byt {i j : Array UInt8} : decide (V.byt i = V.byt j) = (i.toList == j.toList) := by
  rw [Bool.eq_iff_iff]
  cases i
  cases j
  simp

section
variable {X : Cx} {a b c : Expr} {ta tb tc : TE} {pos : Pos}
theorem fin_bl {pins : List (Addr × Obj)} {σ : St} {H : Hp} {s : Shared} {Q : VK} {k k' : Bool} (I : Inv X pins σ H s) (q : Q (.bl k) H) (e : k = k') : EP X pins σ Q (.bool k') s := by
  subst e
  exact ⟨.bl k, H, I, rfl, q⟩
theorem op_eq : OpR X (compareOp .Eq) rEq := by
  intro pins s σ H x y v u Q I rx ry h
  obtain ⟨hs, q⟩ := h
  cases x with
  | non =>
    cases rx
    cases y with
    | non => cases ry; exact PySem.EqNone.eq_none_none (fin_bl I q (by simp))
    | bl j => cases ry; exact PySem.EqNone.eq_none_bool (fin_bl I q (by simp))
    | int j => obtain ⟨t', rfl⟩ := ry; exact PySem.EqNone.eq_none_int (fin_bl I q (by simp))
    | str j => obtain ⟨t', rfl⟩ := ry; exact PySem.EqNone.eq_none_str (fin_bl I q (by simp))
    | _ => exact absurd (show false = true from hs) Bool.false_ne_true
  | bl i =>
    cases rx
    cases y with
    | non => cases ry; exact PySem.EqNone.eq_bool_none (fin_bl I q (by simp))
    | bl j => cases ry; exact eq_bool (fin_bl I q dec_bl)
    | str j => obtain ⟨t', rfl⟩ := ry; exact PySem.EqMixed.eq_bool_str (fin_bl I q (by simp))
    | _ => exact absurd (show false = true from hs) Bool.false_ne_true
  | int i =>
    obtain ⟨t, rfl⟩ := rx
    cases y with
    | non => cases ry; exact PySem.EqNone.eq_int_none (fin_bl I q (by simp))
    | int j => obtain ⟨t', rfl⟩ := ry; exact eq_int (fin_bl I q dec_int)
    | str j => obtain ⟨t', rfl⟩ := ry; exact PySem.EqMixed.eq_int_str (fin_bl I q (by simp))
    | _ => exact absurd (show false = true from hs) Bool.false_ne_true
  | str i =>
    obtain ⟨t, rfl⟩ := rx
    cases y with
    | non => cases ry; exact PySem.EqNone.eq_str_none (fin_bl I q (by simp))
    | bl j => cases ry; exact PySem.EqMixed.eq_str_bool (fin_bl I q (by simp))
    | int j => obtain ⟨t', rfl⟩ := ry; exact PySem.EqMixed.eq_str_int (fin_bl I q (by simp))
    | str j => obtain ⟨t', rfl⟩ := ry; exact eq_str (fin_bl I q dec_str)
    | _ => exact absurd (show false = true from hs) Bool.false_ne_true
  | byt i =>
    obtain ⟨t, rfl⟩ := rx
    cases y with
    | byt j => obtain ⟨t', rfl⟩ := ry; exact PySem.W.eq_bytes (fin_bl I q dec_byt)
    | _ => exact absurd (show false = true from hs) Bool.false_ne_true
  | _ => cases y <;> exact absurd (show false = true from hs) Bool.false_ne_true
theorem op_ne : OpR X (compareOp .NotEq) rNe := by
  intro pins s σ H x y v u Q I rx ry h
  obtain ⟨hs, q⟩ := h
  cases x with
  | non =>
    cases rx
    cases y with
    | non => cases ry; exact PySem.EqNone.ne_none_none (fin_bl I q (by simp))
    | bl j => cases ry; exact PySem.EqNone.ne_none_bool (fin_bl I q (by simp))
    | int j => obtain ⟨t', rfl⟩ := ry; exact PySem.EqNone.ne_none_int (fin_bl I q (by simp))
    | str j => obtain ⟨t', rfl⟩ := ry; exact PySem.EqNone.ne_none_str (fin_bl I q (by simp))
    | _ => exact absurd (show false = true from hs) Bool.false_ne_true
  | bl i =>
    cases rx
    cases y with
    | non => cases ry; exact PySem.EqNone.ne_bool_none (fin_bl I q (by simp))
    | bl j => cases ry; exact ne_bool (fin_bl I q (congrArg not dec_bl))
    | str j => obtain ⟨t', rfl⟩ := ry; exact PySem.EqMixed.ne_bool_str (fin_bl I q (by simp))
    | _ => exact absurd (show false = true from hs) Bool.false_ne_true
  | int i =>
    obtain ⟨t, rfl⟩ := rx
    cases y with
    | non => cases ry; exact PySem.EqNone.ne_int_none (fin_bl I q (by simp))
    | int j => obtain ⟨t', rfl⟩ := ry; exact ne_int (fin_bl I q (congrArg not dec_int))
    | str j => obtain ⟨t', rfl⟩ := ry; exact PySem.EqMixed.ne_int_str (fin_bl I q (by simp))
    | _ => exact absurd (show false = true from hs) Bool.false_ne_true
  | str i =>
    obtain ⟨t, rfl⟩ := rx
    cases y with
    | non => cases ry; exact PySem.EqNone.ne_str_none (fin_bl I q (by simp))
    | bl j => cases ry; exact PySem.EqMixed.ne_str_bool (fin_bl I q (by simp))
    | int j => obtain ⟨t', rfl⟩ := ry; exact PySem.EqMixed.ne_str_int (fin_bl I q (by simp))
    | str j => obtain ⟨t', rfl⟩ := ry; exact ne_str (fin_bl I q (congrArg not dec_str))
    | _ => exact absurd (show false = true from hs) Bool.false_ne_true
  | byt i =>
    obtain ⟨t, rfl⟩ := rx
    cases y with
    | byt j => obtain ⟨t', rfl⟩ := ry; exact PySem.W.ne_bytes (fin_bl I q (congrArg not dec_byt))
    | _ => exact absurd (show false = true from hs) Bool.false_ne_true
  | _ => cases y <;> exact absurd (show false = true from hs) Bool.false_ne_true

theorem op_lt : OpR X (compareOp .Lt) (rI0 fun i j => .bl (decide (i < j))) := opB0 fun _ _ _ _ _ _ _ q => lt_int q
theorem op_le : OpR X (compareOp .LtE) (rI0 fun i j => .bl (decide (i ≤ j))) := opB0 fun _ _ _ _ _ _ _ q => le_int q
theorem op_gt : OpR X (compareOp .Gt) (rI0 fun i j => .bl (decide (j < i))) := opB0 fun _ _ _ _ _ _ _ q => gt_int q
theorem op_lt_str : OpR X (compareOp .Lt) (fun x y H Q => ∃ i j, x = .str i ∧ y = .str j ∧ Q (.bl (decide (i.cps.toList < j.cps.toList))) H) := by
  intro pins s σ H x y v u Q I rx ry h
  obtain ⟨i, j, rfl, rfl, q⟩ := h
  obtain ⟨t, rfl⟩ := rx
  obtain ⟨t', rfl⟩ := ry
  exact lt_str (fin_bl I q rfl)
theorem op_isN : OpR X (compareOp .Is) (fun x y H Q => y = .non ∧ Q (.bl (decide (x = .non))) H) := by
  intro pins s σ H x y v u Q I rx ry h
  obtain ⟨rfl, q⟩ := h
  cases ry
  refine is_none_gen (fin_bl I q ?_)
  cases x <;> first
    | (cases rx; rfl)
    | (obtain ⟨t, rfl⟩ := rx; rfl)
theorem op_notin_str : OpR X (compareOp .NotIn) (fun x y H Q => ∃ i j, x = .str i ∧ y = .str j ∧ Q (.bl (!(!(Builtin.Str.occurrences j i 0 j.length 1).isEmpty))) H) := by
  intro pins s σ H x y v u Q I rx ry h
  obtain ⟨i, j, rfl, rfl, q⟩ := h
  obtain ⟨t, rfl⟩ := rx
  obtain ⟨t', rfl⟩ := ry
  exact notIn_str (fin_bl I q rfl)
theorem nomark (b : Expr) {op : CmpOp} (h : op ≠ .In := by decide) (h2 : op ≠ .NotIn := by decide) : behindInMarks op b = false := by
  have e1 : (op == CmpOp.In) = false := by cases op <;> first | rfl | exact absurd rfl h
  have e2 : (op == CmpOp.NotIn) = false := by cases op <;> first | rfl | exact absurd rfl h2
  cases b <;> simp [behindInMarks, e1, e2]
theorem pe_cmpR {op : CmpOp} {r : R2} (ho : OpR X (compareOp op) r) (ha : PE X a ta) (hb : PE X b tb) (hm : behindInMarks op b = false) : PE X (.Compare a [op] [b] pos) (tOp r ta tb) := by
  intro pins s σ H Q I h
  exact wpAny_Compare1 (binT ha hb I h fun v u s2 x y H2 I2 rx ry q => ho pins s2 σ H2 x y v u Q I2 rx ry q) hm
def tTest (t : TE) : TT := fun σ H Q => t σ H fun x H' => ∃ k, x = .bl k ∧ Q k H'
theorem pt_cmpR {op : CmpOp} {r : R2} (ho : OpR X (compareOp op) r) (ha : PE X a ta) (hb : PE X b tb) (hm : behindInMarks op b = false) : PT X (.Compare a [op] [b] pos) (tTest (tOp r ta tb)) := by
  intro pins s σ H Q I h
  refine wpAny_isTrue_Compare1 (thn (ha pins s σ H _ I h) fun v s1 ⟨x, H1, I1, r1, q1⟩ => thn (hb pins s1 σ H1 _ I1 q1) fun u s2 ⟨y, H2, I2, r2, q2⟩ =>
    thn (ho pins s2 σ H2 x y v u _ I2 r1 r2 q2) fun c s3 ⟨z, H3, I3, r3, k, e, q3⟩ => ?_) hm
  subst e
  cases r3
  exact wpAny_truthy_bool ⟨H3, I3, q3⟩
def tChain (r r' : R2) (ta tb tc : TE) : TE := fun σ H Q => ta σ H fun x H1 => tb σ H1 fun y H2 => r x y H2 fun z H3 => ∃ k, z = .bl k ∧
  (if k = true then tc σ H3 fun w' H4 => r' y w' H4 Q else Q (.bl false) H3)
theorem pe_chain {op op' : CmpOp} {r r' : R2} (ho : OpR X (compareOp op) r) (ho' : OpR X (compareOp op') r') (ha : PE X a ta) (hb : PE X b tb) (hc : PE X c tc)
    (hm : lastMarks [op, op'] [b, c] = false := by with_unfolding_all rfl) : PE X (.Compare a [op, op'] [b, c] pos) (tChain r r' ta tb tc) := by
  intro pins s σ H Q I h
  refine Compare_chain (thn (ha pins s σ H _ I h) fun v s1 ⟨x, H1, I1, r1, q1⟩ => chain_link (thn (hb pins s1 σ H1 _ I1 q1) fun u s2 ⟨y, H2, I2, r2, q2⟩ =>
    thn (ho pins s2 σ H2 x y v u _ I2 r1 r2 q2) fun d s3 ⟨z, H3, I3, r3, k, e, q3⟩ => ?_)) hm
  subst e
  cases r3
  refine wpAny_truthy_bool ?_
  cases k with
  | false => exact ite_ff ⟨.bl false, H3, I3, rfl, q3⟩
  | true => exact ite_tt (chain_last (thn (hc pins s3 σ H3 _ I3 q3) fun w' s4 ⟨z', H4, I4, r4, q4⟩ => ho' pins s4 σ H4 y z' u w' Q I4 r2 r4 q4))
theorem pt_chain {op op' : CmpOp} {r r' : R2} (ho : OpR X (compareOp op) r) (ho' : OpR X (compareOp op') r') (ha : PE X a ta) (hb : PE X b tb) (hc : PE X c tc)
    (hm : lastMarks [op, op'] [b, c] = false := by with_unfolding_all rfl) : PT X (.Compare a [op, op'] [b, c] pos) (tTest (tChain r r' ta tb tc)) := by
  intro pins s σ H Q I h
  refine isTrue_chain (thn (ha pins s σ H _ I h) fun v s1 ⟨x, H1, I1, r1, q1⟩ => test_link (thn (hb pins s1 σ H1 _ I1 q1) fun u s2 ⟨y, H2, I2, r2, q2⟩ =>
    thn (ho pins s2 σ H2 x y v u _ I2 r1 r2 q2) fun d s3 ⟨z, H3, I3, r3, k, e, q3⟩ => ?_)) hm
  subst e
  cases r3
  refine wpAny_truthy_bool ?_
  cases k with
  | false =>
    obtain ⟨k', e', q'⟩ := q3
    cases e'
    exact ite_ff ⟨H3, I3, q'⟩
  | true =>
    refine ite_tt (test_last (thn (hc pins s3 σ H3 _ I3 q3) fun w' s4 ⟨z', H4, I4, r4, q4⟩ => thn (ho' pins s4 σ H4 y z' u w' _ I4 r2 r4 q4) fun d' s5 ⟨z2, H5, I5, r5, k2, e2, q5⟩ => ?_))
    subst e2
    cases r5
    exact wpAny_truthy_bool ⟨H5, I5, q5⟩

theorem line63 : (sizeLine : Nat) < 2 ^ 63 := by rw [sizeLine_eq]; decide
theorem op_add_str : OpR X (binaryOp .Add) (fun x y H Q => ∃ i j, x = .str i ∧ y = .str j ∧ i.length + j.length ≤ sizeLine ∧ Q (.str (i ++ j)) H) := by
  intro pins s σ H x y v u Q I rx ry h
  obtain ⟨i, j, rfl, rfl, hz, q⟩ := h
  obtain ⟨t, rfl⟩ := rx
  obtain ⟨t', rfl⟩ := ry
  exact add_str (fun t' tk => ⟨.str (i ++ j), H, I.tok _, ⟨_, rfl⟩, q⟩) hz
theorem iop_add_str : OpR X (inplaceOp .Add) (fun x y H Q => ∃ i j, x = .str i ∧ y = .str j ∧ i.length + j.length ≤ sizeLine ∧ Q (.str (i ++ j)) H) := by
  intro pins s σ H x y v u Q I rx ry h
  obtain ⟨i, j, rfl, rfl, hz, q⟩ := h
  obtain ⟨t, rfl⟩ := rx
  obtain ⟨t', rfl⟩ := ry
  exact iadd_str (fun t' tk => ⟨.str (i ++ j), H, I.tok _, ⟨_, rfl⟩, q⟩) hz
theorem vals1 {x : V} {us : List Value} (r : Vals [x] us) : ∃ u, us = [u] ∧ RelV x u := by
  cases r with
  | cons r1 r2 => cases r2; exact ⟨_, rfl, r1⟩
theorem vals2 {x y : V} {us : List Value} (r : Vals [x, y] us) : ∃ u w', us = [u, w'] ∧ RelV x u ∧ RelV y w' := by
  cases r with
  | cons r1 r2 =>
    cases r2 with
    | cons r3 r4 => cases r4; exact ⟨_, _, rfl, r1, r3⟩
theorem call_ord : CallR X (.builtin "ord") (fun xs H Q => ∃ x, xs = [.str x] ∧ x.length = 1 ∧ Q (.int (x.cps.getD 0 0 : Nat)) H) := by
  intro pins s σ H xs us Q I r h
  obtain ⟨x, rfl, hz, q⟩ := h
  obtain ⟨u, rfl, t, rfl⟩ := vals1 r
  exact ord_of_one hz ⟨.int _, H, I.tok _, ⟨_, rfl⟩, q⟩
end
end L2

namespace L2
open PySem PySem.Spec PyProof.Rows

structure ObjM (h : Heap) (x dx C : Addr) (mA : Str → Option Value) : Prop where
  obj : h.get? x = some (PySem.W.instObj C dx)
  ns : h.Ns1 dx mA
  ne : dx ≠ x

theorem lookIn_ns {h : Heap} {dx : Addr} {mA : Str → Option Value} (n : h.Ns1 dx mA) : ∃ od, h.get? dx = some od ∧ ∀ name, PySem.W.lookIn name od = some (mA name) := by
  obtain ⟨o, es, ep, ho, hd, hk, _, hm⟩ := n
  refine ⟨o, ho, fun name => ?_⟩
  have e := hm name
  unfold nsFind findBy at e
  rw [← Array.find?_toList] at e
  unfold PySem.W.lookIn
  rw [hd]
  dsimp only
  split
  · rename_i y q
    rw [q] at e
    exact congrArg some e
  · rename_i q
    rw [q] at e
    have a : es.toList.any (·.refKey) = false := by
      rw [List.any_eq_false]
      intro y hy
      obtain ⟨z, t, hkey⟩ := hk y (Array.mem_toList_iff.mp hy)
      simp [DictEntry.refKey, hkey]
    have a' : ¬ es.toList.any (·.refKey) = true := by rw [a]; exact Bool.false_ne_true
    rw [if_neg a']
    exact congrArg some e

theorem ObjM.look {h : Heap} {x dx C : Addr} {mA : Str → Option Value} (I : ObjM h x dx C mA) : ∃ od, PySem.W.InstAt h x (PySem.W.instObj C dx) C (some od) ∧ ∀ name, PySem.W.lookIn name od = some (mA name) :=
  let ⟨od, ho, hl⟩ := lookIn_ns I.ns
  ⟨od, ⟨I.obj, rfl, rfl, ho⟩, hl⟩

section
variable {prog : Program} {w : World} {A : Around} {E : Value → Shared → Prop} {s : Shared} {K : PySem.W.Frag} {x dx C f : Addr} {mA : Str → Option Value} {name : Str} {v : Value}

end

theorem RelO.some_of {v : V} {o : Option Value} (r : RelO (some v) o) : ∃ u, o = some u ∧ RelV v u := by
  cases o with
  | none => exact (show False from r).elim
  | some u => exact ⟨u, rfl, r⟩
section
variable {P : Program} {w : World} {H H' : Hp} {h h' : Heap} {a C dx : Addr} {fs fs' : List (Str × V)}
theorem ins_get (hok : HOk P w H h) (e : H a = some (.ins C dx fs)) : ∃ mA, ObjM h a dx C mA ∧ (∀ f, RelO (fs.lookup f) (mA f)) ∧ PySem.Within mA (fs.map (·.1)) ∧ fs.length ≤ 1000 ∧ H dx = some (.own a) := by
  obtain ⟨d, z, ne, ob, mA, n, r, q⟩ := (show ObjOk P w H h a (.ins C dx fs) from hok a _ e)
  exact ⟨mA, ⟨ob, n, ne⟩, r, q, z, d⟩
end

structure Cls (K : PySem.W.Frag) (C : Addr) : Prop where
  pg : PySem.W.plainGet K C Str.empty = true
  hd : PySem.W.hasDictIn K C = true
  po : PySem.W.plainOver K C = true
  sa : PySem.W.findIn K (.ref C) "__setattr__" = some (some (.builtin "object.__setattr__"))
theorem Cls.get {K : PySem.W.Frag} {C : Addr} (c : Cls K C) (f : Str) : PySem.W.plainGet K C f = true := c.pg
structure Con (K : PySem.W.Frag) (C : Addr) (f : Str) (v : V) (u : Value) : Prop where
  at_ : PySem.W.findIn K (.ref C) f = some (some u)
  rel : RelV v u
  get : PySem.W.specialIn K u "__get__" = some none
  cp : PySem.W.copiedNames.contains f = false
structure Meth (K : PySem.W.Frag) (C : Addr) (m : Str) (f : Addr) : Prop where
  at_ : PySem.W.findIn K (.ref C) m = some (some (.ref f))
  fn : PySem.W.isFn K (.ref f) = true
  kp : PySem.W.keepIn K (.ref f) = true

section
variable {X : Cx} {pins : List (Addr × Obj)} {σ : St} {H : Hp} {s : Shared} {a C dx : Addr} {fs : List (Str × V)} {f : Str} {v : V} {A : Around} {E : Value → Shared → Prop}

end

section
variable {X : Cx} {o e value : Expr} {f : Str} {pos pos' tpos : Pos} {ta tv : TE}
end

section
variable {X : Cx} {pins : List (Addr × Obj)} {σ : St} {H : Hp} {s : Shared} {A : Around} {E : Value → Shared → Prop} {Q : Value → Shared → Prop} {c : Value} {b : Bool}
inductive TyOf (K : PySem.W.Frag) (H : Hp) : V → Value → Prop where
  | non : TyOf K H .non (.type "NoneType")
  | bl (x : Bool) : TyOf K H (.bl x) (.type "bool")
  | int (i : Int) : TyOf K H (.int i) (.type "int")
  | str (x : Str) : TyOf K H (.str x) (.type "str")
  | flt (x : UInt64) : TyOf K H (.flt x) (.type "float")
  | lst {a : Addr} {xs : List V} (e : H a = some (.lst xs)) : TyOf K H (.ref a) (.type "list")
  | frz {a : Addr} {o : Obj} {xs : List V} (e : H a = some (.frz o (.lst xs))) : TyOf K H (.ref a) (.type "list")
  | tup {a : Addr} {xs : List V} (e : H a = some (.tup xs)) : TyOf K H (.ref a) (.type "tuple")
  | dK {a : Addr} {kvs : List (Key × V)} (e : H a = some (.dK kvs)) : TyOf K H (.ref a) (.type "dict")
  | dT {a : Addr} {kvs : List (List Key × V)} (e : H a = some (.dT kvs)) : TyOf K H (.ref a) (.type "dict")
  | ins {a C dx : Addr} {fs : List (Str × V)} (e : H a = some (.ins C dx fs)) (cl : Cls K C) (ha : PySem.W.findIn K (.ref C) "__class__" = some (some (.builtin "object.__class__")))
      (hn : PySem.W.specialIn K (.builtin "object.__class__") "__get__" = some (some (.builtin "getset_descriptor.__get__"))) (htk : PySem.W.takesIn K (.builtin "object.__class__") = some true)
      (hm : PySem.W.mroIn K C (.type "object") = some true) : TyOf K H (.ref a) (.ref C)
theorem isinst_ok {x : V} {u t : Value} (I : Inv X pins σ H s) (rx : RelV x u) (ty : TyOf X.K H x t) (e : PySem.W.kitOne X.K t c = some b) (h : ∀ tk, Q (.bool b) { s with toks := tk }) :
    wpAny (model X.prog X.w) A (call (.builtin "isinstance") [u, c]) Q E s := by
  cases ty with
  | non => cases (show u = Value.none from rx); exact PySem.W.kia_one PySem.W.kitx_none I.kIn True.intro e (fun z => nomatch z) h
  | bl y => cases (show u = Value.bool y from rx); exact PySem.W.kia_one PySem.W.kitx_bool I.kIn True.intro e (fun z => nomatch z) h
  | int i => obtain ⟨t, q⟩ := (show ∃ t, u = Value.int i t from rx); cases q; exact PySem.W.kia_one PySem.W.kitx_int I.kIn True.intro e (fun z => nomatch z) h
  | str y => obtain ⟨t, q⟩ := (show ∃ t, u = Value.str y t from rx); cases q; exact PySem.W.kia_one PySem.W.kitx_str I.kIn True.intro e (fun z => nomatch z) h
  | flt y => obtain ⟨t, q⟩ := (show ∃ t, u = Value.float y t from rx); cases q; exact PySem.W.kia_one PySem.W.kitx_float I.kIn True.intro e (fun z => nomatch z) h
  | @lst a xs ea =>
    cases (show u = Value.ref a from rx)
    obtain ⟨_, _, n, _, h1⟩ := (show ObjOk X.prog X.w H s.heap a (.lst xs) from I.hok a _ ea)
    exact PySem.W.kia_one PySem.W.kitx_list I.kIn ⟨_, h1, rfl⟩ e (fun z => nomatch z) h
  | @frz a ob xs ea =>
    cases (show u = Value.ref a from rx)
    obtain ⟨_, _, _, n, _, h1⟩ := (show ObjOk X.prog X.w H s.heap a (.frz ob (.lst xs)) from I.hok a _ ea)
    exact PySem.W.kia_one PySem.W.kitx_list I.kIn ⟨_, h1, rfl⟩ e (fun z => nomatch z) h
  | @tup a xs ea =>
    cases (show u = Value.ref a from rx)
    obtain ⟨_, _, _, p⟩ := (show ObjOk X.prog X.w H s.heap a (.tup xs) from I.hok a _ ea)
    obtain ⟨o, h1, h2, _⟩ := p
    exact PySem.W.kia_one PySem.W.kitx_tuple I.kIn ⟨o, h1, h2⟩ e (fun z => nomatch z) h
  | @dK a kvs ea =>
    cases (show u = Value.ref a from rx)
    obtain ⟨_, _, vs, _, p⟩ := (show ObjOk X.prog X.w H s.heap a (.dK kvs) from I.hok a _ ea)
    obtain ⟨o, es, ep, h1, h2, _⟩ := p
    exact PySem.W.kia_one PySem.W.kitx_dict I.kIn ⟨o, h1, h2.1⟩ e (fun z => nomatch z) h
  | @dT a kvs ea =>
    cases (show u = Value.ref a from rx)
    obtain ⟨_, _, xs, _, o, es, ep, h1, h2, _⟩ := (show ObjOk X.prog X.w H s.heap a (.dT kvs) from I.hok a _ ea)
    exact PySem.W.kia_one PySem.W.kitx_dict I.kIn ⟨o, h1, h2.1⟩ e (fun z => nomatch z) h
  | @ins a C dx fs ea cl ha hn htk hm =>
    cases (show u = Value.ref a from rx)
    obtain ⟨mA, O, _⟩ := ins_get I.hok ea
    obtain ⟨od, J, _⟩ := O.look
    exact PySem.W.kia_one (PySem.W.kitx_own (cl.get _) cl.hd ha hn htk hm) I.kIn J e (fun z => nomatch z) h
end
end L2

namespace L2
open PySem PySem.Spec PyProof.Rows

structure Room (k : Nat) (A : Around) : Prop where
  hd : A.handled = none
  dp : A.depth + 3 * k + 5 < recursionLimit
  un : A.units + 16 * k + 200 < cLine
theorem Room.mono {j k : Nat} {A : Around} (r : Room k A) (h : j ≤ k) : Room j A := ⟨r.hd, by have := r.dp; omega, by have := r.un; omega⟩
theorem Room.deeper {k : Nat} {A : Around} (r : Room (k + 1) A) (env : Env) : Room k (A.deeper env) :=
  ⟨r.hd, by have := r.dp; show A.depth + 1 + 3 * k + 5 < _; omega, by have := r.un; show A.units + 3 + 16 * k + 200 < _; omega⟩
theorem Room.depth {k : Nat} {A : Around} (r : Room k A) : A.depth < recursionLimit := by have := r.dp; omega
theorem Room.units {k : Nat} {A : Around} (r : Room k A) : A.units + 64 < cLine := by have := r.un; omega
def tNil : TA := fun _ H Q => Q [] H
def tCons (ta : TE) (tr : TA) : TA := fun σ H Q => ta σ H fun x H1 => tr σ H1 fun xs H2 => Q (x :: xs) H2
section
variable {X : Cx} {e : Expr} {es : List Expr} {te : TE} {t : TA} {pos : Pos}
theorem pa_nil : PA X [] tNil := fun _ _ _ _ H Q I h => Calls.spliced_nil ⟨[], H, I, .nil, h⟩
theorem pa_cons (ha : PE X e te) (hr : PA X es t) (hs : starEach (e :: es) X.env = (false, eval e X.env) :: starEach es X.env := by rfl) : PA X (e :: es) (tCons te t) := by
  intro pos pins s σ H Q I h
  rw [hs]
  show wpAny _ _ (spliced ((false, eval e X.env) :: backTo pos (starEach es X.env))) _ _ s
  refine Calls.spliced_cons (thn (ha pins s σ H _ I h) fun u s1 ⟨x, H1, I1, r1, q1⟩ => ?_)
  exact thn (hr pos pins s1 σ H1 _ I1 q1) fun us s2 ⟨xs, H2, I2, r2, q2⟩ => ⟨x :: xs, H2, I2, .cons r1 r2, q2⟩

def tTup (t : TA) : TE := fun σ H Q => t σ H fun xs H1 => xs.length ≤ sizeLine ∧ ∀ p, H1 p = none → Q (.ref p) (upd H1 p (.tup xs))
def tLst (t : TA) : TE := fun σ H Q => t σ H fun xs H1 => xs.length ≤ sizeLine ∧ ∀ p, H1 p = none → Q (.ref p) (upd H1 p (.lst xs))
theorem pe_tup {x1} (h : PA X es t) : PE X (.Tuple es x1 pos) (tTup t) := by
  intro pins s σ H Q I hq
  refine wpAny_Tuple_spliced (thn (h pos pins s σ H _ I hq) fun us s1 ⟨xs, H1, I1, r, z, q⟩ => ⟨by rw [← r.length]; exact z, ?_⟩)
  have hf : H1 s1.heap.objs.size = none := I1.hok.fresh (Nat.le_refl _)
  refine ⟨.ref s1.heap.objs.size, upd H1 s1.heap.objs.size (.tup xs), I1.laid (t' := s1.toks) (fun b u e => Heap.get?_push_of_some _ e) (Nat.le_refl _) ?_, rfl, q _ hf⟩
  exact ⟨z, us, r, ⟨_, Heap.get?_push_size _ rfl, rfl, _, rfl⟩⟩
theorem pe_lst (h : PA X es t) : PE X (.List es pos) (tLst t) := by
  intro pins s σ H Q I hq
  refine wpAny_List_spliced (thn (h pos pins s σ H _ I hq) fun us s1 ⟨xs, H1, I1, r, z, q⟩ => ⟨by rw [← r.length]; exact z, ?_⟩)
  have hf : H1 s1.heap.objs.size = none := I1.hok.fresh (Nat.le_refl _)
  refine ⟨.ref s1.heap.objs.size, upd H1 s1.heap.objs.size (.lst xs), I1.laid (t' := s1.toks) (fun b u e => Heap.get?_push_of_some _ e) (Nat.le_refl _) ?_, rfl, q _ hf⟩
  exact ⟨z, us, 0, r, Heap.get?_push_size _ rfl⟩
end

abbrev Sp := List V → Hp → VK → XK → Prop
abbrev CXT := List Env → Hp → Shared → XK → Value → Shared → Prop

structure Env0 (P : Program) (w : World) (K : PySem.W.Frag) (mg : Str → Option Value) (base : Heap) (A : Around) (outer : List Env) (s : Shared) (H : Hp) : Prop where
  frames : A.frames = some outer
  mod : Mod K mg base
  bs : ∀ b o, base.get? b = some o → s.heap.get? b = some o ∧ H b = none
  bsz : base.objs.size ≤ s.heap.objs.size
  funs : s.heap.FunFrames base outer
  frf : ∀ b ∈ frs outer, H b = none
  hok : HOk P w H s.heap
  bare : AllBare s.gens
def CE (outer : List Env) (P : Program) (w : World) (H : Hp) (s : Shared) (Q : VK) (u : Value) (s' : Shared) : Prop :=
  ∃ v H', s'.os = s.os ∧ AllBare s'.gens ∧ Un (frs outer) [] H H' s.heap s'.heap ∧ HOk P w H' s'.heap ∧ RelV v u ∧ Q v H'
def CR (CX : CXT) (outer : List Env) (P : Program) (w : World) (H : Hp) (s : Shared) (Q : VK) (E : XK) (r : Result) (s' : Shared) : Prop :=
  match r with
  | .ok (.ret u) => CE outer P w H s Q u s'
  | .ok _ => False
  | .error e => CX outer H s E e s'
structure FnOk (P : Program) (w : World) (K : PySem.W.Frag) (mg : Str → Option Value) (base : Heap) (CX : CXT) (k : Nat) (f : Addr) (fd : FuncData) (ps : List Str) (sp : Sp) : Prop where
  len : ∀ vs H Q E, sp vs H Q E → vs.length = ps.length
  run : ∀ (A : Around) (outer : List Env) (s : Shared) (H : Hp) (args : Args) (us : List Value) (vs : List V) (Q : VK) (E : XK), Room k A → Env0 P w K mg base A outer s H → BindsTo s fd args (ps.zip us) → Vals vs us → sp vs H Q E →
    codeAny (model P w) A (.call (.ref f) args) (CR CX outer P w H s Q E) s
theorem FnOk.mono {P : Program} {w : World} {K : PySem.W.Frag} {mg : Str → Option Value} {base : Heap} {CX : CXT} {j k : Nat} {f : Addr} {fd : FuncData} {ps : List Str} {sp : Sp} (F : FnOk P w K mg base CX j f fd ps sp) (h : j ≤ k) :
    FnOk P w K mg base CX k f fd ps sp := ⟨F.len, fun A outer s H args us vs Q E hr => F.run A outer s H args us vs Q E (hr.mono h)⟩
section
variable {X : Cx} {pins : List (Addr × Obj)} {σ : St} {H : Hp} {s s' : Shared}
theorem Inv.env0 (I : Inv X pins σ H s) : Env0 X.prog X.w X.K X.mg X.base X.A X.stack s H :=
  ⟨I.ok.frames, I.ok.mod, I.bs, Nat.le_trans I.ok.bsz I.sz, I.stack, I.stkFree, I.hok, I.bare⟩
theorem Inv.after {Q : VK} {u : Value} (I : Inv X pins σ H s) (h : CE X.stack X.prog X.w H s Q u s') : EP X pins σ Q u s' := by
  obtain ⟨v, H', os, bare, un, hok, r, q⟩ := h
  obtain ⟨hh, g, d, t, os'⟩ := s'
  obtain rfl : os' = s.os := os
  exact ⟨v, H', I.call (h' := hh) (g' := g) (d' := d) (t' := t) (ch := []) un hok bare (fun b z => absurd z (by simp)), r, q⟩
end

def tCall (sp : Sp) (dvs : List V) (E : XK) (t : TA) : TE := fun σ H Q => t σ H fun vs H1 => sp (vs ++ dvs) H1 Q E
def Binds (K : PySem.W.Frag) (fd : FuncData) (ps : List Str) (ds : List Value) : Prop :=
  ∀ (s : Shared) (us : List Value), K.In s.heap → (us ++ ds).length = ps.length → BindsTo s fd ⟨us, []⟩ (ps.zip (us ++ ds))
theorem Binds.all {K : PySem.W.Frag} {fd : FuncData} {ps : List Str} (h : ∀ us : List Value, us.length = ps.length → bindArgs fd ⟨us, []⟩ = pure (ps.zip us)) : Binds K fd ps [] := fun s us _ hl => by
  rw [List.append_nil] at hl ⊢
  exact .of_eq (h us hl)

def Passes (CX : CXT) (X : Cx) (E : XK) : Prop := ∀ (pins : List (Addr × Obj)) (σ : St) (H : Hp) (s : Shared) (e : Value) (s' : Shared), Inv X pins σ H s → CX X.stack H s E e s' → X.xe e s'

section
variable {X : Cx} {CX : CXT} {k : Nat} {f C : Addr} {fd : FuncData} {ps : List Str} {sp : Sp} {dvs : List V} {ds : List Value} {E : XK} {x m : Str} {p pos apos : Pos} {e o : Expr} {es : List Expr} {ta : TE} {t : TA}

theorem run_fn {pins : List (Addr × Obj)} {σ : St} {H : Hp} {s : Shared} {Q : VK} {us : List Value} {vs : List V} (F : FnOk X.prog X.w X.K X.mg X.base CX k f fd ps sp) (hr : Room k X.A) (hb : Binds X.K fd ps ds) (hd : Vals dvs ds) (hx : Passes CX X E)
    (I : Inv X pins σ H s) (r : Vals vs us) (h : sp (vs ++ dvs) H Q E) : wpAny (model X.prog X.w) X.A (call (.ref f) us) (EP X pins σ Q) X.xe s := by
  have r2 : Vals (vs ++ dvs) (us ++ ds) := r.append hd
  have hl : (us ++ ds).length = ps.length := by rw [← r2.length]; exact F.len _ _ _ _ h
  refine wpAny_call (codeAny_mono (F.run X.A X.stack s H ⟨us, []⟩ (us ++ ds) (vs ++ dvs) Q E hr I.env0 (hb s us I.kIn hl) r2 h) fun r s' hq => ?_)
  cases r with
  | error e => exact hx pins σ H s e s' I hq
  | ok fl =>
    cases fl with
    | ret u => exact I.after hq
    | next => exact False.elim hq
    | brk => exact False.elim hq
    | cont => exact False.elim hq

theorem pe_call (F : FnOk X.prog X.w X.K X.mg X.base CX k f fd ps sp) (hr : Room k X.A) (hg : Gl X x) (hm : X.mg x = some (.ref f)) (hk : PySem.W.keepIn X.K (.ref f) = true) (hb : Binds X.K fd ps ds) (hd : Vals dvs ds) (hx : Passes CX X E)
    (ha : PA X (e :: es) t) (hdb : (x == ("__debug__" : Str)) = false := by decide) (he : starEach (e :: es) X.env = (false, eval e X.env) :: starEach es X.env := by rfl) (hpl : (backTo pos (starEach es X.env)).any (·.1) = false := by rfl) :
    PE X (.Call (.Name x p) (e :: es) [] pos) (tCall sp dvs E t) := by
  intro pins s σ H Q I h
  refine wpAny_Call_Name_kw (ld_glob I hg hm ?_ hdb)
  refine PySem.W.callWith_K (h₀ := X.base) I.ok.mod.kin hk (thn (ha pos pins s σ H _ I h) fun us s1 ⟨vs, H1, I1, r, q⟩ => ⟨I1.kIn, ?_⟩) he hpl
  exact run_fn F hr hb hd hx I1 r q
structure Mk (K : PySem.W.Frag) (C f : Addr) : Prop where
  makes : PySem.W.makesIn K C = true
  init : PySem.W.findIn K (.ref C) "__init__" = some (some (.ref f))
  fn : PySem.W.isFn K (.ref f) = true
  kp : PySem.W.keepIn K (.ref C) = true

end

section
variable {X : Cx} {CX : CXT} {k : Nat} {f C : Addr} {fd : FuncData} {ps ks : List Str} {sp : Sp} {E : XK} {x m : Str} {p pos apos kpos : Pos} {e o : Expr} {es : List Expr} {kws : List Keyword} {te ta : TE} {t tk : TA} {nm : Option Str}
structure KBinds (K : PySem.W.Frag) (fd : FuncData) (ps ks : List Str) (g : List Value → List Value → List Value) (gV : List V → List V → List V) : Prop where
  to : ∀ (s : Shared) (us ws : List Value), K.In s.heap → (g us ws).length = ps.length → BindsTo s fd ⟨us, ks.zip ws⟩ (ps.zip (g us ws))
  rel : ∀ {vs : List V} {us : List Value} {zs : List V} {ws : List Value}, Vals vs us → Vals zs ws → Vals (gV vs zs) (g us ws)
variable {g : List Value → List Value → List Value} {gV : List V → List V → List V}
end

structure FnScope (N P : List Str) (sc : Scope) : Prop where
  kind : sc.kind = .function
  co : sc.isCoroutine = false
  gen : sc.isGenerator = false
  nd : N.Nodup
  pre : N.take P.length = P
  par : ∀ x ∈ P, sc.names.lookup x = some .local ∨ sc.names.lookup x = some .cell
  nofree : ∀ y ∈ sc.names, y.2 ≠ .free

theorem bindL_out {kindOf : Str → Option NameKind} {x : Str} : ∀ {binds : List (Str × Value)} {m : Str → Option Value}, (∀ v, (x, v) ∉ binds) → bindL kindOf binds m x = m x
  | [], _, _ => rfl
  | (n, v) :: r, m, h => by
    unfold bindL
    rw [bindL_out fun w hw => h w (List.mem_cons_of_mem _ hw)]
    split
    · have : x ≠ n := by rintro rfl; exact h v List.mem_cons_self
      simp [this]
    · rfl
theorem bindC_out {kindOf : Str → Option NameKind} {x : Str} : ∀ {binds : List (Str × Value)} {m : Str → Option Value}, (∀ v, (x, v) ∉ binds) → bindC kindOf binds m x = m x
  | [], _, _ => rfl
  | (n, v) :: r, m, h => by
    unfold bindC
    rw [bindC_out fun w hw => h w (List.mem_cons_of_mem _ hw)]
    split
    · rfl
    · have : x ≠ n := by rintro rfl; exact h v List.mem_cons_self
      simp [this]
theorem bindL_get {kindOf : Str → Option NameKind} {x : Str} {v : Value} : ∀ {P : List Str} {vs : List Value} {i : Nat} {m : Str → Option Value}, P.Nodup → P[i]? = some x → vs[i]? = some v → kindOf x = some .local →
    bindL kindOf (P.zip vs) m x = some v
  | [], _, _, _, _, h, _, _ => by simp at h
  | _ :: _, [], _, _, _, _, h, _ => by simp at h
  | p :: P, w :: vs, 0, m, nd, h1, h2, hk => by
    simp at h1 h2; subst h1; subst h2
    show bindL kindOf ((p, w) :: P.zip vs) m p = _
    unfold bindL
    rw [bindL_out fun v hv => (List.nodup_cons.mp nd).1 (List.of_mem_zip hv).1, if_pos hk]
    simp
  | p :: P, w :: vs, i + 1, m, nd, h1, h2, hk => by
    show bindL kindOf ((p, w) :: P.zip vs) m x = _
    unfold bindL
    exact bindL_get (i := i) (List.nodup_cons.mp nd).2 (by simpa using h1) (by simpa using h2) hk
theorem bindC_get {kindOf : Str → Option NameKind} {x : Str} {v : Value} : ∀ {P : List Str} {vs : List Value} {i : Nat} {m : Str → Option Value}, P.Nodup → P[i]? = some x → vs[i]? = some v → kindOf x ≠ some .local →
    bindC kindOf (P.zip vs) m x = some v
  | [], _, _, _, _, h, _, _ => by simp at h
  | _ :: _, [], _, _, _, _, h, _ => by simp at h
  | p :: P, w :: vs, 0, m, nd, h1, h2, hk => by
    simp at h1 h2; subst h1; subst h2
    show bindC kindOf ((p, w) :: P.zip vs) m p = _
    unfold bindC
    rw [bindC_out fun v hv => (List.nodup_cons.mp nd).1 (List.of_mem_zip hv).1, if_neg hk]
    simp
  | p :: P, w :: vs, i + 1, m, nd, h1, h2, hk => by
    show bindC kindOf ((p, w) :: P.zip vs) m x = _
    unfold bindC
    exact bindC_get (i := i) (List.nodup_cons.mp nd).2 (by simpa using h1) (by simpa using h2) hk

def start (N : List Str) (vs : List V) : St := vs.map some ++ List.replicate (N.length - vs.length) none

def cxOf (CX : CXT) (P : Program) (w : World) (K : PySem.W.Frag) (mg : Str → Option Value) (base : Heap) (N : List Str) (qual : Str) (scope : Scope) (f : Addr) (cd : Value) (A : Around) (outer : List Env) (s : Shared) (H : Hp) (E : XK) : Cx where
  prog := P
  w := w
  K := K
  mg := mg
  base := base
  A := A.deeper (envOfC qual scope s.heap.objs.size f cd)
  N := N
  s₀ := s
  H₀ := H
  env := envOfC qual scope s.heap.objs.size f cd
  outer := outer
  stack := envOfC qual scope s.heap.objs.size f cd :: outer
  ex := []
  calm := true
  fn := fun _ => true
  pn := []
  xe := fun e s' => wpAny (model P w) (A.deeper (envOfC qual scope s.heap.objs.size f cd)) (leaving (envOfC qual scope s.heap.objs.size f cd) e) (fun _ s'' => CX outer H s E e s'') (fun e' s'' => CX outer H s E e' s'') s'

theorem cell_has {sc : Scope} {n : Nat} {x : Str} (h : sc.names.lookup x = some .cell) : ∃ c, (cellsFrom n sc.names []).lookup x = some c := by
  have q := PySem.W.cellsFrom_some sc.names n [] (.inl h)
  exact Option.isSome_iff_exists.mp q

theorem inv_start {CX : CXT} {P : Program} {w : World} {K : PySem.W.Frag} {mg : Str → Option Value} {base : Heap} {N ps : List Str} {qual : Str} {scope : Scope} {f : Addr} {cd : Value} {A : Around} {outer : List Env} {s s1 : Shared} {H : Hp} {E : XK} {us : List Value} {vs : List V}
    (S : FnScope N ps scope) (hd : A.handled = none) (e0 : Env0 P w K mg base A outer s H) (hl : vs.length = ps.length) (r : Vals vs us)
    (x : InCallC s s.heap.objs.size (bindL (envOfC qual scope s.heap.objs.size f cd).kindOf (ps.zip us) fun _ => none) (cellsFrom (s.heap.objs.size + 1) scope.names []) (bindC (envOfC qual scope s.heap.objs.size f cd).kindOf (ps.zip us) fun _ => none) s1) :
    Inv (cxOf CX P w K mg base N qual scope f cd A outer s H E) [] (start N vs) H s1 := by
  have hpl : ps.length ≤ N.length := by have := congrArg List.length S.pre; rw [List.length_take] at this; omega
  obtain ⟨h1, tk, rfl, hk⟩ := x.done
  have noA : ∀ b : Addr, b ∉ (cxOf CX P w K mg base N qual scope f cd A outer s H E).ex := fun b z => absurd (show b ∈ ([] : List Addr) from z) (by simp)
  refine ⟨⟨e0.mod, S.kind, rfl, rfl, Nat.le_refl _, fun y z c h1 h2 => ?_, fun y hy => ?_, fun y c _ h => ?_, fun _ => hd, Around.frames_deeper e0.frames, .inr ⟨rfl, rfl⟩, fun b z => absurd z (noA b), e0.bs, e0.bsz, fun b _ _ => noA b, fun b z => absurd z (noA b), e0.funs, e0.frf⟩,
    rfl, e0.bare, Un.kept hk, ⟨_, x.toInCall.ns, fun i y v h1 h2 h3 => ?_⟩, fun y c h => ⟨_, x.cell y c h⟩, e0.hok.fresh (Nat.le_refl _), fun y c h => ?_, fun p hp => absurd (show p ∈ ([] : List (Addr × Obj)) from hp) (by simp), e0.hok.kept hk, ?_⟩
  · exact name_of_addr x.apart (PySem.mem_of_lookup h1) (PySem.mem_of_lookup h2)
  · have hy : scope.names.lookup y = some .cell ∨ scope.names.lookup y = some .free := hy
    rcases hy with hy | hy
    · exact cell_has hy
    · exact absurd rfl (S.nofree _ (PySem.mem_of_lookup hy))
  · exact Nat.le_of_lt (x.above y c (PySem.mem_of_lookup h))
  · have hi : i < vs.length := by
      unfold start at h2
      by_cases hi : i < vs.length
      · exact hi
      · rw [List.getElem?_append_right (by simpa using hi)] at h2
        rw [List.getElem?_replicate] at h2
        split at h2 <;> cases h2
    have ha : vs[i]? = some v := by
      unfold start at h2
      rw [List.getElem?_append_left (by simpa using hi), List.getElem?_map] at h2
      cases e : vs[i]? with
      | none => rw [e] at h2; cases h2
      | some a => rw [e] at h2; cases h2; rfl
    obtain ⟨u, hu, rv⟩ := r.get ha
    have hp : ps[i]? = some y := by
      rw [← S.pre, List.getElem?_take_of_lt (by omega)]; exact h1
    have ndP : ps.Nodup := by rw [← S.pre]; exact S.nd.sublist (List.take_sublist _ _)
    refine ⟨u, rv, ?_⟩
    rcases S.par y (List.mem_of_getElem? hp) with k | k
    · exact .inl ⟨k, bindL_get ndP hp hu k⟩
    · obtain ⟨c, e⟩ := cell_has (n := s.heap.objs.size + 1) k
      refine .inr ⟨.inl k, c, e, ?_⟩
      have q := x.cell y c e
      rw [bindC_get ndP hp hu (by show scope.names.lookup y ≠ _; rw [k]; decide)] at q
      exact q
  · exact e0.hok.fresh (Nat.le_of_lt (x.above y c (PySem.mem_of_lookup h)))
  · unfold start
    show _ = N.length
    rw [List.length_append, List.length_map, List.length_replicate]
    omega

theorem fn_of {CX : CXT} {P : Program} {w : World} {K : PySem.W.Frag} {mg : Str → Option Value} {base : Heap} {k : Nat} {f : Addr} {name qual : Str} {params : Arguments} {body : List Stmt} {scope : Scope} {dV kV doc pm cdv ct oc : Value} {an od : Option Addr}
    {osl : Array (Option Value)} {N ps : List Str} {sp : Sp} (lk : K.lookup f = some ⟨oc, od, .func (PySem.W.fnOf name qual params body scope dV kV doc pm an cdv ct), osl⟩) (hcd : PySem.W.codeIn K cdv qual = true) (S : FnScope N ps scope)
    (len : ∀ vs H Q E, sp vs H Q E → vs.length = ps.length)
    (hbody : ∀ (A : Around) (outer : List Env) (s : Shared) (H : Hp) (vs : List V) (Q : VK) (E : XK), Room k (A.deeper (envOfC qual scope s.heap.objs.size f cdv)) → sp vs H Q E →
      ∃ t, PSs (cxOf CX P w K mg base N qual scope f cdv A outer s H E) body t ∧ t { nx := fun _ H' => Q .non H', rt := Q } (start N vs) H) :
    FnOk P w K mg base CX (k + 1) f (PySem.W.fnOf name qual params body scope dV kV doc pm an cdv ct) ps sp := by
  refine ⟨len, fun A outer s H args us vs Q E hr e0 hb r hsp => ?_⟩
  have hl := len _ _ _ _ hsp
  have KX : K.In s.heap := e0.mod.kin.keeps fun b o e => (e0.bs b o e).1
  have lim : s.heap.NoLimit := e0.mod.nolimit.keeps fun b o e => (e0.bs b o e).1
  have hkind : ∀ y ∈ ps.zip us, scope.names.lookup y.1 = some .local ∨ (scope.names.lookup y.1 = some .cell ∧ ((cellsFrom (s.heap.objs.size + 1) scope.names []).lookup y.1).isSome = true) := fun ⟨n, v⟩ hy => by
    rcases S.par n (List.of_mem_zip hy).1 with q | q
    · exact .inl q
    · exact .inr ⟨q, PySem.W.cellsFrom_some _ _ _ (.inl q)⟩
  refine codeAny_call_function hr.depth (KX _ _ lk) rfl S.co S.gen rfl (PySem.W.codeRec_of KX hcd) (hb _ _ _ _ ?_)
  refine wpAny_newFunctionEnv_cells S.kind hkind fun env he s1 x => ?_
  subst he
  refine ⟨lim.keeps x.toInCall.keep, codeAny_func ?_⟩
  obtain ⟨t, ht, hq⟩ := hbody A outer s H vs Q E (hr.deeper _) hsp
  have I : Inv (cxOf CX P w K mg base N qual scope f cdv A outer s H E) [] (start N vs) H s1 := inv_start S hr.hd e0 hl r x
  refine wpAny_mono (ht [] s1 (start N vs) H _ I hq) (fun fl s' hs => ?_) fun e s' hs => hs
  have fin : ∀ {σ' : St} {H' : Hp} {v : V} {u : Value}, Inv (cxOf CX P w K mg base N qual scope f cdv A outer s H E) [] σ' H' s' → RelV v u → Q v H' → CE outer P w H s Q u s' :=
    fun {σ' H' v u} J rv q => ⟨v, H', J.os, J.bare, J.base, J.hok, rv, q⟩
  cases fl with
  | ret u =>
    obtain ⟨v, σ', H', J, rv, q⟩ := hs
    exact fin J rv q
  | next =>
    obtain ⟨σ', H', J, q⟩ := hs
    exact fin (v := V.non) (u := Value.none) J rfl q
  | brk =>
    obtain ⟨_, _, _, q⟩ := hs
    exact False.elim q
  | cont =>
    obtain ⟨_, _, _, q⟩ := hs
    exact False.elim q
end L2

namespace L2
open PySem PySem.Spec PyProof.Rows
section
variable {X : Cx} {x : Str} {p pos : Pos} {e : Expr} {es : List Expr} {t : TA} {id T : String} {r : List V → Hp → VK → Prop}

def tCB (r : List V → Hp → VK → Prop) (t : TA) : TE := fun σ H Q => t σ H fun vs H1 => r vs H1 Q
theorem pe_callB (hc : CallR X (.builtin id) r) (hg : Gl X x) (hm : X.mg x = none) (hv : bootBuiltins x = some (.builtin id)) (ha : PA X (e :: es) t) (hn : x ≠ "__name__" := by decide) (hdb : (x == ("__debug__" : Str)) = false := by decide)
    (he : starEach (e :: es) X.env = (false, eval e X.env) :: starEach es X.env := by rfl) (hpl : (backTo pos (starEach es X.env)).any (·.1) = false := by rfl) : PE X (.Call (.Name x p) (e :: es) [] pos) (tCB r t) := by
  intro pins s σ H Q I h
  refine wpAny_Call_Name_kw (ld_blt I hg hm hv ?_ hn hdb)
  exact PyProof.Rows.callWith_builtin1 (thn (ha pos pins s σ H _ I h) fun us s1 ⟨vs, H1, I1, r1, q1⟩ => hc pins s1 σ H1 vs us Q I1 r1 q1) he hpl
end
end L2

namespace HT
open PySem PyProof.Rows

section
open PySem.SeqAt
open PySem.AutoSeq1 (wpAny_loadPart')
open PySem.MeetsSeq PySem.MeetsSeq2 PySem.MeetsSeq3

end

section
variable {prog : Program} {w : World} {A : Around} {E : Value → Shared → Prop} {s : Shared}

theorem cat_tup {t b : Addr} {vs ws : List Value} {Q : Value → Shared → Prop} (ht : IsTup s.heap t vs.toArray) (hb : IsTup s.heap b ws.toArray) (hv : vs ≠ [])
    (h1 : ws = [] → Q (.ref t) s) (h2 : ws ≠ [] → Q (.ref s.heap.objs.size) { s with heap := s.heap.push { cls := .type "tuple", data := .seq (vs ++ ws).toArray } })
    (hsz : vs.length + ws.length ≤ sizeLine) : wpAny (model prog w) A (binaryOp .Add (.ref t) (.ref b)) Q E s := by
  obtain ⟨⟨cls, dd, data, sl⟩, ho, hc, n, hd⟩ := id ht
  obtain ⟨⟨cls2, dd2, data2, sl2⟩, ho2, hc2, n2, hd2⟩ := id hb
  simp only at hc hd hc2 hd2
  subst hc hd hc2 hd2
  have e : vs.toArray ++ ws.toArray = (vs ++ ws).toArray := by simp
  by_cases hw : ws = []
  · exact concat_meets ⟨_, ho, rfl⟩ ⟨_, ho2, rfl⟩ noFill_tuple_add seq_tuple_add PySem.F.slot_tuple_add PySem.F.entry_tuple_add (PySem.F.args_tuple_add_2 _ _)
      (tuple_addW1 t b vs.toArray ws.toArray n n2 dd dd2 sl sl2 (by simpa using hv) (by simp [hw])) ⟨ho, ho2, h1 hw⟩
  · refine concat_meets ⟨_, ho, rfl⟩ ⟨_, ho2, rfl⟩ noFill_tuple_add seq_tuple_add PySem.F.slot_tuple_add PySem.F.entry_tuple_add (PySem.F.args_tuple_add_2 _ _)
      (tuple_addW2 t b vs.toArray ws.toArray n n2 dd dd2 sl sl2 (by simpa using hv) (by simpa using hw) (by rw [List.size_toArray, List.size_toArray]; exact hsz)) ⟨ho, ho2, ?_⟩
    rw [e]
    exact h2 hw

def sIx (n d : Nat) : Option Int → Nat
  | none => d
  | some v => if v < 0 then (v + (n : Int)).toNat else min v.toNat n
theorem sIx_none (n d : Nat) : sIx n d none = d := rfl
theorem sIx_nat (n d k : Nat) : sIx n d (some (k : Int)) = min k n := by
  show (if (k : Int) < 0 then ((k : Int) + (n : Int)).toNat else min (k : Int).toNat n) = min k n
  rw [if_neg (by omega), Int.toNat_natCast]
end
end HT

namespace L2
open PySem PySem.Spec PyProof.Rows

abbrev TO := St → Hp → (Option Int → Hp → Prop) → Prop
def PO (X : Cx) (e : Option Expr) (t : TO) : Prop :=
  ∀ (pins : List (Addr × Obj)) (s : Shared) (σ : St) (H : Hp) (Q : Option Int → Hp → Prop), Inv X pins σ H s → t σ H Q →
    wpAny (model X.prog X.w) X.A (evalPart e X.env) (fun u s' => ∃ o H', Inv X pins σ H' s' ∧ IsPart u o ∧ Q o H') X.xe s
def tNoPart : TO := fun _ H Q => Q none H
def tPart (t : TE) : TO := fun σ H Q => t σ H fun x H1 => ∃ i, x = .int i ∧ Q (some i) H1

section
variable {X : Cx} {e : Expr} {te : TE} {lo hi : Option Expr} {tl th : TO} {pos p2 : Pos}

theorem po_none : PO X none tNoPart := by
  intro pins s σ H Q I h
  rw [evalPart_none]
  exact wpAny_pure ⟨none, H, I, .none, h⟩
theorem po_some (h : PE X e te) : PO X (some e) (tPart te) := by
  intro pins s σ H Q I hw
  rw [evalPart_some]
  refine thn (h pins s σ H _ I hw) fun u s1 ⟨x, H1, I1, r1, q1⟩ => ?_
  obtain ⟨i, rfl, q⟩ := q1
  obtain ⟨t, rfl⟩ := r1
  exact ⟨some i, H1, I1, .int i t, q⟩

def SlR (X : Cx) (r : V → Option Int → Option Int → Hp → VK → Prop) : Prop :=
  ∀ (pins : List (Addr × Obj)) (s : Shared) (σ : St) (H : Hp) (x : V) (v vl vu : Value) (lo hi : Option Int) (sl : Addr) (Q : VK), Inv X pins σ H s → RelV x v → s.heap.IsSliceOf sl vl vu .none → IsPart vl lo → IsPart vu hi → r x lo hi H Q →
    ∃ T id, typeLookup (.type T) "__getitem__" = pure (some (.builtin id)) ∧ s.TypeIs v T ∧ wpAny (model X.prog X.w) X.A (getItem v (.ref sl)) (EP X pins σ Q) X.xe s
def tSl (r : V → Option Int → Option Int → Hp → VK → Prop) (te : TE) (tl th : TO) : TE := fun σ H Q => te σ H fun x H1 => tl σ H1 fun l H2 => th σ H2 fun u H3 => r x l u H3 Q
theorem pe_slice {r : V → Option Int → Option Int → Hp → VK → Prop} (hr : SlR X r) (he : PE X e te) (hl : PO X lo tl) (hu : PO X hi th) : PE X (.Subscript e (.Slice lo hi none p2) pos) (tSl r te tl th) := by
  intro pins s σ H Q I h
  refine Subscript_ (thn (he pins s σ H _ I h) fun v s1 ⟨x, H1, I1, r1, q1⟩ => ?_)
  refine wpAny_Slice (thn (hl pins s1 σ H1 _ I1 q1) fun vl s2 ⟨l, H2, I2, pl, q2⟩ => thn (hu pins s2 σ H2 _ I2 q2) fun vu s3 ⟨u, H3, I3, pu, q3⟩ => ?_)
  rw [evalPart_none]
  refine wpAny_pure ?_
  have I4 : Inv X pins σ H3 { s3 with heap := s3.heap.push { cls := .type "slice", data := .fields #[vl, vu, .none] } } := I3.kept (t' := s3.toks) fun b ob q => Heap.get?_push_of_some _ q
  obtain ⟨T, id, hT, ht, hg⟩ := hr pins { s3 with heap := s3.heap.push { cls := .type "slice", data := .fields #[vl, vu, .none] } } σ H3 x v vl vu l u s3.heap.objs.size Q I4 r1 (Heap.IsSliceOf.new ..) pl pu q3
  show wpAny (model X.prog X.w) X.A (subscriptTail e (.Slice lo hi none p2) v (.ref s3.heap.objs.size)) (EP X pins σ Q) X.xe { s3 with heap := s3.heap.push { cls := .type "slice", data := .fields #[vl, vu, .none] } }
  exact tail_any (ops := [.ref s3.heap.objs.size, v]) ht hT hg (by with_unfolding_all rfl)

def cutV (xs : List V) (lo hi : Option Int) : List V := (xs.drop (HT.sIx xs.length 0 lo)).take (HT.sIx xs.length xs.length hi - HT.sIx xs.length 0 lo)
theorem cutV_length (xs : List V) (lo hi : Option Int) : (cutV xs lo hi).length ≤ xs.length := by
  unfold cutV
  rw [List.length_take, List.length_drop]
  omega
def rCatT (K : PySem.W.Frag) : R2 := fun x y H Q => ∃ a b xs ys, x = .ref a ∧ y = .ref b ∧ SqT K H a xs ∧ SqT K H b ys ∧ xs ≠ [] ∧ xs.length + ys.length ≤ sizeLine ∧
  (ys = [] → Q (.ref a) H) ∧ (ys ≠ [] → ∀ p, H p = none → Q (.ref p) (upd H p (.tup (xs ++ ys))))
theorem Vals.nil_iff {xs : List V} {us : List Value} (r : Vals xs us) : us = [] ↔ xs = [] := by
  cases r with
  | nil => simp
  | cons _ _ => simp
theorem op_catT : OpR X (binaryOp .Add) (rCatT X.K) := by
  intro pins s σ H x y v u Q I rx ry h
  obtain ⟨a, b, xs, ys, rfl, rfl, ha, hb, hx, hz, q1, q2⟩ := h
  cases rx
  cases ry
  obtain ⟨its, r1, p1, _⟩ := I.tuple ha
  obtain ⟨its2, r2, p2, _⟩ := I.tuple hb
  refine HT.cat_tup p1 p2 (fun z => hx (r1.nil_iff.mp z)) (fun z => ⟨.ref a, H, I, rfl, q1 (r2.nil_iff.mp z)⟩) (fun z => ?_) (by rw [← r1.length, ← r2.length]; exact hz)
  refine ⟨.ref s.heap.objs.size, _, I.laid (t' := s.toks) (o := .tup (xs ++ ys)) (fun b ob q => Heap.get?_push_of_some _ q) (Nat.le_refl _) ?_, rfl, q2 (fun w => z (r2.nil_iff.mpr w)) _ (I.hok.fresh (Nat.le_refl _))⟩
  exact ⟨by rw [List.length_append]; exact hz, _, r1.append r2, IsTup.new _ _⟩
end
end L2

namespace L2
open PySem PySem.Spec PyProof.Rows

def ixN (n : Nat) (i : Int) : Option Nat := if 0 ≤ i then (if i < n then some i.toNat else none) else if -(n : Int) ≤ i then some (i + n).toNat else none
def atI {α : Type} (xs : List α) (i : Int) : Option α := (ixN xs.length i).bind fun j => xs[j]?
theorem ixN_seq {n : Nat} {i : Int} {j : Nat} (h : ixN n i = some j) : seqIndex? i n = some j ∧ j < n ∧ -(n : Int) ≤ i ∧ i < n := by
  unfold ixN at h
  by_cases h0 : 0 ≤ i
  · rw [if_pos h0] at h
    by_cases h1 : i < n
    · rw [if_pos h1] at h
      have e : i.toNat = j := Option.some.inj h
      exact ⟨by rw [seqIndex_of h0 h1, e], by omega, by omega, h1⟩
    · rw [if_neg h1] at h; cases h
  · rw [if_neg h0] at h
    by_cases h1 : -(n : Int) ≤ i
    · rw [if_pos h1] at h
      have e : (i + n).toNat = j := Option.some.inj h
      exact ⟨by rw [seqIndex_neg (by omega) h1, e], by omega, h1, by omega⟩
    · rw [if_neg h1] at h; cases h
theorem atI_get {α : Type} {xs : List α} {i : Int} {v : α} (h : atI xs i = some v) : ∃ j, seqIndex? i xs.length = some j ∧ xs[j]? = some v ∧ j < xs.length ∧ -(xs.length : Int) ≤ i ∧ i < xs.length := by
  unfold atI at h
  cases e : ixN xs.length i with
  | none => rw [e] at h; cases h
  | some j =>
    rw [e] at h
    obtain ⟨h1, h2, h3, h4⟩ := ixN_seq e
    exact ⟨j, h1, h, h2, h3, h4⟩
theorem atI_nat {α : Type} {xs : List α} {j : Nat} {v : α} (h : xs[j]? = some v) : atI xs (j : Int) = some v := by
  have hj : j < xs.length := (List.getElem?_eq_some_iff.mp h).1
  have e : ixN xs.length (j : Int) = some j := by
    unfold ixN
    rw [if_pos (by omega), if_pos (by omega)]; simp
  unfold atI; rw [e]; exact h
theorem atI_last {α : Type} (xs : List α) (v : α) : atI (xs ++ [v]) (-1) = some v := by
  have hl : (xs ++ [v]).length = xs.length + 1 := by simp
  have e : ixN (xs ++ [v]).length (-1) = some xs.length := by
    unfold ixN
    rw [hl, if_neg (by decide), if_pos (by omega)]
    congr 1
    omega
  unfold atI
  rw [e]
  show (xs ++ [v])[xs.length]? = some v
  simp

def PlainIx (b : Expr) : Prop := ∀ o i, subscripted b false o i = operate [o, i] (getItem o i)
def IxR (X : Cx) (r : R2) : Prop :=
  ∀ (value slice : Expr) (pins : List (Addr × Obj)) (s : Shared) (σ : St) (H : Hp) (x y : V) (v u : Value) (Q : VK), Inv X pins σ H s → RelV x v → RelV y u → r x y H Q →
    subscripted slice false v u = operate [v, u] (getItem v u) → wpAny (model X.prog X.w) X.A (subscriptTail value slice v u) (EP X pins σ Q) X.xe s
def MtR (X : Cx) (id : String) (r : V → List V → Hp → VK → Prop) : Prop :=
  ∀ (pins : List (Addr × Obj)) (s : Shared) (σ : St) (H : Hp) (x : V) (xs : List V) (v : Value) (us : List Value) (Q : VK), Inv X pins σ H s → RelV x v → Vals xs us → r x xs H Q →
    wpAny (model X.prog X.w) X.A (call (.builtin id) (v :: us)) (EP X pins σ Q) X.xe s
section
variable {X : Cx} {a b : Expr} {ta tb : TE} {pos : Pos}
theorem pe_ix {r : R2} (hr : IxR X r) (ha : PE X a ta) (hb : PE X b tb) (hs : PlainIx b) : PE X (.Subscript a b pos) (tOp r ta tb) := by
  intro pins s σ H Q I h
  exact Subscript_ (binT ha hb I h fun v u s2 x y H2 I2 rx ry q => hr a b pins s2 σ H2 x y v u Q I2 rx ry q (hs _ _))

def rIxL (K : PySem.W.Frag) : R2 := fun x y H Q => ∃ p xs i v, x = .ref p ∧ y = .int i ∧ SqL K H p xs ∧ atI xs i = some v ∧ Q v H
def rIxT (K : PySem.W.Frag) : R2 := fun x y H Q => ∃ p xs i v, x = .ref p ∧ y = .int i ∧ SqT K H p xs ∧ atI xs i = some v ∧ Q v H
def rIxS : R2 := fun x y H Q => ∃ z i c, x = .str z ∧ y = .int i ∧ z.length ≤ sizeLine ∧ atI z.cps.toList i = some c ∧ Q (.str ⟨#[c]⟩) H
theorem ix_list : IxR X (rIxL X.K) := by
  intro value slice pins s σ H x y v u Q I rx ry h hs
  obtain ⟨p, xs, i, z, rfl, rfl, hq, he, q⟩ := h
  cases rx
  obtain ⟨t, rfl⟩ := ry
  obtain ⟨its, r, pl, hz⟩ := I.list hq
  obtain ⟨j, h1, h2, h3, h4, h5⟩ := atI_get he
  obtain ⟨w, ew, rw'⟩ := r.get h2
  have hl := r.length
  have hn := line63
  have fin : EP X pins σ Q w s := ⟨z, H, I, rw', q⟩
  by_cases h0 : 0 ≤ i
  · have hj : i.toNat = j := by
      rw [seqIndex_of h0 h5] at h1
      exact Option.some.inj h1
    exact item_listR pl.isList h0 (by omega) (by rw [hj]; simpa using ew) fin hs
  · have hj : (i + (its.toArray.size : Int)).toNat = j := by
      rw [seqIndex_neg (by omega) h4] at h1
      rw [List.size_toArray, ← hl]
      exact Option.some.inj h1
    exact subscriptTail_builtinR (x := w) pl.isList.typeIs slot_list_getitem.lookup
      (wpAny_getItem_list_neg (Q := fun r s' => r = w ∧ EP X pins σ Q r s') pl.isList (by omega) (by rw [List.size_toArray] <;> omega) (by omega) (by rw [hj]; simpa using ew) ⟨rfl, fin⟩) hs
theorem ix_tup : IxR X (rIxT X.K) := by
  intro value slice pins s σ H x y v u Q I rx ry h hs
  obtain ⟨p, xs, i, z, rfl, rfl, hq, he, q⟩ := h
  cases rx
  obtain ⟨t, rfl⟩ := ry
  obtain ⟨its, r, pl, hz⟩ := I.tuple hq
  obtain ⟨j, h1, h2, h3, h4, h5⟩ := atI_get he
  obtain ⟨w, ew, rw'⟩ := r.get h2
  have hl := r.length
  have hn := line63
  have fin : EP X pins σ Q w s := ⟨z, H, I, rw', q⟩
  exact subscriptTail_builtinR (x := w) pl.typeIs slot_tuple_getitem.lookup
    (getItem_tuple (j := j) (Q := fun r s' => r = w ∧ EP X pins σ Q r s') pl (by omega) (by omega) (by rw [List.size_toArray, ← hl]; exact h1) (by simpa using ew) ⟨rfl, fin⟩) hs
theorem ix_str : IxR X rIxS := by
  intro value slice pins s σ H x y v u Q I rx ry h hs
  obtain ⟨z, i, c, rfl, rfl, hz, he, q⟩ := h
  obtain ⟨t, rfl⟩ := rx
  obtain ⟨t', rfl⟩ := ry
  obtain ⟨j, h1, h2, h3, h4, h5⟩ := atI_get he
  have hl : z.cps.toList.length = z.length := by simp [Str.length]
  rw [hl] at h1 h4 h5
  have hn := line63
  exact tail_any (typeIs_str s z t) slot_str_getitem.lookup (getItem_str (c := c) (by
    have e1 : decide (i < -(2 ^ 63 : Int)) = false := decide_eq_false (by omega)
    have e2 : decide (i ≥ 2 ^ 63) = false := decide_eq_false (by omega)
    rw [e1, e2, Bool.or_false]) (by rw [h1]; simpa using h2) ⟨.str ⟨#[c]⟩, H, I.tok _, ⟨_, rfl⟩, q⟩) hs
theorem mapSeq_set (its : List Value) (n j : Nat) (u : Value) : Obj.mapSeq (·.setIfInBounds j u) { cls := .type "list", data := .seq its.toArray n } = { cls := .type "list", data := .seq (its.set j u).toArray n } := by
  simp [Obj.mapSeq]
theorem Inv.lst {pins : List (Addr × Obj)} {σ : St} {H : Hp} {s : Shared} {p : Addr} {xs : List V} (I : Inv X pins σ H s) (h : H p = some (.lst xs)) :
    ∃ (its : List Value) (n : Nat), Vals xs its ∧ s.heap.get? p = some { cls := .type "list", data := .seq its.toArray n } ∧ xs.length ≤ sizeLine := by
  obtain ⟨z, its, n, r, e⟩ := I.hok p _ h
  exact ⟨its, n, r, e, z⟩
theorem Inv.lstUpd {pins : List (Addr × Obj)} {σ : St} {H : Hp} {s : Shared} {p : Addr} {xs ys : List V} {its its' : List Value} {n n' : Nat} {f : Obj → Obj} (I : Inv X pins σ H s) (h : H p = some (.lst xs))
    (ho : s.heap.get? p = some { cls := .type "list", data := .seq its.toArray n }) (hf : f { cls := .type "list", data := .seq its.toArray n } = { cls := .type "list", data := .seq its'.toArray n' }) (r : Vals ys its') (hz : ys.length ≤ sizeLine) (t : Nat) :
    Inv X pins σ (upd H p (.lst ys)) { s with heap := s.heap.update p f, toks := t } := by
  have e : (s.heap.update p f).get? p = some { cls := .type "list", data := .seq its'.toArray n' } := by
    rw [Heap.get?_update_self f ho (by rw [hf] <;> rfl), hf]
  refine I.write (x := p) (e := p) (by rw [h]; trivial) (.inl rfl) (fun b u hb q => (Heap.get?_update_other _ _ (Ne.symm hb)).trans q) ⟨_, e⟩ ?_
  exact ⟨hz, its', n', r, e⟩
def rSetL : V → V → V → Hp → (Hp → Prop) → Prop := fun o i v H Q => ∃ p xs k j, o = .ref p ∧ i = .int k ∧ H p = some (.lst xs) ∧ ixN xs.length k = some j ∧ Q (upd H p (.lst (xs.set j v)))
theorem set_list : PSet X rSetL := by
  intro pins s σ H o i v ov iv u Q I ro ri rv h
  obtain ⟨p, xs, k, j, rfl, rfl, hp, hj, q⟩ := h
  cases ro
  obtain ⟨t, rfl⟩ := ri
  obtain ⟨its, n, r, ho, hz⟩ := I.lst hp
  obtain ⟨h1, h2, h3, h4⟩ := ixN_seq hj
  have hl := r.length
  have hn := line63
  have I' : Inv X pins σ (upd H p (.lst (xs.set j v))) { s with heap := s.heap.update p (Obj.mapSeq (·.setIfInBounds j u)) } :=
    I.lstUpd hp ho (mapSeq_set its n j u) (r.set rv j) (by rw [List.length_set]; exact hz) s.toks
  by_cases h0 : 0 ≤ k
  · have hk : k.toNat = j := by
      rw [seqIndex_of h0 h4] at h1
      exact Option.some.inj h1
    exact PySem.W.ki_setAt ho h0 (by omega) (by rw [List.size_toArray, ← hl]; exact h4) (by rw [hk]; exact ⟨_, I', q⟩)
  · have hk : (k + (its.toArray.size : Int)).toNat = j := by
      rw [seqIndex_neg (by omega) h3] at h1
      rw [List.size_toArray, ← hl]
      exact Option.some.inj h1
    exact PySem.W.ki_setBack ho (by omega) (by rw [List.size_toArray, ← hl]; exact h3) (by omega) (by rw [hk]; exact ⟨_, I', q⟩)

theorem slice_bounds (lo hi : Option Int) (n : Nat) : (sliceBounds lo hi none n).1 = ((HT.sIx n 0 lo : Nat) : Int) ∧ (sliceBounds lo hi none n).2.1 = ((HT.sIx n n hi : Nat) : Int) ∧ (sliceBounds lo hi none n).2.2 = 1 := by
  refine ⟨?_, ?_, rfl⟩
  · cases lo with
    | none => simp [sliceBounds, HT.sIx]
    | some i =>
      simp only [sliceBounds, HT.sIx, Option.getD_none, show (1 : Int) > 0 by decide, if_true]
      by_cases h : i < 0
      · simp only [h, if_true] <;> omega
      · simp only [h, if_false] <;> omega
  · cases hi with
    | none => simp [sliceBounds, HT.sIx]
    | some i =>
      simp only [sliceBounds, HT.sIx, Option.getD_none, show (1 : Int) > 0 by decide, if_true]
      by_cases h : i < 0
      · simp only [h, if_true] <;> omega
      · simp only [h, if_false] <;> omega
theorem slicePick_cut (its : List Value) (lo hi : Option Int) : slicePick its.toArray lo hi none = ((its.drop (HT.sIx its.length 0 lo)).take (HT.sIx its.length its.length hi - HT.sIx its.length 0 lo)).toArray := by
  obtain ⟨h1, h2, h3⟩ := slice_bounds lo hi its.toArray.size
  unfold slicePick
  rw [h1, h2, h3]
  simp only [sliceRange_one, pick_run, List.size_toArray] <;> rfl
def rSlL (K : PySem.W.Frag) : V → Option Int → Option Int → Hp → VK → Prop := fun x lo hi H Q => ∃ a xs, x = .ref a ∧ SqL K H a xs ∧ ∀ p, H p = none → Q (.ref p) (upd H p (.lst (cutV xs lo hi)))
theorem sl_list : SlR X (rSlL X.K) := by
  intro pins s σ H x v vl vu lo hi sl Q I rx hs pl pu h
  obtain ⟨a, xs, rfl, hx, q⟩ := h
  cases rx
  obtain ⟨its, r, ht, hz⟩ := I.list hx
  have hlen := r.length
  refine ⟨"list", _, slot_list_getitem.lookup, ht.isList.typeIs, ?_⟩
  refine wpAny_getItem_list_slice ht.isList hs pl pu .none (by simp) ?_ (by rw [List.size_toArray] <;> omega)
  rw [slicePick_cut, ← hlen]
  refine ⟨.ref s.heap.objs.size, _, I.laid (t' := s.toks) (o := .lst (cutV xs lo hi)) (fun b ob q => Heap.get?_push_of_some _ q) (Nat.le_refl _) ?_, rfl, q _ (I.hok.fresh (Nat.le_refl _))⟩
  exact ⟨Nat.le_trans (cutV_length xs lo hi) hz, _, 0, (r.drop (HT.sIx xs.length 0 lo)).take (HT.sIx xs.length xs.length hi - HT.sIx xs.length 0 lo), Heap.get?_push_size _ rfl⟩

def flatV : V → Bool
  | .non => true
  | .bl _ => true
  | .int _ => true
  | .str _ => true
  | _ => false
def eqV : V → V → Bool
  | .non, .non => true
  | .bl a, .bl b => a == b
  | .bl a, .int b => (if a then 1 else 0) == b
  | .int a, .bl b => a == (if b then 1 else 0)
  | .int a, .int b => a == b
  | .str a, .str b => a == b
  | _, _ => false
theorem eqAt_V {A : Around} {s : Shared} {y x : V} {u v : Value} (ry : RelV y u) (rx : RelV x v) (fy : flatV y = true) (fx : flatV x = true) : SeqAt.EqAt A s u v (eqV y x) := by
  cases y with
  | non =>
    cases ry
    cases x with
    | non => cases rx; exact SeqAt.EqAt.same _
    | bl b => cases rx; exact SeqAt.EqAt.none_bool b
    | int b => obtain ⟨t, rfl⟩ := rx; exact SeqAt.EqAt.none_int b t
    | str b => obtain ⟨t, rfl⟩ := rx; exact SeqAt.EqAt.none_str b t
    | _ => exact absurd (show false = true from fx) Bool.false_ne_true
  | bl a =>
    cases ry
    cases x with
    | non => cases rx; exact SeqAt.EqAt.bool_none a
    | bl b => cases rx; exact SeqAt.EqAt.bool_bool a b
    | int b => obtain ⟨t, rfl⟩ := rx; exact SeqAt.EqAt.bool_int a b t
    | str b => obtain ⟨t, rfl⟩ := rx; exact SeqAt.EqAt.bool_str a b t
    | _ => exact absurd (show false = true from fx) Bool.false_ne_true
  | int a =>
    obtain ⟨t', rfl⟩ := ry
    cases x with
    | non => cases rx; exact SeqAt.EqAt.int_none a t'
    | bl b => cases rx; exact SeqAt.EqAt.int_bool a t' b
    | int b => obtain ⟨t, rfl⟩ := rx; exact SeqAt.EqAt.int_int a t' b t
    | str b => obtain ⟨t, rfl⟩ := rx; exact SeqAt.EqAt.int_str a t' b t
    | _ => exact absurd (show false = true from fx) Bool.false_ne_true
  | str a =>
    obtain ⟨t', rfl⟩ := ry
    cases x with
    | non => cases rx; exact SeqAt.EqAt.str_none a t'
    | bl b => cases rx; exact SeqAt.EqAt.str_bool a t' b
    | int b => obtain ⟨t, rfl⟩ := rx; exact SeqAt.EqAt.str_int a t' b t
    | str b => obtain ⟨t, rfl⟩ := rx; exact SeqAt.EqAt.str_str a t' b t
    | _ => exact absurd (show false = true from fx) Bool.false_ne_true
  | _ => exact absurd (show false = true from fy) Bool.false_ne_true
def eqU (x : V) (u : Value) : Bool := match u with
  | .none => eqV .non x
  | .bool b => eqV (.bl b) x
  | .int i _ => eqV (.int i) x
  | .str z _ => eqV (.str z) x
  | _ => false
theorem eqU_of {x y : V} {u : Value} (r : RelV y u) (f : flatV y = true) : eqU x u = eqV y x := by
  cases y with
  | non => cases r; rfl
  | bl b => cases r; rfl
  | int i => obtain ⟨t, rfl⟩ := r; rfl
  | str z => obtain ⟨t, rfl⟩ := r; rfl
  | _ => exact absurd (show false = true from f) Bool.false_ne_true
theorem any_eqU {x : V} : ∀ {xs : List V} {us : List Value}, Vals xs us → xs.all flatV = true → us.any (eqU x) = xs.any fun y => eqV y x
  | _, _, .nil, _ => rfl
  | y :: xs, u :: us, .cons r t, f => by
    rw [List.all_cons, Bool.and_eq_true] at f
    rw [List.any_cons, List.any_cons, eqU_of r f.1, any_eqU t f.2]
theorem mem_eqAt {A : Around} {s : Shared} {x : V} {v : Value} (rx : RelV x v) (fx : flatV x = true) : ∀ {xs : List V} {us : List Value}, Vals xs us → xs.all flatV = true → ∀ u ∈ us, SeqAt.EqAt A s u v (eqU x u)
  | _, _, .nil, _ => fun u hu => by cases hu
  | y :: xs, u :: us, .cons r t, f => fun u' hu => by
    rw [List.all_cons, Bool.and_eq_true] at f
    rcases List.mem_cons.mp hu with rfl | hu
    · rw [eqU_of r f.1]; exact eqAt_V r rx f.1 fx
    · exact mem_eqAt rx fx t f.2 u' hu
def inV (x : V) (xs : List V) : Bool := xs.any fun y => eqV y x
def rIn (K : PySem.W.Frag) (neg : Bool) : R2 := fun x y H Q => ∃ p xs, y = .ref p ∧ (SqL K H p xs ∨ SqT K H p xs) ∧ flatV x = true ∧ xs.all flatV = true ∧ Q (.bl (if neg then !inV x xs else inV x xs)) H
theorem op_notIn_seq : OpR X (compareOp .NotIn) (rIn X.K true) := by
  intro pins s σ H x y v u Q I rx ry h
  obtain ⟨p, xs, rfl, hq, fx, fs, q⟩ := h
  cases ry
  rcases hq with hq | hq
  · obtain ⟨its, r, pl, hz⟩ := I.list hq
    refine SeqAt.notIn_listAt (eqU x) pl.isList (fun w hw => mem_eqAt rx fx r fs w (by simpa using hw)) ⟨.bl _, H, I, rfl, ?_⟩
    rw [show its.toArray.any (eqU x) = its.any (eqU x) by simp, any_eqU r fs]
    exact q
  · obtain ⟨its, r, pl, hz⟩ := I.tuple hq
    refine SeqAt.notIn_tupleAt (eqU x) pl (fun w hw => mem_eqAt rx fx r fs w (by simpa using hw)) ⟨.bl _, H, I, rfl, ?_⟩
    rw [show its.toArray.any (eqU x) = its.any (eqU x) by simp, any_eqU r fs]
    exact q
theorem call_len_seq : CallR X (.builtin "len") (fun xs H Q => ∃ p ys, xs = [.ref p] ∧ (SqL X.K H p ys ∨ SqT X.K H p ys) ∧ Q (.int ys.length) H) := by
  intro pins s σ H xs us Q I r h
  obtain ⟨p, ys, rfl, hq, q⟩ := h
  obtain ⟨u, rfl, rx⟩ := vals1 r
  cases rx
  have hn := line63
  rcases hq with hq | hq
  · obtain ⟨its, r', pl, hz⟩ := I.list hq
    have hlen := r'.length
    exact Calls.call_len_list pl.isList (by simp only [List.size_toArray] <;> omega) ⟨.int ys.length, H, I.tok _, ⟨s.toks + 1, by rw [List.size_toArray, hlen]⟩, q⟩
  · obtain ⟨its, r', pl, hz⟩ := I.tuple hq
    have hlen := r'.length
    exact len_tuple pl (by simp only [List.size_toArray] <;> omega) ⟨.int ys.length, H, I.tok _, ⟨s.toks + 1, by rw [List.size_toArray, hlen]⟩, q⟩
theorem call_len_str : CallR X (.builtin "len") (fun xs H Q => ∃ z, xs = [.str z] ∧ z.length ≤ sizeLine ∧ Q (.int z.length) H) := by
  intro pins s σ H xs us Q I r h
  obtain ⟨z, rfl, hz, q⟩ := h
  obtain ⟨u, rfl, t, rfl⟩ := vals1 r
  have hn := line63
  exact len_str (by omega) ⟨.int z.length, H, I.tok _, ⟨_, rfl⟩, q⟩
def tyV (K : PySem.W.Frag) (T : String) (x : V) (H : Hp) : Prop := match x with
  | .str _ => T = "str"
  | .int _ => T = "int"
  | .ref p => (T = "list" ∧ ∃ xs, SqL K H p xs) ∨ (T = "tuple" ∧ ∃ o, K.lookup p = some o ∧ o.cls = .type "tuple" ∧ o.dict = none) ∨
      (T = "dict" ∧ ((∃ kvs, H p = some (.dK kvs)) ∨ ∃ kvs, H p = some (.dT kvs))) ∨ (T = "set" ∧ ∃ S n, H p = some (.set S n))
  | _ => False
theorem tyV_is {pins : List (Addr × Obj)} {σ : St} {H : Hp} {s : Shared} {T : String} {x : V} {v : Value} (I : Inv X pins σ H s) (r : RelV x v) (ty : tyV X.K T x H) :
    s.TypeIs v T ∧ ∀ a, v = .ref a → ∃ ob, s.heap.get? a = some ob ∧ ob.dict = none := by
  cases x with
  | str z =>
    obtain ⟨t, rfl⟩ := r
    cases (show T = "str" from ty)
    exact ⟨typeIs_str s z t, fun _ e => nomatch e⟩
  | int i =>
    obtain ⟨t, rfl⟩ := r
    cases (show T = "int" from ty)
    exact ⟨typeIs_int s i t, fun _ e => nomatch e⟩
  | ref p =>
    cases r
    rcases ty with ⟨rfl, xs, hq⟩ | ⟨rfl, o, hk, hc, hd⟩ | ⟨rfl, hk⟩ | ⟨rfl, S, n, hk⟩
    · obtain ⟨its, _, pl, _⟩ := I.list hq
      refine ⟨pl.isList.typeIs, fun a e => ?_⟩
      cases e
      obtain ⟨o, n, e, c, hd, _⟩ := pl
      exact ⟨o, e, hd⟩
    · refine ⟨⟨o, I.kIn p o hk, hc⟩, fun a e => ?_⟩
      cases e
      exact ⟨o, I.kIn _ o hk, hd⟩
    · have z : ∃ o, s.heap.get? p = some o ∧ o.ExactDict := by
        rcases hk with ⟨kvs, hk⟩ | ⟨kvs, hk⟩
        · obtain ⟨_, _, _, _, o, _, _, e, ex, _⟩ := I.hok p _ hk
          exact ⟨o, e, ex⟩
        · obtain ⟨_, _, _, _, o, _, _, e, ex, _⟩ := I.hok p _ hk
          exact ⟨o, e, ex⟩
      obtain ⟨o, e, ex⟩ := z
      refine ⟨⟨o, e, ex.1⟩, fun a e2 => ?_⟩
      cases e2
      exact ⟨o, e, ex.2.1⟩
    · obtain ⟨o, _, _, _, e, ex, _⟩ := I.hok p _ hk
      refine ⟨⟨o, e, ex.1⟩, fun a e2 => ?_⟩
      cases e2
      exact ⟨o, e, ex.2.1⟩
  | _ => exact False.elim ty
def tBM (K : PySem.W.Frag) (T : String) (r : V → List V → Hp → VK → Prop) (to : TE) (t : TA) : TE := fun σ H Q => to σ H fun x H1 => tyV K T x H1 ∧ t σ H1 fun xs H2 => r x xs H2 Q
variable {o e : Expr} {es : List Expr} {to : TE} {t : TA} {name : Str} {apos cpos : Pos} {T id : String} {r : V → List V → Hp → VK → Prop}
theorem pe_bm (pa : PlainAttrs T) (slot : Slot T name id) (hty : typeOf (.builtin id) = pure (.type "method_descriptor")) (hm : MtR X id r) (ho : PE X o to) (ha : PA X (e :: es) t)
    (hbase : attributeBase o name X.env (eval o X.env) = eval o X.env := by rfl)
    (hfew : ((backTo cpos (starEach (e :: es) X.env)).all (fun x => !x.1) && (backToKw cpos (keywordEach [] X.env)).all (fun x => x.1.isSome)
      && decide ((e :: es).length + ([] : List Keyword).length + (if ([] : List Keyword).isEmpty then 0 else 1) < 30)) = true := by rfl)
    (hline : (apos.endLine == cpos.line) = true := by rfl) (hs : starEach (e :: es) X.env = (false, eval e X.env) :: starEach es X.env := by rfl) (hplain : (backTo cpos (starEach es X.env)).any (·.1) = false := by rfl) :
    PE X (.Call (.Attribute o name apos) (e :: es) [] cpos) (tBM X.K T r to t) := by
  intro pins s σ H Q I h
  refine wpAny_Call_method_late hbase hfew hline rfl (thn (ho pins s σ H _ I h) fun v s1 ⟨x, H1, I1, r1, ty, q1⟩ => ?_)
  obtain ⟨h1, h2⟩ := tyV_is I1 r1 ty
  refine ⟨T, id, pa, slot, hty, h1, h2, ?_⟩
  have hA := ha cpos pins s1 σ H1 _ I1 q1
  rw [hs] at hA ⊢
  refine Calls.callWith_builtin (by show (false || (backTo cpos (starEach es X.env)).any (·.1)) = false; rw [hplain] <;> rfl) (Calls.evalArgs_plain ?_)
  exact thn hA fun us s2 ⟨vs, H2, I2, r2, q2⟩ => hm pins s2 σ H2 x vs v us Q I2 r1 r2 q2
end
end L2

namespace L2
open PySem PySem.Spec PyProof.Rows

def MtM (X : Cx) (id : String) (r : V → List V → Hp → VK → Prop) : Prop :=
  ∀ (pins : List (Addr × Obj)) (s : Shared) (σ : St) (H : Hp) (x : V) (xs : List V) (v : Value) (us : List Value) (Q : VK), Inv X pins σ H s → RelV x v → Vals xs us → r x xs H Q →
    wpAny (model X.prog X.w) X.A (call (.builtin id) (v :: us)) (EP X pins σ Q) X.xe s

theorem Vals.one : ∀ {x : V} {us : List Value}, Vals [x] us → ∃ u, us = [u] ∧ RelV x u
  | _, _, .cons r .nil => ⟨_, rfl, r⟩
theorem Vals.zero : ∀ {us : List Value}, Vals [] us → us = []
  | _, .nil => rfl
theorem Vals.rep {xs : List V} {us : List Value} (h : Vals xs us) : ∀ k : Nat, Vals (List.replicate k xs).flatten (List.replicate k us).flatten
  | 0 => .nil
  | k + 1 => by
    rw [List.replicate_succ, List.replicate_succ, List.flatten_cons, List.flatten_cons]
    exact Vals.append h (Vals.rep h k)
theorem foldl_rep (its : List Value) : ∀ (k : Nat) (acc : List Value),
    List.foldl (fun x1 x2 => x1 ++ x2) acc.toArray (List.replicate k its.toArray) = (acc ++ (List.replicate k its).flatten).toArray
  | 0, acc => by simp
  | k + 1, acc => by
    have e : acc.toArray ++ its.toArray = (acc ++ its).toArray := by simp
    have e2 : (acc ++ its) ++ (List.replicate k its).flatten = acc ++ (List.replicate (k + 1) its).flatten := by
      rw [List.replicate_succ, List.flatten_cons, List.append_assoc]
    rw [← e2, ← foldl_rep its k (acc ++ its), ← e, List.replicate_succ, List.foldl_cons]

section
variable {X : Cx} {pins : List (Addr × Obj)} {σ : St} {H : Hp} {s : Shared} {l b : Addr} {xs ys zs : List V}

theorem Inv.lset {its its' : List Value} {n : Nat} {f : Array Value → Array Value} {t' : Nat} (I : Inv X pins σ H s) (hH : H l = some (.lst xs))
    (e : s.heap.get? l = some { cls := .type "list", data := .seq its.toArray n }) (hf : f its.toArray = its'.toArray) (hv : Vals ys its') (hz : ys.length ≤ sizeLine) :
    Inv X pins σ (upd H l (.lst ys)) { s with heap := s.heap.update l (Obj.mapSeq f), toks := t' } := by
  have q := PySem.IsL.update e f
  rw [hf] at q
  refine I.write (x := l) (e := l) (by rw [hH]; exact trivial) (.inl rfl) (fun b' u hb hu => (Heap.get?_update_other s.heap (Obj.mapSeq f) (Ne.symm hb)).trans hu) ⟨_, q⟩ ?_
  exact ⟨hz, its', _, hv, q⟩
theorem Inv.lnew {its : List Value} {t' : Nat} (I : Inv X pins σ H s) (hv : Vals ys its) (hz : ys.length ≤ sizeLine) :
    Inv X pins σ (upd H s.heap.objs.size (.lst ys)) { s with heap := s.heap.push { cls := .type "list", data := .seq its.toArray }, toks := t' } :=
  I.laid (fun _ _ q => Heap.get?_push_of_some _ q) (Nat.le_refl _) ⟨hz, its, 0, hv, Heap.get?_push_size _ rfl⟩
theorem Inv.fresh (I : Inv X pins σ H s) : H s.heap.objs.size = none := I.hok.fresh (Nat.le_refl _)
theorem Inv.lstM (I : Inv X pins σ H s) (hH : H l = some (.lst xs)) : xs.length ≤ sizeLine ∧ ∃ (its : List Value) (n : Nat), Vals xs its ∧ xs.length = its.length ∧ s.heap.get? l = some { cls := .type "list", data := .seq its.toArray n } := by
  obtain ⟨z, its, n, r, e⟩ := I.hok l _ hH
  exact ⟨z, its, n, r, r.length, e⟩

theorem notLongL {n : Nat} (h : n ≤ sizeLine) : Builtin.List.listTooLong n = false := by
  unfold Builtin.List.listTooLong
  exact decide_eq_false (by omega)
end

section
variable {X : Cx}

def rAppend : V → List V → Hp → VK → Prop := fun x vs H Q => ∃ l xs y, x = .ref l ∧ vs = [y] ∧ H l = some (.lst xs) ∧ xs.length < sizeLine ∧ Q .non (upd H l (.lst (xs ++ [y])))
theorem mt_append : MtM X "list.append" rAppend := by
  intro pins s σ H x vs v us Q I rx rv h
  obtain ⟨l, xs, y, rfl, rfl, hH, hz, q⟩ := h
  cases rx
  obtain ⟨u, rfl, ru⟩ := rv.one
  obtain ⟨z, its, n, r, hl, e⟩ := I.lstM hH
  refine call_meets F.slot_list_append ⟨_, e, rfl⟩ F.entry_list_append (F.args_list_append_2 _ _) (PySem.list_append l its.toArray n u (by rw [List.size_toArray]; omega)) ⟨e, ?_⟩
  refine ⟨.non, _, I.lset (its' := its ++ [u]) hH e (by simp) (r.append (.cons ru .nil)) ?_, rfl, q⟩
  rw [List.length_append, List.length_singleton]
  omega

def rCat : R2 := fun x y H Q => ∃ l b xs zs, x = .ref l ∧ y = .ref b ∧ H l = some (.lst xs) ∧ H b = some (.lst zs) ∧ xs.length + zs.length ≤ sizeLine ∧ ∀ p, H p = none → Q (.ref p) (upd H p (.lst (xs ++ zs)))
theorem op_cat : OpR X (binaryOp .Add) rCat := by
  intro pins s σ H x y v u Q I rx ry h
  obtain ⟨l, b, xs, zs, rfl, rfl, hH, hB, hz, q⟩ := h
  cases rx
  cases ry
  obtain ⟨z, its, n, r, hl, e⟩ := I.lstM hH
  obtain ⟨z2, its2, n2, r2, hl2, e2⟩ := I.lstM hB
  refine PySem.P.add_list e e2 ?_ (by rw [List.size_toArray, List.size_toArray]; omega)
  have ea : its.toArray ++ its2.toArray = (its ++ its2).toArray := by simp
  rw [ea]
  exact ⟨.ref _, _, I.lnew (t' := s.toks) (r.append r2) (by rw [List.length_append]; omega), rfl, q _ I.fresh⟩
def rRep : R2 := fun x y H Q => ∃ l k xs, x = .ref l ∧ y = .int k ∧ H l = some (.lst xs) ∧ -(2 ^ 63) ≤ k ∧ k < 2 ^ 63 ∧ xs.length * k.toNat ≤ sizeLine ∧
  ∀ p, H p = none → Q (.ref p) (upd H p (.lst (List.replicate k.toNat xs).flatten))
theorem len_rep {α : Type} (xs : List α) (k : Nat) : (List.replicate k xs).flatten.length = k * xs.length := by
  induction k with
  | zero => simp
  | succ k ih => rw [List.replicate_succ, List.flatten_cons, List.length_append, ih, Nat.succ_mul, Nat.add_comm]
theorem op_rep : OpR X (binaryOp .Mult) rRep := by
  intro pins s σ H x y v u Q I rx ry h
  obtain ⟨l, k, xs, rfl, rfl, hH, h1, h2, hz, q⟩ := h
  cases rx
  obtain ⟨t, rfl⟩ := ry
  obtain ⟨z, its, n, r, hl, e⟩ := I.lstM hH
  have hlen : its.toArray.size * k.toNat ≤ sizeLine := by rw [List.size_toArray, ← hl]; exact hz
  have hcap : ¬ its.toArray.size * k.toNat > (2 ^ 63 - 1) / 8 := by
    have : (sizeLine : Nat) ≤ (2 ^ 63 - 1) / 8 := by decide
    omega
  have hfit : ¬ (!Builtin.List.listFitsIndex k) = true := by
    rw [fitsIndex_both h1 h2]
    exact Bool.false_ne_true
  have hlong : ¬ Builtin.List.listTooLong (its.toArray.size * k.toNat) = true := by
    rw [notLongL hlen]
    exact Bool.false_ne_true
  have hnew : List.foldl (fun x1 x2 => x1 ++ x2) #[] (List.replicate (if its.toArray.isEmpty = true then 0 else k.toNat) its.toArray) = (List.replicate k.toNat its).flatten.toArray := by
    have f0 : ∀ m : Nat, List.foldl (fun x1 x2 => x1 ++ x2) #[] (List.replicate m its.toArray) = (List.replicate m its).flatten.toArray := fun m => by
      have := foldl_rep its m []
      rw [List.nil_append] at this
      exact this
    rw [f0]
    cases its with
    | nil => simp
    | cons a r' => rw [if_neg (by simp)]
  refine wpAny_binaryOp_repeat_ref (T := "list") (U := "int") (by decide) ⟨_, e, rfl⟩ (fun s' => typeIs_int s' k t) noFill_list_mul F.fills_int_mul F.slot_int_rmul repeat_list F.slot_int_index.lookup
    (call_meets F.slot_int_rmul (typeIs_int s k t) F.entry_int_rmul (F.args_int_rmul_2 _ _) (int___rmul___int_list k t l its.toArray n)
      ⟨e, rfl, ⟨_, e, rfl⟩, call_meets F.slot_list_mul ⟨_, e, rfl⟩ F.entry_list_mul (F.args_list_mul_2 _ _) (AutoListH.list___mul___list_int_3 l its.toArray n k t hfit hcap hlong) ⟨e, ?_⟩⟩)
  rw [hnew]
  exact ⟨.ref _, _, I.lnew (t' := s.toks) (r.rep k.toNat) (by rw [len_rep, Nat.mul_comm]; exact hz), rfl, q _ I.fresh⟩

end

section
variable {prog : Program} {w : World} {A : Around} {E : Value → Shared → Prop} {s : Shared}
end

section
variable {X : Cx}
end
end L2

namespace L2
open PySem PySem.Spec PyProof.Rows

section
variable {κ : Type} [DecidableEq κ]
def valV (kvs : List (κ × V)) (k : κ) : Option V := (kvs.find? fun kv => decide (kv.1 = k)).map (·.2)
def putK (kvs : List (κ × V)) (k : κ) (v : V) : List (κ × V) :=
  if (kvs.any fun kv => decide (kv.1 = k)) = true then kvs.map (fun kv => if kv.1 = k then (kv.1, v) else kv) else kvs ++ [(k, v)]
def dropK (kvs : List (κ × V)) (k : κ) : List (κ × V) := kvs.filter fun kv => decide (kv.1 ≠ k)

theorem valV_pos {p : κ × V} {r : List (κ × V)} {k : κ} (e : p.1 = k) : valV (p :: r) k = some p.2 := by simp [valV, List.find?_cons, e]
theorem valV_neg {p : κ × V} {r : List (κ × V)} {k : κ} (e : ¬ p.1 = k) : valV (p :: r) k = valV r k := by simp [valV, List.find?_cons, e]
theorem RelO.getD {o : Option V} {u : Option Value} {d : V} {d' : Value} (r : RelO o u) (rd : RelV d d') : RelV (o.getD d) (u.getD d') := by
  cases o with
  | none => cases u with
    | none => exact rd
    | some _ => exact (show False from r).elim
  | some _ => cases u with
    | none => exact (show False from r).elim
    | some _ => exact r

theorem KV.val {kvs : List (κ × V)} {vs : List (κ × Value)} (r : KV kvs vs) (k : κ) : RelO (valV kvs k) (valueAt vs k) := by
  unfold KV at r
  induction r with
  | nil => exact True.intro
  | @cons p q ps qs h t ih =>
    obtain ⟨h1, h2⟩ := h
    by_cases e : p.1 = k
    · have e' : q.1 = k := h1.symm.trans e
      have b : valueAt (q :: qs) k = some q.2 := by simp [valueAt, List.find?_cons, e']
      rw [valV_pos e, b]; exact h2
    · have e' : ¬ q.1 = k := fun z => e (h1.trans z)
      have b : valueAt (q :: qs) k = valueAt qs k := by simp [valueAt, List.find?_cons, e']
      rw [valV_neg e, b]; exact ih
theorem KV.any {kvs : List (κ × V)} {vs : List (κ × Value)} (r : KV kvs vs) (k : κ) : (kvs.any fun kv => decide (kv.1 = k)) = vs.any fun kv => decide (kv.1 = k) := by
  unfold KV at r
  induction r with
  | nil => rfl
  | cons h t ih => rw [List.any_cons, List.any_cons, ih, h.1]
theorem KV.drop {kvs : List (κ × V)} {vs : List (κ × Value)} (r : KV kvs vs) (k : κ) : KV (dropK kvs k) (without vs k) := by
  unfold KV at r ⊢
  unfold dropK without
  induction r with
  | nil => exact .nil
  | @cons p q ps qs h t ih =>
    obtain ⟨h1, h2⟩ := h
    rw [List.filter_cons, List.filter_cons]
    by_cases e : p.1 = k
    · have a : ¬ decide (p.1 ≠ k) = true := by simp [e]
      have b : ¬ decide (q.1 ≠ k) = true := by simp [h1.symm.trans e]
      rw [if_neg a, if_neg b]; exact ih
    · have e' : ¬ q.1 = k := fun z => e (h1.trans z)
      have a : decide (p.1 ≠ k) = true := by simp [e]
      have b : decide (q.1 ≠ k) = true := by simp [e']
      rw [if_pos a, if_pos b]; exact .cons ⟨h1, h2⟩ ih
theorem KV.keys {kvs : List (κ × V)} {vs : List (κ × Value)} (r : KV kvs vs) : kvs.map (·.1) = vs.map (·.1) := by
  unfold KV at r
  induction r with
  | nil => rfl
  | cons h t ih => rw [List.map_cons, List.map_cons, ih, h.1]
theorem KV.length {kvs : List (κ × V)} {vs : List (κ × Value)} (r : KV kvs vs) : kvs.length = vs.length := Paired.length r
end


theorem kV_is {P : Program} {w : World} {k : Key} {u : Value} (r : RelV (kV k) u) : (mixKind P w).is k u = true := by
  cases k with
  | inl i => obtain ⟨t, e⟩ := (show ∃ t, u = Value.int i t from r); subst e; exact mixKind_int P w i t
  | inr x => obtain ⟨t, e⟩ := (show ∃ t, u = Value.str x t from r); subst e; exact mixKind_str P w x t
theorem items_are {P : Program} {w : World} : ∀ {ks : List Key} {us : List Value}, Vals (ks.map kV) us → ItemsAre (mixKind P w) ks us
  | [], _, r => by rw [List.map_nil] at r; cases r; exact .nil
  | k :: ks, _, r => by
    rw [List.map_cons] at r
    cases r with
    | cons h t => exact .cons (kV_is h) (items_are t)

abbrev KT (H : Hp) : List (List Key × V) → List (List Key × Addr × Value) → Prop := Paired fun p q => p.1 = q.1 ∧ H q.2.1 = some (.tup (p.1.map kV)) ∧ RelV p.2 q.2.2
theorem KT.val {H : Hp} {kvs : List (List Key × V)} {xs : List (List Key × Addr × Value)} (r : KT H kvs xs) (k : List Key) : RelO (valV kvs k) ((atKey xs k).map (·.2)) := by
  induction r with
  | nil => exact True.intro
  | @cons p q ps qs h t ih =>
    obtain ⟨h1, _, h2⟩ := h
    by_cases e : p.1 = k
    · have e' : q.1 = k := h1.symm.trans e
      have b : atKey (q :: qs) k = some q.2 := by simp [atKey, List.find?_cons, e']
      rw [valV_pos e, b]; exact h2
    · have e' : ¬ q.1 = k := fun z => e (h1.trans z)
      have b : atKey (q :: qs) k = atKey qs k := by simp [atKey, List.find?_cons, e']
      rw [valV_neg e, b]; exact ih
theorem KT.keeps {H H' : Hp} {kvs : List (List Key × V)} {xs : List (List Key × Addr × Value)} (r : KT H kvs xs) (ht : ∀ b ys, H b = some (.tup ys) → H' b = some (.tup ys)) : KT H' kvs xs :=
  Paired.mapP r fun _ _ z => ⟨z.1, ht _ _ z.2.1, z.2.2⟩

section
variable {P : Program} {w : World} {H : Hp} {h : Heap} {a : Addr}
theorem rd_of {u : HO} (ok : HOk P w H h) (e : Rd H a u) : ObjOk P w H h a u := e.ok ok
theorem dk_rd {kvs : List (Key × V)} (ok : HOk P w H h) (e : Rd H a (.dK kvs)) : kvs.length ≤ sizeLine ∧ (a == sysModules) = false ∧ ∃ vs, KV kvs vs ∧ h.DictOf (mixKind P w) a vs :=
  show ObjOk P w H h a (.dK kvs) from rd_of ok e
theorem dk_of {kvs : List (Key × V)} (ok : HOk P w H h) (e : H a = some (.dK kvs)) : kvs.length ≤ sizeLine ∧ (a == sysModules) = false ∧ ∃ vs, KV kvs vs ∧ h.DictOf (mixKind P w) a vs := dk_rd ok (.inl e)
theorem key_of {ks : List Key} (ok : HOk P w H h) (e : H a = some (.tup (ks.map kV))) : (tupleKind (mixKind P w)).is h ks a := by
  obtain ⟨_, its, r, o, h1, h2, n, h3⟩ := (show ObjOk P w H h a (.tup (ks.map kV)) from ok a _ e)
  exact ⟨o, its.toArray, n, h1, h2, h3, by simpa using items_are r⟩
theorem dt_rd {kvs : List (List Key × V)} (ok : HOk P w H h) (e : Rd H a (.dT kvs)) : kvs.length ≤ sizeLine ∧ (a == sysModules) = false ∧
    ∃ xs, KT H kvs xs ∧ h.DictOfH (tupleKind (mixKind P w)) a xs := by
  obtain ⟨z, y, xs, r, o, es, ep, h1, h2, h3, h4, h5⟩ := (show ObjOk P w H h a (.dT kvs) from rd_of ok e)
  refine ⟨z, y, xs, r, o, es, ep, h1, h2, h3, h4, fun x hx => ?_, h5⟩
  have all : ∀ {l : List (List Key × V)} {m : List (List Key × Addr × Value)}, KT H l m → ∀ x ∈ m, (tupleKind (mixKind P w)).is h x.1 x.2.1 := by
    intro l m q
    induction q with
    | nil => intro x hx; exact nomatch hx
    | @cons p q ps qs hq t ih =>
      intro x hx
      rcases List.mem_cons.mp hx with e | hx
      · subst e
        exact key_of ok (by rw [← hq.1]; exact hq.2.1)
      · exact ih x hx
  exact all r x hx
end

def DGet (H : Hp) (a : Addr) (y : V) (r : Option V) : Prop :=
  (∃ kvs k, Rd H a (.dK kvs) ∧ y = kV k ∧ r = valV kvs k) ∨ ∃ kvs k b, Rd H a (.dT kvs) ∧ y = .ref b ∧ H b = some (.tup (k.map kV)) ∧ r = valV kvs k
def DPut (H : Hp) (a : Addr) (y v : V) (H' : Hp) : Prop :=
  (∃ kvs k, H a = some (.dK kvs) ∧ y = kV k ∧ kvs.length < sizeLine ∧ H' = upd H a (.dK (putK kvs k v))) ∨
  ∃ kvs k b, H a = some (.dT kvs) ∧ y = .ref b ∧ H b = some (.tup (k.map kV)) ∧ kvs.length < sizeLine ∧ H' = upd H a (.dT (putK kvs k v))
theorem DGet.k {H : Hp} {a : Addr} {kvs : List (Key × V)} {k : Key} (e : H a = some (.dK kvs)) : DGet H a (kV k) (valV kvs k) := .inl ⟨kvs, k, .inl e, rfl, rfl⟩
theorem DGet.t {H : Hp} {a b : Addr} {kvs : List (List Key × V)} {k : List Key} (e : H a = some (.dT kvs)) (eb : H b = some (.tup (k.map kV))) : DGet H a (.ref b) (valV kvs k) := .inr ⟨kvs, k, b, .inl e, rfl, eb, rfl⟩
theorem DPut.k {H : Hp} {a : Addr} {kvs : List (Key × V)} {k : Key} {v : V} (e : H a = some (.dK kvs)) (hl : kvs.length < sizeLine) : DPut H a (kV k) v (upd H a (.dK (putK kvs k v))) := .inl ⟨kvs, k, e, rfl, hl, rfl⟩
theorem DPut.t {H : Hp} {a b : Addr} {kvs : List (List Key × V)} {k : List Key} {v : V} (e : H a = some (.dT kvs)) (eb : H b = some (.tup (k.map kV))) (hl : kvs.length < sizeLine) :
    DPut H a (.ref b) v (upd H a (.dT (putK kvs k v))) := .inr ⟨kvs, k, b, e, rfl, eb, hl, rfl⟩


section
variable {X : Cx} {pins : List (Addr × Obj)} {σ : St} {H : Hp} {s : Shared} {a : Addr} {y v : V} {u r : Value} {o : Option V} {A : Around} {E : Value → Shared → Prop}

theorem Inv.big (I : Inv X pins σ H s) : sysModules < s.heap.objs.size := by
  have h : mainGlobals < s.heap.objs.size := (I.mod.glob.keeps I.bk).lt
  exact Nat.lt_trans (by decide) h

theorem d_getItem {Q : Value → Shared → Prop} (hu : A.units + 1 < cLine) (I : Inv X pins σ H s) (g : DGet H a y (some v)) (ry : RelV y u) (h : ∀ w' s', Inv X pins σ H s' → RelV v w' → Q w' s') :
    wpAny (model X.prog X.w) A (getItem (.ref a) u) Q E s := by
  rcases g with ⟨kvs, k, e, ey, l⟩ | ⟨kvs, k, b, e, ey, eb, l⟩
  · subst ey
    obtain ⟨z, hd, vs, rel, dd⟩ := dk_rd I.hok e
    obtain ⟨w', hw, rw'⟩ := RelO.some_of (v := v) (o := valueAt vs k) (by rw [l]; exact rel.val k)
    exact wpAny_getItem_of (kV_is ry) dd.mapOf hw (h w' _ (I.tok _) rw')
  · subst ey
    cases (show u = Value.ref b from ry)
    obtain ⟨z, hd, xs, rel, dd⟩ := dt_rd I.hok e
    obtain ⟨w', hw, rw'⟩ := RelO.some_of (v := v) (o := (atKey xs k).map (·.2)) (by rw [l]; exact rel.val k)
    obtain ⟨p, hp, hp2⟩ := Option.map_eq_some_iff.mp hw
    refine wpAny_getItem_heap (tupleKind_room_in1 hu) (key_of I.hok eb) dd hp ?_
    rw [hp2]
    exact h w' _ (I.tok _) rw'
end

section
variable {X : Cx} {pins : List (Addr × Obj)} {σ : St} {H : Hp} {s : Shared} {a : Addr} {kvs : List (Key × V)} {k : Key} {u : Value} {A : Around} {E : Value → Shared → Prop}
end


section
variable {X : Cx} {o i e value : Expr} {pos pos' tpos : Pos} {td ty tv : TE}
end


section
variable {X : Cx} {pos : Pos}
end

structure M1 (X : Cx) (o : Expr) (m : Str) (apos : Pos) (e : Expr) (cpos : Pos) : Prop where
  base : attributeBase o m X.env (eval o X.env) = eval o X.env
  few : ((backTo cpos (starEach [e] X.env)).all (fun x => !x.1) && (backToKw cpos (keywordEach [] X.env)).all (fun x => x.1.isSome)
    && decide (([e] : List Expr).length + ([] : List Keyword).length + (if ([] : List Keyword).isEmpty then 0 else 1) < 30)) = true
  line : (apos.endLine == cpos.line) = true
  trees : backTo cpos (starEach [e] X.env) = [(false, eval e X.env)]
structure M2 (X : Cx) (o : Expr) (m : Str) (apos : Pos) (e f : Expr) (cpos : Pos) : Prop where
  base : attributeBase o m X.env (eval o X.env) = eval o X.env
  few : ((backTo cpos (starEach [e, f] X.env)).all (fun x => !x.1) && (backToKw cpos (keywordEach [] X.env)).all (fun x => x.1.isSome)
    && decide (([e, f] : List Expr).length + ([] : List Keyword).length + (if ([] : List Keyword).isEmpty then 0 else 1) < 30)) = true
  line : (apos.endLine == cpos.line) = true
  trees : backTo cpos (starEach [e, f] X.env) = [(false, eval e X.env), (false, eval f X.env)]

section
variable {X : Cx} {pins : List (Addr × Obj)} {σ : St} {H : Hp} {s : Shared} {a : Addr} {y d : V} {u r : Value} {o : Option V} {A : Around} {E : Value → Shared → Prop}
end

section
variable {X : Cx} {o e f : Expr} {apos cpos : Pos} {td ty tx : TE}
end

section
variable {X : Cx} {pins : List (Addr × Obj)} {σ : St} {H : Hp} {s : Shared} {a : Addr} {kvs : List (Key × V)} {A : Around} {E : Value → Shared → Prop}
end


section
variable {X : Cx} {pins : List (Addr × Obj)} {σ : St} {H : Hp} {s : Shared} {a : Addr} {y : V} {u : Value} {A : Around} {E : Value → Shared → Prop}
end
end L2

namespace Att
open PySem PySem.W PySem.Calls PyProof.Rows

theorem ints_of_wellAll {P : Params} {h : Heap} : ∀ (ns : List Int) (vs : List Value), WellAll P h vs (ns.map WData.int) → IntsAre vs ns := by
  intro ns
  induction ns with
  | nil =>
    intro vs w
    rw [List.map_nil] at w
    cases w
    exact .nil
  | cons n ns ih =>
    intro vs w
    rw [List.map_cons] at w
    cases w with
    | cons a b =>
      cases a
      exact .cons _ _ (ih _ b)

theorem script_of {l : OpenLaw} {n : Nat} (hn : l.most = some n) {P : Params} {h : Heap} {args : List WData} {vals : List Value}
    (hpre : l.row.toRowW.claim.pre args = true) (hwl : WellAll P h vals args) :
    ∃ a vs ns, vals = [Value.ref a] ∧ args = [WData.list (ns.map WData.int)] ∧ h.get? a = some { cls := .type "list", data := .seq vs.toArray } ∧ IntsAre vs ns ∧ ns.length ≤ n := by
  have hsh : WShape.hasAll [] args [.list .int] = true := (pre_splitW hpre).1
  have hc : l.pre.holds [] { args := args } = true := (pre_splitW hpre).2
  obtain ⟨d, r, rfl, h1, h2⟩ := hasAllW_cons hsh
  obtain rfl := hasAllW_nil h2
  obtain ⟨xs, rfl, h3⟩ := hasW_list h1
  obtain ⟨ns, rfl⟩ := items_int h3
  have hlen : ns.length ≤ n := by
    unfold OpenLaw.pre at hc
    have h4 : (WTm.not (.lt (.lit (.int (n : Int))) (.len (.arg 0)))).holds [] { args := [.list (ns.map .int)] } = true := by
      have h4 := (holds_andW hc).1
      rw [hn] at h4
      exact h4
    have h5 := condW_of h4 (w_not (w_lt w_lit (w_len_list (w_arg rfl))))
    rw [List.length_map] at h5
    refine Nat.le_of_not_lt fun q => ?_
    have q' : (n : Int) < ((ns.length : Nat) : Int) := by omega
    first
      | (rw [decide_eq_true q'] at h5; exact absurd h5 (by decide))
      | (simp at h5; omega)
  cases hwl with
  | cons w1 w2 =>
    cases w2
    cases w1 with
    | list ho hall => exact ⟨_, _, ns, rfl, rfl, ho, ints_of_wellAll ns _ hall, hlen⟩

theorem post_true (l : OpenLaw) (args : List WData) : l.row.toRowW.claim.post args (.bool true) args = true :=
  postW_of (r := l.row.toRowW) (X := (true == true))
    (show WShape.has [] (.bool true) .bool = true by first | rfl | decide | simp [WShape.has, WShape.arms, WShape.armsAll])
    (show (WTm.eq .res (.lit (.bool true))).value [] { args := args, res := some (.bool true), after := args } = some (.bool (true == true)) from w_eq_bool (w_res rfl) w_lit) rfl

theorem attach_call {l : OpenLaw} {n : Nat} {q : Program} {loose : List Str} {XP : (Str → Option Value) → Heap → Prop} {YP : World → Heap → Prop} {d : DefRec}
    (hn : l.most = some n) (hdf : d.params.defaults = [])
    (call : ∀ (w : World) (s₀ s₁ : Shared) (mg mb : Str → Option Value) (fa : Addr) (o : Obj) (pm cd doc : Value) (a : Addr) (vs : List Value) (ns : List Int),
      Ground q loose [] XP w s₀ mg mb s₁.heap → YP w s₁.heap →
      s₁.heap.get? fa = some o → o.data = .func (docDef d.name d.params d.body d.scope pm cd doc) → s₁.heap.CodeRec cd d.name → mg d.name = some (.ref fa) →
      s₁.heap.get? a = some { cls := .type "list", data := .seq vs.toArray } → IntsAre vs ns → ns.length ≤ n → s₁.gens = #[] →
      codeAny (model l.prog w) callerA (.call (.ref fa) ⟨[.ref a], []⟩) (fun r s' => r = .ok (.ret (.bool true)) ∧ OldK s₁.heap s'.heap ∧ s'.os = s₁.os ∧ AllBare s'.gens) s₁) :
    WalkO q loose XP YP l.row.toRowW d [] (fun f vs => PySem.call f vs) := by
  intro w s₀ s₁ mg mb G Y fa o pm cd doc dV kV ho hd hcd hD hmg hg args vals as hpre hlay hrd hwl hlo
  obtain rfl : dV = .none := Dflts.none hD hdf
  obtain rfl : kV = .none := Dflts.noKw hD
  obtain ⟨a, vs, ns, rfl, rfl, hobj, hints, hlen⟩ := script_of hn hpre hwl
  refine enter_call (codeAny_mono (call w s₀ s₁ mg mb fa o pm cd doc a vs ns G Y ho (fd_plain hd) hcd hmg hobj hints hlen hg) fun r s' hq => ?_)
  obtain ⟨rfl, h2, h3, h4⟩ := hq
  exact ⟨.inl ⟨.bool true, .bool true, [], rfl, fun _ => rfl, .bool true, post_true l _, fun _ => ⟨List.Pairwise.nil, fun _ hm => (nomatch hm)⟩⟩, h2, h3, h4⟩

section
variable {prog : Program} {w : World} {A : Around} {E : Value → Shared → Prop} {s : Shared} {K : Frag}

end
end Att

namespace L2
open PySem PySem.Spec PyProof.Rows

theorem vals_ints : ∀ {vs : List Value} {ns : List Int}, IntsAre vs ns → Vals (ns.map V.int) vs
  | _, _, .nil => .nil
  | _, _, .cons n t h => .cons ⟨t, rfl⟩ (vals_ints h)

def Only (H : Hp) : Prop := ∀ b, H b = none ∨ ∃ o xs, H b = some (.frz o (.lst xs))

theorem law_call {P : Program} {w : World} {K : PySem.W.Frag} {mg mb : Str → Option Value} {CX : CXT} {k : Nat} {fa a : Addr} {fd : FuncData} {x : Str} {sp : Sp} {s₁ : Shared} {vs : List Value} {ns : List Int}
    (KX : K.In s₁.heap) (hns : s₁.heap.Ns mainGlobals mg) (hb : s₁.heap.Ns builtinsNs mb) (hbb : ∀ x : Str, x ≠ "__name__" → mb x = bootBuiltins x) (hlim : s₁.heap.NoLimit) (hg : s₁.gens = #[])
    (ha : s₁.heap.get? a = some { cls := .type "list", data := .seq vs.toArray }) (hi : IntsAre vs ns) (hl : ns.length ≤ sizeLine) (hr : Room k callerA)
    (F : ∀ base : Heap, K.In base → base.Ns mainGlobals mg → FnOk P w K mg base CX k fa fd [x] sp) (hbind : ∀ (s : Shared) (u : Value), BindsTo s fd ⟨[u], []⟩ [(x, u)])
    (hsp : ∀ H : Hp, Only H → SqL K H a (ns.map V.int) → sp [.ref a] H (fun v _ => v = .bl true) fun _ _ _ => False)
    (hCX : ∀ H e s', CX [] H s₁ (fun _ _ _ => False) e s' → False) :
    codeAny (model P w) callerA (.call (.ref fa) ⟨[.ref a], []⟩) (fun r s' => r = .ok (.ret (.bool true)) ∧ OldK s₁.heap s'.heap ∧ s'.os = s₁.os ∧ AllBare s'.gens) s₁ := by
  have rv := vals_ints hi
  have lenV := hi.length
  have core : ∀ H : Hp, Only H → SqL K H a (ns.map V.int) → HOk P w H s₁.heap → (∀ b, H b ≠ none → b = a) → (H a ≠ none → K.lookup a = none) →
      codeAny (model P w) callerA (.call (.ref fa) ⟨[.ref a], []⟩) (fun r s' => r = .ok (.ret (.bool true)) ∧ OldK s₁.heap s'.heap ∧ s'.os = s₁.os ∧ AllBare s'.gens) s₁ := by
    intro H hO hS hok hA hK
    have base_of : ∀ {b : Addr} {o : Obj}, s₁.heap.get? b = some o → H b = none → (hidT s₁.heap H).get? b = some o := fun e n => hidT_get e n
    have noA : ∀ {b : Addr} {o : Obj} {es : Array DictEntry} {ep : Nat}, s₁.heap.get? b = some o → o.data = .dict es ep → H b = none := fun {b o es ep} e d => by
      cases q : H b with
      | none => rfl
      | some u =>
        have e' : b = a := hA b (by rw [q]; simp)
        subst e'
        rw [ha] at e; cases e
        have d' : Data.seq vs.toArray _ = Data.dict es ep := d
        cases d'
    have nsK : ∀ {b : Addr} {m : Str → Option Value}, s₁.heap.Ns b m → (hidT s₁.heap H).Ns b m := fun {b m} ⟨o, es, ep, e, d, r⟩ => ⟨o, es, ep, base_of e (noA e d), d, r⟩
    have hKb : K.In (hidT s₁.heap H) := fun b o e => base_of (KX b o e) (by
      cases q : H b with
      | none => rfl
      | some u =>
        have e' : b = a := hA b (by rw [q]; simp)
        subst e'
        rw [hK (by rw [q]; simp)] at e; cases e)
    have hM : Mod K mg (hidT s₁.heap H) := ⟨hKb, nsK hns, ⟨mb, nsK hb, hbb⟩, let ⟨mc, h1, h2⟩ := hlim; ⟨mc, nsK h1, h2⟩⟩
    have e0 : Env0 P w K mg (hidT s₁.heap H) callerA [] s₁ H := ⟨rfl, hM, fun b o e => of_hidT e, Nat.le_of_eq (hidT_size _ _), trivial, fun b hb => absurd (show b ∈ ([] : List Addr) from hb) (by simp), hok, .of_eq hg⟩
    refine codeAny_mono ((F _ hKb (nsK hns)).run callerA [] s₁ H ⟨[.ref a], []⟩ [.ref a] [.ref a] _ _ hr e0 (hbind s₁ (.ref a)) (.cons rfl .nil) (hsp H hO hS)) fun r s' h => ?_
    cases r with
    | error e => exact (hCX H e s' h).elim
    | ok fl =>
      cases fl with
      | next => exact False.elim h
      | brk => exact False.elim h
      | cont => exact False.elim h
      | ret u =>
        obtain ⟨v, H', os, bare, un, hok', r', q⟩ := h
        have q' : v = .bl true := q
        subst q'
        obtain rfl : u = Value.bool true := r'
        refine ⟨rfl, OldK.of_keep fun b o e => ?_, os, bare⟩
        cases q : H b with
        | none => exact un.keep b o e q (by intro z; exact absurd (show b ∈ ([] : List Addr) from z) (by simp)) (by simp)
        | some u =>
          rcases hO b with z | ⟨ob, xs, z⟩
          · rw [q] at z; cases z
          · have z2 := un.frzs b ob _ z
            obtain ⟨e1, _⟩ := hok b _ z
            obtain ⟨e2, _⟩ := hok' b _ z2
            rw [e] at e1; cases e1
            exact e2
  cases hk : K.lookup a with
  | some o =>
    have e := KX a o hk
    rw [ha] at e
    cases e
    refine core (fun _ => none) (fun _ => .inl rfl) (.inr ⟨_, vs.toArray, _, hk, rfl, rfl, rfl, by rw [List.size_toArray, lenV]; exact hl, by simpa using rv⟩) (fun b u z => by have z' : (none : Option HO) = some u := z; cases z') (fun b z => absurd rfl z) fun z => absurd rfl z
  | none =>
    refine core (fun b => if b = a then some (.frz { cls := .type "list", data := .seq vs.toArray } (.lst (ns.map V.int))) else none) (fun b => ?_) (.inl (.inr ⟨{ cls := .type "list", data := .seq vs.toArray }, if_pos rfl⟩)) (fun b u z => ?_) (fun b z => ?_) fun _ => hk
    · by_cases hb : b = a
      · exact .inr ⟨_, _, if_pos hb⟩
      · exact .inl (if_neg hb)
    · by_cases hb : b = a
      · have z' := (if_pos hb).symm.trans z
        cases z'
        subst hb
        exact ⟨ha, by rw [List.length_map]; exact hl, vs, _, rv, ha⟩
      · have z' := (if_neg hb).symm.trans z
        cases z'
    · by_cases hb : b = a
      · exact hb
      · exact absurd (if_neg hb) z
end L2

namespace L2
open PySem PySem.Spec PyProof.Rows

abbrev KOf {K : PySem.W.Frag} {h : Heap} (_ : K.In h) : PySem.W.Frag := K

theorem walk_of {l : PySem.W.OpenLaw} {n k : Nat} {q : Program} {loose : List Str} {XP : (Str → Option Value) → Heap → Prop} {YP : World → Heap → Prop} {d : DefRec} {K : Params → PySem.W.Frag} {CX : World → CXT} {sp : World → Sp} {x : Str}
    (hn : l.most = some n) (hn2 : n ≤ sizeLine) (hdf : d.params.defaults = []) (hr : Room k callerA)
    (hY : ∀ (w : World) (h : Heap), YP w h → (K w.params).In h)
    (F : ∀ (w : World) (mg : Str → Option Value) (fa : Addr) (h : Heap), (K w.params).In h → h.Ns mainGlobals mg → mg d.name = some (.ref fa) →
      ∃ fd : FuncData, (∀ (s : Shared) (u : Value), BindsTo s fd ⟨[u], []⟩ [(x, u)]) ∧
        ∀ base : Heap, (K w.params).In base → base.Ns mainGlobals mg → FnOk l.prog w (K w.params) mg base (CX w) k fa fd [x] (sp w))
    (hsp : ∀ (w : World) (H : Hp) (a : Addr) (ns : List Int), ns.length ≤ n → Only H → SqL (K w.params) H a (ns.map V.int) → sp w [.ref a] H (fun v _ => v = .bl true) fun _ _ _ => False)
    (hCX : ∀ (w : World) (H : Hp) (s : Shared) (e : Value) (s' : Shared), CX w [] H s (fun _ _ _ => False) e s' → False) :
    PySem.W.WalkO q loose XP YP l.row.toRowW d [] (fun f vs => PySem.call f vs) := by
  refine Att.attach_call hn hdf fun w s₀ s₁ mg mb fa o pm cd doc a vs ns G Y ho hd hcd hmg hobj hints hlen hg => ?_
  have KX := hY w _ Y
  obtain ⟨fd, hb, hF⟩ := F w mg fa _ KX G.T.g hmg
  exact law_call KX G.T.g G.T.b G.T.builtins G.T.nolimit hg hobj hints (Nat.le_trans hlen hn2) hr hF hb (fun H hO hS => hsp w H a ns hlen hO hS) fun H e s' => hCX w H s₁ e s'
theorem walk_ofK {l : PySem.W.OpenLaw} {n k : Nat} {q : Program} {loose : List Str} {XP : (Str → Option Value) → Heap → Prop} {YP : World → Heap → Prop} {d : DefRec} {K : Params → PySem.W.Frag} {CX : CXT} {sp : PySem.W.Frag → Sp} {x : Str}
    (hn : l.most = some n) (hn2 : n ≤ sizeLine) (hdf : d.params.defaults = []) (hr : Room k callerA)
    (hY : ∀ (w : World) (h : Heap), YP w h → (K w.params).In h)
    (F : ∀ (w : World) (mg : Str → Option Value) (fa : Addr) (h : Heap), (K w.params).In h → h.Ns mainGlobals mg → mg d.name = some (.ref fa) →
      ∃ fd : FuncData, (∀ (s : Shared) (u : Value), BindsTo s fd ⟨[u], []⟩ [(x, u)]) ∧
        ∀ base : Heap, (K w.params).In base → base.Ns mainGlobals mg → FnOk l.prog w (K w.params) mg base CX k fa fd [x] (sp (K w.params)))
    (hsp : ∀ (K : PySem.W.Frag) (H : Hp) (a : Addr) (ns : List Int), ns.length ≤ n → Only H → SqL K H a (ns.map V.int) → sp K [.ref a] H (fun v _ => v = .bl true) fun _ _ _ => False)
    (hCX : ∀ (H : Hp) (s : Shared) (e : Value) (s' : Shared), CX [] H s (fun _ _ _ => False) e s' → False) :
    PySem.W.WalkO q loose XP YP l.row.toRowW d [] (fun f vs => PySem.call f vs) :=
  walk_of (K := K) (CX := fun _ => CX) (sp := fun w => sp (K w.params)) hn hn2 hdf hr hY F (fun w H a ns h1 h2 h3 => hsp (K w.params) H a ns h1 h2 h3) fun _ H s e s' => hCX H s e s'
end L2


namespace L2
open PySem PySem.Spec PyProof.Rows

def defArgs (s : Stmt) : Arguments := match s with
  | .FunctionDef _ a _ _ _ _ _ _ _ _ => a
  | _ => { posonlyargs := [], args := [], vararg := none, kwonlyargs := [], kw_defaults := [], kwarg := none, defaults := [] }
def defBody (s : Stmt) : List Stmt := match s with
  | .FunctionDef _ _ b _ _ _ _ _ _ _ => b
  | _ => []
def defScope (s : Stmt) : Scope := match s with
  | .FunctionDef _ _ _ _ _ _ sc _ _ _ => sc
  | _ => { kind := .function, names := [], isGenerator := false, isCoroutine := false }

abbrev CX0 : CXT := fun _ _ _ _ _ _ => False
abbrev E0 : XK := fun _ _ _ => False
theorem pass0 {X : Cx} : Passes CX0 X E0 := fun _ _ _ _ _ _ _ h => h.elim

structure Fun (K : PySem.W.Frag) (x qual : Str) (st : Stmt) (f : Addr) (fd : FuncData) : Prop where
  ex : ∃ (oc : Value) (od : Option Addr) (kV doc pm : Value) (an : Option Addr) (cdv ct : Value) (osl : Array (Option Value)),
    fd = PySem.W.fnOf x qual (defArgs st) (defBody st) (defScope st) .none kV doc pm an cdv ct ∧ K.lookup f = some ⟨oc, od, .func fd, osl⟩ ∧ PySem.W.codeIn K cdv qual = true
  kp : PySem.W.keepIn K (.ref f) = true
section
variable {P : Program} {w : World} {K : PySem.W.Frag} {mg : Str → Option Value} {base : Heap}
theorem Fun.ok {x qual : Str} {st : Stmt} {f : Addr} {fd : FuncData} {N ps : List Str} {k : Nat} {sp : Sp} (F : Fun K x qual st f fd) (S : FnScope N ps (defScope st)) (len : ∀ vs H Q E, sp vs H Q E → vs.length = ps.length)
    (hbody : ∀ (cdv : Value) (A : Around) (outer : List Env) (s : Shared) (H : Hp) (vs : List V) (Q : VK) (E : XK), Room k (A.deeper (envOfC qual (defScope st) s.heap.objs.size f cdv)) → sp vs H Q E →
      ∃ t, PSs (cxOf CX0 P w K mg base N qual (defScope st) f cdv A outer s H E).nox (defBody st) t ∧ t { nx := fun _ H' => Q .non H', rt := Q } (start N vs) H) : FnOk P w K mg base CX0 (k + 1) f fd ps sp := by
  obtain ⟨oc, od, kV, doc, pm, an, cdv, ct, osl, rfl, lk, hcd⟩ := F.ex
  refine fn_of lk hcd S len fun A outer s H vs Q E hr hsp => ?_
  obtain ⟨t, h, q⟩ := hbody cdv A outer s H vs Q E hr hsp
  exact ⟨t, h.nox, q⟩
theorem Fun.binds {x qual : Str} {st : Stmt} {f : Addr} {fd : FuncData} {ps : List Str} (F : Fun K x qual st f fd)
    (h : ∀ (kV doc pm : Value) (an : Option Addr) (cdv ct : Value) (us : List Value), us.length = ps.length → bindArgs (PySem.W.fnOf x qual (defArgs st) (defBody st) (defScope st) .none kV doc pm an cdv ct) ⟨us, []⟩ = pure (ps.zip us)) : Binds K fd ps [] := by
  obtain ⟨oc, od, kV, doc, pm, an, cdv, ct, osl, rfl, lk, hcd⟩ := F.ex
  exact .all (h kV doc pm an cdv ct)
theorem fun_mk {x qual : Str} {st : Stmt} {f : Addr} {oc : Value} {od an : Option Addr} {osl : Array (Option Value)} {kV doc pm cdv ct : Value} (l : K.lookup f = some ⟨oc, od, .func (PySem.W.fnOf x qual (defArgs st) (defBody st) (defScope st) .none kV doc pm an cdv ct), osl⟩)
    (c : PySem.W.codeIn K cdv qual = true) (k : PySem.W.keepIn K (.ref f) = true) : Fun K x qual st f (PySem.W.fnOf x qual (defArgs st) (defBody st) (defScope st) .none kV doc pm an cdv ct) := ⟨⟨oc, od, kV, doc, pm, an, cdv, ct, osl, rfl, l, c⟩, k⟩
end
section
variable {X : Cx}
end

theorem ite2 {c A B : Prop} [Decidable c] (h1 : c → A) (h2 : ¬ c → B) : if c then A else B := by
  by_cases h : c
  · rw [if_pos h]
    exact h1 h
  · rw [if_neg h]
    exact h2 h
def Same (H H' : Hp) : Prop := ∀ b o, H b = some o → H' b = some o
theorem Same.refl (H : Hp) : Same H H := fun _ _ h => h
theorem Same.trans {H H1 H2 : Hp} (a : Same H H1) (b : Same H1 H2) : Same H H2 := fun c o h => b c o (a c o h)
theorem Same.free {H H' : Hp} (e : Same H H') {l : Addr} (h : H' l = Option.none) : H l = Option.none := by
  cases q : H l with
  | none => rfl
  | some o =>
    rw [e l o q] at h
    cases h
theorem Same.seq {K : PySem.W.Frag} {H H' : Hp} {a : Addr} {xs : List V} (e : Same H H') (h : SqL K H a xs) : SqL K H' a xs := by
  rcases h with (h | ⟨o, h⟩) | h
  · exact .inl (.inl (e _ _ h))
  · exact .inl (.inr ⟨o, e _ _ h⟩)
  · exact .inr h

section
variable {κ : Type} [DecidableEq κ]
end
end L2

set_option Elab.async false
set_option linter.all false
set_option maxRecDepth 100000
set_option maxHeartbeats 4000000
namespace L2
open PySem PySem.Spec PyProof.Rows

def closOf (env : Env) : List (Str × NameKind) → List (Str × Addr) → List (Str × Addr)
  | [], acc => acc
  | (n, k) :: r, acc => if k == .free then (match env.cells.lookup n with
      | some c => closOf env r ((n, c) :: acc)
      | none => closOf env r acc) else closOf env r acc
theorem closOf_ok {env : Env} : ∀ {names : List (Str × NameKind)} {acc : List (Str × Addr)}, (∀ n c, acc.lookup n = some c → env.cells.lookup n = some c) →
    ∀ n c, (closOf env names acc).lookup n = some c → env.cells.lookup n = some c
  | [], acc, h, n, c, e => h n c e
  | (x, k) :: r, acc, h, n, c, e => by
    unfold closOf at e
    split at e
    · split at e
      · rename_i cx hx
        refine closOf_ok (fun y d q => ?_) n c e
        rw [List.lookup_cons] at q
        cases hb : y == x with
        | true => rw [hb] at q; cases q; rw [beq_iff_eq.mp hb]; exact hx
        | false => rw [hb] at q; exact h y d q
      · exact closOf_ok h n c e
    · exact closOf_ok h n c e
theorem closOf_acc {env : Env} : ∀ {names : List (Str × NameKind)} {acc : List (Str × Addr)} {n : Str}, (acc.lookup n).isSome = true → ((closOf env names acc).lookup n).isSome = true
  | [], _, _, h => h
  | (x, k) :: r, acc, n, h => by
    unfold closOf
    split
    · split
      · refine closOf_acc ?_
        rw [List.lookup_cons]
        cases n == x with
        | true => rfl
        | false => exact h
      · exact closOf_acc h
    · exact closOf_acc h
theorem closOf_has {env : Env} : ∀ {names : List (Str × NameKind)} {acc : List (Str × Addr)} {n : Str} {c : Addr}, (n, NameKind.free) ∈ names → env.cells.lookup n = some c → ((closOf env names acc).lookup n).isSome = true
  | [], _, _, _, h, _ => nomatch h
  | (x, k) :: r, acc, n, c, h, e => by
    rcases List.mem_cons.mp h with q | q
    · cases q
      unfold closOf
      rw [if_pos (by rfl), e]
      refine closOf_acc ?_
      rw [List.lookup_cons, beq_self_eq_true]
      rfl
    · unfold closOf
      split
      · split
        · exact closOf_has q e
        · exact closOf_has q e
      · exact closOf_has q e
theorem closureFor_of {scope : Scope} {env : Env} (h : ∀ y ∈ scope.names, y.2 = .free → ∃ c, env.cells.lookup y.1 = some c) : closureFor scope env = pure (closOf env scope.names []) := by
  simp only [closureFor]
  have go : ∀ (names : List (Str × NameKind)) (acc : List (Str × Addr)), (∀ y ∈ names, y.2 = .free → ∃ c, env.cells.lookup y.1 = some c) →
      (forIn names acc (fun x cs => if (x.2 == NameKind.free) = true then (do let a ← cellOf env x.1; pure (ForInStep.yield ((x.1, a) :: cs))) else pure (ForInStep.yield cs)) : Sem (List (Str × Addr))) = pure (closOf env names acc) := by
    intro names
    induction names with
    | nil => intro acc _; rfl
    | cons p r ih =>
      intro acc hh
      obtain ⟨n, k⟩ := p
      rw [List.forIn_cons]
      unfold closOf
      by_cases hk : (k == NameKind.free) = true
      · obtain ⟨c, hc⟩ := hh (n, k) List.mem_cons_self (by simpa using hk)
        have hc' : env.cells.lookup n = some c := hc
        rw [if_pos hk, if_pos hk, hc']
        have e : cellOf env n = pure c := by unfold cellOf; rw [hc']
        simp only [e, pure_bind]
        exact ih _ fun y hy => hh y (List.mem_cons_of_mem _ hy)
      · rw [if_neg hk, if_neg hk]
        simp only [pure_bind]
        exact ih _ fun y hy => hh y (List.mem_cons_of_mem _ hy)
  have := go scope.names [] h
  simpa using this

theorem lookup_relabel {env : Env} : ∀ {names : List (Str × NameKind)} {x : Str},
    (names.map fun (n, k) => if (k == NameKind.free && env.scope.kind == .function && env.kindOf n == some .cell) then (n, NameKind.cell) else (n, k)).lookup x =
      (names.lookup x).map fun k => if (k == NameKind.free && env.scope.kind == .function && env.kindOf x == some .cell) then NameKind.cell else k
  | [], _ => rfl
  | (n, k) :: r, x => by
    have ih := @lookup_relabel env r x
    rw [List.map_cons]
    show List.lookup x ((if (k == NameKind.free && env.scope.kind == .function && env.kindOf n == some .cell) = true then (n, NameKind.cell) else (n, k)) :: _) = _
    cases hx : x == n with
    | true =>
      have e : x = n := beq_iff_eq.mp hx
      subst e
      by_cases hc : (k == NameKind.free && env.scope.kind == .function && env.kindOf x == some .cell) = true
      · rw [if_pos hc, List.lookup_cons, List.lookup_cons, hx]
        simp only [Option.map_some, hc, if_true]
      · rw [if_neg hc, List.lookup_cons, List.lookup_cons, hx]
        simp only [Option.map_some]
        rw [if_neg hc]
    | false =>
      by_cases hc : (k == NameKind.free && env.scope.kind == .function && env.kindOf n == some .cell) = true
      · rw [if_pos hc, List.lookup_cons, List.lookup_cons, hx]; exact ih
      · rw [if_neg hc, List.lookup_cons, List.lookup_cons, hx]; exact ih

theorem comp_loop {prog : Program} {w : World} {A : Around} {R : Result → Shared → Prop} {s : Shared} {elt target iter : Expr} {ifs : List Expr} {scope : Scope} {pos : Pos} {it acc : Value} {env : Env} (I : Nat → Shared → Prop)
    (turn : ∀ n s, I n s → wpAny (model prog w) A (pyNext it) (fun r s₁ => match r with
      | none => R (.ok .next) s₁
      | some v => wpAny (model prog w) A (letOwnedTupleGo target it v) (fun _ s₁' => wpAny (model prog w) A (assign target env v) (fun _ s₂ =>
          wpAny (model prog w) A (forIn ifs true fun c r => if r = true then do let ok ← isTrue c env (eval c env); pure (ForInStep.yield ok) else pure (ForInStep.yield r)) (fun ok s₃ =>
            if ok = true then wpAny (model prog w) A (eval elt env) (fun x s₄ =>
              wpAny (model prog w) A (call (.builtin "list.append") [acc, x]) (fun _ s₅ => ∃ m, m < n ∧ I m s₅) (notedBy (model prog w) A env fun e s' => R (.error e) s') s₄) (notedBy (model prog w) A env fun e s' => R (.error e) s') s₃
            else ∃ m, m < n ∧ I m s₃) (notedBy (model prog w) A env fun e s' => R (.error e) s') s₂) (notedBy (model prog w) A env fun e s' => R (.error e) s') s₁') (notedBy (model prog w) A env fun e s' => R (.error e) s') s₁) (notedBy (model prog w) A env fun e s' => R (.error e) s') s)
    (n : Nat) (h : I n s) :
    codeAny (model prog w) A (.compLoop (.ListComp elt [⟨target, iter, ifs, 0⟩] scope pos) 0 it acc env) R s := by
  refine codeAny_loop rfl I (fun n s hI => ?_) n h
  show wpAny _ A ((compTurn (.ListComp elt [⟨target, iter, ifs, 0⟩] scope pos) 0 it acc env).onRaise (fun x => do noteFrame x env; theTreesLotGoes x)) _ _ s
  refine wpAny_noted ?_
  rw [compTurn_list]
  refine wpAny_bind (wpAny_standAt (wpAny_bind (wpAny_mono (turn n s hI) (fun r s₁ h₁ => ?_) fun _ _ h' => h')))
  cases r with
  | none => exact wpAny_pure h₁
  | some v =>
    refine wpAny_bind (wpAny_mono h₁ (fun _ s₁' h₁' => ?_) fun _ _ h' => h')
    refine wpAny_bind (wpAny_mono h₁' (fun _ s₂ h₂ => wpAny_bind (wpAny_mono h₂ (fun ok s₃ h₃ => ?_) fun _ _ h' => h')) fun _ _ h' => h')
    cases ok with
    | false => exact wpAny_pure ⟨rfl, h₃⟩
    | true =>
      exact wpAny_bind (wpAny_bind (wpAny_mono h₃ (fun x s₄ h₄ => wpAny_bind (wpAny_mono h₄ (fun _ s₅ h₅ => wpAny_pure (wpAny_pure ⟨rfl, h₅⟩)) fun _ _ h' => h')) fun _ _ h' => h'))

def capt (cap : List (Option Nat)) (σ : St) : St := cap.map fun o => o.bind fun i => (σ[i]?).join

def cxComp (X : Cx) (N : List Str) (scope : Scope) (C : Addr) (s : Shared) (H : Hp) (ex : List Addr) : Cx where
  prog := X.prog
  w := X.w
  K := X.K
  mg := X.mg
  base := X.base
  A := X.A
  N := N
  s₀ := s
  H₀ := H
  env := compEnvC scope (closOf X.env scope.names []) C X.env
  outer := X.stack
  stack := X.stack
  ex := ex
  fn := fun _ => false
  calm := X.calm
  pn := []
  xe := fun _ _ => False

structure CompScope (X : Cx) (N : List Str) (cap : List (Option Nat)) (scope : Scope) : Prop where
  kind : scope.kind = .function
  nocell : ∀ y ∈ scope.names, y.2 ≠ .cell
  loc : ∀ y ∈ scope.names, y.2 = .local → scope.names.lookup y.1 = some .local
  fre : ∀ y ∈ scope.names, y.2 = .free → X.env.scope.names.lookup y.1 = some .cell ∨ X.env.scope.names.lookup y.1 = some .free
  nd : N.Nodup
  len : cap.length = N.length
  cap : ∀ (j i : Nat), cap[j]? = some (some i) → ∃ y, N[j]? = some y ∧ X.N[i]? = some y ∧ scope.names.lookup y = some .free
def compChk (outer : List (Str × NameKind)) (N0 N : List Str) (cap : List (Option Nat)) (names : List (Str × NameKind)) : Bool :=
  names.all (fun y => y.2 != .cell && (y.2 != .local || names.lookup y.1 == some .local) && (y.2 != .free || outer.lookup y.1 == some .cell || outer.lookup y.1 == some .free)) &&
  decide N.Nodup && cap.length == N.length &&
  (List.range cap.length).all fun j => match cap[j]? with
    | some (some i) => (match N[j]? with
      | some y => N0[i]? == some y && names.lookup y == some .free
      | none => false)
    | _ => true
theorem CompScope.of {X : Cx} {N : List Str} {cap : List (Option Nat)} {scope : Scope} (hk : scope.kind = .function) (h : compChk X.env.scope.names X.N N cap scope.names = true) : CompScope X N cap scope := by
  unfold compChk at h
  simp only [Bool.and_eq_true, List.all_eq_true, decide_eq_true_eq, beq_iff_eq] at h
  obtain ⟨⟨⟨h1, h2⟩, h3⟩, h4⟩ := h
  refine ⟨hk, fun y hy e => ?_, fun y hy e => ?_, fun y hy e => ?_, h2, h3, fun j i e => ?_⟩
  · have := (h1 y hy).1.1
    rw [e] at this
    exact absurd this (by decide)
  · have := (h1 y hy).1.2
    rw [e] at this
    simpa using this
  · have := (h1 y hy).2
    rw [e] at this
    simpa using this
  · have hj : j < cap.length := (List.getElem?_eq_some_iff.mp e).1
    have := h4 j (List.mem_range.mpr hj)
    rw [e] at this
    dsimp only at this
    cases q : N[j]? with
    | none => rw [q] at this; exact absurd this Bool.false_ne_true
    | some y =>
      rw [q] at this
      simp only [Bool.and_eq_true, beq_iff_eq] at this
      exact ⟨y, rfl, this.1, this.2⟩

theorem getElem?_capt {cap : List (Option Nat)} {σ : St} {j : Nat} {v : V} (h : (capt cap σ)[j]? = some (some v)) : ∃ i, cap[j]? = some (some i) ∧ σ[i]? = some (some v) := by
  unfold capt at h
  rw [List.getElem?_map] at h
  cases e : cap[j]? with
  | none => rw [e] at h; cases h
  | some o =>
    rw [e] at h
    cases o with
    | none => simp at h
    | some i =>
      refine ⟨i, rfl, ?_⟩
      simp only [Option.map_some, Option.bind_some, Option.some.injEq] at h
      cases q : σ[i]? with
      | none => rw [q] at h; simp at h
      | some z => rw [q] at h; simp at h; rw [h]

theorem inv_comp {X : Cx} {pins : List (Addr × Obj)} {σ : St} {H : Hp} {s : Shared} {N : List Str} {cap : List (Option Nat)} {scope : Scope} {ex : List Addr} {h₁ : Heap} {tk : Nat} {C : Addr} (S : CompScope X N cap scope) (I : Inv X pins σ H s) (hC : s.heap.objs.size ≤ C)
    (hns : h₁.Ns C (fun _ => none)) (hk : ∀ b o, s.heap.get? b = some o → h₁.get? b = some o) (hex : ∀ b ∈ ex, b < s.heap.objs.size ∧ FpOk X pins H b) :
    Inv (cxComp X N scope C s H ex) [] (capt cap σ) H { s with heap := h₁, toks := tk } := by
  have hcl : ∀ n c, (closOf X.env scope.names []).lookup n = some c → X.env.cells.lookup n = some c := closOf_ok (fun n c e => by simp at e)
  have cne : ∀ x c, (closOf X.env scope.names []).lookup x = some c → c < s.heap.objs.size := fun x c e => by
    obtain ⟨v, q⟩ := I.cell x c (hcl x c e)
    exact q.lt
  have nob : ∀ b o, X.base.get? b = some o → b ∉ ex := fun b o e hb => by
    obtain ⟨hlt, f0, f1, f2, f3, f4, f5⟩ := hex b hb
    rcases f3 with z | z
    · exact I.ok.noex b o e z
    · exact absurd (Nat.lt_of_lt_of_le (Heap.lt_size e) (Nat.le_trans I.ok.bsz z)) (Nat.lt_irrefl _)
  refine ⟨⟨I.ok.mod, ?_, I.ok.glob, I.ok.blt, hC, fun x y c h1 h2 => I.ok.inj x y c (hcl x c h1) (hcl y c h2), fun x hx => ?_, fun x c hf _ => ?_, I.ok.hd, I.ok.frames, .inl rfl, fun b hb => ?_, fun b o e => I.bs b o e, Nat.le_trans I.ok.bsz I.sz, nob, fun b hb => ?_, I.stack, I.stkFree⟩,
    rfl, I.bare, Un.kept hk, ⟨_, hns, fun j y v h1 h2 h3 => ?_⟩, fun x c e => ?_, I.hok.fresh hC, fun x c e => ?_, fun p hp => absurd (show p ∈ ([] : List (Addr × Obj)) from hp) (by simp), I.hok.kept hk, ?_⟩
  · exact S.kind
  · have hx : (relabel scope X.env).names.lookup x = some .cell ∨ (relabel scope X.env).names.lookup x = some .free := hx
    unfold relabel at hx
    simp only [lookup_relabel] at hx
    cases q : scope.names.lookup x with
    | none => rw [q] at hx; simp at hx
    | some k =>
      have hm := PySem.mem_of_lookup q
      have hkf : k = .free := by
        rw [q] at hx
        simp only [Option.map_some, Option.some.injEq] at hx
        by_cases z : (k == NameKind.free && X.env.scope.kind == .function && X.env.kindOf x == some .cell) = true
        · have : (k == NameKind.free) = true := by
            rw [Bool.and_eq_true, Bool.and_eq_true] at z
            exact z.1.1
          exact beq_iff_eq.mp this
        · rw [if_neg z] at hx
          rcases hx with hx | hx
          · exact absurd hx (S.nocell _ hm)
          · exact hx
      subst hkf
      obtain ⟨c, hc⟩ := I.ok.has x (S.fre _ hm rfl)
      exact Option.isSome_iff_exists.mp (closOf_has hm hc)
  · exact absurd (show false = true from hf) Bool.false_ne_true
  · obtain ⟨hlt, _⟩ := hex b hb
    refine ⟨Nat.ne_of_lt (Nat.lt_of_lt_of_le hlt hC), fun x c e z => ?_⟩
    exact (hex b hb).2.2.2.2.2.1 x c (hcl x c e) z
  · intro hb2
    rcases List.mem_cons.mp (I.stkSub b hb2) with e | e
    · exact (hex b hb).2.2.1 e
    · exact (hex b hb).2.2.2.1 e
  · obtain ⟨i, e1, e2⟩ := getElem?_capt h2
    obtain ⟨y', e3, e4, e5⟩ := S.cap j i e1
    rw [show N[j]? = some y from h1] at e3
    cases e3
    obtain ⟨m, _, hl⟩ := I.loc
    have hm := PySem.mem_of_lookup e5
    have hv : Vis X.env.scope y := by
      rcases S.fre _ hm rfl with z | z
      · exact .inr (.inl z)
      · exact .inr (.inr z)
    obtain ⟨u, r, l⟩ := hl i y v e4 e2 hv
    refine ⟨u, r, .inr ⟨?_, ?_⟩⟩
    · show (relabel scope X.env).names.lookup y = some .cell ∨ (relabel scope X.env).names.lookup y = some .free
      unfold relabel
      simp only [lookup_relabel, e5, Option.map_some, Option.some.injEq]
      split
      · exact .inl rfl
      · exact .inr rfl
    · rcases l with ⟨hk2, _⟩ | ⟨_, c, hc, hcell⟩
      · rcases S.fre _ hm rfl with z | z
        · rw [show X.env.kindOf y = some .cell from z] at hk2; cases hk2
        · rw [show X.env.kindOf y = some .free from z] at hk2; cases hk2
      · refine ⟨c, ?_, hcell.keeps hk⟩
        obtain ⟨c', hc'⟩ := Option.isSome_iff_exists.mp (closOf_has (acc := []) hm hc)
        have := hcl y c' hc'
        rw [hc] at this
        cases this
        exact hc'
  · obtain ⟨v, q⟩ := I.cell x c (hcl x c e)
    exact ⟨v, q.keeps hk⟩
  · exact I.freeC x c (hcl x c e)
  · show (capt cap σ).length = N.length
    unfold capt
    rw [List.length_map]
    exact S.len

def Gath (J : It) (cap : List (Option Nat)) (g : TG) (tc : TT) (te : TE) (Q : Addr → Hp → Prop) (σ : St) (H : Hp) : Prop :=
  ∃ W : Nat → Nat → List V → St → Hp → Prop, (∃ m, W 0 m [] (capt cap σ) H) ∧ ∀ i m ys σ' H', W i m ys σ' H' →
    (J.stop i H' ∧ ys.length ≤ sizeLine ∧ ∀ D, H' D = none → Q D (upd H' D (.lst ys))) ∨ (J.go i H' ∧ ys.length < sizeLine ∧ ∃ N : List V → St → Hp → Prop, (∀ ys2 σ2 H2, N ys2 σ2 H2 → ∃ m', m' < m ∧ W (i + 1) m' ys2 σ2 H2) ∧
      ∀ x H2, J.yld i H' x H2 → g x σ' H2 fun σ3 H3 => tc σ3 H3 fun b H4 => if b = true then te σ3 H4 fun y H5 => N (ys ++ [y]) σ3 H5 else N ys σ3 H4)
def tComp (cap : List (Option Nat)) (wi : TI) (g : TG) (tc : TT) (te : TE) (Q : Addr → Hp → Prop) : St → Hp → Prop := fun σ H => wi σ H fun J H1 => Gath J cap g tc te Q σ H1

def tTrue : TT := fun _ H Q => Q true H
def PTs (X : Cx) (ifs : List Expr) (t : TT) : Prop :=
  ∀ (pins : List (Addr × Obj)) (s : Shared) (σ : St) (H : Hp) (Q : Bool → Hp → Prop), Inv X pins σ H s → t σ H Q →
    wpAny (model X.prog X.w) X.A (forIn ifs true fun c r => if r = true then do let ok ← isTrue c X.env (eval c X.env); pure (ForInStep.yield ok) else pure (ForInStep.yield r)) (TP X pins σ Q) X.xe s
theorem pts_nil {X : Cx} : PTs X [] tTrue := fun pins s σ H Q I h => wpAny_tests_nil ⟨H, I, h⟩
theorem pts_one {X : Cx} {c : Expr} {t : TT} (h : PT X c t) : PTs X [c] t := fun pins s σ H Q I hw => wpAny_tests_one (h pins s σ H Q I hw)

theorem HOk.add {P : Program} {w : World} {H : Hp} {h : Heap} {a : Addr} {o : HO} (x : HOk P w H h) (hn : H a = none) (new : ObjOk P w (upd H a o) h a o) : HOk P w (upd H a o) h := fun b u e => by
  by_cases hb : b = a
  · subst hb; rw [upd_same] at e; cases e; exact new
  · rw [upd_ne hb] at e
    exact (x b u e).stay (fun c v _ q => q) (fun c q => by rw [upd_ne (ne_of_none q hn)]; exact q) fun c xs q => by rw [upd_ne (ne_of_none q hn)]; exact q
theorem Un.add {fs ex : List Addr} {H H1 : Hp} {h h1 : Heap} {a : Addr} {o : HO} (u : Un fs ex H H1 h h1) (ha : h.objs.size ≤ a) (hn : H1 a = none) : Un fs ex H (upd H1 a o) h h1 where
  keep := u.keep
  slot := u.slot
  free := fun b ob q n hx => by rw [upd_ne (Nat.ne_of_lt (Nat.lt_of_lt_of_le (Heap.lt_size q) ha))]; exact u.free b ob q n hx
  there := u.there
  tups := fun b xs q => by
    have q' := u.tups b xs q
    rw [upd_ne (ne_of_none q' hn)]; exact q'
  frzs := fun b ob xs q => by
    have q' := u.frzs b ob xs q
    rw [upd_ne (ne_of_none q' hn)]; exact q'
  tbls := fun b ps q => by
    obtain ⟨m, q'⟩ := u.tbls b ps q
    exact ⟨m, by rw [upd_ne (ne_of_none q' hn)]; exact q'⟩

abbrev lobj (its : List Value) (k : Nat) : Obj := { cls := .type "list", data := .seq its.toArray k }

theorem comp_block {X : Cx} {pins : List (Addr × Obj)} {σ : St} {H : Hp} {s : Shared} {N : List Str} {cap : List (Option Nat)} {scope : Scope} {elt target iter : Expr} {ifs : List Expr} {pos : Pos} {g : TG} {tc : TT} {te : TE} {J : It} {fp : List Addr} {it : Addr} {tn : Nat → Heap → Prop}
    {Q : Addr → Hp → Prop} {RR : Value → Addr → Result → Shared → Prop} {E : Value → Shared → Prop} (hc : X.calm = true) (S : CompScope X N cap scope) (I : Inv X pins σ H s) (T : Turn X.prog X.w X.K target J fp it tn) (st : tn 0 s.heap) (fo : ∀ b ∈ fp, FpOk X pins H b)
    (hg : ∀ C s₀ H₀, PG (cxComp X N scope C s₀ H₀ fp) target g) (ht : ∀ C s₀ H₀, PTs (cxComp X N scope C s₀ H₀ fp) ifs tc) (he : ∀ C s₀ H₀, PE (cxComp X N scope C s₀ H₀ fp) elt te)
    (h : Gath J cap g tc te Q σ H)
    (hRR : ∀ D C s' H', Inv X pins σ H' s' → Q D H' → (∃ m, s'.heap.Ns C m) → H' C = none → X.s₀.heap.objs.size ≤ C → C ≠ X.env.locals → (∀ x c, X.env.cells.lookup x = some c → c ≠ C) → (∀ p ∈ X.pn ++ pins, p.1 ≠ C) → RR (.ref D) C (.ok .next) s') :
    wpAny (model X.prog X.w) X.A (newList []) (fun acc s₃ => wpAny (model X.prog X.w) X.A (newFunctionEnv scope X.env.globals (closOf X.env scope.names []) [] X.env.qual none .none (some X.env)) (fun cenv s₄ =>
      codeAny (model X.prog X.w) X.A (.compStart (.ListComp elt [⟨target, iter, ifs, 0⟩] scope pos) 0 (.ref it) acc { cenv with scope := relabel scope X.env }) (RR acc cenv.locals) s₄) E s₃) E s := by
  have hfr : ∀ a, s.heap.objs.size ≤ a → H a = none := fun a ha => I.hok.fresh ha
  obtain ⟨W, ⟨m0, w0⟩, turn⟩ := h
  have fol : ∀ b ∈ fp, b < s.heap.objs.size := fun b hb => by
    obtain ⟨o, ho, _⟩ := T.obj 0 _ st b hb
    exact Heap.lt_size ho
  have clt : ∀ x c, X.env.cells.lookup x = some c → c < s.heap.objs.size := fun x c e => by
    obtain ⟨v, q⟩ := I.cell x c e
    exact q.lt
  refine wpAny_newObj_type (wpAny_newFunctionEnv S.nocell (by intro y hy; simp at hy) (fun h₁ hns₁ hsb₁ => ?_) S.kind)
  dsimp only at hns₁ hsb₁ ⊢
  generalize hD : s.heap.objs.size = D at *
  generalize hH3 : s.heap.push { cls := .type "list", data := .seq ([] : List Value).toArray } = H3 at *
  have hC : H3.objs.size = D + 1 := by rw [← hH3, Heap.size_push, hD]
  have keep3 : ∀ b o, s.heap.get? b = some o → H3.get? b = some o := fun b o e => by rw [← hH3]; exact Heap.get?_push_of_some _ e
  have keep4 : ∀ b o, H3.get? b = some o → h₁.get? b = some o := fun b o e => hsb₁.extBut b o (Nat.ne_of_lt (Heap.lt_size e)) (Heap.get?_push_of_some _ e)
  have D4 : h₁.get? D = some (lobj [] 0) := keep4 _ _ (by rw [← hH3, ← hD]; exact Heap.get?_push_size _ rfl)
  generalize hCC : H3.objs.size = C at *
  have hDC : D < C := by omega
  have hDC' : D ≤ C := Nat.le_of_lt hDC
  have hL : X.env.locals < D := by rw [← hD]; exact I.lt
  have I4 : Inv (cxComp X N scope C s H fp) [] (capt cap σ) H { s with heap := h₁, toks := s.toks + ([] : List (Str × Value)).length } :=
    inv_comp S I (by omega) hns₁ (fun b o e => keep4 b o (keep3 b o e)) fun b hb => ⟨by rw [hD]; exact fol b hb, fo b hb⟩
  have fp4 : ∀ {H' : Hp} {ob : Obj}, (∀ b ∈ fp, H' b = none) → ∀ b ∈ fp, FpOk (cxComp X N scope C s H fp) [(D, ob)] H' b := fun {H' ob} hn b hb => by
    obtain ⟨f0, f1, f2, f3, f4, f5⟩ := fo b hb
    have hlt := fol b hb
    refine ⟨hn b hb, ?_, fun z => ?_, .inl hb, fun x c e => f4 x c (closOf_ok (fun n c e => by simp at e) x c e), fun p hp => ?_⟩
    · exact Nat.ne_of_lt (Nat.lt_of_lt_of_le hlt hDC')
    · rcases List.mem_cons.mp (I.stkSub b z) with e | e
      · exact f1 e
      · exact f2 e
    · have hp' : p ∈ [(D, ob)] := hp
      rw [List.mem_singleton.mp hp']
      exact Nat.ne_of_gt hlt
  have st4 : tn 0 h₁ := T.keep _ _ _ st fun b hb o e => keep4 b o (keep3 b o e)
  have nfs : D ∉ (cxComp X N scope C s H fp).fs := fun z => by
    rcases List.mem_cons.mp (I.stkSub D z) with e | e
    · exact Nat.ne_of_gt hL e
    · exact I.nofs (Nat.le_of_eq hD) e
  have pinD : ∀ {σ' : St} {H' : Hp} {s' : Shared} {ob : Obj}, Inv (cxComp X N scope C s H fp) [] σ' H' s' → H' D = none → s'.heap.get? D = some ob → (∀ v, ob.data ≠ .cell v) → Inv (cxComp X N scope C s H fp) [(D, ob)] σ' H' s' := fun {σ' H' s' ob} J hn e nc =>
    J.pins_of fun p hp => by
      rw [List.mem_singleton.mp hp]
      exact ⟨e, hn, Nat.ne_of_lt hDC, nfs, nc⟩
  have loop : ∀ s₄ : Shared, s₄ = { s with heap := h₁, toks := s.toks + ([] : List (Str × Value)).length } →
      codeAny (model X.prog X.w) X.A (.compLoop (.ListComp elt [⟨target, iter, ifs, 0⟩] scope pos) 0 (.ref it) (.ref D) (compEnvC scope (closOf X.env scope.names []) C X.env)) (RR (.ref D) C) s₄ := by
    rintro s₄ rfl
    refine comp_loop (fun n s' => ∃ i ys its k σ' H', Inv (cxComp X N scope C s H fp) [(D, lobj its k)] σ' H' s' ∧ Vals ys its ∧ tn i s'.heap ∧ (∀ b ∈ fp, H' b = none) ∧ W i n ys σ' H') ?_ m0
      ⟨0, [], [], 0, _, _, pinD I4 (hfr D (Nat.le_refl _)) D4 (fun v z => by cases z), .nil, st4, fun b hb => (fo b hb).1, w0⟩
    rintro n s5 ⟨i, ys, its, k, σ5, H5, I5, rv5, st5, fr5, w5⟩
    have hpin := I5.pin (D, lobj its k) (List.mem_append_right _ List.mem_cons_self)
    rcases turn i n ys σ5 H5 w5 with ⟨stop, hz, q⟩ | ⟨go, hz, NN, hNN, step⟩
    · refine thn (T.done (cxComp X N scope C s H fp) rfl rfl rfl hc i _ s5 σ5 H5 _ I5 (fp4 fr5) st5 stop) fun r s6 ⟨hr, I6⟩ => ?_
      subst hr
      have p6 := I6.pin (D, lobj its k) (List.mem_append_right _ List.mem_cons_self)
      have I7 : Inv X pins σ (upd H5 D (.lst ys)) s6 := I.call' (ch := fp) I6.os (I6.base.add (Nat.le_of_eq hD) p6.2.1) (I6.hok.add p6.2.1 ⟨hz, its, k, rv5, p6.1⟩) I6.bare fun b hb => by
        obtain ⟨f0, f1, f2, f3, f4, f5⟩ := fo b hb
        exact ⟨f3, f1, f4, f5⟩
      obtain ⟨m6, hn6, _⟩ := I6.loc
      refine hRR _ C s6 _ I7 (q D p6.2.1) ⟨m6, hn6⟩ ?_ ?_ ?_ ?_ ?_
      · rw [upd_ne (Nat.ne_of_gt hDC)]; exact I6.free
      · exact Nat.le_trans (by rw [← hD]; exact I.sz) hDC'
      · exact Nat.ne_of_gt (Nat.lt_of_lt_of_le hL hDC')
      · intro x c e z
        exact Nat.ne_of_lt (Nat.lt_of_lt_of_le (clt x c e) hDC') z
      · intro p hp z
        have h6 := Heap.lt_size (I.pin p hp).1
        rw [hD] at h6
        exact Nat.ne_of_lt (Nat.lt_of_lt_of_le h6 hDC') z
    · refine thn (T.item (cxComp X N scope C s H fp) rfl rfl rfl hc i _ s5 σ5 H5 _ I5 (fp4 fr5) st5 go) fun r s6 ⟨u, hr, h6⟩ => ?_
      subst hr
      refine thn h6 fun _ s7 ⟨x, H7, I7, r7, y7, st7, fr7⟩ => ?_
      have I7' := I7.pinned (fp4 fr7) (T.obj _ _ st7)
      have kept : ∀ {σ8 : St} {H8 : Hp} {s8 : Shared}, Inv (cxComp X N scope C s H fp) ([(D, lobj its k)] ++ pinsAt fp s7.heap) σ8 H8 s8 → tn (i + 1) s8.heap ∧ ∀ b ∈ fp, H8 b = none := fun {σ8 H8 s8} I8 =>
        ⟨T.keep _ _ _ st7 fun b hb o e => (I8.pin (b, o) (List.mem_append_right _ (List.mem_append_right _ (mem_pinsAt hb e)))).1, fun b hb => by
          obtain ⟨o, e, d⟩ := T.obj _ _ st7 b hb
          exact (I8.pin (b, o) (List.mem_append_right _ (List.mem_append_right _ (mem_pinsAt hb e)))).2.1⟩
      refine wpAny_mono (hg C s H _ s7 σ5 H7 x u _ I7' r7 (step x H7 y7)) (fun _ s8 ⟨σ8, H8, I8, q8⟩ => ?_) fun _ _ f => f.elim
      refine wpAny_mono (ht C s H _ s8 σ8 H8 _ I8 q8) (fun ok s9 ⟨H9, I9, q9⟩ => ?_) fun _ _ f => f.elim
      cases ok with
      | false =>
        rw [if_neg Bool.false_ne_true] at q9 ⊢
        obtain ⟨m', hm, w9⟩ := hNN _ _ _ q9
        exact ⟨m', hm, i + 1, ys, its, k, σ8, H9, I9.unpinned, rv5, (kept I9).1, (kept I9).2, w9⟩
      | true =>
        rw [if_pos rfl] at q9 ⊢
        refine wpAny_mono (he C s H _ s9 σ8 H9 _ I9 q9) (fun y s10 ⟨yv, H10, I10, r10, n10⟩ => ?_) fun _ _ f => f.elim
        obtain ⟨m', hm, w10⟩ := hNN _ _ _ n10
        obtain ⟨k10, f10⟩ := kept I10
        have p10 := I10.pin (D, lobj its k) (List.mem_append_right _ (List.mem_append_left _ List.mem_cons_self))
        have hlen := rv5.length
        refine wpAny_list_append_plain (hsz := by rw [List.size_toArray]; omega) (show s10.heap.PlainList D its.toArray from ⟨k, p10.1⟩) fun h11 hl11 hsb11 => ?_
        obtain ⟨k11, e11⟩ := hl11
        have J0 : Inv (cxComp X N scope C s H fp) [] σ8 H10 s10 := I10.pins_of fun p hp => nomatch hp
        have J1 : Inv (cxComp X N scope C s H fp) [] σ8 H10 { s10 with heap := h11 } := J0.turned (t' := s10.toks) (fun b o hb e => hsb11.extBut b o hb e) p10.2.1 (Nat.ne_of_lt hDC) (.inr (Nat.le_of_eq hD)) (fun x c e z => Nat.ne_of_lt (clt x c (closOf_ok (fun n c e => by simp at e) x c e)) z) fun p hp => nomatch (show p ∈ ([] : List (Addr × Obj)) from hp)
        have e12 : h11.get? D = some (lobj (its ++ [y]) k11) := by rw [e11]; simp [lobj]
        refine ⟨m', hm, i + 1, ys ++ [yv], its ++ [y], k11, σ8, H10, pinD J1 p10.2.1 e12 (fun v z => by cases z), rv5.append (.cons r10 .nil), ?_, f10, w10⟩
        exact T.keep _ _ _ k10 fun b hb o e => hsb11.extBut b o (Nat.ne_of_lt (fol b hb)) e
  refine codeAny_compStart_list (loop _ ?_) (T.self X.A 0 _ _ _ ?_ (loop _ ?_))
  · rfl
  · exact st4
  · rfl

theorem ps_comp {X : Cx} {N : List Str} {cap : List (Option Nat)} {scope : Scope} {elt target iter : Expr} {ifs : List Expr} {pos pos' spos : Pos} {wi : TI} {g : TG} {tc : TT} {te : TE} {i : Nat} {x : Str} (hc : X.calm = true) (S : CompScope X N cap scope) (hi : PI X target iter wi)
    (hg : ∀ C s₀ H₀ ex, PG (cxComp X N scope C s₀ H₀ ex) target g) (ht : ∀ C s₀ H₀ ex, PTs (cxComp X N scope C s₀ H₀ ex) ifs tc) (he : ∀ C s₀ H₀ ex, PE (cxComp X N scope C s₀ H₀ ex) elt te)
    (hN : X.N.Nodup) (hix : X.N[i]? = some x) (hx : X.env.scope.names.lookup x = some .local) (hsw : swapsWith (.ListComp elt [⟨target, iter, ifs, 0⟩] scope pos) (some (.Name x pos')) spos.line X.env = pure true := by rfl)
    (hs : ∀ x, foldedSetIterable iter X.env x = pure x := by intro _; rfl) :
    PS X (.Assign [.Name x pos'] (.ListComp elt [⟨target, iter, ifs, 0⟩] scope pos) spos) (fun D σ H => tComp cap wi g tc te (fun d H' => D.nx (σ.set i (some (.ref d))) H') σ H) := by
  intro pins s σ H D I h
  have hclos : closureFor scope X.env = pure (closOf X.env scope.names []) := closureFor_of fun y hy hf => I.ok.has y.1 (S.fre y hy hf)
  rw [exec_Assign_Name_used _ _ _ _ hsw]
  refine wpAny_bind (wpAny_standAt (wpAny_bind ?_))
  show wpAny _ X.A (do let _ ← comprehension (.ListComp elt [⟨target, iter, ifs, 0⟩] scope pos) scope X.env _ (newList []) false (eval iter X.env) (some (assign (.Name x pos') X.env))) _ _ s
  refine wpAny_bind (wpAny_mono (wpAny_comprehension_free (use := some (assign (.Name x pos') X.env)) (Q := fun _ s' => SP X pins D .next s') rfl hs hclos S.kind S.loc
    (thn (hi pins s σ H _ I h) fun xv s1 h1 => thn h1 fun itv s2 h2 => ?_)) (fun _ s' hq => wpAny_pure (wpAny_pure hq)) fun _ _ e => e)
  obtain ⟨it, fp, tn, J, H2, e, I2, T, st2, f2, q2⟩ := h2
  subst e
  refine comp_block (RR := fun acc C => compPost (model X.prog X.w) X.A X.xe (some (assign (.Name x pos') X.env)) (fun _ s' => SP X pins D .next s') acc C) hc S I2 T st2 f2 (fun C s₀ H₀ => hg C s₀ H₀ fp) (fun C s₀ H₀ => ht C s₀ H₀ fp) (fun C s₀ H₀ => he C s₀ H₀ fp) q2 ?_
  intro d C s' H' I' q ⟨m, hn⟩ hf hsz hL hcell hpin
  show wpAny _ X.A (assign (.Name x pos') X.env (.ref d)) _ _ s'
  refine wpAny_assign_Name (store_ok2 I' hN hix (.inl hx) (show RelV (.ref d) (.ref d) from rfl) (fun s'' I'' ⟨a, hsb, ha⟩ => ?_) (.inr hx))
  have hCa : C ≠ a := by
    rcases ha with z | z
    · rw [z]; exact hL
    · exact fun w => hcell x a z w.symm
  refine ⟨m, hn.sameBut hsb hCa, fun h' hsb' => ⟨_, H', ?_, q⟩⟩
  exact I''.turned (t' := s''.toks) (fun b o hb e => hsb'.extBut b o hb e) hf hL (.inr hsz) hcell hpin
end L2

set_option Elab.async false
set_option linter.all false
set_option maxRecDepth 100000
set_option maxHeartbeats 4000000
namespace L2
open PySem PySem.Spec PyProof.Rows

def Its (x : Str) : It := ⟨fun i _ => i < x.cps.size, fun i H v H' => H' = H ∧ ∃ c, x.cps[i]? = some c ∧ v = .str ⟨#[c]⟩, fun i _ => i = x.cps.size⟩
theorem turn_str {P : Program} {w : World} {K : PySem.W.Frag} {tg : Expr} (ty : String) (it : Addr) (x : Str) (t : Tok)
    (hw : ∀ A' : Around, A'.handled = none → Walks P w A' it [it] [it] x.cps.size (SignAt x) (fun i h => h.IsStrIter it ty x t i))
    (hself : ∀ (A : Around) (i : Nat) (s : Shared) (Q : Value → Shared → Prop) (E : Value → Shared → Prop), s.heap.IsStrIter it ty x t i → Q (.ref it) s → wpAny (model P w) A (pyIter (.ref it)) Q E s)
    (hn : ["enumerate", "zip", "dict_itemiterator", "dict_reverseitemiterator", "odict_iterator", "itertools.zip_longest", "itertools.pairwise"].contains ty = false) :
    Turn P w K tg (Its x) [it] it (fun i h => h.IsStrIter it ty x t i) where
  mem := by simp
  obj := fun i h st b hb => by
    have e : b = it := by simpa using hb
    subst e
    obtain ⟨o, e, c, d⟩ := st
    exact ⟨o, e, fun v z => by rw [d] at z; cases z⟩
  keep := fun i h h' st k => let ⟨o, e, r⟩ := st; ⟨o, k it (by simp) o e, r⟩
  item := by
    intro X hP hw' hK hc i pins s σ H E I hf st hg
    subst hP hw' hK
    obtain ⟨f0, f1, f2, f3, f4, f5⟩ := hf it (by simp)
    refine (hw X.A (I.ok.hd hc)).item i s _ _ hg st fun v h' tk hv st' kk => ?_
    obtain ⟨c, u, hc', rfl⟩ := hv
    have I1 : Inv X pins σ H { s with heap := h', toks := tk } := I.turned (fun b o hb e => kk b o (by simpa using hb) e) f0 f1 f3 f4 f5
    obtain ⟨o, e, cc, d⟩ := id st'
    exact ⟨_, rfl, go_of (s := { s with heap := h', toks := tk }) e cc d hn ⟨.str ⟨#[c]⟩, H, I1, ⟨u, rfl⟩, ⟨rfl, c, hc', rfl⟩, st', fun b hb => (hf b hb).1⟩⟩
  done := by
    intro X hP hw' hK hc i pins s σ H E I hf st hg
    subst hP hw' hK
    obtain ⟨f0, f1, f2, f3, f4, f5⟩ := hf it (by simp)
    have hg' : i = x.cps.size := hg
    subst hg'
    exact (hw X.A (I.ok.hd hc)).done s _ _ st fun h' tk kk => ⟨rfl, I.turned (fun b o hb e => kk b o (by simpa using hb) e) f0 f1 f3 f4 f5⟩
  self := hself
theorem for_str {x : Str} {g : TG} {tb : TS} {D : Ends} {σ : St} {H : Hp} (Pv : Nat → St → Hp → Prop) (h0 : Pv 0 σ H)
    (hs : ∀ i c σ H, x.cps[i]? = some c → Pv i σ H → g (.str ⟨#[c]⟩) σ H fun σ2 H2 => tb { D with nx := Pv (i + 1), ct := Pv (i + 1), bk := D.nx } σ2 H2) (hd : ∀ σ H, Pv x.cps.size σ H → D.nx σ H) :
    ∃ W : Nat → Nat → St → Hp → Prop, (∃ m, W 0 m σ H) ∧ ∀ i m σ H, W i m σ H →
      ((Its x).stop i H ∧ D.nx σ H) ∨ ((Its x).go i H ∧ ∃ N : St → Hp → Prop, (∀ σ' H', N σ' H' → ∃ m', m' < m ∧ W (i + 1) m' σ' H') ∧ ∀ v H', (Its x).yld i H v H' → g v σ H' fun σ2 H2 => tb { D with nx := N, ct := N, bk := D.nx } σ2 H2) := by
  refine ⟨fun i m σ H => m = x.cps.size - i ∧ i ≤ x.cps.size ∧ Pv i σ H, ⟨x.cps.size, by simp, Nat.zero_le _, h0⟩, ?_⟩
  rintro i m σ H ⟨rfl, hi, p⟩
  by_cases hlt : i < x.cps.size
  · refine .inr ⟨hlt, Pv (i + 1), fun σ' H' p' => ⟨x.cps.size - (i + 1), by omega, rfl, hlt, p'⟩, fun v H' y => ?_⟩
    obtain ⟨e, c, hc, rfl⟩ := y
    subst e
    exact hs i c σ _ hc p
  · have e : i = x.cps.size := by omega
    subst e
    exact .inl ⟨rfl, hd σ H p⟩

section
variable {X : Cx}
theorem op_le_str : OpR X (compareOp .LtE) (fun x y H Q => ∃ i j, x = .str i ∧ y = .str j ∧ Q (.bl (!decide (j.cps.toList < i.cps.toList))) H) := by
  intro pins s σ H x y v u Q I r1 r2 h
  obtain ⟨i, j, rfl, rfl, q⟩ := h
  obtain ⟨t, rfl⟩ := r1
  obtain ⟨t', rfl⟩ := r2
  exact PySem.P.le_str ⟨.bl _, H, I, rfl, q⟩
theorem op_mul_str : OpR X (binaryOp .Mult) (fun x y H Q => ∃ z n, x = .str z ∧ y = .int n ∧ MulOk z n ∧ Q (.str (Txt.mul z n)) H) := by
  intro pins s σ H x y v u Q I r1 r2 h
  obtain ⟨z, n, rfl, rfl, ok, q⟩ := h
  obtain ⟨t, rfl⟩ := r1
  obtain ⟨t', rfl⟩ := r2
  exact SB.mul ok fun t' k => ⟨.str _, H, I.tok k, ⟨t', rfl⟩, q⟩
theorem vals_strs : ∀ {texts : List Str} {its : List Value}, Vals (texts.map V.str) its → ∃ l : List (Str × Tok), its = strValues l ∧ l.map (·.1) = texts
  | [], _, r => by rw [List.map_nil] at r; cases r; exact ⟨[], rfl, rfl⟩
  | x :: xs, _, r => by
    rw [List.map_cons] at r
    cases r with
    | cons r1 r2 =>
      obtain ⟨t, rfl⟩ := r1
      obtain ⟨l, e1, e2⟩ := vals_strs r2
      exact ⟨(x, t) :: l, by rw [e1]; rfl, by rw [List.map_cons, e2]⟩
theorem strs_vals : ∀ (l : List (Str × Tok)), Vals (l.map fun p => V.str p.1) (strValues l)
  | [] => .nil
  | (x, t) :: l => .cons ⟨t, rfl⟩ (strs_vals l)
def rJoin (K : PySem.W.Frag) : V → List V → Hp → VK → Prop := fun x vs H Q => ∃ sep l texts, x = .str sep ∧ vs = [.ref l] ∧ SqL K H l (texts.map V.str) ∧ JoinOk sep texts = true ∧ Q (.str (Txt.join sep texts)) H
theorem mt_join : MtR X "str.join" (rJoin X.K) := by
  intro pins s σ H x xs v us Q I rx rs h
  obtain ⟨sep, l, texts, rfl, rfl, hq, hok, q⟩ := h
  obtain ⟨t, rfl⟩ := rx
  obtain ⟨u, rfl, ru⟩ := vals1 rs
  cases ru
  obtain ⟨its, rv, pl, hz⟩ := I.list hq
  obtain ⟨ls, e1, e2⟩ := vals_strs rv
  subst e1
  exact SC.join (D := l) (l := ls) pl.isList e2 hok fun t' k => ⟨.str _, H, I.tok k, ⟨t', rfl⟩, q⟩
def rSplit : V → List V → Hp → VK → Prop := fun x vs H Q => ∃ z y, x = .str z ∧ vs = [.str y] ∧ y.length ≠ 0 ∧ z.length < sizeLine ∧ (Txt.split z y).length ≤ sizeLine ∧ ∀ l, H l = none → Q (.ref l) (upd H l (.lst ((Txt.split z y).map V.str)))
theorem split_laid {pins : List (Addr × Obj)} {σ : St} {H : Hp} {s : Shared} {l : List (Str × Tok)} {ts : List Str} {tk : Nat} {Q : VK} (I : Inv X pins σ H s) (e : l.map (·.1) = ts) (hz : ts.length ≤ sizeLine) (q : ∀ l, H l = none → Q (.ref l) (upd H l (.lst (ts.map V.str)))) :
    EP X pins σ Q (.ref s.heap.objs.size) { s with heap := s.heap.push { cls := .type "list", data := .seq (strValues l).toArray }, toks := tk } := by
  subst e
  refine ⟨.ref s.heap.objs.size, _, I.laid (o := .lst ((l.map (·.1)).map V.str)) (fun b ob q => Heap.get?_push_of_some _ q) (Nat.le_refl _) ?_, rfl, q _ (I.hok.fresh (Nat.le_refl _))⟩
  refine ⟨by rw [List.length_map]; exact hz, strValues l, 0, ?_, Heap.get?_push_size _ rfl⟩
  have := strs_vals l
  rw [List.map_map]
  exact this
open Builtin Builtin.Str in
theorem mt_split : MtR X "str.split" rSplit := by
  intro pins s σ H x xs v us Q I rx rs h
  obtain ⟨z, y, rfl, rfl, hy0, hz, hl, q⟩ := h
  obtain ⟨t, rfl⟩ := rx
  obtain ⟨uu, rfl, ru⟩ := vals1 rs
  obtain ⟨u, rfl⟩ := ru
  have hy : (y.length == 0) = false := by simpa using hy0
  have hz' : z.length ≤ sizeLine := Nat.le_of_lt hz
  unfold Txt.split at hl q
  cases h1 : (decide (z.length < y.length) || decide (strKind z < strKind y))
  · rw [h1] at hl q
    simp only [Bool.false_eq_true, if_false] at hl q
    cases hf : (occurrences z y 0 z.length (z.length + 1)).isEmpty
    · rw [hf] at hl q
      simp only [Bool.false_eq_true, if_false] at hl q
      refine call_meets F.slot_str_split (typeIs_str _ _ _) F.entry_str_split (F.args_str_split_2 _ _) (meets_str_split_sep z y t u h1 hy hf hz' hl) ?_
      show wants _ _ _ { s with toks := _, heap := s.heap.push { cls := .type "list", data := .seq (strsFrom s.toks (partsBetween z (occurrences z y 0 z.length (z.length + 1)) y.length)).toArray } }
      rw [strsFrom_eq]
      exact split_laid (l := numbered s.toks _) I (numbered_texts _ _) hl q
    · rw [hf] at hl q
      simp only [if_true] at hl q
      exact call_meets F.slot_str_split (typeIs_str _ _ _) F.entry_str_split (F.args_str_split_2 _ _) (meets_str_split_not_found z y t u h1 hy hf)
        (split_laid (l := [(z, t)]) (tk := s.toks) I rfl hl q)
  · rw [h1] at hl q
    simp only [if_true] at hl q
    exact call_meets F.slot_str_split (typeIs_str _ _ _) F.entry_str_split (F.args_str_split_2 _ _) (meets_str_split_cannot_occur z y t u h1)
      (split_laid (l := [(z, t)]) (tk := s.toks) I rfl hl q)
def rSlS : V → Option Int → Option Int → Hp → VK → Prop := fun x lo hi H Q => ∃ z, x = .str z ∧ z.length ≤ sizeLine ∧ Q (.str (Txt.slice z lo hi)) H
theorem sl_str : SlR X rSlS := by
  intro pins s σ H x v vl vu lo hi sl Q I rx hs pl pu h
  obtain ⟨z, rfl, hz, q⟩ := h
  obtain ⟨t, rfl⟩ := rx
  refine ⟨"str", _, F.slot_str_getitem.lookup, typeIs_str _ _ _, ?_⟩
  have fin : ∀ t' k, EP X pins σ Q (.str (Txt.slice z lo hi) t') { s with toks := k } := fun t' k => ⟨.str _, H, I.tok k, ⟨t', rfl⟩, q⟩
  cases pl with
  | none =>
    cases pu with
    | none => exact wpAny_getItem_str_slice (l := none) (u := none) (st := none) hs rfl (post_val_or_str ⟨Nat.le_trans (Txt.slice_le z _ _) hz, fin⟩)
    | int j uj => exact wpAny_getItem_str_slice (l := none) (u := some (j, uj)) (st := none) hs rfl (post_val_or_str ⟨Nat.le_trans (Txt.slice_le z _ _) hz, fin⟩)
  | int i ui =>
    cases pu with
    | none => exact wpAny_getItem_str_slice (l := some (i, ui)) (u := none) (st := none) hs rfl (post_val_or_str ⟨Nat.le_trans (Txt.slice_le z _ _) hz, fin⟩)
    | int j uj => exact wpAny_getItem_str_slice (l := some (i, ui)) (u := some (j, uj)) (st := none) hs rfl (post_val_or_str ⟨Nat.le_trans (Txt.slice_le z _ _) hz, fin⟩)

end

mutual
inductive DatV (K : PySem.W.Frag) (H : Hp) : V → PyData → Prop
  | none : DatV K H .non .none
  | bool (b : Bool) : DatV K H (.bl b) (.bool b)
  | int (i : Int) : DatV K H (.int i) (.int i)
  | str (x : Str) : DatV K H (.str x) (.str x)
  | list {a : Addr} {xs : List V} {ds : List PyData} : SqL K H a xs → DatVs K H xs ds → DatV K H (.ref a) (.list ds)
  | tuple {a : Addr} {xs : List V} {ds : List PyData} : SqT K H a xs → DatVs K H xs ds → DatV K H (.ref a) (.tuple ds)
inductive DatVs (K : PySem.W.Frag) (H : Hp) : List V → List PyData → Prop
  | nil : DatVs K H [] []
  | cons {x : V} {xs : List V} {d : PyData} {ds : List PyData} : DatV K H x d → DatVs K H xs ds → DatVs K H (x :: xs) (d :: ds)
end
theorem Same.seqT {K : PySem.W.Frag} {H H' : Hp} {a : Addr} {xs : List V} (e : Same H H') (h : SqT K H a xs) : SqT K H' a xs := by
  rcases h with (h | ⟨o, h⟩) | h
  · exact .inl (.inl (e _ _ h))
  · exact .inl (.inr ⟨o, e _ _ h⟩)
  · exact .inr h
mutual
theorem DatV.same {K : PySem.W.Frag} {H H' : Hp} (e : Same H H') : ∀ {x : V} {d : PyData}, DatV K H x d → DatV K H' x d
  | _, _, .none => .none
  | _, _, .bool b => .bool b
  | _, _, .int i => .int i
  | _, _, .str x => .str x
  | _, _, .list h hs => .list (e.seq h) (DatVs.same e hs)
  | _, _, .tuple h hs => .tuple (e.seqT h) (DatVs.same e hs)
theorem DatVs.same {K : PySem.W.Frag} {H H' : Hp} (e : Same H H') : ∀ {xs : List V} {ds : List PyData}, DatVs K H xs ds → DatVs K H' xs ds
  | _, _, .nil => .nil
  | _, _, .cons h hs => .cons (DatV.same e h) (DatVs.same e hs)
end
mutual
theorem DatV.reads {X : Cx} {pins : List (Addr × Obj)} {σ : St} {H : Hp} {s : Shared} (I : Inv X pins σ H s) : ∀ {x : V} {d : PyData} {u : Value}, DatV X.K H x d → RelV x u → ∃ as, Reads s.heap u d as
  | _, _, _, .none, r => by cases r; exact ⟨_, .none⟩
  | _, _, _, .bool b, r => by cases r; exact ⟨_, .bool b⟩
  | _, _, _, .int i, r => by obtain ⟨t, rfl⟩ := r; exact ⟨_, .int i t⟩
  | _, _, _, .str x, r => by obtain ⟨t, rfl⟩ := r; exact ⟨_, .str x t⟩
  | _, _, _, .list h hs, r => by
    cases r
    obtain ⟨its, rv, ⟨o, n, h1, h2, h3, h4⟩, hz⟩ := I.list h
    obtain ⟨as, ra⟩ := DatVs.reads I hs rv
    exact ⟨_, .list h1 h2 h4 ra⟩
  | _, _, _, .tuple h hs, r => by
    cases r
    obtain ⟨its, rv, ⟨o, h1, h2, n, h4⟩, hz⟩ := I.tuple h
    obtain ⟨as, ra⟩ := DatVs.reads I hs rv
    exact ⟨_, .tuple h1 h2 h4 ra⟩
theorem DatVs.reads {X : Cx} {pins : List (Addr × Obj)} {σ : St} {H : Hp} {s : Shared} (I : Inv X pins σ H s) : ∀ {xs : List V} {ds : List PyData} {us : List Value}, DatVs X.K H xs ds → Vals xs us → ∃ as, ReadsAll s.heap us ds as
  | _, _, _, .nil, r => by cases r; exact ⟨_, .nil⟩
  | _, _, _, .cons h hs, r => by
    cases r with
    | cons r1 r2 =>
      obtain ⟨as, ra⟩ := DatV.reads I h r1
      obtain ⟨bs, rb⟩ := DatVs.reads I hs r2
      exact ⟨_, .cons ra rb⟩
end
theorem DatVs.length {K : PySem.W.Frag} {H : Hp} : ∀ {xs : List V} {ds : List PyData}, DatVs K H xs ds → xs.length = ds.length
  | _, _, .nil => rfl
  | _, _, .cons _ hs => by rw [List.length_cons, List.length_cons, DatVs.length hs]
theorem DatVs.get {K : PySem.W.Frag} {H : Hp} : ∀ {xs : List V} {ds : List PyData} {i : Nat} {x : V}, DatVs K H xs ds → xs[i]? = some x → ∃ d, ds[i]? = some d ∧ DatV K H x d
  | _, _, _, _, .nil, e => by simp at e
  | _, _, 0, _, .cons h _, e => by simp at e; subst e; exact ⟨_, rfl, h⟩
  | _, _, i + 1, x, .cons _ hs, e => by
    obtain ⟨d, h1, h2⟩ := DatVs.get (i := i) (x := x) hs (by simpa using e)
    exact ⟨d, by simpa using h1, h2⟩
theorem DatVs.snoc {K : PySem.W.Frag} {H : Hp} {x : V} {d : PyData} (h : DatV K H x d) : ∀ {xs : List V} {ds : List PyData}, DatVs K H xs ds → DatVs K H (xs ++ [x]) (ds ++ [d])
  | _, _, .nil => .cons h .nil
  | _, _, .cons h' hs => .cons h' (DatVs.snoc h hs)
def rEqD (K : PySem.W.Frag) : R2 := fun x y H Q => ∃ da db, DatV K H x da ∧ DatV K H y db ∧ da.canLay0 = true ∧ db.canLay0 = true ∧ min da.depth db.depth ≤ 60 ∧ Q (.bl (PyData.eqv da db)) H
def rNeD (K : PySem.W.Frag) : R2 := fun x y H Q => ∃ da db, DatV K H x da ∧ DatV K H y db ∧ da.canLay0 = true ∧ db.canLay0 = true ∧ min da.depth db.depth ≤ 60 ∧ Q (.bl (!PyData.eqv da db)) H
theorem op_eqD {X : Cx} (hu : X.A.units + 64 < cLine) : OpR X (compareOp .Eq) (rEqD X.K) := by
  intro pins s σ H x y v u Q I rx ry h
  obtain ⟨da, db, h1, h2, l1, l2, hd, q⟩ := h
  obtain ⟨as, ra⟩ := h1.reads I rx
  obtain ⟨bs, rb⟩ := h2.reads I ry
  exact SeqAt.compareEq_reads ra rb l1 l2 (by omega) ⟨.bl _, H, I, rfl, q⟩
theorem op_neD {X : Cx} (hu : X.A.units + 64 < cLine) : OpR X (compareOp .NotEq) (rNeD X.K) := by
  intro pins s σ H x y v u Q I rx ry h
  obtain ⟨da, db, h1, h2, l1, l2, hd, q⟩ := h
  obtain ⟨as, ra⟩ := h1.reads I rx
  obtain ⟨bs, rb⟩ := h2.reads I ry
  exact SeqAt.compareNe_reads ra rb l1 l2 (by omega) ⟨.bl _, H, I, rfl, q⟩
end L2

set_option Elab.async false
set_option linter.all false
set_option maxRecDepth 100000
set_option maxHeartbeats 4000000
namespace L2
open PySem PySem.Spec PyProof.Rows

structure KTab (K : PySem.W.Frag) (w : World) (a : Addr) (kvs : List (Str × V)) : Prop where
  ex : ∃ es n, K.lookup a = some ⟨.type "dict", none, .dict es n, #[]⟩ ∧ PySem.W.KeysLit w.params es.toList ∧ Paired (fun (p : Str × V) (e : DictEntry) => (∃ t, e.key = .str p.1 t) ∧ RelV p.2 e.val) kvs es.toList
  lo : (a == sysModules) = false
theorem findBy_rel {kvs : List (Str × V)} {es : List DictEntry} (r : Paired (fun (p : Str × V) (e : DictEntry) => (∃ t, e.key = .str p.1 t) ∧ RelV p.2 e.val) kvs es) (x : Str) : RelO (kvs.lookup x) (findBy Value.isStrOf es.toArray x) := by
  unfold findBy
  rw [List.find?_toArray]
  induction r with
  | nil => exact True.intro
  | @cons p e ps qs h t ih =>
    obtain ⟨⟨tk, hk⟩, hv⟩ := h
    rw [List.lookup_cons, List.find?_cons, hk]
    by_cases q : x = p.1
    · subst q
      simp only [beq_self_eq_true]
      have : Value.isStrOf p.1 (.str p.1 tk) = true := by simp [Value.isStrOf]
      rw [this]
      exact hv
    · have h1 : (x == p.1) = false := by simpa using q
      have h2 : Value.isStrOf x (.str p.1 tk) = false := by
        simp only [Value.isStrOf]
        simpa using fun z => q z.symm
      rw [h1, h2]
      exact ih
theorem KTab.map {X : Cx} {pins : List (Addr × Obj)} {σ : St} {H : Hp} {s : Shared} {a : Addr} {kvs : List (Str × V)} (T : KTab X.K X.w a kvs) (I : Inv X pins σ H s) :
    ∃ f : Str → Option Value, s.heap.MapOf (strKind X.prog X.w) a f ∧ ∀ x, RelO (kvs.lookup x) (f x) := by
  obtain ⟨es, n, hl, hk, r⟩ := T.ex
  refine ⟨_, PySem.W.mapOf_K (prog := X.prog) I.kIn hl hk, fun x => ?_⟩
  have := findBy_rel r x
  simpa using this
section
variable {X : Cx} {o e f : Expr} {apos cpos pos : Pos} {td ty tx : TE}
def tKGet1 (K : PySem.W.Frag) (w : World) (td ty : TE) : TE := fun σ H Q => td σ H fun x H1 => ∃ a kvs, x = .ref a ∧ KTab K w a kvs ∧ ty σ H1 fun y H2 => ∃ k, y = .str k ∧ Q ((kvs.lookup k).getD .non) H2
theorem MapOf.dict {h : Heap} {P : Program} {w : World} {a : Addr} {f : Str → Option Value} (m : h.MapOf (strKind P w) a f) : ∀ b, Value.ref a = .ref b → ∃ ob, h.get? b = some ob ∧ ob.dict = none := fun b q => by
  cases q
  obtain ⟨ob, _, _, h1, h2, _⟩ := m
  exact ⟨ob, h1, h2.2.1⟩
theorem pe_kget1 (ho : PE X o td) (he : PE X e ty) (m : M1 X o "get" apos e cpos) : PE X (.Call (.Attribute o "get" apos) [e] [] cpos) (tKGet1 X.K X.w td ty) := by
  intro pins s σ H Q I h
  refine wpAny_Call_method m.base m.few m.line PySem.F.plainAttrs_dict PySem.F.slot_dict_get PySem.F.type_dict_get (thn (ho pins s σ H _ I h) fun u s1 ⟨x, H1, I1, rx, a, kvs, ex, T, q1⟩ => ?_)
  subst ex
  obtain rfl : u = Value.ref a := rx
  obtain ⟨f0, m0, _⟩ := T.map I1
  refine ⟨m0.typeIs, MapOf.dict m0, ?_⟩
  rw [m.trees]
  refine Calls.callWith_builtin rfl (Calls.evalArgs_plain (Calls.spliced_cons (thn (he pins s1 σ H1 _ I1 q1) fun iv s2 ⟨y, H2, I2, ry, k, ey, q2⟩ => Calls.spliced_nil ?_)))
  subst ey
  obtain ⟨t, rfl⟩ := ry
  obtain ⟨f2, m2, r2⟩ := T.map I2
  refine call_meetsIn PySem.F.slot_dict_get m2.typeIs PySem.F.entry_dict_get (PySem.F.args_dict_get_2 _ _) (meets_dict_get (strKind X.prog X.w) a (strKind_is X.prog X.w k t) T.lo) ⟨_, m2, ?_⟩
  exact ⟨_, H2, I2.tok _, (r2 k).getD (d := .non) (show RelV .non Value.none from rfl), q2⟩
def rIxK (K : PySem.W.Frag) (w : World) : R2 := fun x y H Q => ∃ a kvs k v, x = .ref a ∧ y = .str k ∧ KTab K w a kvs ∧ kvs.lookup k = some v ∧ Q v H
theorem ix_ktab : IxR X (rIxK X.K X.w) := by
  intro value slice pins s σ H x y v u Q I rx ry h hs
  obtain ⟨a, kvs, k, z, rfl, rfl, T, hl, q⟩ := h
  cases rx
  obtain ⟨t, rfl⟩ := ry
  obtain ⟨f2, m2, r2⟩ := T.map I
  obtain ⟨w', hw, rw'⟩ := RelO.some_of (v := z) (o := f2 k) (by rw [← hl]; exact r2 k)
  exact tail_any m2.typeIs slot_dict_getitem.lookup (wpAny_getItem_of (strKind_is X.prog X.w k t) m2 hw ⟨z, H, I.tok _, rw', q⟩) hs
end
end L2

set_option Elab.async false
set_option linter.all false
set_option maxRecDepth 100000
set_option maxHeartbeats 4000000
namespace L2
open PySem PySem.Spec PyProof.Rows
section
variable {X : Cx} {a b c e o : Expr} {ta tb tc te : TE} {pos p : Pos}

def mVar (i : Nat) : TE := fun σ H Q => match σ[i]? with
  | some (some v) => Q v H
  | _ => False
theorem mVar_eq (i : Nat) : mVar i = tVar i := by
  funext σ H Q
  refine propext ⟨fun h => ?_, fun ⟨v, e, h⟩ => ?_⟩
  · unfold mVar at h
    split at h
    · exact ⟨_, ‹_›, h⟩
    · exact h.elim
  · unfold mVar
    rw [e]
    exact h
theorem pn (i : Nat) {x : Str} {pos : Pos} (hN : X.N[i]? = some x := by rfl) (hv : Vis X.env.scope x := by first | exact Or.inl rfl | exact Or.inr (Or.inl rfl) | exact Or.inr (Or.inr rfl)) (hd : (x == ("__debug__" : Str)) = false := by decide)
    (hcd : (x == ("__classdict__" : Str)) = false := by decide) : PE X (.Name x pos) (mVar i) := by
  rw [mVar_eq]
  exact pe_var hN hv hd hcd

def mTest (t : TE) : TT := fun σ H Q => t σ H fun x H' => match x with
  | .bl k => Q k H'
  | _ => False
theorem mTest_eq (t : TE) : mTest t = tTest t := by
  funext σ H Q
  unfold mTest tTest
  congr 1
  funext x H'
  refine propext ⟨fun h => ?_, fun ⟨k, e, h⟩ => ?_⟩
  · split at h
    · exact ⟨_, rfl, h⟩
    · exact h.elim
  · subst e
    exact h
theorem mTest_eqB (t : TE) : mTest t = tB t := by rw [mTest_eq]; rfl
theorem pt_cmpM {op : CmpOp} {r : R2} (ho : OpR X (compareOp op) r) (ha : PE X a ta) (hb : PE X b tb) (hm : behindInMarks op b = false := by first | exact nomark _ | rfl) : PT X (.Compare a [op] [b] pos) (mTest (tOp r ta tb)) := by
  rw [mTest_eq]
  exact pt_cmpR ho ha hb hm
theorem pt_chainM {op op' : CmpOp} {r r' : R2} (ho : OpR X (compareOp op) r) (ho' : OpR X (compareOp op') r') (ha : PE X a ta) (hb : PE X b tb) (hc : PE X c tc)
    (hm : lastMarks [op, op'] [b, c] = false := by with_unfolding_all rfl) : PT X (.Compare a [op, op'] [b, c] pos) (mTest (tChain r r' ta tb tc)) := by
  rw [mTest_eq]
  exact pt_chain ho ho' ha hb hc hm
theorem pt_valM {e : Expr} {t : TE} (h : PE X e t) (he : ∀ whole, isTrue e X.env whole = (do let v ← whole; standAt e.pos; holding [v] (truthy v)) := by intro _; rfl) : PT X e (mTest t) := by
  rw [mTest_eqB]
  exact pt_val h he
def mAndV (ta tb : TE) : TE := fun σ H Q => ta σ H fun x H1 => match x with
  | .bl c => if c = true then tb σ H1 Q else Q (.bl false) H1
  | _ => False
theorem mAndV_eq (ta tb : TE) : mAndV ta tb = tAndV ta tb := by
  funext σ H Q
  unfold mAndV tAndV
  congr 1
  funext x H'
  refine propext ⟨fun h => ?_, fun ⟨k, e, h⟩ => ?_⟩
  · split at h
    · exact ⟨_, rfl, h⟩
    · exact h.elim
  · subst e; exact h
theorem pe_andM {rest : List Expr} (ha : PE X a ta) (hb : PE X (.BoolOp .And (b :: rest) pos) tb) : PE X (.BoolOp .And (a :: b :: rest) pos) (mAndV ta tb) := by rw [mAndV_eq]; exact pe_and ha hb
def mChain (r r' : R2) (ta tb tc : TE) : TE := fun σ H Q => ta σ H fun x H1 => tb σ H1 fun y H2 => r x y H2 fun z H3 => match z with
  | .bl k => if k = true then tc σ H3 fun w' H4 => r' y w' H4 Q else Q (.bl false) H3
  | _ => False
theorem mChain_eq (r r' : R2) (ta tb tc : TE) : mChain r r' ta tb tc = tChain r r' ta tb tc := by
  funext σ H Q
  unfold mChain tChain
  congr 1
  funext x H1
  congr 1
  funext y H2
  congr 1
  funext z H3
  refine propext ⟨fun h => ?_, fun ⟨k, e, h⟩ => ?_⟩
  · split at h
    · exact ⟨_, rfl, h⟩
    · exact h.elim
  · subst e; exact h
theorem pe_chainM {op op' : CmpOp} {r r' : R2} (ho : OpR X (compareOp op) r) (ho' : OpR X (compareOp op') r') (ha : PE X a ta) (hb : PE X b tb) (hc : PE X c tc)
    (hm : lastMarks [op, op'] [b, c] = false := by with_unfolding_all rfl) : PE X (.Compare a [op, op'] [b, c] pos) (mChain r r' ta tb tc) := by
  rw [mChain_eq]; exact pe_chain ho ho' ha hb hc hm

def gAdd (K : PySem.W.Frag) : R2 := fun x y H Q => match x, y with
  | .int i, .int j => Q (.int (i + j)) H
  | .str i, .str j => i.length + j.length ≤ sizeLine ∧ Q (.str (i ++ j)) H
  | .ref l, .ref b => (∃ xs zs, H l = some (.lst xs) ∧ H b = some (.lst zs) ∧ xs.length + zs.length ≤ sizeLine ∧ ∀ p, H p = none → Q (.ref p) (upd H p (.lst (xs ++ zs)))) ∨
      ∃ xs ys, SqT K H l xs ∧ SqT K H b ys ∧ xs ≠ [] ∧ xs.length + ys.length ≤ sizeLine ∧ (ys = [] → Q (.ref l) H) ∧ (ys ≠ [] → ∀ p, H p = none → Q (.ref p) (upd H p (.tup (xs ++ ys))))
  | _, _ => False
theorem og_add {K : PySem.W.Frag} (hK : X.K = K := by rfl) : OpR X (binaryOp .Add) (gAdd K) := by
  subst hK
  intro pins s σ H x y v u Q I rx ry h
  unfold gAdd at h
  split at h
  · exact op_add pins s σ H _ _ v u Q I rx ry ⟨_, _, rfl, rfl, h⟩
  · exact op_add_str pins s σ H _ _ v u Q I rx ry ⟨_, _, rfl, rfl, h.1, h.2⟩
  · rcases h with ⟨xs, zs, h1, h2, h3, h4⟩ | ⟨xs, ys, h1, h2, h3, h4, h5, h6⟩
    · exact op_cat pins s σ H _ _ v u Q I rx ry ⟨_, _, xs, zs, rfl, rfl, h1, h2, h3, h4⟩
    · exact op_catT pins s σ H _ _ v u Q I rx ry ⟨_, _, xs, ys, rfl, rfl, h1, h2, h3, h4, h5, h6⟩
  · exact h.elim
def gMinus : R2 := fun x y H Q => match x, y with
  | .int i, .int j => Q (.int (i - j)) H
  | _, _ => False
theorem og_sub : OpR X (binaryOp .Sub) gMinus := by
  intro pins s σ H x y v u Q I rx ry h
  unfold gMinus at h
  split at h
  · exact op_sub pins s σ H _ _ v u Q I rx ry ⟨_, _, rfl, rfl, h⟩
  · exact h.elim
def gMul : R2 := fun x y H Q => match x, y with
  | .int i, .int j => CMul i j ∧ Q (.int (i * j)) H
  | .str z, .int n => MulOk z n ∧ Q (.str (Txt.mul z n)) H
  | .ref l, .int k => ∃ xs, H l = some (.lst xs) ∧ -(2 ^ 63) ≤ k ∧ k < 2 ^ 63 ∧ xs.length * k.toNat ≤ sizeLine ∧ ∀ p, H p = none → Q (.ref p) (upd H p (.lst (List.replicate k.toNat xs).flatten))
  | _, _ => False
theorem og_mul : OpR X (binaryOp .Mult) gMul := by
  intro pins s σ H x y v u Q I rx ry h
  unfold gMul at h
  split at h
  · exact op_mul pins s σ H _ _ v u Q I rx ry ⟨_, _, rfl, rfl, h.1, h.2⟩
  · exact op_mul_str pins s σ H _ _ v u Q I rx ry ⟨_, _, rfl, rfl, h.1, h.2⟩
  · obtain ⟨xs, h1, h2, h3, h4, h5⟩ := h
    exact op_rep pins s σ H _ _ v u Q I rx ry ⟨_, _, xs, rfl, rfl, h1, h2, h3, h4, h5⟩
  · exact h.elim
def gDiv : R2 := fun x y H Q => match x, y with
  | .int i, .int j => CDiv i j ∧ Q (.int (i / j)) H
  | _, _ => False
theorem og_div : OpR X (binaryOp .FloorDiv) gDiv := by
  intro pins s σ H x y v u Q I rx ry h
  unfold gDiv at h
  split at h
  · exact op_fdiv pins s σ H _ _ v u Q I rx ry ⟨_, _, rfl, rfl, h.1, h.2⟩
  · exact h.elim
def gMod : R2 := fun x y H Q => match x, y with
  | .int i, .int j => 0 < j ∧ Q (.int (i % j)) H
  | _, _ => False
theorem og_mod : OpR X (binaryOp .Mod) gMod := by
  intro pins s σ H x y v u Q I rx ry h
  unfold gMod at h
  split at h
  · exact op_mod pins s σ H _ _ v u Q I rx ry ⟨_, _, rfl, rfl, h.1, h.2⟩
  · exact h.elim
def gIadd : R2 := fun x y H Q => match x, y with
  | .int i, .int j => Q (.int (i + j)) H
  | .str i, .str j => i.length + j.length ≤ sizeLine ∧ Q (.str (i ++ j)) H
  | _, _ => False
theorem og_iadd : PIp X .Add gIadd := by
  intro pins s σ H x y v u Q I rx ry h
  unfold gIadd at h
  split at h
  · exact iop_add pins s σ H _ _ v u Q I rx ry ⟨_, _, rfl, rfl, h⟩
  · exact iop_add_str pins s σ H _ _ v u Q I rx ry ⟨_, _, rfl, rfl, h.1, h.2⟩
  · exact h.elim
def mAug (i : Nat) (te : TE) (ti : TIp) : TS := fun D σ H => match σ[i]? with
  | some (some x) => te σ H fun y H1 => ti x y H1 fun z H2 => D.nx (σ.set i (some z)) H2
  | _ => False
theorem mAug_eq (i : Nat) (te : TE) (ti : TIp) : mAug i te ti = tAug i te ti := by
  funext D σ H
  refine propext ⟨fun h => ?_, fun ⟨v, e, h⟩ => ?_⟩
  · unfold mAug at h
    split at h
    · exact ⟨_, ‹_›, h⟩
    · exact h.elim
  · unfold mAug
    rw [e]
    exact h
theorem ps_augM {i : Nat} {x : Str} {op : Operator} {ti : TIp} {pos' : Pos} (hN : X.N.Nodup) (hi : X.N[i]? = some x) (hx : Loc X.env.scope x) (he : PE X e te) (ho : PIp X op ti) (hf : X.fn x = true ∨ X.env.scope.names.lookup x = some .local := by first | exact .inl rfl | exact .inr rfl | assumption) :
    PS X (.AugAssign (.Name x pos') op e pos) (mAug i te ti) := by
  rw [mAug_eq]; exact ps_aug hN hi hx he ho hf

def gEq (K : PySem.W.Frag) (neg : Bool) : R2 := fun x y H Q => match x, y with
  | .int i, .int j => Q (.bl (neg ^^ decide (i = j))) H
  | .str i, .str j => Q (.bl (neg ^^ decide (i = j))) H
  | .bl i, .bl j => Q (.bl (neg ^^ decide (i = j))) H
  | .ref i, .ref j => ∃ da db, DatV K H (.ref i) da ∧ DatV K H (.ref j) db ∧ da.canLay0 = true ∧ db.canLay0 = true ∧ min da.depth db.depth ≤ 60 ∧ Q (.bl (neg ^^ PyData.eqv da db)) H
  | _, _ => False
theorem og_eq (hu : X.A.units + 64 < cLine) {K : PySem.W.Frag} (hK : X.K = K := by rfl) : OpR X (compareOp .Eq) (gEq K false) := by
  subst hK
  intro pins s σ H x y v u Q I rx ry h
  unfold gEq at h
  split at h
  · refine op_eq pins s σ H _ _ v u Q I rx ry ⟨rfl, ?_⟩
    simpa using h
  · refine op_eq pins s σ H _ _ v u Q I rx ry ⟨rfl, ?_⟩
    simpa using h
  · refine op_eq pins s σ H _ _ v u Q I rx ry ⟨rfl, ?_⟩
    simpa using h
  · obtain ⟨da, db, h1, h2, h3, h4, h5, h6⟩ := h
    exact op_eqD hu pins s σ H _ _ v u Q I rx ry ⟨da, db, h1, h2, h3, h4, h5, by simpa using h6⟩
  · exact h.elim
theorem og_ne (hu : X.A.units + 64 < cLine) {K : PySem.W.Frag} (hK : X.K = K := by rfl) : OpR X (compareOp .NotEq) (gEq K true) := by
  subst hK
  intro pins s σ H x y v u Q I rx ry h
  unfold gEq at h
  split at h
  · refine op_ne pins s σ H _ _ v u Q I rx ry ⟨rfl, ?_⟩
    simpa using h
  · refine op_ne pins s σ H _ _ v u Q I rx ry ⟨rfl, ?_⟩
    simpa using h
  · refine op_ne pins s σ H _ _ v u Q I rx ry ⟨rfl, ?_⟩
    simpa using h
  · obtain ⟨da, db, h1, h2, h3, h4, h5, h6⟩ := h
    exact op_neD hu pins s σ H _ _ v u Q I rx ry ⟨da, db, h1, h2, h3, h4, h5, by simpa using h6⟩
  · exact h.elim
def gLt : R2 := fun x y H Q => match x, y with
  | .int i, .int j => Q (.bl (decide (i < j))) H
  | .str i, .str j => Q (.bl (decide (i.cps.toList < j.cps.toList))) H
  | _, _ => False
theorem og_lt : OpR X (compareOp .Lt) gLt := by
  intro pins s σ H x y v u Q I rx ry h
  unfold gLt at h
  split at h
  · exact op_lt pins s σ H _ _ v u Q I rx ry ⟨_, _, rfl, rfl, h⟩
  · exact op_lt_str pins s σ H _ _ v u Q I rx ry ⟨_, _, rfl, rfl, h⟩
  · exact h.elim
def gLe : R2 := fun x y H Q => match x, y with
  | .int i, .int j => Q (.bl (decide (i ≤ j))) H
  | .str i, .str j => Q (.bl (!decide (j.cps.toList < i.cps.toList))) H
  | _, _ => False
theorem og_le : OpR X (compareOp .LtE) gLe := by
  intro pins s σ H x y v u Q I rx ry h
  unfold gLe at h
  split at h
  · exact op_le pins s σ H _ _ v u Q I rx ry ⟨_, _, rfl, rfl, h⟩
  · exact op_le_str pins s σ H _ _ v u Q I rx ry ⟨_, _, rfl, rfl, h⟩
  · exact h.elim
def gGt : R2 := fun x y H Q => match x, y with
  | .int i, .int j => Q (.bl (decide (j < i))) H
  | _, _ => False
theorem og_gt : OpR X (compareOp .Gt) gGt := by
  intro pins s σ H x y v u Q I rx ry h
  unfold gGt at h
  split at h
  · exact op_gt pins s σ H _ _ v u Q I rx ry ⟨_, _, rfl, rfl, h⟩
  · exact h.elim
def gIn (K : PySem.W.Frag) (neg : Bool) : R2 := fun x y H Q => match y with
  | .str j => (match x with
    | .str i => Q (.bl (neg ^^ !(Builtin.Str.occurrences j i 0 j.length 1).isEmpty)) H
    | _ => False)
  | .ref p => ∃ xs, (SqL K H p xs ∨ SqT K H p xs) ∧ flatV x = true ∧ xs.all flatV = true ∧ Q (.bl (neg ^^ inV x xs)) H
  | _ => False
theorem og_notin {K : PySem.W.Frag} (hK : X.K = K := by rfl) : OpR X (compareOp .NotIn) (gIn K true) := by
  subst hK
  intro pins s σ H x y v u Q I rx ry h
  unfold gIn at h
  split at h
  · split at h
    · refine op_notin_str pins s σ H _ _ v u Q I rx ry ⟨_, _, rfl, rfl, ?_⟩
      simpa using h
    · exact h.elim
  · obtain ⟨xs, h1, h2, h3, h4⟩ := h
    exact op_notIn_seq pins s σ H _ _ v u Q I rx ry ⟨_, xs, rfl, h1, h2, h3, by simpa using h4⟩
  · exact h.elim
def gIs (neg : Bool) : R2 := fun x y H Q => match y with
  | .non => (match x with
    | .non => Q (.bl (neg ^^ true)) H
    | _ => Q (.bl (neg ^^ false)) H)
  | _ => False
theorem og_is : OpR X (compareOp .Is) (gIs false) := by
  intro pins s σ H x y v u Q I rx ry h
  unfold gIs at h
  split at h
  · refine op_isN pins s σ H _ _ v u Q I rx ry ⟨rfl, ?_⟩
    split at h
    · exact h
    · rename_i hn
      have e : decide (x = V.non) = false := decide_eq_false hn
      rw [e]
      exact h
  · exact h.elim
def gIx (K : PySem.W.Frag) (w : World) : R2 := fun x y H Q => match x, y with
  | .ref q, .int i => (∃ xs v, SqL K H q xs ∧ atI xs i = some v ∧ Q v H) ∨ ∃ xs v, SqT K H q xs ∧ atI xs i = some v ∧ Q v H
  | .str z, .int i => z.length ≤ sizeLine ∧ ∃ c, atI z.cps.toList i = some c ∧ Q (.str ⟨#[c]⟩) H
  | .ref q, .str k => (∃ kvs v, KTab K w q kvs ∧ kvs.lookup k = some v ∧ Q v H) ∨ ∃ (kvs : List (Key × V)) (v : V), H q = some (.dK kvs) ∧ valV kvs (Sum.inr k) = some v ∧ Q v H
  | _, _ => False
theorem og_ix (hu : X.A.units + 64 < cLine) {K : PySem.W.Frag} {w : World} (hK : X.K = K := by rfl) (hw : X.w = w := by rfl) : IxR X (gIx K w) := by
  subst hK
  subst hw
  intro value slice pins s σ H x y v u Q I rx ry h hs
  unfold gIx at h
  split at h
  · rcases h with ⟨xs, z, h1, h2, h3⟩ | ⟨xs, z, h1, h2, h3⟩
    · exact ix_list value slice pins s σ H _ _ v u Q I rx ry ⟨_, xs, _, z, rfl, rfl, h1, h2, h3⟩ hs
    · exact ix_tup value slice pins s σ H _ _ v u Q I rx ry ⟨_, xs, _, z, rfl, rfl, h1, h2, h3⟩ hs
  · obtain ⟨hz, c, h1, h2⟩ := h
    exact ix_str value slice pins s σ H _ _ v u Q I rx ry ⟨_, _, c, rfl, rfl, hz, h1, h2⟩ hs
  · rcases h with ⟨kvs, z, h1, h2, h3⟩ | ⟨kvs, z, h1, h2, h3⟩
    · exact ix_ktab value slice pins s σ H _ _ v u Q I rx ry ⟨_, kvs, _, z, rfl, rfl, h1, h2, h3⟩ hs
    · cases rx
      have hd := dk_of I.hok h1
      obtain ⟨_, _, vs, _, dd⟩ := hd
      exact tail_any dd.typeIs slot_dict_getitem.lookup (d_getItem (y := kV (Sum.inr _)) (v := z) (by omega) I (.inl ⟨kvs, _, .inl h1, rfl, h2.symm⟩) ry fun w' s' I' rw' => ⟨z, H, I', rw', h3⟩) hs
  · exact h.elim
def gSl (K : PySem.W.Frag) : V → Option Int → Option Int → Hp → VK → Prop := fun x lo hi H Q => match x with
  | .str z => z.length ≤ sizeLine ∧ Q (.str (Txt.slice z lo hi)) H
  | .ref a => ∃ xs, SqL K H a xs ∧ ∀ p, H p = none → Q (.ref p) (upd H p (.lst (cutV xs lo hi)))
  | _ => False
theorem og_sl {K : PySem.W.Frag} (hK : X.K = K := by rfl) : SlR X (gSl K) := by
  subst hK
  intro pins s σ H x v vl vu lo hi sl Q I rx hs pl pu h
  unfold gSl at h
  split at h
  · exact sl_str pins s σ H _ v vl vu lo hi sl Q I rx hs pl pu ⟨_, rfl, h.1, h.2⟩
  · obtain ⟨xs, h1, h2⟩ := h
    exact sl_list pins s σ H _ v vl vu lo hi sl Q I rx hs pl pu ⟨_, xs, rfl, h1, h2⟩
  · exact h.elim
def mPart (t : TE) : TO := fun σ H Q => t σ H fun x H1 => match x with
  | .int i => Q (some i) H1
  | _ => False
theorem mPart_eq (t : TE) : mPart t = tPart t := by
  funext σ H Q
  unfold mPart tPart
  congr 1
  funext x H'
  refine propext ⟨fun h => ?_, fun ⟨k, e, h⟩ => ?_⟩
  · split at h
    · exact ⟨_, rfl, h⟩
    · exact h.elim
  · subst e; exact h
theorem po_someM (h : PE X e te) : PO X (some e) (mPart te) := by rw [mPart_eq]; exact po_some h

def gLen (K : PySem.W.Frag) : List V → Hp → VK → Prop := fun xs H Q => match xs with
  | [.str y] => y.length ≤ sizeLine ∧ Q (.int y.length) H
  | [.ref p] => ∃ ys, (SqL K H p ys ∨ SqT K H p ys) ∧ Q (.int ys.length) H
  | _ => False
theorem cg_len {K : PySem.W.Frag} (hK : X.K = K := by rfl) : CallR X (.builtin "len") (gLen K) := by
  subst hK
  intro pins s σ H xs us Q I r h
  unfold gLen at h
  split at h
  · exact call_len_str pins s σ H _ us Q I r ⟨_, rfl, h.1, h.2⟩
  · obtain ⟨ys, h1, h2⟩ := h
    exact call_len_seq pins s σ H _ us Q I r ⟨_, ys, rfl, h1, h2⟩
  · exact h.elim
def gOrd : List V → Hp → VK → Prop := fun xs H Q => match xs with
  | [.str x] => x.length = 1 ∧ Q (.int (x.cps.getD 0 0 : Nat)) H
  | _ => False
theorem cg_ord : CallR X (.builtin "ord") gOrd := by
  intro pins s σ H xs us Q I r h
  unfold gOrd at h
  split at h
  · exact call_ord pins s σ H _ us Q I r ⟨_, rfl, h.1, h.2⟩
  · exact h.elim
def gJoin (K : PySem.W.Frag) : V → List V → Hp → VK → Prop := fun x vs H Q => match x, vs with
  | .str sep, [.ref l] => ∃ texts : List Str, SqL K H l (texts.map V.str) ∧ JoinOk sep texts = true ∧ Q (.str (Txt.join sep texts)) H
  | _, _ => False
theorem mg_join {K : PySem.W.Frag} (hK : X.K = K := by rfl) : MtR X "str.join" (gJoin K) := by
  subst hK
  intro pins s σ H x xs v us Q I rx rs h
  unfold gJoin at h
  split at h
  · obtain ⟨texts, h1, h2, h3⟩ := h
    exact mt_join pins s σ H _ _ v us Q I rx rs ⟨_, _, texts, rfl, rfl, h1, h2, h3⟩
  · exact h.elim
def gSplit : V → List V → Hp → VK → Prop := fun x vs H Q => match x, vs with
  | .str z, [.str y] => y.length ≠ 0 ∧ z.length < sizeLine ∧ (Txt.split z y).length ≤ sizeLine ∧ ∀ l, H l = none → Q (.ref l) (upd H l (.lst ((Txt.split z y).map V.str)))
  | _, _ => False
theorem mg_split : MtR X "str.split" gSplit := by
  intro pins s σ H x xs v us Q I rx rs h
  unfold gSplit at h
  split at h
  · obtain ⟨h1, h2, h3, h4⟩ := h
    exact mt_split pins s σ H _ _ v us Q I rx rs ⟨_, _, rfl, rfl, h1, h2, h3, h4⟩
  · exact h.elim
def gAppend : V → List V → Hp → VK → Prop := fun x vs H Q => match x, vs with
  | .ref l, [y] => ∃ xs, H l = some (.lst xs) ∧ xs.length < sizeLine ∧ Q .non (upd H l (.lst (xs ++ [y])))
  | _, _ => False
theorem mg_append : MtR X "list.append" gAppend := by
  intro pins s σ H x xs v us Q I rx rs h
  unfold gAppend at h
  split at h
  · obtain ⟨ys, h1, h2, h3⟩ := h
    exact mt_append pins s σ H _ _ v us Q I rx rs ⟨_, ys, _, rfl, rfl, h1, h2, h3⟩
  · exact h.elim
end
end L2

namespace L2
open PySem PySem.Spec PyProof.Rows
section
variable {X : Cx} {tg : Expr}
def iAny (K : PySem.W.Frag) (tl : TE) : TI := fun σ H R => tl σ H fun x H1 => match x with
  | .str z => R (Its z) H1
  | .ref a => ((∃ xs, SqL K H1 a xs) ∧ R (Itl K a) H1) ∨ ((∃ xs, SqT K H1 a xs) ∧ R (Itt K a) H1)
  | _ => False
theorem pi_any {l : Expr} {tl : TE} (hl : PE X l tl) {K : PySem.W.Frag} (hK : X.K = K := by rfl) : PI X tg l (iAny K tl) := by
  subst hK
  intro pins s σ H R I h
  refine thn (hl pins s σ H _ I h) fun v s1 ⟨x, H1, I1, r1, q1⟩ => ?_
  dsimp only at q1
  split at q1
  · rename_i z
    obtain ⟨t, rfl⟩ := r1
    have fin : ∀ b ∈ [s1.heap.objs.size], FpOk X pins H1 b := fun b hb => by
      have e : b = s1.heap.objs.size := by simpa using hb
      subst e
      exact I1.fpOk (Nat.le_refl _) (I1.hok.fresh (Nat.le_refl _))
    cases ha : z.cps.all (· < 128)
    · refine wpAny_pyIter_wide ha ?_
      exact ⟨s1.heap.objs.size, [s1.heap.objs.size], _, _, H1, rfl, I1.kept (t' := s1.toks) fun b o e => Heap.get?_push_of_some _ e,
        turn_str "str_iterator" _ z t (fun A' hA => Walks.strWide hA _ z t) (fun A i s Q E st h => wpAny_pyIter_striter_wide st h) (by decide), ⟨_, Heap.get?_push_size _ rfl, rfl, rfl⟩, fin, q1⟩
    · refine wpAny_pyIter_ascii ha ?_
      exact ⟨s1.heap.objs.size, [s1.heap.objs.size], _, _, H1, rfl, I1.kept (t' := s1.toks) fun b o e => Heap.get?_push_of_some _ e,
        turn_str "str_ascii_iterator" _ z t (fun A' hA => Walks.strAscii hA _ z t) (fun A i s Q E st h => wpAny_pyIter_striter_ascii st h) (by decide), ⟨_, Heap.get?_push_size _ rfl, rfl, rfl⟩, fin, q1⟩
  · rename_i a
    cases r1
    have fin : ∀ b ∈ [s1.heap.objs.size], FpOk X pins H1 b := fun b hb => by
      have e : b = s1.heap.objs.size := by simpa using hb
      subst e
      exact I1.fpOk (Nat.le_refl _) (I1.hok.fresh (Nat.le_refl _))
    rcases q1 with ⟨⟨xs, hq⟩, q⟩ | ⟨⟨xs, hq⟩, q⟩
    · obtain ⟨its, rv, p, hz⟩ := I1.list hq
      refine wpAny_pyIter_list p.isList ?_
      exact ⟨s1.heap.objs.size, [s1.heap.objs.size], _, _, H1, rfl, I1.kept (t' := s1.toks) fun b o e => Heap.get?_push_of_some _ e, turn_list a _, ⟨_, Heap.get?_push_size _ rfl, rfl, rfl⟩, fin, q⟩
    · obtain ⟨its, rv, p, hz⟩ := I1.tuple hq
      refine wpAny_pyIter_tuple (show s1.heap.IsTuple a its.toArray from p) ?_
      exact ⟨s1.heap.objs.size, [s1.heap.objs.size], _, _, H1, rfl, I1.kept (t' := s1.toks) fun b o e => Heap.get?_push_of_some _ e, turn_tuple a _, ⟨_, Heap.get?_push_size _ rfl, rfl, rfl⟩, fin, q⟩
  · exact q1.elim
def noStar : Expr → Bool
  | .Starred .. => false
  | _ => true
def noStars : List Expr → Bool
  | [] => true
  | e :: r => noStar e && noStars r
theorem starEach_cons {e : Expr} {es : List Expr} {env : Env} (h : noStar e = true) : starEach (e :: es) env = (false, eval e env) :: starEach es env := by
  cases e <;> first | rfl | exact absurd h Bool.false_ne_true
theorem stars_none : ∀ {es : List Expr} {env : Env}, noStars es = true → ∀ x ∈ starEach es env, x.1 = false
  | [], env, _, x, hx => by
    have : starEach [] env = [] := rfl
    rw [this] at hx
    exact nomatch hx
  | e :: r, env, h, x, hx => by
    have h' : noStar e = true ∧ noStars r = true := by simpa [noStars] using h
    rw [starEach_cons h'.1] at hx
    rcases List.mem_cons.mp hx with q | q
    · rw [q]
    · exact stars_none h'.2 x q
theorem back_any {es : List Expr} {env : Env} {pos : Pos} (h : noStars es = true) : (backTo pos (starEach es env)).any (·.1) = false := by
  rw [List.any_eq_false]
  intro x hx
  unfold backTo at hx
  obtain ⟨y, hy, e⟩ := List.mem_map.mp hx
  have := stars_none h y hy
  obtain ⟨b, t⟩ := y
  dsimp only at e this
  rw [← e, this]
  exact Bool.false_ne_true
theorem back_all {es : List Expr} {env : Env} {pos : Pos} (h : noStars es = true) : (backTo pos (starEach es env)).all (fun x => !x.1) = true := by
  rw [List.all_eq_true]
  intro x hx
  unfold backTo at hx
  obtain ⟨y, hy, e⟩ := List.mem_map.mp hx
  have := stars_none h y hy
  obtain ⟨b, t⟩ := y
  dsimp only at e this
  rw [← e, this]
  rfl
def notSuper : Expr → Bool
  | .Call (.Name _ _) [] [] _ => false
  | _ => true
theorem base_of {o : Expr} {attr : Str} {env : Env} {whole : Sem Value} (h : notSuper o = true) : attributeBase o attr env whole = whole := by
  unfold attributeBase
  split
  · exact absurd h Bool.false_ne_true
  · rfl
theorem pa_consM {es : List Expr} {t : TA} (ha : PE X e te) (hr : PA X es t) (h : noStar e = true := by rfl) : PA X (e :: es) (tCons te t) := pa_cons ha hr (starEach_cons h)
theorem pe_callBM {x : Str} {id : String} {r : List V → Hp → VK → Prop} {es : List Expr} {t : TA} {p pos : Pos} (hc : CallR X (.builtin id) r) (hg : Gl X x) (hm : X.mg x = none) (hv : bootBuiltins x = some (.builtin id)) (ha : PA X (e :: es) t) (hn : x ≠ "__name__" := by decide) (hdb : (x == ("__debug__" : Str)) = false := by decide)
    (h : noStars (e :: es) = true := by rfl) : PE X (.Call (.Name x p) (e :: es) [] pos) (tCB r t) := by
  have h' : noStar e = true ∧ noStars es = true := by simpa [noStars] using h
  exact pe_callB hc hg hm hv ha hn hdb (starEach_cons h'.1) (back_any h'.2)
theorem pe_bmK {K : PySem.W.Frag} {o e : Expr} {es : List Expr} {to : TE} {t : TA} {name : Str} {apos cpos : Pos} {T id : String} {r : V → List V → Hp → VK → Prop} (pa : PlainAttrs T) (slot : Slot T name id) (hty : typeOf (.builtin id) = pure (.type "method_descriptor")) (hm : MtR X id r) (ho : PE X o to) (ha : PA X (e :: es) t) (hK : X.K = K := by rfl)
    (hsup : notSuper o = true := by rfl) (h : noStars (e :: es) = true := by rfl) (h30 : (e :: es).length < 30 := by decide) (hline : (apos.endLine == cpos.line) = true := by rfl) :
    PE X (.Call (.Attribute o name apos) (e :: es) [] cpos) (tBM K T r to t) := by
  subst hK
  have h' : noStar e = true ∧ noStars es = true := by simpa [noStars] using h
  refine pe_bm pa slot hty hm ho ha (base_of hsup) ?_ hline (starEach_cons h'.1) (back_any h'.2)
  rw [back_all h]
  have e0 : keywordEach [] X.env = [] := rfl
  rw [e0]
  simpa [backToKw] using h30
theorem pe_kget1K {K : PySem.W.Frag} {w : World} {o e : Expr} {apos cpos : Pos} {td ty : TE} (ho : PE X o td) (he : PE X e ty) (m : M1 X o "get" apos e cpos) (hK : X.K = K := by rfl) (hw : X.w = w := by rfl) : PE X (.Call (.Attribute o "get" apos) [e] [] cpos) (tKGet1 K w td ty) := by
  subst hK hw
  exact pe_kget1 ho he m
structure Def (P : Program) (w : World) (K : PySem.W.Frag) (mg : Str → Option Value) (base : Heap) (k : Nat) (x : Str) (ps : List Str) (sp : Sp) : Prop where
  ex : ∃ f fd, mg x = some (.ref f) ∧ PySem.W.keepIn K (.ref f) = true ∧ (∃ oc od osl, K.lookup f = some ⟨oc, od, .func fd, osl⟩) ∧ Binds K fd ps [] ∧ FnOk P w K mg base CX0 k f fd ps sp
theorem pe_def {k : Nat} {x : Str} {ps : List Str} {sp : Sp} {e : Expr} {es : List Expr} {t : TA} {p pos : Pos} (D : Def X.prog X.w X.K X.mg X.base k x ps sp) (hr : Room k X.A) (hg : Gl X x) (ha : PA X (e :: es) t) (hdb : (x == ("__debug__" : Str)) = false := by decide)
    (hst : noStars (e :: es) = true := by rfl) (hx : Passes CX0 X E0 := by exact pass0) :
    PE X (.Call (.Name x p) (e :: es) [] pos) (fun σ H Q => t σ H fun vs H1 => sp vs H1 Q E0) := by
  obtain ⟨f, fd, mgf, kp, _, b, G⟩ := D.ex
  have h' : noStar e = true ∧ noStars es = true := by simpa [noStars] using hst
  have he := starEach_cons (es := es) (env := X.env) h'.1
  have hpl := back_any (env := X.env) (pos := pos) h'.2
  have h := pe_call (X := X) (dvs := []) (E := E0) (p := p) (pos := pos) G hr hg mgf kp b .nil hx ha hdb he hpl
  intro pins s σ H Q I hq
  refine h pins s σ H Q I ?_
  show t σ H fun vs H1 => sp (vs ++ []) H1 Q E0
  have e1 : (fun (vs : List V) H1 => sp (vs ++ []) H1 Q E0) = fun vs H1 => sp vs H1 Q E0 := by funext vs H1; rw [List.append_nil]
  rw [e1]
  exact hq
end
theorem Fun.lk {K : PySem.W.Frag} {x qual : Str} {st : Stmt} {f : Addr} {fd : FuncData} (F : Fun K x qual st f fd) : ∃ oc od osl, K.lookup f = some ⟨oc, od, .func fd, osl⟩ := by
  obtain ⟨oc, od, kV, doc, pm, an, cdv, ct, osl, _, lk, _⟩ := F.ex
  exact ⟨oc, od, osl, lk⟩
structure Raw (K : PySem.W.Frag) (mg : Str → Option Value) (x : Str) (st : Stmt) (ps : List Str) : Prop where
  ex : ∃ f fd, mg x = some (.ref f) ∧ Fun K x x st f fd ∧ ∀ (us : List Value), us.length = ps.length → bindArgs fd ⟨us, []⟩ = pure (ps.zip us)
theorem Raw.mk' {K : PySem.W.Frag} {mg : Str → Option Value} {h : Heap} {x : Str} {st : Stmt} {ps : List Str} {f : Addr} {oc : Value} {od an : Option Addr} {osl : Array (Option Value)} {kV doc pm cdv ct : Value} (X : K.In h) (G : h.Ns mainGlobals mg)
    (a : PySem.W.nsIn K mainGlobals x = some (some (.ref f))) (l : K.lookup f = some ⟨oc, od, .func (PySem.W.fnOf x x (defArgs st) (defBody st) (defScope st) .none kV doc pm an cdv ct), osl⟩)
    (c : PySem.W.codeIn K cdv x = true) (k : PySem.W.keepIn K (.ref f) = true)
    (hb : ∀ (us : List Value), us.length = ps.length → bindArgs (PySem.W.fnOf x x (defArgs st) (defBody st) (defScope st) .none kV doc pm an cdv ct) ⟨us, []⟩ = pure (ps.zip us)) : Raw K mg x st ps :=
  ⟨⟨f, _, PySem.W.mg_of X G a, fun_mk l c k, hb⟩⟩
theorem Raw.def {P : Program} {w : World} {K : PySem.W.Frag} {mg : Str → Option Value} {base : Heap} {x : Str} {st : Stmt} {N ps : List Str} {k : Nat} {sp : Sp} (R : Raw K mg x st ps) (S : FnScope N ps (defScope st)) (len : ∀ vs H Q E, sp vs H Q E → vs.length = ps.length)
    (hbody : ∀ (f : Addr) (cdv : Value) (A : Around) (outer : List Env) (s : Shared) (H : Hp) (vs : List V) (Q : VK) (E : XK), Room k (A.deeper (envOfC x (defScope st) s.heap.objs.size f cdv)) → sp vs H Q E →
      ∃ t, PSs (cxOf CX0 P w K mg base N x (defScope st) f cdv A outer s H E).nox (defBody st) t ∧ t { nx := fun _ H' => Q .non H', rt := Q } (start N vs) H) : Def P w K mg base (k + 1) x ps sp := by
  obtain ⟨f, fd, h1, F, b⟩ := R.ex
  exact ⟨f, fd, h1, F.kp, F.lk, .all b, F.ok S len (fun cdv => hbody f cdv)⟩
theorem Def.at {P : Program} {w : World} {K : PySem.W.Frag} {mg : Str → Option Value} {base : Heap} {k : Nat} {x : Str} {ps : List Str} {sp : Sp} {f : Addr} {fd : FuncData} (D : Def P w K mg base k x ps sp) (h : mg x = some (.ref f))
    (l : ∃ oc od osl, K.lookup f = some ⟨oc, od, .func fd, osl⟩) : FnOk P w K mg base CX0 k f fd ps sp := by
  obtain ⟨f', fd', h', _, ⟨oc', od', osl', l'⟩, _, F⟩ := D.ex
  obtain ⟨oc, od, osl, l⟩ := l
  cases h.symm.trans h'
  have e := l.symm.trans l'
  simp only [Option.some.injEq, Obj.mk.injEq, Data.func.injEq] at e
  rw [e.2.2.1]
  exact F
section
variable {K : PySem.W.Frag} {w : World} {mg : Str → Option Value} {h : Heap} {x : Str}
theorem int_mk {i : Int} {t : Tok} (X : K.In h) (G : h.Ns mainGlobals mg) (a : PySem.W.nsIn K mainGlobals x = some (some (.int i t))) : ∃ t, mg x = some (.int i t) := ⟨_, PySem.W.mg_of X G a⟩
theorem dict_mk {b : Addr} {es : Array DictEntry} {n : Nat} {kvs : List (Str × V)} (X : K.In h) (G : h.Ns mainGlobals mg) (a : PySem.W.nsIn K mainGlobals x = some (some (.ref b))) (l : K.lookup b = some ⟨.type "dict", none, .dict es n, #[]⟩)
    (k : PySem.W.KeysLit w.params es.toList) (p : Paired (fun (p : Str × V) (e : DictEntry) => (∃ t, e.key = .str p.1 t) ∧ RelV p.2 e.val) kvs es.toList) (s : (b == sysModules) = false) : ∃ t, mg x = some (.ref t) ∧ KTab K w t kvs :=
  ⟨_, PySem.W.mg_of X G a, ⟨es, n, l, k, p⟩, s⟩
theorem tup_mk {b : Addr} {od : Option Addr} {its : Array Value} {n : Nat} {osl : Array (Option Value)} {xs : List V} (X : K.In h) (G : h.Ns mainGlobals mg) (a : PySem.W.nsIn K mainGlobals x = some (some (.ref b))) (l : K.lookup b = some ⟨.type "tuple", od, .seq its n, osl⟩)
    (z : its.size ≤ sizeLine) (v : Vals xs its.toList) : ∃ t, mg x = some (.ref t) ∧ ∀ H, SqT K H t xs :=
  ⟨_, PySem.W.mg_of X G a, fun H => .inr ⟨_, its, n, l, rfl, rfl, z, v⟩⟩
end
end L2

set_option Elab.async false
set_option linter.all false
set_option maxRecDepth 100000
set_option maxHeartbeats 4000000
namespace L2
open PySem PySem.Spec PyProof.Rows

theorem same_upd {H H' : Hp} {p : Addr} {o : HO} (e : Same H H') (h : H p = none) : Same H (upd H' p o) := fun b u q => by
  rw [upd_ne (ne_of_none q h)]
  exact e b u q
theorem same_new {H : Hp} {p : Addr} {o : HO} (h : H p = none) : Same H (upd H p o) := same_upd (Same.refl H) h
section
variable {cap : List (Option Nat)} {g : TG} {tc : TT} {te : TE} {Q : Addr → Hp → Prop} {σ : St} {H : Hp}
theorem gath_of {J : It} {n : Nat} {item : Nat → V → Prop} (Pv : Nat → List V → St → Hp → Prop) (hn : n ≤ 1000000) (h0 : Pv 0 [] (capt cap σ) H) (hlen : ∀ i ys σ' H', Pv i ys σ' H' → ys.length ≤ i)
    (hgo : ∀ i ys σ' H', i < n → Pv i ys σ' H' → J.go i H') (hyld : ∀ i ys σ' H' x H2, i < n → Pv i ys σ' H' → J.yld i H' x H2 → item i x ∧ H2 = H') (hstop : ∀ ys σ' H', Pv n ys σ' H' → J.stop n H')
    (hs : ∀ i x ys σ' H', i < n → item i x → Pv i ys σ' H' → g x σ' H' fun σ3 H3 => tc σ3 H3 fun b H4 => if b = true then te σ3 H4 fun y H5 => Pv (i + 1) (ys ++ [y]) σ3 H5 else Pv (i + 1) ys σ3 H4)
    (hd : ∀ ys σ' H', Pv n ys σ' H' → ∀ D, H' D = none → Q D (upd H' D (.lst ys))) : Gath J cap g tc te Q σ H := by
  have big : (1000000 : Nat) < sizeLine := by rw [sizeLine_eq]; decide
  refine ⟨fun i m ys σ' H' => m = n - i ∧ i ≤ n ∧ Pv i ys σ' H', ⟨n, by simp, Nat.zero_le _, h0⟩, ?_⟩
  rintro i m ys σ' H' ⟨rfl, hi, p⟩
  have hl := hlen i ys σ' H' p
  by_cases hlt : i < n
  · refine .inr ⟨hgo i ys σ' H' hlt p, by omega, Pv (i + 1), fun ys2 σ2 H2 p' => ⟨n - (i + 1), by omega, rfl, hlt, p'⟩, fun x H2 y => ?_⟩
    obtain ⟨h1, h2⟩ := hyld i ys σ' H' x H2 hlt p y
    subst h2
    exact hs i x ys σ' _ hlt h1 p
  · have e : i = n := by omega
    subst e
    exact .inl ⟨hstop ys σ' H' p, by omega, hd ys σ' H' p⟩
theorem gath_list {K : PySem.W.Frag} {a : Addr} {xs : List V} (Pv : Nat → List V → St → Hp → Prop) (hn : xs.length ≤ 1000000) (h0 : Pv 0 [] (capt cap σ) H) (hlen : ∀ i ys σ' H', Pv i ys σ' H' → ys.length ≤ i)
    (hl : ∀ i ys σ' H', Pv i ys σ' H' → SqL K H' a xs)
    (hs : ∀ i x ys σ' H', xs[i]? = some x → Pv i ys σ' H' → g x σ' H' fun σ3 H3 => tc σ3 H3 fun b H4 => if b = true then te σ3 H4 fun y H5 => Pv (i + 1) (ys ++ [y]) σ3 H5 else Pv (i + 1) ys σ3 H4)
    (hd : ∀ ys σ' H', Pv xs.length ys σ' H' → ∀ D, H' D = none → Q D (upd H' D (.lst ys))) : Gath (Itl K a) cap g tc te Q σ H :=
  gath_of (item := fun i x => xs[i]? = some x) Pv hn h0 hlen (fun i ys σ' H' hi p => ⟨xs, xs[i], hl i ys σ' H' p, by simp [hi]⟩) (fun i ys σ' H' x H2 _ p y => ⟨y.2 xs (hl i ys σ' H' p), y.1⟩)
    (fun ys σ' H' p => ⟨xs, hl _ ys σ' H' p, Nat.le_refl _⟩) (fun i x ys σ' H' hi e p => hs i x ys σ' H' e p) hd
theorem gath_str {x : Str} (Pv : Nat → List V → St → Hp → Prop) (hn : x.cps.size ≤ 1000000) (h0 : Pv 0 [] (capt cap σ) H) (hlen : ∀ i ys σ' H', Pv i ys σ' H' → ys.length ≤ i)
    (hs : ∀ i c ys σ' H', x.cps[i]? = some c → Pv i ys σ' H' → g (.str ⟨#[c]⟩) σ' H' fun σ3 H3 => tc σ3 H3 fun b H4 => if b = true then te σ3 H4 fun y H5 => Pv (i + 1) (ys ++ [y]) σ3 H5 else Pv (i + 1) ys σ3 H4)
    (hd : ∀ ys σ' H', Pv x.cps.size ys σ' H' → ∀ D, H' D = none → Q D (upd H' D (.lst ys))) : Gath (Its x) cap g tc te Q σ H :=
  gath_of (item := fun i v => ∃ c, x.cps[i]? = some c ∧ v = .str ⟨#[c]⟩) Pv hn h0 hlen (fun i ys σ' H' hi _ => hi) (fun i ys σ' H' v H2 _ _ y => ⟨y.2, y.1⟩)
    (fun _ _ _ _ => rfl) (fun i v ys σ' H' hi ⟨c, e, q⟩ p => by subst q; exact hs i c ys σ' H' e p) hd
end
end L2

set_option Elab.async false
set_option linter.all false
set_option maxRecDepth 100000
set_option maxHeartbeats 4000000
namespace L2
open PySem PySem.Spec PyProof.Rows
@[irreducible] def Irr (p : Prop) : Prop := p
theorem Irr.mk {p : Prop} (h : p) : Irr p := by unfold Irr; exact h
theorem Irr.out {p : Prop} (h : Irr p) : p := by unfold Irr at h; exact h
abbrev JE (X : Cx) (e : Expr) (t : TE) : Prop := Irr (PE X e t)
abbrev JT (X : Cx) (e : Expr) (t : TT) : Prop := Irr (PT X e t)
abbrev JW (X : Cx) (e : Expr) (t : TT) : Prop := Irr (PW X e t)
abbrev JA (X : Cx) (es : List Expr) (t : TA) : Prop := Irr (PA X es t)
abbrev JO (X : Cx) (e : Option Expr) (t : TO) : Prop := Irr (PO X e t)
abbrev JS (X : Cx) (st : Stmt) (t : TS) : Prop := Irr (PS X st t)
abbrev JSs (X : Cx) (st : List Stmt) (t : TS) : Prop := Irr (PSs X st t)
abbrev JG (X : Cx) (e : Expr) (t : TG) : Prop := Irr (PG X e t)
abbrev JI (X : Cx) (tg it : Expr) (t : TI) : Prop := Irr (PI X tg it t)
section
variable {X : Cx} {a b c e f k o v tg it : Expr} {es : List Expr} {ta tb tc te td ty tx tk tv : TE} {tA tB' : TT} {t : TA} {u u' : TS} {pos pos' p p2 apos cpos spos : Pos} {st : Stmt} {sts sts' : List Stmt} {K : PySem.W.Frag} {w : World}

theorem o_add (hK : X.K = K := by rfl) : Irr (OpR X (binaryOp .Add) (gAdd K)) := .mk (og_add hK)
theorem o_sub : Irr (OpR X (binaryOp .Sub) gMinus) := .mk og_sub
theorem o_mul : Irr (OpR X (binaryOp .Mult) gMul) := .mk og_mul
theorem o_div : Irr (OpR X (binaryOp .FloorDiv) gDiv) := .mk og_div
theorem o_mod : Irr (OpR X (binaryOp .Mod) gMod) := .mk og_mod
theorem o_iadd : Irr (PIp X .Add gIadd) := .mk og_iadd
theorem o_eq (hu : X.A.units + 64 < cLine) (hK : X.K = K := by rfl) : Irr (OpR X (compareOp .Eq) (gEq K false)) := .mk (og_eq hu hK)
theorem o_ne (hu : X.A.units + 64 < cLine) (hK : X.K = K := by rfl) : Irr (OpR X (compareOp .NotEq) (gEq K true)) := .mk (og_ne hu hK)
theorem o_lt : Irr (OpR X (compareOp .Lt) gLt) := .mk og_lt
theorem o_le : Irr (OpR X (compareOp .LtE) gLe) := .mk og_le
theorem o_gt : Irr (OpR X (compareOp .Gt) gGt) := .mk og_gt
theorem o_notin (hK : X.K = K := by rfl) : Irr (OpR X (compareOp .NotIn) (gIn K true)) := .mk (og_notin hK)
theorem o_is : Irr (OpR X (compareOp .Is) (gIs false)) := .mk og_is
theorem o_ix (hu : X.A.units + 64 < cLine) (hK : X.K = K := by rfl) (hw : X.w = w := by rfl) : Irr (IxR X (gIx K w)) := .mk (og_ix hu hK hw)
theorem o_sl (hK : X.K = K := by rfl) : Irr (SlR X (gSl K)) := .mk (og_sl hK)
theorem c_len (hK : X.K = K := by rfl) : Irr (CallR X (.builtin "len") (gLen K)) := .mk (cg_len hK)
theorem c_ord : Irr (CallR X (.builtin "ord") gOrd) := .mk cg_ord
theorem m_join (hK : X.K = K := by rfl) : Irr (MtR X "str.join" (gJoin K)) := .mk (mg_join hK)
theorem m_split : Irr (MtR X "str.split" gSplit) := .mk mg_split
theorem m_append : Irr (MtR X "list.append" gAppend) := .mk mg_append
theorem jn (i : Nat) {x : Str} (hN : X.N[i]? = some x := by rfl) (hv : Vis X.env.scope x := by first | exact Or.inl rfl | exact Or.inr (Or.inl rfl) | exact Or.inr (Or.inr rfl)) (hd : (x == ("__debug__" : Str)) = false := by decide)
    (hcd : (x == ("__classdict__" : Str)) = false := by decide) : JE X (.Name x pos) (mVar i) := .mk (pn i hN hv hd hcd)
theorem j_int {i : Int} {j : Nat} : JE X (.Constant (.int i) j pos) (tC (.int i)) := .mk pe_int
theorem j_bl {b : Bool} {j : Nat} : JE X (.Constant (.bool b) j pos) (tC (.bl b)) := .mk pe_bl
theorem j_non {j : Nat} : JE X (.Constant .none j pos) (tC .non) := .mk pe_non
theorem j_str {x : Str} {j : Nat} : JE X (.Constant (.str x) j pos) (tC (.str x)) := .mk pe_str
theorem j_glob {x : Str} {v : V} {u : Value} (hg : Gl X x) (hm : X.mg x = some u) (r : RelV v u) (hd : (x == ("__debug__" : Str)) = false := by decide) : JE X (.Name x pos) (tC v) := .mk (pe_glob hg hm r hd)
theorem j_bltn {x : Str} {v : V} {u : Value} (hg : Gl X x) (hm : X.mg x = none) (hv : bootBuiltins x = some u) (r : RelV v u) (hn : x ≠ "__name__" := by decide) (hd : (x == ("__debug__" : Str)) = false := by decide) : JE X (.Name x pos) (tC v) := .mk (pe_bltn hg hm hv r hn hd)
theorem j_op {op : Operator} {r : R2} (ho : Irr (OpR X (binaryOp op) r)) (ha : JE X a ta) (hb : JE X b tb) : JE X (.BinOp a op b pos) (tOp r ta tb) := .mk (pe_op ho.out ha.out hb.out)
theorem j_cmp {op : CmpOp} {r : R2} (ho : Irr (OpR X (compareOp op) r)) (ha : JE X a ta) (hb : JE X b tb) (hm : behindInMarks op b = false := by first | exact nomark _ | rfl) : JE X (.Compare a [op] [b] pos) (tOp r ta tb) := .mk (pe_cmpR ho.out ha.out hb.out hm)
theorem j_chain {op op' : CmpOp} {r r' : R2} (ho : Irr (OpR X (compareOp op) r)) (ho' : Irr (OpR X (compareOp op') r')) (ha : JE X a ta) (hb : JE X b tb) (hc : JE X c tc)
    (hm : lastMarks [op, op'] [b, c] = false := by with_unfolding_all rfl) : JE X (.Compare a [op, op'] [b, c] pos) (mChain r r' ta tb tc) := .mk (pe_chainM ho.out ho'.out ha.out hb.out hc.out hm)
theorem j_and (ha : JE X a ta) (hb : JE X (.BoolOp .And (b :: es) pos) tb) : JE X (.BoolOp .And (a :: b :: es) pos) (mAndV ta tb) := .mk (pe_andM ha.out hb.out)
theorem j_one {op : BoolOp} (h : JE X a ta) : JE X (.BoolOp op [a] pos) ta := .mk (pe_one h.out)
theorem ja_nil : JA X [] tNil := .mk pa_nil
theorem ja_cons (ha : JE X e te) (hr : JA X es t) (h : noStar e = true := by rfl) : JA X (e :: es) (tCons te t) := .mk (pa_consM ha.out hr.out h)
theorem j_tup {x1 : Nat} (h : JA X es t) : JE X (.Tuple es x1 pos) (tTup t) := .mk (pe_tup h.out)
theorem j_lst (h : JA X es t) : JE X (.List es pos) (tLst t) := .mk (pe_lst h.out)
theorem jo_none : JO X none tNoPart := .mk po_none
theorem jo_some (h : JE X e te) : JO X (some e) (mPart te) := .mk (po_someM h.out)
theorem j_slice {r : V → Option Int → Option Int → Hp → VK → Prop} {lo hi : Option Expr} {tl th : TO} (hr : Irr (SlR X r)) (he : JE X e te) (hl : JO X lo tl) (hu : JO X hi th) : JE X (.Subscript e (.Slice lo hi none p2) pos) (tSl r te tl th) := .mk (pe_slice hr.out he.out hl.out hu.out)
theorem j_ix {r : R2} (hr : Irr (IxR X r)) (ha : JE X a ta) (hb : JE X b tb) (hs : PlainIx b := by exact fun _ _ => rfl) : JE X (.Subscript a b pos) (tOp r ta tb) := .mk (pe_ix hr.out ha.out hb.out hs)
theorem j_def {k : Nat} {x : Str} {ps : List Str} {sp : Sp} (D : Def X.prog X.w X.K X.mg X.base k x ps sp) (hr : Room k X.A) (hg : Gl X x) (ha : JA X (e :: es) t) (hdb : (x == ("__debug__" : Str)) = false := by decide)
    (hst : noStars (e :: es) = true := by rfl) : JE X (.Call (.Name x p) (e :: es) [] pos) (fun σ H Q => t σ H fun vs H1 => sp vs H1 Q E0) := .mk (pe_def D hr hg ha.out hdb hst)
theorem j_callB {x : Str} {id : String} {r : List V → Hp → VK → Prop} (hc : Irr (CallR X (.builtin id) r)) (hg : Gl X x) (hm : X.mg x = none) (hv : bootBuiltins x = some (.builtin id)) (ha : JA X (e :: es) t) (hn : x ≠ "__name__" := by decide) (hdb : (x == ("__debug__" : Str)) = false := by decide)
    (h : noStars (e :: es) = true := by rfl) : JE X (.Call (.Name x p) (e :: es) [] pos) (tCB r t) := .mk (pe_callBM hc.out hg hm hv ha.out hn hdb h)
theorem j_kget1 (ho : JE X o td) (he : JE X e ty) (m : M1 X o "get" apos e cpos := by exact ⟨rfl, rfl, rfl, rfl⟩) (hK : X.K = K := by rfl) (hw : X.w = w := by rfl) : JE X (.Call (.Attribute o "get" apos) [e] [] cpos) (tKGet1 K w td ty) := .mk (pe_kget1K ho.out he.out m hK hw)
theorem j_bm {name : Str} {T id : String} {r : V → List V → Hp → VK → Prop} {to : TE} (pa : PlainAttrs T) (slot : Slot T name id) (hty : typeOf (.builtin id) = pure (.type "method_descriptor")) (hm : Irr (MtR X id r)) (ho : JE X o to) (ha : JA X (e :: es) t) (hK : X.K = K := by rfl)
    (hsup : notSuper o = true := by rfl) (h : noStars (e :: es) = true := by rfl) (h30 : (e :: es).length < 30 := by decide) (hline : (apos.endLine == cpos.line) = true := by rfl) :
    JE X (.Call (.Attribute o name apos) (e :: es) [] cpos) (tBM K T r to t) := .mk (pe_bmK pa slot hty hm.out ho.out ha.out hK hsup h h30 hline)
theorem jt_cmp {op : CmpOp} {r : R2} (ho : Irr (OpR X (compareOp op) r)) (ha : JE X a ta) (hb : JE X b tb) (hm : behindInMarks op b = false := by first | exact nomark _ | rfl) : JT X (.Compare a [op] [b] pos) (mTest (tOp r ta tb)) := .mk (pt_cmpM ho.out ha.out hb.out hm)
theorem jt_chain {op op' : CmpOp} {r r' : R2} (ho : Irr (OpR X (compareOp op) r)) (ho' : Irr (OpR X (compareOp op') r')) (ha : JE X a ta) (hb : JE X b tb) (hc : JE X c tc)
    (hm : lastMarks [op, op'] [b, c] = false := by with_unfolding_all rfl) : JT X (.Compare a [op, op'] [b, c] pos) (mTest (mChain r r' ta tb tc)) := .mk (by rw [mChain_eq]; exact pt_chainM ho.out ho'.out ha.out hb.out hc.out hm)
theorem jt_val (h : JE X e te) (he : ∀ whole, isTrue e X.env whole = (do let v ← whole; standAt e.pos; holding [v] (truthy v)) := by intro _; rfl) : JT X e (mTest te) := .mk (pt_valM h.out he)
theorem jt_not (ha : JT X a tA) : JT X (.UnaryOp .Not a pos) (tNot tA) := .mk (pt_not ha.out)
theorem jw_and1 (ha : JT X a tA) : JW X (.BoolOp .And [a] pos) tA := .mk (pw_and1 ha.out)
theorem jw_or1 (ha : JT X a tA) : JW X (.BoolOp .Or [a] pos) tA := .mk (pw_or1 ha.out)
theorem jw_and (ha : JT X a tA) (hb : JW X (.BoolOp .And (b :: es) pos) tB') : JW X (.BoolOp .And (a :: b :: es) pos) (tAnd tA tB') := .mk (pw_and ha.out hb.out)
theorem jw_or (ha : JT X a tA) (hb : JW X (.BoolOp .Or (b :: es) pos) tB') : JW X (.BoolOp .Or (a :: b :: es) pos) (tOr tA tB') := .mk (pw_or ha.out hb.out)
theorem jw_t (h : JW X e tA) : JT X e tA := .mk h.out.pt

theorem ji_any (h : JE X e te) (hK : X.K = K := by rfl) : JI X tg e (iAny K te) := .mk (pi_any h.out hK)
theorem jg_name {i : Nat} {x : Str} (hN : X.N.Nodup) (hi : X.N[i]? = some x) (hx : Loc X.env.scope x) (hf : X.fn x = true ∨ X.env.scope.names.lookup x = some .local := by first | exact .inl rfl | exact .inr rfl | assumption) : JG X (.Name x pos) (gName i) := .mk (pg_name hN hi hx hf)
theorem jg_sub (ho : JE X o ta) (hi : JE X k tb) (ha : ∀ v, assign (.Subscript o k pos) X.env v = (do
      let ov ← holding [v] (eval o X.env)
      let iv ← holding [v, ov] (eval k X.env)
      standAt pos
      holding [v, ov, iv] (setItem ov iv v)
      release [v, ov, iv] []) := by intro _; rfl) : JG X (.Subscript o k pos) (L2.gSub ta tb rSetL) := .mk (pg_sub ho.out hi.out set_list ha)
abbrev JTs (X : Cx) (ifs : List Expr) (t : TT) : Prop := Irr (PTs X ifs t)
theorem jts_nil : JTs X [] tTrue := .mk pts_nil
theorem jts_one (h : JT X c tA) : JTs X [c] tA := .mk (pts_one h.out)
theorem js_comp {N : List Str} {cap : List (Option Nat)} {scope : Scope} {ifs : List Expr} {wi : TI} {g : TG} {i : Nat} {x : Str} (hc : X.calm = true) (S : CompScope X N cap scope) (hi : JI X tg it wi)
    (hg : ∀ C s₀ H₀ ex, JG (cxComp X N scope C s₀ H₀ ex) tg g) (ht : ∀ C s₀ H₀ ex, JTs (cxComp X N scope C s₀ H₀ ex) ifs tA) (he : ∀ C s₀ H₀ ex, JE (cxComp X N scope C s₀ H₀ ex) e te)
    (hN : X.N.Nodup) (hix : X.N[i]? = some x) (hx : X.env.scope.names.lookup x = some .local) (hsw : swapsWith (.ListComp e [⟨tg, it, ifs, 0⟩] scope pos) (some (.Name x pos')) spos.line X.env = pure true := by rfl)
    (hs : ∀ x, foldedSetIterable it X.env x = pure x := by intro _; rfl) :
    JS X (.Assign [.Name x pos'] (.ListComp e [⟨tg, it, ifs, 0⟩] scope pos) spos) (fun D σ H => tComp cap wi g tA te (fun d H' => D.nx (σ.set i (some (.ref d))) H') σ H) :=
  .mk (ps_comp hc S hi.out (fun C s₀ H₀ ex => (hg C s₀ H₀ ex).out) (fun C s₀ H₀ ex => (ht C s₀ H₀ ex).out) (fun C s₀ H₀ ex => (he C s₀ H₀ ex).out) hN hix hx hsw hs)

theorem jss_nil : JSs X [] tNext := .mk pss_nil
theorem jss_cons (h1 : JS X st u) (h2 : JSs X sts u') : JSs X (st :: sts) (tSeq u u') := .mk (pss_cons h1.out h2.out)
theorem jss_one (h1 : JS X st u) : JSs X [st] u := .mk (pss_one h1.out)
theorem js_set {i : Nat} {x : Str} (hN : X.N.Nodup) (hi : X.N[i]? = some x) (hx : Loc X.env.scope x) (he : JE X e te) (hs : swapsWith e (some (.Name x pos')) pos.line X.env = pure false := by rfl) (hf : X.fn x = true ∨ X.env.scope.names.lookup x = some .local := by first | exact .inl rfl | exact .inr rfl | assumption) :
    JS X (.Assign [.Name x pos'] e pos) (tAsg te (gName i)) := .mk (ps_set hN hi hx he.out hs hf)
theorem js_asg {g : TG} (he : JE X e te) (hg : JG X tg g) (hs : swapsWithSole [tg] e pos.line X.env = pure false := by rfl) (hw : swappedStores [tg] e X.env = pure none := by rfl)
    (h1 : (assignEach [tg] X.env).map (·.2) = [assign tg X.env] := by rfl) : JS X (.Assign [tg] e pos) (tAsg te g) := .mk (ps_asg he.out hg.out hs hw h1)
theorem js_aug {i : Nat} {x : Str} {op : Operator} {ti : TIp} (hN : X.N.Nodup) (hi : X.N[i]? = some x) (hx : Loc X.env.scope x) (he : JE X e te) (ho : Irr (PIp X op ti)) (hf : X.fn x = true ∨ X.env.scope.names.lookup x = some .local := by first | exact .inl rfl | exact .inr rfl | assumption) :
    JS X (.AugAssign (.Name x pos') op e pos) (mAug i te ti) := .mk (ps_augM hN hi hx he.out ho.out hf)
theorem js_if (hc : JT X c tA) (ha : JSs X sts u) (hb : JSs X sts' u') : JS X (.If c sts sts' pos) (tIfS tA u u') := .mk (ps_if hc.out ha.out hb.out)
theorem js_ret (he : JE X e te) : JS X (.Return (some e) pos) (tRet te) := .mk (ps_ret he.out)
theorem js_expr (he : JE X e te) (hs : swapsWith e none pos.line X.env = pure false := by rfl) : JS X (.Expr e pos) (tDrop te) := .mk (ps_expr he.out hs)
theorem js_for {wi : TI} {g : TG} (hp : PassesOwn (model X.prog X.w) X.A X.env X.xe) (hc : X.calm = true) (hi : JI X tg it wi) (hg : JG X tg g) (hb : JSs X sts u)
    (hs : ∀ x, foldedSetIterable it X.env x = pure x := by intro _; rfl) : JS X (.For tg it sts [] pos) (tFor wi g u) := .mk (ps_for hp hc hi.out hg.out hb.out hs)
end
theorem Raw.defJ {P : Program} {w : World} {K : PySem.W.Frag} {mg : Str → Option Value} {base : Heap} {x : Str} {st : Stmt} {N ps : List Str} {k : Nat} {sp : Sp} (R : Raw K mg x st ps) (S : FnScope N ps (defScope st)) (len : ∀ vs H Q E, sp vs H Q E → vs.length = ps.length)
    (hbody : ∀ (f : Addr) (cdv : Value) (A : Around) (outer : List Env) (s : Shared) (H : Hp) (vs : List V) (Q : VK) (E : XK), Room k (A.deeper (envOfC x (defScope st) s.heap.objs.size f cdv)) → sp vs H Q E →
      ∃ t, JSs (cxOf CX0 P w K mg base N x (defScope st) f cdv A outer s H E).nox (defBody st) t ∧ t { nx := fun _ H' => Q .non H', rt := Q } (start N vs) H) : Def P w K mg base (k + 1) x ps sp :=
  R.def S len fun f cdv A outer s H vs Q E hr h => let ⟨t, h1, h2⟩ := hbody f cdv A outer s H vs Q E hr h; ⟨t, h1.out, h2⟩
end L2

namespace L2
open PySem PySem.Spec PyProof.Rows
inductive TyD (K : PySem.W.Frag) (H : Hp) : V → String → Prop where
  | non : TyD K H .non "NoneType"
  | bl (x : Bool) : TyD K H (.bl x) "bool"
  | int (i : Int) : TyD K H (.int i) "int"
  | str (x : Str) : TyD K H (.str x) "str"
  | list {a : Addr} {xs : List V} (e : SqL K H a xs) : TyD K H (.ref a) "list"
  | tuple {a : Addr} {xs : List V} (e : SqT K H a xs) : TyD K H (.ref a) "tuple"
theorem isinst_okD {X : Cx} {pins : List (Addr × Obj)} {σ : St} {H : Hp} {s : Shared} {A : Around} {E : Value → Shared → Prop} {Q : Value → Shared → Prop} {c : Value} {b : Bool} {x : V} {u : Value} {t : String} (I : Inv X pins σ H s) (rx : RelV x u) (ty : TyD X.K H x t) (e : PySem.W.kitOne X.K (.type t) c = some b) (h : ∀ tk, Q (.bool b) { s with toks := tk }) :
    wpAny (model X.prog X.w) A (call (.builtin "isinstance") [u, c]) Q E s := by
  cases ty with
  | non => exact isinst_ok I rx .non e h
  | bl y => exact isinst_ok I rx (.bl y) e h
  | int i => exact isinst_ok I rx (.int i) e h
  | str y => exact isinst_ok I rx (.str y) e h
  | @list a xs ea =>
    cases (show u = Value.ref a from rx)
    obtain ⟨its, rv, ⟨o, n, h1, h2, h3, h4⟩, hz⟩ := I.list ea
    exact PySem.W.kia_one PySem.W.kitx_list I.kIn ⟨o, h1, h2⟩ e (fun z => nomatch z) h
  | @tuple a xs ea =>
    cases (show u = Value.ref a from rx)
    obtain ⟨its, rv, ⟨o, h1, h2, n, h4⟩, hz⟩ := I.tuple ea
    exact PySem.W.kia_one PySem.W.kitx_tuple I.kIn ⟨o, h1, h2⟩ e (fun z => nomatch z) h
def gIsi (K : PySem.W.Frag) : List V → Hp → VK → Prop := fun xs H Q => match xs with
  | [x, .ty Tn] => ∃ ty b, TyD K H x ty ∧ PySem.W.kitOne K (.type ty) (.type Tn) = some b ∧ Q (.bl b) H
  | _ => False
theorem c_isiD {X : Cx} {K : PySem.W.Frag} (hK : X.K = K := by rfl) : Irr (CallR X (.builtin "isinstance") (gIsi K)) := by
  refine .mk ?_
  subst hK
  intro pins s σ H xs us Q I r h
  unfold gIsi at h
  split at h
  · obtain ⟨ty, b, h1, h2, q⟩ := h
    obtain ⟨u, w', rfl, r1, r2⟩ := vals2 r
    cases r2
    exact isinst_okD I r1 h1 h2 fun tk => ⟨.bl b, H, I.tok tk, rfl, q⟩
  · exact h.elim
end L2

set_option Elab.async false
set_option linter.all false
set_option maxRecDepth 100000
set_option maxHeartbeats 4000000
namespace L2
open PySem PySem.Spec PyProof.Rows

abbrev anyHO : HO := .ext fun _ => True
def Kn (H : Hp) (a : Addr) (o : Obj) : Prop := H a = some (.frz o anyHO)
theorem Kn.get {P : Program} {w : World} {H : Hp} {h : Heap} {a : Addr} {o : Obj} (k : Kn H a o) (x : HOk P w H h) : h.get? a = some o := (x a _ k).1
def rem (cs : List Addr) (H : Hp) : Hp := fun b => if b ∈ cs then none else H b
theorem rem_in {cs : List Addr} {H : Hp} {b : Addr} (h : b ∈ cs) : rem cs H b = none := if_pos h
theorem rem_out {cs : List Addr} {H : Hp} {b : Addr} (h : b ∉ cs) : rem cs H b = H b := if_neg h
section
variable {P : Program} {w : World} {H H' : Hp} {h h' : Heap} {cs fs : List Addr}
theorem kn_not {c : Addr} {u : HO} (k : ∀ c ∈ cs, ∃ o, Kn H c o) (e : H c = some u) (n : ∀ o, u ≠ .frz o anyHO) : c ∉ cs := fun m => by
  obtain ⟨o, q⟩ := k c m
  unfold Kn at q
  rw [e] at q
  exact n o (Option.some.inj q)
theorem HOk.rem (x : HOk P w H h) (k : ∀ c ∈ cs, ∃ o, Kn H c o) : HOk P w (rem cs H) h := fun b u e => by
  have nb : b ∉ cs := fun m => by rw [rem_in m] at e; cases e
  rw [rem_out nb] at e
  refine (x b u e).stay (fun c v _ q => q) (fun c q => ?_) fun c xs q => ?_
  · rw [rem_out (kn_not k q fun o z => by cases z)]; exact q
  · rw [rem_out (kn_not k q fun o z => by cases z)]; exact q
end

structure CloScope (ps ls fr : List Str) (sc : Scope) : Prop where
  kind : sc.kind = .function
  co : sc.isCoroutine = false
  gen : sc.isGenerator = false
  nd : (ps ++ ls ++ fr).Nodup
  par : ∀ x ∈ ps, sc.names.lookup x = some .local
  nocell : ∀ y ∈ sc.names, y.2 ≠ .cell
  fre : ∀ x ∈ fr, sc.names.lookup x = some .free
  all : ∀ y ∈ sc.names, y.2 = .free → y.1 ∈ fr
structure Made (H : Hp) (f : Addr) (name qual : Str) (st : Stmt) (cl : List (Str × Addr)) : Prop where
  ex : ∃ (doc pm : Value) (c' : Addr) (ctv : Value) (oc : Obj) (vs : Array Value) (t : Tok), Kn H f (PySem.W.fnMade name qual (defArgs st) (defBody st) (defScope st) cl doc pm c' ctv) ∧ Kn H c' oc ∧ oc.data = .fields vs ∧ vs[1]? = some (.str qual t)
structure CloAt (H : Hp) (f : Addr) (name qual : Str) (st : Stmt) (fr : List Str) (cs : List Addr) (ws : List V) : Prop where
  ex : ∃ cl, Made H f name qual st cl ∧ (∀ x c, cl.lookup x = some c → ∃ j : Nat, fr[j]? = some x ∧ cs[j]? = some c) ∧ ∀ (j : Nat) x, fr[j]? = some x → ∃ c, cl.lookup x = some c ∧ cs[j]? = some c
  cells : ∀ (j : Nat) x, ws[j]? = some x → ∃ c o u, cs[j]? = some c ∧ Kn H c o ∧ o.data = .cell (some u) ∧ RelV x u
  l1 : cs.length = fr.length
  l2 : ws.length = fr.length
  nd : cs.Nodup
theorem CloAt.same {H H' : Hp} {f : Addr} {name qual : Str} {st : Stmt} {fr : List Str} {cs : List Addr} {ws : List V} (C : CloAt H f name qual st fr cs ws) (h : ∀ b o, Kn H b o → Kn H' b o) : CloAt H' f name qual st fr cs ws := by
  obtain ⟨cl, ⟨doc, pm, c', ctv, oc, vs, t, h1, h2, h3, h4⟩, h5, h6⟩ := C.ex
  refine ⟨⟨cl, ⟨doc, pm, c', ctv, oc, vs, t, h _ _ h1, h _ _ h2, h3, h4⟩, h5, h6⟩, fun j x e => ?_, C.l1, C.l2, C.nd⟩
  obtain ⟨c, o, u, q1, q2, q3, q4⟩ := C.cells j x e
  exact ⟨c, o, u, q1, h _ _ q2, q3, q4⟩

end L2

set_option Elab.async false
set_option linter.all false
set_option maxRecDepth 100000
set_option maxHeartbeats 4000000
namespace L2
open PySem PySem.Spec PyProof.Rows

structure FnV (P : Program) (w : World) (K : PySem.W.Frag) (mg : Str → Option Value) (base : Heap) (k : Nat) (f : Addr) (sp : Sp) : Prop where
  fn : ∀ vs H Q E, sp vs H Q E → ∃ oc od fd sl, Kn H f ⟨oc, od, .func fd, sl⟩
  run : ∀ (A : Around) (outer : List Env) (s : Shared) (H : Hp) (us : List Value) (vs : List V) (Q : VK) (E : XK), Room k A → Env0 P w K mg base A outer s H → Vals vs us → sp vs H Q E →
    codeAny (model P w) A (.call (.ref f) ⟨us, []⟩) (CR CX0 outer P w H s Q E) s
section
variable {X : Cx} {e : Expr} {es : List Expr} {t : TA} {p pos : Pos}
end

structure TabOk (H : Hp) (Pt : Addr) (qs : List (Pos × Str)) : Prop where
  ex : ∃ l : List (Pos × Addr), H Pt = some (.tbl (triples l).toArray) ∧ ∀ q ∈ l, ∃ qual oc vs t, (q.1, qual) ∈ qs ∧ Kn H q.2 oc ∧ oc.data = .fields vs ∧ vs[1]? = some (.str qual t)
theorem TabOk.same {H H' : Hp} {Pt : Addr} {qs : List (Pos × Str)} (T : TabOk H Pt qs) (h1 : H' Pt = H Pt) (h2 : ∀ b o, Kn H b o → Kn H' b o) : TabOk H' Pt qs := by
  obtain ⟨l, e, h⟩ := T.ex
  refine ⟨l, h1.trans e, fun q m => ?_⟩
  obtain ⟨qual, oc, vs, t, a, b, c⟩ := h q m
  exact ⟨qual, oc, vs, t, a, h2 _ _ b, c⟩
section
variable {X : Cx}
end
end L2

set_option Elab.async false
set_option linter.all false
set_option maxRecDepth 100000
set_option maxHeartbeats 4000000
namespace L2
open PySem PySem.Spec PyProof.Rows

structure Froz (env : Env) (N : List Str) (σ : St) (fr : List Str) (cs : List Addr) (os : List Obj) : Prop where
  l1 : cs.length = fr.length
  l2 : os.length = fr.length
  at_ : ∀ (j : Nat) x, fr[j]? = some x → ∃ (c : Addr) (o : Obj) (i : Nat) (v : V) (u : Value), cs[j]? = some c ∧ os[j]? = some o ∧ env.cells.lookup x = some c ∧ N[i]? = some x ∧ σ[i]? = some (some v) ∧ o.data = .cell (some u) ∧ RelV v u
  nd : cs.Nodup
section
variable {X : Cx} {e : Expr} {es : List Expr} {t : TA} {p pos : Pos}
end
structure Only2 (ts : List (Addr × Addr)) (H : Hp) : Prop where
  tabs : ∀ q ∈ ts, H q.2 = some (.tbl #[])
  rest : ∀ b, H b = none ∨ (∃ q ∈ ts, q.2 = b) ∨ ∃ o xs, H b = some (.frz o (.lst xs))
end L2

set_option Elab.async false
set_option linter.all false
set_option maxRecDepth 100000
set_option maxHeartbeats 4000000
namespace L2
open PySem PySem.Spec PyProof.Rows
section
variable {X : Cx} {e a : Expr} {es : List Expr} {t : TA} {ta te : TE} {p pos : Pos} {K : PySem.W.Frag}

def mNeg (ta : TE) : TE := fun σ H Q => ta σ H fun x H1 => match x with
  | .int i => Q (.int (-i)) H1
  | _ => False
theorem j_neg (ha : JE X a ta) : JE X (.UnaryOp .USub a pos) (mNeg ta) := by
  refine .mk ?_
  have h := pe_un (pos := pos) un_neg ha.out
  intro pins s σ H Q I q
  refine h pins s σ H Q I ?_
  unfold mNeg at q
  unfold tUn
  refine cast (congrArg (ta σ H) ?_) q
  funext x H1
  refine propext ⟨fun z => ?_, fun z => ?_⟩
  · split at z
    · exact ⟨_, rfl, z⟩
    · exact z.elim
  · obtain ⟨i, rfl, z⟩ := z
    exact z

end

structure FunC (K : PySem.W.Frag) (x : Str) (st : Stmt) (f : Addr) (fd : FuncData) (c : Addr) : Prop where
  ex : ∃ (oc : Value) (od : Option Addr) (kV doc pm : Value) (an : Option Addr) (ct : Value) (osl : Array (Option Value)),
    fd = PySem.W.fnOf x x (defArgs st) (defBody st) (defScope st) .none kV doc pm an (.ref c) ct ∧ K.lookup f = some ⟨oc, od, .func fd, osl⟩ ∧ PySem.W.codeIn K (.ref c) x = true
  kp : PySem.W.keepIn K (.ref f) = true
structure RawC (K : PySem.W.Frag) (mg : Str → Option Value) (x : Str) (st : Stmt) (ps : List Str) (c Pt : Addr) : Prop where
  ex : ∃ f fd, mg x = some (.ref f) ∧ FunC K x st f fd c ∧ ∀ (us : List Value), us.length = ps.length → bindArgs fd ⟨us, []⟩ = pure (ps.zip us)
  hd : PySem.W.codeHdIn K c Pt = true
theorem RawC.mk' {K : PySem.W.Frag} {mg : Str → Option Value} {h : Heap} {x : Str} {st : Stmt} {ps : List Str} {f c Pt : Addr} {oc : Value} {od an : Option Addr} {osl : Array (Option Value)} {kV doc pm ct : Value} (X : K.In h) (G : h.Ns mainGlobals mg)
    (a : PySem.W.nsIn K mainGlobals x = some (some (.ref f))) (l : K.lookup f = some ⟨oc, od, .func (PySem.W.fnOf x x (defArgs st) (defBody st) (defScope st) .none kV doc pm an (.ref c) ct), osl⟩)
    (cd : PySem.W.codeIn K (.ref c) x = true) (k : PySem.W.keepIn K (.ref f) = true) (hd : PySem.W.codeHdIn K c Pt = true)
    (hb : ∀ (us : List Value), us.length = ps.length → bindArgs (PySem.W.fnOf x x (defArgs st) (defBody st) (defScope st) .none kV doc pm an (.ref c) ct) ⟨us, []⟩ = pure (ps.zip us)) : RawC K mg x st ps c Pt :=
  ⟨⟨f, _, PySem.W.mg_of X G a, ⟨⟨oc, od, kV, doc, pm, an, ct, osl, rfl, l, cd⟩, k⟩, hb⟩, hd⟩
theorem FunC.lk {K : PySem.W.Frag} {x : Str} {st : Stmt} {f c : Addr} {fd : FuncData} (F : FunC K x st f fd c) : ∃ oc od osl, K.lookup f = some ⟨oc, od, .func fd, osl⟩ := by
  obtain ⟨oc, od, kV, doc, pm, an, ct, osl, _, lk, _⟩ := F.ex
  exact ⟨oc, od, osl, lk⟩
theorem RawC.defJ {P : Program} {w : World} {K : PySem.W.Frag} {mg : Str → Option Value} {base : Heap} {x : Str} {st : Stmt} {N ps : List Str} {k : Nat} {sp : Sp} {c Pt : Addr} (R : RawC K mg x st ps c Pt) (S : FnScope N ps (defScope st)) (len : ∀ vs H Q E, sp vs H Q E → vs.length = ps.length)
    (hbody : ∀ (f : Addr) (A : Around) (outer : List Env) (s : Shared) (H : Hp) (vs : List V) (Q : VK) (E : XK), Room k (A.deeper (envOfC x (defScope st) s.heap.objs.size f (.ref c))) → sp vs H Q E →
      ∃ t, JSs (cxOf CX0 P w K mg base N x (defScope st) f (.ref c) A outer s H E).nox (defBody st) t ∧ t { nx := fun _ H' => Q .non H', rt := Q } (start N vs) H) : Def P w K mg base (k + 1) x ps sp := by
  obtain ⟨f, fd, h1, F, b⟩ := R.ex
  have lk := F.lk
  obtain ⟨oc, od, kV, doc, pm, an, ct, osl, rfl, l, hcd⟩ := F.ex
  refine ⟨f, _, h1, F.kp, lk, .all b, fn_of l hcd S len fun A outer s H vs Q E hr hsp => ?_⟩
  obtain ⟨t, h, q⟩ := hbody f A outer s H vs Q E hr hsp
  exact ⟨t, h.out.nox, q⟩
end L2
namespace L2
open PySem
end L2

set_option Elab.async false
set_option linter.all false
set_option maxRecDepth 100000
set_option maxHeartbeats 4000000
namespace L2
open PySem PySem.Spec PyProof.Rows
section
variable {X : Cx} {e k : Expr} {es : List Expr} {t : TA} {te tk : TE} {p pos p2 : Pos} {K : PySem.W.Frag}
end
end L2

set_option Elab.async false
set_option linter.all false
set_option maxRecDepth 100000
set_option maxHeartbeats 4000000
namespace L2
open PySem PySem.Spec PyProof.Rows

section
variable {prog : Program} {w : World} {A : Around} {E : Value → Shared → Prop} {s : Shared}
def ItAt (t : Bool) (h : Heap) (it a : Addr) (k : Nat) : Prop := match t with
  | true => h.IsTupleIter it a k
  | false => h.IsListIter it a k
def SrcAt (t : Bool) (h : Heap) (a : Addr) (xs : Array Value) : Prop := match t with
  | true => h.IsTuple a xs
  | false => h.IsList a xs
def itCls (t : Bool) : String := match t with
  | true => "tuple_iterator"
  | false => "list_iterator"
theorem ItAt.at {t : Bool} {h h' : Heap} {it a : Addr} {k : Nat} (x : ItAt t h it a k) (e : ∀ o, h.get? it = some o → h'.get? it = some o) : ItAt t h' it a k := by
  cases t with
  | true => obtain ⟨o, ho, r⟩ := x; exact ⟨o, e o ho, r⟩
  | false => obtain ⟨o, ho, r⟩ := x; exact ⟨o, e o ho, r⟩
theorem ItAt.obj {t : Bool} {h : Heap} {it a : Addr} {k : Nat} (x : ItAt t h it a k) : ∃ o, h.get? it = some o ∧ ∀ v, o.data ≠ .cell v := by
  cases t with
  | true => obtain ⟨o, ho, _, d⟩ := x; exact ⟨o, ho, fun v z => by rw [d] at z; cases z⟩
  | false => obtain ⟨o, ho, _, d⟩ := x; exact ⟨o, ho, fun v z => by rw [d] at z; cases z⟩
theorem SrcAt.at {t : Bool} {h h' : Heap} {a : Addr} {xs : Array Value} (x : SrcAt t h a xs) (e : ∀ o, h.get? a = some o → h'.get? a = some o) : SrcAt t h' a xs := by
  cases t with
  | true => obtain ⟨o, ho, r⟩ := x; exact ⟨o, e o ho, r⟩
  | false => obtain ⟨o, ho, r⟩ := x; exact ⟨o, e o ho, r⟩
theorem SrcAt.lt {t : Bool} {h : Heap} {a : Addr} {xs : Array Value} (x : SrcAt t h a xs) : a < h.objs.size := by
  cases t with
  | true => obtain ⟨o, ho, _⟩ := x; exact Heap.lt_size ho
  | false => obtain ⟨o, ho, _⟩ := x; exact Heap.lt_size ho
theorem ItAt.new {t : Bool} {h : Heap} {it a : Addr} (e : h.get? it = some { cls := .type (itCls t), data := .fields #[.ref a, .int 0 0] }) : ItAt t h it a 0 := by
  cases t with
  | true => exact ⟨_, e, rfl, rfl⟩
  | false => exact ⟨_, e, rfl, rfl⟩

end

end L2

set_option Elab.async false
set_option linter.all false
set_option maxRecDepth 100000
set_option maxHeartbeats 4000000
namespace L2
open PySem PySem.Spec PyProof.Rows
section
variable {prog : Program} {w : World} {A : Around} {E : Value → Shared → Prop} {s : Shared}
end

section
variable {X : Cx} {K : PySem.W.Frag}
end
end L2

set_option Elab.async false
set_option linter.all false
set_option maxRecDepth 100000
set_option maxHeartbeats 4000000
namespace L2
open PySem PySem.Spec PyProof.Rows

def FlyG (B : Heap) (l : List Env) (e : Addr) (cls a0 : Value) (h : Heap) : Prop := B.StaysIn h ∧ B.get? e = none ∧ h.FunFrames B l ∧ ∃ fl, h.TracedAtW B e cls a0 fl
theorem FlyG.of {B h : Heap} {l : List Env} {e : Addr} {cls a0 : Value} (x : Heap.FlyingW B l e cls a0 h) : FlyG B l e cls a0 h := ⟨x.1, x.2.1, x.2.2.1, _, x.2.2.2.at⟩
section
variable {M : Model} {A : Around} {E : Value → Shared → Prop} {s : Shared} {B : Heap} {env : Env} {outer : List Env} {L e : Addr} {cls a0 : Value} {Q : Unit → Shared → Prop}
theorem note_any (hfr : A.frames = some (env :: outer)) (hf : env.frame = some L) (x : FlyG B (env :: outer) e cls a0 s.heap)
    (hQ : ∀ h', Heap.HeldW B (env :: outer) e cls a0 L h' → s.heap.UpToSlots h' → Q () { s with heap := h' }) : wpAny M A (noteFrame (.ref e) env) Q E s := by
  obtain ⟨st, hn, hl, fl, ht⟩ := x
  by_cases hfl : fl = rawInt L
  · subst hfl
    exact wpAny_noteFrame_againW hf ht (hQ s.heap ⟨st, hn, hl, ht⟩ (.refl _))
  · obtain ⟨oe, vs, T, oT, ts, he, ⟨hcls, h0⟩, hd, h1, hnT, hTe, hT, hdT, h3⟩ := ht
    subst hcls
    unfold noteFrame
    simp only [hf]
    refine wpAny_bind (wpAny_field he hd h1 ?_)
    rw [if_pos (show (Value.ref T != Value.none) = true from by simp)]
    refine wpAny_bind (wpAny_field hT hdT h3 ?_)
    rw [if_neg (show ¬ ((fl == rawInt L) = true) from fun z => hfl (beq_iff_eq.mp z))]
    refine wpAny_bind (wpAny_setField hT hdT (Array.getElem?_eq_some_iff.mp h3).1 ?_)
    have other : ∀ b, b ≠ T → (s.heap.update T (Obj.mapFields (·.setIfInBounds 3 Value.none))).get? b = s.heap.get? b := fun b hb => Heap.get?_update_other _ _ (Ne.symm hb)
    have noRecord : ∀ b o, s.heap.get? b = some o → (∀ vs, o.data ≠ .fields vs) → b ≠ T := fun b o hb hnf q => by
      rw [q, hT] at hb; injection hb with hb; subst hb; exact hnf ts hdT
    refine wpAny_entryW hfr (hl.of_keeps fun b o hb hnf => ⟨o, (other b (noRecord b o hb hnf)).trans hb, rfl⟩) hf ((other e (Ne.symm hTe)).trans he)
      (fun b o hbo => (other b fun q => by rw [q, hnT] at hbo; cases hbo).trans (st b o hbo)) hn hd (Array.getElem?_eq_some_iff.mp h1).1 h0
      fun h' ⟨x1, x2, x3, x4⟩ => hQ h' ⟨x1, hn, x2, x3⟩ fun b o hb hnf => x4 b o ((other b (noRecord b o hb hnf)).trans hb) hnf
theorem leaving_any (hfr : A.frames = some (env :: outer)) (hf : env.frame = some L) (x : FlyG B (env :: outer) e cls a0 s.heap)
    (hQ : ∀ h', Heap.FlyingW B outer e cls a0 h' → s.heap.UpToSlots h' → Q () { s with heap := h' }) : wpAny M A (leaving env (.ref e)) Q E s := by
  unfold leaving
  refine wpAny_bind (note_any hfr hf x fun h1 hh us1 => ?_)
  refine wpAny_landsW (s := { s with heap := h1 }) hh fun h2 fl us2 => ?_
  obtain ⟨k1, k2, ⟨_, _, k3⟩, k4⟩ := fl
  exact hQ h2 ⟨k1, k2, k3, k4⟩ (us1.trans us2)
end

def FlyAt (P : Program) (w : World) (stack : List Env) (fs ex : List Addr) (H₀ : Hp) (h₀ : Heap) (os : OsState) (E : XK) (e : Value) (s' : Shared) : Prop :=
  ∃ (a : Addr) (B : Heap) (cls a0 : Value) (H' : Hp), e = .ref a ∧ s'.os = os ∧ AllBare s'.gens ∧ FlyG B stack a cls a0 s'.heap ∧ HOk P w H' B ∧ Un fs ex H₀ H' h₀ s'.heap ∧
  (∀ b o, h₀.get? b = some o → b ∉ fs → b ∉ ex → (∃ o', B.get? b = some o') ∧ (H₀ b = none → B.get? b = some o)) ∧ E cls none H'
def CX1 (P : Program) (w : World) : CXT := fun outer H s E e s' => FlyAt P w outer (frs outer) [] H s.heap s.os E e s'
def FlyX (X : Cx) (E : XK) (e : Value) (s' : Shared) : Prop := FlyAt X.prog X.w X.stack X.fs X.ex X.H₀ X.s₀.heap X.s₀.os E e s'
def Exits (X : Cx) (E : XK) : Prop := X.Ok → ∀ e s', FlyX X E e s' → X.xe e s'

section
variable {X : Cx} {E : XK} {pins : List (Addr × Obj)} {σ : List (Option V)} {H H' : Hp} {s : Shared} {h'' B : Heap}
theorem Inv.nostk (I : Inv X pins σ H s) {b : Addr} {o : Obj} (e : X.s₀.heap.get? b = some o) (hb : b ∉ X.fs) : b ∉ frs X.stack := fun z => by
  rcases List.mem_cons.mp (I.stkSub b z) with q | q
  · exact absurd (Nat.lt_of_lt_of_le (Heap.lt_size e) I.ok.above) (by rw [q]; exact Nat.lt_irrefl _)
  · exact hb q
theorem fly_core {fp : List Addr} {h' : Heap} (I : Inv X pins σ H s) (hfp : ∀ b ∈ fp, b ∈ X.ex ∨ X.s₀.heap.objs.size ≤ b) (un : Un (frs X.stack) fp H H' s.heap h')
    (kb : ∀ b o, s.heap.get? b = some o → b ∉ frs X.stack → b ∉ fp → (∃ o', B.get? b = some o') ∧ (H b = none → B.get? b = some o)) (st : B.StaysIn h') :
    Un X.fs X.ex X.H₀ H' X.s₀.heap h' ∧ ∀ b o, X.s₀.heap.get? b = some o → b ∉ X.fs → b ∉ X.ex → (∃ o', B.get? b = some o') ∧ (X.H₀ b = none → B.get? b = some o) := by
  have nofp : ∀ b o, X.s₀.heap.get? b = some o → b ∉ X.ex → b ∉ fp := fun b o e hx z => by
    rcases hfp b z with q | q
    · exact hx q
    · exact absurd (Nat.lt_of_lt_of_le (Heap.lt_size e) q) (Nat.lt_irrefl _)
  have kb' : ∀ b o, X.s₀.heap.get? b = some o → b ∉ X.fs → b ∉ X.ex → (∃ o', B.get? b = some o') ∧ (X.H₀ b = none → B.get? b = some o) := fun b o e hb hx => by
    obtain ⟨o1, e1⟩ := I.base.there b o e hx
    refine ⟨(kb b o1 e1 (I.nostk e hb) (nofp b o e hx)).1, fun n => ?_⟩
    exact (kb b o (I.base.keep b o e n hb hx) (I.nostk e hb) (nofp b o e hx)).2 (I.base.free b o e n hx)
  have inS : ∀ b, b ∈ X.fs → b ∈ frs X.stack := fun b hb => by
    rcases I.ok.stk with q | ⟨q, hf⟩
    · rw [q]; exact hb
    · rw [q]; unfold frs; rw [List.filterMap_cons, hf]; exact List.mem_cons_of_mem _ hb
  refine ⟨⟨fun b o e n hb hx => st b o ((kb' b o e hb hx).2 n), fun b o e n hb hx => ?_, fun b o e n hx => ?_, fun b o e hx => ?_, fun b xs e => un.tups b xs (I.base.tups b xs e), fun b o u e => un.frzs b o u (I.base.frzs b o u e), fun b ps e => ?_⟩, kb'⟩
  · obtain ⟨sl1, e1⟩ := I.base.slot b o e n hb hx
    obtain ⟨sl2, e2⟩ := un.slot b _ e1 (I.base.free b o e n hx) (inS b hb) (nofp b o e hx)
    exact ⟨sl2, e2⟩
  · obtain ⟨o1, e1⟩ := I.base.there b o e hx
    exact un.free b o1 e1 (I.base.free b o e n hx) (nofp b o e hx)
  · obtain ⟨o1, e1⟩ := I.base.there b o e hx
    exact un.there b o1 e1 (nofp b o e hx)
  · obtain ⟨m1, e1⟩ := I.base.tbls b ps e
    obtain ⟨m2, e2⟩ := un.tbls b _ e1
    exact ⟨m1 ++ m2, by rw [e2, Array.append_assoc]⟩
theorem fly_back {fp : List Addr} (I : Inv X pins σ H s) (hfp : ∀ b ∈ fp, b ∈ X.ex ∨ X.s₀.heap.objs.size ≤ b) {e : Value} {s' : Shared} (h : FlyAt X.prog X.w X.stack (frs X.stack) fp H s.heap s.os E e s') : FlyX X E e s' := by
  obtain ⟨a, B, cls, a0, H', rfl, os, bare, fl, hok, un, kb, hE⟩ := h
  obtain ⟨un', kb'⟩ := fly_core I hfp un kb fl.1
  exact ⟨a, B, cls, a0, H', rfl, os.trans I.os, bare, fl, hok, un', kb', hE⟩
theorem Exits.passes (h : Exits X E) : Passes (CX1 X.prog X.w) X E := fun pins σ H s e s' I q => h I.ok e s' (fly_back (fp := []) I (fun _ z => nomatch z) q)
end
section
variable {P : Program} {w : World} {K : PySem.W.Frag} {mg : Str → Option Value} {base : Heap} {N : List Str} {qual : Str} {scope : Scope} {f : Addr} {cd : Value} {A : Around} {outer : List Env} {s₀ : Shared} {H₀ : Hp} {E : XK}
  {pins : List (Addr × Obj)} {σ : List (Option V)} {H H' : Hp} {s : Shared} {h' h'' B : Heap}
theorem frs_cons {env : Env} {l : List Env} {L : Addr} (h : env.frame = some L) : frs (env :: l) = L :: frs l := by unfold frs; rw [List.filterMap_cons, h]
theorem un_left {fs ex : List Addr} {H₀ H' : Hp} {h₀ h1 h2 : Heap} (un : Un fs ex H₀ H' h₀ h1) (kb : ∀ b o, h₀.get? b = some o → b ∉ fs → b ∉ ex → (∃ o', B.get? b = some o') ∧ (H₀ b = none → B.get? b = some o)) (st : B.StaysIn h2) (us : ∀ b ∈ fs, ∀ o, h1.get? b = some o → (∀ vs, o.data ≠ .fields vs) → ∃ sl, h2.get? b = some { o with slots := sl })
    (nf : ∀ b ∈ fs, ∃ o, h₀.get? b = some o ∧ ∀ vs, o.data ≠ .fields vs) (hfree : ∀ b ∈ fs, H₀ b = none) : Un fs ex H₀ H' h₀ h2 := by
  have slot : ∀ b o, h₀.get? b = some o → H₀ b = none → b ∈ fs → b ∉ ex → ∃ sl, h2.get? b = some { o with slots := sl } := fun b o e n hb hx => by
    obtain ⟨sl, e1⟩ := un.slot b o e n hb hx
    obtain ⟨o', e', d'⟩ := nf b hb
    rw [e] at e'; cases e'
    obtain ⟨sl2, e2⟩ := us b hb _ e1 d'
    exact ⟨sl2, e2⟩
  refine ⟨fun b o e n hb hx => st b o ((kb b o e hb hx).2 n), slot, un.free, fun b o e hx => ?_, un.tups, un.frzs, un.tbls⟩
  by_cases hb : b ∈ fs
  · obtain ⟨sl, e1⟩ := slot b o e (hfree b hb) hb hx
    exact ⟨_, e1⟩
  · obtain ⟨o', e'⟩ := (kb b o e hb hx).1
    exact ⟨o', st b o' e'⟩
theorem exits_fn : Exits (cxOf (CX1 P w) P w K mg base N qual scope f cd A outer s₀ H₀ E) E := by
  intro ok e s' h
  obtain ⟨a, B, cls, a0, H', rfl, os, bare, fl, hok, un, kb, hE⟩ := h
  show wpAny (model P w) (A.deeper (envOfC qual scope s₀.heap.objs.size f cd)) (leaving (envOfC qual scope s₀.heap.objs.size f cd) (.ref a)) (fun _ s'' => CX1 P w outer H₀ s₀ E (.ref a) s'') (fun e' s'' => CX1 P w outer H₀ s₀ E e' s'') s'
  refine leaving_any (L := s₀.heap.objs.size) ok.frames rfl fl fun h'' fl' us => ?_
  exact ⟨a, B, cls, a0, H', rfl, os, bare, .of fl', hok, un_left un kb fl'.1 (fun b _ => us b) (fun b hb => (ok.funs.mem hb).2) ok.frf, kb, hE⟩
theorem pass1 : Passes (CX1 P w) (cxOf (CX1 P w) P w K mg base N qual scope f cd A outer s₀ H₀ E) E := exits_fn.passes
theorem leave_made {e : Addr} {cls : Value} {args : List Value} (I : Inv (cxOf (CX1 P w) P w K mg base N qual scope f cd A outer s₀ H₀ E) pins σ H s) (hx : Heap.MadeExcOf s.heap h' e cls args) (hE : E cls none H) :
    (cxOf (CX1 P w) P w K mg base N qual scope f cd A outer s₀ H₀ E).xe (.ref e) { s with heap := h' } := by
  show wpAny (model P w) (A.deeper (envOfC qual scope s₀.heap.objs.size f cd)) (leaving (envOfC qual scope s₀.heap.objs.size f cd) (.ref e)) (fun _ s'' => CX1 P w outer H₀ s₀ E (.ref e) s'') (fun e' s'' => CX1 P w outer H₀ s₀ E e' s'') { s with heap := h' }
  have hin : ∀ env ∈ (envOfC qual scope s₀.heap.objs.size f cd :: outer), ∀ b, env.frame = some b → b ∈ frs (envOfC qual scope s₀.heap.objs.size f cd :: outer) := fun env he b hb => List.mem_filterMap.mpr ⟨env, he, hb⟩
  refine wpAny_leaves_madeW (base := PySem.W.hideAll s.heap (frs (envOfC qual scope s₀.heap.objs.size f cd :: outer))) (h := s.heap) (L := s₀.heap.objs.size) I.ok.frames rfl (fun b o q => PySem.W.of_hideAll _ q) (PySem.W.funFrames_hide I.stack hin) hx fun h'' t fl tup hbt us => ?_
  have hidden : ∀ b o, s.heap.get? b = some o → b ∉ frs (envOfC qual scope s₀.heap.objs.size f cd :: outer) → (PySem.W.hideAll s.heap (frs (envOfC qual scope s₀.heap.objs.size f cd :: outer))).get? b = some o := fun b o q hb => PySem.W.hideAll_get _ q hb
  have noex : ∀ b : Addr, b ∉ (cxOf (CX1 P w) P w K mg base N qual scope f cd A outer s₀ H₀ E).ex := fun b z => nomatch (show b ∈ ([] : List Addr) from z)
  have kb : ∀ b o, s₀.heap.get? b = some o → b ∉ frs outer → b ∉ ([] : List Addr) → (∃ o', (PySem.W.hideAll s.heap (frs (envOfC qual scope s₀.heap.objs.size f cd :: outer))).get? b = some o') ∧ (H₀ b = none → (PySem.W.hideAll s.heap (frs (envOfC qual scope s₀.heap.objs.size f cd :: outer))).get? b = some o) := fun b o q hb _ => by
    obtain ⟨o1, e1⟩ := I.base.there b o q (noex b)
    exact ⟨⟨o1, hidden b o1 e1 (I.nostk q hb)⟩, fun n => hidden b o (I.base.keep b o q n hb (noex b)) (I.nostk q hb)⟩
  have un : Un (frs outer) [] H₀ H s₀.heap h'' := un_left (I.base) kb fl.1 (fun b _ => ((Heap.UpToSlots.of_keeps hx.keeps).trans us) b) (fun b hb => (I.ok.funs.mem hb).2) I.ok.frf
  refine ⟨e, _, cls, _, H, rfl, I.os, I.bare, .of fl, fun b u q => ?_, un, kb, hE⟩
  refine (I.hok b u q).stay (fun c v hc z => hidden c v z fun m => ?_) (fun _ z => z) fun _ _ z => z
  have hn : H c = none := I.stkFree c m
  rcases hc with rfl | hc
  · rw [q] at hn; cases hn
  · rw [hc] at hn; cases hn
end
end L2

set_option Elab.async false
set_option linter.all false
set_option maxRecDepth 100000
set_option maxHeartbeats 4000000
namespace L2
open PySem PySem.Spec PyProof.Rows

abbrev bmVE : List Value := [.type "ValueError", .type "Exception", .type "BaseException", .type "object"]
theorem exc_of_in {K : PySem.W.Frag} {h : Heap} {C : Addr} {bmB : List Value} {newId : String} (X : K.In h) (q : PySem.W.excIn K C bmB newId = true) :
    ∃ bm N nm q bs hdct sn sub ab col dd k0 k1 k2 k3 k5 mN, h.get? C = some (excClassObj nm q C N bs bm hdct sn sub ab col dd k0 k1 k2 k3 k5 newId) ∧ h.Ns N mN ∧ mN "__init__" = none ∧ OwnTail h bmB bm := by
  unfold PySem.W.excIn at q
  split at q
  · rename_i dd cd sl ho
    split at q
    · rename_i C' bm k0 k1 k2 k3 n k5 hm hs
      simp only [Bool.and_eq_true, beq_iff_eq, Bool.not_eq_true'] at q
      obtain ⟨⟨⟨⟨⟨rfl, rfl⟩, hdel⟩, ht⟩, hok⟩, hni⟩ := q
      obtain ⟨nm, bs, mro, ns, qn, hd, sn, sub, ab, col, del⟩ := cd
      dsimp only at hm hdel hok hni
      subst hm hdel
      have hsl : sl = #[k0, k1, k2, k3, some (.builtin n), k5] := by
        obtain ⟨l⟩ := sl
        simp only at hs
        rw [hs]
      subst hsl
      exact ⟨bm, ns, nm, qn, bs, hd, sn, sub, ab, col, dd, k0, k1, k2, k3, k5, _, X _ _ ho, .of_isNs (PySem.W.isNs_of_in X hok), PySem.W.nsMap_none_of_in X hok hni, PySem.W.tail_of_in X ht⟩
    · cases q
  · cases q

def PF (X : Cx) (e : Expr) (c : St → Hp → Prop) : Prop := ∀ (pins : List (Addr × Obj)) (s : Shared) (σ : St) (H : Hp), Inv X pins σ H s → c σ H →
  wpAny (model X.prog X.w) X.A (eval e X.env) (fun v s' => ∃ y t, v = .str y t ∧ y.length ≤ 1100000 ∧ Inv X pins σ H s') X.xe s
def PFs (X : Cx) (es : List Expr) (c : St → Hp → Prop) : Prop := ∀ (pins : List (Addr × Obj)) (s : Shared) (σ : St) (H : Hp) (acc : Str) (n : Nat), Inv X pins σ H s → c σ H → acc.length ≤ n * 1100000 → n + es.length ≤ 12 →
  Joins (model X.prog X.w) X.A X.xe (evalEach es X.env) acc (fun out s' => out.length ≤ sizeLine ∧ Inv X pins σ H s') s
section
variable {X : Cx} {e : Expr} {es : List Expr} {te : TE} {c c' : St → Hp → Prop} {pos : Pos}
theorem size12 {n : Nat} (h : n ≤ 12 * 1100000) : n ≤ sizeLine := by rw [sizeLine_eq]; omega
theorem pf_str {x : Str} {k : Nat} (h : x.length ≤ 1100000 := by decide) : PF X (.Constant (.str x) k pos) (fun _ _ => True) := fun pins s σ H I _ =>
  Calls.Constant_str (show ∃ y t, Value.str x s.toks = .str y t ∧ y.length ≤ 1100000 ∧ Inv X pins σ H { s with toks := s.toks + 1 } from ⟨x, _, rfl, h, I.tok _⟩)
theorem pf_repr (he : PE X e te) : PF X (.FormattedValue e 114 none pos) (fun σ H => te σ H fun v H1 => H1 = H ∧ ∃ x, v = .str x ∧ x.length ≤ 100000 ∧ ∀ c ∈ x.cps.toList, c < 16 ^ 8) := by
  intro pins s σ H I h
  refine wpAny_FormattedValue_repr (thn (he pins s σ H _ I h) fun u s1 ⟨v, H1, I1, r1, e1, x, ex, hl, hc⟩ => ?_)
  subst e1 ex
  obtain ⟨t, rfl⟩ := r1
  have hr := StrLaws.reprText_len x hc
  have hz := size12 (Nat.le_trans hr (show 10 * x.length + 2 ≤ 12 * 1100000 by omega))
  refine wpAny_pyReprObj_str ?_ hz
  refine wpAny_formatField_str ⟨_, _, rfl, by omega, I1.tok _⟩ ⟨_, _, rfl, by omega, ?_⟩ hz
  exact (I1.tok (s1.toks + 1)).tok _
theorem pf_plain (he : PE X e te) : PF X (.FormattedValue e (-1) none pos) (fun σ H => te σ H fun v H1 => H1 = H ∧ ((∃ x, v = .str x ∧ x.length ≤ 100000) ∨ ∃ a, v = .int a ∧ a.natAbs.log2 < 1920 ∧ (Str.ofString (toString a)).length ≤ 1100000)) := by
  intro pins s σ H I h
  refine wpAny_FormattedValue_plain (thn (he pins s σ H _ I h) fun u s1 ⟨v, H1, I1, r1, e1, q⟩ => ?_)
  subst e1
  rcases q with ⟨x, ex, hl⟩ | ⟨a, ea, hl, hs⟩
  · subst ex
    obtain ⟨t, rfl⟩ := r1
    exact wpAny_formatField_str ⟨_, _, rfl, by omega, I1⟩ ⟨_, _, rfl, by omega, I1.tok _⟩ (size12 (by omega))
  · subst ea
    obtain ⟨t, rfl⟩ := r1
    exact wpAny_formatField_int hl ⟨_, _, rfl, hs, I1.tok _⟩
theorem pfs_nil : PFs X [] (fun _ _ => True) := fun pins s σ H acc n I _ hl hn => by
  have h2 : n ≤ 12 := by simpa using hn
  exact ⟨size12 (Nat.le_trans hl (Nat.mul_le_mul_right 1100000 h2)), I⟩
theorem pfs_cons (h1 : PF X e c) (h2 : PFs X es c') (he : evalEach (e :: es) X.env = eval e X.env :: evalEach es X.env := by rfl) : PFs X (e :: es) (fun σ H => c σ H ∧ c' σ H) := by
  intro pins s σ H acc n I hc hl hn
  rw [he]
  have hn' : n + 1 + es.length ≤ 12 := by rw [List.length_cons] at hn; omega
  refine thn (h1 pins s σ H I hc.1) fun v s1 ⟨y, t, ev, hy, I1⟩ => ⟨y, t, ev, ?_, ?_⟩
  · rw [strLen_append]
    exact size12 (by omega)
  · refine h2 pins s1 σ H (acc ++ y) (n + 1) I1 hc.2 ?_ hn'
    rw [strLen_append]; omega
def tFs (c : St → Hp → Prop) : TE := fun σ H Q => c σ H ∧ ∀ z : Str, z.length ≤ sizeLine → Q (.str z) H
theorem joins_mono {M : Model} {A : Around} {E : Value → Shared → Prop} {Q Q' : Str → Shared → Prop} (hQ : ∀ z s, Q z s → Q' z s) : ∀ (l : List (Sem Value)) (acc : Str) (s : Shared), Joins M A E l acc Q s → Joins M A E l acc Q' s
  | [], acc, s, h => hQ _ _ h
  | x :: r, acc, s, h => thn h fun v s1 ⟨y, t, ev, hz, hr⟩ => ⟨y, t, ev, hz, joins_mono hQ r _ s1 hr⟩
theorem pe_fs {e1 e2 : Expr} (h : PFs X (e1 :: e2 :: es) c) (hn : (e1 :: e2 :: es).length ≤ 12 := by decide) : PE X (.JoinedStr (e1 :: e2 :: es) pos) (tFs c) := by
  intro pins s σ H Q I hq
  refine wpAny_JoinedStr (joins_mono (fun z s' ⟨hz, I'⟩ => ⟨hz, ?_⟩) _ _ _ (h pins s σ H Str.empty 0 I hq.1 (by decide) (by omega)))
  exact ⟨.str z, H, I'.tok _, ⟨_, rfl⟩, hq.2 z hz⟩
end
end L2

set_option Elab.async false
set_option linter.all false
set_option maxRecDepth 100000
set_option maxHeartbeats 4000000
namespace L2
open PySem PySem.Spec PyProof.Rows

def tRaise (C : Addr) (E : XK) (t : TA) : TS := fun D σ H => t σ H fun vs H1 => vs.length ≤ sizeLine ∧ E (.ref C) none H1
section
variable {P : Program} {w : World} {K : PySem.W.Frag} {mg : Str → Option Value} {base : Heap} {N : List Str} {qual : Str} {scope : Scope} {f : Addr} {cd : Value} {A : Around} {outer : List Env} {s₀ : Shared} {H₀ : Hp} {E : XK}
theorem ps_raise {x : Str} {C : Addr} {e : Expr} {es : List Expr} {t : TA} {np cpos pos : Pos} (hg : Gl (cxOf (CX1 P w) P w K mg base N qual scope f cd A outer s₀ H₀ E) x) (hm : mg x = some (.ref C)) (hq : PySem.W.excIn K C bmVE "ValueError.__new__" = true)
    (ha : PA (cxOf (CX1 P w) P w K mg base N qual scope f cd A outer s₀ H₀ E) (e :: es) t) (hst : noStars (e :: es) = true := by rfl) (hd : (x == ("__debug__" : Str)) = false := by decide) :
    PS (cxOf (CX1 P w) P w K mg base N qual scope f cd A outer s₀ H₀ E) (.Raise (some (.Call (.Name x np) (e :: es) [] cpos)) none pos) (tRaise C E t) := by
  intro pins s σ H D I h
  have h' : noStar e = true ∧ noStars es = true := by simpa [noStars] using hst
  have he := starEach_cons (es := es) (env := (cxOf (CX1 P w) P w K mg base N qual scope f cd A outer s₀ H₀ E).env) h'.1
  have hpl := back_any (env := (cxOf (CX1 P w) P w K mg base N qual scope f cd A outer s₀ H₀ E).env) (pos := cpos) hst
  obtain ⟨bm, N', nm, q, bs, hdct, sn, sub, ab, col, dd, k0, k1, k2, k3, k5, mN, hC, hN, hni, T⟩ := exc_of_in (h := base) I.ok.mod.kin hq
  refine wpAny_Raise_call_subU (C := C) (nm := nm) (q := q) (N := N') (bs := bs) (bm := bm) (hdct := hdct) (sn := sn) (sub := sub) (ab := ab) (col := col) (dd := dd) (k0 := k0) (k1 := k1) (k2 := k2) (k3 := k3) (k5 := k5)
    F.excBase_ValueError (by decide +kernel) F.excBase_ValueError (mN := mN) (T.hasType F.excBase_ValueError.hasBase) (I.ok.hd rfl) hpl hni (ld_glob I hg hm ⟨rfl, ?_⟩ hd)
  have h0 := ha cpos pins s σ H _ I h
  rw [he] at h0 ⊢
  refine Calls.evalArgs_plain (wpAny_mono h0 (fun us s2 h2 => ?_) fun _ _ y => y)
  obtain ⟨vs, H2, I2, r2, hl, hE⟩ := h2
  have hlen := r2.length
  exact ⟨rfl, by show us.length ≤ sizeLine; omega, I2.bk _ _ hC, hN.keeps I2.bk, T.keeps I2.bk, fun h3 e3 hm3 => leave_made I2 hm3 hE⟩
theorem js_raise {x : Str} {C : Addr} {e : Expr} {es : List Expr} {t : TA} {np cpos pos : Pos} (hg : Gl (cxOf (CX1 P w) P w K mg base N qual scope f cd A outer s₀ H₀ E) x) (hm : mg x = some (.ref C)) (hq : PySem.W.excIn K C bmVE "ValueError.__new__" = true)
    (ha : JA (cxOf (CX1 P w) P w K mg base N qual scope f cd A outer s₀ H₀ E) (e :: es) t) (hst : noStars (e :: es) = true := by rfl) (hd : (x == ("__debug__" : Str)) = false := by decide) :
    JS (cxOf (CX1 P w) P w K mg base N qual scope f cd A outer s₀ H₀ E) (.Raise (some (.Call (.Name x np) (e :: es) [] cpos)) none pos) (tRaise C E t) := .mk (ps_raise hg hm hq ha.out hst hd)
theorem passes_loop : PassesOwn (model P w) (cxOf (CX1 P w) P w K mg base N qual scope f cd A outer s₀ H₀ E).A (cxOf (CX1 P w) P w K mg base N qual scope f cd A outer s₀ H₀ E).env (cxOf (CX1 P w) P w K mg base N qual scope f cd A outer s₀ H₀ E).xe := PassesOwn.leaving
end
abbrev JF (X : Cx) (e : Expr) (c : St → Hp → Prop) : Prop := Irr (PF X e c)
abbrev JFs (X : Cx) (es : List Expr) (c : St → Hp → Prop) : Prop := Irr (PFs X es c)
section
variable {X : Cx} {e e1 e2 : Expr} {es : List Expr} {te : TE} {c c' : St → Hp → Prop} {pos : Pos}
def cRepr (te : TE) : St → Hp → Prop := fun σ H => te σ H fun v H1 => H1 = H ∧ ∃ x, v = .str x ∧ x.length ≤ 100000 ∧ ∀ c ∈ x.cps.toList, c < 16 ^ 8
def cPlain (te : TE) : St → Hp → Prop := fun σ H => te σ H fun v H1 => H1 = H ∧ ((∃ x, v = .str x ∧ x.length ≤ 100000) ∨ ∃ a, v = .int a ∧ a.natAbs.log2 < 1920 ∧ (Str.ofString (toString a)).length ≤ 1100000)
def cTrue : St → Hp → Prop := fun _ _ => True
def cAnd (c c' : St → Hp → Prop) : St → Hp → Prop := fun σ H => c σ H ∧ c' σ H
theorem jf_str {x : Str} {k : Nat} (h : x.length ≤ 1100000 := by decide) : JF X (.Constant (.str x) k pos) cTrue := .mk (pf_str h)
theorem jf_repr (he : JE X e te) : JF X (.FormattedValue e 114 none pos) (cRepr te) := .mk (pf_repr he.out)
theorem jf_plain (he : JE X e te) : JF X (.FormattedValue e (-1) none pos) (cPlain te) := .mk (pf_plain he.out)
theorem jfs_nil : JFs X [] cTrue := .mk pfs_nil
theorem jfs_cons (h1 : JF X e c) (h2 : JFs X es c') (he : evalEach (e :: es) X.env = eval e X.env :: evalEach es X.env := by rfl) : JFs X (e :: es) (cAnd c c') := .mk (pfs_cons h1.out h2.out he)
theorem j_fs (h : JFs X (e1 :: e2 :: es) c) (hn : (e1 :: e2 :: es).length ≤ 12 := by decide) : JE X (.JoinedStr (e1 :: e2 :: es) pos) (tFs c) := .mk (pe_fs h.out hn)
end
structure DefX (P : Program) (w : World) (K : PySem.W.Frag) (mg : Str → Option Value) (base : Heap) (k : Nat) (x : Str) (ps : List Str) (sp : Sp) : Prop where
  ex : ∃ f fd, mg x = some (.ref f) ∧ PySem.W.keepIn K (.ref f) = true ∧ (∃ oc od osl, K.lookup f = some ⟨oc, od, .func fd, osl⟩) ∧ Binds K fd ps [] ∧ FnOk P w K mg base (CX1 P w) k f fd ps sp
section
variable {X : Cx} {k : Nat} {x : Str} {ps : List Str} {sp : Sp} {e : Expr} {es : List Expr} {t : TA} {p pos : Pos} {E : XK}
theorem pe_defX (D : DefX X.prog X.w X.K X.mg X.base k x ps sp) (hr : Room k X.A) (hg : Gl X x) (ha : PA X (e :: es) t) (hx : Passes (CX1 X.prog X.w) X E) (hdb : (x == ("__debug__" : Str)) = false := by decide)
    (hst : noStars (e :: es) = true := by rfl) : PE X (.Call (.Name x p) (e :: es) [] pos) (fun σ H Q => t σ H fun vs H1 => sp vs H1 Q E) := by
  obtain ⟨f, fd, mgf, kp, _, b, G⟩ := D.ex
  have h' : noStar e = true ∧ noStars es = true := by simpa [noStars] using hst
  have he := starEach_cons (es := es) (env := X.env) h'.1
  have hpl := back_any (env := X.env) (pos := pos) h'.2
  have h := pe_call (X := X) (dvs := []) (E := E) (p := p) (pos := pos) G hr hg mgf kp b .nil hx ha hdb he hpl
  intro pins s σ H Q I hq
  refine h pins s σ H Q I ?_
  show t σ H fun vs H1 => sp (vs ++ []) H1 Q E
  have e1 : (fun (vs : List V) H1 => sp (vs ++ []) H1 Q E) = fun vs H1 => sp vs H1 Q E := by funext vs H1; rw [List.append_nil]
  rw [e1]
  exact hq
theorem j_defX (D : DefX X.prog X.w X.K X.mg X.base k x ps sp) (hr : Room k X.A) (hg : Gl X x) (ha : JA X (e :: es) t) (hx : Passes (CX1 X.prog X.w) X E) (hdb : (x == ("__debug__" : Str)) = false := by decide)
    (hst : noStars (e :: es) = true := by rfl) : JE X (.Call (.Name x p) (e :: es) [] pos) (fun σ H Q => t σ H fun vs H1 => sp vs H1 Q E) := .mk (pe_defX D hr hg ha.out hx hdb hst)
end
theorem Raw.defX {P : Program} {w : World} {K : PySem.W.Frag} {mg : Str → Option Value} {base : Heap} {x : Str} {st : Stmt} {N ps : List Str} {k : Nat} {sp : Sp} (R : Raw K mg x st ps) (S : FnScope N ps (defScope st)) (len : ∀ vs H Q E, sp vs H Q E → vs.length = ps.length)
    (hbody : ∀ (f : Addr) (cdv : Value) (A : Around) (outer : List Env) (s : Shared) (H : Hp) (vs : List V) (Q : VK) (E : XK), Room k (A.deeper (envOfC x (defScope st) s.heap.objs.size f cdv)) → sp vs H Q E →
      ∃ t, JSs (cxOf (CX1 P w) P w K mg base N x (defScope st) f cdv A outer s H E) (defBody st) t ∧ t { nx := fun _ H' => Q .non H', rt := Q } (start N vs) H) : DefX P w K mg base (k + 1) x ps sp := by
  obtain ⟨f, fd, h1, F, b⟩ := R.ex
  refine ⟨f, fd, h1, F.kp, F.lk, .all b, ?_⟩
  obtain ⟨oc, od, kV, doc, pm, an, cdv, ct, osl, rfl, lk, hcd⟩ := F.ex
  refine fn_of lk hcd S len fun A outer s H vs Q E hr hsp => ?_
  obtain ⟨t, h, q⟩ := hbody f cdv A outer s H vs Q E hr hsp
  exact ⟨t, h.out, q⟩
end L2

set_option Elab.async false
set_option linter.all false
set_option maxRecDepth 100000
set_option maxHeartbeats 4000000
namespace L2
open PySem PySem.Spec PyProof.Rows
def FlyC (P : Program) (w : World) (stack : List Env) (ex : List Addr) (H₀ : Hp) (h₀ : Heap) (os : OsState) (E : XK) (C : Addr) (e : Value) (s' : Shared) : Prop :=
  ∃ (a : Addr) (B : Heap) (cls a0 : Value) (H' : Hp), e = .ref a ∧ s'.os = os ∧ AllBare s'.gens ∧ FlyG B stack a cls a0 s'.heap ∧ HOk P w H' B ∧ Un (frs stack) ex H₀ H' h₀ s'.heap ∧
  (∀ b o, h₀.get? b = some o → b ∉ frs stack → b ∉ ex → (∃ o', B.get? b = some o') ∧ (H₀ b = none → B.get? b = some o)) ∧ E cls none H' ∧ (∃ m, B.Ns C m) ∧ H' C = none
def cxCompX (X : Cx) (N : List Str) (scope : Scope) (C : Addr) (s : Shared) (H : Hp) (ex : List Addr) (E : XK) : Cx :=
  { cxComp X N scope C s H ex with xe := FlyC X.prog X.w X.stack ex H s.heap s.os E C }
theorem inv_compX {X : Cx} {pins : List (Addr × Obj)} {σ : St} {H : Hp} {s : Shared} {N : List Str} {cap : List (Option Nat)} {scope : Scope} {ex : List Addr} {h₁ : Heap} {tk : Nat} {C : Addr} {E : XK} (S : CompScope X N cap scope) (I : Inv X pins σ H s) (hC : s.heap.objs.size ≤ C)
    (hns : h₁.Ns C (fun _ => none)) (hk : ∀ b o, s.heap.get? b = some o → h₁.get? b = some o) (hex : ∀ b ∈ ex, b < s.heap.objs.size ∧ FpOk X pins H b) :
    Inv (cxCompX X N scope C s H ex E) [] (capt cap σ) H { s with heap := h₁, toks := tk } := (inv_comp S I hC hns hk hex).wish _
theorem passes_comp {X : Cx} {N : List Str} {scope : Scope} {C : Addr} {s : Shared} {H : Hp} {ex : List Addr} {E : XK} : Passes (CX1 X.prog X.w) (cxCompX X N scope C s H ex E) E := by
  intro pins σ H1 s1 e s' I q
  obtain ⟨a, B, cls, a0, H', rfl, os, bare, fl, hok, un, kb, hE⟩ := q
  obtain ⟨un', kb'⟩ := fly_core (fp := []) I (fun _ z => nomatch z) un kb fl.1
  obtain ⟨m, ⟨o, es, ep, ho, r⟩, _⟩ := I.loc
  have hC : C ∉ frs X.stack := fun z => by
    obtain ⟨_, o', e', _⟩ := I.ok.funs.mem z
    exact absurd (Nat.lt_of_lt_of_le (Heap.lt_size e') I.ok.above) (Nat.lt_irrefl _)
  have hB : B.get? C = some o := (kb C o ho hC (by simp)).2 I.free
  exact ⟨a, B, cls, a0, H', rfl, os.trans I.os, bare, fl, hok, un', kb', hE, ⟨m, o, es, ep, hB, r⟩, un.free C o ho I.free (by simp)⟩
theorem comp_blockX {X : Cx} {EX : XK} {pins : List (Addr × Obj)} {σ : St} {H : Hp} {s : Shared} {N : List Str} {cap : List (Option Nat)} {scope : Scope} {elt target iter : Expr} {ifs : List Expr} {pos : Pos} {g : TG} {tc : TT} {te : TE} {J : It} {fp : List Addr} {it : Addr} {tn : Nat → Heap → Prop}
    {Q : Addr → Hp → Prop} {RR : Value → Addr → Result → Shared → Prop} {E : Value → Shared → Prop} (hc : X.calm = true) (S : CompScope X N cap scope) (I : Inv X pins σ H s) (T : Turn X.prog X.w X.K target J fp it tn) (st : tn 0 s.heap) (fo : ∀ b ∈ fp, FpOk X pins H b)
    (hg : ∀ C s₀ H₀, PG (cxCompX X N scope C s₀ H₀ fp EX) target g) (ht : ∀ C s₀ H₀, PTs (cxCompX X N scope C s₀ H₀ fp EX) ifs tc) (he : ∀ C s₀ H₀, PE (cxCompX X N scope C s₀ H₀ fp EX) elt te)
    (h : Gath J cap g tc te Q σ H)
    (hER : ∀ D C, s.heap.objs.size ≤ C → X.env.locals ≠ C → ∀ e s', FlyC X.prog X.w X.stack fp H s.heap s.os EX C e s' → notedBy (model X.prog X.w) X.A (compEnvC scope (closOf X.env scope.names []) C X.env) (fun e' s'' => RR (.ref D) C (.error e') s'') e s')
    (hRR : ∀ D C s' H', Inv X pins σ H' s' → Q D H' → (∃ m, s'.heap.Ns C m) → H' C = none → X.s₀.heap.objs.size ≤ C → C ≠ X.env.locals → (∀ x c, X.env.cells.lookup x = some c → c ≠ C) → (∀ p ∈ X.pn ++ pins, p.1 ≠ C) → RR (.ref D) C (.ok .next) s') :
    wpAny (model X.prog X.w) X.A (newList []) (fun acc s₃ => wpAny (model X.prog X.w) X.A (newFunctionEnv scope X.env.globals (closOf X.env scope.names []) [] X.env.qual none .none (some X.env)) (fun cenv s₄ =>
      codeAny (model X.prog X.w) X.A (.compStart (.ListComp elt [⟨target, iter, ifs, 0⟩] scope pos) 0 (.ref it) acc { cenv with scope := relabel scope X.env }) (RR acc cenv.locals) s₄) E s₃) E s := by
  have hfr : ∀ a, s.heap.objs.size ≤ a → H a = none := fun a ha => I.hok.fresh ha
  obtain ⟨W, ⟨m0, w0⟩, turn⟩ := h
  have fol : ∀ b ∈ fp, b < s.heap.objs.size := fun b hb => by
    obtain ⟨o, ho, _⟩ := T.obj 0 _ st b hb
    exact Heap.lt_size ho
  have clt : ∀ x c, X.env.cells.lookup x = some c → c < s.heap.objs.size := fun x c e => by
    obtain ⟨v, q⟩ := I.cell x c e
    exact q.lt
  refine wpAny_newObj_type (wpAny_newFunctionEnv S.nocell (by intro y hy; simp at hy) (fun h₁ hns₁ hsb₁ => ?_) S.kind)
  dsimp only at hns₁ hsb₁ ⊢
  generalize hD : s.heap.objs.size = D at *
  generalize hH3 : s.heap.push { cls := .type "list", data := .seq ([] : List Value).toArray } = H3 at *
  have hC : H3.objs.size = D + 1 := by rw [← hH3, Heap.size_push, hD]
  have keep3 : ∀ b o, s.heap.get? b = some o → H3.get? b = some o := fun b o e => by rw [← hH3]; exact Heap.get?_push_of_some _ e
  have keep4 : ∀ b o, H3.get? b = some o → h₁.get? b = some o := fun b o e => hsb₁.extBut b o (Nat.ne_of_lt (Heap.lt_size e)) (Heap.get?_push_of_some _ e)
  have D4 : h₁.get? D = some (lobj [] 0) := keep4 _ _ (by rw [← hH3, ← hD]; exact Heap.get?_push_size _ rfl)
  generalize hCC : H3.objs.size = C at *
  have hDC : D < C := by omega
  have hDC' : D ≤ C := Nat.le_of_lt hDC
  have hL : X.env.locals < D := by rw [← hD]; exact I.lt
  have I4 : Inv (cxCompX X N scope C s H fp EX) [] (capt cap σ) H { s with heap := h₁, toks := s.toks + ([] : List (Str × Value)).length } :=
    inv_compX S I (by omega) hns₁ (fun b o e => keep4 b o (keep3 b o e)) fun b hb => ⟨by rw [hD]; exact fol b hb, fo b hb⟩
  have fp4 : ∀ {H' : Hp} {ob : Obj}, (∀ b ∈ fp, H' b = none) → ∀ b ∈ fp, FpOk (cxCompX X N scope C s H fp EX) [(D, ob)] H' b := fun {H' ob} hn b hb => by
    obtain ⟨f0, f1, f2, f3, f4, f5⟩ := fo b hb
    have hlt := fol b hb
    refine ⟨hn b hb, ?_, fun z => ?_, .inl hb, fun x c e => f4 x c (closOf_ok (fun n c e => by simp at e) x c e), fun p hp => ?_⟩
    · exact Nat.ne_of_lt (Nat.lt_of_lt_of_le hlt hDC')
    · rcases List.mem_cons.mp (I.stkSub b z) with e | e
      · exact f1 e
      · exact f2 e
    · have hp' : p ∈ [(D, ob)] := hp
      rw [List.mem_singleton.mp hp']
      exact Nat.ne_of_gt hlt
  have st4 : tn 0 h₁ := T.keep _ _ _ st fun b hb o e => keep4 b o (keep3 b o e)
  have nfs : D ∉ (cxCompX X N scope C s H fp EX).fs := fun z => by
    rcases List.mem_cons.mp (I.stkSub D z) with e | e
    · exact Nat.ne_of_gt hL e
    · exact I.nofs (Nat.le_of_eq hD) e
  have pinD : ∀ {σ' : St} {H' : Hp} {s' : Shared} {ob : Obj}, Inv (cxCompX X N scope C s H fp EX) [] σ' H' s' → H' D = none → s'.heap.get? D = some ob → (∀ v, ob.data ≠ .cell v) → Inv (cxCompX X N scope C s H fp EX) [(D, ob)] σ' H' s' := fun {σ' H' s' ob} J hn e nc =>
    J.pins_of fun p hp => by
      rw [List.mem_singleton.mp hp]
      exact ⟨e, hn, Nat.ne_of_lt hDC, nfs, nc⟩
  have loop : ∀ s₄ : Shared, s₄ = { s with heap := h₁, toks := s.toks + ([] : List (Str × Value)).length } →
      codeAny (model X.prog X.w) X.A (.compLoop (.ListComp elt [⟨target, iter, ifs, 0⟩] scope pos) 0 (.ref it) (.ref D) (compEnvC scope (closOf X.env scope.names []) C X.env)) (RR (.ref D) C) s₄ := by
    rintro s₄ rfl
    refine comp_loop (fun n s' => ∃ i ys its k σ' H', Inv (cxCompX X N scope C s H fp EX) [(D, lobj its k)] σ' H' s' ∧ Vals ys its ∧ tn i s'.heap ∧ (∀ b ∈ fp, H' b = none) ∧ W i n ys σ' H') ?_ m0
      ⟨0, [], [], 0, _, _, pinD I4 (hfr D (Nat.le_refl _)) D4 (fun v z => by cases z), .nil, st4, fun b hb => (fo b hb).1, w0⟩
    rintro n s5 ⟨i, ys, its, k, σ5, H5, I5, rv5, st5, fr5, w5⟩
    have hpin := I5.pin (D, lobj its k) (List.mem_append_right _ List.mem_cons_self)
    rcases turn i n ys σ5 H5 w5 with ⟨stop, hz, q⟩ | ⟨go, hz, NN, hNN, step⟩
    · refine thn (T.done (cxCompX X N scope C s H fp EX) rfl rfl rfl hc i _ s5 σ5 H5 _ I5 (fp4 fr5) st5 stop) fun r s6 ⟨hr, I6⟩ => ?_
      subst hr
      have p6 := I6.pin (D, lobj its k) (List.mem_append_right _ List.mem_cons_self)
      have I7 : Inv X pins σ (upd H5 D (.lst ys)) s6 := I.call' (ch := fp) I6.os (I6.base.add (Nat.le_of_eq hD) p6.2.1) (I6.hok.add p6.2.1 ⟨hz, its, k, rv5, p6.1⟩) I6.bare fun b hb => by
        obtain ⟨f0, f1, f2, f3, f4, f5⟩ := fo b hb
        exact ⟨f3, f1, f4, f5⟩
      obtain ⟨m6, hn6, _⟩ := I6.loc
      refine hRR _ C s6 _ I7 (q D p6.2.1) ⟨m6, hn6⟩ ?_ ?_ ?_ ?_ ?_
      · rw [upd_ne (Nat.ne_of_gt hDC)]; exact I6.free
      · exact Nat.le_trans (by rw [← hD]; exact I.sz) hDC'
      · exact Nat.ne_of_gt (Nat.lt_of_lt_of_le hL hDC')
      · intro x c e z
        exact Nat.ne_of_lt (Nat.lt_of_lt_of_le (clt x c e) hDC') z
      · intro p hp z
        have h6 := Heap.lt_size (I.pin p hp).1
        rw [hD] at h6
        exact Nat.ne_of_lt (Nat.lt_of_lt_of_le h6 hDC') z
    · refine thn (T.item (cxCompX X N scope C s H fp EX) rfl rfl rfl hc i _ s5 σ5 H5 _ I5 (fp4 fr5) st5 go) fun r s6 ⟨u, hr, h6⟩ => ?_
      subst hr
      refine thn h6 fun _ s7 ⟨x, H7, I7, r7, y7, st7, fr7⟩ => ?_
      have I7' := I7.pinned (fp4 fr7) (T.obj _ _ st7)
      have kept : ∀ {σ8 : St} {H8 : Hp} {s8 : Shared}, Inv (cxCompX X N scope C s H fp EX) ([(D, lobj its k)] ++ pinsAt fp s7.heap) σ8 H8 s8 → tn (i + 1) s8.heap ∧ ∀ b ∈ fp, H8 b = none := fun {σ8 H8 s8} I8 =>
        ⟨T.keep _ _ _ st7 fun b hb o e => (I8.pin (b, o) (List.mem_append_right _ (List.mem_append_right _ (mem_pinsAt hb e)))).1, fun b hb => by
          obtain ⟨o, e, d⟩ := T.obj _ _ st7 b hb
          exact (I8.pin (b, o) (List.mem_append_right _ (List.mem_append_right _ (mem_pinsAt hb e)))).2.1⟩
      refine wpAny_mono (hg C s H _ s7 σ5 H7 x u _ I7' r7 (step x H7 y7)) (fun _ s8 ⟨σ8, H8, I8, q8⟩ => ?_) fun e' s'' f => hER D C hDC' (Nat.ne_of_lt (Nat.lt_of_lt_of_le hL hDC')) e' s'' f
      refine wpAny_mono (ht C s H _ s8 σ8 H8 _ I8 q8) (fun ok s9 ⟨H9, I9, q9⟩ => ?_) fun e' s'' f => hER D C hDC' (Nat.ne_of_lt (Nat.lt_of_lt_of_le hL hDC')) e' s'' f
      cases ok with
      | false =>
        rw [if_neg Bool.false_ne_true] at q9 ⊢
        obtain ⟨m', hm, w9⟩ := hNN _ _ _ q9
        exact ⟨m', hm, i + 1, ys, its, k, σ8, H9, I9.unpinned, rv5, (kept I9).1, (kept I9).2, w9⟩
      | true =>
        rw [if_pos rfl] at q9 ⊢
        refine wpAny_mono (he C s H _ s9 σ8 H9 _ I9 q9) (fun y s10 ⟨yv, H10, I10, r10, n10⟩ => ?_) fun e' s'' f => hER D C hDC' (Nat.ne_of_lt (Nat.lt_of_lt_of_le hL hDC')) e' s'' f
        obtain ⟨m', hm, w10⟩ := hNN _ _ _ n10
        obtain ⟨k10, f10⟩ := kept I10
        have p10 := I10.pin (D, lobj its k) (List.mem_append_right _ (List.mem_append_left _ List.mem_cons_self))
        have hlen := rv5.length
        refine wpAny_list_append_plain (hsz := by rw [List.size_toArray]; omega) (show s10.heap.PlainList D its.toArray from ⟨k, p10.1⟩) fun h11 hl11 hsb11 => ?_
        obtain ⟨k11, e11⟩ := hl11
        have J0 : Inv (cxCompX X N scope C s H fp EX) [] σ8 H10 s10 := I10.pins_of fun p hp => nomatch hp
        have J1 : Inv (cxCompX X N scope C s H fp EX) [] σ8 H10 { s10 with heap := h11 } := J0.turned (t' := s10.toks) (fun b o hb e => hsb11.extBut b o hb e) p10.2.1 (Nat.ne_of_lt hDC) (.inr (Nat.le_of_eq hD)) (fun x c e z => Nat.ne_of_lt (clt x c (closOf_ok (fun n c e => by simp at e) x c e)) z) fun p hp => nomatch (show p ∈ ([] : List (Addr × Obj)) from hp)
        have e12 : h11.get? D = some (lobj (its ++ [y]) k11) := by rw [e11]; simp [lobj]
        refine ⟨m', hm, i + 1, ys ++ [yv], its ++ [y], k11, σ8, H10, pinD J1 p10.2.1 e12 (fun v z => by cases z), rv5.append (.cons r10 .nil), ?_, f10, w10⟩
        exact T.keep _ _ _ k10 fun b hb o e => hsb11.extBut b o (Nat.ne_of_lt (fol b hb)) e
  refine codeAny_compStart_list (loop _ ?_) (T.self X.A 0 _ _ _ ?_ (loop _ ?_))
  · rfl
  · exact st4
  · rfl

end L2

set_option Elab.async false
set_option linter.all false
set_option maxRecDepth 100000
set_option maxHeartbeats 4000000
namespace L2
open PySem PySem.Spec PyProof.Rows
theorem funFrames_to {B B' h h' : Heap} (hB : ∀ L, B.get? L = none → B'.get? L = none) : ∀ {l : List Env}, h.FunFrames B l → (∀ L ∈ frs l, ∀ o, h.get? L = some o → (∀ vs, o.data ≠ .fields vs) → ∃ o', h'.get? L = some o' ∧ o'.data = o.data) → h'.FunFrames B' l
  | [], _, _ => trivial
  | env :: r, ⟨hk, ⟨L, o, hf, hn, ho, hd⟩, hr⟩, k => by
    obtain ⟨o', e', d'⟩ := k L (by rw [frs_cons hf]; exact List.mem_cons_self) o ho hd
    refine ⟨hk, ⟨L, o', hf, hB L hn, e', fun vs z => hd vs (d' ▸ z)⟩, funFrames_to hB hr fun L' hL' => k L' ?_⟩
    rw [frs_cons hf]; exact List.mem_cons_of_mem _ hL'
section
variable {X : Cx} {E : XK} {pins : List (Addr × Obj)} {σ : List (Option V)} {H : Hp} {s : Shared}
theorem comp_exit {scope : Scope} {cl : List (Str × Addr)} {use : Option (Value → Sem Unit)} {Q : Value → Shared → Prop} {D C : Addr} {fp : List Addr} (hX : Exits X E) (I : Inv X pins σ H s) (hst : X.stack = X.env :: X.outer) (hfr : X.env.frame = some X.env.locals)
    (fo : ∀ b ∈ fp, b ∈ X.ex ∨ X.s₀.heap.objs.size ≤ b) (hC : s.heap.objs.size ≤ C) (e : Value) (s' : Shared) (h : FlyC X.prog X.w X.stack fp H s.heap s.os E C e s') :
    notedBy (model X.prog X.w) X.A (compEnvC scope cl C X.env) (fun e' s'' => compPost (model X.prog X.w) X.A X.xe use Q (.ref D) C (.error e') s'') e s' := by
  obtain ⟨a, B, cls, a0, H', rfl, os, bare, fl, hok, un, kb, hE, ⟨m, hns⟩, hHC⟩ := h
  obtain ⟨oC, es, ep, hBC, rC⟩ := id hns
  show wpAny (model X.prog X.w) X.A (noteFrame (.ref a) X.env) _ _ s'
  refine note_any (outer := X.outer) (L := X.env.locals) (by rw [← hst]; exact I.ok.frames) hfr (by rw [← hst]; exact fl) fun h1 held us1 => ?_
  obtain ⟨st1, hn1, fr1, tr1⟩ := held
  have flt : ∀ L ∈ frs X.stack, L ≠ C := fun L hL z => by
    obtain ⟨_, o', e', _⟩ := I.stack.mem hL
    rw [z] at e'
    exact absurd (Nat.lt_of_lt_of_le (Heap.lt_size e') hC) (Nat.lt_irrefl _)
  refine ⟨m, ⟨oC, es, ep, st1 C oC hBC, rC⟩, fun h2 hsb cenv hloc => ?_⟩
  obtain ⟨oe, vs, T, oT, ts, he, hcls, hd, hv1, hnT, hTe, hT, hdT, hv3⟩ := tr1
  have haC : a ≠ C := fun z => by rw [z, hBC] at hn1; cases hn1
  have hTC : T ≠ C := fun z => by rw [z, hBC] at hnT; cases hnT
  have he2 : h2.get? a = some oe := hsb.extBut _ _ haC he
  have hT2 : h2.get? T = some oT := hsb.extBut _ _ hTC hT
  unfold PySem.passOn
  refine wpAny_bind (wpAny_field (s := { s' with heap := h2 }) he2 hd hv1 ?_)
  rw [if_neg (show ¬ ((Value.ref T == Value.none) = true) from Bool.false_ne_true)]
  refine wpAny_bind ?_
  unfold setFlight
  refine wpAny_bind (wpAny_field (s := { s' with heap := h2 }) he2 hd hv1 ?_)
  rw [if_pos (show (Value.ref T != Value.none) = true from by simp)]
  refine wpAny_setField (s := { s' with heap := h2 }) hT2 hdT (Array.getElem?_eq_some_iff.mp hv3).1 (wpAny_throw ?_)
  generalize (cenv.frame.elim Value.none fun f => rawInt f) = fl3
  have other : ∀ b, b ≠ T → (h2.update T (Obj.mapFields (·.setIfInBounds 3 fl3))).get? b = h2.get? b := fun b hb => Heap.get?_update_other _ _ (Ne.symm hb)
  have hT3 : (h2.update T (Obj.mapFields (·.setIfInBounds 3 fl3))).get? T = some (oT.mapFields (·.setIfInBounds 3 fl3)) := Heap.get?_update_self _ hT2 (Obj.isFreed_of_fields (Obj.data_mapFields hdT _))
  generalize h2.update T (Obj.mapFields (·.setIfInBounds 3 fl3)) = h3 at other hT3 ⊢
  have hide : ∀ b o, B.get? b = some o → b ≠ C → (PySem.W.hideAll B [C]).get? b = some o := fun b o q hb => PySem.W.hideAll_get _ q (by simpa using hb)
  have unhide : ∀ b, B.get? b = none → (PySem.W.hideAll B [C]).get? b = none := fun b q => by
    cases z : (PySem.W.hideAll B [C]).get? b with
    | none => rfl
    | some o => rw [PySem.W.of_hideAll _ z] at q; cases q
  have h13 : ∀ b o, b ≠ C → b ≠ T → h1.get? b = some o → h3.get? b = some o := fun b o hb hb' q => (other b hb').trans (hsb.extBut b o hb q)
  have st3 : (PySem.W.hideAll B [C]).StaysIn h3 := fun b o q => by
    have q' := PySem.W.of_hideAll _ q
    have hb : b ≠ C := fun z => by rw [z, PySem.W.hideAll_none _ (by simp)] at q; cases q
    exact h13 b o hb (fun z => by rw [z, hnT] at q'; cases q') (st1 b o q')
  have frT : ∀ L ∈ frs X.stack, ∀ o, h1.get? L = some o → (∀ vs, o.data ≠ .fields vs) → h3.get? L = some o := fun L hL o q hd' => h13 L o (flt L hL) (fun z => by
    rw [z, hT] at q; cases q; exact hd' ts hdT) q
  have fr3 : h3.FunFrames (PySem.W.hideAll B [C]) X.stack := funFrames_to unhide (by rw [hst]; exact fr1) fun L hL o q hd' => ⟨o, frT L hL o q hd', rfl⟩
  have fl3' : FlyG (PySem.W.hideAll B [C]) X.stack a cls a0 h3 := ⟨st3, unhide a hn1, fr3, fl3, oe, vs, T, _, _, (other a (Ne.symm hTe)).trans he2, hcls, hd, hv1, unhide T hnT, hTe, hT3, Obj.data_mapFields hdT _, by simp [(Array.getElem?_eq_some_iff.mp hv3).1]⟩
  have kb3 : ∀ b o, s.heap.get? b = some o → b ∉ frs X.stack → b ∉ fp → (∃ o', (PySem.W.hideAll B [C]).get? b = some o') ∧ (H b = none → (PySem.W.hideAll B [C]).get? b = some o) := fun b o q hb hx => by
    have hbC : b ≠ C := Nat.ne_of_lt (Nat.lt_of_lt_of_le (Heap.lt_size q) hC)
    obtain ⟨⟨o', e'⟩, k2⟩ := kb b o q hb hx
    exact ⟨⟨o', hide b o' e' hbC⟩, fun n => hide b o (k2 n) hbC⟩
  have un3 : Un (frs X.stack) fp H H' s.heap h3 := un_left un kb3 st3 (fun b hb o q hd' => by
    obtain ⟨sl, q1⟩ := us1 b o q hd'
    exact ⟨sl, frT b hb _ q1 hd'⟩) (fun b hb => (I.stack.mem hb).2) I.stkFree
  have hok3 : HOk X.prog X.w H' (PySem.W.hideAll B [C]) := fun b u q => (hok b u q).stay (fun c v hc z => hide c v z fun y => by
    rcases hc with rfl | hc
    · rw [y, hHC] at q; cases q
    · rw [y, hHC] at hc; cases hc) (fun _ z => z) fun _ _ z => z
  exact hX I.ok _ _ (fly_back I fo ⟨a, _, cls, a0, H', rfl, os, bare, fl3', hok3, un3, kb3, hE⟩)
end
section
variable {X : Cx} {E : XK} {N : List Str} {cap : List (Option Nat)} {scope : Scope} {elt target iter : Expr} {ifs : List Expr} {pos pos' spos : Pos} {wi : TI} {g : TG} {tc : TT} {te : TE}
theorem pe_compX (hX : Exits X E) (hst : X.stack = X.env :: X.outer) (hfr : X.env.frame = some X.env.locals) (hc : X.calm = true) (S : CompScope X N cap scope) (hi : PI X target iter wi)
    (hg : ∀ C s₀ H₀ ex, PG (cxCompX X N scope C s₀ H₀ ex E) target g) (ht : ∀ C s₀ H₀ ex, PTs (cxCompX X N scope C s₀ H₀ ex E) ifs tc) (he : ∀ C s₀ H₀ ex, PE (cxCompX X N scope C s₀ H₀ ex E) elt te)
    (hs : ∀ x, foldedSetIterable iter X.env x = pure x := by intro _; rfl) :
    PE X (.ListComp elt [⟨target, iter, ifs, 0⟩] scope pos) (fun σ H Q => tComp cap wi g tc te (fun D H' => Q (.ref D) H') σ H) := by
  intro pins s σ H Q I h
  have hclos : closureFor scope X.env = pure (closOf X.env scope.names []) := closureFor_of fun y hy hf => I.ok.has y.1 (S.fre y hy hf)
  rw [eval_ListComp]
  refine wpAny_comprehension_free (use := none) rfl hs hclos S.kind S.loc (thn (hi pins s σ H _ I h) fun xv s1 h1 => thn h1 fun itv s2 h2 => ?_)
  obtain ⟨it, fp, tn, J, H2, e, I2, T, st2, f2, q2⟩ := h2
  subst e
  refine comp_blockX (EX := E) (RR := fun acc C => compPost (model X.prog X.w) X.A X.xe none (EP X pins σ Q) acc C) hc S I2 T st2 f2 (fun C s₀ H₀ => hg C s₀ H₀ fp) (fun C s₀ H₀ => ht C s₀ H₀ fp) (fun C s₀ H₀ => he C s₀ H₀ fp) q2
    (fun D C hC _ e s' hf => comp_exit hX I2 hst hfr (fun b hb => (f2 b hb).2.2.2.1) hC e s' hf) ?_
  intro D C s' H' I' q ⟨m, hn⟩ hf hsz hL hcell hpin
  refine ⟨m, hn, fun h' hsb => ⟨.ref D, H', ?_, rfl, q⟩⟩
  exact I'.turned (t' := s'.toks) (fun b o hb e => hsb.extBut b o hb e) hf hL (.inr hsz) hcell hpin
end
end L2

set_option Elab.async false
set_option linter.all false
set_option maxRecDepth 100000
set_option maxHeartbeats 4000000
namespace L2
open PySem PySem.Spec PyProof.Rows
section
variable {X : Cx} {E : XK} {N : List Str} {cap : List (Option Nat)} {scope : Scope} {elt target iter : Expr} {ifs : List Expr} {pos pos' spos : Pos} {wi : TI} {g : TG} {tc : TT} {te : TE}
theorem j_compX (hX : Exits X E) (hst : X.stack = X.env :: X.outer) (hfr : X.env.frame = some X.env.locals) (hc : X.calm = true) (S : CompScope X N cap scope) (hi : JI X target iter wi)
    (hg : ∀ C s₀ H₀ ex, JG (cxCompX X N scope C s₀ H₀ ex E) target g) (ht : ∀ C s₀ H₀ ex, JTs (cxCompX X N scope C s₀ H₀ ex E) ifs tc) (he : ∀ C s₀ H₀ ex, JE (cxCompX X N scope C s₀ H₀ ex E) elt te)
    (hs : ∀ x, foldedSetIterable iter X.env x = pure x := by intro _; rfl) :
    JE X (.ListComp elt [⟨target, iter, ifs, 0⟩] scope pos) (fun σ H Q => tComp cap wi g tc te (fun D H' => Q (.ref D) H') σ H) :=
  .mk (pe_compX hX hst hfr hc S hi.out (fun C s₀ H₀ ex => (hg C s₀ H₀ ex).out) (fun C s₀ H₀ ex => (ht C s₀ H₀ ex).out) (fun C s₀ H₀ ex => (he C s₀ H₀ ex).out) hs)
end
end L2

set_option Elab.async false
set_option linter.all false
set_option maxRecDepth 100000
set_option maxHeartbeats 4000000
namespace L2
open PySem PySem.Spec PyProof.Rows

def mroHas (K : PySem.W.Frag) (C : Addr) (v : Value) : Bool := match K.lookup C with
  | some ⟨_, _, .cls cd, _⟩ => cd.mro.contains v
  | _ => false
theorem exc_of_in2 {K : PySem.W.Frag} {h : Heap} {C : Addr} {bmB : List Value} {newId : String} (X : K.In h) (q : PySem.W.excIn K C bmB newId = true) :
    ∃ bm N nm q bs hdct sn sub ab col dd k0 k1 k2 k3 k5 mN, h.get? C = some (excClassObj nm q C N bs bm hdct sn sub ab col dd k0 k1 k2 k3 k5 newId) ∧ h.Ns N mN ∧ mN "__init__" = none ∧ OwnTail h bmB bm ∧ ∀ v, mroHas K C v = (Value.ref C :: bm).contains v := by
  unfold PySem.W.excIn at q
  split at q
  · rename_i dd cd sl ho
    split at q
    · rename_i C' bm k0 k1 k2 k3 n k5 hm hs
      simp only [Bool.and_eq_true, beq_iff_eq, Bool.not_eq_true'] at q
      obtain ⟨⟨⟨⟨⟨rfl, rfl⟩, hdel⟩, ht⟩, hok⟩, hni⟩ := q
      have hv : ∀ v, mroHas K C' v = (Value.ref C' :: bm).contains v := fun v => by unfold mroHas; rw [ho]; dsimp only; rw [hm]
      obtain ⟨nm, bs, mro, ns, qn, hd, sn, sub, ab, col, del⟩ := cd
      dsimp only at hm hdel hok hni
      subst hm hdel
      have hsl : sl = #[k0, k1, k2, k3, some (.builtin n), k5] := by
        obtain ⟨l⟩ := sl
        simp only at hs
        rw [hs]
      subst hsl
      exact ⟨bm, ns, nm, qn, bs, hd, sn, sub, ab, col, dd, k0, k1, k2, k3, k5, _, X _ _ ho, .of_isNs (PySem.W.isNs_of_in X hok), PySem.W.nsMap_none_of_in X hok hni, PySem.W.tail_of_in X ht, hv⟩
    · cases q
  · cases q
section
variable {M : Model} {A : Around} {E : Value → Shared → Prop}
variable {nm q : Str} {C N : Addr} {bs bm : List Value} {hdct : Bool} {sn : List Str} {sub : List Value} {ab : Bool} {col : Option Bool} {dd : Option Addr} {k0 k1 k2 k3 k5 : Option Value} {newId : String}
variable {nm' q' : Str} {G N' : Addr} {bs' bm' : List Value} {hdct' : Bool} {sn' : List Str} {sub' : List Value} {ab' : Bool} {col' : Option Bool} {dd' : Option Addr} {k0' k1' k2' k3' k5' : Option Value} {newId' : String}
theorem excMatches_own {h : Heap} {g : Array GenState} {d : Drawn} {t : Nat} {os : OsState} {e : Addr} {oe : Obj} {Q : Bool → Shared → Prop}
    (hC : h.get? C = some (excClassObj nm q C N bs bm hdct sn sub ab col dd k0 k1 k2 k3 k5 newId)) (hG : h.get? G = some (excClassObj nm' q' G N' bs' bm' hdct' sn' sub' ab' col' dd' k0' k1' k2' k3' k5' newId')) (he : h.get? e = some oe) (hcls : oe.cls = .ref C)
    (hbase : bm'.contains (.type "BaseException") = true) (hm : (Value.ref C :: bm).contains (.ref G) = true)
    (hq : Q true ⟨h, g, d, t, os⟩) : wpAny M A (excMatches (.ref e) (.ref G)) Q E ⟨h, g, d, t, os⟩ := by
  have hcB : (Value.ref G :: bm').contains (.type "BaseException") = true := by rw [List.contains_cons, hbase, Bool.or_true]
  have f := tc_notTuple
  unfold excMatches
  repeat (first | (with_reducible refine wpAny_loadPart_at he ?_; rw [hcls]) | with_reducible refine wpAny_loadPart_at hG ?_ | with_reducible refine wpAny_loadPart_at hC ?_ | (with_reducible refine wpAny_isSubtype_exc hG ?_; rw [hcB]) | (with_reducible refine wpAny_isSubtype_exc hC ?_; rw [hm]) | wp_step)
  exact hq
end
section
variable {X : Cx} {pins : List (Addr × Obj)} {σ : List (Option V)} {H : Hp} {s : Shared}
theorem goes_ok {M : Model} {A : Around} {E : Value → Shared → Prop} {i : Nat} {n : Str} {pos : Pos} {Q : Unit → Shared → Prop} (I : Inv X pins σ H s) (hN : X.N.Nodup) (hi : X.N[i]? = some n) (hk : X.env.kindOf n = some .local)
    (h : ∀ s', Inv X pins (σ.set i none) H s' → Q () s') : wpAny M A (do bindName X.env n .none; unbindBehindTheSuite X.env n pos) Q E s := by
  obtain ⟨m, hn, hl⟩ := id I.loc
  have hcls : (X.env.scope.kind == .class || (X.env.scope.kind == .module && X.env.locals != X.env.globals)) = false := by rw [I.ok.kind]; rfl
  have hiσ : i < σ.length := by rw [I.len]; exact (List.getElem?_eq_some_iff.mp hi).1
  have cne := I.cne
  refine wpAny_nameGoes_keeps hk hn hcls fun h' v hn' hs => h _ ?_
  obtain ⟨oL, _, _, hoL, _⟩ := id hn
  have tracked : HOk X.prog X.w H h' := fun b ob e => by
    refine (I.hok b ob e).stay (fun c w' hc q => (hs.2 c ?_).trans q) (fun _ q => q) fun _ _ q => q
    rintro rfl
    have hfree := I.free
    rcases hc with rfl | hc
    · rw [hfree] at e; cases e
    · rw [hfree] at hc; cases hc
  refine Inv.tok (s := { s with heap := h' }) ⟨I.ok, I.os, I.bare, ⟨fun b o e n hb hx => ?_, fun b o e n hb hx => ?_, I.base.free, fun b o e hx => ?_, I.base.tups, I.base.frzs, I.base.tbls⟩, ⟨_, hn', fun j y v' e1 e2 e3 => ?_⟩, fun y c e => ?_, I.free, I.freeC, fun p hp => ?_, tracked, by simpa using I.len⟩ _
  · exact (hs.2 b (Nat.ne_of_lt (Nat.lt_of_lt_of_le (Heap.lt_size e) I.ok.above))).trans (I.base.keep b o e n hb hx)
  · obtain ⟨sl, e1⟩ := I.base.slot b o e n hb hx
    exact ⟨sl, (hs.2 b (Nat.ne_of_lt (Nat.lt_of_lt_of_le (Heap.lt_size e) I.ok.above))).trans e1⟩
  · obtain ⟨o', e1⟩ := I.base.there b o e hx
    exact ⟨o', (hs.2 b (Nat.ne_of_lt (Nat.lt_of_lt_of_le (Heap.lt_size e) I.ok.above))).trans e1⟩
  · by_cases hj : j = i
    · subst hj
      rw [List.getElem?_set_self hiσ] at e2
      cases e2
    · rw [List.getElem?_set_ne (Ne.symm hj)] at e2
      obtain ⟨u', r', q⟩ := hl j y v' e1 e2 e3
      refine ⟨u', r', ?_⟩
      rcases q with ⟨k, e⟩ | ⟨k, c, e, z⟩
      · refine .inl ⟨k, ?_⟩
        have : y ≠ n := fun e => hj (nodup_ix hN e1 (e ▸ hi))
        simp [this, e]
      · exact .inr ⟨k, c, e, z.sameBut hs (cne y c e)⟩
  · obtain ⟨w', z⟩ := I.cell y c e
    exact ⟨w', z.sameBut hs (cne y c e)⟩
  · obtain ⟨e, n, ne, nf, d⟩ := I.pin p hp
    exact ⟨(hs.2 p.1 ne).trans e, n, ne, nf, d⟩
end
def cxSuite (X : Cx) (a : Addr) (oe : Obj) : Cx := { X with A := X.A.mark (some (.ref a)), calm := false, pn := X.pn ++ [(a, oe)], xe := fun _ _ => False }
theorem suite_in {X : Cx} {pins : List (Addr × Obj)} {σ : List (Option V)} {H : Hp} {s : Shared} {a : Addr} {oe : Obj} (I : Inv X pins σ H s) (he : s.heap.get? a = some oe) (hn : H a = none) (hL : a ≠ X.env.locals) (hf : a ∉ X.fs) (hd : ∀ v, oe.data ≠ .cell v) :
    Inv (cxSuite X a oe) pins σ H s :=
  ⟨⟨I.ok.mod, I.ok.kind, I.ok.glob, I.ok.blt, I.ok.above, I.ok.inj, I.ok.has, I.ok.cab, fun z => absurd z Bool.false_ne_true, I.ok.frames, I.ok.stk, I.ok.exf, I.ok.bs, I.ok.bsz, I.ok.noex, I.ok.exfs, I.ok.funs, I.ok.frf⟩, I.os, I.bare, I.base, I.loc, I.cell, I.free, I.freeC, fun p hp => by
    have hp' : p ∈ (X.pn ++ [(a, oe)]) ++ pins := hp
    rcases List.mem_append.mp hp' with z | z
    · rcases List.mem_append.mp z with y | y
      · exact I.pin p (List.mem_append_left _ y)
      · rw [List.mem_singleton.mp y]; exact ⟨he, hn, hL, hf, hd⟩
    · exact I.pin p (List.mem_append_right _ z), I.hok, I.len⟩
theorem suite_out {X : Cx} {pins : List (Addr × Obj)} {σ : List (Option V)} {H : Hp} {s : Shared} {a : Addr} {oe : Obj} (ok : X.Ok) (I : Inv (cxSuite X a oe) pins σ H s) : Inv X pins σ H s :=
  ⟨ok, I.os, I.bare, I.base, I.loc, I.cell, I.free, I.freeC, fun p hp => I.pin p (by
    show p ∈ (X.pn ++ [(a, oe)]) ++ pins
    rcases List.mem_append.mp hp with z | z
    · exact List.mem_append_left _ (List.mem_append_left _ z)
    · exact List.mem_append_right _ z), I.hok, I.len⟩
end L2

set_option Elab.async false
set_option linter.all false
set_option maxRecDepth 100000
set_option maxHeartbeats 4000000
namespace L2
open PySem PySem.Spec PyProof.Rows
theorem objOk_there {P : Program} {w : World} {H : Hp} {h : Heap} {a : Addr} {o : HO} (x : ObjOk P w H h a o) : ∃ u, h.get? a = some u := by
  induction o with
  | lst xs => obtain ⟨_, _, _, _, e⟩ := x; exact ⟨_, e⟩
  | tup xs => obtain ⟨_, _, _, o, e, _⟩ := x; exact ⟨_, e⟩
  | dK kvs => obtain ⟨_, _, _, _, o, _, _, e, _⟩ := x; exact ⟨_, e⟩
  | dT kvs => obtain ⟨_, _, _, _, o, _, _, e, _⟩ := x; exact ⟨_, e⟩
  | set S n => obtain ⟨o, _, _, _, e, _⟩ := x; exact ⟨_, e⟩
  | ins C dx fs => obtain ⟨_, _, _, e, _⟩ := x; exact ⟨_, e⟩
  | own y => exact x
  | xd fs => obtain ⟨_, ⟨_, _, _, e, _⟩, _⟩ := x; exact ⟨_, e⟩
  | rng lo hi => obtain ⟨_, _, _, e⟩ := x; exact ⟨_, e⟩
  | frz o u ih => exact ⟨_, x.1⟩
  | tbl ps => exact ⟨_, x⟩
  | met f y => exact ⟨_, x⟩
  | ext φ => exact x.2.1
structure ExcK (K : PySem.W.Frag) (C : Addr) : Prop where
  exc : PySem.W.excIn K C bmVE "ValueError.__new__" = true
  f1 : PySem.W.findIn K (.ref C) "__getattribute__" = some (some (.builtin "BaseException.__getattribute__"))
  f2 : PySem.W.findIn K (.ref C) "__getattr__" = some none
  f3 : PySem.W.findIn K (.ref C) "__class__" = some (some (.builtin "object.__class__"))
  obj : PySem.W.mroIn K C (.type "object") = some true
def sufEnds (i : Nat) (D : Ends) : Ends := { nx := fun σ H => D.nx (σ.set i none) H, rt := D.rt, bk := fun σ H => D.bk (σ.set i none) H, ct := fun σ H => D.ct (σ.set i none) H }
def tTryAs (K : PySem.W.Frag) (CG : Addr) (i : Nat) (sp : Sp) (t : TA) (ts : Addr → Addr → TS) : TS := fun D σ H => t σ H fun vs H1 => sp vs H1 (fun _ H2 => D.nx σ H2) fun cls _ H2 =>
  ∃ C, cls = .ref C ∧ ExcK K C ∧ mroHas K C (.ref CG) = true ∧ ∀ a, H2 a = none → ts a C (sufEnds i D) (σ.set i (some (.ref a))) H2
section
variable {X : Cx} {k : Nat} {x G n : Str} {ps : List Str} {sp : Sp} {e : Expr} {es : List Expr} {t : TA} {p gp cpos epos hpos pos : Pos} {CG : Addr} {newId : String} {i : Nat} {b₀ : Stmt} {suite : List Stmt} {ts : Addr → Addr → TS}
theorem ps_tryAs (hst : X.stack = X.env :: X.outer) (hfr : X.env.frame = some X.env.locals) (D : DefX X.prog X.w X.K X.mg X.base k x ps sp) (hr : Room k X.A) (hg : Gl X x) (ha : PA X.nox (e :: es) t)
    (hgG : Gl X G) (hmG : X.mg G = some (.ref CG)) (hqG : PySem.W.excIn X.K CG bmVE "ValueError.__new__" = true) (hN : X.N.Nodup) (hi : X.N[i]? = some n) (hk : X.env.scope.names.lookup n = some .local)
    (hsu : ∀ a oe C, oe.cls = .ref C → ExcK X.K C → PSs (cxSuite X a oe) (b₀ :: suite) (ts a C)) (hdb : (x == ("__debug__" : Str)) = false := by decide) (hdG : (G == ("__debug__" : Str)) = false := by decide)
    (hstar : noStars (e :: es) = true := by rfl) (hsw : swapsWith (.Call (.Name x p) (e :: es) [] cpos) none epos.line X.env = pure false := by rfl) :
    PS X (.Try [.Expr (.Call (.Name x p) (e :: es) [] cpos) epos] [.ExceptHandler (some (.Name G gp)) (some n) (b₀ :: suite) hpos] [] [] pos) (tTryAs X.K CG i sp t ts) := by
  intro pins s σ H Dn I h
  obtain ⟨f, fd, mgf, kp, _, b, Fk⟩ := D.ex
  have h' : noStar e = true ∧ noStars es = true := by simpa [noStars] using hstar
  have he := starEach_cons (es := es) (env := X.env) h'.1
  have hpl := back_any (env := X.env) (pos := cpos) h'.2
  refine wpAny_Try_except (wpAny_execs_cons (wpAny_Expr_any (wpAny_Call_Name_kw (ld_glob I hg mgf ?_ hdb)) I.quiet hsw))
  refine PySem.W.callWith_K (h₀ := X.base) I.ok.mod.kin kp (wpAny_mono (ha cpos pins s σ H _ (I.wish _) h) (fun us s1 h1 => ?_) fun _ _ z => False.elim z) he hpl
  obtain ⟨vs, H1, I1', r, q⟩ := h1
  have I1 := I1'.unwish
  refine ⟨I1.kIn, ?_⟩
  have hl : us.length = ps.length := by rw [← r.length]; exact Fk.len _ _ _ _ q
  have hbind : BindsTo s1 fd ⟨us, []⟩ (ps.zip us) := by
    have := b s1 us I1.kIn (by rw [List.append_nil]; exact hl)
    rw [List.append_nil] at this; exact this
  refine wpAny_call (codeAny_mono (Fk.run X.A X.stack s1 H1 ⟨us, []⟩ us vs _ _ hr I1.env0 hbind r q) fun r' s' hq => ?_)
  cases r' with
  | ok fl =>
    cases fl with
    | ret u =>
      obtain ⟨v, H2, I2, rv, q2⟩ := I1.after hq
      exact wpAny_execs_nil (wpAny_execs_nil ⟨σ, H2, I2, q2⟩)
    | next => exact False.elim hq
    | brk => exact False.elim hq
    | cont => exact False.elim hq
  | error er =>
    obtain ⟨a, B, cls, a0, H', rfl, os, bare, fl, hok, un, kb, C, rfl, hqC, hmro, hts⟩ := hq
    have nf : ∀ b ∈ frs X.stack, ∃ o, s1.heap.get? b = some o ∧ ∀ vs, o.data ≠ .fields vs := fun b hb => (I1.stack.mem hb).2
    have mk : ∀ h1, B.StaysIn h1 → s'.heap.UpToSlots h1 → Inv X pins σ H' { s' with heap := h1 } := fun h1 st us =>
      I1.call' (s' := { s' with heap := h1 }) (ch := []) os (un_left un kb st (fun b _ => us b) nf I1.stkFree) (hok.kept st) bare fun b z => nomatch z
    refine note_any (env := X.env) (outer := X.outer) (L := X.env.locals) (by rw [← hst]; exact I.ok.frames) hfr (by rw [← hst]; exact fl) fun h1 held us1 => ?_
    refine wpAny_landsW (s := { s' with heap := h1 }) held fun h2 fl2 us2 => ?_
    have I2 := mk h2 fl2.1 (us1.trans us2)
    obtain ⟨ob, hob, hobc⟩ := fl2.there
    obtain ⟨bm, N, nm, qn, bs, hdct, sn, sub, ab, col, dd, k0, k1, k2, k3, k5, mN, hC, hN', hni, TL, hv⟩ := exc_of_in2 (h := X.base) I.ok.mod.kin hqC.exc
    obtain ⟨bm', N'', nm', qn', bs', hdct', sn', sub', ab', col', dd', k0', k1', k2', k3', k5', mN', hCG, hNG, hniG, TG, hvG⟩ := exc_of_in2 (h := X.base) I.ok.mod.kin hqG
    refine wpAny_handleBy_cons (codeAny_handlers_test (Calls.Name_function_global I2.ok.kind hgG (Calls.loadGlobal_global (by rw [I2.ok.glob]; exact I2.mod.glob.keeps I2.bk) hmG ?_) hdG)) (by intro q; cases q)
    refine excMatches_own (I2.bk _ _ hC) (I2.bk _ _ hCG) hob hobc (TG.hasType F.excBase_ValueError.hasBase) (by rw [← hv]; exact hmro) (codeAny_handlers_suite_as ?_)
    refine lands_againW (s := { s' with heap := h2 }) fl2 fun h3 fl3 us3 => ?_
    have I3 := mk h3 fl3.1 ((us1.trans us2).trans us3)
    obtain ⟨oe, ws, hoe, hoec, hoed, _⟩ := fl3.first
    have hHa : H' a = none := by
      cases z : H' a with
      | none => rfl
      | some o =>
        obtain ⟨u, hu⟩ := objOk_there (hok a o z)
        rw [fl.2.1] at hu; cases hu
    have notfr : a ∉ frs (X.env :: X.outer) := fun z => by
      obtain ⟨_, o', e', d'⟩ := fl3.2.2.1.mem z
      rw [hoe] at e'; cases e'
      exact d' ws hoed
    have hL : a ≠ X.env.locals := fun z => notfr (by rw [frs_cons hfr, z]; exact List.mem_cons_self)
    have hF : a ∉ X.fs := fun z => notfr (by rw [frs_cons hfr]; exact List.mem_cons_of_mem _ z)
    have Is := suite_in I3 hoe hHa hL hF (fun v z => by rw [hoed] at z; cases z)
    have hkl : X.env.kindOf n = some .local := hk
    refine store_ok (X := cxSuite X a oe) Is hN hi (.inl hk) (show RelV (.ref a) (.ref a) from rfl) (fun s4 I4 => ?_) (.inr hk)
    refine wpAny_mono (hsu a oe C hoec hqC pins s4 _ H' (sufEnds i Dn) I4 (hts a hHa)) (fun fl s5 h5 => ?_) fun _ _ z => z.elim
    cases fl with
    | next =>
      obtain ⟨σ5, H5, I5, q5⟩ := h5
      exact goes_ok (suite_out I.ok I5) hN hi hkl fun s6 I6 => ⟨_, H5, I6, q5⟩
    | brk =>
      obtain ⟨σ5, H5, I5, q5⟩ := h5
      exact goes_ok (suite_out I.ok I5) hN hi hkl fun s6 I6 => ⟨_, H5, I6, q5⟩
    | cont =>
      obtain ⟨σ5, H5, I5, q5⟩ := h5
      exact goes_ok (suite_out I.ok I5) hN hi hkl fun s6 I6 => ⟨_, H5, I6, q5⟩
    | ret u =>
      obtain ⟨v, σ5, H5, I5, r5, q5⟩ := h5
      exact goes_ok (suite_out I.ok I5) hN hi hkl fun s6 I6 => ⟨v, _, H5, I6, r5, q5⟩
theorem js_tryAs {K : PySem.W.Frag} (hst : X.stack = X.env :: X.outer) (hfr : X.env.frame = some X.env.locals) (D : DefX X.prog X.w X.K X.mg X.base k x ps sp) (hr : Room k X.A) (hg : Gl X x) (ha : JA X.nox (e :: es) t)
    (hgG : Gl X G) (hmG : X.mg G = some (.ref CG)) (hqG : PySem.W.excIn X.K CG bmVE "ValueError.__new__" = true) (hN : X.N.Nodup) (hi : X.N[i]? = some n) (hk : X.env.scope.names.lookup n = some .local)
    (hsu : ∀ a oe C, oe.cls = .ref C → ExcK X.K C → JSs (cxSuite X a oe) (b₀ :: suite) (ts a C)) (hK : X.K = K := by rfl) (hdb : (x == ("__debug__" : Str)) = false := by decide) (hdG : (G == ("__debug__" : Str)) = false := by decide)
    (hstar : noStars (e :: es) = true := by rfl) (hsw : swapsWith (.Call (.Name x p) (e :: es) [] cpos) none epos.line X.env = pure false := by rfl) :
    JS X (.Try [.Expr (.Call (.Name x p) (e :: es) [] cpos) epos] [.ExceptHandler (some (.Name G gp)) (some n) (b₀ :: suite) hpos] [] [] pos) (tTryAs K CG i sp t ts) := by
  subst hK
  exact .mk (ps_tryAs hst hfr D hr hg ha.out hgG hmG hqG hN hi hk (fun a oe C h Z => (hsu a oe C h Z).out) hdb hdG hstar hsw)
end
end L2

set_option Elab.async false
set_option linter.all false
set_option maxRecDepth 100000
set_option maxHeartbeats 4000000
namespace PySem.W
open PySem PySem.Calls PyProof.Rows Builtin Builtin.ObjectAttr Builtin.Getset_descriptor
theorem class_getE {prog : Program} {w : World} {A : Around} {R : Result → Shared → Prop} {s : Shared} {K : Frag} {x C : Addr} {ox : Obj} {tp : Value} (X : K.In s.heap) (hx : s.heap.get? x = some ox) (hc : ox.cls = .ref C) (hm : mroIn K C (.type "object") = some true)
    (h : R (.ok (.ret (.ref C))) s) : codeAny (model prog w) A (.call (.builtin "getset_descriptor.__get__") ⟨[.builtin "object.__class__", .ref x, tp], []⟩) R s := by
  obtain ⟨hh, g, dr, t, os⟩ := s
  have L0 : Looks (model prog w) hh (typeOf (.ref x)) (.ref C) := hc ▸ (Looks.ld hx).andThen .now
  have L1 := looks_mroIn (M := model prog w) X hm
  refine codeAny_call_builtin KF.slot_gs.plain KF.entry_gs (KF.slot_gs.check _ _ _ _ _ _ _ _ KF.type_class (KF.args_gs _ _ _) ?_)
  unfold Builtin.«getset_descriptor.__get__» descrGet
  rw [dga_obj]
  refine wpAny_bind (wpAny_pure ?_)
  unfold descrGetter descrCheckInstance descrNameAndClass isInstance
  simp only [KF.owner_class]
  repeat lk
  refine ⟨Code.quiet_builtin _ (by decide +kernel), codeAny_builtin KF.entry_class ?_⟩
  unfold Builtin.«object.__class__» shownTypeOf
  repeat lk
  exact h
end PySem.W
namespace L2
open PySem PySem.Spec PyProof.Rows PySem.W
structure InstE (h : Heap) (a : Addr) (o : Obj) (C : Addr) : Prop where
  at_ : h.get? a = some o
  cls : o.cls = .ref C
section
variable {prog : Program} {w : World} {A : Around} {E : Value → Shared → Prop} {h : Heap} {g : Array GenState} {d : Drawn} {t : Nat} {os : OsState} {a : Addr} {o : Obj} {K : Frag}
  {nm q : Str} {C N : Addr} {bs bm : List Value} {hdct : Bool} {sn : List Str} {sub : List Value} {ab : Bool} {col : Option Bool} {dd : Option Addr} {k0 k1 k2 k3 k5 : Option Value} {newId : String}
theorem tl_in {M : Model} {name : Str} {r : Option Value} {Q : Option Value → Shared → Prop} (X : K.In h) (f : findIn K (.ref C) name = some r) (hq : Q r ⟨h, g, d, t, os⟩) : wpAny M A (typeLookup (.ref C) name) Q E ⟨h, g, d, t, os⟩ :=
  (looks_findIn (M := M) X f).at hq
theorem check_ga {M : Model} {nameV : Value} {Q : Unit → Shared → Prop} (hC : h.get? C = some (excClassObj nm q C N bs bm hdct sn sub ab col dd k0 k1 k2 k3 k5 newId)) (hcB : (Value.ref C :: bm).contains (.type "BaseException") = true)
    (hx : h.get? a = some o) (hc : o.cls = .ref C) (hq : Q () ⟨h, g, d, t, os⟩) : wpAny M A (checkBuiltinCall "BaseException.__getattribute__" ⟨[.ref a, nameV], []⟩) Q E ⟨h, g, d, t, os⟩ := by
  have hk : builtinKind "BaseException.__getattribute__" = some .slot := by decide +kernel
  have hsplit : splitId "BaseException.__getattribute__" = some ("BaseException", "__getattribute__") := by decide +kernel
  have ha := F.args_bexc_ga (.ref a) nameV
  simp only [checkBuiltinCall, hk, hsplit]
  refine wpAny_bind ?_
  · unfold isInstance
    repeat (first | (with_reducible refine wpAny_loadPart_at hx ?_; rw [hc]) | (with_reducible refine wpAny_isSubtype_exc hC ?_; rw [hcB]) | wp_step)
    exact hq
theorem class_entry {tk : Tok} {Q : Fin → Shared → Prop} (X : K.In h) (I : InstE h a o C) (f3 : findIn K (.ref C) "__class__" = some (some (.builtin "object.__class__"))) (hm : mroIn K C (.type "object") = some true)
    (hq : Q (.done (.ret (.ref C))) ⟨h, g, d, t, os⟩) :
    wpAny (model prog w) A (Builtin.«object.__getattribute__» ⟨[.ref a, .str "__class__" tk], []⟩) Q E ⟨h, g, d, t, os⟩ := by
  have hx := I.at_
  have hc := I.cls
  have hT5 : (⟨h, g, d, t, os⟩ : Shared).TypeIs (.builtin "object.__class__") "getset_descriptor" := F.typeOf_object_class
  have f5 := F.typeOf_object_class
  have f6 := F.slot_gs_get.lookup
  have f7 := F.slot_gs_set.lookup
  repeat (any_goals (first | assumption | (with_reducible refine wpAny_loadPart_at hx ?_; rw [hc]) | with_reducible refine tl_in X f3 ?_ | wp_step))
  refine PySem.W.class_getE (s := ⟨h, g, d, t, os⟩) X I.at_ I.cls hm ?_
  repeat (any_goals (first | assumption | wp_step))
theorem class_call {tk : Tok} {R : Result → Shared → Prop} (X : K.In h) (I : InstE h a o C) (hC : h.get? C = some (excClassObj nm q C N bs bm hdct sn sub ab col dd k0 k1 k2 k3 k5 newId)) (hcB : (Value.ref C :: bm).contains (.type "BaseException") = true)
    (f3 : findIn K (.ref C) "__class__" = some (some (.builtin "object.__class__"))) (hm : mroIn K C (.type "object") = some true) (hq : R (.ok (.ret (.ref C))) ⟨h, g, d, t, os⟩) :
    codeAny (model prog w) A (.call (.builtin "BaseException.__getattribute__") ⟨[.ref a, .str "__class__" tk], []⟩) R ⟨h, g, d, t, os⟩ :=
  codeAny_call_builtin F.attr_ValueError.ga.plain F.entry_bexc_ga (check_ga hC hcB I.at_ I.cls (class_entry X I f3 hm hq))
theorem class_by {tk : Tok} {Q : Value → Shared → Prop} (X : K.In h) (I : InstE h a o C) (hC : h.get? C = some (excClassObj nm q C N bs bm hdct sn sub ab col dd k0 k1 k2 k3 k5 newId)) (hcB : (Value.ref C :: bm).contains (.type "BaseException") = true)
    (f1 : findIn K (.ref C) "__getattribute__" = some (some (.builtin "BaseException.__getattribute__"))) (f2 : findIn K (.ref C) "__getattr__" = some none)
    (f3 : findIn K (.ref C) "__class__" = some (some (.builtin "object.__class__"))) (hm : mroIn K C (.type "object") = some true) (hq : Q (.ref C) ⟨h, g, d, t, os⟩) :
    wpAny (model prog w) A (getAttrBy (.ref a) (.str "__class__" tk) false) Q E ⟨h, g, d, t, os⟩ := by
  have hx := I.at_
  have hc := I.cls
  have f3' := F.attr_ValueError.ga.bind (.ref a)
  have hx2 : (Value.builtin "BaseException.__getattribute__" == Value.builtin "object.__getattribute__") = false := by decide +kernel
  have hx1 : (onTheHeap (Value.ref C) && Value.builtin "BaseException.__getattribute__" == Value.builtin "object.__getattribute__") = false := by rw [hx2]; rfl
  have hx0 : (false && onTheHeap (Value.builtin "BaseException.__getattribute__")) = false := rfl
  repeat (any_goals (first | assumption | (with_reducible refine wpAny_loadPart_at hx ?_; rw [hc]) | with_reducible refine tl_in X f1 ?_ | with_reducible refine tl_in X f2 ?_ | wp_step))
  refine class_call X I hC hcB f3 hm ?_
  repeat (any_goals (first | assumption | wp_step))
end
theorem kitx_exc {K : Frag} {a C : Addr} {o : Obj} (Z : ExcK K C) : KitX K (.ref a) (.ref C) (fun h => InstE h a o C) where
  ty := fun _ _ _ I => I.cls ▸ (Looks.ld I.at_).andThen .now
  it := fun _ h X _ => by
    obtain ⟨bm, N, nm, qn, bs, hdct, sn, sub, ab, col, dd, k0, k1, k2, k3, k5, mN, hC, _⟩ := exc_of_in2 X Z.exc
    intro A' Q' E' s' k q
    unfold isType loadHead
    exact wpAny_bind (wpAny_loadPart (k _ _ hC) (wpAny_pure q))
  ne := fun h tp dd its n sl X htp => by
    obtain ⟨bm, N, nm, qn, bs, hdct, sn, sub, ab, col, dd', k0, k1, k2, k3, k5, mN, hC, _⟩ := exc_of_in2 X Z.exc
    refine Bool.eq_false_iff.mpr fun q => ?_
    have e : C = tp := Value.ref.inj (beq_iff_eq.mp q)
    subst e
    rw [htp] at hC
    have z : Value.type "tuple" = Value.type "type" := congrArg Obj.cls (Option.some.inj hC)
    exact absurd z (by decide)
  ca := fun {prog w A E Q s} X I k => by
    obtain ⟨hh, g, d, t, os⟩ := s
    obtain ⟨bm, N, nm, qn, bs, hdct, sn, sub, ab, col, dd', k0, k1, k2, k3, k5, mN, hC, _, _, TL, _⟩ := exc_of_in2 X Z.exc
    have hcB : (Value.ref C :: bm).contains (.type "BaseException") = true := by rw [List.contains_cons, TL.hasType F.excBase_ValueError.hasBase, Bool.or_true]
    unfold getAttr? getAttrBy?
    refine wpAny_bind (wpAny_mkText (wpAny_bind (wpAny_attempt ?_)))
    exact class_by (h := hh) X I hC hcB Z.f1 Z.f2 Z.f3 Z.obj (wpAny_pure k)

def gIsiX (K : Frag) (a C : Addr) : List V → Hp → VK → Prop := fun xs H Q => match xs with
  | [.ref a', .ref y] => a' = a ∧ ((∃ b, kitOne K (.ref C) (.ref y) = some b ∧ Q (.bl b) H) ∨ ∃ (cs : List Addr) (b : Bool), SqT K H y (cs.map V.ref) ∧ kitAny K (.ref C) (cs.map Value.ref) = some b ∧ Q (.bl b) H)
  | [.ref a', .ty T] => a' = a ∧ ∃ b, kitOne K (.ref C) (.type T) = some b ∧ Q (.bl b) H
  | _ => False
theorem vals_refs : ∀ {cs : List Addr} {its : List Value}, Vals (cs.map V.ref) its → its = cs.map Value.ref
  | [], its, h => by cases h; rfl
  | c :: r, its, h => by
    cases h with
    | cons h1 h2 =>
      have e1 : _ = Value.ref c := h1
      rw [e1, vals_refs h2]; rfl
theorem call_isiX {X : Cx} {a C : Addr} {oe : Obj} {K : Frag} (Z : ExcK X.K C) (hp : (a, oe) ∈ X.pn) (hc : oe.cls = .ref C) (hK : X.K = K := by rfl) : CallR X (.builtin "isinstance") (gIsiX K a C) := by
  subst hK
  intro pins s σ H xs us Q I r h
  have hI : InstE s.heap a oe C := ⟨(I.pin (a, oe) (List.mem_append_left _ hp)).1, hc⟩
  unfold gIsiX at h
  split at h
  · obtain ⟨u, u', rfl, r1, r2⟩ := vals2 r
    obtain ⟨rfl, h⟩ := h
    cases r1
    cases r2
    rcases h with ⟨b, hb, q⟩ | ⟨cs, b, hS, hb, q⟩
    · exact kia_one (kitx_exc Z) I.kIn hI hb (fun z => nomatch z) fun tk => ⟨.bl b, H, I.tok tk, rfl, q⟩
    · obtain ⟨its, rv, ⟨ot, h1, h2, n, h3⟩, _⟩ := I.tuple hS
      rw [vals_refs rv] at h3
      obtain ⟨oc, od, odt, osl⟩ := ot
      dsimp only at h2 h3
      subst h2 h3
      exact kia_tup (kitx_exc Z) I.kIn hI h1 hb (fun z => nomatch z) fun tk => ⟨.bl b, H, I.tok tk, rfl, q⟩
  · obtain ⟨u, u', rfl, r1, r2⟩ := vals2 r
    obtain ⟨rfl, b, hb, q⟩ := h
    cases r1
    cases r2
    exact kia_one (kitx_exc Z) I.kIn hI hb (fun z => nomatch z) fun tk => ⟨.bl b, H, I.tok tk, rfl, q⟩
  · exact h.elim
theorem c_isiX {X : Cx} {a C : Addr} {oe : Obj} {K : Frag} (Z : ExcK X.K C) (hc : oe.cls = .ref C) (hK : X.K = K := by rfl) : Irr (CallR (cxSuite X a oe) (.builtin "isinstance") (gIsiX K a C)) :=
  .mk (call_isiX (X := cxSuite X a oe) (oe := oe) Z (List.mem_append_right _ List.mem_cons_self) hc hK)
end L2

namespace Rg

def splitOn (c : Nat) : List Nat → List (List Nat)
  | [] => [[]]
  | x :: r => if x = c then [] :: splitOn c r else match splitOn c r with
    | [] => [[x]]
    | p :: ps => (x :: p) :: ps
def joinWith (sep : List Nat) : List (List Nat) → List Nat
  | [] => []
  | [p] => p
  | p :: q :: r => p ++ sep ++ joinWith sep (q :: r)
theorem splitOn_ne (c : Nat) (l : List Nat) : splitOn c l ≠ [] := by
  cases l with
  | nil => simp [splitOn]
  | cons x r =>
    unfold splitOn
    split
    · simp
    · split <;> simp
theorem splitOn_none {c : Nat} : ∀ {l : List Nat}, c ∉ l → splitOn c l = [l]
  | [], _ => rfl
  | x :: r, h => by
    have hx : x ≠ c := fun e => h (by simp [e])
    have hr : c ∉ r := fun m => h (List.mem_cons_of_mem _ m)
    unfold splitOn
    rw [if_neg hx, splitOn_none hr]
theorem splitOn_append {c : Nat} : ∀ {p : List Nat} {l : List Nat}, c ∉ p → splitOn c (p ++ c :: l) = p :: splitOn c l
  | [], l, _ => by simp [splitOn]
  | x :: p, l, h => by
    have hx : x ≠ c := fun e => h (by simp [e])
    have hr : c ∉ p := fun m => h (List.mem_cons_of_mem _ m)
    show (if x = c then [] :: splitOn c (p ++ c :: l) else match splitOn c (p ++ c :: l) with | [] => [[x]] | q :: qs => (x :: q) :: qs) = _
    rw [if_neg hx, splitOn_append hr]
theorem splitOn_join {c : Nat} : ∀ {ps : List (List Nat)}, ps ≠ [] → (∀ p ∈ ps, c ∉ p) → splitOn c (joinWith [c] ps) = ps
  | [], h, _ => absurd rfl h
  | [p], _, h => by
    unfold joinWith
    exact splitOn_none (h p (by simp))
  | p :: q :: r, _, h => by
    unfold joinWith
    rw [List.append_assoc]
    show splitOn c (p ++ c :: joinWith [c] (q :: r)) = _
    rw [splitOn_append (h p (by simp)), splitOn_join (by simp) fun x hx => h x (List.mem_cons_of_mem _ hx)]
theorem splitOn_unique {c : Nat} {l : List Nat} {ps : List (List Nat)} (h0 : ps ≠ []) (h1 : ∀ p ∈ ps, c ∉ p) (h2 : joinWith [c] ps = l) : ps = splitOn c l := by
  rw [← h2, splitOn_join h0 h1]

def small : List Nat := (List.range 26).map (· + 97)
def great : List Nat := (List.range 26).map (· + 65)
def figs : List Nat := (List.range 10).map (· + 48)
def meant (c : Nat) : Option (List Nat) :=
  if c = 98 then some [32] else if c = 110 then some [10] else if c = 116 then some [126] else if c = 97 then some small else if c = 65 then some great else if c = 48 then some figs else none
def decGo : List (List Nat) → Option (List Nat)
  | [] => some []
  | [] :: _ => none
  | (c :: r) :: ps => match meant c with
    | none => none
    | some m => (decGo ps).map fun t => m ++ r ++ t
def dec (l : List Nat) : Option (List Nat) := match splitOn 126 l with
  | [] => none
  | p :: ps => (decGo ps).map (p ++ ·)
theorem dec_plain {c : Nat} (h : c ≠ 126) (l : List Nat) : dec (c :: l) = (dec l).map (c :: ·) := by
  unfold dec
  show (match (if c = 126 then [] :: splitOn 126 l else match splitOn 126 l with | [] => [[c]] | p :: ps => (c :: p) :: ps) with | [] => none | p :: ps => (decGo ps).map (p ++ ·)) = _
  rw [if_neg h]
  cases e : splitOn 126 l with
  | nil => exact absurd e (splitOn_ne _ _)
  | cons p ps =>
    dsimp only
    cases decGo ps <;> rfl
theorem dec_code {x : Nat} {m : List Nat} (hx : x ≠ 126) (hm : meant x = some m) (l : List Nat) : dec (126 :: x :: l) = (dec l).map (m ++ ·) := by
  unfold dec
  have e0 : splitOn 126 (126 :: x :: l) = [] :: splitOn 126 (x :: l) := by
    show (if 126 = 126 then [] :: splitOn 126 (x :: l) else _) = _
    rw [if_pos rfl]
  rw [e0]
  dsimp only
  show Option.map _ (decGo (if x = 126 then [] :: splitOn 126 l else match splitOn 126 l with | [] => [[x]] | p :: ps => (x :: p) :: ps)) = _
  rw [if_neg hx]
  cases e : splitOn 126 l with
  | nil => exact absurd e (splitOn_ne _ _)
  | cons p ps =>
    dsimp only
    show Option.map _ (match meant x with | none => none | some m => (decGo ps).map fun t => m ++ p ++ t) = _
    rw [hm]
    dsimp only
    cases decGo ps with
    | none => rfl
    | some t => simp
end Rg

set_option linter.all false
namespace Rg
open PySem PySem.Builtin PySem.Builtin.Str

abbrev S (l : List Nat) : Str := ⟨l.toArray⟩
theorem S_inj {a b : List Nat} (h : S a = S b) : a = b := by
  have : (S a).cps.toList = (S b).cps.toList := by rw [h]
  simpa using this
theorem S_of (x : Str) : x = S x.cps.toList := by cases x; simp [S]
theorem S_app (a b : List Nat) : S a ++ S b = S (a ++ b) := Str.ext' (by rw [Str.cps_append]; simp)
theorem S_len (a : List Nat) : (S a).length = a.length := by simp [Str.length]
theorem join_S (sep : List Nat) : ∀ ps : List (List Nat), Str.join (S sep) (ps.map S) = S (joinWith sep ps)
  | [] => rfl
  | [p] => rfl
  | p :: q :: r => by
    show S p ++ S sep ++ Str.join (S sep) ((q :: r).map S) = _
    rw [join_S sep (q :: r), S_app, S_app]
    rfl
theorem txtJoin_S (sep : List Nat) (ps : List (List Nat)) : Txt.join (S sep) (ps.map S) = S (joinWith sep ps) := by
  unfold Txt.join
  rw [StrLaws.glued_eq_join, join_S]

theorem occ_all (x : Str) (c : Nat) (limit : Nat) : ∀ (l : List Nat) (st : Array Nat × Nat), (∀ i ∈ l, st.snd ≤ i) → l.Pairwise (· < ·) → st.fst.size + l.length < limit + 1 →
    ∀ i, (i ∈ st.fst.toList ∨ (i ∈ l ∧ StrLaws.At x (S [c]) x.length i)) → i ∈ (forIn l st (StrLaws.occBody x (S [c]) x.length limit)).run.fst.toList
  | [], st, _, _, _, i, h => by
    rcases h with h | h
    · exact h
    · exact absurd h.1 (by simp)
  | a :: l, st, hle, hp, hsz, i, h => by
    obtain ⟨hp1, hp2⟩ := List.pairwise_cons.mp hp
    rw [List.forIn_cons]
    unfold StrLaws.occBody
    by_cases hc : ((st.fst.size < limit ∧ st.snd ≤ a) ∧ a + (S [c]).length ≤ x.length) ∧ subAt x (S [c]) a = true
    · rw [if_pos hc]
      refine occ_all x c limit l _ (fun j hj => ?_) hp2 ?_ i ?_
      · have := hp1 j hj
        show a + (S [c]).length ≤ j
        rw [S_len]
        simp
        omega
      · show (st.fst.push a).size + l.length < limit + 1
        rw [Array.size_push]
        rw [List.length_cons] at hsz
        omega
      · show i ∈ (st.fst.push a).toList ∨ _
        rw [Array.toList_push]
        rcases h with h | ⟨h1, h2⟩
        · exact .inl (List.mem_append_left _ h)
        · rcases List.mem_cons.mp h1 with e | e
          · exact .inl (List.mem_append_right _ (by simp [e]))
          · exact .inr ⟨e, h2⟩
    · rw [if_neg hc]
      refine occ_all x c limit l _ (fun j hj => hle j (List.mem_cons_of_mem _ hj)) hp2 ?_ i ?_
      · show st.fst.size + l.length < limit + 1
        rw [List.length_cons] at hsz
        omega
      · rcases h with h | ⟨h1, h2⟩
        · exact .inl h
        · rcases List.mem_cons.mp h1 with e | e
          · subst e
            refine absurd ⟨⟨⟨?_, hle i List.mem_cons_self⟩, h2.1⟩, h2.2⟩ hc
            rw [List.length_cons] at hsz
            omega
          · exact .inr ⟨e, h2⟩

theorem at_iff (x : Str) (c i : Nat) : StrLaws.At x (S [c]) x.length i ↔ x.cps.toList[i]? = some c := by
  unfold StrLaws.At
  rw [StrLaws.subAt_eq, S_len]
  simp only [List.length_singleton]
  have hl : x.cps.toList.length = x.length := by simp [Str.length]
  constructor
  · rintro ⟨h1, h2⟩
    have e := eq_of_beq h2
    have hi : i < x.cps.toList.length := by omega
    rw [List.drop_eq_getElem_cons hi] at e
    simp at e
    rw [List.getElem?_eq_getElem hi]
    simp [e]
  · intro h
    obtain ⟨hi, e⟩ := List.getElem?_eq_some_iff.mp h
    refine ⟨by omega, ?_⟩
    rw [List.drop_eq_getElem_cons hi, e]
    simp

theorem occ_mem (x : Str) (c i : Nat) (h : x.cps.toList[i]? = some c) : i ∈ occurrences x (S [c]) 0 x.length (x.length + 1) := by
  rw [StrLaws.occ_eq]
  have hi : i < x.length := by
    obtain ⟨hi, _⟩ := List.getElem?_eq_some_iff.mp h
    simpa [Str.length] using hi
  refine occ_all x c (x.length + 1) _ (#[], 0) (fun j _ => Nat.zero_le _) List.pairwise_lt_range' ?_ i (.inr ⟨?_, (at_iff x c i).mpr h⟩)
  · rw [List.length_range']
    simp
  · rw [List.mem_range']
    exact ⟨i, by omega, by omega⟩

theorem partsFrom_free (x : Str) (c : Nat) : ∀ (cuts : List Nat) (a f : Nat), StrLaws.ChainTo x (S [c]) x.length a cuts f → (∀ i, a ≤ i → x.cps.toList[i]? = some c → i ∈ cuts) → cuts.Pairwise (· < ·) →
    ∀ p ∈ StrLaws.partsFrom x 1 a cuts, c ∉ p.cps.toList
  | [], a, f, _, hall, _, p, hp => by
    have hp' : p = strSub x a x.length := by simpa [StrLaws.partsFrom] using hp
    subst hp'
    rw [StrLaws.strSub_toList]
    intro m
    obtain ⟨k, hk, e⟩ := List.getElem_of_mem m
    have h2 : (x.cps.toList.drop a)[k]? = some c := by
      rw [List.getElem_take] at e
      rw [List.getElem?_eq_getElem (by rw [List.length_take] at hk; omega), e]
    rw [List.getElem?_drop] at h2
    exact absurd (hall (a + k) (by omega) h2) (by simp)
  | b :: r, a, f, h, hall, hp, p, hm => by
    obtain ⟨h1, h2, h3⟩ := h
    obtain ⟨hp1, hp2⟩ := List.pairwise_cons.mp hp
    have hm' : p = strSub x a b ∨ p ∈ StrLaws.partsFrom x 1 (b + 1) r := by simpa [StrLaws.partsFrom] using hm
    rcases hm' with e | e
    · subst e
      rw [StrLaws.strSub_toList]
      intro m
      obtain ⟨k, hk, e⟩ := List.getElem_of_mem m
      have hk' : k < b - a := by rw [List.length_take] at hk; omega
      have h4 : (x.cps.toList.drop a)[k]? = some c := by
        rw [List.getElem_take] at e
        rw [List.getElem?_eq_getElem (by rw [List.length_take] at hk; omega), e]
      rw [List.getElem?_drop] at h4
      rcases List.mem_cons.mp (hall (a + k) (by omega) h4) with z | z
      · omega
      · have := hp1 _ z
        omega
    · refine partsFrom_free x c r (b + 1) f ?_ (fun i hi hc => ?_) hp2 p e
      · have e1 : (S [c]).length = 1 := S_len [c]
        rw [e1] at h3
        exact h3
      · rcases List.mem_cons.mp (hall i (by omega) hc) with z | z
        · omega
        · exact z
theorem chain_sorted (x : Str) (c : Nat) : ∀ (cuts : List Nat) (a f : Nat), StrLaws.ChainTo x (S [c]) x.length a cuts f → cuts.Pairwise (· < ·) ∧ ∀ i ∈ cuts, a ≤ i
  | [], _, _, _ => ⟨.nil, by simp⟩
  | b :: r, a, f, h => by
    obtain ⟨h1, _, h3⟩ := h
    have e1 : (S [c]).length = 1 := S_len [c]
    rw [e1] at h3
    obtain ⟨p, q⟩ := chain_sorted x c r _ f h3
    refine ⟨List.pairwise_cons.mpr ⟨fun i hi => ?_, p⟩, fun i hi => ?_⟩
    · have := q i hi
      omega
    · rcases List.mem_cons.mp hi with e | e
      · omega
      · have := q i e
        omega
theorem split_S (l : List Nat) (c : Nat) (hc : c < 256) : Txt.split (S l) (S [c]) = (splitOn c l).map S := by
  have one : c ∉ l → [S l] = (splitOn c l).map S := fun h => by rw [splitOn_none h]; rfl
  have big : ∀ ts : List Str, ts ≠ [] → (∀ t ∈ ts, c ∉ t.cps.toList) → Str.join (S [c]) ts = S l → ts = (splitOn c l).map S := fun ts h0 h1 h2 => by
    have e : ts = (ts.map fun t => t.cps.toList).map S := by
      rw [List.map_map]
      conv => lhs; rw [← List.map_id ts]
      exact List.map_congr_left fun t _ => S_of t
    have e2 : joinWith [c] (ts.map fun t => t.cps.toList) = l := by
      rw [e, join_S] at h2
      exact S_inj h2
    rw [e, ← splitOn_unique (by simpa using h0) (fun p hp => by
      obtain ⟨t, ht, rfl⟩ := List.mem_map.mp hp
      exact h1 t ht) e2]
  unfold Txt.split
  split
  · rename_i h
    refine one fun m => ?_
    rw [Bool.or_eq_true, decide_eq_true_iff, decide_eq_true_iff, S_len, S_len] at h
    rcases h with h | h
    · cases l with
      | nil => simp at m
      | cons _ _ => simp at h
    · have : PySem.Builtin.Str.strKind (S [c]) = 1 := by simp [PySem.Builtin.Str.strKind, hc]
      rw [this] at h
      unfold PySem.Builtin.Str.strKind at h
      split at h <;> (try split at h) <;> omega
  · split
    · rename_i h
      refine one fun m => ?_
      obtain ⟨i, hi, e⟩ := List.getElem_of_mem m
      have := occ_mem (S l) c i (by simp [hi, e])
      rw [List.isEmpty_iff] at h
      rw [h] at this
      simp at this
    · refine big _ ?_ ?_ ?_
      · rw [StrLaws.partsBetween_eq]
        obtain ⟨p, r, e⟩ := StrLaws.partsFrom_ne (S l) (S [c]).length 0 (occurrences (S l) (S [c]) 0 (S l).length ((S l).length + 1))
        rw [e]
        simp
      · obtain ⟨f, h⟩ := StrLaws.occ_chain (S l) (S [c]) ((S l).length + 1)
        rw [StrLaws.partsBetween_eq, S_len [c]]
        exact partsFrom_free (S l) c _ 0 f h (fun i _ hi => occ_mem (S l) c i hi) (chain_sorted (S l) c _ 0 f h).1
      · obtain ⟨f, h⟩ := StrLaws.occ_chain (S l) (S [c]) ((S l).length + 1)
        rw [StrLaws.partsBetween_eq, StrLaws.join_partsFrom (S l) (S [c]) _ 0 f h, StrLaws.sub_whole]
theorem in_S (l : List Nat) (c : Nat) : (!(occurrences (S l) ⟨#[c]⟩ 0 (S l).length 1).isEmpty) = decide (c ∈ l) := by
  have := StrLaws.found_one (S l) c
  simpa using this
def clipN (n : Nat) (d : Nat) : Option Int → Nat
  | none => d
  | some i => if i < 0 then (i + n).toNat else min i.toNat n
theorem sliceIdx (lo hi : Option Int) (n : Nat) : strSliceIndices lo hi 1 n = (List.range (clipN n n hi - clipN n 0 lo)).map (fun k => clipN n 0 lo + k) := by
  have clip : ∀ (v : Option Int) (d : Nat), (match v with | none => ((d : Nat) : Int) | some i => let i := if i < 0 then i + (n : Int) else i; if (1 : Int) > 0 then max 0 (min i n) else max (-1) (min i (n - 1))) = (clipN n d v : Int) := by
    intro v d
    cases v with
    | none => rfl
    | some i =>
      unfold clipN
      dsimp only
      rw [if_pos (by decide)]
      by_cases h : i < 0
      · rw [if_pos h, if_pos h]; omega
      · rw [if_neg h, if_neg h]; omega
  have e : strSliceIndices lo hi 1 n = sliceRange (clipN n 0 lo : Int) (clipN n n hi : Int) 1 := by
    rw [← clip lo 0, ← clip hi n]
    unfold strSliceIndices
    cases lo <;> cases hi <;> rfl
  rw [e]
  unfold sliceRange
  dsimp only
  rw [if_pos (by decide)]
  by_cases hlt : ((clipN n 0 lo : Nat) : Int) < (clipN n n hi : Int)
  · rw [if_pos hlt]
    have e3 : ((((clipN n n hi : Nat) : Int) - (clipN n 0 lo : Nat) + 1 - 1) / 1).toNat = clipN n n hi - clipN n 0 lo := by
      rw [Int.ediv_one]; omega
    rw [e3]
    refine List.map_congr_left fun k _ => ?_
    omega
  · rw [if_neg hlt]
    have : clipN n n hi - clipN n 0 lo = 0 := by omega
    rw [this]
    simp
theorem clipN_le {n d : Nat} (hd : d ≤ n) (v : Option Int) : clipN n d v ≤ n := by
  cases v with
  | none => exact hd
  | some i => unfold clipN; dsimp only; split <;> omega
def cut (l : List Nat) (lo hi : Option Int) : List Nat := (l.drop (clipN l.length 0 lo)).take (clipN l.length l.length hi - clipN l.length 0 lo)
theorem slice_S (l : List Nat) (lo hi : Option Int) : Txt.slice (S l) lo hi = S (cut l lo hi) := by
  have h1 := clipN_le (Nat.zero_le l.length) lo
  have h2 := clipN_le (Nat.le_refl l.length) hi
  have hp : (strSliceIndices lo hi 1 (S l).length).filterMap ((S l).cps[·]?) = cut l lo hi := by
    rw [S_len, sliceIdx]
    unfold cut
    by_cases h : clipN l.length 0 lo ≤ clipN l.length l.length hi
    · have := StrLaws.picks l (clipN l.length l.length hi - clipN l.length 0 lo) (clipN l.length 0 lo) (by omega)
      simpa using this
    · have e : clipN l.length l.length hi - clipN l.length 0 lo = 0 := by omega
      rw [e]
      simp
  unfold Txt.slice
  split
  · rename_i h
    have h3 : (strSliceIndices lo hi 1 (S l).length).length = (S l).length := by simpa using h
    rw [S_len, sliceIdx, List.length_map, List.length_range] at h3
    have e1 : clipN l.length 0 lo = 0 := by omega
    have e2 : clipN l.length l.length hi = l.length := by omega
    unfold cut
    rw [e1, e2]
    simp
  · rw [hp]
theorem clipN_nat (n d a : Nat) : clipN n d (some (a : Int)) = min a n := by
  unfold clipN
  dsimp only
  rw [if_neg (by omega), Int.toNat_natCast]
theorem clipN_none (n d : Nat) : clipN n d none = d := rfl
theorem cut_some (l : List Nat) (a b : Nat) : cut l (some (a : Int)) (some (b : Int)) = (l.drop a).take (b - a) := by
  unfold cut
  rw [clipN_nat, clipN_nat]
  by_cases h : a ≤ l.length
  · have e : min a l.length = a := by omega
    rw [e]
    by_cases h2 : b ≤ l.length
    · rw [show min b l.length = b by omega]
    · rw [show min b l.length = l.length by omega, List.take_of_length_le (by simp), List.take_of_length_le (by simp; omega)]
  · rw [List.drop_eq_nil_of_le (by omega : l.length ≤ a), List.drop_eq_nil_of_le (by omega : l.length ≤ min a l.length)]
    simp
theorem cut_from (l : List Nat) (a : Nat) : cut l (some (a : Int)) none = l.drop a := by
  unfold cut
  rw [clipN_nat, clipN_none]
  by_cases h : a ≤ l.length
  · rw [show min a l.length = a by omega]
    exact List.take_of_length_le (by simp)
  · rw [List.drop_eq_nil_of_le (by omega : l.length ≤ a), List.drop_eq_nil_of_le (by omega : l.length ≤ min a l.length)]
    simp
theorem cut_to (l : List Nat) (b : Nat) : cut l none (some (b : Int)) = l.take b := by
  unfold cut
  rw [clipN_nat, clipN_none, List.drop_zero, Nat.sub_zero]
  by_cases h : b ≤ l.length
  · rw [show min b l.length = b by omega]
  · rw [show min b l.length = l.length by omega, List.take_of_length_le (Nat.le_refl _), List.take_of_length_le (by omega)]
end Rg

set_option Elab.async false
set_option linter.all false
set_option maxRecDepth 100000
set_option maxHeartbeats 4000000
namespace K7
open PySem PySem.Spec PyProof.Rows L2 Rg
--@RAISES but law
def top (i : Nat) : Stmt := PySem.Challenge.pw_regrowth_k07_no_forms.main.body.getD i (.Pass ⟨0, 0, 0, 0⟩)

def deedS : Nat → Str
  | 0 => "in"
  | 1 => "out"
  | _ => "row"
def manyS : Nat → Str
  | 0 => "once"
  | 1 => "maybe"
  | 2 => "some"
  | 3 => "any"
  | 4 => "ahead"
  | _ => "not"
def deedC : Nat → Nat
  | 0 => 64
  | 1 => 94
  | _ => 61
def manyC : Nat → Nat
  | 0 => 46
  | 1 => 63
  | 2 => 43
  | 3 => 42
  | 4 => 62
  | _ => 45
structure Prt where
  d : Nat
  m : Nat
  l : List Nat
def Prt.dat (p : Prt) : PyData := .tuple [.str (deedS p.d), .str (S p.l), .str (manyS p.m)]
def deedOf (c : Nat) : Option Nat := if c = 64 then some 0 else if c = 94 then some 1 else if c = 61 then some 2 else none
def manyOf (c : Nat) : Option Nat := if c = 46 then some 0 else if c = 63 then some 1 else if c = 43 then some 2 else if c = 42 then some 3 else if c = 62 then some 4 else if c = 45 then some 5 else none
def rowB (m : Nat) : Bool := m == 0 || m == 4 || m == 5
def partF : List Nat → Option Prt
  | c :: c2 :: r => match deedOf c, manyOf c2 with
    | some d, some m => if d = 2 ∧ rowB m = false then none else match dec r with
      | none => none
      | some l => if 1 ≤ l.length ∧ l.length ≤ 100 then some ⟨d, m, l⟩ else none
    | _, _ => none
  | _ => none
def partsF : List (List Nat) → Option (List Prt)
  | [] => some []
  | t :: r => match partF t with
    | none => none
    | some p => (partsF r).map (p :: ·)
def wrB (c : Nat) : Bool := decide (32 ≤ c) && decide (c ≤ 126) && decide (c ≠ 37)
def formF (t : List Nat) : Option (List Prt) := if t.all wrB = true then (if (splitOn 32 t).length ≤ 12 then partsF (splitOn 32 t) else none) else none

abbrev kvDeeds : List (Str × V) := [("@", .str "in"), ("^", .str "out"), ("=", .str "row")]
abbrev kvManies : List (Str × V) := [(".", .str "once"), ("?", .str "maybe"), ("+", .str "some"), ("*", .str "any"), (">", .str "ahead"), ("-", .str "not")]
abbrev kvMeant : List (Str × V) := [("b", .str " "), ("n", .str "\n"), ("t", .str "~"), ("a", .str "abcdefghijklmnopqrstuvwxyz"), ("A", .str "ABCDEFGHIJKLMNOPQRSTUVWXYZ"), ("0", .str "0123456789")]

structure Txt (K : PySem.W.Frag) (w : World) (mg : Str → Option Value) (tD tM tR tN C : Addr) (t1 t2 t3 : Tok) : Prop where
  n_len : mg "len" = none
  n_ord : mg "ord" = none
  n_list : mg "list" = none
  n_isinstance : mg "isinstance" = none
  g_MOST_PARTS : mg "MOST_PARTS" = some (.int 12 t1)
  g_MOST_SIGNS : mg "MOST_SIGNS" = some (.int 100 t2)
  g_PERCENT : mg "PERCENT" = some (.int 37 t3)
  g_DEEDS : mg "DEEDS" = some (.ref tD)
  g_MANIES : mg "MANIES" = some (.ref tM)
  g_ROW_MANIES : mg "ROW_MANIES" = some (.ref tR)
  g_MEANT : mg "MEANT" = some (.ref tN)
  c_NoForm : mg "NoForm" = some (.ref C)
  x_NoForm : PySem.W.excIn K C bmVE "ValueError.__new__" = true
  k_DEEDS : KTab K w tD kvDeeds
  k_MANIES : KTab K w tM kvManies
  k_MEANT : KTab K w tN kvMeant
  k_ROW : ∀ H, SqT K H tR [.str "once", .str "ahead", .str "not"]

theorem big : (1000000 : Nat) < sizeLine := by rw [sizeLine_eq]; decide
section
variable {P : Program} {w : World} {K : PySem.W.Frag} {mg : Str → Option Value} {base : Heap} {tD tM tR tN C : Addr} {t1 t2 t3 : Tok}

def spCell (K : PySem.W.Frag) : Sp := fun vs H Q _ => ∃ (a : Addr) (ns : List Int) (k : Nat), vs = [.ref a, .int k] ∧ SqL K H a (ns.map V.int) ∧ Q (.int (ns.getD k 0)) H
abbrev st__law_cell_at : Stmt := top 26
theorem sc__law_cell_at : FnScope ["_law_script", "_law_k"] ["_law_script", "_law_k"] (defScope st__law_cell_at) := ⟨rfl, rfl, rfl, by decide +kernel, rfl, by decide +kernel, by decide +kernel⟩
theorem def_cell (R : Raw K mg "_law_cell_at" st__law_cell_at ["_law_script", "_law_k"]) (T : Txt K w mg tD tM tR tN C t1 t2 t3) : Def P w K mg base 1 "_law_cell_at" ["_law_script", "_law_k"] (spCell K) := by
  refine R.defJ sc__law_cell_at (fun vs H Q E h => ?_) (fun f cdv A outer s H vs Q E hr h => ?_)
  · obtain ⟨a, ns, k, rfl, _⟩ := h
    rfl
  · obtain ⟨a, ns, k, rfl, hS, q⟩ := h
    have sc := sc__law_cell_at
    have hu := hr.units
    refine ⟨_, (jss_cons (js_if (jt_cmp o_lt (jn 1) (j_callB (c_len (K := K)) rfl T.n_len PySem.boot_len (ja_cons (jn 0) ja_nil)))
    (jss_one (js_ret (j_ix (o_ix hu (K := K) (w := w)) (jn 0) (jn 1))))
    jss_nil)
    (jss_one (js_ret j_int))), ?_⟩
    refine ⟨_, .inl hS, ?_⟩
    rw [List.length_map]
    show if decide ((k : Int) < (ns.length : Int)) = true then _ else _
    refine ite2 (fun h => ?_) (fun h => ?_)
    · have hk : k < ns.length := by
        have := of_decide_eq_true h
        omega
      refine .inl ⟨_, .int (ns.getD k 0), hS, atI_nat ?_, q⟩
      rw [List.getElem?_map, List.getElem?_eq_getElem hk]
      simp [List.getD, hk]
    · have hk : ¬ k < ns.length := fun z => h (decide_eq_true (by omega))
      have e : ns.getD k 0 = 0 := by simp [List.getD, List.getElem?_eq_none (by omega : ns.length ≤ k)]
      rw [e] at q
      exact q

theorem joinOk_of {sep : Str} {texts : List Str} {B : Nat} (hB : ∀ y ∈ texts, y.length ≤ B) (h : texts.length * B + texts.length * sep.length ≤ 16777216) : JoinOk sep texts = true := by
  unfold JoinOk
  rw [Bool.not_eq_true']
  exact StrLaws.joinFits hB h
theorem lt1 (a b : Nat) : decide (([a] : List Nat) < [b]) = decide (a < b) := by
  rw [StrLaws.lt_cons_cons]
  by_cases h : a < b
  · simp [h]
  · simp [h]
def spMay : Sp := fun vs H Q _ => ∃ c : Nat, vs = [.str (S [c])] ∧ Q (.bl (wrB c)) H
abbrev st_may_write : Stmt := top 22
theorem sc_may_write : FnScope ["sign"] ["sign"] (defScope st_may_write) := ⟨rfl, rfl, rfl, by decide +kernel, rfl, by decide +kernel, by decide +kernel⟩
theorem def_may (R : Raw K mg "may_write" st_may_write ["sign"]) (T : Txt K w mg tD tM tR tN C t1 t2 t3) : Def P w K mg base 1 "may_write" ["sign"] spMay := by
  refine R.defJ sc_may_write (fun vs H Q E h => ?_) (fun f cdv A outer s H vs Q E hr h => ?_)
  · obtain ⟨c, rfl, _⟩ := h
    rfl
  · obtain ⟨c, rfl, q⟩ := h
    have sc := sc_may_write
    have hu := hr.units
    refine ⟨_, (jss_one (js_ret (j_and (j_chain o_le o_le j_str (jn 0) j_str) (j_one (j_cmp (o_ne hu (K := K)) (j_callB c_ord rfl T.n_ord boot_ord (ja_cons (jn 0) ja_nil)) (j_glob (v := .int 37) rfl T.g_PERCENT ⟨_, rfl⟩)))))), ?_⟩
    have e1 : (!decide ((S [c]).cps.toList < (Str.ofString " ").cps.toList)) = decide (32 ≤ c) := by
      show (!decide (([c] : List Nat) < [32])) = _
      rw [lt1]
      by_cases h : c < 32
      · rw [decide_eq_true h, decide_eq_false (by omega)]; rfl
      · rw [decide_eq_false h, decide_eq_true (by omega)]; rfl
    have e2 : (!decide ((Str.ofString "~").cps.toList < (S [c]).cps.toList)) = decide (c ≤ 126) := by
      show (!decide (([126] : List Nat) < [c])) = _
      rw [lt1]
      by_cases h : 126 < c
      · rw [decide_eq_true h, decide_eq_false (by omega)]; rfl
      · rw [decide_eq_false h, decide_eq_true (by omega)]; rfl
    unfold wrB at q
    by_cases h1 : 32 ≤ c
    · rw [decide_eq_true h1] at e1 q
      refine (if_pos e1).mpr ?_
      by_cases h2 : c ≤ 126
      · rw [decide_eq_true h2] at e2 q
        refine (if_pos e2).mpr ?_
        refine ⟨by rw [S_len]; rfl, ?_⟩
        have e3 : (true ^^ decide (((c : Nat) : Int) = 37)) = decide (c ≠ 37) := by
          by_cases h3 : c = 37
          · subst h3; decide
          · rw [decide_eq_false (by omega), decide_eq_true h3]; rfl
        have q' : Q (.bl (true ^^ decide (((c : Nat) : Int) = 37))) H := by rw [e3]; exact q
        exact q'
      · rw [decide_eq_false h2] at e2 q
        refine (if_neg (by rw [e2]; exact Bool.false_ne_true)).mpr ?_
        exact q
    · rw [decide_eq_false h1] at e1 q
      refine (if_neg (by rw [e1]; exact Bool.false_ne_true)).mpr ?_
      exact q

theorem meant_lookup {c : Nat} {m : List Nat} (h : meant c = some m) : kvMeant.lookup (S [c]) = some (.str (S m)) ∧ m.length ≤ 26 := by
  unfold meant at h
  split at h
  · rename_i e; subst e; cases h; exact ⟨by decide +kernel, by decide⟩
  · split at h
    · rename_i e; subst e; cases h; exact ⟨by decide +kernel, by decide⟩
    · split at h
      · rename_i e; subst e; cases h; exact ⟨by decide +kernel, by decide⟩
      · split at h
        · rename_i e; subst e; cases h; exact ⟨by decide +kernel, by decide⟩
        · split at h
          · rename_i e; subst e; cases h; exact ⟨by decide +kernel, by decide⟩
          · split at h
            · rename_i e; subst e; cases h; exact ⟨by decide +kernel, by decide⟩
            · cases h
theorem splitOn_len (c : Nat) : ∀ l : List Nat, (splitOn c l).length ≤ l.length + 1
  | [] => by simp [splitOn]
  | x :: r => by
    have ih := splitOn_len c r
    unfold splitOn
    split
    · simp; omega
    · split
      · simp
      · rename_i e
        rw [e] at ih
        simp at ih ⊢
        omega
theorem cutV_from1 (x : V) (xs : List V) : cutV (x :: xs) (some 1) none = xs := by
  unfold cutV
  have h1 : HT.sIx (x :: xs).length 0 (some 1) = 1 := by
    have := HT.sIx_nat (x :: xs).length 0 1
    rw [show ((1 : Nat) : Int) = 1 from rfl] at this
    rw [this]
    simp
  rw [h1, HT.sIx_none]
  simp
theorem lookup_none {c : Nat} (h : meant c = none) : kvMeant.lookup (S [c]) = none := by
  unfold meant at h
  have ne : ∀ k : Nat, c ≠ k → (S [c] == S [k]) = false := fun k hk => beq_eq_false_iff_ne.mpr fun e => hk (by simpa using S_inj e)
  split at h
  · cases h
  · rename_i n1
    split at h
    · cases h
    · rename_i n2
      split at h
      · cases h
      · rename_i n3
        split at h
        · cases h
        · rename_i n4
          split at h
          · cases h
          · rename_i n5
            split at h
            · cases h
            · rename_i n6
              show List.lookup (S [c]) [(S [98], V.str " "), (S [110], V.str "\n"), (S [116], V.str "~"), (S [97], V.str "abcdefghijklmnopqrstuvwxyz"), (S [65], V.str "ABCDEFGHIJKLMNOPQRSTUVWXYZ"), (S [48], V.str "0123456789")] = none
              rw [List.lookup_cons, ne _ n1, List.lookup_cons, ne _ n2, List.lookup_cons, ne _ n3, List.lookup_cons, ne _ n4, List.lookup_cons, ne _ n5, List.lookup_cons, ne _ n6]
              rfl
theorem splitOn_short {c : Nat} : ∀ {l p : List Nat}, p ∈ splitOn c l → p.length ≤ l.length
  | [], p, h => by simp [splitOn] at h; simp [h]
  | x :: r, p, h => by
    have ih := fun {q : List Nat} => @splitOn_short c r q
    unfold splitOn at h
    by_cases hx : x = c
    · rw [if_pos hx] at h
      rcases List.mem_cons.mp h with e | e
      · simp [e]
      · have := ih e; simp; omega
    · rw [if_neg hx] at h
      cases e : splitOn c r with
      | nil => exact absurd e (splitOn_ne c r)
      | cons q qs =>
        rw [e] at h ih
        rcases List.mem_cons.mp h with e2 | e2
        · subst e2
          have := ih (q := q) List.mem_cons_self
          simp; omega
        · have := ih (List.mem_cons_of_mem _ e2)
          simp; omega
structure Tl (t : List Nat) : Prop where
  len : t.length ≤ 2000
  sgn : ∀ c ∈ t, c < 16 ^ 8
theorem Tl.rp {t : List Nat} (h : Tl t) : (S t).length ≤ 100000 ∧ ∀ c ∈ (S t).cps.toList, c < 16 ^ 8 := ⟨by rw [S_len]; have := h.len; omega, fun c hc => h.sgn c (by simpa using hc)⟩
def spSigns (C : Addr) : Sp := fun vs H Q E => ∃ t, vs = [.str (S t)] ∧ Tl t ∧ (∀ l, dec t = some l → l.length ≤ 5000000 → ∀ H', Same H H' → Q (.str (S l)) H') ∧ (dec t = none → ∀ H', Same H H' → E (.ref C) none H')
abbrev st_signs_of : Stmt := top 24
theorem sc_signs_of : FnScope ["text", "pieces", "signs", "piece", "meant"] ["text"] (defScope st_signs_of) := ⟨rfl, rfl, rfl, by decide +kernel, rfl, by decide +kernel, by decide +kernel⟩
theorem def_signs (R : Raw K mg "signs_of" st_signs_of ["text"]) (T : Txt K w mg tD tM tR tN C t1 t2 t3) : DefX P w K mg base 1 "signs_of" ["text"] (spSigns C) := by
  refine R.defX sc_signs_of (fun vs H Q E h => ?_) (fun f cdv A outer s H vs Q E hr h => ?_)
  · obtain ⟨t, rfl, _⟩ := h
    rfl
  · obtain ⟨t, rfl, tl, q, qe⟩ := h
    have sc := sc_signs_of
    have hu := hr.units
    refine ⟨_, (jss_cons (js_set (i := 1) sc.nd rfl (Or.inl rfl) (j_bm (K := K) PySem.F.plainAttrs_str PySem.F.slot_str_split PySem.F.type_str_split m_split (jn 0) (ja_cons j_str ja_nil)))
    (jss_cons (js_set (i := 2) sc.nd rfl (Or.inl rfl) (j_ix (o_ix hu (K := K) (w := w)) (jn 1) j_int))
    (jss_cons (js_for passes_loop rfl (ji_any (K := K) (j_slice (o_sl (K := K)) (jn 1) (jo_some j_int) jo_none)) (jg_name (i := 3) sc.nd rfl (Or.inl rfl))
    (jss_cons (js_set (i := 4) sc.nd rfl (Or.inl rfl) (j_kget1 (K := K) (w := w) (j_glob (v := .ref _) rfl T.g_MEANT rfl) (j_slice (o_sl (K := K)) (jn 3) jo_none (jo_some j_int))))
    (jss_cons (js_if (jt_cmp o_is (jn 4) j_non)
    (jss_one (js_raise rfl T.c_NoForm T.x_NoForm (ja_cons (j_fs (jfs_cons jf_str (jfs_cons (jf_repr (jn 0)) jfs_nil))) ja_nil)))
    jss_nil)
    (jss_one (js_aug (i := 2) sc.nd rfl (Or.inl rfl) (j_op (o_add (K := K)) (jn 4) (j_slice (o_sl (K := K)) (jn 3) (jo_some j_int) jo_none)) o_iadd)))))
    (jss_one (js_ret (jn 2)))))), ?_⟩
    have hb := big
    have h5 : (5000000 : Nat) < sizeLine := by rw [sizeLine_eq]; decide
    have tlen := tl.len
    have e1 : Txt.split (S t) (Str.ofString "~") = (splitOn 126 t).map S := split_S t 126 (by decide)
    have hlen : (splitOn 126 t).length ≤ 2001 := by have := splitOn_len 126 t; omega
    refine ⟨rfl, by decide, by rw [S_len]; omega, by rw [e1, List.length_map]; omega, fun p hp => ?_⟩
    rw [e1]
    have hshort : ∀ pc ∈ splitOn 126 t, pc.length ≤ 2000 := fun pc hpc => Nat.le_trans (splitOn_short hpc) tlen
    have hdec : dec t = match splitOn 126 t with | [] => none | p :: ps => (decGo ps).map (p ++ ·) := rfl
    cases es : splitOn 126 t with
    | nil => exact absurd es (splitOn_ne _ _)
    | cons p0 ps =>
      rw [es] at hdec hlen hshort
      dsimp only at hdec
      have s1 : Same H (upd H p (.lst (((p0 :: ps).map S).map V.str))) := same_new hp
      have hp1 : upd H p (.lst (((p0 :: ps).map S).map V.str)) p = some (.lst (((p0 :: ps).map S).map V.str)) := upd_same
      generalize upd H p (.lst (((p0 :: ps).map S).map V.str)) = H1 at s1 hp1 ⊢
      refine .inl ⟨_, .str (S p0), SqL.of hp1, atI_nat (j := 0) rfl, ?_⟩
      refine ⟨_, SqL.of hp1, fun p2 hp2 => ?_⟩
      have ec : cutV (((p0 :: ps).map S).map V.str) (some 1) none = (ps.map S).map V.str := cutV_from1 _ _
      rw [ec]
      have s2 : Same H (upd H1 p2 (.lst ((ps.map S).map V.str))) := s1.trans (same_new hp2)
      have hp3 : upd H1 p2 (.lst ((ps.map S).map V.str)) p2 = some (.lst ((ps.map S).map V.str)) := upd_same
      generalize upd H1 p2 (.lst ((ps.map S).map V.str)) = H2 at s2 hp3 ⊢
      have lps : ps.length ≤ 2000 := by simp at hlen; omega
      refine .inl ⟨⟨_, SqL.of hp3⟩, for_list (K := K) (a := p2) (xs := (ps.map S).map V.str) (fun i σ H' => H' = H2 ∧ ∃ (acc : List Nat) (v3 v4 : Option V), σ = [some (.str (S t)), some (.ref p), some (.str (S acc)), v3, v4] ∧ dec t = (decGo (ps.drop i)).map (acc ++ ·) ∧ acc.length ≤ 2000 + i * 2026)
        ⟨rfl, p0, none, none, rfl, by rw [hdec]; rfl, by have := hshort p0 List.mem_cons_self; omega⟩ (fun i σ H' _ h => by rw [h.1]; exact SqL.of hp3) ?_ ?_⟩
      · rintro i x σ H' hi ⟨rfl, acc, v3, v4, rfl, hg, ha⟩
        rw [List.map_map, List.getElem?_map] at hi
        cases ei : ps[i]? with
        | none => rw [ei] at hi; cases hi
        | some pc =>
          rw [ei] at hi
          have ex : x = .str (S pc) := (Option.some.inj hi).symm
          subst ex
          obtain ⟨hlt, epc⟩ := List.getElem?_eq_some_iff.mp ei
          rw [List.drop_eq_getElem_cons hlt, epc] at hg
          have hpl : pc.length ≤ 2000 := hshort pc (List.mem_cons_of_mem _ (List.mem_of_getElem? ei))
          have hlenS : (S pc).length ≤ sizeLine := by rw [S_len]; omega
          have e3 : Txt.slice (S pc) none (some 1) = S (pc.take 1) := by
            rw [slice_S]
            have := cut_to pc 1
            rw [show ((1 : Nat) : Int) = 1 from rfl] at this
            rw [this]
          refine ⟨tN, kvMeant, rfl, T.k_MEANT, hlenS, _, rfl, ?_⟩
          rw [e3]
          cases pc with
          | nil =>
            have hn : dec t = none := by rw [hg]; rfl
            have hk : kvMeant.lookup (S (List.take 1 [])) = none := by decide +kernel
            rw [hk]
            exact ⟨⟨True.intro, ⟨rfl, S t, rfl, tl.rp.1, tl.rp.2⟩, True.intro⟩, fun z hz => ⟨(show 1 ≤ sizeLine by decide), qe hn _ s2⟩⟩
          | cons c r =>
            have hg' : dec t = (match meant c with | none => none | some m => (decGo (ps.drop (i + 1))).map fun t => m ++ r ++ t).map (acc ++ ·) := hg
            rw [show List.take 1 (c :: r) = [c] from rfl]
            cases em : meant c with
            | none =>
              have hn : dec t = none := by rw [hg', em]; rfl
              rw [lookup_none em]
              exact ⟨⟨True.intro, ⟨rfl, S t, rfl, tl.rp.1, tl.rp.2⟩, True.intro⟩, fun z hz => ⟨(show 1 ≤ sizeLine by decide), qe hn _ s2⟩⟩
            | some m =>
              rw [em] at hg'
              dsimp only at hg'
              obtain ⟨hk, hm⟩ := meant_lookup em
              rw [hk]
              have hr2 : r.length + 1 ≤ 2000 := by simpa using hpl
              have hi2 : i < 2000 := by omega
              refine ⟨hlenS, ?_⟩
              have e4 : Txt.slice (S (c :: r)) (some 1) none = S r := by
                rw [slice_S]
                have := cut_from (c :: r) 1
                rw [show ((1 : Nat) : Int) = 1 from rfl] at this
                rw [this]; rfl
              rw [e4]
              refine ⟨by rw [S_len, S_len]; omega, ?_⟩
              rw [S_app]
              refine ⟨by rw [S_len, S_len]; simp; omega, ?_⟩
              rw [S_app]
              refine ⟨rfl, acc ++ (m ++ r), _, _, rfl, ?_, by simp; omega⟩
              rw [hg']
              cases decGo (ps.drop (i + 1)) with
              | none => rfl
              | some rem => show some (acc ++ (m ++ r ++ rem)) = some (acc ++ (m ++ r) ++ rem); simp
      · rintro σ H' ⟨rfl, acc, v3, v4, rfl, hg, ha⟩
        rw [List.length_map, List.length_map] at ha
        rw [List.length_map, List.length_map, List.drop_length] at hg
        exact q acc (by rw [hg]; show some (acc ++ []) = _; rw [List.append_nil]) (by omega) _ s2

theorem deed_lookup (c : Nat) : (kvDeeds.lookup (S [c])).getD .non = (match deedOf c with | some d => V.str (deedS d) | none => .non) := by
  unfold deedOf
  have ne : ∀ k : Nat, c ≠ k → (S [c] == S [k]) = false := fun k hk => beq_eq_false_iff_ne.mpr fun e => hk (by simpa using S_inj e)
  by_cases h1 : c = 64
  · subst h1; decide +kernel
  · by_cases h2 : c = 94
    · subst h2; decide +kernel
    · by_cases h3 : c = 61
      · subst h3; decide +kernel
      · rw [if_neg h1, if_neg h2, if_neg h3]
        show (List.lookup (S [c]) [(S [64], V.str "in"), (S [94], V.str "out"), (S [61], V.str "row")]).getD .non = _
        rw [List.lookup_cons, ne _ h1, List.lookup_cons, ne _ h2, List.lookup_cons, ne _ h3]
        rfl
theorem many_lookup (c : Nat) : (kvManies.lookup (S [c])).getD .non = (match manyOf c with | some d => V.str (manyS d) | none => .non) := by
  unfold manyOf
  have ne : ∀ k : Nat, c ≠ k → (S [c] == S [k]) = false := fun k hk => beq_eq_false_iff_ne.mpr fun e => hk (by simpa using S_inj e)
  by_cases h1 : c = 46
  · subst h1; decide +kernel
  · by_cases h2 : c = 63
    · subst h2; decide +kernel
    · by_cases h3 : c = 43
      · subst h3; decide +kernel
      · by_cases h4 : c = 42
        · subst h4; decide +kernel
        · by_cases h5 : c = 62
          · subst h5; decide +kernel
          · by_cases h6 : c = 45
            · subst h6; decide +kernel
            · rw [if_neg h1, if_neg h2, if_neg h3, if_neg h4, if_neg h5, if_neg h6]
              show (List.lookup (S [c]) [(S [46], V.str "once"), (S [63], V.str "maybe"), (S [43], V.str "some"), (S [42], V.str "any"), (S [62], V.str "ahead"), (S [45], V.str "not")]).getD .non = _
              rw [List.lookup_cons, ne _ h1, List.lookup_cons, ne _ h2, List.lookup_cons, ne _ h3, List.lookup_cons, ne _ h4, List.lookup_cons, ne _ h5, List.lookup_cons, ne _ h6]
              rfl
theorem deedOf_lt {c d : Nat} (h : deedOf c = some d) : d < 3 := by
  unfold deedOf at h
  split at h
  · cases h; decide
  · split at h
    · cases h; decide
    · split at h
      · cases h; decide
      · cases h
theorem manyOf_lt {c d : Nat} (h : manyOf c = some d) : d < 6 := by
  unfold manyOf at h
  split at h
  · cases h; decide
  · split at h
    · cases h; decide
    · split at h
      · cases h; decide
      · split at h
        · cases h; decide
        · split at h
          · cases h; decide
          · split at h
            · cases h; decide
            · cases h
theorem Tl.drop {t : List Nat} (h : Tl t) (k : Nat) : Tl (t.drop k) := ⟨by have := h.len; rw [List.length_drop]; omega, fun c hc => h.sgn c (List.mem_of_mem_drop hc)⟩
def spPartOf (K : PySem.W.Frag) (C : Addr) : Sp := fun vs H Q E => ∃ t, vs = [.str (S t)] ∧ Tl t ∧ (∀ p, partF t = some p → ∀ r H', Same H H' → DatV K H' r p.dat → Q r H') ∧ (partF t = none → ∀ H', Same H H' → E (.ref C) none H')
theorem deed_take (t : List Nat) : (kvDeeds.lookup (S (t.take 1))).getD .non = (match t.head?.bind deedOf with | some d => V.str (deedS d) | none => .non) := by
  cases t with
  | nil => decide +kernel
  | cons c r => exact deed_lookup c
theorem many_take (t : List Nat) : (kvManies.lookup (S ((t.drop 1).take 1))).getD .non = (match (t.drop 1).head?.bind manyOf with | some d => V.str (manyS d) | none => .non) := by
  generalize t.drop 1 = t
  cases t with
  | nil => decide +kernel
  | cons c r => exact many_lookup c
theorem partF_none1 {t : List Nat} (h : t.head?.bind deedOf = none) : partF t = none := by
  match t, h with
  | [], _ => rfl
  | [_], _ => rfl
  | c :: c2 :: r, h =>
    have h' : deedOf c = none := h
    show (match deedOf c, manyOf c2 with | some d, some m => _ | _, _ => none) = none
    rw [h']
theorem partF_none2 {t : List Nat} (h : (t.drop 1).head?.bind manyOf = none) : partF t = none := by
  match t, h with
  | [], _ => rfl
  | [_], _ => rfl
  | c :: c2 :: r, h =>
    have h' : manyOf c2 = none := h
    show (match deedOf c, manyOf c2 with | some d, some m => _ | _, _ => none) = none
    rw [h']
    cases deedOf c <;> rfl
theorem partF_row {t : List Nat} {d m : Nat} (h : t.head?.bind deedOf = some d) (h2 : (t.drop 1).head?.bind manyOf = some m) (hd : d = 2) (hr : rowB m = false) : partF t = none := by
  match t, h, h2 with
  | [], h, _ => cases h
  | [_], _, h2 => cases h2
  | c :: c2 :: r, h, h2 =>
    have h' : deedOf c = some d := h
    have h2' : manyOf c2 = some m := h2
    show (match deedOf c, manyOf c2 with | some d, some m => (if d = 2 ∧ rowB m = false then none else match dec r with | none => none | some l => if 1 ≤ l.length ∧ l.length ≤ 100 then some (Prt.mk d m l) else none) | _, _ => none) = none
    rw [h', h2']
    dsimp only
    rw [if_pos ⟨hd, hr⟩]
theorem partF_main {t : List Nat} {d m : Nat} (h : t.head?.bind deedOf = some d) (h2 : (t.drop 1).head?.bind manyOf = some m) (hr : ¬ (d = 2 ∧ rowB m = false)) :
    partF t = match dec (t.drop 2) with | none => none | some l => if 1 ≤ l.length ∧ l.length ≤ 100 then some ⟨d, m, l⟩ else none := by
  match t, h, h2 with
  | [], h, _ => cases h
  | [_], _, h2 => cases h2
  | c :: c2 :: r, h, h2 =>
    have h' : deedOf c = some d := h
    have h2' : manyOf c2 = some m := h2
    show (match deedOf c, manyOf c2 with | some d, some m => (if d = 2 ∧ rowB m = false then none else match dec r with | none => none | some l => if 1 ≤ l.length ∧ l.length ≤ 100 then some (Prt.mk d m l) else none) | _, _ => none) = _
    rw [h', h2']
    dsimp only
    rw [if_neg hr]
    rfl
theorem deed_head {t : List Nat} {d : Nat} (h : t.head?.bind deedOf = some d) : d < 3 := by
  cases t with
  | nil => cases h
  | cons c r => exact deedOf_lt h
theorem many_head {t : List Nat} {d : Nat} (h : (t.drop 1).head?.bind manyOf = some d) : d < 6 := by
  generalize t.drop 1 = t at h
  cases t with
  | nil => cases h
  | cons c r => exact manyOf_lt h
theorem is_row {d : Nat} (hd : d < 3) : decide (deedS d = "row") = decide (d = 2) := by
  have h3 : d = 0 ∨ d = 1 ∨ d = 2 := by omega
  rcases h3 with rfl | rfl | rfl <;> decide +kernel
theorem in_rows {m : Nat} (hm : m < 6) : inV (.str (manyS m)) [.str "once", .str "ahead", .str "not"] = rowB m := by
  have h6 : m = 0 ∨ m = 1 ∨ m = 2 ∨ m = 3 ∨ m = 4 ∨ m = 5 := by omega
  rcases h6 with rfl | rfl | rfl | rfl | rfl | rfl <;> decide +kernel
abbrev st_part_of : Stmt := top 23
theorem sc_part_of : FnScope ["text", "deed", "many", "signs"] ["text"] (defScope st_part_of) := ⟨rfl, rfl, rfl, by decide +kernel, rfl, by decide +kernel, by decide +kernel⟩
theorem def_partOf (R : Raw K mg "part_of" st_part_of ["text"]) (T : Txt K w mg tD tM tR tN C t1 t2 t3) (D_signs_of : DefX P w K mg base 1 "signs_of" ["text"] (spSigns C)) : DefX P w K mg base 2 "part_of" ["text"] (spPartOf K C) := by
  refine R.defX sc_part_of (fun vs H Q E h => ?_) (fun f cdv A outer s H vs Q E hr h => ?_)
  · obtain ⟨p, rfl, _⟩ := h
    rfl
  · obtain ⟨t, rfl, tl, q, qe⟩ := h
    have sc := sc_part_of
    have hu := hr.units
    have hb := big
    have tlen := tl.len
    have hz : (S t).length ≤ sizeLine := by rw [S_len]; omega
    have e0 : Txt.slice (S t) none (some 1) = S (t.take 1) := by
      rw [slice_S]
      have := cut_to t 1
      rw [show ((1 : Nat) : Int) = 1 from rfl] at this
      rw [this]
    have e1 : Txt.slice (S t) (some 1) (some 2) = S ((t.drop 1).take 1) := by
      rw [slice_S]
      have := cut_some t 1 2
      rw [show ((1 : Nat) : Int) = 1 from rfl, show ((2 : Nat) : Int) = 2 from rfl] at this
      rw [this]
    have e2 : Txt.slice (S t) (some 2) none = S (t.drop 2) := by
      rw [slice_S]
      have := cut_from t 2
      rw [show ((2 : Nat) : Int) = 2 from rfl] at this
      rw [this]
    obtain ⟨u, hP, hq⟩ : ∃ u, JSs (cxOf (CX1 P w) P w K mg base ["text", "deed", "many", "signs"] "part_of" (defScope st_part_of) f cdv A outer s H E) ((defBody st_part_of).drop 4) u ∧
        ∀ d m, t.head?.bind deedOf = some d → (t.drop 1).head?.bind manyOf = some m → ¬ (d = 2 ∧ rowB m = false) → u { nx := fun _ H' => Q .non H', rt := Q } [some (.str (S t)), some (.str (deedS d)), some (.str (manyS m)), none] H := by
      refine ⟨_, (jss_cons (js_set (i := 3) sc.nd rfl (Or.inl rfl) (j_defX D_signs_of (hr.mono (by decide)) rfl (ja_cons (j_slice (o_sl (K := K)) (jn 0) (jo_some j_int) jo_none) ja_nil) pass1))
    (jss_cons (js_if (jt_not (jt_chain o_le o_le j_int (j_callB (c_len (K := K)) rfl T.n_len PySem.boot_len (ja_cons (jn 3) ja_nil)) (j_glob (v := .int 100) rfl T.g_MOST_SIGNS ⟨_, rfl⟩)))
    (jss_one (js_raise rfl T.c_NoForm T.x_NoForm (ja_cons (j_fs (jfs_cons jf_str (jfs_cons (jf_plain (j_glob (v := .int 100) rfl T.g_MOST_SIGNS ⟨_, rfl⟩)) (jfs_cons jf_str (jfs_cons (jf_repr (jn 0)) jfs_nil))))) ja_nil)))
    jss_nil)
    (jss_one (js_ret (j_tup (ja_cons (jn 1) (ja_cons (jn 3) (ja_cons (jn 2) ja_nil)))))))), fun d m hd hm hrow => ?_⟩
      have hp := partF_main hd hm hrow
      refine ⟨hz, t.drop 2, by rw [e2], tl.drop 2, fun l hl l5 H1 s1 => ?_, fun hn H1 s1 => ?_⟩
      · rw [hl] at hp
        dsimp only at hp
        have h5 : (5000000 : Nat) < sizeLine := by rw [sizeLine_eq]; decide
        have fin : ∀ (H3 : Hp), Same H H3 → partF t = some ⟨d, m, l⟩ → ∀ p3, H3 p3 = none → Q (.ref p3) (upd H3 p3 (.tup [.str (deedS d), .str (S l), .str (manyS m)])) := fun H3 s3 hs p3 hp3 =>
          q _ hs _ _ (s3.trans (same_new hp3)) (.tuple (SqT.of upd_same) (.cons (.str _) (.cons (.str _) (.cons (.str _) .nil))))
        refine ⟨by rw [S_len]; omega, ?_⟩
        by_cases h1 : 1 ≤ l.length
        · have c1 : decide ((1 : Int) ≤ ((S l).length : Nat)) = true := decide_eq_true (by rw [S_len]; omega)
          refine (if_pos c1).mpr ?_
          by_cases h2 : l.length ≤ 100
          · have c2 : (!decide (((S l).length : Int) ≤ 100)) = false := by rw [decide_eq_true (by rw [S_len]; omega)]; rfl
            refine (if_neg (by rw [c2]; exact Bool.false_ne_true)).mpr ?_
            rw [if_pos ⟨h1, h2⟩] at hp
            exact ⟨(show 3 ≤ sizeLine by decide), fun p3 hp3 => fin H1 s1 hp p3 hp3⟩
          · have c2 : (!decide (((S l).length : Int) ≤ 100)) = true := by rw [decide_eq_false (by rw [S_len]; omega)]; rfl
            refine (if_pos c2).mpr ?_
            rw [if_neg (fun z => h2 z.2)] at hp
            exact ⟨⟨True.intro, ⟨rfl, .inr ⟨100, rfl, by decide, by decide +kernel⟩⟩, True.intro, ⟨rfl, S t, rfl, tl.rp.1, tl.rp.2⟩, True.intro⟩, fun z hz => ⟨(show 1 ≤ sizeLine by decide), qe hp _ s1⟩⟩
        · have c1 : decide ((1 : Int) ≤ ((S l).length : Nat)) = false := decide_eq_false (by rw [S_len]; omega)
          refine (if_neg (by rw [c1]; exact Bool.false_ne_true)).mpr ?_
          rw [if_neg (fun z => h1 z.1)] at hp
          exact ⟨⟨True.intro, ⟨rfl, .inr ⟨100, rfl, by decide, by decide +kernel⟩⟩, True.intro, ⟨rfl, S t, rfl, tl.rp.1, tl.rp.2⟩, True.intro⟩, fun z hz => ⟨(show 1 ≤ sizeLine by decide), qe hp _ s1⟩⟩
      · rw [hn] at hp
        exact qe hp _ s1
    refine ⟨_, (jss_cons (js_set (i := 1) sc.nd rfl (Or.inl rfl) (j_kget1 (K := K) (w := w) (j_glob (v := .ref _) rfl T.g_DEEDS rfl) (j_slice (o_sl (K := K)) (jn 0) jo_none (jo_some j_int))))
    (jss_cons (js_set (i := 2) sc.nd rfl (Or.inl rfl) (j_kget1 (K := K) (w := w) (j_glob (v := .ref _) rfl T.g_MANIES rfl) (j_slice (o_sl (K := K)) (jn 0) (jo_some j_int) (jo_some j_int))))
    (jss_cons (js_if (jw_t (jw_or (jt_cmp o_is (jn 1) j_non) (jw_or1 (jt_cmp o_is (jn 2) j_non))))
    (jss_one (js_raise rfl T.c_NoForm T.x_NoForm (ja_cons (j_fs (jfs_cons jf_str (jfs_cons (jf_repr (jn 0)) jfs_nil))) ja_nil)))
    jss_nil)
    (jss_cons (js_if (jw_t (jw_and (jt_cmp (o_eq hu (K := K)) (jn 1) j_str) (jw_and1 (jt_cmp (o_notin (K := K)) (jn 2) (j_glob (v := .ref _) rfl T.g_ROW_MANIES rfl)))))
    (jss_one (js_raise rfl T.c_NoForm T.x_NoForm (ja_cons (j_fs (jfs_cons jf_str (jfs_cons (jf_repr (jn 0)) jfs_nil))) ja_nil)))
    jss_nil)
    hP)))), ?_⟩
    refine ⟨tD, kvDeeds, rfl, T.k_DEEDS, hz, _, rfl, ?_⟩
    rw [e0, deed_take]
    refine ⟨tM, kvManies, rfl, T.k_MANIES, hz, _, rfl, ?_⟩
    rw [e1, many_take]
    cases hd : t.head?.bind deedOf with
    | none => exact ⟨⟨True.intro, ⟨rfl, S t, rfl, tl.rp.1, tl.rp.2⟩, True.intro⟩, fun z hz => ⟨(show 1 ≤ sizeLine by decide), qe (partF_none1 hd) _ (Same.refl H)⟩⟩
    | some d =>
      cases hm : (t.drop 1).head?.bind manyOf with
      | none => exact ⟨⟨True.intro, ⟨rfl, S t, rfl, tl.rp.1, tl.rp.2⟩, True.intro⟩, fun z hz => ⟨(show 1 ≤ sizeLine by decide), qe (partF_none2 hm) _ (Same.refl H)⟩⟩
      | some m =>
        have hd3 := deed_head hd
        have hm6 := many_head hm
        conv => whnf
        refine ite2 (fun h => ?_) (fun h => hq d m hd hm ?_)
        · have h' : (false ^^ decide (deedS d = "row")) = true := h
          rw [is_row hd3, Bool.false_xor] at h'
          have d2 : d = 2 := of_decide_eq_true h'
          refine ⟨_, .inr (T.k_ROW _), rfl, rfl, ?_⟩
          conv => whnf
          refine ite2 (fun h5 => ?_) (fun h5 => hq d m hd hm ?_)
          · have h6 : (true ^^ inV (.str (manyS m)) [.str "once", .str "ahead", .str "not"]) = true := h5
            rw [in_rows hm6] at h6
            have hr0 : rowB m = false := by cases hb : rowB m with | true => rw [hb] at h6; cases h6 | false => rfl
            exact ⟨⟨True.intro, ⟨rfl, S t, rfl, tl.rp.1, tl.rp.2⟩, True.intro⟩, fun z hz => ⟨(show 1 ≤ sizeLine by decide), qe (partF_row hd hm d2 hr0) _ (Same.refl H)⟩⟩
          · rintro ⟨_, hr0⟩
            refine h5 ?_
            show (true ^^ inV (.str (manyS m)) [.str "once", .str "ahead", .str "not"]) = true
            rw [in_rows hm6, hr0]; rfl
        · rintro ⟨d2, _⟩
          refine h ?_
          show (false ^^ decide (deedS d = "row")) = true
          rw [is_row hd3, Bool.false_xor]
          exact decide_eq_true d2

theorem partsF_snoc : ∀ {l : List (List Nat)} {ps : List Prt} {t : List Nat} {p : Prt}, partsF l = some ps → partF t = some p → partsF (l ++ [t]) = some (ps ++ [p])
  | [], ps, t, p, h, hp => by
    cases h
    show (match partF t with | none => none | some p => (some []).map (p :: ·)) = _
    rw [hp]; rfl
  | x :: r, ps, t, p, h, hp => by
    have h' : (match partF x with | none => none | some p => (partsF r).map (p :: ·)) = some ps := h
    cases hx : partF x with
    | none => rw [hx] at h'; cases h'
    | some p0 =>
      rw [hx] at h'
      dsimp only at h'
      cases hr : partsF r with
      | none => rw [hr] at h'; cases h'
      | some ps' =>
        rw [hr] at h'
        have e : p0 :: ps' = ps := Option.some.inj h'
        subst e
        show (match partF x with | none => none | some p => (partsF (r ++ [t])).map (p :: ·)) = _
        rw [hx, partsF_snoc hr hp]; rfl
theorem partsF_bad : ∀ {l : List (List Nat)} {t : List Nat}, t ∈ l → partF t = none → partsF l = none
  | x :: r, t, h, hn => by
    show (match partF x with | none => none | some p => (partsF r).map (p :: ·)) = none
    rcases List.mem_cons.mp h with e | e
    · rw [← e, hn]
    · rw [partsF_bad e hn]
      cases partF x <;> rfl
theorem splitOn_mem {c : Nat} : ∀ {l p : List Nat}, p ∈ splitOn c l → ∀ {d : Nat}, d ∈ p → d ∈ l
  | [], p, h, d, hd => by simp [splitOn] at h; rw [h] at hd; exact hd
  | x :: r, p, h, d, hd => by
    have ih := fun {q : List Nat} (hq : q ∈ splitOn c r) => @splitOn_mem c r q hq d
    unfold splitOn at h
    by_cases hx : x = c
    · rw [if_pos hx] at h
      rcases List.mem_cons.mp h with e | e
      · rw [e] at hd; cases hd
      · exact List.mem_cons_of_mem _ (ih e hd)
    · rw [if_neg hx] at h
      cases e : splitOn c r with
      | nil => exact absurd e (splitOn_ne c r)
      | cons q qs =>
        rw [e] at h ih
        rcases List.mem_cons.mp h with e2 | e2
        · subst e2
          rcases List.mem_cons.mp hd with e3 | e3
          · rw [e3]; exact List.mem_cons_self
          · exact List.mem_cons_of_mem _ (ih List.mem_cons_self e3)
        · exact List.mem_cons_of_mem _ (ih (List.mem_cons_of_mem _ e2) hd)
theorem Tl.piece {t p : List Nat} (h : Tl t) (hp : p ∈ splitOn 32 t) : Tl p := by
  refine ⟨Nat.le_trans (splitOn_short hp) h.len, fun c hc => h.sgn c ?_⟩
  exact splitOn_mem hp hc
def spFO (K : PySem.W.Frag) (C : Addr) : Sp := fun vs H Q E => ∃ t, vs = [.str (S t)] ∧ Tl t ∧ (∀ ps, formF t = some ps → ∀ a xs H', H a = none → Same H H' → H' a = some (.lst xs) → DatVs K H' xs (ps.map Prt.dat) → Q (.ref a) H') ∧
  (formF t = none → ∀ H', Same H H' → E (.ref C) none H')
abbrev st_form_of : Stmt := top 21
theorem sc_form_of : FnScope ["text", "sign", "parts"] ["text"] (defScope st_form_of) := ⟨rfl, rfl, rfl, by decide +kernel, rfl, by decide +kernel, by decide +kernel⟩
theorem def_formOf (R : Raw K mg "form_of" st_form_of ["text"]) (T : Txt K w mg tD tM tR tN C t1 t2 t3) (D_may_write : Def P w K mg base 1 "may_write" ["sign"] spMay) (D_part_of : DefX P w K mg base 2 "part_of" ["text"] (spPartOf K C)) : DefX P w K mg base 3 "form_of" ["text"] (spFO K C) := by
  refine R.defX sc_form_of (fun vs H Q E h => ?_) (fun f cdv A outer s H vs Q E hr h => ?_)
  · obtain ⟨t, rfl, _⟩ := h
    rfl
  · obtain ⟨t, rfl, tl, q, qe⟩ := h
    have sc := sc_form_of
    have hu := hr.units
    have hb := big
    have tlen := tl.len
    have esp : Txt.split (S t) (Str.ofString " ") = (splitOn 32 t).map S := split_S t 32 (by decide)
    have hsl : (splitOn 32 t).length ≤ 2001 := by have := splitOn_len 32 t; omega
    refine ⟨_, (jss_cons (js_for passes_loop rfl (ji_any (K := K) (jn 0)) (jg_name (i := 1) sc.nd rfl (Or.inl rfl))
    (jss_one (js_if (jt_not (jt_val (j_def D_may_write (hr.mono (by decide)) rfl (ja_cons (jn 1) ja_nil))))
    (jss_one (js_raise rfl T.c_NoForm T.x_NoForm (ja_cons (j_fs (jfs_cons jf_str (jfs_cons (jf_repr (jn 1)) jfs_nil))) ja_nil)))
    jss_nil)))
    (jss_cons (js_set (i := 2) sc.nd rfl (Or.inl rfl) (j_bm (K := K) PySem.F.plainAttrs_str PySem.F.slot_str_split PySem.F.type_str_split m_split (jn 0) (ja_cons j_str ja_nil)))
    (jss_cons (js_if (jt_cmp o_gt (j_callB (c_len (K := K)) rfl T.n_len PySem.boot_len (ja_cons (jn 2) ja_nil)) (j_glob (v := .int 12) rfl T.g_MOST_PARTS ⟨_, rfl⟩))
    (jss_one (js_raise rfl T.c_NoForm T.x_NoForm (ja_cons (j_fs (jfs_cons jf_str (jfs_cons (jf_plain (j_glob (v := .int 12) rfl T.g_MOST_PARTS ⟨_, rfl⟩)) (jfs_cons jf_str jfs_nil)))) ja_nil)))
    jss_nil)
    (jss_one (js_ret (j_compX exits_fn rfl rfl (N := ["part"]) (cap := [none]) rfl (CompScope.of rfl (by rfl)) (ji_any (K := K) (jn 2)) (fun _ _ _ _ => (jg_name (i := 0) (show List.Nodup [("part" : Str)] by decide +kernel) rfl (Or.inl rfl))) (fun _ _ _ _ => jts_nil) (fun _ _ _ _ => (j_defX D_part_of (hr.mono (by decide)) rfl (ja_cons (jn 0) ja_nil) passes_comp)))))))), ?_⟩
    refine for_str (x := S t) (fun i σ H' => H' = H ∧ (t.take i).all wrB = true ∧ ∃ v : Option V, σ = [some (.str (S t)), v, none]) ⟨rfl, rfl, none, rfl⟩ ?_ ?_
    · rintro i c σ H' hi ⟨rfl, ha, v, rfl⟩
      have hc' : t[i]? = some c := by simpa using hi
      have hc : c ∈ t := List.mem_of_getElem? hc'
      refine ⟨c, rfl, ?_⟩
      cases hw : wrB c with
      | true =>
        refine ⟨rfl, ?_, _, rfl⟩
        rw [List.take_add_one, hc', List.all_append, ha]
        show (true && (wrB c && true)) = true
        rw [hw]; rfl
      | false =>
        have hn : formF t = none := by
          unfold formF
          rw [if_neg (fun z => by have := List.all_eq_true.mp z c hc; rw [hw] at this; cases this)]
        exact ⟨⟨True.intro, ⟨rfl, S [c], rfl, (show 1 ≤ 100000 by decide), fun d hd => by
          have e : d = c := by simpa using hd
          rw [e]; exact tl.sgn c hc⟩, True.intro⟩, fun z hz => ⟨(show 1 ≤ sizeLine by decide), qe hn _ (Same.refl H')⟩⟩
    · rintro σ H' ⟨rfl, ha, v, rfl⟩
      have hall : t.all wrB = true := by
        have et : t.take (S t).cps.size = t := List.take_of_length_le (by simp)
        rw [et] at ha; exact ha
      refine ⟨rfl, by decide, by rw [S_len]; omega, by rw [esp, List.length_map]; omega, fun p hp => ?_⟩
      rw [esp]
      have s1 : Same H' (upd H' p (.lst (((splitOn 32 t).map S).map V.str))) := same_new hp
      have hp1 : upd H' p (.lst (((splitOn 32 t).map S).map V.str)) p = some (.lst (((splitOn 32 t).map S).map V.str)) := upd_same
      generalize upd H' p (.lst (((splitOn 32 t).map S).map V.str)) = H1 at s1 hp1 ⊢
      refine ⟨_, .inl (SqL.of hp1), ?_⟩
      rw [List.length_map, List.length_map]
      conv => whnf
      refine ite2 (fun h => ?_) (fun h => ?_)
      · have h' := of_decide_eq_true h
        have h'' : (12 : Int) < ((splitOn 32 t).length : Nat) := h'
        have hn : formF t = none := by
          unfold formF
          rw [if_pos hall, if_neg (by omega)]
        exact ⟨⟨True.intro, ⟨rfl, .inr ⟨12, rfl, by decide, by decide +kernel⟩⟩, True.intro, True.intro⟩, fun z hz => ⟨(show 1 ≤ sizeLine by decide), qe hn _ s1⟩⟩
      have h12 : (splitOn 32 t).length ≤ 12 := by
        have h' : ¬ (12 : Int) < ((splitOn 32 t).length : Nat) := fun z => h (decide_eq_true z)
        omega
      have hform : formF t = partsF (splitOn 32 t) := by unfold formF; rw [if_pos hall, if_pos h12]
      refine .inl ⟨⟨_, SqL.of hp1⟩, ?_⟩
      refine gath_list (xs := ((splitOn 32 t).map S).map V.str) (fun i ys σ' H2 => Same H1 H2 ∧ ∃ (ps : List Prt) (v1 : Option V), partsF ((splitOn 32 t).take i) = some ps ∧ ps.length ≤ i ∧ DatVs K H2 ys (ps.map Prt.dat) ∧ σ' = [v1]) (by rw [List.length_map, List.length_map]; omega) ⟨Same.refl H1, [], none, rfl, by simp, .nil, rfl⟩
        (fun i ys σ' H2 h => by obtain ⟨_, ps, v1, _, hl, hd, _⟩ := h; have := hd.length; simp at this; omega) (fun i ys σ' H2 h => h.1.seq (SqL.of hp1)) ?_ ?_
      · rintro i x ys σ' H2 hi ⟨s2, ps, v1, hps, hl, hd, rfl⟩
        rw [List.map_map, List.getElem?_map] at hi
        cases ep : (splitOn 32 t)[i]? with
        | none => rw [ep] at hi; cases hi
        | some pc =>
          rw [ep] at hi
          have ex : x = .str (S pc) := (Option.some.inj hi).symm
          subst ex
          have hm := List.mem_of_getElem? ep
          refine ⟨pc, rfl, tl.piece hm, fun pp hpp r H3 s3 hr2 => ?_, fun hn H3 s3 => ?_⟩
          · refine ⟨s2.trans s3, ps ++ [pp], _, ?_, by simp; omega, ?_, rfl⟩
            · rw [List.take_add_one, ep]; exact partsF_snoc hps hpp
            · rw [List.map_append]; exact DatVs.snoc hr2 (hd.same s3)
          · exact qe (by rw [hform]; exact partsF_bad hm hn) _ ((s1.trans s2).trans s3)
      · rintro ys σ' H2 ⟨s2, ps, v1, hps, hl, hd, rfl⟩ D hD
        rw [List.length_map, List.length_map, List.take_length] at hps
        have hDH : H' D = none := by
          cases z : H' D with
          | none => rfl
          | some u => rw [(s1.trans s2) _ _ z] at hD; cases hD
        exact q ps (by rw [hform]; exact hps) D ys _ hDH ((s1.trans s2).trans (same_new hD)) upd_same (hd.same (same_new hD))
end
end K7

set_option Elab.async false
set_option linter.all false
set_option maxRecDepth 100000
set_option maxHeartbeats 4000000
namespace K7
open PySem PySem.Spec PyProof.Rows L2 Rg
--@RAISES but law
theorem boot_ValueError : bootBuiltins "ValueError" = some (.type "ValueError") := by decide +kernel
structure Cls (K : PySem.W.Frag) (mg : Str → Option Value) (C CG : Addr) (cs : List Addr) : Prop where
  n_isinstance : mg "isinstance" = none
  n_ValueError : mg "ValueError" = none
  c_NoForm : mg "NoForm" = some (.ref C)
  c_GrowthError : mg "GrowthError" = some (.ref CG)
  x_GrowthError : PySem.W.excIn K CG bmVE "ValueError.__new__" = true
  c_NoFit : mg "NoFit" = some (.ref (cs.getD 0 0))
  c_NoRule : mg "NoRule" = some (.ref (cs.getD 1 0))
  c_NoFloor : mg "NoFloor" = some (.ref (cs.getD 2 0))
  c_Barren : mg "Barren" = some (.ref (cs.getD 3 0))
  c_Idle : mg "Idle" = some (.ref (cs.getD 4 0))
  c_TooLarge : mg "TooLarge" = some (.ref (cs.getD 5 0))
  c_Clash : mg "Clash" = some (.ref (cs.getD 6 0))
  c_Stuck : mg "Stuck" = some (.ref (cs.getD 7 0))
  c_TooLong : mg "TooLong" = some (.ref (cs.getD 8 0))
  c_NoRow : mg "NoRow" = some (.ref (cs.getD 9 0))
  Z : ExcK K C
  up : mroHas K C (.ref CG) = true
  ve : PySem.W.kitOne K (.ref C) (.type "ValueError") = some true
  no : PySem.W.kitAny K (.ref C) ((List.range 10).map fun i => Value.ref (cs.getD i 0)) = some false
section
variable {P : Program} {w : World} {K : PySem.W.Frag} {mg : Str → Option Value} {base : Heap} {C CG : Addr} {cs : List Addr}
def spRef : Sp := fun vs H Q _ => ∃ t, vs = [.str (S t)] ∧ Tl t ∧ formF t = none ∧ ∀ H', Same H H' → Q (.bl true) H'
abbrev st__law_refused : Stmt := top 31
theorem sc__law_refused : FnScope ["_law_text", "_law_told", "e"] ["_law_text"] (defScope st__law_refused) := ⟨rfl, rfl, rfl, by decide +kernel, rfl, by decide +kernel, by decide +kernel⟩
theorem def_refused (R : Raw K mg "_law_refused" st__law_refused ["_law_text"]) (T : Cls K mg C CG cs) (D_form_of : DefX P w K mg base 3 "form_of" ["text"] (spFO K C)) : Def P w K mg base 4 "_law_refused" ["_law_text"] spRef := by
  refine R.defJ sc__law_refused (fun vs H Q E h => ?_) (fun f cdv A outer s H vs Q E hr h => ?_)
  · obtain ⟨t, rfl, _⟩ := h
    rfl
  · obtain ⟨t, rfl, tl, hn, q⟩ := h
    have sc := sc__law_refused
    have hu := hr.units
    refine ⟨_, (jss_cons (js_set (i := 1) sc.nd rfl (Or.inl rfl) j_bl)
    (jss_cons (js_tryAs (K := K) rfl rfl D_form_of (hr.mono (by decide)) rfl (ja_cons (jn 0) ja_nil) rfl T.c_GrowthError T.x_GrowthError (i := 2) sc.nd rfl rfl (fun a oe C hoe Z => (jss_cons (js_set (i := 1) sc.nd rfl (Or.inl rfl) (j_and (j_callB (c_isiX (K := K) Z hoe) rfl T.n_isinstance boot_isinstance (ja_cons (jn 2) (ja_cons (j_glob (v := .ref _) rfl T.c_NoForm rfl) ja_nil))) (j_one (j_callB (c_isiX (K := K) Z hoe) rfl T.n_isinstance boot_isinstance (ja_cons (jn 2) (ja_cons (j_bltn (v := .ty "ValueError") rfl T.n_ValueError boot_ValueError rfl) ja_nil))))))
    (jss_one (js_if (jt_val (j_callB (c_isiX (K := K) Z hoe) rfl T.n_isinstance boot_isinstance (ja_cons (jn 2) (ja_cons (j_tup (ja_cons (j_glob (v := .ref _) rfl T.c_NoFit rfl) (ja_cons (j_glob (v := .ref _) rfl T.c_NoRule rfl) (ja_cons (j_glob (v := .ref _) rfl T.c_NoFloor rfl) (ja_cons (j_glob (v := .ref _) rfl T.c_Barren rfl) (ja_cons (j_glob (v := .ref _) rfl T.c_Idle rfl) (ja_cons (j_glob (v := .ref _) rfl T.c_TooLarge rfl) (ja_cons (j_glob (v := .ref _) rfl T.c_Clash rfl) (ja_cons (j_glob (v := .ref _) rfl T.c_Stuck rfl) (ja_cons (j_glob (v := .ref _) rfl T.c_TooLong rfl) (ja_cons (j_glob (v := .ref _) rfl T.c_NoRow rfl) ja_nil))))))))))) ja_nil))))
    (jss_one (js_set (i := 1) sc.nd rfl (Or.inl rfl) j_bl))
    jss_nil)))))
    (jss_one (js_ret (jn 1))))), ?_⟩
    refine ⟨t, rfl, tl, fun ps hps => ?_, fun _ H1 s1 => ?_⟩
    · rw [hn] at hps; cases hps
    · refine ⟨C, rfl, T.Z, T.up, fun a ha => ?_⟩
      have hself : PySem.W.kitOne K (.ref C) (.ref C) = some true := by unfold PySem.W.kitOne; rw [if_pos (beq_self_eq_true _)]
      refine ⟨rfl, .inl ⟨true, hself, ⟨rfl, true, T.ve, ?_⟩⟩⟩
      refine ⟨(show 10 ≤ sizeLine by decide), fun p hp => ⟨rfl, .inr ⟨(List.range 10).map fun i => cs.getD i 0, false, SqT.of upd_same, T.no, ?_⟩⟩⟩
      exact q _ (s1.trans (same_new hp))
end
end K7

set_option Elab.async false
set_option linter.all false
set_option maxRecDepth 100000
set_option maxHeartbeats 4000000
namespace K7
open PySem PySem.Spec PyProof.Rows L2 Rg
theorem splitOn_mid {c : Nat} : ∀ (u l : List Nat), splitOn c (u ++ c :: l) = splitOn c u ++ splitOn c l
  | [], l => by simp [splitOn]
  | x :: u, l => by
    have ih := splitOn_mid (c := c) u l
    show (if x = c then [] :: splitOn c (u ++ c :: l) else match splitOn c (u ++ c :: l) with | [] => [[x]] | p :: ps => (x :: p) :: ps) = (if x = c then [] :: splitOn c u else match splitOn c u with | [] => [[x]] | p :: ps => (x :: p) :: ps) ++ splitOn c l
    by_cases hx : x = c
    · rw [if_pos hx, if_pos hx, ih]; rfl
    · rw [if_neg hx, if_neg hx, ih]
      cases e : splitOn c u with
      | nil => exact absurd e (splitOn_ne c u)
      | cons p ps => rfl
theorem decGo_bad : ∀ {ps : List (List Nat)} {p : List Nat}, p ∈ ps → (p = [] ∨ ∃ c r, p = c :: r ∧ meant c = none) → decGo ps = none
  | [] :: ps, p, h, hb => rfl
  | (c :: r) :: ps, p, h, hb => by
    show (match meant c with | none => none | some m => (decGo ps).map fun t => m ++ r ++ t) = none
    rcases List.mem_cons.mp h with e | e
    · rcases hb with hb | ⟨c', r', hb, hm⟩
      · rw [e] at hb; cases hb
      · rw [e] at hb; cases hb
        rw [hm]
    · rw [decGo_bad e hb]
      cases meant c <;> rfl
theorem dec_bad (u : List Nat) {rest : List Nat} (h : rest = [] ∨ ∃ c r, rest = c :: r ∧ meant c = none) : dec (u ++ 126 :: rest) = none := by
  unfold dec
  rw [splitOn_mid]
  have hp : ∃ p ps, splitOn 126 rest = p :: ps ∧ (p = [] ∨ ∃ c r, p = c :: r ∧ meant c = none) := by
    rcases h with rfl | ⟨c, r, rfl, hm⟩
    · exact ⟨[], [], rfl, .inl rfl⟩
    · show ∃ p ps, (if c = 126 then [] :: splitOn 126 r else match splitOn 126 r with | [] => [[c]] | p :: ps => (c :: p) :: ps) = p :: ps ∧ _
      by_cases hc : c = 126
      · rw [if_pos hc]; exact ⟨[], _, rfl, .inl rfl⟩
      · rw [if_neg hc]
        cases e : splitOn 126 r with
        | nil => exact absurd e (splitOn_ne _ _)
        | cons p ps => exact ⟨c :: p, ps, rfl, .inr ⟨c, p, rfl, hm⟩⟩
  obtain ⟨p, ps, e, hb⟩ := hp
  rw [e]
  cases eu : splitOn 126 u with
  | nil => exact absurd eu (splitOn_ne _ _)
  | cons p0 pu =>
    show (decGo (pu ++ p :: ps)).map (p0 ++ ·) = none
    rw [decGo_bad (p := p) (by simp) hb]
    rfl
theorem form_wr {t : List Nat} {c : Nat} (h : c ∈ t) (hc : wrB c = false) : formF t = none := by
  unfold formF
  rw [if_neg (fun z => by have := List.all_eq_true.mp z c h; rw [hc] at this; cases this)]
theorem form_piece {t p : List Nat} (h : p ∈ splitOn 32 t) (hp : partF p = none) : formF t = none := by
  unfold formF
  split
  · split
    · exact partsF_bad h hp
    · rfl
  · rfl
theorem form_many {t : List Nat} (h : 12 < (splitOn 32 t).length) : formF t = none := by
  unfold formF
  split
  · rw [if_neg (by omega)]
  · rfl
theorem join_pieces : ∀ {ps : List (List Nat)}, ps ≠ [] → splitOn 32 (joinWith [32] ps) = (ps.map (splitOn 32)).flatten
  | [], h => absurd rfl h
  | [p], _ => by simp [joinWith]
  | p :: q :: r, _ => by
    show splitOn 32 (p ++ [32] ++ joinWith [32] (q :: r)) = _
    rw [List.append_assoc]
    show splitOn 32 (p ++ 32 :: joinWith [32] (q :: r)) = _
    rw [splitOn_mid, join_pieces (by simp)]
    rfl
theorem form_join {ps : List (List Nat)} {x p : List Nat} (hx : x ∈ ps) (hp : p ∈ splitOn 32 x) (h : partF p = none) : formF (joinWith [32] ps) = none := by
  refine form_piece (p := p) ?_ h
  rw [join_pieces (fun z => by rw [z] at hx; cases hx)]
  exact List.mem_flatten.mpr ⟨_, List.mem_map.mpr ⟨x, hx, rfl⟩, hp⟩
theorem mem_join : ∀ {ps : List (List Nat)} {x : List Nat} {c : Nat}, x ∈ ps → c ∈ x → c ∈ joinWith [32] ps
  | [p], x, c, hx, hc => by rw [List.mem_singleton.mp hx] at hc; exact hc
  | p :: q :: r, x, c, hx, hc => by
    show c ∈ p ++ [32] ++ joinWith [32] (q :: r)
    rcases List.mem_cons.mp hx with e | e
    · rw [e] at hc; simp [hc]
    · exact List.mem_append_right _ (mem_join e hc)
theorem form_word {a b : List (List Nat)} {x : List Nat} (h : (∃ c ∈ x, wrB c = false) ∨ ∃ p ∈ splitOn 32 x, partF p = none) : formF (joinWith [32] (a ++ [x] ++ b)) = none := by
  rcases h with ⟨c, hc, hw⟩ | ⟨p, hp, hn⟩
  · exact form_wr (mem_join (x := x) (by simp) hc) hw
  · exact form_join (x := x) (by simp) hp hn
structure Wd where
  d : Nat
  m : Nat
  b : List Nat
  l : List Nat
structure Wd.Ok (p : Wd) : Prop where
  hd : p.d < 3
  hm : p.m < 6
  row : p.d = 2 → p.m = 0 ∨ p.m = 4 ∨ p.m = 5
  rd : dec p.b = some p.l
  l1 : 1 ≤ p.l.length
  l2 : p.l.length ≤ 5 * p.b.length
  b2 : p.b.length ≤ 19
  wt : ∀ c ∈ p.b, wrB c = true ∧ c ≠ 32
def Wd.txt (p : Wd) : List Nat := deedC p.d :: manyC p.m :: p.b
def Wd.prt (p : Wd) : Prt := ⟨p.d, p.m, p.l⟩
theorem deedOf_C {d : Nat} (h : d < 3) : deedOf (deedC d) = some d := by
  have h3 : d = 0 ∨ d = 1 ∨ d = 2 := by omega
  rcases h3 with rfl | rfl | rfl <;> decide
theorem manyOf_C {d : Nat} (h : d < 6) : manyOf (manyC d) = some d := by
  have h6 : d = 0 ∨ d = 1 ∨ d = 2 ∨ d = 3 ∨ d = 4 ∨ d = 5 := by omega
  rcases h6 with rfl | rfl | rfl | rfl | rfl | rfl <;> decide
theorem partF_of {c c2 d m : Nat} {r : List Nat} (h1 : deedOf c = some d) (h2 : manyOf c2 = some m) (hr : ¬ (d = 2 ∧ rowB m = false)) :
    partF (c :: c2 :: r) = match dec r with | none => none | some l => if 1 ≤ l.length ∧ l.length ≤ 100 then some ⟨d, m, l⟩ else none := partF_main (t := c :: c2 :: r) h1 h2 hr
theorem Wd.Ok.part {p : Wd} (h : p.Ok) : partF p.txt = some p.prt := by
  have hr : ¬ (p.d = 2 ∧ rowB p.m = false) := fun ⟨z, y⟩ => by
    rcases h.row z with e | e | e <;> rw [e] at y <;> cases y
  unfold Wd.txt
  rw [partF_of (deedOf_C h.hd) (manyOf_C h.hm) hr, h.rd]
  have := h.l1
  have := h.l2
  have := h.b2
  dsimp only
  rw [if_pos ⟨h.l1, by omega⟩]
  rfl
theorem deedC_ok (d : Nat) : wrB (deedC d) = true ∧ deedC d ≠ 32 := by unfold deedC; split <;> decide
theorem manyC_ok (d : Nat) : wrB (manyC d) = true ∧ manyC d ≠ 32 := by unfold manyC; split <;> decide
theorem Wd.Ok.signs {p : Wd} (h : p.Ok) : ∀ c ∈ p.txt, wrB c = true ∧ c ≠ 32 := by
  intro c hc
  unfold Wd.txt at hc
  rcases List.mem_cons.mp hc with e | hc
  · rw [e]; exact deedC_ok _
  · rcases List.mem_cons.mp hc with e | hc
    · rw [e]; exact manyC_ok _
    · exact h.wt c hc
theorem partsF_all : ∀ {ws : List Wd}, (∀ p ∈ ws, p.Ok) → partsF (ws.map Wd.txt) = some (ws.map Wd.prt)
  | [], _ => rfl
  | p :: r, h => by
    show (match partF p.txt with | none => none | some q => (partsF (r.map Wd.txt)).map (q :: ·)) = _
    rw [(h p List.mem_cons_self).part, partsF_all fun q hq => h q (List.mem_cons_of_mem _ hq)]
    rfl
theorem join_all {ps : List (List Nat)} (h : ∀ p ∈ ps, ∀ c ∈ p, wrB c = true) : ∀ c ∈ joinWith [32] ps, wrB c = true := by
  match ps, h with
  | [], _ => intro c hc; cases hc
  | [p], h => exact fun c hc => h p List.mem_cons_self c hc
  | p :: q :: r, h =>
    intro c hc
    have hc' : c ∈ p ++ [32] ++ joinWith [32] (q :: r) := hc
    rcases List.mem_append.mp hc' with z | z
    · rcases List.mem_append.mp z with y | y
      · exact h p List.mem_cons_self c y
      · rw [List.mem_singleton.mp y]; decide
    · exact join_all (fun x hx => h x (List.mem_cons_of_mem _ hx)) c z
theorem good_form {ws : List Wd} (h0 : ws ≠ []) (h : ∀ p ∈ ws, p.Ok) (h12 : ws.length ≤ 12) : formF (joinWith [32] (ws.map Wd.txt)) = some (ws.map Wd.prt) := by
  have hs : splitOn 32 (joinWith [32] (ws.map Wd.txt)) = ws.map Wd.txt := splitOn_join (by simpa using h0) fun p hp m => by
    obtain ⟨x, hx, rfl⟩ := List.mem_map.mp hp
    exact ((h x hx).signs 32 m).2 rfl
  unfold formF
  rw [if_pos (List.all_eq_true.mpr (join_all fun p hp c hc => by
    obtain ⟨x, hx, rfl⟩ := List.mem_map.mp hp
    exact ((h x hx).signs c hc).1)), hs, if_pos (by rw [List.length_map]; exact h12)]
  exact partsF_all h
end K7

set_option Elab.async false
set_option linter.all false
set_option maxRecDepth 100000
set_option maxHeartbeats 4000000
namespace K7
open PySem PySem.Spec PyProof.Rows L2 Rg
def Bad (x : List Nat) : Prop := (∃ c ∈ x, wrB c = false) ∨ ∃ p ∈ splitOn 32 x, partF p = none
theorem bad_one {x : List Nat} (h32 : 32 ∉ x) (h : partF x = none) : Bad x := .inr ⟨x, by rw [splitOn_none h32]; simp, h⟩
theorem partF_body {c c2 : Nat} {r : List Nat} (h : ∀ l, dec r = some l → ¬ (1 ≤ l.length ∧ l.length ≤ 100)) : partF (c :: c2 :: r) = none := by
  cases h1 : deedOf c with
  | none => exact partF_none1 (t := c :: c2 :: r) h1
  | some d =>
    cases h2 : manyOf c2 with
    | none => exact partF_none2 (t := c :: c2 :: r) h2
    | some m =>
      by_cases hr : d = 2 ∧ rowB m = false
      · exact partF_row (t := c :: c2 :: r) h1 h2 hr.1 hr.2
      · rw [partF_of h1 h2 hr]
        cases hl : dec r with
        | none => rfl
        | some l => dsimp only; rw [if_neg (h l hl)]
theorem body32 {p : Wd} (h : p.Ok) : 32 ∉ p.b := fun m => (h.wt 32 m).2 rfl
theorem bad0 {p : Wd} {c : Nat} (h : p.Ok) (hc : deedOf c = none) : Bad (c :: p.txt.drop 1) := by
  show Bad (c :: manyC p.m :: p.b)
  by_cases h32 : c = 32
  · subst h32
    exact .inr ⟨[], by simp [splitOn], rfl⟩
  · refine bad_one (fun m => ?_) (partF_none1 (t := c :: manyC p.m :: p.b) hc)
    rcases List.mem_cons.mp m with e | m
    · exact h32 e.symm
    · rcases List.mem_cons.mp m with e | m
      · exact (manyC_ok p.m).2 e.symm
      · exact body32 h m
theorem bad1 {p : Wd} {c : Nat} (h : p.Ok) (hc : manyOf c = none) : Bad (p.txt.take 1 ++ c :: p.txt.drop 2) := by
  show Bad (deedC p.d :: c :: p.b)
  by_cases h32 : c = 32
  · subst h32
    refine .inr ⟨[deedC p.d], ?_, rfl⟩
    have := splitOn_append (c := 32) (p := [deedC p.d]) (l := p.b) (fun m => (deedC_ok p.d).2 (List.mem_singleton.mp m).symm)
    rw [show deedC p.d :: 32 :: p.b = [deedC p.d] ++ 32 :: p.b from rfl, this]
    simp
  · refine bad_one (fun m => ?_) (partF_none2 (t := deedC p.d :: c :: p.b) hc)
    rcases List.mem_cons.mp m with e | m
    · exact (deedC_ok p.d).2 e.symm
    · rcases List.mem_cons.mp m with e | m
      · exact h32 e.symm
      · exact body32 h m
theorem bad2 {p : Wd} {k m : Nat} (h : p.Ok) (hk : manyOf k = some m) (hm : rowB m = false) (h32 : k ≠ 32) : Bad (61 :: k :: p.txt.drop 2) := by
  show Bad (61 :: k :: p.b)
  refine bad_one (fun z => ?_) (partF_row (t := 61 :: k :: p.b) (d := 2) rfl hk rfl hm)
  rcases List.mem_cons.mp z with e | z
  · cases e
  · rcases List.mem_cons.mp z with e | z
    · exact h32 e.symm
    · exact body32 h z
theorem head32 (p : Wd) {r : List Nat} (h : 32 ∉ r) : 32 ∉ p.txt.take 2 ++ r := fun z => by
  have z' : 32 ∈ deedC p.d :: manyC p.m :: r := z
  rcases List.mem_cons.mp z' with e | z'
  · exact (deedC_ok p.d).2 e.symm
  · rcases List.mem_cons.mp z' with e | z'
    · exact (manyC_ok p.m).2 e.symm
    · exact h z'
theorem bad_body {p : Wd} {r : List Nat} (h32 : 32 ∉ r) (h : ∀ l, dec r = some l → ¬ (1 ≤ l.length ∧ l.length ≤ 100)) : Bad (p.txt.take 2 ++ r) := bad_one (head32 p h32) (partF_body (c := deedC p.d) (c2 := manyC p.m) h)
theorem bad3 (p : Wd) : Bad (p.txt.take 2) := by
  have := bad_body (p := p) (r := []) (by simp) (fun l hl => by
    have h0 : dec [] = some [] := by decide
    rw [h0] at hl; cases hl; simp)
  rw [List.append_nil] at this; exact this
theorem dec_plainL : ∀ k : Nat, dec (List.replicate k 120) = some (List.replicate k 120)
  | 0 => by decide
  | k + 1 => by rw [List.replicate_succ, dec_plain (by decide), dec_plainL k]; rfl
theorem dec_app : ∀ (n : Nat) (t l w g : List Nat), t.length ≤ n → dec t = some l → dec w = some g → dec (t ++ w) = some (l ++ g)
  | _, [], l, w, g, _, h, hw => by
    have e : l = [] := by
      have h0 : dec [] = some [] := by decide
      rw [h0] at h
      exact (Option.some.inj h).symm
    rw [e]; exact hw
  | 0, _ :: _, _, _, _, hn, _, _ => by simp at hn
  | n + 1, c :: t, l, w, g, hn, h, hw => by
    by_cases hc : c = 126
    · subst hc
      cases t with
      | nil =>
        have h0 : dec [126] = none := by decide
        rw [h0] at h
        cases h
      | cons x t =>
        cases hm : meant x with
        | none =>
          have := dec_bad [] (rest := x :: t) (.inr ⟨x, t, rfl, hm⟩)
          rw [show ([] : List Nat) ++ 126 :: x :: t = 126 :: x :: t from rfl, h] at this
          cases this
        | some m =>
          have hx : x ≠ 126 := fun z => by
            have h0 : meant 126 = none := by decide
            rw [z, h0] at hm; cases hm
          rw [dec_code hx hm] at h
          show dec (126 :: x :: (t ++ w)) = _
          rw [dec_code hx hm]
          cases ht : dec t with
          | none => rw [ht] at h; cases h
          | some l' =>
            rw [ht] at h
            have e : m ++ l' = l := Option.some.inj h
            rw [dec_app n t l' w g (by simp at hn; omega) ht hw, ← e]
            simp
    · rw [dec_plain hc] at h
      show dec (c :: (t ++ w)) = _
      rw [dec_plain hc]
      cases ht : dec t with
      | none => rw [ht] at h; cases h
      | some l' =>
        rw [ht] at h
        have e : c :: l' = l := Option.some.inj h
        rw [dec_app n t l' w g (by simp at hn; omega) ht hw, ← e]
        simp
theorem bad4 (p : Wd) {t g : List Nat} {k : Nat} (h32 : 32 ∉ t) (ht : dec t = some g) (hk : 100 < g.length + k) : Bad (p.txt.take 2 ++ (t ++ List.replicate k 120)) := by
  refine bad_body (fun z => ?_) (fun l hl => ?_)
  · rcases List.mem_append.mp z with z | z
    · exact h32 z
    · have := (List.mem_replicate.mp z).2; cases this
  · rw [dec_app _ _ _ _ _ (Nat.le_refl _) ht (dec_plainL k)] at hl
    cases hl
    simp
    omega
theorem bad6 {p : Wd} {c j : Nat} (h : p.Ok) (hc : meant c = none) : Bad (p.txt.take (2 + j) ++ 126 :: c :: p.txt.drop (2 + j)) := by
  have e : p.txt.take (2 + j) ++ 126 :: c :: p.txt.drop (2 + j) = deedC p.d :: manyC p.m :: (p.b.take j ++ 126 :: c :: p.b.drop j) := by
    rw [Nat.add_comm]; rfl
  rw [e]
  have nb : 32 ∉ p.b.take j := fun z => body32 h (List.mem_of_mem_take z)
  by_cases h32 : c = 32
  · subst h32
    have hs := splitOn_append (c := 32) (p := deedC p.d :: manyC p.m :: (p.b.take j ++ [126])) (l := p.b.drop j) (head32 p (r := p.b.take j ++ [126]) (fun z => by
      rcases List.mem_append.mp z with z | z
      · exact nb z
      · cases List.mem_singleton.mp z))
    refine .inr ⟨deedC p.d :: manyC p.m :: (p.b.take j ++ [126]), ?_, partF_body fun l hl => ?_⟩
    · have e2 : deedC p.d :: manyC p.m :: (p.b.take j ++ 126 :: 32 :: p.b.drop j) = (deedC p.d :: manyC p.m :: (p.b.take j ++ [126])) ++ 32 :: p.b.drop j := by simp
      rw [e2, hs]; exact List.mem_cons_self
    · rw [dec_bad _ (.inl rfl)] at hl; cases hl
  · refine bad_one (head32 p (r := p.b.take j ++ 126 :: c :: p.b.drop j) (fun z => ?_)) (partF_body fun l hl => ?_)
    · rcases List.mem_append.mp z with z | z
      · exact nb z
      · rcases List.mem_cons.mp z with z | z
        · cases z
        · rcases List.mem_cons.mp z with z | z
          · exact h32 z.symm
          · exact body32 h (List.mem_of_mem_drop z)
    · rw [dec_bad _ (.inr ⟨c, _, rfl, hc⟩)] at hl; cases hl
theorem bad7 {p : Wd} (h : p.Ok) : Bad (p.txt ++ [126]) := by
  show Bad (p.txt.take 2 ++ (p.b ++ [126]))
  refine bad_body (fun z => ?_) fun l hl => ?_
  · rcases List.mem_append.mp z with z | z
    · exact body32 h z
    · cases List.mem_singleton.mp z
  · rw [dec_bad _ (.inl rfl)] at hl; cases hl
theorem bad8 : formF [] = none := by decide
theorem bad9 (a b : List (List Nat)) : formF (joinWith [32] (a ++ [[]] ++ b)) = none := form_word (.inr ⟨[], by simp [splitOn], rfl⟩)
theorem bad10 {ps : List (List Nat)} (h : ∀ p ∈ ps, 32 ∉ p) (hn : 12 < ps.length) : formF (joinWith [32] ps) = none := by
  refine form_many ?_
  rw [splitOn_join (fun z => by rw [z] at hn; simp at hn) h]; exact hn
theorem bad11 {t : List Nat} {c j : Nat} (hc : wrB c = false) : formF (t.take j ++ c :: t.drop j) = none := form_wr (c := c) (by simp) hc
end K7

set_option Elab.async false
set_option linter.all false
set_option maxRecDepth 100000
set_option maxHeartbeats 4000000
namespace K7
open PySem PySem.Spec PyProof.Rows L2 Rg
--@RAISES but law
section
variable {P : Program} {w : World} {K : PySem.W.Frag} {mg : Str → Option Value} {base : Heap} {tD tM tR tN C : Addr} {t1 t2 t3 : Tok}
def sgn (k : Nat) : Bool := wrB k || k == 10 || k == 9
def spSign : Sp := fun vs H Q _ => ∃ (c : Int) (but : List Nat), vs = [.int c, .str (S but)] ∧ 33 ∉ but ∧ ∀ k, sgn k = true → k ∉ but → ∀ H', Same H H' → Q (.str (S [k])) H'
abbrev st__law_sign : Stmt := top 27
theorem sc__law_sign : FnScope ["_law_cell", "_law_but", "_law_some"] ["_law_cell", "_law_but"] (defScope st__law_sign) := ⟨rfl, rfl, rfl, by decide +kernel, rfl, by decide +kernel, by decide +kernel⟩
theorem def_sign (R : Raw K mg "_law_sign" st__law_sign ["_law_cell", "_law_but"]) (T : Txt K w mg tD tM tR tN C t1 t2 t3) : Def P w K mg base 1 "_law_sign" ["_law_cell", "_law_but"] spSign := by
  refine R.defJ sc__law_sign (fun vs H Q E h => ?_) (fun f cdv A outer s H vs Q E hr h => ?_)
  · obtain ⟨c, but, rfl, _⟩ := h
    rfl
  · obtain ⟨c, but, rfl, h33, q⟩ := h
    have sc := sc__law_sign
    have hu := hr.units
    have hb := big
    refine ⟨_, (jss_cons (js_set (i := 2) sc.nd rfl (Or.inl rfl) j_str)
    (jss_cons (js_comp (i := 2) (N := ["_law_sign_here", "_law_but"]) (cap := [none, some 1]) rfl (CompScope.of rfl (by rfl)) (ji_any (K := K) (j_op (o_add (K := K)) (jn 2) j_str)) (fun _ _ _ _ => (jg_name (i := 0) (show List.Nodup [("_law_sign_here" : Str), ("_law_but" : Str)] by decide +kernel) rfl (Or.inl rfl))) (fun _ _ _ _ => (jts_one (jt_cmp (o_notin (K := K)) (jn 0) (jn 1)))) (fun _ _ _ _ => (jn 0)) sc.nd rfl rfl)
    (jss_one (js_ret (j_ix (o_ix hu (K := K) (w := w)) (jn 2) (j_op o_mod (jn 0) (j_callB (c_len (K := K)) rfl T.n_len PySem.boot_len (ja_cons (jn 2) ja_nil)))))))), ?_⟩
    refine ⟨by decide +kernel, ?_⟩
    have hx : ∃ x : Str, x = Str.ofString " !\"#$&'()*+,-./0123456789:;<=>?@ABCDEFGHIJKLMNOPQRSTUVWXYZ[\\]^_`" ++ Str.ofString "abcdefghijklmnopqrstuvwxyz{|}~\n\t" ∧ x.cps.size ≤ 1000 ∧ x.cps.toList.all sgn = true ∧ 33 ∈ x.cps.toList := ⟨_, rfl, by decide +kernel, by decide +kernel, by decide +kernel⟩
    obtain ⟨x, ex, xs, xa, x33⟩ := hx
    refine gath_str (x := Str.ofString " !\"#$&'()*+,-./0123456789:;<=>?@ABCDEFGHIJKLMNOPQRSTUVWXYZ[\\]^_`" ++ Str.ofString "abcdefghijklmnopqrstuvwxyz{|}~\n\t") (fun i ys σ' H' => H' = H ∧ ∃ v : Option V, ys = ((x.cps.toList.take i).filter (fun k => !decide (k ∈ but))).map (fun k => V.str (S [k])) ∧ σ' = [v, some (.str (S but))]) (by rw [← ex]; omega) ⟨rfl, none, rfl, rfl⟩
      (fun i ys σ' H' h => by
        obtain ⟨_, v, rfl, _⟩ := h
        rw [List.length_map]
        exact Nat.le_trans (List.length_filter_le _ _) (by rw [List.length_take]; omega)) ?_ ?_
    · rintro i c ys σ' H' hi ⟨rfl, v, rfl, rfl⟩
      rw [← ex] at hi
      have hi' : x.cps.toList[i]? = some c := by simpa using hi
      show if (true ^^ !(Builtin.Str.occurrences (S but) ⟨#[c]⟩ 0 (S but).length 1).isEmpty) = true then _ else _
      rw [in_S]
      refine ite2 (fun h => ?_) (fun h => ?_)
      · have hc : decide (c ∈ but) = false := by cases z : decide (c ∈ but) with | true => rw [z] at h; cases h | false => rfl
        refine ⟨rfl, _, ?_, rfl⟩
        rw [List.take_add_one, hi', List.filter_append, List.map_append]
        show _ ++ [V.str ⟨#[c]⟩] = _ ++ List.map _ (List.filter _ [c])
        rw [List.filter_cons, if_pos (by rw [hc]; rfl)]
        rfl
      · have hc : decide (c ∈ but) = true := by cases z : decide (c ∈ but) with | true => rfl | false => rw [z] at h; exact absurd rfl h
        refine ⟨rfl, _, ?_, rfl⟩
        rw [List.take_add_one, hi', List.filter_append, List.map_append]
        show _ = _ ++ List.map _ (List.filter _ [c])
        rw [List.filter_cons, if_neg (by rw [hc]; exact Bool.false_ne_true)]
        simp
    · rintro ys σ' H' ⟨rfl, v, rfl, rfl⟩ D hD
      rw [← ex]
      have et : x.cps.toList.take x.cps.size = x.cps.toList := List.take_of_length_le (by simp)
      rw [et]
      have hfl : ∀ k ∈ x.cps.toList.filter (fun k => !decide (k ∈ but)), sgn k = true ∧ k ∉ but := fun k hk => by
        obtain ⟨h1, h2⟩ := List.mem_filter.mp hk
        exact ⟨List.all_eq_true.mp xa k h1, fun z => by rw [decide_eq_true z] at h2; cases h2⟩
      have hne : 0 < (x.cps.toList.filter (fun k => !decide (k ∈ but))).length := List.length_pos_iff.mpr fun z => by
        have : 33 ∈ x.cps.toList.filter (fun k => !decide (k ∈ but)) := List.mem_filter.mpr ⟨x33, by rw [decide_eq_false h33]; rfl⟩
        rw [z] at this; cases this
      generalize x.cps.toList.filter (fun k => !decide (k ∈ but)) = l at hfl hne ⊢
      have s1 : Same H' (upd H' D (.lst (l.map fun k => V.str (S [k])))) := same_new hD
      have hD1 : upd H' D (.lst (l.map fun k => V.str (S [k]))) D = some (.lst (l.map fun k => V.str (S [k]))) := upd_same
      generalize upd H' D (.lst (l.map fun k => V.str (S [k]))) = H1 at s1 hD1 ⊢
      refine ⟨_, .inl (SqL.of hD1), ?_⟩
      rw [List.length_map]
      have hpos : (0 : Int) < (l.length : Nat) := by omega
      have hr1 := Int.emod_nonneg c (Int.ne_of_gt hpos)
      have hr2 := Int.emod_lt_of_pos c hpos
      have hlt : (c % (l.length : Nat)).toNat < l.length := by omega
      have key : atI (l.map fun k => V.str (S [k])) (c % (l.length : Nat)) = some (.str (S [l[(c % (l.length : Nat)).toNat]])) := by
        have e : (((c % (l.length : Nat)).toNat : Nat) : Int) = c % (l.length : Nat) := by omega
        have := atI_nat (xs := l.map fun k => V.str (S [k])) (j := (c % (l.length : Nat)).toNat) (v := .str (S [l[(c % (l.length : Nat)).toNat]])) (by rw [List.getElem?_map, List.getElem?_eq_getElem hlt]; rfl)
        exact (congrArg (atI (l.map fun k => V.str (S [k]))) e).symm.trans this
      obtain ⟨k1, k2⟩ := hfl _ (List.getElem_mem hlt)
      exact ⟨hpos, .inl ⟨_, _, SqL.of hD1, key, q _ k1 k2 _ s1⟩⟩
end
end K7

set_option Elab.async false
set_option linter.all false
set_option maxRecDepth 100000
set_option maxHeartbeats 4000000
namespace K7
open PySem PySem.Spec PyProof.Rows L2 Rg
--@RAISES but law
structure Pc (w g : List Nat) : Prop where
  rd : dec w = some g
  w1 : 1 ≤ w.length
  w2 : w.length ≤ 2
  g1 : 1 ≤ g.length
  g2 : g.length ≤ 5 * w.length
  wt : ∀ c ∈ w, wrB c = true ∧ c ≠ 32
theorem pc_sign {k : Nat} (h : sgn k = true) (hn : k ∉ [32, 126, 10, 9]) : Pc [k] [k] := by
  have hn' : k ≠ 32 ∧ k ≠ 126 ∧ k ≠ 10 ∧ k ≠ 9 := by simpa using hn
  have hw : wrB k = true := by
    unfold sgn at h
    simp only [Bool.or_eq_true, beq_iff_eq] at h
    rcases h with (h | h) | h
    · exact h
    · exact absurd h hn'.2.2.1
    · exact absurd h hn'.2.2.2
  refine ⟨?_, by simp, by simp, by simp, by simp, fun c hc => ?_⟩
  · rw [dec_plain hn'.2.1]; rfl
  · rw [List.mem_singleton.mp hc]; exact ⟨hw, hn'.1⟩
def pcB (w g : List Nat) : Bool := dec w == some g && decide (1 ≤ w.length) && decide (w.length ≤ 2) && decide (1 ≤ g.length) && decide (g.length ≤ 5 * w.length) && w.all (fun c => wrB c && decide (c ≠ 32))
theorem pc_of {w g : List Nat} (h : pcB w g = true) : Pc w g := by
  unfold pcB at h
  simp only [Bool.and_eq_true, beq_iff_eq, decide_eq_true_eq, List.all_eq_true] at h
  obtain ⟨⟨⟨⟨⟨h1, h2⟩, h3⟩, h4⟩, h5⟩, h6⟩ := h
  exact ⟨h1, h2, h3, h4, h5, h6⟩
theorem four (c : Int) : ∃ w g, Pc w g ∧ atI [V.str "~b", V.str "~n", V.str "~t", V.str "~0"] (c % 4) = some (.str (S w)) := by
  have h : c % 4 = 0 ∨ c % 4 = 1 ∨ c % 4 = 2 ∨ c % 4 = 3 := by omega
  rcases h with e | e | e | e <;> rw [e]
  · exact ⟨[126, 98], [32], pc_of (by decide +kernel), rfl⟩
  · exact ⟨[126, 110], [10], pc_of (by decide +kernel), rfl⟩
  · exact ⟨[126, 116], [126], pc_of (by decide +kernel), rfl⟩
  · exact ⟨[126, 48], figs, pc_of (by decide +kernel), rfl⟩
theorem three (c : Int) : ∃ d, d < 3 ∧ atI [V.str "@", V.str "^", V.str "="] (c % 3) = some (.str (S [deedC d])) := by
  have h : c % 3 = 0 ∨ c % 3 = 1 ∨ c % 3 = 2 := by omega
  rcases h with e | e | e <;> rw [e]
  · exact ⟨0, by decide, rfl⟩
  · exact ⟨1, by decide, rfl⟩
  · exact ⟨2, by decide, rfl⟩
theorem row3 (c : Int) : ∃ m, m < 6 ∧ (m = 0 ∨ m = 4 ∨ m = 5) ∧ atI (Str.ofString ".>-").cps.toList (c % 3) = some (manyC m) := by
  have h : c % 3 = 0 ∨ c % 3 = 1 ∨ c % 3 = 2 := by omega
  rcases h with e | e | e <;> rw [e]
  · exact ⟨0, by decide, by decide, by decide +kernel⟩
  · exact ⟨4, by decide, by decide, by decide +kernel⟩
  · exact ⟨5, by decide, by decide, by decide +kernel⟩
theorem all6 (c : Int) : ∃ m, m < 6 ∧ atI (Str.ofString ".?+*>-").cps.toList (c % 6) = some (manyC m) := by
  have h : c % 6 = 0 ∨ c % 6 = 1 ∨ c % 6 = 2 ∨ c % 6 = 3 ∨ c % 6 = 4 ∨ c % 6 = 5 := by omega
  rcases h with e | e | e | e | e | e <;> rw [e]
  · exact ⟨0, by decide, by decide +kernel⟩
  · exact ⟨1, by decide, by decide +kernel⟩
  · exact ⟨2, by decide, by decide +kernel⟩
  · exact ⟨3, by decide, by decide +kernel⟩
  · exact ⟨4, by decide, by decide +kernel⟩
  · exact ⟨5, by decide, by decide +kernel⟩
theorem wd_new {w g : List Nat} {d m : Nat} (pc : Pc w g) (hd : d < 3) (hm : m < 6) (hr : d = 2 → m = 0 ∨ m = 4 ∨ m = 5) : Wd.Ok ⟨d, m, w, g⟩ :=
  ⟨hd, hm, hr, pc.rd, pc.g1, pc.g2, by have := pc.w2; show w.length ≤ 19; omega, pc.wt⟩
theorem wd_grow {p : Wd} {w g : List Nat} (h : p.Ok) (pc : Pc w g) (hl : p.txt.length < 20) : Wd.Ok ⟨p.d, p.m, p.b ++ w, p.l ++ g⟩ := by
  have hb : p.b.length < 18 := by unfold Wd.txt at hl; simp at hl; omega
  have := pc.w2
  have := pc.g2
  have := h.l1
  have := h.l2
  refine ⟨h.hd, h.hm, h.row, dec_app _ _ _ _ _ (Nat.le_refl _) h.rd pc.rd, ?_, ?_, ?_, ?_⟩
  · show 1 ≤ (p.l ++ g).length; rw [List.length_append]; omega
  · show (p.l ++ g).length ≤ 5 * (p.b ++ w).length; rw [List.length_append, List.length_append]; omega
  · show (p.b ++ w).length ≤ 19; rw [List.length_append]; omega
  · intro c hc
    rcases List.mem_append.mp hc with z | z
    · exact h.wt c z
    · exact pc.wt c z
structure WI (H0 : Hp) (W : Addr) (i : Nat) (ws : List Wd) (H : Hp) : Prop where
  sm : Same H0 H
  hW : H W = some (.lst (ws.map fun p => .str (S p.txt)))
  ok : ∀ p ∈ ws, p.Ok
  len : ws.length ≤ 12
  ne : 0 < i → ws ≠ []
theorem WI.same {H0 H H' : Hp} {W : Addr} {i : Nat} {ws : List Wd} (h : WI H0 W i ws H) (s : Same H H') : WI H0 W i ws H' := ⟨h.sm.trans s, s _ _ h.hW, h.ok, h.len, h.ne⟩
theorem WI.add {H0 H : Hp} {W : Addr} {i : Nat} {ws : List Wd} {p : Wd} {x : Str} (h : WI H0 W i ws H) (h0 : H0 W = none) (hl : ws.length < 12) (hp : p.Ok) (ex : x = S p.txt) : WI H0 W (i + 1) (ws ++ [p]) (upd H W (.lst ((ws.map fun p => V.str (S p.txt)) ++ [.str x]))) := by
  subst ex
  refine ⟨same_upd h.sm h0, by rw [upd_same, List.map_append]; rfl, fun q hq => ?_, by simp; omega, fun _ z => by simp at z⟩
  rcases List.mem_append.mp hq with z | z
  · exact h.ok q z
  · rw [List.mem_singleton.mp z]; exact hp
theorem WI.last {H0 H : Hp} {W : Addr} {i : Nat} {ws : List Wd} {p p' : Wd} {xs : List V} (h : WI H0 W i (ws ++ [p]) H) (h0 : H0 W = none) (hp : p'.Ok) (ex : xs = (ws.map fun p => V.str (S p.txt)) ++ [.str (S p'.txt)]) : WI H0 W (i + 1) (ws ++ [p']) (upd H W (.lst xs)) := by
  subst ex
  refine ⟨same_upd h.sm h0, by rw [upd_same, List.map_append]; rfl, fun q hq => ?_, by have := h.len; simp at this ⊢; omega, fun _ z => by simp at z⟩
  rcases List.mem_append.mp hq with z | z
  · exact h.ok q (List.mem_append_left _ z)
  · rw [List.mem_singleton.mp z]; exact hp
theorem WI.stay {H0 H : Hp} {W : Addr} {i : Nat} {ws : List Wd} (h : WI H0 W i ws H) (hn : ws ≠ []) : WI H0 W (i + 1) ws H := ⟨h.sm, h.hW, h.ok, h.len, fun _ => hn⟩
theorem txts_dat {K : PySem.W.Frag} {H : Hp} : ∀ ws : List Wd, DatVs K H (ws.map fun p => V.str (S p.txt)) (ws.map fun p => PyData.str (S p.txt))
  | [] => .nil
  | p :: r => .cons (.str _) (txts_dat r)
theorem sgn_ok {l : List Nat} (h : ∀ c ∈ l, wrB c = true) : PyData.strOk (S l) = true := by
  unfold PyData.strOk
  simp
  intro c hc
  have := h c hc
  unfold wrB at this
  simp at this
  omega
theorem txts_lay : ∀ {ws : List Wd}, (∀ p ∈ ws, p.Ok) → PyData.canLayAll0 (ws.map fun p => PyData.str (S p.txt)) = true
  | [], _ => by simp only [List.map_nil, PyData.canLayAll0]
  | p :: r, h => by
    rw [List.map_cons]
    simp only [PyData.canLayAll0, PyData.canLay0, sgn_ok fun c hc => ((h p List.mem_cons_self).signs c hc).1, txts_lay fun q hq => h q (List.mem_cons_of_mem _ hq), Bool.and_self]
theorem txts_eqv (ws : List Wd) : PyData.eqv (.list (ws.map fun p => PyData.str (S p.txt))) (.list []) = ws.isEmpty := by
  cases ws with
  | nil => rfl
  | cons p r => rfl
theorem nil_depth : (PyData.list []).depth ≤ 60 := by simp only [PyData.depth, PyData.depthAll]; decide
theorem ifS_of {c : TT} {t1 t2 : TS} {D : Ends} {σ : L2.St} {H : Hp} (R : Bool → Hp → Prop) (h1 : ∀ H', R true H' → t1 D σ H') (h2 : ∀ H', R false H' → t2 D σ H')
    (hc : (∀ H', R true H' → t1 D σ H') → (∀ H', R false H' → t2 D σ H') → c σ H fun b H' => if b = true then t1 D σ H' else t2 D σ H') : tIfS c t1 t2 D σ H := hc h1 h2
theorem seq_of {t u : TS} {D : Ends} {σ : L2.St} {H : Hp} (R : L2.St → Hp → Prop) (h1 : ∀ σ' H', R σ' H' → u D σ' H') (h : (∀ σ' H', R σ' H' → u D σ' H') → t { D with nx := u D } σ H) : tSeq t u D σ H := h h1
theorem set_last {α : Type} (xs : List α) (x y : α) : (xs ++ [x]).set xs.length y = xs ++ [y] := by
  rw [List.set_append_right _ _ (Nat.le_refl _)]; simp
theorem ixN_last (n : Nat) : ixN (n + 1) (-1) = some n := by
  unfold ixN
  rw [if_neg (by omega), if_pos (by omega)]
  refine congrArg some ?_
  omega
section
variable {P : Program} {w : World} {K : PySem.W.Frag} {mg : Str → Option Value} {base : Heap} {tD tM tR tN C : Addr} {t1 t2 t3 : Tok}
def spWords (K : PySem.W.Frag) : Sp := fun vs H Q _ => ∃ (a : Addr) (ns : List Int), vs = [.ref a] ∧ SqL K H a (ns.map V.int) ∧ ns ≠ [] ∧
  ∀ (ws : List Wd) W H', ws ≠ [] → (∀ p ∈ ws, p.Ok) → ws.length ≤ 12 → Same H H' → H' W = some (.lst (ws.map fun p => .str (S p.txt))) → Q (.ref W) H'
abbrev st__law_words : Stmt := top 28
theorem sc__law_words : FnScope ["_law_cells", "_law_words_here", "_law_cell", "_law_piece", "_law_head"] ["_law_cells"] (defScope st__law_words) := ⟨rfl, rfl, rfl, by decide +kernel, rfl, by decide +kernel, by decide +kernel⟩
theorem def_words (R : Raw K mg "_law_words" st__law_words ["_law_cells"]) (T : Txt K w mg tD tM tR tN C t1 t2 t3) (D__law_sign : Def P w K mg base 1 "_law_sign" ["_law_cell", "_law_but"] spSign) : Def P w K mg base 2 "_law_words" ["_law_cells"] (spWords K) := by
  refine R.defJ sc__law_words (fun vs H Q E h => ?_) (fun f cdv A outer s H vs Q E hr h => ?_)
  · obtain ⟨a, ns, rfl, _⟩ := h
    rfl
  · obtain ⟨a, ns, rfl, hS, hn0, q⟩ := h
    have sc := sc__law_words
    have hu := hr.units
    have hb := big
    refine ⟨_, (jss_cons (js_set (i := 1) sc.nd rfl (Or.inl rfl) (j_lst ja_nil))
    (jss_cons (js_for PassesOwn.never rfl (ji_any (K := K) (jn 0)) (jg_name (i := 2) sc.nd rfl (Or.inl rfl))
    (jss_cons (js_set (i := 3) sc.nd rfl (Or.inl rfl) (j_def D__law_sign (hr.mono (by decide)) rfl (ja_cons (j_op o_div (jn 2) j_int) (ja_cons j_str ja_nil))))
    (jss_cons (js_if (jt_cmp (o_eq hu (K := K)) (j_op o_mod (jn 2) j_int) j_int)
    (jss_one (js_set (i := 3) sc.nd rfl (Or.inl rfl) (j_ix (o_ix hu (K := K) (w := w)) (j_lst (ja_cons j_str (ja_cons j_str (ja_cons j_str (ja_cons j_str ja_nil))))) (j_op o_mod (j_op o_div (jn 2) j_int) j_int))))
    jss_nil)
    (jss_one (js_if (jw_t (jw_or (jt_cmp (o_eq hu (K := K)) (jn 1) (j_lst ja_nil)) (jw_or1 (jw_t (jw_and (jt_cmp (o_eq hu (K := K)) (j_op o_mod (jn 2) j_int) j_int) (jw_and1 (jt_cmp o_lt (j_callB (c_len (K := K)) rfl T.n_len PySem.boot_len (ja_cons (jn 1) ja_nil)) j_int)))))))
    (jss_cons (js_set (i := 4) sc.nd rfl (Or.inl rfl) (j_ix (o_ix hu (K := K) (w := w)) (j_lst (ja_cons j_str (ja_cons j_str (ja_cons j_str ja_nil)))) (j_op o_mod (j_op o_div (jn 2) j_int) j_int)))
    (jss_one (js_if (jt_cmp (o_eq hu (K := K)) (jn 4) j_str)
    (jss_one (js_expr (j_bm (K := K) PySem.F.plainAttrs_list PySem.F.slot_list_append PySem.F.type_list_append m_append (jn 1) (ja_cons (j_op (o_add (K := K)) (j_op (o_add (K := K)) (jn 4) (j_ix (o_ix hu (K := K) (w := w)) j_str (j_op o_mod (j_op o_div (jn 2) j_int) j_int))) (jn 3)) ja_nil))))
    (jss_one (js_expr (j_bm (K := K) PySem.F.plainAttrs_list PySem.F.slot_list_append PySem.F.type_list_append m_append (jn 1) (ja_cons (j_op (o_add (K := K)) (j_op (o_add (K := K)) (jn 4) (j_ix (o_ix hu (K := K) (w := w)) j_str (j_op o_mod (j_op o_div (jn 2) j_int) j_int))) (jn 3)) ja_nil)))))))
    (jss_one (js_if (jt_cmp o_lt (j_callB (c_len (K := K)) rfl T.n_len PySem.boot_len (ja_cons (j_ix (o_ix hu (K := K) (w := w)) (jn 1) (j_neg j_int)) ja_nil)) j_int)
    (jss_one (js_asg (j_op (o_add (K := K)) (j_ix (o_ix hu (K := K) (w := w)) (jn 1) (j_neg j_int)) (jn 3)) (jg_sub (jn 1) (j_neg j_int))))
    jss_nil)))))))
    (jss_one (js_ret (jn 1))))), ?_⟩
    refine ⟨(show 0 ≤ sizeLine by decide), fun W hW0 => ?_⟩
    have s0 : Same H (upd H W (.lst [])) := same_new hW0
    refine .inl ⟨⟨_, s0.seq hS⟩, for_list (K := K) (a := a) (xs := ns.map V.int) (fun i σ H' => ∃ (ws : List Wd) (v2 v3 v4 : Option V), WI H W i ws H' ∧ σ = [some (.ref a), some (.ref W), v2, v3, v4])
      ⟨[], none, none, none, ⟨s0, by rw [upd_same]; rfl, by simp, by simp, fun h => absurd h (by decide)⟩, rfl⟩ (fun i σ H' _ h => by obtain ⟨ws, v2, v3, v4, h, _⟩ := h; exact h.sm.seq hS) ?_ ?_⟩
    · rintro i x σ H' hi ⟨ws, v2, v3, v4, h, rfl⟩
      rw [List.getElem?_map] at hi
      cases ei : ns[i]? with
      | none => rw [ei] at hi; cases hi
      | some c =>
        rw [ei] at hi
        have ex : x = .int c := (Option.some.inj hi).symm
        subst ex
        refine ⟨⟨by decide, by decide⟩, c / 4, [32, 126, 10, 9], rfl, by decide, fun k hk hkn H2 s2 => ?_⟩
        have h2 := h.same s2
        have pk := pc_sign hk hkn
        dsimp only
        refine seq_of (fun σ' H3 => ∃ w g, Pc w g ∧ WI H W i ws H3 ∧ σ' = [some (.ref a), some (.ref W), some (.int c), some (.str (S w)), v4]) ?_ ?_
        · rintro σ' H3 ⟨w, g, pc, h3, rfl⟩
          have pw := pc.w2
          refine ifS_of (fun b H4 => WI H W i ws H4 ∧ (b = true → ws.length < 12) ∧ (b = false → ws ≠ [])) ?_ ?_ ?_
          · rintro H4 ⟨h4, hl, _⟩
            have hl := hl rfl
            obtain ⟨d, hd, hat3⟩ := three (c / 368)
            refine ⟨(show 3 ≤ sizeLine by decide), fun p hp => ⟨⟨by decide, by decide⟩, by decide, .inl ⟨_, _, SqL.of upd_same, hat3, ?_⟩⟩⟩
            have h5 := h4.same (same_new (o := .lst [.str "@", .str "^", .str "="]) hp)
            have e2 : (false ^^ decide (S [deedC d] = Str.ofString "=")) = decide (d = 2) := by
              have h3 : d = 0 ∨ d = 1 ∨ d = 2 := by omega
              rcases h3 with rfl | rfl | rfl <;> decide +kernel
            have fin : ∀ m, m < 6 → (d = 2 → m = 0 ∨ m = 4 ∨ m = 5) → (S [deedC d] ++ (⟨#[manyC m]⟩ : Str)) ++ S w = S (Wd.txt ⟨d, m, w, g⟩) := fun m _ _ => by
              rw [show (⟨#[manyC m]⟩ : Str) = S [manyC m] from rfl, S_app, S_app]; rfl
            have z1 : ∀ m, (S [deedC d]).length + (⟨#[manyC m]⟩ : Str).length ≤ sizeLine := fun m => (show 2 ≤ sizeLine by decide)
            have z2 : ∀ m, (S [deedC d] ++ (⟨#[manyC m]⟩ : Str)).length + (S w).length ≤ sizeLine := fun m => by
              rw [show (⟨#[manyC m]⟩ : Str) = S [manyC m] from rfl, S_app, S_len, S_len]; simp; omega
            show if (false ^^ decide (S [deedC d] = Str.ofString "=")) = true then _ else _
            rw [e2]
            refine ite2 (fun hd2 => ?_) (fun hd2 => ?_)
            · obtain ⟨m, hm, hrow, hatm⟩ := row3 (c / 1104)
              refine ⟨.inl ⟨rfl, _, SqL.of h5.hW⟩, ⟨by decide, by decide⟩, by decide, by decide +kernel, manyC m, hatm, z1 m, z2 m, _, h5.hW, by rw [List.length_map]; omega, ?_⟩
              exact ⟨_, _, _, _, h5.add hW0 hl (wd_new pc hd hm fun _ => hrow) (fin m hm fun _ => hrow), rfl⟩
            · have hn2 : ¬ d = 2 := fun z => hd2 (decide_eq_true z)
              obtain ⟨m, hm, hatm⟩ := all6 (c / 1104)
              refine ⟨.inl ⟨rfl, _, SqL.of h5.hW⟩, ⟨by decide, by decide⟩, by decide, by decide +kernel, manyC m, hatm, z1 m, z2 m, _, h5.hW, by rw [List.length_map]; omega, ?_⟩
              exact ⟨_, _, _, _, h5.add hW0 hl (wd_new pc hd hm fun z => absurd z hn2) (fin m hm fun z => absurd z hn2), rfl⟩
          · rintro H4 ⟨h4, _, hne⟩
            have hne := hne rfl
            rcases List.eq_nil_or_concat ws with e | ⟨wi, p, e⟩
            · exact absurd e hne
            subst e
            rw [List.concat_eq_append] at h4
            have hW4 : H4 W = some (.lst (wi.map (fun p => V.str (S p.txt)) ++ [.str (S p.txt)])) := by have := h4.hW; rw [List.map_append] at this; exact this
            have ok : p.Ok := h4.ok p (by simp)
            have pl : p.txt.length ≤ 21 := by have := ok.b2; unfold Wd.txt; simp; omega
            refine .inl ⟨_, .str (S p.txt), SqL.of hW4, atI_last _ _, by rw [S_len]; omega, ?_⟩
            rw [S_len]
            conv => whnf
            refine ite2 (fun hlt => ?_) (fun _ => ⟨_, _, _, _, h4.stay (by simp), rfl⟩)
            have hl : p.txt.length < 20 := by
              have := of_decide_eq_true hlt
              omega
            refine .inl ⟨_, .str (S p.txt), SqL.of hW4, atI_last _ _, by rw [S_len, S_len]; omega, ?_⟩
            have ix : ∀ (x : V), ixN (wi.map (fun p => V.str (S p.txt)) ++ [x]).length (-1) = some wi.length := fun x => by rw [List.length_append, List.length_map]; exact ixN_last _
            refine ⟨W, _, _, _, rfl, rfl, hW4, ix _, ?_⟩
            refine ⟨_, _, _, _, h4.last hW0 (wd_grow ok pc hl) ?_, rfl⟩
            have := set_last (wi.map (fun p => V.str (S p.txt))) (.str (S p.txt)) (.str (S p.txt ++ S w))
            rw [List.length_map] at this
            rw [this, S_app]
            rfl
          · intro new els
            have hlay : (PyData.list (ws.map fun p => PyData.str (S p.txt))).canLay0 = true := by simp only [PyData.canLay0]; exact txts_lay h3.ok
            have hdep : min (PyData.list (ws.map fun p => PyData.str (S p.txt))).depth (PyData.list []).depth ≤ 60 := by
              have := nil_depth
              omega
            refine ⟨(show 0 ≤ sizeLine by decide), fun p hp => ⟨.list (ws.map fun p => PyData.str (S p.txt)), .list [], .list (SqL.of (same_new hp _ _ h3.hW)) (txts_dat ws), .list (SqL.of upd_same) .nil, hlay, by decide, hdep, ?_⟩⟩
            have h4 := h3.same (same_new (o := .lst []) hp)
            by_cases hn : ws = []
            · have e : (false ^^ PyData.eqv (.list (ws.map fun p => PyData.str (S p.txt))) (.list [])) = true := by rw [txts_eqv, hn]; rfl
              refine (if_pos e).mpr ?_
              exact new _ ⟨h4, fun _ => by rw [hn]; decide, fun z => nomatch z⟩
            · have e : (false ^^ PyData.eqv (.list (ws.map fun p => PyData.str (S p.txt))) (.list [])) = false := by
                rw [txts_eqv]
                cases ws with
                | nil => exact absurd rfl hn
                | cons _ _ => rfl
              refine (if_neg (by rw [e]; exact Bool.false_ne_true)).mpr ?_
              refine ⟨by decide, ?_⟩
              show if (false ^^ decide (c % 4 = 0)) = true then _ else _
              refine ite2 (fun _ => ?_) (fun _ => els _ ⟨h4, (fun z => nomatch z), fun _ => hn⟩)
              refine ⟨_, .inl (SqL.of h4.hW), ?_⟩
              rw [List.length_map]
              show if decide ((ws.length : Int) < 12) = true then _ else _
              refine ite2 (fun hd => ?_) (fun _ => els _ ⟨h4, (fun z => nomatch z), fun _ => hn⟩)
              have hl : ws.length < 12 := by
                have := of_decide_eq_true hd
                omega
              exact new _ ⟨h4, fun _ => hl, fun z => nomatch z⟩
        · intro rest
          refine ⟨by decide, ?_⟩
          show if (false ^^ decide (c % 5 = 1)) = true then _ else _
          refine ite2 (fun _ => ?_) (fun _ => rest _ _ ⟨[k], [k], pk, h2, rfl⟩)
          obtain ⟨w2, g2, pc2, hat⟩ := four (c / 5)
          refine ⟨(show 4 ≤ sizeLine by decide), fun p hp => ⟨⟨by decide, by decide⟩, by decide, .inl ⟨_, _, SqL.of upd_same, hat, ?_⟩⟩⟩
          exact rest _ _ ⟨w2, g2, pc2, h2.same (same_new hp), rfl⟩
    · rintro σ H' ⟨ws, v2, v3, v4, h, rfl⟩
      exact q ws W H' (h.ne (by rw [List.length_map]; exact List.length_pos_iff.mpr hn0)) h.ok h.len h.sm h.hW
end
end K7

set_option Elab.async false
set_option linter.all false
set_option maxRecDepth 100000
set_option maxHeartbeats 4000000
namespace K7
open PySem PySem.Spec PyProof.Rows L2 Rg
--@RAISES but law
theorem sl_from (t : List Nat) (k : Nat) : Txt.slice (S t) (some (k : Int)) none = S (t.drop k) := by rw [slice_S, cut_from]
theorem sl_to (t : List Nat) (k : Nat) : Txt.slice (S t) none (some (k : Int)) = S (t.take k) := by rw [slice_S, cut_to]
theorem sl_from1 (t : List Nat) : Txt.slice (S t) (some 1) none = S (t.drop 1) := sl_from t 1
theorem sl_from2 (t : List Nat) : Txt.slice (S t) (some 2) none = S (t.drop 2) := sl_from t 2
theorem sl_to1 (t : List Nat) : Txt.slice (S t) none (some 1) = S (t.take 1) := sl_to t 1
theorem sl_to2 (t : List Nat) : Txt.slice (S t) none (some 2) = S (t.take 2) := sl_to t 2
theorem wr_lt {c : Nat} (h : wrB c = true) : c < 16 ^ 8 := by unfold wrB at h; simp at h; omega
theorem sgn_lt {c : Nat} (h : sgn c = true) : c < 16 ^ 8 := by
  unfold sgn at h
  simp only [Bool.or_eq_true, beq_iff_eq] at h
  rcases h with (h | h) | h
  · exact wr_lt h
  · omega
  · omega
theorem deed_not {k : Nat} (h : k ∉ [64, 94, 61]) : deedOf k = none := by
  have h' : k ≠ 64 ∧ k ≠ 94 ∧ k ≠ 61 := by simpa using h
  unfold deedOf; rw [if_neg h'.1, if_neg h'.2.1, if_neg h'.2.2]
theorem many_not {k : Nat} (h : k ∉ [46, 63, 43, 42, 62, 45]) : manyOf k = none := by
  have h' : k ≠ 46 ∧ k ≠ 63 ∧ k ≠ 43 ∧ k ≠ 42 ∧ k ≠ 62 ∧ k ≠ 45 := by simpa using h
  unfold manyOf; rw [if_neg h'.1, if_neg h'.2.1, if_neg h'.2.2.1, if_neg h'.2.2.2.1, if_neg h'.2.2.2.2.1, if_neg h'.2.2.2.2.2]
theorem meant_not {k : Nat} (h : k ∉ [98, 110, 116, 97, 65, 48]) : meant k = none := by
  have h' : k ≠ 98 ∧ k ≠ 110 ∧ k ≠ 116 ∧ k ≠ 97 ∧ k ≠ 65 ∧ k ≠ 48 := by simpa using h
  unfold meant; rw [if_neg h'.1, if_neg h'.2.1, if_neg h'.2.2.1, if_neg h'.2.2.2.1, if_neg h'.2.2.2.2.1, if_neg h'.2.2.2.2.2]
theorem not3 (c : Int) : ∃ k m, atI (Str.ofString "?+*").cps.toList (c % 3) = some k ∧ manyOf k = some m ∧ rowB m = false ∧ k ≠ 32 ∧ k < 16 ^ 8 := by
  have h : c % 3 = 0 ∨ c % 3 = 1 ∨ c % 3 = 2 := by omega
  rcases h with e | e | e <;> rw [e]
  · exact ⟨63, 1, by decide +kernel, by decide, by decide, by decide, by decide⟩
  · exact ⟨43, 2, by decide +kernel, by decide, by decide, by decide, by decide⟩
  · exact ⟨42, 3, by decide +kernel, by decide, by decide, by decide, by decide⟩
theorem foldl_app : ∀ (n : Nat) (a b : Array Nat), ((List.replicate n a).foldl (· ++ ·) b).toList = b.toList ++ (List.replicate n a.toList).flatten
  | 0, a, b => by simp
  | n + 1, a, b => by
    rw [List.replicate_succ, List.foldl_cons, foldl_app n a (b ++ a), List.replicate_succ, List.flatten_cons]
    simp
theorem mul_S (l : List Nat) (n : Nat) : Txt.mul (S l) ((n : Nat) : Int) = S (List.replicate n l).flatten := by
  unfold Txt.mul
  cases n with
  | zero =>
    rw [if_pos (by decide)]
    rfl
  | succ n =>
    rw [if_neg (by omega)]
    split
    · rename_i h
      rw [Bool.or_eq_true, beq_iff_eq, beq_iff_eq, S_len] at h
      rcases h with h | h
      · have : n = 0 := by omega
        subst this
        simp
      · have : l = [] := List.length_eq_zero_iff.mp h
        subst this
        simp
    · refine Str.ext' ?_
      have := foldl_app (n + 1) (S l).cps #[]
      have e : (((n + 1 : Nat) : Int)).toNat = n + 1 := by omega
      rw [e]
      refine Array.toList_inj.mp ?_
      rw [this]
      simp
theorem mulOk_x {n : Nat} (hn : n ≤ 1000) : MulOk (S [120]) ((n : Nat) : Int) := by
  refine ⟨?_, fun h1 _ => ?_, fun _ _ => ?_⟩
  · rw [Bool.or_eq_false_iff, decide_eq_false_iff_not, decide_eq_false_iff_not]
    omega
  · rw [S_len]
    have : (100000 : Int) ≤ (2 ^ 63 - 1) / ((n : Nat) : Int) := by
      refine (Int.le_ediv_iff_mul_le (by omega)).mpr ?_
      omega
    show ¬ ((1 : Int) > _)
    omega
  · rw [S_len]
    have e : (((n : Nat) : Int)).toNat = n := by omega
    rw [e]
    have := big
    show decide (1 * n > sizeLine) = false
    rw [decide_eq_false_iff_not]
    omega
theorem mul_x (n : Nat) : Txt.mul (S [120]) ((n : Nat) : Int) = S (List.replicate n 120) := by
  rw [mul_S]
  refine congrArg S ?_
  induction n with
  | zero => rfl
  | succ n ih => rw [List.replicate_succ, List.flatten_cons, ih, List.replicate_succ]; rfl
structure Sw (x : List Nat) : Prop where
  bad : Bad x
  len : x.length ≤ 300
  lt : ∀ k ∈ x, k < 16 ^ 8
section
variable {P : Program} {w : World} {K : PySem.W.Frag} {mg : Str → Option Value} {base : Heap} {tD tM tR tN C : Addr} {t1 t2 t3 : Tok}
def spSpW : Sp := fun vs H Q _ => ∃ (wy c : Int) (p : Wd), vs = [.int wy, .str (S p.txt), .int c] ∧ 0 ≤ wy ∧ wy < 8 ∧ p.Ok ∧ ∀ x H', Sw x → Same H H' → Q (.str (S x)) H'
abbrev st__law_spoilt_word : Stmt := top 29
theorem sc__law_spoilt_word : FnScope ["_law_way", "_law_word", "_law_cell", "_law_at"] ["_law_way", "_law_word", "_law_cell"] (defScope st__law_spoilt_word) := ⟨rfl, rfl, rfl, by decide +kernel, rfl, by decide +kernel, by decide +kernel⟩
theorem def_spoiltW (R : Raw K mg "_law_spoilt_word" st__law_spoilt_word ["_law_way", "_law_word", "_law_cell"]) (T : Txt K w mg tD tM tR tN C t1 t2 t3) (D__law_sign : Def P w K mg base 1 "_law_sign" ["_law_cell", "_law_but"] spSign) :
    Def P w K mg base 2 "_law_spoilt_word" ["_law_way", "_law_word", "_law_cell"] spSpW := by
  refine R.defJ sc__law_spoilt_word (fun vs H Q E h => ?_) (fun f cdv A outer s H vs Q E hr h => ?_)
  · obtain ⟨wy, c, p, rfl, _⟩ := h
    rfl
  · obtain ⟨wy, c, p, rfl, hw0, hw8, ok, q⟩ := h
    have sc := sc__law_spoilt_word
    have hu := hr.units
    have hb := big
    have b1 : 1 ≤ p.b.length := by
      cases hbl : p.b with
      | nil =>
        have h0 : dec [] = some [] := by decide
        have h1 := ok.rd; rw [hbl, h0] at h1
        have h2 := ok.l1; rw [← Option.some.inj h1] at h2; simp at h2
      | cons x r => simp
    have b2 := ok.b2
    have tlen : p.txt.length = p.b.length + 2 := by unfold Wd.txt; simp
    have tlt : ∀ k ∈ p.txt, k < 16 ^ 8 := fun k hk => wr_lt (ok.signs k hk).1
    have hz : (S p.txt).length ≤ sizeLine := by rw [S_len]; omega
    refine ⟨_, (jss_cons (js_if (jt_cmp (o_eq hu (K := K)) (jn 0) j_int)
    (jss_one (js_ret (j_op (o_add (K := K)) (j_def D__law_sign (hr.mono (by decide)) rfl (ja_cons (jn 2) (ja_cons j_str ja_nil))) (j_slice (o_sl (K := K)) (jn 1) (jo_some j_int) jo_none))))
    jss_nil)
    (jss_cons (js_if (jt_cmp (o_eq hu (K := K)) (jn 0) j_int)
    (jss_one (js_ret (j_op (o_add (K := K)) (j_op (o_add (K := K)) (j_slice (o_sl (K := K)) (jn 1) jo_none (jo_some j_int)) (j_def D__law_sign (hr.mono (by decide)) rfl (ja_cons (jn 2) (ja_cons j_str ja_nil)))) (j_slice (o_sl (K := K)) (jn 1) (jo_some j_int) jo_none))))
    jss_nil)
    (jss_cons (js_if (jt_cmp (o_eq hu (K := K)) (jn 0) j_int)
    (jss_one (js_ret (j_op (o_add (K := K)) (j_op (o_add (K := K)) j_str (j_ix (o_ix hu (K := K) (w := w)) j_str (j_op o_mod (jn 2) j_int))) (j_slice (o_sl (K := K)) (jn 1) (jo_some j_int) jo_none))))
    jss_nil)
    (jss_cons (js_if (jt_cmp (o_eq hu (K := K)) (jn 0) j_int)
    (jss_one (js_ret (j_slice (o_sl (K := K)) (jn 1) jo_none (jo_some j_int))))
    jss_nil)
    (jss_cons (js_if (jt_cmp (o_eq hu (K := K)) (jn 0) j_int)
    (jss_one (js_ret (j_op (o_add (K := K)) (j_op (o_add (K := K)) (j_slice (o_sl (K := K)) (jn 1) jo_none (jo_some j_int)) (j_slice (o_sl (K := K)) j_str jo_none (jo_some (j_op (o_add (K := K)) j_int (j_op o_mul j_int (j_op o_mod (jn 2) j_int)))))) (j_op o_mul j_str (j_op (o_add (K := K)) j_int (j_op o_mod (j_op o_div (jn 2) j_int) j_int))))))
    jss_nil)
    (jss_cons (js_if (jt_cmp (o_eq hu (K := K)) (jn 0) j_int)
    (jss_one (js_ret (j_op (o_add (K := K)) (j_slice (o_sl (K := K)) (jn 1) jo_none (jo_some j_int)) (j_op o_mul j_str (j_op (o_add (K := K)) j_int (j_op o_mod (jn 2) j_int))))))
    jss_nil)
    (jss_cons (js_if (jt_cmp (o_eq hu (K := K)) (jn 0) j_int)
    (jss_cons (js_set (i := 3) sc.nd rfl (Or.inl rfl) (j_op (o_add (K := K)) j_int (j_op o_mod (jn 2) (j_op o_sub (j_callB (c_len (K := K)) rfl T.n_len PySem.boot_len (ja_cons (jn 1) ja_nil)) j_int))))
    (jss_one (js_ret (j_op (o_add (K := K)) (j_op (o_add (K := K)) (j_op (o_add (K := K)) (j_slice (o_sl (K := K)) (jn 1) jo_none (jo_some (jn 3))) j_str) (j_def D__law_sign (hr.mono (by decide)) rfl (ja_cons (j_op o_div (jn 2) j_int) (ja_cons j_str ja_nil)))) (j_slice (o_sl (K := K)) (jn 1) (jo_some (jn 3)) jo_none)))))
    jss_nil)
    (jss_one (js_ret (j_op (o_add (K := K)) (jn 1) j_str)))))))))), ?_⟩
    show if (false ^^ decide (wy = 0)) = true then _ else _
    refine ite2 (fun _ => ?_) (fun n0 => ?_)
    · refine ⟨c, [64, 94, 61], rfl, by decide, fun k hk hkn H2 s2 => ⟨hz, ?_⟩⟩
      rw [sl_from1]
      refine ⟨by rw [S_len, S_len, List.length_drop]; simp; omega, ?_⟩
      rw [S_app]
      refine q _ _ ⟨bad0 ok (deed_not hkn), by simp; omega, fun j hj => ?_⟩ s2
      rcases List.mem_cons.mp hj with e | e
      · rw [e]; exact sgn_lt hk
      · exact tlt j (List.mem_of_mem_drop e)
    show if (false ^^ decide (wy = 1)) = true then _ else _
    refine ite2 (fun _ => ?_) (fun n1 => ?_)
    · refine ⟨hz, ?_⟩
      rw [sl_to1]
      refine ⟨c, [46, 63, 43, 42, 62, 45], rfl, by decide, fun k hk hkn H2 s2 => ⟨by rw [S_len, S_len, List.length_take]; simp; omega, hz, ?_⟩⟩
      rw [S_app, sl_from2]
      refine ⟨by rw [S_len, S_len, List.length_drop]; simp; omega, ?_⟩
      rw [S_app, List.append_assoc]
      refine q _ _ ⟨bad1 ok (many_not hkn), by simp; omega, fun j hj => ?_⟩ s2
      rcases List.mem_append.mp hj with e | e
      · exact tlt j (List.mem_of_mem_take e)
      · rcases List.mem_cons.mp e with e | e
        · rw [e]; exact sgn_lt hk
        · exact tlt j (List.mem_of_mem_drop e)
    show if (false ^^ decide (wy = 2)) = true then _ else _
    refine ite2 (fun _ => ?_) (fun n2 => ?_)
    · obtain ⟨k, m, hat, hm, hr0, h32, hk8⟩ := not3 c
      refine ⟨by decide, by decide +kernel, k, hat, (show 2 ≤ sizeLine by decide), hz, ?_⟩
      have e0 : Str.ofString "=" ++ (⟨#[k]⟩ : Str) = S [61, k] := S_app [61] [k]
      rw [sl_from2, e0]
      refine ⟨by rw [S_len, S_len, List.length_drop]; simp; omega, ?_⟩
      rw [S_app]
      refine q _ _ ⟨bad2 ok hm hr0 h32, by simp; omega, fun j hj => ?_⟩ (Same.refl H)
      rcases List.mem_cons.mp hj with e | e
      · rw [e]; decide
      · rcases List.mem_cons.mp e with e | e
        · rw [e]; exact hk8
        · exact tlt j (List.mem_of_mem_drop e)
    show if (false ^^ decide (wy = 3)) = true then _ else _
    refine ite2 (fun _ => ?_) (fun n3 => ?_)
    · refine ⟨hz, ?_⟩
      rw [sl_to2]
      exact q _ _ ⟨bad3 p, by simp; omega, fun j hj => tlt j (List.mem_of_mem_take hj)⟩ (Same.refl H)
    show if (false ^^ decide (wy = 4)) = true then _ else _
    refine ite2 (fun _ => ?_) (fun n4 => ?_)
    · have hn : ∃ n : Nat, (29 : Int) + c / 2 % 99 = ((n : Nat) : Int) ∧ 29 ≤ n ∧ n ≤ 127 := ⟨(29 + c / 2 % 99).toNat, by omega, by omega, by omega⟩
      obtain ⟨n, en, n29, n127⟩ := hn
      have ht : ∃ t g : List Nat, Txt.slice (Str.ofString "~a~A~0~0~A") none (some (8 + 2 * (c % 2))) = S t ∧ dec t = some g ∧ 72 ≤ g.length ∧ t.length ≤ 10 ∧ (∀ k ∈ t, k < 16 ^ 8) ∧ 32 ∉ t := by
        have h2 : c % 2 = 0 ∨ c % 2 = 1 := by omega
        rcases h2 with e | e <;> rw [e]
        · exact ⟨[126, 97, 126, 65, 126, 48, 126, 48], small ++ great ++ figs ++ figs, by decide +kernel, by decide +kernel, by decide, by decide, by decide, by decide⟩
        · exact ⟨[126, 97, 126, 65, 126, 48, 126, 48, 126, 65], small ++ great ++ figs ++ figs ++ great, by decide +kernel, by decide +kernel, by decide, by decide, by decide, by decide⟩
      obtain ⟨t, g, et, hd, hg, tl, tk, t32⟩ := ht
      refine ⟨hz, ?_⟩
      rw [sl_to2]
      refine ⟨by decide, .inl ⟨by decide, by decide⟩, by decide +kernel, ?_⟩
      rw [et]
      refine ⟨by rw [S_len, S_len, List.length_take]; omega, ?_⟩
      rw [S_app]
      refine ⟨⟨by decide, by decide⟩, by decide, ?_⟩
      show MulOk (S [120]) (29 + c / 2 % 99) ∧ _
      refine ⟨by rw [en]; exact mulOk_x (by omega), ?_⟩
      have em : Txt.mul (Str.ofString "x") (29 + c / 2 % 99) = S (List.replicate n 120) := by rw [en]; exact mul_x n
      rw [em]
      refine ⟨by rw [S_len, S_len]; simp; omega, ?_⟩
      rw [S_app, List.append_assoc]
      refine q _ _ ⟨bad4 p t32 hd (by omega), by simp; omega, fun j hj => ?_⟩ (Same.refl H)
      rcases List.mem_append.mp hj with e | e
      · exact tlt j (List.mem_of_mem_take e)
      · rcases List.mem_append.mp e with e | e
        · exact tk j e
        · rw [(List.mem_replicate.mp e).2]; decide
    show if (false ^^ decide (wy = 5)) = true then _ else _
    refine ite2 (fun _ => ?_) (fun n5 => ?_)
    · have hn : ∃ n : Nat, (101 : Int) + c % 99 = ((n : Nat) : Int) ∧ 101 ≤ n ∧ n ≤ 199 := ⟨(101 + c % 99).toNat, by omega, by omega, by omega⟩
      obtain ⟨n, en, n1, n2⟩ := hn
      refine ⟨hz, ?_⟩
      rw [sl_to2]
      refine ⟨by decide, ?_⟩
      show MulOk (S [120]) (101 + c % 99) ∧ _
      refine ⟨by rw [en]; exact mulOk_x (by omega), ?_⟩
      have em : Txt.mul (Str.ofString "x") (101 + c % 99) = S (List.replicate n 120) := by rw [en]; exact mul_x n
      rw [em]
      refine ⟨by rw [S_len, S_len]; simp; omega, ?_⟩
      rw [S_app]
      have h0 : dec [] = some [] := by decide
      have hb4 := bad4 p (t := []) (g := []) (k := n) (by simp) h0 (by simp; omega)
      rw [List.nil_append] at hb4
      refine q _ _ ⟨hb4, by simp; omega, fun j hj => ?_⟩ (Same.refl H)
      rcases List.mem_append.mp hj with e | e
      · exact tlt j (List.mem_of_mem_take e)
      · rw [(List.mem_replicate.mp e).2]; decide
    show if (false ^^ decide (wy = 6)) = true then _ else _
    refine ite2 (fun _ => ?_) (fun n6 => ?_)
    · refine ⟨hz, ?_⟩
      rw [S_len]
      have hpos : (0 : Int) < (p.txt.length : Nat) - 1 := by omega
      have hr1 := Int.emod_nonneg c (Int.ne_of_gt hpos)
      obtain ⟨j, ej⟩ : ∃ j : Nat, (2 : Int) + c % ((p.txt.length : Nat) - 1) = ((2 + j : Nat) : Int) := ⟨(c % ((p.txt.length : Nat) - 1)).toNat, by omega⟩
      refine ⟨hpos, hz, ?_⟩
      rw [ej, sl_to]
      have e0 : S (p.txt.take (2 + j)) ++ Str.ofString "~" = S (p.txt.take (2 + j) ++ [126]) := S_app _ [126]
      refine ⟨by rw [S_len, List.length_take]; show _ + 1 ≤ _; omega, ?_⟩
      rw [e0]
      refine ⟨⟨by decide, by decide⟩, c / 40, [98, 110, 116, 97, 65, 48], rfl, by decide, fun k hk hkn H2 s2 => ⟨by rw [S_len, S_len]; simp; omega, hz, ?_⟩⟩
      rw [S_app, sl_from]
      refine ⟨by rw [S_len, S_len]; simp; omega, ?_⟩
      rw [S_app]
      have ea : p.txt.take (2 + j) ++ [126] ++ [k] ++ p.txt.drop (2 + j) = p.txt.take (2 + j) ++ 126 :: k :: p.txt.drop (2 + j) := by simp
      rw [ea]
      refine q _ _ ⟨bad6 ok (meant_not hkn), by simp; omega, fun i hi => ?_⟩ s2
      rcases List.mem_append.mp hi with e | e
      · exact tlt i (List.mem_of_mem_take e)
      · rcases List.mem_cons.mp e with e | e
        · rw [e]; decide
        · rcases List.mem_cons.mp e with e | e
          · rw [e]; exact sgn_lt hk
          · exact tlt i (List.mem_of_mem_drop e)
    refine ⟨by rw [S_len]; show _ + 1 ≤ _; omega, ?_⟩
    have e0 : S p.txt ++ Str.ofString "~" = S (p.txt ++ [126]) := S_app p.txt [126]
    rw [e0]
    refine q _ _ ⟨bad7 ok, by simp; omega, fun j hj => ?_⟩ (Same.refl H)
    rcases List.mem_append.mp hj with e | e
    · exact tlt j e
    · rw [List.mem_singleton.mp e]; decide
end
end K7

set_option Elab.async false
set_option linter.all false
set_option maxRecDepth 100000
set_option maxHeartbeats 4000000
namespace K7
open PySem PySem.Spec PyProof.Rows L2 Rg
--@RAISES but law
theorem joinW_len : ∀ {ps : List (List Nat)} {B : Nat}, (∀ p ∈ ps, p.length ≤ B) → (joinWith [32] ps).length ≤ ps.length * (B + 1)
  | [], _, _ => by simp [joinWith]
  | [p], B, h => by
    have := h p List.mem_cons_self
    show p.length ≤ _
    simp; omega
  | p :: q :: r, B, h => by
    have h1 := h p List.mem_cons_self
    have h2 := joinW_len (ps := q :: r) fun x hx => h x (List.mem_cons_of_mem _ hx)
    show (p ++ [32] ++ joinWith [32] (q :: r)).length ≤ _
    have e : (p :: q :: r).length * (B + 1) = (q :: r).length * (B + 1) + (B + 1) := by rw [List.length_cons (a := p), Nat.add_mul, Nat.one_mul]
    rw [e, List.length_append, List.length_append]
    generalize (q :: r).length * (B + 1) = z at h2 ⊢
    show p.length + 1 + _ ≤ _
    omega
theorem joinW_lt : ∀ {ps : List (List Nat)}, (∀ p ∈ ps, ∀ k ∈ p, k < 16 ^ 8) → ∀ k ∈ joinWith [32] ps, k < 16 ^ 8
  | [], _, k, hk => by cases hk
  | [p], h, k, hk => h p List.mem_cons_self k hk
  | p :: q :: r, h, k, hk => by
    have hk' : k ∈ p ++ [32] ++ joinWith [32] (q :: r) := hk
    rcases List.mem_append.mp hk' with z | z
    · rcases List.mem_append.mp z with y | y
      · exact h p List.mem_cons_self k y
      · rw [List.mem_singleton.mp y]; decide
    · exact joinW_lt (fun x hx => h x (List.mem_cons_of_mem _ hx)) k z
theorem Wd.Ok.len {p : Wd} (h : p.Ok) : p.txt.length ≤ 21 := by have := h.b2; unfold Wd.txt; simp; omega
theorem Wd.Ok.lt {p : Wd} (h : p.Ok) : ∀ k ∈ p.txt, k < 16 ^ 8 := fun k hk => wr_lt (h.signs k hk).1
abbrev tx (ws : List Wd) : List (List Nat) := ws.map Wd.txt
theorem tx_len {ws : List Wd} (h : ∀ p ∈ ws, p.Ok) : ∀ x ∈ tx ws, x.length ≤ 21 := fun x hx => by
  obtain ⟨p, hp, rfl⟩ := List.mem_map.mp hx
  exact (h p hp).len
theorem tx_lt {ws : List Wd} (h : ∀ p ∈ ws, p.Ok) : ∀ x ∈ tx ws, ∀ k ∈ x, k < 16 ^ 8 := fun x hx => by
  obtain ⟨p, hp, rfl⟩ := List.mem_map.mp hx
  exact (h p hp).lt
theorem tl_join {ps : List (List Nat)} {B : Nat} (h1 : ∀ p ∈ ps, p.length ≤ B) (h2 : ps.length * (B + 1) ≤ 2000) (h3 : ∀ p ∈ ps, ∀ k ∈ p, k < 16 ^ 8) : Tl (joinWith [32] ps) := ⟨Nat.le_trans (joinW_len h1) h2, joinW_lt h3⟩
theorem join_tx (ps : List (List Nat)) : Txt.join (Str.ofString " ") (ps.map S) = S (joinWith [32] ps) := txtJoin_S [32] ps
theorem joinOk_tx {ps : List (List Nat)} {B : Nat} (h : ∀ p ∈ ps, p.length ≤ B) (hn : ps.length * B + ps.length * 1 ≤ 16777216) : JoinOk (Str.ofString " ") (ps.map S) = true := by
  refine joinOk_of (B := B) (fun y hy => ?_) (by rw [List.length_map]; exact hn)
  obtain ⟨p, hp, rfl⟩ := List.mem_map.mp hy
  rw [S_len]; exact h p hp
theorem cutV_to (xs : List V) (k : Nat) : cutV xs none (some (k : Int)) = xs.take k := by
  unfold cutV
  rw [HT.sIx_none, HT.sIx_nat]
  simp
theorem cutV_from (xs : List V) (k : Nat) : cutV xs (some (k : Int)) none = xs.drop k := by
  unfold cutV
  rw [HT.sIx_none, HT.sIx_nat]
  rcases Nat.le_total k xs.length with h | h
  · rw [Nat.min_eq_left h]; exact List.take_of_length_le (by simp)
  · rw [Nat.min_eq_right h, List.drop_length, List.drop_eq_nil_of_le h]; simp
def vx (ps : List (List Nat)) : List V := ps.map fun t => V.str (S t)
theorem vx_join {K : PySem.W.Frag} {H : Hp} {a : Addr} {ps : List (List Nat)} (h : H a = some (.lst (vx ps))) : SqL K H a ((ps.map S).map V.str) := SqL.of (by rw [h, List.map_map]; rfl)
theorem vx_len (ps : List (List Nat)) : (vx ps).length = ps.length := List.length_map _
theorem rep_vx (n : Nat) : (List.replicate ((n : Int)).toNat [V.str (Str.ofString "@.x")]).flatten = vx (List.replicate n [64, 46, 120]) := by
  rw [Int.toNat_natCast]
  unfold vx
  induction n with
  | zero => rfl
  | succ n ih => rw [List.replicate_succ, List.flatten_cons, ih, List.replicate_succ, List.map_cons]; rfl
section
variable {P : Program} {w : World} {K : PySem.W.Frag} {mg : Str → Option Value} {base : Heap} {tD tM tR tN C : Addr} {t1 t2 t3 : Tok}
def spSpT : Sp := fun vs H Q _ => ∃ (wy c : Int) (W : Addr) (ws : List Wd), vs = [.int wy, .ref W, .int c] ∧ H W = some (.lst (vx (tx ws))) ∧ ws ≠ [] ∧ (∀ p ∈ ws, p.Ok) ∧ ws.length ≤ 12 ∧ ∀ x H', formF x = none → Tl x → Same H H' → Q (.str (S x)) H'
abbrev st__law_spoilt_text : Stmt := top 30
theorem sc__law_spoilt_text : FnScope ["_law_way", "_law_words_here", "_law_cell", "_law_text", "_law_at"] ["_law_way", "_law_words_here", "_law_cell"] (defScope st__law_spoilt_text) := ⟨rfl, rfl, rfl, by decide +kernel, rfl, by decide +kernel, by decide +kernel⟩
theorem def_spoiltT (R : Raw K mg "_law_spoilt_text" st__law_spoilt_text ["_law_way", "_law_words_here", "_law_cell"]) (T : Txt K w mg tD tM tR tN C t1 t2 t3) : Def P w K mg base 1 "_law_spoilt_text" ["_law_way", "_law_words_here", "_law_cell"] spSpT := by
  refine R.defJ sc__law_spoilt_text (fun vs H Q E h => ?_) (fun f cdv A outer s H vs Q E hr h => ?_)
  · obtain ⟨wy, c, W, ws, rfl, _⟩ := h
    rfl
  · obtain ⟨wy, c, W, ws, rfl, hW, h0, ok, h12, q⟩ := h
    have sc := sc__law_spoilt_text
    have hu := hr.units
    have hb := big
    have tl := tx_len ok
    have tt := tx_lt ok
    have tn : (tx ws).length = ws.length := List.length_map _
    refine ⟨_, (jss_cons (js_set (i := 3) sc.nd rfl (Or.inl rfl) (j_bm (K := K) PySem.F.plainAttrs_str PySem.F.slot_str_join PySem.F.type_str_join (m_join (K := K)) j_str (ja_cons (jn 1) ja_nil)))
    (jss_cons (js_if (jt_cmp (o_eq hu (K := K)) (jn 0) j_int)
    (jss_one (js_ret j_str))
    jss_nil)
    (jss_cons (js_if (jt_cmp (o_eq hu (K := K)) (jn 0) j_int)
    (jss_cons (js_set (i := 4) sc.nd rfl (Or.inl rfl) (j_op o_mod (jn 2) (j_op (o_add (K := K)) (j_callB (c_len (K := K)) rfl T.n_len PySem.boot_len (ja_cons (jn 1) ja_nil)) j_int)))
    (jss_one (js_ret (j_bm (K := K) PySem.F.plainAttrs_str PySem.F.slot_str_join PySem.F.type_str_join (m_join (K := K)) j_str (ja_cons (j_op (o_add (K := K)) (j_op (o_add (K := K)) (j_slice (o_sl (K := K)) (jn 1) jo_none (jo_some (jn 4))) (j_lst (ja_cons j_str ja_nil))) (j_slice (o_sl (K := K)) (jn 1) (jo_some (jn 4)) jo_none)) ja_nil)))))
    jss_nil)
    (jss_cons (js_if (jt_cmp (o_eq hu (K := K)) (jn 0) j_int)
    (jss_one (js_ret (j_bm (K := K) PySem.F.plainAttrs_str PySem.F.slot_str_join PySem.F.type_str_join (m_join (K := K)) j_str (ja_cons (j_op (o_add (K := K)) (jn 1) (j_op o_mul (j_lst (ja_cons j_str ja_nil)) (j_op (o_add (K := K)) (j_op o_sub j_int (j_callB (c_len (K := K)) rfl T.n_len PySem.boot_len (ja_cons (jn 1) ja_nil))) (j_op o_mod (jn 2) j_int)))) ja_nil))))
    jss_nil)
    (jss_cons (js_set (i := 4) sc.nd rfl (Or.inl rfl) (j_op o_mod (jn 2) (j_op (o_add (K := K)) (j_callB (c_len (K := K)) rfl T.n_len PySem.boot_len (ja_cons (jn 3) ja_nil)) j_int)))
    (jss_one (js_ret (j_op (o_add (K := K)) (j_op (o_add (K := K)) (j_slice (o_sl (K := K)) (jn 3) jo_none (jo_some (jn 4))) (j_ix (o_ix hu (K := K) (w := w)) (j_lst (ja_cons j_str (ja_cons j_str ja_nil))) (j_op o_mod (j_op o_div (jn 2) j_int) j_int))) (j_slice (o_sl (K := K)) (jn 3) (jo_some (jn 4)) jo_none))))))))), ?_⟩
    refine ⟨rfl, (tx ws).map S, vx_join hW, joinOk_tx tl (by omega), ?_⟩
    rw [join_tx]
    show if (false ^^ decide (wy = 8)) = true then _ else _
    refine ite2 (fun _ => ?_) (fun n8 => ?_)
    · exact q [] H bad8 ⟨by simp, by simp⟩ (Same.refl H)
    show if (false ^^ decide (wy = 9)) = true then _ else _
    refine ite2 (fun _ => ?_) (fun n9 => ?_)
    · refine ⟨_, .inl (SqL.of hW), ?_⟩
      rw [vx_len, tn]
      have hpos : (0 : Int) < (ws.length : Nat) + 1 := by omega
      have hr1 := Int.emod_nonneg c (Int.ne_of_gt hpos)
      obtain ⟨j, ej⟩ : ∃ j : Nat, c % ((ws.length : Nat) + 1) = (j : Int) := ⟨(c % ((ws.length : Nat) + 1)).toNat, by omega⟩
      refine ⟨hpos, rfl, _, SqL.of hW, fun p1 hp1 => ⟨(show 1 ≤ sizeLine by decide), fun p2 hp2 => ?_⟩⟩
      rw [ej, cutV_to] at hp2 ⊢
      have e1 : upd (upd H p1 (.lst ((vx (tx ws)).take j))) p2 (.lst [.str ""]) p1 = some (.lst ((vx (tx ws)).take j)) := same_new hp2 _ _ upd_same
      have s2 : Same H (upd (upd H p1 (.lst ((vx (tx ws)).take j))) p2 (.lst [.str ""])) := (same_new hp1).trans (same_new hp2)
      refine .inl ⟨_, _, e1, upd_same, by rw [List.length_take, vx_len]; show _ + 1 ≤ _; omega, fun p3 hp3 => ?_⟩
      generalize upd (upd H p1 (.lst ((vx (tx ws)).take j))) p2 (.lst [.str ""]) = H2 at e1 s2 hp3 ⊢
      have s3 : Same H (upd H2 p3 (.lst ((vx (tx ws)).take j ++ [.str ""]))) := s2.trans (same_new hp3)
      have e3 : upd H2 p3 (.lst ((vx (tx ws)).take j ++ [.str ""])) p3 = some (.lst ((vx (tx ws)).take j ++ [.str ""])) := upd_same
      generalize upd H2 p3 (.lst ((vx (tx ws)).take j ++ [.str ""])) = H3 at s3 e3 ⊢
      refine ⟨_, SqL.of (s3 _ _ hW), fun p4 hp4 => ?_⟩
      rw [cutV_from]
      refine .inl ⟨_, _, same_new hp4 _ _ e3, upd_same, by rw [List.length_append, List.length_take, List.length_drop, vx_len]; show _ + 1 + _ ≤ _; omega, fun p5 hp5 => ?_⟩
      have e5 : (vx (tx ws)).take j ++ [.str ""] ++ (vx (tx ws)).drop j = vx ((tx ws).take j ++ [[]] ++ (tx ws).drop j) := by
        unfold vx; rw [List.map_append, List.map_append, List.map_take, List.map_drop]; rfl
      rw [e5]
      have l5 : ((tx ws).take j ++ [[]] ++ (tx ws).drop j).length ≤ 14 := by simp; omega
      have m5 : ∀ x ∈ (tx ws).take j ++ [[]] ++ (tx ws).drop j, x ∈ tx ws ∨ x = [] := fun x hx => by
        rcases List.mem_append.mp hx with z | z
        · rcases List.mem_append.mp z with y | y
          · exact .inl (List.mem_of_mem_take y)
          · exact .inr (List.mem_singleton.mp y)
        · exact .inl (List.mem_of_mem_drop z)
      have b5 : ∀ x ∈ (tx ws).take j ++ [[]] ++ (tx ws).drop j, x.length ≤ 21 := fun x hx => by
        rcases m5 x hx with z | z
        · exact tl x z
        · rw [z]; simp
      have k5 : ∀ x ∈ (tx ws).take j ++ [[]] ++ (tx ws).drop j, ∀ k ∈ x, k < 16 ^ 8 := fun x hx => by
        rcases m5 x hx with z | z
        · exact tt x z
        · rw [z]; simp
      have s5 := (s3.trans (same_new (o := .lst ((vx (tx ws)).drop j)) hp4)).trans (same_new (o := .lst (vx ((tx ws).take j ++ [[]] ++ (tx ws).drop j))) hp5)
      refine ⟨_, vx_join upd_same, joinOk_tx b5 (by omega), ?_⟩
      rw [join_tx]
      exact q _ _ (bad9 _ _) (tl_join b5 (by omega) k5) s5
    show if (false ^^ decide (wy = 10)) = true then _ else _
    refine ite2 (fun _ => ?_) (fun n10 => ?_)
    · refine ⟨rfl, (show 1 ≤ sizeLine by decide), fun p1 hp1 => ⟨_, .inl (SqL.of (same_new hp1 _ _ hW)), by decide, ?_⟩⟩
      rw [vx_len, tn]
      obtain ⟨n, en, n1, n2⟩ : ∃ n : Nat, (13 : Int) - (ws.length : Nat) + c % 9 = (n : Int) ∧ 13 ≤ ws.length + n ∧ n ≤ 21 := ⟨((13 : Int) - (ws.length : Nat) + c % 9).toNat, by omega, by omega, by omega⟩
      dsimp only [gAdd]
      rw [en]
      refine ⟨_, upd_same, by omega, by omega, by show 1 * n ≤ sizeLine; omega, fun p2 hp2 => ?_⟩
      have s2 := (same_new (o := .lst [.str "@.x"]) hp1).trans (same_new (o := .lst (List.replicate ((n : Int)).toNat [V.str (Str.ofString "@.x")]).flatten) hp2)
      refine .inl ⟨_, _, s2 _ _ hW, upd_same, by rw [rep_vx, vx_len, vx_len, List.length_replicate]; omega, fun p3 hp3 => ?_⟩
      have e5 : vx (tx ws) ++ (List.replicate ((n : Int)).toNat [V.str (Str.ofString "@.x")]).flatten = vx (tx ws ++ List.replicate n [64, 46, 120]) := by rw [rep_vx]; unfold vx; rw [List.map_append]
      rw [e5]
      have b5 : ∀ x ∈ tx ws ++ List.replicate n [64, 46, 120], x.length ≤ 21 := fun x hx => by
        rcases List.mem_append.mp hx with z | z
        · exact tl x z
        · rw [(List.mem_replicate.mp z).2]; simp
      have k5 : ∀ x ∈ tx ws ++ List.replicate n [64, 46, 120], ∀ k ∈ x, k < 16 ^ 8 := fun x hx => by
        rcases List.mem_append.mp hx with z | z
        · exact tt x z
        · rw [(List.mem_replicate.mp z).2]; decide
      have l5 : (tx ws ++ List.replicate n [64, 46, 120]).length = ws.length + n := by simp
      refine ⟨_, vx_join upd_same, joinOk_tx b5 (by omega), ?_⟩
      rw [join_tx]
      refine q _ _ (bad10 (fun x hx => ?_) (by omega)) (tl_join b5 (by omega) k5) (s2.trans (same_new hp3))
      rcases List.mem_append.mp hx with z | z
      · obtain ⟨p, hp, rfl⟩ := List.mem_map.mp z
        exact fun m => ((ok p hp).signs 32 m).2 rfl
      · rw [(List.mem_replicate.mp z).2]; decide
    have tlj : Tl (joinWith [32] (tx ws)) := tl_join tl (by omega) tt
    have jl := tlj.len
    have hz : (S (joinWith [32] (tx ws))).length ≤ sizeLine := by rw [S_len]; omega
    refine ⟨hz, ?_⟩
    rw [S_len]
    have hpos : (0 : Int) < ((joinWith [32] (tx ws)).length : Nat) + 1 := by omega
    have hr1 := Int.emod_nonneg c (Int.ne_of_gt hpos)
    have jb : (joinWith [32] (tx ws)).length ≤ 264 := by have := joinW_len tl; omega
    obtain ⟨j, ej⟩ : ∃ j : Nat, c % (((joinWith [32] (tx ws)).length : Nat) + 1) = (j : Int) := ⟨(c % (((joinWith [32] (tx ws)).length : Nat) + 1)).toNat, by omega⟩
    refine ⟨hpos, hz, ?_⟩
    rw [ej, sl_to]
    obtain ⟨k, hk, hw, k8⟩ : ∃ k, atI [V.str "\n", V.str "\t"] (c / 600 % 2) = some (.str (S [k])) ∧ wrB k = false ∧ k < 16 ^ 8 := by
      have h2 : c / 600 % 2 = 0 ∨ c / 600 % 2 = 1 := by omega
      rcases h2 with e | e <;> rw [e]
      · exact ⟨10, rfl, by decide, by decide⟩
      · exact ⟨9, rfl, by decide, by decide⟩
    refine ⟨(show 2 ≤ sizeLine by decide), fun p hp => ⟨⟨by decide, by decide⟩, by decide, .inl ⟨_, _, SqL.of upd_same, hk, by rw [S_len, S_len, List.length_take]; simp; omega, hz, ?_⟩⟩⟩
    rw [S_app, sl_from]
    refine ⟨by rw [S_len, S_len]; simp; omega, ?_⟩
    rw [S_app, List.append_assoc]
    refine q _ _ (bad11 hw) ⟨by simp; omega, fun i hi => ?_⟩ (same_new hp)
    rcases List.mem_append.mp hi with e | e
    · exact tlj.sgn i (List.mem_of_mem_take e)
    · rcases List.mem_cons.mp e with e | e
      · rw [e]; exact k8
      · exact tlj.sgn i (List.mem_of_mem_drop e)
end
end K7

set_option Elab.async false
set_option linter.all false
set_option maxRecDepth 100000
set_option maxHeartbeats 4000000
namespace K7
open PySem PySem.Spec PyProof.Rows L2 Rg
--@RAISES but law
theorem DefX.toDef {P : Program} {w : World} {K : PySem.W.Frag} {mg : Str → Option Value} {base : Heap} {k : Nat} {x : Str} {ps : List Str} {sp : Sp} (D : DefX P w K mg base k x ps sp) : Def P w K mg base k x ps (fun vs H Q _ => sp vs H Q E0) := by
  obtain ⟨f, fd, h1, h2, h3, h4, F⟩ := D.ex
  refine ⟨f, fd, h1, h2, h3, h4, ⟨fun vs H Q E h => F.len vs H Q E0 h, fun A outer s H args us vs Q E hr e0 hb hv h => ?_⟩⟩
  refine codeAny_mono (F.run A outer s H args us vs Q E0 hr e0 hb hv h) fun r s' hq => ?_
  cases r with
  | error e => obtain ⟨_, _, _, _, _, _, _, _, _, _, _, _, hE⟩ := hq; exact hE.elim
  | ok fl => cases fl <;> exact hq
theorem cut_ints (ns : List Int) (lo hi : Option Int) : ∃ ms : List Int, cutV (ns.map V.int) lo hi = ms.map V.int ∧ ms.length ≤ ns.length := by
  unfold cutV
  refine ⟨(ns.drop (HT.sIx (ns.map V.int).length 0 lo)).take (HT.sIx (ns.map V.int).length (ns.map V.int).length hi - HT.sIx (ns.map V.int).length 0 lo), ?_, ?_⟩
  · rw [List.map_take, List.map_drop]
  · rw [List.length_take, List.length_drop]; omega
theorem ints_dat {K : PySem.W.Frag} {H : Hp} : ∀ ms : List Int, DatVs K H (ms.map V.int) (ms.map PyData.int)
  | [] => .nil
  | m :: r => .cons (.int m) (ints_dat r)
theorem ints_lay : ∀ ms : List Int, PyData.canLayAll0 (ms.map PyData.int) = true
  | [] => by simp only [List.map_nil, PyData.canLayAll0]
  | m :: r => by rw [List.map_cons]; simp only [PyData.canLayAll0, PyData.canLay0, ints_lay r, Bool.and_self]
theorem ints_eqv (ms : List Int) : PyData.eqv (.list (ms.map PyData.int)) (.list []) = ms.isEmpty := by
  cases ms with
  | nil => rfl
  | cons p r => rfl
theorem meant_sgn {c : Nat} {m : List Nat} (h : meant c = some m) : ∀ k ∈ m, k < 128 := by
  unfold meant at h
  split at h
  · cases h; decide
  · split at h
    · cases h; decide
    · split at h
      · cases h; decide
      · split at h
        · cases h; decide
        · split at h
          · cases h; decide
          · split at h
            · cases h; decide
            · cases h
theorem dec_sgn : ∀ (n : Nat) (t l : List Nat), t.length ≤ n → dec t = some l → (∀ k ∈ t, k < 128) → ∀ k ∈ l, k < 128
  | _, [], l, _, h, _ => by
    have h0 : dec [] = some [] := by decide
    rw [h0] at h; cases h; simp
  | 0, _ :: _, _, hn, _, _ => by simp at hn
  | n + 1, c :: t, l, hn, h, hk => by
    by_cases hc : c = 126
    · subst hc
      cases t with
      | nil =>
        have h0 : dec [126] = none := by decide
        rw [h0] at h; cases h
      | cons x t =>
        cases hm : meant x with
        | none =>
          have := dec_bad [] (rest := x :: t) (.inr ⟨x, t, rfl, hm⟩)
          rw [show ([] : List Nat) ++ 126 :: x :: t = 126 :: x :: t from rfl, h] at this
          cases this
        | some m =>
          have hx : x ≠ 126 := fun z => by
            have h0 : meant 126 = none := by decide
            rw [z, h0] at hm; cases hm
          rw [dec_code hx hm] at h
          cases ht : dec t with
          | none => rw [ht] at h; cases h
          | some l' =>
            rw [ht] at h
            have e : m ++ l' = l := Option.some.inj h
            intro k hkl
            rw [← e] at hkl
            rcases List.mem_append.mp hkl with z | z
            · exact meant_sgn hm k z
            · exact dec_sgn n t l' (by simp at hn; omega) ht (fun j hj => hk j (by simp [hj])) k z
    · rw [dec_plain hc] at h
      cases ht : dec t with
      | none => rw [ht] at h; cases h
      | some l' =>
        rw [ht] at h
        have e : c :: l' = l := Option.some.inj h
        intro k hkl
        rw [← e] at hkl
        rcases List.mem_cons.mp hkl with z | z
        · rw [z]; exact hk c List.mem_cons_self
        · exact dec_sgn n t l' (by simp at hn; omega) ht (fun j hj => hk j (by simp [hj])) k z
theorem strOk_lt {l : List Nat} (h : ∀ k ∈ l, k < 128) : PyData.strOk (S l) = true := by
  unfold PyData.strOk
  simp
  intro c hc
  have := h c hc
  omega
theorem deedS_ok (d : Nat) : PyData.strOk (deedS d) = true := by unfold deedS; split <;> decide +kernel
theorem manyS_ok (d : Nat) : PyData.strOk (manyS d) = true := by unfold manyS; split <;> decide +kernel
theorem Wd.Ok.sgns {p : Wd} (h : p.Ok) : ∀ k ∈ p.l, k < 128 := dec_sgn _ p.b p.l (Nat.le_refl _) h.rd fun k hk => by
  have := (h.wt k hk).1
  unfold wrB at this
  simp at this
  omega
theorem prts_lay : ∀ {ws : List Wd}, (∀ p ∈ ws, p.Ok) → PyData.canLayAll0 ((ws.map Wd.prt).map Prt.dat) = true
  | [], _ => by simp only [List.map_nil, PyData.canLayAll0]
  | p :: r, h => by
    have h1 : (Prt.dat p.prt).canLay0 = true := by
      unfold Prt.dat
      simp only [PyData.canLay0, PyData.canLayAll0, deedS_ok, manyS_ok, strOk_lt (h p List.mem_cons_self).sgns, Wd.prt, Bool.and_self]
    rw [List.map_cons, List.map_cons]
    simp only [PyData.canLayAll0, h1, prts_lay fun q hq => h q (List.mem_cons_of_mem _ hq), Bool.and_self]
theorem prts_depth : ∀ ps : List Prt, PyData.depthAll (ps.map Prt.dat) ≤ 1
  | [] => by simp [PyData.depthAll]
  | p :: r => by
    have ih := prts_depth r
    rw [List.map_cons]
    have e : p.dat.depth = 1 := by unfold Prt.dat; simp only [PyData.depthAll, PyData.depth]; rfl
    simp only [PyData.depthAll, e]
    omega
end K7

set_option Elab.async false
set_option linter.all false
set_option maxRecDepth 100000
set_option maxHeartbeats 4000000
namespace K7
open PySem PySem.Spec PyProof.Rows L2 Rg
--@RAISES but law
theorem joinW_sum : ∀ ps : List (List Nat), (joinWith [32] ps).length ≤ (ps.map fun p => p.length + 1).sum
  | [] => by simp [joinWith]
  | [p] => by simp [joinWith]
  | p :: q :: r => by
    have ih := joinW_sum (q :: r)
    show (p ++ [32] ++ joinWith [32] (q :: r)).length ≤ ((p :: q :: r).map fun p => p.length + 1).sum
    rw [List.map_cons, List.sum_cons, List.length_append, List.length_append]
    show p.length + 1 + _ ≤ _
    omega
theorem sum_le : ∀ {ps : List (List Nat)} {B : Nat}, (∀ p ∈ ps, p.length ≤ B) → (ps.map fun p => p.length + 1).sum ≤ ps.length * (B + 1)
  | [], B, _ => by simp
  | p :: r, B, h => by
    have ih := sum_le (ps := r) fun q hq => h q (List.mem_cons_of_mem _ hq)
    have h1 := h p List.mem_cons_self
    rw [List.map_cons, List.sum_cons, List.length_cons, Nat.add_mul, Nat.one_mul]
    omega
section
variable {P : Program} {w : World} {K : PySem.W.Frag} {mg : Str → Option Value} {base : Heap} {tD tM tR tN C : Addr} {t1 t2 t3 : Tok}
def spLaw (K : PySem.W.Frag) : Sp := fun vs H Q _ => ∃ (a : Addr) (ns : List Int), vs = [.ref a] ∧ SqL K H a (ns.map V.int) ∧ ns.length ≤ 63 ∧ ∀ H', Q (.bl true) H'
abbrev st_law : Stmt := top 32
theorem sc_law : FnScope ["_law_script", "_law_cells", "_law_words_here", "_law_good", "_law_first", "_law_way", "_law_cell", "_law_at", "_law_bad"] ["_law_script"] (defScope st_law) := ⟨rfl, rfl, rfl, by decide +kernel, rfl, by decide +kernel, by decide +kernel⟩
theorem def_law (R : Raw K mg "law" st_law ["_law_script"]) (T : Txt K w mg tD tM tR tN C t1 t2 t3) (D__law_cell_at : Def P w K mg base 1 "_law_cell_at" ["_law_script", "_law_k"] (spCell K)) (D__law_words : Def P w K mg base 2 "_law_words" ["_law_cells"] (spWords K))
    (D__law_spoilt_word : Def P w K mg base 2 "_law_spoilt_word" ["_law_way", "_law_word", "_law_cell"] spSpW) (D__law_spoilt_text : Def P w K mg base 1 "_law_spoilt_text" ["_law_way", "_law_words_here", "_law_cell"] spSpT)
    (D__law_refused : Def P w K mg base 4 "_law_refused" ["_law_text"] spRef) (D_form_of : Def P w K mg base 3 "form_of" ["text"] (fun vs H Q _ => spFO K C vs H Q E0)) : Def P w K mg base 5 "law" ["_law_script"] (spLaw K) := by
  refine R.defJ sc_law (fun vs H Q E h => ?_) (fun f cdv A outer s H vs Q E hr h => ?_)
  · obtain ⟨a, ns, rfl, _⟩ := h
    rfl
  · obtain ⟨a, ns, rfl, hS, hn, q⟩ := h
    have sc := sc_law
    have hu := hr.units
    have hb := big
    obtain ⟨u2, hP2, hq2⟩ : ∃ u, JSs (cxOf CX0 P w K mg base ["_law_script", "_law_cells", "_law_words_here", "_law_good", "_law_first", "_law_way", "_law_cell", "_law_at", "_law_bad"] "law" (defScope st_law) f cdv A outer s H E).nox ((defBody st_law).drop 10) u ∧
        ∀ (v1 v2 v5 v6 v7 : Option V) (ws : List Wd) (a4 : Addr) (xs4 : List V) (x : List Nat) (H1 : Hp), ws ≠ [] → (∀ p ∈ ws, p.Ok) → ws.length ≤ 12 → H1 a4 = some (.lst xs4) → DatVs K H1 xs4 ((ws.map Wd.prt).map Prt.dat) → formF x = none → Tl x →
          u { nx := fun _ H' => Q .non H', rt := Q } [some (.ref a), v1, v2, some (.str (S (joinWith [32] (tx ws)))), some (.ref a4), v5, v6, v7, some (.str (S x))] H1 := by
      refine ⟨_, (jss_one (js_ret (j_and (j_def D__law_refused (hr.mono (by decide)) rfl (ja_cons (jn 8) ja_nil)) (j_and (j_cmp (o_eq hu (K := K)) (j_def D_form_of (hr.mono (by decide)) rfl (ja_cons (jn 3) ja_nil)) (jn 4)) (j_one (j_def D__law_refused (hr.mono (by decide)) rfl (ja_cons (jn 8) ja_nil))))))), fun v1 v2 v5 v6 v7 ws a4 xs4 x H1 h0 ok h12 e4 d4 hx tlx => ?_⟩
      have tn : (tx ws).length = ws.length := List.length_map _
      have tlj : Tl (joinWith [32] (tx ws)) := tl_join (tx_len ok) (by omega) (tx_lt ok)
      refine ⟨x, rfl, tlx, hx, fun H2 s2 => ?_⟩
      refine ⟨joinWith [32] (tx ws), rfl, tlj, fun ps hps a9 xs9 H3 n3 s3 e9 d9 => ?_, fun hn0 => ?_⟩
      · rw [good_form h0 ok h12] at hps
        cases hps
        have lay : (PyData.list ((ws.map Wd.prt).map Prt.dat)).canLay0 = true := by simp only [PyData.canLay0]; exact prts_lay ok
        have dep : min (PyData.list ((ws.map Wd.prt).map Prt.dat)).depth (PyData.list ((ws.map Wd.prt).map Prt.dat)).depth ≤ 60 := by
          have := prts_depth (ws.map Wd.prt)
          simp only [PyData.depth]
          omega
        refine ⟨_, _, .list (SqL.of e9) d9, .list (SqL.of ((s2.trans s3) _ _ e4)) (d4.same (s2.trans s3)), lay, lay, dep, ?_⟩
        rw [SeqAt.eqv_refl _ lay]
        exact ⟨x, rfl, tlx, hx, fun H4 s4 => q _⟩
      · rw [good_form h0 ok h12] at hn0; cases hn0
    obtain ⟨u, hP, hq⟩ : ∃ u, JSs (cxOf CX0 P w K mg base ["_law_script", "_law_cells", "_law_words_here", "_law_good", "_law_first", "_law_way", "_law_cell", "_law_at", "_law_bad"] "law" (defScope st_law) f cdv A outer s H E).nox ((defBody st_law).drop 2) u ∧
        ∀ (pc : Addr) (ks : List Int) (H1 : Hp), SqL K H1 a (ns.map V.int) → H1 pc = some (.lst (ks.map V.int)) → ks ≠ [] → u { nx := fun _ H' => Q .non H', rt := Q } [some (.ref a), some (.ref pc), none, none, none, none, none, none, none] H1 := by
      refine ⟨_, (jss_cons (js_set (i := 2) sc.nd rfl (Or.inl rfl) (j_def D__law_words (hr.mono (by decide)) rfl (ja_cons (jn 1) ja_nil)))
    (jss_cons (js_set (i := 3) sc.nd rfl (Or.inl rfl) (j_bm (K := K) PySem.F.plainAttrs_str PySem.F.slot_str_join PySem.F.type_str_join (m_join (K := K)) j_str (ja_cons (jn 2) ja_nil)))
    (jss_cons (js_set (i := 4) sc.nd rfl (Or.inl rfl) (j_def D_form_of (hr.mono (by decide)) rfl (ja_cons (jn 3) ja_nil)))
    (jss_cons (js_if (jw_t (jw_or (jt_not (jt_val (j_callB (c_isiD (K := K)) rfl T.n_isinstance boot_isinstance (ja_cons (jn 4) (ja_cons (j_bltn (v := .ty "list") rfl T.n_list boot_list rfl) ja_nil))))) (jw_or1 (jt_cmp (o_ne hu (K := K)) (j_callB (c_len (K := K)) rfl T.n_len PySem.boot_len (ja_cons (jn 4) ja_nil)) (j_callB (c_len (K := K)) rfl T.n_len PySem.boot_len (ja_cons (jn 2) ja_nil))))))
    (jss_one (js_ret j_bl))
    jss_nil)
    (jss_cons (js_set (i := 5) sc.nd rfl (Or.inl rfl) (j_op o_mod (j_def D__law_cell_at (hr.mono (by decide)) rfl (ja_cons (jn 0) (ja_cons j_int ja_nil))) j_int))
    (jss_cons (js_set (i := 6) sc.nd rfl (Or.inl rfl) (j_def D__law_cell_at (hr.mono (by decide)) rfl (ja_cons (jn 0) (ja_cons j_int ja_nil))))
    (jss_cons (js_set (i := 7) sc.nd rfl (Or.inl rfl) (j_op o_mod (j_def D__law_cell_at (hr.mono (by decide)) rfl (ja_cons (jn 0) (ja_cons j_int ja_nil))) (j_callB (c_len (K := K)) rfl T.n_len PySem.boot_len (ja_cons (jn 2) ja_nil))))
    (jss_cons (js_if (jt_cmp o_lt (jn 5) j_int)
    (jss_one (js_set (i := 8) sc.nd rfl (Or.inl rfl) (j_bm (K := K) PySem.F.plainAttrs_str PySem.F.slot_str_join PySem.F.type_str_join (m_join (K := K)) j_str (ja_cons (j_op (o_add (K := K)) (j_op (o_add (K := K)) (j_slice (o_sl (K := K)) (jn 2) jo_none (jo_some (jn 7))) (j_lst (ja_cons (j_def D__law_spoilt_word (hr.mono (by decide)) rfl (ja_cons (jn 5) (ja_cons (j_ix (o_ix hu (K := K) (w := w)) (jn 2) (jn 7)) (ja_cons (jn 6) ja_nil)))) ja_nil))) (j_slice (o_sl (K := K)) (jn 2) (jo_some (j_op (o_add (K := K)) (jn 7) j_int)) jo_none)) ja_nil))))
    (jss_one (js_set (i := 8) sc.nd rfl (Or.inl rfl) (j_def D__law_spoilt_text (hr.mono (by decide)) rfl (ja_cons (jn 5) (ja_cons (jn 2) (ja_cons (jn 6) ja_nil)))))))
    hP2)))))))), fun pc ks H1 hS1 hpc hk0 => ?_⟩
      refine ⟨pc, ks, rfl, SqL.of hpc, hk0, fun ws W H2 h0 ok h12 s2 hW0 => ?_⟩
      have hW : H2 W = some (.lst (vx (tx ws))) := by rw [hW0]; unfold vx; rw [List.map_map]; rfl
      have tl := tx_len ok
      have tt := tx_lt ok
      have tn : (tx ws).length = ws.length := List.length_map _
      have wpos : 0 < ws.length := List.length_pos_iff.mpr h0
      have tlj : Tl (joinWith [32] (tx ws)) := tl_join tl (by omega) tt
      refine ⟨rfl, (tx ws).map S, vx_join hW, joinOk_tx tl (by omega), ?_⟩
      rw [join_tx]
      refine ⟨joinWith [32] (tx ws), rfl, tlj, fun ps hps a3 xs3 H3 n3 s3 e3 d3 => ?_, fun hn0 => ?_⟩
      · rw [good_form h0 ok h12] at hps
        cases hps
        have l3 := d3.length
        rw [List.length_map, List.length_map] at l3
        have hW3 := s3 _ _ hW
        have hS3 := (s2.trans s3).seq hS1
        refine ⟨"list", true, .list (SqL.of e3), rfl, ?_⟩
        refine ⟨_, .inl (SqL.of e3), _, .inl (SqL.of hW3), ?_⟩
        have e1 : (true ^^ decide ((xs3.length : Int) = ((vx (tx ws)).length : Nat))) = false := by
          rw [vx_len, decide_eq_true (by omega)]; rfl
        conv => whnf
        refine ite2 (fun h => ?_) (fun _ => ?_)
        · have h' : (true ^^ decide ((xs3.length : Int) = ((vx (tx ws)).length : Nat))) = true := h
          rw [e1] at h'
          cases h'
        refine ⟨a, ns, 0, rfl, hS3, by decide, ?_⟩
        refine ⟨a, ns, 1, rfl, hS3, ?_⟩
        refine ⟨a, ns, 2, rfl, hS3, _, .inl (SqL.of hW3), ?_⟩
        rw [vx_len, tn]
        have hpos : (0 : Int) < (ws.length : Nat) := by omega
        generalize ns.getD 0 0 = c0
        generalize ns.getD 1 0 = c1
        generalize ns.getD 2 0 = c2
        have hr1 := Int.emod_nonneg c2 (Int.ne_of_gt hpos)
        have hr2 := Int.emod_lt_of_pos c2 hpos
        obtain ⟨j, ej, jl⟩ : ∃ j : Nat, c2 % (ws.length : Nat) = (j : Int) ∧ j < ws.length := ⟨(c2 % (ws.length : Nat)).toNat, by omega, by omega⟩
        refine ⟨hpos, ?_⟩
        rw [ej]
        show if decide (c0 % 12 < 8) = true then _ else _
        refine ite2 (fun h8 => ?_) (fun h8 => ?_)
        · have h8' := of_decide_eq_true h8
          refine ⟨rfl, _, SqL.of hW3, fun p1 hp1 => ?_⟩
          rw [cutV_to]
          have s1 : Same H3 (upd H3 p1 (.lst ((vx (tx ws)).take j))) := same_new hp1
          have e4 : upd H3 p1 (.lst ((vx (tx ws)).take j)) p1 = some (.lst ((vx (tx ws)).take j)) := upd_same
          generalize upd H3 p1 (.lst ((vx (tx ws)).take j)) = H4 at s1 e4 ⊢
          obtain ⟨p, hp⟩ : ∃ p, ws[j]? = some p := ⟨ws[j], by simp [jl]⟩
          refine .inl ⟨_, .str (S p.txt), SqL.of (s1 _ _ hW3), atI_nat (by unfold vx tx; rw [List.getElem?_map, List.getElem?_map, hp]; rfl), ?_⟩
          refine ⟨c0 % 12, c1, p, rfl, by omega, h8', ok p (List.mem_of_getElem? hp), fun x H5 sw s5 => ⟨(show 1 ≤ sizeLine by decide), fun p2 hp2 => ?_⟩⟩
          have s6 : Same H3 (upd H5 p2 (.lst [.str (S x)])) := (s1.trans s5).trans (same_new hp2)
          refine .inl ⟨_, _, same_new hp2 _ _ (s5 _ _ e4), upd_same, by rw [List.length_take, vx_len]; show _ + 1 ≤ _; omega, fun p3 hp3 => ?_⟩
          generalize upd H5 p2 (.lst [.str (S x)]) = H6 at s6 hp3 ⊢
          have s7 : Same H3 (upd H6 p3 (.lst ((vx (tx ws)).take j ++ [.str (S x)]))) := s6.trans (same_new hp3)
          have e7 : upd H6 p3 (.lst ((vx (tx ws)).take j ++ [.str (S x)])) p3 = some (.lst ((vx (tx ws)).take j ++ [.str (S x)])) := upd_same
          generalize upd H6 p3 (.lst ((vx (tx ws)).take j ++ [.str (S x)])) = H7 at s7 e7 ⊢
          refine ⟨_, SqL.of (s7 _ _ hW3), fun p4 hp4 => ?_⟩
          rw [show ((j : Int) + 1) = ((j + 1 : Nat) : Int) from rfl, cutV_from]
          refine .inl ⟨_, _, same_new hp4 _ _ e7, upd_same, by rw [List.length_append, List.length_take, List.length_drop, vx_len]; show _ + 1 + _ ≤ _; omega, fun p5 hp5 => ?_⟩
          have e5 : (vx (tx ws)).take j ++ [.str (S x)] ++ (vx (tx ws)).drop (j + 1) = vx ((tx ws).take j ++ [x] ++ (tx ws).drop (j + 1)) := by
            unfold vx; rw [List.map_append, List.map_append, List.map_take, List.map_drop]; rfl
          rw [e5]
          have m5 : ∀ y ∈ (tx ws).take j ++ [x] ++ (tx ws).drop (j + 1), y ∈ tx ws ∨ y = x := fun y hy => by
            rcases List.mem_append.mp hy with z | z
            · rcases List.mem_append.mp z with y | y
              · exact .inl (List.mem_of_mem_take y)
              · exact .inr (List.mem_singleton.mp y)
            · exact .inl (List.mem_of_mem_drop z)
          have b5 : ∀ y ∈ (tx ws).take j ++ [x] ++ (tx ws).drop (j + 1), y.length ≤ 300 := fun y hy => by
            rcases m5 y hy with z | z
            · have := tl y z; omega
            · rw [z]; exact sw.len
          have k5 : ∀ y ∈ (tx ws).take j ++ [x] ++ (tx ws).drop (j + 1), ∀ k ∈ y, k < 16 ^ 8 := fun y hy => by
            rcases m5 y hy with z | z
            · exact tt y z
            · rw [z]; exact sw.lt
          have l5 : ((tx ws).take j ++ [x] ++ (tx ws).drop (j + 1)).length ≤ 26 := by simp; omega
          have tl5 : Tl (joinWith [32] ((tx ws).take j ++ [x] ++ (tx ws).drop (j + 1))) := by
            refine ⟨Nat.le_trans (joinW_sum _) ?_, joinW_lt k5⟩
            rw [List.map_append, List.map_append, List.sum_append, List.sum_append]
            have h1 := sum_le (ps := (tx ws).take j) (B := 21) fun y hy => tl y (List.mem_of_mem_take hy)
            have h2 := sum_le (ps := (tx ws).drop (j + 1)) (B := 21) fun y hy => tl y (List.mem_of_mem_drop hy)
            have h3 : ((tx ws).take j).length ≤ 12 := by rw [List.length_take]; omega
            have h4 : ((tx ws).drop (j + 1)).length ≤ 12 := by rw [List.length_drop]; omega
            have := sw.len
            have h5 : ([x].map fun p => p.length + 1).sum = x.length + 1 := by simp
            rw [h5]
            omega
          have s8 := (s7.trans (same_new (o := .lst ((vx (tx ws)).drop (j + 1))) hp4)).trans (same_new (o := .lst (vx ((tx ws).take j ++ [x] ++ (tx ws).drop (j + 1)))) hp5)
          refine ⟨_, vx_join upd_same, joinOk_tx b5 (by omega), ?_⟩
          rw [join_tx]
          exact hq2 _ _ _ _ _ ws a3 xs3 _ _ h0 ok h12 (s8 _ _ e3) (d3.same s8) (form_word sw.bad) tl5
        · refine ⟨c0 % 12, c1, W, ws, rfl, hW3, h0, ok, h12, fun x H4 hx tlx s4 => ?_⟩
          exact hq2 _ _ _ _ _ ws a3 xs3 x H4 h0 ok h12 (s4 _ _ e3) (d3.same s4) hx tlx
      · rw [good_form h0 ok h12] at hn0; cases hn0
    refine ⟨_, (jss_cons (js_set (i := 1) sc.nd rfl (Or.inl rfl) (j_slice (o_sl (K := K)) (jn 0) (jo_some j_int) (jo_some j_int)))
    (jss_cons (js_if (jt_cmp (o_eq hu (K := K)) (jn 1) (j_lst ja_nil))
    (jss_one (js_set (i := 1) sc.nd rfl (Or.inl rfl) (j_lst (ja_cons j_int ja_nil))))
    jss_nil)
    hP)), ?_⟩
    obtain ⟨ms, em, hml⟩ := cut_ints ns (some 4) (some 62)
    refine ⟨_, hS, fun p hp => ?_⟩
    rw [em]
    have s1 : Same H (upd H p (.lst (ms.map V.int))) := same_new hp
    have hp1 : upd H p (.lst (ms.map V.int)) p = some (.lst (ms.map V.int)) := upd_same
    generalize upd H p (.lst (ms.map V.int)) = H1 at s1 hp1 ⊢
    have hdep : min (PyData.list (ms.map PyData.int)).depth (PyData.list []).depth ≤ 60 := by
      have := nil_depth
      omega
    have hlay : (PyData.list (ms.map PyData.int)).canLay0 = true := by simp only [PyData.canLay0]; exact ints_lay ms
    refine ⟨(show 0 ≤ sizeLine by decide), fun p2 hp2 => ⟨.list (ms.map PyData.int), .list [], .list (SqL.of (same_new hp2 _ _ hp1)) (ints_dat ms), .list (SqL.of upd_same) .nil, hlay, by decide, hdep, ?_⟩⟩
    rw [ints_eqv]
    have s2 := s1.trans (same_new (o := .lst []) hp2)
    have hp3 := same_new (o := .lst []) hp2 _ _ hp1
    generalize upd H1 p2 (.lst []) = H2 at s2 hp3 ⊢
    conv => whnf
    refine ite2 (fun h => ?_) (fun h => ?_)
    · refine ⟨(show 1 ≤ sizeLine by decide), fun p4 hp4 => ?_⟩
      exact hq p4 [0] _ ((s2.trans (same_new hp4)).seq hS) upd_same (by simp)
    · refine hq p ms H2 (s2.seq hS) hp3 (fun z => ?_)
      exact h (by rw [z]; rfl)
theorem law_of {CG : Addr} {cs : List Addr} (R0 : Raw K mg "_law_cell_at" st__law_cell_at ["_law_script", "_law_k"]) (R1 : Raw K mg "may_write" st_may_write ["sign"]) (R2 : Raw K mg "signs_of" st_signs_of ["text"]) (R3 : Raw K mg "part_of" st_part_of ["text"]) (R4 : Raw K mg "form_of" st_form_of ["text"])
    (R5 : Raw K mg "_law_sign" st__law_sign ["_law_cell", "_law_but"]) (R6 : Raw K mg "_law_words" st__law_words ["_law_cells"]) (R7 : Raw K mg "_law_spoilt_word" st__law_spoilt_word ["_law_way", "_law_word", "_law_cell"]) (R8 : Raw K mg "_law_spoilt_text" st__law_spoilt_text ["_law_way", "_law_words_here", "_law_cell"])
    (R9 : Raw K mg "_law_refused" st__law_refused ["_law_text"]) (R10 : Raw K mg "law" st_law ["_law_script"]) (T : Txt K w mg tD tM tR tN C t1 t2 t3) (T2 : Cls K mg C CG cs) : Def P w K mg base 5 "law" ["_law_script"] (spLaw K) :=
  have Dc : Def P w K mg base 1 "_law_cell_at" ["_law_script", "_law_k"] (spCell K) := def_cell R0 T
  have Ds : Def P w K mg base 1 "_law_sign" ["_law_cell", "_law_but"] spSign := def_sign R5 T
  have Df : DefX P w K mg base 3 "form_of" ["text"] (spFO K C) := def_formOf R4 T (def_may R1 T) (def_partOf R3 T (def_signs R2 T))
  def_law R10 T Dc (def_words R6 T Ds) (def_spoiltW R7 T Ds) (def_spoiltT R8 T) (def_refused R9 T2 Df) (DefX.toDef Df)
end
end K7

set_option Elab.async false
set_option linter.all false
set_option maxRecDepth 100000
set_option maxHeartbeats 4000000
namespace K7
open PySem PySem.Spec PyProof.Rows L2 Rg
theorem cls_mk {K : PySem.W.Frag} {mg : Str → Option Value} {h : Heap} {C CG b0 b1 b2 b3 b4 b5 b6 b7 b8 b9 : Addr} (X : K.In h) (G : h.Ns mainGlobals mg) (n1 : mg "isinstance" = none) (n2 : mg "ValueError" = none)
    (a1 : PySem.W.nsIn K mainGlobals "NoForm" = some (some (.ref C))) (a2 : PySem.W.nsIn K mainGlobals "GrowthError" = some (some (.ref CG)))
    (c0 : PySem.W.nsIn K mainGlobals "NoFit" = some (some (.ref b0))) (c1 : PySem.W.nsIn K mainGlobals "NoRule" = some (some (.ref b1))) (c2 : PySem.W.nsIn K mainGlobals "NoFloor" = some (some (.ref b2)))
    (c3 : PySem.W.nsIn K mainGlobals "Barren" = some (some (.ref b3))) (c4 : PySem.W.nsIn K mainGlobals "Idle" = some (some (.ref b4))) (c5 : PySem.W.nsIn K mainGlobals "TooLarge" = some (some (.ref b5)))
    (c6 : PySem.W.nsIn K mainGlobals "Clash" = some (some (.ref b6))) (c7 : PySem.W.nsIn K mainGlobals "Stuck" = some (some (.ref b7))) (c8 : PySem.W.nsIn K mainGlobals "TooLong" = some (some (.ref b8))) (c9 : PySem.W.nsIn K mainGlobals "NoRow" = some (some (.ref b9)))
    (xg : PySem.W.excIn K CG bmVE "ValueError.__new__" = true) (z1 : PySem.W.excIn K C bmVE "ValueError.__new__" = true)
    (z2 : PySem.W.findIn K (.ref C) "__getattribute__" = some (some (.builtin "BaseException.__getattribute__"))) (z3 : PySem.W.findIn K (.ref C) "__getattr__" = some none)
    (z4 : PySem.W.findIn K (.ref C) "__class__" = some (some (.builtin "object.__class__"))) (z5 : PySem.W.mroIn K C (.type "object") = some true) (up : PySem.W.mroIn K C (.ref CG) = some true)
    (ve : PySem.W.kitOne K (.ref C) (.type "ValueError") = some true) (no : PySem.W.kitAny K (.ref C) [.ref b0, .ref b1, .ref b2, .ref b3, .ref b4, .ref b5, .ref b6, .ref b7, .ref b8, .ref b9] = some false) : ∃ C CG cs, Cls K mg C CG cs := by
  have hup : mroHas K C (.ref CG) = true := by
    obtain ⟨cd, a, b⟩ := Option.bind_eq_some_iff.mp up
    unfold PySem.W.clsIn at a
    split at a
    · rename_i ho
      cases a
      split at b
      · cases b
      · unfold mroHas
        rw [ho]
        exact Option.some.inj b
    · cases a
  exact ⟨C, CG, [b0, b1, b2, b3, b4, b5, b6, b7, b8, b9], ⟨n1, n2, PySem.W.mg_of X G a1, PySem.W.mg_of X G a2, xg, PySem.W.mg_of X G c0, PySem.W.mg_of X G c1, PySem.W.mg_of X G c2, PySem.W.mg_of X G c3, PySem.W.mg_of X G c4, PySem.W.mg_of X G c5, PySem.W.mg_of X G c6, PySem.W.mg_of X G c7, PySem.W.mg_of X G c8, PySem.W.mg_of X G c9, ⟨z1, z2, z3, z4, z5⟩, hup, ve, no⟩⟩
end K7

open PySem PySem.W PyProof.Rows
set_option Elab.async false
set_option linter.all false
set_option maxRecDepth 100000 in
set_option maxHeartbeats 0 in
theorem PySem.Challenge.cw_regrowth_k07_no_forms_holds : PySem.Challenge.rw_regrowth_k07_no_forms.Holds := by
  w_on; o_law; k_head; (case hw => w_witness2)
  k_fill
  refine L2.walk_ofK (l := PySem.Challenge.rw_regrowth_k07_no_forms) (n := 63) (k := 5) (x := "_law_script") (CX := L2.CX0) (sp := K7.spLaw) rfl (by decide) rfl ⟨rfl, by decide, by decide⟩ (fun w h Y => PySem.W.kIn_of Y) ?F ?S ?C
  case F =>
    intro w mg fa h KX G hmg
    have R0 : L2.Raw (L2.KOf KX) mg "_law_cell_at" K7.st__law_cell_at ["_law_script", "_law_k"] := by
      dsimp only [L2.KOf]
      refine' L2.Raw.mk' KX G ?a0 ?l0 ?c0 ?k0 ?b0
      (case a0 => k_is)
      (case l0 => k_is)
      (case c0 => k_is)
      (case k0 => k_is)
      exact fun us hl => match us, hl with | [_, _], _ => rfl
    have R1 : L2.Raw (L2.KOf KX) mg "may_write" K7.st_may_write ["sign"] := by
      dsimp only [L2.KOf]
      refine' L2.Raw.mk' KX G ?a1 ?l1 ?c1 ?k1 ?b1
      (case a1 => k_is)
      (case l1 => k_is)
      (case c1 => k_is)
      (case k1 => k_is)
      exact fun us hl => match us, hl with | [_], _ => rfl
    have R2 : L2.Raw (L2.KOf KX) mg "signs_of" K7.st_signs_of ["text"] := by
      dsimp only [L2.KOf]
      refine' L2.Raw.mk' KX G ?a2 ?l2 ?c2 ?k2 ?b2
      (case a2 => k_is)
      (case l2 => k_is)
      (case c2 => k_is)
      (case k2 => k_is)
      exact fun us hl => match us, hl with | [_], _ => rfl
    have R3 : L2.Raw (L2.KOf KX) mg "part_of" K7.st_part_of ["text"] := by
      dsimp only [L2.KOf]
      refine' L2.Raw.mk' KX G ?a3 ?l3 ?c3 ?k3 ?b3
      (case a3 => k_is)
      (case l3 => k_is)
      (case c3 => k_is)
      (case k3 => k_is)
      exact fun us hl => match us, hl with | [_], _ => rfl
    have R4 : L2.Raw (L2.KOf KX) mg "form_of" K7.st_form_of ["text"] := by
      dsimp only [L2.KOf]
      refine' L2.Raw.mk' KX G ?a4 ?l4 ?c4 ?k4 ?b4
      (case a4 => k_is)
      (case l4 => k_is)
      (case c4 => k_is)
      (case k4 => k_is)
      exact fun us hl => match us, hl with | [_], _ => rfl
    have R5 : L2.Raw (L2.KOf KX) mg "_law_sign" K7.st__law_sign ["_law_cell", "_law_but"] := by
      dsimp only [L2.KOf]
      refine' L2.Raw.mk' KX G ?a5 ?l5 ?c5 ?k5 ?b5
      (case a5 => k_is)
      (case l5 => k_is)
      (case c5 => k_is)
      (case k5 => k_is)
      exact fun us hl => match us, hl with | [_, _], _ => rfl
    have R6 : L2.Raw (L2.KOf KX) mg "_law_words" K7.st__law_words ["_law_cells"] := by
      dsimp only [L2.KOf]
      refine' L2.Raw.mk' KX G ?a6 ?l6 ?c6 ?k6 ?b6
      (case a6 => k_is)
      (case l6 => k_is)
      (case c6 => k_is)
      (case k6 => k_is)
      exact fun us hl => match us, hl with | [_], _ => rfl
    have R7 : L2.Raw (L2.KOf KX) mg "_law_spoilt_word" K7.st__law_spoilt_word ["_law_way", "_law_word", "_law_cell"] := by
      dsimp only [L2.KOf]
      refine' L2.Raw.mk' KX G ?a7 ?l7 ?c7 ?k7 ?b7
      (case a7 => k_is)
      (case l7 => k_is)
      (case c7 => k_is)
      (case k7 => k_is)
      exact fun us hl => match us, hl with | [_, _, _], _ => rfl
    have R8 : L2.Raw (L2.KOf KX) mg "_law_spoilt_text" K7.st__law_spoilt_text ["_law_way", "_law_words_here", "_law_cell"] := by
      dsimp only [L2.KOf]
      refine' L2.Raw.mk' KX G ?a8 ?l8 ?c8 ?k8 ?b8
      (case a8 => k_is)
      (case l8 => k_is)
      (case c8 => k_is)
      (case k8 => k_is)
      exact fun us hl => match us, hl with | [_, _, _], _ => rfl
    have R9 : L2.Raw (L2.KOf KX) mg "_law_refused" K7.st__law_refused ["_law_text"] := by
      dsimp only [L2.KOf]
      refine' L2.Raw.mk' KX G ?a9 ?l9 ?c9 ?k9 ?b9
      (case a9 => k_is)
      (case l9 => k_is)
      (case c9 => k_is)
      (case k9 => k_is)
      exact fun us hl => match us, hl with | [_], _ => rfl
    have R10 : L2.Raw (L2.KOf KX) mg "law" K7.st_law ["_law_script"] := by
      dsimp only [L2.KOf]
      refine' L2.Raw.mk' KX G ?a10 ?l10 ?c10 ?k10 ?b10
      (case a10 => k_is)
      (case l10 => k_is)
      (case c10 => k_is)
      (case k10 => k_is)
      exact fun us hl => match us, hl with | [_], _ => rfl
    have n_len : mg "len" = none := PySem.W.mg_none_of KX G (by k_is)
    have n_ord : mg "ord" = none := PySem.W.mg_none_of KX G (by k_is)
    have n_list : mg "list" = none := PySem.W.mg_none_of KX G (by k_is)
    have n_isinstance : mg "isinstance" = none := PySem.W.mg_none_of KX G (by k_is)
    have n_ValueError : mg "ValueError" = none := PySem.W.mg_none_of KX G (by k_is)
    have T2 : ∃ C CG cs, K7.Cls (L2.KOf KX) mg C CG cs := by
      dsimp only [L2.KOf]
      refine' K7.cls_mk KX G n_isinstance n_ValueError ?a1 ?a2 ?c0 ?c1 ?c2 ?c3 ?c4 ?c5 ?c6 ?c7 ?c8 ?c9 ?xg ?z1 ?z2 ?z3 ?z4 ?z5 ?up ?ve ?no
      (case a1 => k_is)
      (case a2 => k_is)
      (case c0 => k_is)
      (case c1 => k_is)
      (case c2 => k_is)
      (case c3 => k_is)
      (case c4 => k_is)
      (case c5 => k_is)
      (case c6 => k_is)
      (case c7 => k_is)
      (case c8 => k_is)
      (case c9 => k_is)
      (case xg => first | k_exc | rfl | decide)
      (case z1 => first | k_exc | rfl | decide)
      (case z2 => k_is)
      (case z3 => k_is)
      (case z4 => k_is)
      (case z5 => k_is)
      (case up => k_is)
      (case ve => first | kit_is | rfl | decide)
      (case no => first | kit_is | rfl | decide)
    obtain ⟨C, CG, cs, T2⟩ := T2
    have T : ∃ tD tM tR tN t1 t2 t3, K7.Txt (L2.KOf KX) w mg tD tM tR tN C t1 t2 t3 := by
      have g_MOST_PARTS : ∃ t, mg "MOST_PARTS" = some (.int 12 t) := by
        refine' L2.int_mk KX G ?aMOST_PARTS
        (case aMOST_PARTS => k_is)
      obtain ⟨i_MOST_PARTS, g_MOST_PARTS⟩ := g_MOST_PARTS
      have g_MOST_SIGNS : ∃ t, mg "MOST_SIGNS" = some (.int 100 t) := by
        refine' L2.int_mk KX G ?aMOST_SIGNS
        (case aMOST_SIGNS => k_is)
      obtain ⟨i_MOST_SIGNS, g_MOST_SIGNS⟩ := g_MOST_SIGNS
      have g_PERCENT : ∃ t, mg "PERCENT" = some (.int 37 t) := by
        refine' L2.int_mk KX G ?aPERCENT
        (case aPERCENT => k_is)
      obtain ⟨i_PERCENT, g_PERCENT⟩ := g_PERCENT
      have g_DEEDS : ∃ t, mg "DEEDS" = some (.ref t) ∧ L2.KTab (L2.KOf KX) w t K7.kvDeeds := by
        dsimp only [L2.KOf]
        refine' L2.dict_mk KX G ?aDEEDS ?lDEEDS ?kDEEDS ?pDEEDS ?sDEEDS
        (case aDEEDS => k_is)
        (case lDEEDS => k_is)
        (case kDEEDS => repeat (first | exact True.intro | refine And.intro ⟨_, _, rfl, rfl⟩ ?_))
        (case pDEEDS => repeat (first | exact .nil | refine .cons ⟨⟨_, rfl⟩, ⟨_, rfl⟩⟩ ?_))
        (case sDEEDS => decide)
      obtain ⟨a_DEEDS, g_DEEDS, k_DEEDS⟩ := g_DEEDS
      have g_MANIES : ∃ t, mg "MANIES" = some (.ref t) ∧ L2.KTab (L2.KOf KX) w t K7.kvManies := by
        dsimp only [L2.KOf]
        refine' L2.dict_mk KX G ?aMANIES ?lMANIES ?kMANIES ?pMANIES ?sMANIES
        (case aMANIES => k_is)
        (case lMANIES => k_is)
        (case kMANIES => repeat (first | exact True.intro | refine And.intro ⟨_, _, rfl, rfl⟩ ?_))
        (case pMANIES => repeat (first | exact .nil | refine .cons ⟨⟨_, rfl⟩, ⟨_, rfl⟩⟩ ?_))
        (case sMANIES => decide)
      obtain ⟨a_MANIES, g_MANIES, k_MANIES⟩ := g_MANIES
      have g_MEANT : ∃ t, mg "MEANT" = some (.ref t) ∧ L2.KTab (L2.KOf KX) w t K7.kvMeant := by
        dsimp only [L2.KOf]
        refine' L2.dict_mk KX G ?aMEANT ?lMEANT ?kMEANT ?pMEANT ?sMEANT
        (case aMEANT => k_is)
        (case lMEANT => k_is)
        (case kMEANT => repeat (first | exact True.intro | refine And.intro ⟨_, _, rfl, rfl⟩ ?_))
        (case pMEANT => repeat (first | exact .nil | refine .cons ⟨⟨_, rfl⟩, ⟨_, rfl⟩⟩ ?_))
        (case sMEANT => decide)
      obtain ⟨a_MEANT, g_MEANT, k_MEANT⟩ := g_MEANT
      have g_ROW : ∃ t, mg "ROW_MANIES" = some (.ref t) ∧ ∀ H, L2.SqT (L2.KOf KX) H t [.str "once", .str "ahead", .str "not"] := by
        dsimp only [L2.KOf]
        refine' L2.tup_mk KX G ?aROW ?lROW ?zROW ?vROW
        (case aROW => k_is)
        (case lROW => k_is)
        (case zROW => decide)
        (case vROW => exact .cons ⟨_, rfl⟩ (.cons ⟨_, rfl⟩ (.cons ⟨_, rfl⟩ .nil)))
      obtain ⟨a_ROW, g_ROW, k_ROW⟩ := g_ROW
      exact ⟨_, _, _, _, _, _, _, ⟨n_len, n_ord, n_list, n_isinstance, g_MOST_PARTS, g_MOST_SIGNS, g_PERCENT, g_DEEDS, g_MANIES, g_ROW, g_MEANT, T2.c_NoForm, T2.Z.exc, k_DEEDS, k_MANIES, k_MEANT, k_ROW⟩⟩
    obtain ⟨tD, tM, tR, tN, t1, t2, t3, T⟩ := T
    obtain ⟨f, fd, hf, Fu, hb⟩ := R10.ex
    have e0 := hmg.symm.trans hf
    cases e0
    refine ⟨fd, fun s u => ?_, fun base kb nb => (K7.law_of R0 R1 R2 R3 R4 R5 R6 R7 R8 R9 ⟨⟨_, fd, hf, Fu, hb⟩⟩ T T2).at hf Fu.lk⟩
    exact .of_eq (hb [u] rfl)
  case S => exact fun K H a ns hl hO hS => ⟨a, ns, rfl, hS, hl, fun _ => rfl⟩
  case C => exact fun _ _ _ _ z => z

