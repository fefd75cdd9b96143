import PyProof.Rows.All
import Wide.All
import OpenK.AllK
import Wide.FinOn
import Lean
import PyProof.EqAt
import PyProof.EqKinds
import PyProof.TupleCall
import PyProof.ListRange
import PyProof.ZipIter
import PyProof.Rows.ZipGen
import OpenK.KRaise
import OpenK.KOwn
import PyProof.ExcClass3
import PyProof.ExcBaseAll.ValueError
import PyProof.FString
import PyProof.FString4
import PyProof.StrLawsRepr
import PyProof.NsDelKeeps
import PyProof.Rows.Catch
import PyProof.ExcArgsOwn
import PyProof.ExcAttrAll.ValueError
import OpenK.KDescr
import KE.KIsAll
import KE.KLam
import PyProof.EnumMake
import PyProof.Rows.EnumRows
import PyProof.Rows.SeqMore2
import PyProof.AttrMissHeap
import KE.KDictOf
import KE.KRevIter
import KE.KDictLaws
import PyProof.ConsumeWalk
import PyProof.CallStr
import KE.KIntText
import PyProof.SetScanFacts
import PyProof.Rows.SetFrom
import PyProof.CollectWalk
import PyProof.FactsAll.set
import PyProof.SetRoads
import PyProof.CollectStr
import PyProof.Rows.SortShell
import PyProof.Rows.SortWalk
import PyProof.ReprRoads
import PyProof.AutoListH
import PyProof.AutoSeq1
import PyProof.P3Eq
import KE.KDictList
import PyProof.Draws
import PyProof.StrLawsChain
import PyProof.StrBlockI
import PyProof.StrBlock2
import KE.RegKIsAll
import PySem.Challenge.RW_regrowth_k21_plain_rules
set_option Elab.async false
set_option linter.all false
set_option maxRecDepth 100000
namespace L2
open PySem PySem.Spec PyProof.Rows
noncomputable abbrev Key:=Sum Int Str
noncomputable def keyIs:Key→Value→Bool
  | .inl k,v=>Value.isInt k v
  | .inr x,v=>Value.isStrOf x v
noncomputable def keyH (w:World):Key→Int
  | .inl k=>hashInt k
  | .inr x=>hashStr w x
theorem keyIs_shape:∀ {k:Key} {v:Value},keyIs k v = true→(∃ i t,k = Sum.inl i∧v = Value.int i t)∨(∃ x t,k = Sum.inr x∧v = Value.str x t)
  | .inl i,v,h=>by
    obtain ⟨t,e⟩:=Value.isInt_shape (k:=i) (v:=v) h
    exact .inl ⟨i,t,rfl,e⟩
  | .inr x,v,h=>by
    obtain ⟨t,e⟩:=Value.isStrOf_shape (x:=x) (v:=v) h
    exact .inr ⟨x,t,rfl,e⟩
theorem keyIs_int (i:Int) (t:Tok):keyIs (.inl i) (.int i t) = true:=by simp [keyIs,Value.isInt]
theorem keyIs_str (x:Str) (t:Tok):keyIs (.inr x) (.str x t) = true:=by simp [keyIs,Value.isStrOf]
theorem key_ll (a b : Int) : decide ((Sum.inl a : Key) = Sum.inl b) = (a == b) :=by grind
theorem key_rr (a b : Str) : decide ((Sum.inr a : Key) = Sum.inr b) = decide (a = b) :=by grind
theorem key_lr (a : Int) (b : Str) : decide ((Sum.inl a : Key) = Sum.inr b) = false :=by grind
theorem key_rl (a : Str) (b : Int) : decide ((Sum.inr a : Key) = Sum.inl b) = false :=by grind
noncomputable def mixKind (prog:Program) (w:World):PySem.KeyKind prog w Key where
  is:=keyIs
  hash:=keyH w
  inj:=fun v a b ha hb=>by
    rcases keyIs_shape ha with ⟨i,t,rfl,rfl⟩ | ⟨x,t,rfl,rfl⟩
    · rcases keyIs_shape hb with ⟨j,u,rfl,e⟩ | ⟨y,u,rfl,e⟩
      · injection e with e1 _; rw [e1]
      · exact nomatch e
    · rcases keyIs_shape hb with ⟨j,u,rfl,e⟩ | ⟨y,u,rfl,e⟩
      · exact nomatch e
      · injection e with e1 _; rw [e1]
  byValue:=fun k v h=>by
    rcases keyIs_shape h with ⟨i,t,rfl,rfl⟩ | ⟨x,t,rfl,rfl⟩ <;> rfl
  pyHash:=fun hv h=>by
    rcases keyIs_shape hv with ⟨i,t,rfl,rfl⟩ | ⟨x,t,rfl,rfl⟩
    · exact wpAny_pyHash_int h
    · exact wpAny_pyHash_str h
  eqBool:=fun hu hv h=>by
    rcases keyIs_shape hu with ⟨i,t,rfl,rfl⟩ | ⟨x,t,rfl,rfl⟩
    · rcases keyIs_shape hv with ⟨j,u,rfl,rfl⟩ | ⟨y,u,rfl,rfl⟩
      · rw [key_ll] at h; exact wpAny_eqBool_int h
      · rw [key_lr] at h; exact SeqAt.EqAt.int_str i t y u _ _ _ _ h
    · rcases keyIs_shape hv with ⟨j,u,rfl,rfl⟩ | ⟨y,u,rfl,rfl⟩
      · rw [key_rl] at h; exact SeqAt.EqAt.str_int x t j u _ _ _ _ h
      · rw [key_rr] at h; exact wpAny_eqBool_str h
  «strs»:=fun k x t v h=>by
    rcases keyIs_shape h with ⟨i,u,rfl,e⟩ | ⟨y,u,rfl,e⟩
    · exact nomatch e
    · injection e with e1 _
      subst e1
      cases v <;> rfl
theorem mixKind_int (prog:Program) (w:World) (i:Int) (t:Tok):(mixKind prog w).is (.inl i) (.int i t) = true:=keyIs_int i t
theorem mixKind_str (prog:Program) (w:World) (x:Str) (t:Tok):(mixKind prog w).is (.inr x) (.str x t) = true:=keyIs_str x t
end L2
namespace L2
open PySem PySem.Spec PyProof.Rows
inductive V where
  | non | bl (b:Bool) | int (i:Int) | str (x:Str) | byt (b:Array UInt8) | flt (b:UInt64) | ref (a:Addr) | ty (n:String)
  deriving DecidableEq
noncomputable def RelV:V→Value→Prop
  | .non,u=>u = Value.none
  | .bl b,u=>u = Value.bool b
  | .int i,u=>∃ t,u = Value.int i t
  | .str x,u=>∃ t,u = Value.str x t
  | .byt b,u=>∃ t,u = Value.bytes b t
  | .flt b,u=>∃ t,u = Value.float b t
  | .ref a,u=>u = Value.ref a
  | .ty n,u=>u = Value.type n
noncomputable abbrev Vals:List V→List Value→Prop:=Paired RelV
theorem Vals.length {xs:List V} {us:List Value} (r:Vals xs us):xs.length = us.length:=Paired.length r
theorem Vals.get:∀ {xs:List V} {us:List Value} {i:Nat} {x:V},Vals xs us→xs[i]? = some x→∃ u,us[i]? = some u∧RelV x u
  | _,_,_,_,.nil,e=>by simp at e
  | _,_,0,_,.cons r _,e=>by simp at e; subst e; exact ⟨_,rfl,r⟩
  | _,_,i + 1,x,.cons _ t,e=>by
    obtain ⟨u,h1,h2⟩:=Vals.get (i:=i) (x:=x) t (by simpa using e)
    exact ⟨u,by simpa using h1,h2⟩
theorem Vals.set {x:V} {u:Value} (r:RelV x u):∀ {xs:List V} {us:List Value} (i:Nat),Vals xs us→Vals (xs.set i x) (us.set i u)
  | _,_,_,.nil=>.nil
  | _,_,0,.cons _ t=>.cons r t
  | _,_,i + 1,.cons q t=>.cons q (Vals.set r i t)
theorem Vals.append:∀ {xs ys:List V} {us ws:List Value},Vals xs us→Vals ys ws→Vals (xs ++ ys) (us ++ ws)
  | _,_,_,_,.nil,s=>s
  | _,_,_,_,.cons r t,s=>.cons r (Vals.append t s)
theorem Vals.take:∀ {xs:List V} {us:List Value} (n:Nat),Vals xs us→Vals (xs.take n) (us.take n)
  | _,_,0,_=>.nil
  | _,_,_ + 1,.nil=>.nil
  | _,_,n + 1,.cons r t=>.cons r (Vals.take n t)
theorem Vals.drop:∀ {xs:List V} {us:List Value} (n:Nat),Vals xs us→Vals (xs.drop n) (us.drop n)
  | _,_,0,r=>r
  | _,_,_ + 1,.nil=>.nil
  | _,_,n + 1,.cons _ t=>Vals.drop n t
noncomputable def RelO:Option V→Option Value→Prop
  | some v,some u=>RelV v u
  | none,none=>True
  | _,_=>False
noncomputable def KV {κ:Type}:List (κ × V)→List (κ × Value)→Prop:=Paired fun (p:κ × V) (q:κ × Value)=>p.1 = q.1∧RelV p.2 q.2
noncomputable def kV:Key→V
  | .inl i=>.int i
  | .inr x=>.str x
inductive HO where
  /-- a list -/
  | lst (xs:List V)
  /-- a tuple (never changes) -/
  | tup (xs:List V)
  /-- a dict whose keys are ints and texts; one whose keys are tuples of ints and texts (the empty one is both) -/
  | dK (kvs:List (Key × V)) | dT (kvs:List (List Key × V))
  /-- a set of ints: its members,its size -/
  | set (S:Int→Bool) (n:Nat)
  /-- an instance of the class at C,its dict at dx,its attributes -/
  | ins (C dx:Addr) (fs:List (Str × V))
  /-- the dict of the instance at x -/
  | own (x:Addr)
  /-- the dict of an exception -/
  | xd (fs:List (Str × V))
  /-- a bound method,f of x -/
  | met (f x:Addr)
  /-- a range object lo,lo + 1,.. below hi -/
  | rng (lo hi:Int)
  /-- a thing that is known to the object (the script; a dict while a loop walks it): read,never written while it is so -/
  | frz (o:Obj) (u:HO)
  /-- a code object's table -/
  | tbl (ps:Array Value)
  /-- any other thing,by what is true of its one object (a def of one's own: SetO a S n:=HO.ext fun h=>..) -/
  | ext (φ:Heap→Prop)
noncomputable abbrev Hp:=Addr→Option HO
noncomputable def upd (H:Hp) (a:Addr) (o:HO):Hp:=fun b=>if b = a then some o else H b
theorem upd_same {H : Hp} {a : Addr} {o : HO} : upd H a o a = some o := by unfold upd; simp
theorem upd_ne {H:Hp} {a b:Addr} {o:HO} (h:b ≠ a):upd H a o b = H b:=by unfold upd; rw [if_neg h]
theorem ne_of {H : Hp} {a b : Addr} {o u : HO} (h : H a = some o) (h' : H b = some u) (d : o ≠ u) : a ≠ b := by
  intro e; simp_all
theorem ne_of_none {H : Hp} {a b : Addr} {o : HO} (h : H a = some o) (h' : H b = none) : a ≠ b :=by grind
section
variable (P:Program) (w:World)
noncomputable def ObjOk (H:Hp) (h:Heap) (a:Addr):HO→Prop
  | .lst xs=>xs.length ≤ sizeLine∧∃ (its:List Value) (n:Nat),Vals xs its∧h.get? a = some { cls:=.type "list",data:=.seq its.toArray n }
  | .tup xs=>xs.length ≤ sizeLine∧∃ its:List Value,Vals xs its∧IsTup h a its.toArray
  | .dK kvs=>kvs.length ≤ sizeLine∧(a == sysModules) = false∧∃ vs,KV kvs vs∧h.DictOf (mixKind P w) a vs
  | .dT kvs => kvs.length ≤ sizeLine ∧ (a == sysModules) = false ∧ ∃ xs : List (List Key × Addr × Value),
      Paired (fun (p:List Key × V) (q:List Key × Addr × Value)=>p.1 = q.1∧H q.2.1 = some (.tup (p.1.map kV))∧RelV p.2 q.2.2) kvs xs ∧
      ∃ o es ep,h.get? a = some o∧o.ExactDict∧o.data = .dict es ep∧es.toList = xs.map (entryOfKey (tupleKind (mixKind P w)))∧(xs.map (·.1)).Nodup
  | .set S n=>h.SetOf (intKind P w) a S n
  | .ins C dx fs => H dx = some (.own a) ∧ fs.length ≤ 1000 ∧ dx ≠ a ∧ h.get? a = some (PySem.W.instObj C dx) ∧
      ∃ mA,h.Ns1 dx mA∧(∀ f,RelO (fs.lookup f) (mA f))∧PySem.Within mA (fs.map (·.1))
  | .own _=>∃ o,h.get? a = some o
  | .xd fs=>∃ mA,h.Ns1 a mA∧∀ f,RelO (fs.lookup f) (mA f)
  | .rng lo hi=>∃ t u v,h.get? a = some { cls:=.type "range",data:=.fields #[.int lo t,.int hi u,.int 1 v] }
  | .frz o u=>h.get? a = some o∧ObjOk H h a u
  | .tbl ps=>h.get? a = some { cls:=.none,data:=.fields ps }
  | .met f x=>h.get? a = some (PySem.W.methodObj (.ref f) (.ref x))
  | .ext φ=>φ h∧(∃ o,h.get? a = some o)∧∀ h1 h2:Heap,φ h1→(∀ o,h1.get? a = some o→h2.get? a = some o)→φ h2
noncomputable def HOk (H:Hp) (h:Heap):Prop:=∀ a o,H a = some o→ObjOk P w H h a o
end
section
variable {P:Program} {w:World} {H H':Hp} {h h':Heap} {a:Addr} {o:HO}
theorem ObjOk.lt (x:ObjOk P w H h a o):a < h.objs.size:=by
  cases o with
  | lst xs=>obtain ⟨_,_,_,_,e⟩:=x; exact Heap.lt_size e
  | tup xs=>obtain ⟨_,_,_,p⟩:=x; exact p.lt
  | dK kvs=>obtain ⟨_,_,_,_,o,_,_,e,_⟩:=x; exact Heap.lt_size e
  | dT kvs=>obtain ⟨_,_,_,_,o,_,_,e,_⟩:=x; exact Heap.lt_size e
  | set S n=>obtain ⟨o,_,_,_,e,_⟩:=x; exact Heap.lt_size e
  | ins C dx fs=>obtain ⟨_,_,_,e,_⟩:=x; exact Heap.lt_size e
  | own y=>obtain ⟨_,e⟩:=x; exact Heap.lt_size e
  | xd fs=>obtain ⟨_,⟨_,_,_,e,_⟩,_⟩:=x; exact Heap.lt_size e
  | rng lo hi=>obtain ⟨_,_,_,e⟩:=x; exact Heap.lt_size e
  | frz ob u=>obtain ⟨e,_⟩:=x; exact Heap.lt_size e
  | tbl ps=>exact Heap.lt_size (show h.get? a = some _ from x)
  | met f y=>exact Heap.lt_size (show h.get? a = some _ from x)
  | ext φ=>obtain ⟨_,⟨_,e⟩,_⟩:=x; exact Heap.lt_size e
theorem Paired.mapP {α β:Type} {F G:α→β→Prop}:∀ {l₁:List α} {l₂:List β},Paired F l₁ l₂→(∀ a b,F a b→G a b)→Paired G l₁ l₂
  | _,_,.nil,_=>.nil
  | _,_,.cons r t,f=>.cons (f _ _ r) (Paired.mapP t f)
theorem ObjOk.stay (x : ObjOk P w H h a o) (k : ∀ b u, (b = a ∨ H b = some (.own a)) → h.get? b = some u → h'.get? b = some u)
    (ho:∀ b,H b = some (.own a)→H' b = some (.own a)) (ht:∀ b xs,H b = some (.tup xs)→H' b = some (.tup xs)):ObjOk P w H' h' a o:=by
  induction o with
  | lst xs=>obtain ⟨z,its,n,r,e⟩:=x; exact ⟨z,its,n,r,k _ _ (.inl rfl) e⟩
  | tup xs=>obtain ⟨z,its,r,ob,e,c⟩:=x; exact ⟨z,its,r,ob,k _ _ (.inl rfl) e,c⟩
  | dK kvs=>obtain ⟨z,y,vs,r,ob,es,ep,e,c⟩:=x; exact ⟨z,y,vs,r,ob,es,ep,k _ _ (.inl rfl) e,c⟩
  | dT kvs =>
    obtain ⟨z,y,xs,r,ob,es,ep,e,c⟩:=x
    exact ⟨z,y,xs,Paired.mapP r fun p q z=>⟨z.1,ht _ _ z.2.1,z.2.2⟩,ob,es,ep,k _ _ (.inl rfl) e,c⟩
  | set S n=>obtain ⟨ob,es,ep,t,e,c⟩:=x; exact ⟨ob,es,ep,t,k _ _ (.inl rfl) e,c⟩
  | ins C dx fs =>
    obtain ⟨d,z,ne,e,mA,⟨od,es,ep,e2,c⟩,r⟩:=x
    exact ⟨ho _ d,z,ne,k _ _ (.inl rfl) e,mA,⟨od,es,ep,k _ _ (.inr d) e2,c⟩,r⟩
  | own y=>obtain ⟨ob,e⟩:=x; exact ⟨ob,k _ _ (.inl rfl) e⟩
  | xd fs=>obtain ⟨mA,⟨od,es,ep,e,c⟩,r⟩:=x; exact ⟨mA,⟨od,es,ep,k _ _ (.inl rfl) e,c⟩,r⟩
  | rng lo hi=>obtain ⟨t,u,v,e⟩:=x; exact ⟨t,u,v,k _ _ (.inl rfl) e⟩
  | frz ob u ih=>obtain ⟨e,q⟩:=x; exact ⟨k _ _ (.inl rfl) e,ih q⟩
  | tbl ps =>
    have e:h.get? a = some { cls:=.none,data:=.fields ps }:=x
    show h'.get? a = some { cls:=.none,data:=.fields ps }
    exact k a _ (.inl rfl) e
  | met f y =>
    have e:h.get? a = some (PySem.W.methodObj (.ref f) (.ref y)):=x
    show h'.get? a = some (PySem.W.methodObj (.ref f) (.ref y))
    exact k a _ (.inl rfl) e
  | ext φ=>obtain ⟨p,⟨o,e⟩,st⟩:=x; exact ⟨st _ _ p fun o q=>k _ _ (.inl rfl) q,⟨o,k _ _ (.inl rfl) e⟩,st⟩
theorem HOk.lt (x:HOk P w H h) (e:H a = some o):a < h.objs.size:=(x a o e).lt
theorem HOk.fresh (x:HOk P w H h) (e:h.objs.size ≤ a):H a = none:=by
  cases q:H a with
  | none=>rfl
  | some u=>exact absurd (Nat.lt_of_lt_of_le (x.lt q) e) (Nat.lt_irrefl _)
theorem HOk.kept (x:HOk P w H h) (k:∀ b u,h.get? b = some u→h'.get? b = some u):HOk P w H h':=fun a o e =>
  (x a o e).stay (fun b u _ q=>k b u q) (fun _ q=>q) fun _ _ q=>q
theorem HOk.laid (x : HOk P w H h) (k : ∀ b u, h.get? b = some u → h'.get? b = some u) (hp : h.objs.size ≤ a) (new : ObjOk P w (upd H a o) h' a o) : HOk P w (upd H a o) h' := fun b u e => by
  have hn := x.fresh hp
  by_cases hb : b = a
  · subst hb; rw [upd_same] at e; grind
  · rw [upd_ne hb] at e
    exact (x b u e).stay (fun c v _ q => k c v q) (fun c q => by rw [upd_ne (ne_of_none q hn)]; exact q) fun c xs q => by rw [upd_ne (ne_of_none q hn)]; exact q
end
noncomputable def Rd (H:Hp) (a:Addr) (u:HO):Prop:=H a = some u∨∃ o,H a = some (.frz o u)
theorem Rd.ok {P:Program} {w:World} {H:Hp} {h:Heap} {a:Addr} {u:HO} (r:Rd H a u) (x:HOk P w H h):ObjOk P w H h a u:=by
  rcases r with r | ⟨o,r⟩
  · exact x a u r
  · obtain ⟨_,q⟩:=x a _ r
    exact q
noncomputable def Mut:Option HO→Prop
  | some (.lst _)=>True
  | some (.dK _)=>True
  | some (.dT _)=>True
  | some (.set _ _)=>True
  | some (.ins _ _ _)=>True
  | some (.ext _)=>True
  | _=>False
section
variable {P:Program} {w:World} {H:Hp} {h h':Heap} {x e:Addr} {o':HO}
theorem HOk.write (ok : HOk P w H h) (mu : Mut (H x)) (he : e = x ∨ H e = some (.own x)) (k : ∀ b u, b ≠ e → h.get? b = some u → h'.get? b = some u) (heo : ∃ u, h'.get? e = some u)
    (new : ObjOk P w (upd H x o') h' x o') : HOk P w (upd H x o') h' := fun b u q => by
  have nown : ∀ c y, H c = some (.own y) → c ≠ x := fun c y r z => by subst z; rw [r] at mu; exact mu
  have ntup : ∀ c xs, H c = some (.tup xs) → c ≠ x := fun c xs r z => by subst z; rw [r] at mu; exact mu
  by_cases hb : b = x
  · subst hb; rw [upd_same] at q; cases q; exact new
  · rw [upd_ne hb] at q
    by_cases hbe : b = e
    · have q' : H b = some (.own x) := by
        rcases he with z | z
        · exact absurd (hbe.trans z) hb
        · rw [hbe]; exact z
      rw [q] at q'; cases q'
      obtain ⟨v, hv⟩ := heo
      exact ⟨v, by rw [hbe]; exact hv⟩
    · refine (ok b u q).stay (fun c v hc r => k c v ?_ r) (fun c r => by rw [upd_ne (nown c b r)]; exact r) fun c xs r => by rw [upd_ne (ntup c xs r)]; exact r
      grind
end
structure Un (fs ex:List Addr) (H H':Hp) (h h':Heap):Prop where
  keep:∀ b o,h.get? b = some o→H b = none→b ∉ fs→b ∉ ex→h'.get? b = some o
  slot:∀ b o,h.get? b = some o→H b = none→b ∈ fs→b ∉ ex→∃ sl,h'.get? b = some { o with slots:=sl }
  free:∀ b o,h.get? b = some o→H b = none→b ∉ ex→H' b = none
  there:∀ b o,h.get? b = some o→b ∉ ex→∃ o',h'.get? b = some o'
  tups:∀ b xs,H b = some (.tup xs)→H' b = some (.tup xs)
  frzs:∀ b o u,H b = some (.frz o u)→H' b = some (.frz o u)
  tbls:∀ b ps,H b = some (.tbl ps)→∃ more,H' b = some (.tbl (ps ++ more))
section
variable {fs fs' ex ex':List Addr} {H H1 H2:Hp} {h h1 h2 h':Heap} {a x e:Addr} {o:HO}
theorem Un.any (u:Un fs ex H H1 h h1) {b:Addr} {ob:Obj} (q:h.get? b = some ob) (n:H b = none) (hx:b ∉ ex):∃ sl,h1.get? b = some { ob with slots:=sl }:=by
  by_cases hb:b ∈ fs
  · exact u.slot b ob q n hb hx
  · exact ⟨ob.slots,u.keep b ob q n hb hx⟩
theorem Un.kept (k : ∀ b u, h.get? b = some u → h'.get? b = some u) : Un fs ex H H h h' :=
  ⟨fun b ob q _ _ _ => k b ob q, fun b ob q _ _ _ => ⟨ob.slots, k b ob q⟩, fun _ _ _ n _ => n, fun b ob q _ => ⟨ob, k b ob q⟩, fun _ _ q => q, fun _ _ _ q => q, fun _ ps q => ⟨#[], by simp_all⟩⟩
theorem Un.refl:Un fs ex H H h h:=Un.kept fun _ _ q=>q
theorem Un.laid (k:∀ b u,h.get? b = some u→h'.get? b = some u) (hp:h.objs.size ≤ a) (hn:H a = none):Un fs ex H (upd H a o) h h' where
  keep:=fun b u q _ _ _=>k b u q
  slot:=fun b u q _ _ _=>⟨u.slots,k b u q⟩
  free:=fun b u q n _=>by rw [upd_ne (Nat.ne_of_lt (Nat.lt_of_lt_of_le (Heap.lt_size q) hp))]; exact n
  there:=fun b u q _=>⟨u,k b u q⟩
  tups:=fun b xs q=>by rw [upd_ne (ne_of_none q hn)]; exact q
  frzs:=fun b u xs q=>by rw [upd_ne (ne_of_none q hn)]; exact q
  tbls:=fun b ps q=>⟨#[],by rw [upd_ne (ne_of_none q hn),q]; simp⟩
theorem Un.write (mu : Mut (H x)) (he : e = x ∨ H e = some (.own x)) (k : ∀ b u, b ≠ e → h.get? b = some u → h'.get? b = some u) (heo : ∃ u, h'.get? e = some u) : Un fs ex H (upd H x o) h h' := by
  have hx : ∀ b, H b = none → b ≠ x := fun b n z => by subst z; rw [n] at mu; exact mu
  have hb : ∀ b, H b = none → b ≠ e := fun b n z => by simp_all
  have hm : ∀ b u, H b = some u → ¬ Mut (some u) → b ≠ x := fun b u q nm z => by subst z; rw [q] at mu; exact nm mu
  refine ⟨fun b u q n _ _ => k b u (hb b n) q, fun b u q n _ _ => ⟨u.slots, k b u (hb b n) q⟩, fun b u q n _ => by rw [upd_ne (hx b n)]; exact n, fun b u q _ => ?_,
    fun b xs q => by rw [upd_ne (hm b _ q fun z => z)]; exact q, fun b u xs q => by rw [upd_ne (hm b _ q fun z => z)]; exact q, fun b ps q => ⟨#[], by rw [upd_ne (hm b _ q fun z => z), q]; simp⟩⟩
  by_cases hbe : b = e
  · subst hbe; exact heo
  · exact ⟨u, k b u hbe q⟩
end
noncomputable def trk (h:Heap) (H:Hp):List Addr:=(List.range h.objs.size).filter fun a=>(H a).isSome
noncomputable def hidT (h:Heap) (H:Hp):Heap:=PySem.W.hideAll h (trk h H)
theorem hidT_size (h:Heap) (H:Hp):(hidT h H).objs.size = h.objs.size:=PySem.W.hideAll_size _ _
theorem hidT_get {h : Heap} {H : Hp} {b : Addr} {o : Obj} (e : h.get? b = some o) (n : H b = none) : (hidT h H).get? b = some o :=
  PySem.W.hideAll_get _ e fun hm => by
    have q : (H b).isSome = true := (List.mem_filter.mp hm).2
    simp_all
theorem of_hidT {h : Heap} {H : Hp} {b : Addr} {o : Obj} (e : (hidT h H).get? b = some o) : h.get? b = some o ∧ H b = none := by
  have e' : h.get? b = some o := PySem.W.of_hideAll (trk h H) e
  refine ⟨e', ?_⟩
  cases q : H b with
  | none => rfl
  | some x =>
    have hm : b ∈ trk h H := List.mem_filter.mpr ⟨List.mem_range.mpr (Heap.lt_size e'), by simp [q]⟩
    have z : (hidT h H).get? b = none := PySem.W.hideAll_none (trk h H) hm
    grind
noncomputable def allNews (g h:Heap) (L:Addr):List (Addr × Obj):=(List.range h.objs.size).filterMap fun a=>if a = L∨(g.get? a).isSome = true then none else (h.get? a).map fun o=>(a,o)
noncomputable def rest (g h:Heap) (L d:Addr):List (Addr × Obj):=(allNews g h L).filter fun p=>decide (p.1 ≠ d)
end L2
namespace L2
open PySem PySem.Spec PyProof.Rows
structure Mod (K:PySem.W.Frag) (mg:Str→Option Value) (base:Heap):Prop where
  kin:K.In base
  glob:base.Ns mainGlobals mg
  blt:∃ mb,base.Ns builtinsNs mb∧∀ x:Str,x ≠ "__name__"→mb x = bootBuiltins x
  nolimit:base.NoLimit
structure Cx where
  prog:Program
  w:World
  K:PySem.W.Frag
  mg:Str→Option Value
  base:Heap
  A:Around
  N:List Str
  s₀:Shared
  H₀:Hp
  env:Env
  outer:List Env
  stack:List Env
  ex:List Addr
  fn:Str→Bool
  calm:Bool
  pn:List (Addr × Obj)
  xe:Value→Shared→Prop
noncomputable def frs (l:List Env):List Addr:=l.filterMap (·.frame)
noncomputable abbrev Cx.fs (X:Cx):List Addr:=frs X.outer
noncomputable def Vis (sc:Scope) (x:Str):Prop:=sc.names.lookup x = some .local∨sc.names.lookup x = some .cell∨sc.names.lookup x = some .free
noncomputable def Loc (sc:Scope) (x:Str):Prop:=sc.names.lookup x = some .local∨sc.names.lookup x = some .cell
noncomputable def Look (env:Env) (h:Heap) (m:Str→Option Value) (x:Str) (u:Value):Prop :=
  (env.kindOf x = some .local∧m x = some u)∨((env.kindOf x = some .cell∨env.kindOf x = some .free)∧∃ c,env.cells.lookup x = some c∧h.IsCell c (some u))
structure Cx.Ok (X:Cx):Prop where
  mod:Mod X.K X.mg X.base
  kind:X.env.scope.kind = .function
  glob:X.env.globals = mainGlobals
  blt:X.env.builtins = builtinsNs
  above:X.s₀.heap.objs.size ≤ X.env.locals
  inj:∀ x y c,X.env.cells.lookup x = some c→X.env.cells.lookup y = some c→x = y
  has:∀ x,(X.env.kindOf x = some .cell∨X.env.kindOf x = some .free)→∃ c,X.env.cells.lookup x = some c
  cab:∀ x c,X.fn x = true→X.env.cells.lookup x = some c→X.s₀.heap.objs.size ≤ c
  hd:X.calm = true→X.A.handled = none
  frames:X.A.frames = some X.stack
  stk:X.stack = X.outer∨(X.stack = X.env :: X.outer∧X.env.frame = some X.env.locals)
  exf:∀ b ∈ X.ex,b ≠ X.env.locals∧∀ x c,X.env.cells.lookup x = some c→c ≠ b
  bs:∀ b o,X.base.get? b = some o→X.s₀.heap.get? b = some o∧X.H₀ b = none
  bsz:X.base.objs.size ≤ X.s₀.heap.objs.size
  noex:∀ b o,X.base.get? b = some o→b ∉ X.ex
  exfs:∀ b ∈ X.ex,b ∉ X.fs
  funs:X.s₀.heap.FunFrames X.base X.outer
  frf:∀ b ∈ X.fs,X.H₀ b = none
structure Inv (X:Cx) (pins:List (Addr × Obj)) (σ:List (Option V)) (H:Hp) (s:Shared):Prop where
  ok:X.Ok
  os:s.os = X.s₀.os
  bare:AllBare s.gens
  base:Un X.fs X.ex X.H₀ H X.s₀.heap s.heap
  loc:∃ m,s.heap.Ns X.env.locals m∧∀ (i:Nat) (x:Str) (v:V),X.N[i]? = some x→σ[i]? = some (some v)→Vis X.env.scope x→∃ u,RelV v u∧Look X.env s.heap m x u
  cell:∀ x c,X.env.cells.lookup x = some c→∃ v,s.heap.IsCell c v
  free:H X.env.locals = none
  freeC:∀ x c,X.env.cells.lookup x = some c→H c = none
  pin:∀ p ∈ X.pn ++ pins,s.heap.get? p.1 = some p.2∧H p.1 = none∧p.1 ≠ X.env.locals∧p.1 ∉ X.fs∧∀ v,p.2.data ≠ .cell v
  hok:HOk X.prog X.w H s.heap
  len:σ.length = X.N.length
section
variable {X:Cx} {pins:List (Addr × Obj)} {σ:List (Option V)} {H H':Hp} {s:Shared} {h':Heap}
theorem Cx.Ok.nofr (ok : X.Ok) {b : Addr} {o : Obj} (e : X.base.get? b = some o) : b ∉ X.fs := fun hb => by
  have := (ok.funs.mem hb).1
  grind
theorem Inv.bs (I:Inv X pins σ H s):∀ b o,X.base.get? b = some o→s.heap.get? b = some o∧H b = none:=fun b o e =>
  ⟨I.base.keep b o (I.ok.bs b o e).1 (I.ok.bs b o e).2 (I.ok.nofr e) (I.ok.noex b o e),I.base.free b o (I.ok.bs b o e).1 (I.ok.bs b o e).2 (I.ok.noex b o e)⟩
theorem Inv.bk (I:Inv X pins σ H s):∀ b o,X.base.get? b = some o→s.heap.get? b = some o:=fun b o e=>(I.bs b o e).1
theorem Inv.mod (I:Inv X pins σ H s):Mod X.K X.mg X.base:=I.ok.mod
theorem Inv.kIn (I:Inv X pins σ H s):X.K.In s.heap:=I.ok.mod.kin.keeps I.bk
theorem Inv.nolimit (I:Inv X pins σ H s):s.heap.NoLimit:=I.ok.mod.nolimit.keeps I.bk
theorem Inv.fr (I:Inv X pins σ H s):∃ m,Fr X.base X.env.locals s.heap m :=
  let ⟨m,hn,_⟩:=I.loc
  ⟨m,hn,I.bk,Nat.le_trans I.ok.bsz I.ok.above⟩
theorem Inv.lt (I:Inv X pins σ H s):X.env.locals < s.heap.objs.size:=let ⟨_,hn,_⟩:=I.loc; hn.lt
theorem Inv.sz (I:Inv X pins σ H s):X.s₀.heap.objs.size ≤ s.heap.objs.size:=Nat.le_trans I.ok.above (Nat.le_of_lt I.lt)
theorem Inv.nofs (I:Inv X pins σ H s) {a:Addr} (h:s.heap.objs.size ≤ a):a ∉ X.fs:=fun hb=>by
  obtain ⟨_,o,ho,_⟩:=I.ok.funs.mem hb
  exact absurd (Nat.lt_of_lt_of_le (Heap.lt_size ho) (Nat.le_trans I.sz h)) (Nat.lt_irrefl _)
theorem Inv.cne (I : Inv X pins σ H s) : ∀ x c, X.env.cells.lookup x = some c → c ≠ X.env.locals := fun x c e z => by
  obtain ⟨v, o, ho, hd⟩ := I.cell x c e
  obtain ⟨m, ⟨o', es, ep, ho', hd', _⟩, _⟩ := I.loc
  simp_all
theorem Inv.funs (I:Inv X pins σ H s):s.heap.FunFrames X.base X.outer:=by
  have all:∀ (l:List Env),(∀ b ∈ frs l,b ∈ X.fs)→X.s₀.heap.FunFrames X.base l→s.heap.FunFrames X.base l:=by
    intro l
    induction l with
    | nil=>intro _ _; trivial
    | cons env r ih =>
      intro hs hl
      obtain ⟨hk,⟨L,o,hf,hn,ho,hd⟩,hr⟩:=hl
      have hL:L ∈ X.fs:=hs L (by unfold frs; rw [List.filterMap_cons,hf]; exact List.mem_cons_self)
      obtain ⟨sl,e⟩:=I.base.slot L o ho (I.ok.frf L hL) hL fun z=>I.ok.exfs L z hL
      exact ⟨hk,⟨L,_,hf,hn,e,hd⟩,ih (fun b hb=>hs b (by unfold frs; rw [List.filterMap_cons,hf]; exact List.mem_cons_of_mem _ hb)) hr⟩
  exact all X.outer (fun _ hb=>hb) I.ok.funs
theorem Inv.stack (I:Inv X pins σ H s):s.heap.FunFrames X.base X.stack:=by
  rcases I.ok.stk with e | ⟨e,hf⟩
  · rw [e]; exact I.funs
  · rw [e]
    obtain ⟨m,hn,_⟩:=I.loc
    refine .cons (by rw [I.ok.kind]; decide) hf hn ?_ I.funs
    exact Heap.get?_none_of_le (Nat.le_trans I.ok.bsz I.ok.above)
theorem Inv.stkSub (I : Inv X pins σ H s) : ∀ b ∈ frs X.stack, b ∈ X.env.locals :: X.fs := fun b hb => by
  rcases I.ok.stk with e | ⟨e, hf⟩
  · simp_all
  · rw [e] at hb
    unfold frs at hb
    rw [List.filterMap_cons, hf] at hb
    exact hb
theorem Inv.stkFree (I:Inv X pins σ H s):∀ b ∈ frs X.stack,H b = none:=fun b hb=>by
  rcases List.mem_cons.mp (I.stkSub b hb) with e | hb
  · rw [e]; exact I.free
  · obtain ⟨_,o,ho,_⟩:=I.ok.funs.mem hb
    exact I.base.free b o ho (I.ok.frf b hb) fun z=>I.ok.exfs b z hb
theorem Inv.step {g' : Array GenState} {t' : Nat} {d' : Drawn} {ch : List Addr} (I : Inv X pins σ H s)
    (hch:∀ b ∈ ch,(b ∈ X.ex∨X.s₀.heap.objs.size ≤ b)∧b ≠ X.env.locals∧(∀ x c,X.env.cells.lookup x = some c→c ≠ b)∧∀ p ∈ X.pn ++ pins,p.1 ≠ b)
    (keep:∀ b o,b ≠ X.env.locals→b ∉ X.fs→b ∉ ch→s.heap.get? b = some o→H b = none→h'.get? b = some o)
    (slot:∀ b o,b ≠ X.env.locals→b ∈ X.fs→b ∉ ch→s.heap.get? b = some o→H b = none→∃ sl,h'.get? b = some { o with slots:=sl }) (free:∀ b o,b ∉ ch→s.heap.get? b = some o→H b = none→H' b = none)
    (there:∀ b o,b ∉ ch→s.heap.get? b = some o→∃ o',h'.get? b = some o')
    (tups:∀ b xs,H b = some (.tup xs)→H' b = some (.tup xs)) (frzs:∀ b o u,H b = some (.frz o u)→H' b = some (.frz o u)) (tbls:∀ b ps,H b = some (.tbl ps)→∃ more,H' b = some (.tbl (ps ++ more)))
    (ns:∀ m,s.heap.Ns X.env.locals m→h'.Ns X.env.locals m) (hok:HOk X.prog X.w H' h') (hg:AllBare g') :
    Inv X pins σ H' { s with heap:=h',gens:=g',drawn:=d',toks:=t' }:=by
  have neL:∀ b o,X.s₀.heap.get? b = some o→b ≠ X.env.locals:=fun b o e=>Nat.ne_of_lt (Nat.lt_of_lt_of_le (Heap.lt_size e) I.ok.above)
  have neC:∀ b o,X.s₀.heap.get? b = some o→b ∉ X.ex→b ∉ ch:=fun b o e hx hb=>by
    rcases (hch b hb).1 with z | z
    · exact hx z
    · exact absurd (Nat.lt_of_lt_of_le (Heap.lt_size e) z) (Nat.lt_irrefl _)
  have cellK:∀ x c,X.env.cells.lookup x = some c→∀ v,s.heap.IsCell c v→h'.IsCell c v:=fun x c e v ⟨o,ho,hd⟩=>by
    have nch:c ∉ ch:=fun z=>(hch c z).2.2.1 x c e rfl
    by_cases hc:c ∈ X.fs
    · obtain ⟨sl,q⟩:=slot c o (I.cne x c e) hc nch ho (I.freeC x c e)
      exact ⟨_,q,hd⟩
    · exact ⟨o,keep c o (I.cne x c e) hc nch ho (I.freeC x c e),hd⟩
  refine ⟨I.ok,I.os,hg,⟨fun b o e n hb hx=>?_,fun b o e n hb hx=>?_,fun b o e n hx=>?_,fun b o e hx=>?_,fun b xs e=>tups b xs (I.base.tups b xs e),fun b o xs e=>frzs b o xs (I.base.frzs b o xs e),fun b ps e=>?_⟩,?_,fun x c e=>?_,?_,fun x c e=>?_,fun p hp=>?_,hok,I.len⟩
  · exact keep b o (neL b o e) hb (neC b o e hx) (I.base.keep b o e n hb hx) (I.base.free b o e n hx)
  · obtain ⟨sl,e1⟩:=I.base.slot b o e n hb hx
    obtain ⟨sl',e2⟩:=slot b _ (neL b o e) hb (neC b o e hx) e1 (I.base.free b o e n hx)
    exact ⟨sl',e2⟩
  · obtain ⟨o',e1⟩:=I.base.there b o e hx
    exact free b o' (neC b o e hx) e1 (I.base.free b o e n hx)
  · obtain ⟨o',e1⟩:=I.base.there b o e hx
    exact there b o' (neC b o e hx) e1
  · obtain ⟨m1,e1⟩:=I.base.tbls b ps e
    obtain ⟨m2,e2⟩:=tbls b _ e1
    exact ⟨m1 ++ m2,by rw [e2,Array.append_assoc]⟩
  · obtain ⟨m,hn,hl⟩:=I.loc
    refine ⟨m,ns m hn,fun i x v e1 e2 e3=>?_⟩
    obtain ⟨u,r,l⟩:=hl i x v e1 e2 e3
    refine ⟨u,r,?_⟩
    rcases l with l | ⟨k,c,e,z⟩
    · exact .inl l
    · exact .inr ⟨k,c,e,cellK x c e _ z⟩
  · obtain ⟨v,z⟩:=I.cell x c e
    exact ⟨v,cellK x c e v z⟩
  · obtain ⟨m,⟨o,_,_,ho,_⟩,_⟩:=I.loc
    exact free _ o (fun z=>(hch _ z).2.1 rfl) ho I.free
  · obtain ⟨v,o,ho,hd⟩:=I.cell x c e
    exact free c o (fun z=>(hch c z).2.2.1 x c e rfl) ho (I.freeC x c e)
  · obtain ⟨e,n,ne,nf,d⟩:=I.pin p hp
    have nch:p.1 ∉ ch:=fun z=>(hch p.1 z).2.2.2 p hp rfl
    exact ⟨keep p.1 p.2 ne nf nch e n,free p.1 p.2 nch e n,ne,nf,d⟩
theorem Inv.un {t':Nat} (I:Inv X pins σ H s) (u:Un X.fs [] H H' s.heap h') (hok:HOk X.prog X.w H' h'):Inv X pins σ H' { s with heap:=h',toks:=t' }:=by
  obtain ⟨m,⟨o,es,ep,ho,r⟩,_⟩:=id I.loc
  obtain ⟨sl,hL⟩:=u.any ho I.free (by simp)
  exact I.step (g':=s.gens) (d':=s.drawn) (ch:=[]) (fun _ z=>nomatch z) (fun b o _ hb _ e n=>u.keep b o e n hb (by simp)) (fun b o _ hb _ e n=>u.slot b o e n hb (by simp)) (fun b o _ e n=>u.free b o e n (by simp)) (fun b o _ e=>u.there b o e (by simp)) u.tups u.frzs u.tbls (fun m' hm=>by
    obtain ⟨o',es',ep',ho',r'⟩:=hm
    rw [ho] at ho'; cases ho'
    exact ⟨_,es',ep',hL,r'⟩) hok I.bare
theorem Inv.call {g' : Array GenState} {t' : Nat} {d' : Drawn} {ch : List Addr} (I : Inv X pins σ H s) (u : Un (frs X.stack) ch H H' s.heap h') (hok : HOk X.prog X.w H' h') (hg : AllBare g')
    (hch:∀ b ∈ ch,(b ∈ X.ex∨X.s₀.heap.objs.size ≤ b)∧b ≠ X.env.locals∧(∀ x c,X.env.cells.lookup x = some c→c ≠ b)∧∀ p ∈ X.pn ++ pins,p.1 ≠ b) :
    Inv X pins σ H' { s with heap:=h',gens:=g',drawn:=d',toks:=t' }:=by
  obtain ⟨m,⟨o,es,ep,ho,r⟩,_⟩:=id I.loc
  obtain ⟨sl,hL⟩:=u.any ho I.free fun z=>(hch _ z).2.1 rfl
  exact I.step (ch:=ch) hch (fun b o hL hb hc e n=>u.keep b o e n (fun z=>(List.mem_cons.mp (I.stkSub b z)).elim hL hb) hc) (fun b o _ _ hc e n=>u.any e n hc) (fun b o hc e n=>u.free b o e n hc) (fun b o hc e=>u.there b o e hc) u.tups u.frzs u.tbls (fun m' hm=>by
    obtain ⟨o',es',ep',ho',r'⟩:=hm
    rw [ho] at ho'; cases ho'
    exact ⟨_,es',ep',hL,r'⟩) hok hg
theorem Inv.turned {t' : Nat} {it : Addr} (I : Inv X pins σ H s) (k : ∀ b o, b ≠ it → s.heap.get? b = some o → h'.get? b = some o) (hn : H it = none) (hL : it ≠ X.env.locals)
    (h1:it ∈ X.ex∨X.s₀.heap.objs.size ≤ it) (h2:∀ x c,X.env.cells.lookup x = some c→c ≠ it) (h3:∀ p ∈ X.pn ++ pins,p.1 ≠ it):Inv X pins σ H { s with heap:=h',toks:=t' }:=by
  have nit:∀ b u,H b = some u→b ≠ it:=fun b u e z=>by rw [z,hn] at e; cases e
  refine I.step (g':=s.gens) (d':=s.drawn) (ch:=[it]) (fun b hb=>?_) (fun b o _ _ hc e _=>k b o (fun z=>hc (by simp [z])) e) (fun b o _ _ hc e _=>⟨o.slots,k b o (fun z=>hc (by simp [z])) e⟩) (fun _ _ _ _ n=>n)
    (fun b o hc e=>⟨o,k b o (fun z=>hc (by simp [z])) e⟩) (fun _ _ e=>e) (fun _ _ _ e=>e) (fun b ps e=>⟨#[],by rw [e]; simp⟩) (fun m hm=>?_) (fun b u e=>?_) I.bare
  · have e:b = it:=by simpa using hb
    subst e
    exact ⟨h1,hL,h2,h3⟩
  · obtain ⟨o,es,ep,ho,r⟩:=hm
    exact ⟨o,es,ep,k _ o (Ne.symm hL) ho,r⟩
  · refine (I.hok b u e).stay (fun c v hc q=>k c v ?_ q) (fun _ q=>q) fun _ _ q=>q
    rcases hc with z | z
    · rw [z]; exact nit b u e
    · exact nit c _ z
theorem Inv.tok (I:Inv X pins σ H s) (t:Nat):Inv X pins σ H { s with toks:=t }:=I.un (h':=s.heap) (t':=t) Un.refl I.hok
theorem Inv.kept {t':Nat} (I:Inv X pins σ H s) (k:∀ b u,s.heap.get? b = some u→h'.get? b = some u):Inv X pins σ H { s with heap:=h',toks:=t' }:=I.un (Un.kept k) (I.hok.kept k)
theorem Inv.laid {a : Addr} {o : HO} {t' : Nat} (I : Inv X pins σ H s) (k : ∀ b u, s.heap.get? b = some u → h'.get? b = some u) (hp : s.heap.objs.size ≤ a) (new : ObjOk X.prog X.w (upd H a o) h' a o) :
    Inv X pins σ (upd H a o) { s with heap:=h',toks:=t' }:=I.un (Un.laid k hp (I.hok.fresh hp)) (I.hok.laid k hp new)
theorem Inv.write {x e : Addr} {o : HO} {t' : Nat} (I : Inv X pins σ H s) (mu : Mut (H x)) (he : e = x ∨ H e = some (.own x)) (k : ∀ b u, b ≠ e → s.heap.get? b = some u → h'.get? b = some u) (heo : ∃ u, h'.get? e = some u)
    (new:ObjOk X.prog X.w (upd H x o) h' x o):Inv X pins σ (upd H x o) { s with heap:=h',toks:=t' }:=I.un (Un.write mu he k heo) (I.hok.write mu he k heo new)
theorem Inv.pins_of {pins':List (Addr × Obj)} (I:Inv X pins σ H s) (h:∀ p ∈ pins',s.heap.get? p.1 = some p.2∧H p.1 = none∧p.1 ≠ X.env.locals∧p.1 ∉ X.fs∧∀ v,p.2.data ≠ .cell v):Inv X pins' σ H s :=
  ⟨I.ok,I.os,I.bare,I.base,I.loc,I.cell,I.free,I.freeC,fun p hp=>(List.mem_append.mp hp).elim (fun z=>I.pin p (List.mem_append_left _ z)) (h p),I.hok,I.len⟩
theorem nodup_ix {N:List Str} (hN:N.Nodup) {i j:Nat} {x:Str} (a:N[i]? = some x) (b:N[j]? = some x):i = j:=by
  obtain ⟨h1,e1⟩:=List.getElem?_eq_some_iff.mp a
  obtain ⟨h2,e2⟩:=List.getElem?_eq_some_iff.mp b
  exact (List.getElem_inj hN).mp (e1.trans e2.symm)
theorem store_ok2 {M : Model} {A : Around} {E : Value → Shared → Prop} {i : Nat} {x : Str} {v : V} {u : Value} {Q : Unit → Shared → Prop} (I : Inv X pins σ H s) (hN : X.N.Nodup) (hi : X.N[i]? = some x) (hx : Loc X.env.scope x) (r : RelV v u)
    (h:∀ s',Inv X pins (σ.set i (some v)) H s'→(∃ a,Heap.SameBut a s.heap s'.heap∧(a = X.env.locals∨X.env.cells.lookup x = some a))→Q () s') (hf:X.fn x = true∨X.env.scope.names.lookup x = some .local:=by first | exact .inl rfl | exact .inr rfl | assumption):wpAny M A (storeName X.env x u) Q E s:=by
  obtain ⟨m,hn,hl⟩:=id I.loc
  have hcls:(X.env.scope.kind == .class || (X.env.scope.kind == .module && X.env.locals != X.env.globals)) = false:=by rw [I.ok.kind]; rfl
  have hiσ:i < σ.length:=by rw [I.len]; exact (List.getElem?_eq_some_iff.mp hi).1
  have cne:=I.cne
  have tracked:∀ {a:Addr} {h':Heap},(∃ o,s.heap.get? a = some o∧H a = none)→Heap.SameBut a s.heap h'→HOk X.prog X.w H h':=fun {a h'} ha hs b ob e=>by
    obtain ⟨_,_,hfree⟩:=ha
    refine (I.hok b ob e).stay (fun c w' hc q=>(hs.2 c ?_).trans q) (fun _ q=>q) fun _ _ q=>q
    rintro rfl
    rcases hc with rfl | hc
    · rw [hfree] at e; cases e
    · rw [hfree] at hc; cases hc
  rcases hx with hk | hk
  · refine wpAny_storeName_local hk hn (fun h' hn' hs=>?_) hcls
    obtain ⟨oL,_,_,hoL,_⟩:=id hn
    refine h _ ⟨I.ok,I.os,I.bare,⟨fun b o e n hb hx=>?_,fun b o e n hb hx=>?_,I.base.free,fun b o e hx=>?_,I.base.tups,I.base.frzs,I.base.tbls⟩,⟨_,hn',fun j y v' e1 e2 e3=>?_⟩,fun y c e=>?_,I.free,I.freeC,fun p hp=>?_,tracked ⟨oL,hoL,I.free⟩ hs,by simpa using I.len⟩ ⟨_,hs,.inl rfl⟩
    · exact (hs.2 b (Nat.ne_of_lt (Nat.lt_of_lt_of_le (Heap.lt_size e) I.ok.above))).trans (I.base.keep b o e n hb hx)
    · obtain ⟨sl,e1⟩:=I.base.slot b o e n hb hx
      exact ⟨sl,(hs.2 b (Nat.ne_of_lt (Nat.lt_of_lt_of_le (Heap.lt_size e) I.ok.above))).trans e1⟩
    · obtain ⟨o',e1⟩:=I.base.there b o e hx
      exact ⟨o',(hs.2 b (Nat.ne_of_lt (Nat.lt_of_lt_of_le (Heap.lt_size e) I.ok.above))).trans e1⟩
    · by_cases hj:j = i
      · subst hj
        rw [hi] at e1; cases e1
        rw [List.getElem?_set_self hiσ] at e2
        cases e2
        exact ⟨u,r,.inl ⟨hk,by simp⟩⟩
      · rw [List.getElem?_set_ne (Ne.symm hj)] at e2
        obtain ⟨u',r',q⟩:=hl j y v' e1 e2 e3
        refine ⟨u',r',?_⟩
        rcases q with ⟨k,e⟩ | ⟨k,c,e,z⟩
        · refine .inl ⟨k,?_⟩
          have:y ≠ x:=fun e=>hj (nodup_ix hN e1 (e ▸ hi))
          simp [this,e]
        · exact .inr ⟨k,c,e,z.sameBut hs (cne y c e)⟩
    · obtain ⟨w',z⟩:=I.cell y c e
      exact ⟨w',z.sameBut hs (cne y c e)⟩
    · obtain ⟨e,n,ne,nf,d⟩:=I.pin p hp
      exact ⟨(hs.2 p.1 ne).trans e,n,ne,nf,d⟩
  · have hfn : X.fn x = true := by
      rcases hf with z | z
      · exact z
      · rw [z] at hk; cases hk
    obtain ⟨c,hc⟩:=I.ok.has x (.inl hk)
    obtain ⟨w',z⟩:=I.cell x c hc
    refine wpAny_storeName_cell I.ok.kind hk hc z (fun h' hc' hs=>?_)
    obtain ⟨oc,hoc,hocd⟩:=id z
    refine h { s with heap:=h' } ⟨I.ok,I.os,I.bare,⟨fun b o e n hb hx=>?_,fun b o e n hb hx=>?_,I.base.free,fun b o e hx=>?_,I.base.tups,I.base.frzs,I.base.tbls⟩,⟨m,hn.sameBut hs (Ne.symm (cne x c hc)),fun j y v' e1 e2 e3=>?_⟩,fun y c' e=>?_,I.free,I.freeC,fun p hp=>?_,tracked ⟨oc,hoc,I.freeC x c hc⟩ hs,by simpa using I.len⟩ ⟨c,hs,.inr hc⟩
    · exact (hs.2 b (Nat.ne_of_lt (Nat.lt_of_lt_of_le (Heap.lt_size e) (I.ok.cab x c hfn hc)))).trans (I.base.keep b o e n hb hx)
    · obtain ⟨sl,e1⟩:=I.base.slot b o e n hb hx
      exact ⟨sl,(hs.2 b (Nat.ne_of_lt (Nat.lt_of_lt_of_le (Heap.lt_size e) (I.ok.cab x c hfn hc)))).trans e1⟩
    · obtain ⟨o',e1⟩:=I.base.there b o e hx
      exact ⟨o',(hs.2 b (Nat.ne_of_lt (Nat.lt_of_lt_of_le (Heap.lt_size e) (I.ok.cab x c hfn hc)))).trans e1⟩
    · by_cases hj:j = i
      · subst hj
        rw [hi] at e1; cases e1
        rw [List.getElem?_set_self hiσ] at e2
        cases e2
        exact ⟨u,r,.inr ⟨.inl hk,c,hc,hc'⟩⟩
      · rw [List.getElem?_set_ne (Ne.symm hj)] at e2
        obtain ⟨u',r',q⟩:=hl j y v' e1 e2 e3
        refine ⟨u',r',?_⟩
        rcases q with q | ⟨k,c',e,z'⟩
        · exact .inl q
        · refine .inr ⟨k,c',e,z'.sameBut hs ?_⟩
          rintro rfl
          exact hj (nodup_ix hN e1 (I.ok.inj _ _ _ e hc ▸ hi))
    · by_cases hcc:c' = c
      · subst hcc; exact ⟨_,hc'⟩
      · obtain ⟨w2,z2⟩:=I.cell y c' e
        exact ⟨w2,z2.sameBut hs hcc⟩
    · obtain ⟨e,n,ne,nf,d⟩:=I.pin p hp
      refine ⟨(hs.2 p.1 ?_).trans e,n,ne,nf,d⟩
      intro q
      rw [q,hoc] at e
      have q':oc = p.2:=Option.some.inj e
      exact d w' (by rw [← q']; exact hocd)
theorem store_ok {M : Model} {A : Around} {E : Value → Shared → Prop} {i : Nat} {x : Str} {v : V} {u : Value} {Q : Unit → Shared → Prop} (I : Inv X pins σ H s) (hN : X.N.Nodup) (hi : X.N[i]? = some x) (hx : Loc X.env.scope x) (r : RelV v u)
    (h:∀ s',Inv X pins (σ.set i (some v)) H s'→Q () s') (hf:X.fn x = true∨X.env.scope.names.lookup x = some .local:=by first | exact .inl rfl | exact .inr rfl | assumption):wpAny M A (storeName X.env x u) Q E s :=
  store_ok2 I hN hi hx r (fun s' I' _=>h s' I') hf
theorem Inv.call' {s' : Shared} {ch : List Addr} (I : Inv X pins σ H s) (ho : s'.os = s.os) (u : Un (frs X.stack) ch H H' s.heap s'.heap) (hok : HOk X.prog X.w H' s'.heap) (hg : AllBare s'.gens)
    (hch:∀ b ∈ ch,(b ∈ X.ex∨X.s₀.heap.objs.size ≤ b)∧b ≠ X.env.locals∧(∀ x c,X.env.cells.lookup x = some c→c ≠ b)∧∀ p ∈ X.pn ++ pins,p.1 ≠ b):Inv X pins σ H' s':=by
  obtain ⟨h',g',d',t',o'⟩:=s'
  have e:o' = s.os:=ho
  subst e
  exact I.call (g':=g') (t':=t') (d':=d') u hok hg hch
end
noncomputable abbrev XK:=Value→Option Addr→Hp→Prop
noncomputable abbrev St:=List (Option V)
noncomputable abbrev VK:=V→Hp→Prop
noncomputable abbrev TE:=St→Hp→VK→Prop
noncomputable abbrev TT:=St→Hp→(Bool→Hp→Prop)→Prop
noncomputable abbrev TA:=St→Hp→(List V→Hp→Prop)→Prop
structure Ends where
  nx:St→Hp→Prop
  rt:VK
  bk:St→Hp→Prop:=fun _ _=>False
  ct:St→Hp→Prop:=fun _ _=>False
noncomputable abbrev TS:=Ends→St→Hp→Prop
inductive EP (X:Cx) (pins:List (Addr × Obj)) (σ:St) (Q:VK) (u:Value) (s':Shared) : Prop | mk (v : _) (H' : _) : (Inv X pins σ H' s') → RelV v u → (Q v H') → EP X pins σ Q u s'
noncomputable def TP (X:Cx) (pins:List (Addr × Obj)) (σ:St) (Q:Bool→Hp→Prop) (b:Bool) (s':Shared):Prop:=∃ H',Inv X pins σ H' s'∧Q b H'
inductive AP (X:Cx) (pins:List (Addr × Obj)) (σ:St) (Q:List V→Hp→Prop) (us:List Value) (s':Shared) : Prop | mk (vs : _) (H' : _) : (Inv X pins σ H' s') → Vals vs us → (Q vs H') → AP X pins σ Q us s'
noncomputable def SP (X:Cx) (pins:List (Addr × Obj)) (D:Ends) (f:Flow) (s':Shared):Prop :=
  match f with
  | .next=>∃ σ' H',Inv X pins σ' H' s'∧D.nx σ' H'
  | .brk=>∃ σ' H',Inv X pins σ' H' s'∧D.bk σ' H'
  | .cont=>∃ σ' H',Inv X pins σ' H' s'∧D.ct σ' H'
  | .ret u=>∃ v σ' H',Inv X pins σ' H' s'∧RelV v u∧D.rt v H'
noncomputable def PE (X:Cx) (e:Expr) (t:TE):Prop :=
  ∀ (pins:List (Addr × Obj)) (s:Shared) (σ:St) (H:Hp) (Q:VK),Inv X pins σ H s→t σ H Q→wpAny (model X.prog X.w) X.A (eval e X.env) (EP X pins σ Q) X.xe s
noncomputable def PT (X:Cx) (e:Expr) (t:TT):Prop :=
  ∀ (pins:List (Addr × Obj)) (s:Shared) (σ:St) (H:Hp) (Q:Bool→Hp→Prop),Inv X pins σ H s→t σ H Q→wpAny (model X.prog X.w) X.A (isTrue e X.env (eval e X.env)) (TP X pins σ Q) X.xe s
noncomputable def PW (X:Cx) (e:Expr) (t:TT):Prop :=
  ∀ (whole:Sem Value) (pins:List (Addr × Obj)) (s:Shared) (σ:St) (H:Hp) (Q:Bool→Hp→Prop),Inv X pins σ H s→t σ H Q→wpAny (model X.prog X.w) X.A (isTrue e X.env whole) (TP X pins σ Q) X.xe s
theorem PW.pt {X:Cx} {e:Expr} {t:TT} (h:PW X e t):PT X e t:=h _
noncomputable def PA (X:Cx) (es:List Expr) (t:TA):Prop :=
  ∀ (pos:Pos) (pins:List (Addr × Obj)) (s:Shared) (σ:St) (H:Hp) (Q:List V→Hp→Prop),Inv X pins σ H s→t σ H Q→wpAny (model X.prog X.w) X.A (spliced (backTo pos (starEach es X.env))) (AP X pins σ Q) X.xe s
noncomputable def PS (X:Cx) (st:Stmt) (t:TS):Prop :=
  ∀ (pins:List (Addr × Obj)) (s:Shared) (σ:St) (H:Hp) (D:Ends),Inv X pins σ H s→t D σ H→wpAny (model X.prog X.w) X.A (exec st X.env) (SP X pins D) X.xe s
noncomputable def PSs (X:Cx) (st:List Stmt) (t:TS):Prop :=
  ∀ (pins:List (Addr × Obj)) (s:Shared) (σ:St) (H:Hp) (D:Ends),Inv X pins σ H s→t D σ H→wpAny (model X.prog X.w) X.A (execs st X.env) (SP X pins D) X.xe s
theorem thn {α:Type} {t:Sem α} {Q Q':α→Shared→Prop} {M:Model} {A:Around} {E:Value→Shared→Prop} {s:Shared} (h:wpAny M A t Q E s) (hQ:∀ a s,Q a s→Q' a s):wpAny M A t Q' E s:=wpAny_mono h hQ fun _ _ x=>x
end L2
namespace L2
open PySem PySem.Spec PyProof.Rows
section
variable {X:Cx}
inductive tVar (i:Nat) (σ : St) (H : Hp) (Q : VK) : Prop | mk (v : _) : (σ[i]? = some (some v)) → Q v H → tVar i σ H Q
noncomputable def tC (v:V):TE:=fun _ H Q=>Q v H
theorem pe_var {i:Nat} {x:Str} {pos:Pos} (hN:X.N[i]? = some x) (hv:Vis X.env.scope x) (hd:(x == ("__debug__":Str)) = false:=by decide) (hcd:(x == ("__classdict__":Str)) = false:=by decide):PE X (.Name x pos) (tVar i):=by
  intro pins s σ H Q I h
  obtain ⟨v,e,h⟩:=h
  obtain ⟨m,hn,hl⟩:=I.loc
  obtain ⟨u,r,l⟩:=hl i x v hN e hv
  have fin:EP X pins σ Q u s:=⟨v,H,I,r,h⟩
  rcases l with ⟨hk,hm⟩ | ⟨hk,c,hc,hcell⟩
  · exact wpAny_Name (wpAny_loadName_local I.ok.kind hk hn hm fin) hd
  · rcases hk with hk | hk
    · exact wpAny_Name (wpAny_loadName_cell I.ok.kind hk hc hcell fin) hd
    · exact wpAny_Name (wpAny_loadName_free I.ok.kind hk hc hcell fin hcd) hd
theorem pe_int {i j pos}:PE X (.Constant (.int i) j pos) (tC (.int i)):=fun _ _ _ H _ I h=>wpAny_Constant_int ⟨.int i,H,I.tok _,⟨_,rfl⟩,h⟩
theorem pe_bl {b j pos}:PE X (.Constant (.bool b) j pos) (tC (.bl b)):=fun _ _ _ H _ I h=>Constant_bool ⟨.bl b,H,I,rfl,h⟩
theorem pe_non {j pos}:PE X (.Constant .none j pos) (tC .non):=fun _ _ _ H _ I h=>Constant_none ⟨.non,H,I,rfl,h⟩
theorem pe_str {x j pos}:PE X (.Constant (.str x) j pos) (tC (.str x)):=fun _ _ _ H _ I h=>Calls.Constant_str ⟨.str x,H,I.tok _,⟨_,rfl⟩,h⟩
noncomputable def Gl (X:Cx) (x:Str):Prop:=X.env.kindOf x = some .globalImplicit
theorem ld_glob {E : Value → Shared → Prop} {pins : List (Addr × Obj)} {s : Shared} {σ : St} {H : Hp} {x : Str} {u : Value} {pos : Pos} {Q : Value → Shared → Prop} (I : Inv X pins σ H s) (hg : Gl X x) (hm : X.mg x = some u) (h : Q u s)
    (hd:(x == ("__debug__":Str)) = false:=by decide):wpAny (model X.prog X.w) X.A (eval (.Name x pos) X.env) Q E s :=
  Calls.Name_function_global I.ok.kind hg (Calls.loadGlobal_global (by rw [I.ok.glob]; exact I.mod.glob.keeps I.bk) hm h) hd
theorem ld_blt {E : Value → Shared → Prop} {pins : List (Addr × Obj)} {s : Shared} {σ : St} {H : Hp} {x : Str} {u : Value} {pos : Pos} {Q : Value → Shared → Prop} (I : Inv X pins σ H s) (hg : Gl X x) (hm : X.mg x = none) (hv : bootBuiltins x = some u) (h : Q u s)
    (hn:x ≠ "__name__":=by decide) (hd:(x == ("__debug__":Str)) = false:=by decide):wpAny (model X.prog X.w) X.A (eval (.Name x pos) X.env) Q E s:=by
  obtain ⟨mb,h1,h2⟩:=I.mod.blt
  exact Calls.Name_function_global I.ok.kind hg (Calls.loadGlobal_builtin (by rw [I.ok.glob]; exact I.mod.glob.keeps I.bk) hm (by rw [I.ok.blt]; exact h1.keeps I.bk) ((h2 x hn).trans hv) h) hd
theorem pe_glob {x:Str} {v:V} {u:Value} {pos:Pos} (hg:Gl X x) (hm:X.mg x = some u) (r:RelV v u) (hd:(x == ("__debug__":Str)) = false:=by decide):PE X (.Name x pos) (tC v) :=
  fun _ _ _ H _ I h=>ld_glob I hg hm ⟨v,H,I,r,h⟩ hd
theorem pe_bltn {x:Str} {v:V} {u:Value} {pos:Pos} (hg:Gl X x) (hm:X.mg x = none) (hv:bootBuiltins x = some u) (r:RelV v u) (hn:x ≠ "__name__":=by decide) (hd:(x == ("__debug__":Str)) = false:=by decide):PE X (.Name x pos) (tC v) :=
  fun _ _ _ H _ I h=>ld_blt I hg hm hv ⟨v,H,I,r,h⟩ hn hd
variable {a b:Expr} {ta tb:TE} {pos:Pos}
noncomputable def tB (t:TE):TT:=fun σ H Q=>t σ H fun x H1=>∃ c,x = .bl c∧Q c H1
theorem pt_val {e:Expr} {t:TE} (h:PE X e t) (he:∀ whole,isTrue e X.env whole = (do let v ← whole; standAt e.pos; holding [v] (truthy v)):=by intro _; rfl):PT X e (tB t):=by
  intro pins s σ H Q I hw
  refine isTrue_plain (thn (h pins s σ H _ I hw) fun v s1 ⟨x,H1,I1,r1,q1⟩=>?_) (he _)
  obtain ⟨d,rfl,q⟩:=q1
  cases r1
  exact wpAny_truthy_bool ⟨H1,I1,q⟩
variable {tA tB':TT} {rest:List Expr}
noncomputable def tAnd (t u:TT):TT:=fun σ H Q=>t σ H fun c H1=>if c = true then u σ H1 Q else Q false H1
noncomputable def tOr (t u:TT):TT:=fun σ H Q=>t σ H fun c H1=>if c = true then Q true H1 else u σ H1 Q
noncomputable def tNot (t:TT):TT:=fun σ H Q=>t σ H fun c H1=>Q (!c) H1
theorem pw_and1 (ha:PT X a tA):PW X (.BoolOp .And [a] pos) tA:=by
  intro wh pins s σ H Q I h
  refine isTrue_and (thn (ha pins s σ H Q I h) fun c s1 e=>?_)
  cases c with
  | true=>exact isTrue_and_nil e
  | false=>exact e
theorem pw_or1 (ha:PT X a tA):PW X (.BoolOp .Or [a] pos) tA:=by
  intro wh pins s σ H Q I h
  refine isTrue_or (thn (ha pins s σ H Q I h) fun c s1 e=>?_)
  cases c with
  | false=>exact isTrue_or_nil e
  | true=>exact e
theorem pw_and (ha:PT X a tA) (hb:PW X (.BoolOp .And (b :: rest) pos) tB'):PW X (.BoolOp .And (a :: b :: rest) pos) (tAnd tA tB'):=by
  intro wh pins s σ H Q I h
  refine isTrue_and (thn (ha pins s σ H _ I h) fun c s1 ⟨H1,I1,q1⟩=>?_)
  cases c with
  | true=>exact hb wh pins s1 σ H1 Q I1 q1
  | false=>exact ⟨H1,I1,q1⟩
theorem pw_or (ha:PT X a tA) (hb:PW X (.BoolOp .Or (b :: rest) pos) tB'):PW X (.BoolOp .Or (a :: b :: rest) pos) (tOr tA tB'):=by
  intro wh pins s σ H Q I h
  refine isTrue_or (thn (ha pins s σ H _ I h) fun c s1 ⟨H1,I1,q1⟩=>?_)
  cases c with
  | true=>exact ⟨H1,I1,q1⟩
  | false=>exact hb wh pins s1 σ H1 Q I1 q1
theorem pt_not (ha:PT X a tA):PT X (.UnaryOp .Not a pos) (tNot tA):=by
  intro pins s σ H Q I h
  exact isTrue_not (ha pins s σ H (fun c H1=>Q (!c) H1) I h)
noncomputable def tAndV (ta tb:TE):TE:=fun σ H Q=>ta σ H fun x H1=>∃ c,x = .bl c∧if c = true then tb σ H1 Q else Q (.bl false) H1
noncomputable def tOrV (ta tb:TE):TE:=fun σ H Q=>ta σ H fun x H1=>∃ c,x = .bl c∧if c = true then Q (.bl true) H1 else tb σ H1 Q
noncomputable def tNotV (ta:TE):TE:=fun σ H Q=>ta σ H fun x H1=>∃ c,x = .bl c∧Q (.bl (!c)) H1
theorem pe_one {op} {t:TE} (h:PE X a t):PE X (.BoolOp op [a] pos) t:=fun pins s σ H Q I hw=>BoolOp_one (h pins s σ H Q I hw)
theorem pe_and (ha:PE X a ta) (hb:PE X (.BoolOp .And (b :: rest) pos) tb):PE X (.BoolOp .And (a :: b :: rest) pos) (tAndV ta tb):=by
  intro pins s σ H Q I h
  refine BoolOp_and (thn (ha pins s σ H _ I h) fun v s1 ⟨x,H1,I1,r1,q1⟩=>?_)
  obtain ⟨c,rfl,q1⟩:=q1
  cases r1
  refine wpAny_truthy_bool ?_
  cases c with
  | true=>exact hb pins s1 σ H1 Q I1 q1
  | false=>exact ⟨.bl false,H1,I1,rfl,q1⟩
theorem pe_or (ha:PE X a ta) (hb:PE X (.BoolOp .Or (b :: rest) pos) tb):PE X (.BoolOp .Or (a :: b :: rest) pos) (tOrV ta tb):=by
  intro pins s σ H Q I h
  refine BoolOp_or (thn (ha pins s σ H _ I h) fun v s1 ⟨x,H1,I1,r1,q1⟩=>?_)
  obtain ⟨c,rfl,q1⟩:=q1
  cases r1
  refine wpAny_truthy_bool ?_
  cases c with
  | false=>exact hb pins s1 σ H1 Q I1 q1
  | true=>exact ⟨.bl true,H1,I1,rfl,q1⟩
theorem pe_not (ha:PE X a ta):PE X (.UnaryOp .Not a pos) (tNotV ta):=by
  intro pins s σ H Q I h
  refine UnaryOp_ (thn (ha pins s σ H _ I h) fun v s1 ⟨x,H1,I1,r1,q1⟩=>?_)
  obtain ⟨c,rfl,q1⟩:=q1
  cases r1
  exact not_of (wpAny_truthy_bool ⟨.bl (!c),H1,I1,rfl,q1⟩)
noncomputable def tIf (t:TT) (ta tb:TE):TE:=fun σ H Q=>t σ H fun c H1=>if c = true then ta σ H1 Q else tb σ H1 Q
theorem pe_ifExp {c:Expr} (hc:PT X c tA) (ha:PE X a ta) (hb:PE X b tb):PE X (.IfExp c a b pos) (tIf tA ta tb):=by
  intro pins s σ H Q I h
  refine wpAny_IfExp (thn (hc pins s σ H _ I h) fun d s1 ⟨H1,I1,q1⟩=>?_)
  cases d with
  | true=>exact ha pins s1 σ H1 Q I1 q1
  | false=>exact hb pins s1 σ H1 Q I1 q1
end
end L2
namespace L2
open PySem PySem.Spec PyProof.Rows
noncomputable def SqL (K:PySem.W.Frag) (H:Hp) (a:Addr) (xs:List V):Prop :=
  Rd H a (.lst xs) ∨
    ∃ (o:Obj) (its:Array Value) (n:Nat),K.lookup a = some o∧o.cls = .type "list"∧o.dict = none∧o.data = .seq its n∧its.size ≤ sizeLine∧Vals xs its.toList
noncomputable def SqT (K:PySem.W.Frag) (H:Hp) (a:Addr) (xs:List V):Prop :=
  Rd H a (.tup xs) ∨
    ∃ (o:Obj) (its:Array Value) (n:Nat),K.lookup a = some o∧o.cls = .type "tuple"∧o.data = .seq its n∧its.size ≤ sizeLine∧Vals xs its.toList
noncomputable def absV:Value→Option V
  | .none=>some .non
  | .bool b=>some (.bl b)
  | .int i _=>some (.int i)
  | .str x _=>some (.str x)
  | .bytes b _=>some (.byt b)
  | .float b _=>some (.flt b)
  | .ref a=>some (.ref a)
  | .type n=>some (.ty n)
  | _=>none
theorem RelV.abs {x:V} {u:Value} (r:RelV x u):absV u = some x:=by
  cases x with
  | non=>cases r; rfl
  | bl _=>cases r; rfl
  | int _=>obtain ⟨t,rfl⟩:=r; rfl
  | str _=>obtain ⟨t,rfl⟩:=r; rfl
  | byt _=>obtain ⟨t,rfl⟩:=r; rfl
  | flt _=>obtain ⟨t,rfl⟩:=r; rfl
  | ref _=>cases r; rfl
  | ty _=>cases r; rfl
theorem RelV.inj {x y:V} {u:Value} (r:RelV x u) (q:RelV y u):x = y:=Option.some.inj (r.abs.symm.trans q.abs)
theorem Vals.inj:∀ {xs ys:List V} {us:List Value},Vals xs us→Vals ys us→xs = ys
  | _,_,_,.nil,.nil=>rfl
  | _,_,_,.cons r t,.cons r' t'=>by rw [r.inj r',Vals.inj t t']
section
variable {X:Cx} {pins:List (Addr × Obj)} {σ:St} {H:Hp} {s:Shared} {a:Addr} {xs ys:List V}
theorem SqL.of {K:PySem.W.Frag} (h:H a = some (.lst xs)):SqL K H a xs:=.inl (.inl h)
theorem SqT.of {K:PySem.W.Frag} (h:H a = some (.tup xs)):SqT K H a xs:=.inl (.inl h)
theorem Inv.list (I : Inv X pins σ H s) (h : SqL X.K H a xs) : ∃ its : List Value, Vals xs its ∧ PlainL s.heap a its.toArray ∧ xs.length ≤ sizeLine := by
  rcases h with h | ⟨o, its, n, hk, hc, hd, hs, hz, r⟩
  · obtain ⟨z, its, n, r, e⟩ := h.ok I.hok
    exact ⟨its, r, ⟨_, n, e, rfl, rfl, rfl⟩, z⟩
  · refine ⟨its.toList, r, ⟨o, n, I.kIn a o hk, hc, hd, by omega⟩, ?_⟩
    have e := r.length
    grind
theorem Inv.tuple (I : Inv X pins σ H s) (h : SqT X.K H a xs) : ∃ its : List Value, Vals xs its ∧ IsTup s.heap a its.toArray ∧ xs.length ≤ sizeLine := by
  rcases h with h | ⟨o, its, n, hk, hc, hs, hz, r⟩
  · obtain ⟨z, its, r, p⟩ := h.ok I.hok
    exact ⟨its, r, p, z⟩
  · refine ⟨its.toList, r, ⟨o, I.kIn a o hk, hc, n, by omega⟩, ?_⟩
    have e := r.length
    simp_all
theorem Inv.list_inj (I : Inv X pins σ H s) (h : SqL X.K H a xs) (h' : SqL X.K H a ys) : xs = ys := by
  obtain ⟨its, r, ⟨o, n, e, _, _, d⟩, _⟩ := I.list h
  obtain ⟨its', r', ⟨o', n', e', _, _, d'⟩, _⟩ := I.list h'
  rw [e] at e'; have : its = its' := by simp_all
  subst this
  exact r.inj r'
theorem Inv.tuple_inj (I : Inv X pins σ H s) (h : SqT X.K H a xs) (h' : SqT X.K H a ys) : xs = ys := by
  obtain ⟨its, r, ⟨o, e, _, n, d⟩, _⟩ := I.tuple h
  obtain ⟨its', r', ⟨o', e', _, n', d'⟩, _⟩ := I.tuple h'
  rw [e] at e'; have : its = its' := by simp_all
  subst this
  exact r.inj r'
end
noncomputable abbrev Cx.wish (X:Cx) (E:Value→Shared→Prop):Cx:={ X with xe:=E }
noncomputable abbrev Cx.nox (X:Cx):Cx:=X.wish fun _ _=>False
theorem Cx.Ok.wish {X:Cx} (ok:X.Ok) (E:Value→Shared→Prop):(X.wish E).Ok :=
  ⟨ok.mod,ok.kind,ok.glob,ok.blt,ok.above,ok.inj,ok.has,ok.cab,ok.hd,ok.frames,ok.stk,ok.exf,ok.bs,ok.bsz,ok.noex,ok.exfs,ok.funs,ok.frf⟩
theorem Cx.Ok.unwish {X:Cx} {E:Value→Shared→Prop} (ok:(X.wish E).Ok):X.Ok :=
  ⟨ok.mod,ok.kind,ok.glob,ok.blt,ok.above,ok.inj,ok.has,ok.cab,ok.hd,ok.frames,ok.stk,ok.exf,ok.bs,ok.bsz,ok.noex,ok.exfs,ok.funs,ok.frf⟩
section
variable {X:Cx} {pins:List (Addr × Obj)} {σ:St} {H:Hp} {s:Shared} {E:Value→Shared→Prop}
theorem Inv.wish (I:Inv X pins σ H s) (E:Value→Shared→Prop):Inv (X.wish E) pins σ H s:=⟨I.ok.wish E,I.os,I.bare,I.base,I.loc,I.cell,I.free,I.freeC,I.pin,I.hok,I.len⟩
theorem Inv.unwish (I:Inv (X.wish E) pins σ H s):Inv X pins σ H s:=⟨I.ok.unwish,I.os,I.bare,I.base,I.loc,I.cell,I.free,I.freeC,I.pin,I.hok,I.len⟩
theorem SP.unwish {D:Ends} {f:Flow} {s':Shared} (h:SP (X.wish E) pins D f s'):SP X pins D f s':=by
  cases f with
  | next=>obtain ⟨σ',H',I,q⟩:=h; exact ⟨σ',H',I.unwish,q⟩
  | brk=>obtain ⟨σ',H',I,q⟩:=h; exact ⟨σ',H',I.unwish,q⟩
  | cont=>obtain ⟨σ',H',I,q⟩:=h; exact ⟨σ',H',I.unwish,q⟩
  | ret u=>obtain ⟨v,σ',H',I,r,q⟩:=h; exact ⟨v,σ',H',I.unwish,r,q⟩
theorem PSs.nox {st:List Stmt} {t:TS} (h:PSs X.nox st t):PSs X st t:=fun pins s σ H D I hw =>
  wpAny_mono (h pins s σ H D (I.wish _) hw) (fun _ _ q=>q.unwish) fun _ _ z=>False.elim z
end
section
variable {X:Cx} {st:Stmt} {rest:List Stmt} {t u:TS} {e:Expr} {te:TE} {pos:Pos}
noncomputable def tNext:TS:=fun D σ H=>D.nx σ H
noncomputable def tSeq (t u:TS):TS:=fun D σ H=>t { D with nx:=u D } σ H
theorem pss_nil:PSs X [] tNext:=fun _ _ σ H _ I h=>wpAny_execs_nil ⟨σ,H,I,h⟩
theorem pss_cons (h1:PS X st t) (h2:PSs X rest u):PSs X (st :: rest) (tSeq t u):=by
  intro pins s σ H D I h
  refine wpAny_execs_cons (thn (h1 pins s σ H { D with nx:=u D } I h) fun f s1 q=>?_)
  cases f with
  | next =>
    obtain ⟨σ',H',I',q⟩:=q
    exact h2 pins s1 σ' H' D I' q
  | ret v=>exact q
  | brk=>exact q
  | cont=>exact q
theorem pss_one (h1:PS X st t):PSs X [st] t:=by
  intro pins s σ H D I h
  refine wpAny_execs_cons (thn (h1 pins s σ H D I h) fun f s1 q=>?_)
  cases f with
  | next=>exact wpAny_execs_nil q
  | ret v=>exact q
  | brk=>exact q
  | cont=>exact q
theorem Inv.quiet {pins:List (Addr × Obj)} {σ:St} {H:Hp} {s:Shared} (I:Inv X pins σ H s):interactive X.env = false:=by simp [interactive,I.ok.kind]
noncomputable def tDrop (te:TE):TS:=fun D σ H=>te σ H fun _ H1=>D.nx σ H1
theorem ps_expr (he:PE X e te) (hs:swapsWith e none pos.line X.env = pure false:=by rfl):PS X (.Expr e pos) (tDrop te):=by
  intro pins s σ H D I h
  exact wpAny_Expr_any (thn (he pins s σ H _ I h) fun v s1 ⟨x,H1,I1,r1,q1⟩=>⟨σ,H1,I1,q1⟩) I.quiet hs
noncomputable def tRet (te:TE):TS:=fun D σ H=>te σ H D.rt
theorem ps_ret (he:PE X e te):PS X (.Return (some e) pos) (tRet te):=by
  intro pins s σ H D I h
  exact wpAny_Return_some (thn (he pins s σ H _ I h) fun v s1 ⟨x,H1,I1,r1,q1⟩=>⟨x,σ,H1,I1,r1,q1⟩)
noncomputable def tIfS (c:TT) (t u:TS):TS:=fun D σ H=>c σ H fun b H1=>if b = true then t D σ H1 else u D σ H1
theorem ps_if {c:Expr} {a b:List Stmt} {tc:TT} (hc:PT X c tc) (ha:PSs X a t) (hb:PSs X b u):PS X (.If c a b pos) (tIfS tc t u):=by
  intro pins s σ H D I h
  refine wpAny_If (thn (hc pins s σ H _ I h) fun d s1 ⟨H1,I1,q1⟩=>?_)
  cases d with
  | true=>exact ha pins s1 σ H1 D I1 q1
  | false=>exact hb pins s1 σ H1 D I1 q1
end
noncomputable abbrev TG:=V→St→Hp→(St→Hp→Prop)→Prop
noncomputable abbrev TGs:=List V→St→Hp→(St→Hp→Prop)→Prop
noncomputable def PG (X:Cx) (target:Expr) (t:TG):Prop :=
  ∀ (pins:List (Addr × Obj)) (s:Shared) (σ:St) (H:Hp) (v:V) (u:Value) (Q:St→Hp→Prop),Inv X pins σ H s→RelV v u→t v σ H Q →
    wpAny (model X.prog X.w) X.A (assign target X.env u) (fun _ s'=>∃ σ' H',Inv X pins σ' H' s'∧Q σ' H') X.xe s
noncomputable def PGs (X:Cx) (ts:List Expr) (t:TGs):Prop :=
  ∀ (pins:List (Addr × Obj)) (s:Shared) (σ:St) (H:Hp) (vs:List V) (us:List Value) (Q:St→Hp→Prop),Inv X pins σ H s→Vals vs us→t vs σ H Q →
    wpAny (model X.prog X.w) X.A (assignInOrder ((assignEach ts X.env).map (·.2)) us) (fun _ s'=>∃ σ' H',Inv X pins σ' H' s'∧Q σ' H') X.xe s
section
variable {X:Cx} {pos:Pos}
noncomputable def gName (i:Nat):TG:=fun v σ H Q=>Q (σ.set i (some v)) H
theorem pg_name {i:Nat} {x:Str} (hN:X.N.Nodup) (hi:X.N[i]? = some x) (hx:Loc X.env.scope x) (hf:X.fn x = true∨X.env.scope.names.lookup x = some .local:=by first | exact .inl rfl | exact .inr rfl | assumption):PG X (.Name x pos) (gName i):=by
  intro pins s σ H v u Q I r h
  exact wpAny_assign_Name (store_ok I hN hi hx r (fun s' I'=>⟨_,H,I',h⟩) hf)
noncomputable def gNil:TGs:=fun vs σ H Q=>vs = []∧Q σ H
inductive gCons (t:TG) (u:TGs) (vs : List V) (σ : St) (H : Hp) (Q : St → Hp → Prop) : Prop | mk (v : _) (r : _) : (vs = v :: r) → (t v σ H fun σ' H'=>u r σ' H' Q) → gCons t u vs σ H Q
theorem pgs_nil : PGs X [] gNil := by
  intro pins s σ H vs us Q I r h
  obtain ⟨e, h⟩ := h
  exact assignInOrder_nil ⟨σ, H, I, h⟩
theorem pgs_cons {e : Expr} {es : List Expr} {t : TG} {u : TGs} (h1 : PG X e t) (h2 : PGs X es u)
    (hs:(assignEach (e :: es) X.env).map (·.2) = assign e X.env :: (assignEach es X.env).map (·.2):=by rfl):PGs X (e :: es) (gCons t u):=by
  intro pins s σ H vs us Q I r h
  obtain ⟨v,vr,e1,h⟩:=h
  subst e1
  cases r with
  | cons r rr =>
    rw [hs]
    refine assignInOrder_cons (thn (h1 pins s σ H _ _ _ I r h) fun _ s1 ⟨σ1,H1,I1,q1⟩=>?_)
    exact h2 pins s1 σ1 H1 _ _ Q I1 rr q1
inductive gTup (K:PySem.W.Frag) (n:Nat) (t:TGs) (v : V) (σ : St) (H : Hp) (Q : St → Hp → Prop) : Prop | mk (a : _) (xs : _) : (v = .ref a) → SqT K H a xs → (xs.length = n) → t xs σ H Q → gTup K n t v σ H Q
theorem pg_tup {es : List Expr} {k : Nat} {t : TGs} {n : Nat} (hc : X.calm = true) (h : PGs X es t)
    (hn : (assignEach es X.env).length = n := by rfl) (hst : (assignEach es X.env).findIdx? (·.1) = none := by rfl) : PG X (.Tuple es k pos) (gTup X.K n t) := by
  intro pins s σ H v u Q I r hw
  obtain ⟨a, xs, e1, hq, hl, hw⟩ := hw
  subst e1
  cases r
  obtain ⟨its, rv, ht, hz⟩ := I.tuple hq
  refine assign_Tuple_tuple (I.ok.hd hc) ht (by simp [hn, ← hl, rv.length]) hst fun h' hx => ?_
  have I1 : Inv X pins σ H { s with heap := h' } := I.kept (t' := s.toks) fun b o e => hx b o (Nat.ne_of_lt (Heap.lt_size e)) e
  exact h pins _ σ H xs _ Q I1 (by lia) hw
noncomputable def tAsg (te:TE) (g:TG):TS:=fun D σ H=>te σ H fun x H1=>g x σ H1 D.nx
theorem ps_asg {tg e : Expr} {te : TE} {g : TG} (he : PE X e te) (hg : PG X tg g) (hs : swapsWithSole [tg] e pos.line X.env = pure false := by rfl) (hw : swappedStores [tg] e X.env = pure none := by rfl)
    (h1:(assignEach [tg] X.env).map (·.2) = [assign tg X.env]:=by rfl):PS X (.Assign [tg] e pos) (tAsg te g):=by
  intro pins s σ H D I h
  refine wpAny_Assign_stores (thn (he pins s σ H _ I h) fun v s1 ⟨x,H1,I1,r1,q1⟩=>?_) hs hw
  rw [h1]
  exact thn (hg pins s1 σ H1 x v _ I1 r1 q1) fun _ s2 q=>q
theorem ps_set {i : Nat} {x : Str} {e : Expr} {te : TE} {pos' : Pos} (hN : X.N.Nodup) (hi : X.N[i]? = some x) (hx : Loc X.env.scope x) (he : PE X e te) (hs : swapsWith e (some (.Name x pos')) pos.line X.env = pure false := by rfl) (hf : X.fn x = true ∨ X.env.scope.names.lookup x = some .local := by first | exact .inl rfl | exact .inr rfl | assumption) :
    PS X (.Assign [.Name x pos'] e pos) (tAsg te (gName i)):=by
  intro pins s σ H D I h
  refine wpAny_Assign_Name (thn (he pins s σ H _ I h) fun v s1 ⟨y,H1,I1,r1,q1⟩=>?_) hs
  exact store_ok I1 hN hi hx r1 (fun s2 I2=>⟨_,H1,I2,q1⟩) hf
end
section
variable {X:Cx} {pos:Pos}
inductive tWhile (c:TT) (tb:TS) (D : Ends) (σ : St) (H : Hp) : Prop | mk (W:Nat→St→Hp→Prop) : ((∃ m,W m σ H)) → (∀ m σ H,W m σ H →
  c σ H fun b H1=>if b = true then ∃ N:St→Hp→Prop,(∀ σ' H',N σ' H'→∃ m',m' < m∧W m' σ' H')∧tb { D with nx:=N,ct:=N,bk:=D.nx } σ H1 else D.nx σ H1) → tWhile c tb D σ H
theorem ps_while {c:Expr} {body:List Stmt} {tc:TT} {tb:TS} (hp:PassesOwn (model X.prog X.w) X.A X.env X.xe) (hc:PT X c tc) (hb:PSs X body tb):PS X (.While c body [] pos) (tWhile tc tb):=by
  intro pins s σ H D I h
  obtain ⟨W,⟨m0,w0⟩,turn⟩:=h
  refine wpAny_While (codeAny_whileLoop (fun n s'=>∃ σ' H',Inv X pins σ' H' s'∧W n σ' H') ?_ m0 ⟨σ,H,I,w0⟩)
  rintro n s1 ⟨σ1,H1,I1,w1⟩
  refine wpAny_passesOwn hp (thn (hc pins s1 σ1 H1 _ I1 (turn n σ1 H1 w1)) fun b s2 ⟨H2,I2,q2⟩=>?_)
  cases b with
  | true =>
    obtain ⟨N,hN,q2⟩:=q2
    rw [if_pos rfl]
    refine wpAny_passesOwn hp (thn (hb pins s2 σ1 H2 _ I2 q2) fun f s3 q3=>?_)
    cases f with
    | next =>
      obtain ⟨σ3,H3,I3,n3⟩:=q3
      obtain ⟨m',hm,w3⟩:=hN σ3 H3 n3
      exact ⟨m',hm,σ3,H3,I3,w3⟩
    | cont =>
      obtain ⟨σ3,H3,I3,n3⟩:=q3
      obtain ⟨m',hm,w3⟩:=hN σ3 H3 n3
      exact ⟨m',hm,σ3,H3,I3,w3⟩
    | brk=>exact q3
    | ret v=>exact q3
  | false =>
    rw [if_neg Bool.false_ne_true]
    exact wpAny_execs_nil ⟨σ1,H2,I2,q2⟩
end
structure It where
  go:Nat→Hp→Prop
  yld:Nat→Hp→V→Hp→Prop
  stop:Nat→Hp→Prop
noncomputable def FpOk (X:Cx) (pins:List (Addr × Obj)) (H:Hp) (b:Addr):Prop :=
  H b = none∧b ≠ X.env.locals∧b ∉ X.fs∧(b ∈ X.ex∨X.s₀.heap.objs.size ≤ b)∧(∀ x c,X.env.cells.lookup x = some c→c ≠ b)∧∀ p ∈ X.pn ++ pins,p.1 ≠ b
theorem Inv.fpOk {X : Cx} {pins : List (Addr × Obj)} {σ : St} {H H' : Hp} {s : Shared} {b : Addr} (I : Inv X pins σ H s) (hb : s.heap.objs.size ≤ b) (hn : H' b = none) : FpOk X pins H' b := by
  refine ⟨hn, Nat.ne_of_gt (Nat.lt_of_lt_of_le I.lt hb), I.nofs hb, .inr (Nat.le_trans I.sz hb), fun x c e z => ?_, fun p hp z => ?_⟩
  · obtain ⟨v, q⟩ := I.cell x c e
    exact absurd (Nat.lt_of_lt_of_le q.lt (by simp_all)) (Nat.lt_irrefl _)
  · exact absurd (Nat.lt_of_lt_of_le (Heap.lt_size (I.pin p hp).1) (by simp_all)) (Nat.lt_irrefl _)
structure Turn (P:Program) (w:World) (K:PySem.W.Frag) (tg:Expr) (J:It) (fp:List Addr) (it:Addr) (tn:Nat→Heap→Prop):Prop where
  mem:it ∈ fp
  obj:∀ i h,tn i h→∀ b ∈ fp,∃ o,h.get? b = some o∧∀ v,o.data ≠ .cell v
  keep:∀ i h h',tn i h→(∀ b ∈ fp,∀ o,h.get? b = some o→h'.get? b = some o)→tn i h'
  item:∀ (X:Cx),X.prog = P→X.w = w→X.K = K→X.calm = true→∀ (i:Nat) (pins:List (Addr × Obj)) (s:Shared) (σ:St) (H:Hp) (E:Value→Shared→Prop),Inv X pins σ H s→(∀ b ∈ fp,FpOk X pins H b)→tn i s.heap→J.go i H →
    wpAny (model P w) X.A (pyNext (.ref it)) (fun r s1=>∃ u,r = some u ∧
      wpAny (model P w) X.A (letOwnedTupleGo tg (.ref it) u) (fun _ s2=>∃ x H',Inv X pins σ H' s2∧RelV x u∧J.yld i H x H'∧tn (i + 1) s2.heap∧∀ b ∈ fp,H' b = none) E s1) E s
  done:∀ (X:Cx),X.prog = P→X.w = w→X.K = K→X.calm = true→∀ (i:Nat) (pins:List (Addr × Obj)) (s:Shared) (σ:St) (H:Hp) (E:Value→Shared→Prop),Inv X pins σ H s→(∀ b ∈ fp,FpOk X pins H b)→tn i s.heap→J.stop i H →
    wpAny (model P w) X.A (pyNext (.ref it)) (fun r s1=>r = none∧Inv X pins σ H s1) E s
  self:∀ (A:Around) (i:Nat) (s:Shared) (Q:Value→Shared→Prop) (E:Value→Shared→Prop),tn i s.heap→Q (.ref it) s→wpAny (model P w) A (pyIter (.ref it)) Q E s
noncomputable abbrev TI:=St→Hp→(It→Hp→Prop)→Prop
noncomputable def PIE (X:Cx) (pins:List (Addr × Obj)) (σ:St) (tg:Expr) (R:It→Hp→Prop) (itv:Value) (s2:Shared):Prop :=
  ∃ (it:Addr) (fp:List Addr) (tn:Nat→Heap→Prop) (J:It) (H':Hp),itv = .ref it∧Inv X pins σ H' s2∧Turn X.prog X.w X.K tg J fp it tn∧tn 0 s2.heap∧(∀ b ∈ fp,FpOk X pins H' b)∧R J H'
noncomputable def PI (X:Cx) (tg iter:Expr) (wi:TI):Prop :=
  ∀ (pins:List (Addr × Obj)) (s:Shared) (σ:St) (H:Hp) (R:It→Hp→Prop),Inv X pins σ H s→wi σ H R →
    wpAny (model X.prog X.w) X.A (eval iter X.env) (fun v s1=>wpAny (model X.prog X.w) X.A (pyIter v) (PIE X pins σ tg R) X.xe s1) X.xe s
theorem go_of {M : Model} {A : Around} {E : Value → Shared → Prop} {s : Shared} {tg : Expr} {it : Addr} {u : Value} {o : Obj} {n : String} {vs : Array Value} {Q : Unit → Shared → Prop} (ho : s.heap.get? it = some o) (hc : o.cls = .type n) (hd : o.data = .fields vs)
    (hn:["enumerate","zip","dict_itemiterator","dict_reverseitemiterator","odict_iterator","itertools.zip_longest","itertools.pairwise"].contains n = false) (hQ:Q () s):wpAny M A (letOwnedTupleGo tg (.ref it) u) Q E s:=by
  unfold letOwnedTupleGo
  cases tg <;> first
    | exact wpAny_pure hQ
    | (cases u <;> first
        | exact wpAny_pure hQ
        | (refine wpAny_bind (wpAny_load ho ?_)
           rw [hc,hd]
           show wpAny M A (if (["enumerate","zip","dict_itemiterator","dict_reverseitemiterator","odict_iterator","itertools.zip_longest","itertools.pairwise"].contains n && vs[0]? == some (rawInt _)) = true then _ else _) Q E s
           rw [if_neg (by intro h; rw [hn,Bool.false_and] at h; cases h)]
           exact wpAny_pure hQ))
noncomputable def Itl (K:PySem.W.Frag) (a:Addr):It :=
  ⟨fun i H=>∃ xs x,SqL K H a xs∧xs[i]? = some x,fun i H x H'=>H' = H∧∀ xs,SqL K H a xs→xs[i]? = some x,fun i H=>∃ xs,SqL K H a xs∧xs.length ≤ i⟩
noncomputable def Itt (K:PySem.W.Frag) (a:Addr):It :=
  ⟨fun i H=>∃ xs x,SqT K H a xs∧xs[i]? = some x,fun i H x H'=>H' = H∧∀ xs,SqT K H a xs→xs[i]? = some x,fun i H=>∃ xs,SqT K H a xs∧xs.length ≤ i⟩
noncomputable def Itr (lo:Int) (n:Nat):It:=⟨fun i _=>i < n,fun i H x H'=>H' = H∧x = .int (lo + i),fun i _=>n ≤ i⟩
theorem turn_list {P:Program} {w:World} {K:PySem.W.Frag} {tg:Expr} (a it:Addr):Turn P w K tg (Itl K a) [it] it (fun i h=>h.IsListIter it a i) where
  mem:=by simp
  obj:=fun i h st b hb=>by
    have e:b = it:=by simpa using hb
    subst e
    obtain ⟨o,e,c,d⟩:=st
    exact ⟨o,e,fun v z=>by rw [d] at z; cases z⟩
  keep:=fun i h h' st k=>st.at fun o e=>k it (by simp) o e
  item:=by
    intro X hP hw hK hc i pins s σ H E I hf st hg
    subst hP hw hK
    obtain ⟨xs,x,hq,hx⟩:=hg
    obtain ⟨its,rv,p,hz⟩:=I.list hq
    obtain ⟨u,hu,ru⟩:=rv.get hx
    obtain ⟨f0,f1,f2,f3,f4,f5⟩:=hf it (by simp)
    refine wpAny_pyNext_list_item st p.isList (x:=u) (by simpa using hu) fun h' st' sb=>?_
    have I1:Inv X pins σ H { s with heap:=h' }:=I.turned (t':=s.toks) (fun b o hb e=>(sb.2 b hb).trans e) f0 f1 f3 f4 f5
    obtain ⟨o,e,c,d⟩:=id st'
    exact ⟨u,rfl,go_of (s:={ s with heap:=h' }) e c d (by decide) ⟨x,H,I1,ru,⟨rfl,fun ys hy=>by rw [I.list_inj hy hq]; exact hx⟩,st',fun b hb=>(hf b hb).1⟩⟩
  done:=by
    intro X hP hw hK hc i pins s σ H E I hf st hg
    subst hP hw hK
    obtain ⟨xs,hq,hx⟩:=hg
    obtain ⟨its,rv,p,hz⟩:=I.list hq
    obtain ⟨f0,f1,f2,f3,f4,f5⟩:=hf it (by simp)
    have hl:=rv.length
    exact wpAny_pyNext_list_end (I.ok.hd hc) st p.isList (by simp; lia) fun h' eb=>⟨rfl,I.turned (t':=s.toks) (fun b o hb e=>eb b o hb e) f0 f1 f3 f4 f5⟩
  self:=fun _ _ _ _ _ st h=>wpAny_pyIter_listiter st h
theorem turn_tuple {P:Program} {w:World} {K:PySem.W.Frag} {tg:Expr} (a it:Addr):Turn P w K tg (Itt K a) [it] it (fun i h=>h.IsTupleIter it a i) where
  mem:=by simp
  obj:=fun i h st b hb=>by
    have e:b = it:=by simpa using hb
    subst e
    obtain ⟨o,e,c,d⟩:=st
    exact ⟨o,e,fun v z=>by rw [d] at z; cases z⟩
  keep:=fun i h h' st k=>st.at fun o e=>k it (by simp) o e
  item:=by
    intro X hP hw hK hc i pins s σ H E I hf st hg
    subst hP hw hK
    obtain ⟨xs,x,hq,hx⟩:=hg
    obtain ⟨its,rv,p,hz⟩:=I.tuple hq
    obtain ⟨u,hu,ru⟩:=rv.get hx
    obtain ⟨f0,f1,f2,f3,f4,f5⟩:=hf it (by simp)
    refine wpAny_pyNext_tuple_item st (show s.heap.IsTuple a its.toArray from p) (x:=u) (by simpa using hu) fun h' st' sb=>?_
    have I1:Inv X pins σ H { s with heap:=h' }:=I.turned (t':=s.toks) (fun b o hb e=>(sb.2 b hb).trans e) f0 f1 f3 f4 f5
    obtain ⟨o,e,c,d⟩:=id st'
    exact ⟨u,rfl,go_of (s:={ s with heap:=h' }) e c d (by decide) ⟨x,H,I1,ru,⟨rfl,fun ys hy=>by rw [I.tuple_inj hy hq]; exact hx⟩,st',fun b hb=>(hf b hb).1⟩⟩
  done:=by
    intro X hP hw hK hc i pins s σ H E I hf st hg
    subst hP hw hK
    obtain ⟨xs,hq,hx⟩:=hg
    obtain ⟨its,rv,p,hz⟩:=I.tuple hq
    obtain ⟨f0,f1,f2,f3,f4,f5⟩:=hf it (by simp)
    have hl:=rv.length
    exact wpAny_pyNext_tuple_end (I.ok.hd hc) st (show s.heap.IsTuple a its.toArray from p) (by simp; lia) fun h' eb=>⟨rfl,I.turned (t':=s.toks) (fun b o hb e=>eb b o hb e) f0 f1 f3 f4 f5⟩
  self:=fun _ _ _ _ _ st h=>wpAny_pyIter_tupleiter st h
theorem turn_range {P:Program} {w:World} {K:PySem.W.Frag} {tg:Expr} (it:Addr) (lo:Int) (n:Nat):Turn P w K tg (Itr lo n) [it] it (fun i h=>IsRangeIter h it (lo + (i:Nat) * 1) ((n:Int) - (i:Nat)) 1) where
  mem:=by simp
  obj:=fun i h st b hb=>by
    have e:b = it:=by simpa using hb
    subst e
    exact ⟨_,st,fun v z=>by
      have z':Data.fields _ = Data.cell v:=z
      cases z'⟩
  keep:=fun i h h' st k=>k it (by simp) _ st
  item:=by
    intro X hP hw hK hc i pins s σ H E I hf st hg
    subst hP hw hK
    obtain ⟨f0,f1,f2,f3,f4,f5⟩:=hf it (by simp)
    have W:=Walks.range (prog:=X.prog) (w:=X.w) (I.ok.hd hc) it lo 1 n
    refine W.item i s _ _ hg st fun v h' tk hv st' kk=>?_
    obtain ⟨t,rfl⟩:=hv
    have I1:Inv X pins σ H { s with heap:=h',toks:=tk }:=I.turned (fun b o hb e=>kk b o (by simpa using hb) e) f0 f1 f3 f4 f5
    refine ⟨_,rfl,go_of (s:={ s with heap:=h',toks:=tk }) (n:="range_iterator") st' rfl rfl (by decide) ⟨.int (lo + i),H,I1,⟨t,?_⟩,⟨rfl,rfl⟩,st',fun b hb=>(hf b hb).1⟩⟩
    rw [Int.mul_one]
  done:=by
    intro X hP hw hK hc i pins s σ H E I hf st hg
    subst hP hw hK
    obtain ⟨f0,f1,f2,f3,f4,f5⟩:=hf it (by simp)
    exact wpAny_pyNext_range_end (I.ok.hd hc) st (by have:n ≤ i:=hg; lia) fun h' eb=>⟨rfl,I.turned (t':=s.toks) (fun b o hb e=>eb b o hb e) f0 f1 f3 f4 f5⟩
  self:=fun _ _ _ _ _ st h=>wpAny_pyIter_rangeiter st h
end L2
namespace L2
open PySem PySem.Spec PyProof.Rows
section
variable {X:Cx} {tg:Expr}
theorem range_it {pins : List (Addr × Obj)} {σ : St} {H : Hp} {s : Shared} {R : It → Hp → Prop} {E : Value → Shared → Prop} {lo hi : Int} {t u v : Tok} {tk : Nat} (I : Inv X pins σ H s) (h1 : -(2 ^ 62) ≤ lo) (h2 : lo < 2 ^ 62) (h3 : -(2 ^ 62) ≤ hi) (h4 : hi < 2 ^ 62)
    (q : R (Itr lo (hi - lo).toNat) H) : wpAny (model X.prog X.w) X.A (pyIter (.ref s.heap.objs.size)) (PIE X pins σ tg R) E { s with heap := s.heap.push { cls := .type "range", data := .fields #[.int lo t, .int hi u, .int 1 v] }, toks := tk } := by
  refine wpAny_pyIter_range (IsRange.new ..) (small_one h1 h2 h3 h4) ?_
  have I1 : Inv X pins σ H { s with heap := s.heap.push { cls := .type "range", data := .fields #[.int lo t, .int hi u, .int 1 v] }, toks := tk } := I.kept fun b o e => Heap.get?_push_of_some _ e
  refine ⟨(s.heap.push { cls := .type "range", data := .fields #[.int lo t, .int hi u, .int 1 v] }).objs.size, [(s.heap.push { cls := .type "range", data := .fields #[.int lo t, .int hi u, .int 1 v] }).objs.size], _, _, H, rfl,
    I1.kept (t' := tk) fun b o e => Heap.get?_push_of_some _ e, turn_range _ lo (hi - lo).toNat, ?_, fun b hb => ?_, q⟩
  · have e1 : lo + ((0 : Nat) : Int) * 1 = lo := by simp
    have e2 : (((hi - lo).toNat : Nat) : Int) - ((0 : Nat) : Int) = Builtin.Range.rangeSize lo hi 1 := by rw [rangeSize_one]; split <;> lia
    rw [e1, e2]
    exact Heap.get?_push_size _ rfl
  · have e : b = (s.heap.push { cls := .type "range", data := .fields #[.int lo t, .int hi u, .int 1 v] }).objs.size := by simpa using hb
    subst e
    exact I1.fpOk (Nat.le_refl _) (I1.hok.fresh (Nat.le_refl _))
noncomputable def iRng1 (ta:TA):TI:=fun σ H R=>ta σ H fun vs H1=>∃ j:Int,vs = [.int j]∧-(2 ^ 62) ≤ j∧j < 2 ^ 62∧R (Itr 0 j.toNat) H1
theorem pi_range1 {a : Expr} {ta : TA} {p pos : Pos} (hg : Gl X "range") (hm : X.mg "range" = none) (ha : PA X [a] ta) (hs : starEach [a] X.env = [(false, eval a X.env)] := by rfl) : PI X tg (.Call (.Name "range" p) [a] [] pos) (iRng1 ta) := by
  intro pins s σ H R I h
  refine Call_ (ld_blt I hg hm boot_range (PyProof.Rows.callWith_type1 (thn (ha pos pins s σ H _ I h) fun us s1 ⟨vs, H1, I1, r1, q1⟩ => ?_) hs rfl))
  obtain ⟨j, e, q1, q2, q⟩ := q1
  subst e
  cases r1 with
  | cons r rr =>
    cases rr
    obtain ⟨t, rfl⟩ := r
    exact call_range_1 (range_it I1 (by lia) (by lia) q1 q2 (by simp_all))
noncomputable def tFor (wi:TI) (g:TG) (tb:TS):TS:=fun D σ H=>wi σ H fun J H1=>∃ W:Nat→Nat→St→Hp→Prop,(∃ m,W 0 m σ H1)∧∀ i m σ H,W i m σ H →
  (J.stop i H∧D.nx σ H)∨(J.go i H∧∃ N:St→Hp→Prop,(∀ σ' H',N σ' H'→∃ m',m' < m∧W (i + 1) m' σ' H')∧∀ x H',J.yld i H x H'→g x σ H' fun σ2 H2=>tb { D with nx:=N,ct:=N,bk:=D.nx } σ2 H2)
noncomputable def pinsAt (fp:List Addr) (h:Heap):List (Addr × Obj):=fp.filterMap fun b=>(h.get? b).map fun o=>(b,o)
theorem mem_pinsAt {fp:List Addr} {h:Heap} {b:Addr} {o:Obj} (hb:b ∈ fp) (e:h.get? b = some o):(b,o) ∈ pinsAt fp h:=List.mem_filterMap.mpr ⟨b,hb,by rw [e]; rfl⟩
theorem of_pinsAt {fp : List Addr} {h : Heap} {p : Addr × Obj} (hp : p ∈ pinsAt fp h) : p.1 ∈ fp ∧ h.get? p.1 = some p.2 := by
  obtain ⟨b, hb, e⟩ := List.mem_filterMap.mp hp
  cases q : h.get? b with
  | none => simp_all
  | some o =>
    rw [q] at e
    have e' : (b, o) = p := Option.some.inj e
    subst e'
    exact ⟨hb, q⟩
theorem Inv.pinned {pins : List (Addr × Obj)} {σ : St} {H : Hp} {s : Shared} {fp : List Addr} (I : Inv X pins σ H s) (hf : ∀ b ∈ fp, FpOk X pins H b) (ho : ∀ b ∈ fp, ∃ o, s.heap.get? b = some o ∧ ∀ v, o.data ≠ .cell v) : Inv X (pins ++ pinsAt fp s.heap) σ H s :=
  I.pins_of fun p hp => (List.mem_append.mp hp).elim (fun z => I.pin p (List.mem_append_right _ z)) fun z => by
    obtain ⟨hb, e⟩ := of_pinsAt z
    obtain ⟨f0, f1, f2, _⟩ := hf p.1 hb
    obtain ⟨o, e', d⟩ := ho p.1 hb
    simp_all
theorem Inv.unpinned {pins pl:List (Addr × Obj)} {σ:St} {H:Hp} {s:Shared} (I:Inv X (pins ++ pl) σ H s):Inv X pins σ H s:=I.pins_of fun p hp=>I.pin p (List.mem_append_right _ (List.mem_append_left _ hp))
theorem ps_for {iter : Expr} {body : List Stmt} {wi : TI} {g : TG} {tb : TS} {pos : Pos} (hp : PassesOwn (model X.prog X.w) X.A X.env X.xe) (hc : X.calm = true) (hi : PI X tg iter wi) (hg : PG X tg g) (hb : PSs X body tb)
    (hs:∀ x,foldedSetIterable iter X.env x = pure x:=by intro _; rfl):PS X (.For tg iter body [] pos) (tFor wi g tb):=by
  intro pins s σ H D I h
  refine wpAny_For (thn (hi pins s σ H _ I h) fun v s1 h1=>thn h1 fun itv s2 h2=>?_) hs
  obtain ⟨it,fp,tn,J,H2,e,I2,T,st2,f2,W,⟨m0,w0⟩,turn⟩:=h2
  subst e
  have stat:∀ {H':Hp},(∀ b ∈ fp,H' b = none)→∀ b ∈ fp,FpOk X pins H' b:=fun hn b hb=>⟨hn b hb,(f2 b hb).2⟩
  refine codeAny_forLoop_any (fun n s'=>∃ i σ' H',Inv X pins σ' H' s'∧tn i s'.heap∧(∀ b ∈ fp,H' b = none)∧W i n σ' H') ?_ m0 ⟨0,σ,H2,I2,st2,fun b hb=>(f2 b hb).1,w0⟩
  rintro n s3 ⟨i,σ3,H3,I3,st3,fr3,w3⟩
  rcases turn i n σ3 H3 w3 with ⟨stop,qn⟩ | ⟨go,N,hN,step⟩
  · refine wpAny_passesOwn hp (thn (T.done X rfl rfl rfl hc i pins s3 σ3 H3 X.xe I3 (stat fr3) st3 stop) fun r s4 ⟨hr,I4⟩=>?_)
    subst hr
    exact wpAny_execs_nil ⟨σ3,H3,I4,qn⟩
  · refine wpAny_passesOwn hp (thn (T.item X rfl rfl rfl hc i pins s3 σ3 H3 X.xe I3 (stat fr3) st3 go) fun r s4 ⟨u,hr,h4⟩=>?_)
    subst hr
    refine wpAny_passesOwn hp (thn h4 fun _ s5 ⟨x,H5,I5,r5,y5,st5,fr5⟩=>?_)
    have I5':=I5.pinned (stat fr5) (T.obj _ _ st5)
    refine wpAny_passesOwn hp (thn (hg _ s5 σ3 H5 x u _ I5' r5 (step x H5 y5)) fun _ s6 ⟨σ6,H6,I6,q6⟩=>?_)
    refine wpAny_passesOwn hp (thn (hb _ s6 σ6 H6 _ I6 q6) fun f s7 q7=>?_)
    have again:∀ {σ7:St} {H7:Hp},Inv X (pins ++ pinsAt fp s5.heap) σ7 H7 s7→N σ7 H7→∃ m,m < n∧∃ i σ' H',Inv X pins σ' H' s7∧tn i s7.heap∧(∀ b ∈ fp,H' b = none)∧W i m σ' H':=fun {σ7 H7} I7 n7=>by
      obtain ⟨m',hm,w7⟩:=hN σ7 H7 n7
      refine ⟨m',hm,i + 1,σ7,H7,I7.unpinned,T.keep _ _ _ st5 fun b hb o e=>(I7.pin (b,o) (List.mem_append_right _ (List.mem_append_right _ (mem_pinsAt hb e)))).1,fun b hb=>?_,w7⟩
      obtain ⟨o,e,d⟩:=T.obj _ _ st5 b hb
      exact (I7.pin (b,o) (List.mem_append_right _ (List.mem_append_right _ (mem_pinsAt hb e)))).2.1
    cases f with
    | next=>obtain ⟨σ7,H7,I7,n7⟩:=q7; exact again I7 n7
    | cont=>obtain ⟨σ7,H7,I7,n7⟩:=q7; exact again I7 n7
    | brk=>obtain ⟨σ7,H7,I7,q7⟩:=q7; exact ⟨σ7,H7,I7.unpinned,q7⟩
    | ret v=>obtain ⟨x7,σ7,H7,I7,r7,q7⟩:=q7; exact ⟨x7,σ7,H7,I7.unpinned,r7,q7⟩
end
theorem for_list {K : PySem.W.Frag} {a : Addr} {xs : List V} {g : TG} {tb : TS} {D : Ends} {σ : St} {H : Hp} (Pv : Nat → St → Hp → Prop) (h0 : Pv 0 σ H) (hl : ∀ i σ H, i ≤ xs.length → Pv i σ H → SqL K H a xs)
    (hs:∀ i x σ H,xs[i]? = some x→Pv i σ H→g x σ H fun σ2 H2=>tb { D with nx:=Pv (i + 1),ct:=Pv (i + 1),bk:=D.nx } σ2 H2) (hd:∀ σ H,Pv xs.length σ H→D.nx σ H) :
    ∃ W:Nat→Nat→St→Hp→Prop,(∃ m,W 0 m σ H)∧∀ i m σ H,W i m σ H →
      ((Itl K a).stop i H∧D.nx σ H)∨((Itl K a).go i H∧∃ N:St→Hp→Prop,(∀ σ' H',N σ' H'→∃ m',m' < m∧W (i + 1) m' σ' H')∧∀ x H',(Itl K a).yld i H x H'→g x σ H' fun σ2 H2=>tb { D with nx:=N,ct:=N,bk:=D.nx } σ2 H2):=by
  refine ⟨fun i m σ H=>m = xs.length - i∧i ≤ xs.length∧Pv i σ H,⟨xs.length,by simp,Nat.zero_le _,h0⟩,?_⟩
  rintro i m σ H ⟨rfl,hi,p⟩
  have q:=hl i σ H hi p
  by_cases hlt:i < xs.length
  · refine .inr ⟨⟨xs,xs[i],q,by simp [hlt]⟩,Pv (i + 1),fun σ' H' p'=>⟨xs.length - (i + 1),by lia,rfl,hlt,p'⟩,fun x H' y=>?_⟩
    obtain ⟨e,y⟩:=y
    subst e
    exact hs i x σ _ (y xs q) p
  · have e:i = xs.length:=by lia
    subst e
    exact .inl ⟨⟨xs,q,Nat.le_refl _⟩,hd σ H p⟩
theorem for_tup {K : PySem.W.Frag} {a : Addr} {xs : List V} {g : TG} {tb : TS} {D : Ends} {σ : St} {H : Hp} (Pv : Nat → St → Hp → Prop) (h0 : Pv 0 σ H) (hl : ∀ i σ H, i ≤ xs.length → Pv i σ H → SqT K H a xs)
    (hs:∀ i x σ H,xs[i]? = some x→Pv i σ H→g x σ H fun σ2 H2=>tb { D with nx:=Pv (i + 1),ct:=Pv (i + 1),bk:=D.nx } σ2 H2) (hd:∀ σ H,Pv xs.length σ H→D.nx σ H) :
    ∃ W:Nat→Nat→St→Hp→Prop,(∃ m,W 0 m σ H)∧∀ i m σ H,W i m σ H →
      ((Itt K a).stop i H∧D.nx σ H)∨((Itt K a).go i H∧∃ N:St→Hp→Prop,(∀ σ' H',N σ' H'→∃ m',m' < m∧W (i + 1) m' σ' H')∧∀ x H',(Itt K a).yld i H x H'→g x σ H' fun σ2 H2=>tb { D with nx:=N,ct:=N,bk:=D.nx } σ2 H2):=by
  refine ⟨fun i m σ H=>m = xs.length - i∧i ≤ xs.length∧Pv i σ H,⟨xs.length,by simp,Nat.zero_le _,h0⟩,?_⟩
  rintro i m σ H ⟨rfl,hi,p⟩
  have q:=hl i σ H hi p
  by_cases hlt:i < xs.length
  · refine .inr ⟨⟨xs,xs[i],q,by simp [hlt]⟩,Pv (i + 1),fun σ' H' p'=>⟨xs.length - (i + 1),by lia,rfl,hlt,p'⟩,fun x H' y=>?_⟩
    obtain ⟨e,y⟩:=y
    subst e
    exact hs i x σ _ (y xs q) p
  · have e:i = xs.length:=by lia
    subst e
    exact .inl ⟨⟨xs,q,Nat.le_refl _⟩,hd σ H p⟩
theorem for_range {lo : Int} {n : Nat} {g : TG} {tb : TS} {D : Ends} {σ : St} {H : Hp} (Pv : Nat → St → Hp → Prop) (h0 : Pv 0 σ H)
    (hs:∀ i σ H,i < n→Pv i σ H→g (.int (lo + i)) σ H fun σ2 H2=>tb { D with nx:=Pv (i + 1),ct:=Pv (i + 1),bk:=D.nx } σ2 H2) (hd:∀ σ H,Pv n σ H→D.nx σ H) :
    ∃ W:Nat→Nat→St→Hp→Prop,(∃ m,W 0 m σ H)∧∀ i m σ H,W i m σ H →
      ((Itr lo n).stop i H∧D.nx σ H)∨((Itr lo n).go i H∧∃ N:St→Hp→Prop,(∀ σ' H',N σ' H'→∃ m',m' < m∧W (i + 1) m' σ' H')∧∀ x H',(Itr lo n).yld i H x H'→g x σ H' fun σ2 H2=>tb { D with nx:=N,ct:=N,bk:=D.nx } σ2 H2):=by
  refine ⟨fun i m σ H=>m = n - i∧i ≤ n∧Pv i σ H,⟨n,by simp,Nat.zero_le _,h0⟩,?_⟩
  rintro i m σ H ⟨rfl,hi,p⟩
  by_cases hlt:i < n
  · refine .inr ⟨hlt,Pv (i + 1),fun σ' H' p'=>⟨n - (i + 1),by lia,rfl,hlt,p'⟩,fun x H' y=>?_⟩
    obtain ⟨e,y⟩:=y
    subst e y
    exact hs i σ _ hlt p
  · have e:i = n:=by lia
    subst e
    exact .inl ⟨Nat.le_refl _,hd σ H p⟩
end L2
namespace L2
open PySem PySem.Spec PyProof.Rows
noncomputable abbrev R2:=V→V→Hp→VK→Prop
noncomputable def OpR (X:Cx) (f:Value→Value→Sem Value) (r:R2):Prop :=
  ∀ (pins:List (Addr × Obj)) (s:Shared) (σ:St) (H:Hp) (x y:V) (v u:Value) (Q:VK),Inv X pins σ H s→RelV x v→RelV y u→r x y H Q →
    wpAny (model X.prog X.w) X.A (f v u) (EP X pins σ Q) X.xe s
noncomputable def UnR (X:Cx) (f:Value→Sem Value) (r:V→Hp→VK→Prop):Prop :=
  ∀ (pins:List (Addr × Obj)) (s:Shared) (σ:St) (H:Hp) (x:V) (v:Value) (Q:VK),Inv X pins σ H s→RelV x v→r x H Q →
    wpAny (model X.prog X.w) X.A (f v) (EP X pins σ Q) X.xe s
noncomputable def CallR (X:Cx) (f:Value) (r:List V→Hp→VK→Prop):Prop :=
  ∀ (pins:List (Addr × Obj)) (s:Shared) (σ:St) (H:Hp) (xs:List V) (us:List Value) (Q:VK),Inv X pins σ H s→Vals xs us→r xs H Q →
    wpAny (model X.prog X.w) X.A (call f us) (EP X pins σ Q) X.xe s
noncomputable def TruR (X:Cx) (r:V→Hp→(Bool→Hp→Prop)→Prop):Prop :=
  ∀ (pins:List (Addr × Obj)) (s:Shared) (σ:St) (H:Hp) (x:V) (v:Value) (Q:Bool→Hp→Prop),Inv X pins σ H s→RelV x v→r x H Q →
    wpAny (model X.prog X.w) X.A (truthy v) (TP X pins σ Q) X.xe s
noncomputable def tOp (r:R2) (ta tb:TE):TE:=fun σ H Q=>ta σ H fun x H1=>tb σ H1 fun y H2=>r x y H2 Q
noncomputable def tUn (r:V→Hp→VK→Prop) (ta:TE):TE:=fun σ H Q=>ta σ H fun x H1=>r x H1 Q
inductive rI (C:Int→Int→Prop) (g:Int→Int→V) (x : V) (y : V) (H : Hp) (Q : VK) : Prop | mk (i : _) (j : _) : (x = .int i) → (y = .int j) → C i j → (Q (g i j) H) → rI C g x y H Q
inductive rI0 (g:Int→Int→V) (x : V) (y : V) (H : Hp) (Q : VK) : Prop | mk (i : _) (j : _) : (x = .int i) → (y = .int j) → (Q (g i j) H) → rI0 g x y H Q
inductive rU (g:Int→V) (x : V) (H : Hp) (Q : VK) : Prop | mk (i : _) : (x = .int i) → (Q (g i) H) → rU g x H Q
section
variable {X:Cx} {a b c:Expr} {ta tb tc:TE} {pos:Pos}
theorem binT (ha : PE X a ta) (hb : PE X b tb) {pins : List (Addr × Obj)} {s : Shared} {σ : St} {H : Hp} {R : V → V → Hp → Prop} (I : Inv X pins σ H s)
    (h:ta σ H fun x H1=>tb σ H1 fun y H2=>R x y H2) {Q:Value→Shared→Prop} {f:Value→Value→Sem Value}
    (hf:∀ v u s2 x y H2,Inv X pins σ H2 s2→RelV x v→RelV y u→R x y H2→wpAny (model X.prog X.w) X.A (f v u) Q X.xe s2) :
    wpAny (model X.prog X.w) X.A (eval a X.env) (fun v s₁=>wpAny (model X.prog X.w) X.A (eval b X.env) (fun u s₂=>wpAny (model X.prog X.w) X.A (f v u) Q X.xe s₂) X.xe s₁) X.xe s:=by
  refine thn (ha pins s σ H _ I h) fun v s1 ⟨x,H1,I1,r1,q1⟩=>?_
  refine thn (hb pins s1 σ H1 _ I1 q1) fun u s2 ⟨y,H2,I2,r2,q2⟩=>?_
  exact hf v u s2 x y H2 I2 r1 r2 q2
theorem pe_op {op:Operator} {r:R2} (ho:OpR X (binaryOp op) r) (ha:PE X a ta) (hb:PE X b tb):PE X (.BinOp a op b pos) (tOp r ta tb):=by
  intro pins s σ H Q I h
  exact wpAny_BinOp (binT ha hb I h fun v u s2 x y H2 I2 rx ry q=>ho pins s2 σ H2 x y v u Q I2 rx ry q)
theorem pe_un {op:UnaryOp} {r:V→Hp→VK→Prop} (ho:UnR X (unaryOp op) r) (ha:PE X a ta):PE X (.UnaryOp op a pos) (tUn r ta):=by
  intro pins s σ H Q I h
  exact UnaryOp_ (thn (ha pins s σ H _ I h) fun v s1 ⟨x,H1,I1,r1,q1⟩=>ho pins s1 σ H1 x v Q I1 r1 q1)
theorem opI {f : Value → Value → Sem Value} {C : Int → Int → Prop} {g : Int → Int → Int}
    (rule:∀ (i j:Int) (t u:Tok) (s:Shared) (Q:Value→Shared→Prop) (E:Value→Shared→Prop),C i j→Q (.int (g i j) s.toks) { s with toks:=s.toks + 1 }→wpAny (model X.prog X.w) X.A (f (.int i t) (.int j u)) Q E s) :
    OpR X f (rI C fun i j=>.int (g i j)):=by
  intro pins s σ H x y v u Q I rx ry h
  obtain ⟨i,j,rfl,rfl,hc,q⟩:=h
  obtain ⟨t,rfl⟩:=rx
  obtain ⟨t',rfl⟩:=ry
  exact rule i j t t' s _ _ hc ⟨.int (g i j),H,I.tok _,⟨_,rfl⟩,q⟩
theorem opI0 {f : Value → Value → Sem Value} {g : Int → Int → Int}
    (rule:∀ (i j:Int) (t u:Tok) (s:Shared) (Q:Value→Shared→Prop) (E:Value→Shared→Prop),Q (.int (g i j) s.toks) { s with toks:=s.toks + 1 }→wpAny (model X.prog X.w) X.A (f (.int i t) (.int j u)) Q E s) :
    OpR X f (rI0 fun i j=>.int (g i j)):=by
  intro pins s σ H x y v u Q I rx ry h
  obtain ⟨i,j,rfl,rfl,q⟩:=h
  obtain ⟨t,rfl⟩:=rx
  obtain ⟨t',rfl⟩:=ry
  exact rule i j t t' s _ _ ⟨.int (g i j),H,I.tok _,⟨_,rfl⟩,q⟩
theorem opB0 {f : Value → Value → Sem Value} {g : Int → Int → Bool}
    (rule:∀ (i j:Int) (t u:Tok) (s:Shared) (Q:Value→Shared→Prop) (E:Value→Shared→Prop),Q (.bool (g i j)) s→wpAny (model X.prog X.w) X.A (f (.int i t) (.int j u)) Q E s) :
    OpR X f (rI0 fun i j=>.bl (g i j)):=by
  intro pins s σ H x y v u Q I rx ry h
  obtain ⟨i,j,rfl,rfl,q⟩:=h
  obtain ⟨t,rfl⟩:=rx
  obtain ⟨t',rfl⟩:=ry
  exact rule i j t t' s _ _ ⟨.bl (g i j),H,I,rfl,q⟩
noncomputable def CDiv (i j:Int):Prop:=0 < j∧j < 1073741824
noncomputable def CMul (i j:Int):Prop:=(-(2 ^ 64) < i∧i < 2 ^ 64)∨(-(2 ^ 64) < j∧j < 2 ^ 64)
theorem CMul.ok {i j:Int} (h:CMul i j):IntMulOk i j:=by
  rcases h with ⟨h1,h2⟩ | ⟨h1,h2⟩
  · exact .of_left (intBits_le_64 h1 h2)
  · exact .of_right (intBits_le_64 h1 h2)
theorem op_add:OpR X (binaryOp .Add) (rI0 fun i j=>.int (i + j)):=opI0 fun _ _ _ _ _ _ _ q=>add_int q
theorem op_sub:OpR X (binaryOp .Sub) (rI0 fun i j=>.int (i - j)):=opI0 fun _ _ _ _ _ _ _ q=>sub_int q
theorem op_mul:OpR X (binaryOp .Mult) (rI CMul fun i j=>.int (i * j)):=opI fun _ _ _ _ _ _ _ hc q=>mul_int q hc.ok
theorem op_fdiv:OpR X (binaryOp .FloorDiv) (rI CDiv fun i j=>.int (i / j)):=opI fun i j _ _ _ _ _ hc q=>by
  have h1:(0:Int) < j:=hc.1
  have h2:j < 1073741824:=hc.2
  exact floordiv_int (by lia) (by rw [Int.fdiv_eq_ediv_of_nonneg i (by lia)]; exact q) (.inl (PyProof.noPylong_small (by lia)))
theorem op_mod : OpR X (binaryOp .Mod) (rI (fun _ j => 0 < j) fun i j => .int (i % j)) := opI fun i j _ _ _ _ _ hc q => by
  exact mod_int' (by lia) (by rw [Int.fmod_eq_emod_of_nonneg i (by lia)]; exact q)
theorem unI {f : Value → Sem Value} {g : Int → Int}
    (rule:∀ (i:Int) (t:Tok) (s:Shared) (Q:Value→Shared→Prop) (E:Value→Shared→Prop),Q (.int (g i) s.toks) { s with toks:=s.toks + 1 }→wpAny (model X.prog X.w) X.A (f (.int i t)) Q E s) :
    UnR X f (rU fun i=>.int (g i)):=by
  intro pins s σ H x v Q I rx h
  obtain ⟨i,rfl,q⟩:=h
  obtain ⟨t,rfl⟩:=rx
  exact rule i t s _ _ ⟨.int (g i),H,I.tok _,⟨_,rfl⟩,q⟩
theorem un_neg:UnR X (unaryOp .USub) (rU fun i=>.int (-i)):=unI fun _ _ _ _ _ q=>neg_int q
end
noncomputable def scal:V→V→Bool
  | .non,.non=>true | .non,.int _=>true | .int _,.non=>true | .non,.bl _=>true | .bl _,.non=>true | .non,.str _=>true | .str _,.non=>true
  | .int _,.int _=>true | .bl _,.bl _=>true | .str _,.str _=>true | .byt _,.byt _=>true
  | .int _,.str _=>true | .str _,.int _=>true | .bl _,.str _=>true | .str _,.bl _=>true
  | _,_=>false
noncomputable def rEq:R2:=fun x y H Q=>scal x y = true∧Q (.bl (decide (x = y))) H
noncomputable def rNe:R2:=fun x y H Q=>scal x y = true∧Q (.bl (!decide (x = y))) H
theorem dec_int {i j:Int}:decide (V.int i = V.int j) = (i == j):=by
  rw [Bool.eq_iff_iff]
  simp
theorem dec_bl {i j:Bool}:decide (V.bl i = V.bl j) = (i == j):=by
  rw [Bool.eq_iff_iff]
  simp
theorem dec_str {i j:Str}:decide (V.str i = V.str j) = (i == j):=by
  rw [Bool.eq_iff_iff]
  simp
theorem dec_byt {i j : Array UInt8} : decide (V.byt i = V.byt j) = (i.toList == j.toList) := by
  rw [Bool.eq_iff_iff]
  simp
section
variable {X:Cx} {a b c:Expr} {ta tb tc:TE} {pos:Pos}
theorem fin_bl {pins:List (Addr × Obj)} {σ:St} {H:Hp} {s:Shared} {Q:VK} {k k':Bool} (I:Inv X pins σ H s) (q:Q (.bl k) H) (e:k = k'):EP X pins σ Q (.bool k') s:=by
  subst e
  exact ⟨.bl k,H,I,rfl,q⟩
theorem op_eq:OpR X (compareOp .Eq) rEq:=by
  intro pins s σ H x y v u Q I rx ry h
  obtain ⟨hs,q⟩:=h
  cases x with
  | non =>
    cases rx
    cases y with
    | non=>cases ry; exact PySem.EqNone.eq_none_none (fin_bl I q (by simp))
    | bl j=>cases ry; exact PySem.EqNone.eq_none_bool (fin_bl I q (by simp))
    | int j=>obtain ⟨t',rfl⟩:=ry; exact PySem.EqNone.eq_none_int (fin_bl I q (by simp))
    | str j=>obtain ⟨t',rfl⟩:=ry; exact PySem.EqNone.eq_none_str (fin_bl I q (by simp))
    | _=>exact absurd (show false = true from hs) Bool.false_ne_true
  | bl i =>
    cases rx
    cases y with
    | non=>cases ry; exact PySem.EqNone.eq_bool_none (fin_bl I q (by simp))
    | bl j=>cases ry; exact eq_bool (fin_bl I q dec_bl)
    | str j=>obtain ⟨t',rfl⟩:=ry; exact PySem.EqMixed.eq_bool_str (fin_bl I q (by simp))
    | _=>exact absurd (show false = true from hs) Bool.false_ne_true
  | int i =>
    obtain ⟨t,rfl⟩:=rx
    cases y with
    | non=>cases ry; exact PySem.EqNone.eq_int_none (fin_bl I q (by simp))
    | int j=>obtain ⟨t',rfl⟩:=ry; exact eq_int (fin_bl I q dec_int)
    | str j=>obtain ⟨t',rfl⟩:=ry; exact PySem.EqMixed.eq_int_str (fin_bl I q (by simp))
    | _=>exact absurd (show false = true from hs) Bool.false_ne_true
  | str i =>
    obtain ⟨t,rfl⟩:=rx
    cases y with
    | non=>cases ry; exact PySem.EqNone.eq_str_none (fin_bl I q (by simp))
    | bl j=>cases ry; exact PySem.EqMixed.eq_str_bool (fin_bl I q (by simp))
    | int j=>obtain ⟨t',rfl⟩:=ry; exact PySem.EqMixed.eq_str_int (fin_bl I q (by simp))
    | str j=>obtain ⟨t',rfl⟩:=ry; exact eq_str (fin_bl I q dec_str)
    | _=>exact absurd (show false = true from hs) Bool.false_ne_true
  | byt i =>
    obtain ⟨t,rfl⟩:=rx
    cases y with
    | byt j=>obtain ⟨t',rfl⟩:=ry; exact PySem.W.eq_bytes (fin_bl I q dec_byt)
    | _=>exact absurd (show false = true from hs) Bool.false_ne_true
  | _=>cases y <;> exact absurd (show false = true from hs) Bool.false_ne_true
theorem op_ne:OpR X (compareOp .NotEq) rNe:=by
  intro pins s σ H x y v u Q I rx ry h
  obtain ⟨hs,q⟩:=h
  cases x with
  | non =>
    cases rx
    cases y with
    | non=>cases ry; exact PySem.EqNone.ne_none_none (fin_bl I q (by simp))
    | bl j=>cases ry; exact PySem.EqNone.ne_none_bool (fin_bl I q (by simp))
    | int j=>obtain ⟨t',rfl⟩:=ry; exact PySem.EqNone.ne_none_int (fin_bl I q (by simp))
    | str j=>obtain ⟨t',rfl⟩:=ry; exact PySem.EqNone.ne_none_str (fin_bl I q (by simp))
    | _=>exact absurd (show false = true from hs) Bool.false_ne_true
  | bl i =>
    cases rx
    cases y with
    | non=>cases ry; exact PySem.EqNone.ne_bool_none (fin_bl I q (by simp))
    | bl j=>cases ry; exact ne_bool (fin_bl I q (congrArg not dec_bl))
    | str j=>obtain ⟨t',rfl⟩:=ry; exact PySem.EqMixed.ne_bool_str (fin_bl I q (by simp))
    | _=>exact absurd (show false = true from hs) Bool.false_ne_true
  | int i =>
    obtain ⟨t,rfl⟩:=rx
    cases y with
    | non=>cases ry; exact PySem.EqNone.ne_int_none (fin_bl I q (by simp))
    | int j=>obtain ⟨t',rfl⟩:=ry; exact ne_int (fin_bl I q (congrArg not dec_int))
    | str j=>obtain ⟨t',rfl⟩:=ry; exact PySem.EqMixed.ne_int_str (fin_bl I q (by simp))
    | _=>exact absurd (show false = true from hs) Bool.false_ne_true
  | str i =>
    obtain ⟨t,rfl⟩:=rx
    cases y with
    | non=>cases ry; exact PySem.EqNone.ne_str_none (fin_bl I q (by simp))
    | bl j=>cases ry; exact PySem.EqMixed.ne_str_bool (fin_bl I q (by simp))
    | int j=>obtain ⟨t',rfl⟩:=ry; exact PySem.EqMixed.ne_str_int (fin_bl I q (by simp))
    | str j=>obtain ⟨t',rfl⟩:=ry; exact ne_str (fin_bl I q (congrArg not dec_str))
    | _=>exact absurd (show false = true from hs) Bool.false_ne_true
  | byt i =>
    obtain ⟨t,rfl⟩:=rx
    cases y with
    | byt j=>obtain ⟨t',rfl⟩:=ry; exact PySem.W.ne_bytes (fin_bl I q (congrArg not dec_byt))
    | _=>exact absurd (show false = true from hs) Bool.false_ne_true
  | _=>cases y <;> exact absurd (show false = true from hs) Bool.false_ne_true
theorem op_lt:OpR X (compareOp .Lt) (rI0 fun i j=>.bl (decide (i < j))):=opB0 fun _ _ _ _ _ _ _ q=>lt_int q
theorem op_le:OpR X (compareOp .LtE) (rI0 fun i j=>.bl (decide (i ≤ j))):=opB0 fun _ _ _ _ _ _ _ q=>le_int q
theorem op_gt:OpR X (compareOp .Gt) (rI0 fun i j=>.bl (decide (j < i))):=opB0 fun _ _ _ _ _ _ _ q=>gt_int q
theorem op_ge:OpR X (compareOp .GtE) (rI0 fun i j=>.bl (decide (j ≤ i))):=opB0 fun _ _ _ _ _ _ _ q=>ge_int q
theorem op_lt_str:OpR X (compareOp .Lt) (fun x y H Q=>∃ i j,x = .str i∧y = .str j∧Q (.bl (decide (i.cps.toList < j.cps.toList))) H):=by
  intro pins s σ H x y v u Q I rx ry h
  obtain ⟨i,j,rfl,rfl,q⟩:=h
  obtain ⟨t,rfl⟩:=rx
  obtain ⟨t',rfl⟩:=ry
  exact lt_str (fin_bl I q rfl)
theorem op_in_str:OpR X (compareOp .In) (fun x y H Q=>∃ i j,x = .str i∧y = .str j∧Q (.bl (!(Builtin.Str.occurrences j i 0 j.length 1).isEmpty)) H):=by
  intro pins s σ H x y v u Q I rx ry h
  obtain ⟨i,j,rfl,rfl,q⟩:=h
  obtain ⟨t,rfl⟩:=rx
  obtain ⟨t',rfl⟩:=ry
  exact in_str (fin_bl I q rfl)
theorem op_isN : OpR X (compareOp .Is) (fun x y H Q => y = .non ∧ Q (.bl (decide (x = .non))) H) := by
  intro pins s σ H x y v u Q I rx ry h
  obtain ⟨rfl, q⟩ := h
  cases ry
  refine is_none_gen (fin_bl I q ?_)
  cases x <;> first
    | lia
    | (obtain ⟨t, rfl⟩ := rx; rfl)
theorem op_notN : OpR X (compareOp .IsNot) (fun x y H Q => y = .non ∧ Q (.bl (!decide (x = .non))) H) := by
  intro pins s σ H x y v u Q I rx ry h
  obtain ⟨rfl, q⟩ := h
  cases ry
  refine isnot_none_gen (fin_bl I q ?_)
  cases x <;> first
    | lia
    | (obtain ⟨t, rfl⟩ := rx; rfl)
theorem op_notin_str:OpR X (compareOp .NotIn) (fun x y H Q=>∃ i j,x = .str i∧y = .str j∧Q (.bl (!(!(Builtin.Str.occurrences j i 0 j.length 1).isEmpty))) H):=by
  intro pins s σ H x y v u Q I rx ry h
  obtain ⟨i,j,rfl,rfl,q⟩:=h
  obtain ⟨t,rfl⟩:=rx
  obtain ⟨t',rfl⟩:=ry
  exact notIn_str (fin_bl I q rfl)
theorem nomark (b : Expr) {op : CmpOp} (h : op ≠ .In := by decide) (h2 : op ≠ .NotIn := by decide) : behindInMarks op b = false := by
  have e1 : (op == CmpOp.In) = false := by simp_all
  have e2 : (op == CmpOp.NotIn) = false := by grind
  cases b <;> simp [behindInMarks, e1, e2]
theorem pe_cmpR {op:CmpOp} {r:R2} (ho:OpR X (compareOp op) r) (ha:PE X a ta) (hb:PE X b tb) (hm:behindInMarks op b = false):PE X (.Compare a [op] [b] pos) (tOp r ta tb):=by
  intro pins s σ H Q I h
  exact wpAny_Compare1 (binT ha hb I h fun v u s2 x y H2 I2 rx ry q=>ho pins s2 σ H2 x y v u Q I2 rx ry q) hm
noncomputable def tTest (t:TE):TT:=fun σ H Q=>t σ H fun x H'=>∃ k,x = .bl k∧Q k H'
theorem pt_cmpR {op:CmpOp} {r:R2} (ho:OpR X (compareOp op) r) (ha:PE X a ta) (hb:PE X b tb) (hm:behindInMarks op b = false):PT X (.Compare a [op] [b] pos) (tTest (tOp r ta tb)):=by
  intro pins s σ H Q I h
  refine wpAny_isTrue_Compare1 (thn (ha pins s σ H _ I h) fun v s1 ⟨x,H1,I1,r1,q1⟩=>thn (hb pins s1 σ H1 _ I1 q1) fun u s2 ⟨y,H2,I2,r2,q2⟩ =>
    thn (ho pins s2 σ H2 x y v u _ I2 r1 r2 q2) fun c s3 ⟨z,H3,I3,r3,k,e,q3⟩=>?_) hm
  subst e
  cases r3
  exact wpAny_truthy_bool ⟨H3,I3,q3⟩
noncomputable def tChain (r r':R2) (ta tb tc:TE):TE:=fun σ H Q=>ta σ H fun x H1=>tb σ H1 fun y H2=>r x y H2 fun z H3=>∃ k,z = .bl k ∧
  (if k = true then tc σ H3 fun w' H4=>r' y w' H4 Q else Q (.bl false) H3)
theorem pt_chain {op op' : CmpOp} {r r' : R2} (ho : OpR X (compareOp op) r) (ho' : OpR X (compareOp op') r') (ha : PE X a ta) (hb : PE X b tb) (hc : PE X c tc)
    (hm:lastMarks [op,op'] [b,c] = false:=by with_unfolding_all rfl):PT X (.Compare a [op,op'] [b,c] pos) (tTest (tChain r r' ta tb tc)):=by
  intro pins s σ H Q I h
  refine isTrue_chain (thn (ha pins s σ H _ I h) fun v s1 ⟨x,H1,I1,r1,q1⟩=>test_link (thn (hb pins s1 σ H1 _ I1 q1) fun u s2 ⟨y,H2,I2,r2,q2⟩ =>
    thn (ho pins s2 σ H2 x y v u _ I2 r1 r2 q2) fun d s3 ⟨z,H3,I3,r3,k,e,q3⟩=>?_)) hm
  subst e
  cases r3
  refine wpAny_truthy_bool ?_
  cases k with
  | false =>
    obtain ⟨k',e',q'⟩:=q3
    cases e'
    exact ite_ff ⟨H3,I3,q'⟩
  | true =>
    refine ite_tt (test_last (thn (hc pins s3 σ H3 _ I3 q3) fun w' s4 ⟨z',H4,I4,r4,q4⟩=>thn (ho' pins s4 σ H4 y z' u w' _ I4 r2 r4 q4) fun d' s5 ⟨z2,H5,I5,r5,k2,e2,q5⟩=>?_))
    subst e2
    cases r5
    exact wpAny_truthy_bool ⟨H5,I5,q5⟩
noncomputable def TruV (K:PySem.W.Frag) (x:V) (H:Hp) (k:Bool):Prop :=
  match x with
  | .non=>k = false
  | .bl b=>k = b
  | .int i=>k = (i != 0)
  | .str y=>y.length ≤ sizeLine∧k = ((y.length:Int) != 0)
  | .byt y=>y.size ≤ sizeLine∧k = ((y.size:Int) != 0)
  | .ref p=>(∃ xs,SqL K H p xs∧k = !xs.isEmpty)∨(∃ xs,SqT K H p xs∧k = !xs.isEmpty)∨∃ kvs,H p = some (.dK kvs)∧k = !kvs.isEmpty
  | _=>False
theorem isEmpty_kv {κ:Type} {kvs:List (κ × V)} {vs:List (κ × Value)} (r:KV kvs vs):(!vs.isEmpty) = !kvs.isEmpty:=by
  cases r <;> rfl
theorem isEmpty_of {xs:List V} {its:List Value} (r:Vals xs its):(!its.toArray.isEmpty) = !xs.isEmpty:=by
  cases r <;> simp
theorem line63 : (sizeLine : Nat) < 2 ^ 63 := by decide
theorem tru_ok:TruR X (fun x H Q=>∃ k,TruV X.K x H k∧Q k H):=by
  intro pins s σ H x v Q I rx h
  obtain ⟨k,e,q⟩:=h
  have hl:=line63
  have hs:sizeLine = 16777216:=sizeLine_eq
  cases x with
  | non =>
    cases rx
    have e':k = false:=e
    subst e'
    exact truthy_none ⟨H,I,q⟩
  | bl b =>
    cases rx
    have e':k = b:=e
    subst e'
    exact wpAny_truthy_bool ⟨H,I,q⟩
  | int i =>
    obtain ⟨t,rfl⟩:=rx
    have e':k = (i != 0):=e
    subst e'
    exact PySem.P.truthy_int ⟨H,I,q⟩
  | str y =>
    obtain ⟨t,rfl⟩:=rx
    obtain ⟨hy,e'⟩:y.length ≤ sizeLine∧k = ((y.length:Int) != 0):=e
    subst e'
    exact PySem.P.truthy_str (by lia) ⟨H,I.tok _,q⟩
  | byt y =>
    obtain ⟨t,rfl⟩:=rx
    obtain ⟨hy,e'⟩:y.size ≤ sizeLine∧k = ((y.size:Int) != 0):=e
    subst e'
    exact PySem.W.truthy_bytes (by lia) ⟨H,I.tok _,q⟩
  | ref p =>
    cases rx
    have e':(∃ xs,SqL X.K H p xs∧k = !xs.isEmpty)∨(∃ xs,SqT X.K H p xs∧k = !xs.isEmpty)∨∃ kvs,H p = some (.dK kvs)∧k = !kvs.isEmpty:=e
    rcases e' with ⟨xs,hx,e'⟩ | ⟨xs,hx,e'⟩ | ⟨kvs,hx,e'⟩
    · subst e'
      obtain ⟨its,r,pl,hz⟩:=I.list hx
      have hlen:=r.length
      exact wpAny_truthy_list pl.isList (by simp only [List.size_toArray]; lia) ⟨H,I.tok _,by rw [isEmpty_of r]; exact q⟩
    · subst e'
      obtain ⟨its,r,pl,hz⟩:=I.tuple hx
      have hlen:=r.length
      exact truthy_tuple pl (by simp only [List.size_toArray]; lia) ⟨H,I.tok _,by rw [isEmpty_of r]; exact q⟩
    · subst e'
      obtain ⟨hz,hS,vs,r,m⟩:kvs.length ≤ sizeLine∧(p == sysModules) = false∧∃ vs,KV kvs vs∧s.heap.DictOf (mixKind X.prog X.w) p vs:=I.hok p _ hx
      have hlen:kvs.length = vs.length:=Paired.length r
      exact wpAny_truthy_dict hS m (by lia) ⟨H,I.tok _,by rw [isEmpty_kv r]; exact q⟩
  | _=>exact (show False from e).elim
theorem pt_truth (ha : PE X a ta) (he : ∀ whole, isTrue a X.env whole = (do let v ← whole; standAt a.pos; holding [v] (truthy v))) :
    PT X a (fun σ H Q=>ta σ H fun x H'=>∃ k,TruV X.K x H' k∧Q k H'):=by
  intro pins s σ H Q I h
  exact isTrue_plain (thn (ha pins s σ H _ I h) fun v s1 ⟨x,H1,I1,r1,q1⟩=>tru_ok pins s1 σ H1 x v Q I1 r1 q1) (he _)
theorem op_add_str:OpR X (binaryOp .Add) (fun x y H Q=>∃ i j,x = .str i∧y = .str j∧i.length + j.length ≤ sizeLine∧Q (.str (i ++ j)) H):=by
  intro pins s σ H x y v u Q I rx ry h
  obtain ⟨i,j,rfl,rfl,hz,q⟩:=h
  obtain ⟨t,rfl⟩:=rx
  obtain ⟨t',rfl⟩:=ry
  exact add_str (fun t' tk=>⟨.str (i ++ j),H,I.tok _,⟨_,rfl⟩,q⟩) hz
theorem vals1 {x:V} {us:List Value} (r:Vals [x] us):∃ u,us = [u]∧RelV x u:=by
  cases r with
  | cons r1 r2=>cases r2; exact ⟨_,rfl,r1⟩
theorem vals2 {x y:V} {us:List Value} (r:Vals [x,y] us):∃ u w',us = [u,w']∧RelV x u∧RelV y w':=by
  cases r with
  | cons r1 r2 =>
    cases r2 with
    | cons r3 r4=>cases r4; exact ⟨_,_,rfl,r1,r3⟩
theorem call_int1:CallR X (.type "int") (fun xs H Q=>(∃ i,xs = [.int i]∧Q (.int i) H)∨∃ k,xs = [.bl k]∧Q (.int (if k then 1 else 0)) H):=by
  intro pins s σ H xs us Q I r h
  rcases h with ⟨i,rfl,q⟩ | ⟨k,rfl,q⟩
  · obtain ⟨u,rfl,t,rfl⟩:=vals1 r
    exact call_int_int ⟨.int i,H,I,⟨_,rfl⟩,q⟩
  · obtain ⟨u,rfl,r1⟩:=vals1 r
    cases r1
    exact call_int_bool ⟨.int (if k then 1 else 0),H,I.tok _,⟨_,rfl⟩,q⟩
end
end L2
namespace L2
open PySem PySem.Spec PyProof.Rows
structure ObjM (h:Heap) (x dx C:Addr) (mA:Str→Option Value):Prop where
  obj:h.get? x = some (PySem.W.instObj C dx)
  ns:h.Ns1 dx mA
  ne:dx ≠ x
theorem lookIn_ns {h : Heap} {dx : Addr} {mA : Str → Option Value} (n : h.Ns1 dx mA) : ∃ od, h.get? dx = some od ∧ ∀ name, PySem.W.lookIn name od = some (mA name) := by
  obtain ⟨o, es, ep, ho, hd, hk, _, hm⟩ := n
  refine ⟨o, ho, fun name => ?_⟩
  have e := hm name
  unfold nsFind findBy at e
  rw [← Array.find?_toList] at e
  unfold PySem.W.lookIn
  rw [hd]
  dsimp only
  split
  · simp_all
  · rename_i q
    rw [q] at e
    have a : es.toList.any (·.refKey) = false := by
      rw [List.any_eq_false]
      intro y hy
      obtain ⟨z, t, hkey⟩ := hk y (Array.mem_toList_iff.mp hy)
      simp [DictEntry.refKey, hkey]
    have a' : ¬ es.toList.any (·.refKey) = true := by rw [a]; exact Bool.false_ne_true
    rw [if_neg a']
    exact congrArg some e
theorem ObjM.look {h:Heap} {x dx C:Addr} {mA:Str→Option Value} (I:ObjM h x dx C mA):∃ od,PySem.W.InstAt h x (PySem.W.instObj C dx) C (some od)∧∀ name,PySem.W.lookIn name od = some (mA name) :=
  let ⟨od,ho,hl⟩:=lookIn_ns I.ns
  ⟨od,⟨I.obj,rfl,rfl,ho⟩,hl⟩
section
variable {prog:Program} {w:World} {A:Around} {E:Value→Shared→Prop} {s:Shared} {K:PySem.W.Frag} {x dx C f:Addr} {mA:Str→Option Value} {name:Str} {v:Value}
end
theorem RelO.some_of {v:V} {o:Option Value} (r:RelO (some v) o):∃ u,o = some u∧RelV v u:=by
  cases o with
  | none=>exact (show False from r).elim
  | some u=>exact ⟨u,rfl,r⟩
section
variable {P:Program} {w:World} {H H':Hp} {h h':Heap} {a C dx:Addr} {fs fs':List (Str × V)}
theorem ins_get (hok:HOk P w H h) (e:H a = some (.ins C dx fs)):∃ mA,ObjM h a dx C mA∧(∀ f,RelO (fs.lookup f) (mA f))∧PySem.Within mA (fs.map (·.1))∧fs.length ≤ 1000∧H dx = some (.own a):=by
  obtain ⟨d,z,ne,ob,mA,n,r,q⟩:=(show ObjOk P w H h a (.ins C dx fs) from hok a _ e)
  exact ⟨mA,⟨ob,n,ne⟩,r,q,z,d⟩
end
structure Cls (K:PySem.W.Frag) (C:Addr):Prop where
  pg:PySem.W.plainGet K C Str.empty = true
  hd:PySem.W.hasDictIn K C = true
  po:PySem.W.plainOver K C = true
  sa:PySem.W.findIn K (.ref C) "__setattr__" = some (some (.builtin "object.__setattr__"))
theorem Cls.get {K:PySem.W.Frag} {C:Addr} (c:Cls K C) (f:Str):PySem.W.plainGet K C f = true:=c.pg
structure Con (K:PySem.W.Frag) (C:Addr) (f:Str) (v:V) (u:Value):Prop where
  at_:PySem.W.findIn K (.ref C) f = some (some u)
  rel:RelV v u
  get:PySem.W.specialIn K u "__get__" = some none
  cp:PySem.W.copiedNames.contains f = false
structure Meth (K:PySem.W.Frag) (C:Addr) (m:Str) (f:Addr):Prop where
  at_:PySem.W.findIn K (.ref C) m = some (some (.ref f))
  fn:PySem.W.isFn K (.ref f) = true
  kp:PySem.W.keepIn K (.ref f) = true
section
variable {X:Cx} {pins:List (Addr × Obj)} {σ:St} {H:Hp} {s:Shared} {a C dx:Addr} {fs:List (Str × V)} {f:Str} {v:V} {A:Around} {E:Value→Shared→Prop}
theorem Inv.made (I : Inv X pins σ H s) : Inv X pins σ (upd (upd H s.heap.objs.size (.own (s.heap.objs.size + 1))) (s.heap.objs.size + 1) (.ins C s.heap.objs.size []))
    { s with heap:=(s.heap.push PySem.W.emptyDict).push (PySem.W.instObj C s.heap.objs.size) }:=by
  have e1:(s.heap.push PySem.W.emptyDict).get? s.heap.objs.size = some PySem.W.emptyDict:=Heap.get?_push_size s.heap rfl
  have e2:((s.heap.push PySem.W.emptyDict).push (PySem.W.instObj C s.heap.objs.size)).get? (s.heap.objs.size + 1) = some (PySem.W.instObj C s.heap.objs.size):=by
    have:=Heap.get?_push_size (s.heap.push PySem.W.emptyDict) (o:=PySem.W.instObj C s.heap.objs.size) rfl
    rwa [Heap.size_push] at this
  have e3:(s.heap.push PySem.W.emptyDict).Ns s.heap.objs.size (fun _=>none):=⟨PySem.W.emptyDict,#[],_,e1,rfl,(fun e he=>absurd he (by simp)),fun _=>rfl⟩
  have I1:=I.laid (a:=s.heap.objs.size) (o:=.own (s.heap.objs.size + 1)) (h':=s.heap.push PySem.W.emptyDict) (t':=s.toks) (fun b u q=>Heap.get?_push_of_some _ q) (Nat.le_refl _) ⟨_,e1⟩
  refine I1.laid (a:=s.heap.objs.size + 1) (o:=.ins C s.heap.objs.size []) (t':=s.toks) (fun b u q=>Heap.get?_push_of_some _ q) (Nat.le_of_eq (Heap.size_push _ _)) ?_
  have ne:s.heap.objs.size ≠ s.heap.objs.size + 1:=Nat.ne_of_lt (Nat.lt_succ_self _)
  refine ⟨by rw [upd_ne ne,upd_same],Nat.zero_le _,ne,e2,fun _=>none,(Heap.Ns1.of_empty e3).at fun o q=>Heap.get?_push_of_some _ q,fun _=>True.intro,fun y hy=>absurd rfl hy⟩
end
section
variable {X:Cx} {o e value:Expr} {f:Str} {pos pos' tpos:Pos} {ta tv:TE}
end
section
variable {X:Cx} {pins:List (Addr × Obj)} {σ:St} {H:Hp} {s:Shared} {A:Around} {E:Value→Shared→Prop} {Q:Value→Shared→Prop} {c:Value} {b:Bool}
inductive TyOf (K:PySem.W.Frag) (H:Hp):V→Value→Prop where
  | non:TyOf K H .non (.type "NoneType")
  | bl (x:Bool):TyOf K H (.bl x) (.type "bool")
  | int (i:Int):TyOf K H (.int i) (.type "int")
  | str (x:Str):TyOf K H (.str x) (.type "str")
  | flt (x:UInt64):TyOf K H (.flt x) (.type "float")
  | lst {a:Addr} {xs:List V} (e:H a = some (.lst xs)):TyOf K H (.ref a) (.type "list")
  | frz {a:Addr} {o:Obj} {xs:List V} (e:H a = some (.frz o (.lst xs))):TyOf K H (.ref a) (.type "list")
  | tup {a:Addr} {xs:List V} (e:H a = some (.tup xs)):TyOf K H (.ref a) (.type "tuple")
  | dK {a:Addr} {kvs:List (Key × V)} (e:H a = some (.dK kvs)):TyOf K H (.ref a) (.type "dict")
  | dT {a:Addr} {kvs:List (List Key × V)} (e:H a = some (.dT kvs)):TyOf K H (.ref a) (.type "dict")
  | ins {a C dx : Addr} {fs : List (Str × V)} (e : H a = some (.ins C dx fs)) (cl : Cls K C) (ha : PySem.W.findIn K (.ref C) "__class__" = some (some (.builtin "object.__class__")))
      (hn:PySem.W.specialIn K (.builtin "object.__class__") "__get__" = some (some (.builtin "getset_descriptor.__get__"))) (htk:PySem.W.takesIn K (.builtin "object.__class__") = some true)
      (hm:PySem.W.mroIn K C (.type "object") = some true):TyOf K H (.ref a) (.ref C)
theorem isinst_ok {x : V} {u t : Value} (I : Inv X pins σ H s) (rx : RelV x u) (ty : TyOf X.K H x t) (e : PySem.W.kitOne X.K t c = some b) (h : ∀ tk, Q (.bool b) { s with toks := tk }) :
    wpAny (model X.prog X.w) A (call (.builtin "isinstance") [u,c]) Q E s:=by
  cases ty with
  | non=>cases (show u = Value.none from rx); exact PySem.W.kia_one PySem.W.kitx_none I.kIn True.intro e (fun z=>nomatch z) h
  | bl y=>cases (show u = Value.bool y from rx); exact PySem.W.kia_one PySem.W.kitx_bool I.kIn True.intro e (fun z=>nomatch z) h
  | int i=>obtain ⟨t,q⟩:=(show ∃ t,u = Value.int i t from rx); cases q; exact PySem.W.kia_one PySem.W.kitx_int I.kIn True.intro e (fun z=>nomatch z) h
  | str y=>obtain ⟨t,q⟩:=(show ∃ t,u = Value.str y t from rx); cases q; exact PySem.W.kia_one PySem.W.kitx_str I.kIn True.intro e (fun z=>nomatch z) h
  | flt y=>obtain ⟨t,q⟩:=(show ∃ t,u = Value.float y t from rx); cases q; exact PySem.W.kia_one PySem.W.kitx_float I.kIn True.intro e (fun z=>nomatch z) h
  | @lst a xs ea =>
    cases (show u = Value.ref a from rx)
    obtain ⟨_,_,n,_,h1⟩:=(show ObjOk X.prog X.w H s.heap a (.lst xs) from I.hok a _ ea)
    exact PySem.W.kia_one PySem.W.kitx_list I.kIn ⟨_,h1,rfl⟩ e (fun z=>nomatch z) h
  | @frz a ob xs ea =>
    cases (show u = Value.ref a from rx)
    obtain ⟨_,_,_,n,_,h1⟩:=(show ObjOk X.prog X.w H s.heap a (.frz ob (.lst xs)) from I.hok a _ ea)
    exact PySem.W.kia_one PySem.W.kitx_list I.kIn ⟨_,h1,rfl⟩ e (fun z=>nomatch z) h
  | @tup a xs ea =>
    cases (show u = Value.ref a from rx)
    obtain ⟨_,_,_,p⟩:=(show ObjOk X.prog X.w H s.heap a (.tup xs) from I.hok a _ ea)
    obtain ⟨o,h1,h2,_⟩:=p
    exact PySem.W.kia_one PySem.W.kitx_tuple I.kIn ⟨o,h1,h2⟩ e (fun z=>nomatch z) h
  | @dK a kvs ea =>
    cases (show u = Value.ref a from rx)
    obtain ⟨_,_,vs,_,p⟩:=(show ObjOk X.prog X.w H s.heap a (.dK kvs) from I.hok a _ ea)
    obtain ⟨o,es,ep,h1,h2,_⟩:=p
    exact PySem.W.kia_one PySem.W.kitx_dict I.kIn ⟨o,h1,h2.1⟩ e (fun z=>nomatch z) h
  | @dT a kvs ea =>
    cases (show u = Value.ref a from rx)
    obtain ⟨_,_,xs,_,o,es,ep,h1,h2,_⟩:=(show ObjOk X.prog X.w H s.heap a (.dT kvs) from I.hok a _ ea)
    exact PySem.W.kia_one PySem.W.kitx_dict I.kIn ⟨o,h1,h2.1⟩ e (fun z=>nomatch z) h
  | @ins a C dx fs ea cl ha hn htk hm =>
    cases (show u = Value.ref a from rx)
    obtain ⟨mA,O,_⟩:=ins_get I.hok ea
    obtain ⟨od,J,_⟩:=O.look
    exact PySem.W.kia_one (PySem.W.kitx_own (cl.get _) cl.hd ha hn htk hm) I.kIn J e (fun z=>nomatch z) h
end
end L2
namespace L2
open PySem PySem.Spec PyProof.Rows
structure Room (k:Nat) (A:Around):Prop where
  hd:A.handled = none
  dp:A.depth + 3 * k + 5 < recursionLimit
  un:A.units + 16 * k + 200 < cLine
  gd:A.guards = some []
theorem Room.mono {j k:Nat} {A:Around} (r:Room k A) (h:j ≤ k):Room j A:=⟨r.hd,by have:=r.dp; lia,by have:=r.un; lia,r.gd⟩
theorem Room.deeper {k:Nat} {A:Around} (r:Room (k + 1) A) (env:Env):Room k (A.deeper env) :=
  ⟨r.hd,by have:=r.dp; show A.depth + 1 + 3 * k + 5 < _; lia,by have:=r.un; show A.units + 3 + 16 * k + 200 < _; lia,r.gd⟩
theorem Room.depth {k:Nat} {A:Around} (r:Room k A):A.depth < recursionLimit:=by have:=r.dp; lia
theorem Room.units {k:Nat} {A:Around} (r:Room k A):A.units + 64 < cLine:=by have:=r.un; lia
noncomputable def tNil:TA:=fun _ H Q=>Q [] H
noncomputable def tCons (ta:TE) (tr:TA):TA:=fun σ H Q=>ta σ H fun x H1=>tr σ H1 fun xs H2=>Q (x :: xs) H2
section
variable {X:Cx} {e:Expr} {es:List Expr} {te:TE} {t:TA} {pos:Pos}
theorem pa_nil:PA X [] tNil:=fun _ _ _ _ H Q I h=>Calls.spliced_nil ⟨[],H,I,.nil,h⟩
theorem pa_cons (ha : PE X e te) (hr : PA X es t) (hs : starEach (e :: es) X.env = (false, eval e X.env) :: starEach es X.env := by rfl) : PA X (e :: es) (tCons te t) := by
  intro pos pins s σ H Q I h
  rw [hs]
  refine Calls.spliced_cons (thn (ha pins s σ H _ I h) fun u s1 ⟨x, H1, I1, r1, q1⟩ => ?_)
  exact thn (hr pos pins s1 σ H1 _ I1 q1) fun us s2 ⟨xs, H2, I2, r2, q2⟩ => ⟨x :: xs, H2, I2, .cons r1 r2, q2⟩
noncomputable def tTup (t:TA):TE:=fun σ H Q=>t σ H fun xs H1=>xs.length ≤ sizeLine∧∀ p,H1 p = none→Q (.ref p) (upd H1 p (.tup xs))
noncomputable def tLst (t:TA):TE:=fun σ H Q=>t σ H fun xs H1=>xs.length ≤ sizeLine∧∀ p,H1 p = none→Q (.ref p) (upd H1 p (.lst xs))
theorem pe_tup {x1} (h:PA X es t):PE X (.Tuple es x1 pos) (tTup t):=by
  intro pins s σ H Q I hq
  refine wpAny_Tuple_spliced (thn (h pos pins s σ H _ I hq) fun us s1 ⟨xs,H1,I1,r,z,q⟩=>⟨by rw [← r.length]; exact z,?_⟩)
  have hf:H1 s1.heap.objs.size = none:=I1.hok.fresh (Nat.le_refl _)
  refine ⟨.ref s1.heap.objs.size,upd H1 s1.heap.objs.size (.tup xs),I1.laid (t':=s1.toks) (fun b u e=>Heap.get?_push_of_some _ e) (Nat.le_refl _) ?_,rfl,q _ hf⟩
  exact ⟨z,us,r,⟨_,Heap.get?_push_size _ rfl,rfl,_,rfl⟩⟩
theorem pe_lst (h:PA X es t):PE X (.List es pos) (tLst t):=by
  intro pins s σ H Q I hq
  refine wpAny_List_spliced (thn (h pos pins s σ H _ I hq) fun us s1 ⟨xs,H1,I1,r,z,q⟩=>⟨by rw [← r.length]; exact z,?_⟩)
  have hf:H1 s1.heap.objs.size = none:=I1.hok.fresh (Nat.le_refl _)
  refine ⟨.ref s1.heap.objs.size,upd H1 s1.heap.objs.size (.lst xs),I1.laid (t':=s1.toks) (fun b u e=>Heap.get?_push_of_some _ e) (Nat.le_refl _) ?_,rfl,q _ hf⟩
  exact ⟨z,us,0,r,Heap.get?_push_size _ rfl⟩
end
noncomputable abbrev Sp:=List V→Hp→VK→XK→Prop
noncomputable abbrev CXT:=List Env→Hp→Shared→XK→Value→Shared→Prop
structure Env0 (P:Program) (w:World) (K:PySem.W.Frag) (mg:Str→Option Value) (base:Heap) (A:Around) (outer:List Env) (s:Shared) (H:Hp):Prop where
  frames:A.frames = some outer
  mod:Mod K mg base
  bs:∀ b o,base.get? b = some o→s.heap.get? b = some o∧H b = none
  bsz:base.objs.size ≤ s.heap.objs.size
  funs:s.heap.FunFrames base outer
  frf:∀ b ∈ frs outer,H b = none
  hok:HOk P w H s.heap
  bare:AllBare s.gens
noncomputable def CE (outer:List Env) (P:Program) (w:World) (H:Hp) (s:Shared) (Q:VK) (u:Value) (s':Shared):Prop :=
  ∃ v H',s'.os = s.os∧AllBare s'.gens∧Un (frs outer) [] H H' s.heap s'.heap∧HOk P w H' s'.heap∧RelV v u∧Q v H'
noncomputable def CR (CX:CXT) (outer:List Env) (P:Program) (w:World) (H:Hp) (s:Shared) (Q:VK) (E:XK) (r:Result) (s':Shared):Prop :=
  match r with
  | .ok (.ret u)=>CE outer P w H s Q u s'
  | .ok _=>False
  | .error e=>CX outer H s E e s'
structure FnOk (P:Program) (w:World) (K:PySem.W.Frag) (mg:Str→Option Value) (base:Heap) (CX:CXT) (k:Nat) (f:Addr) (fd:FuncData) (ps:List Str) (sp:Sp):Prop where
  len:∀ vs H Q E,sp vs H Q E→vs.length = ps.length
  run:∀ (A:Around) (outer:List Env) (s:Shared) (H:Hp) (args:Args) (us:List Value) (vs:List V) (Q:VK) (E:XK),Room k A→Env0 P w K mg base A outer s H→BindsTo s fd args (ps.zip us)→Vals vs us→sp vs H Q E →
    codeAny (model P w) A (.call (.ref f) args) (CR CX outer P w H s Q E) s
theorem FnOk.imp {P : Program} {w : World} {K : PySem.W.Frag} {mg : Str → Option Value} {base : Heap} {CX : CXT} {k : Nat} {f : Addr} {fd : FuncData} {ps : List Str} {sp sp' : Sp} (F : FnOk P w K mg base CX k f fd ps sp)
    (h:∀ vs H Q E,sp' vs H Q E→sp vs H Q E):FnOk P w K mg base CX k f fd ps sp' :=
  ⟨fun vs H Q E q=>F.len vs H Q E (h _ _ _ _ q),fun A outer s H args us vs Q E hr he hb hv hs=>F.run A outer s H args us vs Q E hr he hb hv (h _ _ _ _ hs)⟩
section
variable {X:Cx} {pins:List (Addr × Obj)} {σ:St} {H:Hp} {s s':Shared}
theorem Inv.env0 (I:Inv X pins σ H s):Env0 X.prog X.w X.K X.mg X.base X.A X.stack s H :=
  ⟨I.ok.frames,I.ok.mod,I.bs,Nat.le_trans I.ok.bsz I.sz,I.stack,I.stkFree,I.hok,I.bare⟩
theorem Inv.after {Q:VK} {u:Value} (I:Inv X pins σ H s) (h:CE X.stack X.prog X.w H s Q u s'):EP X pins σ Q u s':=by
  obtain ⟨v,H',os,bare,un,hok,r,q⟩:=h
  obtain ⟨hh,g,d,t,os'⟩:=s'
  obtain rfl:os' = s.os:=os
  exact ⟨v,H',I.call (h':=hh) (g':=g) (d':=d) (t':=t) (ch:=[]) un hok bare (fun b z=>absurd z (by simp)),r,q⟩
end
noncomputable def tCall (sp:Sp) (dvs:List V) (E:XK) (t:TA):TE:=fun σ H Q=>t σ H fun vs H1=>sp (vs ++ dvs) H1 Q E
noncomputable def Binds (K:PySem.W.Frag) (fd:FuncData) (ps:List Str) (ds:List Value):Prop :=
  ∀ (s:Shared) (us:List Value),K.In s.heap→(us ++ ds).length = ps.length→BindsTo s fd ⟨us,[]⟩ (ps.zip (us ++ ds))
theorem Binds.all {K:PySem.W.Frag} {fd:FuncData} {ps:List Str} (h:∀ us:List Value,us.length = ps.length→bindArgs fd ⟨us,[]⟩ = pure (ps.zip us)):Binds K fd ps []:=fun s us _ hl=>by
  rw [List.append_nil] at hl ⊢
  exact .of_eq (h us hl)
noncomputable def Passes (CX:CXT) (X:Cx) (E:XK):Prop:=∀ (pins:List (Addr × Obj)) (σ:St) (H:Hp) (s:Shared) (e:Value) (s':Shared),Inv X pins σ H s→CX X.stack H s E e s'→X.xe e s'
section
variable {X:Cx} {CX:CXT} {k:Nat} {f C:Addr} {fd:FuncData} {ps:List Str} {sp:Sp} {dvs:List V} {ds:List Value} {E:XK} {x m:Str} {p pos apos:Pos} {e o:Expr} {es:List Expr} {ta:TE} {t:TA}
theorem run_fn {pins : List (Addr × Obj)} {σ : St} {H : Hp} {s : Shared} {Q : VK} {us : List Value} {vs : List V} (F : FnOk X.prog X.w X.K X.mg X.base CX k f fd ps sp) (hr : Room k X.A) (hb : Binds X.K fd ps ds) (hd : Vals dvs ds) (hx : Passes CX X E)
    (I:Inv X pins σ H s) (r:Vals vs us) (h:sp (vs ++ dvs) H Q E):wpAny (model X.prog X.w) X.A (call (.ref f) us) (EP X pins σ Q) X.xe s:=by
  have r2:Vals (vs ++ dvs) (us ++ ds):=r.append hd
  have hl:(us ++ ds).length = ps.length:=by rw [← r2.length]; exact F.len _ _ _ _ h
  refine wpAny_call (codeAny_mono (F.run X.A X.stack s H ⟨us,[]⟩ (us ++ ds) (vs ++ dvs) Q E hr I.env0 (hb s us I.kIn hl) r2 h) fun r s' hq=>?_)
  cases r with
  | error e=>exact hx pins σ H s e s' I hq
  | ok fl =>
    cases fl with
    | ret u=>exact I.after hq
    | next=>exact False.elim hq
    | brk=>exact False.elim hq
    | cont=>exact False.elim hq
theorem pe_call (F : FnOk X.prog X.w X.K X.mg X.base CX k f fd ps sp) (hr : Room k X.A) (hg : Gl X x) (hm : X.mg x = some (.ref f)) (hk : PySem.W.keepIn X.K (.ref f) = true) (hb : Binds X.K fd ps ds) (hd : Vals dvs ds) (hx : Passes CX X E)
    (ha:PA X (e :: es) t) (hdb:(x == ("__debug__":Str)) = false:=by decide) (he:starEach (e :: es) X.env = (false,eval e X.env) :: starEach es X.env:=by rfl) (hpl:(backTo pos (starEach es X.env)).any (·.1) = false:=by rfl) :
    PE X (.Call (.Name x p) (e :: es) [] pos) (tCall sp dvs E t):=by
  intro pins s σ H Q I h
  refine wpAny_Call_Name_kw (ld_glob I hg hm ?_ hdb)
  refine PySem.W.callWith_K (h₀:=X.base) I.ok.mod.kin hk (thn (ha pos pins s σ H _ I h) fun us s1 ⟨vs,H1,I1,r,q⟩=>⟨I1.kIn,?_⟩) he hpl
  exact run_fn F hr hb hd hx I1 r q
structure Mk (K:PySem.W.Frag) (C f:Addr):Prop where
  makes:PySem.W.makesIn K C = true
  init:PySem.W.findIn K (.ref C) "__init__" = some (some (.ref f))
  fn:PySem.W.isFn K (.ref f) = true
  kp:PySem.W.keepIn K (.ref C) = true
end
noncomputable def PK (X:Cx) (kws:List Keyword) (t:TA):Prop :=
  ∀ (pos:Pos) (pins:List (Addr × Obj)) (s:Shared) (σ:St) (H:Hp) (Q:List V→Hp→Prop),Inv X pins σ H s→t σ H Q→wpAny (model X.prog X.w) X.A (evalAll ((backToKw pos (keywordEach kws X.env)).map (·.2))) (AP X pins σ Q) X.xe s
section
variable {X:Cx} {CX:CXT} {k:Nat} {f C:Addr} {fd:FuncData} {ps ks:List Str} {sp:Sp} {E:XK} {x m:Str} {p pos apos kpos:Pos} {e o:Expr} {es:List Expr} {kws:List Keyword} {te ta:TE} {t tk:TA} {nm:Option Str}
theorem pk_nil:PK X [] tNil:=fun _ _ _ _ H Q I h=>wpAny_evalAll_nil ⟨[],H,I,.nil,h⟩
theorem pk_cons (ha:PE X e te) (hr:PK X kws t):PK X (⟨nm,e,kpos⟩ :: kws) (tCons te t):=by
  intro pos pins s σ H Q I h
  show wpAny _ _ (evalAll ((do let v ← eval e X.env; standAt pos; pure v) :: (backToKw pos (keywordEach kws X.env)).map (·.2))) _ _ s
  refine wpAny_evalAll_cons (wpAny_bind (thn (ha pins s σ H _ I h) fun u s1 ⟨x,H1,I1,r1,q1⟩=>wpAny_bind (wpAny_standAt (wpAny_pure ?_))))
  exact thn (hr pos pins s1 σ H1 _ I1 q1) fun us s2 ⟨xs,H2,I2,r2,q2⟩=>⟨x :: xs,H2,I2,.cons r1 r2,q2⟩
structure KBinds (K:PySem.W.Frag) (fd:FuncData) (ps ks:List Str) (g:List Value→List Value→List Value) (gV:List V→List V→List V):Prop where
  to:∀ (s:Shared) (us ws:List Value),K.In s.heap→(g us ws).length = ps.length→BindsTo s fd ⟨us,ks.zip ws⟩ (ps.zip (g us ws))
  rel:∀ {vs:List V} {us:List Value} {zs:List V} {ws:List Value},Vals vs us→Vals zs ws→Vals (gV vs zs) (g us ws)
variable {g:List Value→List Value→List Value} {gV:List V→List V→List V}
end
structure FnScope (N P:List Str) (sc:Scope):Prop where
  kind:sc.kind = .function
  co:sc.isCoroutine = false
  gen:sc.isGenerator = false
  nd:N.Nodup
  pre:N.take P.length = P
  par:∀ x ∈ P,sc.names.lookup x = some .local∨sc.names.lookup x = some .cell
  nofree:∀ y ∈ sc.names,y.2 ≠ .free
theorem bindL_out {kindOf:Str→Option NameKind} {x:Str}:∀ {binds:List (Str × Value)} {m:Str→Option Value},(∀ v,(x,v) ∉ binds)→bindL kindOf binds m x = m x
  | [],_,_=>rfl
  | (n,v) :: r,m,h=>by
    unfold bindL
    rw [bindL_out fun w hw=>h w (List.mem_cons_of_mem _ hw)]
    split
    · have:x ≠ n:=by rintro rfl; exact h v List.mem_cons_self
      simp [this]
    · rfl
theorem bindC_out {kindOf:Str→Option NameKind} {x:Str}:∀ {binds:List (Str × Value)} {m:Str→Option Value},(∀ v,(x,v) ∉ binds)→bindC kindOf binds m x = m x
  | [],_,_=>rfl
  | (n,v) :: r,m,h=>by
    unfold bindC
    rw [bindC_out fun w hw=>h w (List.mem_cons_of_mem _ hw)]
    split
    · rfl
    · have:x ≠ n:=by rintro rfl; exact h v List.mem_cons_self
      simp [this]
theorem bindL_get {kindOf : Str → Option NameKind} {x : Str} {v : Value} : ∀ {P : List Str} {vs : List Value} {i : Nat} {m : Str → Option Value}, P.Nodup → P[i]? = some x → vs[i]? = some v → kindOf x = some .local →
    bindL kindOf (P.zip vs) m x = some v
  | [],_,_,_,_,h,_,_=>by simp at h
  | _ :: _,[],_,_,_,_,h,_=>by simp at h
  | p :: P,w :: vs,0,m,nd,h1,h2,hk=>by
    simp at h1 h2; subst h1; subst h2
    show bindL kindOf ((p,w) :: P.zip vs) m p = _
    unfold bindL
    rw [bindL_out fun v hv=>(List.nodup_cons.mp nd).1 (List.of_mem_zip hv).1,if_pos hk]
    simp
  | p :: P,w :: vs,i + 1,m,nd,h1,h2,hk=>by
    show bindL kindOf ((p,w) :: P.zip vs) m x = _
    unfold bindL
    exact bindL_get (i:=i) (List.nodup_cons.mp nd).2 (by simpa using h1) (by simpa using h2) hk
theorem bindC_get {kindOf : Str → Option NameKind} {x : Str} {v : Value} : ∀ {P : List Str} {vs : List Value} {i : Nat} {m : Str → Option Value}, P.Nodup → P[i]? = some x → vs[i]? = some v → kindOf x ≠ some .local →
    bindC kindOf (P.zip vs) m x = some v
  | [],_,_,_,_,h,_,_=>by simp at h
  | _ :: _,[],_,_,_,_,h,_=>by simp at h
  | p :: P,w :: vs,0,m,nd,h1,h2,hk=>by
    simp at h1 h2; subst h1; subst h2
    show bindC kindOf ((p,w) :: P.zip vs) m p = _
    unfold bindC
    rw [bindC_out fun v hv=>(List.nodup_cons.mp nd).1 (List.of_mem_zip hv).1,if_neg hk]
    simp
  | p :: P,w :: vs,i + 1,m,nd,h1,h2,hk=>by
    show bindC kindOf ((p,w) :: P.zip vs) m x = _
    unfold bindC
    exact bindC_get (i:=i) (List.nodup_cons.mp nd).2 (by simpa using h1) (by simpa using h2) hk
noncomputable def start (N:List Str) (vs:List V):St:=vs.map some ++ List.replicate (N.length - vs.length) none
noncomputable def cxOf (CX:CXT) (P:Program) (w:World) (K:PySem.W.Frag) (mg:Str→Option Value) (base:Heap) (N:List Str) (qual:Str) (scope:Scope) (f:Addr) (cd:Value) (A:Around) (outer:List Env) (s:Shared) (H:Hp) (E:XK):Cx where
  prog:=P
  w:=w
  K:=K
  mg:=mg
  base:=base
  A:=A.deeper (envOfC qual scope s.heap.objs.size f cd)
  N:=N
  s₀:=s
  H₀:=H
  env:=envOfC qual scope s.heap.objs.size f cd
  outer:=outer
  stack:=envOfC qual scope s.heap.objs.size f cd :: outer
  ex:=[]
  calm:=true
  fn:=fun _=>true
  pn:=[]
  xe:=fun e s'=>wpAny (model P w) (A.deeper (envOfC qual scope s.heap.objs.size f cd)) (leaving (envOfC qual scope s.heap.objs.size f cd) e) (fun _ s''=>CX outer H s E e s'') (fun e' s''=>CX outer H s E e' s'') s'
theorem cell_has {sc:Scope} {n:Nat} {x:Str} (h:sc.names.lookup x = some .cell):∃ c,(cellsFrom n sc.names []).lookup x = some c:=by
  have q:=PySem.W.cellsFrom_some sc.names n [] (.inl h)
  exact Option.isSome_iff_exists.mp q
theorem inv_start {CX : CXT} {P : Program} {w : World} {K : PySem.W.Frag} {mg : Str → Option Value} {base : Heap} {N ps : List Str} {qual : Str} {scope : Scope} {f : Addr} {cd : Value} {A : Around} {outer : List Env} {s s1 : Shared} {H : Hp} {E : XK} {us : List Value} {vs : List V}
    (S:FnScope N ps scope) (hd:A.handled = none) (e0:Env0 P w K mg base A outer s H) (hl:vs.length = ps.length) (r:Vals vs us)
    (x:InCallC s s.heap.objs.size (bindL (envOfC qual scope s.heap.objs.size f cd).kindOf (ps.zip us) fun _=>none) (cellsFrom (s.heap.objs.size + 1) scope.names []) (bindC (envOfC qual scope s.heap.objs.size f cd).kindOf (ps.zip us) fun _=>none) s1) :
    Inv (cxOf CX P w K mg base N qual scope f cd A outer s H E) [] (start N vs) H s1:=by
  have hpl:ps.length ≤ N.length:=by have:=congrArg List.length S.pre; rw [List.length_take] at this; lia
  obtain ⟨h1,tk,rfl,hk⟩:=x.done
  have noA:∀ b:Addr,b ∉ (cxOf CX P w K mg base N qual scope f cd A outer s H E).ex:=fun b z=>absurd (show b ∈ ([]:List Addr) from z) (by simp)
  refine ⟨⟨e0.mod,S.kind,rfl,rfl,Nat.le_refl _,fun y z c h1 h2=>?_,fun y hy=>?_,fun y c _ h=>?_,fun _=>hd,Around.frames_deeper e0.frames,.inr ⟨rfl,rfl⟩,fun b z=>absurd z (noA b),e0.bs,e0.bsz,fun b _ _=>noA b,fun b z=>absurd z (noA b),e0.funs,e0.frf⟩,
    rfl,e0.bare,Un.kept hk,⟨_,x.toInCall.ns,fun i y v h1 h2 h3=>?_⟩,fun y c h=>⟨_,x.cell y c h⟩,e0.hok.fresh (Nat.le_refl _),fun y c h=>?_,fun p hp=>absurd (show p ∈ ([]:List (Addr × Obj)) from hp) (by simp),e0.hok.kept hk,?_⟩
  · exact name_of_addr x.apart (PySem.mem_of_lookup h1) (PySem.mem_of_lookup h2)
  · have hy:scope.names.lookup y = some .cell∨scope.names.lookup y = some .free:=hy
    rcases hy with hy | hy
    · exact cell_has hy
    · exact absurd rfl (S.nofree _ (PySem.mem_of_lookup hy))
  · exact Nat.le_of_lt (x.above y c (PySem.mem_of_lookup h))
  · have hi : i < vs.length := by
      unfold start at h2
      by_cases hi:i < vs.length
      · exact hi
      · rw [List.getElem?_append_right (by simpa using hi)] at h2
        rw [List.getElem?_replicate] at h2
        split at h2 <;> cases h2
    have ha:vs[i]? = some v:=by
      unfold start at h2
      rw [List.getElem?_append_left (by simpa using hi),List.getElem?_map] at h2
      cases e:vs[i]? with
      | none=>rw [e] at h2; cases h2
      | some a=>rw [e] at h2; cases h2; rfl
    obtain ⟨u,hu,rv⟩:=r.get ha
    have hp:ps[i]? = some y:=by
      rw [← S.pre,List.getElem?_take_of_lt (by lia)]; exact h1
    have ndP:ps.Nodup:=by rw [← S.pre]; exact S.nd.sublist (List.take_sublist _ _)
    refine ⟨u,rv,?_⟩
    rcases S.par y (List.mem_of_getElem? hp) with k | k
    · exact .inl ⟨k,bindL_get ndP hp hu k⟩
    · obtain ⟨c,e⟩:=cell_has (n:=s.heap.objs.size + 1) k
      refine .inr ⟨.inl k,c,e,?_⟩
      have q:=x.cell y c e
      rw [bindC_get ndP hp hu (by show scope.names.lookup y ≠ _; rw [k]; decide)] at q
      exact q
  · exact e0.hok.fresh (Nat.le_of_lt (x.above y c (PySem.mem_of_lookup h)))
  · unfold start
    show _ = N.length
    rw [List.length_append,List.length_map,List.length_replicate]
    lia
theorem fn_of {CX : CXT} {P : Program} {w : World} {K : PySem.W.Frag} {mg : Str → Option Value} {base : Heap} {k : Nat} {f : Addr} {name qual : Str} {params : Arguments} {body : List Stmt} {scope : Scope} {dV kV doc pm cdv ct oc : Value} {an od : Option Addr}
    {osl:Array (Option Value)} {N ps:List Str} {sp:Sp} (lk:K.lookup f = some ⟨oc,od,.func (PySem.W.fnOf name qual params body scope dV kV doc pm an cdv ct),osl⟩) (hcd:PySem.W.codeIn K cdv qual = true) (S:FnScope N ps scope)
    (len:∀ vs H Q E,sp vs H Q E→vs.length = ps.length)
    (hbody:∀ (A:Around) (outer:List Env) (s:Shared) (H:Hp) (vs:List V) (Q:VK) (E:XK),Room k (A.deeper (envOfC qual scope s.heap.objs.size f cdv))→sp vs H Q E →
      ∃ t,PSs (cxOf CX P w K mg base N qual scope f cdv A outer s H E) body t∧t { nx:=fun _ H'=>Q .non H',rt:=Q } (start N vs) H) :
    FnOk P w K mg base CX (k + 1) f (PySem.W.fnOf name qual params body scope dV kV doc pm an cdv ct) ps sp:=by
  refine ⟨len,fun A outer s H args us vs Q E hr e0 hb r hsp=>?_⟩
  have hl:=len _ _ _ _ hsp
  have KX:K.In s.heap:=e0.mod.kin.keeps fun b o e=>(e0.bs b o e).1
  have lim:s.heap.NoLimit:=e0.mod.nolimit.keeps fun b o e=>(e0.bs b o e).1
  have hkind:∀ y ∈ ps.zip us,scope.names.lookup y.1 = some .local∨(scope.names.lookup y.1 = some .cell∧((cellsFrom (s.heap.objs.size + 1) scope.names []).lookup y.1).isSome = true):=fun ⟨n,v⟩ hy=>by
    rcases S.par n (List.of_mem_zip hy).1 with q | q
    · exact .inl q
    · exact .inr ⟨q,PySem.W.cellsFrom_some _ _ _ (.inl q)⟩
  refine codeAny_call_function hr.depth (KX _ _ lk) rfl S.co S.gen rfl (PySem.W.codeRec_of KX hcd) (hb _ _ _ _ ?_)
  refine wpAny_newFunctionEnv_cells S.kind hkind fun env he s1 x=>?_
  subst he
  refine ⟨lim.keeps x.toInCall.keep,codeAny_func ?_⟩
  obtain ⟨t,ht,hq⟩:=hbody A outer s H vs Q E (hr.deeper _) hsp
  have I:Inv (cxOf CX P w K mg base N qual scope f cdv A outer s H E) [] (start N vs) H s1:=inv_start S hr.hd e0 hl r x
  refine wpAny_mono (ht [] s1 (start N vs) H _ I hq) (fun fl s' hs=>?_) fun e s' hs=>hs
  have fin:∀ {σ':St} {H':Hp} {v:V} {u:Value},Inv (cxOf CX P w K mg base N qual scope f cdv A outer s H E) [] σ' H' s'→RelV v u→Q v H'→CE outer P w H s Q u s' :=
    fun {σ' H' v u} J rv q=>⟨v,H',J.os,J.bare,J.base,J.hok,rv,q⟩
  cases fl with
  | ret u =>
    obtain ⟨v,σ',H',J,rv,q⟩:=hs
    exact fin J rv q
  | next =>
    obtain ⟨σ',H',J,q⟩:=hs
    exact fin (v:=V.non) (u:=Value.none) J rfl q
  | brk =>
    obtain ⟨_,_,_,q⟩:=hs
    exact False.elim q
  | cont =>
    obtain ⟨_,_,_,q⟩:=hs
    exact False.elim q
end L2
namespace L2
open PySem PySem.Spec PyProof.Rows
section
variable {X:Cx} {x:Str} {p pos:Pos} {e:Expr} {es:List Expr} {t:TA} {id T:String} {r:List V→Hp→VK→Prop}
noncomputable def tCB (r:List V→Hp→VK→Prop) (t:TA):TE:=fun σ H Q=>t σ H fun vs H1=>r vs H1 Q
theorem pe_callB (hc : CallR X (.builtin id) r) (hg : Gl X x) (hm : X.mg x = none) (hv : bootBuiltins x = some (.builtin id)) (ha : PA X (e :: es) t) (hn : x ≠ "__name__" := by decide) (hdb : (x == ("__debug__" : Str)) = false := by decide)
    (he:starEach (e :: es) X.env = (false,eval e X.env) :: starEach es X.env:=by rfl) (hpl:(backTo pos (starEach es X.env)).any (·.1) = false:=by rfl):PE X (.Call (.Name x p) (e :: es) [] pos) (tCB r t):=by
  intro pins s σ H Q I h
  refine wpAny_Call_Name_kw (ld_blt I hg hm hv ?_ hn hdb)
  exact PyProof.Rows.callWith_builtin1 (thn (ha pos pins s σ H _ I h) fun us s1 ⟨vs,H1,I1,r1,q1⟩=>hc pins s1 σ H1 vs us Q I1 r1 q1) he hpl
theorem pe_callTy (hc : CallR X (.type T) r) (hg : Gl X x) (hm : X.mg x = none) (hv : bootBuiltins x = some (.type T)) (ha : PA X (e :: es) t) (hn : x ≠ "__name__" := by decide) (hdb : (x == ("__debug__" : Str)) = false := by decide)
    (he:starEach (e :: es) X.env = (false,eval e X.env) :: starEach es X.env:=by rfl) (hpl:(backTo pos (starEach es X.env)).any (·.1) = false:=by rfl):PE X (.Call (.Name x p) (e :: es) [] pos) (tCB r t):=by
  intro pins s σ H Q I h
  refine wpAny_Call_Name_kw (ld_blt I hg hm hv ?_ hn hdb)
  exact PyProof.Rows.callWith_type1 (thn (ha pos pins s σ H _ I h) fun us s1 ⟨vs,H1,I1,r1,q1⟩=>hc pins s1 σ H1 vs us Q I1 r1 q1) he hpl
end
end L2
namespace HT
open PySem PyProof.Rows
section
open PySem.SeqAt
open PySem.AutoSeq1 (wpAny_loadPart')
open PySem.MeetsSeq PySem.MeetsSeq2 PySem.MeetsSeq3
end
section
variable {prog:Program} {w:World} {A:Around} {E:Value→Shared→Prop} {s:Shared}
theorem cat_tup {t b : Addr} {vs ws : List Value} {Q : Value → Shared → Prop} (ht : IsTup s.heap t vs.toArray) (hb : IsTup s.heap b ws.toArray) (hv : vs ≠ [])
    (h1 : ws = [] → Q (.ref t) s) (h2 : ws ≠ [] → Q (.ref s.heap.objs.size) { s with heap := s.heap.push { cls := .type "tuple", data := .seq (vs ++ ws).toArray } })
    (hsz : vs.length + ws.length ≤ sizeLine) : wpAny (model prog w) A (binaryOp .Add (.ref t) (.ref b)) Q E s := by
  obtain ⟨⟨cls, dd, data, sl⟩, ho, hc, n, hd⟩ := id ht
  obtain ⟨⟨cls2, dd2, data2, sl2⟩, ho2, hc2, n2, hd2⟩ := id hb
  simp only at hc hd hc2 hd2
  subst hc hd hc2 hd2
  have e : vs.toArray ++ ws.toArray = (vs ++ ws).toArray := by simp
  by_cases hw : ws = []
  · exact concat_meets ⟨_, ho, rfl⟩ ⟨_, ho2, rfl⟩ noFill_tuple_add seq_tuple_add PySem.F.slot_tuple_add PySem.F.entry_tuple_add (PySem.F.args_tuple_add_2 _ _)
      (tuple_addW1 t b vs.toArray ws.toArray n n2 dd dd2 sl sl2 (by simpa using hv) (by simp [hw])) ⟨ho, ho2, h1 hw⟩
  · refine concat_meets ⟨_, ho, rfl⟩ ⟨_, ho2, rfl⟩ noFill_tuple_add seq_tuple_add PySem.F.slot_tuple_add PySem.F.entry_tuple_add (PySem.F.args_tuple_add_2 _ _)
      (tuple_addW2 t b vs.toArray ws.toArray n n2 dd dd2 sl sl2 (by simpa using hv) (by simpa using hw) (by simp_all)) ⟨ho, ho2, ?_⟩
    rw [e]
    exact h2 hw
noncomputable def sIx (n d:Nat):Option Int→Nat
  | none=>d
  | some v=>if v < 0 then (v + (n:Int)).toNat else min v.toNat n
theorem sIx_none (n d:Nat):sIx n d none = d:=rfl
theorem sIx_nat (n d k : Nat) : sIx n d (some (k : Int)) = min k n := rfl
theorem sIx_le (n d : Nat) (hd : d ≤ n) (o : Option Int) : sIx n d o ≤ n := by
  cases o with
  | none => exact hd
  | some v =>
    show (if v < 0 then (v + (n : Int)).toNat else min v.toNat n) ≤ n
    grind
theorem clip_eq (v : Int) (n d : Nat) : (if v < 0 then max (v + (n : Int)) 0 else min v (n : Int)) = ((sIx n d (some v) : Nat) : Int) := by
  show (if v < 0 then max (v + (n : Int)) 0 else min v (n : Int)) = (((if v < 0 then (v + (n : Int)).toNat else min v.toNat n) : Nat) : Int)
  grind
theorem adjust_gen (lo hi : Option Int) (n : Nat) : Builtin.Slice.sliceAdjust lo hi 1 (n : Int) = (((sIx n 0 lo : Nat) : Int), ((sIx n n hi : Nat) : Int)) := by
  have h1 : ¬ ((1 : Int) < 0) := by lia
  unfold Builtin.Slice.sliceAdjust
  refine Prod.ext ?_ ?_
  · cases lo with
    | none => rfl
    | some v => exact clip_eq v n 0
  · cases hi with
    | none => rfl
    | some v => exact clip_eq v n n
theorem places_gen (i j : Nat) : Builtin.Slice.slicePlaces (i : Int) (j : Int) 1 = j - i := by
  unfold Builtin.Slice.slicePlaces
  grind
theorem slicePart_ {v:Value} {o:Option Int} {Q:Option Int→Shared→Prop} (p:IsPart v o) (h:Q o s):wpAny (model prog w) A (Builtin.Slice.slicePartIndex v) Q E s:=by
  cases p with
  | none=>exact slicePart_none h
  | int i t=>exact slicePart_int h
theorem sliceApplied_gen {sl : Addr} {vl vu : Value} {lo hi : Option Int} {n : Nat} {Q : Int × Int × Nat → Shared → Prop} (hs : s.heap.IsSliceOf sl vl vu .none) (pl : IsPart vl lo) (pu : IsPart vu hi)
    (h : Q (((sIx n 0 lo : Nat) : Int), 1, sIx n n hi - sIx n 0 lo) s) : wpAny (model prog w) A (Builtin.Slice.sliceApplied (.ref sl) (pure (n : Int))) Q E s := by
  obtain ⟨os, hos, hcs, hds⟩ := id hs
  refine wpAny_bind (wpAny_bind (wpAny_field hos hds (x := vl) rfl (wpAny_bind (wpAny_field hos hds (x := vu) rfl (wpAny_bind (wpAny_field hos hds (x := .none) rfl (wpAny_pure ?_)))))))
  refine wpAny_bind (slicePart_none ?_)
  rw [if_neg (by decide)]
  refine wpAny_bind (slicePart_ pl (wpAny_bind (slicePart_ pu (wpAny_bind (wpAny_pure ?_)))))
  show wpAny _ _ (match Builtin.Slice.sliceAdjust lo hi 1 (n : Int) with | (lo, hi) => pure (lo, (1 : Int), Builtin.Slice.slicePlaces lo hi 1)) _ _ s
  rw [adjust_gen lo hi n]
  show wpAny _ _ (pure (((sIx n 0 lo : Nat) : Int), (1 : Int), Builtin.Slice.slicePlaces ((sIx n 0 lo : Nat) : Int) ((sIx n n hi : Nat) : Int) 1)) _ _ s
  rw [places_gen]
  exact wpAny_pure h
theorem pick_gen (xs:Array Value) (i k:Nat):((List.range k).filterMap fun (m:Nat)=>xs[((i:Int) + (m:Int) * 1).toNat]?).toArray = ((xs.toList.drop i).take k).toArray:=by
  have e:(fun (m:Nat)=>xs[((i:Int) + (m:Int) * 1).toNat]?) = fun m=>xs[i + m]?:=by
    funext m
    have:((i:Int) + (m:Int) * 1).toNat = i + m:=by lia
    rw [this]
  rw [e]
  have:=pick_run xs i k
  rw [List.filterMap_map] at this
  have e2:((fun x=>xs[x]?) ∘ fun x=>i + x) = fun m=>xs[i + m]?:=rfl
  rw [e2] at this
  rw [this]
theorem getItem_tuple_cut {t sl : Addr} {items : Array Value} {vl vu : Value} {lo hi : Option Int} {Q : Value → Shared → Prop} (ht : IsTup s.heap t items) (hs : s.heap.IsSliceOf sl vl vu .none) (pl : IsPart vl lo) (pu : IsPart vu hi)
    (hw : ¬ (sIx items.size 0 lo = 0 ∧ sIx items.size items.size hi = items.size))
    (h : Q (.ref s.heap.objs.size) { s with heap := s.heap.push { cls := .type "tuple", data := .seq ((items.toList.drop (sIx items.size 0 lo)).take (sIx items.size items.size hi - sIx items.size 0 lo)).toArray } })
    (hsz : items.size ≤ sizeLine) : wpAny (model prog w) A (getItem (.ref t) (.ref sl)) Q E s := by
  have htake : sizeOk (.seq ((items.toList.drop (sIx items.size 0 lo)).take (sIx items.size items.size hi - sIx items.size 0 lo)).toArray) := by
    show ((items.toList.drop (sIx items.size 0 lo)).take (sIx items.size items.size hi - sIx items.size 0 lo)).toArray.size ≤ sizeLine
    rw [List.size_toArray, List.length_take, List.length_drop, Array.length_toList]
    lia
  have hj : sIx items.size items.size hi ≤ items.size := sIx_le _ _ (Nat.le_refl _) hi
  obtain ⟨os, hos, hcs, hds⟩ := id hs
  have hTs : s.TypeIs (.ref sl) "slice" := ⟨os, hos, hcs⟩
  unfold getItem
  try with_reducible refine wpAny_holding ?_
  first | refine wpAny_bind (wpAny_pure ?_) | skip
  refine wpAny_bind (wpAny_sequenceKey ht.typeIs (by decide) ?_)
  refine wpAny_bind (wpAny_callSpecial?_slot (name := Str.ofString "__getitem__") ht.typeIs PyProof.Rows.slot_tuple_getitem
    (wpAny_call_entry PyProof.Rows.slot_tuple_getitem ht.typeIs entry_tuple_getitem ?_ (args_tuple_getitem _ _)))
  show wpAny _ _ (Builtin.Tuple.tupleItemsOf (.ref t) >>= _) _ _ s
  refine wpAny_bind (tupleItemsOf_ ht ?_)
  refine wpAny_bind (wpAny_typeOf hTs ?_)
  rw [if_pos (by decide)]
  refine wpAny_bind (sliceApplied_gen hs pl pu ?_)
  have hno : ¬ ((((sIx items.size 0 lo : Nat) : Int) == 0 && (1 : Int) == 1 && (sIx items.size items.size hi - sIx items.size 0 lo) == items.size) = true) := by grind
  show wpAny _ _ (if (((sIx items.size 0 lo : Nat) : Int) == 0 && (1 : Int) == 1 && (sIx items.size items.size hi - sIx items.size 0 lo) == items.size) = true then _ else _) _ _ s
  rw [if_neg hno, pick_gen]
  first
    | exact wpAny_bind (m := Builtin.Tuple.tupleExact _) (wpAny_newObj_type (wpAny_pure ⟨_, rfl, wpAny_pure h⟩) htake)
    | exact wpAny_bind (m := Builtin.Tuple.tupleExact _) (wpAny_newObj_type (wpAny_bind (wpAny_pure (wpAny_pure ⟨_, rfl, wpAny_pure h⟩))) htake)
    | exact wpAny_bind (wpAny_bind (m := Builtin.Tuple.tupleExact _) (wpAny_newObj_type (wpAny_pure (wpAny_pure ⟨_, rfl, wpAny_pure h⟩)) htake))
    | exact wpAny_bind (wpAny_bind (m := Builtin.Tuple.tupleExact _) (wpAny_newObj_type (wpAny_pure ⟨_, rfl, wpAny_pure h⟩) htake))
end
end HT
namespace L2
open PySem PySem.Spec PyProof.Rows
noncomputable abbrev TO:=St→Hp→(Option Int→Hp→Prop)→Prop
noncomputable def PO (X:Cx) (e:Option Expr) (t:TO):Prop :=
  ∀ (pins:List (Addr × Obj)) (s:Shared) (σ:St) (H:Hp) (Q:Option Int→Hp→Prop),Inv X pins σ H s→t σ H Q →
    wpAny (model X.prog X.w) X.A (evalPart e X.env) (fun u s'=>∃ o H',Inv X pins σ H' s'∧IsPart u o∧Q o H') X.xe s
noncomputable def tNoPart:TO:=fun _ H Q=>Q none H
noncomputable def tPart (t:TE):TO:=fun σ H Q=>t σ H fun x H1=>∃ i,x = .int i∧Q (some i) H1
section
variable {X:Cx} {e:Expr} {te:TE} {lo hi:Option Expr} {tl th:TO} {pos p2:Pos}
theorem po_none : PO X none tNoPart := by
  intro pins s σ H Q I h
  exact wpAny_pure ⟨none, H, I, .none, h⟩
theorem po_some (h : PE X e te) : PO X (some e) (tPart te) := by
  intro pins s σ H Q I hw
  refine thn (h pins s σ H _ I hw) fun u s1 ⟨x, H1, I1, r1, q1⟩ => ?_
  obtain ⟨i, rfl, q⟩ := q1
  obtain ⟨t, rfl⟩ := r1
  exact ⟨some i, H1, I1, .int i t, q⟩
noncomputable def SlR (X:Cx) (r:V→Option Int→Option Int→Hp→VK→Prop):Prop :=
  ∀ (pins:List (Addr × Obj)) (s:Shared) (σ:St) (H:Hp) (x:V) (v vl vu:Value) (lo hi:Option Int) (sl:Addr) (Q:VK),Inv X pins σ H s→RelV x v→s.heap.IsSliceOf sl vl vu .none→IsPart vl lo→IsPart vu hi→r x lo hi H Q →
    ∃ T id,typeLookup (.type T) "__getitem__" = pure (some (.builtin id))∧s.TypeIs v T∧wpAny (model X.prog X.w) X.A (getItem v (.ref sl)) (EP X pins σ Q) X.xe s
noncomputable def tSl (r:V→Option Int→Option Int→Hp→VK→Prop) (te:TE) (tl th:TO):TE:=fun σ H Q=>te σ H fun x H1=>tl σ H1 fun l H2=>th σ H2 fun u H3=>r x l u H3 Q
theorem pe_slice {r : V → Option Int → Option Int → Hp → VK → Prop} (hr : SlR X r) (he : PE X e te) (hl : PO X lo tl) (hu : PO X hi th) : PE X (.Subscript e (.Slice lo hi none p2) pos) (tSl r te tl th) := by
  intro pins s σ H Q I h
  refine Subscript_ (thn (he pins s σ H _ I h) fun v s1 ⟨x, H1, I1, r1, q1⟩ => ?_)
  refine wpAny_Slice (thn (hl pins s1 σ H1 _ I1 q1) fun vl s2 ⟨l, H2, I2, pl, q2⟩ => thn (hu pins s2 σ H2 _ I2 q2) fun vu s3 ⟨u, H3, I3, pu, q3⟩ => ?_)
  rw [evalPart_none]
  refine wpAny_pure ?_
  have I4 : Inv X pins σ H3 { s3 with heap := s3.heap.push { cls := .type "slice", data := .fields #[vl, vu, .none] } } := I3.kept (t' := s3.toks) fun b ob q => Heap.get?_push_of_some _ q
  obtain ⟨T, id, hT, ht, hg⟩ := hr pins { s3 with heap := s3.heap.push { cls := .type "slice", data := .fields #[vl, vu, .none] } } σ H3 x v vl vu l u s3.heap.objs.size Q I4 r1 (Heap.IsSliceOf.new ..) pl pu q3
  exact tail_any (ops := [.ref s3.heap.objs.size, v]) ht hT hg (by with_unfolding_all rfl)
noncomputable def cutV (xs:List V) (lo hi:Option Int):List V:=(xs.drop (HT.sIx xs.length 0 lo)).take (HT.sIx xs.length xs.length hi - HT.sIx xs.length 0 lo)
theorem cutV_length (xs:List V) (lo hi:Option Int):(cutV xs lo hi).length ≤ xs.length:=by
  unfold cutV
  rw [List.length_take,List.length_drop]
  lia
inductive rSlT (K:PySem.W.Frag) (x : V) (lo : Option Int) (hi : Option Int) (H : Hp) (Q : VK) : Prop | mk (a : _) (xs : _) : (x = .ref a) → SqT K H a xs → (¬ (HT.sIx xs.length 0 lo = 0∧HT.sIx xs.length xs.length hi = xs.length)) → (∀ p,H p = none→Q (.ref p) (upd H p (.tup (cutV xs lo hi)))) → rSlT K x lo hi H Q
theorem sl_tup : SlR X (rSlT X.K) := by
  intro pins s σ H x v vl vu lo hi sl Q I rx hs pl pu h
  obtain ⟨a, xs, rfl, hx, hw, q⟩ := h
  cases rx
  obtain ⟨its, r, ht, hz⟩ := I.tuple hx
  have hlen : its.toArray.size = xs.length := by exact r.length.symm
  refine ⟨"tuple", _, PyProof.Rows.slot_tuple_getitem.lookup, ht.typeIs, ?_⟩
  refine HT.getItem_tuple_cut ht hs pl pu (by rw [hlen]; exact hw) ?_ (by rw [hlen]; exact hz)
  rw [hlen]
  refine ⟨.ref s.heap.objs.size, _, I.laid (t' := s.toks) (o := .tup (cutV xs lo hi)) (fun b ob q => Heap.get?_push_of_some _ q) (Nat.le_refl _) ?_, rfl, q _ (I.hok.fresh (Nat.le_refl _))⟩
  exact ⟨Nat.le_trans (cutV_length xs lo hi) hz, _, (r.drop (HT.sIx xs.length 0 lo)).take (HT.sIx xs.length xs.length hi - HT.sIx xs.length 0 lo), IsTup.new _ _⟩
inductive rCatT (K:PySem.W.Frag) (x : V) (y : V) (H : Hp) (Q : VK) : Prop | mk (a : _) (b : _) (xs : _) (ys : _) : (x = .ref a) → (y = .ref b) → SqT K H a xs → SqT K H b ys → (xs ≠ []) → (xs.length + ys.length ≤ sizeLine) → ((ys = []→Q (.ref a) H)) → ((ys ≠ []→∀ p,H p = none→Q (.ref p) (upd H p (.tup (xs ++ ys))))) → rCatT K x y H Q
theorem Vals.nil_iff {xs:List V} {us:List Value} (r:Vals xs us):us = [] ↔ xs = []:=by
  cases r with
  | nil=>simp
  | cons _ _=>simp
theorem op_catT : OpR X (binaryOp .Add) (rCatT X.K) := by
  intro pins s σ H x y v u Q I rx ry h
  obtain ⟨a, b, xs, ys, rfl, rfl, ha, hb, hx, hz, q1, q2⟩ := h
  cases rx
  cases ry
  obtain ⟨its, r1, p1, _⟩ := I.tuple ha
  obtain ⟨its2, r2, p2, _⟩ := I.tuple hb
  refine HT.cat_tup p1 p2 (fun z => hx (r1.nil_iff.mp z)) (fun z => ⟨.ref a, H, I, rfl, q1 (r2.nil_iff.mp z)⟩) (fun z => ?_) (by rw [← r1.length, ← r2.length]; exact hz)
  refine ⟨.ref s.heap.objs.size, _, I.laid (t' := s.toks) (o := .tup (xs ++ ys)) (fun b ob q => Heap.get?_push_of_some _ q) (Nat.le_refl _) ?_, rfl, q2 (fun w => z (r2.nil_iff.mpr w)) _ (I.hok.fresh (Nat.le_refl _))⟩
  exact ⟨by simp_all, _, r1.append r2, IsTup.new _ _⟩
end
end L2
namespace L2
open PySem PySem.Spec PyProof.Rows
noncomputable def ixN (n:Nat) (i:Int):Option Nat:=if 0 ≤ i then (if i < n then some i.toNat else none) else if -(n:Int) ≤ i then some (i + n).toNat else none
noncomputable def atI {α:Type} (xs:List α) (i:Int):Option α:=(ixN xs.length i).bind fun j=>xs[j]?
theorem ixN_seq {n:Nat} {i:Int} {j:Nat} (h:ixN n i = some j):seqIndex? i n = some j∧j < n∧-(n:Int) ≤ i∧i < n:=by
  unfold ixN at h
  by_cases h0:0 ≤ i
  · rw [if_pos h0] at h
    by_cases h1:i < n
    · rw [if_pos h1] at h
      have e:i.toNat = j:=Option.some.inj h
      exact ⟨by rw [seqIndex_of h0 h1,e],by lia,by lia,h1⟩
    · rw [if_neg h1] at h; cases h
  · rw [if_neg h0] at h
    by_cases h1:-(n:Int) ≤ i
    · rw [if_pos h1] at h
      have e:(i + n).toNat = j:=Option.some.inj h
      exact ⟨by rw [seqIndex_neg (by lia) h1,e],by lia,h1,by lia⟩
    · rw [if_neg h1] at h; cases h
theorem atI_get {α : Type} {xs : List α} {i : Int} {v : α} (h : atI xs i = some v) : ∃ j, seqIndex? i xs.length = some j ∧ xs[j]? = some v ∧ j < xs.length ∧ -(xs.length : Int) ≤ i ∧ i < xs.length := by
  unfold atI at h
  cases e : ixN xs.length i with
  | none => simp_all
  | some j =>
    rw [e] at h
    obtain ⟨h1, h2, h3, h4⟩ := ixN_seq e
    exact ⟨j, h1, h, h2, h3, h4⟩
theorem atI_nat {α : Type} {xs : List α} {j : Nat} {v : α} (h : xs[j]? = some v) : atI xs (j : Int) = some v := by
  have hj : j < xs.length := (List.getElem?_eq_some_iff.mp h).1
  have e : ixN xs.length (j : Int) = some j := by
    unfold ixN
    simp_all
  unfold atI; rw [e]; exact h
noncomputable def PlainIx (b:Expr):Prop:=∀ o i,subscripted b false o i = operate [o,i] (getItem o i)
noncomputable def IxR (X:Cx) (r:R2):Prop :=
  ∀ (value slice:Expr) (pins:List (Addr × Obj)) (s:Shared) (σ:St) (H:Hp) (x y:V) (v u:Value) (Q:VK),Inv X pins σ H s→RelV x v→RelV y u→r x y H Q →
    subscripted slice false v u = operate [v,u] (getItem v u)→wpAny (model X.prog X.w) X.A (subscriptTail value slice v u) (EP X pins σ Q) X.xe s
noncomputable def MtR (X:Cx) (id:String) (r:V→List V→Hp→VK→Prop):Prop :=
  ∀ (pins:List (Addr × Obj)) (s:Shared) (σ:St) (H:Hp) (x:V) (xs:List V) (v:Value) (us:List Value) (Q:VK),Inv X pins σ H s→RelV x v→Vals xs us→r x xs H Q →
    wpAny (model X.prog X.w) X.A (call (.builtin id) (v :: us)) (EP X pins σ Q) X.xe s
section
variable {X:Cx} {a b:Expr} {ta tb:TE} {pos:Pos}
theorem pe_ix {r:R2} (hr:IxR X r) (ha:PE X a ta) (hb:PE X b tb) (hs:PlainIx b):PE X (.Subscript a b pos) (tOp r ta tb):=by
  intro pins s σ H Q I h
  exact Subscript_ (binT ha hb I h fun v u s2 x y H2 I2 rx ry q=>hr a b pins s2 σ H2 x y v u Q I2 rx ry q (hs _ _))
inductive rIxL (K:PySem.W.Frag) (x : V) (y : V) (H : Hp) (Q : VK) : Prop | mk (p : _) (xs : _) (i : _) (v : _) : (x = .ref p) → (y = .int i) → SqL K H p xs → (atI xs i = some v) → Q v H → rIxL K x y H Q
inductive rIxT (K:PySem.W.Frag) (x : V) (y : V) (H : Hp) (Q : VK) : Prop | mk (p : _) (xs : _) (i : _) (v : _) : (x = .ref p) → (y = .int i) → SqT K H p xs → (atI xs i = some v) → Q v H → rIxT K x y H Q
inductive rIxS (x : V) (y : V) (H : Hp) (Q : VK) : Prop | mk (z : _) (i : _) (c : _) : (x = .str z) → (y = .int i) → (z.length ≤ sizeLine) → (atI z.cps.toList i = some c) → (Q (.str ⟨#[c]⟩) H) → rIxS x y H Q
theorem ix_list:IxR X (rIxL X.K):=by
  intro value slice pins s σ H x y v u Q I rx ry h hs
  obtain ⟨p,xs,i,z,rfl,rfl,hq,he,q⟩:=h
  cases rx
  obtain ⟨t,rfl⟩:=ry
  obtain ⟨its,r,pl,hz⟩:=I.list hq
  obtain ⟨j,h1,h2,h3,h4,h5⟩:=atI_get he
  obtain ⟨w,ew,rw'⟩:=r.get h2
  have hl:=r.length
  have hn:=line63
  have fin:EP X pins σ Q w s:=⟨z,H,I,rw',q⟩
  by_cases h0:0 ≤ i
  · have hj : i.toNat = j := by
      rw [seqIndex_of h0 h5] at h1
      exact Option.some.inj h1
    exact item_listR pl.isList h0 (by lia) (by rw [hj]; simpa using ew) fin hs
  · have hj : (i + (its.toArray.size : Int)).toNat = j := by
      rw [seqIndex_neg (by lia) h4] at h1
      rw [List.size_toArray,← hl]
      exact Option.some.inj h1
    exact subscriptTail_builtinR (x:=w) pl.isList.typeIs slot_list_getitem.lookup
      (wpAny_getItem_list_neg (Q:=fun r s'=>r = w∧EP X pins σ Q r s') pl.isList (by lia) (by rw [List.size_toArray] <;> lia) (by lia) (by rw [hj]; simpa using ew) ⟨rfl,fin⟩) hs
theorem ix_tup : IxR X (rIxT X.K) := by
  intro value slice pins s σ H x y v u Q I rx ry h hs
  obtain ⟨p, xs, i, z, rfl, rfl, hq, he, q⟩ := h
  cases rx
  obtain ⟨t, rfl⟩ := ry
  obtain ⟨its, r, pl, hz⟩ := I.tuple hq
  obtain ⟨j, h1, h2, h3, h4, h5⟩ := atI_get he
  obtain ⟨w, ew, rw'⟩ := r.get h2
  have hl := r.length
  have hn := line63
  have fin : EP X pins σ Q w s := ⟨z, H, I, rw', q⟩
  exact subscriptTail_builtinR (x := w) pl.typeIs slot_tuple_getitem.lookup
    (getItem_tuple (j := j) (Q := fun r s' => r = w ∧ EP X pins σ Q r s') pl (by lia) (by lia) (by simp_all) (by simpa using ew) ⟨rfl, fin⟩) hs
theorem ix_str : IxR X rIxS := by
  intro value slice pins s σ H x y v u Q I rx ry h hs
  obtain ⟨z, i, c, rfl, rfl, hz, he, q⟩ := h
  obtain ⟨t, rfl⟩ := rx
  obtain ⟨t', rfl⟩ := ry
  obtain ⟨j, h1, h2, h3, h4, h5⟩ := atI_get he
  have hl : z.cps.toList.length = z.length := rfl
  rw [hl] at h1 h4 h5
  have hn := line63
  exact tail_any (typeIs_str s z t) slot_str_getitem.lookup (getItem_str (c := c) (by grind) (by rw [h1]; simpa using h2) ⟨.str ⟨#[c]⟩, H, I.tok _, ⟨_, rfl⟩, q⟩) hs
theorem Inv.lst {pins : List (Addr × Obj)} {σ : St} {H : Hp} {s : Shared} {p : Addr} {xs : List V} (I : Inv X pins σ H s) (h : H p = some (.lst xs)) :
    ∃ (its:List Value) (n:Nat),Vals xs its∧s.heap.get? p = some { cls:=.type "list",data:=.seq its.toArray n }∧xs.length ≤ sizeLine:=by
  obtain ⟨z,its,n,r,e⟩:=I.hok p _ h
  exact ⟨its,n,r,e,z⟩
theorem slice_bounds (lo hi:Option Int) (n:Nat):(sliceBounds lo hi none n).1 = ((HT.sIx n 0 lo:Nat):Int)∧(sliceBounds lo hi none n).2.1 = ((HT.sIx n n hi:Nat):Int)∧(sliceBounds lo hi none n).2.2 = 1:=by
  refine ⟨?_,?_,rfl⟩
  · cases lo with
    | none=>simp [sliceBounds,HT.sIx]
    | some i =>
      simp only [sliceBounds,HT.sIx,Option.getD_none,show (1:Int) > 0 by decide,if_true]
      by_cases h:i < 0
      · simp only [h,if_true] <;> lia
      · simp only [h,if_false] <;> lia
  · cases hi with
    | none=>simp [sliceBounds,HT.sIx]
    | some i =>
      simp only [sliceBounds,HT.sIx,Option.getD_none,show (1:Int) > 0 by decide,if_true]
      by_cases h:i < 0
      · simp only [h,if_true] <;> lia
      · simp only [h,if_false] <;> lia
theorem slicePick_cut (its:List Value) (lo hi:Option Int):slicePick its.toArray lo hi none = ((its.drop (HT.sIx its.length 0 lo)).take (HT.sIx its.length its.length hi - HT.sIx its.length 0 lo)).toArray:=by
  obtain ⟨h1,h2,h3⟩:=slice_bounds lo hi its.toArray.size
  unfold slicePick
  rw [h1,h2,h3]
  simp only [sliceRange_one,pick_run,List.size_toArray] <;> rfl
inductive rSlL (K:PySem.W.Frag) (x : V) (lo : Option Int) (hi : Option Int) (H : Hp) (Q : VK) : Prop | mk (a : _) (xs : _) : (x = .ref a) → SqL K H a xs → (∀ p,H p = none→Q (.ref p) (upd H p (.lst (cutV xs lo hi)))) → rSlL K x lo hi H Q
theorem sl_list : SlR X (rSlL X.K) := by
  intro pins s σ H x v vl vu lo hi sl Q I rx hs pl pu h
  obtain ⟨a, xs, rfl, hx, q⟩ := h
  cases rx
  obtain ⟨its, r, ht, hz⟩ := I.list hx
  have hlen := r.length
  refine ⟨"list", _, slot_list_getitem.lookup, ht.isList.typeIs, ?_⟩
  refine wpAny_getItem_list_slice ht.isList hs pl pu .none (by simp) ?_ (by grind)
  rw [slicePick_cut, ← hlen]
  refine ⟨.ref s.heap.objs.size, _, I.laid (t' := s.toks) (o := .lst (cutV xs lo hi)) (fun b ob q => Heap.get?_push_of_some _ q) (Nat.le_refl _) ?_, rfl, q _ (I.hok.fresh (Nat.le_refl _))⟩
  exact ⟨Nat.le_trans (cutV_length xs lo hi) hz, _, 0, (r.drop (HT.sIx xs.length 0 lo)).take (HT.sIx xs.length xs.length hi - HT.sIx xs.length 0 lo), Heap.get?_push_size _ rfl⟩
noncomputable def flatV:V→Bool
  | .non=>true
  | .bl _=>true
  | .int _=>true
  | .str _=>true
  | _=>false
noncomputable def eqV:V→V→Bool
  | .non,.non=>true
  | .bl a,.bl b=>a == b
  | .bl a,.int b=>(if a then 1 else 0) == b
  | .int a,.bl b=>a == (if b then 1 else 0)
  | .int a,.int b=>a == b
  | .str a,.str b=>a == b
  | _,_=>false
theorem eqAt_V {A:Around} {s:Shared} {y x:V} {u v:Value} (ry:RelV y u) (rx:RelV x v) (fy:flatV y = true) (fx:flatV x = true):SeqAt.EqAt A s u v (eqV y x):=by
  cases y with
  | non =>
    cases ry
    cases x with
    | non=>cases rx; exact SeqAt.EqAt.same _
    | bl b=>cases rx; exact SeqAt.EqAt.none_bool b
    | int b=>obtain ⟨t,rfl⟩:=rx; exact SeqAt.EqAt.none_int b t
    | str b=>obtain ⟨t,rfl⟩:=rx; exact SeqAt.EqAt.none_str b t
    | _=>exact absurd (show false = true from fx) Bool.false_ne_true
  | bl a =>
    cases ry
    cases x with
    | non=>cases rx; exact SeqAt.EqAt.bool_none a
    | bl b=>cases rx; exact SeqAt.EqAt.bool_bool a b
    | int b=>obtain ⟨t,rfl⟩:=rx; exact SeqAt.EqAt.bool_int a b t
    | str b=>obtain ⟨t,rfl⟩:=rx; exact SeqAt.EqAt.bool_str a b t
    | _=>exact absurd (show false = true from fx) Bool.false_ne_true
  | int a =>
    obtain ⟨t',rfl⟩:=ry
    cases x with
    | non=>cases rx; exact SeqAt.EqAt.int_none a t'
    | bl b=>cases rx; exact SeqAt.EqAt.int_bool a t' b
    | int b=>obtain ⟨t,rfl⟩:=rx; exact SeqAt.EqAt.int_int a t' b t
    | str b=>obtain ⟨t,rfl⟩:=rx; exact SeqAt.EqAt.int_str a t' b t
    | _=>exact absurd (show false = true from fx) Bool.false_ne_true
  | str a =>
    obtain ⟨t',rfl⟩:=ry
    cases x with
    | non=>cases rx; exact SeqAt.EqAt.str_none a t'
    | bl b=>cases rx; exact SeqAt.EqAt.str_bool a t' b
    | int b=>obtain ⟨t,rfl⟩:=rx; exact SeqAt.EqAt.str_int a t' b t
    | str b=>obtain ⟨t,rfl⟩:=rx; exact SeqAt.EqAt.str_str a t' b t
    | _=>exact absurd (show false = true from fx) Bool.false_ne_true
  | _=>exact absurd (show false = true from fy) Bool.false_ne_true
noncomputable def eqU (x:V) (u:Value):Bool:=match u with
  | .none=>eqV .non x
  | .bool b=>eqV (.bl b) x
  | .int i _=>eqV (.int i) x
  | .str z _=>eqV (.str z) x
  | _=>false
theorem eqU_of {x y:V} {u:Value} (r:RelV y u) (f:flatV y = true):eqU x u = eqV y x:=by
  cases y with
  | non=>cases r; rfl
  | bl b=>cases r; rfl
  | int i=>obtain ⟨t,rfl⟩:=r; rfl
  | str z=>obtain ⟨t,rfl⟩:=r; rfl
  | _=>exact absurd (show false = true from f) Bool.false_ne_true
theorem any_eqU {x:V}:∀ {xs:List V} {us:List Value},Vals xs us→xs.all flatV = true→us.any (eqU x) = xs.any fun y=>eqV y x
  | _,_,.nil,_=>rfl
  | y :: xs,u :: us,.cons r t,f=>by
    rw [List.all_cons,Bool.and_eq_true] at f
    rw [List.any_cons,List.any_cons,eqU_of r f.1,any_eqU t f.2]
theorem mem_eqAt {A:Around} {s:Shared} {x:V} {v:Value} (rx:RelV x v) (fx:flatV x = true):∀ {xs:List V} {us:List Value},Vals xs us→xs.all flatV = true→∀ u ∈ us,SeqAt.EqAt A s u v (eqU x u)
  | _,_,.nil,_=>fun u hu=>by cases hu
  | y :: xs,u :: us,.cons r t,f=>fun u' hu=>by
    rw [List.all_cons,Bool.and_eq_true] at f
    rcases List.mem_cons.mp hu with rfl | hu
    · rw [eqU_of r f.1]; exact eqAt_V r rx f.1 fx
    · exact mem_eqAt rx fx t f.2 u' hu
noncomputable def inV (x:V) (xs:List V):Bool:=xs.any fun y=>eqV y x
inductive rIn (K:PySem.W.Frag) (neg:Bool) (x : V) (y : V) (H : Hp) (Q : VK) : Prop | mk (p : _) (xs : _) : (y = .ref p) → ((SqL K H p xs∨SqT K H p xs)) → (flatV x = true) → (xs.all flatV = true) → (Q (.bl (if neg then !inV x xs else inV x xs)) H) → rIn K neg x y H Q
theorem op_in_seq : OpR X (compareOp .In) (rIn X.K false) := by
  intro pins s σ H x y v u Q I rx ry h
  obtain ⟨p, xs, rfl, hq, fx, fs, q⟩ := h
  cases ry
  rcases hq with hq | hq
  · obtain ⟨its, r, pl, hz⟩ := I.list hq
    refine SeqAt.in_listAt (eqU x) pl.isList (fun w hw => mem_eqAt rx fx r fs w (by simp_all)) ⟨.bl _, H, I, rfl, ?_⟩
    rw [show its.toArray.any (eqU x) = its.any (eqU x) by simp, any_eqU r fs]
    exact q
  · obtain ⟨its, r, pl, hz⟩ := I.tuple hq
    refine SeqAt.in_tupleAt (eqU x) pl (fun w hw => mem_eqAt rx fx r fs w (by simpa using hw)) ⟨.bl _, H, I, rfl, ?_⟩
    rw [show its.toArray.any (eqU x) = its.any (eqU x) by simp, any_eqU r fs]
    exact q
theorem op_notIn_seq : OpR X (compareOp .NotIn) (rIn X.K true) := by
  intro pins s σ H x y v u Q I rx ry h
  obtain ⟨p, xs, rfl, hq, fx, fs, q⟩ := h
  cases ry
  rcases hq with hq | hq
  · obtain ⟨its, r, pl, hz⟩ := I.list hq
    refine SeqAt.notIn_listAt (eqU x) pl.isList (fun w hw => mem_eqAt rx fx r fs w (by simp_all)) ⟨.bl _, H, I, rfl, ?_⟩
    rw [show its.toArray.any (eqU x) = its.any (eqU x) by simp, any_eqU r fs]
    exact q
  · obtain ⟨its, r, pl, hz⟩ := I.tuple hq
    refine SeqAt.notIn_tupleAt (eqU x) pl (fun w hw => mem_eqAt rx fx r fs w (by simpa using hw)) ⟨.bl _, H, I, rfl, ?_⟩
    rw [show its.toArray.any (eqU x) = its.any (eqU x) by simp, any_eqU r fs]
    exact q
theorem call_len_seq:CallR X (.builtin "len") (fun xs H Q=>∃ p ys,xs = [.ref p]∧(SqL X.K H p ys∨SqT X.K H p ys)∧Q (.int ys.length) H):=by
  intro pins s σ H xs us Q I r h
  obtain ⟨p,ys,rfl,hq,q⟩:=h
  obtain ⟨u,rfl,rx⟩:=vals1 r
  cases rx
  have hn:=line63
  rcases hq with hq | hq
  · obtain ⟨its,r',pl,hz⟩:=I.list hq
    have hlen:=r'.length
    exact Calls.call_len_list pl.isList (by simp only [List.size_toArray] <;> lia) ⟨.int ys.length,H,I.tok _,⟨s.toks + 1,by rw [List.size_toArray,hlen]⟩,q⟩
  · obtain ⟨its,r',pl,hz⟩:=I.tuple hq
    have hlen:=r'.length
    exact len_tuple pl (by simp only [List.size_toArray] <;> lia) ⟨.int ys.length,H,I.tok _,⟨s.toks + 1,by rw [List.size_toArray,hlen]⟩,q⟩
theorem call_len_str:CallR X (.builtin "len") (fun xs H Q=>∃ z,xs = [.str z]∧z.length ≤ sizeLine∧Q (.int z.length) H):=by
  intro pins s σ H xs us Q I r h
  obtain ⟨z,rfl,hz,q⟩:=h
  obtain ⟨u,rfl,t,rfl⟩:=vals1 r
  have hn:=line63
  exact len_str (by lia) ⟨.int z.length,H,I.tok _,⟨_,rfl⟩,q⟩
theorem call_list_of:CallR X (.type "list") (fun xs H Q=>∃ p ys,xs = [.ref p]∧(SqL X.K H p ys∨SqT X.K H p ys)∧∀ l,H l = none→Q (.ref l) (upd H l (.lst ys))):=by
  intro pins s σ H xs us Q I r h
  obtain ⟨p,ys,rfl,hq,q⟩:=h
  obtain ⟨u,rfl,rx⟩:=vals1 r
  cases rx
  have fin : ∀ (its : List Value), Vals ys its → ys.length ≤ sizeLine → ∀ (h' : Heap) (c' : Nat), (∀ b o', s.heap.get? b = some o' → h'.get? b = some o') →
      h'.get? s.heap.objs.size = some { cls:=.type "list",dict:=none,data:=.seq its.toArray c',slots:=#[] }→EP X pins σ Q (.ref s.heap.objs.size) { s with heap:=h' }:=fun its r' hz h' c' kp e =>
    ⟨.ref s.heap.objs.size,_,I.laid (t':=s.toks) kp (Nat.le_refl _) (show ObjOk X.prog X.w _ h' _ (.lst ys) from ⟨hz,its,c',r',e⟩),rfl,q _ (I.hok.fresh (Nat.le_refl _))⟩
  rcases hq with hq | hq
  · obtain ⟨its,r',pl,hz⟩:=I.list hq
    have hlen:=r'.length
    obtain ⟨o,ho,hc,n,hd⟩:=pl.isList
    exact call_list_seq p (.inl rfl) ho hc hd (fun h' c' kp e=>fin its r' hz h' c' kp e) (by simp only [List.size_toArray] <;> lia)
  · obtain ⟨its,r',pl,hz⟩:=I.tuple hq
    have hlen:=r'.length
    obtain ⟨o,ho,hc,n,hd⟩:=pl
    exact call_list_seq p (.inr rfl) ho hc hd (fun h' c' kp e=>fin its r' hz h' c' kp e) (by simp only [List.size_toArray] <;> lia)
theorem call_tuple_of:CallR X (.type "tuple") (fun xs H Q=>∃ p ys,xs = [.ref p]∧((SqL X.K H p ys∧∀ l,H l = none→Q (.ref l) (upd H l (.tup ys)))∨(SqT X.K H p ys∧Q (.ref p) H))):=by
  intro pins s σ H xs us Q I r h
  obtain ⟨p,ys,rfl,h⟩:=h
  obtain ⟨u,rfl,rx⟩:=vals1 r
  cases rx
  rcases h with ⟨hq,q⟩ | ⟨hq,q⟩
  · obtain ⟨its,r',pl,hz⟩:=I.list hq
    have hlen:=r'.length
    refine call_tuple_list pl.isList (fun h' kp=>?_) (by simp only [List.size_toArray] <;> lia)
    have I1:Inv X pins σ H { s with heap:=h' }:=I.kept (t':=s.toks) kp
    have I2:Inv X pins σ (upd H h'.objs.size (.tup ys)) { s with heap:=h'.push { cls:=.type "tuple",data:=.seq its.toArray } } :=
      I1.laid (t':=s.toks) (fun b o e=>Heap.get?_push_of_some _ e) (Nat.le_refl _) (show ObjOk X.prog X.w _ _ _ (.tup ys) from ⟨hz,its,r',IsTup.new _ _⟩)
    exact ⟨.ref h'.objs.size,_,I2,rfl,q _ (I1.hok.fresh (Nat.le_refl _))⟩
  · obtain ⟨its,r',pl,hz⟩:=I.tuple hq
    exact call_tuple_same pl ⟨.ref p,H,I,rfl,q⟩
noncomputable def tyV (K:PySem.W.Frag) (T:String) (x:V) (H:Hp):Prop:=match x with
  | .str _=>T = "str"
  | .int _=>T = "int"
  | .ref p => (T = "list" ∧ ∃ xs, SqL K H p xs) ∨ (T = "tuple" ∧ ∃ o, K.lookup p = some o ∧ o.cls = .type "tuple" ∧ o.dict = none) ∨
      (T = "dict"∧((∃ kvs,H p = some (.dK kvs))∨∃ kvs,H p = some (.dT kvs)))∨(T = "set"∧∃ S n,H p = some (.set S n))
  | _=>False
theorem tyV_is {pins : List (Addr × Obj)} {σ : St} {H : Hp} {s : Shared} {T : String} {x : V} {v : Value} (I : Inv X pins σ H s) (r : RelV x v) (ty : tyV X.K T x H) :
    s.TypeIs v T∧∀ a,v = .ref a→∃ ob,s.heap.get? a = some ob∧ob.dict = none:=by
  cases x with
  | str z =>
    obtain ⟨t,rfl⟩:=r
    cases (show T = "str" from ty)
    exact ⟨typeIs_str s z t,fun _ e=>nomatch e⟩
  | int i =>
    obtain ⟨t,rfl⟩:=r
    cases (show T = "int" from ty)
    exact ⟨typeIs_int s i t,fun _ e=>nomatch e⟩
  | ref p =>
    cases r
    rcases ty with ⟨rfl,xs,hq⟩ | ⟨rfl,o,hk,hc,hd⟩ | ⟨rfl,hk⟩ | ⟨rfl,S,n,hk⟩
    · obtain ⟨its,_,pl,_⟩:=I.list hq
      refine ⟨pl.isList.typeIs,fun a e=>?_⟩
      cases e
      obtain ⟨o,n,e,c,hd,_⟩:=pl
      exact ⟨o,e,hd⟩
    · refine ⟨⟨o,I.kIn p o hk,hc⟩,fun a e=>?_⟩
      cases e
      exact ⟨o,I.kIn _ o hk,hd⟩
    · have z : ∃ o, s.heap.get? p = some o ∧ o.ExactDict := by
        rcases hk with ⟨kvs,hk⟩ | ⟨kvs,hk⟩
        · obtain ⟨_,_,_,_,o,_,_,e,ex,_⟩:=I.hok p _ hk
          exact ⟨o,e,ex⟩
        · obtain ⟨_,_,_,_,o,_,_,e,ex,_⟩:=I.hok p _ hk
          exact ⟨o,e,ex⟩
      obtain ⟨o,e,ex⟩:=z
      refine ⟨⟨o,e,ex.1⟩,fun a e2=>?_⟩
      cases e2
      exact ⟨o,e,ex.2.1⟩
    · obtain ⟨o,_,_,_,e,ex,_⟩:=I.hok p _ hk
      refine ⟨⟨o,e,ex.1⟩,fun a e2=>?_⟩
      cases e2
      exact ⟨o,e,ex.2.1⟩
  | _=>exact False.elim ty
noncomputable def tBM0 (K:PySem.W.Frag) (T:String) (r:V→List V→Hp→VK→Prop) (to:TE):TE:=fun σ H Q=>to σ H fun x H1=>tyV K T x H1∧r x [] H1 Q
noncomputable def tBM (K:PySem.W.Frag) (T:String) (r:V→List V→Hp→VK→Prop) (to:TE) (t:TA):TE:=fun σ H Q=>to σ H fun x H1=>tyV K T x H1∧t σ H1 fun xs H2=>r x xs H2 Q
variable {o e:Expr} {es:List Expr} {to:TE} {t:TA} {name:Str} {apos cpos:Pos} {T id:String} {r:V→List V→Hp→VK→Prop}
theorem pe_bm0 (pa : PlainAttrs T) (slot : Slot T name id) (hty : typeOf (.builtin id) = pure (.type "method_descriptor")) (hm : MtR X id r) (ho : PE X o to)
    (hbase:attributeBase o name X.env (eval o X.env) = eval o X.env:=by rfl) (hline:(apos.endLine == cpos.line) = true:=by rfl):PE X (.Call (.Attribute o name apos) [] [] cpos) (tBM0 X.K T r to):=by
  intro pins s σ H Q I h
  refine wpAny_Call_method0_late hbase hline (thn (ho pins s σ H _ I h) fun v s1 ⟨x,H1,I1,r1,ty,q1⟩=>?_)
  obtain ⟨h1,h2⟩:=tyV_is I1 r1 ty
  exact ⟨T,id,pa,slot,hty,h1,h2,Calls.callWith_builtin rfl (PySem.evalArgs_none (hm pins s1 σ H1 x [] v [] Q I1 r1 .nil q1))⟩
theorem pe_bm (pa : PlainAttrs T) (slot : Slot T name id) (hty : typeOf (.builtin id) = pure (.type "method_descriptor")) (hm : MtR X id r) (ho : PE X o to) (ha : PA X (e :: es) t)
    (hbase:attributeBase o name X.env (eval o X.env) = eval o X.env:=by rfl)
    (hfew:((backTo cpos (starEach (e :: es) X.env)).all (fun x=>!x.1) && (backToKw cpos (keywordEach [] X.env)).all (fun x=>x.1.isSome)
      && decide ((e :: es).length + ([]:List Keyword).length + (if ([]:List Keyword).isEmpty then 0 else 1) < 30)) = true:=by rfl)
    (hline:(apos.endLine == cpos.line) = true:=by rfl) (hs:starEach (e :: es) X.env = (false,eval e X.env) :: starEach es X.env:=by rfl) (hplain:(backTo cpos (starEach es X.env)).any (·.1) = false:=by rfl) :
    PE X (.Call (.Attribute o name apos) (e :: es) [] cpos) (tBM X.K T r to t):=by
  intro pins s σ H Q I h
  refine wpAny_Call_method_late hbase hfew hline rfl (thn (ho pins s σ H _ I h) fun v s1 ⟨x,H1,I1,r1,ty,q1⟩=>?_)
  obtain ⟨h1,h2⟩:=tyV_is I1 r1 ty
  refine ⟨T,id,pa,slot,hty,h1,h2,?_⟩
  have hA:=ha cpos pins s1 σ H1 _ I1 q1
  rw [hs] at hA ⊢
  refine Calls.callWith_builtin (by show (false || (backTo cpos (starEach es X.env)).any (·.1)) = false; rw [hplain] <;> rfl) (Calls.evalArgs_plain ?_)
  exact thn hA fun us s2 ⟨vs,H2,I2,r2,q2⟩=>hm pins s2 σ H2 x vs v us Q I2 r1 r2 q2
end
end L2
namespace L2
open PySem PySem.Spec PyProof.Rows
noncomputable def MtM (X:Cx) (id:String) (r:V→List V→Hp→VK→Prop):Prop :=
  ∀ (pins:List (Addr × Obj)) (s:Shared) (σ:St) (H:Hp) (x:V) (xs:List V) (v:Value) (us:List Value) (Q:VK),Inv X pins σ H s→RelV x v→Vals xs us→r x xs H Q →
    wpAny (model X.prog X.w) X.A (call (.builtin id) (v :: us)) (EP X pins σ Q) X.xe s
theorem Vals.one:∀ {x:V} {us:List Value},Vals [x] us→∃ u,us = [u]∧RelV x u
  | _,_,.cons r .nil=>⟨_,rfl,r⟩
theorem Vals.zero:∀ {us:List Value},Vals [] us→us = []
  | _,.nil=>rfl
theorem Vals.dropLast {xs:List V} {us:List Value} (h:Vals xs us):Vals xs.dropLast us.dropLast:=by
  induction h with
  | nil=>exact .nil
  | cons r t ih =>
    cases t with
    | nil=>exact .nil
    | cons q t'=>exact .cons r ih
theorem Vals.eraseIdx:∀ {xs:List V} {us:List Value} (i:Nat),Vals xs us→Vals (xs.eraseIdx i) (us.eraseIdx i)
  | _,_,_,.nil=>.nil
  | _,_,0,.cons _ t=>t
  | _,_,i + 1,.cons r t=>.cons r (Vals.eraseIdx i t)
theorem Vals.rep {xs:List V} {us:List Value} (h:Vals xs us):∀ k:Nat,Vals (List.replicate k xs).flatten (List.replicate k us).flatten
  | 0=>.nil
  | k + 1=>by
    rw [List.replicate_succ,List.replicate_succ,List.flatten_cons,List.flatten_cons]
    exact Vals.append h (Vals.rep h k)
theorem erase_last {α : Type} (l : List α) : l.eraseIdx (l.length - 1) = l.dropLast :=by grind
theorem foldl_rep (its : List Value) : ∀ (k : Nat) (acc : List Value),
    List.foldl (fun x1 x2=>x1 ++ x2) acc.toArray (List.replicate k its.toArray) = (acc ++ (List.replicate k its).flatten).toArray
  | 0,acc=>by simp
  | k + 1,acc=>by
    have e:acc.toArray ++ its.toArray = (acc ++ its).toArray:=by simp
    have e2:(acc ++ its) ++ (List.replicate k its).flatten = acc ++ (List.replicate (k + 1) its).flatten:=by
      rw [List.replicate_succ,List.flatten_cons,List.append_assoc]
    rw [← e2,← foldl_rep its k (acc ++ its),← e,List.replicate_succ,List.foldl_cons]
section
variable {X:Cx} {pins:List (Addr × Obj)} {σ:St} {H:Hp} {s:Shared} {l b:Addr} {xs ys zs:List V}
theorem Inv.lset {its its' : List Value} {n : Nat} {f : Array Value → Array Value} {t' : Nat} (I : Inv X pins σ H s) (hH : H l = some (.lst xs))
    (e:s.heap.get? l = some { cls:=.type "list",data:=.seq its.toArray n }) (hf:f its.toArray = its'.toArray) (hv:Vals ys its') (hz:ys.length ≤ sizeLine) :
    Inv X pins σ (upd H l (.lst ys)) { s with heap:=s.heap.update l (Obj.mapSeq f),toks:=t' }:=by
  have q:=PySem.IsL.update e f
  rw [hf] at q
  refine I.write (x:=l) (e:=l) (by rw [hH]; exact trivial) (.inl rfl) (fun b' u hb hu=>(Heap.get?_update_other s.heap (Obj.mapSeq f) (Ne.symm hb)).trans hu) ⟨_,q⟩ ?_
  exact ⟨hz,its',_,hv,q⟩
theorem Inv.lnew {its : List Value} {t' : Nat} (I : Inv X pins σ H s) (hv : Vals ys its) (hz : ys.length ≤ sizeLine) :
    Inv X pins σ (upd H s.heap.objs.size (.lst ys)) { s with heap:=s.heap.push { cls:=.type "list",data:=.seq its.toArray },toks:=t' } :=
  I.laid (fun _ _ q=>Heap.get?_push_of_some _ q) (Nat.le_refl _) ⟨hz,its,0,hv,Heap.get?_push_size _ rfl⟩
theorem Inv.fresh (I:Inv X pins σ H s):H s.heap.objs.size = none:=I.hok.fresh (Nat.le_refl _)
theorem Inv.lstM (I:Inv X pins σ H s) (hH:H l = some (.lst xs)):xs.length ≤ sizeLine∧∃ (its:List Value) (n:Nat),Vals xs its∧xs.length = its.length∧s.heap.get? l = some { cls:=.type "list",data:=.seq its.toArray n }:=by
  obtain ⟨z,its,n,r,e⟩:=I.hok l _ hH
  exact ⟨z,its,n,r,r.length,e⟩
theorem notLongL {n : Nat} (h : n ≤ sizeLine) : Builtin.List.listTooLong n = false := by
  exact decide_eq_false (by lia)
end
section
variable {X:Cx}
inductive rAppend (x : V) (vs : List V) (H : Hp) (Q : VK) : Prop | mk (l : _) (xs : _) (y : _) : (x = .ref l) → (vs = [y]) → (H l = some (.lst xs)) → (xs.length < sizeLine) → (Q .non (upd H l (.lst (xs ++ [y])))) → rAppend x vs H Q
theorem mt_append : MtM X "list.append" rAppend := by
  intro pins s σ H x vs v us Q I rx rv h
  obtain ⟨l, xs, y, rfl, rfl, hH, hz, q⟩ := h
  cases rx
  obtain ⟨u, rfl, ru⟩ := rv.one
  obtain ⟨z, its, n, r, hl, e⟩ := I.lstM hH
  refine call_meets F.slot_list_append ⟨_, e, rfl⟩ F.entry_list_append (F.args_list_append_2 _ _) (PySem.list_append l its.toArray n u (by rw [List.size_toArray]; lia)) ⟨e, ?_⟩
  refine ⟨.non, _, I.lset (its' := its ++ [u]) hH e (by simp) (r.append (.cons ru .nil)) ?_, rfl, q⟩
  grind
inductive rExtend (x : V) (vs : List V) (H : Hp) (Q : VK) : Prop | mk (l : _) (b : _) (xs : _) (zs : _) : (x = .ref l) → (vs = [.ref b]) → (H l = some (.lst xs)) → (H b = some (.lst zs)) → (xs.length + zs.length ≤ sizeLine) → (Q .non (upd H l (.lst (xs ++ zs)))) → rExtend x vs H Q
theorem mt_extend : MtM X "list.extend" rExtend := by
  intro pins s σ H x vs v us Q I rx rv h
  obtain ⟨l, b, xs, zs, rfl, rfl, hH, hB, hz, q⟩ := h
  cases rx
  obtain ⟨u, rfl, ru⟩ := rv.one
  cases ru
  obtain ⟨z, its, n, r, hl, e⟩ := I.lstM hH
  obtain ⟨z2, its2, n2, r2, hl2, e2⟩ := I.lstM hB
  have hsz : its.toArray.size + its2.toArray.size ≤ sizeLine := by simp_all
  have hlong : ¬ (!its.toArray.isEmpty && Builtin.List.listTooLong (its.toArray.size + its2.toArray.size)) = true := by
    rw [notLongL hsz, Bool.and_false]
    exact Bool.false_ne_true
  refine call_meets F.slot_list_extend ⟨_, e, rfl⟩ F.entry_list_extend (F.args_list_extend_2 _ _)
    (AutoSeq1.list_extend_list_list_0 l its.toArray n b its2.toArray n2 hlong (by simp_all) (by lia)) ⟨e, e2, ?_⟩
  refine ⟨.non, _, I.lset (its' := its ++ its2) hH e (by simp) (r.append r2) ?_, rfl, q⟩
  rw [List.length_append]
  lia
inductive rPop (x : V) (vs : List V) (H : Hp) (Q : VK) : Prop | mk (l : _) (xs : _) (y : _) : (x = .ref l) → (vs = []) → (H l = some (.lst xs)) → (xs[xs.length - 1]? = some y) → (Q y (upd H l (.lst xs.dropLast))) → rPop x vs H Q
theorem mt_pop : MtM X "list.pop" rPop := by
  intro pins s σ H x vs v us Q I rx rv h
  obtain ⟨l, xs, y, rfl, rfl, hH, hy, q⟩ := h
  cases rx
  have hus := rv.zero
  subst hus
  obtain ⟨z, its, n, r, hl, e⟩ := I.lstM hH
  obtain ⟨u, hu, ru⟩ := r.get hy
  have hy' : its.toArray[its.toArray.size - 1]? = some u := by
    show its.toArray[its.length - 1]? = some u
    rw [← Array.getElem?_toList, ← hl]
    exact hu
  refine call_meets F.slot_list_pop ⟨_, e, rfl⟩ F.entry_list_pop (F.args_list_pop_1 _) (MeetsSeq.list_pop_last l its.toArray n u hy' (by rw [List.size_toArray]; lia)) ⟨e, ?_⟩
  refine ⟨y, _, I.lset (its' := its.dropLast) hH e ?_ r.dropLast ?_, ru, q⟩
  · simp_all
  · rw [List.length_dropLast]
    lia
inductive rCat (x : V) (y : V) (H : Hp) (Q : VK) : Prop | mk (l : _) (b : _) (xs : _) (zs : _) : (x = .ref l) → (y = .ref b) → (H l = some (.lst xs)) → (H b = some (.lst zs)) → (xs.length + zs.length ≤ sizeLine) → (∀ p,H p = none→Q (.ref p) (upd H p (.lst (xs ++ zs)))) → rCat x y H Q
theorem op_cat : OpR X (binaryOp .Add) rCat := by
  intro pins s σ H x y v u Q I rx ry h
  obtain ⟨l, b, xs, zs, rfl, rfl, hH, hB, hz, q⟩ := h
  cases rx
  cases ry
  obtain ⟨z, its, n, r, hl, e⟩ := I.lstM hH
  obtain ⟨z2, its2, n2, r2, hl2, e2⟩ := I.lstM hB
  refine PySem.P.add_list e e2 ?_ (by simp_all)
  have ea : its.toArray ++ its2.toArray = (its ++ its2).toArray := by simp
  rw [ea]
  exact ⟨.ref _, _, I.lnew (t' := s.toks) (r.append r2) (by rw [List.length_append]; lia), rfl, q _ I.fresh⟩
inductive rRep (x : V) (y : V) (H : Hp) (Q : VK) : Prop | mk (l : _) (k : _) (xs : _) : (x = .ref l) → (y = .int k) → (H l = some (.lst xs)) → (-(2 ^ 63) ≤ k) → (k < 2 ^ 63) → (xs.length * k.toNat ≤ sizeLine) → (∀ p,H p = none→Q (.ref p) (upd H p (.lst (List.replicate k.toNat xs).flatten))) → rRep x y H Q
theorem len_rep {α:Type} (xs:List α) (k:Nat):(List.replicate k xs).flatten.length = k * xs.length:=by
  induction k with
  | zero=>simp
  | succ k ih=>rw [List.replicate_succ,List.flatten_cons,List.length_append,ih,Nat.succ_mul,Nat.add_comm]
theorem op_rep:OpR X (binaryOp .Mult) rRep:=by
  intro pins s σ H x y v u Q I rx ry h
  obtain ⟨l,k,xs,rfl,rfl,hH,h1,h2,hz,q⟩:=h
  cases rx
  obtain ⟨t,rfl⟩:=ry
  obtain ⟨z,its,n,r,hl,e⟩:=I.lstM hH
  have hlen:its.toArray.size * k.toNat ≤ sizeLine:=by rw [List.size_toArray,← hl]; exact hz
  have hcap:¬ its.toArray.size * k.toNat > (2 ^ 63 - 1) / 8:=by
    have:(sizeLine:Nat) ≤ (2 ^ 63 - 1) / 8:=by decide
    lia
  have hfit:¬ (!Builtin.List.listFitsIndex k) = true:=by
    rw [fitsIndex_both h1 h2]
    exact Bool.false_ne_true
  have hlong:¬ Builtin.List.listTooLong (its.toArray.size * k.toNat) = true:=by
    rw [notLongL hlen]
    exact Bool.false_ne_true
  have hnew:List.foldl (fun x1 x2=>x1 ++ x2) #[] (List.replicate (if its.toArray.isEmpty = true then 0 else k.toNat) its.toArray) = (List.replicate k.toNat its).flatten.toArray:=by
    have f0:∀ m:Nat,List.foldl (fun x1 x2=>x1 ++ x2) #[] (List.replicate m its.toArray) = (List.replicate m its).flatten.toArray:=fun m=>by
      have:=foldl_rep its m []
      rw [List.nil_append] at this
      exact this
    rw [f0]
    cases its with
    | nil=>simp
    | cons a r'=>rw [if_neg (by simp)]
  refine wpAny_binaryOp_repeat_ref (T:="list") (U:="int") (by decide) ⟨_,e,rfl⟩ (fun s'=>typeIs_int s' k t) noFill_list_mul F.fills_int_mul F.slot_int_rmul repeat_list F.slot_int_index.lookup
    (call_meets F.slot_int_rmul (typeIs_int s k t) F.entry_int_rmul (F.args_int_rmul_2 _ _) (int___rmul___int_list k t l its.toArray n)
      ⟨e,rfl,⟨_,e,rfl⟩,call_meets F.slot_list_mul ⟨_,e,rfl⟩ F.entry_list_mul (F.args_list_mul_2 _ _) (AutoListH.list___mul___list_int_3 l its.toArray n k t hfit hcap hlong) ⟨e,?_⟩⟩)
  rw [hnew]
  exact ⟨.ref _,_,I.lnew (t':=s.toks) (r.rep k.toNat) (by rw [len_rep,Nat.mul_comm]; exact hz),rfl,q _ I.fresh⟩
end
section
variable {prog:Program} {w:World} {A:Around} {E:Value→Shared→Prop} {s:Shared}
end
section
variable {X:Cx}
end
end L2
namespace L2
open PySem PySem.Spec PyProof.Rows
section
variable {κ:Type} [DecidableEq κ]
noncomputable def valV (kvs:List (κ × V)) (k:κ):Option V:=(kvs.find? fun kv=>decide (kv.1 = k)).map (·.2)
noncomputable def putK (kvs:List (κ × V)) (k:κ) (v:V):List (κ × V) :=
  if (kvs.any fun kv=>decide (kv.1 = k)) = true then kvs.map (fun kv=>if kv.1 = k then (kv.1,v) else kv) else kvs ++ [(k,v)]
theorem valV_pos {p:κ × V} {r:List (κ × V)} {k:κ} (e:p.1 = k):valV (p :: r) k = some p.2:=by simp [valV,List.find?_cons,e]
theorem valV_neg {p:κ × V} {r:List (κ × V)} {k:κ} (e:¬ p.1 = k):valV (p :: r) k = valV r k:=by simp [valV,List.find?_cons,e]
theorem valV_any (k:κ):∀ kvs:List (κ × V),(kvs.any fun kv=>decide (kv.1 = k)) = (valV kvs k).isSome
  | []=>rfl
  | p :: r=>by
    rw [List.any_cons]
    by_cases e:p.1 = k
    · simp only [valV_pos e,decide_eq_true e,Bool.true_or,Option.isSome_some]
    · rw [valV_neg e,decide_eq_false e,Bool.false_or]; exact valV_any k r
theorem length_putK (kvs : List (κ × V)) (k : κ) (v : V) : (putK kvs k v).length ≤ kvs.length + 1 := by
  unfold putK
  split
  · simp
  simp
theorem RelO.isSome_eq {o:Option V} {u:Option Value} (r:RelO o u):o.isSome = u.isSome:=by
  cases o with
  | none=>cases u with
    | none=>rfl
    | some _=>exact (show False from r).elim
  | some _=>cases u with
    | none=>exact (show False from r).elim
    | some _=>rfl
theorem RelO.getD {o:Option V} {u:Option Value} {d:V} {d':Value} (r:RelO o u) (rd:RelV d d'):RelV (o.getD d) (u.getD d'):=by
  cases o with
  | none=>cases u with
    | none=>exact rd
    | some _=>exact (show False from r).elim
  | some _=>cases u with
    | none=>exact (show False from r).elim
    | some _=>exact r
theorem KV.val {kvs : List (κ × V)} {vs : List (κ × Value)} (r : KV kvs vs) (k : κ) : RelO (valV kvs k) (valueAt vs k) := by
  induction r with
  | nil => exact True.intro
  | @cons p q ps qs h t ih =>
    obtain ⟨h1, h2⟩ := h
    by_cases e : p.1 = k
    · have e' : q.1 = k := h1.symm.trans e
      have b : valueAt (q :: qs) k = some q.2 := by simp [valueAt, List.find?_cons, e']
      rw [valV_pos e, b]; exact h2
    · have e' : ¬ q.1 = k := fun z => e (h1.trans z)
      have b : valueAt (q :: qs) k = valueAt qs k := by simp [valueAt, List.find?_cons, e']
      rw [valV_neg e, b]; exact ih
theorem KV.any {kvs : List (κ × V)} {vs : List (κ × Value)} (r : KV kvs vs) (k : κ) : (kvs.any fun kv => decide (kv.1 = k)) = vs.any fun kv => decide (kv.1 = k) := by
  induction r with
  | nil => rfl
  | cons h t ih => simp_all
theorem KV.repl {kvs : List (κ × V)} {vs : List (κ × Value)} (r : KV kvs vs) (k : κ) {y : V} {u : Value} (ry : RelV y u) :
    KV (kvs.map fun kv => if kv.1 = k then (kv.1, y) else kv) (vs.map fun kv => if kv.1 = k then (kv.1, u) else kv) := by
  unfold KV at r ⊢
  induction r with
  | nil => exact .nil
  | @cons p q ps qs h t ih =>
    refine .cons ?_ ih
    obtain ⟨h1, h2⟩ := h
    by_cases e : p.1 = k
    · simp_all
    simp_all
theorem KV.put {kvs:List (κ × V)} {vs:List (κ × Value)} (r:KV kvs vs) (k:κ) {y:V} {u:Value} (ry:RelV y u):KV (putK kvs k y) (stored vs k u):=by
  unfold putK stored
  rw [r.any k]
  by_cases e:(vs.any fun kv=>decide (kv.1 = k)) = true
  · rw [if_pos e,if_pos e]; exact r.repl k ry
  · rw [if_neg e,if_neg e]; exact Paired.snoc r ⟨rfl,ry⟩
theorem KV.keys {kvs:List (κ × V)} {vs:List (κ × Value)} (r:KV kvs vs):kvs.map (·.1) = vs.map (·.1):=by
  unfold KV at r
  induction r with
  | nil=>rfl
  | cons h t ih=>rw [List.map_cons,List.map_cons,ih,h.1]
theorem KV.length {kvs:List (κ × V)} {vs:List (κ × Value)} (r:KV kvs vs):kvs.length = vs.length:=Paired.length r
end
theorem kV_is {P:Program} {w:World} {k:Key} {u:Value} (r:RelV (kV k) u):(mixKind P w).is k u = true:=by
  cases k with
  | inl i=>obtain ⟨t,e⟩:=(show ∃ t,u = Value.int i t from r); subst e; exact mixKind_int P w i t
  | inr x=>obtain ⟨t,e⟩:=(show ∃ t,u = Value.str x t from r); subst e; exact mixKind_str P w x t
theorem items_are {P : Program} {w : World} : ∀ {ks : List Key} {us : List Value}, Vals (ks.map kV) us → ItemsAre (mixKind P w) ks us
  | [], _, r => by cases r; exact .nil
  | k :: ks, _, r => by
    cases r with
    | cons h t => exact .cons (kV_is h) (items_are t)
noncomputable abbrev KT (H:Hp):List (List Key × V)→List (List Key × Addr × Value)→Prop:=Paired fun p q=>p.1 = q.1∧H q.2.1 = some (.tup (p.1.map kV))∧RelV p.2 q.2.2
theorem KT.val {H:Hp} {kvs:List (List Key × V)} {xs:List (List Key × Addr × Value)} (r:KT H kvs xs) (k:List Key):RelO (valV kvs k) ((atKey xs k).map (·.2)):=by
  induction r with
  | nil=>exact True.intro
  | @cons p q ps qs h t ih =>
    obtain ⟨h1,_,h2⟩:=h
    by_cases e:p.1 = k
    · have e':q.1 = k:=h1.symm.trans e
      have b:atKey (q :: qs) k = some q.2:=by simp [atKey,List.find?_cons,e']
      rw [valV_pos e,b]; exact h2
    · have e':¬ q.1 = k:=fun z=>e (h1.trans z)
      have b:atKey (q :: qs) k = atKey qs k:=by simp [atKey,List.find?_cons,e']
      rw [valV_neg e,b]; exact ih
theorem KT.repl {H : Hp} {kvs : List (List Key × V)} {xs : List (List Key × Addr × Value)} (r : KT H kvs xs) (k : List Key) {y : V} {u : Value} (ry : RelV y u) :
    KT H (kvs.map fun kv=>if kv.1 = k then (kv.1,y) else kv) (xs.map (putAt k u)):=by
  induction r with
  | nil=>exact .nil
  | @cons p q ps qs h t ih =>
    rw [List.map_cons,List.map_cons]
    refine .cons ?_ ih
    obtain ⟨h1,h2,h3⟩:=h
    unfold putAt
    by_cases e:p.1 = k
    · rw [if_pos e,if_pos (h1.symm.trans e)]; exact ⟨h1,h2,ry⟩
    · rw [if_neg e,if_neg (fun z=>e (h1.trans z))]; exact ⟨h1,h2,h3⟩
theorem KT.put {H : Hp} {kvs : List (List Key × V)} {xs : List (List Key × Addr × Value)} (r : KT H kvs xs) (k : List Key) {b : Addr} {y : V} {u : Value} (hb : H b = some (.tup (k.map kV))) (ry : RelV y u) :
    KT H (putK kvs k y) (storedH xs k b u):=by
  have e:(kvs.any fun kv=>decide (kv.1 = k)) = (atKey xs k).isSome:=by
    rw [valV_any,(r.val k).isSome_eq,Option.isSome_map]
  unfold putK storedH
  rw [e]
  by_cases q:(atKey xs k).isSome = true
  · rw [if_pos q,if_pos q]; exact r.repl k ry
  · rw [if_neg q,if_neg q]; exact Paired.snoc r ⟨rfl,hb,ry⟩
theorem KT.keeps {H H':Hp} {kvs:List (List Key × V)} {xs:List (List Key × Addr × Value)} (r:KT H kvs xs) (ht:∀ b ys,H b = some (.tup ys)→H' b = some (.tup ys)):KT H' kvs xs :=
  Paired.mapP r fun _ _ z=>⟨z.1,ht _ _ z.2.1,z.2.2⟩
section
variable {P:Program} {w:World} {H:Hp} {h:Heap} {a:Addr}
theorem rd_of {u:HO} (ok:HOk P w H h) (e:Rd H a u):ObjOk P w H h a u:=e.ok ok
theorem dk_rd {kvs:List (Key × V)} (ok:HOk P w H h) (e:Rd H a (.dK kvs)):kvs.length ≤ sizeLine∧(a == sysModules) = false∧∃ vs,KV kvs vs∧h.DictOf (mixKind P w) a vs :=
  show ObjOk P w H h a (.dK kvs) from rd_of ok e
theorem dk_of {kvs:List (Key × V)} (ok:HOk P w H h) (e:H a = some (.dK kvs)):kvs.length ≤ sizeLine∧(a == sysModules) = false∧∃ vs,KV kvs vs∧h.DictOf (mixKind P w) a vs:=dk_rd ok (.inl e)
theorem key_of {ks:List Key} (ok:HOk P w H h) (e:H a = some (.tup (ks.map kV))):(tupleKind (mixKind P w)).is h ks a:=by
  obtain ⟨_,its,r,o,h1,h2,n,h3⟩:=(show ObjOk P w H h a (.tup (ks.map kV)) from ok a _ e)
  exact ⟨o,its.toArray,n,h1,h2,h3,by simpa using items_are r⟩
theorem dt_rd {kvs : List (List Key × V)} (ok : HOk P w H h) (e : Rd H a (.dT kvs)) : kvs.length ≤ sizeLine ∧ (a == sysModules) = false ∧
    ∃ xs,KT H kvs xs∧h.DictOfH (tupleKind (mixKind P w)) a xs:=by
  obtain ⟨z,y,xs,r,o,es,ep,h1,h2,h3,h4,h5⟩:=(show ObjOk P w H h a (.dT kvs) from rd_of ok e)
  refine ⟨z,y,xs,r,o,es,ep,h1,h2,h3,h4,fun x hx=>?_,h5⟩
  have all:∀ {l:List (List Key × V)} {m:List (List Key × Addr × Value)},KT H l m→∀ x ∈ m,(tupleKind (mixKind P w)).is h x.1 x.2.1:=by
    intro l m q
    induction q with
    | nil=>intro x hx; exact nomatch hx
    | @cons p q ps qs hq t ih =>
      intro x hx
      rcases List.mem_cons.mp hx with e | hx
      · subst e
        exact key_of ok (by rw [← hq.1]; exact hq.2.1)
      · exact ih x hx
  exact all r x hx
theorem dt_of {kvs : List (List Key × V)} (ok : HOk P w H h) (e : H a = some (.dT kvs)) : kvs.length ≤ sizeLine ∧ (a == sysModules) = false ∧
    ∃ xs,KT H kvs xs∧h.DictOfH (tupleKind (mixKind P w)) a xs:=dt_rd ok (.inl e)
end
noncomputable def DGet (H:Hp) (a:Addr) (y:V) (r:Option V):Prop :=
  (∃ kvs k,Rd H a (.dK kvs)∧y = kV k∧r = valV kvs k)∨∃ kvs k b,Rd H a (.dT kvs)∧y = .ref b∧H b = some (.tup (k.map kV))∧r = valV kvs k
noncomputable def DPut (H:Hp) (a:Addr) (y v:V) (H':Hp):Prop :=
  (∃ kvs k,H a = some (.dK kvs)∧y = kV k∧kvs.length < sizeLine∧H' = upd H a (.dK (putK kvs k v))) ∨
  ∃ kvs k b,H a = some (.dT kvs)∧y = .ref b∧H b = some (.tup (k.map kV))∧kvs.length < sizeLine∧H' = upd H a (.dT (putK kvs k v))
theorem DGet.k {H:Hp} {a:Addr} {kvs:List (Key × V)} {k:Key} (e:H a = some (.dK kvs)):DGet H a (kV k) (valV kvs k):=.inl ⟨kvs,k,.inl e,rfl,rfl⟩
theorem DPut.k {H:Hp} {a:Addr} {kvs:List (Key × V)} {k:Key} {v:V} (e:H a = some (.dK kvs)) (hl:kvs.length < sizeLine):DPut H a (kV k) v (upd H a (.dK (putK kvs k v))):=.inl ⟨kvs,k,e,rfl,hl,rfl⟩
section
variable {X:Cx} {pins:List (Addr × Obj)} {σ:St} {H:Hp} {s:Shared} {a:Addr} {y v:V} {u r:Value} {o:Option V} {A:Around} {E:Value→Shared→Prop}
theorem Inv.big (I:Inv X pins σ H s):sysModules < s.heap.objs.size:=by
  have h:mainGlobals < s.heap.objs.size:=(I.mod.glob.keeps I.bk).lt
  exact Nat.lt_trans (by decide) h
theorem d_getItem {Q : Value → Shared → Prop} (hu : A.units + 1 < cLine) (I : Inv X pins σ H s) (g : DGet H a y (some v)) (ry : RelV y u) (h : ∀ w' s', Inv X pins σ H s' → RelV v w' → Q w' s') :
    wpAny (model X.prog X.w) A (getItem (.ref a) u) Q E s:=by
  rcases g with ⟨kvs,k,e,ey,l⟩ | ⟨kvs,k,b,e,ey,eb,l⟩
  · subst ey
    obtain ⟨z,hd,vs,rel,dd⟩:=dk_rd I.hok e
    obtain ⟨w',hw,rw'⟩:=RelO.some_of (v:=v) (o:=valueAt vs k) (by rw [l]; exact rel.val k)
    exact wpAny_getItem_of (kV_is ry) dd.mapOf hw (h w' _ (I.tok _) rw')
  · subst ey
    cases (show u = Value.ref b from ry)
    obtain ⟨z,hd,xs,rel,dd⟩:=dt_rd I.hok e
    obtain ⟨w',hw,rw'⟩:=RelO.some_of (v:=v) (o:=(atKey xs k).map (·.2)) (by rw [l]; exact rel.val k)
    obtain ⟨p,hp,hp2⟩:=Option.map_eq_some_iff.mp hw
    refine wpAny_getItem_heap (tupleKind_room_in1 hu) (key_of I.hok eb) dd hp ?_
    rw [hp2]
    exact h w' _ (I.tok _) rw'
theorem d_in {Q : Value → Shared → Prop} (hu : A.units + 1 < cLine) (I : Inv X pins σ H s) (g : DGet H a y o) (ry : RelV y u) (h : ∀ s', Inv X pins σ H s' → Q (.bool o.isSome) s') :
    wpAny (model X.prog X.w) A (compareOp .In u (.ref a)) Q E s:=by
  rcases g with ⟨kvs,k,e,ey,l⟩ | ⟨kvs,k,b,e,ey,eb,l⟩
  · subst ey
    obtain ⟨z,hd,vs,rel,dd⟩:=dk_rd I.hok e
    refine wpAny_in_of (kV_is ry) hd dd.mapOf ?_
    rw [← (rel.val k).isSome_eq,← l]
    exact h _ (I.tok _)
  · subst ey
    cases (show u = Value.ref b from ry)
    obtain ⟨z,hd,xs,rel,dd⟩:=dt_rd I.hok e
    refine wpAny_in_heap (tupleKind_room_in1 hu) (key_of I.hok eb) hd dd ?_
    have q:=(rel.val k).isSome_eq
    rw [Option.isSome_map] at q
    rw [← q,← l]
    exact h _ (I.tok _)
theorem d_notIn {Q : Value → Shared → Prop} (hu : A.units + 1 < cLine) (I : Inv X pins σ H s) (g : DGet H a y o) (ry : RelV y u) (h : ∀ s', Inv X pins σ H s' → Q (.bool (!o.isSome)) s') :
    wpAny (model X.prog X.w) A (compareOp .NotIn u (.ref a)) Q E s:=by
  rcases g with ⟨kvs,k,e,ey,l⟩ | ⟨kvs,k,b,e,ey,eb,l⟩
  · subst ey
    obtain ⟨z,hd,vs,rel,dd⟩:=dk_rd I.hok e
    refine wpAny_notIn_of (kV_is ry) hd dd.mapOf ?_
    rw [← (rel.val k).isSome_eq,← l]
    exact h _ (I.tok _)
  · subst ey
    cases (show u = Value.ref b from ry)
    obtain ⟨z,hd,xs,rel,dd⟩:=dt_rd I.hok e
    refine wpAny_notIn_heap (tupleKind_room_in1 hu) (key_of I.hok eb) hd dd ?_
    have q:=(rel.val k).isSome_eq
    rw [Option.isSome_map] at q
    rw [← q,← l]
    exact h _ (I.tok _)
theorem d_write {h' : Heap} {t' : Nat} {ob : HO} (I : Inv X pins σ H s) (mu : Mut (H a)) (hs : Heap.SameBut a s.heap h') (he : ∃ q, h'.get? a = some q) (new : ObjOk X.prog X.w (upd H a ob) h' a ob) :
    Inv X pins σ (upd H a ob) { s with heap:=h',toks:=t' } :=
  I.write (x:=a) (e:=a) mu (.inl rfl) (fun b q hb z=>(hs.2 b hb).trans z) he new
theorem dk_new {P : Program} {w : World} {H' : Hp} {h' : Heap} {kvs : List (Key × V)} {vs : List (Key × Value)} (z : kvs.length ≤ sizeLine) (hd : (a == sysModules) = false) (rel : KV kvs vs) (dd : h'.DictOf (mixKind P w) a vs) :
    ObjOk P w H' h' a (.dK kvs):=⟨z,hd,vs,rel,dd⟩
theorem d_setItem {H' : Hp} {Q : Unit → Shared → Prop} (hu : A.units + 1 < cLine) (I : Inv X pins σ H s) (g : DPut H a y v H') (ry : RelV y u) (rv : RelV v r) (h : ∀ s', Inv X pins σ H' s' → Q () s') :
    wpAny (model X.prog X.w) A (setItem (.ref a) u r) Q E s:=by
  rcases g with ⟨kvs,k,e,ey,l,eH⟩ | ⟨kvs,k,b,e,ey,eb,l,eH⟩
  · subst ey eH
    obtain ⟨z,hd,vs,rel,dd⟩:=dk_of I.hok e
    have hz:vs.length ≤ sizeLine:=by rw [← rel.length]; exact z
    have hl:(putK kvs k v).length ≤ sizeLine:=by have:=length_putK kvs k v; lia
    refine wpAny_setItem_pairs (hsz:=hz) (kV_is ry) dd fun h' dd' hs=>h _ ?_
    have he:∃ q,h'.get? a = some q:=let ⟨q,_,_,hq,_⟩:=dd'; ⟨q,hq⟩
    exact d_write I (by rw [e]; exact True.intro) hs he (dk_new hl hd (rel.put k rv) dd')
  · subst ey eH
    cases (show u = Value.ref b from ry)
    obtain ⟨z,hd,xs,rel,dd⟩:=dt_of I.hok e
    have hz:xs.length ≤ sizeLine:=by rw [← Paired.length rel]; exact z
    have hl:(putK kvs k v).length ≤ sizeLine:=by have:=length_putK kvs k v; lia
    refine wpAny_setItem_heap (hsz:=hz) (tupleKind_room_in1 hu) (key_of I.hok eb) dd fun h' dd' hs=>h _ ?_
    obtain ⟨q,es,ep,hq,h2,h3,h4,_,h5⟩:=dd'
    refine d_write I (by rw [e]; exact True.intro) hs ⟨q,hq⟩ ⟨hl,hd,_,(rel.put k eb rv).keeps fun c ys ec=>?_,q,es,ep,hq,h2,h3,h4,h5⟩
    rw [upd_ne (ne_of ec e (fun z=>nomatch z))]
    exact ec
end
section
variable {X:Cx} {pins:List (Addr × Obj)} {σ:St} {H:Hp} {s:Shared} {a:Addr} {kvs:List (Key × V)} {k:Key} {u:Value} {A:Around} {E:Value→Shared→Prop}
end
section
variable {X:Cx} {o i e value:Expr} {pos pos' tpos:Pos} {td ty tv:TE}
end
theorem dk_empty {P:Program} {w:World} {H:Hp} (h:Heap) (hb:sysModules < h.objs.size):ObjOk P w H (h.push { cls:=.type "dict",data:=.dict #[] }) h.objs.size (.dK []) :=
  ⟨Nat.zero_le _,beq_eq_false_iff_ne.mpr (Ne.symm (Nat.ne_of_lt hb)),[],.nil,Heap.DictOf.new h⟩
noncomputable def tDNewK:TE:=fun _ H Q=>∀ p,H p = none→Q (.ref p) (upd H p (.dK []))
section
variable {X:Cx} {pos:Pos}
theorem pe_dnewK:PE X (.Dict [] [] pos) tDNewK:=fun pins s σ H Q I h =>
  wpAny_Dict_empty ⟨.ref s.heap.objs.size,_,I.laid (a:=s.heap.objs.size) (o:=.dK []) (t':=s.toks) (fun _ _ q=>Heap.get?_push_of_some _ q) (Nat.le_refl _) (dk_empty s.heap I.big),rfl,h _ (I.hok.fresh (Nat.le_refl _))⟩
end
structure M1 (X:Cx) (o:Expr) (m:Str) (apos:Pos) (e:Expr) (cpos:Pos):Prop where
  base:attributeBase o m X.env (eval o X.env) = eval o X.env
  few:((backTo cpos (starEach [e] X.env)).all (fun x=>!x.1) && (backToKw cpos (keywordEach [] X.env)).all (fun x=>x.1.isSome)
    && decide (([e]:List Expr).length + ([]:List Keyword).length + (if ([]:List Keyword).isEmpty then 0 else 1) < 30)) = true
  line:(apos.endLine == cpos.line) = true
  trees:backTo cpos (starEach [e] X.env) = [(false,eval e X.env)]
structure M2 (X:Cx) (o:Expr) (m:Str) (apos:Pos) (e f:Expr) (cpos:Pos):Prop where
  base:attributeBase o m X.env (eval o X.env) = eval o X.env
  few:((backTo cpos (starEach [e,f] X.env)).all (fun x=>!x.1) && (backToKw cpos (keywordEach [] X.env)).all (fun x=>x.1.isSome)
    && decide (([e,f]:List Expr).length + ([]:List Keyword).length + (if ([]:List Keyword).isEmpty then 0 else 1) < 30)) = true
  line:(apos.endLine == cpos.line) = true
  trees:backTo cpos (starEach [e,f] X.env) = [(false,eval e X.env),(false,eval f X.env)]
noncomputable def IsD (H:Hp) (a:Addr):Prop:=(∃ kvs,Rd H a (.dK kvs))∨∃ kvs,Rd H a (.dT kvs)
section
variable {X:Cx} {pins:List (Addr × Obj)} {σ:St} {H:Hp} {s:Shared} {a:Addr} {y d:V} {u r:Value} {o:Option V} {A:Around} {E:Value→Shared→Prop}
end
section
variable {X:Cx} {o e f:Expr} {apos cpos:Pos} {td ty tx:TE}
end
section
variable {X:Cx} {pins:List (Addr × Obj)} {σ:St} {H:Hp} {s:Shared} {a:Addr} {kvs:List (Key × V)} {A:Around} {E:Value→Shared→Prop}
end
section
variable {X:Cx} {pins:List (Addr × Obj)} {σ:St} {H:Hp} {s:Shared} {a:Addr} {y:V} {u:Value} {A:Around} {E:Value→Shared→Prop}
end
end L2
namespace Att
open PySem PySem.W PySem.Calls PyProof.Rows
theorem ints_of_wellAll {P : Params} {h : Heap} : ∀ (ns : List Int) (vs : List Value), WellAll P h vs (ns.map WData.int) → IntsAre vs ns := by
  intro ns
  induction ns with
  | nil =>
    intro vs w
    cases w
    exact .nil
  | cons n ns ih =>
    intro vs w
    cases w with
    | cons a b =>
      cases a
      exact .cons _ _ (ih _ b)
theorem script_of {l : OpenLaw} {n : Nat} (hn : l.most = some n) {P : Params} {h : Heap} {args : List WData} {vals : List Value}
    (hpre : l.row.toRowW.claim.pre args = true) (hwl : WellAll P h vals args) :
    ∃ a vs ns, vals = [Value.ref a] ∧ args = [WData.list (ns.map WData.int)] ∧ h.get? a = some { cls := .type "list", data := .seq vs.toArray } ∧ IntsAre vs ns ∧ ns.length ≤ n := by
  have hsh : WShape.hasAll [] args [.list .int] = true := (pre_splitW hpre).1
  have hc : l.pre.holds [] { args := args } = true := (pre_splitW hpre).2
  obtain ⟨d, r, rfl, h1, h2⟩ := hasAllW_cons hsh
  obtain rfl := hasAllW_nil h2
  obtain ⟨xs, rfl, h3⟩ := hasW_list h1
  obtain ⟨ns, rfl⟩ := items_int h3
  have hlen : ns.length ≤ n := by
    unfold OpenLaw.pre at hc
    have h4 : (WTm.not (.lt (.lit (.int (n : Int))) (.len (.arg 0)))).holds [] { args := [.list (ns.map .int)] } = true := by
      have h4 := (holds_andW hc).1
      rw [hn] at h4
      exact h4
    have h5 := condW_of h4 (w_not (w_lt w_lit (w_len_list (w_arg rfl))))
    simp_all
  cases hwl with
  | cons w1 w2 =>
    cases w2
    cases w1 with
    | list ho hall => exact ⟨_, _, ns, rfl, rfl, ho, ints_of_wellAll ns _ hall, hlen⟩
theorem post_true (l : OpenLaw) (args : List WData) : l.row.toRowW.claim.post args (.bool true) args = true :=
  postW_of (r := l.row.toRowW) (X := (true == true))
    (show WShape.has [] (.bool true) .bool = true by first | rfl | decide | simp)
    (show (WTm.eq .res (.lit (.bool true))).value [] { args := args, res := some (.bool true), after := args } = some (.bool (true == true)) from w_eq_bool (w_res rfl) w_lit) rfl
theorem attach_call {l : OpenLaw} {n : Nat} {q : Program} {loose : List Str} {XP : (Str → Option Value) → Heap → Prop} {YP : World → Heap → Prop} {d : DefRec}
    (hn:l.most = some n) (hdf:d.params.defaults = [])
    (call:∀ (w:World) (s₀ s₁:Shared) (mg mb:Str→Option Value) (fa:Addr) (o:Obj) (pm cd doc:Value) (a:Addr) (vs:List Value) (ns:List Int),
      Ground q loose [] XP w s₀ mg mb s₁.heap→YP w s₁.heap →
      s₁.heap.get? fa = some o→o.data = .func (docDef d.name d.params d.body d.scope pm cd doc)→s₁.heap.CodeRec cd d.name→mg d.name = some (.ref fa) →
      s₁.heap.get? a = some { cls:=.type "list",data:=.seq vs.toArray }→IntsAre vs ns→ns.length ≤ n→s₁.gens = #[] →
      codeAny (model l.prog w) callerA (.call (.ref fa) ⟨[.ref a],[]⟩) (fun r s'=>r = .ok (.ret (.bool true))∧OldK s₁.heap s'.heap∧s'.os = s₁.os∧AllBare s'.gens) s₁) :
    WalkO q loose XP YP l.row.toRowW d [] (fun f vs=>PySem.call f vs):=by
  intro w s₀ s₁ mg mb G Y fa o pm cd doc dV kV ho hd hcd hD hmg hg args vals as hpre hlay hrd hwl hlo
  obtain rfl:dV = .none:=Dflts.none hD hdf
  obtain rfl:kV = .none:=Dflts.noKw hD
  obtain ⟨a,vs,ns,rfl,rfl,hobj,hints,hlen⟩:=script_of hn hpre hwl
  refine enter_call (codeAny_mono (call w s₀ s₁ mg mb fa o pm cd doc a vs ns G Y ho (fd_plain hd) hcd hmg hobj hints hlen hg) fun r s' hq=>?_)
  obtain ⟨rfl,h2,h3,h4⟩:=hq
  exact ⟨.inl ⟨.bool true,.bool true,[],rfl,fun _=>rfl,.bool true,post_true l _,fun _=>⟨List.Pairwise.nil,fun _ hm=>(nomatch hm)⟩⟩,h2,h3,h4⟩
section
variable {prog:Program} {w:World} {A:Around} {E:Value→Shared→Prop} {s:Shared} {K:Frag}
end
end Att
namespace L2
open PySem PySem.Spec PyProof.Rows
theorem vals_ints:∀ {vs:List Value} {ns:List Int},IntsAre vs ns→Vals (ns.map V.int) vs
  | _,_,.nil=>.nil
  | _,_,.cons n t h=>.cons ⟨t,rfl⟩ (vals_ints h)
noncomputable def Only (H:Hp):Prop:=∀ b,H b = none∨∃ o xs,H b = some (.frz o (.lst xs))
theorem law_call {P : Program} {w : World} {K : PySem.W.Frag} {mg mb : Str → Option Value} {CX : CXT} {k : Nat} {fa a : Addr} {fd : FuncData} {x : Str} {sp : Sp} {s₁ : Shared} {vs : List Value} {ns : List Int}
    (KX:K.In s₁.heap) (hns:s₁.heap.Ns mainGlobals mg) (hb:s₁.heap.Ns builtinsNs mb) (hbb:∀ x:Str,x ≠ "__name__"→mb x = bootBuiltins x) (hlim:s₁.heap.NoLimit) (hg:s₁.gens = #[])
    (ha:s₁.heap.get? a = some { cls:=.type "list",data:=.seq vs.toArray }) (hi:IntsAre vs ns) (hl:ns.length ≤ sizeLine) (hr:Room k callerA)
    (F:∀ base:Heap,K.In base→base.Ns mainGlobals mg→FnOk P w K mg base CX k fa fd [x] sp) (hbind:∀ (s:Shared) (u:Value),BindsTo s fd ⟨[u],[]⟩ [(x,u)])
    (hsp:∀ H:Hp,Only H→SqL K H a (ns.map V.int)→sp [.ref a] H (fun v _=>v = .bl true) fun _ _ _=>False)
    (hCX:∀ H e s',CX [] H s₁ (fun _ _ _=>False) e s'→False) :
    codeAny (model P w) callerA (.call (.ref fa) ⟨[.ref a],[]⟩) (fun r s'=>r = .ok (.ret (.bool true))∧OldK s₁.heap s'.heap∧s'.os = s₁.os∧AllBare s'.gens) s₁:=by
  have rv:=vals_ints hi
  have lenV:=hi.length
  have core : ∀ H : Hp, Only H → SqL K H a (ns.map V.int) → HOk P w H s₁.heap → (∀ b, H b ≠ none → b = a) → (H a ≠ none → K.lookup a = none) →
      codeAny (model P w) callerA (.call (.ref fa) ⟨[.ref a],[]⟩) (fun r s'=>r = .ok (.ret (.bool true))∧OldK s₁.heap s'.heap∧s'.os = s₁.os∧AllBare s'.gens) s₁:=by
    intro H hO hS hok hA hK
    have base_of:∀ {b:Addr} {o:Obj},s₁.heap.get? b = some o→H b = none→(hidT s₁.heap H).get? b = some o:=fun e n=>hidT_get e n
    have noA:∀ {b:Addr} {o:Obj} {es:Array DictEntry} {ep:Nat},s₁.heap.get? b = some o→o.data = .dict es ep→H b = none:=fun {b o es ep} e d=>by
      cases q:H b with
      | none=>rfl
      | some u =>
        have e':b = a:=hA b (by rw [q]; simp)
        subst e'
        rw [ha] at e; cases e
        have d':Data.seq vs.toArray _ = Data.dict es ep:=d
        cases d'
    have nsK:∀ {b:Addr} {m:Str→Option Value},s₁.heap.Ns b m→(hidT s₁.heap H).Ns b m:=fun {b m} ⟨o,es,ep,e,d,r⟩=>⟨o,es,ep,base_of e (noA e d),d,r⟩
    have hKb:K.In (hidT s₁.heap H):=fun b o e=>base_of (KX b o e) (by
      cases q:H b with
      | none=>rfl
      | some u =>
        have e':b = a:=hA b (by rw [q]; simp)
        subst e'
        rw [hK (by rw [q]; simp)] at e; cases e)
    have hM:Mod K mg (hidT s₁.heap H):=⟨hKb,nsK hns,⟨mb,nsK hb,hbb⟩,let ⟨mc,h1,h2⟩:=hlim; ⟨mc,nsK h1,h2⟩⟩
    have e0:Env0 P w K mg (hidT s₁.heap H) callerA [] s₁ H:=⟨rfl,hM,fun b o e=>of_hidT e,Nat.le_of_eq (hidT_size _ _),trivial,fun b hb=>absurd (show b ∈ ([]:List Addr) from hb) (by simp),hok,.of_eq hg⟩
    refine codeAny_mono ((F _ hKb (nsK hns)).run callerA [] s₁ H ⟨[.ref a],[]⟩ [.ref a] [.ref a] _ _ hr e0 (hbind s₁ (.ref a)) (.cons rfl .nil) (hsp H hO hS)) fun r s' h=>?_
    cases r with
    | error e=>exact (hCX H e s' h).elim
    | ok fl =>
      cases fl with
      | next=>exact False.elim h
      | brk=>exact False.elim h
      | cont=>exact False.elim h
      | ret u =>
        obtain ⟨v,H',os,bare,un,hok',r',q⟩:=h
        have q':v = .bl true:=q
        subst q'
        obtain rfl:u = Value.bool true:=r'
        refine ⟨rfl,OldK.of_keep fun b o e=>?_,os,bare⟩
        cases q:H b with
        | none=>exact un.keep b o e q (by intro z; exact absurd (show b ∈ ([]:List Addr) from z) (by simp)) (by simp)
        | some u =>
          rcases hO b with z | ⟨ob,xs,z⟩
          · rw [q] at z; cases z
          · have z2:=un.frzs b ob _ z
            obtain ⟨e1,_⟩:=hok b _ z
            obtain ⟨e2,_⟩:=hok' b _ z2
            rw [e] at e1; cases e1
            exact e2
  cases hk:K.lookup a with
  | some o =>
    have e:=KX a o hk
    rw [ha] at e
    cases e
    refine core (fun _=>none) (fun _=>.inl rfl) (.inr ⟨_,vs.toArray,_,hk,rfl,rfl,rfl,by rw [List.size_toArray,lenV]; exact hl,by simpa using rv⟩) (fun b u z=>by have z':(none:Option HO) = some u:=z; cases z') (fun b z=>absurd rfl z) fun z=>absurd rfl z
  | none =>
    refine core (fun b=>if b = a then some (.frz { cls:=.type "list",data:=.seq vs.toArray } (.lst (ns.map V.int))) else none) (fun b=>?_) (.inl (.inr ⟨{ cls:=.type "list",data:=.seq vs.toArray },if_pos rfl⟩)) (fun b u z=>?_) (fun b z=>?_) fun _=>hk
    · by_cases hb:b = a
      · exact .inr ⟨_,_,if_pos hb⟩
      · exact .inl (if_neg hb)
    · by_cases hb:b = a
      · have z':=(if_pos hb).symm.trans z
        cases z'
        subst hb
        exact ⟨ha,by rw [List.length_map]; exact hl,vs,_,rv,ha⟩
      · have z':=(if_neg hb).symm.trans z
        cases z'
    · by_cases hb:b = a
      · exact hb
      · exact absurd (if_neg hb) z
end L2
namespace L2
open PySem PySem.Spec PyProof.Rows
noncomputable abbrev KOf {K:PySem.W.Frag} {h:Heap} (_:K.In h):PySem.W.Frag:=K
theorem walk_of {l : PySem.W.OpenLaw} {n k : Nat} {q : Program} {loose : List Str} {XP : (Str → Option Value) → Heap → Prop} {YP : World → Heap → Prop} {d : DefRec} {K : Params → PySem.W.Frag} {CX : World → CXT} {sp : World → Sp} {x : Str}
    (hn:l.most = some n) (hn2:n ≤ sizeLine) (hdf:d.params.defaults = []) (hr:Room k callerA)
    (hY:∀ (w:World) (h:Heap),YP w h→(K w.params).In h)
    (F:∀ (w:World) (mg:Str→Option Value) (fa:Addr) (h:Heap),(K w.params).In h→h.Ns mainGlobals mg→mg d.name = some (.ref fa) →
      ∃ fd:FuncData,(∀ (s:Shared) (u:Value),BindsTo s fd ⟨[u],[]⟩ [(x,u)]) ∧
        ∀ base:Heap,(K w.params).In base→base.Ns mainGlobals mg→FnOk l.prog w (K w.params) mg base (CX w) k fa fd [x] (sp w))
    (hsp:∀ (w:World) (H:Hp) (a:Addr) (ns:List Int),ns.length ≤ n→Only H→SqL (K w.params) H a (ns.map V.int)→sp w [.ref a] H (fun v _=>v = .bl true) fun _ _ _=>False)
    (hCX:∀ (w:World) (H:Hp) (s:Shared) (e:Value) (s':Shared),CX w [] H s (fun _ _ _=>False) e s'→False) :
    PySem.W.WalkO q loose XP YP l.row.toRowW d [] (fun f vs=>PySem.call f vs):=by
  refine Att.attach_call hn hdf fun w s₀ s₁ mg mb fa o pm cd doc a vs ns G Y ho hd hcd hmg hobj hints hlen hg=>?_
  have KX:=hY w _ Y
  obtain ⟨fd,hb,hF⟩:=F w mg fa _ KX G.T.g hmg
  exact law_call KX G.T.g G.T.b G.T.builtins G.T.nolimit hg hobj hints (Nat.le_trans hlen hn2) hr hF hb (fun H hO hS=>hsp w H a ns hlen hO hS) fun H e s'=>hCX w H s₁ e s'
theorem walk_ofK {l : PySem.W.OpenLaw} {n k : Nat} {q : Program} {loose : List Str} {XP : (Str → Option Value) → Heap → Prop} {YP : World → Heap → Prop} {d : DefRec} {K : Params → PySem.W.Frag} {CX : CXT} {sp : PySem.W.Frag → Sp} {x : Str}
    (hn:l.most = some n) (hn2:n ≤ sizeLine) (hdf:d.params.defaults = []) (hr:Room k callerA)
    (hY:∀ (w:World) (h:Heap),YP w h→(K w.params).In h)
    (F:∀ (w:World) (mg:Str→Option Value) (fa:Addr) (h:Heap),(K w.params).In h→h.Ns mainGlobals mg→mg d.name = some (.ref fa) →
      ∃ fd:FuncData,(∀ (s:Shared) (u:Value),BindsTo s fd ⟨[u],[]⟩ [(x,u)]) ∧
        ∀ base:Heap,(K w.params).In base→base.Ns mainGlobals mg→FnOk l.prog w (K w.params) mg base CX k fa fd [x] (sp (K w.params)))
    (hsp:∀ (K:PySem.W.Frag) (H:Hp) (a:Addr) (ns:List Int),ns.length ≤ n→Only H→SqL K H a (ns.map V.int)→sp K [.ref a] H (fun v _=>v = .bl true) fun _ _ _=>False)
    (hCX:∀ (H:Hp) (s:Shared) (e:Value) (s':Shared),CX [] H s (fun _ _ _=>False) e s'→False) :
    PySem.W.WalkO q loose XP YP l.row.toRowW d [] (fun f vs=>PySem.call f vs) :=
  walk_of (K:=K) (CX:=fun _=>CX) (sp:=fun w=>sp (K w.params)) hn hn2 hdf hr hY F (fun w H a ns h1 h2 h3=>hsp (K w.params) H a ns h1 h2 h3) fun _ H s e s'=>hCX H s e s'
end L2
namespace L2
open PySem PySem.Spec PyProof.Rows
noncomputable def defArgs (s:Stmt):Arguments:=match s with
  | .FunctionDef _ a _ _ _ _ _ _ _ _=>a
  | _=>{ posonlyargs:=[],args:=[],vararg:=none,kwonlyargs:=[],kw_defaults:=[],kwarg:=none,defaults:=[] }
noncomputable def defBody (s:Stmt):List Stmt:=match s with
  | .FunctionDef _ _ b _ _ _ _ _ _ _=>b
  | _=>[]
noncomputable def defScope (s:Stmt):Scope:=match s with
  | .FunctionDef _ _ _ _ _ _ sc _ _ _=>sc
  | _=>{ kind:=.function,names:=[],isGenerator:=false,isCoroutine:=false }
noncomputable abbrev CX0:CXT:=fun _ _ _ _ _ _=>False
noncomputable abbrev E0:XK:=fun _ _ _=>False
theorem pass0 {X:Cx}:Passes CX0 X E0:=fun _ _ _ _ _ _ _ h=>h.elim
structure Fun (K:PySem.W.Frag) (x qual:Str) (st:Stmt) (f:Addr) (fd:FuncData):Prop where
  ex:∃ (oc:Value) (od:Option Addr) (kV doc pm:Value) (an:Option Addr) (cdv ct:Value) (osl:Array (Option Value)),
    fd = PySem.W.fnOf x qual (defArgs st) (defBody st) (defScope st) .none kV doc pm an cdv ct∧K.lookup f = some ⟨oc,od,.func fd,osl⟩∧PySem.W.codeIn K cdv qual = true
  kp:PySem.W.keepIn K (.ref f) = true
section
variable {P:Program} {w:World} {K:PySem.W.Frag} {mg:Str→Option Value} {base:Heap}
theorem Fun.ok {x qual : Str} {st : Stmt} {f : Addr} {fd : FuncData} {N ps : List Str} {k : Nat} {sp : Sp} (F : Fun K x qual st f fd) (S : FnScope N ps (defScope st)) (len : ∀ vs H Q E, sp vs H Q E → vs.length = ps.length)
    (hbody:∀ (cdv:Value) (A:Around) (outer:List Env) (s:Shared) (H:Hp) (vs:List V) (Q:VK) (E:XK),Room k (A.deeper (envOfC qual (defScope st) s.heap.objs.size f cdv))→sp vs H Q E →
      ∃ t,PSs (cxOf CX0 P w K mg base N qual (defScope st) f cdv A outer s H E).nox (defBody st) t∧t { nx:=fun _ H'=>Q .non H',rt:=Q } (start N vs) H):FnOk P w K mg base CX0 (k + 1) f fd ps sp:=by
  obtain ⟨oc,od,kV,doc,pm,an,cdv,ct,osl,rfl,lk,hcd⟩:=F.ex
  refine fn_of lk hcd S len fun A outer s H vs Q E hr hsp=>?_
  obtain ⟨t,h,q⟩:=hbody cdv A outer s H vs Q E hr hsp
  exact ⟨t,h.nox,q⟩
theorem Fun.binds {x qual : Str} {st : Stmt} {f : Addr} {fd : FuncData} {ps : List Str} (F : Fun K x qual st f fd)
    (h:∀ (kV doc pm:Value) (an:Option Addr) (cdv ct:Value) (us:List Value),us.length = ps.length→bindArgs (PySem.W.fnOf x qual (defArgs st) (defBody st) (defScope st) .none kV doc pm an cdv ct) ⟨us,[]⟩ = pure (ps.zip us)):Binds K fd ps []:=by
  obtain ⟨oc,od,kV,doc,pm,an,cdv,ct,osl,rfl,lk,hcd⟩:=F.ex
  exact .all (h kV doc pm an cdv ct)
theorem fun_mk {x qual : Str} {st : Stmt} {f : Addr} {oc : Value} {od an : Option Addr} {osl : Array (Option Value)} {kV doc pm cdv ct : Value} (l : K.lookup f = some ⟨oc, od, .func (PySem.W.fnOf x qual (defArgs st) (defBody st) (defScope st) .none kV doc pm an cdv ct), osl⟩)
    (c:PySem.W.codeIn K cdv qual = true) (k:PySem.W.keepIn K (.ref f) = true):Fun K x qual st f (PySem.W.fnOf x qual (defArgs st) (defBody st) (defScope st) .none kV doc pm an cdv ct):=⟨⟨oc,od,kV,doc,pm,an,cdv,ct,osl,rfl,l,c⟩,k⟩
end
section
variable {X:Cx}
theorem pv (i : Nat) {x : Str} {pos : Pos} (hN : X.N[i]? = some x := by rfl) (hv : Vis X.env.scope x := by first | exact Or.inl rfl | exact Or.inr (Or.inl rfl) | exact Or.inr (Or.inr rfl)) (hd : (x == ("__debug__" : Str)) = false := by decide)
    (hcd:(x == ("__classdict__":Str)) = false:=by decide):PE X (.Name x pos) (tVar i):=pe_var hN hv hd hcd
end
theorem ite2 {c A B : Prop} [Decidable c] (h1 : c → A) (h2 : ¬ c → B) : if c then A else B :=by simp_all
noncomputable def Same (H H':Hp):Prop:=∀ b o,H b = some o→H' b = some o
theorem Same.refl (H:Hp):Same H H:=fun _ _ h=>h
theorem Same.trans {H H1 H2:Hp} (a:Same H H1) (b:Same H1 H2):Same H H2:=fun c o h=>b c o (a c o h)
theorem Same.free {H H':Hp} (e:Same H H') {l:Addr} (h:H' l = Option.none):H l = Option.none:=by
  cases q:H l with
  | none=>rfl
  | some o =>
    rw [e l o q] at h
    cases h
theorem Same.seq {K:PySem.W.Frag} {H H':Hp} {a:Addr} {xs:List V} (e:Same H H') (h:SqL K H a xs):SqL K H' a xs:=by
  rcases h with (h | ⟨o,h⟩) | h
  · exact .inl (.inl (e _ _ h))
  · exact .inl (.inr ⟨o,e _ _ h⟩)
  · exact .inr h
section
variable {κ:Type} [DecidableEq κ]
end
end L2
set_option maxHeartbeats 4000000
namespace L2
open PySem PySem.Spec PyProof.Rows
noncomputable def closOf (env:Env):List (Str × NameKind)→List (Str × Addr)→List (Str × Addr)
  | [],acc=>acc
  | (n, k) :: r, acc => if k == .free then (match env.cells.lookup n with
      | some c=>closOf env r ((n,c) :: acc)
      | none=>closOf env r acc) else closOf env r acc
theorem closOf_ok {env : Env} : ∀ {names : List (Str × NameKind)} {acc : List (Str × Addr)}, (∀ n c, acc.lookup n = some c → env.cells.lookup n = some c) →
    ∀ n c, (closOf env names acc).lookup n = some c → env.cells.lookup n = some c
  | [], acc, h, n, c, e => h n c e
  | (x, k) :: r, acc, h, n, c, e => by
    unfold closOf at e
    split at e
    · split at e
      · refine closOf_ok (fun y d q => ?_) n c e
        grind
      · exact closOf_ok h n c e
    · exact closOf_ok h n c e
theorem closOf_acc {env:Env}:∀ {names:List (Str × NameKind)} {acc:List (Str × Addr)} {n:Str},(acc.lookup n).isSome = true→((closOf env names acc).lookup n).isSome = true
  | [],_,_,h=>h
  | (x,k) :: r,acc,n,h=>by
    unfold closOf
    split
    · split
      · refine closOf_acc ?_
        rw [List.lookup_cons]
        cases n == x with
        | true=>rfl
        | false=>exact h
      · exact closOf_acc h
    · exact closOf_acc h
theorem closOf_has {env : Env} : ∀ {names : List (Str × NameKind)} {acc : List (Str × Addr)} {n : Str} {c : Addr}, (n, NameKind.free) ∈ names → env.cells.lookup n = some c → ((closOf env names acc).lookup n).isSome = true
  | [], _, _, _, h, _ => nomatch h
  | (x, k) :: r, acc, n, c, h, e => by
    rcases List.mem_cons.mp h with q | q
    · cases q
      unfold closOf
      rw [if_pos (by rfl), e]
      refine closOf_acc ?_
      simp
    · unfold closOf
      split
      · split
        · exact closOf_has q e
        · exact closOf_has q e
      · exact closOf_has q e
theorem closureFor_of {scope:Scope} {env:Env} (h:∀ y ∈ scope.names,y.2 = .free→∃ c,env.cells.lookup y.1 = some c):closureFor scope env = pure (closOf env scope.names []):=by
  simp only [closureFor]
  have go : ∀ (names : List (Str × NameKind)) (acc : List (Str × Addr)), (∀ y ∈ names, y.2 = .free → ∃ c, env.cells.lookup y.1 = some c) →
      (forIn names acc (fun x cs=>if (x.2 == NameKind.free) = true then (do let a ← cellOf env x.1; pure (ForInStep.yield ((x.1,a) :: cs))) else pure (ForInStep.yield cs)):Sem (List (Str × Addr))) = pure (closOf env names acc):=by
    intro names
    induction names with
    | nil=>intro acc _; rfl
    | cons p r ih =>
      intro acc hh
      obtain ⟨n,k⟩:=p
      rw [List.forIn_cons]
      unfold closOf
      by_cases hk:(k == NameKind.free) = true
      · obtain ⟨c,hc⟩:=hh (n,k) List.mem_cons_self (by simpa using hk)
        have hc':env.cells.lookup n = some c:=hc
        rw [if_pos hk,if_pos hk,hc']
        have e:cellOf env n = pure c:=by unfold cellOf; rw [hc']
        simp only [e,pure_bind]
        exact ih _ fun y hy=>hh y (List.mem_cons_of_mem _ hy)
      · rw [if_neg hk,if_neg hk]
        simp only [pure_bind]
        exact ih _ fun y hy=>hh y (List.mem_cons_of_mem _ hy)
  have:=go scope.names [] h
  simpa using this
theorem lookup_relabel {env : Env} : ∀ {names : List (Str × NameKind)} {x : Str},
    (names.map fun (n,k)=>if (k == NameKind.free && env.scope.kind == .function && env.kindOf n == some .cell) then (n,NameKind.cell) else (n,k)).lookup x =
      (names.lookup x).map fun k=>if (k == NameKind.free && env.scope.kind == .function && env.kindOf x == some .cell) then NameKind.cell else k
  | [],_=>rfl
  | (n,k) :: r,x=>by
    have ih:=@lookup_relabel env r x
    rw [List.map_cons]
    show List.lookup x ((if (k == NameKind.free && env.scope.kind == .function && env.kindOf n == some .cell) = true then (n,NameKind.cell) else (n,k)) :: _) = _
    cases hx:x == n with
    | true =>
      have e:x = n:=beq_iff_eq.mp hx
      subst e
      by_cases hc:(k == NameKind.free && env.scope.kind == .function && env.kindOf x == some .cell) = true
      · rw [if_pos hc,List.lookup_cons,List.lookup_cons,hx]
        simp only [Option.map_some,hc,if_true]
      · rw [if_neg hc,List.lookup_cons,List.lookup_cons,hx]
        simp only [Option.map_some]
        rw [if_neg hc]
    | false =>
      by_cases hc:(k == NameKind.free && env.scope.kind == .function && env.kindOf n == some .cell) = true
      · rw [if_pos hc,List.lookup_cons,List.lookup_cons,hx]; exact ih
      · rw [if_neg hc,List.lookup_cons,List.lookup_cons,hx]; exact ih
theorem comp_loop {prog : Program} {w : World} {A : Around} {R : Result → Shared → Prop} {s : Shared} {elt target iter : Expr} {ifs : List Expr} {scope : Scope} {pos : Pos} {it acc : Value} {env : Env} (I : Nat → Shared → Prop)
    (turn:∀ n s,I n s→wpAny (model prog w) A (pyNext it) (fun r s₁=>match r with
      | none=>R (.ok .next) s₁
      | some v => wpAny (model prog w) A (letOwnedTupleGo target it v) (fun _ s₁' => wpAny (model prog w) A (assign target env v) (fun _ s₂ =>
          wpAny (model prog w) A (forIn ifs true fun c r=>if r = true then do let ok ← isTrue c env (eval c env); pure (ForInStep.yield ok) else pure (ForInStep.yield r)) (fun ok s₃ =>
            if ok = true then wpAny (model prog w) A (eval elt env) (fun x s₄ =>
              wpAny (model prog w) A (call (.builtin "list.append") [acc,x]) (fun _ s₅=>∃ m,m < n∧I m s₅) (notedBy (model prog w) A env fun e s'=>R (.error e) s') s₄) (notedBy (model prog w) A env fun e s'=>R (.error e) s') s₃
            else ∃ m,m < n∧I m s₃) (notedBy (model prog w) A env fun e s'=>R (.error e) s') s₂) (notedBy (model prog w) A env fun e s'=>R (.error e) s') s₁') (notedBy (model prog w) A env fun e s'=>R (.error e) s') s₁) (notedBy (model prog w) A env fun e s'=>R (.error e) s') s)
    (n:Nat) (h:I n s) :
    codeAny (model prog w) A (.compLoop (.ListComp elt [⟨target,iter,ifs,0⟩] scope pos) 0 it acc env) R s:=by
  refine codeAny_loop rfl I (fun n s hI=>?_) n h
  show wpAny _ A ((compTurn (.ListComp elt [⟨target,iter,ifs,0⟩] scope pos) 0 it acc env).onRaise (fun x=>do noteFrame x env; theTreesLotGoes x)) _ _ s
  refine wpAny_noted ?_
  rw [compTurn_list]
  refine wpAny_bind (wpAny_standAt (wpAny_bind (wpAny_mono (turn n s hI) (fun r s₁ h₁=>?_) fun _ _ h'=>h')))
  cases r with
  | none=>exact wpAny_pure h₁
  | some v =>
    refine wpAny_bind (wpAny_mono h₁ (fun _ s₁' h₁'=>?_) fun _ _ h'=>h')
    refine wpAny_bind (wpAny_mono h₁' (fun _ s₂ h₂=>wpAny_bind (wpAny_mono h₂ (fun ok s₃ h₃=>?_) fun _ _ h'=>h')) fun _ _ h'=>h')
    cases ok with
    | false=>exact wpAny_pure ⟨rfl,h₃⟩
    | true =>
      exact wpAny_bind (wpAny_bind (wpAny_mono h₃ (fun x s₄ h₄=>wpAny_bind (wpAny_mono h₄ (fun _ s₅ h₅=>wpAny_pure (wpAny_pure ⟨rfl,h₅⟩)) fun _ _ h'=>h')) fun _ _ h'=>h'))
noncomputable def capt (cap:List (Option Nat)) (σ:St):St:=cap.map fun o=>o.bind fun i=>(σ[i]?).join
noncomputable def cxComp (X:Cx) (N:List Str) (scope:Scope) (C:Addr) (s:Shared) (H:Hp) (ex:List Addr):Cx where
  prog:=X.prog
  w:=X.w
  K:=X.K
  mg:=X.mg
  base:=X.base
  A:=X.A
  N:=N
  s₀:=s
  H₀:=H
  env:=compEnvC scope (closOf X.env scope.names []) C X.env
  outer:=X.stack
  stack:=X.stack
  ex:=ex
  fn:=fun _=>false
  calm:=X.calm
  pn:=[]
  xe:=fun _ _=>False
structure CompScope (X:Cx) (N:List Str) (cap:List (Option Nat)) (scope:Scope):Prop where
  kind:scope.kind = .function
  nocell:∀ y ∈ scope.names,y.2 ≠ .cell
  loc:∀ y ∈ scope.names,y.2 = .local→scope.names.lookup y.1 = some .local
  fre:∀ y ∈ scope.names,y.2 = .free→X.env.scope.names.lookup y.1 = some .cell∨X.env.scope.names.lookup y.1 = some .free
  nd:N.Nodup
  len:cap.length = N.length
  cap:∀ (j i:Nat),cap[j]? = some (some i)→∃ y,N[j]? = some y∧X.N[i]? = some y∧scope.names.lookup y = some .free
noncomputable def compChk (outer:List (Str × NameKind)) (N0 N:List Str) (cap:List (Option Nat)) (names:List (Str × NameKind)):Bool :=
  names.all (fun y=>y.2 != .cell && (y.2 != .local || names.lookup y.1 == some .local) && (y.2 != .free || outer.lookup y.1 == some .cell || outer.lookup y.1 == some .free)) &&
  decide N.Nodup && cap.length == N.length &&
  (List.range cap.length).all fun j=>match cap[j]? with
    | some (some i)=>(match N[j]? with
      | some y=>N0[i]? == some y && names.lookup y == some .free
      | none=>false)
    | _=>true
theorem CompScope.of {X : Cx} {N : List Str} {cap : List (Option Nat)} {scope : Scope} (hk : scope.kind = .function) (h : compChk X.env.scope.names X.N N cap scope.names = true) : CompScope X N cap scope := by
  unfold compChk at h
  simp only [Bool.and_eq_true, List.all_eq_true, decide_eq_true_eq, beq_iff_eq] at h
  obtain ⟨⟨⟨h1, h2⟩, h3⟩, h4⟩ := h
  refine ⟨hk, fun y hy e => ?_, fun y hy e => ?_, fun y hy e => ?_, h2, h3, fun j i e => ?_⟩
  · have := (h1 y hy).1.1
    rw [e] at this
    exact absurd this (by decide)
  · have := (h1 y hy).1.2
    rw [e] at this
    simpa using this
  · have := (h1 y hy).2
    rw [e] at this
    simpa using this
  · have hj : j < cap.length := (List.getElem?_eq_some_iff.mp e).1
    have := h4 j (List.mem_range.mpr hj)
    rw [e] at this
    simp_all
theorem getElem?_capt {cap : List (Option Nat)} {σ : St} {j : Nat} {v : V} (h : (capt cap σ)[j]? = some (some v)) : ∃ i, cap[j]? = some (some i) ∧ σ[i]? = some (some v) := by
  unfold capt at h
  rw [List.getElem?_map] at h
  cases e : cap[j]? with
  | none => simp_all
  | some o =>
    rw [e] at h
    cases o with
    | none => simp at h
    | some i =>
      refine ⟨i, rfl, ?_⟩
      simp only [Option.map_some, Option.bind_some, Option.some.injEq] at h
      cases q : σ[i]? with
      | none => simp_all
      | some z => simp_all
theorem inv_comp {X : Cx} {pins : List (Addr × Obj)} {σ : St} {H : Hp} {s : Shared} {N : List Str} {cap : List (Option Nat)} {scope : Scope} {ex : List Addr} {h₁ : Heap} {tk : Nat} {C : Addr} (S : CompScope X N cap scope) (I : Inv X pins σ H s) (hC : s.heap.objs.size ≤ C)
    (hns:h₁.Ns C (fun _=>none)) (hk:∀ b o,s.heap.get? b = some o→h₁.get? b = some o) (hex:∀ b ∈ ex,b < s.heap.objs.size∧FpOk X pins H b) :
    Inv (cxComp X N scope C s H ex) [] (capt cap σ) H { s with heap:=h₁,toks:=tk }:=by
  have hcl:∀ n c,(closOf X.env scope.names []).lookup n = some c→X.env.cells.lookup n = some c:=closOf_ok (fun n c e=>by simp at e)
  have cne:∀ x c,(closOf X.env scope.names []).lookup x = some c→c < s.heap.objs.size:=fun x c e=>by
    obtain ⟨v,q⟩:=I.cell x c (hcl x c e)
    exact q.lt
  have nob:∀ b o,X.base.get? b = some o→b ∉ ex:=fun b o e hb=>by
    obtain ⟨hlt,f0,f1,f2,f3,f4,f5⟩:=hex b hb
    rcases f3 with z | z
    · exact I.ok.noex b o e z
    · exact absurd (Nat.lt_of_lt_of_le (Heap.lt_size e) (Nat.le_trans I.ok.bsz z)) (Nat.lt_irrefl _)
  refine ⟨⟨I.ok.mod,?_,I.ok.glob,I.ok.blt,hC,fun x y c h1 h2=>I.ok.inj x y c (hcl x c h1) (hcl y c h2),fun x hx=>?_,fun x c hf _=>?_,I.ok.hd,I.ok.frames,.inl rfl,fun b hb=>?_,fun b o e=>I.bs b o e,Nat.le_trans I.ok.bsz I.sz,nob,fun b hb=>?_,I.stack,I.stkFree⟩,
    rfl,I.bare,Un.kept hk,⟨_,hns,fun j y v h1 h2 h3=>?_⟩,fun x c e=>?_,I.hok.fresh hC,fun x c e=>?_,fun p hp=>absurd (show p ∈ ([]:List (Addr × Obj)) from hp) (by simp),I.hok.kept hk,?_⟩
  · exact S.kind
  · have hx:(relabel scope X.env).names.lookup x = some .cell∨(relabel scope X.env).names.lookup x = some .free:=hx
    unfold relabel at hx
    simp only [lookup_relabel] at hx
    cases q:scope.names.lookup x with
    | none=>rw [q] at hx; simp at hx
    | some k =>
      have hm:=PySem.mem_of_lookup q
      have hkf:k = .free:=by
        rw [q] at hx
        simp only [Option.map_some,Option.some.injEq] at hx
        by_cases z:(k == NameKind.free && X.env.scope.kind == .function && X.env.kindOf x == some .cell) = true
        · have : (k == NameKind.free) = true := by
            rw [Bool.and_eq_true,Bool.and_eq_true] at z
            exact z.1.1
          exact beq_iff_eq.mp this
        · rw [if_neg z] at hx
          rcases hx with hx | hx
          · exact absurd hx (S.nocell _ hm)
          · exact hx
      subst hkf
      obtain ⟨c,hc⟩:=I.ok.has x (S.fre _ hm rfl)
      exact Option.isSome_iff_exists.mp (closOf_has hm hc)
  · exact absurd (show false = true from hf) Bool.false_ne_true
  · obtain ⟨hlt,_⟩:=hex b hb
    refine ⟨Nat.ne_of_lt (Nat.lt_of_lt_of_le hlt hC),fun x c e z=>?_⟩
    exact (hex b hb).2.2.2.2.2.1 x c (hcl x c e) z
  · intro hb2
    rcases List.mem_cons.mp (I.stkSub b hb2) with e | e
    · exact (hex b hb).2.2.1 e
    · exact (hex b hb).2.2.2.1 e
  · obtain ⟨i,e1,e2⟩:=getElem?_capt h2
    obtain ⟨y',e3,e4,e5⟩:=S.cap j i e1
    rw [show N[j]? = some y from h1] at e3
    cases e3
    obtain ⟨m,_,hl⟩:=I.loc
    have hm:=PySem.mem_of_lookup e5
    have hv:Vis X.env.scope y:=by
      rcases S.fre _ hm rfl with z | z
      · exact .inr (.inl z)
      · exact .inr (.inr z)
    obtain ⟨u,r,l⟩:=hl i y v e4 e2 hv
    refine ⟨u,r,.inr ⟨?_,?_⟩⟩
    · show (relabel scope X.env).names.lookup y = some .cell∨(relabel scope X.env).names.lookup y = some .free
      unfold relabel
      simp only [lookup_relabel,e5,Option.map_some,Option.some.injEq]
      split
      · exact .inl rfl
      · exact .inr rfl
    · rcases l with ⟨hk2,_⟩ | ⟨_,c,hc,hcell⟩
      · rcases S.fre _ hm rfl with z | z
        · rw [show X.env.kindOf y = some .cell from z] at hk2; cases hk2
        · rw [show X.env.kindOf y = some .free from z] at hk2; cases hk2
      · refine ⟨c,?_,hcell.keeps hk⟩
        obtain ⟨c',hc'⟩:=Option.isSome_iff_exists.mp (closOf_has (acc:=[]) hm hc)
        have:=hcl y c' hc'
        rw [hc] at this
        cases this
        exact hc'
  · obtain ⟨v,q⟩:=I.cell x c (hcl x c e)
    exact ⟨v,q.keeps hk⟩
  · exact I.freeC x c (hcl x c e)
  · show (capt cap σ).length = N.length
    unfold capt
    rw [List.length_map]
    exact S.len
noncomputable def Gath (J:It) (cap:List (Option Nat)) (g:TG) (tc:TT) (te:TE) (Q:Addr→Hp→Prop) (σ:St) (H:Hp):Prop :=
  ∃ W:Nat→Nat→List V→St→Hp→Prop,(∃ m,W 0 m [] (capt cap σ) H)∧∀ i m ys σ' H',W i m ys σ' H' →
    (J.stop i H'∧ys.length ≤ sizeLine∧∀ D,H' D = none→Q D (upd H' D (.lst ys)))∨(J.go i H'∧ys.length < sizeLine∧∃ N:List V→St→Hp→Prop,(∀ ys2 σ2 H2,N ys2 σ2 H2→∃ m',m' < m∧W (i + 1) m' ys2 σ2 H2) ∧
      ∀ x H2,J.yld i H' x H2→g x σ' H2 fun σ3 H3=>tc σ3 H3 fun b H4=>if b = true then te σ3 H4 fun y H5=>N (ys ++ [y]) σ3 H5 else N ys σ3 H4)
noncomputable def tComp (cap:List (Option Nat)) (wi:TI) (g:TG) (tc:TT) (te:TE) (Q:Addr→Hp→Prop):St→Hp→Prop:=fun σ H=>wi σ H fun J H1=>Gath J cap g tc te Q σ H1
noncomputable def tTrue:TT:=fun _ H Q=>Q true H
noncomputable def PTs (X:Cx) (ifs:List Expr) (t:TT):Prop :=
  ∀ (pins:List (Addr × Obj)) (s:Shared) (σ:St) (H:Hp) (Q:Bool→Hp→Prop),Inv X pins σ H s→t σ H Q →
    wpAny (model X.prog X.w) X.A (forIn ifs true fun c r=>if r = true then do let ok ← isTrue c X.env (eval c X.env); pure (ForInStep.yield ok) else pure (ForInStep.yield r)) (TP X pins σ Q) X.xe s
theorem pts_nil {X:Cx}:PTs X [] tTrue:=fun pins s σ H Q I h=>wpAny_tests_nil ⟨H,I,h⟩
theorem pts_one {X:Cx} {c:Expr} {t:TT} (h:PT X c t):PTs X [c] t:=fun pins s σ H Q I hw=>wpAny_tests_one (h pins s σ H Q I hw)
theorem HOk.add {P : Program} {w : World} {H : Hp} {h : Heap} {a : Addr} {o : HO} (x : HOk P w H h) (hn : H a = none) (new : ObjOk P w (upd H a o) h a o) : HOk P w (upd H a o) h := fun b u e => by
  by_cases hb : b = a
  · subst hb; rw [upd_same] at e; simp_all
  · rw [upd_ne hb] at e
    exact (x b u e).stay (fun c v _ q => q) (fun c q => by rw [upd_ne (ne_of_none q hn)]; exact q) fun c xs q => by rw [upd_ne (ne_of_none q hn)]; exact q
theorem Un.add {fs ex:List Addr} {H H1:Hp} {h h1:Heap} {a:Addr} {o:HO} (u:Un fs ex H H1 h h1) (ha:h.objs.size ≤ a) (hn:H1 a = none):Un fs ex H (upd H1 a o) h h1 where
  keep:=u.keep
  slot:=u.slot
  free:=fun b ob q n hx=>by rw [upd_ne (Nat.ne_of_lt (Nat.lt_of_lt_of_le (Heap.lt_size q) ha))]; exact u.free b ob q n hx
  there:=u.there
  tups:=fun b xs q=>by
    have q':=u.tups b xs q
    rw [upd_ne (ne_of_none q' hn)]; exact q'
  frzs:=fun b ob xs q=>by
    have q':=u.frzs b ob xs q
    rw [upd_ne (ne_of_none q' hn)]; exact q'
  tbls:=fun b ps q=>by
    obtain ⟨m,q'⟩:=u.tbls b ps q
    exact ⟨m,by rw [upd_ne (ne_of_none q' hn)]; exact q'⟩
noncomputable abbrev lobj (its:List Value) (k:Nat):Obj:={ cls:=.type "list",data:=.seq its.toArray k }
theorem comp_block {X : Cx} {pins : List (Addr × Obj)} {σ : St} {H : Hp} {s : Shared} {N : List Str} {cap : List (Option Nat)} {scope : Scope} {elt target iter : Expr} {ifs : List Expr} {pos : Pos} {g : TG} {tc : TT} {te : TE} {J : It} {fp : List Addr} {it : Addr} {tn : Nat → Heap → Prop}
    {Q:Addr→Hp→Prop} {RR:Value→Addr→Result→Shared→Prop} {E:Value→Shared→Prop} (hc:X.calm = true) (S:CompScope X N cap scope) (I:Inv X pins σ H s) (T:Turn X.prog X.w X.K target J fp it tn) (st:tn 0 s.heap) (fo:∀ b ∈ fp,FpOk X pins H b)
    (hg:∀ C s₀ H₀,PG (cxComp X N scope C s₀ H₀ fp) target g) (ht:∀ C s₀ H₀,PTs (cxComp X N scope C s₀ H₀ fp) ifs tc) (he:∀ C s₀ H₀,PE (cxComp X N scope C s₀ H₀ fp) elt te)
    (h:Gath J cap g tc te Q σ H)
    (hRR:∀ D C s' H',Inv X pins σ H' s'→Q D H'→(∃ m,s'.heap.Ns C m)→H' C = none→X.s₀.heap.objs.size ≤ C→C ≠ X.env.locals→(∀ x c,X.env.cells.lookup x = some c→c ≠ C)→(∀ p ∈ X.pn ++ pins,p.1 ≠ C)→RR (.ref D) C (.ok .next) s') :
    wpAny (model X.prog X.w) X.A (newList []) (fun acc s₃=>wpAny (model X.prog X.w) X.A (newFunctionEnv scope X.env.globals (closOf X.env scope.names []) [] X.env.qual none .none (some X.env)) (fun cenv s₄ =>
      codeAny (model X.prog X.w) X.A (.compStart (.ListComp elt [⟨target,iter,ifs,0⟩] scope pos) 0 (.ref it) acc { cenv with scope:=relabel scope X.env }) (RR acc cenv.locals) s₄) E s₃) E s:=by
  have hfr:∀ a,s.heap.objs.size ≤ a→H a = none:=fun a ha=>I.hok.fresh ha
  obtain ⟨W,⟨m0,w0⟩,turn⟩:=h
  have fol:∀ b ∈ fp,b < s.heap.objs.size:=fun b hb=>by
    obtain ⟨o,ho,_⟩:=T.obj 0 _ st b hb
    exact Heap.lt_size ho
  have clt:∀ x c,X.env.cells.lookup x = some c→c < s.heap.objs.size:=fun x c e=>by
    obtain ⟨v,q⟩:=I.cell x c e
    exact q.lt
  refine wpAny_newObj_type (wpAny_newFunctionEnv S.nocell (by intro y hy; simp at hy) (fun h₁ hns₁ hsb₁=>?_) S.kind)
  dsimp only at hns₁ hsb₁ ⊢
  generalize hD:s.heap.objs.size = D at *
  generalize hH3:s.heap.push { cls:=.type "list",data:=.seq ([]:List Value).toArray } = H3 at *
  have hC:H3.objs.size = D + 1:=by rw [← hH3,Heap.size_push,hD]
  have keep3:∀ b o,s.heap.get? b = some o→H3.get? b = some o:=fun b o e=>by rw [← hH3]; exact Heap.get?_push_of_some _ e
  have keep4:∀ b o,H3.get? b = some o→h₁.get? b = some o:=fun b o e=>hsb₁.extBut b o (Nat.ne_of_lt (Heap.lt_size e)) (Heap.get?_push_of_some _ e)
  have D4:h₁.get? D = some (lobj [] 0):=keep4 _ _ (by rw [← hH3,← hD]; exact Heap.get?_push_size _ rfl)
  generalize hCC:H3.objs.size = C at *
  have hDC:D < C:=by lia
  have hDC':D ≤ C:=Nat.le_of_lt hDC
  have hL:X.env.locals < D:=by rw [← hD]; exact I.lt
  have I4:Inv (cxComp X N scope C s H fp) [] (capt cap σ) H { s with heap:=h₁,toks:=s.toks + ([]:List (Str × Value)).length } :=
    inv_comp S I (by lia) hns₁ (fun b o e=>keep4 b o (keep3 b o e)) fun b hb=>⟨by rw [hD]; exact fol b hb,fo b hb⟩
  have fp4:∀ {H':Hp} {ob:Obj},(∀ b ∈ fp,H' b = none)→∀ b ∈ fp,FpOk (cxComp X N scope C s H fp) [(D,ob)] H' b:=fun {H' ob} hn b hb=>by
    obtain ⟨f0,f1,f2,f3,f4,f5⟩:=fo b hb
    have hlt:=fol b hb
    refine ⟨hn b hb,?_,fun z=>?_,.inl hb,fun x c e=>f4 x c (closOf_ok (fun n c e=>by simp at e) x c e),fun p hp=>?_⟩
    · exact Nat.ne_of_lt (Nat.lt_of_lt_of_le hlt hDC')
    · rcases List.mem_cons.mp (I.stkSub b z) with e | e
      · exact f1 e
      · exact f2 e
    · have hp':p ∈ [(D,ob)]:=hp
      rw [List.mem_singleton.mp hp']
      exact Nat.ne_of_gt hlt
  have st4:tn 0 h₁:=T.keep _ _ _ st fun b hb o e=>keep4 b o (keep3 b o e)
  have nfs:D ∉ (cxComp X N scope C s H fp).fs:=fun z=>by
    rcases List.mem_cons.mp (I.stkSub D z) with e | e
    · exact Nat.ne_of_gt hL e
    · exact I.nofs (Nat.le_of_eq hD) e
  have pinD:∀ {σ':St} {H':Hp} {s':Shared} {ob:Obj},Inv (cxComp X N scope C s H fp) [] σ' H' s'→H' D = none→s'.heap.get? D = some ob→(∀ v,ob.data ≠ .cell v)→Inv (cxComp X N scope C s H fp) [(D,ob)] σ' H' s':=fun {σ' H' s' ob} J hn e nc =>
    J.pins_of fun p hp=>by
      rw [List.mem_singleton.mp hp]
      exact ⟨e,hn,Nat.ne_of_lt hDC,nfs,nc⟩
  have loop : ∀ s₄ : Shared, s₄ = { s with heap := h₁, toks := s.toks + ([] : List (Str × Value)).length } →
      codeAny (model X.prog X.w) X.A (.compLoop (.ListComp elt [⟨target,iter,ifs,0⟩] scope pos) 0 (.ref it) (.ref D) (compEnvC scope (closOf X.env scope.names []) C X.env)) (RR (.ref D) C) s₄:=by
    rintro s₄ rfl
    refine comp_loop (fun n s'=>∃ i ys its k σ' H',Inv (cxComp X N scope C s H fp) [(D,lobj its k)] σ' H' s'∧Vals ys its∧tn i s'.heap∧(∀ b ∈ fp,H' b = none)∧W i n ys σ' H') ?_ m0
      ⟨0,[],[],0,_,_,pinD I4 (hfr D (Nat.le_refl _)) D4 (fun v z=>by cases z),.nil,st4,fun b hb=>(fo b hb).1,w0⟩
    rintro n s5 ⟨i,ys,its,k,σ5,H5,I5,rv5,st5,fr5,w5⟩
    have hpin:=I5.pin (D,lobj its k) (List.mem_append_right _ List.mem_cons_self)
    rcases turn i n ys σ5 H5 w5 with ⟨stop,hz,q⟩ | ⟨go,hz,NN,hNN,step⟩
    · refine thn (T.done (cxComp X N scope C s H fp) rfl rfl rfl hc i _ s5 σ5 H5 _ I5 (fp4 fr5) st5 stop) fun r s6 ⟨hr,I6⟩=>?_
      subst hr
      have p6:=I6.pin (D,lobj its k) (List.mem_append_right _ List.mem_cons_self)
      have I7:Inv X pins σ (upd H5 D (.lst ys)) s6:=I.call' (ch:=fp) I6.os (I6.base.add (Nat.le_of_eq hD) p6.2.1) (I6.hok.add p6.2.1 ⟨hz,its,k,rv5,p6.1⟩) I6.bare fun b hb=>by
        obtain ⟨f0,f1,f2,f3,f4,f5⟩:=fo b hb
        exact ⟨f3,f1,f4,f5⟩
      obtain ⟨m6,hn6,_⟩:=I6.loc
      refine hRR _ C s6 _ I7 (q D p6.2.1) ⟨m6,hn6⟩ ?_ ?_ ?_ ?_ ?_
      · rw [upd_ne (Nat.ne_of_gt hDC)]; exact I6.free
      · exact Nat.le_trans (by rw [← hD]; exact I.sz) hDC'
      · exact Nat.ne_of_gt (Nat.lt_of_lt_of_le hL hDC')
      · intro x c e z
        exact Nat.ne_of_lt (Nat.lt_of_lt_of_le (clt x c e) hDC') z
      · intro p hp z
        have h6:=Heap.lt_size (I.pin p hp).1
        rw [hD] at h6
        exact Nat.ne_of_lt (Nat.lt_of_lt_of_le h6 hDC') z
    · refine thn (T.item (cxComp X N scope C s H fp) rfl rfl rfl hc i _ s5 σ5 H5 _ I5 (fp4 fr5) st5 go) fun r s6 ⟨u,hr,h6⟩=>?_
      subst hr
      refine thn h6 fun _ s7 ⟨x,H7,I7,r7,y7,st7,fr7⟩=>?_
      have I7':=I7.pinned (fp4 fr7) (T.obj _ _ st7)
      have kept:∀ {σ8:St} {H8:Hp} {s8:Shared},Inv (cxComp X N scope C s H fp) ([(D,lobj its k)] ++ pinsAt fp s7.heap) σ8 H8 s8→tn (i + 1) s8.heap∧∀ b ∈ fp,H8 b = none:=fun {σ8 H8 s8} I8 =>
        ⟨T.keep _ _ _ st7 fun b hb o e=>(I8.pin (b,o) (List.mem_append_right _ (List.mem_append_right _ (mem_pinsAt hb e)))).1,fun b hb=>by
          obtain ⟨o,e,d⟩:=T.obj _ _ st7 b hb
          exact (I8.pin (b,o) (List.mem_append_right _ (List.mem_append_right _ (mem_pinsAt hb e)))).2.1⟩
      refine wpAny_mono (hg C s H _ s7 σ5 H7 x u _ I7' r7 (step x H7 y7)) (fun _ s8 ⟨σ8,H8,I8,q8⟩=>?_) fun _ _ f=>f.elim
      refine wpAny_mono (ht C s H _ s8 σ8 H8 _ I8 q8) (fun ok s9 ⟨H9,I9,q9⟩=>?_) fun _ _ f=>f.elim
      cases ok with
      | false =>
        rw [if_neg Bool.false_ne_true] at q9 ⊢
        obtain ⟨m',hm,w9⟩:=hNN _ _ _ q9
        exact ⟨m',hm,i + 1,ys,its,k,σ8,H9,I9.unpinned,rv5,(kept I9).1,(kept I9).2,w9⟩
      | true =>
        rw [if_pos rfl] at q9 ⊢
        refine wpAny_mono (he C s H _ s9 σ8 H9 _ I9 q9) (fun y s10 ⟨yv,H10,I10,r10,n10⟩=>?_) fun _ _ f=>f.elim
        obtain ⟨m',hm,w10⟩:=hNN _ _ _ n10
        obtain ⟨k10,f10⟩:=kept I10
        have p10:=I10.pin (D,lobj its k) (List.mem_append_right _ (List.mem_append_left _ List.mem_cons_self))
        have hlen:=rv5.length
        refine wpAny_list_append_plain (hsz:=by rw [List.size_toArray]; lia) (show s10.heap.PlainList D its.toArray from ⟨k,p10.1⟩) fun h11 hl11 hsb11=>?_
        obtain ⟨k11,e11⟩:=hl11
        have J0:Inv (cxComp X N scope C s H fp) [] σ8 H10 s10:=I10.pins_of fun p hp=>nomatch hp
        have J1:Inv (cxComp X N scope C s H fp) [] σ8 H10 { s10 with heap:=h11 }:=J0.turned (t':=s10.toks) (fun b o hb e=>hsb11.extBut b o hb e) p10.2.1 (Nat.ne_of_lt hDC) (.inr (Nat.le_of_eq hD)) (fun x c e z=>Nat.ne_of_lt (clt x c (closOf_ok (fun n c e=>by simp at e) x c e)) z) fun p hp=>nomatch (show p ∈ ([]:List (Addr × Obj)) from hp)
        have e12:h11.get? D = some (lobj (its ++ [y]) k11):=by rw [e11]; simp [lobj]
        refine ⟨m',hm,i + 1,ys ++ [yv],its ++ [y],k11,σ8,H10,pinD J1 p10.2.1 e12 (fun v z=>by cases z),rv5.append (.cons r10 .nil),?_,f10,w10⟩
        exact T.keep _ _ _ k10 fun b hb o e=>hsb11.extBut b o (Nat.ne_of_lt (fol b hb)) e
  refine codeAny_compStart_list (loop _ ?_) (T.self X.A 0 _ _ _ ?_ (loop _ ?_))
  · rfl
  · exact st4
  · rfl
theorem pe_comp {X : Cx} {N : List Str} {cap : List (Option Nat)} {scope : Scope} {elt target iter : Expr} {ifs : List Expr} {pos : Pos} {wi : TI} {g : TG} {tc : TT} {te : TE} (hc : X.calm = true) (S : CompScope X N cap scope) (hi : PI X target iter wi)
    (hg : ∀ C s₀ H₀ ex, PG (cxComp X N scope C s₀ H₀ ex) target g) (ht : ∀ C s₀ H₀ ex, PTs (cxComp X N scope C s₀ H₀ ex) ifs tc) (he : ∀ C s₀ H₀ ex, PE (cxComp X N scope C s₀ H₀ ex) elt te)
    (hs : ∀ x, foldedSetIterable iter X.env x = pure x := by intro _; rfl) :
    PE X (.ListComp elt [⟨target, iter, ifs, 0⟩] scope pos) (fun σ H Q => tComp cap wi g tc te (fun D H' => Q (.ref D) H') σ H) := by
  intro pins s σ H Q I h
  have hclos : closureFor scope X.env = pure (closOf X.env scope.names []) := closureFor_of fun y hy hf => I.ok.has y.1 (S.fre y hy hf)
  refine wpAny_comprehension_free (use := none) rfl hs hclos S.kind S.loc (thn (hi pins s σ H _ I h) fun xv s1 h1 => thn h1 fun itv s2 h2 => ?_)
  obtain ⟨it, fp, tn, J, H2, e, I2, T, st2, f2, q2⟩ := h2
  subst e
  refine comp_block (RR := fun acc C => compPost (model X.prog X.w) X.A X.xe none (EP X pins σ Q) acc C) hc S I2 T st2 f2 (fun C s₀ H₀ => hg C s₀ H₀ fp) (fun C s₀ H₀ => ht C s₀ H₀ fp) (fun C s₀ H₀ => he C s₀ H₀ fp) q2 ?_
  intro D C s' H' I' q ⟨m, hn⟩ hf hsz hL hcell hpin
  refine ⟨m, hn, fun h' hsb => ⟨.ref D, H', ?_, rfl, q⟩⟩
  exact I'.turned (t' := s'.toks) (fun b o hb e => hsb.extBut b o hb e) hf hL (.inr hsz) hcell hpin
theorem ps_comp {X : Cx} {N : List Str} {cap : List (Option Nat)} {scope : Scope} {elt target iter : Expr} {ifs : List Expr} {pos pos' spos : Pos} {wi : TI} {g : TG} {tc : TT} {te : TE} {i : Nat} {x : Str} (hc : X.calm = true) (S : CompScope X N cap scope) (hi : PI X target iter wi)
    (hg : ∀ C s₀ H₀ ex, PG (cxComp X N scope C s₀ H₀ ex) target g) (ht : ∀ C s₀ H₀ ex, PTs (cxComp X N scope C s₀ H₀ ex) ifs tc) (he : ∀ C s₀ H₀ ex, PE (cxComp X N scope C s₀ H₀ ex) elt te)
    (hN : X.N.Nodup) (hix : X.N[i]? = some x) (hx : X.env.scope.names.lookup x = some .local) (hsw : swapsWith (.ListComp elt [⟨target, iter, ifs, 0⟩] scope pos) (some (.Name x pos')) spos.line X.env = pure true := by rfl)
    (hs : ∀ x, foldedSetIterable iter X.env x = pure x := by intro _; rfl) :
    PS X (.Assign [.Name x pos'] (.ListComp elt [⟨target, iter, ifs, 0⟩] scope pos) spos) (fun D σ H => tComp cap wi g tc te (fun d H' => D.nx (σ.set i (some (.ref d))) H') σ H) := by
  intro pins s σ H D I h
  have hclos : closureFor scope X.env = pure (closOf X.env scope.names []) := closureFor_of fun y hy hf => I.ok.has y.1 (S.fre y hy hf)
  rw [exec_Assign_Name_used _ _ _ _ hsw]
  refine wpAny_bind (wpAny_standAt (wpAny_bind ?_))
  refine wpAny_bind (wpAny_mono (wpAny_comprehension_free (use := some (assign (.Name x pos') X.env)) (Q := fun _ s' => SP X pins D .next s') rfl hs hclos S.kind S.loc
    (thn (hi pins s σ H _ I h) fun xv s1 h1 => thn h1 fun itv s2 h2 => ?_)) (fun _ s' hq => wpAny_pure (wpAny_pure hq)) fun _ _ e => e)
  obtain ⟨it, fp, tn, J, H2, e, I2, T, st2, f2, q2⟩ := h2
  subst e
  refine comp_block (RR := fun acc C => compPost (model X.prog X.w) X.A X.xe (some (assign (.Name x pos') X.env)) (fun _ s' => SP X pins D .next s') acc C) hc S I2 T st2 f2 (fun C s₀ H₀ => hg C s₀ H₀ fp) (fun C s₀ H₀ => ht C s₀ H₀ fp) (fun C s₀ H₀ => he C s₀ H₀ fp) q2 ?_
  intro d C s' H' I' q ⟨m, hn⟩ hf hsz hL hcell hpin
  show wpAny _ X.A (assign (.Name x pos') X.env (.ref d)) _ _ s'
  refine wpAny_assign_Name (store_ok2 I' hN hix (.inl hx) (show RelV (.ref d) (.ref d) from rfl) (fun s'' I'' ⟨a, hsb, ha⟩ => ?_) (.inr hx))
  have hCa : C ≠ a := by
    rcases ha with z | z
    · rw [z]; exact hL
    · exact fun w => hcell x a z w.symm
  refine ⟨m, hn.sameBut hsb hCa, fun h' hsb' => ⟨_, H', ?_, q⟩⟩
  exact I''.turned (t' := s''.toks) (fun b o hb e => hsb'.extBut b o hb e) hf hL (.inr hsz) hcell hpin
end L2
namespace L2
open PySem PySem.Spec PyProof.Rows
noncomputable def Its (x:Str):It:=⟨fun i _=>i < x.cps.size,fun i H v H'=>H' = H∧∃ c,x.cps[i]? = some c∧v = .str ⟨#[c]⟩,fun i _=>i = x.cps.size⟩
theorem turn_str {P : Program} {w : World} {K : PySem.W.Frag} {tg : Expr} (ty : String) (it : Addr) (x : Str) (t : Tok)
    (hw:∀ A':Around,A'.handled = none→Walks P w A' it [it] [it] x.cps.size (SignAt x) (fun i h=>h.IsStrIter it ty x t i))
    (hself:∀ (A:Around) (i:Nat) (s:Shared) (Q:Value→Shared→Prop) (E:Value→Shared→Prop),s.heap.IsStrIter it ty x t i→Q (.ref it) s→wpAny (model P w) A (pyIter (.ref it)) Q E s)
    (hn:["enumerate","zip","dict_itemiterator","dict_reverseitemiterator","odict_iterator","itertools.zip_longest","itertools.pairwise"].contains ty = false) :
    Turn P w K tg (Its x) [it] it (fun i h=>h.IsStrIter it ty x t i) where
  mem:=by simp
  obj:=fun i h st b hb=>by
    have e:b = it:=by simpa using hb
    subst e
    obtain ⟨o,e,c,d⟩:=st
    exact ⟨o,e,fun v z=>by rw [d] at z; cases z⟩
  keep:=fun i h h' st k=>let ⟨o,e,r⟩:=st; ⟨o,k it (by simp) o e,r⟩
  item:=by
    intro X hP hw' hK hc i pins s σ H E I hf st hg
    subst hP hw' hK
    obtain ⟨f0,f1,f2,f3,f4,f5⟩:=hf it (by simp)
    refine (hw X.A (I.ok.hd hc)).item i s _ _ hg st fun v h' tk hv st' kk=>?_
    obtain ⟨c,u,hc',rfl⟩:=hv
    have I1:Inv X pins σ H { s with heap:=h',toks:=tk }:=I.turned (fun b o hb e=>kk b o (by simpa using hb) e) f0 f1 f3 f4 f5
    obtain ⟨o,e,cc,d⟩:=id st'
    exact ⟨_,rfl,go_of (s:={ s with heap:=h',toks:=tk }) e cc d hn ⟨.str ⟨#[c]⟩,H,I1,⟨u,rfl⟩,⟨rfl,c,hc',rfl⟩,st',fun b hb=>(hf b hb).1⟩⟩
  done:=by
    intro X hP hw' hK hc i pins s σ H E I hf st hg
    subst hP hw' hK
    obtain ⟨f0,f1,f2,f3,f4,f5⟩:=hf it (by simp)
    have hg':i = x.cps.size:=hg
    subst hg'
    exact (hw X.A (I.ok.hd hc)).done s _ _ st fun h' tk kk=>⟨rfl,I.turned (fun b o hb e=>kk b o (by simpa using hb) e) f0 f1 f3 f4 f5⟩
  self:=hself
section
variable {X:Cx}
theorem op_le_str:OpR X (compareOp .LtE) (fun x y H Q=>∃ i j,x = .str i∧y = .str j∧Q (.bl (!decide (j.cps.toList < i.cps.toList))) H):=by
  intro pins s σ H x y v u Q I r1 r2 h
  obtain ⟨i,j,rfl,rfl,q⟩:=h
  obtain ⟨t,rfl⟩:=r1
  obtain ⟨t',rfl⟩:=r2
  exact PySem.P.le_str ⟨.bl _,H,I,rfl,q⟩
theorem op_mul_str:OpR X (binaryOp .Mult) (fun x y H Q=>∃ z n,x = .str z∧y = .int n∧MulOk z n∧Q (.str (Txt.mul z n)) H):=by
  intro pins s σ H x y v u Q I r1 r2 h
  obtain ⟨z,n,rfl,rfl,ok,q⟩:=h
  obtain ⟨t,rfl⟩:=r1
  obtain ⟨t',rfl⟩:=r2
  exact SB.mul ok fun t' k=>⟨.str _,H,I.tok k,⟨t',rfl⟩,q⟩
theorem strs_vals:∀ (l:List (Str × Tok)),Vals (l.map fun p=>V.str p.1) (strValues l)
  | []=>.nil
  | (x,t) :: l=>.cons ⟨t,rfl⟩ (strs_vals l)
inductive rSplit (x : V) (vs : List V) (H : Hp) (Q : VK) : Prop | mk (z : _) (y : _) : (x = .str z) → (vs = [.str y]) → (y.length ≠ 0) → (z.length < sizeLine) → ((Txt.split z y).length ≤ sizeLine) → (∀ l,H l = none→Q (.ref l) (upd H l (.lst ((Txt.split z y).map V.str)))) → rSplit x vs H Q
theorem split_laid {pins : List (Addr × Obj)} {σ : St} {H : Hp} {s : Shared} {l : List (Str × Tok)} {ts : List Str} {tk : Nat} {Q : VK} (I : Inv X pins σ H s) (e : l.map (·.1) = ts) (hz : ts.length ≤ sizeLine) (q : ∀ l, H l = none → Q (.ref l) (upd H l (.lst (ts.map V.str)))) :
    EP X pins σ Q (.ref s.heap.objs.size) { s with heap:=s.heap.push { cls:=.type "list",data:=.seq (strValues l).toArray },toks:=tk }:=by
  subst e
  refine ⟨.ref s.heap.objs.size,_,I.laid (o:=.lst ((l.map (·.1)).map V.str)) (fun b ob q=>Heap.get?_push_of_some _ q) (Nat.le_refl _) ?_,rfl,q _ (I.hok.fresh (Nat.le_refl _))⟩
  refine ⟨by rw [List.length_map]; exact hz,strValues l,0,?_,Heap.get?_push_size _ rfl⟩
  have:=strs_vals l
  rw [List.map_map]
  exact this
open Builtin Builtin.Str in
theorem mt_split:MtR X "str.split" rSplit:=by
  intro pins s σ H x xs v us Q I rx rs h
  obtain ⟨z,y,rfl,rfl,hy0,hz,hl,q⟩:=h
  obtain ⟨t,rfl⟩:=rx
  obtain ⟨uu,rfl,ru⟩:=vals1 rs
  obtain ⟨u,rfl⟩:=ru
  have hy:(y.length == 0) = false:=by simpa using hy0
  have hz':z.length ≤ sizeLine:=Nat.le_of_lt hz
  unfold Txt.split at hl q
  cases h1:(decide (z.length < y.length) || decide (strKind z < strKind y))
  · rw [h1] at hl q
    simp only [Bool.false_eq_true,if_false] at hl q
    cases hf:(occurrences z y 0 z.length (z.length + 1)).isEmpty
    · rw [hf] at hl q
      simp only [Bool.false_eq_true,if_false] at hl q
      refine call_meets F.slot_str_split (typeIs_str _ _ _) F.entry_str_split (F.args_str_split_2 _ _) (meets_str_split_sep z y t u h1 hy hf hz' hl) ?_
      show wants _ _ _ { s with toks:=_,heap:=s.heap.push { cls:=.type "list",data:=.seq (strsFrom s.toks (partsBetween z (occurrences z y 0 z.length (z.length + 1)) y.length)).toArray } }
      rw [strsFrom_eq]
      exact split_laid (l:=numbered s.toks _) I (numbered_texts _ _) hl q
    · rw [hf] at hl q
      simp only [if_true] at hl q
      exact call_meets F.slot_str_split (typeIs_str _ _ _) F.entry_str_split (F.args_str_split_2 _ _) (meets_str_split_not_found z y t u h1 hy hf)
        (split_laid (l:=[(z,t)]) (tk:=s.toks) I rfl hl q)
  · rw [h1] at hl q
    simp only [if_true] at hl q
    exact call_meets F.slot_str_split (typeIs_str _ _ _) F.entry_str_split (F.args_str_split_2 _ _) (meets_str_split_cannot_occur z y t u h1)
      (split_laid (l:=[(z,t)]) (tk:=s.toks) I rfl hl q)
inductive rSlS (x : V) (lo : Option Int) (hi : Option Int) (H : Hp) (Q : VK) : Prop | mk (z : _) : (x = .str z) → (z.length ≤ sizeLine) → (Q (.str (Txt.slice z lo hi)) H) → rSlS x lo hi H Q
theorem sl_str:SlR X rSlS:=by
  intro pins s σ H x v vl vu lo hi sl Q I rx hs pl pu h
  obtain ⟨z,rfl,hz,q⟩:=h
  obtain ⟨t,rfl⟩:=rx
  refine ⟨"str",_,F.slot_str_getitem.lookup,typeIs_str _ _ _,?_⟩
  have fin:∀ t' k,EP X pins σ Q (.str (Txt.slice z lo hi) t') { s with toks:=k }:=fun t' k=>⟨.str _,H,I.tok k,⟨t',rfl⟩,q⟩
  cases pl with
  | none =>
    cases pu with
    | none=>exact wpAny_getItem_str_slice (l:=none) (u:=none) (st:=none) hs rfl (post_val_or_str ⟨Nat.le_trans (Txt.slice_le z _ _) hz,fin⟩)
    | int j uj=>exact wpAny_getItem_str_slice (l:=none) (u:=some (j,uj)) (st:=none) hs rfl (post_val_or_str ⟨Nat.le_trans (Txt.slice_le z _ _) hz,fin⟩)
  | int i ui =>
    cases pu with
    | none=>exact wpAny_getItem_str_slice (l:=some (i,ui)) (u:=none) (st:=none) hs rfl (post_val_or_str ⟨Nat.le_trans (Txt.slice_le z _ _) hz,fin⟩)
    | int j uj=>exact wpAny_getItem_str_slice (l:=some (i,ui)) (u:=some (j,uj)) (st:=none) hs rfl (post_val_or_str ⟨Nat.le_trans (Txt.slice_le z _ _) hz,fin⟩)
end
mutual
inductive DatV (K:PySem.W.Frag) (H:Hp):V→PyData→Prop
  | none:DatV K H .non .none
  | bool (b:Bool):DatV K H (.bl b) (.bool b)
  | int (i:Int):DatV K H (.int i) (.int i)
  | str (x:Str):DatV K H (.str x) (.str x)
  | list {a:Addr} {xs:List V} {ds:List PyData}:SqL K H a xs→DatVs K H xs ds→DatV K H (.ref a) (.list ds)
  | tuple {a:Addr} {xs:List V} {ds:List PyData}:SqT K H a xs→DatVs K H xs ds→DatV K H (.ref a) (.tuple ds)
inductive DatVs (K:PySem.W.Frag) (H:Hp):List V→List PyData→Prop
  | nil:DatVs K H [] []
  | cons {x:V} {xs:List V} {d:PyData} {ds:List PyData}:DatV K H x d→DatVs K H xs ds→DatVs K H (x :: xs) (d :: ds)
end
theorem Same.seqT {K:PySem.W.Frag} {H H':Hp} {a:Addr} {xs:List V} (e:Same H H') (h:SqT K H a xs):SqT K H' a xs:=by
  rcases h with (h | ⟨o,h⟩) | h
  · exact .inl (.inl (e _ _ h))
  · exact .inl (.inr ⟨o,e _ _ h⟩)
  · exact .inr h
mutual
theorem DatV.same {K:PySem.W.Frag} {H H':Hp} (e:Same H H'):∀ {x:V} {d:PyData},DatV K H x d→DatV K H' x d
  | _,_,.none=>.none
  | _,_,.bool b=>.bool b
  | _,_,.int i=>.int i
  | _,_,.str x=>.str x
  | _,_,.list h hs=>.list (e.seq h) (DatVs.same e hs)
  | _,_,.tuple h hs=>.tuple (e.seqT h) (DatVs.same e hs)
theorem DatVs.same {K:PySem.W.Frag} {H H':Hp} (e:Same H H'):∀ {xs:List V} {ds:List PyData},DatVs K H xs ds→DatVs K H' xs ds
  | _,_,.nil=>.nil
  | _,_,.cons h hs=>.cons (DatV.same e h) (DatVs.same e hs)
end
mutual
theorem DatV.reads {X:Cx} {pins:List (Addr × Obj)} {σ:St} {H:Hp} {s:Shared} (I:Inv X pins σ H s):∀ {x:V} {d:PyData} {u:Value},DatV X.K H x d→RelV x u→∃ as,Reads s.heap u d as
  | _,_,_,.none,r=>by cases r; exact ⟨_,.none⟩
  | _,_,_,.bool b,r=>by cases r; exact ⟨_,.bool b⟩
  | _,_,_,.int i,r=>by obtain ⟨t,rfl⟩:=r; exact ⟨_,.int i t⟩
  | _,_,_,.str x,r=>by obtain ⟨t,rfl⟩:=r; exact ⟨_,.str x t⟩
  | _,_,_,.list h hs,r=>by
    cases r
    obtain ⟨its,rv,⟨o,n,h1,h2,h3,h4⟩,hz⟩:=I.list h
    obtain ⟨as,ra⟩:=DatVs.reads I hs rv
    exact ⟨_,.list h1 h2 h4 ra⟩
  | _,_,_,.tuple h hs,r=>by
    cases r
    obtain ⟨its,rv,⟨o,h1,h2,n,h4⟩,hz⟩:=I.tuple h
    obtain ⟨as,ra⟩:=DatVs.reads I hs rv
    exact ⟨_,.tuple h1 h2 h4 ra⟩
theorem DatVs.reads {X:Cx} {pins:List (Addr × Obj)} {σ:St} {H:Hp} {s:Shared} (I:Inv X pins σ H s):∀ {xs:List V} {ds:List PyData} {us:List Value},DatVs X.K H xs ds→Vals xs us→∃ as,ReadsAll s.heap us ds as
  | _,_,_,.nil,r=>by cases r; exact ⟨_,.nil⟩
  | _,_,_,.cons h hs,r=>by
    cases r with
    | cons r1 r2 =>
      obtain ⟨as,ra⟩:=DatV.reads I h r1
      obtain ⟨bs,rb⟩:=DatVs.reads I hs r2
      exact ⟨_,.cons ra rb⟩
end
theorem DatVs.length {K:PySem.W.Frag} {H:Hp}:∀ {xs:List V} {ds:List PyData},DatVs K H xs ds→xs.length = ds.length
  | _,_,.nil=>rfl
  | _,_,.cons _ hs=>by rw [List.length_cons,List.length_cons,DatVs.length hs]
theorem DatVs.get {K:PySem.W.Frag} {H:Hp}:∀ {xs:List V} {ds:List PyData} {i:Nat} {x:V},DatVs K H xs ds→xs[i]? = some x→∃ d,ds[i]? = some d∧DatV K H x d
  | _,_,_,_,.nil,e=>by simp at e
  | _,_,0,_,.cons h _,e=>by simp at e; subst e; exact ⟨_,rfl,h⟩
  | _,_,i + 1,x,.cons _ hs,e=>by
    obtain ⟨d,h1,h2⟩:=DatVs.get (i:=i) (x:=x) hs (by simpa using e)
    exact ⟨d,by simpa using h1,h2⟩
theorem DatVs.snoc {K:PySem.W.Frag} {H:Hp} {x:V} {d:PyData} (h:DatV K H x d):∀ {xs:List V} {ds:List PyData},DatVs K H xs ds→DatVs K H (xs ++ [x]) (ds ++ [d])
  | _,_,.nil=>.cons h .nil
  | _,_,.cons h' hs=>.cons h' (DatVs.snoc h hs)
inductive rEqD (K:PySem.W.Frag) (x : V) (y : V) (H : Hp) (Q : VK) : Prop | mk (da : _) (db : _) : DatV K H x da → DatV K H y db → (da.canLay0 = true) → (db.canLay0 = true) → (min da.depth db.depth ≤ 60) → (Q (.bl (PyData.eqv da db)) H) → rEqD K x y H Q
inductive rNeD (K:PySem.W.Frag) (x : V) (y : V) (H : Hp) (Q : VK) : Prop | mk (da : _) (db : _) : DatV K H x da → DatV K H y db → (da.canLay0 = true) → (db.canLay0 = true) → (min da.depth db.depth ≤ 60) → (Q (.bl (!PyData.eqv da db)) H) → rNeD K x y H Q
theorem op_eqD {X:Cx} (hu:X.A.units + 64 < cLine):OpR X (compareOp .Eq) (rEqD X.K):=by
  intro pins s σ H x y v u Q I rx ry h
  obtain ⟨da,db,h1,h2,l1,l2,hd,q⟩:=h
  obtain ⟨as,ra⟩:=h1.reads I rx
  obtain ⟨bs,rb⟩:=h2.reads I ry
  exact SeqAt.compareEq_reads ra rb l1 l2 (by lia) ⟨.bl _,H,I,rfl,q⟩
theorem op_neD {X:Cx} (hu:X.A.units + 64 < cLine):OpR X (compareOp .NotEq) (rNeD X.K):=by
  intro pins s σ H x y v u Q I rx ry h
  obtain ⟨da,db,h1,h2,l1,l2,hd,q⟩:=h
  obtain ⟨as,ra⟩:=h1.reads I rx
  obtain ⟨bs,rb⟩:=h2.reads I ry
  exact SeqAt.compareNe_reads ra rb l1 l2 (by lia) ⟨.bl _,H,I,rfl,q⟩
end L2
namespace L2
open PySem PySem.Spec PyProof.Rows
structure KTab (K:PySem.W.Frag) (w:World) (a:Addr) (kvs:List (Str × V)):Prop where
  ex:∃ es n,K.lookup a = some ⟨.type "dict",none,.dict es n,#[]⟩∧PySem.W.KeysLit w.params es.toList∧Paired (fun (p:Str × V) (e:DictEntry)=>(∃ t,e.key = .str p.1 t)∧RelV p.2 e.val) kvs es.toList
  lo:(a == sysModules) = false
theorem findBy_rel {kvs:List (Str × V)} {es:List DictEntry} (r:Paired (fun (p:Str × V) (e:DictEntry)=>(∃ t,e.key = .str p.1 t)∧RelV p.2 e.val) kvs es) (x:Str):RelO (kvs.lookup x) (findBy Value.isStrOf es.toArray x):=by
  unfold findBy
  rw [List.find?_toArray]
  induction r with
  | nil=>exact True.intro
  | @cons p e ps qs h t ih =>
    obtain ⟨⟨tk,hk⟩,hv⟩:=h
    rw [List.lookup_cons,List.find?_cons,hk]
    by_cases q:x = p.1
    · subst q
      simp only [beq_self_eq_true]
      have:Value.isStrOf p.1 (.str p.1 tk) = true:=by simp [Value.isStrOf]
      rw [this]
      exact hv
    · have h1:(x == p.1) = false:=by simpa using q
      have h2:Value.isStrOf x (.str p.1 tk) = false:=by
        simp only [Value.isStrOf]
        simpa using fun z=>q z.symm
      rw [h1,h2]
      exact ih
theorem KTab.map {X : Cx} {pins : List (Addr × Obj)} {σ : St} {H : Hp} {s : Shared} {a : Addr} {kvs : List (Str × V)} (T : KTab X.K X.w a kvs) (I : Inv X pins σ H s) :
    ∃ f : Str → Option Value, s.heap.MapOf (strKind X.prog X.w) a f ∧ ∀ x, RelO (kvs.lookup x) (f x) := by
  obtain ⟨es, n, hl, hk, r⟩ := T.ex
  refine ⟨_, PySem.W.mapOf_K (prog := X.prog) I.kIn hl hk, fun x => ?_⟩
  have := findBy_rel r x
  omega
section
variable {X:Cx} {o e f:Expr} {apos cpos pos:Pos} {td ty tx:TE}
theorem MapOf.dict {h:Heap} {P:Program} {w:World} {a:Addr} {f:Str→Option Value} (m:h.MapOf (strKind P w) a f):∀ b,Value.ref a = .ref b→∃ ob,h.get? b = some ob∧ob.dict = none:=fun b q=>by
  cases q
  obtain ⟨ob,_,_,h1,h2,_⟩:=m
  exact ⟨ob,h1,h2.2.1⟩
inductive rIxK (K:PySem.W.Frag) (w:World) (x : V) (y : V) (H : Hp) (Q : VK) : Prop | mk (a : _) (kvs : _) (k : _) (v : _) : (x = .ref a) → (y = .str k) → KTab K w a kvs → (kvs.lookup k = some v) → Q v H → rIxK K w x y H Q
theorem ix_ktab:IxR X (rIxK X.K X.w):=by
  intro value slice pins s σ H x y v u Q I rx ry h hs
  obtain ⟨a,kvs,k,z,rfl,rfl,T,hl,q⟩:=h
  cases rx
  obtain ⟨t,rfl⟩:=ry
  obtain ⟨f2,m2,r2⟩:=T.map I
  obtain ⟨w',hw,rw'⟩:=RelO.some_of (v:=z) (o:=f2 k) (by rw [← hl]; exact r2 k)
  exact tail_any m2.typeIs slot_dict_getitem.lookup (wpAny_getItem_of (strKind_is X.prog X.w k t) m2 hw ⟨z,H,I.tok _,rw',q⟩) hs
end
end L2
namespace L2
open PySem PySem.Spec PyProof.Rows
section
variable {X:Cx} {a b c e o:Expr} {ta tb tc te:TE} {pos p:Pos}
noncomputable def mVar (i:Nat):TE:=fun σ H Q=>match σ[i]? with
  | some (some v)=>Q v H
  | _=>False
theorem mVar_eq (i : Nat) : mVar i = tVar i := by
  funext σ H Q
  refine propext ⟨fun h => ?_, fun ⟨v, e, h⟩ => ?_⟩
  · unfold mVar at h
    split at h
    · exact ⟨_, ‹_›, h⟩
    simp_all
  · unfold mVar
    simp_all
theorem pn (i : Nat) {x : Str} {pos : Pos} (hN : X.N[i]? = some x := by rfl) (hv : Vis X.env.scope x := by first | exact Or.inl rfl | exact Or.inr (Or.inl rfl) | exact Or.inr (Or.inr rfl)) (hd : (x == ("__debug__" : Str)) = false := by decide)
    (hcd:(x == ("__classdict__":Str)) = false:=by decide):PE X (.Name x pos) (mVar i):=by
  rw [mVar_eq]
  exact pe_var hN hv hd hcd
noncomputable def mTest (t:TE):TT:=fun σ H Q=>t σ H fun x H'=>match x with
  | .bl k=>Q k H'
  | _=>False
theorem mTest_eq (t : TE) : mTest t = tTest t := by
  funext σ H Q
  unfold mTest tTest
  congr 1
  funext x H'
  refine propext ⟨fun h => ?_, fun ⟨k, e, h⟩ => ?_⟩
  · split at h
    · exact ⟨_, rfl, h⟩
    simp_all
  simp_all
theorem mTest_eqB (t:TE):mTest t = tB t:=by rw [mTest_eq]; rfl
theorem pt_cmpM {op:CmpOp} {r:R2} (ho:OpR X (compareOp op) r) (ha:PE X a ta) (hb:PE X b tb) (hm:behindInMarks op b = false:=by first | exact nomark _ | rfl):PT X (.Compare a [op] [b] pos) (mTest (tOp r ta tb)):=by
  rw [mTest_eq]
  exact pt_cmpR ho ha hb hm
theorem pt_chainM {op op' : CmpOp} {r r' : R2} (ho : OpR X (compareOp op) r) (ho' : OpR X (compareOp op') r') (ha : PE X a ta) (hb : PE X b tb) (hc : PE X c tc)
    (hm:lastMarks [op,op'] [b,c] = false:=by with_unfolding_all rfl):PT X (.Compare a [op,op'] [b,c] pos) (mTest (tChain r r' ta tb tc)):=by
  rw [mTest_eq]
  exact pt_chain ho ho' ha hb hc hm
theorem pt_valM {e:Expr} {t:TE} (h:PE X e t) (he:∀ whole,isTrue e X.env whole = (do let v ← whole; standAt e.pos; holding [v] (truthy v)):=by intro _; rfl):PT X e (mTest t):=by
  rw [mTest_eqB]
  exact pt_val h he
noncomputable def mTruth (K:PySem.W.Frag) (t:TE):TT:=fun σ H Q=>t σ H fun x H'=>∃ k,TruV K x H' k∧Q k H'
noncomputable def mAndV (ta tb:TE):TE:=fun σ H Q=>ta σ H fun x H1=>match x with
  | .bl c=>if c = true then tb σ H1 Q else Q (.bl false) H1
  | _=>False
noncomputable def mOrV (ta tb:TE):TE:=fun σ H Q=>ta σ H fun x H1=>match x with
  | .bl c=>if c = true then Q (.bl true) H1 else tb σ H1 Q
  | _=>False
noncomputable def mNotV (ta:TE):TE:=fun σ H Q=>ta σ H fun x H1=>match x with
  | .bl c=>Q (.bl (!c)) H1
  | _=>False
theorem mAndV_eq (ta tb : TE) : mAndV ta tb = tAndV ta tb := by
  funext σ H Q
  unfold mAndV tAndV
  congr 1
  funext x H'
  refine propext ⟨fun h => ?_, fun ⟨k, e, h⟩ => ?_⟩
  · split at h
    · exact ⟨_, rfl, h⟩
    simp_all
  simp_all
theorem mOrV_eq (ta tb : TE) : mOrV ta tb = tOrV ta tb := by
  funext σ H Q
  unfold mOrV tOrV
  congr 1
  funext x H'
  refine propext ⟨fun h => ?_, fun ⟨k, e, h⟩ => ?_⟩
  · split at h
    · exact ⟨_, rfl, h⟩
    simp_all
  simp_all
theorem mNotV_eq (ta : TE) : mNotV ta = tNotV ta := by
  funext σ H Q
  unfold mNotV tNotV
  congr 1
  funext x H'
  refine propext ⟨fun h => ?_, fun ⟨k, e, h⟩ => ?_⟩
  · split at h
    · exact ⟨_, rfl, h⟩
    simp_all
  simp_all
theorem pe_andM {rest:List Expr} (ha:PE X a ta) (hb:PE X (.BoolOp .And (b :: rest) pos) tb):PE X (.BoolOp .And (a :: b :: rest) pos) (mAndV ta tb):=by rw [mAndV_eq]; exact pe_and ha hb
theorem pe_orM {rest:List Expr} (ha:PE X a ta) (hb:PE X (.BoolOp .Or (b :: rest) pos) tb):PE X (.BoolOp .Or (a :: b :: rest) pos) (mOrV ta tb):=by rw [mOrV_eq]; exact pe_or ha hb
theorem pe_notM (ha:PE X a ta):PE X (.UnaryOp .Not a pos) (mNotV ta):=by rw [mNotV_eq]; exact pe_not ha
noncomputable def mChain (r r':R2) (ta tb tc:TE):TE:=fun σ H Q=>ta σ H fun x H1=>tb σ H1 fun y H2=>r x y H2 fun z H3=>match z with
  | .bl k=>if k = true then tc σ H3 fun w' H4=>r' y w' H4 Q else Q (.bl false) H3
  | _=>False
theorem mChain_eq (r r' : R2) (ta tb tc : TE) : mChain r r' ta tb tc = tChain r r' ta tb tc := by
  funext σ H Q
  unfold mChain tChain
  congr 1
  funext x H1
  congr 1
  funext y H2
  congr 1
  funext z H3
  refine propext ⟨fun h => ?_, fun ⟨k, e, h⟩ => ?_⟩
  · split at h
    · exact ⟨_, rfl, h⟩
    simp_all
  simp_all
noncomputable def gAdd (K:PySem.W.Frag):R2:=fun x y H Q=>match x,y with
  | .int i,.int j=>Q (.int (i + j)) H
  | .str i,.str j=>i.length + j.length ≤ sizeLine∧Q (.str (i ++ j)) H
  | .ref l, .ref b => (∃ xs zs, H l = some (.lst xs) ∧ H b = some (.lst zs) ∧ xs.length + zs.length ≤ sizeLine ∧ ∀ p, H p = none → Q (.ref p) (upd H p (.lst (xs ++ zs)))) ∨
      ∃ xs ys,SqT K H l xs∧SqT K H b ys∧xs ≠ []∧xs.length + ys.length ≤ sizeLine∧(ys = []→Q (.ref l) H)∧(ys ≠ []→∀ p,H p = none→Q (.ref p) (upd H p (.tup (xs ++ ys))))
  | _,_=>False
theorem og_add {K : PySem.W.Frag} (hK : X.K = K := by rfl) : OpR X (binaryOp .Add) (gAdd K) := by
  subst hK
  intro pins s σ H x y v u Q I rx ry h
  unfold gAdd at h
  split at h
  · exact op_add pins s σ H _ _ v u Q I rx ry ⟨_, _, rfl, rfl, h⟩
  · exact op_add_str pins s σ H _ _ v u Q I rx ry ⟨_, _, rfl, rfl, h.1, h.2⟩
  · rcases h with ⟨xs, zs, h1, h2, h3, h4⟩ | ⟨xs, ys, h1, h2, h3, h4, h5, h6⟩
    · exact op_cat pins s σ H _ _ v u Q I rx ry ⟨_, _, xs, zs, rfl, rfl, h1, h2, h3, h4⟩
    · exact op_catT pins s σ H _ _ v u Q I rx ry ⟨_, _, xs, ys, rfl, rfl, h1, h2, h3, h4, h5, h6⟩
  simp_all
noncomputable def gMinus:R2:=fun x y H Q=>match x,y with
  | .int i,.int j=>Q (.int (i - j)) H
  | _,_=>False
theorem og_sub : OpR X (binaryOp .Sub) gMinus := by
  intro pins s σ H x y v u Q I rx ry h
  unfold gMinus at h
  split at h
  · exact op_sub pins s σ H _ _ v u Q I rx ry ⟨_, _, rfl, rfl, h⟩
  simp_all
noncomputable def gMul:R2:=fun x y H Q=>match x,y with
  | .int i,.int j=>CMul i j∧Q (.int (i * j)) H
  | .str z,.int n=>MulOk z n∧Q (.str (Txt.mul z n)) H
  | .ref l,.int k=>∃ xs,H l = some (.lst xs)∧-(2 ^ 63) ≤ k∧k < 2 ^ 63∧xs.length * k.toNat ≤ sizeLine∧∀ p,H p = none→Q (.ref p) (upd H p (.lst (List.replicate k.toNat xs).flatten))
  | _,_=>False
theorem og_mul:OpR X (binaryOp .Mult) gMul:=by
  intro pins s σ H x y v u Q I rx ry h
  unfold gMul at h
  split at h
  · exact op_mul pins s σ H _ _ v u Q I rx ry ⟨_,_,rfl,rfl,h.1,h.2⟩
  · exact op_mul_str pins s σ H _ _ v u Q I rx ry ⟨_,_,rfl,rfl,h.1,h.2⟩
  · obtain ⟨xs,h1,h2,h3,h4,h5⟩:=h
    exact op_rep pins s σ H _ _ v u Q I rx ry ⟨_,_,xs,rfl,rfl,h1,h2,h3,h4,h5⟩
  · exact h.elim
noncomputable def gDiv:R2:=fun x y H Q=>match x,y with
  | .int i,.int j=>CDiv i j∧Q (.int (i / j)) H
  | _,_=>False
theorem og_div : OpR X (binaryOp .FloorDiv) gDiv := by
  intro pins s σ H x y v u Q I rx ry h
  unfold gDiv at h
  split at h
  · exact op_fdiv pins s σ H _ _ v u Q I rx ry ⟨_, _, rfl, rfl, h.1, h.2⟩
  simp_all
noncomputable def gMod:R2:=fun x y H Q=>match x,y with
  | .int i,.int j=>0 < j∧Q (.int (i % j)) H
  | _,_=>False
theorem og_mod : OpR X (binaryOp .Mod) gMod := by
  intro pins s σ H x y v u Q I rx ry h
  unfold gMod at h
  split at h
  · exact op_mod pins s σ H _ _ v u Q I rx ry ⟨_, _, rfl, rfl, h.1, h.2⟩
  simp_all
noncomputable def gEq (K:PySem.W.Frag) (neg:Bool):R2:=fun x y H Q=>match x,y with
  | .int i,.int j=>Q (.bl (neg ^^ decide (i = j))) H
  | .str i,.str j=>Q (.bl (neg ^^ decide (i = j))) H
  | .bl i,.bl j=>Q (.bl (neg ^^ decide (i = j))) H
  | .ref i,.ref j=>∃ da db,DatV K H (.ref i) da∧DatV K H (.ref j) db∧da.canLay0 = true∧db.canLay0 = true∧min da.depth db.depth ≤ 60∧Q (.bl (neg ^^ PyData.eqv da db)) H
  | _,_=>False
theorem og_eq (hu : X.A.units + 64 < cLine) {K : PySem.W.Frag} (hK : X.K = K := by rfl) : OpR X (compareOp .Eq) (gEq K false) := by
  subst hK
  intro pins s σ H x y v u Q I rx ry h
  unfold gEq at h
  split at h
  · refine op_eq pins s σ H _ _ v u Q I rx ry ⟨rfl, ?_⟩
    simpa using h
  · refine op_eq pins s σ H _ _ v u Q I rx ry ⟨rfl, ?_⟩
    simpa using h
  · refine op_eq pins s σ H _ _ v u Q I rx ry ⟨rfl, ?_⟩
    simpa using h
  · obtain ⟨da, db, h1, h2, h3, h4, h5, h6⟩ := h
    exact op_eqD hu pins s σ H _ _ v u Q I rx ry ⟨da, db, h1, h2, h3, h4, h5, by simp_all⟩
  simp_all
theorem og_ne (hu : X.A.units + 64 < cLine) {K : PySem.W.Frag} (hK : X.K = K := by rfl) : OpR X (compareOp .NotEq) (gEq K true) := by
  subst hK
  intro pins s σ H x y v u Q I rx ry h
  unfold gEq at h
  split at h
  · refine op_ne pins s σ H _ _ v u Q I rx ry ⟨rfl, ?_⟩
    simpa using h
  · refine op_ne pins s σ H _ _ v u Q I rx ry ⟨rfl, ?_⟩
    simpa using h
  · refine op_ne pins s σ H _ _ v u Q I rx ry ⟨rfl, ?_⟩
    simpa using h
  · obtain ⟨da, db, h1, h2, h3, h4, h5, h6⟩ := h
    exact op_neD hu pins s σ H _ _ v u Q I rx ry ⟨da, db, h1, h2, h3, h4, h5, by simp_all⟩
  simp_all
noncomputable def gLt:R2:=fun x y H Q=>match x,y with
  | .int i,.int j=>Q (.bl (decide (i < j))) H
  | .str i,.str j=>Q (.bl (decide (i.cps.toList < j.cps.toList))) H
  | _,_=>False
theorem og_lt : OpR X (compareOp .Lt) gLt := by
  intro pins s σ H x y v u Q I rx ry h
  unfold gLt at h
  split at h
  · exact op_lt pins s σ H _ _ v u Q I rx ry ⟨_, _, rfl, rfl, h⟩
  · exact op_lt_str pins s σ H _ _ v u Q I rx ry ⟨_, _, rfl, rfl, h⟩
  simp_all
noncomputable def gLe:R2:=fun x y H Q=>match x,y with
  | .int i,.int j=>Q (.bl (decide (i ≤ j))) H
  | .str i,.str j=>Q (.bl (!decide (j.cps.toList < i.cps.toList))) H
  | _,_=>False
theorem og_le : OpR X (compareOp .LtE) gLe := by
  intro pins s σ H x y v u Q I rx ry h
  unfold gLe at h
  split at h
  · exact op_le pins s σ H _ _ v u Q I rx ry ⟨_, _, rfl, rfl, h⟩
  · exact op_le_str pins s σ H _ _ v u Q I rx ry ⟨_, _, rfl, rfl, h⟩
  simp_all
noncomputable def gGt:R2:=fun x y H Q=>match x,y with
  | .int i,.int j=>Q (.bl (decide (j < i))) H
  | _,_=>False
theorem og_gt : OpR X (compareOp .Gt) gGt := by
  intro pins s σ H x y v u Q I rx ry h
  unfold gGt at h
  split at h
  · exact op_gt pins s σ H _ _ v u Q I rx ry ⟨_, _, rfl, rfl, h⟩
  simp_all
noncomputable def gGe:R2:=fun x y H Q=>match x,y with
  | .int i,.int j=>Q (.bl (decide (j ≤ i))) H
  | _,_=>False
theorem og_ge:OpR X (compareOp .GtE) gGe:=by
  intro pins s σ H x y v u Q I rx ry h
  unfold gGe at h
  split at h
  · exact op_ge pins s σ H _ _ v u Q I rx ry ⟨_,_,rfl,rfl,h⟩
  · exact h.elim
noncomputable def gIn (K:PySem.W.Frag) (neg:Bool):R2:=fun x y H Q=>match y with
  | .str j=>(match x with
    | .str i=>Q (.bl (neg ^^ !(Builtin.Str.occurrences j i 0 j.length 1).isEmpty)) H
    | _=>False)
  | .ref p=>∃ xs,(SqL K H p xs∨SqT K H p xs)∧flatV x = true∧xs.all flatV = true∧Q (.bl (neg ^^ inV x xs)) H
  | _=>False
theorem og_in {K : PySem.W.Frag} (hK : X.K = K := by rfl) : OpR X (compareOp .In) (gIn K false) := by
  subst hK
  intro pins s σ H x y v u Q I rx ry h
  unfold gIn at h
  split at h
  · split at h
    · refine op_in_str pins s σ H _ _ v u Q I rx ry ⟨_, _, rfl, rfl, ?_⟩
      simpa using h
    simp_all
  · obtain ⟨xs, h1, h2, h3, h4⟩ := h
    exact op_in_seq pins s σ H _ _ v u Q I rx ry ⟨_, xs, rfl, h1, h2, h3, by simp_all⟩
  simp_all
theorem og_notin {K : PySem.W.Frag} (hK : X.K = K := by rfl) : OpR X (compareOp .NotIn) (gIn K true) := by
  subst hK
  intro pins s σ H x y v u Q I rx ry h
  unfold gIn at h
  split at h
  · split at h
    · refine op_notin_str pins s σ H _ _ v u Q I rx ry ⟨_, _, rfl, rfl, ?_⟩
      simp_all
    simp_all
  · obtain ⟨xs, h1, h2, h3, h4⟩ := h
    exact op_notIn_seq pins s σ H _ _ v u Q I rx ry ⟨_, xs, rfl, h1, h2, h3, by simp_all⟩
  simp_all
noncomputable def gIs (neg:Bool):R2:=fun x y H Q=>match y with
  | .non=>(match x with
    | .non=>Q (.bl (neg ^^ true)) H
    | _=>Q (.bl (neg ^^ false)) H)
  | _=>False
theorem og_is : OpR X (compareOp .Is) (gIs false) := by
  intro pins s σ H x y v u Q I rx ry h
  unfold gIs at h
  split at h
  · refine op_isN pins s σ H _ _ v u Q I rx ry ⟨rfl, ?_⟩
    split at h
    · exact h
    simp_all
  simp_all
theorem og_isnot : OpR X (compareOp .IsNot) (gIs true) := by
  intro pins s σ H x y v u Q I rx ry h
  unfold gIs at h
  split at h
  · refine op_notN pins s σ H _ _ v u Q I rx ry ⟨rfl, ?_⟩
    split at h
    · exact h
    simp_all
  simp_all
noncomputable def gIx (K:PySem.W.Frag) (w:World):R2:=fun x y H Q=>match x,y with
  | .ref q,.int i=>(∃ xs v,SqL K H q xs∧atI xs i = some v∧Q v H)∨∃ xs v,SqT K H q xs∧atI xs i = some v∧Q v H
  | .str z,.int i=>z.length ≤ sizeLine∧∃ c,atI z.cps.toList i = some c∧Q (.str ⟨#[c]⟩) H
  | .ref q,.str k=>(∃ kvs v,KTab K w q kvs∧kvs.lookup k = some v∧Q v H)∨∃ (kvs:List (Key × V)) (v:V),H q = some (.dK kvs)∧valV kvs (Sum.inr k) = some v∧Q v H
  | _,_=>False
theorem og_ix (hu:X.A.units + 64 < cLine) {K:PySem.W.Frag} {w:World} (hK:X.K = K:=by rfl) (hw:X.w = w:=by rfl):IxR X (gIx K w):=by
  subst hK
  subst hw
  intro value slice pins s σ H x y v u Q I rx ry h hs
  unfold gIx at h
  split at h
  · rcases h with ⟨xs,z,h1,h2,h3⟩ | ⟨xs,z,h1,h2,h3⟩
    · exact ix_list value slice pins s σ H _ _ v u Q I rx ry ⟨_,xs,_,z,rfl,rfl,h1,h2,h3⟩ hs
    · exact ix_tup value slice pins s σ H _ _ v u Q I rx ry ⟨_,xs,_,z,rfl,rfl,h1,h2,h3⟩ hs
  · obtain ⟨hz,c,h1,h2⟩:=h
    exact ix_str value slice pins s σ H _ _ v u Q I rx ry ⟨_,_,c,rfl,rfl,hz,h1,h2⟩ hs
  · rcases h with ⟨kvs,z,h1,h2,h3⟩ | ⟨kvs,z,h1,h2,h3⟩
    · exact ix_ktab value slice pins s σ H _ _ v u Q I rx ry ⟨_,kvs,_,z,rfl,rfl,h1,h2,h3⟩ hs
    · cases rx
      have hd:=dk_of I.hok h1
      obtain ⟨_,_,vs,_,dd⟩:=hd
      exact tail_any dd.typeIs slot_dict_getitem.lookup (d_getItem (y:=kV (Sum.inr _)) (v:=z) (by lia) I (.inl ⟨kvs,_,.inl h1,rfl,h2.symm⟩) ry fun w' s' I' rw'=>⟨z,H,I',rw',h3⟩) hs
  · exact h.elim
noncomputable def mPart (t:TE):TO:=fun σ H Q=>t σ H fun x H1=>match x with
  | .int i=>Q (some i) H1
  | _=>False
theorem mPart_eq (t : TE) : mPart t = tPart t := by
  funext σ H Q
  unfold mPart tPart
  congr 1
  funext x H'
  refine propext ⟨fun h => ?_, fun ⟨k, e, h⟩ => ?_⟩
  · split at h
    · exact ⟨_, rfl, h⟩
    simp_all
  simp_all
theorem po_someM (h:PE X e te):PO X (some e) (mPart te):=by rw [mPart_eq]; exact po_some h
noncomputable def gLen (K:PySem.W.Frag):List V→Hp→VK→Prop:=fun xs H Q=>match xs with
  | [.str y]=>y.length ≤ sizeLine∧Q (.int y.length) H
  | [.ref p]=>∃ ys,(SqL K H p ys∨SqT K H p ys)∧Q (.int ys.length) H
  | _=>False
theorem cg_len {K : PySem.W.Frag} (hK : X.K = K := by rfl) : CallR X (.builtin "len") (gLen K) := by
  subst hK
  intro pins s σ H xs us Q I r h
  unfold gLen at h
  split at h
  · exact call_len_str pins s σ H _ us Q I r ⟨_, rfl, h.1, h.2⟩
  · obtain ⟨ys, h1, h2⟩ := h
    exact call_len_seq pins s σ H _ us Q I r ⟨_, ys, rfl, h1, h2⟩
  simp_all
noncomputable def gList (K:PySem.W.Frag):List V→Hp→VK→Prop:=fun xs H Q=>match xs with
  | [.ref p]=>∃ ys,(SqL K H p ys∨SqT K H p ys)∧∀ l,H l = none→Q (.ref l) (upd H l (.lst ys))
  | _=>False
theorem cg_list {K : PySem.W.Frag} (hK : X.K = K := by rfl) : CallR X (.type "list") (gList K) := by
  subst hK
  intro pins s σ H xs us Q I r h
  unfold gList at h
  split at h
  · obtain ⟨ys, h1, h2⟩ := h
    exact call_list_of pins s σ H _ us Q I r ⟨_, ys, rfl, h1, h2⟩
  simp_all
noncomputable def gAppend:V→List V→Hp→VK→Prop:=fun x vs H Q=>match x,vs with
  | .ref l,[y]=>∃ xs,H l = some (.lst xs)∧xs.length < sizeLine∧Q .non (upd H l (.lst (xs ++ [y])))
  | _,_=>False
theorem mg_append : MtR X "list.append" gAppend := by
  intro pins s σ H x xs v us Q I rx rs h
  unfold gAppend at h
  split at h
  · obtain ⟨ys, h1, h2, h3⟩ := h
    exact mt_append pins s σ H _ _ v us Q I rx rs ⟨_, ys, _, rfl, rfl, h1, h2, h3⟩
  simp_all
end
end L2
namespace L2
open PySem PySem.Spec PyProof.Rows
section
variable {X:Cx} {tg:Expr}
noncomputable def iAny (K:PySem.W.Frag) (tl:TE):TI:=fun σ H R=>tl σ H fun x H1=>match x with
  | .str z=>R (Its z) H1
  | .ref a=>((∃ xs,SqL K H1 a xs)∧R (Itl K a) H1)∨((∃ xs,SqT K H1 a xs)∧R (Itt K a) H1)
  | _=>False
theorem pi_any {l:Expr} {tl:TE} (hl:PE X l tl) {K:PySem.W.Frag} (hK:X.K = K:=by rfl):PI X tg l (iAny K tl):=by
  subst hK
  intro pins s σ H R I h
  refine thn (hl pins s σ H _ I h) fun v s1 ⟨x,H1,I1,r1,q1⟩=>?_
  try dsimp only at q1
  split at q1
  · rename_i z
    obtain ⟨t,rfl⟩:=r1
    have fin:∀ b ∈ [s1.heap.objs.size],FpOk X pins H1 b:=fun b hb=>by
      have e:b = s1.heap.objs.size:=by simpa using hb
      subst e
      exact I1.fpOk (Nat.le_refl _) (I1.hok.fresh (Nat.le_refl _))
    cases ha:z.cps.all (· < 128)
    · refine wpAny_pyIter_wide ha ?_
      exact ⟨s1.heap.objs.size,[s1.heap.objs.size],_,_,H1,rfl,I1.kept (t':=s1.toks) fun b o e=>Heap.get?_push_of_some _ e,
        turn_str "str_iterator" _ z t (fun A' hA=>Walks.strWide hA _ z t) (fun A i s Q E st h=>wpAny_pyIter_striter_wide st h) (by decide),⟨_,Heap.get?_push_size _ rfl,rfl,rfl⟩,fin,q1⟩
    · refine wpAny_pyIter_ascii ha ?_
      exact ⟨s1.heap.objs.size,[s1.heap.objs.size],_,_,H1,rfl,I1.kept (t':=s1.toks) fun b o e=>Heap.get?_push_of_some _ e,
        turn_str "str_ascii_iterator" _ z t (fun A' hA=>Walks.strAscii hA _ z t) (fun A i s Q E st h=>wpAny_pyIter_striter_ascii st h) (by decide),⟨_,Heap.get?_push_size _ rfl,rfl,rfl⟩,fin,q1⟩
  · rename_i a
    cases r1
    have fin:∀ b ∈ [s1.heap.objs.size],FpOk X pins H1 b:=fun b hb=>by
      have e:b = s1.heap.objs.size:=by simpa using hb
      subst e
      exact I1.fpOk (Nat.le_refl _) (I1.hok.fresh (Nat.le_refl _))
    rcases q1 with ⟨⟨xs,hq⟩,q⟩ | ⟨⟨xs,hq⟩,q⟩
    · obtain ⟨its,rv,p,hz⟩:=I1.list hq
      refine wpAny_pyIter_list p.isList ?_
      exact ⟨s1.heap.objs.size,[s1.heap.objs.size],_,_,H1,rfl,I1.kept (t':=s1.toks) fun b o e=>Heap.get?_push_of_some _ e,turn_list a _,⟨_,Heap.get?_push_size _ rfl,rfl,rfl⟩,fin,q⟩
    · obtain ⟨its,rv,p,hz⟩:=I1.tuple hq
      refine wpAny_pyIter_tuple (show s1.heap.IsTuple a its.toArray from p) ?_
      exact ⟨s1.heap.objs.size,[s1.heap.objs.size],_,_,H1,rfl,I1.kept (t':=s1.toks) fun b o e=>Heap.get?_push_of_some _ e,turn_tuple a _,⟨_,Heap.get?_push_size _ rfl,rfl,rfl⟩,fin,q⟩
  · exact q1.elim
noncomputable def mRng1 (ta:TA):TI:=fun σ H R=>ta σ H fun vs H1=>match vs with
  | [.int j]=>-(2 ^ 62) ≤ j∧j < 2 ^ 62∧R (Itr 0 j.toNat) H1
  | _=>False
theorem mRng1_eq (ta : TA) : mRng1 ta = iRng1 ta := by
  funext σ H R
  unfold mRng1 iRng1
  congr 1
  funext vs H'
  refine propext ⟨fun h => ?_, fun ⟨k, e, h⟩ => ?_⟩
  · split at h
    · exact ⟨_, rfl, h⟩
    simp_all
  · subst e; exact h
theorem pi_rng1 {a:Expr} {ta:TA} {p pos:Pos} (hg:Gl X "range") (hm:X.mg "range" = none) (ha:PA X [a] ta) (hs:starEach [a] X.env = [(false,eval a X.env)]:=by rfl):PI X tg (.Call (.Name "range" p) [a] [] pos) (mRng1 ta):=by
  rw [mRng1_eq]; exact pi_range1 hg hm ha hs
noncomputable def noStar:Expr→Bool
  | .Starred ..=>false
  | _=>true
noncomputable def noStars:List Expr→Bool
  | []=>true
  | e :: r=>noStar e && noStars r
theorem starEach_cons {e:Expr} {es:List Expr} {env:Env} (h:noStar e = true):starEach (e :: es) env = (false,eval e env) :: starEach es env:=by
  cases e <;> first | rfl | exact absurd h Bool.false_ne_true
theorem stars_none : ∀ {es : List Expr} {env : Env}, noStars es = true → ∀ x ∈ starEach es env, x.1 = false
  | [], env, _, x, hx => by
    have : starEach [] env = [] := rfl
    simp_all
  | e :: r, env, h, x, hx => by
    have h' : noStar e = true ∧ noStars r = true := by simpa [noStars] using h
    rw [starEach_cons h'.1] at hx
    rcases List.mem_cons.mp hx with q | q
    · rw [q]
    · exact stars_none h'.2 x q
theorem back_any {es : List Expr} {env : Env} {pos : Pos} (h : noStars es = true) : (backTo pos (starEach es env)).any (·.1) = false := by
  rw [List.any_eq_false]
  intro x hx
  obtain ⟨y, hy, e⟩ := List.mem_map.mp hx
  have := stars_none h y hy
  rw [← e, this]
  simp
theorem back_all {es : List Expr} {env : Env} {pos : Pos} (h : noStars es = true) : (backTo pos (starEach es env)).all (fun x => !x.1) = true := by
  rw [List.all_eq_true]
  intro x hx
  obtain ⟨y, hy, e⟩ := List.mem_map.mp hx
  have := stars_none h y hy
  rw [← e, this]
  rfl
noncomputable def notSuper:Expr→Bool
  | .Call (.Name _ _) [] [] _=>false
  | _=>true
theorem base_of {o:Expr} {attr:Str} {env:Env} {whole:Sem Value} (h:notSuper o = true):attributeBase o attr env whole = whole:=by
  unfold attributeBase
  split
  · exact absurd h Bool.false_ne_true
  · rfl
theorem pa_consM {es:List Expr} {t:TA} (ha:PE X e te) (hr:PA X es t) (h:noStar e = true:=by rfl):PA X (e :: es) (tCons te t):=pa_cons ha hr (starEach_cons h)
theorem pe_callBM {x : Str} {id : String} {r : List V → Hp → VK → Prop} {es : List Expr} {t : TA} {p pos : Pos} (hc : CallR X (.builtin id) r) (hg : Gl X x) (hm : X.mg x = none) (hv : bootBuiltins x = some (.builtin id)) (ha : PA X (e :: es) t) (hn : x ≠ "__name__" := by decide) (hdb : (x == ("__debug__" : Str)) = false := by decide)
    (h:noStars (e :: es) = true:=by rfl):PE X (.Call (.Name x p) (e :: es) [] pos) (tCB r t):=by
  have h':noStar e = true∧noStars es = true:=by simpa [noStars] using h
  exact pe_callB hc hg hm hv ha hn hdb (starEach_cons h'.1) (back_any h'.2)
theorem pe_callTyM {x : Str} {T : String} {r : List V → Hp → VK → Prop} {es : List Expr} {t : TA} {p pos : Pos} (hc : CallR X (.type T) r) (hg : Gl X x) (hm : X.mg x = none) (hv : bootBuiltins x = some (.type T)) (ha : PA X (e :: es) t) (hn : x ≠ "__name__" := by decide) (hdb : (x == ("__debug__" : Str)) = false := by decide)
    (h:noStars (e :: es) = true:=by rfl):PE X (.Call (.Name x p) (e :: es) [] pos) (tCB r t):=by
  have h':noStar e = true∧noStars es = true:=by simpa [noStars] using h
  exact pe_callTy hc hg hm hv ha hn hdb (starEach_cons h'.1) (back_any h'.2)
theorem pe_bmK {K : PySem.W.Frag} {o e : Expr} {es : List Expr} {to : TE} {t : TA} {name : Str} {apos cpos : Pos} {T id : String} {r : V → List V → Hp → VK → Prop} (pa : PlainAttrs T) (slot : Slot T name id) (hty : typeOf (.builtin id) = pure (.type "method_descriptor")) (hm : MtR X id r) (ho : PE X o to) (ha : PA X (e :: es) t) (hK : X.K = K := by rfl)
    (hsup:notSuper o = true:=by rfl) (h:noStars (e :: es) = true:=by rfl) (h30:(e :: es).length < 30:=by decide) (hline:(apos.endLine == cpos.line) = true:=by rfl) :
    PE X (.Call (.Attribute o name apos) (e :: es) [] cpos) (tBM K T r to t):=by
  subst hK
  have h':noStar e = true∧noStars es = true:=by simpa [noStars] using h
  refine pe_bm pa slot hty hm ho ha (base_of hsup) ?_ hline (starEach_cons h'.1) (back_any h'.2)
  rw [back_all h]
  have e0:keywordEach [] X.env = []:=rfl
  rw [e0]
  simpa [backToKw] using h30
theorem pe_bm0K {K : PySem.W.Frag} {o : Expr} {to : TE} {name : Str} {apos cpos : Pos} {T id : String} {r : V → List V → Hp → VK → Prop} (pa : PlainAttrs T) (slot : Slot T name id) (hty : typeOf (.builtin id) = pure (.type "method_descriptor")) (hm : MtR X id r) (ho : PE X o to) (hK : X.K = K := by rfl)
    (hsup:notSuper o = true:=by rfl) (hline:(apos.endLine == cpos.line) = true:=by rfl):PE X (.Call (.Attribute o name apos) [] [] cpos) (tBM0 K T r to):=by
  subst hK
  exact pe_bm0 pa slot hty hm ho (base_of hsup) hline
theorem pg_tupK {K : PySem.W.Frag} {es : List Expr} {k : Nat} {t : TGs} {n : Nat} {pos : Pos} (hc : X.calm = true) (h : PGs X es t) (hK : X.K = K := by rfl)
    (hn:(assignEach es X.env).length = n:=by rfl) (hst:(assignEach es X.env).findIdx? (·.1) = none:=by rfl):PG X (.Tuple es k pos) (gTup K n t):=by
  subst hK
  exact pg_tup hc h hn hst
structure Def (P:Program) (w:World) (K:PySem.W.Frag) (mg:Str→Option Value) (base:Heap) (k:Nat) (x:Str) (ps:List Str) (sp:Sp):Prop where
  ex:∃ f fd,mg x = some (.ref f)∧PySem.W.keepIn K (.ref f) = true∧(∃ oc od osl,K.lookup f = some ⟨oc,od,.func fd,osl⟩)∧Binds K fd ps []∧FnOk P w K mg base CX0 k f fd ps sp
theorem pe_def {k : Nat} {x : Str} {ps : List Str} {sp : Sp} {e : Expr} {es : List Expr} {t : TA} {p pos : Pos} (D : Def X.prog X.w X.K X.mg X.base k x ps sp) (hr : Room k X.A) (hg : Gl X x) (ha : PA X (e :: es) t) (hdb : (x == ("__debug__" : Str)) = false := by decide)
    (hst : noStars (e :: es) = true := by rfl) (hx : Passes CX0 X E0 := by exact pass0) :
    PE X (.Call (.Name x p) (e :: es) [] pos) (fun σ H Q => t σ H fun vs H1 => sp vs H1 Q E0) := by
  obtain ⟨f, fd, mgf, kp, _, b, G⟩ := D.ex
  have h' : noStar e = true ∧ noStars es = true := by simpa [noStars] using hst
  have he := starEach_cons (es := es) (env := X.env) h'.1
  have hpl := back_any (env := X.env) (pos := pos) h'.2
  have h := pe_call (X := X) (dvs := []) (E := E0) (p := p) (pos := pos) G hr hg mgf kp b .nil hx ha hdb he hpl
  intro pins s σ H Q I hq
  refine h pins s σ H Q I ?_
  show t σ H fun vs H1 => sp (vs ++ []) H1 Q E0
  simp_all
end
theorem Fun.lk {K:PySem.W.Frag} {x qual:Str} {st:Stmt} {f:Addr} {fd:FuncData} (F:Fun K x qual st f fd):∃ oc od osl,K.lookup f = some ⟨oc,od,.func fd,osl⟩:=by
  obtain ⟨oc,od,kV,doc,pm,an,cdv,ct,osl,_,lk,_⟩:=F.ex
  exact ⟨oc,od,osl,lk⟩
structure Raw (K:PySem.W.Frag) (mg:Str→Option Value) (x:Str) (st:Stmt) (ps:List Str):Prop where
  ex:∃ f fd,mg x = some (.ref f)∧Fun K x x st f fd∧∀ (us:List Value),us.length = ps.length→bindArgs fd ⟨us,[]⟩ = pure (ps.zip us)
theorem Raw.mk' {K : PySem.W.Frag} {mg : Str → Option Value} {h : Heap} {x : Str} {st : Stmt} {ps : List Str} {f : Addr} {oc : Value} {od an : Option Addr} {osl : Array (Option Value)} {kV doc pm cdv ct : Value} (X : K.In h) (G : h.Ns mainGlobals mg)
    (a:PySem.W.nsIn K mainGlobals x = some (some (.ref f))) (l:K.lookup f = some ⟨oc,od,.func (PySem.W.fnOf x x (defArgs st) (defBody st) (defScope st) .none kV doc pm an cdv ct),osl⟩)
    (c:PySem.W.codeIn K cdv x = true) (k:PySem.W.keepIn K (.ref f) = true)
    (hb:∀ (us:List Value),us.length = ps.length→bindArgs (PySem.W.fnOf x x (defArgs st) (defBody st) (defScope st) .none kV doc pm an cdv ct) ⟨us,[]⟩ = pure (ps.zip us)):Raw K mg x st ps :=
  ⟨⟨f,_,PySem.W.mg_of X G a,fun_mk l c k,hb⟩⟩
theorem Raw.def {P : Program} {w : World} {K : PySem.W.Frag} {mg : Str → Option Value} {base : Heap} {x : Str} {st : Stmt} {N ps : List Str} {k : Nat} {sp : Sp} (R : Raw K mg x st ps) (S : FnScope N ps (defScope st)) (len : ∀ vs H Q E, sp vs H Q E → vs.length = ps.length)
    (hbody:∀ (f:Addr) (cdv:Value) (A:Around) (outer:List Env) (s:Shared) (H:Hp) (vs:List V) (Q:VK) (E:XK),Room k (A.deeper (envOfC x (defScope st) s.heap.objs.size f cdv))→sp vs H Q E →
      ∃ t,PSs (cxOf CX0 P w K mg base N x (defScope st) f cdv A outer s H E).nox (defBody st) t∧t { nx:=fun _ H'=>Q .non H',rt:=Q } (start N vs) H):Def P w K mg base (k + 1) x ps sp:=by
  obtain ⟨f,fd,h1,F,b⟩:=R.ex
  exact ⟨f,fd,h1,F.kp,F.lk,.all b,F.ok S len (fun cdv=>hbody f cdv)⟩
theorem Def.at {P : Program} {w : World} {K : PySem.W.Frag} {mg : Str → Option Value} {base : Heap} {k : Nat} {x : Str} {ps : List Str} {sp : Sp} {f : Addr} {fd : FuncData} (D : Def P w K mg base k x ps sp) (h : mg x = some (.ref f))
    (l : ∃ oc od osl, K.lookup f = some ⟨oc, od, .func fd, osl⟩) : FnOk P w K mg base CX0 k f fd ps sp := by
  obtain ⟨f', fd', h', _, ⟨oc', od', osl', l'⟩, _, F⟩ := D.ex
  grind
section
variable {K:PySem.W.Frag} {w:World} {mg:Str→Option Value} {h:Heap} {x:Str}
theorem int_mk {i:Int} {t:Tok} (X:K.In h) (G:h.Ns mainGlobals mg) (a:PySem.W.nsIn K mainGlobals x = some (some (.int i t))):∃ t,mg x = some (.int i t):=⟨_,PySem.W.mg_of X G a⟩
theorem tup_mk {b : Addr} {od : Option Addr} {its : Array Value} {n : Nat} {osl : Array (Option Value)} {xs : List V} (X : K.In h) (G : h.Ns mainGlobals mg) (a : PySem.W.nsIn K mainGlobals x = some (some (.ref b))) (l : K.lookup b = some ⟨.type "tuple", od, .seq its n, osl⟩)
    (z:its.size ≤ sizeLine) (v:Vals xs its.toList):∃ t,mg x = some (.ref t)∧∀ H,SqT K H t xs :=
  ⟨_,PySem.W.mg_of X G a,fun H=>.inr ⟨_,its,n,l,rfl,rfl,z,v⟩⟩
end
end L2
namespace L2
open PySem PySem.Spec PyProof.Rows
theorem same_upd {H H':Hp} {p:Addr} {o:HO} (e:Same H H') (h:H p = none):Same H (upd H' p o):=fun b u q=>by
  rw [upd_ne (ne_of_none q h)]
  exact e b u q
theorem same_new {H:Hp} {p:Addr} {o:HO} (h:H p = none):Same H (upd H p o):=same_upd (Same.refl H) h
section
variable {cap:List (Option Nat)} {g:TG} {tc:TT} {te:TE} {Q:Addr→Hp→Prop} {σ:St} {H:Hp}
theorem gath_of {J : It} {n : Nat} {item : Nat → V → Prop} (Pv : Nat → List V → St → Hp → Prop) (hn : n ≤ 1000000) (h0 : Pv 0 [] (capt cap σ) H) (hlen : ∀ i ys σ' H', Pv i ys σ' H' → ys.length ≤ i)
    (hgo:∀ i ys σ' H',i < n→Pv i ys σ' H'→J.go i H') (hyld:∀ i ys σ' H' x H2,i < n→Pv i ys σ' H'→J.yld i H' x H2→item i x∧H2 = H') (hstop:∀ ys σ' H',Pv n ys σ' H'→J.stop n H')
    (hs:∀ i x ys σ' H',i < n→item i x→Pv i ys σ' H'→g x σ' H' fun σ3 H3=>tc σ3 H3 fun b H4=>if b = true then te σ3 H4 fun y H5=>Pv (i + 1) (ys ++ [y]) σ3 H5 else Pv (i + 1) ys σ3 H4)
    (hd:∀ ys σ' H',Pv n ys σ' H'→∀ D,H' D = none→Q D (upd H' D (.lst ys))):Gath J cap g tc te Q σ H:=by
  have big:(1000000:Nat) < sizeLine:=by rw [sizeLine_eq]; decide
  refine ⟨fun i m ys σ' H'=>m = n - i∧i ≤ n∧Pv i ys σ' H',⟨n,by simp,Nat.zero_le _,h0⟩,?_⟩
  rintro i m ys σ' H' ⟨rfl,hi,p⟩
  have hl:=hlen i ys σ' H' p
  by_cases hlt:i < n
  · refine .inr ⟨hgo i ys σ' H' hlt p,by lia,Pv (i + 1),fun ys2 σ2 H2 p'=>⟨n - (i + 1),by lia,rfl,hlt,p'⟩,fun x H2 y=>?_⟩
    obtain ⟨h1,h2⟩:=hyld i ys σ' H' x H2 hlt p y
    subst h2
    exact hs i x ys σ' _ hlt h1 p
  · have e:i = n:=by lia
    subst e
    exact .inl ⟨hstop ys σ' H' p,by lia,hd ys σ' H' p⟩
theorem gath_range {lo : Int} {n : Nat} (Pv : Nat → List V → St → Hp → Prop) (hn : n ≤ 1000000) (h0 : Pv 0 [] (capt cap σ) H) (hlen : ∀ i ys σ' H', Pv i ys σ' H' → ys.length ≤ i)
    (hs:∀ i ys σ' H',i < n→Pv i ys σ' H'→g (.int (lo + i)) σ' H' fun σ3 H3=>tc σ3 H3 fun b H4=>if b = true then te σ3 H4 fun y H5=>Pv (i + 1) (ys ++ [y]) σ3 H5 else Pv (i + 1) ys σ3 H4)
    (hd:∀ ys σ' H',Pv n ys σ' H'→∀ D,H' D = none→Q D (upd H' D (.lst ys))):Gath (Itr lo n) cap g tc te Q σ H :=
  gath_of (item:=fun i x=>x = .int (lo + i)) Pv hn h0 hlen (fun i ys σ' H' hi _=>hi) (fun i ys σ' H' x H2 _ _ y=>⟨y.2,y.1⟩) (fun _ _ _ _=>Nat.le_refl n) (fun i x ys σ' H' hi e p=>by subst e; exact hs i ys σ' H' hi p) hd
theorem gath_list {K : PySem.W.Frag} {a : Addr} {xs : List V} (Pv : Nat → List V → St → Hp → Prop) (hn : xs.length ≤ 1000000) (h0 : Pv 0 [] (capt cap σ) H) (hlen : ∀ i ys σ' H', Pv i ys σ' H' → ys.length ≤ i)
    (hl : ∀ i ys σ' H', Pv i ys σ' H' → SqL K H' a xs)
    (hs : ∀ i x ys σ' H', xs[i]? = some x → Pv i ys σ' H' → g x σ' H' fun σ3 H3 => tc σ3 H3 fun b H4 => if b = true then te σ3 H4 fun y H5 => Pv (i + 1) (ys ++ [y]) σ3 H5 else Pv (i + 1) ys σ3 H4)
    (hd : ∀ ys σ' H', Pv xs.length ys σ' H' → ∀ D, H' D = none → Q D (upd H' D (.lst ys))) : Gath (Itl K a) cap g tc te Q σ H :=
  gath_of (item := fun i x => xs[i]? = some x) Pv hn h0 hlen (fun i ys σ' H' hi p => ⟨xs, xs[i], hl i ys σ' H' p, by simp⟩) (fun i ys σ' H' x H2 _ p y => ⟨y.2 xs (hl i ys σ' H' p), y.1⟩)
    (fun ys σ' H' p => ⟨xs, hl _ ys σ' H' p, Nat.le_refl _⟩) (fun i x ys σ' H' hi e p => hs i x ys σ' H' e p) hd
end
end L2
namespace L2
open PySem PySem.Spec PyProof.Rows
@[irreducible] noncomputable def Irr (p:Prop):Prop:=p
theorem Irr.mk {p:Prop} (h:p):Irr p:=by unfold Irr; exact h
theorem Irr.out {p:Prop} (h:Irr p):p:=by unfold Irr at h; exact h
noncomputable abbrev JE (X:Cx) (e:Expr) (t:TE):Prop:=Irr (PE X e t)
noncomputable abbrev JT (X:Cx) (e:Expr) (t:TT):Prop:=Irr (PT X e t)
noncomputable abbrev JW (X:Cx) (e:Expr) (t:TT):Prop:=Irr (PW X e t)
noncomputable abbrev JA (X:Cx) (es:List Expr) (t:TA):Prop:=Irr (PA X es t)
noncomputable abbrev JO (X:Cx) (e:Option Expr) (t:TO):Prop:=Irr (PO X e t)
noncomputable abbrev JS (X:Cx) (st:Stmt) (t:TS):Prop:=Irr (PS X st t)
noncomputable abbrev JSs (X:Cx) (st:List Stmt) (t:TS):Prop:=Irr (PSs X st t)
noncomputable abbrev JG (X:Cx) (e:Expr) (t:TG):Prop:=Irr (PG X e t)
noncomputable abbrev JGs (X:Cx) (e:List Expr) (t:TGs):Prop:=Irr (PGs X e t)
noncomputable abbrev JI (X:Cx) (tg it:Expr) (t:TI):Prop:=Irr (PI X tg it t)
section
variable {X:Cx} {a b c e f k o v tg it:Expr} {es:List Expr} {ta tb tc te td ty tx tk tv:TE} {tA tB':TT} {t:TA} {u u':TS} {pos pos' p p2 apos cpos spos:Pos} {st:Stmt} {sts sts':List Stmt} {K:PySem.W.Frag} {w:World}
theorem o_add (hK:X.K = K:=by rfl):Irr (OpR X (binaryOp .Add) (gAdd K)):=.mk (og_add hK)
theorem o_sub:Irr (OpR X (binaryOp .Sub) gMinus):=.mk og_sub
theorem o_mul:Irr (OpR X (binaryOp .Mult) gMul):=.mk og_mul
theorem o_div:Irr (OpR X (binaryOp .FloorDiv) gDiv):=.mk og_div
theorem o_mod:Irr (OpR X (binaryOp .Mod) gMod):=.mk og_mod
theorem o_ne (hu:X.A.units + 64 < cLine) (hK:X.K = K:=by rfl):Irr (OpR X (compareOp .NotEq) (gEq K true)):=.mk (og_ne hu hK)
theorem o_lt:Irr (OpR X (compareOp .Lt) gLt):=.mk og_lt
theorem o_le:Irr (OpR X (compareOp .LtE) gLe):=.mk og_le
theorem o_gt:Irr (OpR X (compareOp .Gt) gGt):=.mk og_gt
theorem o_ge:Irr (OpR X (compareOp .GtE) gGe):=.mk og_ge
theorem o_is:Irr (OpR X (compareOp .Is) (gIs false)):=.mk og_is
theorem o_isnot:Irr (OpR X (compareOp .IsNot) (gIs true)):=.mk og_isnot
theorem o_ix (hu:X.A.units + 64 < cLine) (hK:X.K = K:=by rfl) (hw:X.w = w:=by rfl):Irr (IxR X (gIx K w)):=.mk (og_ix hu hK hw)
theorem c_len (hK:X.K = K:=by rfl):Irr (CallR X (.builtin "len") (gLen K)):=.mk (cg_len hK)
theorem c_list (hK:X.K = K:=by rfl):Irr (CallR X (.type "list") (gList K)):=.mk (cg_list hK)
theorem m_append:Irr (MtR X "list.append" gAppend):=.mk mg_append
theorem jn (i : Nat) {x : Str} (hN : X.N[i]? = some x := by rfl) (hv : Vis X.env.scope x := by first | exact Or.inl rfl | exact Or.inr (Or.inl rfl) | exact Or.inr (Or.inr rfl)) (hd : (x == ("__debug__" : Str)) = false := by decide)
    (hcd:(x == ("__classdict__":Str)) = false:=by decide):JE X (.Name x pos) (mVar i):=.mk (pn i hN hv hd hcd)
theorem j_int {i:Int} {j:Nat}:JE X (.Constant (.int i) j pos) (tC (.int i)):=.mk pe_int
theorem j_bl {b:Bool} {j:Nat}:JE X (.Constant (.bool b) j pos) (tC (.bl b)):=.mk pe_bl
theorem j_non {j:Nat}:JE X (.Constant .none j pos) (tC .non):=.mk pe_non
theorem j_str {x:Str} {j:Nat}:JE X (.Constant (.str x) j pos) (tC (.str x)):=.mk pe_str
theorem j_glob {x:Str} {v:V} {u:Value} (hg:Gl X x) (hm:X.mg x = some u) (r:RelV v u) (hd:(x == ("__debug__":Str)) = false:=by decide):JE X (.Name x pos) (tC v):=.mk (pe_glob hg hm r hd)
theorem j_bltn {x:Str} {v:V} {u:Value} (hg:Gl X x) (hm:X.mg x = none) (hv:bootBuiltins x = some u) (r:RelV v u) (hn:x ≠ "__name__":=by decide) (hd:(x == ("__debug__":Str)) = false:=by decide):JE X (.Name x pos) (tC v):=.mk (pe_bltn hg hm hv r hn hd)
theorem j_op {op:Operator} {r:R2} (ho:Irr (OpR X (binaryOp op) r)) (ha:JE X a ta) (hb:JE X b tb):JE X (.BinOp a op b pos) (tOp r ta tb):=.mk (pe_op ho.out ha.out hb.out)
theorem j_cmp {op:CmpOp} {r:R2} (ho:Irr (OpR X (compareOp op) r)) (ha:JE X a ta) (hb:JE X b tb) (hm:behindInMarks op b = false:=by first | exact nomark _ | rfl):JE X (.Compare a [op] [b] pos) (tOp r ta tb):=.mk (pe_cmpR ho.out ha.out hb.out hm)
theorem j_and (ha:JE X a ta) (hb:JE X (.BoolOp .And (b :: es) pos) tb):JE X (.BoolOp .And (a :: b :: es) pos) (mAndV ta tb):=.mk (pe_andM ha.out hb.out)
theorem j_or (ha:JE X a ta) (hb:JE X (.BoolOp .Or (b :: es) pos) tb):JE X (.BoolOp .Or (a :: b :: es) pos) (mOrV ta tb):=.mk (pe_orM ha.out hb.out)
theorem j_one {op:BoolOp} (h:JE X a ta):JE X (.BoolOp op [a] pos) ta:=.mk (pe_one h.out)
theorem j_not (ha:JE X a ta):JE X (.UnaryOp .Not a pos) (mNotV ta):=.mk (pe_notM ha.out)
theorem j_ife (hc:JT X c tA) (ha:JE X a ta) (hb:JE X b tb):JE X (.IfExp c a b pos) (tIf tA ta tb):=.mk (pe_ifExp hc.out ha.out hb.out)
theorem ja_nil:JA X [] tNil:=.mk pa_nil
theorem ja_cons (ha:JE X e te) (hr:JA X es t) (h:noStar e = true:=by rfl):JA X (e :: es) (tCons te t):=.mk (pa_consM ha.out hr.out h)
theorem j_tup {x1:Nat} (h:JA X es t):JE X (.Tuple es x1 pos) (tTup t):=.mk (pe_tup h.out)
theorem j_lst (h:JA X es t):JE X (.List es pos) (tLst t):=.mk (pe_lst h.out)
theorem jo_none:JO X none tNoPart:=.mk po_none
theorem jo_some (h:JE X e te):JO X (some e) (mPart te):=.mk (po_someM h.out)
theorem j_slice {r:V→Option Int→Option Int→Hp→VK→Prop} {lo hi:Option Expr} {tl th:TO} (hr:Irr (SlR X r)) (he:JE X e te) (hl:JO X lo tl) (hu:JO X hi th):JE X (.Subscript e (.Slice lo hi none p2) pos) (tSl r te tl th):=.mk (pe_slice hr.out he.out hl.out hu.out)
theorem j_ix {r:R2} (hr:Irr (IxR X r)) (ha:JE X a ta) (hb:JE X b tb) (hs:PlainIx b:=by exact fun _ _=>rfl):JE X (.Subscript a b pos) (tOp r ta tb):=.mk (pe_ix hr.out ha.out hb.out hs)
theorem j_def {k : Nat} {x : Str} {ps : List Str} {sp : Sp} (D : Def X.prog X.w X.K X.mg X.base k x ps sp) (hr : Room k X.A) (hg : Gl X x) (ha : JA X (e :: es) t) (hdb : (x == ("__debug__" : Str)) = false := by decide)
    (hst:noStars (e :: es) = true:=by rfl):JE X (.Call (.Name x p) (e :: es) [] pos) (fun σ H Q=>t σ H fun vs H1=>sp vs H1 Q E0):=.mk (pe_def D hr hg ha.out hdb hst)
theorem j_callB {x : Str} {id : String} {r : List V → Hp → VK → Prop} (hc : Irr (CallR X (.builtin id) r)) (hg : Gl X x) (hm : X.mg x = none) (hv : bootBuiltins x = some (.builtin id)) (ha : JA X (e :: es) t) (hn : x ≠ "__name__" := by decide) (hdb : (x == ("__debug__" : Str)) = false := by decide)
    (h:noStars (e :: es) = true:=by rfl):JE X (.Call (.Name x p) (e :: es) [] pos) (tCB r t):=.mk (pe_callBM hc.out hg hm hv ha.out hn hdb h)
theorem j_callTy {x : Str} {T : String} {r : List V → Hp → VK → Prop} (hc : Irr (CallR X (.type T) r)) (hg : Gl X x) (hm : X.mg x = none) (hv : bootBuiltins x = some (.type T)) (ha : JA X (e :: es) t) (hn : x ≠ "__name__" := by decide) (hdb : (x == ("__debug__" : Str)) = false := by decide)
    (h:noStars (e :: es) = true:=by rfl):JE X (.Call (.Name x p) (e :: es) [] pos) (tCB r t):=.mk (pe_callTyM hc.out hg hm hv ha.out hn hdb h)
theorem j_bm {name : Str} {T id : String} {r : V → List V → Hp → VK → Prop} {to : TE} (pa : PlainAttrs T) (slot : Slot T name id) (hty : typeOf (.builtin id) = pure (.type "method_descriptor")) (hm : Irr (MtR X id r)) (ho : JE X o to) (ha : JA X (e :: es) t) (hK : X.K = K := by rfl)
    (hsup:notSuper o = true:=by rfl) (h:noStars (e :: es) = true:=by rfl) (h30:(e :: es).length < 30:=by decide) (hline:(apos.endLine == cpos.line) = true:=by rfl) :
    JE X (.Call (.Attribute o name apos) (e :: es) [] cpos) (tBM K T r to t):=.mk (pe_bmK pa slot hty hm.out ho.out ha.out hK hsup h h30 hline)
theorem j_bm0 {name : Str} {T id : String} {r : V → List V → Hp → VK → Prop} {to : TE} (pa : PlainAttrs T) (slot : Slot T name id) (hty : typeOf (.builtin id) = pure (.type "method_descriptor")) (hm : Irr (MtR X id r)) (ho : JE X o to) (hK : X.K = K := by rfl)
    (hsup:notSuper o = true:=by rfl) (hline:(apos.endLine == cpos.line) = true:=by rfl):JE X (.Call (.Attribute o name apos) [] [] cpos) (tBM0 K T r to):=.mk (pe_bm0K pa slot hty hm.out ho.out hK hsup hline)
theorem jt_cmp {op:CmpOp} {r:R2} (ho:Irr (OpR X (compareOp op) r)) (ha:JE X a ta) (hb:JE X b tb) (hm:behindInMarks op b = false:=by first | exact nomark _ | rfl):JT X (.Compare a [op] [b] pos) (mTest (tOp r ta tb)):=.mk (pt_cmpM ho.out ha.out hb.out hm)
theorem jt_chain {op op' : CmpOp} {r r' : R2} (ho : Irr (OpR X (compareOp op) r)) (ho' : Irr (OpR X (compareOp op') r')) (ha : JE X a ta) (hb : JE X b tb) (hc : JE X c tc)
    (hm:lastMarks [op,op'] [b,c] = false:=by with_unfolding_all rfl):JT X (.Compare a [op,op'] [b,c] pos) (mTest (mChain r r' ta tb tc)):=.mk (by rw [mChain_eq]; exact pt_chainM ho.out ho'.out ha.out hb.out hc.out hm)
theorem jt_val (h:JE X e te) (he:∀ whole,isTrue e X.env whole = (do let v ← whole; standAt e.pos; holding [v] (truthy v)):=by intro _; rfl):JT X e (mTest te):=.mk (pt_valM h.out he)
theorem jt_not (ha:JT X a tA):JT X (.UnaryOp .Not a pos) (tNot tA):=.mk (pt_not ha.out)
theorem jw_and1 (ha:JT X a tA):JW X (.BoolOp .And [a] pos) tA:=.mk (pw_and1 ha.out)
theorem jw_or1 (ha:JT X a tA):JW X (.BoolOp .Or [a] pos) tA:=.mk (pw_or1 ha.out)
theorem jw_and (ha:JT X a tA) (hb:JW X (.BoolOp .And (b :: es) pos) tB'):JW X (.BoolOp .And (a :: b :: es) pos) (tAnd tA tB'):=.mk (pw_and ha.out hb.out)
theorem jw_or (ha:JT X a tA) (hb:JW X (.BoolOp .Or (b :: es) pos) tB'):JW X (.BoolOp .Or (a :: b :: es) pos) (tOr tA tB'):=.mk (pw_or ha.out hb.out)
theorem jw_t (h:JW X e tA):JT X e tA:=.mk h.out.pt
theorem ji_any (h:JE X e te) (hK:X.K = K:=by rfl):JI X tg e (iAny K te):=.mk (pi_any h.out hK)
theorem ji_rng1 (hg:Gl X "range") (hm:X.mg "range" = none) (ha:JA X [a] t) (h:noStar a = true:=by rfl):JI X tg (.Call (.Name "range" p) [a] [] pos) (mRng1 t):=.mk (pi_rng1 hg hm ha.out (starEach_cons h))
theorem jg_name {i:Nat} {x:Str} (hN:X.N.Nodup) (hi:X.N[i]? = some x) (hx:Loc X.env.scope x) (hf:X.fn x = true∨X.env.scope.names.lookup x = some .local:=by first | exact .inl rfl | exact .inr rfl | assumption):JG X (.Name x pos) (gName i):=.mk (pg_name hN hi hx hf)
theorem jgs_nil:JGs X [] gNil:=.mk pgs_nil
theorem jgs_cons {g:TG} {gs:TGs} (h1:JG X e g) (h2:JGs X es gs) (hs:(assignEach (e :: es) X.env).map (·.2) = assign e X.env :: (assignEach es X.env).map (·.2):=by rfl):JGs X (e :: es) (gCons g gs):=.mk (pgs_cons h1.out h2.out hs)
theorem jg_tup {k:Nat} {gs:TGs} {n:Nat} (hc:X.calm = true) (h:JGs X es gs) (hK:X.K = K:=by rfl) (hn:(assignEach es X.env).length = n:=by rfl) (hst:(assignEach es X.env).findIdx? (·.1) = none:=by rfl):JG X (.Tuple es k pos) (gTup K n gs):=.mk (pg_tupK hc h.out hK hn hst)
noncomputable abbrev JTs (X:Cx) (ifs:List Expr) (t:TT):Prop:=Irr (PTs X ifs t)
theorem jts_nil:JTs X [] tTrue:=.mk pts_nil
theorem jts_one (h:JT X c tA):JTs X [c] tA:=.mk (pts_one h.out)
theorem j_comp {N : List Str} {cap : List (Option Nat)} {scope : Scope} {ifs : List Expr} {wi : TI} {g : TG} (hc : X.calm = true) (S : CompScope X N cap scope) (hi : JI X tg it wi)
    (hg:∀ C s₀ H₀ ex,JG (cxComp X N scope C s₀ H₀ ex) tg g) (ht:∀ C s₀ H₀ ex,JTs (cxComp X N scope C s₀ H₀ ex) ifs tA) (he:∀ C s₀ H₀ ex,JE (cxComp X N scope C s₀ H₀ ex) e te)
    (hs:∀ x,foldedSetIterable it X.env x = pure x:=by intro _; rfl) :
    JE X (.ListComp e [⟨tg,it,ifs,0⟩] scope pos) (fun σ H Q=>tComp cap wi g tA te (fun D H'=>Q (.ref D) H') σ H) :=
  .mk (pe_comp hc S hi.out (fun C s₀ H₀ ex=>(hg C s₀ H₀ ex).out) (fun C s₀ H₀ ex=>(ht C s₀ H₀ ex).out) (fun C s₀ H₀ ex=>(he C s₀ H₀ ex).out) hs)
theorem js_comp {N : List Str} {cap : List (Option Nat)} {scope : Scope} {ifs : List Expr} {wi : TI} {g : TG} {i : Nat} {x : Str} (hc : X.calm = true) (S : CompScope X N cap scope) (hi : JI X tg it wi)
    (hg:∀ C s₀ H₀ ex,JG (cxComp X N scope C s₀ H₀ ex) tg g) (ht:∀ C s₀ H₀ ex,JTs (cxComp X N scope C s₀ H₀ ex) ifs tA) (he:∀ C s₀ H₀ ex,JE (cxComp X N scope C s₀ H₀ ex) e te)
    (hN:X.N.Nodup) (hix:X.N[i]? = some x) (hx:X.env.scope.names.lookup x = some .local) (hsw:swapsWith (.ListComp e [⟨tg,it,ifs,0⟩] scope pos) (some (.Name x pos')) spos.line X.env = pure true:=by rfl)
    (hs:∀ x,foldedSetIterable it X.env x = pure x:=by intro _; rfl) :
    JS X (.Assign [.Name x pos'] (.ListComp e [⟨tg,it,ifs,0⟩] scope pos) spos) (fun D σ H=>tComp cap wi g tA te (fun d H'=>D.nx (σ.set i (some (.ref d))) H') σ H) :=
  .mk (ps_comp hc S hi.out (fun C s₀ H₀ ex=>(hg C s₀ H₀ ex).out) (fun C s₀ H₀ ex=>(ht C s₀ H₀ ex).out) (fun C s₀ H₀ ex=>(he C s₀ H₀ ex).out) hN hix hx hsw hs)
theorem jss_nil:JSs X [] tNext:=.mk pss_nil
theorem jss_cons (h1:JS X st u) (h2:JSs X sts u'):JSs X (st :: sts) (tSeq u u'):=.mk (pss_cons h1.out h2.out)
theorem jss_one (h1:JS X st u):JSs X [st] u:=.mk (pss_one h1.out)
theorem js_set {i : Nat} {x : Str} (hN : X.N.Nodup) (hi : X.N[i]? = some x) (hx : Loc X.env.scope x) (he : JE X e te) (hs : swapsWith e (some (.Name x pos')) pos.line X.env = pure false := by rfl) (hf : X.fn x = true ∨ X.env.scope.names.lookup x = some .local := by first | exact .inl rfl | exact .inr rfl | assumption) :
    JS X (.Assign [.Name x pos'] e pos) (tAsg te (gName i)):=.mk (ps_set hN hi hx he.out hs hf)
theorem js_asg {g : TG} (he : JE X e te) (hg : JG X tg g) (hs : swapsWithSole [tg] e pos.line X.env = pure false := by rfl) (hw : swappedStores [tg] e X.env = pure none := by rfl)
    (h1:(assignEach [tg] X.env).map (·.2) = [assign tg X.env]:=by rfl):JS X (.Assign [tg] e pos) (tAsg te g):=.mk (ps_asg he.out hg.out hs hw h1)
theorem js_if (hc:JT X c tA) (ha:JSs X sts u) (hb:JSs X sts' u'):JS X (.If c sts sts' pos) (tIfS tA u u'):=.mk (ps_if hc.out ha.out hb.out)
theorem js_ret (he:JE X e te):JS X (.Return (some e) pos) (tRet te):=.mk (ps_ret he.out)
theorem js_expr (he:JE X e te) (hs:swapsWith e none pos.line X.env = pure false:=by rfl):JS X (.Expr e pos) (tDrop te):=.mk (ps_expr he.out hs)
theorem js_while (hp:PassesOwn (model X.prog X.w) X.A X.env X.xe) (hc:JT X c tA) (hb:JSs X sts u):JS X (.While c sts [] pos) (tWhile tA u):=.mk (ps_while hp hc.out hb.out)
theorem js_for {wi : TI} {g : TG} (hp : PassesOwn (model X.prog X.w) X.A X.env X.xe) (hc : X.calm = true) (hi : JI X tg it wi) (hg : JG X tg g) (hb : JSs X sts u)
    (hs:∀ x,foldedSetIterable it X.env x = pure x:=by intro _; rfl):JS X (.For tg it sts [] pos) (tFor wi g u):=.mk (ps_for hp hc hi.out hg.out hb.out hs)
end
theorem Raw.defJ {P : Program} {w : World} {K : PySem.W.Frag} {mg : Str → Option Value} {base : Heap} {x : Str} {st : Stmt} {N ps : List Str} {k : Nat} {sp : Sp} (R : Raw K mg x st ps) (S : FnScope N ps (defScope st)) (len : ∀ vs H Q E, sp vs H Q E → vs.length = ps.length)
    (hbody:∀ (f:Addr) (cdv:Value) (A:Around) (outer:List Env) (s:Shared) (H:Hp) (vs:List V) (Q:VK) (E:XK),Room k (A.deeper (envOfC x (defScope st) s.heap.objs.size f cdv))→sp vs H Q E →
      ∃ t,JSs (cxOf CX0 P w K mg base N x (defScope st) f cdv A outer s H E).nox (defBody st) t∧t { nx:=fun _ H'=>Q .non H',rt:=Q } (start N vs) H):Def P w K mg base (k + 1) x ps sp :=
  R.def S len fun f cdv A outer s H vs Q E hr h=>let ⟨t,h1,h2⟩:=hbody f cdv A outer s H vs Q E hr h; ⟨t,h1.out,h2⟩
end L2
namespace L2
open PySem PySem.Spec PyProof.Rows
inductive TyD (K:PySem.W.Frag) (H:Hp):V→String→Prop where
  | non:TyD K H .non "NoneType"
  | bl (x:Bool):TyD K H (.bl x) "bool"
  | int (i:Int):TyD K H (.int i) "int"
  | str (x:Str):TyD K H (.str x) "str"
  | list {a:Addr} {xs:List V} (e:SqL K H a xs):TyD K H (.ref a) "list"
  | tuple {a:Addr} {xs:List V} (e:SqT K H a xs):TyD K H (.ref a) "tuple"
theorem isinst_okD {X : Cx} {pins : List (Addr × Obj)} {σ : St} {H : Hp} {s : Shared} {A : Around} {E : Value → Shared → Prop} {Q : Value → Shared → Prop} {c : Value} {b : Bool} {x : V} {u : Value} {t : String} (I : Inv X pins σ H s) (rx : RelV x u) (ty : TyD X.K H x t) (e : PySem.W.kitOne X.K (.type t) c = some b) (h : ∀ tk, Q (.bool b) { s with toks := tk }) :
    wpAny (model X.prog X.w) A (call (.builtin "isinstance") [u,c]) Q E s:=by
  cases ty with
  | non=>exact isinst_ok I rx .non e h
  | bl y=>exact isinst_ok I rx (.bl y) e h
  | int i=>exact isinst_ok I rx (.int i) e h
  | str y=>exact isinst_ok I rx (.str y) e h
  | @list a xs ea =>
    cases (show u = Value.ref a from rx)
    obtain ⟨its,rv,⟨o,n,h1,h2,h3,h4⟩,hz⟩:=I.list ea
    exact PySem.W.kia_one PySem.W.kitx_list I.kIn ⟨o,h1,h2⟩ e (fun z=>nomatch z) h
  | @tuple a xs ea =>
    cases (show u = Value.ref a from rx)
    obtain ⟨its,rv,⟨o,h1,h2,n,h4⟩,hz⟩:=I.tuple ea
    exact PySem.W.kia_one PySem.W.kitx_tuple I.kIn ⟨o,h1,h2⟩ e (fun z=>nomatch z) h
noncomputable def gIsi (K:PySem.W.Frag):List V→Hp→VK→Prop:=fun xs H Q=>match xs with
  | [x,.ty Tn]=>∃ ty b,TyD K H x ty∧PySem.W.kitOne K (.type ty) (.type Tn) = some b∧Q (.bl b) H
  | _=>False
theorem c_isiD {X : Cx} {K : PySem.W.Frag} (hK : X.K = K := by rfl) : Irr (CallR X (.builtin "isinstance") (gIsi K)) := by
  refine .mk ?_
  subst hK
  intro pins s σ H xs us Q I r h
  unfold gIsi at h
  split at h
  · obtain ⟨ty, b, h1, h2, q⟩ := h
    obtain ⟨u, w', rfl, r1, r2⟩ := vals2 r
    cases r2
    exact isinst_okD I r1 h1 h2 fun tk => ⟨.bl b, H, I.tok tk, rfl, q⟩
  simp_all
end L2
namespace L2
open PySem PySem.Spec PyProof.Rows
noncomputable abbrev anyHO:HO:=.ext fun _=>True
noncomputable def Kn (H:Hp) (a:Addr) (o:Obj):Prop:=H a = some (.frz o anyHO)
theorem Kn.get {P:Program} {w:World} {H:Hp} {h:Heap} {a:Addr} {o:Obj} (k:Kn H a o) (x:HOk P w H h):h.get? a = some o:=(x a _ k).1
theorem ok_any {P:Program} {w:World} {H:Hp} {h:Heap} {a:Addr} {o:Obj} (e:h.get? a = some o):ObjOk P w H h a (.frz o anyHO):=⟨e,True.intro,⟨o,e⟩,fun _ _ _ _=>True.intro⟩
section
variable {P:Program} {w:World} {H H':Hp} {h h':Heap} {cs fs:List Addr}
end
structure CloScope (ps ls fr:List Str) (sc:Scope):Prop where
  kind:sc.kind = .function
  co:sc.isCoroutine = false
  gen:sc.isGenerator = false
  nd:(ps ++ ls ++ fr).Nodup
  par:∀ x ∈ ps,sc.names.lookup x = some .local
  nocell:∀ y ∈ sc.names,y.2 ≠ .cell
  fre:∀ x ∈ fr,sc.names.lookup x = some .free
  all:∀ y ∈ sc.names,y.2 = .free→y.1 ∈ fr
structure Made (H:Hp) (f:Addr) (name qual:Str) (st:Stmt) (cl:List (Str × Addr)):Prop where
  ex:∃ (doc pm:Value) (c':Addr) (ctv:Value) (oc:Obj) (vs:Array Value) (t:Tok),Kn H f (PySem.W.fnMade name qual (defArgs st) (defBody st) (defScope st) cl doc pm c' ctv)∧Kn H c' oc∧oc.data = .fields vs∧vs[1]? = some (.str qual t)
structure CloAt (H:Hp) (f:Addr) (name qual:Str) (st:Stmt) (fr:List Str) (cs:List Addr) (ws:List V):Prop where
  ex:∃ cl,Made H f name qual st cl∧(∀ x c,cl.lookup x = some c→∃ j:Nat,fr[j]? = some x∧cs[j]? = some c)∧∀ (j:Nat) x,fr[j]? = some x→∃ c,cl.lookup x = some c∧cs[j]? = some c
  cells:∀ (j:Nat) x,ws[j]? = some x→∃ c o u,cs[j]? = some c∧Kn H c o∧o.data = .cell (some u)∧RelV x u
  l1:cs.length = fr.length
  l2:ws.length = fr.length
  nd:cs.Nodup
end L2
namespace L2
open PySem PySem.Spec PyProof.Rows
structure FnV (P:Program) (w:World) (K:PySem.W.Frag) (mg:Str→Option Value) (base:Heap) (k:Nat) (f:Addr) (sp:Sp):Prop where
  fn:∀ vs H Q E,sp vs H Q E→∃ oc od fd sl,Kn H f ⟨oc,od,.func fd,sl⟩
  run:∀ (A:Around) (outer:List Env) (s:Shared) (H:Hp) (us:List Value) (vs:List V) (Q:VK) (E:XK),Room k A→Env0 P w K mg base A outer s H→Vals vs us→sp vs H Q E →
    codeAny (model P w) A (.call (.ref f) ⟨us,[]⟩) (CR CX0 outer P w H s Q E) s
section
variable {X:Cx} {e:Expr} {es:List Expr} {t:TA} {p pos:Pos}
end
structure TabOk (H:Hp) (Pt:Addr) (qs:List (Pos × Str)):Prop where
  ex:∃ l:List (Pos × Addr),H Pt = some (.tbl (triples l).toArray)∧∀ q ∈ l,∃ qual oc vs t,(q.1,qual) ∈ qs∧Kn H q.2 oc∧oc.data = .fields vs∧vs[1]? = some (.str qual t)
section
variable {X:Cx}
end
end L2
namespace L2
open PySem PySem.Spec PyProof.Rows
structure Froz (env:Env) (N:List Str) (σ:St) (fr:List Str) (cs:List Addr) (os:List Obj):Prop where
  l1:cs.length = fr.length
  l2:os.length = fr.length
  at_:∀ (j:Nat) x,fr[j]? = some x→∃ (c:Addr) (o:Obj) (i:Nat) (v:V) (u:Value),cs[j]? = some c∧os[j]? = some o∧env.cells.lookup x = some c∧N[i]? = some x∧σ[i]? = some (some v)∧o.data = .cell (some u)∧RelV v u
  nd:cs.Nodup
section
variable {X:Cx} {e:Expr} {es:List Expr} {t:TA} {p pos:Pos}
end
structure Only2 (ts:List (Addr × Addr)) (H:Hp):Prop where
  tabs:∀ q ∈ ts,H q.2 = some (.tbl #[])
  rest:∀ b,H b = none∨(∃ q ∈ ts,q.2 = b)∨∃ o xs,H b = some (.frz o (.lst xs))
end L2
namespace L2
open PySem PySem.Spec PyProof.Rows
section
variable {X:Cx} {e a:Expr} {es:List Expr} {t:TA} {ta te:TE} {p pos:Pos} {K:PySem.W.Frag}
noncomputable def mNeg (ta:TE):TE:=fun σ H Q=>ta σ H fun x H1=>match x with
  | .int i=>Q (.int (-i)) H1
  | _=>False
theorem j_neg (ha:JE X a ta):JE X (.UnaryOp .USub a pos) (mNeg ta):=by
  refine .mk ?_
  have h:=pe_un (pos:=pos) un_neg ha.out
  intro pins s σ H Q I q
  refine h pins s σ H Q I ?_
  unfold mNeg at q
  unfold tUn
  refine cast (congrArg (ta σ H) ?_) q
  funext x H1
  refine propext ⟨fun z=>?_,fun z=>?_⟩
  · split at z
    · exact ⟨_,rfl,z⟩
    · exact z.elim
  · obtain ⟨i,rfl,z⟩:=z
    exact z
noncomputable def dist (ns:List Int):List Int:=ns.foldl step_dedup []
theorem firstMet_dist (ns:List Int) (n:Nat) (hn:n = ns.length):firstMet (fun i=>ns.getD i 0) n = dist ns:=by
  unfold firstMet dist
  subst hn
  congr 1
  refine List.ext_getElem (by simp) fun i h1 h2=>?_
  simp [List.getD,h2]
theorem ints_vals:∀ {vs:List Value} {ns:List Int},Vals (ns.map V.int) vs→IntsAre vs ns
  | [],[],_=>.nil
  | [],n :: r,h=>by cases h
  | v :: vs,[],h=>by cases h
  | v :: vs,n :: r,h=>by
    cases h with
    | cons a b =>
      obtain ⟨t,rfl⟩:=a
      exact .cons n t (ints_vals b)
end
structure FunC (K:PySem.W.Frag) (x:Str) (st:Stmt) (f:Addr) (fd:FuncData) (c:Addr):Prop where
  ex:∃ (oc:Value) (od:Option Addr) (kV doc pm:Value) (an:Option Addr) (ct:Value) (osl:Array (Option Value)),
    fd = PySem.W.fnOf x x (defArgs st) (defBody st) (defScope st) .none kV doc pm an (.ref c) ct∧K.lookup f = some ⟨oc,od,.func fd,osl⟩∧PySem.W.codeIn K (.ref c) x = true
  kp:PySem.W.keepIn K (.ref f) = true
structure RawC (K:PySem.W.Frag) (mg:Str→Option Value) (x:Str) (st:Stmt) (ps:List Str) (c Pt:Addr):Prop where
  ex:∃ f fd,mg x = some (.ref f)∧FunC K x st f fd c∧∀ (us:List Value),us.length = ps.length→bindArgs fd ⟨us,[]⟩ = pure (ps.zip us)
  hd:PySem.W.codeHdIn K c Pt = true
end L2
namespace L2
open PySem
end L2
namespace L2
open PySem PySem.Spec PyProof.Rows
section
variable {X:Cx} {e k:Expr} {es:List Expr} {t:TA} {te tk:TE} {p pos p2:Pos} {K:PySem.W.Frag}
end
end L2
namespace L2
open PySem PySem.Spec PyProof.Rows
theorem Inv.turnedL {X : Cx} {pins : List (Addr × Obj)} {σ : List (Option V)} {H : Hp} {s : Shared} {h' : Heap} {t' : Nat} {fp : List Addr} (I : Inv X pins σ H s) (k : ∀ b o, b ∉ fp → s.heap.get? b = some o → h'.get? b = some o)
    (hf : ∀ b ∈ fp, FpOk X pins H b) : Inv X pins σ H { s with heap := h', toks := t' } := by
  have nit : ∀ b u, H b = some u → b ∉ fp := fun b u e z => by rw [(hf b z).1] at e; cases e
  refine I.step (g' := s.gens) (d' := s.drawn) (ch := fp) (fun b hb => ?_) (fun b o _ _ hc e _ => k b o hc e) (fun b o _ _ hc e _ => ⟨o.slots, k b o hc e⟩) (fun _ _ _ _ n => n)
    (fun b o hc e => ⟨o, k b o hc e⟩) (fun _ _ e => e) (fun _ _ _ e => e) (fun b ps e => ⟨#[], by simp_all⟩) (fun m hm => ?_) (fun b u e => ?_) I.bare
  · obtain ⟨_, f1, _, f3, f4, f5⟩ := hf b hb
    exact ⟨f3, f1, f4, f5⟩
  · obtain ⟨o, es, ep, ho, r⟩ := hm
    exact ⟨o, es, ep, k _ o (fun z => (hf _ z).2.1 rfl) ho, r⟩
  · refine (I.hok b u e).stay (fun c v hc q => k c v ?_ q) (fun _ q => q) fun _ _ q => q
    rcases hc with z | z
    · rw [z]; exact nit b u e
    · exact nit c _ z
section
variable {prog:Program} {w:World} {A:Around} {E:Value→Shared→Prop} {s:Shared}
theorem nextOf_tup_item {it l : Addr} {i : Nat} {items} {x : Value} {Q : Value → Shared → Prop} (hit : s.heap.IsTupleIter it l i)
    (hl : s.heap.IsTuple l items) (hx : items[i]? = some x)
    (hQ : ∀ h', h'.IsTupleIter it l (i + 1) → Heap.SameBut it s.heap h' → Q x { s with heap := h' }) :
    wpAny (model prog w) A (Builtin.SmallTypes.nextOf (.ref it)) Q E s := by
  obtain ⟨o, ho, hc, hd⟩ := id hit
  obtain ⟨ol, hol, _, nl, hdl⟩ := hl
  unfold Builtin.SmallTypes.nextOf
  refine wpAny_bind (wpAny_callSpecial?_slot (name := Str.ofString "__next__") hit.typeIs F.slot_tuple_iterator_next
    (wpAny_call_entry F.slot_tuple_iterator_next hit.typeIs F.entry_tuple_iterator_next ?_ (F.args_tuple_iterator_next_1 _)))
  show wpAny _ _ (field (.ref it) 0 >>= _) _ _ s
  refine wpAny_bind (wpAny_field ho hd (x := .ref l) rfl ?_)
  show wpAny _ _ (field (.ref it) 1 >>= _) _ _ s
  refine wpAny_bind (wpAny_field ho hd (x := .int i 0) rfl ?_)
  refine wpAny_bind (wpAny_seqItems hol hdl ?_)
  simp only [Int.toNat_natCast, hx]
  refine wpAny_bind (wpAny_setField ho hd (by simp) (wpAny_pure ⟨x, rfl, wpAny_pure (hQ _ ?_ (Heap.SameBut.update ..))⟩))
  exact ⟨_, Heap.get?_update_self _ ho (Obj.isFreed_of_fields (Obj.data_mapFields hd _)), (Obj.cls_mapFields ..).trans hc, by
    rw [Obj.data_mapFields hd]; simp [rawInt]⟩
theorem nextOf_tup_end {it l : Addr} {i : Nat} {items} {Q : Value → Shared → Prop} (hh : A.handled = none)
    (hit : s.heap.IsTupleIter it l i) (hl : s.heap.IsTuple l items) (hx : items[i]? = none)
    (hE : ∀ h' e, Heap.ExtBut it s.heap h' → (∃ o, h'.get? e = some o ∧ o.cls = .type "StopIteration") → E (.ref e) { s with heap := h' }) :
    wpAny (model prog w) A (Builtin.SmallTypes.nextOf (.ref it)) Q E s := by
  obtain ⟨o, ho, hc, hd⟩ := id hit
  obtain ⟨ol, hol, _, nl, hdl⟩ := hl
  unfold Builtin.SmallTypes.nextOf
  refine wpAny_bind (wpAny_callSpecial?_slot (name := Str.ofString "__next__") hit.typeIs F.slot_tuple_iterator_next
    (wpAny_call_entry F.slot_tuple_iterator_next hit.typeIs F.entry_tuple_iterator_next ?_ (F.args_tuple_iterator_next_1 _)))
  show wpAny _ _ (field (.ref it) 0 >>= _) _ _ s
  refine wpAny_bind (wpAny_field ho hd (x := .ref l) rfl ?_)
  show wpAny _ _ (field (.ref it) 1 >>= _) _ _ s
  refine wpAny_bind (wpAny_field ho hd (x := .int i 0) rfl ?_)
  show wpAny _ _ (seqItems? (.ref l) >>= _) _ _ s
  refine wpAny_bind (wpAny_seqItems hol hdl ?_)
  simp only [Int.toNat_natCast, hx]
  refine wpAny_bind (wpAny_rule (wpAny_bind (wpAny_setField ho hd (by simp) ?_)))
  show wpAny _ _ (newExc (.type "StopIteration") [] >>= _) _ _ _
  refine wpAny_bind ?_
  simp only [newExc, newTuple]
  refine wpAny_bind (wpAny_newObj_type ?_ (by size_fits))
  refine wpAny_bind (m := firstArgMember _ _) (wpAny_of_eq (a := Value.none) (by first | rfl | (simp only [firstArgMember]; rfl)) ?_)
  refine wpAny_newObj_type ?_ (by size_fits)
  simp only [raiseNew]
  refine wpAny_bind (wpAny_handled ?_)
  first | rw [show A.in1.handled = none from hh] | rw [hh]
  refine wpAny_bind (wpAny_pure (wpAny_throw ?_))
  exact hE _ _ (((Heap.SameBut.update ..).extBut.push _).push _) ⟨_, Heap.get?_push_size _ rfl, rfl⟩
noncomputable def ItAt (t:Bool) (h:Heap) (it a:Addr) (k:Nat):Prop:=match t with
  | true=>h.IsTupleIter it a k
  | false=>h.IsListIter it a k
noncomputable def SrcAt (t:Bool) (h:Heap) (a:Addr) (xs:Array Value):Prop:=match t with
  | true=>h.IsTuple a xs
  | false=>h.IsList a xs
noncomputable def itCls (t:Bool):String:=match t with
  | true=>"tuple_iterator"
  | false=>"list_iterator"
theorem ItAt.at {t:Bool} {h h':Heap} {it a:Addr} {k:Nat} (x:ItAt t h it a k) (e:∀ o,h.get? it = some o→h'.get? it = some o):ItAt t h' it a k:=by
  cases t with
  | true=>obtain ⟨o,ho,r⟩:=x; exact ⟨o,e o ho,r⟩
  | false=>obtain ⟨o,ho,r⟩:=x; exact ⟨o,e o ho,r⟩
theorem ItAt.obj {t:Bool} {h:Heap} {it a:Addr} {k:Nat} (x:ItAt t h it a k):∃ o,h.get? it = some o∧∀ v,o.data ≠ .cell v:=by
  cases t with
  | true=>obtain ⟨o,ho,_,d⟩:=x; exact ⟨o,ho,fun v z=>by rw [d] at z; cases z⟩
  | false=>obtain ⟨o,ho,_,d⟩:=x; exact ⟨o,ho,fun v z=>by rw [d] at z; cases z⟩
theorem SrcAt.at {t:Bool} {h h':Heap} {a:Addr} {xs:Array Value} (x:SrcAt t h a xs) (e:∀ o,h.get? a = some o→h'.get? a = some o):SrcAt t h' a xs:=by
  cases t with
  | true=>obtain ⟨o,ho,r⟩:=x; exact ⟨o,e o ho,r⟩
  | false=>obtain ⟨o,ho,r⟩:=x; exact ⟨o,e o ho,r⟩
theorem SrcAt.lt {t:Bool} {h:Heap} {a:Addr} {xs:Array Value} (x:SrcAt t h a xs):a < h.objs.size:=by
  cases t with
  | true=>obtain ⟨o,ho,_⟩:=x; exact Heap.lt_size ho
  | false=>obtain ⟨o,ho,_⟩:=x; exact Heap.lt_size ho
theorem nextOf_item {t : Bool} {it a : Addr} {k : Nat} {xs : Array Value} {x : Value} {Q : Value → Shared → Prop} (hit : ItAt t s.heap it a k) (hs : SrcAt t s.heap a xs) (hx : xs[k]? = some x)
    (hQ:∀ h',ItAt t h' it a (k + 1)→Heap.SameBut it s.heap h'→Q x { s with heap:=h' }):wpAny (model prog w) A (Builtin.SmallTypes.nextOf (.ref it)) Q E s:=by
  cases t with
  | true=>exact nextOf_tup_item hit hs hx hQ
  | false=>exact wpAny_nextOf_list_item hit hs hx hQ
theorem nextOf_end {t : Bool} {it a : Addr} {k : Nat} {xs : Array Value} {Q : Value → Shared → Prop} (hh : A.handled = none) (hit : ItAt t s.heap it a k) (hs : SrcAt t s.heap a xs) (hx : xs[k]? = none)
    (hE:∀ h' e,Heap.ExtBut it s.heap h'→(∃ o,h'.get? e = some o∧o.cls = .type "StopIteration")→E (.ref e) { s with heap:=h' }):wpAny (model prog w) A (Builtin.SmallTypes.nextOf (.ref it)) Q E s:=by
  cases t with
  | true=>exact nextOf_tup_end hh hit hs hx hE
  | false=>exact wpAny_nextOf_list_end hh hit hs hx hE
theorem pyIter_src {t : Bool} {a : Addr} {xs : Array Value} {Q : Value → Shared → Prop} (hs : SrcAt t s.heap a xs)
    (hQ:Q (.ref s.heap.objs.size) { s with heap:=s.heap.push { cls:=.type (itCls t),data:=.fields #[.ref a,.int 0 0] } }):wpAny (model prog w) A (pyIter (.ref a)) Q E s:=by
  cases t with
  | true=>exact wpAny_pyIter_tuple hs hQ
  | false=>exact wpAny_pyIter_list hs hQ
theorem ItAt.new {t:Bool} {h:Heap} {it a:Addr} (e:h.get? it = some { cls:=.type (itCls t),data:=.fields #[.ref a,.int 0 0] }):ItAt t h it a 0:=by
  cases t with
  | true=>exact ⟨_,e,rfl,rfl⟩
  | false=>exact ⟨_,e,rfl,rfl⟩
theorem zipN_item {t1 t2 : Bool} {z TI TO i1 i2 l1 l2 : Addr} {k1 k2 : Nat} {xs ys : Array Value} {x y a b : Value} {Q : Option Value → Shared → Prop} (D : ZipApart z TI TO i1 i2 l1 l2)
    (hz : IsZip s.heap z TI TO .none) (hTI : IsPair s.heap TI (.ref i1) (.ref i2)) (hTO : IsPair s.heap TO a b)
    (h1 : ItAt t1 s.heap i1 l1 k1) (h2 : ItAt t2 s.heap i2 l2 k2) (hl1 : SrcAt t1 s.heap l1 xs) (hl2 : SrcAt t2 s.heap l2 ys) (hx : xs[k1]? = some x) (hy : ys[k2]? = some y)
    (hQ : ∀ h', IsZip h' z TI TO (rawInt s.heap.objs.size) → IsPair h' TO x y → ItAt t1 h' i1 l1 (k1 + 1) → ItAt t2 h' i2 l2 (k2 + 1) → IsPair h' s.heap.objs.size x y → h'.objs.size = s.heap.objs.size + 1 →
      (∀ c o, c ≠ z → c ≠ TO → c ≠ i1 → c ≠ i2 → s.heap.get? c = some o → h'.get? c = some o) → Q (some (.ref s.heap.objs.size)) { s with heap := h' }) :
    wpAny (model prog w) A (pyNext (.ref z)) Q E s := by
  have hT : s.TypeIs (.ref z) "zip" := ⟨_, hz, rfl⟩
  unfold pyNext
  refine wpAny_bind (wpAny_attempt (wpAny_callSpecial?_slot (name := Str.ofString "__next__") hT F.slot_zip_next
    (wpAny_call_entry F.slot_zip_next hT F.entry_zip_next ?_ (F.args_zip_next_1 _))))
  show wpAny _ _ (field (.ref z) 2 >>= _) _ _ _
  refine wpAny_bind (wpAny_field hz rfl (x := .bool false) rfl ?_)
  show wpAny _ _ (field (.ref z) 3 >>= _) _ _ _
  refine wpAny_bind (wpAny_field hz rfl (x := .ref TI) rfl ?_)
  refine wpAny_bind (wpAny_seqItems hTI rfl ?_)
  show wpAny _ _ (Builtin.SmallTypes.ownedTupleIsFree (.ref z) >>= _) _ _ _
  refine wpAny_bind ?_
  unfold Builtin.SmallTypes.ownedTupleIsFree
  refine wpAny_bind (wpAny_field hz rfl (x := .none) rfl (wpAny_pure ?_))
  simp only [if_true]
  refine wpAny_bind (wpAny_rule ?_)
  refine wpAny_bind (wpAny_field hz rfl (x := .ref TO) rfl ?_)
  refine wpAny_bind (wpAny_setField_rec hz (by simp) fun h₁ hz₁ hs₁ => ?_)
  replace hz₁ : IsZip h₁ z TI TO .ellipsis := hz₁
  refine wpAny_bind ?_
  simp only [List.zipIdx_cons, List.zipIdx_nil, List.forIn_cons, List.forIn_nil]
  refine wpAny_bind (wpAny_bind (wpAny_onRaise ?_))
  show wpAny _ _ (Builtin.SmallTypes.nextOf (.ref i1) >>= _) _ _ _
  refine wpAny_bind (nextOf_item (h1.at fun o e => hs₁.extBut _ _ D.i1z e) (hl1.at fun o e => hs₁.extBut _ _ D.l1z e) hx fun h₂ h1₂ hs₂ => wpAny_pure ?_)
  have hTO₂ : IsPair h₂ TO a b := hs₂.extBut _ _ D.TOi1 (hs₁.extBut _ _ D.TOz hTO)
  refine wpAny_bind (wpAny_seqItems hTO₂ rfl ?_)
  refine wpAny_bind (wpAny_updateSeq_pair hTO₂ fun h₃ hTO₃ hs₃ => ?_)
  replace hTO₃ : IsPair h₃ TO x b := hTO₃
  refine wpAny_bind (wpAny_letGo (wpAny_pure ?_))
  refine wpAny_bind (wpAny_bind (wpAny_onRaise ?_))
  show wpAny _ _ (Builtin.SmallTypes.nextOf (.ref i2) >>= _) _ _ _
  refine wpAny_bind (nextOf_item (h2.at fun o e => hs₃.extBut _ _ D.TOi2.symm (hs₂.extBut _ _ D.i12.symm (hs₁.extBut _ _ D.i2z e)))
    (hl2.at fun o e => hs₃.extBut _ _ D.l2TO (hs₂.extBut _ _ D.l2i1 (hs₁.extBut _ _ D.l2z e))) hy fun h₄ h2₄ hs₄ => wpAny_pure ?_)
  have hTO₄ : IsPair h₄ TO x b := hs₄.extBut _ _ D.TOi2 hTO₃
  refine wpAny_bind (wpAny_seqItems hTO₄ rfl ?_)
  refine wpAny_bind (wpAny_updateSeq_pair hTO₄ fun h₅ hTO₅ hs₅ => ?_)
  replace hTO₅ : IsPair h₅ TO x y := hTO₅
  refine wpAny_bind (wpAny_letGo (wpAny_pure (wpAny_pure ?_)))
  refine wpAny_bind (wpAny_seqItems hTO₅ rfl ?_)
  refine wpAny_bind (wpAny_newTuple ?_)
  have hsz : h₅.objs.size = s.heap.objs.size := by rw [hs₅.1, hs₄.1, hs₃.1, hs₂.1, hs₁.1]
  have hz₅ : IsZip h₅ z TI TO .ellipsis := hs₅.extBut _ _ D.TOz.symm (hs₄.extBut _ _ D.i2z.symm (hs₃.extBut _ _ D.TOz.symm (hs₂.extBut _ _ D.i1z.symm hz₁)))
  have hk₅ : ∀ c o, c ≠ z → c ≠ TO → c ≠ i1 → c ≠ i2 → s.heap.get? c = some o → h₅.get? c = some o := fun c o c1 c2 c3 c4 e =>
    hs₅.extBut _ _ c2 (hs₄.extBut _ _ c4 (hs₃.extBut _ _ c2 (hs₂.extBut _ _ c3 (hs₁.extBut _ _ c1 e))))
  have h1₅ : ItAt t1 h₅ i1 l1 (k1 + 1) := h1₂.at fun o e => hs₅.extBut _ _ D.TOi1.symm (hs₄.extBut _ _ D.i12 (hs₃.extBut _ _ D.TOi1.symm e))
  have h2₅ : ItAt t2 h₅ i2 l2 (k2 + 1) := h2₄.at fun o e => hs₅.extBut _ _ D.TOi2.symm e
  have hzlt : z < h₅.objs.size := Heap.lt_size hz₅
  refine wpAny_bind ?_
  unfold Builtin.SmallTypes.ownedTupleHandOut
  have hz₆ : IsZip (h₅.push { cls := .type "tuple", data := .seq #[x, y] }) z TI TO .ellipsis := Heap.get?_push_of_some _ hz₅
  refine wpAny_bind (wpAny_setField_rec hz₆ (by simp) fun h₇ hz₇ hs₇ => ?_)
  replace hz₇ : IsZip h₇ z TI TO (rawInt h₅.objs.size) := hz₇
  refine wpAny_setField_rec hz₇ (by simp) fun h₈ hz₈ hs₈ => ?_
  replace hz₈ : IsZip h₈ z TI TO (rawInt h₅.objs.size) := hz₈
  have up : ∀ c o, c ≠ z → h₅.get? c = some o → h₈.get? c = some o := fun c o c1 e => hs₈.extBut _ _ c1 (hs₇.extBut _ _ c1 (Heap.get?_push_of_some _ e))
  have hT₈ : IsPair h₈ h₅.objs.size x y := hs₈.extBut _ _ (Nat.ne_of_gt hzlt) (hs₇.extBut _ _ (Nat.ne_of_gt hzlt) (Heap.get?_push_size _ rfl))
  have hz8 : h₈.objs.size = h₅.objs.size + 1 := by rw [hs₈.1, hs₇.1, Heap.size_push]
  rw [hsz] at hz₈ hT₈ hz8
  refine wpAny_pure ⟨_, rfl, ?_⟩
  refine wpAny_pure ?_
  show Q (some (.ref h₅.objs.size)) _
  rw [hsz]
  exact hQ h₈ hz₈ (up _ _ D.TOz hTO₅) (h1₅.at fun o e => up _ o D.i1z e) (h2₅.at fun o e => up _ o D.i2z e) hT₈ hz8 fun c o c1 c2 c3 c4 e => up c o c1 (hk₅ c o c1 c2 c3 c4 e)
theorem zipN_end {t1 t2 : Bool} {z TI TO i1 i2 l1 l2 : Addr} {k1 k2 : Nat} {xs ys : Array Value} {a b : Value} {Q : Option Value → Shared → Prop} (hh : A.handled = none) (D : ZipApart z TI TO i1 i2 l1 l2)
    (hz:IsZip s.heap z TI TO .none) (hTI:IsPair s.heap TI (.ref i1) (.ref i2)) (hTO:IsPair s.heap TO a b)
    (h1:ItAt t1 s.heap i1 l1 k1) (h2:ItAt t2 s.heap i2 l2 k2) (hl1:SrcAt t1 s.heap l1 xs) (hl2:SrcAt t2 s.heap l2 ys) (hend:xs[k1]? = none∨ys[k2]? = none)
    (hQ:∀ h',(∀ c o,c ≠ z→c ≠ TO→c ≠ i1→c ≠ i2→s.heap.get? c = some o→h'.get? c = some o)→Q none { s with heap:=h' }):wpAny (model prog w) A (pyNext (.ref z)) Q E s:=by
  have hT:s.TypeIs (.ref z) "zip":=⟨_,hz,rfl⟩
  have hE : ∀ h' e, (∀ c o, c ≠ z → c ≠ TO → c ≠ i1 → c ≠ i2 → s.heap.get? c = some o → h'.get? c = some o) → (∃ o, h'.get? e = some o ∧ o.cls = .type "StopIteration") →
      wpAny (model prog w) A (do if (← isInstance (.ref e) (.type "StopIteration")) then pure none else throw (.ref e)) Q E { s with heap:=h' }:=fun h' e hk he=>by
    obtain ⟨o,ho,hc⟩:=he
    exact wpAny_bind (wpAny_isInstance (T:="StopIteration") (b:=true) ⟨o,ho,hc⟩ isSubtype_stop (wpAny_pure (hQ _ hk)))
  unfold pyNext
  refine wpAny_bind (wpAny_attempt (wpAny_callSpecial?_slot (name:=Str.ofString "__next__") hT F.slot_zip_next
    (wpAny_call_entry F.slot_zip_next hT F.entry_zip_next ?_ (F.args_zip_next_1 _))))
  show wpAny _ _ (field (.ref z) 2 >>= _) _ _ _
  refine wpAny_bind (wpAny_field hz rfl (x:=.bool false) rfl ?_)
  show wpAny _ _ (field (.ref z) 3 >>= _) _ _ _
  refine wpAny_bind (wpAny_field hz rfl (x:=.ref TI) rfl ?_)
  refine wpAny_bind (wpAny_seqItems hTI rfl ?_)
  show wpAny _ _ (Builtin.SmallTypes.ownedTupleIsFree (.ref z) >>= _) _ _ _
  refine wpAny_bind ?_
  unfold Builtin.SmallTypes.ownedTupleIsFree
  refine wpAny_bind (wpAny_field hz rfl (x:=.none) rfl (wpAny_pure ?_))
  simp only [if_true]
  refine wpAny_bind (wpAny_rule ?_)
  refine wpAny_bind (wpAny_field hz rfl (x:=.ref TO) rfl ?_)
  refine wpAny_bind (wpAny_setField_rec hz (by simp) fun h₁ hz₁ hs₁=>?_)
  replace hz₁:IsZip h₁ z TI TO .ellipsis:=hz₁
  refine wpAny_bind ?_
  simp only [List.zipIdx_cons,List.zipIdx_nil,List.forIn_cons,List.forIn_nil]
  refine wpAny_bind (wpAny_bind (wpAny_onRaise ?_))
  show wpAny _ _ (Builtin.SmallTypes.nextOf (.ref i1) >>= _) _ _ _
  cases hx:xs[k1]? with
  | none =>
    refine wpAny_bind (nextOf_end hh (h1.at fun o e=>hs₁.extBut _ _ D.i1z e) (hl1.at fun o e=>hs₁.extBut _ _ D.l1z e) hx fun h₂ e hs₂ he=>?_)
    obtain ⟨oe,hoe,hce⟩:=he
    have hz₂:IsZip h₂ z TI TO .ellipsis:=hs₂ _ _ D.i1z.symm hz₁
    have hez:e ≠ z:=fun x=>by subst x; rw [hz₂] at hoe; cases hoe; simp at hce
    refine wpAny_setField_rec hz₂ (by simp) fun h₃ _ hs₃=>hE h₃ e (fun c o c1 _ c3 _ x=>hs₃.extBut _ _ c1 (hs₂ _ _ c3 (hs₁.extBut _ _ c1 x))) ⟨oe,hs₃.extBut _ _ hez hoe,hce⟩
  | some x =>
    have hy:ys[k2]? = none:=by rcases hend with h | h; rw [hx] at h; cases h; exact h
    refine wpAny_bind (nextOf_item (h1.at fun o e=>hs₁.extBut _ _ D.i1z e) (hl1.at fun o e=>hs₁.extBut _ _ D.l1z e) hx fun h₂ h1₂ hs₂=>wpAny_pure ?_)
    have hTO₂:IsPair h₂ TO a b:=hs₂.extBut _ _ D.TOi1 (hs₁.extBut _ _ D.TOz hTO)
    refine wpAny_bind (wpAny_seqItems hTO₂ rfl ?_)
    refine wpAny_bind (wpAny_updateSeq_pair hTO₂ fun h₃ hTO₃ hs₃=>?_)
    refine wpAny_bind (wpAny_letGo (wpAny_pure ?_))
    refine wpAny_bind (wpAny_bind (wpAny_onRaise ?_))
    show wpAny _ _ (Builtin.SmallTypes.nextOf (.ref i2) >>= _) _ _ _
    refine wpAny_bind (nextOf_end hh (h2.at fun o e=>hs₃.extBut _ _ D.TOi2.symm (hs₂.extBut _ _ D.i12.symm (hs₁.extBut _ _ D.i2z e)))
      (hl2.at fun o e=>hs₃.extBut _ _ D.l2TO (hs₂.extBut _ _ D.l2i1 (hs₁.extBut _ _ D.l2z e))) hy fun h₄ e hs₄ he=>?_)
    obtain ⟨oe,hoe,hce⟩:=he
    have hz₄:IsZip h₄ z TI TO .ellipsis:=hs₄ _ _ D.i2z.symm (hs₃.extBut _ _ D.TOz.symm (hs₂.extBut _ _ D.i1z.symm hz₁))
    have hez:e ≠ z:=fun x=>by subst x; rw [hz₄] at hoe; cases hoe; simp at hce
    refine wpAny_setField_rec hz₄ (by simp) fun h₅ _ hs₅=>hE h₅ e (fun c o c1 c2 c3 c4 x=>hs₅.extBut _ _ c1 (hs₄ _ _ c4 (hs₃.extBut _ _ c2 (hs₂.extBut _ _ c3 (hs₁.extBut _ _ c1 x))))) ⟨oe,hs₅.extBut _ _ hez hoe,hce⟩
end
noncomputable def zipI (t1:Bool) (h:Heap) (l1:Addr):Heap:=h.push { cls:=.type (itCls t1),data:=.fields #[.ref l1,.int 0 0] }
noncomputable def zipJ (t1 t2:Bool) (h:Heap) (l1 l2:Addr):Heap:=(zipI t1 h l1).push { cls:=.type (itCls t2),data:=.fields #[.ref l2,.int 0 0] }
noncomputable def zipK (t1 t2:Bool) (h:Heap) (l1 l2:Addr):Heap:=(zipJ t1 t2 h l1 l2).push { cls:=.type "tuple",data:=.seq #[.ref h.objs.size,.ref (zipI t1 h l1).objs.size] }
noncomputable def zipL (t1 t2:Bool) (h:Heap) (l1 l2:Addr):Heap:=(zipK t1 t2 h l1 l2).push { cls:=.type "tuple",data:=.seq #[.none,.none] }
noncomputable def zipM (t1 t2:Bool) (h:Heap) (l1 l2:Addr):Heap:=(zipL t1 t2 h l1 l2).push { cls:=.type "zip",data:=.fields #[.none,.bool false,.bool false,.ref (zipJ t1 t2 h l1 l2).objs.size,.ref (zipK t1 t2 h l1 l2).objs.size] }
theorem meets_zip (t1 t2 : Bool) (l1 l2 : Addr) (xs ys : Array Value) :
    Meets (Builtin.«zip.__new__» ⟨[.type "zip",.ref l1,.ref l2],[]⟩) (fun _ R s=>SrcAt t1 s.heap l1 xs∧SrcAt t2 s.heap l2 ys ∧
      R (.ok (.ret (.ref (zipL t1 t2 s.heap l1 l2).objs.size))) { s with heap:=zipM t1 t2 s.heap l1 l2 }) :=
  .of_wp fun prog w A R s h=>by
    obtain ⟨hp,g,d,tk,os⟩:=s; obtain ⟨hl1,hl2,h⟩:=h
    have hsub:=sub_zip
    have hL1:SrcAt t1 (Shared.heap ⟨hp,g,d,tk,os⟩) l1 xs:=hl1
    have hL2:SrcAt t2 (Shared.heap ⟨hp.push { cls:=.type (itCls t1),data:=.fields #[.ref l1,.int 0 0] },g,d,tk,os⟩) l2 ys:=hl2.at fun o e=>Heap.get?_push_of_some _ e
    wp_walk using pyIter_src hL1,pyIter_src hL2
    exact ⟨_,rfl,h⟩
end L2
namespace L2
open PySem PySem.Spec PyProof.Rows
section
variable {prog:Program} {w:World} {A:Around} {E:Value→Shared→Prop} {s:Shared}
theorem call_zip {t1 t2 : Bool} {l1 l2 : Addr} {xs ys : Array Value} {Q : Value → Shared → Prop} (hl1 : SrcAt t1 s.heap l1 xs) (hl2 : SrcAt t2 s.heap l2 ys)
    (h:∀ h',IsZip h' (s.heap.objs.size + 4) (s.heap.objs.size + 2) (s.heap.objs.size + 3) .none→IsPair h' (s.heap.objs.size + 2) (.ref s.heap.objs.size) (.ref (s.heap.objs.size + 1)) →
      IsPair h' (s.heap.objs.size + 3) .none .none→ItAt t1 h' s.heap.objs.size l1 0→ItAt t2 h' (s.heap.objs.size + 1) l2 0 →
      (∀ c o,s.heap.get? c = some o→h'.get? c = some o)→Q (.ref (s.heap.objs.size + 4)) { s with heap:=h' }) :
    wpAny (model prog w) A (call (.type "zip") [.ref l1,.ref l2]) Q E s:=by
  refine callType_new F.called_zip (by decide) (F.typeCall_zip_2 _ _) (F.newCall_zip_2 _ _) (fun obj=>F.args_object_init_3 obj _ _) F.entry_zip_new
    (meets_zip t1 t2 l1 l2 xs ys) ⟨hl1,hl2,?_⟩
  have z1:(zipI t1 s.heap l1).objs.size = s.heap.objs.size + 1:=Heap.size_push ..
  have z2:(zipJ t1 t2 s.heap l1 l2).objs.size = s.heap.objs.size + 2:=by rw [zipJ,Heap.size_push,z1]
  have z3:(zipK t1 t2 s.heap l1 l2).objs.size = s.heap.objs.size + 3:=by rw [zipK,Heap.size_push,z2]
  have z4:(zipL t1 t2 s.heap l1 l2).objs.size = s.heap.objs.size + 4:=by rw [zipL,Heap.size_push,z3]
  have g5:(zipM t1 t2 s.heap l1 l2).get? (zipL t1 t2 s.heap l1 l2).objs.size = some _:=Heap.get?_push_size _ rfl
  have g4:(zipM t1 t2 s.heap l1 l2).get? (zipK t1 t2 s.heap l1 l2).objs.size = some _:=Heap.get?_push_of_some _ (Heap.get?_push_size _ rfl)
  have g3:(zipM t1 t2 s.heap l1 l2).get? (zipJ t1 t2 s.heap l1 l2).objs.size = some _:=Heap.get?_push_of_some _ (Heap.get?_push_of_some _ (Heap.get?_push_size _ rfl))
  have g2:(zipM t1 t2 s.heap l1 l2).get? (zipI t1 s.heap l1).objs.size = some _:=Heap.get?_push_of_some _ (Heap.get?_push_of_some _ (Heap.get?_push_of_some _ (Heap.get?_push_size _ rfl)))
  have g1:(zipM t1 t2 s.heap l1 l2).get? s.heap.objs.size = some _:=Heap.get?_push_of_some _ (Heap.get?_push_of_some _ (Heap.get?_push_of_some _ (Heap.get?_push_of_some _ (Heap.get?_push_size _ rfl))))
  show _∧_
  rw [z2,z3,z4] at g5
  rw [z1,z2] at g3
  rw [z3] at g4
  rw [z1] at g2
  rw [z4]
  exact ⟨⟨_,g5,rfl⟩,h _ g5 g3 g4 (ItAt.new g1) (ItAt.new g2) fun c o x =>
    Heap.get?_push_of_some _ (Heap.get?_push_of_some _ (Heap.get?_push_of_some _ (Heap.get?_push_of_some _ (Heap.get?_push_of_some _ x))))⟩
end
noncomputable def SqA (t:Bool) (K:PySem.W.Frag) (H:Hp) (a:Addr) (xs:List V):Prop:=match t with
  | true=>SqT K H a xs
  | false=>SqL K H a xs
theorem Inv.src {X:Cx} {pins:List (Addr × Obj)} {σ:List (Option V)} {H:Hp} {s:Shared} {t:Bool} {a:Addr} {xs:List V} (I:Inv X pins σ H s) (h:SqA t X.K H a xs):∃ its:List Value,Vals xs its∧SrcAt t s.heap a its.toArray:=by
  cases t with
  | true=>obtain ⟨its,rv,p,_⟩:=I.tuple h; exact ⟨its,rv,p⟩
  | false=>obtain ⟨its,rv,p,_⟩:=I.list h; exact ⟨its,rv,p.isList⟩
theorem Inv.src_inj {X:Cx} {pins:List (Addr × Obj)} {σ:List (Option V)} {H:Hp} {s:Shared} {t:Bool} {a:Addr} {xs ys:List V} (I:Inv X pins σ H s) (h:SqA t X.K H a xs) (h':SqA t X.K H a ys):xs = ys:=by
  cases t with
  | true=>exact I.tuple_inj h h'
  | false=>exact I.list_inj h h'
noncomputable def Itz (K:PySem.W.Frag) (t1 t2:Bool) (a b:Addr):It :=
  ⟨fun i H=>∃ xs x ys y,SqA t1 K H a xs∧xs[i]? = some x∧SqA t2 K H b ys∧ys[i]? = some y,
   fun i H v H'=>∃ T x y,(∀ xs,SqA t1 K H a xs→xs[i]? = some x)∧(∀ ys,SqA t2 K H b ys→ys[i]? = some y)∧H T = none∧v = .ref T∧H' = upd H T (.tup [x,y]),
   fun i H=>∃ xs ys,SqA t1 K H a xs∧SqA t2 K H b ys∧(xs.length ≤ i∨ys.length ≤ i)⟩
theorem turn_zip {P : Program} {w : World} {K : PySem.W.Frag} {elts : List Expr} {x1} {pos : Pos} {t1 t2 : Bool} {a b z TI TO i1 i2 : Addr} (D : ZipApart z TI TO i1 i2 a b) :
    Turn P w K (.Tuple elts x1 pos) (Itz K t1 t2 a b) [z,TI,TO,i1,i2] z (fun i h=>IsZip h z TI TO .none∧IsPair h TI (.ref i1) (.ref i2)∧(∃ u v,IsPair h TO u v)∧ItAt t1 h i1 a i∧ItAt t2 h i2 b i) where
  mem:=by simp
  obj:=by
    rintro i h ⟨hz,hTI,⟨u,v,hTO⟩,h1,h2⟩ c hc
    simp only [List.mem_cons,List.not_mem_nil,or_false] at hc
    rcases hc with rfl | rfl | rfl | rfl | rfl
    · exact ⟨_,hz,fun v z=>by cases z⟩
    · exact ⟨_,hTI,fun v z=>by cases z⟩
    · exact ⟨_,hTO,fun v z=>by cases z⟩
    · exact h1.obj
    · exact h2.obj
  keep:=by
    rintro i h h' ⟨hz,hTI,⟨u,v,hTO⟩,h1,h2⟩ k
    exact ⟨k z (by simp) _ hz,k TI (by simp) _ hTI,⟨u,v,k TO (by simp) _ hTO⟩,h1.at fun o e=>k i1 (by simp) o e,h2.at fun o e=>k i2 (by simp) o e⟩
  item:=by
    rintro X hP hw hK hc i pins s σ H E I hf ⟨hz,hTI,⟨u,v,hTO⟩,h1,h2⟩ ⟨xs,x,ys,y,q1,hx,q2,hy⟩
    subst hP hw hK
    obtain ⟨its1,rv1,p1⟩:=I.src q1
    obtain ⟨its2,rv2,p2⟩:=I.src q2
    obtain ⟨ux,hux,rx⟩:=rv1.get hx
    obtain ⟨uy,huy,ry⟩:=rv2.get hy
    refine zipN_item D hz hTI hTO h1 h2 p1 p2 (x:=ux) (y:=uy) (by simpa using hux) (by simpa using huy) fun h' a1 a2 a3 a4 a5 a6 a7=>?_
    have hT:H s.heap.objs.size = none:=I.hok.fresh (Nat.le_refl _)
    have I1:Inv X pins σ (upd H s.heap.objs.size (.tup [x,y])) { s with heap:=s.heap.push { cls:=.type "tuple",data:=.seq [ux,uy].toArray } } :=
      I.laid (t':=s.toks) (fun b o e=>Heap.get?_push_of_some _ e) (Nat.le_refl _) (show ObjOk X.prog X.w _ _ _ (.tup [x,y]) from ⟨by show 2 ≤ sizeLine; decide,[ux,uy],.cons rx (.cons ry .nil),IsTup.new _ _⟩)
    have hlt:∀ c ∈ [z,TI,TO,i1,i2],c < s.heap.objs.size:=by
      intro c hc
      simp only [List.mem_cons,List.not_mem_nil,or_false] at hc
      rcases hc with rfl | rfl | rfl | rfl | rfl
      · exact Heap.lt_size hz
      · exact Heap.lt_size hTI
      · exact Heap.lt_size hTO
      · obtain ⟨o,e,_⟩:=h1.obj; exact Heap.lt_size e
      · obtain ⟨o,e,_⟩:=h2.obj; exact Heap.lt_size e
    have hf':∀ c ∈ [z,TI,TO,i1,i2],FpOk X pins (upd H s.heap.objs.size (.tup [x,y])) c:=fun c hc=>by
      obtain ⟨f0,fr⟩:=hf c hc
      exact ⟨by rw [upd_ne (Nat.ne_of_lt (hlt c hc))]; exact f0,fr⟩
    have kept:∀ c o,c ∉ [z,TI,TO,i1,i2]→(s.heap.push { cls:=.type "tuple",data:=.seq [ux,uy].toArray }).get? c = some o→h'.get? c = some o:=by
      intro c o hc e
      have hc':c ≠ z∧c ≠ TI∧c ≠ TO∧c ≠ i1∧c ≠ i2:=by simpa using hc
      by_cases hn:c = s.heap.objs.size
      · subst hn
        have e0:(s.heap.push { cls:=.type "tuple",data:=.seq [ux,uy].toArray }).get? s.heap.objs.size = some { cls:=.type "tuple",data:=.seq [ux,uy].toArray }:=Heap.get?_push_size _ rfl
        rw [e0] at e
        cases e
        exact a5
      · have e1 : s.heap.get? c = some o := by
          rw [Heap.get?_push_ne _ _ _ hn] at e
          exact e
        exact a7 c o hc'.1 hc'.2.2.1 hc'.2.2.2.1 hc'.2.2.2.2 e1
    have I2:Inv X pins σ (upd H s.heap.objs.size (.tup [x,y])) { s with heap:=h' }:=I1.turnedL (t':=s.toks) kept hf'
    refine ⟨_,rfl,?_⟩
    refine wpAny_letOwnedTupleGo_zip a1 fun h2' hz2 hs2=>?_
    have I3:Inv X pins σ (upd H s.heap.objs.size (.tup [x,y])) { s with heap:=h2' }:=Inv.turnedL (s:={ s with heap:=h' }) (h':=h2') (t':=s.toks) (fp:=[z,TI,TO,i1,i2]) I2 (fun c o hc e=>hs2.extBut _ _ (fun q=>hc (by simp [q])) e) hf'
    refine ⟨.ref s.heap.objs.size,_,I3,rfl,⟨_,x,y,fun zs hq=>by rw [I.src_inj hq q1]; exact hx,fun zs hq=>by rw [I.src_inj hq q2]; exact hy,hT,rfl,rfl⟩,?_,fun c hc=>(hf' c hc).1⟩
    exact ⟨hz2,hs2.extBut _ _ D.TIz (a7 _ _ D.TIz D.TITO D.TIi1 D.TIi2 hTI),⟨_,_,hs2.extBut _ _ D.TOz a2⟩,a3.at fun o e=>hs2.extBut _ _ D.i1z e,a4.at fun o e=>hs2.extBut _ _ D.i2z e⟩
  done:=by
    rintro X hP hw hK hc i pins s σ H E I hf ⟨hz,hTI,⟨u,v,hTO⟩,h1,h2⟩ ⟨xs,ys,q1,q2,hend⟩
    subst hP hw hK
    obtain ⟨its1,rv1,p1⟩:=I.src q1
    obtain ⟨its2,rv2,p2⟩:=I.src q2
    have l1:=rv1.length
    have l2:=rv2.length
    refine zipN_end (I.ok.hd hc) D hz hTI hTO h1 h2 p1 p2 (by simp; lia) fun h' hk=>⟨rfl,I.turnedL (t':=s.toks) (fp:=[z,TI,TO,i1,i2]) (fun c o hc e=>?_) hf⟩
    have hc':c ≠ z∧c ≠ TI∧c ≠ TO∧c ≠ i1∧c ≠ i2:=by simpa using hc
    exact hk c o hc'.1 hc'.2.2.1 hc'.2.2.2.1 hc'.2.2.2.2 e
  self:=fun _ _ _ _ _ st h=>wpAny_pyIter_zip st.1 h
section
variable {X:Cx} {K:PySem.W.Frag}
noncomputable def iZip (K:PySem.W.Frag) (ta:TA):TI:=fun σ H R=>ta σ H fun vs H1=>match vs with
  | [.ref a,.ref b]=>∃ t1 t2,(∃ xs,SqA t1 K H1 a xs)∧(∃ ys,SqA t2 K H1 b ys)∧R (Itz K t1 t2 a b) H1
  | _=>False
theorem pi_zip {a b : Expr} {ta : TA} {p pos : Pos} {elts : List Expr} {x1} {pos' : Pos} (hg : Gl X "zip") (hm : X.mg "zip" = none) (ha : PA X [a, b] ta) (hK : X.K = K := by rfl) (hs : starEach [a, b] X.env = [(false, eval a X.env), (false, eval b X.env)] := by rfl) (hs2 : starEach [b] X.env = [(false, eval b X.env)] := by rfl) :
    PI X (.Tuple elts x1 pos') (.Call (.Name "zip" p) [a,b] [] pos) (iZip K ta):=by
  subst hK
  intro pins s σ H R I h
  refine Call_ (ld_blt I hg hm boot_zip (PyProof.Rows.callWith_type1 (thn (ha pos pins s σ H _ I h) fun us s1 ⟨vs,H1,I1,r1,q1⟩=>?_) (by rw [hs,hs2]) (by rw [hs2]; rfl)))
  try dsimp only at q1
  split at q1
  · obtain ⟨u,u',rfl,r,r'⟩:=vals2 r1
    cases r
    cases r'
    obtain ⟨t1,t2,⟨xs,hx⟩,⟨ys,hy⟩,q⟩:=q1
    obtain ⟨its1,rv1,p1⟩:=I1.src hx
    obtain ⟨its2,rv2,p2⟩:=I1.src hy
    refine call_zip p1 p2 fun h' hz hTI hTO h1 h2 hk=>?_
    refine wpAny_pyIter_zip hz ?_
    refine ⟨_,[s1.heap.objs.size + 4,s1.heap.objs.size + 2,s1.heap.objs.size + 3,s1.heap.objs.size,s1.heap.objs.size + 1],_,_,H1,rfl,I1.kept (t':=s1.toks) hk,turn_zip (zipApart_new p1.lt p2.lt),⟨hz,hTI,⟨_,_,hTO⟩,h1,h2⟩,fun c hc=>?_,q⟩
    have hge:s1.heap.objs.size ≤ c:=by
      simp only [List.mem_cons,List.not_mem_nil,or_false] at hc
      rcases hc with rfl | rfl | rfl | rfl | rfl
      · exact Nat.le_add_right _ 4
      · exact Nat.le_add_right _ 2
      · exact Nat.le_add_right _ 3
      · exact Nat.le_refl _
      · exact Nat.le_add_right _ 1
    exact I1.fpOk hge (I1.hok.fresh hge)
  · exact q1.elim
theorem ji_zip {a b : Expr} {ta : TA} {p pos : Pos} {elts : List Expr} {x1} {pos' : Pos} (hg : Gl X "zip") (hm : X.mg "zip" = none) (ha : JA X [a, b] ta) (hK : X.K = K := by rfl) (h1 : noStar a = true := by rfl) (h2 : noStar b = true := by rfl) :
    JI X (.Tuple elts x1 pos') (.Call (.Name "zip" p) [a,b] [] pos) (iZip K ta):=.mk (pi_zip hg hm ha.out hK (by rw [starEach_cons h1,starEach_cons h2]; rfl) (by rw [starEach_cons h2]; rfl))
end
theorem for_zip {K : PySem.W.Frag} {t1 t2 : Bool} {a b : Addr} {xs ys : List V} {g : TG} {tb : TS} {D : Ends} {σ : St} {H : Hp} (Pv : Nat → St → Hp → Prop) (h0 : Pv 0 σ H) (hle : xs.length = ys.length)
    (hl:∀ i σ H,i ≤ xs.length→Pv i σ H→SqA t1 K H a xs∧SqA t2 K H b ys)
    (hs:∀ i x y σ H,xs[i]? = some x→ys[i]? = some y→Pv i σ H→∀ T,H T = none→g (.ref T) σ (upd H T (.tup [x,y])) fun σ2 H2=>tb { D with nx:=Pv (i + 1),ct:=Pv (i + 1),bk:=D.nx } σ2 H2) (hd:∀ σ H,Pv xs.length σ H→D.nx σ H) :
    ∃ W:Nat→Nat→St→Hp→Prop,(∃ m,W 0 m σ H)∧∀ i m σ H,W i m σ H →
      ((Itz K t1 t2 a b).stop i H∧D.nx σ H)∨((Itz K t1 t2 a b).go i H∧∃ N:St→Hp→Prop,(∀ σ' H',N σ' H'→∃ m',m' < m∧W (i + 1) m' σ' H')∧∀ x H',(Itz K t1 t2 a b).yld i H x H'→g x σ H' fun σ2 H2=>tb { D with nx:=N,ct:=N,bk:=D.nx } σ2 H2):=by
  refine ⟨fun i m σ H=>m = xs.length - i∧i ≤ xs.length∧Pv i σ H,⟨xs.length,by simp,Nat.zero_le _,h0⟩,?_⟩
  rintro i m σ H ⟨rfl,hi,p⟩
  obtain ⟨q1,q2⟩:=hl i σ H hi p
  by_cases hlt:i < xs.length
  · have hlt2:i < ys.length:=by lia
    refine .inr ⟨⟨xs,xs[i],ys,ys[i],q1,by simp [hlt],q2,by simp [hlt2]⟩,Pv (i + 1),fun σ' H' p'=>⟨xs.length - (i + 1),by lia,rfl,hlt,p'⟩,fun v H' y=>?_⟩
    obtain ⟨T,x,y,e1,e2,hT,rfl,rfl⟩:=y
    exact hs i x y σ H (e1 xs q1) (e2 ys q2) p T hT
  · have e:i = xs.length:=by lia
    subst e
    exact .inl ⟨⟨xs,ys,q1,q2,.inl (Nat.le_refl _)⟩,hd σ H p⟩
end L2
namespace L2
open PySem PySem.Spec PyProof.Rows
noncomputable def FlyG (B:Heap) (l:List Env) (e:Addr) (cls a0:Value) (h:Heap):Prop:=B.StaysIn h∧B.get? e = none∧h.FunFrames B l∧∃ fl,h.TracedAtW B e cls a0 fl
theorem FlyG.of {B h:Heap} {l:List Env} {e:Addr} {cls a0:Value} (x:Heap.FlyingW B l e cls a0 h):FlyG B l e cls a0 h:=⟨x.1,x.2.1,x.2.2.1,_,x.2.2.2.at⟩
section
variable {M:Model} {A:Around} {E:Value→Shared→Prop} {s:Shared} {B:Heap} {env:Env} {outer:List Env} {L e:Addr} {cls a0:Value} {Q:Unit→Shared→Prop}
theorem note_any (hfr : A.frames = some (env :: outer)) (hf : env.frame = some L) (x : FlyG B (env :: outer) e cls a0 s.heap)
    (hQ:∀ h',Heap.HeldW B (env :: outer) e cls a0 L h'→s.heap.UpToSlots h'→Q () { s with heap:=h' }):wpAny M A (noteFrame (.ref e) env) Q E s:=by
  obtain ⟨st,hn,hl,fl,ht⟩:=x
  by_cases hfl:fl = rawInt L
  · subst hfl
    exact wpAny_noteFrame_againW hf ht (hQ s.heap ⟨st,hn,hl,ht⟩ (.refl _))
  · obtain ⟨oe,vs,T,oT,ts,he,⟨hcls,h0⟩,hd,h1,hnT,hTe,hT,hdT,h3⟩:=ht
    subst hcls
    unfold noteFrame
    simp only [hf]
    refine wpAny_bind (wpAny_field he hd h1 ?_)
    rw [if_pos (show (Value.ref T != Value.none) = true from by simp)]
    refine wpAny_bind (wpAny_field hT hdT h3 ?_)
    rw [if_neg (show ¬ ((fl == rawInt L) = true) from fun z=>hfl (beq_iff_eq.mp z))]
    refine wpAny_bind (wpAny_setField hT hdT (Array.getElem?_eq_some_iff.mp h3).1 ?_)
    have other:∀ b,b ≠ T→(s.heap.update T (Obj.mapFields (·.setIfInBounds 3 Value.none))).get? b = s.heap.get? b:=fun b hb=>Heap.get?_update_other _ _ (Ne.symm hb)
    have noRecord:∀ b o,s.heap.get? b = some o→(∀ vs,o.data ≠ .fields vs)→b ≠ T:=fun b o hb hnf q=>by
      rw [q,hT] at hb; injection hb with hb; subst hb; exact hnf ts hdT
    refine wpAny_entryW hfr (hl.of_keeps fun b o hb hnf=>⟨o,(other b (noRecord b o hb hnf)).trans hb,rfl⟩) hf ((other e (Ne.symm hTe)).trans he)
      (fun b o hbo=>(other b fun q=>by rw [q,hnT] at hbo; cases hbo).trans (st b o hbo)) hn hd (Array.getElem?_eq_some_iff.mp h1).1 h0
      fun h' ⟨x1,x2,x3,x4⟩=>hQ h' ⟨x1,hn,x2,x3⟩ fun b o hb hnf=>x4 b o ((other b (noRecord b o hb hnf)).trans hb) hnf
theorem leaving_any (hfr : A.frames = some (env :: outer)) (hf : env.frame = some L) (x : FlyG B (env :: outer) e cls a0 s.heap)
    (hQ:∀ h',Heap.FlyingW B outer e cls a0 h'→s.heap.UpToSlots h'→Q () { s with heap:=h' }):wpAny M A (leaving env (.ref e)) Q E s:=by
  unfold leaving
  refine wpAny_bind (note_any hfr hf x fun h1 hh us1=>?_)
  refine wpAny_landsW (s:={ s with heap:=h1 }) hh fun h2 fl us2=>?_
  obtain ⟨k1,k2,⟨_,_,k3⟩,k4⟩:=fl
  exact hQ h2 ⟨k1,k2,k3,k4⟩ (us1.trans us2)
end
noncomputable def FlyAt (P:Program) (w:World) (stack:List Env) (fs ex:List Addr) (H₀:Hp) (h₀:Heap) (os:OsState) (E:XK) (e:Value) (s':Shared):Prop :=
  ∃ (a:Addr) (B:Heap) (cls a0:Value) (H':Hp),e = .ref a∧s'.os = os∧AllBare s'.gens∧FlyG B stack a cls a0 s'.heap∧HOk P w H' B∧Un fs ex H₀ H' h₀ s'.heap ∧
  (∀ b o,h₀.get? b = some o→b ∉ fs→b ∉ ex→(∃ o',B.get? b = some o')∧(H₀ b = none→B.get? b = some o))∧E cls none H'
noncomputable def CX1 (P:Program) (w:World):CXT:=fun outer H s E e s'=>FlyAt P w outer (frs outer) [] H s.heap s.os E e s'
noncomputable def FlyX (X:Cx) (E:XK) (e:Value) (s':Shared):Prop:=FlyAt X.prog X.w X.stack X.fs X.ex X.H₀ X.s₀.heap X.s₀.os E e s'
noncomputable def Exits (X:Cx) (E:XK):Prop:=X.Ok→∀ e s',FlyX X E e s'→X.xe e s'
section
variable {X:Cx} {E:XK} {pins:List (Addr × Obj)} {σ:List (Option V)} {H H':Hp} {s:Shared} {h'' B:Heap}
theorem Inv.nostk (I : Inv X pins σ H s) {b : Addr} {o : Obj} (e : X.s₀.heap.get? b = some o) (hb : b ∉ X.fs) : b ∉ frs X.stack := fun z => by
  rcases List.mem_cons.mp (I.stkSub b z) with q | q
  · exact absurd (Nat.lt_of_lt_of_le (Heap.lt_size e) I.ok.above) (by simp_all)
  · exact hb q
theorem fly_core {fp : List Addr} {h' : Heap} (I : Inv X pins σ H s) (hfp : ∀ b ∈ fp, b ∈ X.ex ∨ X.s₀.heap.objs.size ≤ b) (un : Un (frs X.stack) fp H H' s.heap h')
    (kb:∀ b o,s.heap.get? b = some o→b ∉ frs X.stack→b ∉ fp→(∃ o',B.get? b = some o')∧(H b = none→B.get? b = some o)) (st:B.StaysIn h') :
    Un X.fs X.ex X.H₀ H' X.s₀.heap h'∧∀ b o,X.s₀.heap.get? b = some o→b ∉ X.fs→b ∉ X.ex→(∃ o',B.get? b = some o')∧(X.H₀ b = none→B.get? b = some o):=by
  have nofp:∀ b o,X.s₀.heap.get? b = some o→b ∉ X.ex→b ∉ fp:=fun b o e hx z=>by
    rcases hfp b z with q | q
    · exact hx q
    · exact absurd (Nat.lt_of_lt_of_le (Heap.lt_size e) q) (Nat.lt_irrefl _)
  have kb':∀ b o,X.s₀.heap.get? b = some o→b ∉ X.fs→b ∉ X.ex→(∃ o',B.get? b = some o')∧(X.H₀ b = none→B.get? b = some o):=fun b o e hb hx=>by
    obtain ⟨o1,e1⟩:=I.base.there b o e hx
    refine ⟨(kb b o1 e1 (I.nostk e hb) (nofp b o e hx)).1,fun n=>?_⟩
    exact (kb b o (I.base.keep b o e n hb hx) (I.nostk e hb) (nofp b o e hx)).2 (I.base.free b o e n hx)
  have inS:∀ b,b ∈ X.fs→b ∈ frs X.stack:=fun b hb=>by
    rcases I.ok.stk with q | ⟨q,hf⟩
    · rw [q]; exact hb
    · rw [q]; unfold frs; rw [List.filterMap_cons,hf]; exact List.mem_cons_of_mem _ hb
  refine ⟨⟨fun b o e n hb hx=>st b o ((kb' b o e hb hx).2 n),fun b o e n hb hx=>?_,fun b o e n hx=>?_,fun b o e hx=>?_,fun b xs e=>un.tups b xs (I.base.tups b xs e),fun b o u e=>un.frzs b o u (I.base.frzs b o u e),fun b ps e=>?_⟩,kb'⟩
  · obtain ⟨sl1,e1⟩:=I.base.slot b o e n hb hx
    obtain ⟨sl2,e2⟩:=un.slot b _ e1 (I.base.free b o e n hx) (inS b hb) (nofp b o e hx)
    exact ⟨sl2,e2⟩
  · obtain ⟨o1,e1⟩:=I.base.there b o e hx
    exact un.free b o1 e1 (I.base.free b o e n hx) (nofp b o e hx)
  · obtain ⟨o1,e1⟩:=I.base.there b o e hx
    exact un.there b o1 e1 (nofp b o e hx)
  · obtain ⟨m1,e1⟩:=I.base.tbls b ps e
    obtain ⟨m2,e2⟩:=un.tbls b _ e1
    exact ⟨m1 ++ m2,by rw [e2,Array.append_assoc]⟩
theorem fly_back {fp:List Addr} (I:Inv X pins σ H s) (hfp:∀ b ∈ fp,b ∈ X.ex∨X.s₀.heap.objs.size ≤ b) {e:Value} {s':Shared} (h:FlyAt X.prog X.w X.stack (frs X.stack) fp H s.heap s.os E e s'):FlyX X E e s':=by
  obtain ⟨a,B,cls,a0,H',rfl,os,bare,fl,hok,un,kb,hE⟩:=h
  obtain ⟨un',kb'⟩:=fly_core I hfp un kb fl.1
  exact ⟨a,B,cls,a0,H',rfl,os.trans I.os,bare,fl,hok,un',kb',hE⟩
theorem Exits.passes (h:Exits X E):Passes (CX1 X.prog X.w) X E:=fun pins σ H s e s' I q=>h I.ok e s' (fly_back (fp:=[]) I (fun _ z=>nomatch z) q)
end
section
variable {P:Program} {w:World} {K:PySem.W.Frag} {mg:Str→Option Value} {base:Heap} {N:List Str} {qual:Str} {scope:Scope} {f:Addr} {cd:Value} {A:Around} {outer:List Env} {s₀:Shared} {H₀:Hp} {E:XK}
  {pins:List (Addr × Obj)} {σ:List (Option V)} {H H':Hp} {s:Shared} {h' h'' B:Heap}
theorem frs_cons {env : Env} {l : List Env} {L : Addr} (h : env.frame = some L) : frs (env :: l) = L :: frs l := by unfold frs; simp_all
theorem un_left {fs ex : List Addr} {H₀ H' : Hp} {h₀ h1 h2 : Heap} (un : Un fs ex H₀ H' h₀ h1) (kb : ∀ b o, h₀.get? b = some o → b ∉ fs → b ∉ ex → (∃ o', B.get? b = some o') ∧ (H₀ b = none → B.get? b = some o)) (st : B.StaysIn h2) (us : ∀ b ∈ fs, ∀ o, h1.get? b = some o → (∀ vs, o.data ≠ .fields vs) → ∃ sl, h2.get? b = some { o with slots := sl })
    (nf:∀ b ∈ fs,∃ o,h₀.get? b = some o∧∀ vs,o.data ≠ .fields vs) (hfree:∀ b ∈ fs,H₀ b = none):Un fs ex H₀ H' h₀ h2:=by
  have slot:∀ b o,h₀.get? b = some o→H₀ b = none→b ∈ fs→b ∉ ex→∃ sl,h2.get? b = some { o with slots:=sl }:=fun b o e n hb hx=>by
    obtain ⟨sl,e1⟩:=un.slot b o e n hb hx
    obtain ⟨o',e',d'⟩:=nf b hb
    rw [e] at e'; cases e'
    obtain ⟨sl2,e2⟩:=us b hb _ e1 d'
    exact ⟨sl2,e2⟩
  refine ⟨fun b o e n hb hx=>st b o ((kb b o e hb hx).2 n),slot,un.free,fun b o e hx=>?_,un.tups,un.frzs,un.tbls⟩
  by_cases hb:b ∈ fs
  · obtain ⟨sl,e1⟩:=slot b o e (hfree b hb) hb hx
    exact ⟨_,e1⟩
  · obtain ⟨o',e'⟩:=(kb b o e hb hx).1
    exact ⟨o',st b o' e'⟩
theorem exits_fn:Exits (cxOf (CX1 P w) P w K mg base N qual scope f cd A outer s₀ H₀ E) E:=by
  intro ok e s' h
  obtain ⟨a,B,cls,a0,H',rfl,os,bare,fl,hok,un,kb,hE⟩:=h
  show wpAny (model P w) (A.deeper (envOfC qual scope s₀.heap.objs.size f cd)) (leaving (envOfC qual scope s₀.heap.objs.size f cd) (.ref a)) (fun _ s''=>CX1 P w outer H₀ s₀ E (.ref a) s'') (fun e' s''=>CX1 P w outer H₀ s₀ E e' s'') s'
  refine leaving_any (L:=s₀.heap.objs.size) ok.frames rfl fl fun h'' fl' us=>?_
  exact ⟨a,B,cls,a0,H',rfl,os,bare,.of fl',hok,un_left un kb fl'.1 (fun b _=>us b) (fun b hb=>(ok.funs.mem hb).2) ok.frf,kb,hE⟩
theorem pass1:Passes (CX1 P w) (cxOf (CX1 P w) P w K mg base N qual scope f cd A outer s₀ H₀ E) E:=exits_fn.passes
theorem leave_made {e : Addr} {cls : Value} {args : List Value} (I : Inv (cxOf (CX1 P w) P w K mg base N qual scope f cd A outer s₀ H₀ E) pins σ H s) (hx : Heap.MadeExcOf s.heap h' e cls args) (hE : E cls none H) :
    (cxOf (CX1 P w) P w K mg base N qual scope f cd A outer s₀ H₀ E).xe (.ref e) { s with heap:=h' }:=by
  show wpAny (model P w) (A.deeper (envOfC qual scope s₀.heap.objs.size f cd)) (leaving (envOfC qual scope s₀.heap.objs.size f cd) (.ref e)) (fun _ s''=>CX1 P w outer H₀ s₀ E (.ref e) s'') (fun e' s''=>CX1 P w outer H₀ s₀ E e' s'') { s with heap:=h' }
  have hin:∀ env ∈ (envOfC qual scope s₀.heap.objs.size f cd :: outer),∀ b,env.frame = some b→b ∈ frs (envOfC qual scope s₀.heap.objs.size f cd :: outer):=fun env he b hb=>List.mem_filterMap.mpr ⟨env,he,hb⟩
  refine wpAny_leaves_madeW (base:=PySem.W.hideAll s.heap (frs (envOfC qual scope s₀.heap.objs.size f cd :: outer))) (h:=s.heap) (L:=s₀.heap.objs.size) I.ok.frames rfl (fun b o q=>PySem.W.of_hideAll _ q) (PySem.W.funFrames_hide I.stack hin) hx fun h'' t fl tup hbt us=>?_
  have hidden:∀ b o,s.heap.get? b = some o→b ∉ frs (envOfC qual scope s₀.heap.objs.size f cd :: outer)→(PySem.W.hideAll s.heap (frs (envOfC qual scope s₀.heap.objs.size f cd :: outer))).get? b = some o:=fun b o q hb=>PySem.W.hideAll_get _ q hb
  have noex:∀ b:Addr,b ∉ (cxOf (CX1 P w) P w K mg base N qual scope f cd A outer s₀ H₀ E).ex:=fun b z=>nomatch (show b ∈ ([]:List Addr) from z)
  have kb:∀ b o,s₀.heap.get? b = some o→b ∉ frs outer→b ∉ ([]:List Addr)→(∃ o',(PySem.W.hideAll s.heap (frs (envOfC qual scope s₀.heap.objs.size f cd :: outer))).get? b = some o')∧(H₀ b = none→(PySem.W.hideAll s.heap (frs (envOfC qual scope s₀.heap.objs.size f cd :: outer))).get? b = some o):=fun b o q hb _=>by
    obtain ⟨o1,e1⟩:=I.base.there b o q (noex b)
    exact ⟨⟨o1,hidden b o1 e1 (I.nostk q hb)⟩,fun n=>hidden b o (I.base.keep b o q n hb (noex b)) (I.nostk q hb)⟩
  have un:Un (frs outer) [] H₀ H s₀.heap h'':=un_left (I.base) kb fl.1 (fun b _=>((Heap.UpToSlots.of_keeps hx.keeps).trans us) b) (fun b hb=>(I.ok.funs.mem hb).2) I.ok.frf
  refine ⟨e,_,cls,_,H,rfl,I.os,I.bare,.of fl,fun b u q=>?_,un,kb,hE⟩
  refine (I.hok b u q).stay (fun c v hc z=>hidden c v z fun m=>?_) (fun _ z=>z) fun _ _ z=>z
  have hn:H c = none:=I.stkFree c m
  rcases hc with rfl | hc
  · rw [q] at hn; cases hn
  · rw [hc] at hn; cases hn
end
end L2
namespace L2
open PySem PySem.Spec PyProof.Rows
abbrev bmVE:List Value:=[.type "ValueError",.type "Exception",.type "BaseException",.type "object"]
theorem exc_of_in {K : PySem.W.Frag} {h : Heap} {C : Addr} {bmB : List Value} {newId : String} (X : K.In h) (q : PySem.W.excIn K C bmB newId = true) :
    ∃ bm N nm q bs hdct sn sub ab col dd k0 k1 k2 k3 k5 mN,h.get? C = some (excClassObj nm q C N bs bm hdct sn sub ab col dd k0 k1 k2 k3 k5 newId)∧h.Ns N mN∧mN "__init__" = none∧OwnTail h bmB bm:=by
  unfold PySem.W.excIn at q
  split at q
  · rename_i dd cd sl ho
    split at q
    · rename_i C' bm k0 k1 k2 k3 n k5 hm hs
      simp only [Bool.and_eq_true,beq_iff_eq,Bool.not_eq_true'] at q
      obtain ⟨⟨⟨⟨⟨rfl,rfl⟩,hdel⟩,ht⟩,hok⟩,hni⟩:=q
      obtain ⟨nm,bs,mro,ns,qn,hd,sn,sub,ab,col,del⟩:=cd
      dsimp only at hm hdel hok hni
      subst hm hdel
      have hsl:sl = #[k0,k1,k2,k3,some (.builtin n),k5]:=by
        obtain ⟨l⟩:=sl
        simp only at hs
        rw [hs]
      subst hsl
      exact ⟨bm,ns,nm,qn,bs,hd,sn,sub,ab,col,dd,k0,k1,k2,k3,k5,_,X _ _ ho,.of_isNs (PySem.W.isNs_of_in X hok),PySem.W.nsMap_none_of_in X hok hni,PySem.W.tail_of_in X ht⟩
    · cases q
  · cases q
noncomputable def PF (X:Cx) (e:Expr) (c:St→Hp→Prop):Prop:=∀ (pins:List (Addr × Obj)) (s:Shared) (σ:St) (H:Hp),Inv X pins σ H s→c σ H →
  wpAny (model X.prog X.w) X.A (eval e X.env) (fun v s'=>∃ y t,v = .str y t∧y.length ≤ 1100000∧Inv X pins σ H s') X.xe s
noncomputable def PFs (X:Cx) (es:List Expr) (c:St→Hp→Prop):Prop:=∀ (pins:List (Addr × Obj)) (s:Shared) (σ:St) (H:Hp) (acc:Str) (n:Nat),Inv X pins σ H s→c σ H→acc.length ≤ n * 1100000→n + es.length ≤ 12 →
  Joins (model X.prog X.w) X.A X.xe (evalEach es X.env) acc (fun out s'=>out.length ≤ sizeLine∧Inv X pins σ H s') s
section
variable {X:Cx} {e:Expr} {es:List Expr} {te:TE} {c c':St→Hp→Prop} {pos:Pos}
theorem size12 {n:Nat} (h:n ≤ 12 * 1100000):n ≤ sizeLine:=by rw [sizeLine_eq]; lia
theorem pf_str {x:Str} {k:Nat} (h:x.length ≤ 1100000:=by decide):PF X (.Constant (.str x) k pos) (fun _ _=>True):=fun pins s σ H I _ =>
  Calls.Constant_str (show ∃ y t,Value.str x s.toks = .str y t∧y.length ≤ 1100000∧Inv X pins σ H { s with toks:=s.toks + 1 } from ⟨x,_,rfl,h,I.tok _⟩)
theorem pf_repr (he:PE X e te):PF X (.FormattedValue e 114 none pos) (fun σ H=>te σ H fun v H1=>H1 = H∧∃ x,v = .str x∧x.length ≤ 100000∧∀ c ∈ x.cps.toList,c < 16 ^ 8):=by
  intro pins s σ H I h
  refine wpAny_FormattedValue_repr (thn (he pins s σ H _ I h) fun u s1 ⟨v,H1,I1,r1,e1,x,ex,hl,hc⟩=>?_)
  subst e1 ex
  obtain ⟨t,rfl⟩:=r1
  have hr:=StrLaws.reprText_len x hc
  have hz:=size12 (Nat.le_trans hr (show 10 * x.length + 2 ≤ 12 * 1100000 by lia))
  refine wpAny_pyReprObj_str ?_ hz
  refine wpAny_formatField_str ⟨_,_,rfl,by lia,I1.tok _⟩ ⟨_,_,rfl,by lia,?_⟩ hz
  exact (I1.tok (s1.toks + 1)).tok _
theorem pf_plain (he:PE X e te):PF X (.FormattedValue e (-1) none pos) (fun σ H=>te σ H fun v H1=>H1 = H∧((∃ x,v = .str x∧x.length ≤ 100000)∨∃ a,v = .int a∧a.natAbs.log2 < 1920∧(Str.ofString (toString a)).length ≤ 1100000)):=by
  intro pins s σ H I h
  refine wpAny_FormattedValue_plain (thn (he pins s σ H _ I h) fun u s1 ⟨v,H1,I1,r1,e1,q⟩=>?_)
  subst e1
  rcases q with ⟨x,ex,hl⟩ | ⟨a,ea,hl,hs⟩
  · subst ex
    obtain ⟨t,rfl⟩:=r1
    exact wpAny_formatField_str ⟨_,_,rfl,by lia,I1⟩ ⟨_,_,rfl,by lia,I1.tok _⟩ (size12 (by lia))
  · subst ea
    obtain ⟨t,rfl⟩:=r1
    exact wpAny_formatField_int hl ⟨_,_,rfl,hs,I1.tok _⟩
theorem pfs_nil : PFs X [] (fun _ _ => True) := fun pins s σ H acc n I _ hl hn => by
  have h2 : n ≤ 12 := by lia
  exact ⟨size12 (Nat.le_trans hl (Nat.mul_le_mul_right 1100000 h2)), I⟩
theorem pfs_cons (h1 : PF X e c) (h2 : PFs X es c') (he : evalEach (e :: es) X.env = eval e X.env :: evalEach es X.env := by rfl) : PFs X (e :: es) (fun σ H => c σ H ∧ c' σ H) := by
  intro pins s σ H acc n I hc hl hn
  rw [he]
  have hn' : n + 1 + es.length ≤ 12 := by grind
  refine thn (h1 pins s σ H I hc.1) fun v s1 ⟨y, t, ev, hy, I1⟩ => ⟨y, t, ev, ?_, ?_⟩
  · rw [strLen_append]
    exact size12 (by lia)
  · refine h2 pins s1 σ H (acc ++ y) (n + 1) I1 hc.2 ?_ hn'
    rw [strLen_append]; lia
noncomputable def tFs (c:St→Hp→Prop):TE:=fun σ H Q=>c σ H∧∀ z:Str,z.length ≤ sizeLine→Q (.str z) H
theorem joins_mono {M:Model} {A:Around} {E:Value→Shared→Prop} {Q Q':Str→Shared→Prop} (hQ:∀ z s,Q z s→Q' z s):∀ (l:List (Sem Value)) (acc:Str) (s:Shared),Joins M A E l acc Q s→Joins M A E l acc Q' s
  | [],acc,s,h=>hQ _ _ h
  | x :: r,acc,s,h=>thn h fun v s1 ⟨y,t,ev,hz,hr⟩=>⟨y,t,ev,hz,joins_mono hQ r _ s1 hr⟩
theorem pe_fs {e1 e2:Expr} (h:PFs X (e1 :: e2 :: es) c) (hn:(e1 :: e2 :: es).length ≤ 12:=by decide):PE X (.JoinedStr (e1 :: e2 :: es) pos) (tFs c):=by
  intro pins s σ H Q I hq
  refine wpAny_JoinedStr (joins_mono (fun z s' ⟨hz,I'⟩=>⟨hz,?_⟩) _ _ _ (h pins s σ H Str.empty 0 I hq.1 (by decide) (by lia)))
  exact ⟨.str z,H,I'.tok _,⟨_,rfl⟩,hq.2 z hz⟩
end
end L2
namespace L2
open PySem PySem.Spec PyProof.Rows
noncomputable def tRaise (C:Addr) (E:XK) (t:TA):TS:=fun D σ H=>t σ H fun vs H1=>vs.length ≤ sizeLine∧E (.ref C) none H1
section
variable {P:Program} {w:World} {K:PySem.W.Frag} {mg:Str→Option Value} {base:Heap} {N:List Str} {qual:Str} {scope:Scope} {f:Addr} {cd:Value} {A:Around} {outer:List Env} {s₀:Shared} {H₀:Hp} {E:XK}
theorem ps_raise {x : Str} {C : Addr} {e : Expr} {es : List Expr} {t : TA} {np cpos pos : Pos} (hg : Gl (cxOf (CX1 P w) P w K mg base N qual scope f cd A outer s₀ H₀ E) x) (hm : mg x = some (.ref C)) (hq : PySem.W.excIn K C bmVE "ValueError.__new__" = true)
    (ha : PA (cxOf (CX1 P w) P w K mg base N qual scope f cd A outer s₀ H₀ E) (e :: es) t) (hst : noStars (e :: es) = true := by rfl) (hd : (x == ("__debug__" : Str)) = false := by decide) :
    PS (cxOf (CX1 P w) P w K mg base N qual scope f cd A outer s₀ H₀ E) (.Raise (some (.Call (.Name x np) (e :: es) [] cpos)) none pos) (tRaise C E t) := by
  intro pins s σ H D I h
  have h' : noStar e = true ∧ noStars es = true := by simpa [noStars] using hst
  have he := starEach_cons (es := es) (env := (cxOf (CX1 P w) P w K mg base N qual scope f cd A outer s₀ H₀ E).env) h'.1
  have hpl := back_any (env := (cxOf (CX1 P w) P w K mg base N qual scope f cd A outer s₀ H₀ E).env) (pos := cpos) hst
  obtain ⟨bm, N', nm, q, bs, hdct, sn, sub, ab, col, dd, k0, k1, k2, k3, k5, mN, hC, hN, hni, T⟩ := exc_of_in (h := base) I.ok.mod.kin hq
  refine wpAny_Raise_call_subU (C := C) (nm := nm) (q := q) (N := N') (bs := bs) (bm := bm) (hdct := hdct) (sn := sn) (sub := sub) (ab := ab) (col := col) (dd := dd) (k0 := k0) (k1 := k1) (k2 := k2) (k3 := k3) (k5 := k5)
    F.excBase_ValueError (by decide +kernel) F.excBase_ValueError (mN := mN) (T.hasType F.excBase_ValueError.hasBase) (I.ok.hd rfl) hpl hni (ld_glob I hg hm ⟨rfl, ?_⟩ hd)
  have h0 := ha cpos pins s σ H _ I h
  rw [he] at h0 ⊢
  refine Calls.evalArgs_plain (wpAny_mono h0 (fun us s2 h2 => ?_) fun _ _ y => y)
  obtain ⟨vs, H2, I2, r2, hl, hE⟩ := h2
  have hlen := r2.length
  exact ⟨rfl, by simp_all, I2.bk _ _ hC, hN.keeps I2.bk, T.keeps I2.bk, fun h3 e3 hm3 => leave_made I2 hm3 hE⟩
theorem js_raise {x : Str} {C : Addr} {e : Expr} {es : List Expr} {t : TA} {np cpos pos : Pos} (hg : Gl (cxOf (CX1 P w) P w K mg base N qual scope f cd A outer s₀ H₀ E) x) (hm : mg x = some (.ref C)) (hq : PySem.W.excIn K C bmVE "ValueError.__new__" = true)
    (ha:JA (cxOf (CX1 P w) P w K mg base N qual scope f cd A outer s₀ H₀ E) (e :: es) t) (hst:noStars (e :: es) = true:=by rfl) (hd:(x == ("__debug__":Str)) = false:=by decide) :
    JS (cxOf (CX1 P w) P w K mg base N qual scope f cd A outer s₀ H₀ E) (.Raise (some (.Call (.Name x np) (e :: es) [] cpos)) none pos) (tRaise C E t):=.mk (ps_raise hg hm hq ha.out hst hd)
theorem passes_loop:PassesOwn (model P w) (cxOf (CX1 P w) P w K mg base N qual scope f cd A outer s₀ H₀ E).A (cxOf (CX1 P w) P w K mg base N qual scope f cd A outer s₀ H₀ E).env (cxOf (CX1 P w) P w K mg base N qual scope f cd A outer s₀ H₀ E).xe:=PassesOwn.leaving
end
noncomputable abbrev JF (X:Cx) (e:Expr) (c:St→Hp→Prop):Prop:=Irr (PF X e c)
noncomputable abbrev JFs (X:Cx) (es:List Expr) (c:St→Hp→Prop):Prop:=Irr (PFs X es c)
section
variable {X:Cx} {e e1 e2:Expr} {es:List Expr} {te:TE} {c c':St→Hp→Prop} {pos:Pos}
noncomputable def cRepr (te:TE):St→Hp→Prop:=fun σ H=>te σ H fun v H1=>H1 = H∧∃ x,v = .str x∧x.length ≤ 100000∧∀ c ∈ x.cps.toList,c < 16 ^ 8
noncomputable def cPlain (te:TE):St→Hp→Prop:=fun σ H=>te σ H fun v H1=>H1 = H∧((∃ x,v = .str x∧x.length ≤ 100000)∨∃ a,v = .int a∧a.natAbs.log2 < 1920∧(Str.ofString (toString a)).length ≤ 1100000)
noncomputable def cTrue:St→Hp→Prop:=fun _ _=>True
noncomputable def cAnd (c c':St→Hp→Prop):St→Hp→Prop:=fun σ H=>c σ H∧c' σ H
theorem jf_str {x:Str} {k:Nat} (h:x.length ≤ 1100000:=by decide):JF X (.Constant (.str x) k pos) cTrue:=.mk (pf_str h)
theorem jf_repr (he:JE X e te):JF X (.FormattedValue e 114 none pos) (cRepr te):=.mk (pf_repr he.out)
theorem jf_plain (he:JE X e te):JF X (.FormattedValue e (-1) none pos) (cPlain te):=.mk (pf_plain he.out)
theorem jfs_nil:JFs X [] cTrue:=.mk pfs_nil
theorem jfs_cons (h1:JF X e c) (h2:JFs X es c') (he:evalEach (e :: es) X.env = eval e X.env :: evalEach es X.env:=by rfl):JFs X (e :: es) (cAnd c c'):=.mk (pfs_cons h1.out h2.out he)
theorem j_fs (h:JFs X (e1 :: e2 :: es) c) (hn:(e1 :: e2 :: es).length ≤ 12:=by decide):JE X (.JoinedStr (e1 :: e2 :: es) pos) (tFs c):=.mk (pe_fs h.out hn)
end
structure DefX (P:Program) (w:World) (K:PySem.W.Frag) (mg:Str→Option Value) (base:Heap) (k:Nat) (x:Str) (ps:List Str) (sp:Sp):Prop where
  ex:∃ f fd,mg x = some (.ref f)∧PySem.W.keepIn K (.ref f) = true∧(∃ oc od osl,K.lookup f = some ⟨oc,od,.func fd,osl⟩)∧Binds K fd ps []∧FnOk P w K mg base (CX1 P w) k f fd ps sp
section
variable {X:Cx} {k:Nat} {x:Str} {ps:List Str} {sp:Sp} {e:Expr} {es:List Expr} {t:TA} {p pos:Pos} {E:XK}
theorem pe_defX (D : DefX X.prog X.w X.K X.mg X.base k x ps sp) (hr : Room k X.A) (hg : Gl X x) (ha : PA X (e :: es) t) (hx : Passes (CX1 X.prog X.w) X E) (hdb : (x == ("__debug__" : Str)) = false := by decide)
    (hst : noStars (e :: es) = true := by rfl) : PE X (.Call (.Name x p) (e :: es) [] pos) (fun σ H Q => t σ H fun vs H1 => sp vs H1 Q E) := by
  obtain ⟨f, fd, mgf, kp, _, b, G⟩ := D.ex
  have h' : noStar e = true ∧ noStars es = true := by simpa [noStars] using hst
  have he := starEach_cons (es := es) (env := X.env) h'.1
  have hpl := back_any (env := X.env) (pos := pos) h'.2
  have h := pe_call (X := X) (dvs := []) (E := E) (p := p) (pos := pos) G hr hg mgf kp b .nil hx ha hdb he hpl
  intro pins s σ H Q I hq
  refine h pins s σ H Q I ?_
  show t σ H fun vs H1 => sp (vs ++ []) H1 Q E
  simp_all
theorem j_defX (D : DefX X.prog X.w X.K X.mg X.base k x ps sp) (hr : Room k X.A) (hg : Gl X x) (ha : JA X (e :: es) t) (hx : Passes (CX1 X.prog X.w) X E) (hdb : (x == ("__debug__" : Str)) = false := by decide)
    (hst:noStars (e :: es) = true:=by rfl):JE X (.Call (.Name x p) (e :: es) [] pos) (fun σ H Q=>t σ H fun vs H1=>sp vs H1 Q E):=.mk (pe_defX D hr hg ha.out hx hdb hst)
end
theorem Raw.defX {P : Program} {w : World} {K : PySem.W.Frag} {mg : Str → Option Value} {base : Heap} {x : Str} {st : Stmt} {N ps : List Str} {k : Nat} {sp : Sp} (R : Raw K mg x st ps) (S : FnScope N ps (defScope st)) (len : ∀ vs H Q E, sp vs H Q E → vs.length = ps.length)
    (hbody:∀ (f:Addr) (cdv:Value) (A:Around) (outer:List Env) (s:Shared) (H:Hp) (vs:List V) (Q:VK) (E:XK),Room k (A.deeper (envOfC x (defScope st) s.heap.objs.size f cdv))→sp vs H Q E →
      ∃ t,JSs (cxOf (CX1 P w) P w K mg base N x (defScope st) f cdv A outer s H E) (defBody st) t∧t { nx:=fun _ H'=>Q .non H',rt:=Q } (start N vs) H):DefX P w K mg base (k + 1) x ps sp:=by
  obtain ⟨f,fd,h1,F,b⟩:=R.ex
  refine ⟨f,fd,h1,F.kp,F.lk,.all b,?_⟩
  obtain ⟨oc,od,kV,doc,pm,an,cdv,ct,osl,rfl,lk,hcd⟩:=F.ex
  refine fn_of lk hcd S len fun A outer s H vs Q E hr hsp=>?_
  obtain ⟨t,h,q⟩:=hbody f cdv A outer s H vs Q E hr hsp
  exact ⟨t,h.out,q⟩
end L2
namespace L2
open PySem PySem.Spec PyProof.Rows
noncomputable def FlyC (P:Program) (w:World) (stack:List Env) (ex:List Addr) (H₀:Hp) (h₀:Heap) (os:OsState) (E:XK) (C:Addr) (e:Value) (s':Shared):Prop :=
  ∃ (a:Addr) (B:Heap) (cls a0:Value) (H':Hp),e = .ref a∧s'.os = os∧AllBare s'.gens∧FlyG B stack a cls a0 s'.heap∧HOk P w H' B∧Un (frs stack) ex H₀ H' h₀ s'.heap ∧
  (∀ b o,h₀.get? b = some o→b ∉ frs stack→b ∉ ex→(∃ o',B.get? b = some o')∧(H₀ b = none→B.get? b = some o))∧E cls none H'∧(∃ m,B.Ns C m)∧H' C = none
noncomputable def cxCompX (X:Cx) (N:List Str) (scope:Scope) (C:Addr) (s:Shared) (H:Hp) (ex:List Addr) (E:XK):Cx :=
  { cxComp X N scope C s H ex with xe:=FlyC X.prog X.w X.stack ex H s.heap s.os E C }
theorem inv_compX {X : Cx} {pins : List (Addr × Obj)} {σ : St} {H : Hp} {s : Shared} {N : List Str} {cap : List (Option Nat)} {scope : Scope} {ex : List Addr} {h₁ : Heap} {tk : Nat} {C : Addr} {E : XK} (S : CompScope X N cap scope) (I : Inv X pins σ H s) (hC : s.heap.objs.size ≤ C)
    (hns:h₁.Ns C (fun _=>none)) (hk:∀ b o,s.heap.get? b = some o→h₁.get? b = some o) (hex:∀ b ∈ ex,b < s.heap.objs.size∧FpOk X pins H b) :
    Inv (cxCompX X N scope C s H ex E) [] (capt cap σ) H { s with heap:=h₁,toks:=tk }:=(inv_comp S I hC hns hk hex).wish _
theorem passes_comp {X:Cx} {N:List Str} {scope:Scope} {C:Addr} {s:Shared} {H:Hp} {ex:List Addr} {E:XK}:Passes (CX1 X.prog X.w) (cxCompX X N scope C s H ex E) E:=by
  intro pins σ H1 s1 e s' I q
  obtain ⟨a,B,cls,a0,H',rfl,os,bare,fl,hok,un,kb,hE⟩:=q
  obtain ⟨un',kb'⟩:=fly_core (fp:=[]) I (fun _ z=>nomatch z) un kb fl.1
  obtain ⟨m,⟨o,es,ep,ho,r⟩,_⟩:=I.loc
  have hC:C ∉ frs X.stack:=fun z=>by
    obtain ⟨_,o',e',_⟩:=I.ok.funs.mem z
    exact absurd (Nat.lt_of_lt_of_le (Heap.lt_size e') I.ok.above) (Nat.lt_irrefl _)
  have hB:B.get? C = some o:=(kb C o ho hC (by simp)).2 I.free
  exact ⟨a,B,cls,a0,H',rfl,os.trans I.os,bare,fl,hok,un',kb',hE,⟨m,o,es,ep,hB,r⟩,un.free C o ho I.free (by simp)⟩
theorem comp_blockX {X : Cx} {EX : XK} {pins : List (Addr × Obj)} {σ : St} {H : Hp} {s : Shared} {N : List Str} {cap : List (Option Nat)} {scope : Scope} {elt target iter : Expr} {ifs : List Expr} {pos : Pos} {g : TG} {tc : TT} {te : TE} {J : It} {fp : List Addr} {it : Addr} {tn : Nat → Heap → Prop}
    {Q:Addr→Hp→Prop} {RR:Value→Addr→Result→Shared→Prop} {E:Value→Shared→Prop} (hc:X.calm = true) (S:CompScope X N cap scope) (I:Inv X pins σ H s) (T:Turn X.prog X.w X.K target J fp it tn) (st:tn 0 s.heap) (fo:∀ b ∈ fp,FpOk X pins H b)
    (hg:∀ C s₀ H₀,PG (cxCompX X N scope C s₀ H₀ fp EX) target g) (ht:∀ C s₀ H₀,PTs (cxCompX X N scope C s₀ H₀ fp EX) ifs tc) (he:∀ C s₀ H₀,PE (cxCompX X N scope C s₀ H₀ fp EX) elt te)
    (h:Gath J cap g tc te Q σ H)
    (hER:∀ D C,s.heap.objs.size ≤ C→X.env.locals ≠ C→∀ e s',FlyC X.prog X.w X.stack fp H s.heap s.os EX C e s'→notedBy (model X.prog X.w) X.A (compEnvC scope (closOf X.env scope.names []) C X.env) (fun e' s''=>RR (.ref D) C (.error e') s'') e s')
    (hRR:∀ D C s' H',Inv X pins σ H' s'→Q D H'→(∃ m,s'.heap.Ns C m)→H' C = none→X.s₀.heap.objs.size ≤ C→C ≠ X.env.locals→(∀ x c,X.env.cells.lookup x = some c→c ≠ C)→(∀ p ∈ X.pn ++ pins,p.1 ≠ C)→RR (.ref D) C (.ok .next) s') :
    wpAny (model X.prog X.w) X.A (newList []) (fun acc s₃=>wpAny (model X.prog X.w) X.A (newFunctionEnv scope X.env.globals (closOf X.env scope.names []) [] X.env.qual none .none (some X.env)) (fun cenv s₄ =>
      codeAny (model X.prog X.w) X.A (.compStart (.ListComp elt [⟨target,iter,ifs,0⟩] scope pos) 0 (.ref it) acc { cenv with scope:=relabel scope X.env }) (RR acc cenv.locals) s₄) E s₃) E s:=by
  have hfr:∀ a,s.heap.objs.size ≤ a→H a = none:=fun a ha=>I.hok.fresh ha
  obtain ⟨W,⟨m0,w0⟩,turn⟩:=h
  have fol:∀ b ∈ fp,b < s.heap.objs.size:=fun b hb=>by
    obtain ⟨o,ho,_⟩:=T.obj 0 _ st b hb
    exact Heap.lt_size ho
  have clt:∀ x c,X.env.cells.lookup x = some c→c < s.heap.objs.size:=fun x c e=>by
    obtain ⟨v,q⟩:=I.cell x c e
    exact q.lt
  refine wpAny_newObj_type (wpAny_newFunctionEnv S.nocell (by intro y hy; simp at hy) (fun h₁ hns₁ hsb₁=>?_) S.kind)
  dsimp only at hns₁ hsb₁ ⊢
  generalize hD:s.heap.objs.size = D at *
  generalize hH3:s.heap.push { cls:=.type "list",data:=.seq ([]:List Value).toArray } = H3 at *
  have hC:H3.objs.size = D + 1:=by rw [← hH3,Heap.size_push,hD]
  have keep3:∀ b o,s.heap.get? b = some o→H3.get? b = some o:=fun b o e=>by rw [← hH3]; exact Heap.get?_push_of_some _ e
  have keep4:∀ b o,H3.get? b = some o→h₁.get? b = some o:=fun b o e=>hsb₁.extBut b o (Nat.ne_of_lt (Heap.lt_size e)) (Heap.get?_push_of_some _ e)
  have D4:h₁.get? D = some (lobj [] 0):=keep4 _ _ (by rw [← hH3,← hD]; exact Heap.get?_push_size _ rfl)
  generalize hCC:H3.objs.size = C at *
  have hDC:D < C:=by lia
  have hDC':D ≤ C:=Nat.le_of_lt hDC
  have hL:X.env.locals < D:=by rw [← hD]; exact I.lt
  have I4:Inv (cxCompX X N scope C s H fp EX) [] (capt cap σ) H { s with heap:=h₁,toks:=s.toks + ([]:List (Str × Value)).length } :=
    inv_compX S I (by lia) hns₁ (fun b o e=>keep4 b o (keep3 b o e)) fun b hb=>⟨by rw [hD]; exact fol b hb,fo b hb⟩
  have fp4:∀ {H':Hp} {ob:Obj},(∀ b ∈ fp,H' b = none)→∀ b ∈ fp,FpOk (cxCompX X N scope C s H fp EX) [(D,ob)] H' b:=fun {H' ob} hn b hb=>by
    obtain ⟨f0,f1,f2,f3,f4,f5⟩:=fo b hb
    have hlt:=fol b hb
    refine ⟨hn b hb,?_,fun z=>?_,.inl hb,fun x c e=>f4 x c (closOf_ok (fun n c e=>by simp at e) x c e),fun p hp=>?_⟩
    · exact Nat.ne_of_lt (Nat.lt_of_lt_of_le hlt hDC')
    · rcases List.mem_cons.mp (I.stkSub b z) with e | e
      · exact f1 e
      · exact f2 e
    · have hp':p ∈ [(D,ob)]:=hp
      rw [List.mem_singleton.mp hp']
      exact Nat.ne_of_gt hlt
  have st4:tn 0 h₁:=T.keep _ _ _ st fun b hb o e=>keep4 b o (keep3 b o e)
  have nfs:D ∉ (cxCompX X N scope C s H fp EX).fs:=fun z=>by
    rcases List.mem_cons.mp (I.stkSub D z) with e | e
    · exact Nat.ne_of_gt hL e
    · exact I.nofs (Nat.le_of_eq hD) e
  have pinD:∀ {σ':St} {H':Hp} {s':Shared} {ob:Obj},Inv (cxCompX X N scope C s H fp EX) [] σ' H' s'→H' D = none→s'.heap.get? D = some ob→(∀ v,ob.data ≠ .cell v)→Inv (cxCompX X N scope C s H fp EX) [(D,ob)] σ' H' s':=fun {σ' H' s' ob} J hn e nc =>
    J.pins_of fun p hp=>by
      rw [List.mem_singleton.mp hp]
      exact ⟨e,hn,Nat.ne_of_lt hDC,nfs,nc⟩
  have loop : ∀ s₄ : Shared, s₄ = { s with heap := h₁, toks := s.toks + ([] : List (Str × Value)).length } →
      codeAny (model X.prog X.w) X.A (.compLoop (.ListComp elt [⟨target,iter,ifs,0⟩] scope pos) 0 (.ref it) (.ref D) (compEnvC scope (closOf X.env scope.names []) C X.env)) (RR (.ref D) C) s₄:=by
    rintro s₄ rfl
    refine comp_loop (fun n s'=>∃ i ys its k σ' H',Inv (cxCompX X N scope C s H fp EX) [(D,lobj its k)] σ' H' s'∧Vals ys its∧tn i s'.heap∧(∀ b ∈ fp,H' b = none)∧W i n ys σ' H') ?_ m0
      ⟨0,[],[],0,_,_,pinD I4 (hfr D (Nat.le_refl _)) D4 (fun v z=>by cases z),.nil,st4,fun b hb=>(fo b hb).1,w0⟩
    rintro n s5 ⟨i,ys,its,k,σ5,H5,I5,rv5,st5,fr5,w5⟩
    have hpin:=I5.pin (D,lobj its k) (List.mem_append_right _ List.mem_cons_self)
    rcases turn i n ys σ5 H5 w5 with ⟨stop,hz,q⟩ | ⟨go,hz,NN,hNN,step⟩
    · refine thn (T.done (cxCompX X N scope C s H fp EX) rfl rfl rfl hc i _ s5 σ5 H5 _ I5 (fp4 fr5) st5 stop) fun r s6 ⟨hr,I6⟩=>?_
      subst hr
      have p6:=I6.pin (D,lobj its k) (List.mem_append_right _ List.mem_cons_self)
      have I7:Inv X pins σ (upd H5 D (.lst ys)) s6:=I.call' (ch:=fp) I6.os (I6.base.add (Nat.le_of_eq hD) p6.2.1) (I6.hok.add p6.2.1 ⟨hz,its,k,rv5,p6.1⟩) I6.bare fun b hb=>by
        obtain ⟨f0,f1,f2,f3,f4,f5⟩:=fo b hb
        exact ⟨f3,f1,f4,f5⟩
      obtain ⟨m6,hn6,_⟩:=I6.loc
      refine hRR _ C s6 _ I7 (q D p6.2.1) ⟨m6,hn6⟩ ?_ ?_ ?_ ?_ ?_
      · rw [upd_ne (Nat.ne_of_gt hDC)]; exact I6.free
      · exact Nat.le_trans (by rw [← hD]; exact I.sz) hDC'
      · exact Nat.ne_of_gt (Nat.lt_of_lt_of_le hL hDC')
      · intro x c e z
        exact Nat.ne_of_lt (Nat.lt_of_lt_of_le (clt x c e) hDC') z
      · intro p hp z
        have h6:=Heap.lt_size (I.pin p hp).1
        rw [hD] at h6
        exact Nat.ne_of_lt (Nat.lt_of_lt_of_le h6 hDC') z
    · refine thn (T.item (cxCompX X N scope C s H fp EX) rfl rfl rfl hc i _ s5 σ5 H5 _ I5 (fp4 fr5) st5 go) fun r s6 ⟨u,hr,h6⟩=>?_
      subst hr
      refine thn h6 fun _ s7 ⟨x,H7,I7,r7,y7,st7,fr7⟩=>?_
      have I7':=I7.pinned (fp4 fr7) (T.obj _ _ st7)
      have kept:∀ {σ8:St} {H8:Hp} {s8:Shared},Inv (cxCompX X N scope C s H fp EX) ([(D,lobj its k)] ++ pinsAt fp s7.heap) σ8 H8 s8→tn (i + 1) s8.heap∧∀ b ∈ fp,H8 b = none:=fun {σ8 H8 s8} I8 =>
        ⟨T.keep _ _ _ st7 fun b hb o e=>(I8.pin (b,o) (List.mem_append_right _ (List.mem_append_right _ (mem_pinsAt hb e)))).1,fun b hb=>by
          obtain ⟨o,e,d⟩:=T.obj _ _ st7 b hb
          exact (I8.pin (b,o) (List.mem_append_right _ (List.mem_append_right _ (mem_pinsAt hb e)))).2.1⟩
      refine wpAny_mono (hg C s H _ s7 σ5 H7 x u _ I7' r7 (step x H7 y7)) (fun _ s8 ⟨σ8,H8,I8,q8⟩=>?_) fun e' s'' f=>hER D C hDC' (Nat.ne_of_lt (Nat.lt_of_lt_of_le hL hDC')) e' s'' f
      refine wpAny_mono (ht C s H _ s8 σ8 H8 _ I8 q8) (fun ok s9 ⟨H9,I9,q9⟩=>?_) fun e' s'' f=>hER D C hDC' (Nat.ne_of_lt (Nat.lt_of_lt_of_le hL hDC')) e' s'' f
      cases ok with
      | false =>
        rw [if_neg Bool.false_ne_true] at q9 ⊢
        obtain ⟨m',hm,w9⟩:=hNN _ _ _ q9
        exact ⟨m',hm,i + 1,ys,its,k,σ8,H9,I9.unpinned,rv5,(kept I9).1,(kept I9).2,w9⟩
      | true =>
        rw [if_pos rfl] at q9 ⊢
        refine wpAny_mono (he C s H _ s9 σ8 H9 _ I9 q9) (fun y s10 ⟨yv,H10,I10,r10,n10⟩=>?_) fun e' s'' f=>hER D C hDC' (Nat.ne_of_lt (Nat.lt_of_lt_of_le hL hDC')) e' s'' f
        obtain ⟨m',hm,w10⟩:=hNN _ _ _ n10
        obtain ⟨k10,f10⟩:=kept I10
        have p10:=I10.pin (D,lobj its k) (List.mem_append_right _ (List.mem_append_left _ List.mem_cons_self))
        have hlen:=rv5.length
        refine wpAny_list_append_plain (hsz:=by rw [List.size_toArray]; lia) (show s10.heap.PlainList D its.toArray from ⟨k,p10.1⟩) fun h11 hl11 hsb11=>?_
        obtain ⟨k11,e11⟩:=hl11
        have J0:Inv (cxCompX X N scope C s H fp EX) [] σ8 H10 s10:=I10.pins_of fun p hp=>nomatch hp
        have J1:Inv (cxCompX X N scope C s H fp EX) [] σ8 H10 { s10 with heap:=h11 }:=J0.turned (t':=s10.toks) (fun b o hb e=>hsb11.extBut b o hb e) p10.2.1 (Nat.ne_of_lt hDC) (.inr (Nat.le_of_eq hD)) (fun x c e z=>Nat.ne_of_lt (clt x c (closOf_ok (fun n c e=>by simp at e) x c e)) z) fun p hp=>nomatch (show p ∈ ([]:List (Addr × Obj)) from hp)
        have e12:h11.get? D = some (lobj (its ++ [y]) k11):=by rw [e11]; simp [lobj]
        refine ⟨m',hm,i + 1,ys ++ [yv],its ++ [y],k11,σ8,H10,pinD J1 p10.2.1 e12 (fun v z=>by cases z),rv5.append (.cons r10 .nil),?_,f10,w10⟩
        exact T.keep _ _ _ k10 fun b hb o e=>hsb11.extBut b o (Nat.ne_of_lt (fol b hb)) e
  refine codeAny_compStart_list (loop _ ?_) (T.self X.A 0 _ _ _ ?_ (loop _ ?_))
  · rfl
  · exact st4
  · rfl
end L2
namespace L2
open PySem PySem.Spec PyProof.Rows
theorem funFrames_to {B B' h h':Heap} (hB:∀ L,B.get? L = none→B'.get? L = none):∀ {l:List Env},h.FunFrames B l→(∀ L ∈ frs l,∀ o,h.get? L = some o→(∀ vs,o.data ≠ .fields vs)→∃ o',h'.get? L = some o'∧o'.data = o.data)→h'.FunFrames B' l
  | [],_,_=>trivial
  | env :: r,⟨hk,⟨L,o,hf,hn,ho,hd⟩,hr⟩,k=>by
    obtain ⟨o',e',d'⟩:=k L (by rw [frs_cons hf]; exact List.mem_cons_self) o ho hd
    refine ⟨hk,⟨L,o',hf,hB L hn,e',fun vs z=>hd vs (d' ▸ z)⟩,funFrames_to hB hr fun L' hL'=>k L' ?_⟩
    rw [frs_cons hf]; exact List.mem_cons_of_mem _ hL'
section
variable {X:Cx} {E:XK} {pins:List (Addr × Obj)} {σ:List (Option V)} {H:Hp} {s:Shared}
theorem comp_exit {scope : Scope} {cl : List (Str × Addr)} {use : Option (Value → Sem Unit)} {Q : Value → Shared → Prop} {D C : Addr} {fp : List Addr} (hX : Exits X E) (I : Inv X pins σ H s) (hst : X.stack = X.env :: X.outer) (hfr : X.env.frame = some X.env.locals)
    (fo:∀ b ∈ fp,b ∈ X.ex∨X.s₀.heap.objs.size ≤ b) (hC:s.heap.objs.size ≤ C) (e:Value) (s':Shared) (h:FlyC X.prog X.w X.stack fp H s.heap s.os E C e s') :
    notedBy (model X.prog X.w) X.A (compEnvC scope cl C X.env) (fun e' s''=>compPost (model X.prog X.w) X.A X.xe use Q (.ref D) C (.error e') s'') e s':=by
  obtain ⟨a,B,cls,a0,H',rfl,os,bare,fl,hok,un,kb,hE,⟨m,hns⟩,hHC⟩:=h
  obtain ⟨oC,es,ep,hBC,rC⟩:=id hns
  show wpAny (model X.prog X.w) X.A (noteFrame (.ref a) X.env) _ _ s'
  refine note_any (outer:=X.outer) (L:=X.env.locals) (by rw [← hst]; exact I.ok.frames) hfr (by rw [← hst]; exact fl) fun h1 held us1=>?_
  obtain ⟨st1,hn1,fr1,tr1⟩:=held
  have flt:∀ L ∈ frs X.stack,L ≠ C:=fun L hL z=>by
    obtain ⟨_,o',e',_⟩:=I.stack.mem hL
    rw [z] at e'
    exact absurd (Nat.lt_of_lt_of_le (Heap.lt_size e') hC) (Nat.lt_irrefl _)
  refine ⟨m,⟨oC,es,ep,st1 C oC hBC,rC⟩,fun h2 hsb cenv hloc=>?_⟩
  obtain ⟨oe,vs,T,oT,ts,he,hcls,hd,hv1,hnT,hTe,hT,hdT,hv3⟩:=tr1
  have haC:a ≠ C:=fun z=>by rw [z,hBC] at hn1; cases hn1
  have hTC:T ≠ C:=fun z=>by rw [z,hBC] at hnT; cases hnT
  have he2:h2.get? a = some oe:=hsb.extBut _ _ haC he
  have hT2:h2.get? T = some oT:=hsb.extBut _ _ hTC hT
  unfold PySem.passOn
  refine wpAny_bind (wpAny_field (s:={ s' with heap:=h2 }) he2 hd hv1 ?_)
  rw [if_neg (show ¬ ((Value.ref T == Value.none) = true) from Bool.false_ne_true)]
  refine wpAny_bind ?_
  unfold setFlight
  refine wpAny_bind (wpAny_field (s:={ s' with heap:=h2 }) he2 hd hv1 ?_)
  rw [if_pos (show (Value.ref T != Value.none) = true from by simp)]
  refine wpAny_setField (s:={ s' with heap:=h2 }) hT2 hdT (Array.getElem?_eq_some_iff.mp hv3).1 (wpAny_throw ?_)
  generalize (cenv.frame.elim Value.none fun f=>rawInt f) = fl3
  have other:∀ b,b ≠ T→(h2.update T (Obj.mapFields (·.setIfInBounds 3 fl3))).get? b = h2.get? b:=fun b hb=>Heap.get?_update_other _ _ (Ne.symm hb)
  have hT3:(h2.update T (Obj.mapFields (·.setIfInBounds 3 fl3))).get? T = some (oT.mapFields (·.setIfInBounds 3 fl3)):=Heap.get?_update_self _ hT2 (Obj.isFreed_of_fields (Obj.data_mapFields hdT _))
  generalize h2.update T (Obj.mapFields (·.setIfInBounds 3 fl3)) = h3 at other hT3 ⊢
  have hide:∀ b o,B.get? b = some o→b ≠ C→(PySem.W.hideAll B [C]).get? b = some o:=fun b o q hb=>PySem.W.hideAll_get _ q (by simpa using hb)
  have unhide:∀ b,B.get? b = none→(PySem.W.hideAll B [C]).get? b = none:=fun b q=>by
    cases z:(PySem.W.hideAll B [C]).get? b with
    | none=>rfl
    | some o=>rw [PySem.W.of_hideAll _ z] at q; cases q
  have h13:∀ b o,b ≠ C→b ≠ T→h1.get? b = some o→h3.get? b = some o:=fun b o hb hb' q=>(other b hb').trans (hsb.extBut b o hb q)
  have st3:(PySem.W.hideAll B [C]).StaysIn h3:=fun b o q=>by
    have q':=PySem.W.of_hideAll _ q
    have hb:b ≠ C:=fun z=>by rw [z,PySem.W.hideAll_none _ (by simp)] at q; cases q
    exact h13 b o hb (fun z=>by rw [z,hnT] at q'; cases q') (st1 b o q')
  have frT:∀ L ∈ frs X.stack,∀ o,h1.get? L = some o→(∀ vs,o.data ≠ .fields vs)→h3.get? L = some o:=fun L hL o q hd'=>h13 L o (flt L hL) (fun z=>by
    rw [z,hT] at q; cases q; exact hd' ts hdT) q
  have fr3:h3.FunFrames (PySem.W.hideAll B [C]) X.stack:=funFrames_to unhide (by rw [hst]; exact fr1) fun L hL o q hd'=>⟨o,frT L hL o q hd',rfl⟩
  have fl3':FlyG (PySem.W.hideAll B [C]) X.stack a cls a0 h3:=⟨st3,unhide a hn1,fr3,fl3,oe,vs,T,_,_,(other a (Ne.symm hTe)).trans he2,hcls,hd,hv1,unhide T hnT,hTe,hT3,Obj.data_mapFields hdT _,by simp [(Array.getElem?_eq_some_iff.mp hv3).1]⟩
  have kb3:∀ b o,s.heap.get? b = some o→b ∉ frs X.stack→b ∉ fp→(∃ o',(PySem.W.hideAll B [C]).get? b = some o')∧(H b = none→(PySem.W.hideAll B [C]).get? b = some o):=fun b o q hb hx=>by
    have hbC:b ≠ C:=Nat.ne_of_lt (Nat.lt_of_lt_of_le (Heap.lt_size q) hC)
    obtain ⟨⟨o',e'⟩,k2⟩:=kb b o q hb hx
    exact ⟨⟨o',hide b o' e' hbC⟩,fun n=>hide b o (k2 n) hbC⟩
  have un3:Un (frs X.stack) fp H H' s.heap h3:=un_left un kb3 st3 (fun b hb o q hd'=>by
    obtain ⟨sl,q1⟩:=us1 b o q hd'
    exact ⟨sl,frT b hb _ q1 hd'⟩) (fun b hb=>(I.stack.mem hb).2) I.stkFree
  have hok3:HOk X.prog X.w H' (PySem.W.hideAll B [C]):=fun b u q=>(hok b u q).stay (fun c v hc z=>hide c v z fun y=>by
    rcases hc with rfl | hc
    · rw [y,hHC] at q; cases q
    · rw [y,hHC] at hc; cases hc) (fun _ z=>z) fun _ _ z=>z
  exact hX I.ok _ _ (fly_back I fo ⟨a,_,cls,a0,H',rfl,os,bare,fl3',hok3,un3,kb3,hE⟩)
end
section
variable {X:Cx} {E:XK} {N:List Str} {cap:List (Option Nat)} {scope:Scope} {elt target iter:Expr} {ifs:List Expr} {pos pos' spos:Pos} {wi:TI} {g:TG} {tc:TT} {te:TE}
end
end L2
namespace L2
open PySem PySem.Spec PyProof.Rows
section
variable {X:Cx} {E:XK} {N:List Str} {cap:List (Option Nat)} {scope:Scope} {elt target iter:Expr} {ifs:List Expr} {pos pos' spos:Pos} {wi:TI} {g:TG} {tc:TT} {te:TE}
end
end L2
namespace L2
open PySem PySem.Spec PyProof.Rows
noncomputable def mroHas (K:PySem.W.Frag) (C:Addr) (v:Value):Bool:=match K.lookup C with
  | some ⟨_,_,.cls cd,_⟩=>cd.mro.contains v
  | _=>false
theorem exc_of_in2 {K : PySem.W.Frag} {h : Heap} {C : Addr} {bmB : List Value} {newId : String} (X : K.In h) (q : PySem.W.excIn K C bmB newId = true) :
    ∃ bm N nm q bs hdct sn sub ab col dd k0 k1 k2 k3 k5 mN,h.get? C = some (excClassObj nm q C N bs bm hdct sn sub ab col dd k0 k1 k2 k3 k5 newId)∧h.Ns N mN∧mN "__init__" = none∧OwnTail h bmB bm∧∀ v,mroHas K C v = (Value.ref C :: bm).contains v:=by
  unfold PySem.W.excIn at q
  split at q
  · rename_i dd cd sl ho
    split at q
    · rename_i C' bm k0 k1 k2 k3 n k5 hm hs
      simp only [Bool.and_eq_true,beq_iff_eq,Bool.not_eq_true'] at q
      obtain ⟨⟨⟨⟨⟨rfl,rfl⟩,hdel⟩,ht⟩,hok⟩,hni⟩:=q
      have hv:∀ v,mroHas K C' v = (Value.ref C' :: bm).contains v:=fun v=>by unfold mroHas; rw [ho]; dsimp only; rw [hm]
      obtain ⟨nm,bs,mro,ns,qn,hd,sn,sub,ab,col,del⟩:=cd
      dsimp only at hm hdel hok hni
      subst hm hdel
      have hsl:sl = #[k0,k1,k2,k3,some (.builtin n),k5]:=by
        obtain ⟨l⟩:=sl
        simp only at hs
        rw [hs]
      subst hsl
      exact ⟨bm,ns,nm,qn,bs,hd,sn,sub,ab,col,dd,k0,k1,k2,k3,k5,_,X _ _ ho,.of_isNs (PySem.W.isNs_of_in X hok),PySem.W.nsMap_none_of_in X hok hni,PySem.W.tail_of_in X ht,hv⟩
    · cases q
  · cases q
section
variable {M:Model} {A:Around} {E:Value→Shared→Prop}
variable {nm q:Str} {C N:Addr} {bs bm:List Value} {hdct:Bool} {sn:List Str} {sub:List Value} {ab:Bool} {col:Option Bool} {dd:Option Addr} {k0 k1 k2 k3 k5:Option Value} {newId:String}
variable {nm' q':Str} {G N':Addr} {bs' bm':List Value} {hdct':Bool} {sn':List Str} {sub':List Value} {ab':Bool} {col':Option Bool} {dd':Option Addr} {k0' k1' k2' k3' k5':Option Value} {newId':String}
theorem excMatches_own {h : Heap} {g : Array GenState} {d : Drawn} {t : Nat} {os : OsState} {e : Addr} {oe : Obj} {Q : Bool → Shared → Prop}
    (hC:h.get? C = some (excClassObj nm q C N bs bm hdct sn sub ab col dd k0 k1 k2 k3 k5 newId)) (hG:h.get? G = some (excClassObj nm' q' G N' bs' bm' hdct' sn' sub' ab' col' dd' k0' k1' k2' k3' k5' newId')) (he:h.get? e = some oe) (hcls:oe.cls = .ref C)
    (hbase:bm'.contains (.type "BaseException") = true) (hm:(Value.ref C :: bm).contains (.ref G) = true)
    (hq:Q true ⟨h,g,d,t,os⟩):wpAny M A (excMatches (.ref e) (.ref G)) Q E ⟨h,g,d,t,os⟩:=by
  have hcB:(Value.ref G :: bm').contains (.type "BaseException") = true:=by rw [List.contains_cons,hbase,Bool.or_true]
  have f:=tc_notTuple
  unfold excMatches
  repeat (first | (with_reducible refine wpAny_loadPart_at he ?_; rw [hcls]) | with_reducible refine wpAny_loadPart_at hG ?_ | with_reducible refine wpAny_loadPart_at hC ?_ | (with_reducible refine wpAny_isSubtype_exc hG ?_; rw [hcB]) | (with_reducible refine wpAny_isSubtype_exc hC ?_; rw [hm]) | wp_step)
  exact hq
end
section
variable {X:Cx} {pins:List (Addr × Obj)} {σ:List (Option V)} {H:Hp} {s:Shared}
theorem goes_ok {M : Model} {A : Around} {E : Value → Shared → Prop} {i : Nat} {n : Str} {pos : Pos} {Q : Unit → Shared → Prop} (I : Inv X pins σ H s) (hN : X.N.Nodup) (hi : X.N[i]? = some n) (hk : X.env.kindOf n = some .local)
    (h:∀ s',Inv X pins (σ.set i none) H s'→Q () s'):wpAny M A (do bindName X.env n .none; unbindBehindTheSuite X.env n pos) Q E s:=by
  obtain ⟨m,hn,hl⟩:=id I.loc
  have hcls:(X.env.scope.kind == .class || (X.env.scope.kind == .module && X.env.locals != X.env.globals)) = false:=by rw [I.ok.kind]; rfl
  have hiσ:i < σ.length:=by rw [I.len]; exact (List.getElem?_eq_some_iff.mp hi).1
  have cne:=I.cne
  refine wpAny_nameGoes_keeps hk hn hcls fun h' v hn' hs=>h _ ?_
  obtain ⟨oL,_,_,hoL,_⟩:=id hn
  have tracked:HOk X.prog X.w H h':=fun b ob e=>by
    refine (I.hok b ob e).stay (fun c w' hc q=>(hs.2 c ?_).trans q) (fun _ q=>q) fun _ _ q=>q
    rintro rfl
    have hfree:=I.free
    rcases hc with rfl | hc
    · rw [hfree] at e; cases e
    · rw [hfree] at hc; cases hc
  refine Inv.tok (s:={ s with heap:=h' }) ⟨I.ok,I.os,I.bare,⟨fun b o e n hb hx=>?_,fun b o e n hb hx=>?_,I.base.free,fun b o e hx=>?_,I.base.tups,I.base.frzs,I.base.tbls⟩,⟨_,hn',fun j y v' e1 e2 e3=>?_⟩,fun y c e=>?_,I.free,I.freeC,fun p hp=>?_,tracked,by simpa using I.len⟩ _
  · exact (hs.2 b (Nat.ne_of_lt (Nat.lt_of_lt_of_le (Heap.lt_size e) I.ok.above))).trans (I.base.keep b o e n hb hx)
  · obtain ⟨sl,e1⟩:=I.base.slot b o e n hb hx
    exact ⟨sl,(hs.2 b (Nat.ne_of_lt (Nat.lt_of_lt_of_le (Heap.lt_size e) I.ok.above))).trans e1⟩
  · obtain ⟨o',e1⟩:=I.base.there b o e hx
    exact ⟨o',(hs.2 b (Nat.ne_of_lt (Nat.lt_of_lt_of_le (Heap.lt_size e) I.ok.above))).trans e1⟩
  · by_cases hj:j = i
    · subst hj
      rw [List.getElem?_set_self hiσ] at e2
      cases e2
    · rw [List.getElem?_set_ne (Ne.symm hj)] at e2
      obtain ⟨u',r',q⟩:=hl j y v' e1 e2 e3
      refine ⟨u',r',?_⟩
      rcases q with ⟨k,e⟩ | ⟨k,c,e,z⟩
      · refine .inl ⟨k,?_⟩
        have:y ≠ n:=fun e=>hj (nodup_ix hN e1 (e ▸ hi))
        simp [this,e]
      · exact .inr ⟨k,c,e,z.sameBut hs (cne y c e)⟩
  · obtain ⟨w',z⟩:=I.cell y c e
    exact ⟨w',z.sameBut hs (cne y c e)⟩
  · obtain ⟨e,n,ne,nf,d⟩:=I.pin p hp
    exact ⟨(hs.2 p.1 ne).trans e,n,ne,nf,d⟩
end
noncomputable def cxSuite (X:Cx) (a:Addr) (oe:Obj):Cx:={ X with A:=X.A.mark (some (.ref a)),calm:=false,pn:=X.pn ++ [(a,oe)],xe:=fun _ _=>False }
theorem suite_in {X : Cx} {pins : List (Addr × Obj)} {σ : List (Option V)} {H : Hp} {s : Shared} {a : Addr} {oe : Obj} (I : Inv X pins σ H s) (he : s.heap.get? a = some oe) (hn : H a = none) (hL : a ≠ X.env.locals) (hf : a ∉ X.fs) (hd : ∀ v, oe.data ≠ .cell v) :
    Inv (cxSuite X a oe) pins σ H s :=
  ⟨⟨I.ok.mod,I.ok.kind,I.ok.glob,I.ok.blt,I.ok.above,I.ok.inj,I.ok.has,I.ok.cab,fun z=>absurd z Bool.false_ne_true,I.ok.frames,I.ok.stk,I.ok.exf,I.ok.bs,I.ok.bsz,I.ok.noex,I.ok.exfs,I.ok.funs,I.ok.frf⟩,I.os,I.bare,I.base,I.loc,I.cell,I.free,I.freeC,fun p hp=>by
    have hp':p ∈ (X.pn ++ [(a,oe)]) ++ pins:=hp
    rcases List.mem_append.mp hp' with z | z
    · rcases List.mem_append.mp z with y | y
      · exact I.pin p (List.mem_append_left _ y)
      · rw [List.mem_singleton.mp y]; exact ⟨he,hn,hL,hf,hd⟩
    · exact I.pin p (List.mem_append_right _ z),I.hok,I.len⟩
theorem suite_out {X : Cx} {pins : List (Addr × Obj)} {σ : List (Option V)} {H : Hp} {s : Shared} {a : Addr} {oe : Obj} (ok : X.Ok) (I : Inv (cxSuite X a oe) pins σ H s) : Inv X pins σ H s :=
  ⟨ok, I.os, I.bare, I.base, I.loc, I.cell, I.free, I.freeC, fun p hp => I.pin p (by
    rcases List.mem_append.mp hp with z | z
    · exact List.mem_append_left _ (List.mem_append_left _ z)
    simp_all), I.hok, I.len⟩
end L2
namespace L2
open PySem PySem.Spec PyProof.Rows
theorem objOk_there {P:Program} {w:World} {H:Hp} {h:Heap} {a:Addr} {o:HO} (x:ObjOk P w H h a o):∃ u,h.get? a = some u:=by
  induction o with
  | lst xs=>obtain ⟨_,_,_,_,e⟩:=x; exact ⟨_,e⟩
  | tup xs=>obtain ⟨_,_,_,o,e,_⟩:=x; exact ⟨_,e⟩
  | dK kvs=>obtain ⟨_,_,_,_,o,_,_,e,_⟩:=x; exact ⟨_,e⟩
  | dT kvs=>obtain ⟨_,_,_,_,o,_,_,e,_⟩:=x; exact ⟨_,e⟩
  | set S n=>obtain ⟨o,_,_,_,e,_⟩:=x; exact ⟨_,e⟩
  | ins C dx fs=>obtain ⟨_,_,_,e,_⟩:=x; exact ⟨_,e⟩
  | own y=>exact x
  | xd fs=>obtain ⟨_,⟨_,_,_,e,_⟩,_⟩:=x; exact ⟨_,e⟩
  | rng lo hi=>obtain ⟨_,_,_,e⟩:=x; exact ⟨_,e⟩
  | frz o u ih=>exact ⟨_,x.1⟩
  | tbl ps=>exact ⟨_,x⟩
  | met f y=>exact ⟨_,x⟩
  | ext φ=>exact x.2.1
structure ExcK (K:PySem.W.Frag) (C:Addr):Prop where
  exc:PySem.W.excIn K C bmVE "ValueError.__new__" = true
  f1:PySem.W.findIn K (.ref C) "__getattribute__" = some (some (.builtin "BaseException.__getattribute__"))
  f2:PySem.W.findIn K (.ref C) "__getattr__" = some none
  f3:PySem.W.findIn K (.ref C) "__class__" = some (some (.builtin "object.__class__"))
  obj:PySem.W.mroIn K C (.type "object") = some true
section
variable {X:Cx} {k:Nat} {x G n:Str} {ps:List Str} {sp:Sp} {e:Expr} {es:List Expr} {t:TA} {p gp cpos epos hpos pos:Pos} {CG:Addr} {newId:String} {i:Nat} {b₀:Stmt} {suite:List Stmt} {ts:Addr→Addr→TS}
end
end L2
namespace PySem.W
open PySem PySem.Calls PyProof.Rows Builtin Builtin.ObjectAttr Builtin.Getset_descriptor
theorem class_getE {prog : Program} {w : World} {A : Around} {R : Result → Shared → Prop} {s : Shared} {K : Frag} {x C : Addr} {ox : Obj} {tp : Value} (X : K.In s.heap) (hx : s.heap.get? x = some ox) (hc : ox.cls = .ref C) (hm : mroIn K C (.type "object") = some true)
    (h : R (.ok (.ret (.ref C))) s) : codeAny (model prog w) A (.call (.builtin "getset_descriptor.__get__") ⟨[.builtin "object.__class__", .ref x, tp], []⟩) R s := by
  obtain ⟨hh, g, dr, t, os⟩ := s
  have L0 : Looks (model prog w) hh (typeOf (.ref x)) (.ref C) := hc ▸ (Looks.ld hx).andThen .now
  have L1 := looks_mroIn (M := model prog w) X hm
  refine codeAny_call_builtin KF.slot_gs.plain KF.entry_gs (KF.slot_gs.check _ _ _ _ _ _ _ _ KF.type_class (KF.args_gs _ _ _) ?_)
  unfold Builtin.«getset_descriptor.__get__» descrGet
  rw [dga_obj]
  refine wpAny_bind (wpAny_pure ?_)
  unfold descrGetter descrCheckInstance descrNameAndClass isInstance
  simp only [KF.owner_class]
  repeat lk
  refine ⟨Code.quiet_builtin _ (by decide +kernel), codeAny_builtin KF.entry_class ?_⟩
  repeat lk
  exact h
end PySem.W
namespace L2
open PySem PySem.Spec PyProof.Rows PySem.W
structure InstE (h:Heap) (a:Addr) (o:Obj) (C:Addr):Prop where
  at_:h.get? a = some o
  cls:o.cls = .ref C
section
variable {prog:Program} {w:World} {A:Around} {E:Value→Shared→Prop} {h:Heap} {g:Array GenState} {d:Drawn} {t:Nat} {os:OsState} {a:Addr} {o:Obj} {K:Frag}
  {nm q:Str} {C N:Addr} {bs bm:List Value} {hdct:Bool} {sn:List Str} {sub:List Value} {ab:Bool} {col:Option Bool} {dd:Option Addr} {k0 k1 k2 k3 k5:Option Value} {newId:String}
theorem tl_in {M:Model} {name:Str} {r:Option Value} {Q:Option Value→Shared→Prop} (X:K.In h) (f:findIn K (.ref C) name = some r) (hq:Q r ⟨h,g,d,t,os⟩):wpAny M A (typeLookup (.ref C) name) Q E ⟨h,g,d,t,os⟩ :=
  (looks_findIn (M:=M) X f).at hq
theorem check_ga {M : Model} {nameV : Value} {Q : Unit → Shared → Prop} (hC : h.get? C = some (excClassObj nm q C N bs bm hdct sn sub ab col dd k0 k1 k2 k3 k5 newId)) (hcB : (Value.ref C :: bm).contains (.type "BaseException") = true)
    (hx:h.get? a = some o) (hc:o.cls = .ref C) (hq:Q () ⟨h,g,d,t,os⟩):wpAny M A (checkBuiltinCall "BaseException.__getattribute__" ⟨[.ref a,nameV],[]⟩) Q E ⟨h,g,d,t,os⟩:=by
  have hk:builtinKind "BaseException.__getattribute__" = some .slot:=by decide +kernel
  have hsplit:splitId "BaseException.__getattribute__" = some ("BaseException","__getattribute__"):=by decide +kernel
  have ha:=F.args_bexc_ga (.ref a) nameV
  simp only [checkBuiltinCall,hk,hsplit]
  refine wpAny_bind ?_
  · unfold isInstance
    repeat (first | (with_reducible refine wpAny_loadPart_at hx ?_; rw [hc]) | (with_reducible refine wpAny_isSubtype_exc hC ?_; rw [hcB]) | wp_step)
    exact hq
theorem class_entry {tk : Tok} {Q : Fin → Shared → Prop} (X : K.In h) (I : InstE h a o C) (f3 : findIn K (.ref C) "__class__" = some (some (.builtin "object.__class__"))) (hm : mroIn K C (.type "object") = some true)
    (hq:Q (.done (.ret (.ref C))) ⟨h,g,d,t,os⟩) :
    wpAny (model prog w) A (Builtin.«object.__getattribute__» ⟨[.ref a,.str "__class__" tk],[]⟩) Q E ⟨h,g,d,t,os⟩:=by
  have hx:=I.at_
  have hc:=I.cls
  have hT5:(⟨h,g,d,t,os⟩:Shared).TypeIs (.builtin "object.__class__") "getset_descriptor":=F.typeOf_object_class
  have f5:=F.typeOf_object_class
  have f6:=F.slot_gs_get.lookup
  have f7:=F.slot_gs_set.lookup
  repeat (any_goals (first | assumption | (with_reducible refine wpAny_loadPart_at hx ?_; rw [hc]) | with_reducible refine tl_in X f3 ?_ | wp_step))
  refine PySem.W.class_getE (s:=⟨h,g,d,t,os⟩) X I.at_ I.cls hm ?_
  repeat (any_goals (first | assumption | wp_step))
theorem class_call {tk : Tok} {R : Result → Shared → Prop} (X : K.In h) (I : InstE h a o C) (hC : h.get? C = some (excClassObj nm q C N bs bm hdct sn sub ab col dd k0 k1 k2 k3 k5 newId)) (hcB : (Value.ref C :: bm).contains (.type "BaseException") = true)
    (f3:findIn K (.ref C) "__class__" = some (some (.builtin "object.__class__"))) (hm:mroIn K C (.type "object") = some true) (hq:R (.ok (.ret (.ref C))) ⟨h,g,d,t,os⟩) :
    codeAny (model prog w) A (.call (.builtin "BaseException.__getattribute__") ⟨[.ref a,.str "__class__" tk],[]⟩) R ⟨h,g,d,t,os⟩ :=
  codeAny_call_builtin F.attr_ValueError.ga.plain F.entry_bexc_ga (check_ga hC hcB I.at_ I.cls (class_entry X I f3 hm hq))
theorem class_by {tk : Tok} {Q : Value → Shared → Prop} (X : K.In h) (I : InstE h a o C) (hC : h.get? C = some (excClassObj nm q C N bs bm hdct sn sub ab col dd k0 k1 k2 k3 k5 newId)) (hcB : (Value.ref C :: bm).contains (.type "BaseException") = true)
    (f1 : findIn K (.ref C) "__getattribute__" = some (some (.builtin "BaseException.__getattribute__"))) (f2 : findIn K (.ref C) "__getattr__" = some none)
    (f3 : findIn K (.ref C) "__class__" = some (some (.builtin "object.__class__"))) (hm : mroIn K C (.type "object") = some true) (hq : Q (.ref C) ⟨h, g, d, t, os⟩) :
    wpAny (model prog w) A (getAttrBy (.ref a) (.str "__class__" tk) false) Q E ⟨h, g, d, t, os⟩ := by
  have hx := I.at_
  have hc := I.cls
  have f3' := F.attr_ValueError.ga.bind (.ref a)
  repeat (any_goals (first | assumption | (with_reducible refine wpAny_loadPart_at hx ?_; rw [hc]) | with_reducible refine tl_in X f1 ?_ | with_reducible refine tl_in X f2 ?_ | wp_step))
  refine class_call X I hC hcB f3 hm ?_
  repeat (any_goals (first | assumption | wp_step))
end
theorem kitx_exc {K : Frag} {a C : Addr} {o : Obj} (Z : ExcK K C) : KitX K (.ref a) (.ref C) (fun h => InstE h a o C) where
  ty := fun _ _ _ I => I.cls ▸ (Looks.ld I.at_).andThen .now
  it := fun _ h X _ => by
    obtain ⟨bm, N, nm, qn, bs, hdct, sn, sub, ab, col, dd, k0, k1, k2, k3, k5, mN, hC, _⟩ := exc_of_in2 X Z.exc
    intro A' Q' E' s' k q
    unfold isType loadHead
    exact wpAny_bind (wpAny_loadPart (k _ _ hC) (wpAny_pure q))
  ne := fun h tp dd its n sl X htp => by
    obtain ⟨bm, N, nm, qn, bs, hdct, sn, sub, ab, col, dd', k0, k1, k2, k3, k5, mN, hC, _⟩ := exc_of_in2 X Z.exc
    grind
  ca := fun {prog w A E Q s} X I k => by
    obtain ⟨hh, g, d, t, os⟩ := s
    obtain ⟨bm, N, nm, qn, bs, hdct, sn, sub, ab, col, dd', k0, k1, k2, k3, k5, mN, hC, _, _, TL, _⟩ := exc_of_in2 X Z.exc
    have hcB : (Value.ref C :: bm).contains (.type "BaseException") = true := by rw [List.contains_cons, TL.hasType F.excBase_ValueError.hasBase, Bool.or_true]
    unfold getAttr? getAttrBy?
    refine wpAny_bind (wpAny_mkText (wpAny_bind (wpAny_attempt ?_)))
    exact class_by (h := hh) X I hC hcB Z.f1 Z.f2 Z.f3 Z.obj (wpAny_pure k)
end L2
namespace L2
open PySem PySem.Spec PyProof.Rows
noncomputable def lamArgs (e:Expr):Arguments:=match e with
  | .Lambda a _ _ _=>a
  | _=>{ posonlyargs:=[],args:=[],vararg:=none,kwonlyargs:=[],kw_defaults:=[],kwarg:=none,defaults:=[] }
noncomputable def lamBody (e:Expr):Expr:=match e with
  | .Lambda _ b _ _=>b
  | _=>e
noncomputable def lamScope (e:Expr):Scope:=match e with
  | .Lambda _ _ sc _=>sc
  | _=>{ kind:=.function,names:=[],isGenerator:=false,isCoroutine:=false }
noncomputable def stBody (s:Stmt):List Stmt:=match s with
  | .For _ _ b _ _=>b
  | .While _ b _ _=>b
  | .If _ b _ _=>b
  | _=>[]
structure MadeL (H:Hp) (f:Addr) (qual:Str) (le:Expr) (cl:List (Str × Addr)):Prop where
  ex:∃ (pm:Value) (c':Addr) (ctv:Value) (oc:Obj) (vs:Array Value) (t:Tok),Kn H f (PySem.W.kla_obj "<lambda>" qual (lamArgs le) (lamBody le) (lamScope le) cl pm c' ctv)∧Kn H c' oc∧oc.data = .fields vs∧vs[1]? = some (.str qual t)
structure CloAtL (H:Hp) (f:Addr) (qual:Str) (le:Expr) (fr:List Str) (cs:List Addr) (ws:List V):Prop where
  ex:∃ cl,MadeL H f qual le cl∧(∀ x c,cl.lookup x = some c→∃ j:Nat,fr[j]? = some x∧cs[j]? = some c)∧∀ (j:Nat) x,fr[j]? = some x→∃ c,cl.lookup x = some c∧cs[j]? = some c
  cells:∀ (j:Nat) x,ws[j]? = some x→∃ c o u,cs[j]? = some c∧Kn H c o∧o.data = .cell (some u)∧RelV x u
  l1:cs.length = fr.length
  l2:ws.length = fr.length
  nd:cs.Nodup
theorem CloAtL.fn {H:Hp} {f:Addr} {qual:Str} {le:Expr} {fr:List Str} {cs:List Addr} {ws:List V} (C:CloAtL H f qual le fr cs ws):∃ oc od fd sl,Kn H f ⟨oc,od,.func fd,sl⟩:=by
  obtain ⟨cl,⟨pm,c',ctv,oc,vs,t,h1,_⟩,_⟩:=C.ex
  exact ⟨_,_,_,_,h1⟩
section
variable {X:Cx}
end
end L2
namespace L2
open PySem PySem.Spec PyProof.Rows
section
variable {X:Cx} {pos:Pos} {K:PySem.W.Frag}
noncomputable def gSlA (K:PySem.W.Frag):V→Option Int→Option Int→Hp→VK→Prop:=fun x lo hi H Q=>match x with
  | .str z=>z.length ≤ sizeLine∧Q (.str (Txt.slice z lo hi)) H
  | .ref a=>(∃ xs,SqL K H a xs∧∀ p,H p = none→Q (.ref p) (upd H p (.lst (cutV xs lo hi))))∨∃ xs,SqT K H a xs∧¬ (HT.sIx xs.length 0 lo = 0∧HT.sIx xs.length xs.length hi = xs.length)∧∀ p,H p = none→Q (.ref p) (upd H p (.tup (cutV xs lo hi)))
  | _=>False
theorem o_slA (hK : X.K = K := by rfl) : Irr (SlR X (gSlA K)) := by
  refine .mk ?_
  subst hK
  intro pins s σ H x v vl vu lo hi sl Q I rx hs pl pu h
  unfold gSlA at h
  split at h
  · exact sl_str pins s σ H _ v vl vu lo hi sl Q I rx hs pl pu ⟨_, rfl, h.1, h.2⟩
  · rcases h with ⟨xs, h1, h2⟩ | ⟨xs, h1, h2, h3⟩
    · exact sl_list pins s σ H _ v vl vu lo hi sl Q I rx hs pl pu ⟨_, xs, rfl, h1, h2⟩
    · exact sl_tup pins s σ H _ v vl vu lo hi sl Q I rx hs pl pu ⟨_, xs, rfl, h1, h2, h3⟩
  simp_all
theorem j_gint {x:Str} {v:Int} (hg:Gl X x) (hm:∃ t,X.mg x = some (.int v t)) (hd:(x == ("__debug__":Str)) = false:=by decide):JE X (.Name x pos) (tC (.int v)):=by
  obtain ⟨t,h⟩:=hm
  exact j_glob hg h ⟨_,rfl⟩ hd
end
end L2
namespace L2
open PySem PySem.Spec PyProof.Rows
section
variable {X:Cx} {a b c e f i o k v value:Expr} {ta tb te td ty tv tx:TE} {K:PySem.W.Frag} {w:World} {pos pos' p2 apos cpos:Pos}
noncomputable def gInA (K:PySem.W.Frag) (neg:Bool):R2:=fun x y H Q=>match y with
  | .str j=>(match x with
    | .str i=>Q (.bl (neg ^^ !(Builtin.Str.occurrences j i 0 j.length 1).isEmpty)) H
    | _=>False)
  | .ref p=>(∃ xs,(SqL K H p xs∨SqT K H p xs)∧flatV x = true∧xs.all flatV = true∧Q (.bl (neg ^^ inV x xs)) H)∨∃ o,DGet H p x o∧Q (.bl (neg ^^ o.isSome)) H
  | _=>False
theorem o_inA (hu : X.A.units + 64 < cLine) (hK : X.K = K := by rfl) : Irr (OpR X (compareOp .In) (gInA K false)) := by
  refine .mk ?_
  subst hK
  intro pins s σ H x y v u Q I rx ry h
  cases y with
  | str j => exact og_in rfl pins s σ H x (.str j) v u Q I rx ry h
  | ref p =>
    rcases h with h | ⟨ov, g, q⟩
    · exact og_in rfl pins s σ H x (.ref p) v u Q I rx ry h
    · obtain rfl : u = Value.ref p := ry
      exact d_in (by lia) I g rx fun s3 I3 => ⟨.bl ov.isSome, H, I3, rfl, by simp_all⟩
  | _ => exact False.elim h
theorem o_notinA (hu : X.A.units + 64 < cLine) (hK : X.K = K := by rfl) : Irr (OpR X (compareOp .NotIn) (gInA K true)) := by
  refine .mk ?_
  subst hK
  intro pins s σ H x y v u Q I rx ry h
  cases y with
  | str j => exact og_notin rfl pins s σ H x (.str j) v u Q I rx ry h
  | ref p =>
    rcases h with h | ⟨ov, g, q⟩
    · exact og_notin rfl pins s σ H x (.ref p) v u Q I rx ry h
    · obtain rfl : u = Value.ref p := ry
      exact d_notIn (by lia) I g rx fun s3 I3 => ⟨.bl (!ov.isSome), H, I3, rfl, by simp_all⟩
  | _ => exact False.elim h
noncomputable def mDPut (td ty tv:TE):TS:=fun D σ H=>tv σ H fun v H1=>td σ H1 fun x H2=>match x with
  | .ref a=>ty σ H2 fun y H3=>∃ H4,DPut H3 a y v H4∧D.nx σ H4
  | _=>False
theorem js_dput (hu:X.A.units + 64 < cLine) (ho:JE X o td) (hi:JE X i ty) (hv:JE X value tv) (hs:swapsWith value (some (.Subscript o i pos')) pos.line X.env = pure false:=by rfl):JS X (.Assign [.Subscript o i pos'] value pos) (mDPut td ty tv):=by
  refine .mk ?_
  intro pins s σ H D I h
  refine wpAny_Assign_Subscript (thn (hv.out pins s σ H _ I h) fun r s1 ⟨v,H1,I1,rv,q1⟩=>thn (ho.out pins s1 σ H1 _ I1 q1) fun u s2 ⟨x,H2,I2,rx,q2⟩=>?_) hs
  try dsimp only at q2
  split at q2
  · rename_i a
    obtain rfl:u = Value.ref a:=rx
    refine thn (hi.out pins s2 σ H2 _ I2 q2) fun iv s3 ⟨y,H3,I3,ry,H4,g,q3⟩=>?_
    exact d_setItem (by lia) I3 g ry rv fun s4 I4=>⟨σ,H4,I4,q3⟩
  · exact q2.elim
theorem j_dnewK:JE X (.Dict [] [] pos) tDNewK:=.mk pe_dnewK
theorem IsD.tk {H:Hp} {a:Addr} {kvs:List (List Key × V)} (e:H a = some (.dT kvs)):IsD H a:=.inr ⟨kvs,.inl e⟩
noncomputable def gInt:List V→Hp→VK→Prop:=fun xs H Q=>match xs with
  | [.int i]=>Q (.int i) H
  | [.bl b]=>Q (.int (if b then 1 else 0)) H
  | _=>False
theorem c_int : Irr (CallR X (.type "int") gInt) := by
  refine .mk ?_
  intro pins s σ H xs us Q I r h
  unfold gInt at h
  split at h
  · exact call_int1 pins s σ H _ us Q I r (.inl ⟨_, rfl, h⟩)
  · exact call_int1 pins s σ H _ us Q I r (.inr ⟨_, rfl, h⟩)
  simp_all
noncomputable def gTuple (K:PySem.W.Frag):List V→Hp→VK→Prop:=fun xs H Q=>match xs with
  | [.ref p]=>∃ ys,(SqL K H p ys∧∀ l,H l = none→Q (.ref l) (upd H l (.tup ys)))∨(SqT K H p ys∧Q (.ref p) H)
  | _=>False
theorem c_tuple (hK : X.K = K := by rfl) : Irr (CallR X (.type "tuple") (gTuple K)) := by
  refine .mk ?_
  subst hK
  intro pins s σ H xs us Q I r h
  unfold gTuple at h
  split at h
  · obtain ⟨ys, h⟩ := h
    exact call_tuple_of pins s σ H _ us Q I r ⟨_, ys, rfl, h⟩
  simp_all
end
end L2
namespace L2
open PySem PySem.Spec PyProof.Rows
section
variable {X:Cx} {K:PySem.W.Frag}
noncomputable def gPop:V→List V→Hp→VK→Prop:=fun x vs H Q=>match x,vs with
  | .ref l,[]=>∃ xs y,H l = some (.lst xs)∧xs[xs.length - 1]? = some y∧Q y (upd H l (.lst xs.dropLast))
  | _,_=>False
theorem m_pop : Irr (MtR X "list.pop" gPop) := by
  refine .mk ?_
  intro pins s σ H x xs v us Q I rx rs h
  unfold gPop at h
  split at h
  · obtain ⟨xs, y, h1, h2, h3⟩ := h
    exact mt_pop pins s σ H _ _ v us Q I rx rs ⟨_, xs, y, rfl, rfl, h1, h2, h3⟩
  simp_all
end
end L2
namespace L2
open PySem PySem.Spec PyProof.Rows
noncomputable def Ite (K:PySem.W.Frag) (a:Addr):It :=
  ⟨fun i H=>∃ xs x,SqL K H a xs∧xs[i]? = some x,
   fun i H v H'=>∃ T x,(∀ xs,SqL K H a xs→xs[i]? = some x)∧H T = none∧v = .ref T∧H' = upd H T (.tup [.int (i:Nat),x]),
   fun i H=>∃ xs,SqL K H a xs∧xs.length ≤ i⟩
theorem turn_enum {P : Program} {w : World} {K : PySem.W.Frag} {elts : List Expr} {x1} {pos : Pos} {a e it : Addr} (hne : e ≠ it) :
    Turn P w K (.Tuple elts x1 pos) (Ite K a) [e,it] e (fun i h=>(∃ old,IsEnum h e it (i:Nat) old)∧h.IsListIter it a i) where
  mem:=by simp
  obj:=by
    rintro i h ⟨⟨old,he⟩,hi⟩ c hc
    simp only [List.mem_cons,List.not_mem_nil,or_false] at hc
    rcases hc with rfl | rfl
    · exact ⟨_,he,fun v z=>by cases z⟩
    · obtain ⟨o,ho,_,d⟩:=hi
      exact ⟨o,ho,fun v z=>by rw [d] at z; cases z⟩
  keep:=by
    rintro i h h' ⟨⟨old,he⟩,hi⟩ k
    refine ⟨⟨old,k e (by simp) _ he⟩,?_⟩
    obtain ⟨o,ho,r⟩:=hi
    exact ⟨o,k it (by simp) _ ho,r⟩
  item:=by
    rintro X hP hw hK hc i pins s σ H E I hf ⟨⟨old,he⟩,hi⟩ ⟨xs,x,q1,hx⟩
    subst hP hw hK
    obtain ⟨its,rv,p1,_⟩:=I.list q1
    obtain ⟨ux,hux,rx⟩:=rv.get hx
    refine wpAny_pyNext_enum_item he hi p1.isList (x:=ux) (by simpa using hux) hne fun h' a1 a2 a3 a4 a5=>?_
    have hT:H s.heap.objs.size = none:=I.hok.fresh (Nat.le_refl _)
    have I1:Inv X pins σ (upd H s.heap.objs.size (.tup [.int (i:Nat),x])) { s with heap:=s.heap.push { cls:=.type "tuple",data:=.seq [.int (i:Nat) s.toks,ux].toArray },toks:=s.toks + 1 } :=
      I.laid (t':=s.toks + 1) (fun b o q=>Heap.get?_push_of_some _ q) (Nat.le_refl _) (show ObjOk X.prog X.w _ _ _ (.tup [.int (i:Nat),x]) from ⟨by show 2 ≤ sizeLine; decide,[.int (i:Nat) s.toks,ux],.cons ⟨_,rfl⟩ (.cons rx .nil),IsTup.new _ _⟩)
    have hlt:∀ c ∈ [e,it],c < s.heap.objs.size:=by
      intro c hc
      simp only [List.mem_cons,List.not_mem_nil,or_false] at hc
      rcases hc with rfl | rfl
      · exact Heap.lt_size he
      · obtain ⟨o,ho,_⟩:=hi; exact Heap.lt_size ho
    have hf':∀ c ∈ [e,it],FpOk X pins (upd H s.heap.objs.size (.tup [.int (i:Nat),x])) c:=fun c hc=>by
      obtain ⟨f0,fr⟩:=hf c hc
      exact ⟨by rw [upd_ne (Nat.ne_of_lt (hlt c hc))]; exact f0,fr⟩
    have kept:∀ c o,c ∉ [e,it]→(s.heap.push { cls:=.type "tuple",data:=.seq [.int (i:Nat) s.toks,ux].toArray }).get? c = some o→h'.get? c = some o:=by
      intro c o hc q
      have hc':c ≠ e∧c ≠ it:=by simpa using hc
      by_cases hn:c = s.heap.objs.size
      · subst hn
        have e0:(s.heap.push { cls:=.type "tuple",data:=.seq [.int (i:Nat) s.toks,ux].toArray }).get? s.heap.objs.size = some { cls:=.type "tuple",data:=.seq [.int (i:Nat) s.toks,ux].toArray }:=Heap.get?_push_size _ rfl
        rw [e0] at q
        cases q
        exact a3
      · rw [Heap.get?_push_ne _ _ _ hn] at q
        exact a5 c o hc'.1 hc'.2 q
    have I2:Inv X pins σ (upd H s.heap.objs.size (.tup [.int (i:Nat),x])) { s with heap:=h',toks:=s.toks + 1 }:=I1.turnedL (t':=s.toks + 1) kept hf'
    refine ⟨_,rfl,?_⟩
    refine wpAny_letOwnedTupleGo_enum a1 fun h2' he2 hs2=>?_
    have I3:Inv X pins σ (upd H s.heap.objs.size (.tup [.int (i:Nat),x])) { s with heap:=h2',toks:=s.toks + 1 }:=Inv.turnedL (s:={ s with heap:=h',toks:=s.toks + 1 }) (h':=h2') (t':=s.toks + 1) (fp:=[e,it]) I2 (fun c o hc q=>hs2.extBut _ _ (fun z=>hc (by simp [z])) q) hf'
    refine ⟨.ref s.heap.objs.size,_,I3,rfl,⟨_,x,fun zs hq=>by rw [I.list_inj hq q1]; exact hx,hT,rfl,rfl⟩,⟨⟨_,he2⟩,?_⟩,fun c hc=>(hf' c hc).1⟩
    obtain ⟨o,ho,r⟩:=a2
    exact ⟨o,hs2.extBut _ _ hne.symm ho,r⟩
  done:=by
    rintro X hP hw hK hc i pins s σ H E I hf ⟨⟨old,he⟩,hi⟩ ⟨xs,q1,hend⟩
    subst hP hw hK
    obtain ⟨its,rv,p1,_⟩:=I.list q1
    have l1:=rv.length
    refine wpAny_pyNext_enum_end (I.ok.hd hc) he hi p1.isList (by simp; lia) fun h' hk=>⟨rfl,I.turnedL (t':=s.toks) (fp:=[e,it]) (fun c o hc q=>?_) hf⟩
    have hc':c ≠ e∧c ≠ it:=by simpa using hc
    exact hk c o hc'.2 q
  self:=fun _ _ _ _ _ st h=>by
    obtain ⟨⟨old,he⟩,_⟩:=st
    exact wpAny_pyIter_enum he h
section
variable {X:Cx} {K:PySem.W.Frag}
noncomputable def iEnum (K:PySem.W.Frag) (ta:TA):TI:=fun σ H R=>ta σ H fun vs H1=>match vs with
  | [.ref a]=>(∃ xs,SqL K H1 a xs)∧R (Ite K a) H1
  | _=>False
theorem pi_enum {a : Expr} {ta : TA} {p pos : Pos} {elts : List Expr} {x1} {pos' : Pos} (hg : Gl X "enumerate") (hm : X.mg "enumerate" = none) (ha : PA X [a] ta) (hK : X.K = K := by rfl) (hs : starEach [a] X.env = [(false, eval a X.env)] := by rfl) :
    PI X (.Tuple elts x1 pos') (.Call (.Name "enumerate" p) [a] [] pos) (iEnum K ta):=by
  subst hK
  intro pins s σ H R I h
  refine Call_ (ld_blt I hg hm boot_enumerate (PyProof.Rows.callWith_type1 (thn (ha pos pins s σ H _ I h) fun us s1 ⟨vs,H1,I1,r1,q1⟩=>?_) (by rw [hs]; rfl) rfl))
  try dsimp only at q1
  split at q1
  · obtain ⟨u,rfl,r⟩:=vals1 r1
    cases r
    obtain ⟨⟨xs,hx⟩,q⟩:=q1
    obtain ⟨its,rv,p1,_⟩:=I1.list hx
    refine call_enumerate_list p1.isList fun h' he hi hz hk=>?_
    refine wpAny_pyIter_enum he ?_
    refine ⟨_,[s1.heap.objs.size + 1,s1.heap.objs.size],_,_,H1,rfl,I1.kept (t':=s1.toks) hk,turn_enum (Nat.succ_ne_self _),⟨⟨_,he⟩,hi⟩,fun c hc=>?_,q⟩
    have hge:s1.heap.objs.size ≤ c:=by
      simp only [List.mem_cons,List.not_mem_nil,or_false] at hc
      rcases hc with rfl | rfl
      · exact Nat.le_succ _
      · exact Nat.le_refl _
    exact I1.fpOk hge (I1.hok.fresh hge)
  · exact q1.elim
theorem ji_enum {a : Expr} {ta : TA} {p pos : Pos} {elts : List Expr} {x1} {pos' : Pos} (hg : Gl X "enumerate") (hm : X.mg "enumerate" = none) (ha : JA X [a] ta) (hK : X.K = K := by rfl) (h1 : noStar a = true := by rfl) :
    JI X (.Tuple elts x1 pos') (.Call (.Name "enumerate" p) [a] [] pos) (iEnum K ta):=.mk (pi_enum hg hm ha.out hK (by rw [starEach_cons h1]; rfl))
end
theorem for_enum {K : PySem.W.Frag} {a : Addr} {xs : List V} {g : TG} {tb : TS} {D : Ends} {σ : St} {H : Hp} (Pv : Nat → St → Hp → Prop) (h0 : Pv 0 σ H)
    (hl:∀ i σ H,i ≤ xs.length→Pv i σ H→SqL K H a xs)
    (hs:∀ i x σ H,xs[i]? = some x→Pv i σ H→∀ T,H T = none→g (.ref T) σ (upd H T (.tup [.int (i:Nat),x])) fun σ2 H2=>tb { D with nx:=Pv (i + 1),ct:=Pv (i + 1),bk:=D.nx } σ2 H2) (hd:∀ σ H,Pv xs.length σ H→D.nx σ H) :
    ∃ W:Nat→Nat→St→Hp→Prop,(∃ m,W 0 m σ H)∧∀ i m σ H,W i m σ H →
      ((Ite K a).stop i H∧D.nx σ H)∨((Ite K a).go i H∧∃ N:St→Hp→Prop,(∀ σ' H',N σ' H'→∃ m',m' < m∧W (i + 1) m' σ' H')∧∀ x H',(Ite K a).yld i H x H'→g x σ H' fun σ2 H2=>tb { D with nx:=N,ct:=N,bk:=D.nx } σ2 H2):=by
  refine ⟨fun i m σ H=>m = xs.length - i∧i ≤ xs.length∧Pv i σ H,⟨xs.length,by simp,Nat.zero_le _,h0⟩,?_⟩
  rintro i m σ H ⟨rfl,hi,p⟩
  have q1:=hl i σ H hi p
  by_cases hlt:i < xs.length
  · refine .inr ⟨⟨xs,xs[i],q1,by simp [hlt]⟩,Pv (i + 1),fun σ' H' p'=>⟨xs.length - (i + 1),by lia,rfl,hlt,p'⟩,fun v H' y=>?_⟩
    obtain ⟨T,x,e1,hT,rfl,rfl⟩:=y
    exact hs i x σ H (e1 xs q1) p T hT
  · have e:i = xs.length:=by lia
    subst e
    exact .inl ⟨⟨xs,q1,Nat.le_refl _⟩,hd σ H p⟩
end L2
namespace L2
open PySem PySem.Spec PyProof.Rows
namespace FX
end FX
section
variable {prog:Program} {w:World} {A:Around} {E:Value→Shared→Prop} {s:Shared}
end
section
variable {X:Cx} {K:PySem.W.Frag}
noncomputable def gEqA (K:PySem.W.Frag) (neg:Bool):R2:=fun x y H Q=>match x,y with
  | .non,.str j=>PyData.strOk j = true∧Q (.bl neg) H
  | .str j,.non=>PyData.strOk j = true∧Q (.bl neg) H
  | .non,.non=>Q (.bl (!neg)) H
  | .non,.int _=>Q (.bl neg) H
  | .int _,.non=>Q (.bl neg) H
  | x,y=>gEq K neg x y H Q
theorem o_eqA (hu:X.A.units + 64 < cLine) (hK:X.K = K:=by rfl):Irr (OpR X (compareOp .Eq) (gEqA K false)):=by
  refine .mk ?_
  subst hK
  intro pins s σ H x y v u Q I rx ry h
  have gen:∀ da db,DatV X.K H x da→DatV X.K H y db→da.canLay0 = true→db.canLay0 = true→min da.depth db.depth ≤ 60→Q (.bl (PyData.eqv da db)) H→_:=fun da db h1 h2 h3 h4 h5 h6=>op_eqD hu pins s σ H x y v u Q I rx ry ⟨da,db,h1,h2,h3,h4,h5,by simpa using h6⟩
  unfold gEqA at h
  split at h
  · exact gen .none (.str _) .none (.str _) (by simp only [PyData.canLay0]) (by simp only [PyData.canLay0]; exact h.1) (by simp only [PyData.depth]; lia) (by simpa [PyData.eqv] using h.2)
  · exact gen (.str _) .none (.str _) .none (by simp only [PyData.canLay0]; exact h.1) (by simp only [PyData.canLay0]) (by simp only [PyData.depth]; lia) (by simpa [PyData.eqv] using h.2)
  · exact gen .none .none .none .none (by simp only [PyData.canLay0]) (by simp only [PyData.canLay0]) (by simp only [PyData.depth]; lia) (by simpa [PyData.eqv] using h)
  · exact gen .none (.int _) .none (.int _) (by simp only [PyData.canLay0]) (by simp only [PyData.canLay0]) (by simp only [PyData.depth]; lia) (by simpa [PyData.eqv] using h)
  · exact gen (.int _) .none (.int _) .none (by simp only [PyData.canLay0]) (by simp only [PyData.canLay0]) (by simp only [PyData.depth]; lia) (by simpa [PyData.eqv] using h)
  · exact og_eq hu rfl pins s σ H _ _ v u Q I rx ry h
end
end L2
namespace L2
open PySem PySem.Spec PyProof.Rows
section
variable {X:Cx}
end
end L2
namespace L2
open PySem PySem.Spec PyProof.Rows
section
variable {X:Cx} {K:PySem.W.Frag}
end
end L2
namespace L2
open PySem PySem.Spec PyProof.Rows
section
variable {X:Cx} {K:PySem.W.Frag}
noncomputable def bls (bs:List Bool):List V:=bs.map V.bl
noncomputable def gAll (K:PySem.W.Frag):List V→Hp→VK→Prop:=fun xs H Q=>match xs with
  | [.ref a]=>∃ bs:List Bool,SqL K H a (bls bs)∧Q (.bl (bs.all id)) H
  | _=>False
noncomputable def gAny (K:PySem.W.Frag):List V→Hp→VK→Prop:=fun xs H Q=>match xs with
  | [.ref a]=>∃ bs:List Bool,SqL K H a (bls bs)∧Q (.bl (bs.any id)) H
  | _=>False
theorem bls_at : ∀ {bs : List Bool} {its : List Value} {i : Nat} {v : Value}, Vals (bls bs) its → its[i]? = some v → v = .bool (bs.getD i false)
  | [], _, i, v, h, e => by cases h; simp at e
  | b :: r, _, 0, v, h, e => by
    cases h with
    | cons a t => simp at e; subst e; exact a
  | b :: r, _, i + 1, v, h, e => by
    cases h with
    | cons a t =>
      have := bls_at (bs := r) t e
      simpa using this
theorem range_bs (bs:List Bool):(List.range bs.length).map (fun i=>bs.getD i false) = bs:=by
  refine List.ext_getElem (by simp) fun i h1 h2=>?_
  simp [List.getD,h2]
theorem all_bs (bs:List Bool):(List.range bs.length).all (fun i=>bs.getD i false) = bs.all id:=by
  have h:=List.all_map (f:=fun i=>bs.getD i false) (p:=id) (l:=List.range bs.length)
  rw [range_bs] at h
  exact h.symm
theorem any_bs (bs:List Bool):(List.range bs.length).any (fun i=>bs.getD i false) = bs.any id:=by
  have h:=List.any_map (f:=fun i=>bs.getD i false) (p:=id) (l:=List.range bs.length)
  rw [range_bs] at h
  exact h.symm
theorem c_all (hc:X.calm = true) (hK:X.K = K:=by rfl):Irr (CallR X (.builtin "all") (gAll K)):=by
  refine .mk ?_
  subst hK
  intro pins s σ H xs us Q I r h
  unfold gAll at h
  split at h
  · rename_i la
    obtain ⟨bs,hS,q⟩:=h
    obtain ⟨u,rfl,rx⟩:=vals1 r
    cases rx
    obtain ⟨its,rv,pl,_⟩:=I.list hS
    have hlen:its.length = bs.length:=by have:=rv.length; unfold bls at this; rw [List.length_map] at this; exact this.symm
    have hll:la < s.heap.objs.size:=by obtain ⟨o,n,e,_⟩:=pl; exact Heap.lt_size e
    refine call_all_walk (wpAny_pyIter_list pl.isList ?_)
    refine ⟨_,_,_,_,_,_,fun i=>bs.getD i false,rfl,Walks.list (A:=X.A.in1) (I.ok.hd hc) s.heap.objs.size la (Nat.ne_of_lt hll) its.toArray,⟨⟨_,Heap.get?_push_size _ rfl,rfl,rfl⟩,pl.isList.push _⟩,fun i v s2 Q2 E2 hv hq=>?_,fun h' tk hk=>?_⟩
    · have e:=bls_at (i:=i) (v:=v) rv (by simpa using hv)
      rw [e]
      exact wpAny_truthy_bool hq
    · refine ⟨.bl (bs.all id),H,I.kept (t':=tk) (fun b o e=>hk b o (fun m=>?_) (Heap.get?_push_of_some _ e)),?_,q⟩
      · rw [List.mem_singleton.mp m] at e; exact absurd (Heap.lt_size e) (Nat.lt_irrefl _)
      · show Value.bool _ = Value.bool _
        rw [List.size_toArray,hlen,all_bs]
  · exact h.elim
theorem c_any (hc:X.calm = true) (hK:X.K = K:=by rfl):Irr (CallR X (.builtin "any") (gAny K)):=by
  refine .mk ?_
  subst hK
  intro pins s σ H xs us Q I r h
  unfold gAny at h
  split at h
  · rename_i la
    obtain ⟨bs,hS,q⟩:=h
    obtain ⟨u,rfl,rx⟩:=vals1 r
    cases rx
    obtain ⟨its,rv,pl,_⟩:=I.list hS
    have hlen:its.length = bs.length:=by have:=rv.length; unfold bls at this; rw [List.length_map] at this; exact this.symm
    have hll:la < s.heap.objs.size:=by obtain ⟨o,n,e,_⟩:=pl; exact Heap.lt_size e
    refine call_any_walk (wpAny_pyIter_list pl.isList ?_)
    refine ⟨_,_,_,_,_,_,fun i=>bs.getD i false,rfl,Walks.list (A:=X.A.in1) (I.ok.hd hc) s.heap.objs.size la (Nat.ne_of_lt hll) its.toArray,⟨⟨_,Heap.get?_push_size _ rfl,rfl,rfl⟩,pl.isList.push _⟩,fun i v s2 Q2 E2 hv hq=>?_,fun h' tk hk=>?_⟩
    · have e:=bls_at (i:=i) (v:=v) rv (by simpa using hv)
      rw [e]
      exact wpAny_truthy_bool hq
    · refine ⟨.bl (bs.any id),H,I.kept (t':=tk) (fun b o e=>hk b o (fun m=>?_) (Heap.get?_push_of_some _ e)),?_,q⟩
      · rw [List.mem_singleton.mp m] at e; exact absurd (Heap.lt_size e) (Nat.lt_irrefl _)
      · show Value.bool _ = Value.bool _
        rw [List.size_toArray,hlen,any_bs]
  · exact h.elim
end
section
variable {X:Cx} {p pos:Pos}
end
section
variable {cap:List (Option Nat)} {g:TG} {tc:TT} {te:TE} {Q:Addr→Hp→Prop} {σ:St} {H:Hp} {K:PySem.W.Frag}
end
end L2
namespace L2
open PySem PySem.Spec PyProof.Rows
section
variable {X:Cx} {K:PySem.W.Frag} {e:Expr} {te:TE}
theorem jt_tru (h:JE X e te) (hK:X.K = K:=by rfl) (he:∀ whole,isTrue e X.env whole = (do let v ← whole; standAt e.pos; holding [v] (truthy v)):=by intro _; rfl):JT X e (mTruth K te):=by
  refine .mk ?_
  subst hK
  exact pt_truth h.out he
end
end L2
namespace Rg
open PySem
noncomputable abbrev Rise (a:Array Nat):Prop:=a.toList.Pairwise (· < ·)
theorem rise_lt {a : Array Nat} (h : Rise a) {i j x y : Nat} (hi : a[i]? = some x) (hj : a[j]? = some y) (hij : i < j) : x < y := by
  have hi' : a.toList[i]? = some x := by simpa using hi
  have hj' : a.toList[j]? = some y := by simpa using hj
  obtain ⟨h1, e1⟩ := List.getElem?_eq_some_iff.mp hi'
  obtain ⟨h2, e2⟩ := List.getElem?_eq_some_iff.mp hj'
  have := List.pairwise_iff_getElem.mp h i j h1 h2 hij
  simp_all
theorem below_go {a : Array Nat} (h : Rise a) (j : Nat) : ∀ (fuel lo hi : Nat), lo ≤ hi → hi ≤ a.size → hi - lo ≤ fuel → (∀ i x, i < lo → a[i]? = some x → x < j) → (∀ i x, hi ≤ i → a[i]? = some x → j ≤ x) →
    SetTable.below.go a j fuel lo hi ≤ a.size∧(∀ i x,i < SetTable.below.go a j fuel lo hi→a[i]? = some x→x < j)∧(∀ i x,SetTable.below.go a j fuel lo hi ≤ i→a[i]? = some x→j ≤ x)
  | 0,lo,hi,h1,h2,h3,hl,hh=>by
    have e:lo = hi:=by lia
    subst e
    exact ⟨h2,hl,hh⟩
  | fuel + 1,lo,hi,h1,h2,h3,hl,hh=>by
    unfold SetTable.below.go
    by_cases hlt:lo < hi
    · rw [if_pos hlt]
      have hm:(lo + hi) / 2 < a.size:=by lia
      have em:a[(lo + hi) / 2]? = some a[(lo + hi) / 2]:=Array.getElem?_eq_getElem hm
      have eg:a.getD ((lo + hi) / 2) j = a[(lo + hi) / 2]:=by simp [Array.getD,hm]
      dsimp only
      rw [eg]
      by_cases hc:a[(lo + hi) / 2] < j
      · rw [if_pos hc]
        refine below_go h j fuel _ hi (by lia) h2 (by lia) (fun i x hi' ei=>?_) hh
        by_cases z:i = (lo + hi) / 2
        · subst z; rw [em] at ei; rw [← Option.some.inj ei]; exact hc
        · exact Nat.lt_trans (rise_lt h ei em (by lia)) hc
      · rw [if_neg hc]
        refine below_go h j fuel lo _ (by lia) (by lia) (by lia) hl (fun i x hi' ei=>?_)
        by_cases z:i = (lo + hi) / 2
        · subst z; rw [em] at ei; rw [← Option.some.inj ei]; lia
        · have:=rise_lt h em ei (by lia); lia
    · rw [if_neg hlt]
      have e:lo = hi:=by lia
      subst e
      exact ⟨h2,hl,hh⟩
theorem below_ok {a : Array Nat} (h : Rise a) (j : Nat) : SetTable.below a j ≤ a.size ∧ (∀ i x, i < SetTable.below a j → a[i]? = some x → x < j) ∧ (∀ i x, SetTable.below a j ≤ i → a[i]? = some x → j ≤ x) :=
  below_go h j a.size 0 a.size (Nat.zero_le _) (Nat.le_refl _) (by lia) (fun i x hi => by lia) (fun i x hi e => by simp_all)
theorem below_zero {a:Array Nat} (h:Rise a):SetTable.below a 0 = 0:=by
  obtain ⟨h1,h2,_⟩:=below_ok h 0
  rcases Nat.eq_zero_or_pos (SetTable.below a 0) with z | z
  · exact z
  · have hs:0 < a.size:=by lia
    exact absurd (h2 0 _ z (Array.getElem?_eq_getElem hs)) (by lia)
theorem below_next {a : Array Nat} (h : Rise a) {i x : Nat} (e : a[i]? = some x) : SetTable.below a (x + 1) = i + 1 := by
  obtain ⟨h1, h2, h3⟩ := below_ok h (x + 1)
  have l1 : ¬ SetTable.below a (x + 1) ≤ i := fun z => by have := h3 i x z e; lia
  have l2 : ¬ i + 1 < SetTable.below a (x + 1) := fun z => by
    have hs : i + 1 < a.size := by lia
    have e1 := Array.getElem?_eq_getElem hs
    have := h2 (i + 1) _ z e1
    have := rise_lt h e e1 (by lia)
    lia
  lia
theorem rise_insert {a:Array Nat} (h:Rise a) {j:Nat} (hn:a[SetTable.below a j]? ≠ some j):Rise (SetTable.insertAt a (SetTable.below a j) j):=by
  obtain ⟨h1,h2,h3⟩:=below_ok h j
  generalize SetTable.below a j = p at hn h1 h2 h3
  show (SetTable.insertAt a p j).toList.Pairwise (· < ·)
  rw [SetTable.toList_insertAt]
  refine List.pairwise_append.mpr ⟨h.sublist (List.take_sublist _ _),List.pairwise_cons.mpr ⟨fun y hy=>?_,h.sublist (List.drop_sublist _ _)⟩,fun x hx y hy=>?_⟩
  · obtain ⟨k,hk⟩:=List.mem_iff_getElem?.mp hy
    rw [List.getElem?_drop] at hk
    have ek:a[p + k]? = some y:=by simpa using hk
    have hge:=h3 (p + k) y (by lia) ek
    rcases Nat.eq_or_lt_of_le hge with z | z
    · exfalso
      subst z
      by_cases hk0:k = 0
      · subst hk0; exact hn ek
      · have hps : p < a.size := by
          rcases Nat.lt_or_ge p a.size with z | z
          · exact z
          · rw [Array.getElem?_eq_none (by lia)] at ek; cases ek
        have ep:=Array.getElem?_eq_getElem hps
        have l1:=h3 p _ (Nat.le_refl _) ep
        have l2:=rise_lt h ep ek (by lia)
        lia
    · exact z
  · have hxj : x < j := by
      obtain ⟨k,hk⟩:=List.mem_iff_getElem?.mp hx
      rw [List.getElem?_take] at hk
      split at hk
      · rename_i hkp
        exact h2 k x hkp (by simpa using hk)
      · cases hk
    rcases List.mem_cons.mp hy with rfl | hy
    · exact hxj
    · obtain ⟨k,hk⟩:=List.mem_iff_getElem?.mp hy
      rw [List.getElem?_drop] at hk
      have:=h3 (p + k) y (by lia) (by simpa using hk)
      lia
structure TabOk (B:Bool) (t:SetTable):Prop where
  led:B = false→t.led = true
  ris:Rise t.place
  dum:t.dummies = #[]
theorem TabOk.fresh (B : Bool) : TabOk B (.fresh 0 0 (!B)) := ⟨fun h => by rw [h]; rfl, by exact .nil, rfl⟩
theorem TabOk.plain {B:Bool} {t:SetTable} (h:TabOk B t):TabOk B { t with plain:=false }:=⟨h.led,h.ris,h.dum⟩
theorem rise_range (n:Nat):Rise (Array.range n):=by
  show (Array.range n).toList.Pairwise _
  rw [Array.toList_range]
  exact List.pairwise_lt_range
theorem TabOk.standIn {B:Bool} {t:SetTable} (h:TabOk B t) (n:Nat):TabOk B (t.standIn n):=⟨h.led,rise_range n,rfl⟩
theorem no_dummy {t:SetTable} (hd:t.dummies = #[]) (j:Nat):SetTable.has t.dummies j = false:=by
  rw [hd]; unfold SetTable.has; simp
theorem probe_free {t:SetTable} (hd:t.dummies = #[]) {h:Int}:∀ (fuel:Nat) (p:SetTable.Probe) (j:Nat) (d:Option Nat),p.dummy = none→SetTable.probe.go t (fun _=>h + 1) h fuel p = some (.empty j d)→d = none∧t.place[SetTable.below t.place j]? ≠ some j
  | 0,p,j,d,hp,e=>by unfold SetTable.probe.go at e; cases e
  | fuel + 1,p,j,d,hp,e=>by
    have adv:(t.advance p).dummy = none:=by
      unfold SetTable.advance
      split
      · exact hp
      · exact hp
    unfold SetTable.probe.go at e
    cases es:t.slot p.j with
    | empty =>
      rw [es] at e
      have e':=Option.some.inj e
      injection e' with e1 e2
      subst e1
      refine ⟨by rw [← e2]; exact hp,fun z=>?_⟩
      unfold SetTable.slot at es
      simp [z] at es
    | dummy =>
      unfold SetTable.slot at es
      simp only [no_dummy hd] at es
      split at es <;> simp at es
    | live i =>
      rw [es] at e
      have hne:((h + 1:Int) == h) = false:=by simp; lia
      simp only [hne] at e
      exact probe_free hd fuel _ j d adv (by simpa using e)
theorem TabOk.put {B:Bool} {t:SetTable} (h:TabOk B t) {j:Nat} (hn:t.place[SetTable.below t.place j]? ≠ some j):TabOk B (t.put j).1:=by
  refine ⟨h.led,rise_insert h.ris hn,?_⟩
  show (if SetTable.has t.dummies j then _ else t.dummies) = #[]
  rw [if_neg (by rw [no_dummy h.dum]; decide)]
  exact h.dum
theorem TabOk.layNew {B : Bool} {t : SetTable} (h : TabOk B t) (es : Array (Int × Value)) (k : Int) (x : Value) : TabOk B (layNew t es k x).2.1 := by
  unfold PySem.layNew
  cases e : t.freeSlot k with
  | none => exact h.standIn _
  | some r =>
    obtain ⟨slot, wd⟩ := r
    have hn : t.place[SetTable.below t.place slot]? ≠ some slot := by
      unfold SetTable.freeSlot at e
      cases ep : t.probe (fun _ => k + 1) k (t.probeStart k) with
      | none => simp_all
      | some m =>
        rw [ep] at e
        cases m with
        | candidate a b c => cases e
        | empty j d =>
          obtain ⟨h1, h2⟩ := probe_free h.dum _ _ j d rfl ep
          simp_all
    have hp := h.put hn
    dsimp only
    unfold SetTable.orStandIn
    split
    · exact hp
    · exact hp.standIn _
theorem TabOk.relaid {B:Bool} {t t':SetTable} (h:TabOk B t) {hs:Array Int} {n:Nat} {o:Array Nat} (e:t.relaid hs n = some (t',o)):TabOk B t':=by
  unfold SetTable.relaid SetTable.laid at e
  cases eo:SetTable.layClean (SetTable.sizeAbove n - 1) hs with
  | none=>rw [eo] at e; cases e
  | some ow =>
    rw [eo] at e
    have e':=congrArg Prod.fst (Option.some.inj e)
    dsimp only at e'
    rw [← e']
    refine ⟨h.led,?_,rfl⟩
    show (((List.range (SetTable.sizeAbove n - 1 + 1)).filterMap fun j=>(ow.getD j none).map (j,·)).map (·.1)).toArray.toList.Pairwise (· < ·)
    rw [List.toList_toArray]
    refine List.pairwise_map.mpr (List.Pairwise.filterMap (S:=fun (a b:Nat × Nat)=>a.1 < b.1) _ (fun a a' haa b hb b' hb'=>?_) List.pairwise_lt_range)
    cases ea:ow.getD a none with
    | none=>rw [ea] at hb; simp at hb
    | some u =>
      cases ea':ow.getD a' none with
      | none=>rw [ea'] at hb'; simp at hb'
      | some u' =>
        rw [ea] at hb
        rw [ea'] at hb'
        simp at hb hb'
        rw [← hb,← hb']
        exact haa
theorem TabOk.relayAll {B : Bool} {t : SetTable} (h : TabOk B t) (es : Array (Int × Value)) (n : Nat) : TabOk B (relayAll t es n).2.1 := by
  unfold PySem.relayAll
  cases e : t.relaid (es.map (·.1)) n with
  | none => exact h.standIn _
  | some r =>
    dsimp only
    split
    · exact h.relaid e
    · exact h.standIn _
end Rg
namespace L2
open PySem PySem.Spec PyProof.Rows Rg
noncomputable def zk:Value→Int
  | .int n _=>n
  | _=>0
noncomputable def zks (es:Array (Int × Value)):List Int:=es.toList.map fun e=>zk e.2
section
variable {prog:Program} {w:World} {A:Around} {E:Value→Shared→Prop} {s:Shared}
noncomputable def ZObj (prog:Program) (w:World) (o:Obj) (σ:List Int):Prop :=
  o.ExactSet∧∃ es ep t,o.data = .set es ep t∧ElemsOf (intKind prog w) es.toList∧(zks es).Perm σ∧t.fits es.size = true∧Rg.TabOk (w.params.followText "set-order") t
theorem elem_int {e:Int × Value} {l:List (Int × Value)} (h:ElemsOf (intKind prog w) l) (he:e ∈ l):∃ tk,e.2 = .int (zk e.2) tk:=by
  obtain ⟨⟨k,hk,_⟩,_⟩:=h e he
  obtain ⟨tk,z⟩:=Value.isInt_shape hk
  exact ⟨tk,by rw [z]; rfl⟩
theorem elem_is {e:Int × Value} {l:List (Int × Value)} (h:ElemsOf (intKind prog w) l) (he:e ∈ l) (v:Int):(intKind prog w).is v e.2 = decide (zk e.2 = v):=by
  obtain ⟨tk,z⟩:=elem_int h he
  have hk:=intKind_is prog w (zk e.2) tk
  rw [← z] at hk
  rw [KeyKind.is_eq_decide hk v]
  exact decide_eq_decide.mpr ⟨Eq.symm,Eq.symm⟩
theorem z_any {es:Array (Int × Value)} {σ:List Int} (hp:(zks es).Perm σ) (v:Int):σ.any (· == v) = true ↔ v ∈ zks es:=by
  rw [List.any_eq_true]
  constructor
  · rintro ⟨x,hx,e⟩
    rw [← beq_iff_eq.mp e]
    exact hp.mem_iff.mpr hx
  · intro m
    exact ⟨v,hp.mem_iff.mp m,beq_self_eq_true v⟩
theorem z_len {es : Array (Int × Value)} {σ : List Int} (hp : (zks es).Perm σ) : es.size = σ.length := by
  have := hp.length_eq
  unfold zks at this
  simp_all
theorem z_stored {h : Heap} {a : Addr} {o : Obj} {es es' : Array (Int × Value)} {ep : Nat} {t t' : SetTable} (gO : h.get? a = some o) (gD : o.data = .set es ep t) :
    (h.update a (Obj.putSet es' t')).get? a = some { o with data:=.set es' (ep + 1) t' }:=by
  have z:=Heap.get?_update_self (Obj.putSet es' t') gO (by rw [putSet_of es' t' gD]; rfl)
  rwa [putSet_of es' t' gD] at z
theorem z_tail {g : Bool → Sem Unit} (hg : ∀ (b : Bool) (s₁ : Shared) (Q' : Unit → Shared → Prop), Q' () s₁ → wpAny (model prog w) A (g b) Q' E s₁)
    {a:Addr} {o:Obj} {es es1:Array (Int × Value)} {ep:Nat} {t t2:SetTable} (gO:s.heap.get? a = some o) (gX:o.ExactSet) (gD:o.data = .set es ep t) {σ:List Int}
    (gE:ElemsOf (intKind prog w) es1.toList) (gP:(zks es1).Perm σ) (gB:es1.size < scanBound) (gF:t2.fits es1.size = true) (gT:Rg.TabOk (w.params.followText "set-order") t2) {wd:Bool} {R:Option Bool→Shared→Prop}
    (q:∀ h' o',Heap.SameBut a s.heap h'→h'.get? a = some o'→ZObj prog w o' σ→R (some true) { s with heap:=h' }) :
    wpAny (model prog w) A (do
      storeSet a es1 t2
      if (!wd && t2.tooFull) = true then do
        g (relayAll t2 es1 (SetTable.grown es1.size)).2.2
        storeSet a (relayAll t2 es1 (SetTable.grown es1.size)).1 (relayAll t2 es1 (SetTable.grown es1.size)).2.1
        pure (some true)
      else pure (some true)) R E s:=by
  have g1:=z_stored (es':=es1) (t':=t2) gO gD
  have sb:=Heap.SameBut.update s.heap a (Obj.putSet es1 t2)
  refine wpAny_bind (wpAny_storeSet_of gO gD ?_ (fits_of_scanBound gB))
  split
  · have rp:=relayAll_perm t2 es1 (SetTable.grown es1.size)
    have rf:=relayAll_fits t2 es1 (SetTable.grown es1.size)
    have rt:=gT.relayAll es1 (SetTable.grown es1.size)
    obtain ⟨⟨es2,t3,gv⟩,hR⟩:∃ r,relayAll t2 es1 (SetTable.grown es1.size) = r:=⟨_,rfl⟩
    rw [hR] at rp rf rt ⊢
    dsimp only at rp rf rt ⊢
    have hz:es2.size < scanBound:=by
      have:=rp.length_eq
      rw [Array.length_toList,Array.length_toList] at this
      lia
    refine wpAny_bind (hg _ _ _ (wpAny_bind (wpAny_storeSet_of g1 rfl (wpAny_pure ?_) (fits_of_scanBound hz))))
    exact q _ _ (sb.trans (Heap.SameBut.update _ a _)) (z_stored g1 rfl) ⟨gX,es2,_,t3,rfl,gE.perm rp,(rp.map _).trans gP,rf,rt⟩
  · exact wpAny_pure (q _ _ sb g1 ⟨gX,es1,_,t2,rfl,gE,gP,gF,gT⟩)
theorem z_add {a : Addr} {o : Obj} {σ : List Int} {v : Int} {tk : Tok} {Q : Bool → Shared → Prop} (gO : s.heap.get? a = some o) (gZ : ZObj prog w o σ) (room : σ.length + 1 < scanBound)
    (q:∀ b h' o',Heap.SameBut a s.heap h'→h'.get? a = some o'→ZObj prog w o' (step_dedup σ v)→Q b { s with heap:=h' }) :
    wpAny (model prog w) A (setAddHashed a (.int v tk) ((intKind prog w).hash v)) Q E s:=by
  obtain ⟨gX,es,ep,t,gD,gE,gP,gF,gT⟩:=gZ
  have gB:es.size + 1 < scanBound:=by rw [z_len gP]; exact room
  have key:=intKind_is prog w v tk
  have scn:(Value.int v tk).scannable = true:=rfl
  unfold setAddHashed setAddHashedIn
  refine wpAny_holding (wpAny_bind (wpAny_setState_of gO gD gF ?_))
  dsimp only
  rw [byScan_of scn (show es.size < scanBound by lia) gE,if_pos rfl]
  unfold setAddByScan
  refine wpAny_bind (wpAny_bind (wpAny_rule (wpAny_bind (wpAny_setScan_of key gO gD gF gE ?_))))
  cases fi:List.findIdx? (fun e=>(intKind prog w).is v e.2) es.toList with
  | some j =>
    dsimp only
    obtain ⟨hj,pj,_⟩:=List.findIdx?_eq_some_iff_getElem.mp fi
    have mem:=List.getElem_mem hj
    rw [elem_is gE mem] at pj
    have m:v ∈ zks es:=List.mem_map.mpr ⟨_,mem,of_decide_eq_true pj⟩
    refine wpAny_pure (wpAny_pure (q _ s.heap o (Heap.SameBut.refl a s.heap) gO ?_))
    unfold step_dedup
    rw [if_pos ((z_any gP v).mpr m)]
    exact ⟨gX,es,ep,t,gD,gE,gP,gF,gT⟩
  | none =>
    dsimp only
    have nm:¬ σ.any (· == v) = true:=fun z=>by
      obtain ⟨e,he,ee⟩:=List.mem_map.mp ((z_any gP v).mp z)
      have:=List.findIdx?_eq_none_iff.mp fi e he
      rw [elem_is gE he,decide_eq_true ee] at this
      cases this
    have lp:=layNew_perm t es ((intKind prog w).hash v) (.int v tk)
    have lf:=layNew_fits t es ((intKind prog w).hash v) (.int v tk)
    have lt:=gT.layNew es ((intKind prog w).hash v) (.int v tk)
    obtain ⟨⟨es1,t1,wd,gv⟩,hL⟩:∃ r,layNew t es ((intKind prog w).hash v) (.int v tk) = r:=⟨_,rfl⟩
    rw [hL] at lp lf lt ⊢
    dsimp only at lp lf lt ⊢
    rw [Array.toList_push] at lp
    have e1:ElemsOf (intKind prog w) es1.toList:=(gE.push key scn).perm lp
    have p1:(zks es1).Perm (step_dedup σ v):=by
      unfold step_dedup
      rw [if_neg nm]
      have:=lp.map fun e=>zk e.2
      rw [List.map_append] at this
      exact this.trans (gP.append_right _)
    have b1:es1.size < scanBound:=by
      have:=lp.length_eq
      rw [Array.length_toList,List.length_append,Array.length_toList,List.length_singleton] at this
      lia
    have gw:∀ (b:Bool) (s₁:Shared) (Q':Unit→Shared→Prop),Q' () s₁→wpAny (model prog w) A (match b with | true=>rule "set.scan.the-table-gave-way" | false=>pure ()) Q' E s₁:=fun b s₁ Q' z=>by
      cases b
      · exact wpAny_pure z
      · exact wpAny_rule z
    refine wpAny_bind (gw _ _ _ ?_)
    split
    · rw [hashByValue_scannable 8 scn]
      refine wpAny_bind (wpAny_pure ?_)
      refine z_tail gw gO gX gD e1 p1 b1 lf lt ?_
      intro h' o' sb' g' z'
      exact wpAny_pure (q _ h' o' sb' g' z')
    · refine wpAny_bind (wpAny_pure ?_)
      refine z_tail gw gO gX gD e1 p1 b1 lf lt ?_
      intro h' o' sb' g' z'
      exact wpAny_pure (q _ h' o' sb' g' z')
end
end L2
namespace L2
open PySem PySem.Spec PyProof.Rows
section
variable {prog:Program} {w:World} {A:Around} {R:Result→Shared→Prop} {I:Addr} {fp wr:List Addr} {G:Array GenState→Array GenState→Prop} {n:Nat} {P:Nat→Value→Prop} {St:Nat→Shared→Prop}
theorem z_loop (W : WalksS prog w A.in1 I fp wr G n P St) (z : Addr) (nz : z ∉ fp) (f : Nat → Int) (hf : ∀ i v, P i v → ∃ t, v = .int (f i) t) (nb : n + 1 < scanBound) :
    ∀ (k i:Nat) (s:Shared) (o:Obj),n - i = k→i ≤ n→St i s→s.heap.get? z = some o→ZObj prog w o (firstMet f i) →
      (∀ s' o',Moved (z :: wr) G s s'→s'.heap.get? z = some o'→ZObj prog w o' (firstMet f n)→R (.ok (.ret .none)) s')→codeAny (model prog w) A (.builtin "set.update.loop" ⟨[.ref z,.ref I],[]⟩) R s:=by
  have nw:z ∉ wr:=fun m=>nz (W.sub _ m)
  have mw:∀ b ∈ wr,b ∈ z :: wr:=fun b m=>List.mem_cons_of_mem _ m
  intro k
  induction k with
  | zero =>
    intro i s o ek le st gO gZ out
    obtain rfl:i = n:=by lia
    refine codeAny_builtin F.entry_set_update_loop ?_
    rw [Around.under_plainId F.plain_set_update_loop _]
    refine wpAny_bind (m:=pyNext (.ref I)) (W.done s _ _ st fun s' mv=>?_)
    exact wpAny_pure (out s' o (mv.mono mw) (mv.heap z _ nw gO) gZ)
  | succ k ih =>
    intro i s o ek le st gO gZ out
    have lt:i < n:=by lia
    refine codeAny_builtin F.entry_set_update_loop ?_
    rw [Around.under_plainId F.plain_set_update_loop _]
    refine wpAny_bind (m:=pyNext (.ref I)) (W.item i s _ _ lt st fun v s' pv st' mv=>?_)
    obtain ⟨t,rfl⟩:=hf i v pv
    have gO':=mv.heap z _ nw gO
    refine wpAny_bind (m:=holding [Value.int (f i) t] (setAdd z (.int (f i) t))) (wpAny_holding ?_)
    unfold setAdd
    refine wpAny_holding (wpAny_bind ((intKind prog w).pyHash (k:=f i) (intKind_is _ _ _ _) ?_))
    have fl:=firstMet_length_le f i
    refine z_add (s:={ s' with toks:=s'.toks + 1 }) (tk:=t) gO' gZ (by lia) fun b h' o' sb g' z'=>?_
    rw [← firstMet_succ] at z'
    refine wpAny_pure ⟨plainId_quiet F.plain_set_update_loop _,ih (i + 1) _ o' (by lia) lt (W.frame _ s' _ _ st' (Nat.le_succ _) fun c hc u e=>?_) g' z' fun s'' o'' mv' g'' z''=>?_⟩
    · rw [sb.2 c (fun e':c = z=>nz (by rw [← e']; exact hc))]
      exact e
    · refine out s'' o'' (Moved.trans W.gtrans ((mv.mono mw).then_heap (Nat.le_succ _) fun c u hc e=>?_) mv') g'' z''
      rw [sb.2 c (fun e':c = z=>hc (by rw [e']; exact List.mem_cons_self))]
      exact e
end
section
variable {prog:Program} {w:World} {A:Around} {E:Value→Shared→Prop} {s:Shared}
noncomputable abbrev zNew (w:World):Obj:={ cls:=.type "set",dict:=none,data:=.set #[] 0 (.fresh 0 0 (!w.params.followText "set-order")) }
theorem zNew_ok (prog:Program) (w:World):ZObj prog w (zNew w) [] :=
  ⟨⟨rfl,rfl,rfl⟩,#[],0,_,rfl,(fun e m=>by simp at m),List.Perm.refl _,rfl,Rg.TabOk.fresh _⟩
theorem z_new (v : Value) {Q₁ : Value → Shared → Prop} (q : Q₁ (.ref s.heap.objs.size) { s with heap := s.heap.push (zNew w) }) :
    codeAny (model prog w) A (.call (.builtin "set.__new__") ⟨[.type "set", v], []⟩) (wants Q₁ E) s := by
  have nc := F.newCall_set_1 v
  refine codeAny_of_tree (wpAny_bind (m := checkBuiltinCall "set.__new__" ⟨[.type "set", v], []⟩) (wpAny_of_eq nc ?_))
  refine wpAny_pure ⟨plainId_quiet F.plain_set_new _, codeAny_builtin F.entry_set_new ?_⟩
  unfold Builtin.«set.__new__» Builtin.Frozenset.newClass
  have sub := sub_set_self
  dsimp only
  wp_walk
  refine wpAny_askSetting (wpAny_pure ?_)
  simp only [newObj]
  exact wpAny_bind (wpAny_alloc (wpAny_pure (wpAny_pure q)))
theorem z_call {l : Addr} {items : Array Value} {ns : List Int} {Q : Value → Shared → Prop} (un : A.handled = none) (gL : s.heap.IsList l items) (gI : IntsAre items.toList ns) (nb : items.size + 1 < scanBound)
    (q:∀ (h':Heap) (tk:Nat) (o:Obj),h'.get? s.heap.objs.size = some o→ZObj prog w o (firstMet (fun i=>ns.getD i 0) items.size)→(∀ b u,b < s.heap.objs.size→s.heap.get? b = some u→h'.get? b = some u) →
      Q (.ref s.heap.objs.size) { s with heap:=h',toks:=tk }):wpAny (model prog w) A (call (.type "set") [.ref l]) Q E s:=by
  obtain ⟨c,tl,mro⟩:=F.called_set.mro
  have made:=F.called_set.made
  have sub:=F.called_set.sub
  have c1:=F.called_set.notType
  have c2:=F.called_set.canCreate
  have c3:=F.typeCall_set_1 (.ref l)
  refine wpAny_call (codeAny_of_tree (show wpAny _ _ (callAny (.type "set") _) _ _ _ from wpAny_pure ⟨Code.quiet_builtin _ (by decide +kernel),codeAny_builtin F.entry_type_call ?_⟩))
  rw [Around.under_plain (weight_type_call_type "set" [.ref l] []) rfl]
  repeat (any_goals (first | assumption | wp_step))
  refine codeAny_mono (z_new (.ref l) (E:=E) (Q₁:=fun x s₁=>x = .ref s.heap.objs.size∧s₁ = { s with heap:=s.heap.push (zNew w) }) ⟨rfl,rfl⟩) fun r s₁ hr=>?_
  cases r with
  | error e=>exact hr
  | ok fl =>
    cases fl with
    | ret x =>
      obtain ⟨rfl,rfl⟩:=hr
      have g0:(s.heap.push (zNew w)).get? s.heap.objs.size = some (zNew w):=Heap.get?_push_size _ rfl
      have tS:Shared.TypeIs { s with heap:=s.heap.push (zNew w) } (.ref s.heap.objs.size) "set":=⟨_,g0,rfl⟩
      have li:=F.called_set.init.lookup
      have bi:=F.called_set.init.bind (.ref s.heap.objs.size)
      repeat (any_goals (first | assumption | wp_step))
      refine codeAny_mono (codeAny_call_builtin (R := wants (fun r s₂ => r = .none ∧ ∃ h' tk o, s₂ = { s with heap := h', toks := tk } ∧ h'.get? s.heap.objs.size = some o ∧ ZObj prog w o (firstMet (fun i => ns.getD i 0) items.size) ∧
          (∀ b u,b < s.heap.objs.size→s.heap.get? b = some u→h'.get? b = some u)) E) F.called_set.init.plain F.entry_set_init (check_set_init_1 tS ?_)) fun r₂ s₂ hr₂=>?_
      · obtain ⟨ol,gl,cl,nl,dl⟩:=gL
        obtain ⟨o1,o2,o3,o4⟩:=ol
        simp only at cl dl
        subst cl
        subst dl
        have gl':(s.heap.push (zNew w)).get? l = some { cls:=.type "list",dict:=o2,data:=.seq items nl,slots:=o4 }:=Heap.get?_push_of_some _ gl
        have y1:=F.sub_list_set
        have y2:=F.sub_list_frozenset
        have y3:(Value.type "list" == Value.type "dict") = false:=by decide
        have gL1:(s.heap.push (zNew w)).IsList l items:=⟨_,gl',rfl,nl,rfl⟩
        unfold Builtin.«set.__init__» noKeywords Builtin.Frozenset.updateFrom
        generalize eP:pyIter = PI
        wp_walk
        subst eP
        refine wpAny_pyIter_list gL1 (wpAny_bind (wpAny_runValue ?_))
        have ls:l < s.heap.objs.size:=Heap.lt_size gl
        have un3:A.in1.in1.in1.handled = none:=by simp [un]
        have sz1:(s.heap.push (zNew w)).objs.size = s.heap.objs.size + 1:=Heap.size_push _ _
        have nI:l ≠ (s.heap.push (zNew w)).objs.size:=by rw [sz1]; exact Nat.ne_of_lt (Nat.lt_succ_of_lt ls)
        have nz:s.heap.objs.size ∉ [(s.heap.push (zNew w)).objs.size,l]:=by
          rw [sz1]
          simp only [List.mem_cons,List.not_mem_nil,or_false,not_or]
          exact ⟨Nat.ne_of_lt (Nat.lt_succ_self _),Nat.ne_of_gt ls⟩
        have hv:∀ (i:Nat) (v:Value),items[i]? = some v→∃ t,v = .int ((fun i=>ns.getD i 0) i) t:=fun i v e=>IntsAre.int_at gI i v (by rw [Array.getElem?_toList]; exact e)
        refine z_loop ((Walks.list un3 _ l nI items).toS) s.heap.objs.size nz (fun i=>ns.getD i 0) hv nb (items.size - 0) 0 _ (zNew w) (by lia) (Nat.zero_le _) ⟨⟨_,Heap.get?_push_size _ rfl,rfl,rfl⟩,(gL1.push _)⟩ (Heap.get?_push_of_some _ g0) (zNew_ok prog w) ?_
        intro s' o' mv g' z'
        obtain ⟨h',g1,d1,tk',os'⟩:=s'
        obtain rfl:g1 = s.gens:=mv.gens
        obtain rfl:d1 = s.drawn:=mv.drawn
        obtain rfl:os' = s.os:=mv.os
        refine wpAny_pure (show wpAny _ _ (ret Value.none) _ _ _ from wpAny_pure ⟨rfl,h',tk',o',rfl,g',z',fun b u lb e=>?_⟩)
        refine mv.heap b u ?_ (Heap.get?_push_of_some _ (Heap.get?_push_of_some _ e))
        simp only [List.mem_cons,List.not_mem_nil,or_false,not_or]
        exact ⟨Nat.ne_of_lt lb,by rw [sz1]; exact Nat.ne_of_lt (Nat.lt_succ_of_lt lb)⟩
      · cases r₂ with
        | error e=>exact hr₂
        | ok fl₂ =>
          cases fl₂ with
          | ret r =>
            obtain ⟨rfl,h',tk,o,rfl,g',z',k'⟩:=hr₂
            repeat (any_goals (first | assumption | wp_step))
            exact q h' tk o g' z' k'
          | _=>exact hr₂.elim
    | _=>exact hr.elim
end
end L2
namespace L2
open PySem PySem.Spec PyProof.Rows Rg
theorem erase_perm {α : Type} {l : List α} {i : Nat} (h : i < l.length) : (l[i] :: l.eraseIdx i).Perm l := by
  rw [List.eraseIdx_eq_take_drop_succ]
  have e : l = l.take i ++ l[i] :: l.drop (i + 1) := by simp
  have p := (List.perm_middle (a := l[i]) (l₁ := l.take i) (l₂ := l.drop (i + 1))).symm
  rw [← e] at p
  exact p
theorem pick_go {α : Type} (f : Nat → Nat) : ∀ (fuel k : Nat) (left : List α) (out : Array α), left.length = fuel → (pickOrder.go f fuel k left out).toList.Perm (out.toList ++ left)
  | 0, k, left, out, h => by
    have : left = [] := List.length_eq_zero_iff.mp h
    subst this
    unfold pickOrder.go
    simp
  | fuel + 1, k, left, out, h => by
    have lt : f k % left.length < left.length := Nat.mod_lt _ (by lia)
    have e := List.getElem?_eq_getElem lt
    unfold pickOrder.go
    rw [e]
    dsimp only
    refine (pick_go f fuel (k + 1) _ _ (by grind)).trans ?_
    rw [Array.toList_push, List.append_assoc]
    refine List.Perm.append_left _ ?_
    exact erase_perm lt
theorem pick_perm {α:Type} (f:Nat→Nat) (xs:Array α):(pickOrder f xs).toList.Perm xs.toList:=by
  have:=pick_go f xs.size 0 xs.toList #[] (by simp)
  simpa [pickOrder] using this
section
variable {M:Model} {A:Around} {E:Value→Shared→Prop} {s:Shared}
theorem w_choose {src : Source} {n : Nat} {Q : Nat → Shared → Prop} (hn : n ≠ 0) (h : ∀ i d, i < n → Q i { s with drawn := d }) : wpAny M A (choose src n) Q E s := fun Γ p _ => by
  refine ⟨hn, ?_⟩
  exact h _ _ (Nat.mod_lt _ (Nat.pos_of_ne_zero hn))
theorem w_draw {α:Type}:∀ (n:Nat) (xs:List α) {s:Shared} {Q:List α→Shared→Prop},xs.length = n→(∀ ys d,ys.Perm xs→Q ys { s with drawn:=d })→wpAny M A (drawOrder n xs) Q E s
  | 0,xs,s,Q,h,q=>by
    have:xs = []:=List.length_eq_zero_iff.mp h
    subst this
    unfold drawOrder
    exact wpAny_pure (q [] s.drawn (List.Perm.refl _))
  | n + 1,[],s,Q,h,q=>by simp at h
  | n + 1,x :: r,s,Q,h,q=>by
    unfold drawOrder
    refine wpAny_bind (w_choose (by simp) fun i d hi=>?_)
    have e:=List.getElem?_eq_getElem hi
    rw [e]
    dsimp only
    refine wpAny_bind (w_draw n _ (by rw [List.length_eraseIdx_of_lt hi]; simpa using h) fun ys d' hp=>wpAny_pure ?_)
    exact q _ d' ((hp.cons _).trans (erase_perm hi))
end
theorem slot_sit_next : Slot "set_iterator" "__next__" "set_iterator.__next__" :=
  .of (owner := "set_iterator") (n := "__next__") (rfl) (by decide +kernel) (by decide +kernel) (by decide +kernel) (by first | exact .inl (by decide +kernel) | exact .inr (by decide +kernel)) (rfl)
theorem entry_sit_next : entryFor table "set_iterator.__next__" = some Builtin.«set_iterator.__next__» := entryFor_of_tree (rfl)
theorem args_sit_next (a : Value) : argsOk "set_iterator.__next__" ⟨[a], []⟩ := rfl
theorem slot_sit_iter : Slot "set_iterator" "__iter__" "set_iterator.__iter__" :=
  .of (owner := "set_iterator") (n := "__iter__") (rfl) (by decide +kernel) (by decide +kernel) (rfl) (by first | exact .inl (by decide +kernel) | grind) (rfl)
theorem entry_sit_iter:entryFor table "set_iterator.__iter__" = some Builtin.«dict_keyiterator.__iter__»:=entryFor_alias (id':="dict_keyiterator.__iter__") (by kernel_rfl) rfl (by decide +kernel) (by kernel_rfl)
theorem args_sit_iter (a : Value) : argsOk "set_iterator.__iter__" ⟨[a], []⟩ := rfl
theorem entry_set_iter':entryFor table "set.__iter__" = some Builtin.«frozenset.__iter__»:=entryFor_alias (id':="frozenset.__iter__") (by kernel_rfl) rfl (by decide +kernel) (by kernel_rfl)
end L2
namespace L2
open PySem PySem.Spec PyProof.Rows Rg
noncomputable abbrev sitObj (fst:Value) (i n ep:Nat) (z:Addr):Obj:={ cls:=.type "set_iterator",dict:=none,data:=.fields #[fst,.int (i:Nat) 0,.ref z,.int (n:Nat) 0,.int (ep:Nat) 0],slots:=#[] }
section
variable {prog:Program} {w:World} {A:Around} {E:Value→Shared→Prop} {s:Shared}
structure Ord (w:World) (h:Heap) (z:Addr) (es:Array (Int × Value)) (ep:Nat) (t:SetTable) (vals:List Value) (fst:Value) (i:Nat):Prop where
  way:(w.params.followText "set-order" = true∧fst = .int 0 0∧vals = (pickOrder (w.params.setOrder z ep) es).toList.map (·.2)) ∨
    (w.params.followText "set-order" = false∧(!t.plain && decide (es.size > 1)) = true∧∃ (T:Addr) (ps:List Nat),fst = .ref T∧(∃ c,h.get? T = some { cls:=.type "tuple",dict:=none,data:=.seq (ps.map fun (k:Nat)=>rawInt k).toArray c,slots:=#[] })∧ps.length = es.size∧(∀ k ∈ ps,k < es.size)∧vals = ps.map fun k=>(es.getD k default).2) ∨
    (w.params.followText "set-order" = false∧(!t.plain && decide (es.size > 1)) = false∧∃ slot:Nat,fst = .int (slot:Nat) 0∧SetTable.below t.place slot = i∧vals = es.toList.map (·.2))
theorem w_next {z : Addr} {o : Obj} {es : Array (Int × Value)} {ep : Nat} {t : SetTable} {vals : List Value} {slot i : Nat} {v : Value} {Q : Option (Value × Nat) → Shared → Prop} (gO : s.heap.get? z = some o) (gD : o.data = .set es ep t) (gF : t.fits es.size = true) (gT : Rg.TabOk (w.params.followText "set-order") t)
    (gW:Ord w s.heap z es ep t vals (.int (slot:Nat) 0) i) (hv:vals[i]? = some v) (q:∀ slot':Nat,(∀ h,Ord w h z es ep t vals (.int (slot':Nat) 0) (i + 1))→Q (some (v,slot')) s) :
    wpAny (model prog w) A (setNext z slot i ep) Q E s:=by
  unfold setNext
  refine wpAny_bind (wpAny_setState_of gO gD gF ?_)
  dsimp only
  refine wpAny_bind (m:=setsByText) (wpAny_bind (wpAny_askSetting (wpAny_pure ?_)))
  rcases gW.way with ⟨hB,hf,hvals⟩ | ⟨_,_,T,ps,hf,_⟩ | ⟨hB,hdr,slot',hf,hbl,hvals⟩
  · show wpAny _ _ (if w.params.followText "set-order" = true then _ else _) _ _ s
    rw [if_pos hB]
    simp only [bne_self_eq_false,Bool.false_eq_true,↓reduceIte]
    unfold setWalk
    refine wpAny_bind (wpAny_bind (wpAny_setState_of gO gD gF ?_))
    dsimp only
    refine wpAny_bind (m:=setsByText) (wpAny_bind (wpAny_askSetting (wpAny_pure ?_)))
    show wpAny _ _ (if w.params.followText "set-order" = true then _ else _) _ _ s
    rw [if_pos hB]
    refine wpAny_bind (wpAny_askSetting (wpAny_pure ?_))
    refine wpAny_pure ?_
    have e:((pickOrder (w.params.setOrder z ep) es)[i]?).map (fun e=>(e.2,slot)) = some (v,slot):=by
      rw [hvals,List.getElem?_map] at hv
      have h2:(pickOrder (w.params.setOrder z ep) es).toList[i]? = (pickOrder (w.params.setOrder z ep) es)[i]?:=by simp
      rw [h2] at hv
      cases ee:(pickOrder (w.params.setOrder z ep) es)[i]? with
      | none=>rw [ee] at hv; cases hv
      | some x=>rw [ee] at hv; have hv':x.2 = v:=Option.some.inj hv; rw [← hv']; rfl
    have e0:slot = 0:=by injection hf with h1 _; lia
    subst e0
    have qq:=q 0 fun h=>⟨.inl ⟨hB,rfl,hvals⟩⟩
    rw [← e] at qq
    exact qq
  · cases hf
  · show wpAny _ _ (if w.params.followText "set-order" = true then _ else _) _ _ s
    rw [if_neg (by rw [hB]; exact Bool.false_ne_true)]
    show wpAny _ _ (if (!t.plain && decide (es.size > 1)) = true then _ else _) _ _ s
    rw [if_neg (by rw [hdr]; exact Bool.false_ne_true)]
    have hled:t.led = true:=gT.led hB
    have hi:i < es.size:=by
      have:=(List.getElem?_eq_some_iff.mp hv).1
      rw [hvals,List.length_map,Array.length_toList] at this
      exact this
    have hpl:t.place.size = es.size:=by
      have:=gF
      unfold SetTable.fits at this
      simp at this
      exact this.1
    have e0:slot = slot':=by injection hf with h1 _; lia
    subst e0
    have hx:es[i]? = some es[i]:=Array.getElem?_eq_getElem hi
    have hj:t.place[i]? = some t.place[i]:=Array.getElem?_eq_getElem (by lia)
    have hvx:v = es[i].2:=by
      rw [hvals,List.getElem?_map] at hv
      have h2:es.toList[i]? = es[i]?:=by simp
      rw [h2,hx] at hv
      exact (Option.some.inj hv).symm
    refine wpAny_bind (m:=if (!t.led && !es.isEmpty) = true then unsupported "set:maker-not-led" else pure ()) ?_
    rw [if_neg (by rw [hled]; simp)]
    refine wpAny_pure ?_
    rw [hbl,hx,hj]
    subst hvx
    exact wpAny_pure (q (t.place[i] + 1) fun h=>⟨.inr (.inr ⟨hB,hdr,_,rfl,below_next gT.ris hj,hvals⟩)⟩)
theorem w_stop {z : Addr} {o : Obj} {es : Array (Int × Value)} {ep : Nat} {t : SetTable} {vals : List Value} {slot : Nat} {Q : Option (Value × Nat) → Shared → Prop} (gO : s.heap.get? z = some o) (gD : o.data = .set es ep t) (gF : t.fits es.size = true) (gT : Rg.TabOk (w.params.followText "set-order") t)
    (gW:Ord w s.heap z es ep t vals (.int (slot:Nat) 0) es.size) (q:Q none s):wpAny (model prog w) A (setNext z slot es.size ep) Q E s:=by
  unfold setNext
  refine wpAny_bind (wpAny_setState_of gO gD gF ?_)
  dsimp only
  refine wpAny_bind (m:=setsByText) (wpAny_bind (wpAny_askSetting (wpAny_pure ?_)))
  rcases gW.way with ⟨hB,hf,hvals⟩ | ⟨_,_,T,ps,hf,_⟩ | ⟨hB,hdr,slot',hf,hbl,hvals⟩
  · show wpAny _ _ (if w.params.followText "set-order" = true then _ else _) _ _ s
    rw [if_pos hB]
    simp only [bne_self_eq_false,Bool.false_eq_true,↓reduceIte]
    unfold setWalk
    refine wpAny_bind (wpAny_bind (wpAny_setState_of gO gD gF ?_))
    dsimp only
    refine wpAny_bind (m:=setsByText) (wpAny_bind (wpAny_askSetting (wpAny_pure ?_)))
    show wpAny _ _ (if w.params.followText "set-order" = true then _ else _) _ _ s
    rw [if_pos hB]
    refine wpAny_bind (wpAny_askSetting (wpAny_pure (wpAny_pure ?_)))
    have hz:(pickOrder (w.params.setOrder z ep) es).size = es.size:=by
      have:=(pick_perm (w.params.setOrder z ep) es).length_eq
      simpa using this
    have e:((pickOrder (w.params.setOrder z ep) es)[es.size]?).map (fun e=>(e.2,slot)) = none:=by rw [Array.getElem?_eq_none (by lia)]; rfl
    rw [← e] at q
    exact q
  · cases hf
  · show wpAny _ _ (if w.params.followText "set-order" = true then _ else _) _ _ s
    rw [if_neg (by rw [hB]; exact Bool.false_ne_true)]
    show wpAny _ _ (if (!t.plain && decide (es.size > 1)) = true then _ else _) _ _ s
    rw [if_neg (by rw [hdr]; exact Bool.false_ne_true)]
    have e0:slot = slot':=by injection hf with h1 _; lia
    subst e0
    refine wpAny_bind (m:=if (!t.led && !es.isEmpty) = true then unsupported "set:maker-not-led" else pure ()) ?_
    rw [if_neg (by rw [gT.led hB]; simp)]
    refine wpAny_pure ?_
    rw [hbl,Array.getElem?_eq_none (Nat.le_refl es.size)]
    exact wpAny_pure q
theorem sit_put {h : Heap} {I z : Addr} {fst : Value} {i n ep : Nat} {k : Nat} {x : Value} (g : h.get? I = some (sitObj fst i n ep z)) :
    (h.update I (Obj.mapFields (·.setIfInBounds k x))).get? I = some { cls:=.type "set_iterator",dict:=none,data:=.fields (#[fst,.int (i:Nat) 0,.ref z,.int (n:Nat) 0,.int (ep:Nat) 0].setIfInBounds k x),slots:=#[] } :=
  Heap.get?_update_self _ g rfl
theorem w_item {I z : Addr} {o : Obj} {es : Array (Int × Value)} {ep : Nat} {t : SetTable} {vals : List Value} {fst : Value} {i : Nat} {v : Value} {Q : Option Value → Shared → Prop} (gI : s.heap.get? I = some (sitObj fst i es.size ep z)) (gO : s.heap.get? z = some o) (gD : o.data = .set es ep t) (gF : t.fits es.size = true) (gT : Rg.TabOk (w.params.followText "set-order") t)
    (gW:Ord w s.heap z es ep t vals fst i) (hv:vals[i]? = some v) (q:∀ h' fst',h'.get? I = some (sitObj fst' (i + 1) es.size ep z)→Heap.SameBut I s.heap h'→Ord w h' z es ep t vals fst' (i + 1)→(∀ a,fst' = .ref a→fst = .ref a)→Q (some v) { s with heap:=h' }) :
    wpAny (model prog w) A (pyNext (.ref I)) Q E s:=by
  have tI:s.TypeIs (.ref I) "set_iterator":=⟨_,gI,rfl⟩
  unfold pyNext
  refine wpAny_bind (wpAny_attempt (wpAny_callSpecial?_slot (name:=Str.ofString "__next__") tI slot_sit_next (wpAny_call_entry slot_sit_next tI entry_sit_next ?_ (args_sit_next _))))
  unfold Builtin.«set_iterator.__next__» slotArgs
  simp only [List.isEmpty_nil,Bool.not_true,Bool.false_eq_true,↓reduceIte,bind_assoc,List.length_nil,bne_self_eq_false]
  refine wpAny_bind (wpAny_pure ?_)
  refine wpAny_bind (wpAny_fieldsOf gI rfl ?_)
  dsimp only
  refine wpAny_bind (wpAny_setEntries_of gO gD gF ?_)
  simp only [bne_self_eq_false,Bool.false_eq_true,↓reduceIte]
  have gW0:=gW
  rcases gW.way with ⟨hB,hf,hvals⟩ | ⟨hB,hdr,T,ps,hf,⟨c,hTo⟩,hpl,hpb,hvals⟩ | ⟨hB,hdr,slot,hf,hbl,hvals⟩
  · subst hf
    refine wpAny_bind (w_next (slot:=0) gO gD gF gT gW0 hv fun slot' ord=>?_)
    refine wpAny_bind (wpAny_setField gI rfl (by simp) ?_)
    have g1:(s.heap.update I (Obj.mapFields (·.setIfInBounds 0 (rawInt slot')))).get? I = some (sitObj (.int (slot':Nat) 0) i es.size ep z):=by rw [sit_put gI]; rfl
    refine wpAny_bind (wpAny_setField g1 rfl (by simp) (wpAny_pure ⟨v,rfl,wpAny_pure (q _ (.int (slot':Nat) 0) ?_ ((Heap.SameBut.update ..).trans (Heap.SameBut.update ..)) (ord _) (fun a ha=>by cases ha))⟩))
    rw [sit_put g1]; rfl
  · subst hf
    refine wpAny_bind (wpAny_seqItems hTo rfl ?_)
    have hk:∃ k,ps[i]? = some k∧v = (es.getD k default).2:=by
      rw [hvals,List.getElem?_map] at hv
      cases ek:ps[i]? with
      | none=>rw [ek] at hv; cases hv
      | some k=>rw [ek] at hv; exact ⟨k,rfl,(Option.some.inj hv).symm⟩
    obtain ⟨k,ek,ev⟩:=hk
    have e1:((ps.map fun (k:Nat)=>rawInt k).toArray)[((i:Nat):Int).toNat]? = some (.int (k:Nat) 0):=by
      rw [Int.toNat_natCast,List.getElem?_toArray,List.getElem?_map,ek]; rfl
    dsimp only
    rw [e1]
    dsimp only
    have hk:=hpb k (List.mem_of_getElem? ek)
    obtain ⟨x,hx⟩:∃ x,es[k]? = some x:=⟨_,Array.getElem?_eq_getElem hk⟩
    have ev':v = x.2:=by rw [ev,Array.getD_eq_getD_getElem?,hx]; rfl
    unfold setNextDrawn
    refine wpAny_bind (wpAny_bind (wpAny_setState_of gO gD gF ?_))
    simp only [Int.toNat_natCast,bne_self_eq_false,Bool.false_eq_true,↓reduceIte]
    rw [hx]
    refine wpAny_pure ?_
    rw [← ev']
    refine wpAny_bind (wpAny_setField gI rfl (by simp) (wpAny_pure ⟨v,rfl,wpAny_pure (q _ (.ref T) ?_ (Heap.SameBut.update ..) ⟨.inr (.inl ⟨hB,hdr,T,ps,rfl,⟨c,?_⟩,hpl,hpb,hvals⟩)⟩ (fun a ha=>ha))⟩))
    · rw [sit_put gI]; rfl
    · have nT:T ≠ I:=fun e=>by rw [e,gI] at hTo; exact absurd (congrArg Obj.cls (Option.some.inj hTo)) (show ¬ Value.type "set_iterator" = Value.type "tuple" by decide)
      rw [(Heap.SameBut.update s.heap I _).2 T nT]
      exact hTo
  · subst hf
    refine wpAny_bind (w_next (slot:=slot) gO gD gF gT gW0 hv fun slot' ord=>?_)
    refine wpAny_bind (wpAny_setField gI rfl (by simp) ?_)
    have g1:(s.heap.update I (Obj.mapFields (·.setIfInBounds 0 (rawInt slot')))).get? I = some (sitObj (.int (slot':Nat) 0) i es.size ep z):=by rw [sit_put gI]; rfl
    refine wpAny_bind (wpAny_setField g1 rfl (by simp) (wpAny_pure ⟨v,rfl,wpAny_pure (q _ (.int (slot':Nat) 0) ?_ ((Heap.SameBut.update ..).trans (Heap.SameBut.update ..)) (ord _) (fun a ha=>by cases ha))⟩))
    rw [sit_put g1]; rfl
theorem stop_wp {A : Around} {Q : Option Value → Shared → Prop} {s₁ : Shared} (un : A.handled = none) (q : ∀ h', (∀ b o, s₁.heap.get? b = some o → h'.get? b = some o) → Q none { s₁ with heap := h' }) :
    wpAny (model prog w) A.in1 (do let e ← newExc (.type "StopIteration") []; raiseNew e) (fun fin s' => ∃ v, fin = Fin.done (Flow.ret v) ∧ wpAny (model prog w) A (pure (some v)) Q E s')
      (fun e s' => wpAny (model prog w) A (do let b ← isInstance e (.type "StopIteration"); if b = true then pure none else throw e) Q E s') s₁ := by
  refine wpAny_bind ?_
  refine wpAny_bind (m := firstArgMember _ _) (wpAny_of_eq (a := Value.none) (rfl) ?_)
  refine wpAny_newObj_type ?_ (by size_fits)
  refine wpAny_bind (wpAny_handled ?_)
  rw [show A.in1.handled = none from un]
  refine wpAny_bind (wpAny_pure (wpAny_throw ?_))
  refine wpAny_bind (wpAny_isInstance (T := "StopIteration") (b := true) ⟨_, Heap.get?_push_size _ rfl, rfl⟩ isSubtype_stop ?_)
  exact wpAny_pure (q _ fun b o e => Heap.get?_push_of_some _ (Heap.get?_push_of_some _ e))
theorem w_done {I z : Addr} {o : Obj} {es : Array (Int × Value)} {ep : Nat} {t : SetTable} {vals : List Value} {fst : Value} {Q : Option Value → Shared → Prop} (un : A.handled = none) (gI : s.heap.get? I = some (sitObj fst es.size es.size ep z)) (gO : s.heap.get? z = some o) (gD : o.data = .set es ep t) (gF : t.fits es.size = true) (gT : Rg.TabOk (w.params.followText "set-order") t)
    (gW:Ord w s.heap z es ep t vals fst es.size) (q:∀ h',Heap.ExtBut I s.heap h'→Q none { s with heap:=h' }):wpAny (model prog w) A (pyNext (.ref I)) Q E s:=by
  have tI:s.TypeIs (.ref I) "set_iterator":=⟨_,gI,rfl⟩
  unfold pyNext
  refine wpAny_bind (wpAny_attempt (wpAny_callSpecial?_slot (name:=Str.ofString "__next__") tI slot_sit_next (wpAny_call_entry slot_sit_next tI entry_sit_next ?_ (args_sit_next _))))
  unfold Builtin.«set_iterator.__next__» slotArgs
  simp only [List.isEmpty_nil,Bool.not_true,Bool.false_eq_true,↓reduceIte,bind_assoc,List.length_nil,bne_self_eq_false]
  refine wpAny_bind (wpAny_pure ?_)
  refine wpAny_bind (wpAny_fieldsOf gI rfl ?_)
  dsimp only
  refine wpAny_bind (wpAny_setEntries_of gO gD gF ?_)
  simp only [bne_self_eq_false,Bool.false_eq_true,↓reduceIte]
  have gW0:=gW
  rcases gW.way with ⟨hB,hf,hvals⟩ | ⟨hB,hdr,T,ps,hf,⟨c,hTo⟩,hpl,hpb,hvals⟩ | ⟨hB,hdr,slot,hf,hbl,hvals⟩
  · subst hf
    refine wpAny_bind (w_stop (slot:=0) gO gD gF gT gW0 ?_)
    refine wpAny_bind (wpAny_setField gI rfl (by simp) ?_)
    exact stop_wp un fun h' k=>q h' fun b o nb e=>k b o (by rw [(Heap.SameBut.update s.heap I _).2 b nb]; exact e)
  · subst hf
    refine wpAny_bind (wpAny_seqItems hTo rfl ?_)
    have e1:((ps.map fun (k:Nat)=>rawInt k).toArray)[((es.size:Nat):Int).toNat]? = none:=by
      rw [Int.toNat_natCast]
      exact Array.getElem?_eq_none (by simp [hpl])
    dsimp only
    rw [e1]
    dsimp only
    have g1:(s.heap.update I (Obj.mapFields (·.setIfInBounds 0 (rawInt 0)))).get? I = some (sitObj (.int (0:Nat) 0) es.size es.size ep z):=by rw [sit_put gI]; rfl
    refine wpAny_bind (wpAny_setField gI rfl (by simp) ?_)
    refine wpAny_bind (wpAny_setField g1 rfl (by simp) ?_)
    exact stop_wp un fun h' k=>q h' fun b o nb e=>k b o (by rw [(Heap.SameBut.update _ I _).2 b nb,(Heap.SameBut.update s.heap I _).2 b nb]; exact e)
  · subst hf
    refine wpAny_bind (w_stop (slot:=slot) gO gD gF gT gW0 ?_)
    refine wpAny_bind (wpAny_setField gI rfl (by simp) ?_)
    exact stop_wp un fun h' k=>q h' fun b o nb e=>k b o (by rw [(Heap.SameBut.update s.heap I _).2 b nb]; exact e)
end
end L2
namespace L2
open PySem PySem.Spec PyProof.Rows Rg
section
variable {prog:Program} {w:World} {A:Around} {E:Value→Shared→Prop} {s:Shared}
theorem w_iter {z : Addr} {o : Obj} {es : Array (Int × Value)} {ep : Nat} {t : SetTable} {Q : Value → Shared → Prop} (gX : o.ExactSet) (gO : s.heap.get? z = some o) (gD : o.data = .set es ep t) (gF : t.fits es.size = true) (gT : Rg.TabOk (w.params.followText "set-order") t) (gB : es.size < scanBound)
    (q:∀ h' d fst vals I,vals.Perm (es.toList.map (·.2))→(∀ b u,s.heap.get? b = some u→h'.get? b = some u)→s.heap.objs.size ≤ I→h'.get? I = some (sitObj fst 0 es.size ep z)→Ord w h' z es ep t vals fst 0→Q (.ref I) { s with heap:=h',drawn:=d }) :
    wpAny (model prog w) A (pyIter (.ref z)) Q E s:=by
  have tZ:s.TypeIs (.ref z) "set":=⟨o,gO,gX.1⟩
  refine wpAny_pyIter_slot tZ F.slot_set_iter (wpAny_call_entry F.slot_set_iter tZ entry_set_iter' ?_ (F.args_set_iter_1 _))
  unfold Builtin.«frozenset.__iter__» Builtin.Frozenset.slot0 slotArgs
  simp only [List.isEmpty_nil,Bool.not_true,Bool.false_eq_true,↓reduceIte,bind_assoc,List.length_nil,bne_self_eq_false]
  unfold Builtin.Frozenset.addrOf Builtin.Frozenset.sizeOf
  refine wpAny_bind (wpAny_pure ?_)
  try dsimp only
  refine wpAny_bind (wpAny_pure ?_)
  refine wpAny_bind (wpAny_bind (wpAny_setEntries_of gO gD gF (wpAny_pure ?_)))
  unfold setDrawn
  refine wpAny_bind (wpAny_bind (wpAny_setState_of gO gD gF ?_))
  dsimp only
  refine wpAny_bind (m:=setsByText) (wpAny_bind (wpAny_askSetting (wpAny_pure (wpAny_pure ?_))))
  show wpAny _ _ (if (!w.params.followText "set-order" && (!t.plain && decide (es.size > 1))) = true then _ else _) _ _ s
  have big:(1000000:Nat) < sizeLine:=by rw [sizeLine_eq]; decide
  have sb:scanBound = 4096:=rfl
  have hpl:t.place.size = es.size:=by
    have z:=gF
    unfold SetTable.fits at z
    simp at z
    exact z.1
  cases hB:w.params.followText "set-order" with
  | true =>
    rw [if_neg (by simp)]
    refine wpAny_bind (wpAny_pure ?_)
    refine wpAny_bind (wpAny_setEpoch_of gO gD gF ?_)
    refine wpAny_bind (wpAny_newObj_type ?_ (by size_fits))
    refine wpAny_pure ⟨_,rfl,"set_iterator",_,⟨_,Heap.get?_push_size _ rfl,rfl⟩,slot_sit_next.lookup,?_⟩
    exact q _ s.drawn (.int 0 0) _ _ ((pick_perm (w.params.setOrder z ep) es).map _) (fun b u e=>Heap.get?_push_of_some _ e) (Nat.le_refl _) (Heap.get?_push_size _ rfl) ⟨.inl ⟨hB,rfl,rfl⟩⟩
  | false =>
    cases hdr:(!t.plain && decide (es.size > 1)) with
    | false =>
      rw [if_neg (by simp)]
      refine wpAny_bind (wpAny_pure ?_)
      refine wpAny_bind (wpAny_setEpoch_of gO gD gF ?_)
      refine wpAny_bind (wpAny_newObj_type ?_ (by size_fits))
      refine wpAny_pure ⟨_,rfl,"set_iterator",_,⟨_,Heap.get?_push_size _ rfl,rfl⟩,slot_sit_next.lookup,?_⟩
      exact q _ s.drawn (.int 0 0) _ _ (List.Perm.refl _) (fun b u e=>Heap.get?_push_of_some _ e) (Nat.le_refl _) (Heap.get?_push_size _ rfl) ⟨.inr (.inr ⟨hB,hdr,0,rfl,below_zero gT.ris,rfl⟩)⟩
    | true =>
      rw [if_pos (by simp)]
      refine wpAny_bind (w_draw es.size (List.range es.size) (by simp) fun ys d hp=>?_)
      have yl:ys.length = es.size:=by have:=hp.length_eq; simpa using this
      refine wpAny_bind (wpAny_newObj_type ?_ (by show _ ≤ sizeLine; simp [yl]; lia))
      refine wpAny_bind (wpAny_setEpoch_of (Heap.get?_push_of_some _ gO) gD gF ?_)
      refine wpAny_bind (wpAny_newObj_type ?_ (by size_fits))
      refine wpAny_pure ⟨_,rfl,"set_iterator",_,⟨_,Heap.get?_push_size _ rfl,rfl⟩,slot_sit_next.lookup,?_⟩
      refine q _ d (.ref s.heap.objs.size) (ys.map fun k=>(es.getD k default).2) _ ?_ (fun b u e=>Heap.get?_push_of_some _ (Heap.get?_push_of_some _ e)) (by show _ ≤ (s.heap.push _).objs.size; rw [Heap.size_push]; exact Nat.le_succ _) (Heap.get?_push_size _ rfl)
        ⟨.inr (.inl ⟨hB,hdr,s.heap.objs.size,ys,rfl,⟨_,Heap.get?_push_of_some _ (Heap.get?_push_size _ rfl)⟩,yl,fun k hk=>List.mem_range.mp (hp.mem_iff.mp hk),rfl⟩)⟩
      refine (hp.map _).trans ?_
      have e:(List.range es.size).map (fun k=>(es.getD k default).2) = es.toList.map (·.2):=by
        refine List.ext_getElem (by simp) fun i h1 h2=>?_
        simp at h1
        simp [Array.getD,h1]
      rw [e]
theorem w_walks (un : A.handled = none) {I z : Addr} {o : Obj} {es : Array (Int × Value)} {ep : Nat} {t : SetTable} {vals : List Value} (gD : o.data = .set es ep t) (gF : t.fits es.size = true) (gT : Rg.TabOk (w.params.followText "set-order") t) (hl : vals.length = es.size) (nz : z ≠ I) (T : Addr) (nT : T ≠ I) :
    Walks prog w A I [I,z,T] [I] es.size (fun i v=>vals[i]? = some v) (fun i h=>h.get? z = some o∧∃ fst,h.get? I = some (sitObj fst i es.size ep z)∧Ord w h z es ep t vals fst i∧∀ a,fst = .ref a→a = T) where
  sub:=fun b hb=>by simp at hb; simp [hb]
  frame:=fun i h h' st hk=>by
    obtain ⟨gO,fst,gI,gW,hT⟩:=st
    refine ⟨hk z (by simp) _ gO,fst,hk I (by simp) _ gI,⟨?_⟩,hT⟩
    rcases gW.way with x | ⟨hB,hdr,a,ps,hf,⟨c,e⟩,rest⟩ | x
    · exact .inl x
    · exact .inr (.inl ⟨hB,hdr,a,ps,hf,⟨c,hk a (by rw [hT a hf]; simp) _ e⟩,rest⟩)
    · exact .inr (.inr x)
  item:=fun i s Q E hi st q=>by
    obtain ⟨gO,fst,gI,gW,hT⟩:=st
    have hv:vals[i]? = some vals[i]:=List.getElem?_eq_getElem (by lia)
    refine w_item gI gO gD gF gT gW hv fun h' fst' g' sb ord same=>?_
    refine q _ h' s.toks hv ⟨by rw [sb.2 z nz]; exact gO,fst',g',ord,fun a ha=>hT a (same a ha)⟩ fun b u nb e=>by rw [sb.2 b (by simpa using nb)]; exact e
  done:=fun s Q E st q=>by
    obtain ⟨gO,fst,gI,gW,hT⟩:=st
    exact w_done un gI gO gD gF gT gW fun h' x=>q h' s.toks fun b u nb e=>x b u (by simpa using nb) e
  self:=fun i s Q E st q=>by
    obtain ⟨gO,fst,gI,gW,hT⟩:=st
    have tI:s.TypeIs (.ref I) "set_iterator":=⟨_,gI,rfl⟩
    refine wpAny_pyIter_slot tI slot_sit_iter (wpAny_call_entry slot_sit_iter tI entry_sit_iter ?_ (args_sit_iter _))
    show wpAny _ _ (ret (.ref I)) _ _ s
    exact wpAny_pure ⟨_,rfl,"set_iterator",_,tI,slot_sit_next.lookup,q⟩
end
end L2
namespace L2
open PySem PySem.Spec PyProof.Rows Rg
theorem look_set_len : typeLookup (.type "set") "__len__" = pure (some (.builtin "set.__len__")) := rfl
section
variable {prog:Program} {w:World} {A:Around} {E:Value→Shared→Prop} {s:Shared}
theorem w_collect (un : A.handled = none) {z : Addr} {o : Obj} {es : Array (Int × Value)} {ep : Nat} {t : SetTable} {Q : List Value → Shared → Prop} (gX : o.ExactSet) (gO : s.heap.get? z = some o) (gD : o.data = .set es ep t) (gF : t.fits es.size = true) (gT : Rg.TabOk (w.params.followText "set-order") t) (gB : es.size < scanBound)
    (q:∀ h' d tk vals,vals.Perm (es.toList.map (·.2))→s.heap.objs.size < h'.objs.size→(∀ b u,s.heap.get? b = some u→h'.get? b = some u)→Q vals { s with heap:=h',drawn:=d,toks:=tk }):wpAny (model prog w) A (collect (.ref z)) Q E s:=by
  unfold collect
  refine wpAny_bind (wpAny_runValue (codeAny_builtin F.entry_proto_collect ?_))
  rw [Around.under_plainId F.plain_proto_collect _]
  refine wpAny_bind (m:=newList []) (wpAny_newObj_type ?_)
  refine wpAny_pure ⟨plainId_quiet F.plain_list_iadd _,codeAny_builtin F.entry_list_iadd ?_⟩
  rw [Around.under_plainId F.plain_list_iadd _]
  have zl:z < s.heap.objs.size:=Heap.lt_size gO
  obtain ⟨H1,e1⟩:∃ H1,s.heap.push { cls:=.type "list",data:=.seq ([]:List Value).toArray } = H1:=⟨_,rfl⟩
  rw [e1]
  have k1:∀ b u,s.heap.get? b = some u→H1.get? b = some u:=fun b u e=>by rw [← e1]; exact Heap.get?_push_of_some _ e
  have gL1:H1.get? s.heap.objs.size = some (seqObj "list" #[] 0):=by rw [← e1]; exact Heap.get?_push_size _ rfl
  have tZ:Shared.TypeIs { s with heap:=H1 } (.ref z) "set":=⟨o,k1 _ _ gO,gX.1⟩
  show wpAny _ A.in1 (Builtin.List.listExtendWith (.ref s.heap.objs.size) (.ref z) (.ref s.heap.objs.size)) _ _ _
  unfold Builtin.List.listExtendWith
  refine wpAny_bind (wpAny_typeOf tZ ?_)
  have x1:Builtin.List.listSameRef (.ref s.heap.objs.size) (.ref z) = false:=by
    have:s.heap.objs.size ≠ z:=Nat.ne_of_gt zl
    simp [Builtin.List.listSameRef,this]
  rw [if_neg (by rw [x1]; decide)]
  refine wpAny_bind (w_iter gX (k1 _ _ gO) gD gF gT gB fun h2 d fst vals I hp k2 hI gI gW=>?_)
  refine wpAny_bind (wpAny_holding ?_)
  unfold Builtin.List.listLengthHint
  have tZ2:Shared.TypeIs { s with heap:=h2,drawn:=d } (.ref z) "set":=⟨o,k2 _ _ (k1 _ _ gO),gX.1⟩
  refine wpAny_bind (wpAny_specialOf tZ2 look_set_len ?_)
  wp_delta
  refine wpAny_bind (wpAny_isInstance (T:="set") (b:=true) tZ2 (by rw [isSubtype_type]; kernel_rfl) ?_)
  refine wpAny_bind (m:=typeOf (.ref z)) (wpAny_typeOf tZ2 ?_)
  refine wpAny_pure ?_
  rw [if_pos (by decide)]
  have gL2:=k2 _ _ gL1
  have big:(1000000:Nat) < sizeLine:=by rw [sizeLine_eq]; decide
  have sb:scanBound = 4096:=rfl
  have hs1:H1.objs.size = s.heap.objs.size + 1:=by rw [← e1]; exact Heap.size_push _ _
  have nLI:s.heap.objs.size ≠ I:=Nat.ne_of_lt (Nat.lt_of_lt_of_le (by show _ < H1.objs.size; rw [hs1]; exact Nat.lt_succ_self _) hI)
  have nLz:s.heap.objs.size ≠ z:=Nat.ne_of_gt zl
  have nzI:z ≠ I:=fun e=>nLI (by
    have h1:z < H1.objs.size:=Heap.lt_size (k1 _ _ gO)
    rw [e] at h1
    exact absurd h1 (Nat.not_lt.mpr hI))
  obtain ⟨T,hT,nTI,nTL⟩:∃ T,(∀ a,fst = .ref a→a = T)∧T ≠ I∧T ≠ s.heap.objs.size:=by
    rcases gW.way with ⟨_,hf,_⟩ | ⟨_,_,a,ps,hf,⟨c,e⟩,_⟩ | ⟨_,_,sl,hf,_⟩
    · exact ⟨z,(fun a ha=>by rw [hf] at ha; cases ha),nzI,nLz.symm⟩
    · refine ⟨a,(fun b hb=>by rw [hf] at hb; injection hb with h; exact h.symm),fun x=>?_,fun x=>?_⟩
      · rw [x,gI] at e; exact absurd (congrArg Obj.cls (Option.some.inj e)) (show ¬ Value.type "set_iterator" = Value.type "tuple" by decide)
      · rw [x,gL2] at e; exact absurd (congrArg Obj.cls (Option.some.inj e)) (show ¬ Value.type "list" = Value.type "tuple" by decide)
    · exact ⟨z,(fun a ha=>by rw [hf] at ha; cases ha),nzI,nLz.symm⟩
  refine wpAny_bind (wpAny_rule ?_)
  unfold Builtin.List.listTouch
  refine wpAny_bind (wpAny_bind (listUpdate_at gL2 rfl ?_))
  have gL3:=get?_update_seq gL2 (·.push .none)
  refine listUpdate_at gL3 rfl ?_
  have gL4:=get?_update_seq gL3 (·.pop)
  have kk:∀ b,b ≠ s.heap.objs.size→((h2.update s.heap.objs.size (Obj.mapSeq (·.push .none))).update s.heap.objs.size (Obj.mapSeq (·.pop))).get? b = h2.get? b:=fun b nb=>by
    rw [(Heap.SameBut.update _ _ _).2 b nb,(Heap.SameBut.update _ _ _).2 b nb]
  obtain ⟨H4,e4⟩:∃ H4,(h2.update s.heap.objs.size (Obj.mapSeq (·.push .none))).update s.heap.objs.size (Obj.mapSeq (·.pop)) = H4:=⟨_,rfl⟩
  rw [e4] at gL4 kk
  rw [e4]
  have vl:vals.length = es.size:=by have:=hp.length_eq; simpa using this
  have un2:A.in1.handled = none:=by simp [un]
  have st:H4.get? z = some o∧∃ fst,H4.get? I = some (sitObj fst 0 es.size ep z)∧Ord w H4 z es ep t vals fst 0∧∀ a,fst = .ref a→a = T:=by
    refine ⟨by rw [kk z nLz.symm]; exact k2 _ _ (k1 _ _ gO),fst,by rw [kk I nLI.symm]; exact gI,⟨?_⟩,hT⟩
    rcases gW.way with x | ⟨hB,hdr,a,ps,hf,⟨c,e⟩,rest⟩ | x
    · exact .inl x
    · exact .inr (.inl ⟨hB,hdr,a,ps,hf,⟨c,by rw [hT a hf] at e ⊢; rw [kk T nTL]; exact e⟩,rest⟩)
    · exact .inr (.inr x)
  have nf:s.heap.objs.size ∉ [I,z,T]:=by
    simp only [List.mem_cons,List.not_mem_nil,or_false,not_or]
    exact ⟨nLI,nLz,nTL.symm⟩
  refine wpAny_pure ⟨plainId_quiet F.plain_extend_loop _,codeAny_extend_loopS (w_walks (vals:=vals) un2 gD gF gT vl nzI T nTI).toS (by lia) _ nf _ es.size 0 _ #[] _ rfl (Nat.zero_le _) st gL4 (ItemsOf.nil _) fun s' acc c' mv gA it=>?_⟩
  refine wpAny_bind (wpAny_load gA (wpAny_pure ?_))
  have ea:acc.toList = vals:=by
    refine List.ext_getElem? fun j=>?_
    rcases Nat.lt_or_ge j es.size with lt | ge
    · have lt':j < acc.size:=by rw [it.1]; exact lt
      have e:acc[j]? = some acc[j]:=Array.getElem?_eq_getElem lt'
      rw [it.2 j _ e,← e]
      simp
    · rw [List.getElem?_eq_none (by simp [it.1]; exact ge),List.getElem?_eq_none (by lia)]
  obtain ⟨h5,g5,d5,tk5,os5⟩:=s'
  obtain rfl:g5 = s.gens:=mv.gens
  obtain rfl:d5 = d:=mv.drawn
  obtain rfl:os5 = s.os:=mv.os
  show Q acc.toList _
  rw [ea]
  refine q h5 _ tk5 vals hp (Heap.lt_size gA) fun b u e=>mv.heap b u ?_ ?_
  · have lb:b < s.heap.objs.size:=Heap.lt_size e
    simp only [List.mem_cons,List.not_mem_nil,or_false,not_or]
    exact ⟨Nat.ne_of_lt lb,Nat.ne_of_lt (Nat.lt_of_lt_of_le (by show _ < H1.objs.size; rw [hs1]; exact Nat.lt_succ_of_lt lb) hI)⟩
  · show H4.get? b = some u
    rw [kk b (Nat.ne_of_lt (Heap.lt_size e))]
    exact k2 _ _ (k1 _ _ e)
end
end L2
namespace L2
open PySem PySem.Spec PyProof.Rows Rg
section
variable {prog:Program} {w:World} {A:Around} {E:Value→Shared→Prop} {s:Shared}
theorem z_rest {vals : List Value} {ns : List Int} {Q : Value → Shared → Prop} (hI : IntsAre vals ns) (vl : vals.length < 64)
    (q : ∀ (out : Array Value) (ns' : List Int), IntsAre out.toList ns' → ns'.Perm ns → ns'.Pairwise (· ≤ ·) → Q (.ref s.heap.objs.size) { s with heap := sortedHeap (s.heap.push (seqObj "list" vals.toArray 0)) s.heap.objs.size vals out }) :
    wpAny (model prog w) A (do
      let l ← newList vals
      let _ ← holding [l] (call (.builtin "list.sort") [l] [])
      ret l) (fun fin s' => ∃ v, fin = Fin.done (Flow.ret v) ∧ Q v s') E s := by
  refine wpAny_bind (wpAny_newList ?_)
  have g1 : (s.heap.push (seqObj "list" vals.toArray 0)).get? s.heap.objs.size = some (seqObj "list" vals.toArray 0) := Heap.get?_push_size _ rfl
  refine wpAny_bind (wpAny_holding (wpAny_call_entry slot_list_sort ⟨_, g1, rfl⟩ entry_list_sort (list_sort_tree g1 hI vl fun out ns' a1 a2 a3 => ⟨_, rfl, ?_⟩) (args_list_sort _)))
  exact wpAny_pure ⟨_, rfl, q out ns' a1 a2 a3⟩
end
theorem ints_of:∀ {l:List Value},(∀ v ∈ l,∃ tk,v = .int (zk v) tk)→IntsAre l (l.map zk)
  | [],_=>.nil
  | v :: r,h=>by
    obtain ⟨tk,e⟩:=h v List.mem_cons_self
    have ih:=ints_of fun x hx=>h x (List.mem_cons_of_mem _ hx)
    rw [List.map_cons,e]
    exact .cons _ tk ih
section
variable {prog:Program} {w:World} {A:Around} {E:Value→Shared→Prop} {s:Shared}
theorem z_sorted (un : A.handled = none) {z : Addr} {o : Obj} {σ : List Int} {Q : Value → Shared → Prop} (gO : s.heap.get? z = some o) (gZ : ZObj prog w o σ) (h64 : σ.length < 64)
    (q : ∀ (h1 : Heap) (d : Drawn) (tk : Nat) (vals : List Value) (out : Array Value) (ns : List Int), s.heap.objs.size < h1.objs.size → (∀ b u, s.heap.get? b = some u → h1.get? b = some u) → IntsAre out.toList ns → ns.Perm σ → ns.Pairwise (· ≤ ·) → Q (.ref h1.objs.size) { s with heap := sortedHeap (h1.push (seqObj "list" (vals.toArray) 0)) h1.objs.size vals out, drawn := d, toks := tk }) :
    wpAny (model prog w) A (call (.builtin "sorted") [.ref z]) Q E s := by
  obtain ⟨gX, es, ep, t, gD, gE, gP, gF, gT⟩ := gZ
  have hz := z_len gP
  have gB : es.size < scanBound := by rw [hz]; exact Nat.lt_trans h64 (by decide)
  have un1 : A.in1.handled = none := un
  refine Calls.call_function_entry kind_sorted plain_sorted entry_sorted (args_sorted1 _) ?_
  unfold Builtin.«sorted»
  refine wpAny_bind (m := checkCount "sorted" 1 1 _) (wpAny_pure ?_)
  refine wpAny_bind (m := collect (.ref z)) (w_collect un1 gX gO gD gF gT gB fun h1 d tk vals hp lt1 k1 => ?_)
  have hI : IntsAre vals (vals.map zk) := ints_of fun v hv => by
    obtain ⟨e, he, rfl⟩ := List.mem_map.mp (hp.mem_iff.mp hv)
    exact elem_int gE he
  have hpz : (vals.map zk).Perm σ := by
    have := hp.map zk
    rw [List.map_map] at this
    exact this.trans gP
  have vl : vals.length < 64 := by
    have h1 := hp.length_eq
    simp_all
  exact z_rest (s := { s with heap := h1, drawn := d, toks := tk }) hI vl fun out ns' a1 a2 a3 => q h1 d tk vals out ns' lt1 k1 a1 (a2.trans hpz) a3
end
end L2
namespace L2
open PySem PySem.Spec PyProof.Rows Rg
section
variable {X:Cx} {K:PySem.W.Frag} {P:Program} {w:World}
noncomputable def gSetZ (P:Program) (w:World) (K:PySem.W.Frag):List V→Hp→VK→Prop:=fun xs H Q=>match xs with
  | [.ref a]=>∃ ns:List Int,SqL K H a (ns.map V.int)∧ns.length + 1 < 4096∧∀ p o,H p = none→ZObj P w o (dist ns)→Q (.ref p) (upd H p (.frz o anyHO))
  | _=>False
theorem c_setZ (hc : X.calm = true) (hK : X.K = K := by rfl) (hP : X.prog = P := by rfl) (hw : X.w = w := by rfl) : Irr (CallR X (.type "set") (gSetZ P w K)) := by
  refine .mk ?_
  subst hK
  subst hP
  subst hw
  intro pins s σ H xs us Q I r h
  unfold gSetZ at h
  split at h
  · obtain ⟨ns, hS, hl, q⟩ := h
    obtain ⟨u, rfl, rx⟩ := vals1 r
    cases rx
    obtain ⟨its, rv, pl, hz⟩ := I.list hS
    have hlen : its.length = ns.length := by have := rv.length; simp_all
    have hsz : its.toArray.size = ns.length := by omega
    refine z_call (items := its.toArray) (ns := ns) (I.ok.hd hc) pl.isList (by simpa using ints_vals rv) (by rw [hsz]; exact hl) fun h' tk o g z k => ?_
    rw [firstMet_dist ns _ hsz] at z
    exact ⟨.ref _, _, I.laid (t' := tk) (fun b o e => k b o (Heap.lt_size e) e) (Nat.le_refl _) (ok_any g), rfl, q _ o (I.hok.fresh (Nat.le_refl _)) z⟩
  · exact h.elim
noncomputable def gSortZ (P:Program) (w:World):List V→Hp→VK→Prop:=fun xs H Q=>match xs with
  | [.ref a]=>∃ o τ,Kn H a o∧ZObj P w o τ∧τ.length < 64∧∀ p (ns:List Int),H p = none→ns.Perm τ→ns.Pairwise (· ≤ ·)→Q (.ref p) (upd H p (.lst (ns.map V.int)))
  | _=>False
theorem ints_rel:∀ {vs:List Value} {ns:List Int},IntsAre vs ns→Vals (ns.map V.int) vs
  | _,_,.nil=>.nil
  | _,_,.cons n t h=>.cons ⟨t,rfl⟩ (ints_rel h)
theorem Inv.drew {pins:List (Addr × Obj)} {σ:St} {H:Hp} {s:Shared} (I:Inv X pins σ H s) (d:Drawn):Inv X pins σ H { s with drawn:=d } :=
  ⟨I.ok,I.os,I.bare,I.base,I.loc,I.cell,I.free,I.freeC,I.pin,I.hok,I.len⟩
theorem c_sortZ (hc:X.calm = true) (hP:X.prog = P:=by rfl) (hw:X.w = w:=by rfl):Irr (CallR X (.builtin "sorted") (gSortZ P w)):=by
  refine .mk ?_
  subst hP
  subst hw
  intro pins s σ H xs us Q I r h
  unfold gSortZ at h
  split at h
  · obtain ⟨o,τ,hk,hz,hl,q⟩:=h
    obtain ⟨u,rfl,rx⟩:=vals1 r
    cases rx
    refine z_sorted (I.ok.hd hc) (hk.get I.hok) hz hl fun h1 d tk vals out ns lt k1 hI hp hs=>?_
    have g1:(h1.push (seqObj "list" vals.toArray 0)).get? h1.objs.size = some (seqObj "list" vals.toArray 0):=Heap.get?_push_size _ rfl
    obtain ⟨e,g2⟩:=sortedHeap_at (out:=out) g1
    have kept:∀ b u,s.heap.get? b = some u→(sortedHeap (h1.push (seqObj "list" vals.toArray 0)) h1.objs.size vals out).get? b = some u:=fun b u hb=>by
      have lb:b < h1.objs.size:=Heap.lt_size (k1 b u hb)
      rw [sortedHeap_old (Nat.ne_of_lt lb) (by rw [size_push']; exact Nat.lt_succ_of_lt lb)]
      exact Heap.get?_push_of_some _ (k1 b u hb)
    have big:(1000000:Nat) < sizeLine:=by rw [sizeLine_eq]; decide
    have nl:ns.length = τ.length:=hp.length_eq
    have new:ObjOk X.prog X.w (upd H h1.objs.size (.lst (ns.map V.int))) (sortedHeap (h1.push (seqObj "list" vals.toArray 0)) h1.objs.size vals out) h1.objs.size (.lst (ns.map V.int)):=⟨by rw [List.length_map]; lia,out.toList,e,ints_rel hI,g2⟩
    exact ⟨.ref _,_,(I.drew d).laid (t':=tk) kept (Nat.le_of_lt lt) new,rfl,q _ ns (I.hok.fresh (Nat.le_of_lt lt)) hp hs⟩
  · exact h.elim
end
end L2
namespace L2
open PySem PySem.Spec PyProof.Rows Rg
theorem step_mem (σ : List Int) (v x : Int) : x ∈ step_dedup σ v ↔ x ∈ σ ∨ x = v := by
  unfold step_dedup
  by_cases h : σ.any (· == v) = true
  · simp_all
  simp_all
theorem dist_mem1 (ns : List Int) (x : Int) : x ∈ dist ns ↔ x ∈ ns := by
  have key : ∀ (l acc : List Int), x ∈ l.foldl step_dedup acc ↔ x ∈ acc ∨ x ∈ l := by
    intro l
    induction l with
    | nil => simp
    | cons y r ih =>
      intro acc
      rw [List.foldl_cons, ih, step_mem, List.mem_cons, or_assoc]
  have := key ns []
  unfold dist
  simpa using this
structure Srt (ns rs:List Int):Prop where
  pm:ns.Perm (dist rs)
  st:ns.Pairwise (· ≤ ·)
theorem Srt.mem {ns rs:List Int} (h:Srt ns rs) (x:Int):x ∈ ns ↔ x ∈ rs:=(h.pm.mem_iff).trans (dist_mem1 rs x)
theorem Srt.nil {ns rs : List Int} (h : Srt ns rs) : ns = [] ↔ rs = [] := by
  constructor
  · intro e
    refine List.eq_nil_iff_forall_not_mem.mpr fun x hx => ?_
    have := (h.mem x).mpr hx
    simp_all
  · intro e
    refine List.eq_nil_iff_forall_not_mem.mpr fun x hx => ?_
    have := (h.mem x).mp hx
    grind
theorem Srt.least {ns rs r : List Int} {m : Int} (h : Srt ns rs) (e : ns = m :: r) : m ∈ rs ∧ ∀ x ∈ rs, m ≤ x := by
  refine ⟨(h.mem m).mp (by rw [e]; exact List.mem_cons_self), fun x hx => ?_⟩
  have hx' := (h.mem x).mpr hx
  have st := h.st
  rw [e] at hx' st
  rcases List.mem_cons.mp hx' with z | z
  · simp_all
  simp_all
theorem Srt.none {ns rs : List Int} (h : Srt ns rs) (k : Int) : ns.filter (fun x => decide (k < x)) = [] ↔ ∀ x ∈ rs, x ≤ k := by
  rw [List.filter_eq_nil_iff]
  constructor
  · intro q x hx
    have := q x ((h.mem x).mpr hx)
    simp_all
  · intro q x hx
    have := q x ((h.mem x).mp hx)
    grind
theorem Srt.above {ns rs r : List Int} {m k : Int} (h : Srt ns rs) (e : ns.filter (fun x => decide (k < x)) = m :: r) : m ∈ rs ∧ k < m ∧ ∀ x ∈ rs, k < x → m ≤ x := by
  have hm : m ∈ ns.filter (fun x => decide (k < x)) := by rw [e]; exact List.mem_cons_self
  obtain ⟨h1, h2⟩ := List.mem_filter.mp hm
  refine ⟨(h.mem m).mp h1, of_decide_eq_true h2, fun x hx hk => ?_⟩
  have hx' : x ∈ ns.filter (fun x => decide (k < x)) := List.mem_filter.mpr ⟨(h.mem x).mpr hx, decide_eq_true hk⟩
  have st := h.st.sublist (List.filter_sublist (p := fun x => decide (k < x)))
  rw [e] at hx' st
  rcases List.mem_cons.mp hx' with z | z
  · simp_all
  simp_all
end L2
namespace L2
open PySem PySem.Spec PyProof.Rows
section
variable {prog:Program} {w:World} {A:Around} {E:Value→Shared→Prop} {s:Shared}
noncomputable def Fin2 (prog:Program) (w:World) (A:Around) (Q E:Value→Shared→Prop) (f:Fin) (t:Shared):Prop :=
  match f with
  | .done g=>(match (Except.ok g:Result) with | .ok (.ret v)=>Q v t | .ok _=>False | .error e=>E e t)
  | .again c=>c.quiet = true∧codeAny (model prog w) A c (fun r t'=>match r with | .ok (.ret v)=>Q v t' | .ok _=>False | .error e=>E e t') t
theorem fn_kw {id : String} {b : Builtin} {xs : List Value} {kw : List (Str × Value)} {Q : Value → Shared → Prop} (hk : builtinKind id = none) (hp : plainId id = true) (hb : entryFor table id = some b)
    (ha:argsOk id ⟨xs,kw⟩) (hc:wpAny (model prog w) A.in1 (b ⟨xs,kw⟩) (Fin2 prog w A Q E) E s):wpAny (model prog w) A (call (.builtin id) xs kw) Q E s:=by
  refine wpAny_call (codeAny_call_builtin hp hb ?_)
  have hc' := wpAny_mono hc (Q' := fun fin t => match fin with
      | .done g=>(match (Except.ok g:Result) with | .ok (.ret v)=>Q v t | .ok _=>False | .error e=>E e t)
      | .again c=>c.quiet = true∧codeAny (model prog w) A c (fun r t'=>match r with | .ok (.ret v)=>Q v t' | .ok _=>False | .error e=>E e t') t) (fun fin t h=>by cases fin <;> exact h) fun _ _ h=>h
  simp only [checkBuiltinCall,hk]
  cases hs:Manifest.signature? id with
  | none=>exact wpAny_pure hc'
  | some sig =>
    have h2:Bind.checkArgs id sig ⟨xs,kw⟩ = pure ():=by simpa only [argsOk,hs] using ha
    simp only [h2]
    exact wpAny_pure hc'
theorem minD_args (a d:Value):argsOk "min" ⟨[a],[(("default":Str),d)]⟩:=by unfold argsOk; kernel_rfl
end
section
variable {prog:Program} {w:World} {A:Around} {R:Result→Shared→Prop} {I:Addr} {fp wr:List Addr} {n:Nat} {V1:Nat→Value→Prop} {St:Nat→Heap→Prop}
theorem name_mn:(toString "min" ++ toString ".loop":String) = "min.loop":=by decide
theorem minD_rest (W : Walks prog w A.in1 I fp wr n V1 St) (val : Nat → Int) (hv : ∀ i v, V1 i v → ∃ t, v = .int (val i) t) (S : Addr) (hS : S ∉ fp) (kw : List (Str × Value)) :
    ∀ (k j b:Nat) (s:Shared) (tb:Tok) (c:Nat),n = j + k→b < j→(∀ i,i < j→val b ≤ val i)→St j s.heap →
    s.heap.get? S = some { cls:=.type "list",dict:=none,data:=.seq #[.int (val b) tb,.int (val b) tb] c,slots:=#[] } →
    (∀ b' t h' tk,b' < n→(∀ i,i < n→val b' ≤ val i)→(∀ a o,a ∉ wr→a ≠ S→s.heap.get? a = some o→h'.get? a = some o)→R (.ok (.ret (.int (val b') t))) { s with heap:=h',toks:=tk }) →
    codeAny (model prog w) A (.builtin "min.loop" ⟨[.ref I,.none,.ref S],kw⟩) R s:=by
  have hSw:S ∉ wr:=fun h=>hS (W.sub _ h)
  intro k
  induction k with
  | zero =>
    intro j b s tb c hn hb hle hst gS q
    refine codeAny_builtin F.entry_min_loop ?_
    rw [Around.under_plainId F.plain_min_loop _]
    show wpAny _ A.in1 (seqItems? (.ref S) >>= _) _ _ s
    refine wpAny_bind (wpAny_seqItems gS rfl ?_)
    show wpAny _ A.in1 (tryCatch (pyNext (.ref I)) _ >>= _) _ _ s
    have ejn:j = n:=by lia
    refine wpAny_bind (wpAny_tryCatch (W.done s _ _ (ejn ▸ hst) fun h1 tk k1=>?_))
    have gS1:=k1 S _ hSw gS
    show wpAny _ A.in1 (updateSeq S (fun _=>#[]) >>= _) _ _ _
    refine wpAny_bind ?_
    refine wpAny_updateSeq gS1 rfl (wpAny_bind (wpAny_letGo (wpAny_pure ?_)))
    exact q b tb _ tk (by lia) (fun i hi=>hle i (by lia)) fun a o haw haS e=>(Heap.get?_update_other _ _ (Ne.symm haS)).trans (k1 a o haw e)
  | succ k ih =>
    intro j b s tb c hn hb hle hst gS q
    have hlt:j < n:=by lia
    refine codeAny_builtin F.entry_min_loop ?_
    rw [Around.under_plainId F.plain_min_loop _]
    show wpAny _ A.in1 (seqItems? (.ref S) >>= _) _ _ s
    refine wpAny_bind (wpAny_seqItems gS rfl ?_)
    show wpAny _ A.in1 (tryCatch (pyNext (.ref I)) _ >>= _) _ _ s
    refine wpAny_bind (wpAny_tryCatch (W.item j s _ _ hlt hst fun v h1 tk hP hst1 k1=>?_))
    have gS1:=k1 S _ hSw gS
    obtain ⟨tv,rfl⟩:=hv j v hP
    show wpAny _ A.in1 (tryCatch (holding [Value.int (val j) tv,Value.int (val j) tv] (richCompare .Lt (Value.int (val j) tv) (Value.int (val b) tb) >>= _)) _ >>= _) _ _ _
    refine wpAny_bind (wpAny_tryCatch (wpAny_holding (wpAny_bind (richCompare_gives (op:=.Lt) (typeIs_int _ _ tv) (typeIs_int _ _ tb) F.slot_int_lt F.entry_int_lt (F.args_int_lt_2 _ _) (gives_int_lt _ _ tv tb) (fun x=>nomatch x) ?_))))
    refine wpAny_bind (wpAny_holding (wpAny_truthy_bool ?_))
    refine wpAny_bind (wpAny_letGo (wpAny_pure ?_))
    by_cases hb2:val j < val b
    · rw [decide_eq_true hb2]
      simp only [if_true]
      refine wpAny_bind ?_
      refine wpAny_updateSeq gS1 rfl (wpAny_bind (wpAny_letGo ?_))
      rw [name_mn]
      refine wpAny_pure ⟨plainId_quiet F.plain_min_loop _,ih (j + 1) j _ tv _ (by lia) (by lia) (fun i hi=>?_) (W.frame _ _ _ hst1 fun a haf o e=>?_) (Heap.get?_update_self _ gS1 rfl) fun b' t h2 tk2 hb' hle' k2=>?_⟩
      · rcases Nat.lt_or_ge i j with h | h
        · have:=hle i h; lia
        · have:i = j:=by lia
          subst this; exact Int.le_refl _
      · exact (Heap.get?_update_other _ _ (fun h:S = a=>hS (by rw [h]; exact haf))).trans e
      · exact q b' t h2 tk2 hb' hle' fun a o haw haS e=>k2 a o haw haS ((Heap.get?_update_other _ _ (Ne.symm haS)).trans (k1 a o haw e))
    · rw [decide_eq_false hb2]
      simp only [Bool.false_eq_true,if_false]
      refine wpAny_bind (wpAny_letGo ?_)
      rw [name_mn]
      refine wpAny_pure ⟨plainId_quiet F.plain_min_loop _,ih (j + 1) b _ tb c (by lia) (by lia) (fun i hi=>?_) hst1 gS1 fun b' t h2 tk2 hb' hle' k2=>?_⟩
      · rcases Nat.lt_or_ge i j with h | h
        · exact hle i h
        · have:i = j:=by lia
          subst this; lia
      · exact q b' t h2 tk2 hb' hle' fun a o haw haS e=>k2 a o haw haS (k1 a o haw e)
theorem minD_loop (W : Walks prog w A.in1 I fp wr n V1 St) (val : Nat → Int) (hv : ∀ i v, V1 i v → ∃ t, v = .int (val i) t) (S : Addr) (hS : S ∉ fp) {d : Value} {s : Shared} {c : Nat} (hst : St 0 s.heap)
    (gS:s.heap.get? S = some { cls:=.type "list",dict:=none,data:=.seq #[] c,slots:=#[] })
    (q0:n = 0→∀ h' tk,(∀ a o,a ∉ wr→a ≠ S→s.heap.get? a = some o→h'.get? a = some o)→R (.ok (.ret d)) { s with heap:=h',toks:=tk })
    (q:∀ b' t h' tk,b' < n→(∀ i,i < n→val b' ≤ val i)→(∀ a o,a ∉ wr→a ≠ S→s.heap.get? a = some o→h'.get? a = some o)→R (.ok (.ret (.int (val b') t))) { s with heap:=h',toks:=tk }) :
    codeAny (model prog w) A (.builtin "min.loop" ⟨[.ref I,.none,.ref S],[(("default":Str),d)]⟩) R s:=by
  have hSw:S ∉ wr:=fun h=>hS (W.sub _ h)
  refine codeAny_builtin F.entry_min_loop ?_
  rw [Around.under_plainId F.plain_min_loop _]
  show wpAny _ A.in1 (seqItems? (.ref S) >>= _) _ _ s
  refine wpAny_bind (wpAny_seqItems gS rfl ?_)
  show wpAny _ A.in1 (tryCatch (pyNext (.ref I)) _ >>= _) _ _ s
  cases n with
  | zero =>
    refine wpAny_bind (wpAny_tryCatch (W.done s _ _ hst fun h1 tk k1=>?_))
    show wpAny _ A.in1 (rule _ >>= _) _ _ _
    refine wpAny_bind (wpAny_rule (wpAny_pure ?_))
    exact q0 rfl h1 tk fun a o haw haS e=>k1 a o haw e
  | succ n =>
    refine wpAny_bind (wpAny_tryCatch (W.item 0 s _ _ (Nat.succ_pos _) hst fun v h1 tk hP hst1 k1=>?_))
    have gS1:=k1 S _ hSw gS
    obtain ⟨tv,rfl⟩:=hv 0 v hP
    show wpAny _ A.in1 (updateSeq S (fun _=>#[Value.int (val 0) tv,Value.int (val 0) tv]) >>= _) _ _ _
    refine wpAny_bind ?_
    refine wpAny_updateSeq gS1 rfl ?_
    rw [name_mn]
    refine wpAny_pure ⟨plainId_quiet F.plain_min_loop _,minD_rest W val hv S hS _ n 1 0 _ tv _ (by lia) (by lia) (fun i hi=>by rw [show i = 0 by lia]; exact Int.le_refl _) (W.frame _ _ _ hst1 fun a haf o e=>?_) (Heap.get?_update_self _ gS1 rfl) fun b' t h2 tk2 hb' hle' k2=>?_⟩
    · exact (Heap.get?_update_other _ _ (fun h:S = a=>hS (by rw [h]; exact haf))).trans e
    · exact q b' t h2 tk2 hb' hle' fun a o haw haS e=>k2 a o haw haS ((Heap.get?_update_other _ _ (Ne.symm haS)).trans (k1 a o haw e))
end
section
variable {prog:Program} {w:World} {A:Around} {E:Value→Shared→Prop} {s:Shared}
theorem minD_call {l : Addr} {xs : Array (Int × Tok)} {d : Value} {Q : Value → Shared → Prop} (hh : A.handled = none) (hl : s.heap.IsList l (intItems xs))
    (q0:xs.size = 0→∀ h' tk,(∀ b o,s.heap.get? b = some o→h'.get? b = some o)→Q d { s with heap:=h',toks:=tk })
    (q:∀ b t h' tk,b < xs.size→(∀ i,i < xs.size→numAt xs b ≤ numAt xs i)→(∀ b o,s.heap.get? b = some o→h'.get? b = some o)→Q (.int (numAt xs b) t) { s with heap:=h',toks:=tk }) :
    wpAny (model prog w) A (call (.builtin "min") [.ref l] [(("default":Str),d)]) Q E s:=by
  refine fn_kw F.kind_min F.plain_min F.entry_min (minD_args _ _) ?_
  show wpAny _ A.in1 (Builtin.Builtins.bindParams "min" ["key","default"] 0 ⟨[],[(("default":Str),d)]⟩ >>= _) _ _ s
  refine wpAny_bind (wpAny_of_eq (show Builtin.Builtins.bindParams "min" ["key","default"] 0 ⟨[],[(("default":Str),d)]⟩ = pure [none,some d] from by with_unfolding_all rfl) ?_)
  refine wpAny_bind (wpAny_pure ?_)
  refine wpAny_bind (iter_intList hl fun s₂ e st hfp hlI=>?_)
  subst e
  refine wpAny_bind (wpAny_newObj_type ?_)
  have W:=Walks.list (prog:=prog) (w:=w) (A:=A.in1) hh _ l hlI (intItems xs)
  have hsz:(intItems xs).size = xs.size:=by simp [intItems]
  rw [name_mn]
  have hSf:=fun hm=>Nat.lt_irrefl _ (hfp _ hm)
  refine wpAny_pure ⟨plainId_quiet F.plain_min_loop _,minD_loop W (numAt xs) (fun _ _=>intItems_at) _ hSf (W.frame _ _ _ st fun b _ o e=>Heap.get?_push_of_some _ e) (Heap.get?_push_size _ rfl) (fun hn h' tk hk=>?_) fun b t h' tk hb hle hk=>?_⟩
  · exact q0 (by rw [← hsz]; exact hn) h' tk (old_kept fun a o haw e=>hk a o haw (Nat.ne_of_lt (Heap.lt_size e)) (Heap.get?_push_of_some _ e))
  · exact q b t h' tk (by rw [← hsz]; exact hb) (fun i hi=>hle i (by rw [hsz]; exact hi)) (old_kept fun a o haw e=>hk a o haw (Nat.ne_of_lt (Heap.lt_size e)) (Heap.get?_push_of_some _ e))
end
section
variable {X:Cx} {K:PySem.W.Frag} {p pos kpos:Pos} {e ed:Expr} {te td:TE}
noncomputable def tMinD (K:PySem.W.Frag) (te td:TE):TE:=fun σ H Q=>te σ H fun x H1=>td σ H1 fun d H2=>∃ (a:Addr) (ns:List Int),x = .ref a∧SqL K H2 a (ns.map V.int)∧(ns = []→Q d H2)∧∀ m ∈ ns,(∀ x ∈ ns,m ≤ x)→Q (.int m) H2
noncomputable def minQ2 (K:PySem.W.Frag) (x:V) (Q:VK):List V→Hp→Prop:=fun vs H2=>match vs with
  | [d]=>∃ (a:Addr) (ns:List Int),x = .ref a∧SqL K H2 a (ns.map V.int)∧(ns = []→Q d H2)∧∀ m ∈ ns,(∀ x ∈ ns,m ≤ x)→Q (.int m) H2
  | _=>False
noncomputable def minQ1 (K:PySem.W.Frag) (σ:St) (td:TE) (Q:VK):List V→Hp→Prop:=fun vs H1=>match vs with
  | [x]=>td σ H1 fun d H2=>minQ2 K x Q [d] H2
  | _=>False
theorem minD_end {pins : List (Addr × Obj)} {σ : St} {H2 : Hp} {s2 : Shared} {a : Addr} {ns : List Int} {d : V} {u ud : Value} {Q : VK} (I2 : Inv X pins σ H2 s2) (hc : X.calm = true) (ru : RelV (.ref a) u) (rd : RelV d ud) (hS : SqL X.K H2 a (ns.map V.int))
    (q0:ns = []→Q d H2) (q:∀ m ∈ ns,(∀ x ∈ ns,m ≤ x)→Q (.int m) H2):wpAny (model X.prog X.w) X.A (call (.builtin "min") [u] [(("default":Str),ud)]) (EP X pins σ Q) X.xe s2:=by
  cases ru
  obtain ⟨its,rv,pl,hz⟩:=I2.list hS
  have hi:IntsAre its ns:=ints_vals rv
  obtain ⟨arr,ea⟩:=hi.allInts.items
  have hl:s2.heap.IsList a (intItems arr):=by rw [← ea]; exact pl.isList
  have en:numsOf (intItems arr).toList = ns:=by rw [← ea]; exact hi.numsOf
  rw [nums_intItems] at en
  have hlen:arr.size = ns.length:=by rw [← en]; simp
  have hat:∀ i,i < arr.size→ns[i]? = some (numAt arr i):=fun i hi=>by
    rw [← en]
    unfold numAt
    simp [hi]
  refine minD_call (I2.ok.hd hc) hl (fun h0 h' tk hk=>?_) fun b t h' tk hb hle hk=>?_
  · exact ⟨d,H2,I2.kept hk,rd,q0 (List.length_eq_zero_iff.mp (by lia))⟩
  · refine ⟨.int _,H2,I2.kept hk,⟨t,rfl⟩,q _ (List.mem_of_getElem? (hat b hb)) fun y hy=>?_⟩
    obtain ⟨i,hi,e⟩:=List.getElem_of_mem hy
    have:=hle i (by lia)
    have e2:=hat i (by lia)
    rw [List.getElem?_eq_getElem hi,e] at e2
    rw [Option.some.inj e2]
    exact this
theorem pe_minD (hc : X.calm = true) (hg : Gl X "min") (hm : X.mg "min" = none) (he : PE X e te) (hd : PE X ed td) (hs : noStar e = true) (hK : X.K = K := by rfl) :
    PE X (.Call (.Name "min" p) [e] [⟨some "default",ed,kpos⟩] pos) (tMinD K te td):=by
  subst hK
  intro pins s σ H Q I h
  refine wpAny_Call_Name_kw (ld_blt I hg hm boot_min ?_ (by decide) (by decide))
  have h':noStars [e] = true:=by simp [noStars,hs]
  have he1:=starEach_cons (es:=[]) (env:=X.env) hs
  have hpl:=back_any (env:=X.env) (pos:=pos) h'
  refine callWith_kw (kws:=[⟨some "default",ed,kpos⟩]) (e:=e) (rest:=[]) ?_ (by rw [he1]; rfl) hpl
  refine thn (pa_consM he pa_nil hs pos pins s σ H (minQ1 X.K σ td Q) I h) fun us s1 ⟨vs,H1,I1,r1,q1⟩=>?_
  cases r1 with
  | nil=>exact q1.elim
  | @cons x u _ _ ru rn =>
    cases rn with
    | cons _ _=>exact q1.elim
    | nil =>
      refine thn (pk_cons hd pk_nil pos pins s1 σ H1 (minQ2 X.K x Q) I1 q1) fun ws s2 ⟨zs,H2,I2,r2,q2⟩=>?_
      cases r2 with
      | nil=>exact q2.elim
      | @cons d ud _ _ rd rn =>
        cases rn with
        | cons _ _=>exact q2.elim
        | nil =>
          obtain ⟨a,ns,ex,hS,q0,q⟩:=q2
          subst ex
          exact minD_end I2 hc ru rd hS q0 q
theorem j_minD (hc : X.calm = true) (hg : Gl X "min") (hm : X.mg "min" = none) (he : JE X e te) (hd : JE X ed td) (hs : noStar e = true := by rfl) (hK : X.K = K := by rfl) :
    JE X (.Call (.Name "min" p) [e] [⟨some "default",ed,kpos⟩] pos) (tMinD K te td):=.mk (pe_minD hc hg hm he.out hd.out hs hK)
end
end L2
namespace L2
open PySem PySem.Spec PyProof.Rows PySem.W
section
variable {X:Cx} {pins:List (Addr × Obj)} {σ:List (Option V)} {H:Hp} {s:Shared}
theorem Inv.track {a : Addr} {oe : Obj} (I : Inv X pins σ H s) (he : s.heap.get? a = some oe) (hn : H a = none) (hL : a ≠ X.env.locals) (hd : ∀ v, oe.data ≠ .cell v) (h0 : ∀ o, X.s₀.heap.get? a = some o → a ∈ X.ex)
    (hp : ∀ p ∈ X.pn ++ pins, p.1 ≠ a) : Inv X pins σ (upd H a (.frz oe anyHO)) s := by
  have keep : ∀ {b : Addr} {u : HO}, H b = some u → upd H a (.frz oe anyHO) b = some u := fun {b u} e => by
    rw [upd_ne (ne_of_none e hn)]; exact e
  refine ⟨I.ok, I.os, I.bare, ⟨I.base.keep, I.base.slot, fun b o e n hx => ?_, I.base.there, fun b xs e => keep (I.base.tups b xs e), fun b o u e => keep (I.base.frzs b o u e), fun b ps e => ?_⟩, I.loc, I.cell, ?_, fun x c e => ?_, fun p hpp => ?_, fun b u e => ?_, I.len⟩
  · have nb : b ≠ a := fun z => by
      subst z
      exact hx (h0 o e)
    rw [upd_ne nb]
    exact I.base.free b o e n hx
  · obtain ⟨more, q⟩ := I.base.tbls b ps e
    exact ⟨more, keep q⟩
  · rw [upd_ne (Ne.symm hL)]
    exact I.free
  · have nc : c ≠ a := fun z => by
      subst z
      obtain ⟨v, q⟩ := I.cell x c e
      obtain ⟨o, q1, q2⟩ := id q
      grind
    rw [upd_ne nc]
    exact I.freeC x c e
  · obtain ⟨e1, e2, e3⟩ := I.pin p hpp
    exact ⟨e1, by rw [upd_ne (hp p hpp)]; exact e2, e3⟩
  · by_cases hb : b = a
    · subst hb
      rw [upd_same] at e
      cases e
      exact ok_any he
    · rw [upd_ne hb] at e
      exact (I.hok b u e).stay (fun _ _ _ q => q) (fun c q => keep q) fun c xs q => keep q
end
noncomputable def kepEnds (i:Nat) (a:Addr) (oe:Obj) (D:Ends):Ends:={ nx:=fun σ H=>D.nx (σ.set i none) (upd H a (.frz oe anyHO)),rt:=D.rt,bk:=fun σ H=>D.bk (σ.set i none) H,ct:=fun σ H=>D.ct (σ.set i none) H }
noncomputable def tTryK (K:PySem.W.Frag) (CG:Addr) (i:Nat) (sp:Sp) (t:TA) (ts:Addr→Addr→TS):TS:=fun D σ H=>t σ H fun vs H1=>sp vs H1 (fun _ H2=>D.nx σ H2) fun cls _ H2 =>
  ∃ C,cls = .ref C∧ExcK K C∧mroHas K C (.ref CG) = true∧∀ a oe,H2 a = none→oe.cls = .ref C→ts a C (kepEnds i a oe D) (σ.set i (some (.ref a))) H2
section
variable {X:Cx} {k:Nat} {x G n:Str} {ps:List Str} {sp:Sp} {e:Expr} {es:List Expr} {t:TA} {p gp cpos epos hpos pos:Pos} {CG:Addr} {newId:String} {i:Nat} {b₀:Stmt} {suite:List Stmt} {ts:Addr→Addr→TS}
theorem ps_tryK (hst : X.stack = X.env :: X.outer) (hfr : X.env.frame = some X.env.locals) (D : DefX X.prog X.w X.K X.mg X.base k x ps sp) (hr : Room k X.A) (hg : Gl X x) (ha : PA X.nox (e :: es) t)
    (hgG:Gl X G) (hmG:X.mg G = some (.ref CG)) (hqG:PySem.W.excIn X.K CG bmVE "ValueError.__new__" = true) (hN:X.N.Nodup) (hi:X.N[i]? = some n) (hk:X.env.scope.names.lookup n = some .local)
    (hsu:∀ a oe C,oe.cls = .ref C→ExcK X.K C→PSs (cxSuite X a oe) (b₀ :: suite) (ts a C)) (hdb:(x == ("__debug__":Str)) = false:=by decide) (hdG:(G == ("__debug__":Str)) = false:=by decide)
    (hstar:noStars (e :: es) = true:=by rfl) (hsw:swapsWith (.Call (.Name x p) (e :: es) [] cpos) none epos.line X.env = pure false:=by rfl) :
    PS X (.Try [.Expr (.Call (.Name x p) (e :: es) [] cpos) epos] [.ExceptHandler (some (.Name G gp)) (some n) (b₀ :: suite) hpos] [] [] pos) (tTryK X.K CG i sp t ts):=by
  intro pins s σ H Dn I h
  obtain ⟨f,fd,mgf,kp,_,b,Fk⟩:=D.ex
  have h':noStar e = true∧noStars es = true:=by simpa [noStars] using hstar
  have he:=starEach_cons (es:=es) (env:=X.env) h'.1
  have hpl:=back_any (env:=X.env) (pos:=cpos) h'.2
  refine wpAny_Try_except (wpAny_execs_cons (wpAny_Expr_any (wpAny_Call_Name_kw (ld_glob I hg mgf ?_ hdb)) I.quiet hsw))
  refine PySem.W.callWith_K (h₀:=X.base) I.ok.mod.kin kp (wpAny_mono (ha cpos pins s σ H _ (I.wish _) h) (fun us s1 h1=>?_) fun _ _ z=>False.elim z) he hpl
  obtain ⟨vs,H1,I1',r,q⟩:=h1
  have I1:=I1'.unwish
  refine ⟨I1.kIn,?_⟩
  have hl:us.length = ps.length:=by rw [← r.length]; exact Fk.len _ _ _ _ q
  have hbind:BindsTo s1 fd ⟨us,[]⟩ (ps.zip us):=by
    have:=b s1 us I1.kIn (by rw [List.append_nil]; exact hl)
    rw [List.append_nil] at this; exact this
  refine wpAny_call (codeAny_mono (Fk.run X.A X.stack s1 H1 ⟨us,[]⟩ us vs _ _ hr I1.env0 hbind r q) fun r' s' hq=>?_)
  cases r' with
  | ok fl =>
    cases fl with
    | ret u =>
      obtain ⟨v,H2,I2,rv,q2⟩:=I1.after hq
      exact wpAny_execs_nil (wpAny_execs_nil ⟨σ,H2,I2,q2⟩)
    | next=>exact False.elim hq
    | brk=>exact False.elim hq
    | cont=>exact False.elim hq
  | error er =>
    obtain ⟨a,B,cls,a0,H',rfl,os,bare,fl,hok,un,kb,C,rfl,hqC,hmro,hts⟩:=hq
    have nf:∀ b ∈ frs X.stack,∃ o,s1.heap.get? b = some o∧∀ vs,o.data ≠ .fields vs:=fun b hb=>(I1.stack.mem hb).2
    have mk:∀ h1,B.StaysIn h1→s'.heap.UpToSlots h1→Inv X pins σ H' { s' with heap:=h1 }:=fun h1 st us =>
      I1.call' (s':={ s' with heap:=h1 }) (ch:=[]) os (un_left un kb st (fun b _=>us b) nf I1.stkFree) (hok.kept st) bare fun b z=>nomatch z
    refine note_any (env:=X.env) (outer:=X.outer) (L:=X.env.locals) (by rw [← hst]; exact I.ok.frames) hfr (by rw [← hst]; exact fl) fun h1 held us1=>?_
    refine wpAny_landsW (s:={ s' with heap:=h1 }) held fun h2 fl2 us2=>?_
    have I2:=mk h2 fl2.1 (us1.trans us2)
    obtain ⟨ob,hob,hobc⟩:=fl2.there
    obtain ⟨bm,N,nm,qn,bs,hdct,sn,sub,ab,col,dd,k0,k1,k2,k3,k5,mN,hC,hN',hni,TL,hv⟩:=exc_of_in2 (h:=X.base) I.ok.mod.kin hqC.exc
    obtain ⟨bm',N'',nm',qn',bs',hdct',sn',sub',ab',col',dd',k0',k1',k2',k3',k5',mN',hCG,hNG,hniG,TG,hvG⟩:=exc_of_in2 (h:=X.base) I.ok.mod.kin hqG
    refine wpAny_handleBy_cons (codeAny_handlers_test (Calls.Name_function_global I2.ok.kind hgG (Calls.loadGlobal_global (by rw [I2.ok.glob]; exact I2.mod.glob.keeps I2.bk) hmG ?_) hdG)) (by intro q; cases q)
    refine excMatches_own (I2.bk _ _ hC) (I2.bk _ _ hCG) hob hobc (TG.hasType F.excBase_ValueError.hasBase) (by rw [← hv]; exact hmro) (codeAny_handlers_suite_as ?_)
    refine lands_againW (s:={ s' with heap:=h2 }) fl2 fun h3 fl3 us3=>?_
    have I3:=mk h3 fl3.1 ((us1.trans us2).trans us3)
    obtain ⟨oe,ws,hoe,hoec,hoed,_⟩:=fl3.first
    have hBa:B.get? a = none:=fl.2.1
    have hHa:H' a = none:=by
      cases z:H' a with
      | none=>rfl
      | some o =>
        obtain ⟨u,hu⟩:=objOk_there (hok a o z)
        rw [hBa] at hu; cases hu
    have notfr:a ∉ frs (X.env :: X.outer):=fun z=>by
      obtain ⟨_,o',e',d'⟩:=fl3.2.2.1.mem z
      rw [hoe] at e'; cases e'
      exact d' ws hoed
    have hL:a ≠ X.env.locals:=fun z=>notfr (by rw [frs_cons hfr,z]; exact List.mem_cons_self)
    have hF:a ∉ X.fs:=fun z=>notfr (by rw [frs_cons hfr]; exact List.mem_cons_of_mem _ z)
    have old:∀ b o,s1.heap.get? b = some o→b ∉ frs X.stack→b ≠ a:=fun b o hb hf z=>by
      obtain ⟨⟨o',ho'⟩,_⟩:=kb b o hb hf (by simp)
      rw [z,hBa] at ho'; cases ho'
    have h0:∀ o,X.s₀.heap.get? a = some o→a ∈ X.ex:=fun o e0=>Classical.byContradiction fun hx=>by
      obtain ⟨o',e1⟩:=I1.base.there a o e0 hx
      exact old a o' e1 (by rw [hst]; exact notfr) rfl
    have hpp:∀ p ∈ X.pn ++ pins,p.1 ≠ a:=fun p hp=>by
      obtain ⟨e1,e2,e3,e4,e5⟩:=I1.pin p hp
      refine old p.1 p.2 e1 fun z=>?_
      rcases List.mem_cons.mp (I1.stkSub _ z) with y | y
      · exact e3 y
      · exact e4 y
    have hcell:∀ v,oe.data ≠ .cell v:=fun v z=>by rw [hoed] at z; cases z
    have Is:=suite_in I3 hoe hHa hL hF hcell
    have hkl:X.env.kindOf n = some .local:=hk
    refine store_ok (X:=cxSuite X a oe) Is hN hi (.inl hk) (show RelV (.ref a) (.ref a) from rfl) (fun s4 I4=>?_) (.inr hk)
    refine wpAny_mono (hsu a oe C hoec hqC pins s4 _ H' (kepEnds i a oe Dn) I4 (hts a oe hHa hoec)) (fun fl s5 h5=>?_) fun _ _ z=>z.elim
    cases fl with
    | next =>
      obtain ⟨σ5,H5,I5,q5⟩:=h5
      have hpa:=I5.pin (a,oe) (List.mem_append_left _ (List.mem_append_right _ List.mem_cons_self))
      exact goes_ok ((suite_out I.ok I5).track hpa.1 hpa.2.1 hL hcell h0 hpp) hN hi hkl fun s6 I6=>⟨_,_,I6,q5⟩
    | brk =>
      obtain ⟨σ5,H5,I5,q5⟩:=h5
      exact goes_ok (suite_out I.ok I5) hN hi hkl fun s6 I6=>⟨_,H5,I6,q5⟩
    | cont =>
      obtain ⟨σ5,H5,I5,q5⟩:=h5
      exact goes_ok (suite_out I.ok I5) hN hi hkl fun s6 I6=>⟨_,H5,I6,q5⟩
    | ret u =>
      obtain ⟨v,σ5,H5,I5,r5,q5⟩:=h5
      exact goes_ok (suite_out I.ok I5) hN hi hkl fun s6 I6=>⟨v,_,H5,I6,r5,q5⟩
theorem js_tryK {K : PySem.W.Frag} (hst : X.stack = X.env :: X.outer) (hfr : X.env.frame = some X.env.locals) (D : DefX X.prog X.w X.K X.mg X.base k x ps sp) (hr : Room k X.A) (hg : Gl X x) (ha : JA X.nox (e :: es) t)
    (hgG:Gl X G) (hmG:X.mg G = some (.ref CG)) (hqG:PySem.W.excIn X.K CG bmVE "ValueError.__new__" = true) (hN:X.N.Nodup) (hi:X.N[i]? = some n) (hk:X.env.scope.names.lookup n = some .local)
    (hsu:∀ a oe C,oe.cls = .ref C→ExcK X.K C→JSs (cxSuite X a oe) (b₀ :: suite) (ts a C)) (hK:X.K = K:=by rfl) (hdb:(x == ("__debug__":Str)) = false:=by decide) (hdG:(G == ("__debug__":Str)) = false:=by decide)
    (hstar:noStars (e :: es) = true:=by rfl) (hsw:swapsWith (.Call (.Name x p) (e :: es) [] cpos) none epos.line X.env = pure false:=by rfl) :
    JS X (.Try [.Expr (.Call (.Name x p) (e :: es) [] cpos) epos] [.ExceptHandler (some (.Name G gp)) (some n) (b₀ :: suite) hpos] [] [] pos) (tTryK K CG i sp t ts):=by
  subst hK
  exact .mk (ps_tryK hst hfr D hr hg ha.out hgG hmG hqG hN hi hk (fun a oe C h Z=>(hsu a oe C h Z).out) hdb hdG hstar hsw)
end
noncomputable def gIsiE (K:Frag):List V→Hp→VK→Prop:=fun xs H Q=>match xs with
  | [.ref a,.ref y]=>∃ oe C b,Kn H a oe∧oe.cls = .ref C∧ExcK K C∧kitOne K (.ref C) (.ref y) = some b∧Q (.bl b) H
  | [.ref a,.ty T]=>∃ oe C b,Kn H a oe∧oe.cls = .ref C∧ExcK K C∧kitOne K (.ref C) (.type T) = some b∧Q (.bl b) H
  | _=>False
theorem c_isiE {X : Cx} {K : Frag} (hK : X.K = K := by rfl) : Irr (CallR X (.builtin "isinstance") (gIsiE K)) := by
  refine .mk ?_
  subst hK
  intro pins s σ H xs us Q I r h
  unfold gIsiE at h
  split at h
  · obtain ⟨u, u', rfl, r1, r2⟩ := vals2 r
    obtain ⟨oe, C, b, hk, hc, Z, hb, q⟩ := h
    cases r1
    cases r2
    exact kia_one (kitx_exc Z) I.kIn (⟨hk.get I.hok, hc⟩ : InstE s.heap _ oe C) hb (fun z => nomatch z) fun tk => ⟨.bl b, H, I.tok tk, rfl, q⟩
  · obtain ⟨u, u', rfl, r1, r2⟩ := vals2 r
    obtain ⟨oe, C, b, hk, hc, Z, hb, q⟩ := h
    cases r1
    cases r2
    exact kia_one (kitx_exc Z) I.kIn (⟨hk.get I.hok, hc⟩ : InstE s.heap _ oe C) hb (fun z => nomatch z) fun tk => ⟨.bl b, H, I.tok tk, rfl, q⟩
  simp_all
end L2
namespace L2
open PySem PySem.Spec PyProof.Rows PySem.W
noncomputable abbrev TX:=(St→Hp→Prop)→(St→XK)→St→Hp→Prop
section
variable {X:Cx} {k:Nat} {x G n:Str} {ps:List Str} {sp:Sp} {e c:Expr} {es:List Expr} {t:TA} {p gp cpos epos hpos pos:Pos} {CG:Addr} {newId:String} {i:Nat} {b₀:Stmt} {suite b1 b2 body:List Stmt} {ts:Addr→Addr→TS} {tx t1 t2:TX} {tc:TT}
end
section
variable {X:Cx} {k:Nat} {x G n:Str} {ps:List Str} {sp:Sp} {e c:Expr} {es:List Expr} {t:TA} {p gp cpos epos hpos pos:Pos} {CG:Addr} {i:Nat} {b₀:Stmt} {suite b1 b2 body:List Stmt} {ts:Addr→Addr→TS} {tx t1 t2:TX} {tc:TT}
end
end L2
namespace L2
open PySem PySem.Spec PyProof.Rows
section
variable {X:Cx} {K:PySem.W.Frag} {e:Expr} {te:TE} {pos:Pos}
noncomputable def cReprD (K:PySem.W.Frag) (te:TE):St→Hp→Prop:=fun σ H=>te σ H fun v H1=>H1 = H∧∃ a d,v = .ref a∧DatV K H v d∧d.showable = true∧d.hasDict = false∧d.depth ≤ 60∧d.shown.length ≤ 1100000
theorem jf_reprD (hg:X.A.guards = some []) (hu:X.A.units + 64 < cLine) (he:JE X e te) (hK:X.K = K:=by rfl):JF X (.FormattedValue e 114 none pos) (cReprD K te):=by
  subst hK
  refine .mk ?_
  intro pins s σ H I h
  refine wpAny_FormattedValue_repr (thn (he.out pins s σ H _ I h) fun u s1 ⟨v,H1,I1,r1,e1,a,d,ev,hd,hs,hn,hp,hl⟩=>?_)
  subst e1 ev
  obtain ⟨as,ra⟩:=hd.reads I1 r1
  cases r1
  have hz:=size12 (Nat.le_trans hl (show 1100000 ≤ 12 * 1100000 by lia))
  refine pyReprObj_of_reads ra hs (fun z=>by rw [hn] at z; cases z) hg (by lia) (fun _ _ e=>e) (fun h' t tk hk=>?_) hz
  refine wpAny_formatField_str ⟨_,_,rfl,hl,I1.kept hk⟩ ⟨_,_,rfl,hl,?_⟩ hz
  exact (I1.kept (t':=tk) hk).tok _
end
end L2
namespace L2
open PySem PySem.Spec PyProof.Rows
section
variable {X:Cx} {K:PySem.W.Frag}
end
end L2
namespace L2
open PySem PySem.Spec PyProof.Rows
theorem piled_le:∀ (ts:List Str) (B:Nat),(∀ t ∈ ts,t.length ≤ B)→piled ts ≤ ts.length * (B + 2)
  | [],B,_=>by simp [piled]
  | t :: r,B,h=>by
    have ih:=piled_le r B fun x hx=>h x (List.mem_cons_of_mem _ hx)
    have h1:=h t List.mem_cons_self
    rw [piled_cons,List.length_cons,Nat.add_mul,Nat.one_mul]
    lia
theorem tupT_le {ts:List Str} {B:Nat} (h:∀ t ∈ ts,t.length ≤ B):(tupleText ts).length ≤ ts.length * (B + 2) + 3:=by
  unfold tupleText
  rw [strLen_append,strLen_append]
  have h2:(Str.join ", " ts).length ≤ ts.length * (B + 2):=by
    cases ts with
    | nil=>exact Nat.le_trans (show (Str.join ", " []).length ≤ 0 by decide) (Nat.zero_le _)
    | cons t r =>
      have h1:=piled_le (t :: r) B h
      have:=join_length_add (t :: r) (List.cons_ne_nil _ _)
      lia
  have h3:(("(":Str)).length = 1:=by decide
  have h4:((if ts.length == 1 then ",)" else ")":String):Str).length ≤ 2:=by
    by_cases e:(ts.length == 1) = true
    · rw [if_pos e]; decide
    · rw [if_neg e]; decide
  lia
end L2
namespace L2
open PySem PySem.Spec PyProof.Rows
section
variable {cap:List (Option Nat)} {g:TG} {tc:TT} {te:TE} {Q:Addr→Hp→Prop} {σ:St} {H:Hp}
theorem gath_tup {K : PySem.W.Frag} {a : Addr} {xs : List V} (Pv : Nat → List V → St → Hp → Prop) (hn : xs.length ≤ 1000000) (h0 : Pv 0 [] (capt cap σ) H) (hlen : ∀ i ys σ' H', Pv i ys σ' H' → ys.length ≤ i)
    (hl : ∀ i ys σ' H', Pv i ys σ' H' → SqT K H' a xs)
    (hs : ∀ i x ys σ' H', xs[i]? = some x → Pv i ys σ' H' → g x σ' H' fun σ3 H3 => tc σ3 H3 fun b H4 => if b = true then te σ3 H4 fun y H5 => Pv (i + 1) (ys ++ [y]) σ3 H5 else Pv (i + 1) ys σ3 H4)
    (hd : ∀ ys σ' H', Pv xs.length ys σ' H' → ∀ D, H' D = none → Q D (upd H' D (.lst ys))) : Gath (Itt K a) cap g tc te Q σ H :=
  gath_of (J := Itt K a) (item := fun i x => xs[i]? = some x) Pv hn h0 hlen (fun i ys σ' H' hi p => ⟨xs, xs[i], hl i ys σ' H' p, by simp⟩) (fun i ys σ' H' x H2 _ p y => ⟨y.2 xs (hl i ys σ' H' p), y.1⟩)
    (fun ys σ' H' p => ⟨xs, hl _ ys σ' H' p, Nat.le_refl _⟩) (fun i x ys σ' H' hi e p => hs i x ys σ' H' e p) hd
end
end L2
namespace L2
open PySem PySem.Spec PyProof.Rows
theorem ext_tup (l : Addr) (items : Array Value) (n : Nat) (b : Addr) (dd : Option Addr) (sl : Array (Option Value)) (items2 : Array Value) (n2 : Nat) (hs0 : ¬(!items.isEmpty && Builtin.List.listTooLong (items.size + items2.size)) = true) (hs1 : items.size ≤ sizeLine) (hs2 : items.size + items2.size ≤ sizeLine + 1) :
    Meets (Builtin.«list.extend» ⟨[.ref l,.ref b],[]⟩) (fun _ R s=>s.heap.get? l = some { cls:=.type "list",dict:=none,data:=.seq items n,slots:=#[] }∧s.heap.get? b = some { cls:=.type "tuple",dict:=dd,data:=.seq items2 n2,slots:=sl }∧R (.ok (.ret Value.none)) { s with heap:=s.heap.update l (Obj.mapSeq fun x=>x ++ items2),toks:=s.toks }) :=
  .of_wp fun prog w A R s h=>by
    obtain ⟨hp,g,d,tk,os⟩:=s; obtain ⟨hl,hb,h⟩:=h; have f1:=AutoSeq1.idx_int; have f2:=AutoSeq1.sub_tuple_tuple; have f3:=AutoSeq1.sub_list_list; have f4:=AutoSeq1.sub_tuple_list; have f5:=AutoSeq1.sub_list_tuple;
    have hz':(items ++ items2).size ≤ sizeLine + 1:=by rw [Array.size_append]; exact hs2
    wp_walk using (wpAny_updateSeq hl rfl (hz:=hs1) (_hz':=hz')),AutoSeq1.wpAny_loadPart' hl,AutoSeq1.wpAny_loadPart' hb; exact ⟨_,rfl,h⟩
section
variable {X:Cx} {K:PySem.W.Frag}
noncomputable def gExtendA (K:PySem.W.Frag):V→List V→Hp→VK→Prop:=fun x vs H Q=>match x,vs with
  | .ref l,[.ref b]=>∃ xs zs,H l = some (.lst xs)∧(H b = some (.lst zs)∨SqT K H b zs)∧xs.length + zs.length ≤ sizeLine∧Q .non (upd H l (.lst (xs ++ zs)))
  | _,_=>False
theorem m_extendA (hK : X.K = K := by rfl) : Irr (MtR X "list.extend" (gExtendA K)) := by
  refine .mk ?_
  subst hK
  intro pins s σ H x xs v us Q I rx rs h
  unfold gExtendA at h
  split at h
  · obtain ⟨xs, zs, h1, h2, h3, h4⟩ := h
    rcases h2 with h2 | h2
    · exact mt_extend pins s σ H _ _ v us Q I rx rs ⟨_, _, xs, zs, rfl, rfl, h1, h2, h3, h4⟩
    · cases rx
      obtain ⟨u, rfl, ru⟩ := rs.one
      cases ru
      obtain ⟨z, its, n, r, hl, e⟩ := I.lstM h1
      obtain ⟨its2, r2, ⟨ob, e2, c2, n2, d2⟩, hz2⟩ := I.tuple h2
      obtain ⟨oc, od, oda, os⟩ := ob
      simp only at c2 d2
      subst c2 d2
      have hl2 := r2.length
      have hsz : its.toArray.size + its2.toArray.size ≤ sizeLine := by grind
      have hlong : ¬ (!its.toArray.isEmpty && Builtin.List.listTooLong (its.toArray.size + its2.toArray.size)) = true := by
        rw [notLongL hsz, Bool.and_false]
        exact Bool.false_ne_true
      refine call_meets F.slot_list_extend ⟨_, e, rfl⟩ F.entry_list_extend (F.args_list_extend_2 _ _)
        (ext_tup _ its.toArray n _ od os its2.toArray n2 hlong (by simp_all) (by lia)) ⟨e, e2, ?_⟩
      refine ⟨.non, _, I.lset (its' := its ++ its2) h1 e (by simp) (r.append r2) ?_, rfl, h4⟩
      rw [List.length_append]
      lia
  · exact h.elim
noncomputable def gInsert:V→List V→Hp→VK→Prop:=fun x vs H Q=>match x,vs with
  | .ref l,[.int i,y]=>∃ xs,H l = some (.lst xs)∧0 ≤ i∧i ≤ xs.length∧xs.length < 100000∧Q .non (upd H l (.lst (xs.take i.toNat ++ y :: xs.drop i.toNat)))
  | _,_=>False
theorem m_insert:Irr (MtR X "list.insert" gInsert):=by
  refine .mk ?_
  intro pins s σ H x xs v us Q I rx rs h
  unfold gInsert at h
  split at h
  · rename_i l i y
    obtain ⟨xs,h1,h0,hi,hlt,q⟩:=h
    cases rx
    obtain ⟨u1,u2,rfl,r1,r2⟩:=vals2 rs
    obtain ⟨t,rfl⟩:=r1
    obtain ⟨z,its,n,r,hl,e⟩:=I.lstM h1
    have hb:(100000:Nat) < sizeLine:=by rw [sizeLine_eq]; decide
    refine call_meets F.slot_list_insert ⟨_,e,rfl⟩ F.entry_list_insert (F.args_list_insert_3 _ _ _)
      (AutoListH.list_insert_list_int_val_1 l its.toArray n i t u2 ?_ (by rw [List.size_toArray]; lia)) ⟨e,?_⟩
    · unfold Builtin.List.listFitsIndex
      simp
      rw [sizeLine_eq] at hb
      lia
    · refine ⟨.non,_,I.lset (its':=its.take i.toNat ++ u2 :: its.drop i.toNat) h1 e ?_ ((r.take _).append (.cons r2 (r.drop _))) ?_,rfl,q⟩
      · have ek : (if i < 0 then (i + ((its.toArray.size : Nat) : Int)).toNat else min i.toNat its.toArray.size) = i.toNat := by
          rw [if_neg (by lia),List.size_toArray,Nat.min_eq_left (by lia)]
        show (its.toArray.extract 0 (if i < 0 then (i + ((its.toArray.size:Nat):Int)).toNat else min i.toNat its.toArray.size)).push u2 ++ its.toArray.extract (if i < 0 then (i + ((its.toArray.size:Nat):Int)).toNat else min i.toNat its.toArray.size) = _
        rw [ek]
        apply Array.ext'
        simp
        exact List.take_of_length_le (by rw [List.length_drop]; exact Nat.le_refl _)
      · rw [List.length_append,List.length_cons,List.length_take,List.length_drop]
        lia
  · exact h.elim
noncomputable def pD (p:Str × Int):PyData:=.tuple [.str p.1,.int p.2]
noncomputable def pV (p:Str × Int):List V:=[.str p.1,.int p.2]
theorem pD_inv {H : Hp} {x : V} {p : Str × Int} (h : DatV K H x (pD p)) : ∃ a, x = .ref a ∧ SqT K H a (pV p) := by
  cases h with
  | tuple hS hd =>
    cases hd with
    | cons h1 hd => cases h1; cases hd with
      | cons h2 hd => cases h2; cases hd; exact ⟨_, rfl, hS⟩
theorem pD_lay {p:Str × Int} (h:PyData.strOk p.1 = true):(pD p).canLay0 = true:=by unfold pD; simp only [PyData.canLay0,PyData.canLayAll0,h,Bool.and_self]
theorem pD_eqv (t u : Str × Int) : PyData.eqv (pD t) (pD u) = decide (t = u) := by
  unfold pD
  rw [PyData.eqv, PyData.eqvAll, PyData.eqvAll, PyData.eqvAll]
  obtain ⟨a, b⟩ := t
  obtain ⟨c, d⟩ := u
  unfold PyData.eqv
  by_cases h1 : a = c
  · by_cases h2 : b = d
    · simp_all
    simp_all
  simp_all
noncomputable def gInP (K:PySem.W.Frag) (neg:Bool):R2:=fun x y H Q=>match y with
  | .ref p=>(∃ (xs:List V) (ps:List (Str × Int)) (t:Str × Int),SqL K H p xs∧DatVs K H xs (ps.map pD)∧DatV K H x (pD t)∧(∀ q ∈ t :: ps,PyData.strOk q.1 = true)∧Q (.bl (neg ^^ decide (t ∈ ps))) H)∨gInA K neg x y H Q
  | y=>gInA K neg x y H Q
open Classical in
theorem inP_gen {pins : List (Addr × Obj)} {s : Shared} {σ : St} {H : Hp} {x : V} {v : Value} {p : Addr} {xs : List V} {ps : List (Str × Int)} {t : Str × Int} (hu : X.A.units + 64 < cLine) (I : Inv X pins σ H s) (rx : RelV x v) (hS : SqL X.K H p xs) (hD : DatVs X.K H xs (ps.map pD)) (hx : DatV X.K H x (pD t)) (ok : ∀ q ∈ t :: ps, PyData.strOk q.1 = true) :
    ∃ (items:Array Value) (e:Value→Bool),s.heap.IsList p items∧(∀ y,y ∈ items→SeqAt.EqAt X.A.in1 s y v (e y))∧items.any e = decide (t ∈ ps):=by
  obtain ⟨its,rv,pl,_⟩:=I.list hS
  refine ⟨its.toArray,fun y=>decide (∃ (a:Addr),y = .ref a∧SqT X.K H a (pV t)),pl.isList,fun y hy=>?_,?_⟩
  · obtain ⟨i,hi,e⟩:=List.mem_iff_getElem.mp (show y ∈ its by simpa using hy)
    have hil:i < xs.length:=by have:=rv.length; lia
    have hxi:xs[i]? = some xs[i]:=List.getElem?_eq_getElem hil
    obtain ⟨d,hd,hdx⟩:=hD.get hxi
    rw [List.getElem?_map] at hd
    cases ep:ps[i]? with
    | none=>rw [ep] at hd; cases hd
    | some q =>
      rw [ep] at hd
      have ed:d = pD q:=(Option.some.inj hd).symm
      subst ed
      obtain ⟨u,hu2,ru⟩:=rv.get hxi
      rw [List.getElem?_eq_getElem hi,e] at hu2
      cases hu2
      obtain ⟨as,ra⟩:=hdx.reads I ru
      obtain ⟨bs,rb⟩:=hx.reads I rx
      obtain ⟨a,ea,hT⟩:=pD_inv hdx
      have key:=SeqAt.eqAt_reads (pD q) (pD t) X.A.in1 s _ _ as bs ra rb (pD_lay (ok q (List.mem_cons_of_mem _ (List.mem_of_getElem? ep)))) (pD_lay (ok t List.mem_cons_self)) (by
        have:min (pD q).depth (pD t).depth ≤ 10:=by unfold pD; simp only [PyData.depth,PyData.depthAll]; lia
        have:X.A.in1.units = X.A.units + 1:=rfl
        lia)
      have e2:PyData.eqv (pD q) (pD t) = decide (∃ (a:Addr),y = .ref a∧SqT X.K H a (pV t)):=by
        rw [pD_eqv]
        rw [ea] at ru
        obtain rfl:y = Value.ref a:=ru
        by_cases z:q = t
        · rw [decide_eq_true z,decide_eq_true]
          exact ⟨a,rfl,by rw [← z]; exact hT⟩
        · rw [decide_eq_false z,decide_eq_false]
          rintro ⟨b,eb,hb⟩
          cases eb
          have:=I.tuple_inj hT hb
          unfold pV at this
          injection this with h1 h2
          injection h2 with h2 _
          injection h1 with h1
          injection h2 with h2
          exact z (Prod.ext h1 h2)
      show SeqAt.EqAt _ _ _ _ (decide (∃ (a:Addr),y = .ref a∧SqT X.K H a (pV t)))
      rw [← e2]
      exact key
  · rw [Bool.eq_iff_iff,Array.any_eq_true',decide_eq_true_eq]
    constructor
    · rintro ⟨y,hy,he⟩
      obtain ⟨i,hi,e⟩:=List.mem_iff_getElem.mp (show y ∈ its by simpa using hy)
      have he:=of_decide_eq_true he
      obtain ⟨a,ea,hT⟩:=he
      have hil:i < xs.length:=by have:=rv.length; lia
      have hxi:xs[i]? = some xs[i]:=List.getElem?_eq_getElem hil
      obtain ⟨d,hd,hdx⟩:=hD.get hxi
      rw [List.getElem?_map] at hd
      cases ep:ps[i]? with
      | none=>rw [ep] at hd; cases hd
      | some q =>
        rw [ep] at hd
        have ed:d = pD q:=(Option.some.inj hd).symm
        subst ed
        obtain ⟨u,hu2,ru⟩:=rv.get hxi
        rw [List.getElem?_eq_getElem hi,e] at hu2
        cases hu2
        obtain ⟨b,eb,hb⟩:=pD_inv hdx
        rw [eb] at ru
        have eab:y = Value.ref b:=ru
        rw [eab] at ea
        cases ea
        have:=I.tuple_inj hT hb
        unfold pV at this
        injection this with h1 h2
        injection h2 with h2 _
        injection h1 with h1
        injection h2 with h2
        rw [show t = q from Prod.ext h1 h2]
        exact List.mem_of_getElem? ep
    · intro hm
      obtain ⟨i,hi,e⟩:=List.mem_iff_getElem.mp hm
      have hxl:xs.length = ps.length:=by have:=hD.length; rw [List.length_map] at this; exact this
      have hxi:xs[i]? = some (xs[i]'(by lia)):=List.getElem?_eq_getElem (by lia)
      obtain ⟨d,hd,hdx⟩:=hD.get hxi
      rw [List.getElem?_map,List.getElem?_eq_getElem hi,e] at hd
      have ed:d = pD t:=(Option.some.inj hd).symm
      subst ed
      obtain ⟨u,hu2,ru⟩:=rv.get hxi
      obtain ⟨b,eb,hb⟩:=pD_inv hdx
      rw [eb] at ru
      have eab:u = Value.ref b:=ru
      exact ⟨u,by simpa using List.mem_of_getElem? hu2,decide_eq_true ⟨b,eab,hb⟩⟩
theorem o_inP (hu:X.A.units + 64 < cLine) (hK:X.K = K:=by rfl):Irr (OpR X (compareOp .In) (gInP K false)):=by
  refine .mk ?_
  subst hK
  intro pins s σ H x y v u Q I rx ry h
  unfold gInP at h
  split at h
  · rename_i p
    rcases h with ⟨xs,ps,t,h1,h2,h3,h4,q⟩ | h
    · obtain rfl:u = Value.ref p:=ry
      obtain ⟨items,e,a1,a2,a3⟩:=inP_gen hu I rx h1 h2 h3 h4
      refine SeqAt.in_listAt e a1 a2 ?_
      rw [a3]
      exact ⟨.bl _,H,I,rfl,by simpa using q⟩
    · exact (o_inA hu rfl).out pins s σ H x (.ref p) v u Q I rx ry h
  · exact (o_inA hu rfl).out pins s σ H x _ v u Q I rx ry h
theorem o_notinP (hu:X.A.units + 64 < cLine) (hK:X.K = K:=by rfl):Irr (OpR X (compareOp .NotIn) (gInP K true)):=by
  refine .mk ?_
  subst hK
  intro pins s σ H x y v u Q I rx ry h
  unfold gInP at h
  split at h
  · rename_i p
    rcases h with ⟨xs,ps,t,h1,h2,h3,h4,q⟩ | h
    · obtain rfl:u = Value.ref p:=ry
      obtain ⟨items,e,a1,a2,a3⟩:=inP_gen hu I rx h1 h2 h3 h4
      refine SeqAt.notIn_listAt e a1 a2 ?_
      rw [a3]
      exact ⟨.bl _,H,I,rfl,by simpa using q⟩
    · exact (o_notinA hu rfl).out pins s σ H x (.ref p) v u Q I rx ry h
  · exact (o_notinA hu rfl).out pins s σ H x _ v u Q I rx ry h
end
end L2
namespace L2
open PySem PySem.Spec PyProof.Rows
noncomputable def pK (p:Str × Int):List Key:=[.inr p.1,.inl p.2]
theorem pK_inj {p q : Str × Int} (h : pK p = pK q) : p = q := by
  unfold pK at h
  grind
noncomputable def PObj (P:Program) (w:World) (a:Addr) (ps:List ((Str × Int) × Addr)):HO :=
  .ext fun h=>∃ o es ep,h.get? a = some o∧o.ExactDict∧o.data = .dict es ep∧es.toList = (ps.map fun p=>(pK p.1,p.2,Value.bool true)).map (entryOfKey (tupleKind (mixKind P w)))
noncomputable def PAt (P:Program) (w:World) (K:PySem.W.Frag) (H:Hp) (a:Addr) (ps:List ((Str × Int) × Addr)):Prop :=
  H a = some (PObj P w a ps)∧(ps.map (·.1)).Nodup∧(a == sysModules) = false∧ps.length ≤ 100000∧∀ p ∈ ps,SqT K H p.2 (pV p.1)
section
variable {X:Cx} {pins:List (Addr × Obj)} {σ:St} {H:Hp} {s:Shared} {a b:Addr} {ps:List ((Str × Int) × Addr)} {p:Str × Int}
theorem pkey_of (I:Inv X pins σ H s) (h:SqT X.K H b (pV p)):(tupleKind (mixKind X.prog X.w)).is s.heap (pK p) b:=by
  obtain ⟨its,r,⟨o,h1,h2,n,h3⟩,_⟩:=I.tuple h
  exact ⟨o,its.toArray,n,h1,h2,h3,by simpa using items_are (ks:=pK p) r⟩
theorem pdict_of (I:Inv X pins σ H s) (h:PAt X.prog X.w X.K H a ps):s.heap.DictOfH (tupleKind (mixKind X.prog X.w)) a (ps.map fun p=>(pK p.1,p.2,Value.bool true)):=by
  obtain ⟨h1,h2,h3,h4,h5⟩:=h
  obtain ⟨⟨o,es,ep,g1,g2,g3,g4⟩,_⟩:=(show ObjOk X.prog X.w H s.heap a (PObj X.prog X.w a ps) from I.hok a _ h1)
  refine ⟨o,es,ep,g1,g2,g3,g4,fun x hx=>?_,?_⟩
  · obtain ⟨y,hy,rfl⟩:=List.mem_map.mp hx
    exact pkey_of I (h5 y hy)
  · rw [List.map_map]
    have:(ps.map ((fun x:List Key × Addr × Value=>x.1) ∘ fun p=>(pK p.1,p.2,Value.bool true))) = (ps.map (·.1)).map pK:=by rw [List.map_map]; rfl
    rw [this]
    exact List.pairwise_map.mpr (h2.imp fun h e=>h (pK_inj e))
theorem pat_key (ps:List ((Str × Int) × Addr)) (p:Str × Int):(atKey (ps.map fun p=>(pK p.1,p.2,Value.bool true)) (pK p)).isSome = decide (p ∈ ps.map (·.1)):=by
  unfold atKey
  rw [Option.isSome_map,Bool.eq_iff_iff,decide_eq_true_eq,List.find?_isSome]
  constructor
  · rintro ⟨x,hx,e⟩
    obtain ⟨y,hy,rfl⟩:=List.mem_map.mp hx
    have:=pK_inj (of_decide_eq_true e)
    exact List.mem_map.mpr ⟨y,hy,this⟩
  · intro h
    obtain ⟨y,hy,e⟩:=List.mem_map.mp h
    exact ⟨_,List.mem_map.mpr ⟨y,hy,rfl⟩,decide_eq_true (by rw [e])⟩
theorem p_laid (h' : Heap) (o : Obj) (es : Array DictEntry) (ep : Nat) (g1 : h'.get? a = some o) (g2 : o.ExactDict) (g3 : o.data = .dict es ep) (H' : Hp)
    (g4:es.toList = (ps.map fun p=>(pK p.1,p.2,Value.bool true)).map (entryOfKey (tupleKind (mixKind X.prog X.w)))):ObjOk X.prog X.w H' h' a (PObj X.prog X.w a ps) :=
  ⟨⟨o,es,ep,g1,g2,g3,g4⟩,⟨o,g1⟩,fun h1 h2 ⟨o,es,ep,g1,g2⟩ k=>⟨o,es,ep,k o g1,g2⟩⟩
end
section
variable {X:Cx} {K:PySem.W.Frag} {P:Program} {w:World}
noncomputable def tDNewP (P:Program) (w:World):TE:=fun _ H Q=>∀ p,H p = none→(p == sysModules) = false→Q (.ref p) (upd H p (PObj P w p []))
theorem j_dnewP {pos:Pos} (hP:X.prog = P:=by rfl) (hw:X.w = w:=by rfl):JE X (.Dict [] [] pos) (tDNewP P w):=by
  refine .mk ?_
  subst hP hw
  exact fun pins s σ H Q I h=>wpAny_Dict_empty ⟨.ref s.heap.objs.size,_,I.laid (a:=s.heap.objs.size) (o:=PObj X.prog X.w s.heap.objs.size []) (t':=s.toks) (fun _ _ q=>Heap.get?_push_of_some _ q) (Nat.le_refl _)
    (p_laid _ _ #[] 0 (Heap.get?_push_size _ rfl) ⟨rfl,rfl,rfl⟩ rfl _ rfl),rfl,h _ (I.hok.fresh (Nat.le_refl _)) (beq_eq_false_iff_ne.mpr (Ne.symm (Nat.ne_of_lt I.big)))⟩
noncomputable def gInM (P:Program) (w:World) (K:PySem.W.Frag) (neg:Bool):R2:=fun x y H Q=>match x,y with
  | .ref b,.ref a=>(∃ ps p,PAt P w K H a ps∧SqT K H b (pV p)∧Q (.bl (neg ^^ decide (p ∈ ps.map (·.1)))) H)∨gInP K neg x y H Q
  | x,y=>gInP K neg x y H Q
theorem o_inM (hu:X.A.units + 64 < cLine) (hK:X.K = K:=by rfl) (hP:X.prog = P:=by rfl) (hw:X.w = w:=by rfl):Irr (OpR X (compareOp .In) (gInM P w K false)):=by
  refine .mk ?_
  subst hK hP hw
  intro pins s σ H x y v u Q I rx ry h
  unfold gInM at h
  split at h
  · rename_i b a
    rcases h with ⟨ps,p,h1,h2,q⟩ | h
    · obtain rfl:v = Value.ref b:=rx
      obtain rfl:u = Value.ref a:=ry
      refine wpAny_in_heap (tupleKind_room_in1 (by lia)) (pkey_of I h2) h1.2.2.1 (pdict_of I h1) ?_
      rw [pat_key]
      exact ⟨.bl _,H,I.tok _,rfl,by simpa using q⟩
    · exact (o_inP hu rfl).out pins s σ H _ _ v u Q I rx ry h
  · exact (o_inP hu rfl).out pins s σ H _ _ v u Q I rx ry h
theorem o_notinM (hu : X.A.units + 64 < cLine) (hK : X.K = K := by rfl) (hP : X.prog = P := by rfl) (hw : X.w = w := by rfl) : Irr (OpR X (compareOp .NotIn) (gInM P w K true)) := by
  refine .mk ?_
  subst hK hP hw
  intro pins s σ H x y v u Q I rx ry h
  unfold gInM at h
  split at h
  · rename_i b a
    rcases h with ⟨ps, p, h1, h2, q⟩ | h
    · obtain rfl : v = Value.ref b := rx
      obtain rfl : u = Value.ref a := ry
      refine wpAny_notIn_heap (tupleKind_room_in1 (by lia)) (pkey_of I h2) h1.2.2.1 (pdict_of I h1) ?_
      rw [pat_key]
      exact ⟨.bl _, H, I.tok _, rfl, by simp_all⟩
    · exact (o_notinP hu rfl).out pins s σ H _ _ v u Q I rx ry h
  · exact (o_notinP hu rfl).out pins s σ H _ _ v u Q I rx ry h
noncomputable def mPPut (P:Program) (w:World) (K:PySem.W.Frag) (td ty tv:TE):TS:=fun D σ H=>tv σ H fun v H1=>td σ H1 fun x H2=>ty σ H2 fun y H3=>match v,x,y with
  | .bl true,.ref a,.ref b=>∃ ps p,PAt P w K H3 a ps∧SqT K H3 b (pV p)∧p ∉ ps.map (·.1)∧D.nx σ (upd H3 a (PObj P w a (ps ++ [(p,b)])))
  | _,_,_=>False
theorem js_pput {o i value : Expr} {pos pos' : Pos} {td ty tv : TE} (hu : X.A.units + 64 < cLine) (ho : JE X o td) (hi : JE X i ty) (hv : JE X value tv) (hK : X.K = K := by rfl) (hP : X.prog = P := by rfl) (hw : X.w = w := by rfl) (hs : swapsWith value (some (.Subscript o i pos')) pos.line X.env = pure false := by rfl) :
    JS X (.Assign [.Subscript o i pos'] value pos) (mPPut P w K td ty tv):=by
  refine .mk ?_
  subst hK hP hw
  intro pins s σ H D I h
  refine wpAny_Assign_Subscript (thn (hv.out pins s σ H _ I h) fun r s1 ⟨v,H1,I1,rv,q1⟩=>thn (ho.out pins s1 σ H1 _ I1 q1) fun u s2 ⟨x,H2,I2,rx,q2⟩=>thn (hi.out pins s2 σ H2 _ I2 q2) fun iv s3 ⟨y,H3,I3,ry,q3⟩=>?_) hs
  try dsimp only at q3
  split at q3
  · obtain ⟨ps,p,h1,h2,h3,q⟩:=q3
    have rx':=rx
    have ry':=ry
    simp only [RelV] at rx' ry'
    subst rx' ry'
    have er:r = Value.bool true:=rv
    subst er
    have hl:=h1.2.2.2.1
    have hb:(100000:Nat) < sizeLine:=by rw [sizeLine_eq]; decide
    refine wpAny_setItem_heap (hsz:=by rw [List.length_map]; lia) (tupleKind_room_in1 (by lia)) (pkey_of I3 h2) (pdict_of I3 h1) fun h' dd' hs=>?_
    have hn:atKey (ps.map fun p=>(pK p.1,p.2,Value.bool true)) (pK p) = none:=by
      have:=pat_key ps p
      rw [decide_eq_false h3] at this
      cases e:atKey (ps.map fun p=>(pK p.1,p.2,Value.bool true)) (pK p) with
      | none=>rfl
      | some z=>rw [e] at this; cases this
    rw [storedH_new hn] at dd'
    obtain ⟨o,es,ep,g1,g2,g3,g4,_⟩:=dd'
    refine ⟨σ,_,d_write I3 (by rw [h1.1]; exact True.intro) hs ⟨o,g1⟩ (p_laid h' o es ep g1 g2 g3 _ ?_),q⟩
    rw [g4,List.map_append (l₁:=ps),List.map_append,List.map_append]
    rfl
  · exact q3.elim
end
theorem PAt.put {P:Program} {w:World} {K:PySem.W.Frag} {H:Hp} {a b:Addr} {ps:List ((Str × Int) × Addr)} {p:Str × Int} (h:PAt P w K H a ps) (hb:SqT K H b (pV p)) (hn:p ∉ ps.map (·.1)) (hl:ps.length < 100000):PAt P w K (upd H a (PObj P w a (ps ++ [(p,b)]))) a (ps ++ [(p,b)]):=by
  obtain ⟨h1,h2,h3,h4,h5⟩:=h
  have keep:∀ c q,SqT K H c (pV q)→SqT K (upd H a (PObj P w a (ps ++ [(p,b)]))) c (pV q):=fun c q hq=>by
    have ne:∀ {u:HO},H c = some u→(∀ φ,u ≠ .ext φ)→c ≠ a:=fun {u} e n z=>by
      rw [z,h1] at e
      exact n _ (Option.some.inj e).symm
    rcases hq with (hq | ⟨o',hq⟩) | hq
    · exact .inl (.inl (by rw [upd_ne (ne hq fun l z=>nomatch z)]; exact hq))
    · exact .inl (.inr ⟨o',by rw [upd_ne (ne hq fun l z=>nomatch z)]; exact hq⟩)
    · exact .inr hq
  refine ⟨upd_same,?_,h3,by rw [List.length_append,List.length_singleton]; lia,fun q hq=>?_⟩
  · rw [List.map_append,List.nodup_append]
    refine ⟨h2,by simp,fun x hx y hy=>?_⟩
    simp only [List.map_cons,List.map_nil,List.mem_singleton] at hy
    subst hy
    exact fun e=>hn (e ▸ hx)
  · rcases List.mem_append.mp hq with z | z
    · exact keep _ _ (h5 q z)
    · rw [List.mem_singleton.mp z]; exact keep _ _ hb
theorem PAt.same {P:Program} {w:World} {K:PySem.W.Frag} {H H':Hp} {a:Addr} {ps:List ((Str × Int) × Addr)} (h:PAt P w K H a ps) (s:Same H H'):PAt P w K H' a ps:=⟨s _ _ h.1,h.2.1,h.2.2.1,h.2.2.2.1,fun p hp=>s.seqT (h.2.2.2.2 p hp)⟩
end L2
namespace L2
open PySem PySem.Spec PyProof.Rows
theorem vals_of:∀ {xs:List V} {us:List Value},xs.length = us.length→(∀ (i:Nat) (x:V) (u:Value),xs[i]? = some x→us[i]? = some u→RelV x u)→Vals xs us
  | [],[],_,_=>.nil
  | x :: xs,u :: us,hl,h=>.cons (h 0 x u rfl rfl) (vals_of (Nat.succ.inj hl) fun i y v a b=>h (i + 1) y v a b)
  | [],_ :: _,hl,_=>nomatch hl
  | _ :: _,[],hl,_=>nomatch hl
theorem kv_get {κ:Type}:∀ {kvs:List (κ × V)} {vs:List (κ × Value)} {i:Nat} {p:κ × V},KV kvs vs→kvs[i]? = some p→∃ q,vs[i]? = some q∧p.1 = q.1
  | _,_,_,_,.nil,e=>by simp at e
  | _,_,0,_,.cons r _,e=>by simp at e; subst e; exact ⟨_,rfl,r.1⟩
  | _,_,i + 1,p,.cons _ t,e=>by
    obtain ⟨q,h1,h2⟩:=kv_get (i:=i) (p:=p) t (by simpa using e)
    exact ⟨q,by simpa using h1,h2⟩
section
variable {X:Cx} {K:PySem.W.Frag}
noncomputable def gListD:List V→Hp→VK→Prop:=fun xs H Q=>match xs with
  | [.ref a]=>∃ kvs:List (Str × V),H a = some (.dK (kvs.map fun kv=>(.inr kv.1,kv.2)))∧kvs.length ≤ 100000∧∀ p,H p = none→Q (.ref p) (upd H p (.lst (kvs.map fun kv=>V.str kv.1)))
  | _=>False
theorem c_listD (hc:X.calm = true):Irr (CallR X (.type "list") gListD):=by
  refine .mk ?_
  intro pins s σ H xs us Q I r h
  unfold gListD at h
  split at h
  · rename_i a
    obtain ⟨kvs,h1,hl,q⟩:=h
    obtain ⟨u,rfl,rx⟩:=vals1 r
    cases rx
    obtain ⟨z,hd,vs,rel,o,es,ep,dd⟩:=dk_of I.hok h1
    have hvl:vs.length = kvs.length:=by rw [← rel.length,List.length_map]
    have hb:(100000:Nat) < sizeLine:=by rw [sizeLine_eq]; decide
    refine PySem.W.kdl_call (PySem.W.kdl_dict (knd:=mixKind X.prog X.w) (kvs:=vs) (ep:=ep) hd) (I.ok.hd hc) ⟨o,es,dd⟩ (by lia) fun h' tk acc c' hk hS hacc=>?_
    refine ⟨.ref _,_,I.laid (t':=tk) hk (Nat.le_refl _) (show ObjOk X.prog X.w _ h' _ (.lst _) from ⟨by rw [List.length_map]; lia,acc.toList,c',?_,by simpa using hS⟩),rfl,q _ (I.hok.fresh (Nat.le_refl _))⟩
    refine vals_of (by rw [List.length_map,← hvl,Array.length_toList]; exact hacc.1.symm) fun i x u hx hu=>?_
    rw [List.getElem?_map] at hx
    cases ek:kvs[i]? with
    | none=>rw [ek] at hx; cases hx
    | some kv =>
      rw [ek] at hx
      have ex:x = V.str kv.1:=(Option.some.inj hx).symm
      subst ex
      obtain ⟨k,y,hv,hi⟩:=hacc.2 i u (by rw [← Array.getElem?_toList]; exact hu)
      obtain ⟨q,hq,eq⟩:=kv_get (i:=i) (p:=(.inr kv.1,kv.2)) rel (by rw [List.getElem?_map,ek]; rfl)
      rw [hv] at hq
      cases hq
      have eq:(Sum.inr kv.1:Key) = k:=eq
      subst eq
      have:=(mixKind X.prog X.w).strs (.inr kv.1) kv.1 0 u (mixKind_str X.prog X.w kv.1 0)
      rw [hi] at this
      cases u with
      | str z t =>
        have e2:z = kv.1:=by simpa [Value.isStr] using this.symm
        exact ⟨t,by rw [e2]⟩
      | _=>simp [Value.isStr] at this
  · exact h.elim
end
end L2
namespace L2
open PySem PySem.Spec PyProof.Rows
theorem draws_tup {prog : Program} {w : World} {A : Around} (hh : A.handled = none) (it l : Addr) (hne : l ≠ it) (items : Array Value) :
    Draws prog w A it [it, l] items.size (fun i v => items[i]? = some v) (fun i h => h.IsTupleIter it l i ∧ h.IsTuple l items) where
  live := fun _ _ st => let ⟨o, ho, _⟩ := st.1; ⟨o, ho⟩
  frame := fun _ _ _ st hk => ⟨let ⟨o, ho, r⟩ := st.1; ⟨o, hk it (by simp) o ho, r⟩, let ⟨o, ho, r⟩ := st.2; ⟨o, hk l (by simp) o ho, r⟩⟩
  item := fun i s Q E hi st hQ => by
    refine nextOf_tup_item st.1 st.2 (x := items[i]) (by simp) fun h' hit' hs' => ?_
    exact hQ _ h' s.toks (by simp) ⟨hit', let ⟨o, ho, r⟩ := st.2; ⟨o, hs'.extBut _ _ hne ho, r⟩⟩ hs'
  done := fun s Q E st hE => nextOf_tup_end hh st.1 st.2 (by simp) hE
theorem meets_enum_tup (l : Addr) (items : Array Value) (n : Nat) (dct : Option Addr) (sl : Array (Option Value)) :
    Meets (Builtin.«enumerate.__new__» ⟨[.type "enumerate",.ref l],[]⟩) (fun _ R s=>s.heap.get? l = some { cls:=.type "tuple",dict:=dct,data:=.seq items n,slots:=sl } ∧
      R (.ok (.ret (.ref (s.heap.push { cls:=.type "tuple_iterator",data:=.fields #[.ref l,.int 0 0] }).objs.size)))
        { s with heap:=(s.heap.push { cls:=.type "tuple_iterator",data:=.fields #[.ref l,.int 0 0] }).push { cls:=.type "enumerate",data:=.fields #[.none,.bool false,.ref s.heap.objs.size,rawInt 0,.none,.none] } }) :=
  .of_wp fun prog w A R s h=>by
    obtain ⟨hp,g,d,tk,os⟩:=s; obtain ⟨hl,h⟩:=h
    have hsub:=sub_enumerate
    have hL:Heap.IsTuple (Shared.heap ⟨hp,g,d,tk,os⟩) l items:=⟨_,hl,rfl,n,rfl⟩
    wp_walk using AutoSeq1.wpAny_loadPart' hl
    refine wpAny_stack_any fun st=>wpAny_pure ?_
    split
    · rename_i c _ _ _ _ _
      cases (c == Value.type "enumerate")
      · wp_walk using AutoSeq1.wpAny_loadPart' hl,wpAny_pyIter_tuple hL
        exact ⟨_,rfl,h⟩
      · wp_walk using AutoSeq1.wpAny_loadPart' hl,wpAny_pyIter_tuple hL
        exact ⟨_,rfl,h⟩
    · wp_walk using AutoSeq1.wpAny_loadPart' hl,wpAny_pyIter_tuple hL
      exact ⟨_,rfl,h⟩
theorem call_enumerate_tup {prog : Program} {w : World} {A : Around} {E : Value → Shared → Prop} {s : Shared} {l : Addr} {items : Array Value} {Q : Value → Shared → Prop} (hL : s.heap.IsTuple l items)
    (h:∀ h',IsEnum h' (s.heap.objs.size + 1) s.heap.objs.size 0 .none→h'.IsTupleIter s.heap.objs.size l 0→h'.objs.size = s.heap.objs.size + 2 →
      (∀ b o,s.heap.get? b = some o→h'.get? b = some o)→Q (.ref (s.heap.objs.size + 1)) { s with heap:=h' }) :
    wpAny (model prog w) A (call (.type "enumerate") [.ref l]) Q E s:=by
  obtain ⟨⟨c,dct,dt,sl⟩,hl,hc,n,hd⟩:=hL
  replace hc:c = .type "tuple":=hc
  replace hd:dt = .seq items n:=hd
  subst hc hd
  refine callType_new F.called_enumerate (by decide) (F.typeCall_enumerate_1 _) (F.newCall_enumerate_1 _) (fun obj=>F.args_object_init_2 obj _) F.entry_enumerate_new
    (meets_enum_tup l items n dct sl) ⟨hl,?_⟩
  have hz:(s.heap.push { cls:=.type "tuple_iterator",data:=.fields #[.ref l,.int 0 0] }).objs.size = s.heap.objs.size + 1:=Heap.size_push ..
  show _∧_
  rw [hz]
  have he : IsEnum ((s.heap.push { cls := .type "tuple_iterator", data := .fields #[.ref l, .int 0 0] }).push
      { cls:=.type "enumerate",data:=.fields #[.none,.bool false,.ref s.heap.objs.size,rawInt 0,.none,.none] }) (s.heap.objs.size + 1) s.heap.objs.size 0 .none:=by
    have:=Heap.get?_push_size (s.heap.push { cls:=.type "tuple_iterator",data:=.fields #[.ref l,.int 0 0] })
      (o:={ cls:=.type "enumerate",data:=.fields #[.none,.bool false,.ref s.heap.objs.size,rawInt 0,.none,.none] }) rfl
    rw [hz] at this
    exact this
  exact ⟨⟨_,he,rfl⟩,h _ he ⟨_,Heap.get?_push_of_some _ (Heap.get?_push_size _ rfl),rfl,rfl⟩ (by rw [Heap.size_push,hz]) fun b o e=>Heap.get?_push_of_some _ (Heap.get?_push_of_some _ e)⟩
noncomputable def Iet (K:PySem.W.Frag) (a:Addr):It :=
  ⟨fun i H=>∃ xs x,SqT K H a xs∧xs[i]? = some x,
   fun i H v H'=>∃ T x,(∀ xs,SqT K H a xs→xs[i]? = some x)∧H T = none∧v = .ref T∧H' = upd H T (.tup [.int (i:Nat),x]),
   fun i H=>∃ xs,SqT K H a xs∧xs.length = i⟩
theorem turn_enumT {P : Program} {w : World} {K : PySem.W.Frag} {elts : List Expr} {x1} {pos : Pos} {a e it : Addr} (hne : e ≠ it) :
    Turn P w K (.Tuple elts x1 pos) (Iet K a) [e,it] e (fun i h=>(∃ old,IsEnum h e it (i:Nat) old)∧h.IsTupleIter it a i) where
  mem:=by simp
  obj:=by
    rintro i h ⟨⟨old,he⟩,hi⟩ c hc
    simp only [List.mem_cons,List.not_mem_nil,or_false] at hc
    rcases hc with rfl | rfl
    · exact ⟨_,he,fun v z=>by cases z⟩
    · obtain ⟨o,ho,_,d⟩:=hi
      exact ⟨o,ho,fun v z=>by rw [d] at z; cases z⟩
  keep:=by
    rintro i h h' ⟨⟨old,he⟩,hi⟩ k
    refine ⟨⟨old,k e (by simp) _ he⟩,?_⟩
    obtain ⟨o,ho,r⟩:=hi
    exact ⟨o,k it (by simp) _ ho,r⟩
  item:=by
    rintro X hP hw hK hc i pins s σ H E I hf ⟨⟨old,he⟩,hi⟩ ⟨xs,x,q1,hx⟩
    subst hP hw hK
    obtain ⟨its,rv,p1,_⟩:=I.tuple q1
    obtain ⟨ux,hux,rx⟩:=rv.get hx
    have hal:a < s.heap.objs.size:=by obtain ⟨o,e0,_⟩:=(show s.heap.IsTuple a its.toArray from p1); exact Heap.lt_size e0
    have hai:a ≠ it:=fun z=>by
      obtain ⟨o,e0,c0,_⟩:=(show s.heap.IsTuple a its.toArray from p1)
      obtain ⟨o2,e2,c2,_⟩:=hi
      rw [z,e2] at e0
      cases e0
      rw [c0] at c2
      exact absurd c2 (by decide)
    have hae:e ∉ [it,a]:=fun z=>by
      rcases List.mem_cons.mp z with z | z
      · exact hne z
      · rw [List.mem_singleton.mp z] at he
        obtain ⟨o,e0,c0,_⟩:=(show s.heap.IsTuple a its.toArray from p1)
        rw [he] at e0
        cases e0
        exact absurd (show Value.type "enumerate" = Value.type "tuple" from c0) (by decide)
    refine wpAny_pyNext_enum_itemD (draws_tup (A:=X.A.in1) (I.ok.hd hc) it a hai its.toArray) he ⟨hi,p1⟩ (by have:=rv.length; have:=(List.getElem?_eq_some_iff.mp hx).1; simp; lia) hne hae fun ux2 h' tk hP a1 a2 a3 a4 a5=>?_
    have eux:ux = ux2:=by
      have h9:its.toArray[i]? = some ux:=by simpa using hux
      rw [h9] at hP
      exact Option.some.inj hP
    subst eux
    have hT:H s.heap.objs.size = none:=I.hok.fresh (Nat.le_refl _)
    have I1:Inv X pins σ (upd H s.heap.objs.size (.tup [.int (i:Nat),x])) { s with heap:=s.heap.push { cls:=.type "tuple",data:=.seq [.int (i:Nat) tk,ux].toArray },toks:=tk + 1 } :=
      I.laid (t':=tk + 1) (fun b o q=>Heap.get?_push_of_some _ q) (Nat.le_refl _) (show ObjOk X.prog X.w _ _ _ (.tup [.int (i:Nat),x]) from ⟨by show 2 ≤ sizeLine; decide,[.int (i:Nat) tk,ux],.cons ⟨_,rfl⟩ (.cons rx .nil),IsTup.new _ _⟩)
    have hlt:∀ c ∈ [e,it],c < s.heap.objs.size:=by
      intro c hc
      simp only [List.mem_cons,List.not_mem_nil,or_false] at hc
      rcases hc with rfl | rfl
      · exact Heap.lt_size he
      · obtain ⟨o,ho,_⟩:=hi; exact Heap.lt_size ho
    have hf':∀ c ∈ [e,it],FpOk X pins (upd H s.heap.objs.size (.tup [.int (i:Nat),x])) c:=fun c hc=>by
      obtain ⟨f0,fr⟩:=hf c hc
      exact ⟨by rw [upd_ne (Nat.ne_of_lt (hlt c hc))]; exact f0,fr⟩
    have kept:∀ c o,c ∉ [e,it]→(s.heap.push { cls:=.type "tuple",data:=.seq [.int (i:Nat) tk,ux].toArray }).get? c = some o→h'.get? c = some o:=by
      intro c o hc q
      have hc':c ≠ e∧c ≠ it:=by simpa using hc
      by_cases hn:c = s.heap.objs.size
      · subst hn
        have e0:(s.heap.push { cls:=.type "tuple",data:=.seq [.int (i:Nat) tk,ux].toArray }).get? s.heap.objs.size = some { cls:=.type "tuple",data:=.seq [.int (i:Nat) tk,ux].toArray }:=Heap.get?_push_size _ rfl
        rw [e0] at q
        cases q
        exact a3
      · rw [Heap.get?_push_ne _ _ _ hn] at q
        exact a5 c o hc'.1 hc'.2 q
    have I2:Inv X pins σ (upd H s.heap.objs.size (.tup [.int (i:Nat),x])) { s with heap:=h',toks:=tk + 1 }:=I1.turnedL (t':=tk + 1) kept hf'
    refine ⟨_,rfl,?_⟩
    refine wpAny_letOwnedTupleGo_enum a1 fun h2' he2 hs2=>?_
    have I3:Inv X pins σ (upd H s.heap.objs.size (.tup [.int (i:Nat),x])) { s with heap:=h2',toks:=tk + 1 }:=Inv.turnedL (s:={ s with heap:=h',toks:=tk + 1 }) (h':=h2') (t':=tk + 1) (fp:=[e,it]) I2 (fun c o hc q=>hs2.extBut _ _ (fun z=>hc (by simp [z])) q) hf'
    refine ⟨.ref s.heap.objs.size,_,I3,rfl,⟨_,x,fun zs hq=>by rw [I.tuple_inj hq q1]; exact hx,hT,rfl,rfl⟩,⟨⟨_,he2⟩,?_⟩,fun c hc=>(hf' c hc).1⟩
    obtain ⟨o,ho,r⟩:=a2.1
    exact ⟨o,hs2.extBut _ _ hne.symm ho,r⟩
  done:=by
    rintro X hP hw hK hc i pins s σ H E I hf ⟨⟨old,he⟩,hi⟩ ⟨xs,q1,hend⟩
    subst hP hw hK
    obtain ⟨its,rv,p1,_⟩:=I.tuple q1
    have l1:=rv.length
    have hai:a ≠ it:=fun z=>by
      obtain ⟨o,e0,c0,_⟩:=(show s.heap.IsTuple a its.toArray from p1)
      obtain ⟨o2,e2,c2,_⟩:=hi
      rw [z,e2] at e0
      cases e0
      rw [c0] at c2
      exact absurd c2 (by decide)
    refine wpAny_pyNext_enum_endD (draws_tup (A:=X.A.in1) (I.ok.hd hc) it a hai its.toArray) he (by rw [List.size_toArray,← l1,hend]; exact ⟨hi,p1⟩) fun h' hk=>⟨rfl,I.turnedL (t':=s.toks) (fp:=[e,it]) (fun c o hc q=>?_) hf⟩
    have hc':c ≠ e∧c ≠ it:=by simpa using hc
    exact hk c o hc'.2 q
  self:=fun _ _ _ _ _ st h=>by
    obtain ⟨⟨old,he⟩,_⟩:=st
    exact wpAny_pyIter_enum he h
section
variable {X:Cx} {K:PySem.W.Frag}
noncomputable def iEnumT (K:PySem.W.Frag) (ta:TA):TI:=fun σ H R=>ta σ H fun vs H1=>match vs with
  | [.ref a]=>(∃ xs,SqT K H1 a xs)∧R (Iet K a) H1
  | _=>False
theorem pi_enumT {a : Expr} {ta : TA} {p pos : Pos} {elts : List Expr} {x1} {pos' : Pos} (hg : Gl X "enumerate") (hm : X.mg "enumerate" = none) (ha : PA X [a] ta) (hK : X.K = K := by rfl) (hs : starEach [a] X.env = [(false, eval a X.env)] := by rfl) :
    PI X (.Tuple elts x1 pos') (.Call (.Name "enumerate" p) [a] [] pos) (iEnumT K ta):=by
  subst hK
  intro pins s σ H R I h
  refine Call_ (ld_blt I hg hm boot_enumerate (PyProof.Rows.callWith_type1 (thn (ha pos pins s σ H _ I h) fun us s1 ⟨vs,H1,I1,r1,q1⟩=>?_) (by rw [hs]; rfl) rfl))
  try dsimp only at q1
  split at q1
  · obtain ⟨u,rfl,r⟩:=vals1 r1
    cases r
    obtain ⟨⟨xs,hx⟩,q⟩:=q1
    obtain ⟨its,rv,p1,_⟩:=I1.tuple hx
    refine call_enumerate_tup (show s1.heap.IsTuple _ its.toArray from p1) fun h' he hi hz hk=>?_
    refine wpAny_pyIter_enum he ?_
    refine ⟨_,[s1.heap.objs.size + 1,s1.heap.objs.size],_,_,H1,rfl,I1.kept (t':=s1.toks) hk,turn_enumT (Nat.succ_ne_self _),⟨⟨_,he⟩,hi⟩,fun c hc=>?_,q⟩
    have hge:s1.heap.objs.size ≤ c:=by
      simp only [List.mem_cons,List.not_mem_nil,or_false] at hc
      rcases hc with rfl | rfl
      · exact Nat.le_succ _
      · exact Nat.le_refl _
    exact I1.fpOk hge (I1.hok.fresh hge)
  · exact q1.elim
theorem ji_enumT {a : Expr} {ta : TA} {p pos : Pos} {elts : List Expr} {x1} {pos' : Pos} (hg : Gl X "enumerate") (hm : X.mg "enumerate" = none) (ha : JA X [a] ta) (hK : X.K = K := by rfl) (h1 : noStar a = true := by rfl) :
    JI X (.Tuple elts x1 pos') (.Call (.Name "enumerate" p) [a] [] pos) (iEnumT K ta):=.mk (pi_enumT hg hm ha.out hK (by rw [starEach_cons h1]; rfl))
end
theorem for_enumT {K : PySem.W.Frag} {a : Addr} {xs : List V} {g : TG} {tb : TS} {D : Ends} {σ : St} {H : Hp} (Pv : Nat → St → Hp → Prop) (h0 : Pv 0 σ H)
    (hl:∀ i σ H,i ≤ xs.length→Pv i σ H→SqT K H a xs)
    (hs:∀ i x σ H,xs[i]? = some x→Pv i σ H→∀ T,H T = none→g (.ref T) σ (upd H T (.tup [.int (i:Nat),x])) fun σ2 H2=>tb { D with nx:=Pv (i + 1),ct:=Pv (i + 1),bk:=D.nx } σ2 H2) (hd:∀ σ H,Pv xs.length σ H→D.nx σ H) :
    ∃ W:Nat→Nat→St→Hp→Prop,(∃ m,W 0 m σ H)∧∀ i m σ H,W i m σ H →
      ((Iet K a).stop i H∧D.nx σ H)∨((Iet K a).go i H∧∃ N:St→Hp→Prop,(∀ σ' H',N σ' H'→∃ m',m' < m∧W (i + 1) m' σ' H')∧∀ x H',(Iet K a).yld i H x H'→g x σ H' fun σ2 H2=>tb { D with nx:=N,ct:=N,bk:=D.nx } σ2 H2):=by
  refine ⟨fun i m σ H=>m = xs.length - i∧i ≤ xs.length∧Pv i σ H,⟨xs.length,by simp,Nat.zero_le _,h0⟩,?_⟩
  rintro i m σ H ⟨rfl,hi,p⟩
  have q1:=hl i σ H hi p
  by_cases hlt:i < xs.length
  · refine .inr ⟨⟨xs,xs[i],q1,by simp [hlt]⟩,Pv (i + 1),fun σ' H' p'=>⟨xs.length - (i + 1),by lia,rfl,hlt,p'⟩,fun v H' y=>?_⟩
    obtain ⟨T,x,e1,hT,rfl,rfl⟩:=y
    exact hs i x σ H (e1 xs q1) p T hT
  · have e:i = xs.length:=by lia
    subst e
    exact .inl ⟨⟨xs,q1,rfl⟩,hd σ H p⟩
end L2
namespace L2
open PySem PySem.Spec PyProof.Rows
section
variable {X:Cx} {E:XK} {N:List Str} {cap:List (Option Nat)} {scope:Scope} {elt target iter:Expr} {ifs:List Expr} {pos pos' spos:Pos} {wi:TI} {g:TG} {tc:TT} {te:TE} {i:Nat} {x:Str}
theorem ps_compX (hX : Exits X E) (hst : X.stack = X.env :: X.outer) (hfr : X.env.frame = some X.env.locals) (hc : X.calm = true) (S : CompScope X N cap scope) (hi : PI X target iter wi)
    (hg:∀ C s₀ H₀ ex,PG (cxCompX X N scope C s₀ H₀ ex E) target g) (ht:∀ C s₀ H₀ ex,PTs (cxCompX X N scope C s₀ H₀ ex E) ifs tc) (he:∀ C s₀ H₀ ex,PE (cxCompX X N scope C s₀ H₀ ex E) elt te)
    (hN:X.N.Nodup) (hix:X.N[i]? = some x) (hx:X.env.scope.names.lookup x = some .local) (hsw:swapsWith (.ListComp elt [⟨target,iter,ifs,0⟩] scope pos) (some (.Name x pos')) spos.line X.env = pure true:=by rfl)
    (hs:∀ x,foldedSetIterable iter X.env x = pure x:=by intro _; rfl) :
    PS X (.Assign [.Name x pos'] (.ListComp elt [⟨target,iter,ifs,0⟩] scope pos) spos) (fun D σ H=>tComp cap wi g tc te (fun d H'=>D.nx (σ.set i (some (.ref d))) H') σ H):=by
  intro pins s σ H D I h
  have hclos:closureFor scope X.env = pure (closOf X.env scope.names []):=closureFor_of fun y hy hf=>I.ok.has y.1 (S.fre y hy hf)
  rw [exec_Assign_Name_used _ _ _ _ hsw]
  refine wpAny_bind (wpAny_standAt (wpAny_bind ?_))
  show wpAny _ X.A (do let _ ← comprehension (.ListComp elt [⟨target,iter,ifs,0⟩] scope pos) scope X.env _ (newList []) false (eval iter X.env) (some (assign (.Name x pos') X.env))) _ _ s
  refine wpAny_bind (wpAny_mono (wpAny_comprehension_free (use:=some (assign (.Name x pos') X.env)) (Q:=fun _ s'=>SP X pins D .next s') rfl hs hclos S.kind S.loc
    (thn (hi pins s σ H _ I h) fun xv s1 h1=>thn h1 fun itv s2 h2=>?_)) (fun _ s' hq=>wpAny_pure (wpAny_pure hq)) fun _ _ e=>e)
  obtain ⟨it,fp,tn,J,H2,e,I2,T,st2,f2,q2⟩:=h2
  subst e
  refine comp_blockX (EX:=E) (RR:=fun acc C=>compPost (model X.prog X.w) X.A X.xe (some (assign (.Name x pos') X.env)) (fun _ s'=>SP X pins D .next s') acc C) hc S I2 T st2 f2 (fun C s₀ H₀=>hg C s₀ H₀ fp) (fun C s₀ H₀=>ht C s₀ H₀ fp) (fun C s₀ H₀=>he C s₀ H₀ fp) q2
    (fun D C hC _ e s' hf=>comp_exit hX I2 hst hfr (fun b hb=>(f2 b hb).2.2.2.1) hC e s' hf) ?_
  intro d C s' H' I' q ⟨m,hn⟩ hf hsz hL hcell hpin
  show wpAny _ X.A (assign (.Name x pos') X.env (.ref d)) _ _ s'
  refine wpAny_assign_Name (store_ok2 I' hN hix (.inl hx) (show RelV (.ref d) (.ref d) from rfl) (fun s'' I'' ⟨a,hsb,ha⟩=>?_) (.inr hx))
  have hCa:C ≠ a:=by
    rcases ha with z | z
    · rw [z]; exact hL
    · exact fun w=>hcell x a z w.symm
  refine ⟨m,hn.sameBut hsb hCa,fun h' hsb'=>⟨_,H',?_,q⟩⟩
  exact I''.turned (t':=s''.toks) (fun b o hb e=>hsb'.extBut b o hb e) hf hL (.inr hsz) hcell hpin
theorem js_compX (hX : Exits X E) (hst : X.stack = X.env :: X.outer) (hfr : X.env.frame = some X.env.locals) (hc : X.calm = true) (S : CompScope X N cap scope) (hi : JI X target iter wi)
    (hg:∀ C s₀ H₀ ex,JG (cxCompX X N scope C s₀ H₀ ex E) target g) (ht:∀ C s₀ H₀ ex,JTs (cxCompX X N scope C s₀ H₀ ex E) ifs tc) (he:∀ C s₀ H₀ ex,JE (cxCompX X N scope C s₀ H₀ ex E) elt te)
    (hN:X.N.Nodup) (hix:X.N[i]? = some x) (hx:X.env.scope.names.lookup x = some .local) (hsw:swapsWith (.ListComp elt [⟨target,iter,ifs,0⟩] scope pos) (some (.Name x pos')) spos.line X.env = pure true:=by rfl)
    (hs:∀ x,foldedSetIterable iter X.env x = pure x:=by intro _; rfl) :
    JS X (.Assign [.Name x pos'] (.ListComp elt [⟨target,iter,ifs,0⟩] scope pos) spos) (fun D σ H=>tComp cap wi g tc te (fun d H'=>D.nx (σ.set i (some (.ref d))) H') σ H) :=
  .mk (ps_compX hX hst hfr hc S hi.out (fun C s₀ H₀ ex=>(hg C s₀ H₀ ex).out) (fun C s₀ H₀ ex=>(ht C s₀ H₀ ex).out) (fun C s₀ H₀ ex=>(he C s₀ H₀ ex).out) hN hix hx hsw hs)
end
end L2
namespace Rg
noncomputable def wr (c:Nat):Prop:=32 ≤ c∧c ≤ 126∧c ≠ 37
end Rg
namespace Rg
open PySem PySem.Builtin PySem.Builtin.Str
noncomputable abbrev S (l:List Nat):Str:=⟨l.toArray⟩
theorem S_inj {a b : List Nat} (h : S a = S b) : a = b :=by grind
theorem S_of (x : Str) : x = S x.cps.toList :=by grind
theorem S_app (a b:List Nat):S a ++ S b = S (a ++ b):=Str.ext' (by rw [Str.cps_append]; simp)
theorem S_len (a:List Nat):(S a).length = a.length:=by simp [Str.length]
end Rg
namespace Rg
open PySem PySem.Spec PyProof.Rows L2
noncomputable def low (l:List Nat):Prop:=∀ c ∈ l,c < 0x110000
theorem strOkL {l:List Nat} (h:low l):PyData.strOk (S l) = true:=by
  unfold PyData.strOk
  simp
  intro c hc
  have:=h c hc
  lia
theorem tx_dat {K:PySem.W.Frag} {H:Hp}:∀ ks:List (List Nat),DatVs K H (ks.map fun k=>V.str (S k)) (ks.map fun k=>PyData.str (S k))
  | []=>.nil
  | k :: r=>.cons (.str _) (tx_dat r)
theorem tx_lay : ∀ {ks : List (List Nat)}, (∀ k ∈ ks, low k) → PyData.canLayAll0 (ks.map fun k => PyData.str (S k)) = true
  | [], _ => rfl
  | k :: r, h => by
    rw [List.map_cons]
    simp only [PyData.canLayAll0, PyData.canLay0, strOkL (h k List.mem_cons_self), tx_lay fun x hx => h x (List.mem_cons_of_mem _ hx), Bool.and_self]
theorem tx_deep:∀ ks:List (List Nat),PyData.depthAll (ks.map fun k=>PyData.str (S k)) ≤ 2
  | []=>by simp only [List.map_nil,PyData.depthAll]; lia
  | k :: r=>by
    have ih:=tx_deep r
    rw [List.map_cons]
    simp only [PyData.depthAll,PyData.depth]
    lia
theorem eqS_iff {l m : List Nat} : decide ((S l : Str) = S m) = (l == m) :=by grind
theorem tx_eqv : ∀ (ks ms : List (List Nat)), PyData.eqvAll (ks.map fun k => PyData.str (S k)) (ms.map fun k => PyData.str (S k)) = (ks == ms)
  | [], [] => rfl
  | [], m :: r => rfl
  | k :: r, [] => rfl
  | k :: r, m :: r' => by
    have h : PyData.eqv (.str (S k)) (.str (S m)) = (k == m) := by
      rw [← eqS_iff]
      unfold PyData.eqv
      grind
    rw [List.map_cons, List.map_cons, PyData.eqvAll, h, tx_eqv r r']
    rfl
end Rg
--@RAISES but law
namespace K21
open PySem PySem.Spec PyProof.Rows L2 Rg
noncomputable def top (i:Nat):Stmt:=PySem.Challenge.pw_regrowth_k21_plain_rules.main.body.getD i (.Pass ⟨0,0,0,0⟩)
structure Txt (K:PySem.W.Frag) (w:World) (mg:Str→Option Value) (tT:Addr):Prop where
  n_set:mg "set" = none
  n_sorted:mg "sorted" = none
  n_len:mg "len" = none
  n_list:mg "list" = none
  n_tuple:mg "tuple" = none
  n_int:mg "int" = none
  n_str:mg "str" = none
  n_bool:mg "bool" = none
  n_min:mg "min" = none
  n_all:mg "all" = none
  n_zip:mg "zip" = none
  n_range:mg "range" = none
  n_enumerate:mg "enumerate" = none
  n_isinstance:mg "isinstance" = none
  g_NO_RULE:∃ t,mg "NO_RULE" = some (.int (-1) t)
  g_TOP:mg "TOP" = some (.ref tT)
  k_TOP:∀ H,SqT K H tT [.str "",.int 0]
section
variable {P:Program} {w:World} {K:PySem.W.Frag} {mg:Str→Option Value} {base:Heap} {C tS tN tT:Addr}
structure Rl where
  sort:List Nat
  rank:Int
  side:Str
  ps:List (List Nat)
noncomputable def Rl.dat (q:Rl):PyData:=.tuple [.str (S q.sort),.int q.rank,.str q.side,.tuple (q.ps.map fun l=>.str (S l))]
theorem dat_strs_inv {H:Hp}:∀ {xs:List V} (ls:List (List Nat)),DatVs K H xs (ls.map fun l=>PyData.str (S l))→xs = ls.map fun l=>V.str (S l)
  | _,[],h=>by cases h; rfl
  | _,l :: r,h=>by
    cases h with
    | cons h1 ht=>cases h1; rw [dat_strs_inv r ht]; rfl
theorem dat_rl {H : Hp} {x : V} {q : Rl} (h : DatV K H x q.dat) : ∃ t tp, x = .ref t ∧ SqT K H t [.str (S q.sort), .int q.rank, .str q.side, .ref tp] ∧ SqT K H tp (q.ps.map fun l => V.str (S l)) := by
  cases h with
  | tuple hS hd =>
    cases hd with
    | cons h1 hd => cases h1; cases hd with
      | cons h2 hd => cases h2; cases hd with
        | cons h3 hd => cases h3; cases hd with
          | cons h4 hd => cases hd; cases h4 with
            | tuple hS2 hd2 =>
              rw [dat_strs_inv _ hd2] at hS2
              exact ⟨_, _, rfl, hS, hS2⟩
noncomputable def ranksR (rs:List Rl) (s:List Nat):List Int:=(rs.filter fun q=>q.sort == s).map Rl.rank
inductive spRanks (K:PySem.W.Frag) (vs : List V) (H : Hp) (Q : VK) (_e : XK) : Prop | mk (a:Addr) (rl:List V) (rs:List Rl) (l:List Nat) : (vs = [.ref a,.str (S l)]) → SqL K H a rl → (DatVs K H rl (rs.map Rl.dat)) → (rs.length ≤ 60) → (∀ H' p (ns:List Int),Same H H'→H' p = some (.lst (ns.map V.int))→ns.Perm (dist (ranksR rs l))→ns.Pairwise (· ≤ ·)→Q (.ref p) H') → spRanks K vs H Q _e
theorem dist_len (ns : List Int) : (dist ns).length ≤ ns.length := by
  have h : ∀ (l acc : List Int), (l.foldl step_dedup acc).length ≤ acc.length + l.length := by
    intro l
    induction l with
    | nil => simp
    | cons x r ih =>
      intro acc
      refine Nat.le_trans (ih _) ?_
      have : (step_dedup acc x).length ≤ acc.length + 1 := by unfold step_dedup; split <;> simp
      grind
  have := h ns []
  unfold dist
  simp_all
structure TxR (mg:Str→Option Value):Prop where
  n_set:mg "set" = none
  n_sorted:mg "sorted" = none
noncomputable abbrev st_ranks_of:Stmt:=top 14
theorem sc_ranks_of:FnScope ["rules","sort"] ["rules","sort"] (defScope st_ranks_of):=⟨rfl,rfl,rfl,by decide +kernel,rfl,by decide +kernel,by decide +kernel⟩
theorem def_ranks (R:Raw K mg "ranks_of" st_ranks_of ["rules","sort"]) (T:TxR mg):Def P w K mg base 1 "ranks_of" ["rules","sort"] (spRanks K):=by
  refine R.defJ sc_ranks_of (fun vs H Q E h=>?_) (fun f cdv A outer s H vs Q E hr h=>?_)
  · obtain ⟨a,rl,rs,l,rfl,_⟩:=h
    rfl
  · obtain ⟨a,rl,rs,l,rfl,hS,hD,hl,q⟩:=h
    have sc:=sc_ranks_of
    have hu:=hr.units
    have hrl:rl.length = rs.length:=by have:=hD.length; rw [List.length_map] at this; exact this
    refine ⟨_,(jss_one (js_ret (j_callB (c_sortZ rfl (P:=P) (w:=w)) rfl T.n_sorted boot_sorted (ja_cons (j_callTy (c_setZ rfl (K:=K) (P:=P) (w:=w)) rfl T.n_set boot_set (ja_cons (j_comp (N:=["rule","sort"]) (cap:=[none,some 1]) rfl (CompScope.of rfl (by rfl)) (ji_any (K:=K) (jn 0)) (fun _ _ _ _=>(jg_name (i:=0) (show List.Nodup [("rule":Str),("sort":Str)] by decide +kernel) rfl (Or.inl rfl))) (fun _ _ _ _=>(jts_one (jt_cmp (o_eqA hu (K:=K)) (j_ix (o_ix hu (K:=K) (w:=w)) (jn 0) j_int) (jn 1)))) (fun _ _ _ _=>(j_ix (o_ix hu (K:=K) (w:=w)) (jn 0) j_int))) ja_nil)) ja_nil)))),?_⟩
    refine .inl ⟨⟨_,hS⟩,?_⟩
    refine gath_list (xs:=rl) (fun i ys σ' H'=>H' = H∧ys = (ranksR (rs.take i) l).map V.int∧∃ v,σ' = [v,some (.str (S l))]) (by lia) ⟨rfl,rfl,none,rfl⟩
      (fun i ys σ' H' h=>by rw [h.2.1,List.length_map]; unfold ranksR; rw [List.length_map]; exact Nat.le_trans (List.length_filter_le _ _) (by rw [List.length_take]; lia)) (fun i ys σ' H' h=>by rw [h.1]; exact hS) ?_ ?_
    · rintro i x ys σ' H' hi ⟨rfl,rfl,v,rfl⟩
      obtain ⟨dd,hdd,hx⟩:=hD.get hi
      rw [List.getElem?_map] at hdd
      cases ee:rs[i]? with
      | none=>rw [ee] at hdd; cases hdd
      | some g =>
        rw [ee] at hdd
        have ed:dd = g.dat:=(Option.some.inj hdd).symm
        subst ed
        obtain ⟨t,tp,rfl,hT,_⟩:=dat_rl hx
        have et:rs.take (i + 1) = rs.take i ++ [g]:=by rw [List.take_add_one,ee]; rfl
        refine .inr ⟨_,.str (S g.sort),hT,atI_nat (j:=0) rfl,?_⟩
        show if (false ^^ decide ((S g.sort:Str) = S l)) = true then _ else _
        rw [Bool.false_xor,eqS_iff]
        refine ite2 (fun h=>?_) (fun h=>?_)
        · refine .inr ⟨_,.int g.rank,hT,atI_nat (j:=1) rfl,rfl,?_,_,rfl⟩
          unfold ranksR
          rw [et,List.filter_append,List.filter_cons_of_pos (p:=fun (q:Rl)=>q.sort == l) h,List.filter_nil,List.map_append,List.map_append]
          rfl
        · refine ⟨rfl,?_,_,rfl⟩
          unfold ranksR
          rw [et,List.filter_append,List.filter_cons_of_neg (p:=fun (q:Rl)=>q.sort == l) h,List.filter_nil,List.append_nil]
    · rintro ys σ' H' ⟨rfl,rfl,v,rfl⟩ D hD2
      rw [hrl,List.take_length]
      have hrk:(ranksR rs l).length ≤ 60:=by unfold ranksR; rw [List.length_map]; exact Nat.le_trans (List.length_filter_le _ _) hl
      have s1:Same H' (upd H' D (.lst ((ranksR rs l).map V.int))):=same_new hD2
      have h1:upd H' D (.lst ((ranksR rs l).map V.int)) D = some (.lst ((ranksR rs l).map V.int)):=upd_same
      generalize upd H' D (.lst ((ranksR rs l).map V.int)) = H1 at s1 h1 ⊢
      refine ⟨_,SqL.of h1,by lia,fun p2 o hp2 hz=>?_⟩
      have dl:=dist_len (ranksR rs l)
      refine ⟨o,_,upd_same,hz,by lia,fun p3 ns hp3 hpm hsr=>?_⟩
      exact q _ p3 ns ((s1.trans (same_new hp2)).trans (same_new hp3)) upd_same hpm hsr
inductive spAbove (K:PySem.W.Frag) (C:Addr) (vs : List V) (H : Hp) (Q : VK) (E : XK) : Prop | mk (a:Addr) (ns:List Int) (k:Int) : (vs = [.ref a,.int k]) → (SqL K H a (ns.map V.int)) → (ns.length ≤ 60) → (0 ≤ k) → (k ≤ 99) → ((ns.filter (fun x=>decide (k < x)) = []→∀ H',Same H H'→E (.ref C) none H')) → (∀ m r,ns.filter (fun x=>decide (k < x)) = m :: r→∀ H',Same H H'→Q (.int m) H') → spAbove K C vs H Q E
theorem small_all:∀ k:Fin 100,((k.val:Int)).natAbs.log2 < 1920∧(Str.ofString (toString (k.val:Int))).length ≤ 1100000:=by decide +kernel
theorem small_txt {k : Int} (h0 : 0 ≤ k) (h9 : k ≤ 99) : k.natAbs.log2 < 1920 ∧ (Str.ofString (toString k)).length ≤ 1100000 := by
  have := small_all ⟨k.toNat, by lia⟩
  have e : ((k.toNat : Nat) : Int) = k := Int.toNat_of_nonneg h0
  simp only [e] at this
  lia
noncomputable abbrev st_rank_above:Stmt:=top 16
theorem sc_rank_above:FnScope ["ranks","rank","above"] ["ranks","rank"] (defScope st_rank_above):=⟨rfl,rfl,rfl,by decide +kernel,rfl,by decide +kernel,by decide +kernel⟩
structure TxF (K:PySem.W.Frag) (mg:Str→Option Value) (C:Addr):Prop where
  c_NoFloor:mg "NoFloor" = some (.ref C)
  x_NoFloor:PySem.W.excIn K C bmVE "ValueError.__new__" = true
theorem def_above (R:Raw K mg "rank_above" st_rank_above ["ranks","rank"]) (T:TxF K mg C):DefX P w K mg base 1 "rank_above" ["ranks","rank"] (spAbove K C):=by
  refine R.defX sc_rank_above (fun vs H Q E h=>?_) (fun f cdv A outer s H vs Q E hr h=>?_)
  · obtain ⟨a,ns,k,rfl,_⟩:=h
    rfl
  · obtain ⟨a,ns,k,rfl,hS,hl,h0,h9,qE,q⟩:=h
    have sc:=sc_rank_above
    have hu:=hr.units
    refine ⟨_,(jss_cons (js_comp (i:=2) (N:=["other","rank"]) (cap:=[none,some 1]) rfl (CompScope.of rfl (by rfl)) (ji_any (K:=K) (jn 0)) (fun _ _ _ _=>(jg_name (i:=0) (show List.Nodup [("other":Str),("rank":Str)] by decide +kernel) rfl (Or.inl rfl))) (fun _ _ _ _=>(jts_one (jt_cmp o_gt (jn 0) (jn 1)))) (fun _ _ _ _=>(jn 0)) sc.nd rfl rfl)
    (jss_cons (js_if (jt_not (jt_tru (K:=K) (jn 2)))
    (jss_one (js_raise rfl T.c_NoFloor T.x_NoFloor (ja_cons (j_fs (jfs_cons jf_str (jfs_cons (jf_plain (jn 1)) jfs_nil))) ja_nil)))
    jss_nil)
    (jss_one (js_ret (j_ix (o_ix hu (K:=K) (w:=w)) (jn 2) j_int))))),?_⟩
    refine .inl ⟨⟨_,hS⟩,?_⟩
    refine gath_list (xs:=ns.map V.int) (fun i ys σ' H'=>H' = H∧ys = ((ns.take i).filter (fun x=>decide (k < x))).map V.int∧∃ v,σ' = [v,some (.int k)]) (by rw [List.length_map]; lia) ⟨rfl,rfl,none,rfl⟩
      (fun i ys σ' H' h=>by rw [h.2.1,List.length_map]; exact Nat.le_trans (List.length_filter_le _ _) (by rw [List.length_take]; lia)) (fun i ys σ' H' h=>by rw [h.1]; exact hS) ?_ ?_
    · rintro i x ys σ' H' hi ⟨rfl,rfl,v,rfl⟩
      rw [List.getElem?_map] at hi
      cases ee:ns[i]? with
      | none=>rw [ee] at hi; cases hi
      | some g =>
        rw [ee] at hi
        have ex:x = V.int g:=(Option.some.inj hi).symm
        subst ex
        have et:ns.take (i + 1) = ns.take i ++ [g]:=by rw [List.take_add_one,ee]; rfl
        show if decide (g > k) = true then _ else _
        refine ite2 (fun h=>?_) (fun h=>?_)
        · refine ⟨rfl,?_,_,rfl⟩
          rw [et,List.filter_append,List.filter_cons_of_pos (p:=fun (x:Int)=>decide (k < x)) h,List.filter_nil,List.map_append]
          rfl
        · refine ⟨rfl,?_,_,rfl⟩
          rw [et,List.filter_append,List.filter_cons_of_neg (p:=fun (x:Int)=>decide (k < x)) h,List.filter_nil,List.append_nil]
    · rintro ys σ' H' ⟨rfl,rfl,v,rfl⟩ D hD2
      rw [List.length_map,List.take_length]
      have s1:Same H' (upd H' D (.lst ((ns.filter (fun x=>decide (k < x))).map V.int))):=same_new hD2
      have h1:upd H' D (.lst ((ns.filter (fun x=>decide (k < x))).map V.int)) D = some (.lst ((ns.filter (fun x=>decide (k < x))).map V.int)):=upd_same
      generalize upd H' D (.lst ((ns.filter (fun x=>decide (k < x))).map V.int)) = H1 at s1 h1 ⊢
      cases ef:ns.filter (fun x=>decide (k < x)) with
      | nil =>
        rw [ef] at h1
        refine ⟨false,.inl ⟨_,SqL.of h1,rfl⟩,⟨⟨trivial,⟨rfl,.inr ⟨k,rfl,(small_txt h0 h9).1,(small_txt h0 h9).2⟩⟩,trivial⟩,fun y _=>⟨(show 1 ≤ sizeLine by decide),qE ef _ s1⟩⟩⟩
      | cons m r =>
        rw [ef] at h1
        refine ⟨true,.inl ⟨_,SqL.of h1,rfl⟩,?_⟩
        exact .inl ⟨_,.int m,SqL.of h1,atI_nat (j:=0) rfl,q m r ef _ s1⟩
noncomputable def lowR (q:Rl) (j:Nat) (p:List Nat):Int :=
  if p = q.sort then (if j = 0 then q.rank + (if q.side = "left" then 0 else 1) else if j + 1 = q.ps.length then q.rank + (if q.side = "right" then 0 else 1) else 0) else 0
noncomputable def fitR (rs:List Rl) (q:Rl) (j:Nat) (p:List Nat):List Int:=(ranksR rs p).filter fun x=>decide (lowR q j p ≤ x)
theorem rank_in {rs:List Rl} {q:Rl} (h:q ∈ rs):q.rank ∈ ranksR rs q.sort:=List.mem_map.mpr ⟨q,List.mem_filter.mpr ⟨h,by simp⟩,rfl⟩
inductive spFloor (K:PySem.W.Frag) (C:Addr) (vs : List V) (H : Hp) (Q : VK) (E : XK) : Prop | mk (a:Addr) (rl:List V) (rs:List Rl) (n j:Nat) (q:Rl) (p:List Nat) : (vs = [.ref a,.int (n:Nat),.int (j:Nat)]) → SqL K H a rl → (DatVs K H rl (rs.map Rl.dat)) → (rs.length ≤ 60) → (rs[n]? = some q) → (q.ps[j]? = some p) → ((∀ x ∈ rs,0 ≤ x.rank∧x.rank ≤ 99)) → ((ranksR rs p = []→∀ H',Same H H'→Q .non H')) → ((ranksR rs p ≠ []→fitR rs q j p = []→∀ H',Same H H'→E (.ref C) none H')) → (∀ m ∈ fitR rs q j p,(∀ x ∈ fitR rs q j p,m ≤ x)→∀ H',Same H H'→Q (.int m) H') → spFloor K C vs H Q E
noncomputable abbrev st_floor_of:Stmt:=top 15
theorem sc_floor_of:FnScope ["rules","number","place","sort","rank","side","parts","ranks"] ["rules","number","place"] (defScope st_floor_of):=⟨rfl,rfl,rfl,by decide +kernel,rfl,by decide +kernel,by decide +kernel⟩
theorem def_floor (R : Raw K mg "floor_of" st_floor_of ["rules", "number", "place"]) (T : Txt K w mg tT) (D_ranks_of : Def P w K mg base 1 "ranks_of" ["rules", "sort"] (spRanks K)) (D_rank_above : DefX P w K mg base 1 "rank_above" ["ranks", "rank"] (spAbove K C)) :
    DefX P w K mg base 2 "floor_of" ["rules","number","place"] (spFloor K C):=by
  refine R.defX sc_floor_of (fun vs H Q E h=>?_) (fun f cdv A outer s H vs Q E hr h=>?_)
  · obtain ⟨a,rl,rs,n,j,q,p,rfl,_⟩:=h
    rfl
  · obtain ⟨a,rl,rs,n,j,q,p,rfl,hS,hD,hl,hq,hp,hrk,qN,qE,qI⟩:=h
    have sc:=sc_floor_of
    have hu:=hr.units
    have hrl:rl.length = rs.length:=by have:=hD.length; rw [List.length_map] at this; exact this
    have hnl:n < rs.length:=(List.getElem?_eq_some_iff.mp hq).1
    have hjl:j < q.ps.length:=(List.getElem?_eq_some_iff.mp hp).1
    have hn:rl[n]? = some (rl[n]'(by lia)):=List.getElem?_eq_getElem (by lia)
    obtain ⟨dd,hdd,hx⟩:=hD.get hn
    rw [List.getElem?_map,hq] at hdd
    have ed:dd = q.dat:=(Option.some.inj hdd).symm
    subst ed
    obtain ⟨t,tp,ex,hT,hTp⟩:=dat_rl hx
    rw [ex] at hn
    have hpj:(q.ps.map fun l=>V.str (S l))[j]? = some (V.str (S p)):=by rw [List.getElem?_map,hp]; rfl
    have mq:q ∈ rs:=List.mem_of_getElem? hq
    have hq0:=hrk q mq
    have hit : ∀ (ns : List Int), Srt ns (ranksR rs p) → ∀ H', Same H H' →
        (lowR q j p = 0→∀ m r,ns = m :: r→Q (.int m) H')∧(lowR q j p = q.rank→p = q.sort→Q (.int q.rank) H') ∧
        (lowR q j p = q.rank + 1→ns ≠ []→(ns.filter (fun x=>decide (q.rank < x)) = []→E (.ref C) none H')∧∀ m r,ns.filter (fun x=>decide (q.rank < x)) = m :: r→Q (.int m) H'):=fun ns hs H' s'=>by
      refine ⟨fun e m r en=>?_,fun e ep=>?_,fun e hne=>⟨fun ef=>?_,fun m r ef=>?_⟩⟩
      · obtain ⟨h1,h2⟩:=hs.least en
        have ef:fitR rs q j p = ranksR rs p:=by
          unfold fitR
          rw [e,List.filter_eq_self]
          intro x hx
          obtain ⟨g,hg,rfl⟩:=List.mem_map.mp hx
          exact decide_eq_true (hrk g (List.mem_filter.mp hg).1).1
        exact qI m (by rw [ef]; exact h1) (by rw [ef]; exact h2) H' s'
      · refine qI q.rank (List.mem_filter.mpr ⟨by rw [ep]; exact rank_in mq,decide_eq_true (by lia)⟩) (fun x hx=>?_) H' s'
        have:=of_decide_eq_true (List.mem_filter.mp hx).2
        lia
      · refine qE (fun z=>hne (hs.nil.mpr z)) ?_ H' s'
        have h2:=(hs.none q.rank).mp ef
        unfold fitR
        rw [List.filter_eq_nil_iff]
        intro x hx
        have:=h2 x hx
        rw [decide_eq_true_eq]
        lia
      · obtain ⟨h1,h2,h3⟩:=hs.above ef
        refine qI m (List.mem_filter.mpr ⟨h1,decide_eq_true (by lia)⟩) (fun x hx=>?_) H' s'
        obtain ⟨x1,x2⟩:=List.mem_filter.mp hx
        have:=of_decide_eq_true x2
        exact h3 x x1 (by lia)
    refine ⟨_,(jss_cons (js_set (i:=3) sc.nd rfl (Or.inl rfl) (j_ix (o_ix hu (K:=K) (w:=w)) (j_ix (o_ix hu (K:=K) (w:=w)) (jn 0) (jn 1)) j_int))
    (jss_cons (js_set (i:=4) sc.nd rfl (Or.inl rfl) (j_ix (o_ix hu (K:=K) (w:=w)) (j_ix (o_ix hu (K:=K) (w:=w)) (jn 0) (jn 1)) j_int))
    (jss_cons (js_set (i:=5) sc.nd rfl (Or.inl rfl) (j_ix (o_ix hu (K:=K) (w:=w)) (j_ix (o_ix hu (K:=K) (w:=w)) (jn 0) (jn 1)) j_int))
    (jss_cons (js_set (i:=6) sc.nd rfl (Or.inl rfl) (j_ix (o_ix hu (K:=K) (w:=w)) (j_ix (o_ix hu (K:=K) (w:=w)) (jn 0) (jn 1)) j_int))
    (jss_cons (js_set (i:=7) sc.nd rfl (Or.inl rfl) (j_def D_ranks_of (hr.mono (by decide)) rfl (ja_cons (jn 0) (ja_cons (j_ix (o_ix hu (K:=K) (w:=w)) (jn 6) (jn 2)) ja_nil))))
    (jss_cons (js_if (jt_not (jt_tru (K:=K) (jn 7)))
    (jss_one (js_ret j_non))
    jss_nil)
    (jss_cons (js_if (jw_t (jw_and (jt_cmp (o_eqA hu (K:=K)) (j_ix (o_ix hu (K:=K) (w:=w)) (jn 6) (jn 2)) (jn 3)) (jw_and1 (jt_cmp (o_eqA hu (K:=K)) (jn 2) j_int))))
    (jss_one (js_ret (j_ife (jt_cmp (o_eqA hu (K:=K)) (jn 5) j_str) (jn 4) (j_defX D_rank_above (hr.mono (by decide)) rfl (ja_cons (jn 7) (ja_cons (jn 4) ja_nil)) pass1))))
    jss_nil)
    (jss_cons (js_if (jw_t (jw_and (jt_cmp (o_eqA hu (K:=K)) (j_ix (o_ix hu (K:=K) (w:=w)) (jn 6) (jn 2)) (jn 3)) (jw_and1 (jt_cmp (o_eqA hu (K:=K)) (jn 2) (j_op o_sub (j_callB (c_len (K:=K)) rfl T.n_len PySem.boot_len (ja_cons (jn 6) ja_nil)) j_int)))))
    (jss_one (js_ret (j_ife (jt_cmp (o_eqA hu (K:=K)) (jn 5) j_str) (jn 4) (j_defX D_rank_above (hr.mono (by decide)) rfl (ja_cons (jn 7) (ja_cons (jn 4) ja_nil)) pass1))))
    jss_nil)
    (jss_one (js_ret (j_ix (o_ix hu (K:=K) (w:=w)) (jn 7) j_int))))))))))),?_⟩
    refine .inl ⟨_,.ref t,hS,atI_nat hn,.inr ⟨_,.str (S q.sort),hT,atI_nat (j:=0) rfl,?_⟩⟩
    refine .inl ⟨_,.ref t,hS,atI_nat hn,.inr ⟨_,.int q.rank,hT,atI_nat (j:=1) rfl,?_⟩⟩
    refine .inl ⟨_,.ref t,hS,atI_nat hn,.inr ⟨_,.str q.side,hT,atI_nat (j:=2) rfl,?_⟩⟩
    refine .inl ⟨_,.ref t,hS,atI_nat hn,.inr ⟨_,.ref tp,hT,atI_nat (j:=3) rfl,?_⟩⟩
    refine .inr ⟨_,.str (S p),hTp,atI_nat hpj,⟨a,rl,rs,p,rfl,hS,hD,hl,fun H1 pp ns s1 h1 hpm hsr=>?_⟩⟩
    have hit1:=hit ns ⟨hpm,hsr⟩ H1 s1
    have hTp1:=s1.seqT hTp
    have nl:ns.length ≤ 60:=by
      have h2:=dist_len (ranksR rs p)
      have h3:(ranksR rs p).length ≤ rs.length:=by unfold ranksR; rw [List.length_map]; exact List.length_filter_le _ _
      have:=hpm.length_eq
      lia
    cases en:ns with
    | nil =>
      rw [en] at h1
      refine ⟨false,.inl ⟨_,SqL.of h1,rfl⟩,?_⟩
      exact qN ((Srt.nil ⟨hpm,hsr⟩).mp en) H1 s1
    | cons m0 r0 =>
      have hne:ns ≠ []:=by rw [en]; exact List.cons_ne_nil _ _
      refine ⟨true,.inl ⟨_,SqL.of h1,by rw [en]; rfl⟩,?_⟩
      have abv:lowR q j p = q.rank + 1→spAbove K C [.ref pp,.int q.rank] H1 Q E:=fun e =>
        ⟨pp,ns,q.rank,rfl,SqL.of h1,nl,hq0.1,hq0.2,fun ef H2 s2=>((hit ns ⟨hpm,hsr⟩ H2 (s1.trans s2)).2.2 e hne).1 ef,fun m r ef H2 s2=>((hit ns ⟨hpm,hsr⟩ H2 (s1.trans s2)).2.2 e hne).2 m r ef⟩
      refine .inr ⟨_,.str (S p),hTp1,atI_nat hpj,?_⟩
      show if (false ^^ decide ((S p:Str) = S q.sort)) = true then _ else _
      rw [Bool.false_xor]
      refine ite2 (fun hps=>?_) (fun hps=>?_)
      · have eps:p = q.sort:=S_inj (of_decide_eq_true hps)
        show if (false ^^ decide (((j:Nat):Int) = 0)) = true then _ else _
        rw [Bool.false_xor]
        refine ite2 (fun hj0=>?_) (fun hj0=>?_)
        · have ej:j = 0:=by have:=of_decide_eq_true hj0; lia
          show if (false ^^ decide (q.side = Str.ofString "left")) = true then _ else _
          rw [Bool.false_xor]
          refine ite2 (fun hs=>?_) (fun hs=>?_)
          · refine hit1.2.1 ?_ eps
            unfold lowR
            rw [if_pos eps,if_pos ej,if_pos (of_decide_eq_true hs),Int.add_zero]
          · refine abv ?_
            unfold lowR
            rw [if_pos eps,if_pos ej,if_neg (fun z=>hs (decide_eq_true z))]
        · have ej:¬ j = 0:=fun z=>hj0 (decide_eq_true (by lia))
          refine .inr ⟨_,.str (S p),hTp1,atI_nat hpj,?_⟩
          show if (false ^^ decide ((S p:Str) = S q.sort)) = true then _ else _
          rw [Bool.false_xor,if_pos hps]
          refine ⟨_,.inr hTp1,?_⟩
          show if (false ^^ decide (((j:Nat):Int) = (((q.ps.map fun l=>V.str (S l)).length:Nat):Int) - 1)) = true then _ else _
          rw [Bool.false_xor,List.length_map]
          refine ite2 (fun hj1=>?_) (fun hj1=>?_)
          · have ej1:j + 1 = q.ps.length:=by have:=of_decide_eq_true hj1; lia
            show if (false ^^ decide (q.side = Str.ofString "right")) = true then _ else _
            rw [Bool.false_xor]
            refine ite2 (fun hs=>?_) (fun hs=>?_)
            · refine hit1.2.1 ?_ eps
              unfold lowR
              rw [if_pos eps,if_neg ej,if_pos ej1,if_pos (of_decide_eq_true hs),Int.add_zero]
            · refine abv ?_
              unfold lowR
              rw [if_pos eps,if_neg ej,if_pos ej1,if_neg (fun z=>hs (decide_eq_true z))]
          · have ej1:¬ j + 1 = q.ps.length:=fun z=>hj1 (decide_eq_true (by lia))
            refine .inl ⟨_,.int m0,SqL.of h1,atI_nat (j:=0) (by rw [en]; rfl),hit1.1 ?_ m0 r0 en⟩
            unfold lowR
            rw [if_pos eps,if_neg ej,if_neg ej1]
      · have eps:¬ p = q.sort:=fun z=>hps (decide_eq_true (by rw [z]))
        refine .inr ⟨_,.str (S p),hTp1,atI_nat hpj,?_⟩
        show if (false ^^ decide ((S p:Str) = S q.sort)) = true then _ else _
        rw [Bool.false_xor,if_neg hps]
        refine .inl ⟨_,.int m0,SqL.of h1,atI_nat (j:=0) (by rw [en]; rfl),hit1.1 ?_ m0 r0 en⟩
        unfold lowR
        rw [if_neg eps]
end
end K21
--@RAISES but law
namespace K21
open PySem PySem.Spec PyProof.Rows L2 Rg
section
variable {P:Program} {w:World} {K:PySem.W.Frag} {mg:Str→Option Value} {base:Heap} {C tS tN tT:Addr}
structure TxN (K:PySem.W.Frag) (mg:Str→Option Value) (tS tN C:Addr):Prop where
  n_len:mg "len" = none
  n_any:mg "any" = none
  g_MOST_RULES:∃ t,mg "MOST_RULES" = some (.int 24 t)
  g_MOST_RANK:∃ t,mg "MOST_RANK" = some (.int 99 t)
  g_MOST_PARTS:∃ t,mg "MOST_PARTS" = some (.int 8 t)
  g_SIDES:mg "SIDES" = some (.ref tS)
  g_NO_NAMES:mg "NO_NAMES" = some (.ref tN)
  k_SIDES:∀ H,SqT K H tS [.str "left",.str "right",.str "none"]
  k_NO:∀ H,SqT K H tN [.str "",.str "end",.str "stray"]
  c_NoRule:mg "NoRule" = some (.ref C)
  x_NoRule:PySem.W.excIn K C bmVE "ValueError.__new__" = true
noncomputable def sideB (x:Str):Bool:=inV (.str x) [.str "left",.str "right",.str "none"]
noncomputable def noB (l:List Nat):Bool:=inV (.str (S l)) [.str "",.str "end",.str "stray"]
noncomputable def okB (q:Rl):Bool:=decide (0 ≤ q.rank) && decide (q.rank ≤ 99) && sideB q.side && decide (1 ≤ q.ps.length) && decide (q.ps.length ≤ 8) && !(noB q.sort || q.ps.any noB) && !(q.ps == [q.sort])
structure Fine (q:Rl):Prop where
  rk:q.rank.natAbs.log2 < 1920
  ls:low q.sort
  zs:q.sort.length ≤ 100
  sd:PyData.strOk q.side = true
  zd:q.side.length ≤ 100
  lp:∀ k ∈ q.ps,low k∧k.length ≤ 100
  zp:q.ps.length ≤ 100
theorem lowc {l:List Nat} (h:low l):∀ c ∈ (S l).cps.toList,c < 16 ^ 8:=fun c hc=>by
  have:=h c (by simpa using hc)
  lia
theorem sidec {x:Str} (h:PyData.strOk x = true):∀ c ∈ x.cps.toList,c < 16 ^ 8:=fun c hc=>by
  unfold PyData.strOk at h
  rw [Array.all_eq_true_iff_forall_mem] at h
  have:=of_decide_eq_true (h c (by simpa using hc))
  lia
theorem shown_txt:∀ (ks:List (List Nat)),PyData.shownAll (ks.map fun k=>PyData.str (S k)) = ks.map fun k=>reprText (S k)
  | []=>by simp [PyData.shownAll]
  | k :: r=>by rw [List.map_cons,PyData.shownAll,shown_txt r,PyData.shown]; rfl
theorem show_txt:∀ (ks:List (List Nat)),PyData.showableAll (ks.map fun k=>PyData.str (S k)) = true
  | []=>by simp [PyData.showableAll]
  | k :: r=>by rw [List.map_cons,PyData.showableAll,show_txt r,PyData.showable]; rfl
theorem nodict_txt:∀ (ks:List (List Nat)),PyData.hasDictAll (ks.map fun k=>PyData.str (S k)) = false
  | []=>by simp [PyData.hasDictAll]
  | k :: r=>by rw [List.map_cons,PyData.hasDictAll,nodict_txt r,PyData.hasDict]; rfl
theorem parts_shown {q:Rl} (f:Fine q):(PyData.tuple (q.ps.map fun k=>PyData.str (S k))).shown.length ≤ 1100000:=by
  rw [PyData.shown,shown_txt]
  refine Nat.le_trans (tupT_le (B:=1002) fun t ht=>?_) ?_
  · obtain ⟨k,hk,rfl⟩:=List.mem_map.mp ht
    obtain ⟨h1,h2⟩:=f.lp k hk
    have h3:=StrLaws.reprText_len (S k) (lowc h1)
    have h4:(S k).length = k.length:=S_len k
    exact Nat.le_trans h3 (by lia)
  · rw [List.length_map]
    have:=f.zp
    lia
inductive spCk (K:PySem.W.Frag) (C:Addr) (vs : List V) (H : Hp) (Q : VK) (E : XK) : Prop | mk (q:Rl) (tp:Addr) : (vs = [.str (S q.sort),.int q.rank,.str q.side,.ref tp]) → (SqT K H tp (q.ps.map fun l=>V.str (S l))) → Fine q → ((okB q = true→∀ H',Same H H'→Q .non H')) → ((okB q = false→∀ H',Same H H'→E (.ref C) none H')) → spCk K C vs H Q E
theorem okB_iff (q:Rl):okB q = true ↔ 0 ≤ q.rank∧q.rank ≤ 99∧sideB q.side = true∧1 ≤ q.ps.length∧q.ps.length ≤ 8∧noB q.sort = false∧q.ps.any noB = false∧q.ps ≠ [q.sort]:=by
  unfold okB
  simp only [Bool.and_eq_true,decide_eq_true_eq,Bool.not_eq_true',Bool.or_eq_false_iff,beq_eq_false_iff_ne,ne_eq,and_assoc]
theorem bls_map {α : Type} (g : α → Bool) (l : List α) : (l.map g).any id = l.any g :=by simp
noncomputable abbrev st_check_rule:Stmt:=top 13
theorem sc_check_rule:FnScope ["sort","rank","side","parts"] ["sort","rank","side","parts"] (defScope st_check_rule):=⟨rfl,rfl,rfl,by decide +kernel,rfl,by decide +kernel,by decide +kernel⟩
theorem def_ck (R:Raw K mg "check_rule" st_check_rule ["sort","rank","side","parts"]) (T:TxN K mg tS tN C):DefX P w K mg base 1 "check_rule" ["sort","rank","side","parts"] (spCk K C):=by
  refine R.defX sc_check_rule (fun vs H Q E h=>?_) (fun f cdv A outer s H vs Q E hr h=>?_)
  · obtain ⟨q,tp,rfl,_⟩:=h
    rfl
  · obtain ⟨q,tp,rfl,hT,fn,qO,qX⟩:=h
    have sc:=sc_check_rule
    have hu:=hr.units
    have hb:(1000000:Nat) < sizeLine:=by rw [sizeLine_eq]; decide
    have zp:=fn.zp
    have pl:=fun (x:Bool)=>x
    have rkT:q.rank.natAbs.log2 < 1920∧(Str.ofString (toString q.rank)).length ≤ 1100000:=⟨fn.rk,Nat.le_trans (int_text_len_1921 fn.rk) (by decide)⟩
    have dT:DatV K H (.ref tp) (.tuple (q.ps.map fun k=>PyData.str (S k))):=.tuple hT (tx_dat q.ps)
    have dp:=tx_deep q.ps
    have rp:∀ H1,Same H H1→∃ a d,V.ref tp = V.ref a∧DatV K H1 (.ref tp) d∧d.showable = true∧d.hasDict = false∧d.depth ≤ 60∧d.shown.length ≤ 1100000:=fun H1 s1 =>
      ⟨tp,_,rfl,dT.same s1,by rw [PyData.showable]; exact show_txt _,by rw [PyData.hasDict]; exact nodict_txt _,by simp only [PyData.depth]; lia,parts_shown fn⟩
    have rs:∃ x,V.str (S q.sort) = V.str x∧x.length ≤ 100000∧∀ c ∈ x.cps.toList,c < 16 ^ 8:=⟨_,rfl,by rw [S_len]; have:=fn.zs; lia,lowc fn.ls⟩
    have bad:okB q = false→∀ H1,Same H H1→(1 ≤ sizeLine∧E (.ref C) none H1):=fun z H1 s1=>⟨by lia,qX z H1 s1⟩
    refine ⟨_,(jss_cons (js_if (jt_not (jt_chain o_le o_le j_int (jn 1) (j_gint rfl T.g_MOST_RANK)))
    (jss_one (js_raise rfl T.c_NoRule T.x_NoRule (ja_cons (j_fs (jfs_cons jf_str (jfs_cons (jf_plain (j_gint rfl T.g_MOST_RANK)) (jfs_cons jf_str (jfs_cons (jf_plain (jn 1)) jfs_nil))))) ja_nil)))
    jss_nil)
    (jss_cons (js_if (jt_cmp (o_notinA hu (K:=K)) (jn 2) (j_glob (v:=.ref _) rfl T.g_SIDES rfl))
    (jss_one (js_raise rfl T.c_NoRule T.x_NoRule (ja_cons (j_fs (jfs_cons jf_str (jfs_cons (jf_repr (jn 2)) jfs_nil))) ja_nil)))
    jss_nil)
    (jss_cons (js_if (jt_not (jt_chain o_le o_le j_int (j_callB (c_len (K:=K)) rfl T.n_len PySem.boot_len (ja_cons (jn 3) ja_nil)) (j_gint rfl T.g_MOST_PARTS)))
    (jss_one (js_raise rfl T.c_NoRule T.x_NoRule (ja_cons (j_fs (jfs_cons jf_str (jfs_cons (jf_plain (j_gint rfl T.g_MOST_PARTS)) (jfs_cons jf_str (jfs_cons (jf_reprD (K:=K) hr.gd hu (jn 3)) jfs_nil))))) ja_nil)))
    jss_nil)
    (jss_cons (js_if (jw_t (jw_or (jt_cmp (o_inA hu (K:=K)) (jn 0) (j_glob (v:=.ref _) rfl T.g_NO_NAMES rfl)) (jw_or1 (jt_val (j_callB (c_any rfl (K:=K)) rfl T.n_any boot_any (ja_cons (j_comp (N:=["part"]) (cap:=[none]) rfl (CompScope.of rfl (by rfl)) (ji_any (K:=K) (jn 3)) (fun _ _ _ _=>(jg_name (i:=0) (show List.Nodup [("part":Str)] by decide +kernel) rfl (Or.inl rfl))) (fun _ _ _ _=>jts_nil) (fun _ _ _ _=>(j_cmp (o_inA hu (K:=K)) (jn 0) (j_glob (v:=.ref _) rfl T.g_NO_NAMES rfl)))) ja_nil))))))
    (jss_one (js_raise rfl T.c_NoRule T.x_NoRule (ja_cons (j_fs (jfs_cons jf_str (jfs_cons (jf_repr (jn 0)) (jfs_cons jf_str (jfs_cons (jf_reprD (K:=K) hr.gd hu (jn 3)) jfs_nil))))) ja_nil)))
    jss_nil)
    (jss_one (js_if (jt_cmp (o_eqA hu (K:=K)) (jn 3) (j_tup (ja_cons (jn 0) ja_nil)))
    (jss_one (js_raise rfl T.c_NoRule T.x_NoRule (ja_cons (j_fs (jfs_cons jf_str (jfs_cons (jf_repr (jn 0)) jfs_nil))) ja_nil)))
    jss_nil)))))),?_⟩
    have rk99:(toString (99:Int)).length ≤ 1100000:=by decide
    have no1:¬ (0 ≤ q.rank∧q.rank ≤ 99)→tRaise C E (tCons (tFs (cAnd cTrue (cAnd (cPlain (tC (V.int 99))) (cAnd cTrue (cAnd (cPlain (mVar 1)) cTrue))))) tNil) { nx:=fun _ H'=>Q .non H',rt:=Q } [some (.str (S q.sort)),some (.int q.rank),some (.str q.side),some (.ref tp)] H:=fun z =>
      ⟨⟨trivial,⟨rfl,.inr ⟨99,rfl,by decide,by decide +kernel⟩⟩,trivial,⟨rfl,.inr ⟨q.rank,rfl,rkT.1,rkT.2⟩⟩,trivial⟩,fun y _=>bad (Bool.eq_false_iff.mpr fun y=>z ⟨((okB_iff q).mp y).1,((okB_iff q).mp y).2.1⟩) H (Same.refl _)⟩
    show if decide ((0:Int) ≤ q.rank) = true then _ else _
    refine ite2 (fun h0=>?_) (fun h0=>no1 fun z=>h0 (decide_eq_true z.1))
    show if (!decide (q.rank ≤ (99:Int))) = true then _ else _
    refine ite2 (fun h1=>no1 fun z=>?_) (fun h1=>?_)
    · rw [decide_eq_true z.2] at h1; cases h1
    refine .inl ⟨_,.inr (T.k_SIDES H),rfl,rfl,?_⟩
    show if (true ^^ sideB q.side) = true then _ else _
    refine ite2 (fun h2=>?_) (fun hsd=>?_)
    · refine ⟨⟨trivial,⟨rfl,⟨_,rfl,by have:=fn.zd; lia,sidec fn.sd⟩⟩,trivial⟩,fun y _=>bad (Bool.eq_false_iff.mpr fun y=>?_) H (Same.refl _)⟩
      rw [((okB_iff q).mp y).2.2.1] at h2; cases h2
    refine ⟨_,.inr hT,?_⟩
    have no3:¬ (1 ≤ q.ps.length∧q.ps.length ≤ 8)→tRaise C E (tCons (tFs (cAnd cTrue (cAnd (cPlain (tC (V.int 8))) (cAnd cTrue (cAnd (cReprD K (mVar 3)) cTrue))))) tNil) { nx:=fun _ H'=>Q .non H',rt:=Q } [some (.str (S q.sort)),some (.int q.rank),some (.str q.side),some (.ref tp)] H:=fun z =>
      ⟨⟨trivial,⟨rfl,.inr ⟨8,rfl,by decide,by decide +kernel⟩⟩,trivial,⟨rfl,rp H (Same.refl _)⟩,trivial⟩,fun y _=>bad (Bool.eq_false_iff.mpr fun y=>z ⟨((okB_iff q).mp y).2.2.2.1,((okB_iff q).mp y).2.2.2.2.1⟩) H (Same.refl _)⟩
    show if decide ((1:Int) ≤ (((q.ps.map fun l=>V.str (S l)).length:Nat):Int)) = true then _ else _
    rw [List.length_map]
    refine ite2 (fun h3=>?_) (fun h3=>no3 fun z=>h3 (decide_eq_true (by lia)))
    show if (!decide (((q.ps.length:Nat):Int) ≤ (8:Int))) = true then _ else _
    refine ite2 (fun h4=>no3 fun z=>?_) (fun h4=>?_)
    · rw [decide_eq_true (by lia)] at h4; cases h4
    have no5:∀ H1,Same H H1→(noB q.sort = true∨q.ps.any noB = true)→tRaise C E (tCons (tFs (cAnd cTrue (cAnd (cRepr (mVar 0)) (cAnd cTrue (cAnd (cReprD K (mVar 3)) cTrue))))) tNil) { nx:=fun _ H'=>Q .non H',rt:=Q } [some (.str (S q.sort)),some (.int q.rank),some (.str q.side),some (.ref tp)] H1:=fun H1 s1 z =>
      ⟨⟨trivial,⟨rfl,rs⟩,trivial,⟨rfl,rp H1 s1⟩,trivial⟩,fun y _=>bad (Bool.eq_false_iff.mpr fun y=>by
        have y1:=((okB_iff q).mp y).2.2.2.2.2
        rcases z with z | z
        · rw [y1.1] at z; cases z
        · rw [y1.2.1] at z; cases z) H1 s1⟩
    refine .inl ⟨_,.inr (T.k_NO H),rfl,rfl,?_⟩
    show if (false ^^ noB q.sort) = true then _ else _
    rw [Bool.false_xor]
    refine ite2 (fun h5=>no5 H (Same.refl _) (.inl h5)) (fun h5=>?_)
    refine .inr ⟨⟨_,hT⟩,?_⟩
    refine gath_tup (xs:=q.ps.map fun l=>V.str (S l)) (fun i ys σ' H'=>H' = H∧ys = bls ((q.ps.take i).map noB)∧∃ v,σ' = [v]) (by rw [List.length_map]; lia) ⟨rfl,rfl,none,rfl⟩
      (fun i ys σ' H' h=>by rw [h.2.1]; simp [bls]; lia) (fun i ys σ' H' h=>by rw [h.1]; exact hT) ?_ ?_
    · rintro i x ys σ' H' hi ⟨rfl,rfl,v,rfl⟩
      rw [List.getElem?_map] at hi
      cases ee:q.ps[i]? with
      | none=>rw [ee] at hi; cases hi
      | some g =>
        rw [ee] at hi
        have ex:x = V.str (S g):=(Option.some.inj hi).symm
        subst ex
        have et:q.ps.take (i + 1) = q.ps.take i ++ [g]:=by rw [List.take_add_one,ee]; rfl
        refine .inl ⟨_,.inr (T.k_NO _),rfl,rfl,rfl,?_,_,rfl⟩
        rw [et,List.map_append]
        show bls ((q.ps.take i).map noB) ++ [V.bl (false ^^ noB g)] = _
        rw [Bool.false_xor]
        unfold bls
        rw [List.map_append]
        rfl
    · rintro ys σ' H' ⟨rfl,rfl,v,rfl⟩ D hD
      rw [List.length_map,List.take_length]
      refine ⟨q.ps.map noB,SqL.of upd_same,?_⟩
      have s1:Same H' (upd H' D (.lst (bls (q.ps.map noB)))):=same_new hD
      generalize upd H' D (.lst (bls (q.ps.map noB))) = H1 at s1 ⊢
      rw [bls_map]
      refine ite2 (fun h6=>no5 H1 s1 (.inr h6)) (fun h6=>?_)
      refine ⟨(show 1 ≤ sizeLine by decide),fun p hp=>?_⟩
      have s2:Same H1 (upd H1 p (.tup [V.str (S q.sort)])):=same_new hp
      have h2:SqT K (upd H1 p (.tup [V.str (S q.sort)])) p [V.str (S q.sort)]:=SqT.of upd_same
      generalize upd H1 p (.tup [V.str (S q.sort)]) = H2 at s2 h2 ⊢
      have lay1:=tx_lay (ks:=q.ps) (fun k hk=>(fn.lp k hk).1)
      have lay2:=tx_lay (ks:=[q.sort]) (fun k hk=>by rw [List.mem_singleton.mp hk]; exact fn.ls)
      refine ⟨.tuple (q.ps.map fun k=>PyData.str (S k)),.tuple ([q.sort].map fun k=>PyData.str (S k)),.tuple ((s1.trans s2).seqT hT) (tx_dat q.ps),.tuple h2 (tx_dat [q.sort]),by simp only [PyData.canLay0]; exact lay1,by simp only [PyData.canLay0]; exact lay2,by simp only [PyData.depth]; lia,?_⟩
      show if (false ^^ PyData.eqv _ _) = true then _ else _
      rw [Bool.false_xor,PyData.eqv,tx_eqv]
      refine ite2 (fun h7=>?_) (fun h7=>?_)
      · exact ⟨⟨trivial,⟨rfl,rs⟩,trivial⟩,fun y _=>bad (Bool.eq_false_iff.mpr fun y=>((okB_iff q).mp y).2.2.2.2.2.2.2 (beq_iff_eq.mp h7)) H2 (s1.trans s2)⟩
      · refine qO ((okB_iff q).mpr ⟨of_decide_eq_true h0,?_,?_,?_,?_,Bool.eq_false_iff.mpr h5,Bool.eq_false_iff.mpr h6,fun z=>h7 (beq_iff_eq.mpr z)⟩) H2 (s1.trans s2)
        · by_cases z:q.rank ≤ 99
          · exact z
          · exact absurd (by rw [decide_eq_false z]; rfl) h1
        · cases e:sideB q.side with
          | true=>rfl
          | false=>exact absurd (by rw [e]; rfl) hsd
        · have:=of_decide_eq_true h3; lia
        · by_cases z:((q.ps.length:Nat):Int) ≤ 8
          · lia
          · exact absurd (by rw [decide_eq_false z]; rfl) h4
noncomputable def rulesB (rs:List Rl):Bool:=decide (1 ≤ rs.length) && decide (rs.length ≤ 24) && rs.all okB
inductive spCks (K:PySem.W.Frag) (C:Addr) (vs : List V) (H : Hp) (Q : VK) (E : XK) : Prop | mk (a:Addr) (rl:List V) (rs:List Rl) : (vs = [.ref a]) → SqL K H a rl → (DatVs K H rl (rs.map Rl.dat)) → (rs.length ≤ 60) → ((∀ q ∈ rs,Fine q)) → ((rulesB rs = true→∀ H',Same H H'→Q .non H')) → ((rulesB rs = false→∀ H',Same H H'→E (.ref C) none H')) → spCks K C vs H Q E
theorem rulesB_iff (rs:List Rl):rulesB rs = true ↔ 1 ≤ rs.length∧rs.length ≤ 24∧∀ q ∈ rs,okB q = true:=by
  unfold rulesB
  simp only [Bool.and_eq_true,decide_eq_true_eq,List.all_eq_true,and_assoc]
theorem small33:∀ k:Fin 61,((k.val:Int)).natAbs.log2 < 1920∧(Str.ofString (toString (k.val:Int))).length ≤ 1100000:=by decide +kernel
noncomputable abbrev st_check_rules:Stmt:=top 12
theorem sc_check_rules:FnScope ["rules","many","sort","rank","side","parts"] ["rules"] (defScope st_check_rules):=⟨rfl,rfl,rfl,by decide +kernel,rfl,by decide +kernel,by decide +kernel⟩
theorem def_cks (R:Raw K mg "check_rules" st_check_rules ["rules"]) (T:TxN K mg tS tN C) (D_check_rule:DefX P w K mg base 1 "check_rule" ["sort","rank","side","parts"] (spCk K C)):DefX P w K mg base 2 "check_rules" ["rules"] (spCks K C):=by
  refine R.defX sc_check_rules (fun vs H Q E h=>?_) (fun f cdv A outer s H vs Q E hr h=>?_)
  · obtain ⟨a,rl,rs,rfl,_⟩:=h
    rfl
  · obtain ⟨a,rl,rs,rfl,hS,hD,hl,fn,qO,qX⟩:=h
    have sc:=sc_check_rules
    have hu:=hr.units
    have hb:(1000000:Nat) < sizeLine:=by rw [sizeLine_eq]; decide
    have hrl:rl.length = rs.length:=by have:=hD.length; rw [List.length_map] at this; exact this
    have sm:=small33 ⟨rs.length,by lia⟩
    refine ⟨_,(jss_cons (js_set (i:=1) sc.nd rfl (Or.inl rfl) (j_callB (c_len (K:=K)) rfl T.n_len PySem.boot_len (ja_cons (jn 0) ja_nil)))
    (jss_cons (js_if (jt_not (jt_chain o_le o_le j_int (jn 1) (j_gint rfl T.g_MOST_RULES)))
    (jss_one (js_raise rfl T.c_NoRule T.x_NoRule (ja_cons (j_fs (jfs_cons jf_str (jfs_cons (jf_plain (j_gint rfl T.g_MOST_RULES)) (jfs_cons jf_str (jfs_cons (jf_plain (jn 1)) jfs_nil))))) ja_nil)))
    jss_nil)
    (jss_one (js_for passes_loop rfl (ji_any (K:=K) (jn 0)) (jg_tup (K:=K) (n:=4) rfl (jgs_cons (jg_name (i:=2) sc.nd rfl (Or.inl rfl)) (jgs_cons (jg_name (i:=3) sc.nd rfl (Or.inl rfl)) (jgs_cons (jg_name (i:=4) sc.nd rfl (Or.inl rfl)) (jgs_cons (jg_name (i:=5) sc.nd rfl (Or.inl rfl)) jgs_nil)))))
    (jss_one (js_expr (j_defX D_check_rule (hr.mono (by decide)) rfl (ja_cons (jn 2) (ja_cons (jn 3) (ja_cons (jn 4) (ja_cons (jn 5) ja_nil)))) pass1))))))),?_⟩
    refine ⟨_,.inl hS,?_⟩
    have no1:¬ (1 ≤ rs.length∧rs.length ≤ 24)→tRaise C E (tCons (tFs (cAnd cTrue (cAnd (cPlain (tC (V.int 24))) (cAnd cTrue (cAnd (cPlain (mVar 1)) cTrue))))) tNil) { nx:=fun _ H'=>Q .non H',rt:=Q } [some (.ref a),some (.int (rl.length:Nat)),none,none,none,none] H:=fun z =>
      ⟨⟨trivial,⟨rfl,.inr ⟨24,rfl,by decide,by decide +kernel⟩⟩,trivial,⟨rfl,.inr ⟨(rl.length:Nat),rfl,by rw [hrl]; exact sm.1,by rw [hrl]; exact sm.2⟩⟩,trivial⟩,fun y _=>⟨(show 1 ≤ sizeLine by decide),qX (Bool.eq_false_iff.mpr fun y=>z ⟨((rulesB_iff rs).mp y).1,((rulesB_iff rs).mp y).2.1⟩) H (Same.refl _)⟩⟩
    show if decide ((1:Int) ≤ ((rl.length:Nat):Int)) = true then _ else _
    refine ite2 (fun h0=>?_) (fun h0=>no1 fun z=>h0 (decide_eq_true (by lia)))
    show if (!decide (((rl.length:Nat):Int) ≤ (24:Int))) = true then _ else _
    refine ite2 (fun h1=>no1 fun z=>?_) (fun h1=>?_)
    · rw [decide_eq_true (by lia)] at h1; cases h1
    have h1':rs.length ≤ 24:=by
      by_cases z:((rl.length:Nat):Int) ≤ 24
      · lia
      · exact absurd (by rw [decide_eq_false z]; rfl) h1
    have h0':1 ≤ rs.length:=by have:=of_decide_eq_true h0; lia
    refine .inl ⟨⟨_,hS⟩,for_list (K:=K) (a:=a) (xs:=rl) (fun i σ H'=>Same H H'∧(∀ q ∈ rs.take i,okB q = true)∧∃ v2 v3 v4 v5:Option V,σ = [some (.ref a),some (.int (rl.length:Nat)),v2,v3,v4,v5]) ⟨Same.refl _,(fun q hq=>by simp at hq),none,none,none,none,rfl⟩ (fun i σ H' _ h=>h.1.seq hS) ?_ ?_⟩
    · rintro i x σ H' hi ⟨s1,hok,v2,v3,v4,v5,rfl⟩
      obtain ⟨dd,hdd,hx⟩:=hD.get hi
      rw [List.getElem?_map] at hdd
      cases ee:rs[i]? with
      | none=>rw [ee] at hdd; cases hdd
      | some g =>
        rw [ee] at hdd
        have ed:dd = g.dat:=(Option.some.inj hdd).symm
        subst ed
        obtain ⟨t,tp,rfl,hT,hTp⟩:=dat_rl hx
        have et:rs.take (i + 1) = rs.take i ++ [g]:=by rw [List.take_add_one,ee]; rfl
        have hg:=List.mem_of_getElem? ee
        refine ⟨t,_,rfl,s1.seqT hT,rfl,_,_,rfl,_,_,rfl,_,_,rfl,_,_,rfl,rfl,?_⟩
        refine ⟨g,tp,rfl,s1.seqT hTp,fn g hg,fun e H2 s2=>?_,fun e H2 s2=>?_⟩
        · refine ⟨s1.trans s2,fun q hq=>?_,_,_,_,_,rfl⟩
          rw [et] at hq
          rcases List.mem_append.mp hq with z | z
          · exact hok q z
          · rw [List.mem_singleton.mp z]; exact e
        · refine qX (Bool.eq_false_iff.mpr fun y=>?_) H2 (s1.trans s2)
          rw [((rulesB_iff rs).mp y).2.2 g hg] at e; cases e
    · rintro σ H' ⟨s1,hok,v2,v3,v4,v5,rfl⟩
      rw [hrl,List.take_length] at hok
      exact qO ((rulesB_iff rs).mpr ⟨h0',h1',hok⟩) H' s1
end
end K21
--@RAISES but law
namespace K21
open PySem PySem.Spec PyProof.Rows L2 Rg
section
variable {P:Program} {w:World} {K:PySem.W.Frag} {mg:Str→Option Value} {base:Heap} {C tS tN tT:Addr}
noncomputable abbrev Th:=List Nat × Int
noncomputable def thP (t:Th):Str × Int:=(S t.1,t.2)
theorem thP_inj {t u : Th} (h : thP t = thP u) : t = u := by
  injection h with h1 h2
  exact Prod.ext (S_inj h1) h2
noncomputable def minL:List Int→Int
  | []=>-1
  | x :: r=>r.foldl min x
theorem foldl_min : ∀ (r : List Int) (x : Int), (r.foldl min x = x ∨ r.foldl min x ∈ r) ∧ r.foldl min x ≤ x ∧ ∀ y ∈ r, r.foldl min x ≤ y
  | [], x => ⟨.inl rfl, Int.le_refl _, fun y h => nomatch h⟩
  | z :: r, x => by
    obtain ⟨h1, h2, h3⟩ := foldl_min r (min x z)
    grind
theorem minL_mem {l:List Int} (h:l ≠ []):minL l ∈ l∧∀ x ∈ l,minL l ≤ x:=by
  cases l with
  | nil=>exact absurd rfl h
  | cons x r =>
    obtain ⟨h1,h2,h3⟩:=foldl_min r x
    show r.foldl min x ∈ x :: r∧_
    refine ⟨?_,fun y hy=>?_⟩
    · rcases h1 with e | e
      · rw [e]; exact List.mem_cons_self
      · exact List.mem_cons_of_mem _ e
    · show r.foldl min x ≤ y
      rcases List.mem_cons.mp hy with e | e
      · rw [e]; exact h2
      · exact h3 y e
theorem minL_of {l : List Int} {m : Int} (h : m ∈ l) (h2 : ∀ x ∈ l, m ≤ x) : m = minL l := by
  obtain ⟨a, b⟩ := minL_mem (l := l) (fun z => by simp_all)
  grind
noncomputable abbrev Sy:=List Nat × Option Int
noncomputable def syD (s:Sy):PyData:=match s.2 with
  | none=>.str (S s.1)
  | some r=>pD (S s.1,r)
noncomputable def symP (rs:List Rl) (q:Rl) (j:Nat):Sy:=(q.ps.getD j [],if ranksR rs (q.ps.getD j []) = [] then none else some (minL (fitR rs q j (q.ps.getD j []))))
noncomputable def symsP (rs:List Rl) (q:Rl):List Sy:=(List.range q.ps.length).map (symP rs q)
theorem symsP_len (rs:List Rl) (q:Rl):(symsP rs q).length = q.ps.length:=by unfold symsP; simp
noncomputable def badP (rs:List Rl) (q:Rl) (j:Nat):Bool:=decide (ranksR rs (q.ps.getD j []) ≠ []) && decide (fitR rs q j (q.ps.getD j []) = [])
noncomputable def badQ (rs:List Rl) (q:Rl):Bool:=(List.range q.ps.length).any (badP rs q)
theorem sy_dat {H:Hp} {x:V} {s:Sy} (h:DatV K H x (syD s)):(s.2 = none∧x = .str (S s.1))∨∃ r a,s.2 = some r∧x = .ref a∧SqT K H a (pV (S s.1,r)):=by
  obtain ⟨l,o⟩:=s
  cases o with
  | none=>cases h; exact .inl ⟨rfl,rfl⟩
  | some r=>obtain ⟨a,e,hT⟩:=pD_inv (show DatV K H x (pD (S l,r)) from h); exact .inr ⟨r,a,rfl,e,hT⟩
theorem dat_sy {H:Hp} {a:Addr} {l:List Nat} {r:Int} (h:SqT K H a (pV (S l,r))):DatV K H (.ref a) (syD (l,some r)):=.tuple h (.cons (.str _) (.cons (.int _) .nil))
inductive NoL:PyData→Prop
  | int (i:Int):NoL (.int i)
  | str (x:Str):NoL (.str x)
  | tuple {ds:List PyData}:(∀ d ∈ ds,NoL d)→NoL (.tuple ds)
noncomputable def WrAt (H:Hp) (b:Addr):Prop:=(∃ l,H b = some (.lst l))∨(∃ φ,H b = some (.ext φ))∨∃ k,H b = some (.dK k)
theorem sqT_wr {H:Hp} {b:Addr} {o:HO} (hb:WrAt H b) {a:Addr} {xs:List V} (h:SqT K H a xs):SqT K (upd H b o) a xs:=by
  have ne:∀ {u:HO},H a = some u→(∀ l,u ≠ .lst l)→(∀ φ,u ≠ .ext φ)→(∀ k,u ≠ .dK k)→a ≠ b:=fun {u} e n1 n2 n3 z=>by
    rcases hb with ⟨l,e2⟩ | ⟨l,e2⟩ | ⟨l,e2⟩ <;> rw [z,e2] at e
    · exact n1 l (Option.some.inj e).symm
    · exact n2 l (Option.some.inj e).symm
    · exact n3 l (Option.some.inj e).symm
  rcases h with (h | ⟨o',h⟩) | h
  · exact .inl (.inl (by rw [upd_ne (ne h (fun l z=>nomatch z) (fun l z=>nomatch z) fun l z=>nomatch z)]; exact h))
  · exact .inl (.inr ⟨o',by rw [upd_ne (ne h (fun l z=>nomatch z) (fun l z=>nomatch z) fun l z=>nomatch z)]; exact h⟩)
  · exact .inr h
mutual
theorem dat_wr {H:Hp} {b:Addr} {o:HO} (hb:WrAt H b):∀ {x:V} {d:PyData},NoL d→DatV K H x d→DatV K (upd H b o) x d
  | _,_,.int _,.int _=>.int _
  | _,_,.str _,.str _=>.str _
  | _,_,.tuple n,.tuple hS hd=>.tuple (sqT_wr hb hS) (dats_wr hb n hd)
theorem dats_wr {H:Hp} {b:Addr} {o:HO} (hb:WrAt H b):∀ {xs:List V} {ds:List PyData},(∀ d ∈ ds,NoL d)→DatVs K H xs ds→DatVs K (upd H b o) xs ds
  | _,_,_,.nil=>.nil
  | _,_,n,.cons h ht=>.cons (dat_wr hb (n _ List.mem_cons_self) h) (dats_wr hb (fun d hd=>n d (List.mem_cons_of_mem _ hd)) ht)
end
theorem pD_noL (p:Str × Int):NoL (pD p):=.tuple fun d hd=>by
  rcases List.mem_cons.mp hd with e | e
  · rw [e]; exact .str _
  · rw [List.mem_singleton.mp e]; exact .int _
theorem sy_noL (s:Sy):NoL (syD s):=by
  obtain ⟨l,o⟩:=s
  cases o with
  | none=>exact .str _
  | some r=>exact pD_noL _
inductive spSym (K:PySem.W.Frag) (C:Addr) (vs : List V) (H : Hp) (Q : VK) (E : XK) : Prop | mk (a:Addr) (rl:List V) (rs:List Rl) (n:Nat) (q:Rl) : (vs = [.ref a,.int (n:Nat)]) → SqL K H a rl → (DatVs K H rl (rs.map Rl.dat)) → (rs.length ≤ 60) → (rs[n]? = some q) → ((∀ x ∈ rs,0 ≤ x.rank∧x.rank ≤ 99)) → (q.ps.length ≤ 100) → ((badQ rs q = true→∀ H',Same H H'→E (.ref C) none H')) → ((badQ rs q = false→∀ H' t,Same H H'→DatV K H' (.ref t) (.tuple ((symsP rs q).map syD))→Q (.ref t) H')) → spSym K C vs H Q E
noncomputable abbrev st_symbols_of:Stmt:=top 21
theorem sc_symbols_of:FnScope ["rules","number","symbols","place","part","floor"] ["rules","number"] (defScope st_symbols_of):=⟨rfl,rfl,rfl,by decide +kernel,rfl,by decide +kernel,by decide +kernel⟩
theorem def_sym (R:Raw K mg "symbols_of" st_symbols_of ["rules","number"]) (T:Txt K w mg tT) (D_floor_of:DefX P w K mg base 2 "floor_of" ["rules","number","place"] (spFloor K C)):DefX P w K mg base 3 "symbols_of" ["rules","number"] (spSym K C):=by
  refine R.defX sc_symbols_of (fun vs H Q E h=>?_) (fun f cdv A outer s H vs Q E hr h=>?_)
  · obtain ⟨a,rl,rs,n,q,rfl,_⟩:=h
    rfl
  · obtain ⟨a,rl,rs,n,q,rfl,hS,hD,hl,hq,hrk,hp8,qE,qI⟩:=h
    have sc:=sc_symbols_of
    have hu:=hr.units
    have hb:(1000000:Nat) < sizeLine:=by rw [sizeLine_eq]; decide
    have hrl:rl.length = rs.length:=by have:=hD.length; rw [List.length_map] at this; exact this
    have hnl:n < rs.length:=(List.getElem?_eq_some_iff.mp hq).1
    have hn:rl[n]? = some (rl[n]'(by lia)):=List.getElem?_eq_getElem (by lia)
    obtain ⟨dd,hdd,hx⟩:=hD.get hn
    rw [List.getElem?_map,hq] at hdd
    have ed:dd = q.dat:=(Option.some.inj hdd).symm
    subst ed
    obtain ⟨t,tp,ex,hT,hTp⟩:=dat_rl hx
    rw [ex] at hn
    refine ⟨_,(jss_cons (js_set (i:=2) sc.nd rfl (Or.inl rfl) (j_lst ja_nil))
    (jss_cons (js_for passes_loop rfl (ji_enumT (K:=K) rfl T.n_enumerate (ja_cons (j_ix (o_ix hu (K:=K) (w:=w)) (j_ix (o_ix hu (K:=K) (w:=w)) (jn 0) (jn 1)) j_int) ja_nil)) (jg_tup (K:=K) (n:=2) rfl (jgs_cons (jg_name (i:=3) sc.nd rfl (Or.inl rfl)) (jgs_cons (jg_name (i:=4) sc.nd rfl (Or.inl rfl)) jgs_nil)))
    (jss_cons (js_set (i:=5) sc.nd rfl (Or.inl rfl) (j_defX D_floor_of (hr.mono (by decide)) rfl (ja_cons (jn 0) (ja_cons (jn 1) (ja_cons (jn 3) ja_nil))) pass1))
    (jss_one (js_expr (j_bm (K:=K) PySem.F.plainAttrs_list PySem.F.slot_list_append PySem.F.type_list_append m_append (jn 2) (ja_cons (j_ife (jt_cmp o_is (jn 5) j_non) (jn 4) (j_tup (ja_cons (jn 4) (ja_cons (jn 5) ja_nil)))) ja_nil))))))
    (jss_one (js_ret (j_callTy (c_tuple (K:=K)) rfl T.n_tuple boot_tuple (ja_cons (jn 2) ja_nil)))))),?_⟩
    refine ⟨(show 0 ≤ sizeLine by decide),fun b hb0=>?_⟩
    have s1:Same H (upd H b (.lst [])):=same_new hb0
    have h1:upd H b (.lst []) b = some (.lst []):=upd_same
    generalize upd H b (.lst []) = H1 at s1 h1 ⊢
    refine .inl ⟨_,.ref t,s1.seq hS,atI_nat hn,.inr ⟨_,.ref tp,s1.seqT hT,atI_nat (j:=3) rfl,⟨⟨_,s1.seqT hTp⟩,?_⟩⟩⟩
    refine for_enumT (xs:=q.ps.map fun l=>V.str (S l)) (fun i σ H'=>∃ (v3 v4 v5:Option V) (ys:List V),Same H H'∧H' b = some (.lst ys)∧DatVs K H' ys (((symsP rs q).take i).map syD)∧(∀ j,j < i→badP rs q j = false)∧σ = [some (.ref a),some (.int (n:Nat)),some (.ref b),v3,v4,v5])
      ⟨none,none,none,[],s1,h1,.nil,(fun j hj=>absurd hj (Nat.not_lt_zero _)),rfl⟩ (fun i σ H' _ h=>by obtain ⟨_,_,_,_,s2,_⟩:=h; exact s2.seqT hTp) ?_ ?_
    · rintro i x σ H' hx ⟨v3,v4,v5,ys,s2,hb2,hd2,hbad,rfl⟩ T0 hT0
      have hil:i < q.ps.length:=by have:=(List.getElem?_eq_some_iff.mp hx).1; rw [List.length_map] at this; exact this
      have hp:q.ps[i]? = some (q.ps.getD i []):=by rw [List.getD,List.getElem?_eq_getElem hil]; rfl
      rw [List.getElem?_map,hp] at hx
      have ex:=Option.some.inj hx
      subst ex
      have s3:Same H' (upd H' T0 (.tup [.int (i:Nat),V.str (S (q.ps.getD i []))])):=same_new hT0
      refine ⟨T0,_,rfl,SqT.of upd_same,rfl,_,_,rfl,_,_,rfl,rfl,?_⟩
      generalize upd H' T0 (.tup [.int (i:Nat),V.str (S (q.ps.getD i []))]) = H3 at s3 ⊢
      have s23:=s2.trans s3
      have hyl:ys.length = i:=by have:=hd2.length; rw [List.length_map,List.length_take,symsP_len] at this; lia
      have et:(symsP rs q).take (i + 1) = (symsP rs q).take i ++ [symP rs q i]:=by
        rw [List.take_add_one]
        unfold symsP
        rw [List.getElem?_map,List.getElem?_range hil]
        rfl
      have nx:badP rs q i = false→∀ j,j < i + 1→badP rs q j = false:=fun z j hj=>by
        by_cases e:j = i
        · rw [e]; exact z
        · exact hbad j (by lia)
      have es:symP rs q i = (q.ps.getD i [],if ranksR rs (q.ps.getD i []) = [] then none else some (minL (fitR rs q i (q.ps.getD i [])))):=rfl
      have eb:badP rs q i = (decide (ranksR rs (q.ps.getD i []) ≠ []) && decide (fitR rs q i (q.ps.getD i []) = [])):=rfl
      have qE2:badP rs q i = true→∀ H',Same H H'→E (.ref C) none H':=fun z=>qE (List.any_eq_true.mpr ⟨i,List.mem_range.mpr hil,z⟩)
      generalize q.ps.getD i [] = p at hp es eb ⊢
      refine ⟨a,rl,rs,n,i,q,p,rfl,s23.seq hS,hD.same s23,hl,hq,hp,hrk,fun e H4 s4=>?_,fun e1 e2 H4 s4=>?_,fun m hm hle H4 s4=>?_⟩
      · have hb4:=(s3.trans s4) _ _ hb2
        refine ⟨.inl ⟨rfl,_,SqL.of hb4⟩,ys,hb4,by lia,?_⟩
        refine ⟨_,_,_,_,fun x u e=>?_,upd_same,?_,nx (by rw [eb,decide_eq_false (by simpa using e)]; rfl),rfl⟩
        · rw [upd_ne fun z=>by rw [z,hb0] at e; cases e]; exact (s23.trans s4) x u e
        · rw [et,List.map_append]
          refine DatVs.snoc ?_ (dats_wr (.inl ⟨_,hb4⟩) (fun d hd=>by obtain ⟨z,_,rfl⟩:=List.mem_map.mp hd; exact sy_noL z) (hd2.same (s3.trans s4)))
          rw [es,if_pos e]
          exact .str _
      · exact qE2 (by rw [eb,decide_eq_true e1,decide_eq_true e2]; rfl) H4 (s23.trans s4)
      · have hb4:=(s3.trans s4) _ _ hb2
        have hne:fitR rs q i p ≠ []:=fun z=>by rw [z] at hm; cases hm
        have hr:ranksR rs p ≠ []:=fun z=>hne (by unfold fitR; rw [z]; rfl)
        have em:m = minL (fitR rs q i p):=minL_of hm hle
        refine ⟨.inl ⟨rfl,_,SqL.of hb4⟩,⟨(show 2 ≤ sizeLine by decide),fun p5 hp5=>?_⟩⟩
        have s5:Same H4 (upd H4 p5 (.tup (pV (S p,m)))):=same_new hp5
        have h5:SqT K (upd H4 p5 (.tup (pV (S p,m)))) p5 (pV (S p,m)):=SqT.of upd_same
        have g5:upd H4 p5 (.tup [V.str (S p),V.int m]) = upd H4 p5 (.tup (pV (S p,m))):=rfl
        rw [g5]
        generalize upd H4 p5 (.tup (pV (S p,m))) = H5 at s5 h5 ⊢
        have hb5:=s5 _ _ hb4
        refine ⟨ys,hb5,by lia,?_⟩
        refine ⟨_,_,_,_,fun x u e=>?_,upd_same,?_,nx (by rw [eb,decide_eq_false hne,Bool.and_false]),rfl⟩
        · rw [upd_ne fun z=>by rw [z,hb0] at e; cases e]; exact ((s23.trans s4).trans s5) x u e
        · rw [et,List.map_append]
          refine DatVs.snoc ?_ (dats_wr (.inl ⟨_,hb5⟩) (fun d hd=>by obtain ⟨z,_,rfl⟩:=List.mem_map.mp hd; exact sy_noL z) (hd2.same ((s3.trans s4).trans s5)))
          rw [es,if_neg hr,← em]
          exact dat_sy (sqT_wr (.inl ⟨_,hb5⟩) h5)
    · rintro σ H' ⟨v3,v4,v5,ys,s2,hb2,hd2,hbad,rfl⟩
      rw [List.length_map] at hd2 hbad
      rw [List.take_of_length_le (by rw [symsP_len]; exact Nat.le_refl _)] at hd2
      have hyl:ys.length = q.ps.length:=by have:=hd2.length; rw [List.length_map,symsP_len] at this; exact this
      refine ⟨_,.inl ⟨SqL.of hb2,fun t1 ht1=>?_⟩⟩
      refine qI ?_ _ t1 (s2.trans (same_new ht1)) (.tuple (SqT.of upd_same) (hd2.same (same_new ht1)))
      unfold badQ
      rw [Bool.eq_false_iff,Ne,List.any_eq_true]
      rintro ⟨j,hj,z⟩
      rw [hbad j (List.mem_range.mp hj)] at z
      cases z
end
end K21
--@RAISES but law
namespace K21
open PySem PySem.Spec PyProof.Rows L2 Rg
section
variable {P:Program} {w:World} {K:PySem.W.Frag} {mg:Str→Option Value} {base:Heap} {C tS tN tT:Addr}
noncomputable def addS (acc:List (List Nat)) (l:List Nat):List (List Nat):=if l ∈ acc then acc else acc ++ [l]
noncomputable def sortsF (rs:List Rl):List (List Nat):=rs.foldl (fun acc q=>addS acc q.sort) []
theorem sortsF_snoc (rs : List Rl) (q : Rl) : sortsF (rs ++ [q]) = addS (sortsF rs) q.sort := by unfold sortsF; simp
theorem addS_len (acc:List (List Nat)) (l:List Nat):(addS acc l).length ≤ acc.length + 1:=by unfold addS; split <;> simp
theorem sorts_len : ∀ (rs : List Rl) (acc : List (List Nat)), (rs.foldl (fun acc q => addS acc q.sort) acc).length ≤ acc.length + rs.length
  | [], acc => by simp
  | q :: r, acc => by
    have := sorts_len r (addS acc q.sort)
    have := addS_len acc q.sort
    grind
noncomputable def trV (acc:List (List Nat)):List (Key × V):=acc.map fun l=>(.inr (S l),.bl true)
theorem trV_any (acc : List (List Nat)) (l : List Nat) : ((trV acc).any fun kv => decide (kv.1 = .inr (S l))) = decide (l ∈ acc) := by
  rw [Bool.eq_iff_iff, List.any_eq_true, decide_eq_true_eq]
  constructor
  · rintro ⟨x, hx, e⟩
    obtain ⟨y, hy, rfl⟩ := List.mem_map.mp hx
    simp_all
  · intro h
    exact ⟨_, List.mem_map.mpr ⟨l, h, rfl⟩, decide_eq_true rfl⟩
theorem trV_put (acc : List (List Nat)) (l : List Nat) : putK (trV acc) (.inr (S l)) (.bl true) = trV (addS acc l) := by
  unfold putK addS
  rw [trV_any]
  by_cases h : l ∈ acc
  · rw [decide_eq_true h, if_pos rfl, if_pos h]
    unfold trV
    simp
  · rw [decide_eq_false h, if_neg (by decide), if_neg h]
    unfold trV
    simp
theorem trV_val (acc:List (List Nat)) (l:List Nat):(valV (trV acc) (.inr (S l))).isSome = decide (l ∈ acc):=by
  unfold valV
  rw [Option.isSome_map,← trV_any,Bool.eq_iff_iff,List.find?_isSome,List.any_eq_true]
inductive spSorts (K:PySem.W.Frag) (vs : List V) (H : Hp) (Q : VK) (_e : XK) : Prop | mk (a:Addr) (rl:List V) (rs:List Rl) : (vs = [.ref a]) → SqL K H a rl → (DatVs K H rl (rs.map Rl.dat)) → (rs.length ≤ 60) → (∀ (H':Hp) (p:Addr),Same H H'→H' p = some (.lst ((sortsF rs).map fun l=>V.str (S l)))→Q (.ref p) H') → spSorts K vs H Q _e
noncomputable abbrev st_sorts_of:Stmt:=top 22
theorem sc_sorts_of:FnScope ["rules","sorts","rule"] ["rules"] (defScope st_sorts_of):=⟨rfl,rfl,rfl,by decide +kernel,rfl,by decide +kernel,by decide +kernel⟩
theorem def_sorts (R:Raw K mg "sorts_of" st_sorts_of ["rules"]) (T:Txt K w mg tT):Def P w K mg base 1 "sorts_of" ["rules"] (spSorts K):=by
  refine R.defJ sc_sorts_of (fun vs H Q E h=>?_) (fun f cdv A outer s H vs Q E hr h=>?_)
  · obtain ⟨a,rl,rs,rfl,_⟩:=h
    rfl
  · obtain ⟨a,rl,rs,rfl,hS,hD,hl,q⟩:=h
    have sc:=sc_sorts_of
    have hu:=hr.units
    have hrl:rl.length = rs.length:=by have:=hD.length; rw [List.length_map] at this; exact this
    refine ⟨_,(jss_cons (js_set (i:=1) sc.nd rfl (Or.inl rfl) j_dnewK)
    (jss_cons (js_for PassesOwn.never rfl (ji_any (K:=K) (jn 0)) (jg_name (i:=2) sc.nd rfl (Or.inl rfl))
    (jss_one (js_dput hu (jn 1) (j_ix (o_ix hu (K:=K) (w:=w)) (jn 2) j_int) j_bl)))
    (jss_one (js_ret (j_callTy (c_listD rfl) rfl T.n_list boot_list (ja_cons (jn 1) ja_nil)))))),?_⟩
    intro b hb0
    have s1:Same H (upd H b (.dK [])):=same_new hb0
    have h1:upd H b (.dK []) b = some (.dK (trV [])):=upd_same
    generalize upd H b (.dK []) = H1 at s1 h1 ⊢
    refine .inl ⟨⟨_,s1.seq hS⟩,?_⟩
    refine for_list (xs:=rl) (fun i σ H'=>∃ v,Same H H'∧H' b = some (.dK (trV (sortsF (rs.take i))))∧σ = [some (.ref a),some (.ref b),v]) ⟨none,s1,h1,rfl⟩ (fun i σ H' _ h=>by obtain ⟨v,s2,_⟩:=h; exact s2.seq hS) ?_ ?_
    · rintro i x σ H' hi ⟨v,s2,hb2,rfl⟩
      obtain ⟨dd,hdd,hx⟩:=hD.get hi
      rw [List.getElem?_map] at hdd
      cases ee:rs[i]? with
      | none=>rw [ee] at hdd; cases hdd
      | some g =>
        rw [ee] at hdd
        have ed:dd = g.dat:=(Option.some.inj hdd).symm
        subst ed
        obtain ⟨t,tp,rfl,hT,_⟩:=dat_rl hx
        have et:rs.take (i + 1) = rs.take i ++ [g]:=by rw [List.take_add_one,ee]; rfl
        have hsl:(sortsF (rs.take i)).length ≤ 60:=by have:=sorts_len (rs.take i) []; rw [List.length_take] at this; unfold sortsF; simp at this ⊢; lia
        have hbg:(1000000:Nat) < sizeLine:=by rw [sizeLine_eq]; decide
        refine .inr ⟨_,.str (S g.sort),s2.seqT hT,atI_nat (j:=0) rfl,⟨_,DPut.k (k:=.inr (S g.sort)) hb2 (by unfold trV; rw [List.length_map]; lia),?_⟩⟩
        refine ⟨_,fun x u e=>?_,?_,rfl⟩
        · rw [upd_ne fun z=>by rw [z,hb0] at e; cases e]; exact s2 x u e
        · rw [upd_same,trV_put,et,sortsF_snoc]
    · rintro σ H' ⟨v,s2,hb2,rfl⟩
      rw [hrl,List.take_length] at hb2
      have hsl:(sortsF rs).length ≤ 60:=by have:=sorts_len rs []; unfold sortsF; simp at this ⊢; lia
      refine ⟨(sortsF rs).map fun l=>(S l,.bl true),?_,by rw [List.length_map]; lia,fun p hp=>?_⟩
      · rw [List.map_map]
        exact hb2
      · rw [List.map_map]
        exact q _ p (s2.trans (same_new hp)) upd_same
end
end K21
--@RAISES but law
namespace K21
open PySem PySem.Spec PyProof.Rows L2 Rg
section
variable {P:Program} {w:World} {K:PySem.W.Frag} {mg:Str→Option Value} {base:Heap} {C tS tN tT:Addr}
structure PR where
  sym:Th
  ps:List Sy
  no:Int
noncomputable def PR.dat (r:PR):PyData:=.tuple [pD (thP r.sym),.tuple (r.ps.map syD),.int r.no]
theorem pr_noL (r:PR):NoL r.dat:=.tuple fun d hd=>by
  rcases List.mem_cons.mp hd with e | hd
  · rw [e]; exact pD_noL _
  · rcases List.mem_cons.mp hd with e | hd
    · rw [e]
      exact .tuple fun d hd=>by obtain ⟨z,_,rfl⟩:=List.mem_map.mp hd; exact sy_noL z
    · rw [List.mem_singleton.mp hd]; exact .int _
theorem prs_noL (rs:List PR):∀ d ∈ rs.map PR.dat,NoL d:=fun d hd=>by obtain ⟨z,_,rfl⟩:=List.mem_map.mp hd; exact pr_noL z
theorem dat_pr {H : Hp} {x : V} {r : PR} (h : DatV K H x r.dat) : ∃ t ts tp ys, x = .ref t ∧ SqT K H t [.ref ts, .ref tp, .int r.no] ∧ SqT K H ts (pV (thP r.sym)) ∧ SqT K H tp ys ∧ DatVs K H ys (r.ps.map syD) := by
  cases h with
  | tuple hS hd =>
    cases hd with
    | cons h1 hd => cases hd with
      | cons h2 hd => cases hd with
        | cons h3 hd =>
          cases hd
          cases h3
          obtain ⟨ts, rfl, hts⟩ := pD_inv h1
          cases h2 with
          | tuple hS2 hd2 => exact ⟨_, ts, _, _, rfl, hS, hts, hS2, hd2⟩
noncomputable def srtI (l:List Int):List Int:=(dist l).mergeSort fun a b=>decide (a ≤ b)
theorem srt_eq {ns l : List Int} (h1 : ns.Perm (dist l)) (h2 : ns.Pairwise (· ≤ ·)) : ns = srtI l := by
  have h3 : (srtI l).Pairwise (· ≤ ·) := by
    have := List.pairwise_mergeSort (le := fun (a b : Int) => decide (a ≤ b)) (fun a b c x y => decide_eq_true (Int.le_trans (of_decide_eq_true x) (of_decide_eq_true y))) (fun a b => by
      rcases Int.le_total a b with z | z
      · simp_all
      simp_all) (dist l)
    exact this.imp fun h => of_decide_eq_true h
  exact List.Perm.eq_of_pairwise (fun a b _ _ x y => Int.le_antisymm x y) h2 h3 (h1.trans (List.mergeSort_perm _ _).symm)
noncomputable def rowA (rs:List Rl) (s:List Nat) (r:Int) (n:Nat):List PR:=match rs[n]? with
  | some q=>if q.sort = s∧q.rank = r then [⟨(s,r),symsP rs q,(n:Nat)⟩] else []
  | none=>[]
noncomputable def rowsU (rs:List Rl) (s:List Nat) (r:Int) (i:Nat):List PR:=(List.range i).flatMap (rowA rs s r)
theorem rowsU_succ (rs:List Rl) (s:List Nat) (r:Int) (i:Nat):rowsU rs s r (i + 1) = rowsU rs s r i ++ rowA rs s r i:=by
  unfold rowsU
  rw [List.range_succ,List.flatMap_append]
  simp
noncomputable def upR (s:List Nat) (ns:List Int) (k:Nat):List PR:=match ns[k + 1]? with
  | some r2=>[⟨(s,ns.getD k 0),[(s,some r2)],-1⟩]
  | none=>[]
noncomputable def blkU (rs:List Rl) (s:List Nat) (ns:List Int) (i:Nat):List PR:=(List.range i).flatMap fun k=>rowsU rs s (ns.getD k 0) rs.length ++ upR s ns k
theorem blkU_succ (rs:List Rl) (s:List Nat) (ns:List Int) (i:Nat):blkU rs s ns (i + 1) = blkU rs s ns i ++ (rowsU rs s (ns.getD i 0) rs.length ++ upR s ns i):=by
  unfold blkU
  rw [List.range_succ,List.flatMap_append]
  simp
noncomputable def blkF (rs:List Rl) (s:List Nat):List PR:=blkU rs s (srtI (ranksR rs s)) (srtI (ranksR rs s)).length
theorem rowA_len (rs:List Rl) (s:List Nat) (r:Int) (n:Nat):(rowA rs s r n).length ≤ 1:=by
  unfold rowA
  split
  · split <;> simp
  · simp
theorem upR_len (s:List Nat) (ns:List Int) (k:Nat):(upR s ns k).length ≤ 1:=by
  unfold upR
  split <;> simp
theorem rowsU_len (rs:List Rl) (s:List Nat) (r:Int):∀ i,(rowsU rs s r i).length ≤ i
  | 0=>by simp [rowsU]
  | i + 1=>by
    have:=rowsU_len rs s r i
    have:=rowA_len rs s r i
    rw [rowsU_succ,List.length_append]
    lia
theorem blkU_len (rs:List Rl) (s:List Nat) (ns:List Int):∀ i,(blkU rs s ns i).length ≤ i * (rs.length + 1)
  | 0=>by simp [blkU]
  | i + 1=>by
    have h1:=blkU_len rs s ns i
    have h2:=rowsU_len rs s (ns.getD i 0) rs.length
    have h3:=upR_len s ns i
    rw [blkU_succ,List.length_append,List.length_append,Nat.succ_mul]
    lia
noncomputable def PRH (K:PySem.W.Frag) (H0 H:Hp) (b:Addr) (rs:List PR):Prop:=Same H0 H∧∃ xs,H b = some (.lst xs)∧DatVs K H xs (rs.map PR.dat)
theorem PRH.grow {H0 H H':Hp} {b:Addr} {rs:List PR} (h:PRH K H0 H b rs) (s:Same H H'):PRH K H0 H' b rs:=by
  obtain ⟨s1,xs,h1,h2⟩:=h
  exact ⟨s1.trans s,xs,s _ _ h1,h2.same s⟩
theorem PRH.add {H0 H:Hp} {b t:Addr} {rs:List PR} {r:PR} {xs:List V} (s:Same H0 H) (hb:H b = some (.lst xs)) (hd:DatVs K H xs (rs.map PR.dat)) (h0:H0 b = none) (hr:DatV K H (.ref t) r.dat):PRH K H0 (upd H b (.lst (xs ++ [.ref t]))) b (rs ++ [r]):=by
  refine ⟨fun x u e=>?_,_,upd_same,dats_wr (.inl ⟨_,hb⟩) (prs_noL _) ?_⟩
  · rw [upd_ne fun z=>by rw [z,h0] at e; cases e]; exact s x u e
  · rw [List.map_append]
    exact DatVs.snoc hr hd
inductive spPos (K:PySem.W.Frag) (vs : List V) (H : Hp) (Q : VK) (_e : XK) : Prop | mk (a pa:Addr) (rl pl:List V) (rs:List Rl) (s:List Nat) : (vs = [.ref a,.ref pa,.str (S s)]) → SqL K H a rl → (DatVs K H rl (rs.map Rl.dat)) → (rs.length ≤ 60) → SqL K H pa pl → (DatVs K H pl (rs.map fun q=>.tuple ((symsP rs q).map syD))) → (ranksR rs s ≠ []) → (∀ (H':Hp) (p:Addr) (xs:List V),Same H H'→H' p = some (.lst xs)→DatVs K H' xs ((blkF rs s).map PR.dat)→Q (.ref p) H') → spPos K vs H Q _e
noncomputable abbrev st_plain_of_sort:Stmt:=top 23
theorem sc_plain_of_sort:FnScope ["rules","parts","sort","plain","ranks","rank","above","number","rule"] ["rules","parts","sort"] (defScope st_plain_of_sort):=⟨rfl,rfl,rfl,by decide +kernel,rfl,by decide +kernel,by decide +kernel⟩
theorem def_pos (R:Raw K mg "plain_of_sort" st_plain_of_sort ["rules","parts","sort"]) (T:Txt K w mg tT) (D_ranks_of:Def P w K mg base 1 "ranks_of" ["rules","sort"] (spRanks K)):Def P w K mg base 2 "plain_of_sort" ["rules","parts","sort"] (spPos K):=by
  refine R.defJ sc_plain_of_sort (fun vs H Q E h=>?_) (fun f cdv A outer s H vs Q E hr h=>?_)
  · obtain ⟨a,pa,rl,pl,rs,s,rfl,_⟩:=h
    rfl
  · obtain ⟨a,pa,rl,pl,rs,so,rfl,hS,hD,hl,hPa,hPd,hne,q⟩:=h
    have sc:=sc_plain_of_sort
    have hu:=hr.units
    have hbg:(1000000:Nat) < sizeLine:=by rw [sizeLine_eq]; decide
    have hrl:rl.length = rs.length:=by have:=hD.length; rw [List.length_map] at this; exact this
    refine ⟨_,(jss_cons (js_set (i:=3) sc.nd rfl (Or.inl rfl) (j_lst ja_nil))
    (jss_cons (js_set (i:=4) sc.nd rfl (Or.inl rfl) (j_def D_ranks_of (hr.mono (by decide)) rfl (ja_cons (jn 0) (ja_cons (jn 2) ja_nil))))
    (jss_cons (js_for PassesOwn.never rfl (ji_zip (K:=K) rfl T.n_zip (ja_cons (jn 4) (ja_cons (j_op (o_add (K:=K)) (j_slice (o_slA (K:=K)) (jn 4) (jo_some j_int) jo_none) (j_lst (ja_cons j_non ja_nil))) ja_nil))) (jg_tup (K:=K) (n:=2) rfl (jgs_cons (jg_name (i:=5) sc.nd rfl (Or.inl rfl)) (jgs_cons (jg_name (i:=6) sc.nd rfl (Or.inl rfl)) jgs_nil)))
    (jss_cons (js_for PassesOwn.never rfl (ji_enum (K:=K) rfl T.n_enumerate (ja_cons (jn 0) ja_nil)) (jg_tup (K:=K) (n:=2) rfl (jgs_cons (jg_name (i:=7) sc.nd rfl (Or.inl rfl)) (jgs_cons (jg_name (i:=8) sc.nd rfl (Or.inl rfl)) jgs_nil)))
    (jss_one (js_if (jw_t (jw_and (jt_cmp (o_eqA hu (K:=K)) (j_ix (o_ix hu (K:=K) (w:=w)) (jn 8) j_int) (jn 2)) (jw_and1 (jt_cmp (o_eqA hu (K:=K)) (j_ix (o_ix hu (K:=K) (w:=w)) (jn 8) j_int) (jn 5)))))
    (jss_one (js_expr (j_bm (K:=K) PySem.F.plainAttrs_list PySem.F.slot_list_append PySem.F.type_list_append m_append (jn 3) (ja_cons (j_tup (ja_cons (j_tup (ja_cons (jn 2) (ja_cons (jn 5) ja_nil))) (ja_cons (j_ix (o_ix hu (K:=K) (w:=w)) (jn 1) (jn 7)) (ja_cons (jn 7) ja_nil)))) ja_nil))))
    jss_nil)))
    (jss_one (js_if (jt_cmp o_isnot (jn 6) j_non)
    (jss_one (js_expr (j_bm (K:=K) PySem.F.plainAttrs_list PySem.F.slot_list_append PySem.F.type_list_append m_append (jn 3) (ja_cons (j_tup (ja_cons (j_tup (ja_cons (jn 2) (ja_cons (jn 5) ja_nil))) (ja_cons (j_tup (ja_cons (j_tup (ja_cons (jn 2) (ja_cons (jn 6) ja_nil))) ja_nil)) (ja_cons (j_gint rfl T.g_NO_RULE) ja_nil)))) ja_nil))))
    jss_nil))))
    (jss_one (js_ret (jn 3)))))),?_⟩
    refine ⟨(show 0 ≤ sizeLine by decide),fun b hb0=>?_⟩
    have g1:PRH K H (upd H b (.lst [])) b []:=⟨same_new hb0,[],upd_same,.nil⟩
    generalize upd H b (.lst []) = H1 at g1 ⊢
    refine ⟨a,rl,rs,so,rfl,g1.1.seq hS,hD.same g1.1,hl,fun H2 pr ns s2 hpr hpm hsr=>?_⟩
    have ens:=srt_eq hpm hsr
    have nl:ns.length ≤ 60:=by
      have h2:=dist_len (ranksR rs so)
      have h3:(ranksR rs so).length ≤ rs.length:=by unfold ranksR; rw [List.length_map]; exact List.length_filter_le _ _
      have:=hpm.length_eq
      lia
    have g2:=g1.grow s2
    clear g1
    refine .inl ⟨_,SqL.of hpr,fun p3 hp3=>?_⟩
    have ec:cutV (ns.map V.int) (some 1) none = (ns.drop 1).map V.int:=by
      unfold cutV
      rw [show (1:Int) = ((1:Nat):Int) from rfl,HT.sIx_nat,HT.sIx_none,List.take_of_length_le (by rw [List.length_drop]; exact Nat.le_refl _),List.length_map,List.map_drop]
      by_cases h:1 ≤ ns.length
      · rw [Nat.min_eq_left h]
      · have:ns = []:=List.length_eq_zero_iff.mp (by lia)
        rw [this]; rfl
    rw [ec]
    have s3:Same H2 (upd H2 p3 (.lst ((ns.drop 1).map V.int))):=same_new hp3
    have h3:upd H2 p3 (.lst ((ns.drop 1).map V.int)) p3 = some (.lst ((ns.drop 1).map V.int)):=upd_same
    generalize upd H2 p3 (.lst ((ns.drop 1).map V.int)) = H3 at s3 h3 ⊢
    refine ⟨(show 1 ≤ sizeLine by decide),fun p4 hp4=>?_⟩
    have s4:Same H3 (upd H3 p4 (.lst [V.non])):=same_new hp4
    have h4:upd H3 p4 (.lst [V.non]) p4 = some (.lst [V.non]):=upd_same
    generalize upd H3 p4 (.lst [V.non]) = H4 at s4 h4 ⊢
    refine .inl ⟨_,_,s4 _ _ h3,h4,by rw [List.length_map,List.length_drop]; show _ + 1 ≤ _; lia,fun p5 hp5=>?_⟩
    have s5:Same H4 (upd H4 p5 (.lst ((ns.drop 1).map V.int ++ [V.non]))):=same_new hp5
    have h5':(upd H4 p5 (.lst ((ns.drop 1).map V.int ++ [V.non]))) p5 = some (.lst ((ns.drop 1).map V.int ++ [V.non])):=upd_same
    generalize upd H4 p5 (.lst ((ns.drop 1).map V.int ++ [V.non])) = H5 at s5 h5' ⊢
    have h5:SqL K H5 p5 ((ns.drop 1).map V.int ++ [V.non]):=SqL.of h5'
    have s25:=(s3.trans s4).trans s5
    have hpr5:SqL K H5 pr (ns.map V.int):=SqL.of (s25 _ _ hpr)
    have g5:=g2.grow s25
    have hn1:1 ≤ ns.length:=by
      have h1:ns ≠ []:=fun z=>hne ((Srt.nil ⟨hpm,hsr⟩).mp z)
      exact List.length_pos_iff.mpr h1
    have hprb:pr ≠ b:=fun z=>by
      obtain ⟨_,xs,hx,hdx⟩:=g2
      rw [z,hx] at hpr
      have e:xs = ns.map V.int:=by injection hpr with hpr; injection hpr
      have:xs = []:=by cases hdx; rfl
      rw [this] at e
      have:=congrArg List.length e
      simp at this
      lia
    have hp5b:p5 ≠ b:=fun z=>by
      obtain ⟨_,xs,hx,_⟩:=(g2.grow (s3.trans s4))
      rw [z,hx] at hp5
      cases hp5
    refine ⟨false,false,⟨_,hpr5⟩,⟨_,h5⟩,?_⟩
    have hpl:pl.length = rs.length:=by have:=hPd.length; rw [List.length_map] at this; exact this
    refine for_zip (K:=K) (xs:=ns.map V.int) (ys:=(ns.drop 1).map V.int ++ [V.non]) (t1:=false) (t2:=false) (fun i σ H'=>∃ (v5 v6 v7 v8:Option V),H' pr = some (.lst (ns.map V.int))∧H' p5 = some (.lst ((ns.drop 1).map V.int ++ [V.non]))∧PRH K H H' b (blkU rs so ns i)∧σ = [some (.ref a),some (.ref pa),some (.str (S so)),some (.ref b),some (.ref pr),v5,v6,v7,v8])
      ⟨none,none,none,none,s25 _ _ hpr,h5',g5,rfl⟩ (by rw [List.length_append,List.length_map,List.length_map,List.length_drop,List.length_singleton]; lia) (fun i σ H' _ h=>by obtain ⟨_,_,_,_,e1,e2,_⟩:=h; exact ⟨SqL.of e1,SqL.of e2⟩) ?_ ?_
    · rintro i x y σ H' hx hy ⟨v5,v6,v7,v8,e1,e2,g6,rfl⟩ T0 hT0
      have hil:i < ns.length:=by have:=(List.getElem?_eq_some_iff.mp hx).1; rw [List.length_map] at this; exact this
      rw [List.getElem?_map,List.getElem?_eq_getElem hil] at hx
      have ex:x = V.int (ns.getD i 0):=by rw [List.getD,List.getElem?_eq_getElem hil]; exact (Option.some.inj hx).symm
      subst ex
      have ey:y = (match ns[i + 1]? with | some r2=>V.int r2 | none=>V.non):=by
        by_cases h:i + 1 < ns.length
        · rw [List.getElem?_append_left (by rw [List.length_map,List.length_drop]; lia),List.getElem?_map,List.getElem?_drop,Nat.add_comm 1 i,List.getElem?_eq_getElem h] at hy
          rw [List.getElem?_eq_getElem h]
          exact (Option.some.inj hy).symm
        · rw [List.getElem?_append_right (by rw [List.length_map,List.length_drop]; lia),List.length_map,List.length_drop,show i - (ns.length - 1) = 0 by lia] at hy
          rw [List.getElem?_eq_none (by lia)]
          exact (Option.some.inj hy).symm
      have s7:Same H' (upd H' T0 (.tup [V.int (ns.getD i 0),y])):=same_new hT0
      refine ⟨T0,_,rfl,SqT.of upd_same,rfl,_,_,rfl,_,_,rfl,rfl,?_⟩
      generalize upd H' T0 (.tup [V.int (ns.getD i 0),y]) = H7 at s7 ⊢
      have g7:=g6.grow s7
      have e1:=s7 _ _ e1
      have e2:=s7 _ _ e2
      have eu:upR so ns i = (match ns[i + 1]? with | some r2=>[⟨(so,ns.getD i 0),[(so,some r2)],-1⟩] | none=>[]):=rfl
      obtain ⟨r,er0⟩:∃ r,r = ns.getD i 0:=⟨_,rfl⟩
      rw [← er0] at eu ⊢
      have hbl:=blkU_len rs so ns i
      have hbl2:(blkU rs so ns i).length ≤ 4000:=Nat.le_trans hbl (Nat.le_trans (Nat.mul_le_mul (show i ≤ 60 by lia) (show rs.length + 1 ≤ 61 by lia)) (by decide))
      refine ⟨⟨_,g7.1.seq hS⟩,?_⟩
      refine for_enum (K:=K) (xs:=rl) (fun n σ H'=>∃ (v7 v8:Option V),H' pr = some (.lst (ns.map V.int))∧H' p5 = some (.lst ((ns.drop 1).map V.int ++ [V.non]))∧PRH K H H' b (blkU rs so ns i ++ rowsU rs so r n)∧σ = [some (.ref a),some (.ref pa),some (.str (S so)),some (.ref b),some (.ref pr),some (.int r),some y,v7,v8])
        ⟨v7,v8,e1,e2,by rw [show rowsU rs so r 0 = [] from rfl,List.append_nil]; exact g7,rfl⟩ (fun n σ H' _ h=>by obtain ⟨_,_,_,_,g8,_⟩:=h; exact g8.1.seq hS) ?_ ?_
      · rintro n x σ H8 hx ⟨v7,v8,f1,f2,g8,rfl⟩ T1 hT1
        obtain ⟨dd,hdd,hxd⟩:=hD.get hx
        rw [List.getElem?_map] at hdd
        cases ee:rs[n]? with
        | none=>rw [ee] at hdd; cases hdd
        | some g =>
          rw [ee] at hdd
          have ed:dd = g.dat:=(Option.some.inj hdd).symm
          subst ed
          obtain ⟨t,tp,rfl,hT,_⟩:=dat_rl hxd
          have s9:Same H8 (upd H8 T1 (.tup [.int (n:Nat),.ref t])):=same_new hT1
          refine ⟨T1,_,rfl,SqT.of upd_same,rfl,_,_,rfl,_,_,rfl,rfl,?_⟩
          generalize upd H8 T1 (.tup [.int (n:Nat),.ref t]) = H9 at s9 ⊢
          have g9:=g8.grow s9
          have f1:=s9 _ _ f1
          have f2:=s9 _ _ f2
          obtain ⟨t9,xs,hb9,hd9⟩:=id g9
          have hnl:n < rs.length:=(List.getElem?_eq_some_iff.mp ee).1
          have hxl:xs.length = (blkU rs so ns i ++ rowsU rs so r n).length:=by have:=hd9.length; rw [List.length_map] at this; exact this
          have hru:=rowsU_len rs so r n
          rw [List.length_append] at hxl
          have er:rowA rs so r n = if g.sort = so∧g.rank = r then [⟨(so,r),symsP rs g,(n:Nat)⟩] else []:=by unfold rowA; rw [ee]
          have no:¬ (g.sort = so∧g.rank = r)→PRH K H H9 b (blkU rs so ns i ++ rowsU rs so r (n + 1)):=fun z=>by rw [rowsU_succ,er,if_neg z,List.append_nil]; exact g9
          refine .inr ⟨_,.str (S g.sort),t9.seqT hT,atI_nat (j:=0) rfl,?_⟩
          show if (false ^^ decide ((S g.sort:Str) = S so)) = true then _ else _
          rw [Bool.false_xor,eqS_iff]
          refine ite2 (fun h=>?_) (fun h=>?_)
          · refine .inr ⟨_,.int g.rank,t9.seqT hT,atI_nat (j:=1) rfl,?_⟩
            show if (false ^^ decide (g.rank = r)) = true then _ else _
            rw [Bool.false_xor]
            refine ite2 (fun h2=>?_) (fun h2=>?_)
            · have hp1:pl[n]? = some (pl[n]'(by lia)):=List.getElem?_eq_getElem (by lia)
              obtain ⟨dd,hdd,hpd⟩:=hPd.get hp1
              rw [List.getElem?_map,ee] at hdd
              have ed:dd = .tuple ((symsP rs g).map syD):=(Option.some.inj hdd).symm
              subst ed
              refine ⟨.inl ⟨rfl,_,SqL.of hb9⟩,⟨(show 2 ≤ sizeLine by decide),fun p6 hp6=>?_⟩⟩
              have z6:Same H9 (upd H9 p6 (.tup (pV (thP (so,r))))):=same_new hp6
              have k6:SqT K (upd H9 p6 (.tup (pV (thP (so,r))))) p6 (pV (thP (so,r))):=SqT.of upd_same
              have q6:upd H9 p6 (.tup [V.str (S so),V.int r]) = upd H9 p6 (.tup (pV (thP (so,r)))):=rfl
              rw [q6]
              generalize upd H9 p6 (.tup (pV (thP (so,r)))) = H10 at z6 k6 ⊢
              have t10:=t9.trans z6
              refine .inl ⟨_,pl[n]'(by lia),t10.seq hPa,atI_nat hp1,⟨(show 3 ≤ sizeLine by decide),fun p7 hp7=>?_⟩⟩
              have z7:Same H10 (upd H10 p7 (.tup [.ref p6,pl[n]'(by lia),.int (n:Nat)])):=same_new hp7
              have hr7:DatV K (upd H10 p7 (.tup [.ref p6,pl[n]'(by lia),.int (n:Nat)])) (.ref p7) (PR.dat ⟨(so,r),symsP rs g,(n:Nat)⟩) :=
                .tuple (SqT.of upd_same) (.cons (.tuple (z7.seqT k6) (.cons (.str _) (.cons (.int _) .nil))) (.cons (hpd.same (t10.trans z7)) (.cons (.int _) .nil)))
              generalize upd H10 p7 (.tup [.ref p6,pl[n]'(by lia),.int (n:Nat)]) = H11 at z7 hr7 ⊢
              have z911:=z6.trans z7
              refine ⟨xs,z911 _ _ hb9,by lia,?_⟩
              refine ⟨_,_,by rw [upd_ne hprb]; exact z911 _ _ f1,by rw [upd_ne hp5b]; exact z911 _ _ f2,?_,rfl⟩
              rw [rowsU_succ,er,if_pos ⟨beq_iff_eq.mp h,of_decide_eq_true h2⟩,← List.append_assoc]
              exact PRH.add (t9.trans z911) (z911 _ _ hb9) (hd9.same z911) hb0 hr7
            · exact ⟨_,_,f1,f2,no (fun z=>h2 (decide_eq_true z.2)),rfl⟩
          · exact ⟨_,_,f1,f2,no (fun z=>h (beq_iff_eq.mpr z.1)),rfl⟩
      · rintro σ H8 ⟨v7,v8,f1,f2,g8,rfl⟩
        rw [hrl] at g8
        have eb:blkU rs so ns (i + 1) = blkU rs so ns i ++ rowsU rs so r rs.length ++ upR so ns i:=by rw [blkU_succ,← er0,List.append_assoc]
        obtain ⟨t9,xs,hb9,hd9⟩:=id g8
        have hxl:xs.length = (blkU rs so ns i ++ rowsU rs so r rs.length).length:=by have:=hd9.length; rw [List.length_map] at this; exact this
        have hru:=rowsU_len rs so r rs.length
        rw [List.length_append] at hxl
        cases en:ns[i + 1]? with
        | none =>
          rw [en] at ey eu
          subst ey
          refine ⟨_,_,_,_,f1,f2,?_,rfl⟩
          rw [eb,eu,List.append_nil]
          exact g8
        | some r2 =>
          rw [en] at ey eu
          subst ey
          refine ⟨.inl ⟨rfl,_,SqL.of hb9⟩,⟨(show 2 ≤ sizeLine by decide),fun p6 hp6=>⟨(show 2 ≤ sizeLine by decide),fun p7 hp7=>⟨(show 1 ≤ sizeLine by decide),fun p8 hp8=>⟨(show 3 ≤ sizeLine by decide),fun p9 hp9=>?_⟩⟩⟩⟩⟩
          dsimp only at hp7 hp8 hp9 ⊢
          have z6:Same H8 (upd H8 p6 (.tup [V.str (S so),V.int r])):=same_new hp6
          have k6:SqT K (upd H8 p6 (.tup [V.str (S so),V.int r])) p6 [V.str (S so),V.int r]:=SqT.of upd_same
          generalize upd H8 p6 (.tup [V.str (S so),V.int r]) = H9 at z6 k6 hp7 hp8 hp9 ⊢
          have z7:Same H9 (upd H9 p7 (.tup [V.str (S so),V.int r2])):=same_new hp7
          have k7:SqT K (upd H9 p7 (.tup [V.str (S so),V.int r2])) p7 [V.str (S so),V.int r2]:=SqT.of upd_same
          generalize upd H9 p7 (.tup [V.str (S so),V.int r2]) = H10 at z7 k7 hp8 hp9 ⊢
          have z8:Same H10 (upd H10 p8 (.tup [.ref p7])):=same_new hp8
          have k8:SqT K (upd H10 p8 (.tup [.ref p7])) p8 [.ref p7]:=SqT.of upd_same
          generalize upd H10 p8 (.tup [.ref p7]) = H11 at z8 k8 hp9 ⊢
          have z9:Same H11 (upd H11 p9 (.tup [.ref p6,.ref p8,.int (-1)])):=same_new hp9
          have k9:SqT K (upd H11 p9 (.tup [.ref p6,.ref p8,.int (-1)])) p9 [.ref p6,.ref p8,.int (-1)]:=SqT.of upd_same
          generalize upd H11 p9 (.tup [.ref p6,.ref p8,.int (-1)]) = H12 at z9 k9 ⊢
          have z89:=z8.trans z9
          have z69:=(z6.trans z7).trans z89
          have hr9:DatV K H12 (.ref p9) (PR.dat ⟨(so,r),[(so,some r2)],-1⟩) :=
            .tuple k9 (.cons (.tuple ((z7.trans z89).seqT k6) (.cons (.str _) (.cons (.int _) .nil))) (.cons (.tuple (z9.seqT k8) (.cons (.tuple (z89.seqT k7) (.cons (.str _) (.cons (.int _) .nil))) .nil)) (.cons (.int _) .nil)))
          refine ⟨xs,z69 _ _ hb9,by lia,?_⟩
          refine ⟨_,_,_,_,by rw [upd_ne hprb]; exact z69 _ _ f1,by rw [upd_ne hp5b]; exact z69 _ _ f2,?_,rfl⟩
          rw [eb,eu]
          exact PRH.add (t9.trans z69) (z69 _ _ hb9) (hd9.same z69) hb0 hr9
    · rintro σ H' ⟨v5,v6,v7,v8,e1,e2,⟨s6,xs,hx,hdx⟩,rfl⟩
      rw [List.length_map] at hdx
      refine q H' b xs s6 hx ?_
      unfold blkF
      rw [← ens]
      exact hdx
end
end K21
--@RAISES but law
namespace K21
open PySem PySem.Spec PyProof.Rows L2 Rg
section
variable {P:Program} {w:World} {K:PySem.W.Frag} {mg:Str→Option Value} {base:Heap} {C tS tN tT:Addr}
inductive Der (rows:List PR):Th→Prop
  | mk (r:PR):r ∈ rows→(∀ s ∈ r.ps,∀ k,s.2 = some k→Der rows (s.1,k))→Der rows r.sym
noncomputable def inF (F:List Th) (s:Sy):Bool:=match s.2 with
  | none=>true
  | some k=>decide ((s.1,k) ∈ F)
theorem inF_iff {F:List Th} {s:Sy}:inF F s = true ↔ ∀ k,s.2 = some k→(s.1,k) ∈ F:=by
  unfold inF
  obtain ⟨l,o⟩:=s
  cases o with
  | none=>simp
  | some k=>simp
noncomputable def ClF (rows:List PR) (F:List Th):Prop:=∀ r ∈ rows,r.ps.all (inF F) = true→r.sym ∈ F
theorem der_in {rows:List PR} {F:List Th} (h:ClF rows F) {t:Th} (d:Der rows t):t ∈ F:=by
  induction d with
  | mk r hr _ ih=>exact h r hr (List.all_eq_true.mpr fun s hs=>inF_iff.mpr fun k hk=>ih s hs k hk)
noncomputable def cntF (rows:List PR) (F:List Th):Nat:=(rows.filter fun r=>decide (r.sym ∉ F)).length
theorem cnt_le {α : Type} {p p' : α → Bool} (h : ∀ x, p' x = true → p x = true) : ∀ l : List α, (l.filter p').length ≤ (l.filter p).length
  | [] => by simp
  | x :: r => by
    have ih := cnt_le h r
    grind
theorem cnt_lt {α : Type} {p p' : α → Bool} (h : ∀ x, p' x = true → p x = true) {a : α} (ha : p a = true) (ha' : p' a = false) : ∀ l : List α, a ∈ l → (l.filter p').length < (l.filter p).length
  | x :: r, hm => by
    have ih := cnt_le h r
    rw [List.filter_cons, List.filter_cons]
    rcases List.mem_cons.mp hm with e | e
    · subst e
      rw [if_pos ha, if_neg (by rw [ha']; decide)]
      simp
      lia
    · have ih2 := cnt_lt h ha ha' r e
      by_cases h1 : p' x = true
      · simp_all
      · rw [if_neg h1]
        split
        · simp; lia
        · exact ih2
theorem cntF_add {rows : List PR} {F : List Th} {r : PR} (hr : r ∈ rows) (hn : r.sym ∉ F) : cntF rows (F ++ [r.sym]) < cntF rows F := by
  refine cnt_lt (a := r) (fun x hx => ?_) (decide_eq_true hn) (decide_eq_false (by simp)) rows hr
  have := of_decide_eq_true hx
  exact decide_eq_true fun z => this (List.mem_append.mpr (.inl z))
structure PROk (r:PR):Prop where
  l1:low r.sym.1
  z1:r.sym.1.length ≤ 100
  r0:0 ≤ r.sym.2
  r9:r.sym.2 ≤ 99
theorem mem_thP {F:List Th} {t:Th}:thP t ∈ F.map thP ↔ t ∈ F:=by
  constructor
  · intro h
    obtain ⟨y,hy,e⟩:=List.mem_map.mp h
    rw [← thP_inj e]; exact hy
  · intro h; exact List.mem_map.mpr ⟨t,h,rfl⟩
inductive FrAt (P:Program) (w:World) (K:PySem.W.Frag) (H:Hp) (d:Addr) (F:List Th) : Prop | mk (ps : _) : PAt P w K H d ps → (ps.map (·.1) = F.map thP) → FrAt P w K H d F
theorem FrAt.same {H H':Hp} {d:Addr} {F:List Th} (h:FrAt P w K H d F) (s:Same H H'):FrAt P w K H' d F:=by
  obtain ⟨ps,h1,h2⟩:=h
  exact ⟨ps,h1.same s,h2⟩
theorem small2:∀ k:Fin 100,(Str.ofString (toString (k.val:Int))).length ≤ 1002:=by decide +kernel
theorem pD_shown {t:Th} (h1:low t.1) (h2:t.1.length ≤ 100) (h3:0 ≤ t.2) (h4:t.2 ≤ 99):(pD (thP t)).shown.length ≤ 1100000:=by
  unfold pD thP
  rw [PyData.shown,PyData.shownAll,PyData.shownAll,PyData.shownAll,PyData.shown,PyData.shown]
  refine Nat.le_trans (tupT_le (B:=1002) fun z hz=>?_) (show 2 * (1002 + 2) + 3 ≤ 1100000 by decide)
  rcases List.mem_cons.mp hz with e | hz
  · rw [e]
    have h3:=StrLaws.reprText_len (S t.1) (lowc h1)
    have h4:(S t.1).length = t.1.length:=S_len t.1
    exact Nat.le_trans h3 (by lia)
  · rw [List.mem_singleton.mp hz]
    have:=small2 ⟨t.2.toNat,by lia⟩
    have e:((t.2.toNat:Nat):Int) = t.2:=Int.toNat_of_nonneg h3
    simp only [e] at this
    exact this
structure TxB (K:PySem.W.Frag) (mg:Str→Option Value) (C:Addr):Prop where
  c_Barren:mg "Barren" = some (.ref C)
  x_Barren:PySem.W.excIn K C bmVE "ValueError.__new__" = true
  n_all:mg "all" = none
  n_isinstance:mg "isinstance" = none
  n_str:mg "str" = none
inductive spFr (K:PySem.W.Frag) (C:Addr) (vs : List V) (H : Hp) (Q : VK) (E : XK) : Prop | mk (a:Addr) (xs:List V) (rows:List PR) : (vs = [.ref a]) → SqL K H a xs → (DatVs K H xs (rows.map PR.dat)) → (rows.length ≤ 50000) → ((∀ r ∈ rows,PROk r)) → ((∀ r ∈ rows,r.ps.length ≤ 100)) → (((∀ r ∈ rows,Der rows r.sym)→∀ H',Same H H'→Q .non H')) → (((∃ r ∈ rows,¬ Der rows r.sym)→∀ H',Same H H'→E (.ref C) none H')) → spFr K C vs H Q E
noncomputable abbrev st_check_fruitful:Stmt:=top 24
theorem sc_check_fruitful:FnScope ["plain","fruitful","grown","symbol","parts","rule"] ["plain"] (defScope st_check_fruitful):=⟨rfl,rfl,rfl,by decide +kernel,rfl,by decide +kernel,by decide +kernel⟩
theorem def_fr (R:Raw K mg "check_fruitful" st_check_fruitful ["plain"]) (T:TxB K mg C):DefX P w K mg base 1 "check_fruitful" ["plain"] (spFr K C):=by
  refine R.defX sc_check_fruitful (fun vs H Q E h=>?_) (fun f cdv A outer s H vs Q E hr h=>?_)
  · obtain ⟨a,xs,rows,rfl,_⟩:=h
    rfl
  · obtain ⟨a,xs,rows,rfl,hS,hD,hl,hok,hps,qI,qE⟩:=h
    have sc:=sc_check_fruitful
    have hu:=hr.units
    have hxl:xs.length = rows.length:=by have:=hD.length; rw [List.length_map] at this; exact this
    have row:∀ (i:Nat) (x:V),xs[i]? = some x→∃ r t ts tp ys,rows[i]? = some r∧x = .ref t∧SqT K H t [.ref ts,.ref tp,.int r.no]∧SqT K H ts (pV (thP r.sym))∧SqT K H tp ys∧DatVs K H ys (r.ps.map syD):=fun i x hx=>by
      obtain ⟨dd,hdd,hxd⟩:=hD.get hx
      rw [List.getElem?_map] at hdd
      cases ee:rows[i]? with
      | none=>rw [ee] at hdd; cases hdd
      | some r =>
        rw [ee] at hdd
        have ed:dd = r.dat:=(Option.some.inj hdd).symm
        subst ed
        obtain ⟨t,ts,tp,ys,e,h1,h2,h3,h4⟩:=dat_pr hxd
        exact ⟨r,t,ts,tp,ys,rfl,e,h1,h2,h3,h4⟩
    refine ⟨_,(jss_cons (js_set (i:=1) sc.nd rfl (Or.inr rfl) (j_dnewP (P:=P) (w:=w)))
    (jss_cons (js_set (i:=2) sc.nd rfl (Or.inl rfl) j_bl)
    (jss_cons (js_while passes_loop (jt_tru (K:=K) (jn 2))
    (jss_cons (js_set (i:=2) sc.nd rfl (Or.inl rfl) j_bl)
    (jss_one (js_for passes_loop rfl (ji_any (K:=K) (jn 0)) (jg_tup (K:=K) (n:=3) rfl (jgs_cons (jg_name (i:=3) sc.nd rfl (Or.inl rfl)) (jgs_cons (jg_name (i:=4) sc.nd rfl (Or.inl rfl)) (jgs_cons (jg_name (i:=5) sc.nd rfl (Or.inl rfl)) jgs_nil))))
    (jss_one (js_if (jw_t (jw_and (jt_cmp (o_notinM hu (K:=K) (P:=P) (w:=w)) (jn 3) (jn 1)) (jw_and1 (jt_val (j_callB (c_all rfl (K:=K)) rfl T.n_all boot_all (ja_cons (j_comp (N:=["part","fruitful"]) (cap:=[none,some 1]) rfl (CompScope.of rfl (by rfl)) (ji_any (K:=K) (jn 4)) (fun _ _ _ _=>(jg_name (i:=0) (show List.Nodup [("part":Str),("fruitful":Str)] by decide +kernel) rfl (Or.inl rfl))) (fun _ _ _ _=>jts_nil) (fun _ _ _ _=>(j_or (j_callB (c_isiD (K:=K)) rfl T.n_isinstance boot_isinstance (ja_cons (jn 0) (ja_cons (j_bltn (v:=.ty "str") rfl T.n_str boot_str rfl) ja_nil))) (j_one (j_cmp (o_inM hu (K:=K) (P:=P) (w:=w)) (jn 0) (jn 1)))))) ja_nil))))))
    (jss_cons (js_pput (K:=K) (P:=P) (w:=w) hu (jn 1) (jn 3) j_bl)
    (jss_one (js_set (i:=2) sc.nd rfl (Or.inl rfl) j_bl)))
    jss_nil))))))
    (jss_one (js_for passes_loop rfl (ji_any (K:=K) (jn 0)) (jg_tup (K:=K) (n:=3) rfl (jgs_cons (jg_name (i:=3) sc.nd rfl (Or.inl rfl)) (jgs_cons (jg_name (i:=4) sc.nd rfl (Or.inl rfl)) (jgs_cons (jg_name (i:=5) sc.nd rfl (Or.inl rfl)) jgs_nil))))
    (jss_one (js_if (jt_cmp (o_notinM hu (K:=K) (P:=P) (w:=w)) (jn 3) (jn 1))
    (jss_one (js_raise rfl T.c_Barren T.x_Barren (ja_cons (j_fs (jfs_cons jf_str (jfs_cons (jf_reprD (K:=K) hr.gd hu (jn 3)) jfs_nil))) ja_nil)))
    jss_nil))))))),?_⟩
    intro d hd0 hsm
    have s1:Same H (upd H d (PObj P w d [])):=same_new hd0
    have f1:FrAt P w K (upd H d (PObj P w d [])) d []:=⟨[],⟨upd_same,by simp,hsm,Nat.zero_le _,fun p hp=>nomatch hp⟩,rfl⟩
    generalize upd H d (PObj P w d []) = H1 at s1 f1 ⊢
    refine ⟨fun m σ H'=>∃ (F:List Th) (g:Bool) (v3 v4 v5:Option V),Same H H'∧FrAt P w K H' d F∧F.Nodup∧F.length ≤ rows.length∧(∀ t ∈ F,Der rows t)∧(g = true→m = cntF rows F + 1)∧(g = false→m = 0∧ClF rows F)∧F.length + cntF rows F ≤ rows.length∧σ = [some (.ref a),some (.ref d),some (.bl g),v3,v4,v5],⟨cntF rows [] + 1,[],true,none,none,none,s1,f1,List.nodup_nil,Nat.zero_le _,(fun t ht=>nomatch ht),(fun _=>rfl),(fun z=>nomatch z),by unfold cntF; simp; exact List.length_filter_le _ _,rfl⟩,?_⟩
    rintro m σ H2 ⟨F,g,v3,v4,v5,s2,f2,nd,fl,fd,m1,m2,fc,rfl⟩
    refine ⟨g,rfl,?_⟩
    show if g = true then _ else _
    refine ite2 (fun hg=>?_) (fun hg=>?_)
    · refine ⟨_,fun σ' H' h=>h,?_⟩
      refine .inl ⟨⟨_,s2.seq hS⟩,?_⟩
      refine for_list (xs:=xs) (fun i σ H'=>∃ (F':List Th) (g':Bool) (v3 v4 v5:Option V),Same H H'∧FrAt P w K H' d F'∧F'.Nodup∧(∀ t ∈ F',Der rows t)∧F'.length + cntF rows F' ≤ rows.length∧(g' = true→cntF rows F' < cntF rows F)∧(g' = false→F' = F∧∀ (j:Nat) (r:PR),j < i→rows[j]? = some r→r.ps.all (inF F) = true→r.sym ∈ F)∧cntF rows F' ≤ cntF rows F∧σ = [some (.ref a),some (.ref d),some (.bl g'),v3,v4,v5])
        ⟨F,false,v3,v4,v5,s2,f2,nd,fd,fc,(fun z=>nomatch z),(fun _=>⟨rfl,fun j r hj=>absurd hj (Nat.not_lt_zero _)⟩),Nat.le_refl _,rfl⟩ (fun i σ H' _ h=>by obtain ⟨_,_,_,_,_,s3,_⟩:=h; exact s3.seq hS) ?_ ?_
      · rintro i x σ H3 hx ⟨F',g',v3,v4,v5,s3,f3,nd3,fd3,fc3,g1,g2,g3,rfl⟩
        obtain ⟨r,t,ts,tp,ys,hri,rfl,hT,hts,htp,hys⟩:=row i x hx
        have mr:r ∈ rows:=List.mem_of_getElem? hri
        refine ⟨t,_,rfl,s3.seqT hT,rfl,_,_,rfl,_,_,rfl,_,_,rfl,rfl,?_⟩
        obtain ⟨ps,hP,eps⟩:=id f3
        have ein:∀ u:Th,decide (thP u ∈ ps.map (·.1)) = decide (u ∈ F'):=fun u=>by
          rw [eps,Bool.eq_iff_iff,decide_eq_true_eq,decide_eq_true_eq]
          exact mem_thP
        refine .inl ⟨ps,thP r.sym,hP,s3.seqT hts,?_⟩
        show if (true ^^ decide (thP r.sym ∈ ps.map (·.1))) = true then _ else _
        rw [ein]
        have stay:(r.ps.all (inF F') = true→r.sym ∈ F')→∀ H4,Same H3 H4→∃ (F':List Th) (g'':Bool) (w3 w4 w5:Option V),Same H H4∧FrAt P w K H4 d F'∧F'.Nodup∧(∀ t ∈ F',Der rows t)∧F'.length + cntF rows F' ≤ rows.length∧(g'' = true→cntF rows F' < cntF rows F)∧(g'' = false→F' = F∧∀ (j:Nat) (r:PR),j < i + 1→rows[j]? = some r→r.ps.all (inF F) = true→r.sym ∈ F)∧cntF rows F' ≤ cntF rows F∧[some (.ref a),some (.ref d),some (.bl g'),some (.ref ts),some (.ref tp),some (.int r.no)] = [some (.ref a),some (.ref d),some (.bl g''),w3,w4,w5]:=fun h H4 s4 =>
          ⟨F',g',_,_,_,s3.trans s4,f3.same s4,nd3,fd3,fc3,g1,fun z=>by
            obtain ⟨e,g9⟩:=g2 z
            refine ⟨e,fun j r' hj hr' ha=>?_⟩
            by_cases hji:j = i
            · rw [hji,hri] at hr'
              have er:=Option.some.inj hr'
              subst er
              rw [← e] at ha ⊢
              exact h ha
            · exact g9 j r' (by lia) hr' ha,g3,rfl⟩
        refine ite2 (fun h=>?_) (fun h=>?_)
        · have hnot:r.sym ∉ F':=fun z=>by rw [decide_eq_true z] at h; exact absurd h (by decide)
          have hyl:ys.length = r.ps.length:=by have:=hys.length; rw [List.length_map] at this; exact this
          refine .inr ⟨⟨_,s3.seqT htp⟩,?_⟩
          refine gath_tup (K:=K) (xs:=ys) (fun j zs σ' H'=>H' = H3∧zs = ((r.ps.take j).map (inF F')).map V.bl∧∃ v,σ' = [v,some (.ref d)]) (by have:=hps r mr; lia) ⟨rfl,rfl,none,rfl⟩
            (fun j zs σ' H' h=>by rw [h.2.1,List.length_map,List.length_map,List.length_take]; lia) (fun j zs σ' H' h=>by rw [h.1]; exact s3.seqT htp) ?_ ?_
          · rintro j y zs σ' H' hy ⟨rfl,rfl,v,rfl⟩
            obtain ⟨dd,hdd,hyd⟩:=hys.get hy
            rw [List.getElem?_map] at hdd
            cases es:r.ps[j]? with
            | none=>rw [es] at hdd; cases hdd
            | some sy =>
              rw [es] at hdd
              have ed:dd = syD sy:=(Option.some.inj hdd).symm
              subst ed
              have et:r.ps.take (j + 1) = r.ps.take j ++ [sy]:=by rw [List.take_add_one,es]; rfl
              have fin:∀ bb,bb = inF F' sy→((r.ps.take j).map (inF F')).map V.bl ++ [V.bl bb] = ((r.ps.take (j + 1)).map (inF F')).map V.bl:=fun bb e=>by rw [et,List.map_append,List.map_append,e]; rfl
              rcases sy_dat hyd with ⟨e1,rfl⟩ | ⟨k,b,e1,rfl,hb⟩
              · refine ⟨"str",true,.str _,rfl,?_⟩
                exact ⟨rfl,fin true (by unfold inF; rw [e1]),_,rfl⟩
              · refine ⟨"tuple",false,.tuple (s3.seqT hb),rfl,?_⟩
                refine .inl ⟨ps,(S sy.1,k),hP,s3.seqT hb,?_⟩
                refine ⟨rfl,fin _ ?_,_,rfl⟩
                have:=ein (sy.1,k)
                unfold inF
                rw [e1,Bool.false_xor]
                exact this
          · rintro zs σ' H' ⟨rfl,rfl,v,rfl⟩ D hD2
            rw [hyl,List.take_length]
            have s4:Same H' (upd H' D (.lst ((r.ps.map (inF F')).map V.bl))):=same_new hD2
            have h4:SqL K (upd H' D (.lst ((r.ps.map (inF F')).map V.bl))) D (bls (r.ps.map (inF F'))):=SqL.of upd_same
            generalize upd H' D (.lst ((r.ps.map (inF F')).map V.bl)) = H4 at s4 h4 ⊢
            refine ⟨_,h4,?_⟩
            have eall:(r.ps.map (inF F')).all id = r.ps.all (inF F'):=by rw [List.all_map]; rfl
            rw [eall]
            show if r.ps.all (inF F') = true then _ else _
            refine ite2 (fun ha=>?_) (fun ha=>?_)
            · have hP4:=hP.same s4
              have hts4:=(s3.trans s4).seqT hts
              have hnp:thP r.sym ∉ ps.map (·.1):=by rw [eps]; exact fun z=>hnot (mem_thP.mp z)
              have hpl:ps.length = F'.length:=by have:=congrArg List.length eps; simpa using this
              refine ⟨ps,thP r.sym,hP4,hts4,hnp,?_⟩
              have hcl:=cntF_add mr hnot
              refine ⟨F' ++ [r.sym],true,_,_,_,fun x u e=>?_,⟨_,PAt.put hP4 hts4 hnp (by lia),?_⟩,?_,fun u hu=>?_,?_,(fun _=>by lia),(fun z=>nomatch z),by lia,rfl⟩
              · rw [upd_ne fun z=>by rw [z,hd0] at e; cases e]; exact (s3.trans s4) x u e
              · rw [List.map_append,eps,List.map_append]; rfl
              · rw [List.nodup_append]
                refine ⟨nd3,by simp,fun x hx y hy=>?_⟩
                rw [List.mem_singleton.mp hy]
                exact fun e=>hnot (e ▸ hx)
              · rcases List.mem_append.mp hu with z | z
                · exact fd3 u z
                · rw [List.mem_singleton.mp z]
                  exact .mk r mr fun sy hsy k hk=>fd3 _ (inF_iff.mp (List.all_eq_true.mp ha sy hsy) k hk)
              · rw [List.length_append,List.length_singleton]; lia
            · exact stay (fun z=>absurd z ha) H4 s4
        · have hin : r.sym ∈ F' := by
            by_cases z:r.sym ∈ F'
            · exact z
            · rw [decide_eq_false z] at h; exact absurd rfl h
          exact stay (fun _=>hin) H3 (Same.refl _)
      · rintro σ H3 ⟨F',g',v3,v4,v5,s3,f3,nd3,fd3,fc3,g1,g2,g3,rfl⟩
        have em:=m1 hg
        cases hg':g' with
        | true =>
          have:=g1 hg'
          exact ⟨cntF rows F' + 1,by lia,F',true,_,_,_,s3,f3,nd3,by lia,fd3,(fun _=>rfl),(fun z=>nomatch z),fc3,rfl⟩
        | false =>
          obtain ⟨e,g9⟩:=g2 hg'
          subst e
          refine ⟨0,by lia,F',false,_,_,_,s3,f3,nd3,by lia,fd3,(fun z=>nomatch z),(fun _=>⟨rfl,fun r hr ha=>?_⟩),fc3,rfl⟩
          obtain ⟨j,hj,e⟩:=List.mem_iff_getElem.mp hr
          exact g9 j r (by lia) (by rw [List.getElem?_eq_getElem hj,e]) ha
    · have hg:g = false:=Bool.eq_false_iff.mpr hg
      obtain ⟨_,cl⟩:=m2 hg
      refine .inl ⟨⟨_,s2.seq hS⟩,?_⟩
      refine for_list (xs:=xs) (fun i σ H'=>∃ (v3 v4 v5:Option V),Same H H'∧FrAt P w K H' d F∧(∀ (j:Nat) (r:PR),j < i→rows[j]? = some r→r.sym ∈ F)∧σ = [some (.ref a),some (.ref d),some (.bl g),v3,v4,v5])
        ⟨v3,v4,v5,s2,f2,(fun j r hj=>absurd hj (Nat.not_lt_zero _)),rfl⟩ (fun i σ H' _ h=>by obtain ⟨_,_,_,s3,_⟩:=h; exact s3.seq hS) ?_ ?_
      · rintro i x σ H3 hx ⟨v3,v4,v5,s3,f3,hin,rfl⟩
        obtain ⟨r,t,ts,tp,ys,hri,rfl,hT,hts,htp,hys⟩:=row i x hx
        have mr:r ∈ rows:=List.mem_of_getElem? hri
        refine ⟨t,_,rfl,s3.seqT hT,rfl,_,_,rfl,_,_,rfl,_,_,rfl,rfl,?_⟩
        obtain ⟨ps,hP,eps⟩:=id f3
        refine .inl ⟨ps,thP r.sym,hP,s3.seqT hts,?_⟩
        have ein:decide (thP r.sym ∈ ps.map (·.1)) = decide (r.sym ∈ F):=by
          rw [eps,Bool.eq_iff_iff,decide_eq_true_eq,decide_eq_true_eq]
          exact mem_thP
        show if (true ^^ decide (thP r.sym ∈ ps.map (·.1))) = true then _ else _
        rw [ein]
        refine ite2 (fun h=>?_) (fun h=>?_)
        · have hnot:r.sym ∉ F:=fun z=>by rw [decide_eq_true z] at h; exact absurd h (by decide)
          have ok:=hok r mr
          refine ⟨⟨trivial,⟨rfl,ts,pD (thP r.sym),rfl,.tuple (s3.seqT hts) (.cons (.str _) (.cons (.int _) .nil)),by unfold pD; simp [PyData.showable,PyData.showableAll]; exact (small_txt ok.r0 ok.r9).1,by unfold pD; simp [PyData.hasDict,PyData.hasDictAll],by unfold pD; simp only [PyData.depth,PyData.depthAll]; lia,pD_shown ok.l1 ok.z1 ok.r0 ok.r9⟩,trivial⟩,fun y _=>⟨(show 1 ≤ sizeLine by decide),qE ⟨r,mr,fun z=>hnot (der_in cl z)⟩ _ s3⟩⟩
        · have hin2 : r.sym ∈ F := by
            by_cases z:r.sym ∈ F
            · exact z
            · rw [decide_eq_false z] at h; exact absurd rfl h
          refine ⟨_,_,_,s3,f3,fun j r' hj hr'=>?_,rfl⟩
          by_cases hji:j = i
          · rw [hji,hri] at hr'
            have er:=Option.some.inj hr'
            subst er
            exact hin2
          · exact hin j r' (by lia) hr'
      · rintro σ H3 ⟨v3,v4,v5,s3,f3,hin,rfl⟩
        refine qI (fun r hr=>?_) H3 s3
        obtain ⟨j,hj,e⟩:=List.mem_iff_getElem.mp hr
        exact fd _ (hin j r (by lia) (by rw [List.getElem?_eq_getElem hj,e]))
end
end K21
--@RAISES but law
namespace K21
open PySem PySem.Spec PyProof.Rows L2 Rg
section
variable {P:Program} {w:World} {K:PySem.W.Frag} {mg:Str→Option Value} {base:Heap} {C tS tN tT:Addr}
inductive Rch (rs:List Rl):List Nat→Prop
  | first {q:Rl}:rs[0]? = some q→Rch rs q.sort
  | step {q:Rl} {p:List Nat}:q ∈ rs→Rch rs q.sort→p ∈ q.ps→Rch rs p
noncomputable def psOf (rs:List Rl) (s:List Nat):List (List Nat):=(rs.filter fun q=>q.sort == s).flatMap Rl.ps
noncomputable def left (rs:List Rl) (F:List (List Nat)):Nat:=((rs.filter fun q=>decide (q.sort ∉ F)).map fun q=>q.ps.length).sum
theorem left_add {F : List (List Nat)} {s : List Nat} (h : s ∉ F) : ∀ rs : List Rl, left rs (F ++ [s]) + (psOf rs s).length = left rs F
  | [] => rfl
  | q :: r => by
    have ih := left_add h r
    unfold left psOf at ih ⊢
    rw [List.filter_cons, List.filter_cons, List.filter_cons]
    grind
theorem psOf_snoc (rs : List Rl) (g : Rl) (s : List Nat) : psOf (rs ++ [g]) s = psOf rs s ++ (if g.sort = s then g.ps else []) := by
  unfold psOf
  by_cases e : g.sort = s
  · simp_all
  simp_all
theorem mem_psOf {rs:List Rl} {s p:List Nat}:p ∈ psOf rs s ↔ ∃ q ∈ rs,q.sort = s∧p ∈ q.ps:=by
  unfold psOf
  rw [List.mem_flatMap]
  constructor
  · rintro ⟨q,hq,hp⟩
    obtain ⟨h1,h2⟩:=List.mem_filter.mp hq
    exact ⟨q,h1,by simpa using h2,hp⟩
  · rintro ⟨q,h1,h2,h3⟩
    exact ⟨q,List.mem_filter.mpr ⟨h1,by simpa using h2⟩,h3⟩
structure RcI (rs:List Rl) (m:Nat) (F W:List (List Nat)):Prop where
  em:m = W.length + left rs F
  all:∀ x ∈ F ++ W,Rch rs x
  fst:∀ q,rs[0]? = some q→q.sort ∈ F∨q.sort ∈ W
  cl:∀ q ∈ rs,q.sort ∈ F→∀ p ∈ q.ps,p ∈ F∨p ∈ W
  lw:∀ x ∈ W,low x
  le:m ≤ 1 + left rs []
theorem RcI.old {rs : List Rl} {m : Nat} {F W : List (List Nat)} {s : List Nat} (I : RcI rs m F (W ++ [s])) (h : s ∈ F) : ∃ m', m' < m ∧ RcI rs m' F W := by
  have em := I.em
  have le := I.le
  rw [List.length_append, List.length_singleton] at em
  have mv : ∀ x, x ∈ F ∨ x ∈ W ++ [s] → x ∈ F ∨ x ∈ W := fun x hx => by
    rcases hx with z | z
    · exact .inl z
    · rcases List.mem_append.mp z with z | z
      · exact .inr z
      simp_all
  refine ⟨W.length + left rs F, by lia, rfl, fun x hx => I.all x ?_, fun q hq => mv _ (I.fst q hq), fun q hq hs p hp => mv _ (I.cl q hq hs p hp), fun x hx => I.lw x (List.mem_append.mpr (.inl hx)), by lia⟩
  rcases List.mem_append.mp hx with z | z
  · exact List.mem_append.mpr (.inl z)
  simp_all
theorem RcI.new {rs : List Rl} {m : Nat} {F W : List (List Nat)} {s : List Nat} (I : RcI rs m F (W ++ [s])) (h : s ∉ F) (hlw : ∀ q ∈ rs, ∀ p ∈ q.ps, low p) : ∃ m', m' < m ∧ RcI rs m' (F ++ [s]) (W ++ psOf rs s) := by
  have em := I.em
  have le := I.le
  have la := left_add h rs
  rw [List.length_append, List.length_singleton] at em
  have mv : ∀ x, x ∈ F ∨ x ∈ W ++ [s] → x ∈ F ++ [s] ∨ x ∈ W ++ psOf rs s := fun x hx => by grind
  have rs1 : Rch rs s := I.all s (List.mem_append.mpr (.inr (List.mem_append.mpr (.inr List.mem_cons_self))))
  refine ⟨(W ++ psOf rs s).length + left rs (F ++ [s]), by rw [List.length_append]; lia, rfl, fun x hx => ?_, fun q hq => mv _ (I.fst q hq), fun q hq hs p hp => ?_, fun x hx => ?_, by rw [List.length_append]; lia⟩
  · rcases List.mem_append.mp hx with z | z
    · rcases List.mem_append.mp z with z | z
      · exact I.all x (List.mem_append.mpr (.inl z))
      · rw [List.mem_singleton.mp z]; exact rs1
    · rcases List.mem_append.mp z with z | z
      · exact I.all x (List.mem_append.mpr (.inr (List.mem_append.mpr (.inl z))))
      · obtain ⟨q, h1, h2, h3⟩ := mem_psOf.mp z
        exact .step h1 (by rw [h2]; exact rs1) h3
  · rcases List.mem_append.mp hs with z | z
    · exact mv _ (I.cl q hq z p hp)
    · exact .inr (List.mem_append.mpr (.inr (mem_psOf.mpr ⟨q, hq, List.mem_singleton.mp z, hp⟩)))
  · rcases List.mem_append.mp hx with z | z
    · exact I.lw x (List.mem_append.mpr (.inl z))
    · obtain ⟨q, h1, _, h3⟩ := mem_psOf.mp z
      exact hlw q h1 x h3
theorem RcI.done {rs:List Rl} {m:Nat} {F:List (List Nat)} (I:RcI rs m F []) {x:List Nat} (h:Rch rs x):x ∈ F:=by
  induction h with
  | first hq =>
    rcases I.fst _ hq with z | z
    · exact z
    · cases z
  | step hq _ hp ih =>
    rcases I.cl _ hq ih _ hp with z | z
    · exact z
    · cases z
structure TxI (K:PySem.W.Frag) (mg:Str→Option Value) (C:Addr):Prop where
  c_Idle:mg "Idle" = some (.ref C)
  x_Idle:PySem.W.excIn K C bmVE "ValueError.__new__" = true
inductive spRc (K:PySem.W.Frag) (C:Addr) (vs : List V) (H : Hp) (Q : VK) (E : XK) : Prop | mk (a:Addr) (rl:List V) (rs:List Rl) : (vs = [.ref a]) → SqL K H a rl → (DatVs K H rl (rs.map Rl.dat)) → (1 ≤ rs.length) → (rs.length ≤ 60) → ((∀ q ∈ rs,low q.sort∧q.sort.length ≤ 100∧q.ps.length ≤ 100∧∀ p ∈ q.ps,low p)) → (((∀ q ∈ rs,Rch rs q.sort)→∀ H',Same H H'→Q .non H')) → (((∃ q ∈ rs,¬ Rch rs q.sort)→∀ H',Same H H'→E (.ref C) none H')) → spRc K C vs H Q E
theorem left_le : ∀ {rs : List Rl}, (∀ q ∈ rs, q.ps.length ≤ 100) → left rs [] ≤ 100 * rs.length
  | [], _ => Nat.le_refl _
  | q :: r, h => by
    have ih := left_le (rs := r) fun x hx => h x (List.mem_cons_of_mem _ hx)
    have h1 := h q List.mem_cons_self
    unfold left at ih ⊢
    grind
noncomputable abbrev st_check_reached:Stmt:=top 25
theorem sc_check_reached:FnScope ["rules","reached","waiting","sort","rule"] ["rules"] (defScope st_check_reached):=⟨rfl,rfl,rfl,by decide +kernel,rfl,by decide +kernel,by decide +kernel⟩
theorem def_rc (R:Raw K mg "check_reached" st_check_reached ["rules"]) (T:TxI K mg C):DefX P w K mg base 1 "check_reached" ["rules"] (spRc K C):=by
  refine R.defX sc_check_reached (fun vs H Q E h=>?_) (fun f cdv A outer s H vs Q E hr h=>?_)
  · obtain ⟨a,rl,rs,rfl,_⟩:=h
    rfl
  · obtain ⟨a,rl,rs,rfl,hS,hD,hl1,hl,hlw,qI,qE⟩:=h
    have sc:=sc_check_reached
    have hu:=hr.units
    have hbg:(1000000:Nat) < sizeLine:=by rw [sizeLine_eq]; decide
    have hrl:rl.length = rs.length:=by have:=hD.length; rw [List.length_map] at this; exact this
    have rul:∀ (n:Nat) (x:V),rl[n]? = some x→∃ (q:Rl) (t tp:Addr),rs[n]? = some q∧x = .ref t∧SqT K H t [.str (S q.sort),.int q.rank,.str q.side,.ref tp]∧SqT K H tp (q.ps.map fun l=>V.str (S l)):=fun n x hx=>by
      obtain ⟨dd,hdd,hxd⟩:=hD.get hx
      rw [List.getElem?_map] at hdd
      cases ee:rs[n]? with
      | none=>rw [ee] at hdd; cases hdd
      | some g =>
        rw [ee] at hdd
        have ed:dd = g.dat:=(Option.some.inj hdd).symm
        subst ed
        obtain ⟨t,tp,e,hT,hTp⟩:=dat_rl hxd
        exact ⟨g,t,tp,rfl,e,hT,hTp⟩
    have hn0:rl[0]? = some (rl[0]'(by lia)):=List.getElem?_eq_getElem (by lia)
    obtain ⟨q0,t0,tp0,hq0,ex0,hT0,_⟩:=rul 0 _ hn0
    rw [ex0] at hn0
    have lq0:=hlw q0 (List.mem_of_getElem? hq0)
    have hll:=left_le fun q hq=>(hlw q hq).2.2.1
    refine ⟨_,(jss_cons (js_set (i:=1) sc.nd rfl (Or.inl rfl) j_dnewK)
    (jss_cons (js_set (i:=2) sc.nd rfl (Or.inl rfl) (j_lst (ja_cons (j_ix (o_ix hu (K:=K) (w:=w)) (j_ix (o_ix hu (K:=K) (w:=w)) (jn 0) j_int) j_int) ja_nil)))
    (jss_cons (js_while passes_loop (jt_tru (K:=K) (jn 2))
    (jss_cons (js_set (i:=3) sc.nd rfl (Or.inl rfl) (j_bm0 (K:=K) PySem.F.plainAttrs_list PySem.F.slot_list_pop PySem.F.type_list_pop m_pop (jn 2)))
    (jss_one (js_if (jt_cmp (o_notinM hu (K:=K) (P:=P) (w:=w)) (jn 3) (jn 1))
    (jss_cons (js_dput hu (jn 1) (jn 3) j_bl)
    (jss_one (js_for passes_loop rfl (ji_any (K:=K) (jn 0)) (jg_name (i:=4) sc.nd rfl (Or.inl rfl))
    (jss_one (js_if (jt_cmp (o_eqA hu (K:=K)) (j_ix (o_ix hu (K:=K) (w:=w)) (jn 4) j_int) (jn 3))
    (jss_one (js_expr (j_bm (K:=K) PySem.F.plainAttrs_list PySem.F.slot_list_extend PySem.F.type_list_extend (m_extendA (K:=K)) (jn 2) (ja_cons (j_ix (o_ix hu (K:=K) (w:=w)) (jn 4) j_int) ja_nil))))
    jss_nil)))))
    jss_nil))))
    (jss_one (js_for passes_loop rfl (ji_any (K:=K) (jn 0)) (jg_name (i:=4) sc.nd rfl (Or.inl rfl))
    (jss_one (js_if (jt_cmp (o_notinM hu (K:=K) (P:=P) (w:=w)) (j_ix (o_ix hu (K:=K) (w:=w)) (jn 4) j_int) (jn 1))
    (jss_cons (js_set (i:=3) sc.nd rfl (Or.inl rfl) (j_ix (o_ix hu (K:=K) (w:=w)) (jn 4) j_int))
    (jss_one (js_raise rfl T.c_Idle T.x_Idle (ja_cons (j_fs (jfs_cons jf_str (jfs_cons (jf_repr (jn 3)) jfs_nil))) ja_nil))))
    jss_nil))))))),?_⟩
    intro d hd0
    have s1:Same H (upd H d (.dK [])):=same_new hd0
    have h1:upd H d (.dK []) d = some (.dK (trV [])):=upd_same
    generalize upd H d (.dK []) = H1 at s1 h1 ⊢
    refine .inl ⟨_,.ref t0,s1.seq hS,atI_nat hn0,.inr ⟨_,.str (S q0.sort),s1.seqT hT0,atI_nat (j:=0) rfl,⟨(show 1 ≤ sizeLine by decide),fun wa hw0=>?_⟩⟩⟩
    have s2:Same H1 (upd H1 wa (.lst [V.str (S q0.sort)])):=same_new hw0
    have h2:upd H1 wa (.lst [V.str (S q0.sort)]) wa = some (.lst ([q0.sort].map fun l=>V.str (S l))):=upd_same
    generalize upd H1 wa (.lst [V.str (S q0.sort)]) = H2 at s2 h2 ⊢
    have hw00:H wa = none:=s1.free hw0
    have hdw:d ≠ wa:=fun z=>by rw [z,hw0] at h1; cases h1
    refine ⟨fun m σ H'=>∃ (F W:List (List Nat)) (v3 v4:Option V),Same H H'∧H' d = some (.dK (trV F))∧H' wa = some (.lst (W.map fun l=>V.str (S l)))∧RcI rs m F W∧F.length ≤ 100000 - m∧σ = [some (.ref a),some (.ref d),some (.ref wa),v3,v4],⟨1 + left rs [],[],[q0.sort],none,none,s1.trans s2,s2 _ _ h1,h2,⟨rfl,fun x hx=>by rw [List.mem_singleton.mp hx]; exact .first hq0,fun q hq=>by rw [hq0] at hq; cases hq; exact .inr List.mem_cons_self,(fun q hq hs=>nomatch hs),fun x hx=>by rw [List.mem_singleton.mp hx]; exact lq0.1,Nat.le_refl _⟩,Nat.zero_le _,rfl⟩,?_⟩
    rintro m σ H3 ⟨F,W,v3,v4,s3,hd3,hw3,I,fl,rfl⟩
    have ile:=I.le
    have iem:=I.em
    refine ⟨!(W.map fun l=>V.str (S l)).isEmpty,.inl ⟨_,SqL.of hw3,rfl⟩,?_⟩
    show if (!(W.map fun l=>V.str (S l)).isEmpty) = true then _ else _
    refine ite2 (fun hne=>?_) (fun hne=>?_)
    · refine ⟨_,fun σ' H' h=>h,?_⟩
      have hne:W ≠ []:=fun z=>by rw [z] at hne; exact absurd hne (by decide)
      obtain ⟨W0,x,rfl⟩:∃ W0 x,W = W0 ++ [x]:=⟨W.dropLast,W.getLast hne,(List.dropLast_concat_getLast hne).symm⟩
      have hlx:low x:=I.lw x (List.mem_append.mpr (.inr List.mem_cons_self))
      rw [List.length_append,List.length_singleton] at iem
      have eW:((W0 ++ [x]).map fun l=>V.str (S l)) = (W0.map fun l=>V.str (S l)) ++ [V.str (S x)]:=by rw [List.map_append]; rfl
      rw [eW] at hw3
      refine ⟨.inl ⟨rfl,_,SqL.of hw3⟩,_,V.str (S x),hw3,by rw [List.length_append,List.length_singleton,Nat.add_sub_cancel,List.getElem?_append_right (Nat.le_refl _),Nat.sub_self]; rfl,?_⟩
      rw [List.dropLast_concat]
      have s4:Same H (upd H3 wa (.lst (W0.map fun l=>V.str (S l)))):=fun b u e=>by
        rw [upd_ne fun z=>by rw [z,hw00] at e; cases e]; exact s3 b u e
      have hw4:upd H3 wa (.lst (W0.map fun l=>V.str (S l))) wa = some (.lst (W0.map fun l=>V.str (S l))):=upd_same
      have hd4:upd H3 wa (.lst (W0.map fun l=>V.str (S l))) d = some (.dK (trV F)):=by rw [upd_ne hdw]; exact hd3
      generalize upd H3 wa (.lst (W0.map fun l=>V.str (S l))) = H4 at s4 hw4 hd4 ⊢
      refine .inr (.inr ⟨_,DGet.k (k:=.inr (S x)) hd4,?_⟩)
      show if (true ^^ (valV (trV F) (.inr (S x))).isSome) = true then _ else _
      rw [trV_val]
      refine ite2 (fun h=>?_) (fun h=>?_)
      · have hnot:x ∉ F:=fun z=>by rw [decide_eq_true z] at h; exact absurd h (by decide)
        obtain ⟨m',hm,I'⟩:=I.new hnot fun q hq=>(hlw q hq).2.2.2
        have ile':=I'.le
        refine ⟨_,DPut.k (k:=.inr (S x)) hd4 (by unfold trV; rw [List.length_map]; lia),?_⟩
        rw [trV_put,show addS F x = F ++ [x] from if_neg hnot]
        have s5:Same H (upd H4 d (.dK (trV (F ++ [x])))):=fun b u e=>by
          rw [upd_ne fun z=>by rw [z,hd0] at e; cases e]; exact s4 b u e
        have hd5:upd H4 d (.dK (trV (F ++ [x]))) d = some (.dK (trV (F ++ [x]))):=upd_same
        have hw5:upd H4 d (.dK (trV (F ++ [x]))) wa = some (.lst (W0.map fun l=>V.str (S l))):=by rw [upd_ne (Ne.symm hdw)]; exact hw4
        generalize upd H4 d (.dK (trV (F ++ [x]))) = H5 at s5 hd5 hw5 ⊢
        refine .inl ⟨⟨_,s5.seq hS⟩,?_⟩
        refine for_list (xs:=rl) (fun i σ H'=>∃ (v4:Option V),Same H H'∧H' d = some (.dK (trV (F ++ [x])))∧H' wa = some (.lst ((W0 ++ psOf (rs.take i) x).map fun l=>V.str (S l)))∧σ = [some (.ref a),some (.ref d),some (.ref wa),some (.str (S x)),v4])
          ⟨v4,s5,hd5,by rw [show psOf (rs.take 0) x = [] from rfl,List.append_nil]; exact hw5,rfl⟩ (fun i σ H' _ h=>by obtain ⟨_,s6,_⟩:=h; exact s6.seq hS) ?_ ?_
        · rintro i y σ H6 hy ⟨v4,s6,hd6,hw6,rfl⟩
          obtain ⟨g,t,tp,hgi,rfl,hT,hTp⟩:=rul i y hy
          have et:rs.take (i + 1) = rs.take i ++ [g]:=by rw [List.take_add_one,hgi]; rfl
          have mg1:g ∈ rs:=List.mem_of_getElem? hgi
          have hpl:(psOf (rs.take i) x).length ≤ (psOf rs x).length:=by
            have e:rs = rs.take i ++ rs.drop i:=(List.take_append_drop _ _).symm
            have:psOf rs x = psOf (rs.take i) x ++ psOf (rs.drop i) x:=by
              conv=>lhs; rw [e]
              unfold psOf
              rw [List.filter_append,List.flatMap_append]
            rw [this,List.length_append]
            lia
          have hI':=I'.em
          rw [List.length_append] at hI'
          refine .inr ⟨_,.str (S g.sort),s6.seqT hT,atI_nat (j:=0) rfl,?_⟩
          show if (false ^^ decide ((S g.sort:Str) = S x)) = true then _ else _
          rw [Bool.false_xor,eqS_iff]
          refine ite2 (fun h=>?_) (fun h=>?_)
          · refine ⟨.inl ⟨rfl,_,SqL.of hw6⟩,.inr ⟨_,.ref tp,s6.seqT hT,atI_nat (j:=3) rfl,?_⟩⟩
            have hg8:=(hlw g mg1).2.2.1
            refine ⟨_,_,hw6,.inr (s6.seqT hTp),by rw [List.length_map,List.length_map,List.length_append]; lia,?_⟩
            refine ⟨_,fun b u e=>?_,?_,?_,rfl⟩
            · rw [upd_ne fun z=>by rw [z,hw00] at e; cases e]; exact s6 b u e
            · rw [upd_ne hdw]; exact hd6
            · rw [upd_same,et,psOf_snoc,if_pos (beq_iff_eq.mp h),← List.append_assoc,List.map_append (l₁:=W0 ++ psOf (rs.take i) x)]
          · refine ⟨_,s6,hd6,?_,rfl⟩
            rw [et,psOf_snoc,if_neg (fun z=>h (beq_iff_eq.mpr z)),List.append_nil]
            exact hw6
        · rintro σ H6 ⟨v4,s6,hd6,hw6,rfl⟩
          rw [hrl,List.take_length] at hw6
          exact ⟨m',hm,F ++ [x],W0 ++ psOf rs x,_,_,s6,hd6,hw6,I',by rw [List.length_append,List.length_singleton]; lia,rfl⟩
      · have hin : x ∈ F := by
          by_cases z:x ∈ F
          · exact z
          · rw [decide_eq_false z] at h; exact absurd rfl h
        obtain ⟨m',hm,I'⟩:=I.old hin
        exact ⟨m',hm,F,W0,_,_,s4,hd4,hw4,I',by lia,rfl⟩
    · have eW : W = [] := by
        cases W with
        | nil=>rfl
        | cons _ _=>exact absurd rfl hne
      subst eW
      refine .inl ⟨⟨_,s3.seq hS⟩,?_⟩
      refine for_list (xs:=rl) (fun i σ H'=>∃ (v3 v4:Option V),H' = H3∧(∀ (j:Nat) (q:Rl),j < i→rs[j]? = some q→q.sort ∈ F)∧σ = [some (.ref a),some (.ref d),some (.ref wa),v3,v4])
        ⟨v3,v4,rfl,(fun j r hj=>absurd hj (Nat.not_lt_zero _)),rfl⟩ (fun i σ H' _ h=>by obtain ⟨_,_,rfl,_⟩:=h; exact s3.seq hS) ?_ ?_
      · rintro i y σ H6 hy ⟨v3,v4,rfl,hin,rfl⟩
        obtain ⟨g,t,tp,hgi,rfl,hT,hTp⟩:=rul i y hy
        have mg1:g ∈ rs:=List.mem_of_getElem? hgi
        refine .inr ⟨_,.str (S g.sort),s3.seqT hT,atI_nat (j:=0) rfl,.inr (.inr ⟨_,DGet.k (k:=.inr (S g.sort)) hd3,?_⟩)⟩
        show if (true ^^ (valV (trV F) (.inr (S g.sort))).isSome) = true then _ else _
        rw [trV_val]
        refine ite2 (fun h=>?_) (fun h=>?_)
        · have hnot:g.sort ∉ F:=fun z=>by rw [decide_eq_true z] at h; exact absurd h (by decide)
          have lg:=hlw g mg1
          refine .inr ⟨_,.str (S g.sort),s3.seqT hT,atI_nat (j:=0) rfl,?_⟩
          refine ⟨⟨trivial,⟨rfl,_,rfl,by rw [S_len]; lia,lowc lg.1⟩,trivial⟩,fun y _=>⟨(show 1 ≤ sizeLine by decide),qE ⟨g,mg1,fun z=>hnot (I.done z)⟩ _ s3⟩⟩
        · have hin2 : g.sort ∈ F := by
            by_cases z:g.sort ∈ F
            · exact z
            · rw [decide_eq_false z] at h; exact absurd rfl h
          refine ⟨_,_,rfl,fun j r' hj hr'=>?_,rfl⟩
          by_cases hji:j = i
          · rw [hji,hgi] at hr'
            have er:=Option.some.inj hr'
            subst er
            exact hin2
          · exact hin j r' (by lia) hr'
      · rintro σ H6 ⟨v3,v4,rfl,hin,rfl⟩
        refine qI (fun q hq=>?_) H6 s3
        obtain ⟨j,hj,e⟩:=List.mem_iff_getElem.mp hq
        exact I.all _ (List.mem_append.mpr (.inl (hin j q (by lia) (by rw [List.getElem?_eq_getElem hj,e]))))
end
end K21
--@RAISES but law
namespace K21
open PySem PySem.Spec PyProof.Rows L2 Rg
section
variable {P:Program} {w:World} {K:PySem.W.Frag} {mg:Str→Option Value} {base:Heap} {C tS tN tT CF CB CI:Addr}
noncomputable def topR (rs:List Rl):PR:=⟨([],0),[((rs.getD 0 ⟨[],0,"",[]⟩).sort,some ((srtI (ranksR rs (rs.getD 0 ⟨[],0,"",[]⟩).sort)).getD 0 0))],-1⟩
noncomputable def plainF (rs:List Rl):List PR:=topR rs :: (sortsF rs).flatMap (blkF rs)
theorem mem_sorts:∀ (rs:List Rl) (acc:List (List Nat)) (s:List Nat),s ∈ rs.foldl (fun acc q=>addS acc q.sort) acc ↔ s ∈ acc∨∃ q ∈ rs,q.sort = s
  | [],acc,s=>by simp
  | q :: r,acc,s=>by
    rw [List.foldl_cons,mem_sorts r]
    have h:s ∈ addS acc q.sort ↔ s ∈ acc∨q.sort = s:=by
      unfold addS
      split
      · rename_i h
        exact ⟨.inl,fun z=>z.elim id fun e=>e ▸ h⟩
      · rw [List.mem_append,List.mem_singleton]
        exact ⟨fun z=>z.elim .inl fun e=>.inr e.symm,fun z=>z.elim .inl fun e=>.inr e.symm⟩
    rw [h]
    constructor
    · rintro ((z | z) | ⟨x,hx,e⟩)
      · exact .inl z
      · exact .inr ⟨q,List.mem_cons_self,z⟩
      · exact .inr ⟨x,List.mem_cons_of_mem _ hx,e⟩
    · rintro (z | ⟨x,hx,e⟩)
      · exact .inl (.inl z)
      · rcases List.mem_cons.mp hx with z | z
        · rw [z] at e; exact .inl (.inr e)
        · exact .inr ⟨x,z,e⟩
theorem mem_sortsF {rs:List Rl} {s:List Nat}:s ∈ sortsF rs ↔ ∃ q ∈ rs,q.sort = s:=by
  unfold sortsF
  rw [mem_sorts]
  simp
theorem dvs_app {H:Hp}:∀ {xs ys:List V} {ds es:List PyData},DatVs K H xs ds→DatVs K H ys es→DatVs K H (xs ++ ys) (ds ++ es)
  | _,_,_,_,.nil,h=>h
  | _,_,_,_,.cons a b,h=>.cons a (dvs_app b h)
theorem mem_srtI {l:List Int} {x:Int}:x ∈ srtI l ↔ x ∈ l:=by
  unfold srtI
  rw [(List.mergeSort_perm _ _).mem_iff]
  exact dist_mem1 l x
theorem srtI_len (l:List Int):(srtI l).length ≤ l.length:=by
  unfold srtI
  rw [(List.mergeSort_perm _ _).length_eq]
  exact dist_len l
theorem ranks_len (rs:List Rl) (s:List Nat):(ranksR rs s).length ≤ rs.length:=by unfold ranksR; rw [List.length_map]; exact List.length_filter_le _ _
theorem rank_of {rs:List Rl} {s:List Nat} {r:Int} (h:r ∈ ranksR rs s):∃ q ∈ rs,q.sort = s∧q.rank = r:=by
  obtain ⟨q,hq,e⟩:=List.mem_map.mp h
  obtain ⟨h1,h2⟩:=List.mem_filter.mp hq
  exact ⟨q,h1,by simpa using h2,e⟩
theorem mem_blk {rs:List Rl} {s:List Nat} {r:PR} (h:r ∈ blkF rs s):(∃ (n:Nat) (q:Rl),rs[n]? = some q∧q.sort = s∧r = ⟨(q.sort,q.rank),symsP rs q,(n:Nat)⟩)∨∃ r1 r2,r1 ∈ ranksR rs s∧r2 ∈ ranksR rs s∧r = ⟨(s,r1),[(s,some r2)],-1⟩:=by
  unfold blkF blkU at h
  obtain ⟨k,hk,h⟩:=List.mem_flatMap.mp h
  have hk:=List.mem_range.mp hk
  have hk2:(srtI (ranksR rs s)).getD k 0 ∈ ranksR rs s:=by rw [List.getD,List.getElem?_eq_getElem hk]; exact mem_srtI.mp (List.getElem_mem _)
  rcases List.mem_append.mp h with h | h
  · unfold rowsU at h
    obtain ⟨n,_,h⟩:=List.mem_flatMap.mp h
    unfold rowA at h
    split at h
    · rename_i q hq
      split at h
      · rename_i e
        rw [List.mem_singleton.mp h]
        exact .inl ⟨n,q,hq,e.1,by rw [e.1,e.2]⟩
      · cases h
    · cases h
  · unfold upR at h
    split at h
    · rename_i r2 hr2
      rw [List.mem_singleton.mp h]
      exact .inr ⟨_,r2,hk2,mem_srtI.mp (List.mem_of_getElem? hr2),rfl⟩
    · cases h
theorem plain_ok {rs:List Rl} (hR:rulesB rs = true) (hF:∀ q ∈ rs,Fine q):∀ r ∈ plainF rs,PROk r∧r.ps.length ≤ 100:=fun r hr=>by
  obtain ⟨r1,r24,rok⟩:=(rulesB_iff rs).mp hR
  rcases List.mem_cons.mp hr with e | hr
  · rw [e]
    exact ⟨⟨(fun c hc=>nomatch hc),Nat.zero_le _,Int.le_refl _,(show (0:Int) ≤ 99 by decide)⟩,(show 1 ≤ 100 by decide)⟩
  · obtain ⟨s,hs,h⟩:=List.mem_flatMap.mp hr
    rcases mem_blk h with ⟨n,q,hq,_,e⟩ | ⟨a,b,ha,_,e⟩
    · have mq:=List.mem_of_getElem? hq
      have o:=(okB_iff q).mp (rok q mq)
      have f:=hF q mq
      rw [e]
      exact ⟨⟨f.ls,f.zs,o.1,o.2.1⟩,by show (symsP rs q).length ≤ 100; rw [symsP_len]; exact f.zp⟩
    · obtain ⟨q,mq,e1,e2⟩:=rank_of ha
      have o:=(okB_iff q).mp (rok q mq)
      have f:=hF q mq
      rw [e]
      exact ⟨⟨by show low s; rw [← e1]; exact f.ls,by show s.length ≤ 100; rw [← e1]; exact f.zs,by show 0 ≤ a; rw [← e2]; exact o.1,by show a ≤ 99; rw [← e2]; exact o.2.1⟩,(show 1 ≤ 100 by decide)⟩
theorem blkF_len {rs : List Rl} (h : rs.length ≤ 24) (s : List Nat) : (blkF rs s).length ≤ 600 := by
  have h1 := blkU_len rs s (srtI (ranksR rs s)) (srtI (ranksR rs s)).length
  have h2 := srtI_len (ranksR rs s)
  have h3 := ranks_len rs s
  exact Nat.le_trans h1 (Nat.le_trans (Nat.mul_le_mul (show (srtI (ranksR rs s)).length ≤ 24 by lia) (show rs.length + 1 ≤ 25 by lia)) (by decide))
theorem flat_len {rs : List Rl} (h : rs.length ≤ 24) : ∀ l : List (List Nat), (l.flatMap (blkF rs)).length ≤ 600 * l.length
  | [] => by simp
  | s :: r => by
    have := flat_len h r
    have := blkF_len h s
    grind
inductive spPl (K:PySem.W.Frag) (CF CB CI:Addr) (vs : List V) (H : Hp) (Q : VK) (E : XK) : Prop | mk (a:Addr) (rl:List V) (rs:List Rl) : (vs = [.ref a]) → SqL K H a rl → (DatVs K H rl (rs.map Rl.dat)) → (rulesB rs = true) → ((∀ q ∈ rs,Fine q)) → (((∃ q ∈ rs,badQ rs q = true)→∀ H',Same H H'→E (.ref CF) none H')) → (((∀ q ∈ rs,badQ rs q = false)→(∃ r ∈ plainF rs,¬ Der (plainF rs) r.sym)→∀ H',Same H H'→E (.ref CB) none H')) → (((∀ q ∈ rs,badQ rs q = false)→(∀ r ∈ plainF rs,Der (plainF rs) r.sym)→(∃ q ∈ rs,¬ Rch rs q.sort)→∀ H',Same H H'→E (.ref CI) none H')) → (((∀ q ∈ rs,badQ rs q = false)→(∀ r ∈ plainF rs,Der (plainF rs) r.sym)→(∀ q ∈ rs,Rch rs q.sort)→∀ (H':Hp) (p:Addr) (xs:List V),Same H H'→H' p = some (.lst xs)→DatVs K H' xs ((plainF rs).map PR.dat)→Q (.ref p) H')) → spPl K CF CB CI vs H Q E
noncomputable abbrev st_plain_rules:Stmt:=top 20
theorem sc_plain_rules:FnScope ["rules","parts","first","plain","sort"] ["rules"] (defScope st_plain_rules):=⟨rfl,rfl,rfl,by decide +kernel,rfl,by decide +kernel,by decide +kernel⟩
theorem def_pl (R : Raw K mg "plain_rules" st_plain_rules ["rules"]) (T : Txt K w mg tT) (D_check_rules : DefX P w K mg base 2 "check_rules" ["rules"] (spCks K C)) (D_symbols_of : DefX P w K mg base 3 "symbols_of" ["rules", "number"] (spSym K CF)) (D_ranks_of : Def P w K mg base 1 "ranks_of" ["rules", "sort"] (spRanks K))
    (D_sorts_of:Def P w K mg base 1 "sorts_of" ["rules"] (spSorts K)) (D_plain_of_sort:Def P w K mg base 2 "plain_of_sort" ["rules","parts","sort"] (spPos K)) (D_check_fruitful:DefX P w K mg base 1 "check_fruitful" ["plain"] (spFr K CB)) (D_check_reached:DefX P w K mg base 1 "check_reached" ["rules"] (spRc K CI)) :
    DefX P w K mg base 4 "plain_rules" ["rules"] (spPl K CF CB CI):=by
  refine R.defX sc_plain_rules (fun vs H Q E h=>?_) (fun f cdv A outer s H vs Q E hr h=>?_)
  · obtain ⟨a,rl,rs,rfl,_⟩:=h
    rfl
  · obtain ⟨a,rl,rs,rfl,hS,hD,hR,hF,qF,qB,qI,qQ⟩:=h
    have sc:=sc_plain_rules
    have hu:=hr.units
    have hbg:(1000000:Nat) < sizeLine:=by rw [sizeLine_eq]; decide
    obtain ⟨r1,r24,rok⟩:=(rulesB_iff rs).mp hR
    have hrl:rl.length = rs.length:=by have:=hD.length; rw [List.length_map] at this; exact this
    refine ⟨_,(jss_cons (js_expr (j_defX D_check_rules (hr.mono (by decide)) rfl (ja_cons (jn 0) ja_nil) pass1))
    (jss_cons (js_compX (i:=1) exits_fn rfl rfl (N:=["number","rules"]) (cap:=[none,some 0]) rfl (CompScope.of rfl (by rfl)) (ji_rng1 rfl T.n_range (ja_cons (j_callB (c_len (K:=K)) rfl T.n_len PySem.boot_len (ja_cons (jn 0) ja_nil)) ja_nil)) (fun _ _ _ _=>(jg_name (i:=0) (show List.Nodup [("number":Str),("rules":Str)] by decide +kernel) rfl (Or.inl rfl))) (fun _ _ _ _=>jts_nil) (fun _ _ _ _=>(j_defX D_symbols_of (hr.mono (by decide)) rfl (ja_cons (jn 1) (ja_cons (jn 0) ja_nil)) passes_comp)) sc.nd rfl rfl)
    (jss_cons (js_set (i:=2) sc.nd rfl (Or.inl rfl) (j_ix (o_ix hu (K:=K) (w:=w)) (j_ix (o_ix hu (K:=K) (w:=w)) (jn 0) j_int) j_int))
    (jss_cons (js_set (i:=3) sc.nd rfl (Or.inl rfl) (j_lst (ja_cons (j_tup (ja_cons (j_glob (v:=.ref _) rfl T.g_TOP rfl) (ja_cons (j_tup (ja_cons (j_tup (ja_cons (jn 2) (ja_cons (j_ix (o_ix hu (K:=K) (w:=w)) (j_def D_ranks_of (hr.mono (by decide)) rfl (ja_cons (jn 0) (ja_cons (jn 2) ja_nil))) j_int) ja_nil))) ja_nil)) (ja_cons (j_gint rfl T.g_NO_RULE) ja_nil)))) ja_nil)))
    (jss_cons (js_for passes_loop rfl (ji_any (K:=K) (j_def D_sorts_of (hr.mono (by decide)) rfl (ja_cons (jn 0) ja_nil))) (jg_name (i:=4) sc.nd rfl (Or.inl rfl))
    (jss_one (js_expr (j_bm (K:=K) PySem.F.plainAttrs_list PySem.F.slot_list_extend PySem.F.type_list_extend (m_extendA (K:=K)) (jn 3) (ja_cons (j_def D_plain_of_sort (hr.mono (by decide)) rfl (ja_cons (jn 0) (ja_cons (jn 1) (ja_cons (jn 4) ja_nil)))) ja_nil)))))
    (jss_cons (js_expr (j_defX D_check_fruitful (hr.mono (by decide)) rfl (ja_cons (jn 3) ja_nil) pass1))
    (jss_cons (js_expr (j_defX D_check_reached (hr.mono (by decide)) rfl (ja_cons (jn 0) ja_nil) pass1))
    (jss_one (js_ret (jn 3)))))))))),?_⟩
    have hrk:∀ x ∈ rs,0 ≤ x.rank∧x.rank ≤ 99:=fun x hx=>⟨((okB_iff x).mp (rok x hx)).1,((okB_iff x).mp (rok x hx)).2.1⟩
    refine ⟨a,rl,rs,rfl,hS,hD,by lia,hF,fun _ H1 s1=>?_,fun z=>absurd z (by rw [hR]; decide)⟩
    refine ⟨_,.inl (s1.seq hS),?_⟩
    refine ⟨show -(2 ^ 62) ≤ ((rl.length:Nat):Int) by lia,show ((rl.length:Nat):Int) < 2 ^ 62 by lia,?_⟩
    refine gath_range (n:=((rl.length:Nat):Int).toNat) (fun i ys σ' H'=>Same H H'∧DatVs K H' ys ((rs.take i).map fun q=>.tuple ((symsP rs q).map syD))∧(∀ q ∈ rs.take i,badQ rs q = false)∧∃ v,σ' = [v,some (.ref a)]) (by lia) ⟨s1,.nil,(fun q hq=>nomatch hq),none,rfl⟩
      (fun i ys σ' H' h=>by have:=h.2.1.length; rw [List.length_map,List.length_take] at this; lia) ?_ ?_
    · rintro i ys σ' H2 hi ⟨s2,hd2,hb2,v,rfl⟩
      have hil:i < rs.length:=by lia
      have hq:rs[i]? = some rs[i]:=List.getElem?_eq_getElem hil
      generalize rs[i] = q at hq
      have mq:=List.mem_of_getElem? hq
      have et:rs.take (i + 1) = rs.take i ++ [q]:=by rw [List.take_add_one,hq]; rfl
      rw [show (0:Int) + ((i:Nat):Int) = ((i:Nat):Int) from Int.zero_add _]
      refine ⟨a,rl,rs,i,q,rfl,s2.seq hS,hD.same s2,by lia,hq,hrk,(hF q mq).zp,fun z H3 s3=>qF ⟨q,mq,z⟩ H3 (s2.trans s3),fun z H3 t s3 hd=>⟨s2.trans s3,?_,fun q' hq'=>?_,_,rfl⟩⟩
      · rw [et,List.map_append]
        exact DatVs.snoc hd (hd2.same s3)
      · rw [et] at hq'
        rcases List.mem_append.mp hq' with y | y
        · exact hb2 q' y
        · rw [List.mem_singleton.mp y]; exact z
    · rintro ys σ' H2 ⟨s2,hd2,hb2,v,rfl⟩ pa hpa
      rw [Int.toNat_natCast,hrl,List.take_length] at hd2 hb2
      have s3:Same H2 (upd H2 pa (.lst ys)):=same_new hpa
      have hP3:SqL K (upd H2 pa (.lst ys)) pa ys:=SqL.of upd_same
      generalize upd H2 pa (.lst ys) = H3 at s3 hP3 ⊢
      have sA:=s2.trans s3
      have hd3:=hd2.same s3
      clear hd2 s2 s3 s1
      have hn0:rl[0]? = some (rl[0]'(by lia)):=List.getElem?_eq_getElem (by lia)
      have hq0:rs[0]? = some (rs.getD 0 ⟨[],0,"",[]⟩):=by rw [List.getD,List.getElem?_eq_getElem (by lia)]; rfl
      obtain ⟨dd,hdd,hxd⟩:=hD.get hn0
      rw [List.getElem?_map,hq0] at hdd
      have etop:topR rs = ⟨([],0),[((rs.getD 0 ⟨[],0,"",[]⟩).sort,some ((srtI (ranksR rs (rs.getD 0 ⟨[],0,"",[]⟩).sort)).getD 0 0))],-1⟩:=rfl
      generalize rs.getD 0 ⟨[],0,"",[]⟩ = q0 at hq0 hdd etop
      have ed:dd = q0.dat:=(Option.some.inj hdd).symm
      subst ed
      have mq0:=List.mem_of_getElem? hq0
      obtain ⟨t0,tp0,ex0,hT0,_⟩:=dat_rl hxd
      rw [ex0] at hn0
      refine .inl ⟨_,.ref t0,sA.seq hS,atI_nat hn0,.inr ⟨_,.str (S q0.sort),sA.seqT hT0,atI_nat (j:=0) rfl,?_⟩⟩
      refine ⟨a,rl,rs,q0.sort,rfl,sA.seq hS,hD.same sA,by lia,fun H4 pr ns s4 hpr hpm hsr=>?_⟩
      have ens:=srt_eq hpm hsr
      have hn1:ns ≠ []:=fun z=>by
        have:=(Srt.nil ⟨hpm,hsr⟩).mp z
        have h9:=rank_in mq0
        rw [this] at h9
        cases h9
      have hns0:(ns.map V.int)[0]? = some (V.int (ns.getD 0 0)):=by
        cases ns with
        | nil=>exact absurd rfl hn1
        | cons x r=>rfl
      rw [← ens] at etop
      generalize ns.getD 0 0 = r0 at hns0 etop
      refine .inl ⟨_,.int r0,SqL.of hpr,atI_nat (j:=0) hns0,⟨(show 2 ≤ sizeLine by decide),fun p5 hp5=>⟨(show 1 ≤ sizeLine by decide),fun p6 hp6=>⟨(show 3 ≤ sizeLine by decide),fun p7 hp7=>⟨(show 1 ≤ sizeLine by decide),fun b hb0=>?_⟩⟩⟩⟩⟩
      dsimp only at hp6 hp7 hb0 ⊢
      have z5:Same H4 (upd H4 p5 (.tup [V.str (S q0.sort),V.int r0])):=same_new hp5
      have k5:SqT K (upd H4 p5 (.tup [V.str (S q0.sort),V.int r0])) p5 [V.str (S q0.sort),V.int r0]:=SqT.of upd_same
      generalize upd H4 p5 (.tup [V.str (S q0.sort),V.int r0]) = H5 at z5 k5 hp6 hp7 hb0 ⊢
      have z6:Same H5 (upd H5 p6 (.tup [.ref p5])):=same_new hp6
      have k6:SqT K (upd H5 p6 (.tup [.ref p5])) p6 [.ref p5]:=SqT.of upd_same
      generalize upd H5 p6 (.tup [.ref p5]) = H6 at z6 k6 hp7 hb0 ⊢
      have z7:Same H6 (upd H6 p7 (.tup [.ref tT,.ref p6,.int (-1)])):=same_new hp7
      have k7:SqT K (upd H6 p7 (.tup [.ref tT,.ref p6,.int (-1)])) p7 [.ref tT,.ref p6,.int (-1)]:=SqT.of upd_same
      generalize upd H6 p7 (.tup [.ref tT,.ref p6,.int (-1)]) = H7 at z7 k7 hb0 ⊢
      have sB:Same H3 H7:=(s4.trans z5).trans (z6.trans z7)
      have sC:=sA.trans sB
      have htop:DatV K H7 (.ref p7) (topR rs).dat:=by
        rw [etop]
        exact .tuple k7 (.cons (.tuple (T.k_TOP _) (.cons (.str _) (.cons (.int _) .nil))) (.cons (.tuple (z7.seqT k6) (.cons (.tuple ((z6.trans z7).seqT k5) (.cons (.str _) (.cons (.int _) .nil))) .nil)) (.cons (.int _) .nil)))
      have z8:Same H7 (upd H7 b (.lst [.ref p7])):=same_new hb0
      have g8:PRH K H7 (upd H7 b (.lst [.ref p7])) b [topR rs]:=⟨z8,_,upd_same,.cons (htop.same z8) .nil⟩
      generalize upd H7 b (.lst [.ref p7]) = H8 at z8 g8 ⊢
      have sD:=sC.trans z8
      refine ⟨a,rl,rs,rfl,sD.seq hS,hD.same sD,by lia,fun H9 ps s9 hps=>?_⟩
      have g9:=g8.grow s9
      have hsl:(sortsF rs).length ≤ 24:=by have:=sorts_len rs []; unfold sortsF; simp at this ⊢; lia
      have hpsb:ps ≠ b:=fun z=>by
        obtain ⟨_,xs,hx,hdx⟩:=g9
        rw [z,hx] at hps
        have e:xs = (sortsF rs).map fun l=>V.str (S l):=by injection hps with hps; injection hps
        rw [e] at hdx
        cases hh:sortsF rs with
        | nil=>rw [hh] at hdx; cases hdx
        | cons x r =>
          rw [hh] at hdx
          cases hdx with
          | cons h1 _ =>
            unfold PR.dat at h1
            cases h1
      refine .inl ⟨⟨_,SqL.of hps⟩,?_⟩
      refine for_list (xs:=(sortsF rs).map fun l=>V.str (S l)) (fun i σ H'=>∃ (v4:Option V),H' ps = some (.lst ((sortsF rs).map fun l=>V.str (S l)))∧PRH K H7 H' b (topR rs :: ((sortsF rs).take i).flatMap (blkF rs))∧σ = [some (.ref a),some (.ref pa),some (.str (S q0.sort)),some (.ref b),v4])
        ⟨none,hps,g9,rfl⟩ (fun i σ H' _ h=>by obtain ⟨_,e1,_⟩:=h; exact SqL.of e1) ?_ ?_
      · rintro i x σ H10 hx ⟨v4,e1,g10,rfl⟩
        have hil:i < (sortsF rs).length:=by have:=(List.getElem?_eq_some_iff.mp hx).1; rw [List.length_map] at this; exact this
        rw [List.getElem?_map,List.getElem?_eq_getElem hil] at hx
        have mso:(sortsF rs)[i] ∈ sortsF rs:=List.getElem_mem _
        have et:(sortsF rs).take (i + 1) = (sortsF rs).take i ++ [(sortsF rs)[i]]:=by rw [List.take_add_one,List.getElem?_eq_getElem hil]; rfl
        generalize (sortsF rs)[i] = so at hx mso et
        have ex:x = V.str (S so):=(Option.some.inj hx).symm
        subst ex
        obtain ⟨q1,mq1,eq1⟩:=mem_sortsF.mp mso
        obtain ⟨s10,xs,hb10,hd10⟩:=id g10
        have hxl:xs.length = 1 + (((sortsF rs).take i).flatMap (blkF rs)).length:=by have:=hd10.length; rw [List.length_map,List.length_cons] at this; lia
        have hfl:=flat_len r24 ((sortsF rs).take i)
        rw [List.length_take] at hfl
        have sE:=sC.trans s10
        refine ⟨.inl ⟨rfl,_,SqL.of hb10⟩,?_⟩
        refine ⟨a,pa,rl,ys,rs,so,rfl,sE.seq hS,hD.same sE,by lia,(sB.trans s10).seq hP3,hd3.same (sB.trans s10),(fun z=>by have h9:=rank_in mq1; rw [eq1,z] at h9; cases h9),fun H11 p11 zs s11 hp11 hd11=>?_⟩
        have hzl:zs.length = (blkF rs so).length:=by have:=hd11.length; rw [List.length_map] at this; exact this
        have hbf:=blkF_len r24 so
        refine ⟨xs,zs,s11 _ _ hb10,.inl hp11,by lia,?_⟩
        refine ⟨_,by rw [upd_ne hpsb]; exact s11 _ _ e1,⟨fun x u e=>?_,_,upd_same,dats_wr (.inl ⟨_,s11 _ _ hb10⟩) (prs_noL _) ?_⟩,rfl⟩
        · rw [upd_ne fun z=>by rw [z,hb0] at e; cases e]; exact (s10.trans s11) x u e
        · rw [et,List.flatMap_append]
          have e9:([so].flatMap (blkF rs)) = blkF rs so:=by simp
          rw [e9,← List.cons_append,List.map_append]
          exact dvs_app (hd10.same s11) hd11
      · rintro σ H10 ⟨v4,e1,⟨s10,xs,hb10,hd10⟩,rfl⟩
        rw [List.length_map,List.take_length] at hd10
        have hd10:DatVs K H10 xs ((plainF rs).map PR.dat):=hd10
        have hpl:(plainF rs).length ≤ 50000:=by
          have:=flat_len r24 (sortsF rs)
          unfold plainF
          rw [List.length_cons]
          lia
        have pok:=plain_ok hR hF
        have sE:=sC.trans s10
        refine ⟨b,xs,plainF rs,rfl,SqL.of hb10,hd10,hpl,fun r hr=>(pok r hr).1,fun r hr=>(pok r hr).2,fun hder H11 s11=>?_,fun hno H11 s11=>qB hb2 hno H11 (sE.trans s11)⟩
        have sF:=sE.trans s11
        refine ⟨a,rl,rs,rfl,sF.seq hS,hD.same sF,r1,by lia,fun q hq=>⟨(hF q hq).ls,(hF q hq).zs,(hF q hq).zp,fun p hp=>((hF q hq).lp p hp).1⟩,fun hrch H12 s12=>?_,fun hno H12 s12=>qI hb2 hder hno H12 (sF.trans s12)⟩
        exact qQ hb2 hder hrch H12 b xs (sF.trans s12) ((s11.trans s12) _ _ hb10) (hd10.same (s11.trans s12))
end
end K21
--@RAISES but law
namespace K21
open PySem PySem.Spec PyProof.Rows L2 Rg
section
variable {P:Program} {w:World} {K:PySem.W.Frag} {mg:Str→Option Value} {base:Heap} {C tS tN tT:Addr}
inductive spCell (K:PySem.W.Frag) (vs : List V) (H : Hp) (Q : VK) (_e : XK) : Prop | mk (a:Addr) (ns:List Int) (k:Nat) : (vs = [.ref a,.int k]) → (SqL K H a (ns.map V.int)) → (Q (.int (ns.getD k 0)) H) → spCell K vs H Q _e
noncomputable abbrev st__law_cell_at:Stmt:=top 27
theorem sc__law_cell_at:FnScope ["_law_script","_law_k"] ["_law_script","_law_k"] (defScope st__law_cell_at):=⟨rfl,rfl,rfl,by decide +kernel,rfl,by decide +kernel,by decide +kernel⟩
theorem def_cell (R : Raw K mg "_law_cell_at" st__law_cell_at ["_law_script", "_law_k"]) (T : Txt K w mg tT) : Def P w K mg base 1 "_law_cell_at" ["_law_script", "_law_k"] (spCell K) := by
  refine R.defJ sc__law_cell_at (fun vs H Q E h => ?_) (fun f cdv A outer s H vs Q E hr h => ?_)
  · obtain ⟨a, ns, k, rfl, _⟩ := h
    rfl
  · obtain ⟨a, ns, k, rfl, hS, q⟩ := h
    have sc := sc__law_cell_at
    have hu := hr.units
    refine ⟨_, (jss_cons (js_if (jt_cmp o_lt (jn 1) (j_callB (c_len (K := K)) rfl T.n_len PySem.boot_len (ja_cons (jn 0) ja_nil)))
    (jss_one (js_ret (j_ix (o_ix hu (K := K) (w := w)) (jn 0) (jn 1))))
    jss_nil)
    (jss_one (js_ret j_int))), ?_⟩
    refine ⟨_, .inl hS, ?_⟩
    rw [List.length_map]
    show if decide ((k : Int) < (ns.length : Int)) = true then _ else _
    refine ite2 (fun h => ?_) (fun h => ?_)
    · have hk : k < ns.length := by
        have := of_decide_eq_true h
        lia
      refine .inl ⟨_, .int (ns.getD k 0), hS, atI_nat ?_, q⟩
      simp_all
    · have hk : ¬ k < ns.length := fun z => h (decide_eq_true (by lia))
      have e : ns.getD k 0 = 0 := by simp [List.getD, List.getElem?_eq_none (by lia : ns.length ≤ k)]
      rw [e] at q
      exact q
inductive spWhole (vs : List V) (H : Hp) (Q : VK) (_e : XK) : Prop | mk (i:Int) : (vs = [.int i]) → (Q (.bl true) H) → spWhole vs H Q _e
noncomputable abbrev st__law_whole:Stmt:=top 28
theorem sc__law_whole:FnScope ["_law_found"] ["_law_found"] (defScope st__law_whole):=⟨rfl,rfl,rfl,by decide +kernel,rfl,by decide +kernel,by decide +kernel⟩
theorem def_whole (R:Raw K mg "_law_whole" st__law_whole ["_law_found"]) (T:Txt K w mg tT):Def P w K mg base 1 "_law_whole" ["_law_found"] spWhole:=by
  refine R.defJ sc__law_whole (fun vs H Q E h=>?_) (fun f cdv A outer s H vs Q E hr h=>?_)
  · obtain ⟨i,rfl,_⟩:=h
    rfl
  · obtain ⟨i,rfl,q⟩:=h
    have sc:=sc__law_whole
    have hu:=hr.units
    refine ⟨_,(jss_one (js_ret (j_and (j_callB (c_isiD (K:=K)) rfl T.n_isinstance boot_isinstance (ja_cons (jn 0) (ja_cons (j_bltn (v:=.ty "int") rfl T.n_int boot_int rfl) ja_nil))) (j_one (j_not (j_callB (c_isiD (K:=K)) rfl T.n_isinstance boot_isinstance (ja_cons (jn 0) (ja_cons (j_bltn (v:=.ty "bool") rfl T.n_bool boot_bool rfl) ja_nil)))))))),?_⟩
    refine ⟨"int",true,.int i,rfl,?_⟩
    exact ⟨"int",false,.int i,rfl,q⟩
noncomputable abbrev lettersL:List Nat:=("abcdefghijklmnopqrstuvwxyzABCXYZ0189 .+-*/<=>()[]{}!?_|&~":Str).cps.toList
noncomputable def ltF (x:Int):Nat:=lettersL.getD (x % 57).toNat 0
theorem lettersL_len:lettersL.length = 57:=by decide +kernel
theorem lt_at (x:Int):atI lettersL (x % 57) = some (ltF x):=by
  have h1:(x % 57).toNat < lettersL.length:=by rw [lettersL_len]; lia
  have e:(((x % 57).toNat:Nat):Int) = x % 57:=by lia
  have key:=atI_nat (xs:=lettersL) (List.getElem?_eq_getElem h1)
  rw [e] at key
  rw [key]
  unfold ltF
  rw [List.getD,List.getElem?_eq_getElem h1]
  rfl
theorem let_inj:∀ i,i < 57→∀ j,j < 57→lettersL.getD i 0 = lettersL.getD j 0→i = j:=by decide +kernel
theorem lt_inj {x y:Int} (h:ltF x = ltF y):x % 57 = y % 57:=by
  have:=let_inj (x % 57).toNat (by lia) (y % 57).toNat (by lia) h
  lia
noncomputable def nmSz (c:Int):Nat:=(1 + c % 12).toNat
noncomputable def nmAt (c:Int):Nat:=(c / 12 % (1 + c % 12)).toNat
theorem nm_sz (c:Int):((nmSz c:Nat):Int) = 1 + c % 12∧1 ≤ nmSz c∧nmSz c ≤ 12:=by unfold nmSz; lia
theorem nm_at (c:Int):((nmAt c:Nat):Int) = c / 12 % (1 + c % 12)∧nmAt c < nmSz c:=by
  have h0:=Int.emod_nonneg (c / 12) (show 1 + c % 12 ≠ 0 by lia)
  have h1:=Int.emod_lt_of_pos (c / 12) (show 0 < 1 + c % 12 by lia)
  unfold nmAt nmSz
  lia
noncomputable def nmC (c:Int) (k j:Nat):Nat:=ltF (c / 144 + ((j:Int) * (j:Int) + (k:Int) * (if j = nmAt c then 1 else 0)))
noncomputable def nameL (c:Int) (k:Nat):List Nat:=(List.range (nmSz c)).map (nmC c k)
theorem nameL_len (c:Int) (k:Nat):(nameL c k).length = nmSz c:=by unfold nameL; simp
theorem nameL_inj {c:Int} {k k':Nat} (hk:k < 57) (hk':k' < 57) (h:nameL c k = nameL c k'):k = k':=by
  have h1:=congrArg (fun l=>l[nmAt c]?) h
  unfold nameL at h1
  have hlt:=(nm_at c).2
  simp [hlt] at h1
  unfold nmC at h1
  simp only [if_pos] at h1
  have:=lt_inj h1
  lia
theorem nameL_low (c:Int) (k:Nat):low (nameL c k):=fun x hx=>by
  unfold nameL at hx
  obtain ⟨j,_,rfl⟩:=List.mem_map.mp hx
  unfold nmC ltF
  have h2:lettersL.all (fun c=>decide (c < 128)) = true:=by decide +kernel
  rw [List.getD]
  cases e:lettersL[((c / 144 + ((j:Int) * (j:Int) + (k:Int) * (if j = nmAt c then 1 else 0))) % 57).toNat]? with
  | none=>decide
  | some y =>
    have:=of_decide_eq_true (List.all_eq_true.mp h2 y (List.mem_of_getElem? e))
    show y < 0x110000
    lia
inductive spNames (K:PySem.W.Frag) (vs : List V) (H : Hp) (Q : VK) (_e : XK) : Prop | mk (c:Int) (m:Nat) : (vs = [.int c,.int (m:Nat)]) → (m ≤ 20) → (∀ (H':Hp) (p:Addr),Same H H'→H p = none→H' p = some (.lst ((List.range m).map fun k=>V.str (S (nameL c k))))→Q (.ref p) H') → spNames K vs H Q _e
noncomputable abbrev st__law_names:Stmt:=top 29
theorem sc__law_names:FnScope ["_law_cell","_law_many","_law_signs","_law_size","_law_at","_law_names_here","_law_k","_law_name","_law_j","_law_step"] ["_law_cell","_law_many"] (defScope st__law_names):=⟨rfl,rfl,rfl,by decide +kernel,rfl,by decide +kernel,by decide +kernel⟩
theorem def_names (R:Raw K mg "_law_names" st__law_names ["_law_cell","_law_many"]) (T:Txt K w mg tT):Def P w K mg base 1 "_law_names" ["_law_cell","_law_many"] (spNames K):=by
  refine R.defJ sc__law_names (fun vs H Q E h=>?_) (fun f cdv A outer s H vs Q E hr h=>?_)
  · obtain ⟨c,m,rfl,_⟩:=h
    rfl
  · obtain ⟨c,m,rfl,hm,q⟩:=h
    have sc:=sc__law_names
    have hu:=hr.units
    have hb:(1000000:Nat) < sizeLine:=by rw [sizeLine_eq]; decide
    refine ⟨_,(jss_cons (js_set (i:=2) sc.nd rfl (Or.inl rfl) j_str)
    (jss_cons (js_set (i:=3) sc.nd rfl (Or.inl rfl) (j_op (o_add (K:=K)) j_int (j_op o_mod (jn 0) j_int)))
    (jss_cons (js_set (i:=4) sc.nd rfl (Or.inl rfl) (j_op o_mod (j_op o_div (jn 0) j_int) (jn 3)))
    (jss_cons (js_set (i:=5) sc.nd rfl (Or.inl rfl) (j_lst ja_nil))
    (jss_cons (js_for PassesOwn.never rfl (ji_rng1 rfl T.n_range (ja_cons (jn 1) ja_nil)) (jg_name (i:=6) sc.nd rfl (Or.inl rfl))
    (jss_cons (js_set (i:=7) sc.nd rfl (Or.inl rfl) j_str)
    (jss_cons (js_for PassesOwn.never rfl (ji_rng1 rfl T.n_range (ja_cons (jn 3) ja_nil)) (jg_name (i:=8) sc.nd rfl (Or.inl rfl))
    (jss_cons (js_set (i:=9) sc.nd rfl (Or.inl rfl) (j_op (o_add (K:=K)) (j_op o_mul (jn 8) (jn 8)) (j_op o_mul (jn 6) (j_callTy c_int rfl T.n_int boot_int (ja_cons (j_cmp (o_eqA hu (K:=K)) (jn 8) (jn 4)) ja_nil)))))
    (jss_one (js_set (i:=7) sc.nd rfl (Or.inl rfl) (j_op (o_add (K:=K)) (jn 7) (j_ix (o_ix hu (K:=K) (w:=w)) (jn 2) (j_op o_mod (j_op (o_add (K:=K)) (j_op o_div (jn 0) j_int) (jn 9)) j_int)))))))
    (jss_one (js_expr (j_bm (K:=K) PySem.F.plainAttrs_list PySem.F.slot_list_append PySem.F.type_list_append m_append (jn 5) (ja_cons (jn 7) ja_nil)))))))
    (jss_one (js_ret (jn 5)))))))),?_⟩
    refine ⟨by decide,⟨by decide,by decide⟩,show (0:Int) < 1 + c % 12 by lia,?_⟩
    rw [← (nm_at c).1]
    refine ⟨(show 0 ≤ sizeLine by decide),fun p hp=>?_⟩
    have s1:Same H (upd H p (.lst [])):=same_new hp
    have h1:upd H p (.lst []) p = some (.lst []):=upd_same
    generalize upd H p (.lst []) = H1 at s1 h1 ⊢
    refine ⟨by lia,by lia,?_⟩
    refine for_range (n:=((m:Nat):Int).toNat) (fun i σ H'=>∃ (v5 v6 v7 v8:Option V),Same H H'∧H' p = some (.lst ((List.range i).map fun k=>V.str (S (nameL c k))))∧σ = [some (.int c),some (.int (m:Nat)),some (.str "abcdefghijklmnopqrstuvwxyzABCXYZ0189 .+-*/<=>()[]{}!?_|&~"),some (.int (1 + c % 12)),some (.int (nmAt c:Nat)),some (.ref p),v5,v6,v7,v8]) ⟨none,none,none,none,s1,h1,rfl⟩ ?_ ?_
    · rintro i σ H' hi ⟨v5,v6,v7,v8,s2,hp2,rfl⟩
      have esz:=(nm_sz c).1
      have hsz:=(nm_sz c).2
      refine ⟨show -(2 ^ 62) ≤ 1 + c % 12 by lia,show 1 + c % 12 < 2 ^ 62 by lia,?_⟩
      refine for_range (n:=(1 + c % 12).toNat) (fun j σ H2=>H2 = H'∧∃ (v7 v8:Option V),σ = [some (.int c),some (.int (m:Nat)),some (.str "abcdefghijklmnopqrstuvwxyzABCXYZ0189 .+-*/<=>()[]{}!?_|&~"),some (.int (1 + c % 12)),some (.int (nmAt c:Nat)),some (.ref p),some (.int (i:Nat)),some (.str (S ((List.range j).map (nmC c i)))),v7,v8])
        ⟨rfl,v7,v8,by simp; rfl⟩ ?_ ?_
      · rintro j σ H2 hj ⟨rfl,v7,v8,rfl⟩
        have hj7:j < 12:=by lia
        have put:∀ st:Int,st = (j:Int) * (j:Int) + (i:Int) * (if j = nmAt c then 1 else 0)→∃ o,atI lettersL ((c / 144 + st) % 57) = some o∧S ((List.range j).map (nmC c i)) ++ S [o] = S ((List.range (j + 1)).map (nmC c i)):=fun st e=>by
          refine ⟨ltF (c / 144 + st),lt_at _,?_⟩
          rw [S_app,List.range_succ,List.map_append]
          congr 2
          show [ltF (c / 144 + st)] = [nmC c i j]
          unfold nmC
          rw [e]
        have e0:(0:Int) + ((j:Nat):Int) = (j:Int):=Int.zero_add _
        rw [e0]
        have key:=put ((j:Int) * (j:Int) + (i:Int) * (if (false ^^ decide (((j:Nat):Int) = ((nmAt c:Nat):Int))) = true then 1 else 0)) (by
          rw [Bool.false_xor]
          by_cases hj:j = nmAt c
          · rw [if_pos hj,if_pos (decide_eq_true (by lia))]
          · rw [if_neg hj,if_neg (fun z=>hj (by have:=of_decide_eq_true z; lia))])
        obtain ⟨o,eo,es⟩:=key
        refine ⟨.inl ⟨by lia,by lia⟩,.inl ⟨by lia,by lia⟩,⟨by decide,by decide⟩,by decide,by decide +kernel,o,eo,by rw [S_len,S_len,List.length_map,List.length_range]; simp; lia,?_⟩
        rw [es]
        exact ⟨rfl,_,_,rfl⟩
      · rintro σ H2 ⟨rfl,v7,v8,rfl⟩
        rw [show (1 + c % 12).toNat = nmSz c from rfl]
        refine ⟨.inl ⟨rfl,_,SqL.of hp2⟩,_,hp2,by rw [List.length_map,List.length_range]; lia,?_⟩
        refine ⟨_,_,_,_,fun b u e=>?_,?_,rfl⟩
        · rw [upd_ne fun z=>by rw [z,hp] at e; cases e]; exact s2 b u e
        · rw [upd_same,List.range_succ,List.map_append]
          rfl
    · rintro σ H' ⟨v5,v6,v7,v8,s2,hp2,rfl⟩
      exact q H' p s2 hp (by simpa using hp2)
noncomputable def mixF (c k:Int):Int:=(((c % 2147483647 * 48271 + 69621 * k + 11) % 2147483629) * ((c % 2147483647 * 48271 + 69621 * k + 11) % 2147483629) + k) % 2147483587
theorem mix_le (c k:Int):0 ≤ mixF c k∧mixF c k < 2147483587:=by unfold mixF; lia
inductive spMix (vs : List V) (H : Hp) (Q : VK) (_e : XK) : Prop | mk (c k:Int) : (vs = [.int c,.int k]) → (0 ≤ k) → (k ≤ 1000) → (Q (.int (mixF c k)) H) → spMix vs H Q _e
noncomputable abbrev st__law_mixed:Stmt:=top 30
theorem sc__law_mixed:FnScope ["_law_cell","_law_k","_law_number"] ["_law_cell","_law_k"] (defScope st__law_mixed):=⟨rfl,rfl,rfl,by decide +kernel,rfl,by decide +kernel,by decide +kernel⟩
theorem def_mix (R:Raw K mg "_law_mixed" st__law_mixed ["_law_cell","_law_k"]):Def P w K mg base 1 "_law_mixed" ["_law_cell","_law_k"] spMix:=by
  refine R.defJ sc__law_mixed (fun vs H Q E h=>?_) (fun f cdv A outer s H vs Q E hr h=>?_)
  · obtain ⟨c,k,rfl,_⟩:=h
    rfl
  · obtain ⟨c,k,rfl,h0,h1,q⟩:=h
    have sc:=sc__law_mixed
    have hu:=hr.units
    refine ⟨_,(jss_cons (js_set (i:=2) sc.nd rfl (Or.inl rfl) (j_op o_mod (j_op (o_add (K:=K)) (j_op (o_add (K:=K)) (j_op o_mul (j_op o_mod (jn 0) j_int) j_int) (j_op o_mul j_int (jn 1))) j_int) j_int))
    (jss_one (js_ret (j_op o_mod (j_op (o_add (K:=K)) (j_op o_mul (jn 2) (jn 2)) (jn 1)) j_int)))),?_⟩
    refine ⟨by decide,.inl ⟨by lia,by lia⟩,.inl ⟨by decide,by decide⟩,by decide,.inl ⟨by lia,by lia⟩,by decide,q⟩
noncomputable abbrev st__law_ranks:Stmt:=top 32
theorem sc__law_ranks:FnScope ["_law_rules","_law_sort"] ["_law_rules","_law_sort"] (defScope st__law_ranks):=⟨rfl,rfl,rfl,by decide +kernel,rfl,by decide +kernel,by decide +kernel⟩
theorem def_lranks (R:Raw K mg "_law_ranks" st__law_ranks ["_law_rules","_law_sort"]) (T:TxR mg):Def P w K mg base 1 "_law_ranks" ["_law_rules","_law_sort"] (spRanks K):=by
  refine R.defJ sc__law_ranks (fun vs H Q E h=>?_) (fun f cdv A outer s H vs Q E hr h=>?_)
  · obtain ⟨a,rl,rs,l,rfl,_⟩:=h
    rfl
  · obtain ⟨a,rl,rs,l,rfl,hS,hD,hl,q⟩:=h
    have sc:=sc__law_ranks
    have hu:=hr.units
    have hrl:rl.length = rs.length:=by have:=hD.length; rw [List.length_map] at this; exact this
    refine ⟨_,(jss_one (js_ret (j_callB (c_sortZ rfl (P:=P) (w:=w)) rfl T.n_sorted boot_sorted (ja_cons (j_callTy (c_setZ rfl (K:=K) (P:=P) (w:=w)) rfl T.n_set boot_set (ja_cons (j_comp (N:=["_law_rule_here","_law_sort"]) (cap:=[none,some 1]) rfl (CompScope.of rfl (by rfl)) (ji_any (K:=K) (jn 0)) (fun _ _ _ _=>(jg_name (i:=0) (show List.Nodup [("_law_rule_here":Str),("_law_sort":Str)] by decide +kernel) rfl (Or.inl rfl))) (fun _ _ _ _=>(jts_one (jt_cmp (o_eqA hu (K:=K)) (j_ix (o_ix hu (K:=K) (w:=w)) (jn 0) j_int) (jn 1)))) (fun _ _ _ _=>(j_ix (o_ix hu (K:=K) (w:=w)) (jn 0) j_int))) ja_nil)) ja_nil)))),?_⟩
    refine .inl ⟨⟨_,hS⟩,?_⟩
    refine gath_list (xs:=rl) (fun i ys σ' H'=>H' = H∧ys = (ranksR (rs.take i) l).map V.int∧∃ v,σ' = [v,some (.str (S l))]) (by lia) ⟨rfl,rfl,none,rfl⟩
      (fun i ys σ' H' h=>by rw [h.2.1,List.length_map]; unfold ranksR; rw [List.length_map]; exact Nat.le_trans (List.length_filter_le _ _) (by rw [List.length_take]; lia)) (fun i ys σ' H' h=>by rw [h.1]; exact hS) ?_ ?_
    · rintro i x ys σ' H' hi ⟨rfl,rfl,v,rfl⟩
      obtain ⟨dd,hdd,hx⟩:=hD.get hi
      rw [List.getElem?_map] at hdd
      cases ee:rs[i]? with
      | none=>rw [ee] at hdd; cases hdd
      | some g =>
        rw [ee] at hdd
        have ed:dd = g.dat:=(Option.some.inj hdd).symm
        subst ed
        obtain ⟨t,tp,rfl,hT,_⟩:=dat_rl hx
        have et:rs.take (i + 1) = rs.take i ++ [g]:=by rw [List.take_add_one,ee]; rfl
        refine .inr ⟨_,.str (S g.sort),hT,atI_nat (j:=0) rfl,?_⟩
        show if (false ^^ decide ((S g.sort:Str) = S l)) = true then _ else _
        rw [Bool.false_xor,eqS_iff]
        refine ite2 (fun h=>?_) (fun h=>?_)
        · refine .inr ⟨_,.int g.rank,hT,atI_nat (j:=1) rfl,rfl,?_,_,rfl⟩
          unfold ranksR
          rw [et,List.filter_append,List.filter_cons_of_pos (p:=fun (q:Rl)=>q.sort == l) h,List.filter_nil,List.map_append,List.map_append]
          rfl
        · refine ⟨rfl,?_,_,rfl⟩
          unfold ranksR
          rw [et,List.filter_append,List.filter_cons_of_neg (p:=fun (q:Rl)=>q.sort == l) h,List.filter_nil,List.append_nil]
    · rintro ys σ' H' ⟨rfl,rfl,v,rfl⟩ D hD2
      rw [hrl,List.take_length]
      have hrk:(ranksR rs l).length ≤ 60:=by unfold ranksR; rw [List.length_map]; exact Nat.le_trans (List.length_filter_le _ _) hl
      have s1:Same H' (upd H' D (.lst ((ranksR rs l).map V.int))):=same_new hD2
      have h1:upd H' D (.lst ((ranksR rs l).map V.int)) D = some (.lst ((ranksR rs l).map V.int)):=upd_same
      generalize upd H' D (.lst ((ranksR rs l).map V.int)) = H1 at s1 h1 ⊢
      refine ⟨_,SqL.of h1,by lia,fun p2 o hp2 hz=>?_⟩
      have dl:=dist_len (ranksR rs l)
      refine ⟨o,_,upd_same,hz,by lia,fun p3 ns hp3 hpm hsr=>?_⟩
      exact q _ p3 ns ((s1.trans (same_new hp2)).trans (same_new hp3)) upd_same hpm hsr
end
end K21
--@RAISES but law
namespace K21
open PySem PySem.Spec PyProof.Rows L2 Rg
section
variable {P:Program} {w:World} {K:PySem.W.Frag} {mg:Str→Option Value} {base:Heap} {C tS tN tT:Addr}
inductive NmP (c0:Int) (l:List Nat) : Prop | mk (k : _) : (k < 9) → (l = nameL c0 k) → NmP c0 l
theorem nmP_low {c0:Int} {l:List Nat} (h:NmP c0 l):low l:=by obtain ⟨k,_,rfl⟩:=h; exact nameL_low _ _
noncomputable def SdP (x:Str):Prop:=x = "left"∨x = "right"∨x = "none"
structure RlN (c0:Int) (q:Rl):Prop where
  so:∃ k,k < 3∧q.sort = nameL c0 k
  r0:0 ≤ q.rank
  r9:q.rank ≤ 99
  p1:1 ≤ q.ps.length
  p8:q.ps.length ≤ 8
  own:q.ps ≠ [q.sort]
  ps:∀ p ∈ q.ps,NmP c0 p
  sd:SdP q.side
theorem ltF_idx (x:Int) {i:Nat} (hi:i < 57) (h:ltF x = lettersL.getD i 0):x % 57 = (i:Int):=by
  have:=let_inj (x % 57).toNat (by lia) i hi h
  lia
theorem nameL_at {c:Int} {k:Nat} {l:List Nat} (h:nameL c k = l) (j:Nat) (hj:j < l.length):l[j]? = some (nmC c k j):=by
  have e:l.length = nmSz c:=by rw [← h]; exact nameL_len c k
  rw [← h]
  unfold nameL
  rw [List.getElem?_map,List.getElem?_range (by lia)]
  rfl
theorem nmC_idx {c:Int} {k j i:Nat} (hi:i < 57) (h:lettersL.getD i 0 = nmC c k j):(c / 144 + ((j:Int) * (j:Int) + (if j = nmAt c then (k:Int) else 0))) % 57 = (i:Int):=by
  have:=ltF_idx _ hi h.symm
  by_cases e:j = nmAt c
  · rw [if_pos e] at this ⊢
    rw [Int.mul_one] at this
    exact this
  · rw [if_neg e] at this ⊢
    rw [Int.mul_zero] at this
    exact this
theorem name_end (c:Int) (k:Nat):nameL c k ≠ [101,110,100]:=fun h=>by
  have h0:=nmC_idx (i:=4) (by decide) (show lettersL.getD 4 0 = nmC c k 0 from (by decide +kernel:lettersL.getD 4 0 = 101).trans (Option.some.inj (nameL_at h 0 (by decide))))
  have h1:=nmC_idx (i:=13) (by decide) (show lettersL.getD 13 0 = nmC c k 1 from (by decide +kernel:lettersL.getD 13 0 = 110).trans (Option.some.inj (nameL_at h 1 (by decide))))
  have h2:=nmC_idx (i:=3) (by decide) (show lettersL.getD 3 0 = nmC c k 2 from (by decide +kernel:lettersL.getD 3 0 = 100).trans (Option.some.inj (nameL_at h 2 (by decide))))
  generalize c / 144 = b at h0 h1 h2
  generalize nmAt c = a at h0 h1 h2
  split at h0 <;> split at h1 <;> split at h2 <;> lia
theorem name_stray (c:Int) (k:Nat):nameL c k ≠ [115,116,114,97,121]:=fun h=>by
  have h0:=nmC_idx (i:=18) (by decide) (show lettersL.getD 18 0 = nmC c k 0 from (by decide +kernel:lettersL.getD 18 0 = 115).trans (Option.some.inj (nameL_at h 0 (by decide))))
  have h2:=nmC_idx (i:=17) (by decide) (show lettersL.getD 17 0 = nmC c k 2 from (by decide +kernel:lettersL.getD 17 0 = 114).trans (Option.some.inj (nameL_at h 2 (by decide))))
  have h3:=nmC_idx (i:=0) (by decide) (show lettersL.getD 0 0 = nmC c k 3 from (by decide +kernel:lettersL.getD 0 0 = 97).trans (Option.some.inj (nameL_at h 3 (by decide))))
  generalize c / 144 = b at h0 h2 h3
  generalize nmAt c = a at h0 h2 h3
  split at h0 <;> split at h2 <;> split at h3 <;> lia
theorem name_nil (c:Int) (k:Nat):nameL c k ≠ []:=fun h=>by
  have e:=nameL_len c k
  rw [h] at e
  have:=(nm_sz c).2
  simp at e
  lia
theorem name_noB (c:Int) (k:Nat):noB (nameL c k) = false:=by
  have e1:(S (nameL c k):Str) ≠ "":=fun z=>name_nil c k (S_inj (z.trans (S_of "")))
  have e2:(S (nameL c k):Str) ≠ "end":=fun z=>name_end c k (S_inj (z.trans (S_of "end")))
  have e3:(S (nameL c k):Str) ≠ "stray":=fun z=>name_stray c k (S_inj (z.trans (S_of "stray")))
  unfold noB inV
  simp only [List.any_cons,List.any_nil,Bool.or_eq_false_iff,and_true]
  exact ⟨decide_eq_false (Ne.symm e1),decide_eq_false (Ne.symm e2),decide_eq_false (Ne.symm e3)⟩
theorem RlN.fine {c0:Int} {q:Rl} (h:RlN c0 q):Fine q:=by
  have len:∀ k,(nameL c0 k).length ≤ 100:=fun k=>by rw [nameL_len]; have:=(nm_sz c0).2; lia
  obtain ⟨k,_,ek⟩:=h.so
  have hr0:=h.r0
  have hr9:=h.r9
  refine ⟨(small_txt hr0 hr9).1,by rw [ek]; exact nameL_low _ _,by rw [ek]; exact len _,?_,?_,fun p hp=>?_,by have:=h.p8; lia⟩
  · rcases h.sd with e | e | e <;> rw [e] <;> decide +kernel
  · rcases h.sd with e | e | e <;> rw [e] <;> decide +kernel
  · obtain ⟨j,_,e⟩:=h.ps p hp
    rw [e]
    exact ⟨nameL_low _ _,len _⟩
theorem RlN.okB {c0:Int} {q:Rl} (h:RlN c0 q):okB q = true:=by
  obtain ⟨k,_,ek⟩:=h.so
  refine (okB_iff q).mpr ⟨h.r0,h.r9,?_,h.p1,h.p8,by rw [ek]; exact name_noB _ _,?_,h.own⟩
  · rcases h.sd with e | e | e <;> rw [e] <;> decide +kernel
  · rw [Bool.eq_false_iff,Ne,List.any_eq_true]
    rintro ⟨p,hp,z⟩
    obtain ⟨j,_,e⟩:=h.ps p hp
    rw [e,name_noB] at z
    cases z
theorem RlN.lay {c0:Int} {q:Rl} (h:RlN c0 q):q.dat.canLay0 = true:=by
  have f:=h.fine
  unfold Rl.dat
  simp only [PyData.canLay0,PyData.canLayAll0,strOkL f.ls,f.sd,tx_lay fun p hp=>(f.lp p hp).1,Bool.and_self]
inductive spRule (K:PySem.W.Frag) (vs : List V) (H : Hp) (Q : VK) (_e : XK) : Prop | mk (c c0:Int) (l:Addr) (few:Bool) : (vs = [.int c,.ref l,.bl few]) → (SqL K H l ((List.range 9).map fun k=>V.str (S (nameL c0 k)))) → (∀ H' t (q:Rl),Same H H'→DatV K H' (.ref t) q.dat→RlN c0 q→Q (.ref t) H') → spRule K vs H Q _e
noncomputable abbrev st__law_rule:Stmt:=top 31
theorem sc__law_rule:FnScope ["_law_cell","_law_names_here","_law_few","_law_sort","_law_number","_law_rank","_law_side","_law_many","_law_parts"] ["_law_cell","_law_names_here","_law_few"] (defScope st__law_rule):=⟨rfl,rfl,rfl,by decide +kernel,rfl,by decide +kernel,by decide +kernel⟩
theorem def_rule (R:Raw K mg "_law_rule" st__law_rule ["_law_cell","_law_names_here","_law_few"]) (T:Txt K w mg tT) (D__law_mixed:Def P w K mg base 1 "_law_mixed" ["_law_cell","_law_k"] spMix):Def P w K mg base 2 "_law_rule" ["_law_cell","_law_names_here","_law_few"] (spRule K):=by
  refine R.defJ sc__law_rule (fun vs H Q E h=>?_) (fun f cdv A outer s H vs Q E hr h=>?_)
  · obtain ⟨c,c0,l,few,rfl,_⟩:=h
    rfl
  · obtain ⟨c,c0,l,few,rfl,hS,q⟩:=h
    have sc:=sc__law_rule
    have hu:=hr.units
    have hb:(1000000:Nat) < sizeLine:=by rw [sizeLine_eq]; decide
    have hm:=mix_le c 1
    have nm:∀ i:Int,0 ≤ i→i < 9→((List.range 9).map fun k=>V.str (S (nameL c0 k)))[i.toNat]? = some (V.str (S (nameL c0 i.toNat))):=fun i h0 h1=>by
      rw [List.getElem?_map,List.getElem?_range (by lia)]; rfl
    have at9:∀ i:Int,0 ≤ i→i < 9→atI ((List.range 9).map fun k=>V.str (S (nameL c0 k))) i = some (V.str (S (nameL c0 i.toNat))):=fun i h0 h1=>by
      have:=atI_nat (nm i h0 h1)
      rw [Int.toNat_of_nonneg h0] at this
      exact this
    obtain ⟨u9, hP9, hq9⟩ : ∃ u, JSs (cxOf CX0 P w K mg base ["_law_cell", "_law_names_here", "_law_few", "_law_sort", "_law_number", "_law_rank", "_law_side", "_law_many", "_law_parts"] "_law_rule" (defScope st__law_rule) f cdv A outer s H E).nox ((defBody st__law_rule).drop 9) u ∧
        ∀ (H1:Hp) (rk:Int) (sd:Str) (vm:Option V) (pa:Addr) (ps:List (List Nat)),Same H H1→SqL K H1 pa (ps.map fun l=>V.str (S l))→RlN c0 ⟨nameL c0 (c % 3).toNat,rk,sd,ps⟩ →
          u { nx:=fun _ H'=>Q .non H',rt:=Q } [some (.int c),some (.ref l),some (.bl few),some (.str (S (nameL c0 (c % 3).toNat))),some (.int (mixF c 1)),some (.int rk),some (.str sd),vm,some (.ref pa)] H1:=by
      refine ⟨_,(jss_one (js_ret (j_tup (ja_cons (jn 3) (ja_cons (jn 5) (ja_cons (jn 6) (ja_cons (j_callTy (c_tuple (K:=K)) rfl T.n_tuple boot_tuple (ja_cons (jn 8) ja_nil)) ja_nil))))))),?_⟩
      intro H1 rk sd vm pa ps s1 hpa ok
      refine ⟨_,.inl ⟨hpa,fun t1 ht1=>⟨(show 4 ≤ sizeLine by decide),fun t2 ht2=>?_⟩⟩⟩
      have s2:Same H1 (upd H1 t1 (.tup (ps.map fun l=>V.str (S l)))):=same_new ht1
      have h1:SqT K (upd H1 t1 (.tup (ps.map fun l=>V.str (S l)))) t1 (ps.map fun l=>V.str (S l)):=SqT.of upd_same
      dsimp only at ht2 ⊢
      generalize upd H1 t1 (.tup (ps.map fun l=>V.str (S l))) = H2 at s2 h1 ht2 ⊢
      refine q _ t2 ⟨nameL c0 (c % 3).toNat,rk,sd,ps⟩ ((s1.trans s2).trans (same_new ht2)) ?_ ok
      exact .tuple (SqT.of upd_same) (.cons (.str _) (.cons (.int _) (.cons (.str _) (.cons (.tuple ((same_new ht2).seqT h1) (tx_dat ps)) .nil))))
    obtain ⟨u7, hP7, hq7⟩ : ∃ u, JSs (cxOf CX0 P w K mg base ["_law_cell", "_law_names_here", "_law_few", "_law_sort", "_law_number", "_law_rank", "_law_side", "_law_many", "_law_parts"] "_law_rule" (defScope st__law_rule) f cdv A outer s H E).nox ((defBody st__law_rule).drop 7) u ∧
        ∀ (H1:Hp) (rk:Int) (sd:Str) (mn:Int),Same H H1→0 ≤ rk→rk ≤ 99→1 ≤ mn→mn ≤ 8→SdP sd →
          u { nx:=fun _ H'=>Q .non H',rt:=Q } [some (.int c),some (.ref l),some (.bl few),some (.str (S (nameL c0 (c % 3).toNat))),some (.int (mixF c 1)),some (.int rk),some (.str sd),some (.int mn),none] H1:=by
      refine ⟨_,(jss_cons (js_comp (i:=8) (N:=["_law_k","_law_cell","_law_names_here"]) (cap:=[none,some 0,some 1]) rfl (CompScope.of rfl (by rfl)) (ji_rng1 rfl T.n_range (ja_cons (jn 7) ja_nil)) (fun _ _ _ _=>(jg_name (i:=0) (show List.Nodup [("_law_k":Str),("_law_cell":Str),("_law_names_here":Str)] by decide +kernel) rfl (Or.inl rfl))) (fun _ _ _ _=>jts_nil) (fun _ _ _ _=>(j_ix (o_ix hu (K:=K) (w:=w)) (jn 2) (j_op o_mod (j_def D__law_mixed (hr.mono (by decide)) rfl (ja_cons (jn 1) (ja_cons (j_op (o_add (K:=K)) j_int (jn 0)) ja_nil))) j_int))) sc.nd rfl rfl)
    (jss_cons (js_if (jt_cmp (o_eqA hu (K:=K)) (jn 8) (j_lst (ja_cons (jn 3) ja_nil)))
    (jss_one (js_set (i:=8) sc.nd rfl (Or.inl rfl) (j_lst (ja_cons (j_ix (o_ix hu (K:=K) (w:=w)) (jn 1) (j_op (o_add (K:=K)) j_int (j_op o_mod (jn 4) j_int))) ja_nil))))
    jss_nil)
    hP9)),?_⟩
      intro H1 rk sd mn s1 h0 h9 m1 m8 hsd
      have hS1:=s1.seq hS
      refine ⟨show -(2 ^ 62) ≤ mn by lia,show mn < 2 ^ 62 by lia,?_⟩
      refine gath_range (n:=mn.toNat) (fun i ys σ' H'=>H' = H1∧∃ (ks:List (List Nat)) (v:Option V),ks.length = i∧ys = ks.map (fun l=>V.str (S l))∧(∀ k ∈ ks,NmP c0 k)∧σ' = [v,some (.int c),some (.ref l)]) (by lia) ⟨rfl,[],none,rfl,rfl,(fun k hk=>by cases hk),rfl⟩
        (fun i ys σ' H' h=>by obtain ⟨_,ks,v,e1,e2,_⟩:=h; rw [e2,List.length_map]; lia) ?_ ?_
      · rintro i ys σ' H' hi ⟨rfl,ks,v,hk,rfl,hlo,rfl⟩
        have hmx:=mix_le c (2 + (0 + (i:Nat):Int))
        refine ⟨c,2 + (0 + (i:Nat):Int),rfl,by lia,by lia,by decide,.inl ⟨_,_,hS1,at9 (mixF c (2 + (0 + (i:Nat):Int)) % 9) (by lia) (by lia),rfl,ks ++ [nameL c0 (mixF c (2 + (0 + (i:Nat):Int)) % 9).toNat],_,by rw [List.length_append,hk]; rfl,by rw [List.map_append]; rfl,fun k hk'=>?_,rfl⟩⟩
        rcases List.mem_append.mp hk' with z | z
        · exact hlo k z
        · rw [List.mem_singleton.mp z]; exact ⟨_,by lia,rfl⟩
      · rintro ys σ' H' ⟨rfl,ks,v,hk,rfl,hlo,rfl⟩ D hD
        have s2:Same H' (upd H' D (.lst (ks.map fun l=>V.str (S l)))):=same_new hD
        have h1:SqL K (upd H' D (.lst (ks.map fun l=>V.str (S l)))) D (ks.map fun l=>V.str (S l)):=SqL.of upd_same
        generalize upd H' D (.lst (ks.map fun l=>V.str (S l))) = H2 at s2 h1 ⊢
        refine ⟨(show 1 ≤ sizeLine by decide),fun p hp=>?_⟩
        have s3:Same H2 (upd H2 p (.lst [V.str (S (nameL c0 (c % 3).toNat))])):=same_new hp
        have h2:SqL K (upd H2 p (.lst [V.str (S (nameL c0 (c % 3).toNat))])) p [V.str (S (nameL c0 (c % 3).toNat))]:=SqL.of upd_same
        generalize upd H2 p (.lst [V.str (S (nameL c0 (c % 3).toNat))]) = H3 at s3 h2 ⊢
        have lay1:=tx_lay fun k hk=>nmP_low (hlo k hk)
        have lay2:=tx_lay (ks:=[nameL c0 (c % 3).toNat]) (fun k hk=>by rw [List.mem_singleton.mp hk]; exact nameL_low _ _)
        have deep:=tx_deep ks
        refine ⟨.list (ks.map fun k=>PyData.str (S k)),.list ([nameL c0 (c % 3).toNat].map fun k=>PyData.str (S k)),.list (s3.seq h1) (tx_dat ks),.list h2 (tx_dat [nameL c0 (c % 3).toNat]),by simp only [PyData.canLay0]; exact lay1,by simp only [PyData.canLay0]; exact lay2,by simp only [PyData.depth]; lia,?_⟩
        show if (false ^^ PyData.eqv _ _) = true then _ else _
        rw [Bool.false_xor,PyData.eqv,tx_eqv]
        refine ite2 (fun h=>?_) (fun h=>?_)
        · have hs3:=(s1.trans s2).trans s3
          have hm6:0 ≤ 3 + mixF c 1 % 6∧3 + mixF c 1 % 6 < 9:=by lia
          refine ⟨by decide,.inl ⟨_,_,hs3.seq hS,at9 (3 + mixF c 1 % 6) hm6.1 hm6.2,(show 1 ≤ sizeLine by decide),fun p2 hp2=>?_⟩⟩
          refine hq9 _ rk sd _ p2 [nameL c0 (3 + mixF c 1 % 6).toNat] (hs3.trans (same_new hp2)) (SqL.of upd_same) ⟨⟨_,by lia,rfl⟩,h0,h9,Nat.le_refl _,(show 1 ≤ 8 by decide),(fun z=>by have e:=nameL_inj (by lia) (by lia) (List.cons.inj z).1; lia),(fun k hk=>by rw [List.mem_singleton.mp hk]; exact ⟨_,by lia,rfl⟩),hsd⟩
        · exact hq9 _ rk sd _ D ks ((s1.trans s2).trans s3) (s3.seq h1) ⟨⟨_,by lia,rfl⟩,h0,h9,(show 1 ≤ ks.length by lia),(show ks.length ≤ 8 by lia),(fun z=>h (beq_iff_eq.mpr z)),hlo,hsd⟩
    obtain ⟨u4, hP4, hq4⟩ : ∃ u, JSs (cxOf CX0 P w K mg base ["_law_cell", "_law_names_here", "_law_few", "_law_sort", "_law_number", "_law_rank", "_law_side", "_law_many", "_law_parts"] "_law_rule" (defScope st__law_rule) f cdv A outer s H E).nox ((defBody st__law_rule).drop 4) u ∧
        ∀ (rk:Int),0 ≤ rk→rk ≤ 99→u { nx:=fun _ H'=>Q .non H',rt:=Q } [some (.int c),some (.ref l),some (.bl few),some (.str (S (nameL c0 (c % 3).toNat))),some (.int (mixF c 1)),some (.int rk),none,none,none] H:=by
      refine ⟨_,(jss_cons (js_set (i:=6) sc.nd rfl (Or.inl rfl) (j_ix (o_ix hu (K:=K) (w:=w)) (j_lst (ja_cons j_str (ja_cons j_str (ja_cons j_str ja_nil)))) (j_op o_mod (j_op o_div (jn 4) j_int) j_int)))
    (jss_cons (js_set (i:=7) sc.nd rfl (Or.inl rfl) (j_op (o_add (K:=K)) j_int (j_op o_mod (j_op o_div (jn 4) j_int) j_int)))
    (jss_cons (js_if (jt_cmp (o_eqA hu (K:=K)) (j_op o_mod (j_op o_div (jn 4) j_int) j_int) j_int)
    (jss_one (js_set (i:=7) sc.nd rfl (Or.inl rfl) (j_op (o_add (K:=K)) j_int (j_op o_mod (j_op o_div (jn 4) j_int) j_int))))
    jss_nil)
    hP7))),?_⟩
      intro rk h0 h9
      refine ⟨(show 3 ≤ sizeLine by decide),fun p hp=>⟨⟨by decide,by decide⟩,by decide,?_⟩⟩
      have hx:∃ x,atI [V.str "left",V.str "right",V.str "none"] (mixF c 1 / 100 % 3) = some (V.str x)∧SdP x:=by
        have:mixF c 1 / 100 % 3 = 0∨mixF c 1 / 100 % 3 = 1∨mixF c 1 / 100 % 3 = 2:=by lia
        rcases this with z | z | z
        · rw [z]; exact ⟨_,rfl,(.inl rfl)⟩
        · rw [z]; exact ⟨_,rfl,(.inr (.inl rfl))⟩
        · rw [z]; exact ⟨_,rfl,(.inr (.inr rfl))⟩
      obtain ⟨x,hx,hsd⟩:=hx
      refine .inl ⟨_,.str x,SqL.of upd_same,hx,?_⟩
      refine ⟨⟨by decide,by decide⟩,by decide,⟨by decide,by decide⟩,by decide,?_⟩
      show if (false ^^ decide (mixF c 1 / 1200 % 8 = 5)) = true then _ else _
      rw [Bool.false_xor]
      refine ite2 (fun h=>?_) (fun h=>?_)
      · exact ⟨⟨by decide,by decide⟩,by decide,hq7 _ rk x (5 + mixF c 1 / 9600 % 4) (same_new hp) h0 h9 (by lia) (by lia) hsd⟩
      · exact hq7 _ rk x (1 + mixF c 1 / 300 % 4) (same_new hp) h0 h9 (by lia) (by lia) hsd
    refine ⟨_,(jss_cons (js_set (i:=3) sc.nd rfl (Or.inl rfl) (j_ix (o_ix hu (K:=K) (w:=w)) (jn 1) (j_op o_mod (jn 0) j_int)))
    (jss_cons (js_set (i:=4) sc.nd rfl (Or.inl rfl) (j_def D__law_mixed (hr.mono (by decide)) rfl (ja_cons (jn 0) (ja_cons j_int ja_nil))))
    (jss_cons (js_set (i:=5) sc.nd rfl (Or.inl rfl) (j_op o_mod (jn 4) j_int))
    (jss_cons (js_if (jt_tru (K:=K) (jn 2))
    (jss_one (js_set (i:=5) sc.nd rfl (Or.inl rfl) (j_op o_mul (j_op o_mod (jn 4) j_int) j_int)))
    jss_nil)
    hP4)))),?_⟩
    refine ⟨by decide,.inl ⟨_,_,hS,at9 (c % 3) (by lia) (by lia),?_⟩⟩
    refine ⟨c,1,rfl,by decide,by decide,by decide,?_⟩
    refine ⟨few,rfl,?_⟩
    show if few = true then _ else _
    refine ite2 (fun h=>?_) (fun h=>?_)
    · exact ⟨by decide,.inl ⟨by lia,by lia⟩,hq4 (mixF c 1 % 3 * 33) (by lia) (by lia)⟩
    · exact hq4 (mixF c 1 % 99) (by lia) (by lia)
end
end K21
--@RAISES but law
namespace K21
open PySem PySem.Spec PyProof.Rows L2 Rg
section
variable {P:Program} {w:World} {K:PySem.W.Frag} {mg:Str→Option Value} {base:Heap} {C tS tN tT:Addr}
theorem int_dat {H:Hp}:∀ ns:List Int,DatVs K H (ns.map V.int) (ns.map PyData.int)
  | []=>.nil
  | n :: r=>.cons (.int _) (int_dat r)
theorem int_lay:∀ ns:List Int,PyData.canLayAll0 (ns.map PyData.int) = true
  | []=>by simp only [List.map_nil,PyData.canLayAll0]
  | n :: r=>by
    rw [List.map_cons]
    simp only [PyData.canLayAll0,PyData.canLay0,int_lay r,Bool.and_self]
theorem eqv_none (ds:List PyData):PyData.eqv (.list ds) (.list []) = ds.isEmpty:=by
  cases ds <;> simp [PyData.eqv,PyData.eqvAll]
inductive spLs (K:PySem.W.Frag) (vs : List V) (H : Hp) (Q : VK) (_e : XK) : Prop | mk (a t:Addr) (rl:List V) (rs:List Rl) (q:Rl) : (vs = [.ref a,.ref t]) → SqL K H a rl → (DatVs K H rl (rs.map Rl.dat)) → (rs.length ≤ 60) → (DatV K H (.ref t) q.dat) → (q.ps.length ≤ 100) → (q.ps ≠ [q.sort]) → (∀ H' p,Same H H'→DatV K H' (.ref p) (.tuple ((symsP rs q).map syD))→Q (.ref p) H') → spLs K vs H Q _e
noncomputable abbrev st__law_symbols:Stmt:=top 33
theorem sc__law_symbols:FnScope ["_law_rules","_law_rule_here","_law_sort","_law_rank","_law_side","_law_parts","_law_found","_law_place","_law_ranks_here","_law_low"] ["_law_rules","_law_rule_here"] (defScope st__law_symbols):=⟨rfl,rfl,rfl,by decide +kernel,rfl,by decide +kernel,by decide +kernel⟩
theorem def_ls (R:Raw K mg "_law_symbols" st__law_symbols ["_law_rules","_law_rule_here"]) (T:Txt K w mg tT) (D__law_ranks:Def P w K mg base 1 "_law_ranks" ["_law_rules","_law_sort"] (spRanks K)):Def P w K mg base 2 "_law_symbols" ["_law_rules","_law_rule_here"] (spLs K):=by
  refine R.defJ sc__law_symbols (fun vs H Q E h=>?_) (fun f cdv A outer s H vs Q E hr h=>?_)
  · obtain ⟨a,t,rl,rs,q,rfl,_⟩:=h
    rfl
  · obtain ⟨a,t,rl,rs,q,rfl,hS,hD,hl,hq,hp8,hown,qq⟩:=h
    have sc:=sc__law_symbols
    have hu:=hr.units
    have hbg:(1000000:Nat) < sizeLine:=by rw [sizeLine_eq]; decide
    obtain ⟨t',tp,ex,hT,hTp⟩:=dat_rl hq
    obtain rfl:t = t':=by injection ex
    obtain ⟨u4, hP4, hq4⟩ : ∃ u, JSs (cxOf CX0 P w K mg base ["_law_rules", "_law_rule_here", "_law_sort", "_law_rank", "_law_side", "_law_parts", "_law_found", "_law_place", "_law_ranks_here", "_law_low"] "_law_symbols" (defScope st__law_symbols) f cdv A outer s H E).nox ((stBody ((defBody st__law_symbols).getD 2 (.Pass ⟨0, 0, 0, 0⟩))).drop 4) u ∧
        ∀ (D:Ends) (H1:Hp) (b pr:Addr) (ns:List Int) (j:Nat) (p:List Nat) (lo:Int) (ys:List V) (v1 v2 v3 v4:Option V),lo = lowR q j p→q.ps[j]? = some p→Same H H1→H b = none→H1 b = some (.lst ys)→ys.length ≤ 1000→SqL K H1 pr (ns.map V.int)→Srt ns (ranksR rs p)→ns.length ≤ 60 →
          (∀ (H2:Hp) (x:V),(∀ y d,NoL d→DatV K H1 y d→DatV K H2 y d)→Same H H2→H2 b = some (.lst (ys ++ [x]))→DatV K H2 x (syD (p,if ranksR rs p = [] then none else some (minL (fitR rs q j p))))→D.nx [some (.ref a),v1,v2,v3,v4,some (.ref tp),some (.ref b),some (.int (j:Nat)),some (.ref pr),some (.int lo)] H2) →
          u D [some (.ref a),v1,v2,v3,v4,some (.ref tp),some (.ref b),some (.int (j:Nat)),some (.ref pr),some (.int lo)] H1:=by
      refine ⟨_,(jss_one (js_if (jt_cmp (o_eqA hu (K:=K)) (jn 8) (j_lst ja_nil))
    (jss_one (js_expr (j_bm (K:=K) PySem.F.plainAttrs_list PySem.F.slot_list_append PySem.F.type_list_append m_append (jn 6) (ja_cons (j_ix (o_ix hu (K:=K) (w:=w)) (jn 5) (jn 7)) ja_nil))))
    (jss_one (js_expr (j_bm (K:=K) PySem.F.plainAttrs_list PySem.F.slot_list_append PySem.F.type_list_append m_append (jn 6) (ja_cons (j_tup (ja_cons (j_ix (o_ix hu (K:=K) (w:=w)) (jn 5) (jn 7)) (ja_cons (j_minD rfl rfl T.n_min (j_comp (N:=["_law_one","_law_low"]) (cap:=[none,some 9]) rfl (CompScope.of rfl (by rfl)) (ji_any (K:=K) (jn 8)) (fun _ _ _ _=>(jg_name (i:=0) (show List.Nodup [("_law_one":Str),("_law_low":Str)] by decide +kernel) rfl (Or.inl rfl))) (fun _ _ _ _=>(jts_one (jt_cmp o_ge (jn 0) (jn 1)))) (fun _ _ _ _=>(jn 0))) (j_neg j_int)) ja_nil))) ja_nil)))))),?_⟩
      intro D H1 b pr ns j p lo ys v1 v2 v3 v4 elo hp s1 hb0 hb1 hyl hpr hsrt hnl hend
      have hpj:(q.ps.map fun l=>V.str (S l))[j]? = some (V.str (S p)):=by rw [List.getElem?_map,hp]; rfl
      refine ⟨(show 0 ≤ sizeLine by decide),fun p2 hp2=>?_⟩
      have s2:Same H1 (upd H1 p2 (.lst [])):=same_new hp2
      have h2:SqL K (upd H1 p2 (.lst [])) p2 []:=SqL.of upd_same
      generalize upd H1 p2 (.lst []) = H2 at s2 h2 ⊢
      refine ⟨.list (ns.map PyData.int),.list [],.list (s2.seq hpr) (int_dat _),.list h2 .nil,by simp only [PyData.canLay0]; exact int_lay _,by simp only [PyData.canLay0,PyData.canLayAll0],by simp only [PyData.depth,PyData.depthAll]; lia,?_⟩
      show if (false ^^ PyData.eqv _ _) = true then _ else _
      rw [Bool.false_xor,eqv_none]
      have hb2:=s2 _ _ hb1
      have sA:=s1.trans s2
      refine ite2 (fun h=>?_) (fun h=>?_)
      · have hn:ns = []:=by simpa using h
        have hr:=hsrt.nil.mp hn
        refine ⟨.inl ⟨rfl,_,SqL.of hb2⟩,.inr ⟨_,.str (S p),sA.seqT hTp,atI_nat hpj,⟨ys,hb2,by lia,?_⟩⟩⟩
        refine hend _ _ (fun y d n hy=>dat_wr (.inl ⟨_,hb2⟩) n (hy.same s2)) (fun x u e=>?_) upd_same ?_
        · rw [upd_ne fun z=>by rw [z,hb0] at e; cases e]; exact sA x u e
        · rw [if_pos hr]; exact .str _
      · have hn:ns ≠ []:=fun z=>h (by rw [z]; rfl)
        have hr:ranksR rs p ≠ []:=fun z=>hn (hsrt.nil.mpr z)
        refine ⟨.inl ⟨rfl,_,SqL.of hb2⟩,.inr ⟨_,.str (S p),sA.seqT hTp,atI_nat hpj,?_⟩⟩
        refine .inl ⟨⟨_,s2.seq hpr⟩,?_⟩
        refine gath_list (xs:=ns.map V.int) (fun i zs σ' H'=>H' = H2∧zs = ((ns.take i).filter (fun x=>decide (lo ≤ x))).map V.int∧∃ v,σ' = [v,some (.int lo)]) (by rw [List.length_map]; lia) ⟨rfl,rfl,none,rfl⟩
          (fun i zs σ' H' h=>by rw [h.2.1,List.length_map]; exact Nat.le_trans (List.length_filter_le _ _) (by rw [List.length_take]; lia)) (fun i zs σ' H' h=>by rw [h.1]; exact s2.seq hpr) ?_ ?_
        · rintro i x zs σ' H3 hi ⟨rfl,rfl,v,rfl⟩
          rw [List.getElem?_map] at hi
          cases ee:ns[i]? with
          | none=>rw [ee] at hi; cases hi
          | some g =>
            rw [ee] at hi
            have ex:x = V.int g:=(Option.some.inj hi).symm
            subst ex
            have et:ns.take (i + 1) = ns.take i ++ [g]:=by rw [List.take_add_one,ee]; rfl
            show if decide (g ≥ lo) = true then _ else _
            refine ite2 (fun h=>?_) (fun h=>?_)
            · refine ⟨rfl,?_,_,rfl⟩
              rw [et,List.filter_append,List.filter_cons_of_pos (p:=fun (x:Int)=>decide (lo ≤ x)) h,List.filter_nil,List.map_append]
              rfl
            · refine ⟨rfl,?_,_,rfl⟩
              rw [et,List.filter_append,List.filter_cons_of_neg (p:=fun (x:Int)=>decide (lo ≤ x)) h,List.filter_nil,List.append_nil]
        · rintro zs σ' H3 ⟨rfl,rfl,v,rfl⟩ D2 hD3
          rw [List.length_map,List.take_length]
          have s3:Same H3 (upd H3 D2 (.lst ((ns.filter (fun x=>decide (lo ≤ x))).map V.int))):=same_new hD3
          have h3:SqL K (upd H3 D2 (.lst ((ns.filter (fun x=>decide (lo ≤ x))).map V.int))) D2 ((ns.filter (fun x=>decide (lo ≤ x))).map V.int):=SqL.of upd_same
          generalize upd H3 D2 (.lst ((ns.filter (fun x=>decide (lo ≤ x))).map V.int)) = H4 at s3 h3 ⊢
          have hb4:=s3 _ _ hb2
          have key:∀ m,m = minL (fitR rs q j p)→∀ p5,H4 p5 = none→(upd H4 p5 (.tup [V.str (S p),V.int m])) b = some (.lst ys)∧ys.length < sizeLine∧D.nx [some (.ref a),v1,v2,v3,v4,some (.ref tp),some (.ref b),some (.int (j:Nat)),some (.ref pr),some (.int lo)] (upd (upd H4 p5 (.tup [V.str (S p),V.int m])) b (.lst (ys ++ [.ref p5]))):=fun m em p5 hp5=>by
            have s5:Same H4 (upd H4 p5 (.tup [V.str (S p),V.int m])):=same_new hp5
            have h5:SqT K (upd H4 p5 (.tup [V.str (S p),V.int m])) p5 (pV (S p,m)):=SqT.of upd_same
            generalize upd H4 p5 (.tup [V.str (S p),V.int m]) = H5 at s5 h5 ⊢
            have hb5:=s5 _ _ hb4
            have s25:=(s2.trans s3).trans s5
            refine ⟨hb5,by lia,hend _ _ (fun y d n hy=>dat_wr (.inl ⟨_,hb5⟩) n (hy.same s25)) (fun x u e=>?_) upd_same ?_⟩
            · rw [upd_ne fun z=>by rw [z,hb0] at e; cases e]; exact (s1.trans s25) x u e
            · rw [if_neg hr,← em]
              exact dat_sy (sqT_wr (.inl ⟨_,hb5⟩) h5)
          have hfit:∀ x,x ∈ ns.filter (fun x=>decide (lo ≤ x)) ↔ x ∈ fitR rs q j p:=fun x=>by
            unfold fitR
            rw [List.mem_filter,List.mem_filter,hsrt.mem,elo]
          refine ⟨D2,ns.filter (fun x=>decide (lo ≤ x)),rfl,h3,fun e=>?_,fun m hm hle=>?_⟩
          · refine ⟨(show 2 ≤ sizeLine by decide),fun p5 hp5=>?_⟩
            obtain ⟨a1,a2,a3⟩:=key (-1) (by
              have:fitR rs q j p = []:=List.eq_nil_iff_forall_not_mem.mpr fun x hx=>by have:=(hfit x).mpr hx; rw [e] at this; cases this
              rw [this]; rfl) p5 hp5
            exact ⟨ys,a1,a2,a3⟩
          · refine ⟨(show 2 ≤ sizeLine by decide),fun p5 hp5=>?_⟩
            obtain ⟨a1,a2,a3⟩:=key m (minL_of ((hfit m).mp hm) fun x hx=>hle x ((hfit x).mpr hx)) p5 hp5
            exact ⟨ys,a1,a2,a3⟩
    refine ⟨_,(jss_cons (js_asg (jn 1) (jg_tup (K:=K) (n:=4) rfl (jgs_cons (jg_name (i:=2) sc.nd rfl (Or.inl rfl)) (jgs_cons (jg_name (i:=3) sc.nd rfl (Or.inl rfl)) (jgs_cons (jg_name (i:=4) sc.nd rfl (Or.inl rfl)) (jgs_cons (jg_name (i:=5) sc.nd rfl (Or.inl rfl)) jgs_nil))))))
    (jss_cons (js_set (i:=6) sc.nd rfl (Or.inl rfl) (j_lst ja_nil))
    (jss_cons (js_for PassesOwn.never rfl (ji_rng1 rfl T.n_range (ja_cons (j_callB (c_len (K:=K)) rfl T.n_len PySem.boot_len (ja_cons (jn 5) ja_nil)) ja_nil)) (jg_name (i:=7) sc.nd rfl (Or.inl rfl))
    (jss_cons (js_set (i:=8) sc.nd rfl (Or.inl rfl) (j_def D__law_ranks (hr.mono (by decide)) rfl (ja_cons (jn 0) (ja_cons (j_ix (o_ix hu (K:=K) (w:=w)) (jn 5) (jn 7)) ja_nil))))
    (jss_cons (js_set (i:=9) sc.nd rfl (Or.inr rfl) j_int)
    (jss_cons (js_if (jw_t (jw_and (jt_cmp (o_eqA hu (K:=K)) (j_ix (o_ix hu (K:=K) (w:=w)) (jn 5) (jn 7)) (jn 2)) (jw_and1 (jt_cmp (o_eqA hu (K:=K)) (jn 7) j_int))))
    (jss_one (js_set (i:=9) sc.nd rfl (Or.inr rfl) (j_op (o_add (K:=K)) (jn 3) (j_callTy c_int rfl T.n_int boot_int (ja_cons (j_cmp (o_ne hu (K:=K)) (jn 4) j_str) ja_nil)))))
    jss_nil)
    (jss_cons (js_if (jw_t (jw_and (jt_cmp (o_eqA hu (K:=K)) (j_ix (o_ix hu (K:=K) (w:=w)) (jn 5) (jn 7)) (jn 2)) (jw_and1 (jt_cmp (o_eqA hu (K:=K)) (jn 7) (j_op o_sub (j_callB (c_len (K:=K)) rfl T.n_len PySem.boot_len (ja_cons (jn 5) ja_nil)) j_int)))))
    (jss_one (js_set (i:=9) sc.nd rfl (Or.inr rfl) (j_op (o_add (K:=K)) (jn 3) (j_callTy c_int rfl T.n_int boot_int (ja_cons (j_cmp (o_ne hu (K:=K)) (jn 4) j_str) ja_nil)))))
    jss_nil)
    hP4)))))
    (jss_one (js_ret (j_callTy (c_tuple (K:=K)) rfl T.n_tuple boot_tuple (ja_cons (jn 6) ja_nil))))))),?_⟩
    refine ⟨t,_,rfl,hT,rfl,_,_,rfl,_,_,rfl,_,_,rfl,_,_,rfl,rfl,?_⟩
    refine ⟨(show 0 ≤ sizeLine by decide),fun b hb0=>?_⟩
    have s1:Same H (upd H b (.lst [])):=same_new hb0
    have h1:upd H b (.lst []) b = some (.lst []):=upd_same
    generalize upd H b (.lst []) = H1 at s1 h1 ⊢
    refine ⟨_,.inr (s1.seqT hTp),?_⟩
    rw [List.length_map]
    refine ⟨show -(2 ^ 62) ≤ ((q.ps.length:Nat):Int) by lia,show ((q.ps.length:Nat):Int) < 2 ^ 62 by lia,?_⟩
    refine for_range (n:=((q.ps.length:Nat):Int).toNat) (fun i σ H'=>∃ (v7 v8 v9:Option V) (ys:List V),Same H H'∧H' b = some (.lst ys)∧DatVs K H' ys (((symsP rs q).take i).map syD)∧σ = [some (.ref a),some (.ref t),some (.str (S q.sort)),some (.int q.rank),some (.str q.side),some (.ref tp),some (.ref b),v7,v8,v9])
      ⟨none,none,none,[],s1,h1,.nil,rfl⟩ ?_ ?_
    · rintro i σ H2 hi ⟨v7,v8,v9,ys,s2,hb2,hd2,rfl⟩
      have hil:i < q.ps.length:=by lia
      rw [show (0:Int) + ((i:Nat):Int) = ((i:Nat):Int) from Int.zero_add _]
      have hyl:ys.length = i:=by have:=hd2.length; rw [List.length_map,List.length_take,symsP_len] at this; lia
      have hp:q.ps[i]? = some (q.ps.getD i []):=by rw [List.getD,List.getElem?_eq_getElem hil]; rfl
      have et:(symsP rs q).take (i + 1) = (symsP rs q).take i ++ [symP rs q i]:=by
        rw [List.take_add_one]
        unfold symsP
        rw [List.getElem?_map,List.getElem?_range hil]
        rfl
      have es:symP rs q i = (q.ps.getD i [],if ranksR rs (q.ps.getD i []) = [] then none else some (minL (fitR rs q i (q.ps.getD i [])))):=rfl
      generalize q.ps.getD i [] = p at hp es
      have hpj:(q.ps.map fun l=>V.str (S l))[i]? = some (V.str (S p)):=by rw [List.getElem?_map,hp]; rfl
      refine .inr ⟨_,.str (S p),s2.seqT hTp,atI_nat hpj,?_⟩
      refine ⟨a,rl,rs,p,rfl,s2.seq hS,hD.same s2,hl,fun H3 pr ns s3 hpr hpm hsr=>?_⟩
      have s23:=s2.trans s3
      have hTp3:=s23.seqT hTp
      have nl:ns.length ≤ 60:=by
        have h2:=dist_len (ranksR rs p)
        have h3:=ranks_len rs p
        have:=hpm.length_eq
        lia
      have fin:∀ (D9:Ends),(∀ σ' H',(∃ (v7 v8 v9:Option V) (ys:List V),Same H H'∧H' b = some (.lst ys)∧DatVs K H' ys (((symsP rs q).take (i + 1)).map syD)∧σ' = [some (.ref a),some (.ref t),some (.str (S q.sort)),some (.int q.rank),some (.str q.side),some (.ref tp),some (.ref b),v7,v8,v9])→D9.nx σ' H')→∀ lo,lo = lowR q i p→u4 D9 [some (.ref a),some (.ref t),some (.str (S q.sort)),some (.int q.rank),some (.str q.side),some (.ref tp),some (.ref b),some (.int (i:Nat)),some (.ref pr),some (.int lo)] H3:=fun D9 hD9 lo elo =>
        hq4 D9 H3 b pr ns i p lo ys _ _ _ _ elo hp s23 hb0 (s3 _ _ hb2) (by lia) (SqL.of hpr) ⟨hpm,hsr⟩ nl fun H4 x keep s4 hb4 hx=>hD9 _ _ ⟨_,_,_,ys ++ [x],s4,hb4,by
          rw [et,List.map_append,es]
          refine DatVs.snoc hx ?_
          have all:∀ {xs:List V} {ds:List PyData},(∀ d ∈ ds,NoL d)→DatVs K H3 xs ds→DatVs K H4 xs ds:=by
            intro xs ds n h
            induction ds generalizing xs with
            | nil=>cases h; exact .nil
            | cons d ds ih =>
              cases h with
              | cons h1 ht=>exact .cons (keep _ _ (n d List.mem_cons_self) h1) (ih (fun d hd=>n d (List.mem_cons_of_mem _ hd)) ht)
          exact all (fun d hd=>by obtain ⟨z,_,rfl⟩:=List.mem_map.mp hd; exact sy_noL z) (hd2.same s3),rfl⟩
      refine .inr ⟨_,.str (S p),hTp3,atI_nat hpj,?_⟩
      show if (false ^^ decide ((S p:Str) = S q.sort)) = true then _ else _
      rw [Bool.false_xor]
      refine ite2 (fun hps=>?_) (fun hps=>?_)
      · have eps:p = q.sort:=S_inj (of_decide_eq_true hps)
        show if (false ^^ decide (((i:Nat):Int) = 0)) = true then _ else _
        rw [Bool.false_xor]
        refine ite2 (fun hj0=>?_) (fun hj0=>?_)
        · have ej:i = 0:=by have:=of_decide_eq_true hj0; lia
          refine .inr ⟨_,.str (S p),hTp3,atI_nat hpj,?_⟩
          show if (false ^^ decide ((S p:Str) = S q.sort)) = true then _ else _
          rw [Bool.false_xor,if_pos hps]
          refine ⟨_,.inr hTp3,?_⟩
          have hne1:¬ ((i:Nat):Int) = (((q.ps.map fun l=>V.str (S l)).length:Nat):Int) - 1:=fun z=>by
            rw [List.length_map] at z
            have h1:q.ps.length = 1:=by lia
            cases e:q.ps with
            | nil=>rw [e] at h1; cases h1
            | cons x r =>
              rw [e] at h1
              have er:r = []:=List.length_eq_zero_iff.mp (Nat.succ.inj h1)
              subst er
              rw [e,ej] at hp
              have ex:x = p:=Option.some.inj hp
              exact hown (by rw [e,ex,eps])
          refine (if_neg (show ¬ (false ^^ decide (((i:Nat):Int) = (((q.ps.map fun l=>V.str (S l)).length:Nat):Int) - 1)) = true by rw [Bool.false_xor]; exact fun z=>hne1 (of_decide_eq_true z))).mpr ?_
          refine fin _ (fun σ' H' h=>h) _ ?_
          unfold lowR
          rw [if_pos eps,if_pos ej,Bool.true_xor]
          by_cases hs:q.side = Str.ofString "left"
          · rw [if_pos hs,decide_eq_true hs]; rfl
          · rw [if_neg hs,decide_eq_false hs]; rfl
        · have ej:¬ i = 0:=fun z=>hj0 (decide_eq_true (by lia))
          refine .inr ⟨_,.str (S p),hTp3,atI_nat hpj,?_⟩
          show if (false ^^ decide ((S p:Str) = S q.sort)) = true then _ else _
          rw [Bool.false_xor,if_pos hps]
          refine ⟨_,.inr hTp3,?_⟩
          show if (false ^^ decide (((i:Nat):Int) = (((q.ps.map fun l=>V.str (S l)).length:Nat):Int) - 1)) = true then _ else _
          rw [Bool.false_xor,List.length_map]
          refine ite2 (fun hj1=>?_) (fun hj1=>?_)
          · have ej1:i + 1 = q.ps.length:=by have:=of_decide_eq_true hj1; lia
            refine fin _ (fun σ' H' h=>h) _ ?_
            unfold lowR
            rw [if_pos eps,if_neg ej,if_pos ej1,Bool.true_xor]
            by_cases hs:q.side = Str.ofString "right"
            · rw [if_pos hs,decide_eq_true hs]; rfl
            · rw [if_neg hs,decide_eq_false hs]; rfl
          · have ej1:¬ i + 1 = q.ps.length:=fun z=>hj1 (decide_eq_true (by lia))
            refine fin _ (fun σ' H' h=>h) _ ?_
            unfold lowR
            rw [if_pos eps,if_neg ej,if_neg ej1]
      · have eps:¬ p = q.sort:=fun z=>hps (decide_eq_true (by rw [z]))
        refine .inr ⟨_,.str (S p),hTp3,atI_nat hpj,?_⟩
        show if (false ^^ decide ((S p:Str) = S q.sort)) = true then _ else _
        rw [Bool.false_xor,if_neg hps]
        refine fin _ (fun σ' H' h=>h) _ ?_
        unfold lowR
        rw [if_neg eps]
    · rintro σ H2 ⟨v7,v8,v9,ys,s2,hb2,hd2,rfl⟩
      rw [List.take_of_length_le (by rw [symsP_len]; lia)] at hd2
      refine ⟨_,.inl ⟨SqL.of hb2,fun t1 ht1=>?_⟩⟩
      exact qq _ t1 (s2.trans (same_new ht1)) (.tuple (SqT.of upd_same) (hd2.same (same_new ht1)))
end
end K21
--@RAISES but law
namespace K21
open PySem PySem.Spec PyProof.Rows L2 Rg
section
variable {P:Program} {w:World} {K:PySem.W.Frag} {mg:Str→Option Value} {base:Heap} {C tS tN tT:Addr}
theorem inV_strs (l:List Nat) (acc:List (List Nat)):inV (V.str (S l)) (acc.map fun k=>V.str (S k)) = decide (l ∈ acc):=by
  unfold inV
  rw [List.any_map,Bool.eq_iff_iff,List.any_eq_true,decide_eq_true_eq]
  constructor
  · rintro ⟨x,hx,e⟩
    have e2:(S x:Str) = S l:=by
      have:((S x:Str) == S l) = true:=e
      exact beq_iff_eq.mp this
    rw [← S_inj e2]; exact hx
  · intro h
    exact ⟨l,h,by show ((S l:Str) == S l) = true; simp⟩
inductive spLp (K:PySem.W.Frag) (vs : List V) (H : Hp) (Q : VK) (_e : XK) : Prop | mk (a:Addr) (rl:List V) (rs:List Rl) : (vs = [.ref a]) → SqL K H a rl → (DatVs K H rl (rs.map Rl.dat)) → (1 ≤ rs.length) → (rs.length ≤ 24) → ((∀ q ∈ rs,q.ps.length ≤ 100∧q.ps ≠ [q.sort])) → (∀ (H':Hp) (p:Addr) (xs:List V),Same H H'→H' p = some (.lst xs)→DatVs K H' xs ((plainF rs).map PR.dat)→Q (.ref p) H') → spLp K vs H Q _e
noncomputable abbrev st__law_plain:Stmt:=top 34
theorem sc__law_plain:FnScope ["_law_rules","_law_found","_law_sorts","_law_rule_here","_law_sort","_law_ranks_here","_law_k","_law_number"] ["_law_rules"] (defScope st__law_plain):=⟨rfl,rfl,rfl,by decide +kernel,rfl,by decide +kernel,by decide +kernel⟩
theorem def_lp (R:Raw K mg "_law_plain" st__law_plain ["_law_rules"]) (T:Txt K w mg tT) (D__law_ranks:Def P w K mg base 1 "_law_ranks" ["_law_rules","_law_sort"] (spRanks K)) (D__law_symbols:Def P w K mg base 2 "_law_symbols" ["_law_rules","_law_rule_here"] (spLs K)):Def P w K mg base 3 "_law_plain" ["_law_rules"] (spLp K):=by
  refine R.defJ sc__law_plain (fun vs H Q E h=>?_) (fun f cdv A outer s H vs Q E hr h=>?_)
  · obtain ⟨a,rl,rs,rfl,_⟩:=h
    rfl
  · obtain ⟨a,rl,rs,rfl,hS,hD,r1,r24,hps,qq⟩:=h
    have sc:=sc__law_plain
    have hu:=hr.units
    have hbg:(1000000:Nat) < sizeLine:=by rw [sizeLine_eq]; decide
    have hrl:rl.length = rs.length:=by have:=hD.length; rw [List.length_map] at this; exact this
    have rul:∀ (n:Nat) (x:V),rl[n]? = some x→∃ (q:Rl) (t tp:Addr),rs[n]? = some q∧x = .ref t∧DatV K H (.ref t) q.dat∧SqT K H t [.str (S q.sort),.int q.rank,.str q.side,.ref tp]:=fun n x hx=>by
      obtain ⟨dd,hdd,hxd⟩:=hD.get hx
      rw [List.getElem?_map] at hdd
      cases ee:rs[n]? with
      | none=>rw [ee] at hdd; cases hdd
      | some g =>
        rw [ee] at hdd
        have ed:dd = g.dat:=(Option.some.inj hdd).symm
        subst ed
        obtain ⟨t,tp,e,hT,hTp⟩:=dat_rl hxd
        subst e
        exact ⟨g,t,tp,rfl,rfl,hxd,hT⟩
    have hn0:rl[0]? = some (rl[0]'(by lia)):=List.getElem?_eq_getElem (by lia)
    obtain ⟨q0',t0,tp0,hq0',ex0,_,hT0⟩:=rul 0 _ hn0
    rw [ex0] at hn0
    have hq0:rs[0]? = some (rs.getD 0 ⟨[],0,"",[]⟩):=by rw [List.getD,List.getElem?_eq_getElem (by lia)]; rfl
    have etop:topR rs = ⟨([],0),[((rs.getD 0 ⟨[],0,"",[]⟩).sort,some ((srtI (ranksR rs (rs.getD 0 ⟨[],0,"",[]⟩).sort)).getD 0 0))],-1⟩:=rfl
    generalize rs.getD 0 ⟨[],0,"",[]⟩ = q0 at hq0 etop
    rw [hq0'] at hq0
    cases hq0
    have mq0:=List.mem_of_getElem? hq0'
    obtain ⟨u3, hP3, hq3⟩ : ∃ u, JSs (cxOf CX0 P w K mg base ["_law_rules", "_law_found", "_law_sorts", "_law_rule_here", "_law_sort", "_law_ranks_here", "_law_k", "_law_number"] "_law_plain" (defScope st__law_plain) f cdv A outer s H E).nox ((defBody st__law_plain).drop 3) u ∧
        ∀ (H1:Hp) (b c:Addr) (v3:Option V),H b = none→c ≠ b→H1 c = some (.lst ((sortsF rs).map fun l=>V.str (S l)))→PRH K H H1 b [topR rs] →
          u { nx:=fun _ H'=>Q .non H',rt:=Q } [some (.ref a),some (.ref b),some (.ref c),v3,none,none,none,none] H1:=by
      refine ⟨_,(jss_cons (js_for PassesOwn.never rfl (ji_any (K:=K) (jn 2)) (jg_name (i:=4) sc.nd rfl (Or.inl rfl))
    (jss_cons (js_set (i:=5) sc.nd rfl (Or.inl rfl) (j_def D__law_ranks (hr.mono (by decide)) rfl (ja_cons (jn 0) (ja_cons (jn 4) ja_nil))))
    (jss_one (js_for PassesOwn.never rfl (ji_rng1 rfl T.n_range (ja_cons (j_callB (c_len (K:=K)) rfl T.n_len PySem.boot_len (ja_cons (jn 5) ja_nil)) ja_nil)) (jg_name (i:=6) sc.nd rfl (Or.inl rfl))
    (jss_cons (js_for PassesOwn.never rfl (ji_rng1 rfl T.n_range (ja_cons (j_callB (c_len (K:=K)) rfl T.n_len PySem.boot_len (ja_cons (jn 0) ja_nil)) ja_nil)) (jg_name (i:=7) sc.nd rfl (Or.inl rfl))
    (jss_one (js_if (jw_t (jw_and (jt_cmp (o_eqA hu (K:=K)) (j_ix (o_ix hu (K:=K) (w:=w)) (j_ix (o_ix hu (K:=K) (w:=w)) (jn 0) (jn 7)) j_int) (jn 4)) (jw_and1 (jt_cmp (o_eqA hu (K:=K)) (j_ix (o_ix hu (K:=K) (w:=w)) (j_ix (o_ix hu (K:=K) (w:=w)) (jn 0) (jn 7)) j_int) (j_ix (o_ix hu (K:=K) (w:=w)) (jn 5) (jn 6))))))
    (jss_one (js_expr (j_bm (K:=K) PySem.F.plainAttrs_list PySem.F.slot_list_append PySem.F.type_list_append m_append (jn 1) (ja_cons (j_tup (ja_cons (j_tup (ja_cons (jn 4) (ja_cons (j_ix (o_ix hu (K:=K) (w:=w)) (jn 5) (jn 6)) ja_nil))) (ja_cons (j_def D__law_symbols (hr.mono (by decide)) rfl (ja_cons (jn 0) (ja_cons (j_ix (o_ix hu (K:=K) (w:=w)) (jn 0) (jn 7)) ja_nil))) (ja_cons (jn 7) ja_nil)))) ja_nil))))
    jss_nil)))
    (jss_one (js_if (jt_cmp o_lt (j_op (o_add (K:=K)) (jn 6) j_int) (j_callB (c_len (K:=K)) rfl T.n_len PySem.boot_len (ja_cons (jn 5) ja_nil)))
    (jss_one (js_expr (j_bm (K:=K) PySem.F.plainAttrs_list PySem.F.slot_list_append PySem.F.type_list_append m_append (jn 1) (ja_cons (j_tup (ja_cons (j_tup (ja_cons (jn 4) (ja_cons (j_ix (o_ix hu (K:=K) (w:=w)) (jn 5) (jn 6)) ja_nil))) (ja_cons (j_tup (ja_cons (j_tup (ja_cons (jn 4) (ja_cons (j_ix (o_ix hu (K:=K) (w:=w)) (jn 5) (j_op (o_add (K:=K)) (jn 6) j_int)) ja_nil))) ja_nil)) (ja_cons (j_neg j_int) ja_nil)))) ja_nil))))
    jss_nil)))))))
    (jss_one (js_ret (jn 1)))),?_⟩
      intro H1 b c v3 hb0 hcb hc1 g1
      have hsl:(sortsF rs).length ≤ 24:=by have:=sorts_len rs []; unfold sortsF; simp at this ⊢; lia
      refine .inl ⟨⟨_,SqL.of hc1⟩,?_⟩
      refine for_list (xs:=(sortsF rs).map fun l=>V.str (S l)) (fun i σ H'=>∃ (v4 v5 v6 v7:Option V),H' c = some (.lst ((sortsF rs).map fun l=>V.str (S l)))∧PRH K H H' b (topR rs :: ((sortsF rs).take i).flatMap (blkF rs))∧σ = [some (.ref a),some (.ref b),some (.ref c),v3,v4,v5,v6,v7])
        ⟨none,none,none,none,hc1,g1,rfl⟩ (fun i σ H' _ h=>by obtain ⟨_,_,_,_,e1,_⟩:=h; exact SqL.of e1) ?_ ?_
      · rintro i x σ H2 hx ⟨v4,v5,v6,v7,hc2,g2,rfl⟩
        have hil:i < (sortsF rs).length:=by have:=(List.getElem?_eq_some_iff.mp hx).1; rw [List.length_map] at this; exact this
        rw [List.getElem?_map,List.getElem?_eq_getElem hil] at hx
        have mso:(sortsF rs)[i] ∈ sortsF rs:=List.getElem_mem _
        have et:(sortsF rs).take (i + 1) = (sortsF rs).take i ++ [(sortsF rs)[i]]:=by rw [List.take_add_one,List.getElem?_eq_getElem hil]; rfl
        generalize (sortsF rs)[i] = so at hx mso et
        have ex:x = V.str (S so):=(Option.some.inj hx).symm
        subst ex
        obtain ⟨q1,mq1,eq1⟩:=mem_sortsF.mp mso
        obtain ⟨R0,eR0⟩:∃ R0,R0 = topR rs :: ((sortsF rs).take i).flatMap (blkF rs):=⟨_,rfl⟩
        have hfl:=flat_len r24 ((sortsF rs).take i)
        rw [List.length_take] at hfl
        have hR0:1 ≤ R0.length∧R0.length ≤ 15000:=by rw [eR0,List.length_cons]; lia
        rw [← eR0] at g2
        refine ⟨a,rl,rs,so,rfl,g2.1.seq hS,hD.same g2.1,by lia,fun H3 pr ns s3 hpr hpm hsr=>?_⟩
        have ens:=srt_eq hpm hsr
        have nl:ns.length ≤ 24:=by
          have h2:=dist_len (ranksR rs so)
          have h3:=ranks_len rs so
          have:=hpm.length_eq
          lia
        have g3:=g2.grow s3
        have hc3:=s3 _ _ hc2
        have hprb:pr ≠ b:=fun z=>by
          obtain ⟨_,xs,hx,hdx⟩:=g3
          rw [z,hx] at hpr
          have e:xs = ns.map V.int:=by injection hpr with hpr; injection hpr
          rw [e] at hdx
          have hl9:=hdx.length
          rw [List.length_map,List.length_map] at hl9
          cases ns with
          | nil=>simp at hl9; lia
          | cons n r =>
            cases R0 with
            | nil=>simp at hl9
            | cons r0 rr =>
              cases hdx with
              | cons h1 _=>unfold PR.dat at h1; cases h1
        refine ⟨_,.inl (SqL.of hpr),?_⟩
        rw [List.length_map]
        refine ⟨show -(2 ^ 62) ≤ ((ns.length:Nat):Int) by lia,show ((ns.length:Nat):Int) < 2 ^ 62 by lia,?_⟩
        refine for_range (n:=((ns.length:Nat):Int).toNat) (fun k σ H'=>∃ (v6 v7:Option V),H' c = some (.lst ((sortsF rs).map fun l=>V.str (S l)))∧H' pr = some (.lst (ns.map V.int))∧PRH K H H' b (R0 ++ blkU rs so ns k)∧σ = [some (.ref a),some (.ref b),some (.ref c),v3,some (.str (S so)),some (.ref pr),v6,v7])
          ⟨v6,v7,hc3,hpr,by rw [show blkU rs so ns 0 = [] from rfl,List.append_nil]; exact g3,rfl⟩ ?_ ?_
        · rintro k σ H4 hk ⟨v6,v7,hc4,hpr4,g4,rfl⟩
          have hkl:k < ns.length:=by lia
          rw [show (0:Int) + ((k:Nat):Int) = ((k:Nat):Int) from Int.zero_add _]
          have hnk:(ns.map V.int)[k]? = some (V.int (ns.getD k 0)):=by rw [List.getElem?_map,List.getElem?_eq_getElem hkl,List.getD,List.getElem?_eq_getElem hkl]; rfl
          obtain ⟨r,er0⟩:∃ r,r = ns.getD k 0:=⟨_,rfl⟩
          rw [← er0] at hnk
          have hbl:=blkU_len rs so ns k
          have hbl2:(blkU rs so ns k).length ≤ 600:=Nat.le_trans hbl (Nat.le_trans (Nat.mul_le_mul (show k ≤ 24 by lia) (show rs.length + 1 ≤ 25 by lia)) (by decide))
          refine ⟨_,.inl (g4.1.seq hS),?_⟩
          refine ⟨show -(2 ^ 62) ≤ ((rl.length:Nat):Int) by lia,show ((rl.length:Nat):Int) < 2 ^ 62 by lia,?_⟩
          refine for_range (n:=((rl.length:Nat):Int).toNat) (fun n σ H'=>∃ (v7:Option V),H' c = some (.lst ((sortsF rs).map fun l=>V.str (S l)))∧H' pr = some (.lst (ns.map V.int))∧PRH K H H' b (R0 ++ blkU rs so ns k ++ rowsU rs so r n)∧σ = [some (.ref a),some (.ref b),some (.ref c),v3,some (.str (S so)),some (.ref pr),some (.int (k:Nat)),v7])
            ⟨v7,hc4,hpr4,by rw [show rowsU rs so r 0 = [] from rfl,List.append_nil]; exact g4,rfl⟩ ?_ ?_
          · rintro n σ H5 hn ⟨v7,hc5,hpr5,g5,rfl⟩
            rw [show (0:Int) + ((n:Nat):Int) = ((n:Nat):Int) from Int.zero_add _]
            have hn1:rl[n]? = some (rl[n]'(by lia)):=List.getElem?_eq_getElem (by lia)
            obtain ⟨g,t,tp,hgi,exg,hgd,hT⟩:=rul n _ hn1
            rw [exg] at hn1
            have mg1:=List.mem_of_getElem? hgi
            obtain ⟨s5,xs,hb5,hd5⟩:=id g5
            have hxl:xs.length = (R0 ++ blkU rs so ns k ++ rowsU rs so r n).length:=by have:=hd5.length; rw [List.length_map] at this; exact this
            have hru:=rowsU_len rs so r n
            rw [List.length_append,List.length_append] at hxl
            have er:rowA rs so r n = if g.sort = so∧g.rank = r then [⟨(so,r),symsP rs g,(n:Nat)⟩] else []:=by unfold rowA; rw [hgi]
            have no:¬ (g.sort = so∧g.rank = r)→PRH K H H5 b (R0 ++ blkU rs so ns k ++ rowsU rs so r (n + 1)):=fun z=>by rw [rowsU_succ,er,if_neg z,List.append_nil]; exact g5
            refine .inl ⟨_,.ref t,s5.seq hS,atI_nat hn1,.inr ⟨_,.str (S g.sort),s5.seqT hT,atI_nat (j:=0) rfl,?_⟩⟩
            show if (false ^^ decide ((S g.sort:Str) = S so)) = true then _ else _
            rw [Bool.false_xor,eqS_iff]
            refine ite2 (fun h=>?_) (fun h=>?_)
            · refine .inl ⟨_,.ref t,s5.seq hS,atI_nat hn1,.inr ⟨_,.int g.rank,s5.seqT hT,atI_nat (j:=1) rfl,.inl ⟨_,.int r,SqL.of hpr5,atI_nat hnk,?_⟩⟩⟩
              show if (false ^^ decide (g.rank = r)) = true then _ else _
              rw [Bool.false_xor]
              refine ite2 (fun h2=>?_) (fun h2=>?_)
              · refine ⟨.inl ⟨rfl,_,SqL.of hb5⟩,.inl ⟨_,.int r,SqL.of hpr5,atI_nat hnk,⟨(show 2 ≤ sizeLine by decide),fun p6 hp6=>?_⟩⟩⟩
                have z6:Same H5 (upd H5 p6 (.tup (pV (thP (so,r))))):=same_new hp6
                have k6:SqT K (upd H5 p6 (.tup (pV (thP (so,r))))) p6 (pV (thP (so,r))):=SqT.of upd_same
                have q6:upd H5 p6 (.tup [V.str (S so),V.int r]) = upd H5 p6 (.tup (pV (thP (so,r)))):=rfl
                rw [q6]
                generalize upd H5 p6 (.tup (pV (thP (so,r)))) = H6 at z6 k6 ⊢
                have t6:=s5.trans z6
                refine .inl ⟨_,.ref t,t6.seq hS,atI_nat hn1,?_⟩
                refine ⟨a,t,rl,rs,g,rfl,t6.seq hS,hD.same t6,by lia,hgd.same t6,(hps g mg1).1,(hps g mg1).2,fun H7 p7 s7 hd7=>⟨(show 3 ≤ sizeLine by decide),fun p8 hp8=>?_⟩⟩
                have z8:Same H7 (upd H7 p8 (.tup [.ref p6,.ref p7,.int (n:Nat)])):=same_new hp8
                have hr8:DatV K (upd H7 p8 (.tup [.ref p6,.ref p7,.int (n:Nat)])) (.ref p8) (PR.dat ⟨(so,r),symsP rs g,(n:Nat)⟩) :=
                  .tuple (SqT.of upd_same) (.cons (.tuple ((s7.trans z8).seqT k6) (.cons (.str _) (.cons (.int _) .nil))) (.cons (hd7.same z8) (.cons (.int _) .nil)))
                generalize upd H7 p8 (.tup [.ref p6,.ref p7,.int (n:Nat)]) = H8 at z8 hr8 ⊢
                have z58:=(z6.trans s7).trans z8
                refine ⟨xs,z58 _ _ hb5,by lia,?_⟩
                refine ⟨_,by rw [upd_ne hcb]; exact z58 _ _ hc5,by rw [upd_ne hprb]; exact z58 _ _ hpr5,?_,rfl⟩
                rw [rowsU_succ,er,if_pos ⟨beq_iff_eq.mp h,of_decide_eq_true h2⟩,← List.append_assoc]
                exact PRH.add (s5.trans z58) (z58 _ _ hb5) (hd5.same z58) hb0 hr8
              · exact ⟨_,hc5,hpr5,no (fun z=>h2 (decide_eq_true z.2)),rfl⟩
            · exact ⟨_,hc5,hpr5,no (fun z=>h (beq_iff_eq.mpr z.1)),rfl⟩
          · rintro σ H5 ⟨v7,hc5,hpr5,g5,rfl⟩
            rw [Int.toNat_natCast,hrl] at g5
            have eb:R0 ++ blkU rs so ns (k + 1) = R0 ++ blkU rs so ns k ++ rowsU rs so r rs.length ++ upR so ns k:=by rw [blkU_succ,← er0,List.append_assoc,List.append_assoc]
            obtain ⟨s5,xs,hb5,hd5⟩:=id g5
            have hxl:xs.length = (R0 ++ blkU rs so ns k ++ rowsU rs so r rs.length).length:=by have:=hd5.length; rw [List.length_map] at this; exact this
            have hru:=rowsU_len rs so r rs.length
            rw [List.length_append,List.length_append] at hxl
            have eu:upR so ns k = (match ns[k + 1]? with | some r2=>[⟨(so,r),[(so,some r2)],-1⟩] | none=>[]):=by unfold upR; rw [← er0] <;> rfl
            refine ⟨_,.inl (SqL.of hpr5),?_⟩
            rw [List.length_map]
            show if decide (((k:Nat):Int) + 1 < ((ns.length:Nat):Int)) = true then _ else _
            refine ite2 (fun h=>?_) (fun h=>?_)
            · have hk1:k + 1 < ns.length:=by have:=of_decide_eq_true h; lia
              have hnk1:(ns.map V.int)[k + 1]? = some (V.int (ns[k + 1])):=by rw [List.getElem?_map,List.getElem?_eq_getElem hk1]; rfl
              rw [List.getElem?_eq_getElem hk1] at eu
              generalize ns[k + 1] = r2 at hnk1 eu
              have hat1:=atI_nat hnk1
              rw [show (((k + 1:Nat)):Int) = ((k:Nat):Int) + 1 from rfl] at hat1
              refine ⟨.inl ⟨rfl,_,SqL.of hb5⟩,.inl ⟨_,.int r,SqL.of hpr5,atI_nat hnk,⟨(show 2 ≤ sizeLine by decide),fun p6 hp6=>?_⟩⟩⟩
              have z6:Same H5 (upd H5 p6 (.tup [V.str (S so),V.int r])):=same_new hp6
              have k6:SqT K (upd H5 p6 (.tup [V.str (S so),V.int r])) p6 [V.str (S so),V.int r]:=SqT.of upd_same
              generalize upd H5 p6 (.tup [V.str (S so),V.int r]) = H6 at z6 k6 ⊢
              refine .inl ⟨_,.int r2,SqL.of (z6 _ _ hpr5),hat1,⟨(show 2 ≤ sizeLine by decide),fun p7 hp7=>⟨(show 1 ≤ sizeLine by decide),fun p8 hp8=>⟨(show 3 ≤ sizeLine by decide),fun p9 hp9=>?_⟩⟩⟩⟩
              dsimp only at hp8 hp9 ⊢
              have z7:Same H6 (upd H6 p7 (.tup [V.str (S so),V.int r2])):=same_new hp7
              have k7:SqT K (upd H6 p7 (.tup [V.str (S so),V.int r2])) p7 [V.str (S so),V.int r2]:=SqT.of upd_same
              generalize upd H6 p7 (.tup [V.str (S so),V.int r2]) = H10 at z7 k7 hp8 hp9 ⊢
              have z8:Same H10 (upd H10 p8 (.tup [.ref p7])):=same_new hp8
              have k8:SqT K (upd H10 p8 (.tup [.ref p7])) p8 [.ref p7]:=SqT.of upd_same
              generalize upd H10 p8 (.tup [.ref p7]) = H11 at z8 k8 hp9 ⊢
              have z9:Same H11 (upd H11 p9 (.tup [.ref p6,.ref p8,.int (-1)])):=same_new hp9
              have k9:SqT K (upd H11 p9 (.tup [.ref p6,.ref p8,.int (-1)])) p9 [.ref p6,.ref p8,.int (-1)]:=SqT.of upd_same
              generalize upd H11 p9 (.tup [.ref p6,.ref p8,.int (-1)]) = H12 at z9 k9 ⊢
              have z89:=z8.trans z9
              have z69:=(z6.trans z7).trans z89
              have hr9:DatV K H12 (.ref p9) (PR.dat ⟨(so,r),[(so,some r2)],-1⟩) :=
                .tuple k9 (.cons (.tuple ((z7.trans z89).seqT k6) (.cons (.str _) (.cons (.int _) .nil))) (.cons (.tuple (z9.seqT k8) (.cons (.tuple (z89.seqT k7) (.cons (.str _) (.cons (.int _) .nil))) .nil)) (.cons (.int _) .nil)))
              refine ⟨xs,z69 _ _ hb5,by lia,?_⟩
              refine ⟨_,_,by rw [upd_ne hcb]; exact z69 _ _ hc5,by rw [upd_ne hprb]; exact z69 _ _ hpr5,?_,rfl⟩
              rw [eb,eu]
              exact PRH.add (s5.trans z69) (z69 _ _ hb5) (hd5.same z69) hb0 hr9
            · have hk1:¬ k + 1 < ns.length:=fun z=>h (decide_eq_true (by lia))
              rw [List.getElem?_eq_none (by lia)] at eu
              refine ⟨_,_,hc5,hpr5,?_,rfl⟩
              rw [eb,eu,List.append_nil]
              exact g5
        · rintro σ H4 ⟨v6,v7,hc4,hpr4,g4,rfl⟩
          refine ⟨_,_,_,_,hc4,?_,rfl⟩
          rw [et,List.flatMap_append]
          have e9:([so].flatMap (blkF rs)) = blkF rs so:=by simp
          rw [e9,← List.cons_append,← eR0]
          unfold blkF
          rw [← ens]
          rw [Int.toNat_natCast] at g4
          exact g4
      · rintro σ H2 ⟨v4,v5,v6,v7,hc2,⟨s2,xs,hb2,hd2⟩,rfl⟩
        rw [List.length_map,List.take_length] at hd2
        exact qq H2 b xs s2 hb2 hd2
    refine ⟨_,(jss_cons (js_set (i:=1) sc.nd rfl (Or.inl rfl) (j_lst (ja_cons (j_tup (ja_cons (j_tup (ja_cons j_str (ja_cons j_int ja_nil))) (ja_cons (j_tup (ja_cons (j_tup (ja_cons (j_ix (o_ix hu (K:=K) (w:=w)) (j_ix (o_ix hu (K:=K) (w:=w)) (jn 0) j_int) j_int) (ja_cons (j_ix (o_ix hu (K:=K) (w:=w)) (j_def D__law_ranks (hr.mono (by decide)) rfl (ja_cons (jn 0) (ja_cons (j_ix (o_ix hu (K:=K) (w:=w)) (j_ix (o_ix hu (K:=K) (w:=w)) (jn 0) j_int) j_int) ja_nil))) j_int) ja_nil))) ja_nil)) (ja_cons (j_neg j_int) ja_nil)))) ja_nil)))
    (jss_cons (js_set (i:=2) sc.nd rfl (Or.inl rfl) (j_lst ja_nil))
    (jss_cons (js_for PassesOwn.never rfl (ji_any (K:=K) (jn 0)) (jg_name (i:=3) sc.nd rfl (Or.inl rfl))
    (jss_one (js_if (jt_cmp (o_notinM hu (K:=K) (P:=P) (w:=w)) (j_ix (o_ix hu (K:=K) (w:=w)) (jn 3) j_int) (jn 2))
    (jss_one (js_expr (j_bm (K:=K) PySem.F.plainAttrs_list PySem.F.slot_list_append PySem.F.type_list_append m_append (jn 2) (ja_cons (j_ix (o_ix hu (K:=K) (w:=w)) (jn 3) j_int) ja_nil))))
    jss_nil)))
    hP3))),?_⟩
    refine ⟨(show 2 ≤ sizeLine by decide),fun p4 hp4=>?_⟩
    have z4:Same H (upd H p4 (.tup [V.str "",V.int 0])):=same_new hp4
    have k4:SqT K (upd H p4 (.tup [V.str "",V.int 0])) p4 [V.str "",V.int 0]:=SqT.of upd_same
    generalize upd H p4 (.tup [V.str "",V.int 0]) = H4 at z4 k4 ⊢
    refine .inl ⟨_,.ref t0,z4.seq hS,atI_nat hn0,.inr ⟨_,.str (S q0'.sort),z4.seqT hT0,atI_nat (j:=0) rfl,.inl ⟨_,.ref t0,z4.seq hS,atI_nat hn0,.inr ⟨_,.str (S q0'.sort),z4.seqT hT0,atI_nat (j:=0) rfl,?_⟩⟩⟩⟩
    refine ⟨a,rl,rs,q0'.sort,rfl,z4.seq hS,hD.same z4,by lia,fun H5 pr ns s5 hpr hpm hsr=>?_⟩
    have ens:=srt_eq hpm hsr
    have hn1:ns ≠ []:=fun z=>by
      have:=(Srt.nil ⟨hpm,hsr⟩).mp z
      have h9:=rank_in mq0
      rw [this] at h9
      cases h9
    have hns0:(ns.map V.int)[0]? = some (V.int (ns.getD 0 0)):=by
      cases ns with
      | nil=>exact absurd rfl hn1
      | cons x r=>rfl
    rw [← ens] at etop
    generalize ns.getD 0 0 = r0 at hns0 etop
    refine .inl ⟨_,.int r0,SqL.of hpr,atI_nat (j:=0) hns0,⟨(show 2 ≤ sizeLine by decide),fun p5 hp5=>⟨(show 1 ≤ sizeLine by decide),fun p6 hp6=>⟨(show 3 ≤ sizeLine by decide),fun p7 hp7=>⟨(show 1 ≤ sizeLine by decide),fun b hb0=>?_⟩⟩⟩⟩⟩
    dsimp only at hp6 hp7 hb0 ⊢
    have z5:Same H5 (upd H5 p5 (.tup [V.str (S q0'.sort),V.int r0])):=same_new hp5
    have k5:SqT K (upd H5 p5 (.tup [V.str (S q0'.sort),V.int r0])) p5 [V.str (S q0'.sort),V.int r0]:=SqT.of upd_same
    generalize upd H5 p5 (.tup [V.str (S q0'.sort),V.int r0]) = H6 at z5 k5 hp6 hp7 hb0 ⊢
    have z6:Same H6 (upd H6 p6 (.tup [.ref p5])):=same_new hp6
    have k6:SqT K (upd H6 p6 (.tup [.ref p5])) p6 [.ref p5]:=SqT.of upd_same
    generalize upd H6 p6 (.tup [.ref p5]) = H7 at z6 k6 hp7 hb0 ⊢
    have z7:Same H7 (upd H7 p7 (.tup [.ref p4,.ref p6,.int (-1)])):=same_new hp7
    have k7:SqT K (upd H7 p7 (.tup [.ref p4,.ref p6,.int (-1)])) p7 [.ref p4,.ref p6,.int (-1)]:=SqT.of upd_same
    generalize upd H7 p7 (.tup [.ref p4,.ref p6,.int (-1)]) = H8 at z7 k7 hb0 ⊢
    have z48:Same H4 H8:=(s5.trans z5).trans (z6.trans z7)
    have sC:=z4.trans z48
    have htop:DatV K H8 (.ref p7) (topR rs).dat:=by
      rw [etop]
      exact .tuple k7 (.cons (.tuple (z48.seqT k4) (.cons (.str _) (.cons (.int _) .nil))) (.cons (.tuple (z7.seqT k6) (.cons (.tuple ((z6.trans z7).seqT k5) (.cons (.str _) (.cons (.int _) .nil))) .nil)) (.cons (.int _) .nil)))
    have z8:Same H8 (upd H8 b (.lst [.ref p7])):=same_new hb0
    have g8:PRH K H (upd H8 b (.lst [.ref p7])) b [topR rs]:=⟨sC.trans z8,_,upd_same,.cons (htop.same z8) .nil⟩
    have hb00:H b = none:=sC.free hb0
    generalize upd H8 b (.lst [.ref p7]) = H9 at z8 g8 ⊢
    refine ⟨(show 0 ≤ sizeLine by decide),fun c hc0=>?_⟩
    have z9:Same H9 (upd H9 c (.lst [])):=same_new hc0
    have hc1:upd H9 c (.lst []) c = some (.lst []):=upd_same
    have g9:=g8.grow z9
    have hcb:c ≠ b:=fun z=>by
      obtain ⟨_,xs,hx,_⟩:=g8
      rw [z,hx] at hc0
      cases hc0
    have hc00:H c = none:=g8.1.free hc0
    generalize upd H9 c (.lst []) = H10 at z9 hc1 g9 ⊢
    refine .inl ⟨⟨_,g9.1.seq hS⟩,?_⟩
    refine for_list (xs:=rl) (fun i σ H'=>∃ (v3:Option V),H' c = some (.lst ((sortsF (rs.take i)).map fun l=>V.str (S l)))∧PRH K H H' b [topR rs]∧σ = [some (.ref a),some (.ref b),some (.ref c),v3,none,none,none,none]) ⟨none,hc1,g9,rfl⟩ (fun i σ H' _ h=>by obtain ⟨_,_,g,_⟩:=h; exact g.1.seq hS) ?_ ?_
    · rintro i x σ H11 hi ⟨v3,hc11,g11,rfl⟩
      obtain ⟨g,t,tp,hgi,rfl,_,hT⟩:=rul i x hi
      have et:rs.take (i + 1) = rs.take i ++ [g]:=by rw [List.take_add_one,hgi]; rfl
      have hsl:(sortsF (rs.take i)).length ≤ 24:=by have:=sorts_len (rs.take i) []; rw [List.length_take] at this; unfold sortsF; simp at this ⊢; lia
      have fl:((sortsF (rs.take i)).map fun l=>V.str (S l)).all flatV = true:=by rw [List.all_map]; simp [flatV]
      refine .inr ⟨_,.str (S g.sort),g11.1.seqT hT,atI_nat (j:=0) rfl,.inr (.inl ⟨_,.inl (SqL.of hc11),rfl,fl,?_⟩)⟩
      rw [inV_strs]
      show if (true ^^ decide (g.sort ∈ sortsF (rs.take i))) = true then _ else _
      refine ite2 (fun h=>?_) (fun h=>?_)
      · have hnot:g.sort ∉ sortsF (rs.take i):=fun z=>by rw [decide_eq_true z] at h; exact absurd h (by decide)
        refine ⟨.inl ⟨rfl,_,SqL.of hc11⟩,.inr ⟨_,.str (S g.sort),g11.1.seqT hT,atI_nat (j:=0) rfl,⟨_,hc11,by rw [List.length_map]; lia,?_⟩⟩⟩
        refine ⟨_,?_,?_,rfl⟩
        · rw [upd_same,et,sortsF_snoc,show addS (sortsF (rs.take i)) g.sort = sortsF (rs.take i) ++ [g.sort] from if_neg hnot,List.map_append]
          rfl
        · obtain ⟨s11,xs,hb11,hd11⟩:=g11
          refine ⟨fun x u e=>?_,xs,by rw [upd_ne (Ne.symm hcb)]; exact hb11,dats_wr (.inl ⟨_,hc11⟩) (prs_noL [topR rs]) hd11⟩
          rw [upd_ne fun z=>by rw [z,hc00] at e; cases e]; exact s11 x u e
      · have hin : g.sort ∈ sortsF (rs.take i) := by
          by_cases z:g.sort ∈ sortsF (rs.take i)
          · exact z
          · rw [decide_eq_false z] at h; exact absurd rfl h
        refine ⟨_,?_,g11,rfl⟩
        rw [et,sortsF_snoc,show addS (sortsF (rs.take i)) g.sort = sortsF (rs.take i) from if_pos hin]
        exact hc11
    · rintro σ H11 ⟨v3,hc11,g11,rfl⟩
      rw [hrl,List.take_length] at hc11
      exact hq3 H11 b c v3 hb00 hcb hc11 g11
end
end K21
--@RAISES but law
namespace K21
open PySem PySem.Spec PyProof.Rows L2 Rg
section
variable {P:Program} {w:World} {K:PySem.W.Frag} {mg:Str→Option Value} {base:Heap} {C tS tN tT:Addr}
structure PRL (r:PR):Prop where
  l1:low r.sym.1
  lp:∀ s ∈ r.ps,low s.1
theorem sy_lay {s:Sy} (h:low s.1):(syD s).canLay0 = true:=by
  obtain ⟨l,o⟩:=s
  cases o with
  | none=>show (PyData.str (S l)).canLay0 = true; simp only [PyData.canLay0]; exact strOkL h
  | some r=>exact pD_lay (p:=(S l,r)) (strOkL h)
theorem sys_lay:∀ {l:List Sy},(∀ s ∈ l,low s.1)→PyData.canLayAll0 (l.map syD) = true
  | [],_=>by simp only [List.map_nil,PyData.canLayAll0]
  | s :: r,h=>by
    rw [List.map_cons]
    simp only [PyData.canLayAll0,sy_lay (h s List.mem_cons_self),sys_lay fun x hx=>h x (List.mem_cons_of_mem _ hx),Bool.and_self]
theorem pr_lay {r:PR} (h:PRL r):r.dat.canLay0 = true:=by
  unfold PR.dat
  have h1:=pD_lay (p:=thP r.sym) (strOkL h.l1)
  simp only [PyData.canLay0,PyData.canLayAll0,h1,sys_lay h.lp,Bool.and_self]
theorem prs_lay:∀ {l:List PR},(∀ r ∈ l,PRL r)→PyData.canLayAll0 (l.map PR.dat) = true
  | [],_=>by simp only [List.map_nil,PyData.canLayAll0]
  | s :: r,h=>by
    rw [List.map_cons]
    simp only [PyData.canLayAll0,pr_lay (h s List.mem_cons_self),prs_lay fun x hx=>h x (List.mem_cons_of_mem _ hx),Bool.and_self]
theorem th_pairs {F:List Th} (h:∀ t ∈ F,low t.1) {t:Th} (ht:low t.1):∀ q ∈ thP t :: F.map thP,PyData.strOk q.1 = true:=fun q hq=>by
  rcases List.mem_cons.mp hq with e | e
  · rw [e]; exact strOkL ht
  · obtain ⟨u,hu,rfl⟩:=List.mem_map.mp e
    exact strOkL (h u hu)
noncomputable def fD (F:List Th):List PyData:=F.map fun t=>pD (thP t)
theorem fD_eq (F:List Th):fD F = (F.map thP).map pD:=by unfold fD; rw [List.map_map]; rfl
theorem fD_noL (F:List Th):∀ d ∈ fD F,NoL d:=fun d hd=>by obtain ⟨z,_,rfl⟩:=List.mem_map.mp hd; exact pD_noL _
theorem dec_thP (F:List Th) (t:Th):decide (thP t ∈ F.map thP) = decide (t ∈ F):=by
  rw [Bool.eq_iff_iff,decide_eq_true_eq,decide_eq_true_eq]
  exact mem_thP
inductive spBr (K:PySem.W.Frag) (vs : List V) (H : Hp) (Q : VK) (_e : XK) : Prop | mk (a:Addr) (xs:List V) (rows:List PR) : (vs = [.ref a]) → SqL K H a xs → (DatVs K H xs (rows.map PR.dat)) → (rows.length ≤ 50000) → ((∀ r ∈ rows,PRL r)) → ((∀ r ∈ rows,r.ps.length ≤ 100)) → (((∀ r ∈ rows,Der rows r.sym)→∀ H',Same H H'→Q (.bl true) H')) → (((∃ r ∈ rows,¬ Der rows r.sym)→∀ H',Same H H'→Q (.bl false) H')) → spBr K vs H Q _e
noncomputable abbrev st__law_bears_all:Stmt:=top 35
theorem sc__law_bears_all:FnScope ["_law_plain_here","_law_bears","_law_turn","_law_symbol","_law_parts","_law_rule_here","_law_wanting"] ["_law_plain_here"] (defScope st__law_bears_all):=⟨rfl,rfl,rfl,by decide +kernel,rfl,by decide +kernel,by decide +kernel⟩
theorem def_br (R:Raw K mg "_law_bears_all" st__law_bears_all ["_law_plain_here"]) (T:Txt K w mg tT):Def P w K mg base 1 "_law_bears_all" ["_law_plain_here"] (spBr K):=by
  refine R.defJ sc__law_bears_all (fun vs H Q E h=>?_) (fun f cdv A outer s H vs Q E hr h=>?_)
  · obtain ⟨a,xs,rows,rfl,_⟩:=h
    rfl
  · obtain ⟨a,xs,rows,rfl,hS,hD,hl,hlw,hps,qT,qF⟩:=h
    have sc:=sc__law_bears_all
    have hu:=hr.units
    have hbg:(1000000:Nat) < sizeLine:=by rw [sizeLine_eq]; decide
    have hxl:xs.length = rows.length:=by have:=hD.length; rw [List.length_map] at this; exact this
    have row:∀ (i:Nat) (x:V),xs[i]? = some x→∃ r t ts tp ys,rows[i]? = some r∧x = .ref t∧SqT K H t [.ref ts,.ref tp,.int r.no]∧SqT K H ts (pV (thP r.sym))∧SqT K H tp ys∧DatVs K H ys (r.ps.map syD)∧DatV K H (.ref t) r.dat:=fun i x hx=>by
      obtain ⟨dd,hdd,hxd⟩:=hD.get hx
      rw [List.getElem?_map] at hdd
      cases ee:rows[i]? with
      | none=>rw [ee] at hdd; cases hdd
      | some r =>
        rw [ee] at hdd
        have ed:dd = r.dat:=(Option.some.inj hdd).symm
        subst ed
        obtain ⟨t,ts,tp,ys,e,h1,h2,h3,h4⟩:=dat_pr hxd
        subst e
        exact ⟨r,t,ts,tp,ys,rfl,rfl,h1,h2,h3,h4,hxd⟩
    refine ⟨_,(jss_cons (js_set (i:=1) sc.nd rfl (Or.inr rfl) (j_lst ja_nil))
    (jss_cons (js_for PassesOwn.never rfl (ji_rng1 rfl T.n_range (ja_cons (j_callB (c_len (K:=K)) rfl T.n_len PySem.boot_len (ja_cons (jn 0) ja_nil)) ja_nil)) (jg_name (i:=2) sc.nd rfl (Or.inl rfl))
    (jss_one (js_for PassesOwn.never rfl (ji_any (K:=K) (jn 0)) (jg_tup (K:=K) (n:=3) rfl (jgs_cons (jg_name (i:=3) sc.nd rfl (Or.inl rfl)) (jgs_cons (jg_name (i:=4) sc.nd rfl (Or.inl rfl)) (jgs_cons (jg_name (i:=5) sc.nd rfl (Or.inl rfl)) jgs_nil))))
    (jss_cons (js_comp (i:=6) (N:=["_law_part","_law_bears"]) (cap:=[none,some 1]) rfl (CompScope.of rfl (by rfl)) (ji_any (K:=K) (jn 4)) (fun _ _ _ _=>(jg_name (i:=0) (show List.Nodup [("_law_part":Str),("_law_bears":Str)] by decide +kernel) rfl (Or.inl rfl))) (fun _ _ _ _=>(jts_one (jw_t (jw_and (jt_val (j_callB (c_isiD (K:=K)) rfl T.n_isinstance boot_isinstance (ja_cons (jn 0) (ja_cons (j_bltn (v:=.ty "tuple") rfl T.n_tuple boot_tuple rfl) ja_nil)))) (jw_and1 (jt_cmp (o_notinM hu (K:=K) (P:=P) (w:=w)) (jn 0) (jn 1))))))) (fun _ _ _ _=>(jn 0)) sc.nd rfl rfl)
    (jss_one (js_if (jw_t (jw_and (jt_cmp (o_eqA hu (K:=K)) (jn 6) (j_lst ja_nil)) (jw_and1 (jt_cmp (o_notinM hu (K:=K) (P:=P) (w:=w)) (jn 3) (jn 1)))))
    (jss_one (js_expr (j_bm (K:=K) PySem.F.plainAttrs_list PySem.F.slot_list_append PySem.F.type_list_append m_append (jn 1) (ja_cons (jn 3) ja_nil))))
    jss_nil))))))
    (jss_one (js_ret (j_cmp (o_eqA hu (K:=K)) (j_comp (N:=["_law_row","_law_bears"]) (cap:=[none,some 1]) rfl (CompScope.of rfl (by rfl)) (ji_any (K:=K) (jn 0)) (fun _ _ _ _=>(jg_name (i:=0) (show List.Nodup [("_law_row":Str),("_law_bears":Str)] by decide +kernel) rfl (Or.inl rfl))) (fun _ _ _ _=>(jts_one (jt_cmp (o_notinM hu (K:=K) (P:=P) (w:=w)) (j_ix (o_ix hu (K:=K) (w:=w)) (jn 0) j_int) (jn 1)))) (fun _ _ _ _=>(jn 0))) (j_lst ja_nil)))))),?_⟩
    refine ⟨(show 0 ≤ sizeLine by decide),fun b hb0=>?_⟩
    have s1:Same H (upd H b (.lst [])):=same_new hb0
    have h1:upd H b (.lst []) b = some (.lst []):=upd_same
    generalize upd H b (.lst []) = H1 at s1 h1 ⊢
    refine ⟨_,.inl (s1.seq hS),?_⟩
    refine ⟨show -(2 ^ 62) ≤ ((xs.length:Nat):Int) by lia,show ((xs.length:Nat):Int) < 2 ^ 62 by lia,?_⟩
    refine for_range (n:=((xs.length:Nat):Int).toNat) (fun j σ H'=>∃ (F:List Th) (ys:List V) (v2 v3 v4 v5 v6:Option V),Same H H'∧H' b = some (.lst ys)∧DatVs K H' ys (fD F)∧(∀ t ∈ F,low t.1)∧(∀ t ∈ F,Der rows t)∧F.length + cntF rows F ≤ rows.length∧(ClF rows F∨j ≤ F.length)∧σ = [some (.ref a),some (.ref b),v2,v3,v4,v5,v6])
      ⟨[],[],none,none,none,none,none,s1,h1,.nil,(fun t ht=>nomatch ht),(fun t ht=>nomatch ht),by unfold cntF; simp; exact List.length_filter_le _ _,.inr (Nat.le_refl _),rfl⟩ ?_ ?_
    · rintro j σ H2 hj ⟨F,ys,v2,v3,v4,v5,v6,s2,hb2,hd2,flw,fdr,fc,hcl,rfl⟩
      refine .inl ⟨⟨_,s2.seq hS⟩,?_⟩
      refine for_list (xs:=xs) (fun i σ H'=>∃ (F':List Th) (ys:List V) (v2 v3 v4 v5 v6:Option V),Same H H'∧H' b = some (.lst ys)∧DatVs K H' ys (fD F')∧(∀ t ∈ F',low t.1)∧(∀ t ∈ F',Der rows t)∧F'.length + cntF rows F' ≤ rows.length∧((F' = F∧∀ (k:Nat) (r:PR),k < i→rows[k]? = some r→r.ps.all (inF F) = true→r.sym ∈ F)∨(F.length < F'.length∧¬ ClF rows F))∧σ = [some (.ref a),some (.ref b),v2,v3,v4,v5,v6])
        ⟨F,ys,_,v3,v4,v5,v6,s2,hb2,hd2,flw,fdr,fc,.inl ⟨rfl,fun k r hk=>absurd hk (Nat.not_lt_zero _)⟩,rfl⟩ (fun i σ H' _ h=>by obtain ⟨_,_,_,_,_,_,_,s3,_⟩:=h; exact s3.seq hS) ?_ ?_
      · rintro i x σ H3 hx ⟨F',ys,v2,v3,v4,v5,v6,s3,hb3,hd3,flw3,fdr3,fc3,hcl3,rfl⟩
        obtain ⟨r,t,ts,tp,zs,hri,rfl,hT,hts,htp,hzs,_⟩:=row i x hx
        have mr:r ∈ rows:=List.mem_of_getElem? hri
        have lwr:=hlw r mr
        have hyl:ys.length = F'.length:=by have:=hd3.length; unfold fD at this; rw [List.length_map] at this; exact this
        refine ⟨t,_,rfl,s3.seqT hT,rfl,_,_,rfl,_,_,rfl,_,_,rfl,rfl,?_⟩
        have hzl:zs.length = r.ps.length:=by have:=hzs.length; rw [List.length_map] at this; exact this
        refine .inr ⟨⟨_,s3.seqT htp⟩,?_⟩
        refine gath_tup (K:=K) (xs:=zs) (fun k us σ' H'=>H' = H3∧(∃ ws:List Sy,DatVs K H3 us (ws.map syD)∧(ws = [] ↔ (r.ps.take k).all (inF F') = true)∧(∀ s ∈ ws,low s.1)∧ws.length ≤ k)∧∃ v,σ' = [v,some (.ref b)]) (by have:=hps r mr; lia) ⟨rfl,⟨[],.nil,⟨fun _=>rfl,fun _=>rfl⟩,(fun s hs=>nomatch hs),Nat.le_refl _⟩,none,rfl⟩
          (fun k us σ' H' h=>by obtain ⟨_,⟨ws,h1,_,_,h2⟩,_⟩:=h; have:=h1.length; rw [List.length_map] at this; lia) (fun k us σ' H' h=>by rw [h.1]; exact s3.seqT htp) ?_ ?_
        · rintro k y us σ' H' hy ⟨rfl,⟨ws,hw1,hw2,hw3,hw4⟩,v,rfl⟩
          obtain ⟨dd,hdd,hyd⟩:=hzs.get hy
          rw [List.getElem?_map] at hdd
          cases es:r.ps[k]? with
          | none=>rw [es] at hdd; cases hdd
          | some sy =>
            rw [es] at hdd
            have ed:dd = syD sy:=(Option.some.inj hdd).symm
            subst ed
            have et:r.ps.take (k + 1) = r.ps.take k ++ [sy]:=by rw [List.take_add_one,es]; rfl
            have mly:=lwr.lp sy (List.mem_of_getElem? es)
            have keep:inF F' sy = true→(ws = [] ↔ (r.ps.take (k + 1)).all (inF F') = true):=fun e=>by
              rw [et,List.all_append,hw2]
              simp [e]
            rcases sy_dat hyd with ⟨e1,rfl⟩ | ⟨m,p,e1,rfl,hp⟩
            · refine ⟨"str",false,.str _,rfl,?_⟩
              exact ⟨rfl,⟨ws,hw1,keep (by unfold inF; rw [e1]),hw3,by lia⟩,_,rfl⟩
            · refine ⟨"tuple",true,.tuple (s3.seqT hp),rfl,?_⟩
              have ein:inF F' sy = decide ((sy.1,m) ∈ F'):=by unfold inF; rw [e1]
              refine .inr (.inl ⟨ys,F'.map thP,thP (sy.1,m),SqL.of hb3,by rw [← fD_eq]; exact hd3,.tuple (s3.seqT hp) (.cons (.str _) (.cons (.int _) .nil)),th_pairs flw3 mly,?_⟩)
              rw [dec_thP]
              show if (true ^^ decide ((sy.1,m) ∈ F')) = true then _ else _
              refine ite2 (fun h=>?_) (fun h=>?_)
              · have hnot:(sy.1,m) ∉ F':=fun z=>by rw [decide_eq_true z] at h; exact absurd h (by decide)
                refine ⟨rfl,⟨ws ++ [sy],?_,?_,fun s hs=>?_,by rw [List.length_append,List.length_singleton]; lia⟩,_,rfl⟩
                · rw [List.map_append]
                  exact DatVs.snoc (hyd.same s3) hw1
                · rw [et,List.all_append]
                  simp [ein,hnot]
                · rcases List.mem_append.mp hs with z | z
                  · exact hw3 s z
                  · rw [List.mem_singleton.mp z]; exact mly
              · have hin : (sy.1, m) ∈ F' := by
                  by_cases z:(sy.1,m) ∈ F'
                  · exact z
                  · rw [decide_eq_false z] at h; exact absurd rfl h
                exact ⟨rfl,⟨ws,hw1,keep (by rw [ein]; exact decide_eq_true hin),hw3,by lia⟩,_,rfl⟩
        · rintro us σ' H' ⟨rfl,⟨ws,hw1,hw2,hw3,hw4⟩,v,rfl⟩ D hD2
          rw [hzl,List.take_length] at hw2
          have s4:Same H' (upd H' D (.lst us)):=same_new hD2
          have h4:SqL K (upd H' D (.lst us)) D us:=SqL.of upd_same
          generalize upd H' D (.lst us) = H4 at s4 h4 ⊢
          refine ⟨(show 0 ≤ sizeLine by decide),fun p5 hp5=>?_⟩
          have s5:Same H4 (upd H4 p5 (.lst [])):=same_new hp5
          have h5:SqL K (upd H4 p5 (.lst [])) p5 []:=SqL.of upd_same
          generalize upd H4 p5 (.lst []) = H5 at s5 h5 ⊢
          have s45:=s4.trans s5
          have s35:=s3.trans s45
          refine ⟨.list (ws.map syD),.list [],.list (s5.seq h4) (hw1.same s45),.list h5 .nil,by simp only [PyData.canLay0]; exact sys_lay hw3,by simp only [PyData.canLay0,PyData.canLayAll0],by simp only [PyData.depth,PyData.depthAll]; lia,?_⟩
          have hb5:=s45 _ _ hb3
          have hd5:=hd3.same s45
          have stay:(r.ps.all (inF F') = true→r.sym ∈ F')→∃ (F'':List Th) (ys:List V) (w2 w3 w4 w5 w6:Option V),Same H H5∧H5 b = some (.lst ys)∧DatVs K H5 ys (fD F'')∧(∀ t ∈ F'',low t.1)∧(∀ t ∈ F'',Der rows t)∧F''.length + cntF rows F'' ≤ rows.length∧((F'' = F∧∀ (k:Nat) (r:PR),k < i + 1→rows[k]? = some r→r.ps.all (inF F) = true→r.sym ∈ F)∨(F.length < F''.length∧¬ ClF rows F))∧[some (.ref a),some (.ref b),v2,some (.ref ts),some (.ref tp),some (.int r.no),some (.ref D)] = [some (.ref a),some (.ref b),w2,w3,w4,w5,w6]:=fun h =>
            ⟨F',ys,_,_,_,_,_,s35,hb5,hd5,flw3,fdr3,fc3,by
              rcases hcl3 with ⟨e,g9⟩ | z
              · refine .inl ⟨e,fun k r' hk hr' ha=>?_⟩
                by_cases hki:k = i
                · rw [hki,hri] at hr'
                  have er:=Option.some.inj hr'
                  subst er
                  rw [← e] at ha ⊢
                  exact h ha
                · exact g9 k r' (by lia) hr' ha
              · exact .inr z,rfl⟩
          show if (false ^^ PyData.eqv _ _) = true then _ else _
          rw [Bool.false_xor,eqv_none]
          refine ite2 (fun h=>?_) (fun h=>?_)
          · have hw:ws = []:=by simpa using h
            have ha:=hw2.mp hw
            refine .inr (.inl ⟨ys,F'.map thP,thP r.sym,SqL.of hb5,by rw [← fD_eq]; exact hd5,.tuple (s35.seqT hts) (.cons (.str _) (.cons (.int _) .nil)),th_pairs flw3 lwr.l1,?_⟩)
            rw [dec_thP]
            show if (true ^^ decide (r.sym ∈ F')) = true then _ else _
            refine ite2 (fun h2=>?_) (fun h2=>?_)
            · have hnot:r.sym ∉ F':=fun z=>by rw [decide_eq_true z] at h2; exact absurd h2 (by decide)
              have hcl:=cntF_add mr hnot
              refine ⟨.inl ⟨rfl,_,SqL.of hb5⟩,ys,hb5,by lia,?_⟩
              refine ⟨F' ++ [r.sym],ys ++ [.ref ts],_,_,_,_,_,fun x u e=>?_,upd_same,?_,fun u hu=>?_,fun u hu=>?_,by rw [List.length_append,List.length_singleton]; lia,.inr ⟨?_,?_⟩,rfl⟩
              · rw [upd_ne fun z=>by rw [z,hb0] at e; cases e]; exact s35 x u e
              · refine dats_wr (.inl ⟨_,hb5⟩) (fD_noL _) ?_
                unfold fD
                rw [List.map_append]
                exact DatVs.snoc (.tuple (s35.seqT hts) (.cons (.str _) (.cons (.int _) .nil))) hd5
              · rcases List.mem_append.mp hu with z | z
                · exact flw3 u z
                · rw [List.mem_singleton.mp z]; exact lwr.l1
              · rcases List.mem_append.mp hu with z | z
                · exact fdr3 u z
                · rw [List.mem_singleton.mp z]
                  exact .mk r mr fun sy hsy k hk=>fdr3 _ (inF_iff.mp (List.all_eq_true.mp ha sy hsy) k hk)
              · rw [List.length_append,List.length_singleton]
                rcases hcl3 with ⟨e,_⟩ | z
                · rw [e]; lia
                · lia
              · rcases hcl3 with ⟨e,_⟩ | z
                · rw [← e]; exact fun z=>hnot (z r mr ha)
                · exact z.2
            · have hin : r.sym ∈ F' := by
                by_cases z:r.sym ∈ F'
                · exact z
                · rw [decide_eq_false z] at h2; exact absurd rfl h2
              exact stay fun _=>hin
          · exact stay fun z=>absurd (hw2.mpr z) (fun y=>h (by rw [y]; rfl))
      · rintro σ H3 ⟨F',ys,v2,v3,v4,v5,v6,s3,hb3,hd3,flw3,fdr3,fc3,hcl3,rfl⟩
        refine ⟨F',ys,_,_,_,_,_,s3,hb3,hd3,flw3,fdr3,fc3,?_,rfl⟩
        rcases hcl3 with ⟨e,g9⟩ | ⟨z,nz⟩
        · refine .inl fun r hr ha=>?_
          rw [e] at ha ⊢
          obtain ⟨k,hk,ek⟩:=List.mem_iff_getElem.mp hr
          exact g9 k r (by lia) (by rw [List.getElem?_eq_getElem hk,ek]) ha
        · rcases hcl with y | y
          · exact absurd y nz
          · exact .inr (by lia)
    · rintro σ H2 ⟨F,ys,v2,v3,v4,v5,v6,s2,hb2,hd2,flw,fdr,fc,hcl,rfl⟩
      rw [Int.toNat_natCast,hxl] at hcl
      have fin:(∀ r ∈ rows,Der rows r.sym)→∀ r ∈ rows,r.sym ∈ F:=fun h r hr=>by
        rcases hcl with y | y
        · exact der_in y (h r hr)
        · have hc0:cntF rows F = 0:=by lia
          by_cases z:r.sym ∈ F
          · exact z
          · unfold cntF at hc0
            have:r ∈ rows.filter (fun r=>decide (r.sym ∉ F)):=List.mem_filter.mpr ⟨hr,decide_eq_true z⟩
            rw [List.length_eq_zero_iff.mp hc0] at this
            cases this
      refine .inl ⟨⟨_,s2.seq hS⟩,?_⟩
      refine gath_list (xs:=xs) (fun i us σ' H'=>H' = H2∧(∃ ws:List PR,DatVs K H2 us (ws.map PR.dat)∧(ws = [] ↔ ∀ (k:Nat) (r:PR),k < i→rows[k]? = some r→r.sym ∈ F)∧(∀ r ∈ ws,PRL r)∧ws.length ≤ i)∧∃ v,σ' = [v,some (.ref b)]) (by lia) ⟨rfl,⟨[],.nil,⟨fun _ k r hk=>absurd hk (Nat.not_lt_zero _),fun _=>rfl⟩,(fun s hs=>nomatch hs),Nat.le_refl _⟩,none,rfl⟩
        (fun i us σ' H' h=>by obtain ⟨_,⟨ws,h1,_,_,h2⟩,_⟩:=h; have:=h1.length; rw [List.length_map] at this; lia) (fun i us σ' H' h=>by rw [h.1]; exact s2.seq hS) ?_ ?_
      · rintro i x us σ' H' hx ⟨rfl,⟨ws,hw1,hw2,hw3,hw4⟩,v,rfl⟩
        obtain ⟨r,t,ts,tp,zs,hri,rfl,hT,hts,htp,hzs,hrd⟩:=row i x hx
        have mr:r ∈ rows:=List.mem_of_getElem? hri
        have lwr:=hlw r mr
        refine .inr ⟨_,.ref ts,s2.seqT hT,atI_nat (j:=0) rfl,.inr (.inl ⟨ys,F.map thP,thP r.sym,SqL.of hb2,by rw [← fD_eq]; exact hd2,.tuple (s2.seqT hts) (.cons (.str _) (.cons (.int _) .nil)),th_pairs flw lwr.l1,?_⟩)⟩
        rw [dec_thP]
        show if (true ^^ decide (r.sym ∈ F)) = true then _ else _
        refine ite2 (fun h=>?_) (fun h=>?_)
        · have hnot:r.sym ∉ F:=fun z=>by rw [decide_eq_true z] at h; exact absurd h (by decide)
          refine ⟨rfl,⟨ws ++ [r],?_,⟨fun z=>by simp at z,fun z=>absurd (z i r (by lia) hri) hnot⟩,fun s hs=>?_,by rw [List.length_append,List.length_singleton]; lia⟩,_,rfl⟩
          · rw [List.map_append]
            exact DatVs.snoc (hrd.same s2) hw1
          · rcases List.mem_append.mp hs with z | z
            · exact hw3 s z
            · rw [List.mem_singleton.mp z]; exact lwr
        · have hin : r.sym ∈ F := by
            by_cases z:r.sym ∈ F
            · exact z
            · rw [decide_eq_false z] at h; exact absurd rfl h
          refine ⟨rfl,⟨ws,hw1,?_,hw3,by lia⟩,_,rfl⟩
          rw [hw2]
          constructor
          · intro z k r' hk hr'
            by_cases hki:k = i
            · rw [hki,hri] at hr'
              have er:=Option.some.inj hr'
              subst er
              exact hin
            · exact z k r' (by lia) hr'
          · exact fun z k r' hk hr'=>z k r' (by lia) hr'
      · rintro us σ' H' ⟨rfl,⟨ws,hw1,hw2,hw3,hw4⟩,v,rfl⟩ D hD2
        have s4:Same H' (upd H' D (.lst us)):=same_new hD2
        have h4:SqL K (upd H' D (.lst us)) D us:=SqL.of upd_same
        generalize upd H' D (.lst us) = H4 at s4 h4 ⊢
        refine ⟨(show 0 ≤ sizeLine by decide),fun p5 hp5=>?_⟩
        have s5:Same H4 (upd H4 p5 (.lst [])):=same_new hp5
        have h5:SqL K (upd H4 p5 (.lst [])) p5 []:=SqL.of upd_same
        generalize upd H4 p5 (.lst []) = H5 at s5 h5 ⊢
        have s45:=s4.trans s5
        refine ⟨.list (ws.map PR.dat),.list [],.list (s5.seq h4) (hw1.same s45),.list h5 .nil,by simp only [PyData.canLay0]; exact prs_lay hw3,by simp only [PyData.canLay0,PyData.canLayAll0],by simp only [PyData.depth,PyData.depthAll]; lia,?_⟩
        rw [Bool.false_xor,eqv_none]
        have sE:=s2.trans s45
        cases ws with
        | nil =>
          refine qT (fun r hr=>?_) H5 sE
          obtain ⟨k,hk,ek⟩:=List.mem_iff_getElem.mp hr
          exact fdr _ (hw2.mp rfl k r (by lia) (by rw [List.getElem?_eq_getElem hk,ek]))
        | cons w0 wr =>
          refine qF ?_ H5 sE
          by_cases z:∃ r ∈ rows,¬ Der rows r.sym
          · exact z
          · have all : ∀ r ∈ rows, Der rows r.sym := fun r hr => by
              by_cases y:Der rows r.sym
              · exact y
              · exact absurd ⟨r,hr,y⟩ z
            have:=hw2.mpr fun k r hk hr'=>fin all r (List.mem_of_getElem? hr')
            cases this
end
end K21
--@RAISES but law
namespace K21
open PySem PySem.Spec PyProof.Rows L2 Rg
section
variable {P:Program} {w:World} {K:PySem.W.Frag} {mg:Str→Option Value} {base:Heap} {C tS tN tT:Addr}
noncomputable def ClR (rs:List Rl) (R:List (List Nat)):Prop:=∀ q ∈ rs,q.sort ∈ R→∀ p ∈ q.ps,p ∈ R
theorem rch_in {rs:List Rl} {R:List (List Nat)} (h:ClR rs R) (h0:∀ q,rs[0]? = some q→q.sort ∈ R) {x:List Nat} (d:Rch rs x):x ∈ R:=by
  induction d with
  | first hq=>exact h0 _ hq
  | step hq _ hp ih=>exact h _ hq ih _ hp
noncomputable def nS (S3 R:List (List Nat)):Nat:=(S3.filter fun s=>decide (s ∈ R)).length
theorem nS_le (S3 R:List (List Nat)):nS S3 R ≤ S3.length:=List.length_filter_le _ _
theorem nS_lt {S3 R R':List (List Nat)} (h:∀ x ∈ R,x ∈ R') {s:List Nat} (hs:s ∈ S3) (h1:s ∈ R') (h2:s ∉ R):nS S3 R < nS S3 R' :=
  cnt_lt (fun x hx=>decide_eq_true (h x (of_decide_eq_true hx))) (decide_eq_true h1) (decide_eq_false h2) S3 hs
theorem turn_cl {rs:List Rl} {S3 R R':List (List Nat)} (hS:∀ q ∈ rs,q.sort ∈ S3) (h:∀ x ∈ R,x ∈ R') (hp:∀ q ∈ rs,q.sort ∈ R→∀ p ∈ q.ps,p ∈ R'):ClR rs R'∨nS S3 R < nS S3 R':=by
  by_cases z:∃ s ∈ S3,s ∈ R'∧s ∉ R
  · obtain ⟨s,h1,h2,h3⟩:=z
    exact .inr (nS_lt h h1 h2 h3)
  · refine .inl fun q hq hs p hpq=>hp q hq ?_ p hpq
    by_cases y:q.sort ∈ R
    · exact y
    · exact absurd ⟨q.sort,hS q hq,hs,y⟩ z
inductive spRe (K:PySem.W.Frag) (vs : List V) (H : Hp) (Q : VK) (_e : XK) : Prop | mk (a:Addr) (rl:List V) (rs:List Rl) (S3:List (List Nat)) : (vs = [.ref a]) → SqL K H a rl → (DatVs K H rl (rs.map Rl.dat)) → (1 ≤ rs.length) → (rs.length ≤ 24) → (S3.length ≤ 3) → ((∀ q ∈ rs,q.sort ∈ S3)) → ((∀ q ∈ rs,q.ps.length ≤ 100∧q.dat.canLay0 = true)) → (((∀ q ∈ rs,Rch rs q.sort)→∀ H',Same H H'→Q (.bl true) H')) → (((∃ q ∈ rs,¬ Rch rs q.sort)→∀ H',Same H H'→Q (.bl false) H')) → spRe K vs H Q _e
theorem rls_lay:∀ {rs:List Rl},(∀ x ∈ rs,x.dat.canLay0 = true)→PyData.canLayAll0 (rs.map Rl.dat) = true
  | [],_=>by simp only [List.map_nil,PyData.canLayAll0]
  | q :: r,h=>by rw [List.map_cons]; simp only [PyData.canLayAll0,h q List.mem_cons_self,rls_lay fun x hx=>h x (List.mem_cons_of_mem _ hx),Bool.and_self]
theorem flat_tx (ks:List (List Nat)):(ks.map fun k=>V.str (S k)).all flatV = true:=by rw [List.all_map]; simp [flatV]
noncomputable abbrev st__law_reaches_all:Stmt:=top 36
theorem sc__law_reaches_all:FnScope ["_law_rules","_law_reached","_law_turn","_law_sort","_law_rank","_law_side","_law_parts"] ["_law_rules"] (defScope st__law_reaches_all):=⟨rfl,rfl,rfl,by decide +kernel,rfl,by decide +kernel,by decide +kernel⟩
theorem def_re (R:Raw K mg "_law_reaches_all" st__law_reaches_all ["_law_rules"]) (T:Txt K w mg tT):Def P w K mg base 1 "_law_reaches_all" ["_law_rules"] (spRe K):=by
  refine R.defJ sc__law_reaches_all (fun vs H Q E h=>?_) (fun f cdv A outer s H vs Q E hr h=>?_)
  · obtain ⟨a,rl,rs,S3,rfl,_⟩:=h
    rfl
  · obtain ⟨a,rl,rs,S3,rfl,hS,hD,r1,r24,hS3,hss,hps,qT,qF⟩:=h
    have sc:=sc__law_reaches_all
    have hu:=hr.units
    have hbg:(1000000:Nat) < sizeLine:=by rw [sizeLine_eq]; decide
    have hrl:rl.length = rs.length:=by have:=hD.length; rw [List.length_map] at this; exact this
    have rul:∀ (n:Nat) (x:V),rl[n]? = some x→∃ (q:Rl) (t tp:Addr),rs[n]? = some q∧x = .ref t∧DatV K H (.ref t) q.dat∧SqT K H t [.str (S q.sort),.int q.rank,.str q.side,.ref tp]∧SqT K H tp (q.ps.map fun l=>V.str (S l)):=fun n x hx=>by
      obtain ⟨dd,hdd,hxd⟩:=hD.get hx
      rw [List.getElem?_map] at hdd
      cases ee:rs[n]? with
      | none=>rw [ee] at hdd; cases hdd
      | some g =>
        rw [ee] at hdd
        have ed:dd = g.dat:=(Option.some.inj hdd).symm
        subst ed
        obtain ⟨t,tp,e,hT,hTp⟩:=dat_rl hxd
        subst e
        exact ⟨g,t,tp,rfl,rfl,hxd,hT,hTp⟩
    have hn0:rl[0]? = some (rl[0]'(by lia)):=List.getElem?_eq_getElem (by lia)
    obtain ⟨q0,t0,tp0,hq0,ex0,_,hT0,_⟩:=rul 0 _ hn0
    rw [ex0] at hn0
    have mq0:=List.mem_of_getElem? hq0
    refine ⟨_,(jss_cons (js_set (i:=1) sc.nd rfl (Or.inr rfl) (j_lst (ja_cons (j_ix (o_ix hu (K:=K) (w:=w)) (j_ix (o_ix hu (K:=K) (w:=w)) (jn 0) j_int) j_int) ja_nil)))
    (jss_cons (js_for PassesOwn.never rfl (ji_rng1 rfl T.n_range (ja_cons j_int ja_nil)) (jg_name (i:=2) sc.nd rfl (Or.inl rfl))
    (jss_one (js_for PassesOwn.never rfl (ji_any (K:=K) (jn 0)) (jg_tup (K:=K) (n:=4) rfl (jgs_cons (jg_name (i:=3) sc.nd rfl (Or.inl rfl)) (jgs_cons (jg_name (i:=4) sc.nd rfl (Or.inl rfl)) (jgs_cons (jg_name (i:=5) sc.nd rfl (Or.inl rfl)) (jgs_cons (jg_name (i:=6) sc.nd rfl (Or.inl rfl)) jgs_nil)))))
    (jss_one (js_if (jt_cmp (o_inM hu (K:=K) (P:=P) (w:=w)) (jn 3) (jn 1))
    (jss_one (js_expr (j_bm (K:=K) PySem.F.plainAttrs_list PySem.F.slot_list_extend PySem.F.type_list_extend (m_extendA (K:=K)) (jn 1) (ja_cons (j_comp (N:=["_law_part","_law_reached"]) (cap:=[none,some 1]) rfl (CompScope.of rfl (by rfl)) (ji_any (K:=K) (jn 6)) (fun _ _ _ _=>(jg_name (i:=0) (show List.Nodup [("_law_part":Str),("_law_reached":Str)] by decide +kernel) rfl (Or.inl rfl))) (fun _ _ _ _=>(jts_one (jt_cmp (o_notinM hu (K:=K) (P:=P) (w:=w)) (jn 0) (jn 1)))) (fun _ _ _ _=>(jn 0))) ja_nil))))
    jss_nil)))))
    (jss_one (js_ret (j_cmp (o_eqA hu (K:=K)) (j_comp (N:=["_law_rule_here","_law_reached"]) (cap:=[none,some 1]) rfl (CompScope.of rfl (by rfl)) (ji_any (K:=K) (jn 0)) (fun _ _ _ _=>(jg_name (i:=0) (show List.Nodup [("_law_rule_here":Str),("_law_reached":Str)] by decide +kernel) rfl (Or.inl rfl))) (fun _ _ _ _=>(jts_one (jt_cmp (o_notinM hu (K:=K) (P:=P) (w:=w)) (j_ix (o_ix hu (K:=K) (w:=w)) (jn 0) j_int) (jn 1)))) (fun _ _ _ _=>(jn 0))) (j_lst ja_nil)))))),?_⟩
    refine .inl ⟨_,.ref t0,hS,atI_nat hn0,.inr ⟨_,.str (S q0.sort),hT0,atI_nat (j:=0) rfl,⟨(show 1 ≤ sizeLine by decide),fun b hb0=>?_⟩⟩⟩
    have s1:Same H (upd H b (.lst [V.str (S q0.sort)])):=same_new hb0
    have h1:upd H b (.lst [V.str (S q0.sort)]) b = some (.lst ([q0.sort].map fun l=>V.str (S l))):=upd_same
    generalize upd H b (.lst [V.str (S q0.sort)]) = H1 at s1 h1 ⊢
    refine ⟨by decide,by decide,?_⟩
    refine for_range (n:=((3:Int)).toNat) (fun j σ H'=>∃ (R:List (List Nat)) (v2 v3 v4 v5 v6:Option V),Same H H'∧H' b = some (.lst (R.map fun l=>V.str (S l)))∧(∀ x ∈ R,Rch rs x)∧q0.sort ∈ R∧R.length ≤ 1 + 2400 * j∧(ClR rs R∨j < nS S3 R)∧σ = [some (.ref a),some (.ref b),v2,v3,v4,v5,v6])
      ⟨[q0.sort],none,none,none,none,none,s1,h1,(fun x hx=>by rw [List.mem_singleton.mp hx]; exact .first hq0),List.mem_cons_self,Nat.le_refl _,.inr (List.length_pos_of_mem (List.mem_filter.mpr ⟨hss q0 mq0,decide_eq_true List.mem_cons_self⟩)),rfl⟩ ?_ ?_
    · rintro j σ H2 hj ⟨R,v2,v3,v4,v5,v6,s2,hb2,hch,hfst,hRl,hcl,rfl⟩
      have hj3:j < 3:=hj
      refine .inl ⟨⟨_,s2.seq hS⟩,?_⟩
      refine for_list (xs:=rl) (fun i σ H'=>∃ (R':List (List Nat)) (v2 v3 v4 v5 v6:Option V),Same H H'∧H' b = some (.lst (R'.map fun l=>V.str (S l)))∧(∀ x ∈ R',Rch rs x)∧(∀ x ∈ R,x ∈ R')∧R'.length ≤ 1 + 2400 * j + 100 * i∧(∀ (k:Nat) (q:Rl),k < i→rs[k]? = some q→q.sort ∈ R→∀ p ∈ q.ps,p ∈ R')∧(ClR rs R→∀ x ∈ R',x ∈ R)∧σ = [some (.ref a),some (.ref b),v2,v3,v4,v5,v6])
        ⟨R,_,v3,v4,v5,v6,s2,hb2,hch,(fun x hx=>hx),by lia,(fun k q hk=>absurd hk (Nat.not_lt_zero _)),(fun _ x hx=>hx),rfl⟩ (fun i σ H' _ h=>by obtain ⟨_,_,_,_,_,_,s3,_⟩:=h; exact s3.seq hS) ?_ ?_
      · rintro i x σ H3 hi ⟨R',v2,v3,v4,v5,v6,s3,hb3,hch3,hin3,hl3,hpr3,hcl3,rfl⟩
        have hil:i < rs.length:=by have:=(List.getElem?_eq_some_iff.mp hi).1; lia
        obtain ⟨g,t,tp,hgi,rfl,_,hT,hTp⟩:=rul i x hi
        have mg1:=List.mem_of_getElem? hgi
        have hg8:=(hps g mg1).1
        refine ⟨t,_,rfl,s3.seqT hT,rfl,_,_,rfl,_,_,rfl,_,_,rfl,_,_,rfl,rfl,?_⟩
        refine .inr (.inl ⟨_,.inl (SqL.of hb3),rfl,flat_tx R',?_⟩)
        rw [inV_strs]
        show if (false ^^ decide (g.sort ∈ R')) = true then _ else _
        rw [Bool.false_xor]
        refine ite2 (fun h=>?_) (fun h=>?_)
        · have hgin:=of_decide_eq_true h
          refine ⟨.inl ⟨rfl,_,SqL.of hb3⟩,.inr ⟨⟨_,s3.seqT hTp⟩,?_⟩⟩
          refine gath_tup (K:=K) (xs:=g.ps.map fun l=>V.str (S l)) (fun k us σ' H'=>H' = H3∧(∃ ws:List (List Nat),us = ws.map (fun l=>V.str (S l))∧(∀ p ∈ g.ps.take k,p ∈ R'∨p ∈ ws)∧(∀ p ∈ ws,p ∈ g.ps∧p ∉ R')∧ws.length ≤ k)∧∃ v,σ' = [v,some (.ref b)]) (by rw [List.length_map]; lia) ⟨rfl,⟨[],rfl,(fun p hp=>nomatch hp),(fun p hp=>nomatch hp),Nat.le_refl _⟩,none,rfl⟩
            (fun k us σ' H' h=>by obtain ⟨_,⟨ws,h1,_,_,h2⟩,_⟩:=h; rw [h1,List.length_map]; exact h2) (fun k us σ' H' h=>by rw [h.1]; exact s3.seqT hTp) ?_ ?_
          · rintro k y us σ' H' hy ⟨rfl,⟨ws,rfl,hw2,hw3,hw4⟩,v,rfl⟩
            rw [List.getElem?_map] at hy
            cases es:g.ps[k]? with
            | none=>rw [es] at hy; cases hy
            | some p =>
              rw [es] at hy
              have ey:y = V.str (S p):=(Option.some.inj hy).symm
              subst ey
              have et:g.ps.take (k + 1) = g.ps.take k ++ [p]:=by rw [List.take_add_one,es]; rfl
              refine .inr (.inl ⟨_,.inl (SqL.of hb3),rfl,flat_tx R',?_⟩)
              rw [inV_strs]
              show if (true ^^ decide (p ∈ R')) = true then _ else _
              refine ite2 (fun h=>?_) (fun h=>?_)
              · have hnot:p ∉ R':=fun z=>by rw [decide_eq_true z] at h; exact absurd h (by decide)
                refine ⟨rfl,⟨ws ++ [p],by rw [List.map_append]; rfl,fun x hx=>?_,fun x hx=>?_,by rw [List.length_append,List.length_singleton]; lia⟩,_,rfl⟩
                · rw [et] at hx
                  rcases List.mem_append.mp hx with z | z
                  · exact (hw2 x z).imp id fun y=>List.mem_append.mpr (.inl y)
                  · exact .inr (List.mem_append.mpr (.inr z))
                · rcases List.mem_append.mp hx with z | z
                  · exact hw3 x z
                  · rw [List.mem_singleton.mp z]; exact ⟨List.mem_of_getElem? es,hnot⟩
              · have hin : p ∈ R' := by
                  by_cases z:p ∈ R'
                  · exact z
                  · rw [decide_eq_false z] at h; exact absurd rfl h
                refine ⟨rfl,⟨ws,rfl,fun x hx=>?_,hw3,by lia⟩,_,rfl⟩
                rw [et] at hx
                rcases List.mem_append.mp hx with z | z
                · exact hw2 x z
                · rw [List.mem_singleton.mp z]; exact .inl hin
          · rintro us σ' H' ⟨rfl,⟨ws,rfl,hw2,hw3,hw4⟩,v,rfl⟩ D hD2
            rw [List.length_map,List.take_length] at hw2
            rw [List.length_map] at hw4
            have s4:Same H' (upd H' D (.lst (ws.map fun l=>V.str (S l)))):=same_new hD2
            have h4:upd H' D (.lst (ws.map fun l=>V.str (S l))) D = some (.lst (ws.map fun l=>V.str (S l))):=upd_same
            generalize upd H' D (.lst (ws.map fun l=>V.str (S l))) = H4 at s4 h4 ⊢
            have hb4:=s4 _ _ hb3
            refine ⟨_,_,hb4,.inl h4,by rw [List.length_map,List.length_map]; lia,?_⟩
            refine ⟨R' ++ ws,_,_,_,_,_,fun x u e=>?_,by rw [upd_same,List.map_append],fun x hx=>?_,fun x hx=>List.mem_append.mpr (.inl (hin3 x hx)),by rw [List.length_append]; lia,fun k q' hk hq' hs p hp=>?_,fun cl x hx=>?_,rfl⟩
            · rw [upd_ne fun z=>by rw [z,hb0] at e; cases e]; exact (s3.trans s4) x u e
            · rcases List.mem_append.mp hx with z | z
              · exact hch3 x z
              · exact .step mg1 (hch3 _ hgin) (hw3 x z).1
            · by_cases hki:k = i
              · rw [hki,hgi] at hq'
                have er:=Option.some.inj hq'
                subst er
                exact List.mem_append.mpr (hw2 p hp)
              · exact List.mem_append.mpr (.inl (hpr3 k q' (by lia) hq' hs p hp))
            · rcases List.mem_append.mp hx with z | z
              · exact hcl3 cl x z
              · have:x ∈ R:=cl g mg1 (hcl3 cl _ hgin) x (hw3 x z).1
                exact this
        · have hgn:g.sort ∉ R':=fun z=>h (decide_eq_true z)
          refine ⟨R',_,_,_,_,_,s3,hb3,hch3,hin3,by lia,fun k q' hk hq' hs p hp=>?_,hcl3,rfl⟩
          by_cases hki:k = i
          · rw [hki,hgi] at hq'
            have er:=Option.some.inj hq'
            subst er
            exact absurd (hin3 _ hs) hgn
          · exact hpr3 k q' (by lia) hq' hs p hp
      · rintro σ H3 ⟨R',v2,v3,v4,v5,v6,s3,hb3,hch3,hin3,hl3,hpr3,hcl3,rfl⟩
        refine ⟨R',_,_,_,_,_,s3,hb3,hch3,hin3 _ hfst,by lia,?_,rfl⟩
        have hall:∀ q ∈ rs,q.sort ∈ R→∀ p ∈ q.ps,p ∈ R':=fun q hq hs p hp=>by
          obtain ⟨k,hk,ek⟩:=List.mem_iff_getElem.mp hq
          exact hpr3 k q (by lia) (by rw [List.getElem?_eq_getElem hk,ek]) hs p hp
        rcases hcl with cl | lt
        · exact .inl fun q hq hs p hp=>hin3 _ (cl q hq (hcl3 cl _ hs) p hp)
        · rcases turn_cl hss hin3 hall with z | z
          · exact .inl z
          · exact .inr (by lia)
    · rintro σ H2 ⟨R,v2,v3,v4,v5,v6,s2,hb2,hch,hfst,hRl,hcl,rfl⟩
      have hRl:R.length ≤ 1 + 2400 * 3:=hRl
      have cl:ClR rs R:=by
        rcases hcl with z | z
        · exact z
        · have:=nS_le S3 R
          have z:3 < nS S3 R:=z
          lia
      have mem:∀ x,Rch rs x→x ∈ R:=fun x hx=>rch_in cl (fun q hq=>by rw [hq0] at hq; cases hq; exact hfst) hx
      refine .inl ⟨⟨_,s2.seq hS⟩,?_⟩
      refine gath_list (xs:=rl) (fun i us σ' H'=>H' = H2∧(∃ ws:List Rl,DatVs K H2 us (ws.map Rl.dat)∧(ws = [] ↔ ∀ (k:Nat) (q:Rl),k < i→rs[k]? = some q→q.sort ∈ R)∧(∀ q ∈ ws,q.dat.canLay0 = true)∧ws.length ≤ i)∧∃ v,σ' = [v,some (.ref b)]) (by lia) ⟨rfl,⟨[],.nil,⟨fun _ k r hk=>absurd hk (Nat.not_lt_zero _),fun _=>rfl⟩,(fun s hs=>nomatch hs),Nat.le_refl _⟩,none,rfl⟩
        (fun i us σ' H' h=>by obtain ⟨_,⟨ws,h1,_,_,h2⟩,_⟩:=h; have:=h1.length; rw [List.length_map] at this; lia) (fun i us σ' H' h=>by rw [h.1]; exact s2.seq hS) ?_ ?_
      · rintro i x us σ' H' hx ⟨rfl,⟨ws,hw1,hw2,hw3,hw4⟩,v,rfl⟩
        obtain ⟨g,t,tp,hgi,rfl,hgd,hT,hTp⟩:=rul i x hx
        have mg1:=List.mem_of_getElem? hgi
        refine .inr ⟨_,.str (S g.sort),s2.seqT hT,atI_nat (j:=0) rfl,.inr (.inl ⟨_,.inl (SqL.of hb2),rfl,flat_tx R,?_⟩)⟩
        rw [inV_strs]
        show if (true ^^ decide (g.sort ∈ R)) = true then _ else _
        refine ite2 (fun h=>?_) (fun h=>?_)
        · have hnot:g.sort ∉ R:=fun z=>by rw [decide_eq_true z] at h; exact absurd h (by decide)
          refine ⟨rfl,⟨ws ++ [g],?_,⟨fun z=>by simp at z,fun z=>absurd (z i g (by lia) hgi) hnot⟩,fun s hs=>?_,by rw [List.length_append,List.length_singleton]; lia⟩,_,rfl⟩
          · rw [List.map_append]
            exact DatVs.snoc (hgd.same s2) hw1
          · rcases List.mem_append.mp hs with z | z
            · exact hw3 s z
            · rw [List.mem_singleton.mp z]; exact (hps g mg1).2
        · have hin : g.sort ∈ R := by
            by_cases z:g.sort ∈ R
            · exact z
            · rw [decide_eq_false z] at h; exact absurd rfl h
          refine ⟨rfl,⟨ws,hw1,?_,hw3,by lia⟩,_,rfl⟩
          rw [hw2]
          constructor
          · intro z k r' hk hr'
            by_cases hki:k = i
            · rw [hki,hgi] at hr'
              have er:=Option.some.inj hr'
              subst er
              exact hin
            · exact z k r' (by lia) hr'
          · exact fun z k r' hk hr'=>z k r' (by lia) hr'
      · rintro us σ' H' ⟨rfl,⟨ws,hw1,hw2,hw3,hw4⟩,v,rfl⟩ D hD2
        have s4:Same H' (upd H' D (.lst us)):=same_new hD2
        have h4:SqL K (upd H' D (.lst us)) D us:=SqL.of upd_same
        generalize upd H' D (.lst us) = H4 at s4 h4 ⊢
        refine ⟨(show 0 ≤ sizeLine by decide),fun p5 hp5=>?_⟩
        have s5:Same H4 (upd H4 p5 (.lst [])):=same_new hp5
        have h5:SqL K (upd H4 p5 (.lst [])) p5 []:=SqL.of upd_same
        generalize upd H4 p5 (.lst []) = H5 at s5 h5 ⊢
        have s45:=s4.trans s5
        refine ⟨.list (ws.map Rl.dat),.list [],.list (s5.seq h4) (hw1.same s45),.list h5 .nil,by simp only [PyData.canLay0]; exact rls_lay hw3,by simp only [PyData.canLay0,PyData.canLayAll0],by simp only [PyData.depth,PyData.depthAll]; lia,?_⟩
        rw [Bool.false_xor,eqv_none]
        have sE:=s2.trans s45
        cases ws with
        | nil =>
          refine qT (fun q hq=>?_) H5 sE
          obtain ⟨k,hk,ek⟩:=List.mem_iff_getElem.mp hq
          exact hch _ (hw2.mp rfl k q (by lia) (by rw [List.getElem?_eq_getElem hk,ek]))
        | cons w0 wr =>
          refine qF ?_ H5 sE
          by_cases z:∃ q ∈ rs,¬ Rch rs q.sort
          · exact z
          · have := hw2.mpr fun k q hk hq' => mem _ (by
              by_cases y:Rch rs q.sort
              · exact y
              · exact absurd ⟨q,List.mem_of_getElem? hq',y⟩ z)
            cases this
end
end K21
--@RAISES but law
namespace K21
open PySem PySem.Spec PyProof.Rows L2 Rg
section
variable {P:Program} {w:World} {K:PySem.W.Frag} {mg:Str→Option Value} {base:Heap} {C tS tN tT:Addr}
theorem fit_sub {rs:List Rl} {q:Rl} {j:Nat} {p:List Nat} {x:Int} (h:x ∈ fitR rs q j p):x ∈ ranksR rs p:=(List.mem_filter.mp h).1
theorem rank0 {rs:List Rl} (h0:∀ q ∈ rs,0 ≤ q.rank) {p:List Nat} {x:Int} (h:x ∈ ranksR rs p):0 ≤ x:=by
  obtain ⟨q,hq,_,e⟩:=rank_of h
  rw [← e]
  exact h0 q hq
theorem mem_plain {rs:List Rl} {n:Nat} {q:Rl} (h:rs[n]? = some q):⟨(q.sort,q.rank),symsP rs q,(n:Nat)⟩ ∈ plainF rs:=by
  have mq:=List.mem_of_getElem? h
  refine List.mem_cons_of_mem _ (List.mem_flatMap.mpr ⟨q.sort,mem_sortsF.mpr ⟨q,mq,rfl⟩,?_⟩)
  have hr:q.rank ∈ srtI (ranksR rs q.sort):=mem_srtI.mpr (List.mem_map.mpr ⟨q,List.mem_filter.mpr ⟨mq,by simp⟩,rfl⟩)
  obtain ⟨k,hk,ek⟩:=List.mem_iff_getElem.mp hr
  unfold blkF blkU
  refine List.mem_flatMap.mpr ⟨k,List.mem_range.mpr hk,List.mem_append.mpr (.inl ?_)⟩
  unfold rowsU
  refine List.mem_flatMap.mpr ⟨n,List.mem_range.mpr (List.getElem?_eq_some_iff.mp h).1,?_⟩
  unfold rowA
  rw [h]
  have e2:(srtI (ranksR rs q.sort)).getD k 0 = q.rank:=by rw [List.getD,List.getElem?_eq_getElem hk]; exact ek
  show _ ∈ if q.sort = q.sort∧q.rank = (srtI (ranksR rs q.sort)).getD k 0 then _ else _
  rw [if_pos ⟨rfl,e2.symm⟩,e2]
  exact List.mem_singleton.mpr rfl
theorem bad_sym {rs:List Rl} (h0:∀ q ∈ rs,0 ≤ q.rank) {q:Rl}:(∃ s ∈ symsP rs q,s.2 = some (-1)) ↔ badQ rs q = true:=by
  unfold badQ symsP
  rw [List.any_eq_true]
  constructor
  · rintro ⟨s,hs,e⟩
    obtain ⟨j,hj,rfl⟩:=List.mem_map.mp hs
    refine ⟨j,hj,?_⟩
    unfold symP at e
    unfold badP
    by_cases z:ranksR rs (q.ps.getD j []) = []
    · rw [if_pos z] at e; cases e
    · rw [if_neg z] at e
      have e:minL (fitR rs q j (q.ps.getD j [])) = -1:=Option.some.inj e
      by_cases y:fitR rs q j (q.ps.getD j []) = []
      · rw [decide_eq_true z,decide_eq_true y]; rfl
      · have:=rank0 h0 (fit_sub (minL_mem y).1)
        lia
  · rintro ⟨j,hj,e⟩
    refine ⟨symP rs q j,List.mem_map.mpr ⟨j,hj,rfl⟩,?_⟩
    unfold badP at e
    rw [Bool.and_eq_true,decide_eq_true_eq,decide_eq_true_eq] at e
    unfold symP
    rw [if_neg e.1,e.2]
    rfl
theorem srt0 {rs:List Rl} (h0:∀ q ∈ rs,0 ≤ q.rank) (p:List Nat) (k:Nat):0 ≤ (srtI (ranksR rs p)).getD k 0:=by
  by_cases hk:k < (srtI (ranksR rs p)).length
  · rw [List.getD,List.getElem?_eq_getElem hk]
    exact rank0 h0 (mem_srtI.mp (List.getElem_mem _))
  · rw [List.getD,List.getElem?_eq_none (by lia)]
    exact Int.le_refl _
theorem bad_row {rs:List Rl} (h0:∀ q ∈ rs,0 ≤ q.rank):(∃ r ∈ plainF rs,∃ s ∈ r.ps,s.2 = some (-1)) ↔ ∃ q ∈ rs,badQ rs q = true:=by
  constructor
  · rintro ⟨r,hr,s,hs,e⟩
    rcases List.mem_cons.mp hr with z | hr
    · rw [z] at hs
      rw [List.mem_singleton.mp hs] at e
      have e:=Option.some.inj e
      have:=srt0 h0 (rs.getD 0 ⟨[],0,"",[]⟩).sort 0
      rw [e] at this
      lia
    · obtain ⟨so,_,h⟩:=List.mem_flatMap.mp hr
      rcases mem_blk h with ⟨n,q,hq,_,z⟩ | ⟨a,b,_,hb,z⟩
      · rw [z] at hs
        exact ⟨q,List.mem_of_getElem? hq,(bad_sym h0).mp ⟨s,hs,e⟩⟩
      · rw [z] at hs
        rw [List.mem_singleton.mp hs] at e
        have e:b = -1:=Option.some.inj e
        have:=rank0 h0 hb
        lia
  · rintro ⟨q,hq,h⟩
    obtain ⟨n,hn,en⟩:=List.mem_iff_getElem.mp hq
    exact ⟨_,mem_plain (by rw [List.getElem?_eq_getElem hn,en]),(bad_sym h0).mpr h⟩
theorem plain_low {rs:List Rl} (h1:1 ≤ rs.length) (hF:∀ q ∈ rs,Fine q):∀ r ∈ plainF rs,PRL r:=fun r hr=>by
  have so:∀ s ∈ sortsF rs,low s:=fun s hs=>by
    obtain ⟨q,hq,e⟩:=mem_sortsF.mp hs
    rw [← e]; exact (hF q hq).ls
  rcases List.mem_cons.mp hr with e | hr
  · rw [e]
    refine ⟨(fun c hc=>nomatch hc),fun s hs=>?_⟩
    rw [List.mem_singleton.mp hs]
    refine (hF _ ?_).ls
    rw [List.getD,List.getElem?_eq_getElem (by lia)]
    exact List.getElem_mem _
  · obtain ⟨s,hs,h⟩:=List.mem_flatMap.mp hr
    rcases mem_blk h with ⟨n,q,hq,_,e⟩ | ⟨a,b,ha,_,e⟩
    · have f:=hF q (List.mem_of_getElem? hq)
      rw [e]
      refine ⟨f.ls,fun x hx=>?_⟩
      obtain ⟨j,hj,rfl⟩:=List.mem_map.mp hx
      have hj:=List.mem_range.mp hj
      show low (q.ps.getD j [])
      rw [List.getD,List.getElem?_eq_getElem hj]
      exact (f.lp _ (List.getElem_mem _)).1
    · rw [e]
      refine ⟨so s hs,fun x hx=>?_⟩
      rw [List.mem_singleton.mp hx]
      exact so s hs
inductive spDu (K:PySem.W.Frag) (vs : List V) (H : Hp) (Q : VK) (_e : XK) : Prop | mk (a:Addr) (rl:List V) (rs:List Rl) (c0:Int) : (vs = [.ref a]) → SqL K H a rl → (DatVs K H rl (rs.map Rl.dat)) → (1 ≤ rs.length) → (rs.length ≤ 24) → ((∀ q ∈ rs,RlN c0 q)) → (((∃ q ∈ rs,badQ rs q = true)→∀ H',Same H H'→Q (.int 1) H')) → (((∀ q ∈ rs,badQ rs q = false)→(∃ r ∈ plainF rs,¬ Der (plainF rs) r.sym)→∀ H',Same H H'→Q (.int 2) H')) → (((∀ q ∈ rs,badQ rs q = false)→(∀ r ∈ plainF rs,Der (plainF rs) r.sym)→(∃ q ∈ rs,¬ Rch rs q.sort)→∀ H',Same H H'→Q (.int 3) H')) → (((∀ q ∈ rs,badQ rs q = false)→(∀ r ∈ plainF rs,Der (plainF rs) r.sym)→(∀ q ∈ rs,Rch rs q.sort)→∀ H',Same H H'→Q (.int 0) H')) → spDu K vs H Q _e
noncomputable abbrev st__law_due:Stmt:=top 37
theorem sc__law_due:FnScope ["_law_rules","_law_plain_here","_law_symbol","_law_parts","_law_rule_here"] ["_law_rules"] (defScope st__law_due):=⟨rfl,rfl,rfl,by decide +kernel,rfl,by decide +kernel,by decide +kernel⟩
theorem def_du (R:Raw K mg "_law_due" st__law_due ["_law_rules"]) (T:Txt K w mg tT) (D__law_plain:Def P w K mg base 3 "_law_plain" ["_law_rules"] (spLp K)) (D__law_bears_all:Def P w K mg base 1 "_law_bears_all" ["_law_plain_here"] (spBr K)) (D__law_reaches_all:Def P w K mg base 1 "_law_reaches_all" ["_law_rules"] (spRe K)):Def P w K mg base 4 "_law_due" ["_law_rules"] (spDu K):=by
  refine R.defJ sc__law_due (fun vs H Q E h=>?_) (fun f cdv A outer s H vs Q E hr h=>?_)
  · obtain ⟨a,rl,rs,c0,rfl,_⟩:=h
    rfl
  · obtain ⟨a,rl,rs,c0,rfl,hS,hD,r1,r24,hN,q1,q2,q3,q0⟩:=h
    have sc:=sc__law_due
    have hu:=hr.units
    have hbg:(1000000:Nat) < sizeLine:=by rw [sizeLine_eq]; decide
    have h0:∀ q ∈ rs,0 ≤ q.rank:=fun q hq=>(hN q hq).r0
    have hF:∀ q ∈ rs,Fine q:=fun q hq=>(hN q hq).fine
    have hR:rulesB rs = true:=(rulesB_iff rs).mpr ⟨r1,r24,fun q hq=>(hN q hq).okB⟩
    have hPl:=plain_low r1 hF
    have hOk:=plain_ok hR hF
    have hpl:(plainF rs).length ≤ 15000:=by
      have h1:=flat_len r24 (sortsF rs)
      have h2:(sortsF rs).length ≤ 24:=by have:=sorts_len rs []; unfold sortsF; simp at this ⊢; lia
      unfold plainF
      rw [List.length_cons]
      lia
    have hbad:=bad_row h0
    refine ⟨_,(jss_cons (js_set (i:=1) sc.nd rfl (Or.inl rfl) (j_def D__law_plain (hr.mono (by decide)) rfl (ja_cons (jn 0) ja_nil)))
    (jss_cons (js_for PassesOwn.never rfl (ji_any (K:=K) (jn 1)) (jg_tup (K:=K) (n:=3) rfl (jgs_cons (jg_name (i:=2) sc.nd rfl (Or.inl rfl)) (jgs_cons (jg_name (i:=3) sc.nd rfl (Or.inl rfl)) (jgs_cons (jg_name (i:=4) sc.nd rfl (Or.inl rfl)) jgs_nil))))
    (jss_one (js_if (jt_cmp (o_ne hu (K:=K)) (j_comp (N:=["_law_part"]) (cap:=[none]) rfl (CompScope.of rfl (by rfl)) (ji_any (K:=K) (jn 3)) (fun _ _ _ _=>(jg_name (i:=0) (show List.Nodup [("_law_part":Str)] by decide +kernel) rfl (Or.inl rfl))) (fun _ _ _ _=>(jts_one (jw_t (jw_and (jt_val (j_callB (c_isiD (K:=K)) rfl T.n_isinstance boot_isinstance (ja_cons (jn 0) (ja_cons (j_bltn (v:=.ty "tuple") rfl T.n_tuple boot_tuple rfl) ja_nil)))) (jw_and1 (jt_cmp (o_eqA hu (K:=K)) (j_ix (o_ix hu (K:=K) (w:=w)) (jn 0) j_int) (j_neg j_int))))))) (fun _ _ _ _=>(jn 0))) (j_lst ja_nil))
    (jss_one (js_ret j_int))
    jss_nil)))
    (jss_cons (js_if (jt_not (jt_val (j_def D__law_bears_all (hr.mono (by decide)) rfl (ja_cons (jn 1) ja_nil))))
    (jss_one (js_ret j_int))
    jss_nil)
    (jss_one (js_ret (j_ife (jt_val (j_def D__law_reaches_all (hr.mono (by decide)) rfl (ja_cons (jn 0) ja_nil))) j_int j_int)))))),?_⟩
    refine ⟨a,rl,rs,rfl,hS,hD,r1,r24,fun q hq=>⟨by have:=(hN q hq).p8; lia,(hN q hq).own⟩,fun H1 p xs s1 hp hD1=>?_⟩
    generalize plainF rs = rows at hPl hOk hpl hbad q1 q2 q3 q0 hD1
    have hxl:xs.length = rows.length:=by have:=hD1.length; rw [List.length_map] at this; exact this
    have row:∀ (i:Nat) (x:V),xs[i]? = some x→∃ r t ts tp ys,rows[i]? = some r∧x = .ref t∧SqT K H1 t [.ref ts,.ref tp,.int r.no]∧SqT K H1 ts (pV (thP r.sym))∧SqT K H1 tp ys∧DatVs K H1 ys (r.ps.map syD):=fun i x hx=>by
      obtain ⟨dd,hdd,hxd⟩:=hD1.get hx
      rw [List.getElem?_map] at hdd
      cases ee:rows[i]? with
      | none=>rw [ee] at hdd; cases hdd
      | some r =>
        rw [ee] at hdd
        have ed:dd = r.dat:=(Option.some.inj hdd).symm
        subst ed
        obtain ⟨t,ts,tp,ys,e,h1,h2,h3,h4⟩:=dat_pr hxd
        subst e
        exact ⟨r,t,ts,tp,ys,rfl,rfl,h1,h2,h3,h4⟩
    refine .inl ⟨⟨_,SqL.of hp⟩,?_⟩
    refine for_list (xs:=xs) (fun i σ H'=>∃ (v2 v3 v4:Option V),Same H1 H'∧(∀ (k:Nat) (r:PR),k < i→rows[k]? = some r→∀ s ∈ r.ps,s.2 ≠ some (-1))∧σ = [some (.ref a),some (.ref p),v2,v3,v4])
      ⟨none,none,none,Same.refl _,(fun k r hk=>absurd hk (Nat.not_lt_zero _)),rfl⟩ (fun i σ H' _ h=>by obtain ⟨_,_,_,s3,_⟩:=h; exact SqL.of (s3 _ _ hp)) ?_ ?_
    · rintro i x σ H2 hx ⟨v2,v3,v4,s2,hno,rfl⟩
      obtain ⟨r,t,ts,tp,zs,hri,rfl,hT,hts,htp,hzs⟩:=row i x hx
      have mr:r ∈ rows:=List.mem_of_getElem? hri
      have lwr:=hPl r mr
      have hzl:zs.length = r.ps.length:=by have:=hzs.length; rw [List.length_map] at this; exact this
      refine ⟨t,_,rfl,s2.seqT hT,rfl,_,_,rfl,_,_,rfl,_,_,rfl,rfl,?_⟩
      refine .inr ⟨⟨_,s2.seqT htp⟩,?_⟩
      refine gath_tup (K:=K) (xs:=zs) (fun k us σ' H'=>H' = H2∧(∃ ws:List Sy,DatVs K H2 us (ws.map syD)∧(ws = [] ↔ ∀ s ∈ r.ps.take k,s.2 ≠ some (-1))∧(∀ s ∈ ws,low s.1)∧ws.length ≤ k)∧∃ v,σ' = [v]) (by have:=(hOk r mr).2; lia) ⟨rfl,⟨[],.nil,⟨fun _ s hs=>(nomatch hs),fun _=>rfl⟩,(fun s hs=>nomatch hs),Nat.le_refl _⟩,none,rfl⟩
        (fun k us σ' H' h=>by obtain ⟨_,⟨ws,h1,_,_,h2⟩,_⟩:=h; have:=h1.length; rw [List.length_map] at this; lia) (fun k us σ' H' h=>by rw [h.1]; exact s2.seqT htp) ?_ ?_
      · rintro k y us σ' H' hy ⟨rfl,⟨ws,hw1,hw2,hw3,hw4⟩,v,rfl⟩
        obtain ⟨dd,hdd,hyd⟩:=hzs.get hy
        rw [List.getElem?_map] at hdd
        cases es:r.ps[k]? with
        | none=>rw [es] at hdd; cases hdd
        | some sy =>
          rw [es] at hdd
          have ed:dd = syD sy:=(Option.some.inj hdd).symm
          subst ed
          have et:r.ps.take (k + 1) = r.ps.take k ++ [sy]:=by rw [List.take_add_one,es]; rfl
          have mly:=lwr.lp sy (List.mem_of_getElem? es)
          have keep:sy.2 ≠ some (-1)→(ws = [] ↔ ∀ s ∈ r.ps.take (k + 1),s.2 ≠ some (-1)):=fun e=>by
            rw [hw2,et]
            constructor
            · intro z s hs
              rcases List.mem_append.mp hs with y | y
              · exact z s y
              · rw [List.mem_singleton.mp y]; exact e
            · exact fun z s hs=>z s (List.mem_append.mpr (.inl hs))
          rcases sy_dat hyd with ⟨e1,rfl⟩ | ⟨m,p',e1,rfl,hp'⟩
          · refine ⟨"str",false,.str _,rfl,?_⟩
            exact ⟨rfl,⟨ws,hw1,keep (by rw [e1]; exact fun z=>nomatch z),hw3,by lia⟩,_,rfl⟩
          · refine ⟨"tuple",true,.tuple (s2.seqT hp'),rfl,?_⟩
            refine .inr ⟨_,.int m,s2.seqT hp',atI_nat (j:=1) rfl,?_⟩
            show if (false ^^ decide (m = -1)) = true then _ else _
            rw [Bool.false_xor]
            refine ite2 (fun h=>?_) (fun h=>?_)
            · have hm:=of_decide_eq_true h
              refine ⟨rfl,⟨ws ++ [sy],?_,⟨fun z=>by simp at z,fun z=>absurd (by rw [e1,hm]) (z sy (by rw [et]; exact List.mem_append.mpr (.inr (List.mem_singleton.mpr rfl))))⟩,fun s hs=>?_,by rw [List.length_append,List.length_singleton]; lia⟩,_,rfl⟩
              · rw [List.map_append]
                exact DatVs.snoc (hyd.same s2) hw1
              · rcases List.mem_append.mp hs with z | z
                · exact hw3 s z
                · rw [List.mem_singleton.mp z]; exact mly
            · exact ⟨rfl,⟨ws,hw1,keep (by rw [e1]; exact fun z=>h (decide_eq_true (Option.some.inj z))),hw3,by lia⟩,_,rfl⟩
      · rintro us σ' H' ⟨rfl,⟨ws,hw1,hw2,hw3,hw4⟩,v,rfl⟩ D hD2
        rw [hzl,List.take_length] at hw2
        have s4:Same H' (upd H' D (.lst us)):=same_new hD2
        have h4:SqL K (upd H' D (.lst us)) D us:=SqL.of upd_same
        generalize upd H' D (.lst us) = H4 at s4 h4 ⊢
        refine ⟨(show 0 ≤ sizeLine by decide),fun p5 hp5=>?_⟩
        have s5:Same H4 (upd H4 p5 (.lst [])):=same_new hp5
        have h5:SqL K (upd H4 p5 (.lst [])) p5 []:=SqL.of upd_same
        generalize upd H4 p5 (.lst []) = H5 at s5 h5 ⊢
        have s45:=s4.trans s5
        have s25:=s2.trans s45
        refine ⟨.list (ws.map syD),.list [],.list (s5.seq h4) (hw1.same s45),.list h5 .nil,by simp only [PyData.canLay0]; exact sys_lay hw3,by simp only [PyData.canLay0,PyData.canLayAll0],by simp only [PyData.depth,PyData.depthAll]; lia,?_⟩
        show if (true ^^ PyData.eqv _ _) = true then _ else _
        rw [eqv_none]
        refine ite2 (fun h=>?_) (fun h=>?_)
        · have hw:ws ≠ []:=fun z=>by rw [z] at h; exact absurd h (by decide)
          refine q1 (hbad.mp ?_) _ (s1.trans s25)
          by_cases z:∃ s ∈ r.ps,s.2 = some (-1)
          · exact ⟨r,mr,z⟩
          · exact absurd (hw2.mpr fun s hs y=>z ⟨s,hs,y⟩) hw
        · have hw : ws = [] := by
            cases ws with
            | nil=>rfl
            | cons _ _=>exact absurd rfl h
          refine ⟨_,_,_,s25,fun k r' hk hr'=>?_,rfl⟩
          by_cases hki:k = i
          · rw [hki,hri] at hr'
            have er:=Option.some.inj hr'
            subst er
            exact hw2.mp hw
          · exact hno k r' (by lia) hr'
    · rintro σ H2 ⟨v2,v3,v4,s2,hno,rfl⟩
      have hb0:∀ q ∈ rs,badQ rs q = false:=fun q hq=>by
        by_cases z:badQ rs q = true
        · obtain ⟨r,mr,s,hs,e⟩:=hbad.mpr ⟨q,hq,z⟩
          obtain ⟨k,hk,ek⟩:=List.mem_iff_getElem.mp mr
          exact absurd e (hno k r (by lia) (by rw [List.getElem?_eq_getElem hk,ek]) s hs)
        · exact Bool.not_eq_true _ ▸ z
      refine ⟨p,xs,rows,rfl,SqL.of (s2 _ _ hp),hD1.same s2,by lia,hPl,fun r hr=>(hOk r hr).2,fun hd H3 s3=>?_,fun hd H3 s3=>?_⟩
      · have s13:=(s1.trans s2).trans s3
        refine ⟨a,rl,rs,[nameL c0 0,nameL c0 1,nameL c0 2],rfl,s13.seq hS,hD.same s13,r1,r24,Nat.le_refl _,fun q hq=>?_,fun q hq=>⟨by have:=(hN q hq).p8; lia,(hN q hq).lay⟩,fun hc H4 s4=>?_,fun hc H4 s4=>?_⟩
        · obtain ⟨k,hk,e⟩:=(hN q hq).so
          rw [e]
          have:k = 0∨k = 1∨k = 2:=by lia
          rcases this with rfl | rfl | rfl <;> simp
        · exact q0 hb0 hd hc H4 (s13.trans s4)
        · exact q3 hb0 hd hc H4 (s13.trans s4)
      · exact q2 hb0 hd H3 ((s1.trans s2).trans s3)
end
end K21
--@RAISES but law
namespace K21
open PySem PySem.Spec PyProof.Rows L2 Rg
section
variable {P:Program} {w:World} {K:PySem.W.Frag} {mg:Str→Option Value} {base:Heap} {C tS tN tT:Addr}
inductive spKh (K:PySem.W.Frag) (vs : List V) (H : Hp) (Q : VK) (_e : XK) : Prop | mk (a:Addr) (xs:List V) (rows:List PR) : (vs = [.ref a]) → SqL K H a xs → (DatVs K H xs (rows.map PR.dat)) → ((∀ r ∈ rows,1 ≤ r.ps.length∧r.ps.length ≤ 100)) → (∀ H',Same H H'→Q (.bl true) H') → spKh K vs H Q _e
noncomputable abbrev st__law_kinds_hold:Stmt:=top 39
theorem sc__law_kinds_hold:FnScope ["_law_found","_law_row","_law_symbol"] ["_law_found"] (defScope st__law_kinds_hold):=⟨rfl,rfl,rfl,by decide +kernel,rfl,by decide +kernel,by decide +kernel⟩
theorem def_kh (R:Raw K mg "_law_kinds_hold" st__law_kinds_hold ["_law_found"]) (T:Txt K w mg tT) (D__law_whole:Def P w K mg base 1 "_law_whole" ["_law_found"] spWhole):Def P w K mg base 2 "_law_kinds_hold" ["_law_found"] (spKh K):=by
  refine R.defJ sc__law_kinds_hold (fun vs H Q E h=>?_) (fun f cdv A outer s H vs Q E hr h=>?_)
  · obtain ⟨a,xs,rows,rfl,_⟩:=h
    rfl
  · obtain ⟨a,xs,rows,rfl,hS,hD,hps,qq⟩:=h
    have sc:=sc__law_kinds_hold
    have hu:=hr.units
    have hbg:(1000000:Nat) < sizeLine:=by rw [sizeLine_eq]; decide
    have row:∀ (i:Nat) (x:V),xs[i]? = some x→∃ r t ts tp ys,rows[i]? = some r∧x = .ref t∧SqT K H t [.ref ts,.ref tp,.int r.no]∧SqT K H ts (pV (thP r.sym))∧SqT K H tp ys∧DatVs K H ys (r.ps.map syD):=fun i x hx=>by
      obtain ⟨dd,hdd,hxd⟩:=hD.get hx
      rw [List.getElem?_map] at hdd
      cases ee:rows[i]? with
      | none=>rw [ee] at hdd; cases hdd
      | some r =>
        rw [ee] at hdd
        have ed:dd = r.dat:=(Option.some.inj hdd).symm
        subst ed
        obtain ⟨t,ts,tp,ys,e,h1,h2,h3,h4⟩:=dat_pr hxd
        subst e
        exact ⟨r,t,ts,tp,ys,rfl,rfl,h1,h2,h3,h4⟩
    refine ⟨_,(jss_cons (js_if (jt_not (jt_val (j_callB (c_isiD (K:=K)) rfl T.n_isinstance boot_isinstance (ja_cons (jn 0) (ja_cons (j_bltn (v:=.ty "list") rfl T.n_list boot_list rfl) ja_nil)))))
    (jss_one (js_ret j_bl))
    jss_nil)
    (jss_cons (js_for PassesOwn.never rfl (ji_any (K:=K) (jn 0)) (jg_name (i:=1) sc.nd rfl (Or.inl rfl))
    (jss_cons (js_if (jw_t (jw_or (jt_not (jt_val (j_callB (c_isiD (K:=K)) rfl T.n_isinstance boot_isinstance (ja_cons (jn 1) (ja_cons (j_bltn (v:=.ty "tuple") rfl T.n_tuple boot_tuple rfl) ja_nil))))) (jw_or (jt_cmp (o_ne hu (K:=K)) (j_callB (c_len (K:=K)) rfl T.n_len PySem.boot_len (ja_cons (jn 1) ja_nil)) j_int) (jw_or (jt_not (jt_val (j_def D__law_whole (hr.mono (by decide)) rfl (ja_cons (j_ix (o_ix hu (K:=K) (w:=w)) (jn 1) j_int) ja_nil)))) (jw_or1 (jt_not (jt_val (j_callB (c_isiD (K:=K)) rfl T.n_isinstance boot_isinstance (ja_cons (j_ix (o_ix hu (K:=K) (w:=w)) (jn 1) j_int) (ja_cons (j_bltn (v:=.ty "tuple") rfl T.n_tuple boot_tuple rfl) ja_nil))))))))))
    (jss_one (js_ret j_bl))
    jss_nil)
    (jss_one (js_for PassesOwn.never rfl (ji_any (K:=K) (j_op (o_add (K:=K)) (j_ix (o_ix hu (K:=K) (w:=w)) (jn 1) j_int) (j_tup (ja_cons (j_ix (o_ix hu (K:=K) (w:=w)) (jn 1) j_int) ja_nil)))) (jg_name (i:=2) sc.nd rfl (Or.inl rfl))
    (jss_one (js_if (jt_val (j_callB (c_isiD (K:=K)) rfl T.n_isinstance boot_isinstance (ja_cons (jn 2) (ja_cons (j_bltn (v:=.ty "tuple") rfl T.n_tuple boot_tuple rfl) ja_nil))))
    (jss_one (js_if (jw_t (jw_or (jt_cmp (o_ne hu (K:=K)) (j_callB (c_len (K:=K)) rfl T.n_len PySem.boot_len (ja_cons (jn 2) ja_nil)) j_int) (jw_or (jt_not (jt_val (j_callB (c_isiD (K:=K)) rfl T.n_isinstance boot_isinstance (ja_cons (j_ix (o_ix hu (K:=K) (w:=w)) (jn 2) j_int) (ja_cons (j_bltn (v:=.ty "str") rfl T.n_str boot_str rfl) ja_nil))))) (jw_or1 (jt_not (jt_val (j_def D__law_whole (hr.mono (by decide)) rfl (ja_cons (j_ix (o_ix hu (K:=K) (w:=w)) (jn 2) j_int) ja_nil))))))))
    (jss_one (js_ret j_bl))
    jss_nil))
    (jss_one (js_if (jt_not (jt_val (j_callB (c_isiD (K:=K)) rfl T.n_isinstance boot_isinstance (ja_cons (jn 2) (ja_cons (j_bltn (v:=.ty "str") rfl T.n_str boot_str rfl) ja_nil)))))
    (jss_one (js_ret j_bl))
    jss_nil))))))))
    (jss_one (js_ret j_bl)))),?_⟩
    refine ⟨"list",true,.list hS,rfl,?_⟩
    refine .inl ⟨⟨_,hS⟩,?_⟩
    refine for_list (xs:=xs) (fun i σ H'=>∃ (v1 v2:Option V),Same H H'∧σ = [some (.ref a),v1,v2])
      ⟨none,none,Same.refl _,rfl⟩ (fun i σ H' _ h=>by obtain ⟨_,_,s3,_⟩:=h; exact s3.seq hS) ?_ ?_
    · rintro i x σ H2 hx ⟨v1,v2,s2,rfl⟩
      obtain ⟨r,t,ts,tp,zs,hri,rfl,hT,hts,htp,hzs⟩:=row i x hx
      have mr:r ∈ rows:=List.mem_of_getElem? hri
      have hzl:zs.length = r.ps.length:=by have:=hzs.length; rw [List.length_map] at this; exact this
      refine ⟨"tuple",true,.tuple (s2.seqT hT),rfl,?_⟩
      refine ⟨_,.inr (s2.seqT hT),?_⟩
      refine .inr ⟨_,.int r.no,s2.seqT hT,atI_nat (j:=2) rfl,_,rfl,?_⟩
      refine .inr ⟨_,.ref tp,s2.seqT hT,atI_nat (j:=1) rfl,"tuple",true,.tuple (s2.seqT htp),rfl,?_⟩
      refine .inr ⟨_,.ref tp,s2.seqT hT,atI_nat (j:=1) rfl,.inr ⟨_,.ref ts,s2.seqT hT,atI_nat (j:=0) rfl,(show 1 ≤ sizeLine by decide),fun p3 hp3=>?_⟩⟩
      have s3:Same H2 (upd H2 p3 (.tup [.ref ts])):=same_new hp3
      have h3:SqT K (upd H2 p3 (.tup [.ref ts])) p3 [.ref ts]:=SqT.of upd_same
      generalize upd H2 p3 (.tup [.ref ts]) = H3 at s3 h3 ⊢
      have s23:=s2.trans s3
      refine .inr ⟨zs,[.ref ts],s23.seqT htp,h3,(fun z=>by have:=(hps r mr).1; rw [z] at hzl; simp at hzl; lia),by have:=(hps r mr).2; rw [List.length_singleton]; lia,(fun z=>nomatch z),fun _ p4 hp4=>?_⟩
      have s4:Same H3 (upd H3 p4 (.tup (zs ++ [.ref ts]))):=same_new hp4
      have h4:SqT K (upd H3 p4 (.tup (zs ++ [.ref ts]))) p4 (zs ++ [.ref ts]):=SqT.of upd_same
      generalize upd H3 p4 (.tup (zs ++ [.ref ts])) = H4 at s4 h4 ⊢
      have s24:=s23.trans s4
      have sys:∀ (k:Nat) (y:V),(zs ++ [V.ref ts])[k]? = some y→∃ sy:Sy,DatV K H y (syD sy):=fun k y hy=>by
        have hy:=List.mem_of_getElem? hy
        rcases List.mem_append.mp hy with z | z
        · obtain ⟨n,hn,en⟩:=List.mem_iff_getElem.mp z
          obtain ⟨dd,hdd,hyd⟩:=hzs.get (show zs[n]? = some y by rw [List.getElem?_eq_getElem hn,en])
          rw [List.getElem?_map] at hdd
          cases es:r.ps[n]? with
          | none=>rw [es] at hdd; cases hdd
          | some sy =>
            rw [es] at hdd
            have ed:dd = syD sy:=(Option.some.inj hdd).symm
            subst ed
            exact ⟨sy,hyd⟩
        · rw [List.mem_singleton.mp z]
          exact ⟨(r.sym.1,some r.sym.2),dat_sy hts⟩
      refine .inr ⟨⟨_,h4⟩,?_⟩
      refine for_tup (K:=K) (xs:=zs ++ [V.ref ts]) (fun k σ H'=>∃ (v2:Option V),Same H4 H'∧σ = [some (.ref a),some (.ref t),v2])
        ⟨v2,Same.refl _,rfl⟩ (fun k σ H' _ h=>by obtain ⟨_,s5,_⟩:=h; exact s5.seqT h4) ?_ ?_
      · rintro k y σ H5 hy ⟨v2,s5,rfl⟩
        have sH:=s24.trans s5
        obtain ⟨sy,hyd⟩:=sys k y hy
        rcases sy_dat hyd with ⟨e1,rfl⟩ | ⟨m,p',e1,rfl,hp'⟩
        · refine ⟨"str",false,.str _,rfl,?_⟩
          refine ⟨"str",true,.str _,rfl,?_⟩
          exact ⟨_,s5,rfl⟩
        · have hp':=sH.seqT hp'
          refine ⟨"tuple",true,.tuple hp',rfl,?_⟩
          refine ⟨_,.inr hp',?_⟩
          refine .inr ⟨_,.str (S sy.1),hp',atI_nat (j:=0) rfl,"str",true,.str _,rfl,?_⟩
          refine .inr ⟨_,.int m,hp',atI_nat (j:=1) rfl,_,rfl,?_⟩
          exact ⟨_,s5,rfl⟩
      · rintro σ H5 ⟨v2,s5,rfl⟩
        exact ⟨_,_,s24.trans s5,rfl⟩
    · rintro σ H2 ⟨v1,v2,s2,rfl⟩
      exact qq _ s2
end
end K21
--@RAISES but law
namespace K21
open PySem PySem.Spec PyProof.Rows L2 Rg
theorem boot_ValueError : bootBuiltins "ValueError" = some (.type "ValueError") := rfl
structure One (K:PySem.W.Frag) (CG C CF CB CI:Addr) (a b c:Bool):Prop where
  Z:ExcK K C
  mro:mroHas K C (.ref CG) = true
  ve:PySem.W.kitOne K (.ref C) (.type "ValueError") = some true
  f:PySem.W.kitOne K (.ref C) (.ref CF) = some a
  b:PySem.W.kitOne K (.ref C) (.ref CB) = some b
  i:PySem.W.kitOne K (.ref C) (.ref CI) = some c
structure Cls (K:PySem.W.Frag) (mg:Str→Option Value) (CG CF CB CI CN:Addr):Prop where
  n_isinstance:mg "isinstance" = none
  n_ValueError:mg "ValueError" = none
  n_int:mg "int" = none
  c_GrowthError:mg "GrowthError" = some (.ref CG)
  x_GrowthError:PySem.W.excIn K CG bmVE "ValueError.__new__" = true
  c_NoFloor:mg "NoFloor" = some (.ref CF)
  c_Barren:mg "Barren" = some (.ref CB)
  c_Idle:mg "Idle" = some (.ref CI)
  c_NoRule:mg "NoRule" = some (.ref CN)
  x_NoRule:PySem.W.excIn K CN bmVE "ValueError.__new__" = true
  oF:One K CG CF CF CB CI true false false
  oB:One K CG CB CF CB CI false true false
  oI:One K CG CI CF CB CI false false true
section
variable {P:Program} {w:World} {K:PySem.W.Frag} {mg:Str→Option Value} {base:Heap} {CG CF CB CI CN tT:Addr}
inductive spTd (K:PySem.W.Frag) (vs : List V) (H : Hp) (Q : VK) (_e : XK) : Prop | mk (a:Addr) (rl:List V) (rs:List Rl) : (vs = [.ref a]) → SqL K H a rl → (DatVs K H rl (rs.map Rl.dat)) → (rulesB rs = true) → ((∀ q ∈ rs,Fine q)) → (((∃ q ∈ rs,badQ rs q = true)→∀ H',Same H H'→Q (.int 1) H')) → (((∀ q ∈ rs,badQ rs q = false)→(∃ r ∈ plainF rs,¬ Der (plainF rs) r.sym)→∀ H',Same H H'→Q (.int 2) H')) → (((∀ q ∈ rs,badQ rs q = false)→(∀ r ∈ plainF rs,Der (plainF rs) r.sym)→(∃ q ∈ rs,¬ Rch rs q.sort)→∀ H',Same H H'→Q (.int 3) H')) → (((∀ q ∈ rs,badQ rs q = false)→(∀ r ∈ plainF rs,Der (plainF rs) r.sym)→(∀ q ∈ rs,Rch rs q.sort)→∀ H',Same H H'→Q (.int 0) H')) → spTd K vs H Q _e
noncomputable abbrev st__law_told:Stmt:=top 38
theorem sc__law_told:FnScope ["_law_rules","_law_error","e","_law_told_here"] ["_law_rules"] (defScope st__law_told):=⟨rfl,rfl,rfl,by decide +kernel,rfl,by decide +kernel,by decide +kernel⟩
theorem def_td (R:Raw K mg "_law_told" st__law_told ["_law_rules"]) (T:Cls K mg CG CF CB CI CN) (D_plain_rules:DefX P w K mg base 4 "plain_rules" ["rules"] (spPl K CF CB CI)):Def P w K mg base 5 "_law_told" ["_law_rules"] (spTd K):=by
  refine R.defJ sc__law_told (fun vs H Q E h=>?_) (fun f cdv A outer s H vs Q E hr h=>?_)
  · obtain ⟨a,rl,rs,rfl,_⟩:=h
    rfl
  · obtain ⟨a,rl,rs,rfl,hS,hD,hR,hF,q1,q2,q3,q0⟩:=h
    have sc:=sc__law_told
    have hu:=hr.units
    refine ⟨_,(jss_cons (js_set (i:=1) sc.nd rfl (Or.inl rfl) j_non)
    (jss_cons (js_tryK (K:=K) rfl rfl D_plain_rules (hr.mono (by decide)) rfl (ja_cons (jn 0) ja_nil) rfl T.c_GrowthError T.x_GrowthError (i:=2) sc.nd rfl rfl (fun a oe C hoe Z=>(jss_one (js_set (i:=1) sc.nd rfl (Or.inl rfl) (jn 2)))))
    (jss_cons (js_if (jt_cmp o_is (jn 1) j_non)
    (jss_one (js_ret j_int))
    jss_nil)
    (jss_cons (js_if (jt_not (jt_val (j_callB (c_isiE (K:=K)) rfl T.n_isinstance boot_isinstance (ja_cons (jn 1) (ja_cons (j_bltn (v:=.ty "ValueError") rfl T.n_ValueError boot_ValueError rfl) ja_nil)))))
    (jss_one (js_ret (j_neg j_int)))
    jss_nil)
    (jss_cons (js_set (i:=3) sc.nd rfl (Or.inl rfl) (j_op (o_add (K:=K)) (j_op (o_add (K:=K)) (j_callTy c_int rfl T.n_int boot_int (ja_cons (j_callB (c_isiE (K:=K)) rfl T.n_isinstance boot_isinstance (ja_cons (jn 1) (ja_cons (j_glob (v:=.ref _) rfl T.c_NoFloor rfl) ja_nil))) ja_nil)) (j_op o_mul j_int (j_callTy c_int rfl T.n_int boot_int (ja_cons (j_callB (c_isiE (K:=K)) rfl T.n_isinstance boot_isinstance (ja_cons (jn 1) (ja_cons (j_glob (v:=.ref _) rfl T.c_Barren rfl) ja_nil))) ja_nil)))) (j_op o_mul j_int (j_callTy c_int rfl T.n_int boot_int (ja_cons (j_callB (c_isiE (K:=K)) rfl T.n_isinstance boot_isinstance (ja_cons (jn 1) (ja_cons (j_glob (v:=.ref _) rfl T.c_Idle rfl) ja_nil))) ja_nil)))))
    (jss_one (js_ret (j_ix (o_ix hu (K:=K) (w:=w)) (j_lst (ja_cons (j_neg j_int) (ja_cons j_int (ja_cons j_int (ja_cons (j_neg j_int) (ja_cons j_int (ja_cons (j_neg j_int) (ja_cons (j_neg j_int) (ja_cons (j_neg j_int) ja_nil))))))))) (jn 3))))))))),?_⟩
    refine ⟨a,rl,rs,rfl,hS,hD,hR,hF,fun h1 H1 s1=>?_,fun h1 h2 H1 s1=>?_,fun h1 h2 h3 H1 s1=>?_,fun h1 h2 h3 H1 p xs s1 _ _=>?_⟩
    · refine ⟨CF,rfl,T.oF.Z,T.oF.mro,fun x oe hx hoe=>?_⟩
      have s2:Same H (upd H1 x (.frz oe anyHO)):=s1.trans (same_new hx)
      have kn:Kn (upd H1 x (.frz oe anyHO)) x oe:=upd_same
      refine ⟨oe,CF,true,kn,hoe,T.oF.Z,T.oF.ve,?_⟩
      refine ⟨oe,CF,true,kn,hoe,T.oF.Z,T.oF.f,oe,CF,false,kn,hoe,T.oF.Z,T.oF.b,.inl ⟨by decide,by decide⟩,oe,CF,false,kn,hoe,T.oF.Z,T.oF.i,.inl ⟨by decide,by decide⟩,?_⟩
      refine ⟨(show 8 ≤ sizeLine by decide),fun p3 hp3=>?_⟩
      exact .inl ⟨_,.int 1,SqL.of upd_same,atI_nat (j:=1) rfl,q1 h1 _ (s2.trans (same_new hp3))⟩
    · refine ⟨CB,rfl,T.oB.Z,T.oB.mro,fun x oe hx hoe=>?_⟩
      have s2:Same H (upd H1 x (.frz oe anyHO)):=s1.trans (same_new hx)
      have kn:Kn (upd H1 x (.frz oe anyHO)) x oe:=upd_same
      refine ⟨oe,CB,true,kn,hoe,T.oB.Z,T.oB.ve,?_⟩
      refine ⟨oe,CB,false,kn,hoe,T.oB.Z,T.oB.f,oe,CB,true,kn,hoe,T.oB.Z,T.oB.b,.inl ⟨by decide,by decide⟩,oe,CB,false,kn,hoe,T.oB.Z,T.oB.i,.inl ⟨by decide,by decide⟩,?_⟩
      refine ⟨(show 8 ≤ sizeLine by decide),fun p3 hp3=>?_⟩
      exact .inl ⟨_,.int 2,SqL.of upd_same,atI_nat (j:=2) rfl,q2 h1 h2 _ (s2.trans (same_new hp3))⟩
    · refine ⟨CI,rfl,T.oI.Z,T.oI.mro,fun x oe hx hoe=>?_⟩
      have s2:Same H (upd H1 x (.frz oe anyHO)):=s1.trans (same_new hx)
      have kn:Kn (upd H1 x (.frz oe anyHO)) x oe:=upd_same
      refine ⟨oe,CI,true,kn,hoe,T.oI.Z,T.oI.ve,?_⟩
      refine ⟨oe,CI,false,kn,hoe,T.oI.Z,T.oI.f,oe,CI,false,kn,hoe,T.oI.Z,T.oI.b,.inl ⟨by decide,by decide⟩,oe,CI,true,kn,hoe,T.oI.Z,T.oI.i,.inl ⟨by decide,by decide⟩,?_⟩
      refine ⟨(show 8 ≤ sizeLine by decide),fun p3 hp3=>?_⟩
      exact .inl ⟨_,.int 3,SqL.of upd_same,atI_nat (j:=4) rfl,q3 h1 h2 h3 _ (s2.trans (same_new hp3))⟩
    · exact q0 h1 h2 h3 _ s1
end
end K21
--@RAISES but law
namespace K21
open PySem PySem.Spec PyProof.Rows L2 Rg
theorem DefX.toDef {P:Program} {w:World} {K:PySem.W.Frag} {mg:Str→Option Value} {base:Heap} {k:Nat} {x:Str} {ps:List Str} {sp:Sp} (D:DefX P w K mg base k x ps sp):Def P w K mg base k x ps (fun vs H Q _=>sp vs H Q E0):=by
  obtain ⟨f,fd,h1,h2,h3,h4,F⟩:=D.ex
  refine ⟨f,fd,h1,h2,h3,h4,⟨fun vs H Q E h=>F.len vs H Q E0 h,fun A outer s H args us vs Q E hr e0 hb hv h=>?_⟩⟩
  refine codeAny_mono (F.run A outer s H args us vs Q E0 hr e0 hb hv h) fun r s' hq=>?_
  cases r with
  | error e=>obtain ⟨_,_,_,_,_,_,_,_,_,_,_,_,hE⟩:=hq; exact hE.elim
  | ok fl=>cases fl <;> exact hq
section
variable {P:Program} {w:World} {K:PySem.W.Frag} {mg:Str→Option Value} {base:Heap} {CG CF CB CI CN tS tN tT:Addr}
theorem cut220 (ns:List Int) {mo:Int} (h:mo = 2∨mo = 4∨mo = 20):∃ ms:List Int,cutV (ns.map V.int) (some 2) (some (2 + mo)) = ms.map V.int∧ms.length ≤ 20:=by
  obtain ⟨m,hm,e⟩:∃ m:Nat,m ≤ 22∧(2:Int) + mo = ((m:Nat):Int):=⟨(2 + mo).toNat,by lia,by lia⟩
  unfold cutV
  rw [show (2:Int) = ((2:Nat):Int) from rfl] at *
  rw [e,HT.sIx_nat,HT.sIx_nat,List.length_map]
  refine ⟨(ns.drop (min 2 ns.length)).take (min m ns.length - min 2 ns.length),by rw [List.map_take,List.map_drop],?_⟩
  rw [List.length_take]
  lia
theorem rl_noL (q : Rl) : NoL q.dat := by
  refine .tuple fun d hd => ?_
  simp only [List.mem_cons, List.not_mem_nil, or_false] at hd
  rcases hd with rfl | rfl | rfl | rfl
  · exact .str _
  · exact .int _
  · exact .str _
  · refine .tuple fun d hd => ?_
    obtain ⟨z, _, rfl⟩ := List.mem_map.mp hd
    exact .str _
theorem rls_noL (rs:List Rl):∀ d ∈ rs.map Rl.dat,NoL d:=fun d hd=>by obtain ⟨z,_,rfl⟩:=List.mem_map.mp hd; exact rl_noL z
theorem dvs_take {H:Hp}:∀ {xs:List V} {ds:List PyData} (n:Nat),DatVs K H xs ds→DatVs K H (xs.take n) (ds.take n)
  | _,_,0,_=>.nil
  | _,_,_ + 1,.nil=>.nil
  | _,_,n + 1,.cons h t=>.cons h (dvs_take n t)
theorem dvs_drop {H:Hp}:∀ {xs:List V} {ds:List PyData} (n:Nat),DatVs K H xs ds→DatVs K H (xs.drop n) (ds.drop n)
  | _,_,0,h=>h
  | _,_,_ + 1,.nil=>.nil
  | _,_,n + 1,.cons _ t=>dvs_drop n t
theorem or3 {c1 c2 c3:Prop} [Decidable c1] [Decidable c2] [Decidable c3] {D E F G M N A B:Prop} (hD:D) (hE:E) (hF:F) (hG:G) (hM:M) (hN:N) (hA:c1∨c2∨c3→A) (hB:¬ c1→¬ c2→¬ c3→B):D∧E∧(if c1 then A else F∧G∧(if c2 then A else M∧N∧(if c3 then A else B))):=by
  refine ⟨hD,hE,ite2 (fun h=>hA (.inl h)) fun h1=>⟨hF,hG,ite2 (fun h=>hA (.inr (.inl h))) fun h2=>⟨hM,hN,ite2 (fun h=>hA (.inr (.inr h))) fun h3=>hB h1 h2 h3⟩⟩⟩
theorem rl_deep (q:Rl):q.dat.depth ≤ 6:=by
  unfold Rl.dat
  have:=tx_deep q.ps
  simp only [PyData.depth,PyData.depthAll]
  lia
theorem rls_deep:∀ rs:List Rl,PyData.depthAll (rs.map Rl.dat) ≤ 7
  | []=>by simp only [List.map_nil,PyData.depthAll]; lia
  | q :: r=>by
    have h1:=rl_deep q
    have h2:=rls_deep r
    rw [List.map_cons]
    simp only [PyData.depthAll]
    lia
theorem pD_deep (p:Str × Int):(pD p).depth ≤ 4:=by
  unfold pD
  simp only [PyData.depth,PyData.depthAll]
  lia
theorem sy_deep (s:Sy):(syD s).depth ≤ 4:=by
  obtain ⟨l,o⟩:=s
  cases o with
  | none=>show (PyData.str (S l)).depth ≤ 4; simp only [PyData.depth]; lia
  | some r=>exact pD_deep (S l,r)
theorem sys_deep:∀ l:List Sy,PyData.depthAll (l.map syD) ≤ 5
  | []=>by simp only [List.map_nil,PyData.depthAll]; lia
  | q :: r=>by
    have h1:=sy_deep q
    have h2:=sys_deep r
    rw [List.map_cons]
    simp only [PyData.depthAll]
    lia
theorem pr_deep (r:PR):r.dat.depth ≤ 8:=by
  unfold PR.dat
  have h1:=pD_deep (thP r.sym)
  have h2:=sys_deep r.ps
  simp only [PyData.depth,PyData.depthAll]
  lia
theorem prs_deep:∀ rs:List PR,PyData.depthAll (rs.map PR.dat) ≤ 9
  | []=>by simp only [List.map_nil,PyData.depthAll]; lia
  | q :: r=>by
    have h1:=pr_deep q
    have h2:=prs_deep r
    rw [List.map_cons]
    simp only [PyData.depthAll]
    lia
theorem plain_ps {rs:List Rl} (h:∀ q ∈ rs,1 ≤ q.ps.length∧q.ps.length ≤ 100):∀ r ∈ plainF rs,1 ≤ r.ps.length∧r.ps.length ≤ 100:=fun r hr=>by
  rcases List.mem_cons.mp hr with e | hr
  · rw [e]
    exact ⟨(show 1 ≤ 1 by decide),(show 1 ≤ 100 by decide)⟩
  · obtain ⟨s,hs,h2⟩:=List.mem_flatMap.mp hr
    rcases mem_blk h2 with ⟨n,q,hq,_,e⟩ | ⟨a,b,ha,_,e⟩
    · rw [e]
      show 1 ≤ (symsP rs q).length∧(symsP rs q).length ≤ 100
      rw [symsP_len]
      exact h q (List.mem_of_getElem? hq)
    · rw [e]
      exact ⟨(show 1 ≤ 1 by decide),(show 1 ≤ 100 by decide)⟩
inductive spLaw (K:PySem.W.Frag) (vs : List V) (H : Hp) (Q : VK) (_e : XK) : Prop | mk (a:Addr) (ns:List Int) : (vs = [.ref a]) → (SqL K H a (ns.map V.int)) → (ns.length ≤ 63) → (∀ H',Q (.bl true) H') → spLaw K vs H Q _e
noncomputable abbrev st_law:Stmt:=top 40
theorem sc_law:FnScope ["_law_script","_law_way","_law_names_here","_law_most","_law_rules","_law_k","_law_at","_law_kept","_law_due_here","_law_found"] ["_law_script"] (defScope st_law):=⟨rfl,rfl,rfl,by decide +kernel,rfl,by decide +kernel,by decide +kernel⟩
theorem def_law (R : Raw K mg "law" st_law ["_law_script"]) (T : Txt K w mg tT) (D__law_cell_at : Def P w K mg base 1 "_law_cell_at" ["_law_script", "_law_k"] (spCell K)) (D__law_names : Def P w K mg base 1 "_law_names" ["_law_cell", "_law_many"] (spNames K)) (D__law_mixed : Def P w K mg base 1 "_law_mixed" ["_law_cell", "_law_k"] spMix)
    (D__law_rule:Def P w K mg base 2 "_law_rule" ["_law_cell","_law_names_here","_law_few"] (spRule K)) (D__law_plain:Def P w K mg base 3 "_law_plain" ["_law_rules"] (spLp K)) (D__law_due:Def P w K mg base 4 "_law_due" ["_law_rules"] (spDu K))
    (D__law_told:Def P w K mg base 5 "_law_told" ["_law_rules"] (spTd K)) (D__law_kinds_hold:Def P w K mg base 2 "_law_kinds_hold" ["_law_found"] (spKh K)) (D_plain_rules:Def P w K mg base 4 "plain_rules" ["rules"] (fun vs H Q _=>spPl K CF CB CI vs H Q E0)):Def P w K mg base 6 "law" ["_law_script"] (spLaw K):=by
  refine R.defJ sc_law (fun vs H Q E h=>?_) (fun f cdv A outer s H vs Q E hr h=>?_)
  · obtain ⟨a,ns,rfl,_⟩:=h
    rfl
  · obtain ⟨a,ns,rfl,hS,hl,qq⟩:=h
    have sc:=sc_law
    have hu:=hr.units
    have hbg:(1000000:Nat) < sizeLine:=by rw [sizeLine_eq]; decide
    refine ⟨_,(jss_cons (js_set (i:=1) sc.nd rfl (Or.inr rfl) (j_def D__law_cell_at (hr.mono (by decide)) rfl (ja_cons (jn 0) (ja_cons j_int ja_nil))))
    (jss_cons (js_set (i:=2) sc.nd rfl (Or.inr rfl) (j_def D__law_names (hr.mono (by decide)) rfl (ja_cons (j_def D__law_cell_at (hr.mono (by decide)) rfl (ja_cons (jn 0) (ja_cons j_int ja_nil))) (ja_cons j_int ja_nil))))
    (jss_cons (js_set (i:=3) sc.nd rfl (Or.inl rfl) (j_ix (o_ix hu (K:=K) (w:=w)) (j_lst (ja_cons j_int (ja_cons j_int (ja_cons j_int ja_nil)))) (j_op o_mod (j_op o_div (jn 1) j_int) j_int)))
    (jss_cons (js_comp (i:=4) (N:=["_law_cell","_law_names_here","_law_way"]) (cap:=[none,some 2,some 1]) rfl (CompScope.of rfl (by rfl)) (ji_any (K:=K) (j_slice (o_slA (K:=K)) (jn 0) (jo_some j_int) (jo_some (j_op (o_add (K:=K)) j_int (jn 3))))) (fun _ _ _ _=>(jg_name (i:=0) (show List.Nodup [("_law_cell":Str),("_law_names_here":Str),("_law_way":Str)] by decide +kernel) rfl (Or.inl rfl))) (fun _ _ _ _=>jts_nil) (fun _ _ _ _=>(j_def D__law_rule (hr.mono (by decide)) rfl (ja_cons (jn 0) (ja_cons (jn 1) (ja_cons (j_cmp (o_eqA hu (K:=K)) (j_op o_mod (jn 2) j_int) j_int) ja_nil))))) sc.nd rfl rfl)
    (jss_cons (js_for PassesOwn.never rfl (ji_rng1 rfl T.n_range (ja_cons j_int ja_nil)) (jg_name (i:=5) sc.nd rfl (Or.inl rfl))
    (jss_one (js_if (jw_t (jw_or (jt_cmp (o_ne hu (K:=K)) (j_op o_mod (j_op o_div (jn 1) j_int) j_int) j_int) (jw_or (jt_cmp (o_eqA hu (K:=K)) (j_op o_mod (j_op o_div (jn 1) j_int) j_int) (jn 5)) (jw_or1 (jt_cmp (o_eqA hu (K:=K)) (j_op o_mod (j_op o_div (jn 1) j_int) j_int) (jn 5))))))
    (jss_cons (js_set (i:=6) sc.nd rfl (Or.inl rfl) (j_op o_mod (j_def D__law_mixed (hr.mono (by decide)) rfl (ja_cons (jn 1) (ja_cons (j_op (o_add (K:=K)) j_int (jn 5)) ja_nil))) (j_op (o_add (K:=K)) (j_callB (c_len (K:=K)) rfl T.n_len PySem.boot_len (ja_cons (jn 4) ja_nil)) j_int)))
    (jss_one (js_expr (j_bm (K:=K) PySem.F.plainAttrs_list PySem.F.slot_list_insert PySem.F.type_list_insert m_insert (jn 4) (ja_cons (jn 6) (ja_cons (j_tup (ja_cons (j_ix (o_ix hu (K:=K) (w:=w)) (jn 2) (jn 5)) (ja_cons j_int (ja_cons j_str (ja_cons (j_tup (ja_cons (j_ix (o_ix hu (K:=K) (w:=w)) (jn 2) (j_op (o_add (K:=K)) j_int (j_op o_mod (j_def D__law_mixed (hr.mono (by decide)) rfl (ja_cons (jn 1) (ja_cons (j_op (o_add (K:=K)) j_int (jn 5)) ja_nil))) j_int))) ja_nil)) ja_nil))))) ja_nil))))))
    jss_nil)))
    (jss_cons (js_set (i:=7) sc.nd rfl (Or.inl rfl) (j_callTy (c_list (K:=K)) rfl T.n_list boot_list (ja_cons (jn 4) ja_nil)))
    (jss_cons (js_set (i:=8) sc.nd rfl (Or.inl rfl) (j_def D__law_due (hr.mono (by decide)) rfl (ja_cons (jn 7) ja_nil)))
    (jss_cons (js_if (jt_cmp o_gt (jn 8) j_int)
    (jss_one (js_ret (j_and (j_cmp (o_eqA hu (K:=K)) (j_def D__law_told (hr.mono (by decide)) rfl (ja_cons (jn 4) ja_nil)) (jn 8)) (j_one (j_cmp (o_eqA hu (K:=K)) (jn 4) (jn 7))))))
    jss_nil)
    (jss_cons (js_set (i:=9) sc.nd rfl (Or.inl rfl) (j_def D_plain_rules (hr.mono (by decide)) rfl (ja_cons (jn 4) ja_nil)))
    (jss_one (js_ret (j_and (j_def D__law_kinds_hold (hr.mono (by decide)) rfl (ja_cons (jn 9) ja_nil)) (j_and (j_cmp (o_eqA hu (K:=K)) (jn 9) (j_def D__law_plain (hr.mono (by decide)) rfl (ja_cons (jn 7) ja_nil))) (j_one (j_cmp (o_eqA hu (K:=K)) (jn 4) (jn 7)))))))))))))))),?_⟩
    obtain ⟨wy,ewy⟩:∃ wy,wy = ns.getD 1 0:=⟨_,rfl⟩
    obtain ⟨c0,ec0⟩:∃ c0,c0 = ns.getD 0 0:=⟨_,rfl⟩
    refine ⟨a,ns,1,rfl,hS,?_⟩
    rw [← ewy]
    refine ⟨a,ns,0,rfl,hS,?_⟩
    rw [← ec0]
    refine ⟨c0,9,rfl,by decide,fun H1 l s1 hl0 hl1=>?_⟩
    refine ⟨(show 3 ≤ sizeLine by decide),fun p2 hp2=>⟨⟨by decide,by decide⟩,by decide,?_⟩⟩
    obtain ⟨mo,hmo,hat⟩:∃ mo:Int,(mo = 2∨mo = 4∨mo = 20)∧atI [V.int 2,V.int 4,V.int 20] (wy / 72 % 3) = some (.int mo):=by
      have:wy / 72 % 3 = 0∨wy / 72 % 3 = 1∨wy / 72 % 3 = 2:=by lia
      rcases this with e | e | e
      · exact ⟨2,.inl rfl,by rw [e]; exact atI_nat (j:=0) rfl⟩
      · exact ⟨4,.inr (.inl rfl),by rw [e]; exact atI_nat (j:=1) rfl⟩
      · exact ⟨20,.inr (.inr rfl),by rw [e]; exact atI_nat (j:=2) rfl⟩
    have s2:Same H1 (upd H1 p2 (.lst [V.int 2,V.int 4,V.int 20])):=same_new hp2
    refine .inl ⟨_,.int mo,SqL.of upd_same,hat,?_⟩
    generalize upd H1 p2 (.lst [V.int 2,V.int 4,V.int 20]) = H2 at s2 ⊢
    have s12:=s1.trans s2
    obtain ⟨ms,em,hml⟩:=cut220 ns hmo
    refine .inl ⟨_,s12.seq hS,fun p3 hp3=>?_⟩
    rw [em]
    have s3:Same H2 (upd H2 p3 (.lst (ms.map V.int))):=same_new hp3
    have h3:SqL K (upd H2 p3 (.lst (ms.map V.int))) p3 (ms.map V.int):=SqL.of upd_same
    generalize upd H2 p3 (.lst (ms.map V.int)) = H3 at s3 h3 ⊢
    refine .inl ⟨⟨_,h3⟩,?_⟩
    have hN3:SqL K H3 l ((List.range 9).map fun k=>V.str (S (nameL c0 k))):=SqL.of (s3 _ _ (s2 _ _ hl1))
    refine gath_list (xs:=ms.map V.int) (fun i us σ' H'=>Same H3 H'∧(∃ rs:List Rl,DatVs K H' us (rs.map Rl.dat)∧(∀ q ∈ rs,RlN c0 q)∧rs.length = i)∧∃ v,σ' = [v,some (.ref l),some (.int wy)]) (by rw [List.length_map]; lia) ⟨Same.refl _,⟨[],.nil,(fun q hq=>nomatch hq),rfl⟩,none,rfl⟩
      (fun i us σ' H' h=>by obtain ⟨_,⟨ws,h1,_,h2⟩,_⟩:=h; have:=h1.length; rw [List.length_map] at this; lia) (fun i us σ' H' h=>h.1.seq h3) ?_ ?_
    · rintro i x us σ' H' hx ⟨s4,⟨rs,hd4,hN4,hrs⟩,v,rfl⟩
      rw [List.getElem?_map] at hx
      obtain ⟨c,_,rfl⟩:=Option.map_eq_some_iff.mp hx
      refine ⟨by decide,?_⟩
      refine ⟨c,c0,l,_,rfl,s4.seq hN3,fun H5 t q5 s5 hd5 hN5=>?_⟩
      refine ⟨s4.trans s5,⟨rs ++ [q5],?_,fun q hq=>?_,by rw [List.length_append,hrs]; rfl⟩,_,rfl⟩
      · rw [List.map_append]
        exact DatVs.snoc hd5 (hd4.same s5)
      · rcases List.mem_append.mp hq with z | z
        · exact hN4 q z
        · rw [List.mem_singleton.mp z]; exact hN5
    · rintro us σ' H' ⟨s4,⟨rs,hd4,hN4,hrs⟩,v,rfl⟩ b hb0
      rw [List.length_map] at hrs
      have s4b:Same H' (upd H' b (.lst us)):=same_new hb0
      have hb4:upd H' b (.lst us) b = some (.lst us):=upd_same
      have hd4b:=hd4.same s4b
      have hlb:l ≠ b:=fun z=>by
        have:=s4 _ _ (s3 _ _ (s2 _ _ hl1))
        rw [z,hb0] at this; cases this
      generalize upd H' b (.lst us) = H4 at s4b hb4 hd4b ⊢
      have hN4l:H4 l = some (.lst ((List.range 9).map fun k=>V.str (S (nameL c0 k)))):=s4b _ _ (s4 _ _ (s3 _ _ (s2 _ _ hl1)))
      refine ⟨by decide,by decide,?_⟩
      refine for_range (n:=((3:Int)).toNat) (fun k σ H5=>∃ (v5 v6:Option V) (rl:List V) (rs:List Rl),Same H' H5∧H5 b = some (.lst rl)∧DatVs K H5 rl (rs.map Rl.dat)∧(∀ q ∈ rs,RlN c0 q)∧rs.length ≤ 20 + k∧(wy / 8 % 3 < (k:Int)→1 ≤ rs.length)∧σ = [some (.ref a),some (.int wy),some (.ref l),some (.int mo),some (.ref b),v5,v6,none,none,none])
        ⟨none,none,us,rs,s4b,hb4,hd4b,hN4,by lia,(fun z=>by lia),rfl⟩ ?_ ?_
      · rintro k σ H5 hk ⟨v5,v6,rl,rs5,s5,hb5,hd5,hN5,hl5,h15,rfl⟩
        have hk3:k < 3:=hk
        rw [show (0:Int) + ((k:Nat):Int) = ((k:Nat):Int) from Int.zero_add _]
        have hrl:rl.length = rs5.length:=by have:=hd5.length; rw [List.length_map] at this; exact this
        have hl5l:=s5 _ _ (s4 _ _ (s3 _ _ (s2 _ _ hl1)))
        refine or3 (c1:=(true ^^ decide (wy / 2 % 4 = 3)) = true) (c2:=(false ^^ decide (wy / 8 % 3 = ((k:Nat):Int))) = true) (c3:=(false ^^ decide (wy / 24 % 3 = ((k:Nat):Int))) = true) ⟨by decide,by decide⟩ (by decide) ⟨by decide,by decide⟩ (by decide) ⟨by decide,by decide⟩ (by decide) (fun _=>?_) (fun h1 h2 h3=>?_)
        · refine ⟨wy,9 + ((k:Nat):Int),rfl,by lia,by lia,_,.inl (SqL.of hb5),?_⟩
          refine ⟨by lia,.inl ⟨rfl,_,SqL.of hb5⟩,?_⟩
          have hnm:∀ j:Nat,j < 9→atI ((List.range 9).map fun k=>V.str (S (nameL c0 k))) ((j:Nat):Int) = some (V.str (S (nameL c0 j))):=fun j hj=>atI_nat (by rw [List.getElem?_map,List.getElem?_range hj]; rfl)
          refine .inl ⟨_,.str (S (nameL c0 k)),SqL.of hl5l,hnm k (by lia),?_⟩
          refine ⟨wy,5 + ((k:Nat):Int),rfl,by lia,by lia,by decide,?_⟩
          obtain ⟨m6,hm6,em6⟩:∃ m6:Nat,m6 < 6∧(3:Int) + mixF wy (5 + ((k:Nat):Int)) % 6 = ((3 + m6:Nat):Int):=⟨(mixF wy (5 + ((k:Nat):Int)) % 6).toNat,by lia,by lia⟩
          refine .inl ⟨_,.str (S (nameL c0 (3 + m6))),SqL.of hl5l,by rw [em6]; exact hnm _ (by lia),?_⟩
          refine ⟨(show 1 ≤ sizeLine by decide),fun p6 hp6=>⟨(show 4 ≤ sizeLine by decide),fun p7 hp7=>?_⟩⟩
          dsimp only at hp7 ⊢
          have z6:Same H5 (upd H5 p6 (.tup [V.str (S (nameL c0 (3 + m6)))])):=same_new hp6
          have k6:SqT K (upd H5 p6 (.tup [V.str (S (nameL c0 (3 + m6)))])) p6 [V.str (S (nameL c0 (3 + m6)))]:=SqT.of upd_same
          generalize upd H5 p6 (.tup [V.str (S (nameL c0 (3 + m6)))]) = H6 at z6 k6 hp7 ⊢
          have z7:Same H6 (upd H6 p7 (.tup [V.str (S (nameL c0 k)),V.int 99,V.str "none",.ref p6])):=same_new hp7
          have k7:DatV K (upd H6 p7 (.tup [V.str (S (nameL c0 k)),V.int 99,V.str "none",.ref p6])) (.ref p7) (Rl.dat ⟨nameL c0 k,99,"none",[nameL c0 (3 + m6)]⟩) :=
            .tuple (SqT.of upd_same) (.cons (.str _) (.cons (.int _) (.cons (.str _) (.cons (.tuple (z7.seqT k6) (.cons (.str _) .nil)) .nil))))
          generalize upd H6 p7 (.tup [V.str (S (nameL c0 k)),V.int 99,V.str "none",.ref p6]) = H7 at z7 k7 ⊢
          have s57:=z6.trans z7
          have hb7:=s57 _ _ hb5
          obtain ⟨at_,hat_,eat⟩:∃ at_:Nat,at_ ≤ rl.length∧mixF wy (9 + ((k:Nat):Int)) % (((rl.length:Nat):Int) + 1) = ((at_:Nat):Int):=by
            have h1:=Int.emod_nonneg (mixF wy (9 + ((k:Nat):Int))) (show ((rl.length:Nat):Int) + 1 ≠ 0 by lia)
            have h2:=Int.emod_lt_of_pos (mixF wy (9 + ((k:Nat):Int))) (show 0 < ((rl.length:Nat):Int) + 1 by lia)
            exact ⟨(mixF wy (9 + ((k:Nat):Int)) % (((rl.length:Nat):Int) + 1)).toNat,by lia,by lia⟩
          rw [eat]
          refine ⟨rl,hb7,by lia,by lia,by lia,?_⟩
          rw [Int.toNat_natCast]
          have hdN:=hd5.same s57
          refine ⟨_,_,_,rs5.take at_ ++ (⟨nameL c0 k,99,"none",[nameL c0 (3 + m6)]⟩:Rl) :: rs5.drop at_,fun x u e=>?_,upd_same,dats_wr (.inl ⟨_,hb7⟩) (rls_noL _) ?_,fun q hq=>?_,?_,fun _=>?_,rfl⟩
          · rw [upd_ne fun z=>by rw [z,hb0] at e; cases e]; exact s57 _ _ (s5 x u e)
          · rw [List.map_append,List.map_cons,List.map_take,List.map_drop]
            exact dvs_app (dvs_take at_ hdN) (.cons k7 (dvs_drop at_ hdN))
          · rcases List.mem_append.mp hq with z | z
            · exact hN5 q (List.mem_of_mem_take z)
            · rcases List.mem_cons.mp z with z | z
              · rw [z]
                exact ⟨⟨k,hk3,rfl⟩,(show (0:Int) ≤ 99 by decide),Int.le_refl _,Nat.le_refl _,(show 1 ≤ 8 by decide),(fun z=>by have e:=nameL_inj (by lia) (by lia) (List.cons.inj z).1; lia),(fun p hp=>by rw [List.mem_singleton.mp hp]; exact ⟨_,by lia,rfl⟩),.inr (.inr rfl)⟩
              · exact hN5 q (List.mem_of_mem_drop z)
          · rw [List.length_append,List.length_cons,List.length_take,List.length_drop]; lia
          · rw [List.length_append,List.length_cons]; lia
        · refine ⟨_,_,rl,rs5,s5,hb5,hd5,hN5,by lia,fun z=>?_,rfl⟩
          by_cases e:wy / 8 % 3 = ((k:Nat):Int)
          · exact absurd (by rw [decide_eq_true e]; rfl) h2
          · exact h15 (by lia)
      · rintro σ H5 ⟨v5,v6,rl,rs5,s5,hb5,hd5,hN5,hl5,h15,rfl⟩
        have hl5:rs5.length ≤ 20 + 3:=hl5
        have h15:1 ≤ rs5.length:=h15 (show wy / 8 % 3 < 3 by lia)
        refine ⟨rl,.inl (SqL.of hb5),fun c hc0=>?_⟩
        have s6:Same H5 (upd H5 c (.lst rl)):=same_new hc0
        have hc6:upd H5 c (.lst rl) c = some (.lst rl):=upd_same
        generalize upd H5 c (.lst rl) = H6 at s6 hc6 ⊢
        have hd6:=hd5.same s6
        have hb6:=s6 _ _ hb5
        have hF:∀ q ∈ rs5,Fine q:=fun q hq=>(hN5 q hq).fine
        have hR:rulesB rs5 = true:=(rulesB_iff rs5).mpr ⟨h15,by lia,fun q hq=>(hN5 q hq).okB⟩
        have lay:(PyData.list (rs5.map Rl.dat)).canLay0 = true:=by simp only [PyData.canLay0]; exact rls_lay fun q hq=>(hN5 q hq).lay
        have deep:(PyData.list (rs5.map Rl.dat)).depth ≤ 60:=by have:=rls_deep rs5; simp only [PyData.depth]; lia
        have fin:∀ H7,Same H6 H7→gEqA K false (.ref b) (.ref c) H7 Q:=fun H7 s7=>by
          refine ⟨_,_,.list (SqL.of (s7 _ _ hb6)) (hd6.same s7),.list (SqL.of (s7 _ _ hc6)) (hd6.same s7),lay,lay,by lia,?_⟩
          rw [SeqAt.eqv_refl _ lay]
          exact qq _
        refine ⟨c,rl,rs5,c0,rfl,SqL.of hc6,hd6,h15,by lia,hN5,fun h1 H7 s7=>?_,fun h1 h2 H7 s7=>?_,fun h1 h2 h3 H7 s7=>?_,fun h1 h2 h3 H7 s7=>?_⟩
        · refine ⟨b,rl,rs5,rfl,SqL.of (s7 _ _ hb6),hd6.same s7,hR,hF,fun _ H8 s8=>?_,?_,?_,?_⟩
          · exact fin H8 (s7.trans s8)
          · exact fun g1=>absurd h1 (fun ⟨q,hq,e⟩=>by rw [g1 q hq] at e; cases e)
          · exact fun g1=>absurd h1 (fun ⟨q,hq,e⟩=>by rw [g1 q hq] at e; cases e)
          · exact fun g1=>absurd h1 (fun ⟨q,hq,e⟩=>by rw [g1 q hq] at e; cases e)
        · refine ⟨b,rl,rs5,rfl,SqL.of (s7 _ _ hb6),hd6.same s7,hR,hF,?_,fun _ _ H8 s8=>?_,?_,?_⟩
          · exact fun ⟨q,hq,e⟩=>by rw [h1 q hq] at e; cases e
          · exact fin H8 (s7.trans s8)
          · exact fun _ g2=>absurd h2 (fun ⟨r,hr,e⟩=>e (g2 r hr))
          · exact fun _ g2=>absurd h2 (fun ⟨r,hr,e⟩=>e (g2 r hr))
        · refine ⟨b,rl,rs5,rfl,SqL.of (s7 _ _ hb6),hd6.same s7,hR,hF,?_,?_,fun _ _ _ H8 s8=>?_,?_⟩
          · exact fun ⟨q,hq,e⟩=>by rw [h1 q hq] at e; cases e
          · exact fun _ ⟨r,hr,e⟩=>absurd (h2 r hr) e
          · exact fin H8 (s7.trans s8)
          · exact fun _ _ g3=>absurd h3 (fun ⟨q,hq,e⟩=>e (g3 q hq))
        · refine ⟨b,rl,rs5,rfl,SqL.of (s7 _ _ hb6),hd6.same s7,hR,hF,?_,?_,?_,fun _ _ _ H8 p xs s8 hp hd8=>?_⟩
          · exact fun ⟨q,hq,e⟩=>by rw [h1 q hq] at e; cases e
          · exact fun _ ⟨r,hr,e⟩=>absurd (h2 r hr) e
          · exact fun _ _ ⟨q,hq,e⟩=>absurd (h3 q hq) e
          · have s78:=s7.trans s8
            refine ⟨p,xs,plainF rs5,rfl,SqL.of hp,hd8,plain_ps fun q hq=>⟨(hN5 q hq).p1,by have:=(hN5 q hq).p8; lia⟩,fun H9 s9=>?_⟩
            have s79:=s78.trans s9
            refine ⟨c,rl,rs5,rfl,SqL.of (s79 _ _ hc6),hd6.same s79,h15,by lia,fun q hq=>⟨by have:=(hN5 q hq).p8; lia,(hN5 q hq).own⟩,fun H10 p10 xs10 s10 hp10 hd10=>?_⟩
            have lay2:(PyData.list ((plainF rs5).map PR.dat)).canLay0 = true:=by simp only [PyData.canLay0]; exact prs_lay (plain_low h15 hF)
            have deep2:(PyData.list ((plainF rs5).map PR.dat)).depth ≤ 60:=by have:=prs_deep (plainF rs5); simp only [PyData.depth]; lia
            refine ⟨_,_,.list (SqL.of (s10 _ _ (s9 _ _ hp))) (hd8.same (s9.trans s10)),.list (SqL.of hp10) hd10,lay2,lay2,by lia,?_⟩
            rw [SeqAt.eqv_refl _ lay2]
            exact fin H10 (s79.trans s10)
theorem law_of (R0:Raw K mg "check_rules" st_check_rules ["rules"]) (R1:Raw K mg "check_rule" st_check_rule ["sort","rank","side","parts"]) (R2:Raw K mg "ranks_of" st_ranks_of ["rules","sort"]) (R3:Raw K mg "floor_of" st_floor_of ["rules","number","place"]) (R4:Raw K mg "rank_above" st_rank_above ["ranks","rank"]) (R5:Raw K mg "plain_rules" st_plain_rules ["rules"]) (R6:Raw K mg "symbols_of" st_symbols_of ["rules","number"]) (R7:Raw K mg "sorts_of" st_sorts_of ["rules"]) (R8:Raw K mg "plain_of_sort" st_plain_of_sort ["rules","parts","sort"]) (R9:Raw K mg "check_fruitful" st_check_fruitful ["plain"]) (R10:Raw K mg "check_reached" st_check_reached ["rules"]) (R11:Raw K mg "_law_cell_at" st__law_cell_at ["_law_script","_law_k"]) (R12:Raw K mg "_law_whole" st__law_whole ["_law_found"]) (R13:Raw K mg "_law_names" st__law_names ["_law_cell","_law_many"]) (R14:Raw K mg "_law_mixed" st__law_mixed ["_law_cell","_law_k"]) (R15:Raw K mg "_law_rule" st__law_rule ["_law_cell","_law_names_here","_law_few"]) (R16:Raw K mg "_law_ranks" st__law_ranks ["_law_rules","_law_sort"]) (R17:Raw K mg "_law_symbols" st__law_symbols ["_law_rules","_law_rule_here"]) (R18:Raw K mg "_law_plain" st__law_plain ["_law_rules"]) (R19:Raw K mg "_law_bears_all" st__law_bears_all ["_law_plain_here"]) (R20:Raw K mg "_law_reaches_all" st__law_reaches_all ["_law_rules"]) (R21:Raw K mg "_law_due" st__law_due ["_law_rules"]) (R22:Raw K mg "_law_told" st__law_told ["_law_rules"]) (R23:Raw K mg "_law_kinds_hold" st__law_kinds_hold ["_law_found"]) (R24:Raw K mg "law" st_law ["_law_script"]) (T:Txt K w mg tT) (TR:TxR mg) (TN:TxN K mg tS tN CN) (TF:TxF K mg CF) (TB:TxB K mg CB) (TI:TxI K mg CI) (T2:Cls K mg CG CF CB CI CN):Def P w K mg base 6 "law" ["_law_script"] (spLaw K) :=
  have Dr:Def P w K mg base 1 "ranks_of" ["rules","sort"] (spRanks K):=def_ranks R2 TR
  have Dx:DefX P w K mg base 4 "plain_rules" ["rules"] (spPl K CF CB CI):=def_pl R5 T (def_cks R0 TN (def_ck R1 TN)) (def_sym R6 T (def_floor R3 T Dr (def_above R4 TF))) Dr (def_sorts R7 T) (def_pos R8 T Dr) (def_fr R9 TB) (def_rc R10 TI)
  have Dl:Def P w K mg base 1 "_law_ranks" ["_law_rules","_law_sort"] (spRanks K):=def_lranks R16 TR
  have Dp:Def P w K mg base 3 "_law_plain" ["_law_rules"] (spLp K):=def_lp R18 T Dl (def_ls R17 T Dl)
  have Dm:Def P w K mg base 1 "_law_mixed" ["_law_cell","_law_k"] spMix:=def_mix R14
  def_law R24 T (def_cell R11 T) (def_names R13 T) Dm (def_rule R15 T Dm) Dp (def_du R21 T Dp (def_br R19 T) (def_re R20 T)) (def_td R22 T2 Dx) (def_kh R23 T (def_whole R12 T)) (DefX.toDef Dx)
end
theorem kit_self {K : PySem.W.Frag} (C : Addr) : PySem.W.kitOne K (.ref C) (.ref C) = some true := by unfold PySem.W.kitOne; simp
theorem mro_has {K:PySem.W.Frag} {C CG:Addr} (up:PySem.W.mroIn K C (.ref CG) = some true):mroHas K C (.ref CG) = true:=by
  obtain ⟨cd,a,b⟩:=Option.bind_eq_some_iff.mp up
  unfold PySem.W.clsIn at a
  split at a
  · rename_i ho
    cases a
    split at b
    · cases b
    · unfold mroHas
      rw [ho]
      exact Option.some.inj b
  · cases a
theorem cls_mk {K : PySem.W.Frag} {mg : Str → Option Value} {h : Heap} {CG CF CB CI CN : Addr} (X : K.In h) (G : h.Ns mainGlobals mg) (n1 : mg "isinstance" = none) (n2 : mg "ValueError" = none) (n3 : mg "int" = none)
    (aG:PySem.W.nsIn K mainGlobals "GrowthError" = some (some (.ref CG))) (aF:PySem.W.nsIn K mainGlobals "NoFloor" = some (some (.ref CF))) (aB:PySem.W.nsIn K mainGlobals "Barren" = some (some (.ref CB))) (aI:PySem.W.nsIn K mainGlobals "Idle" = some (some (.ref CI))) (aN:PySem.W.nsIn K mainGlobals "NoRule" = some (some (.ref CN))) (xgG:PySem.W.excIn K CG bmVE "ValueError.__new__" = true) (xgN:PySem.W.excIn K CN bmVE "ValueError.__new__" = true) (z1F:PySem.W.excIn K CF bmVE "ValueError.__new__" = true) (z2F:PySem.W.findIn K (.ref CF) "__getattribute__" = some (some (.builtin "BaseException.__getattribute__"))) (z3F:PySem.W.findIn K (.ref CF) "__getattr__" = some none) (z4F:PySem.W.findIn K (.ref CF) "__class__" = some (some (.builtin "object.__class__"))) (z5F:PySem.W.mroIn K CF (.type "object") = some true) (upF:PySem.W.mroIn K CF (.ref CG) = some true) (veF:PySem.W.kitOne K (.ref CF) (.type "ValueError") = some true) (noFB:PySem.W.kitOne K (.ref CF) (.ref CB) = some false) (noFI:PySem.W.kitOne K (.ref CF) (.ref CI) = some false) (z1B:PySem.W.excIn K CB bmVE "ValueError.__new__" = true) (z2B:PySem.W.findIn K (.ref CB) "__getattribute__" = some (some (.builtin "BaseException.__getattribute__"))) (z3B:PySem.W.findIn K (.ref CB) "__getattr__" = some none) (z4B:PySem.W.findIn K (.ref CB) "__class__" = some (some (.builtin "object.__class__"))) (z5B:PySem.W.mroIn K CB (.type "object") = some true) (upB:PySem.W.mroIn K CB (.ref CG) = some true) (veB:PySem.W.kitOne K (.ref CB) (.type "ValueError") = some true) (noBF:PySem.W.kitOne K (.ref CB) (.ref CF) = some false) (noBI:PySem.W.kitOne K (.ref CB) (.ref CI) = some false) (z1I:PySem.W.excIn K CI bmVE "ValueError.__new__" = true) (z2I:PySem.W.findIn K (.ref CI) "__getattribute__" = some (some (.builtin "BaseException.__getattribute__"))) (z3I:PySem.W.findIn K (.ref CI) "__getattr__" = some none) (z4I:PySem.W.findIn K (.ref CI) "__class__" = some (some (.builtin "object.__class__"))) (z5I:PySem.W.mroIn K CI (.type "object") = some true) (upI:PySem.W.mroIn K CI (.ref CG) = some true) (veI:PySem.W.kitOne K (.ref CI) (.type "ValueError") = some true) (noIF:PySem.W.kitOne K (.ref CI) (.ref CF) = some false) (noIB:PySem.W.kitOne K (.ref CI) (.ref CB) = some false):∃ CG CF CB CI CN,Cls K mg CG CF CB CI CN :=
  ⟨CG,CF,CB,CI,CN,⟨n1,n2,n3,PySem.W.mg_of X G aG,xgG,PySem.W.mg_of X G aF,PySem.W.mg_of X G aB,PySem.W.mg_of X G aI,PySem.W.mg_of X G aN,xgN,⟨⟨z1F,z2F,z3F,z4F,z5F⟩,mro_has upF,veF,(kit_self CF),noFB,noFI⟩,⟨⟨z1B,z2B,z3B,z4B,z5B⟩,mro_has upB,veB,noBF,(kit_self CB),noBI⟩,⟨⟨z1I,z2I,z3I,z4I,z5I⟩,mro_has upI,veI,noIF,noIB,(kit_self CI)⟩⟩⟩
end K21
open PySem PySem.W PyProof.Rows
namespace L2
theorem ofLen0 {p:List Value→Prop} (h:Unit→p []):∀ us,us.length = 0→p us:=fun us e=>by rw [List.length_eq_zero_iff.mp e]; exact h ()
theorem ofLen1 {p:List Value→Prop} (h:∀ a,p [a]):∀ us,us.length = 1→p us:=fun us e=>by obtain ⟨a,rfl⟩:=List.length_eq_one_iff.mp e; exact h a
theorem ofLen2 {p:List Value→Prop} (h:∀ a b,p [a,b]):∀ us,us.length = 2→p us:=fun us e=>match us with
  | []=>by cases e
  | a :: r=>ofLen1 (p:=fun z=>p (a :: z)) (h a) r (Nat.succ.inj e)
theorem ofLen3 {p:List Value→Prop} (h:∀ a b c,p [a,b,c]):∀ us,us.length = 3→p us:=fun us e=>match us with
  | []=>by cases e
  | a :: r=>ofLen2 (p:=fun z=>p (a :: z)) (h a) r (Nat.succ.inj e)
theorem ofLen4 {p:List Value→Prop} (h:∀ a b c d,p [a,b,c,d]):∀ us,us.length = 4→p us:=fun us e=>match us with
  | []=>by cases e
  | a :: r=>ofLen3 (p:=fun z=>p (a :: z)) (h a) r (Nat.succ.inj e)
theorem ofLen5 {p:List Value→Prop} (h:∀ a b c d e,p [a,b,c,d,e]):∀ us,us.length = 5→p us:=fun us e=>match us with
  | []=>by cases e
  | a :: r=>ofLen4 (p:=fun z=>p (a :: z)) (h a) r (Nat.succ.inj e)
theorem ofLen6 {p:List Value→Prop} (h:∀ a b c d e f,p [a,b,c,d,e,f]):∀ us,us.length = 6→p us:=fun us e=>match us with
  | []=>by cases e
  | a :: r=>ofLen5 (p:=fun z=>p (a :: z)) (h a) r (Nat.succ.inj e)
theorem ofLen7 {p:List Value→Prop} (h:∀ a b c d e f g,p [a,b,c,d,e,f,g]):∀ us,us.length = 7→p us:=fun us e=>match us with
  | []=>by cases e
  | a :: r=>ofLen6 (p:=fun z=>p (a :: z)) (h a) r (Nat.succ.inj e)
theorem ofLen8 {p:List Value→Prop} (h:∀ a b c d e f g h,p [a,b,c,d,e,f,g,h]):∀ us,us.length = 8→p us:=fun us e=>match us with
  | []=>by cases e
  | a :: r=>ofLen7 (p:=fun z=>p (a :: z)) (h a) r (Nat.succ.inj e)
end L2
set_option maxRecDepth 100000 in
set_option maxHeartbeats 0 in
theorem PySem.Challenge.cw_regrowth_k21_plain_rules_holds : PySem.Challenge.rw_regrowth_k21_plain_rules.Holds := by
  w_on; o_law; k_head; (case hw=>w_witness2)
  k_fill
  refine L2.walk_ofK (l:=PySem.Challenge.rw_regrowth_k21_plain_rules) (n:=63) (k:=6) (x:="_law_script") (CX:=L2.CX0) (sp:=K21.spLaw) rfl (by decide) rfl ⟨rfl,by decide,by decide,rfl⟩ (fun w h Y=>PySem.W.kIn_of Y) ?F ?S ?C
  case F =>
    intro w mg fa h KX G hmg
    have R0:L2.Raw (L2.KOf KX) mg "check_rules" K21.st_check_rules ["rules"]:=by
      dsimp only [L2.KOf]
      refine' L2.Raw.mk' KX G ?a0 ?l0 ?c0 ?k0 ?b0
      (case a0=>k_is)
      (case l0=>k_is)
      (case c0=>k_is)
      (case k0=>k_is)
      exact L2.ofLen1 fun _=>rfl
    have R1:L2.Raw (L2.KOf KX) mg "check_rule" K21.st_check_rule ["sort","rank","side","parts"]:=by
      dsimp only [L2.KOf]
      refine' L2.Raw.mk' KX G ?a1 ?l1 ?c1 ?k1 ?b1
      (case a1=>k_is)
      (case l1=>k_is)
      (case c1=>k_is)
      (case k1=>k_is)
      exact L2.ofLen4 fun _ _ _ _=>rfl
    have R2:L2.Raw (L2.KOf KX) mg "ranks_of" K21.st_ranks_of ["rules","sort"]:=by
      dsimp only [L2.KOf]
      refine' L2.Raw.mk' KX G ?a2 ?l2 ?c2 ?k2 ?b2
      (case a2=>k_is)
      (case l2=>k_is)
      (case c2=>k_is)
      (case k2=>k_is)
      exact L2.ofLen2 fun _ _=>rfl
    have R3:L2.Raw (L2.KOf KX) mg "floor_of" K21.st_floor_of ["rules","number","place"]:=by
      dsimp only [L2.KOf]
      refine' L2.Raw.mk' KX G ?a3 ?l3 ?c3 ?k3 ?b3
      (case a3=>k_is)
      (case l3=>k_is)
      (case c3=>k_is)
      (case k3=>k_is)
      exact L2.ofLen3 fun _ _ _=>rfl
    have R4:L2.Raw (L2.KOf KX) mg "rank_above" K21.st_rank_above ["ranks","rank"]:=by
      dsimp only [L2.KOf]
      refine' L2.Raw.mk' KX G ?a4 ?l4 ?c4 ?k4 ?b4
      (case a4=>k_is)
      (case l4=>k_is)
      (case c4=>k_is)
      (case k4=>k_is)
      exact L2.ofLen2 fun _ _=>rfl
    have R5:L2.Raw (L2.KOf KX) mg "plain_rules" K21.st_plain_rules ["rules"]:=by
      dsimp only [L2.KOf]
      refine' L2.Raw.mk' KX G ?a5 ?l5 ?c5 ?k5 ?b5
      (case a5=>k_is)
      (case l5=>k_is)
      (case c5=>k_is)
      (case k5=>k_is)
      exact L2.ofLen1 fun _=>rfl
    have R6:L2.Raw (L2.KOf KX) mg "symbols_of" K21.st_symbols_of ["rules","number"]:=by
      dsimp only [L2.KOf]
      refine' L2.Raw.mk' KX G ?a6 ?l6 ?c6 ?k6 ?b6
      (case a6=>k_is)
      (case l6=>k_is)
      (case c6=>k_is)
      (case k6=>k_is)
      exact L2.ofLen2 fun _ _=>rfl
    have R7:L2.Raw (L2.KOf KX) mg "sorts_of" K21.st_sorts_of ["rules"]:=by
      dsimp only [L2.KOf]
      refine' L2.Raw.mk' KX G ?a7 ?l7 ?c7 ?k7 ?b7
      (case a7=>k_is)
      (case l7=>k_is)
      (case c7=>k_is)
      (case k7=>k_is)
      exact L2.ofLen1 fun _=>rfl
    have R8:L2.Raw (L2.KOf KX) mg "plain_of_sort" K21.st_plain_of_sort ["rules","parts","sort"]:=by
      dsimp only [L2.KOf]
      refine' L2.Raw.mk' KX G ?a8 ?l8 ?c8 ?k8 ?b8
      (case a8=>k_is)
      (case l8=>k_is)
      (case c8=>k_is)
      (case k8=>k_is)
      exact L2.ofLen3 fun _ _ _=>rfl
    have R9:L2.Raw (L2.KOf KX) mg "check_fruitful" K21.st_check_fruitful ["plain"]:=by
      dsimp only [L2.KOf]
      refine' L2.Raw.mk' KX G ?a9 ?l9 ?c9 ?k9 ?b9
      (case a9=>k_is)
      (case l9=>k_is)
      (case c9=>k_is)
      (case k9=>k_is)
      exact L2.ofLen1 fun _=>rfl
    have R10:L2.Raw (L2.KOf KX) mg "check_reached" K21.st_check_reached ["rules"]:=by
      dsimp only [L2.KOf]
      refine' L2.Raw.mk' KX G ?a10 ?l10 ?c10 ?k10 ?b10
      (case a10=>k_is)
      (case l10=>k_is)
      (case c10=>k_is)
      (case k10=>k_is)
      exact L2.ofLen1 fun _=>rfl
    have R11:L2.Raw (L2.KOf KX) mg "_law_cell_at" K21.st__law_cell_at ["_law_script","_law_k"]:=by
      dsimp only [L2.KOf]
      refine' L2.Raw.mk' KX G ?a11 ?l11 ?c11 ?k11 ?b11
      (case a11=>k_is)
      (case l11=>k_is)
      (case c11=>k_is)
      (case k11=>k_is)
      exact L2.ofLen2 fun _ _=>rfl
    have R12:L2.Raw (L2.KOf KX) mg "_law_whole" K21.st__law_whole ["_law_found"]:=by
      dsimp only [L2.KOf]
      refine' L2.Raw.mk' KX G ?a12 ?l12 ?c12 ?k12 ?b12
      (case a12=>k_is)
      (case l12=>k_is)
      (case c12=>k_is)
      (case k12=>k_is)
      exact L2.ofLen1 fun _=>rfl
    have R13:L2.Raw (L2.KOf KX) mg "_law_names" K21.st__law_names ["_law_cell","_law_many"]:=by
      dsimp only [L2.KOf]
      refine' L2.Raw.mk' KX G ?a13 ?l13 ?c13 ?k13 ?b13
      (case a13=>k_is)
      (case l13=>k_is)
      (case c13=>k_is)
      (case k13=>k_is)
      exact L2.ofLen2 fun _ _=>rfl
    have R14:L2.Raw (L2.KOf KX) mg "_law_mixed" K21.st__law_mixed ["_law_cell","_law_k"]:=by
      dsimp only [L2.KOf]
      refine' L2.Raw.mk' KX G ?a14 ?l14 ?c14 ?k14 ?b14
      (case a14=>k_is)
      (case l14=>k_is)
      (case c14=>k_is)
      (case k14=>k_is)
      exact L2.ofLen2 fun _ _=>rfl
    have R15:L2.Raw (L2.KOf KX) mg "_law_rule" K21.st__law_rule ["_law_cell","_law_names_here","_law_few"]:=by
      dsimp only [L2.KOf]
      refine' L2.Raw.mk' KX G ?a15 ?l15 ?c15 ?k15 ?b15
      (case a15=>k_is)
      (case l15=>k_is)
      (case c15=>k_is)
      (case k15=>k_is)
      exact L2.ofLen3 fun _ _ _=>rfl
    have R16:L2.Raw (L2.KOf KX) mg "_law_ranks" K21.st__law_ranks ["_law_rules","_law_sort"]:=by
      dsimp only [L2.KOf]
      refine' L2.Raw.mk' KX G ?a16 ?l16 ?c16 ?k16 ?b16
      (case a16=>k_is)
      (case l16=>k_is)
      (case c16=>k_is)
      (case k16=>k_is)
      exact L2.ofLen2 fun _ _=>rfl
    have R17:L2.Raw (L2.KOf KX) mg "_law_symbols" K21.st__law_symbols ["_law_rules","_law_rule_here"]:=by
      dsimp only [L2.KOf]
      refine' L2.Raw.mk' KX G ?a17 ?l17 ?c17 ?k17 ?b17
      (case a17=>k_is)
      (case l17=>k_is)
      (case c17=>k_is)
      (case k17=>k_is)
      exact L2.ofLen2 fun _ _=>rfl
    have R18:L2.Raw (L2.KOf KX) mg "_law_plain" K21.st__law_plain ["_law_rules"]:=by
      dsimp only [L2.KOf]
      refine' L2.Raw.mk' KX G ?a18 ?l18 ?c18 ?k18 ?b18
      (case a18=>k_is)
      (case l18=>k_is)
      (case c18=>k_is)
      (case k18=>k_is)
      exact L2.ofLen1 fun _=>rfl
    have R19:L2.Raw (L2.KOf KX) mg "_law_bears_all" K21.st__law_bears_all ["_law_plain_here"]:=by
      dsimp only [L2.KOf]
      refine' L2.Raw.mk' KX G ?a19 ?l19 ?c19 ?k19 ?b19
      (case a19=>k_is)
      (case l19=>k_is)
      (case c19=>k_is)
      (case k19=>k_is)
      exact L2.ofLen1 fun _=>rfl
    have R20:L2.Raw (L2.KOf KX) mg "_law_reaches_all" K21.st__law_reaches_all ["_law_rules"]:=by
      dsimp only [L2.KOf]
      refine' L2.Raw.mk' KX G ?a20 ?l20 ?c20 ?k20 ?b20
      (case a20=>k_is)
      (case l20=>k_is)
      (case c20=>k_is)
      (case k20=>k_is)
      exact L2.ofLen1 fun _=>rfl
    have R21:L2.Raw (L2.KOf KX) mg "_law_due" K21.st__law_due ["_law_rules"]:=by
      dsimp only [L2.KOf]
      refine' L2.Raw.mk' KX G ?a21 ?l21 ?c21 ?k21 ?b21
      (case a21=>k_is)
      (case l21=>k_is)
      (case c21=>k_is)
      (case k21=>k_is)
      exact L2.ofLen1 fun _=>rfl
    have R22:L2.Raw (L2.KOf KX) mg "_law_told" K21.st__law_told ["_law_rules"]:=by
      dsimp only [L2.KOf]
      refine' L2.Raw.mk' KX G ?a22 ?l22 ?c22 ?k22 ?b22
      (case a22=>k_is)
      (case l22=>k_is)
      (case c22=>k_is)
      (case k22=>k_is)
      exact L2.ofLen1 fun _=>rfl
    have R23:L2.Raw (L2.KOf KX) mg "_law_kinds_hold" K21.st__law_kinds_hold ["_law_found"]:=by
      dsimp only [L2.KOf]
      refine' L2.Raw.mk' KX G ?a23 ?l23 ?c23 ?k23 ?b23
      (case a23=>k_is)
      (case l23=>k_is)
      (case c23=>k_is)
      (case k23=>k_is)
      exact L2.ofLen1 fun _=>rfl
    have R24:L2.Raw (L2.KOf KX) mg "law" K21.st_law ["_law_script"]:=by
      dsimp only [L2.KOf]
      refine' L2.Raw.mk' KX G ?a24 ?l24 ?c24 ?k24 ?b24
      (case a24=>k_is)
      (case l24=>k_is)
      (case c24=>k_is)
      (case k24=>k_is)
      exact L2.ofLen1 fun _=>rfl
    have n_ValueError:mg "ValueError" = none:=PySem.W.mg_none_of KX G (by k_is)
    have n_all:mg "all" = none:=PySem.W.mg_none_of KX G (by k_is)
    have n_any:mg "any" = none:=PySem.W.mg_none_of KX G (by k_is)
    have n_bool:mg "bool" = none:=PySem.W.mg_none_of KX G (by k_is)
    have n_enumerate:mg "enumerate" = none:=PySem.W.mg_none_of KX G (by k_is)
    have n_int:mg "int" = none:=PySem.W.mg_none_of KX G (by k_is)
    have n_isinstance:mg "isinstance" = none:=PySem.W.mg_none_of KX G (by k_is)
    have n_len:mg "len" = none:=PySem.W.mg_none_of KX G (by k_is)
    have n_list:mg "list" = none:=PySem.W.mg_none_of KX G (by k_is)
    have n_min:mg "min" = none:=PySem.W.mg_none_of KX G (by k_is)
    have n_range:mg "range" = none:=PySem.W.mg_none_of KX G (by k_is)
    have n_set:mg "set" = none:=PySem.W.mg_none_of KX G (by k_is)
    have n_sorted:mg "sorted" = none:=PySem.W.mg_none_of KX G (by k_is)
    have n_str:mg "str" = none:=PySem.W.mg_none_of KX G (by k_is)
    have n_tuple:mg "tuple" = none:=PySem.W.mg_none_of KX G (by k_is)
    have n_zip:mg "zip" = none:=PySem.W.mg_none_of KX G (by k_is)
    have g_NO_RULE:∃ t,mg "NO_RULE" = some (.int (-1) t):=by
      refine' L2.int_mk KX G ?aNO_RULE
      (case aNO_RULE=>k_is)
    have g_MOST_RULES:∃ t,mg "MOST_RULES" = some (.int 24 t):=by
      refine' L2.int_mk KX G ?aMOST_RULES
      (case aMOST_RULES=>k_is)
    have g_MOST_RANK:∃ t,mg "MOST_RANK" = some (.int 99 t):=by
      refine' L2.int_mk KX G ?aMOST_RANK
      (case aMOST_RANK=>k_is)
    have g_MOST_PARTS:∃ t,mg "MOST_PARTS" = some (.int 8 t):=by
      refine' L2.int_mk KX G ?aMOST_PARTS
      (case aMOST_PARTS=>k_is)
    have g_TOP:∃ t,mg "TOP" = some (.ref t)∧∀ H,L2.SqT (L2.KOf KX) H t [.str "",.int (0)]:=by
      dsimp only [L2.KOf]
      refine' L2.tup_mk KX G ?aTOP ?lTOP ?zTOP ?vTOP
      (case aTOP=>k_is)
      (case lTOP=>k_is)
      (case zTOP=>decide)
      (case vTOP=>exact .cons ⟨_,rfl⟩ (.cons ⟨_,rfl⟩ .nil))
    obtain ⟨a_TOP,g_TOP,k_TOP⟩:=g_TOP
    have g_SIDES:∃ t,mg "SIDES" = some (.ref t)∧∀ H,L2.SqT (L2.KOf KX) H t [.str "left",.str "right",.str "none"]:=by
      dsimp only [L2.KOf]
      refine' L2.tup_mk KX G ?aSIDES ?lSIDES ?zSIDES ?vSIDES
      (case aSIDES=>k_is)
      (case lSIDES=>k_is)
      (case zSIDES=>decide)
      (case vSIDES=>exact .cons ⟨_,rfl⟩ (.cons ⟨_,rfl⟩ (.cons ⟨_,rfl⟩ .nil)))
    obtain ⟨a_SIDES,g_SIDES,k_SIDES⟩:=g_SIDES
    have g_NO_NAMES:∃ t,mg "NO_NAMES" = some (.ref t)∧∀ H,L2.SqT (L2.KOf KX) H t [.str "",.str "end",.str "stray"]:=by
      dsimp only [L2.KOf]
      refine' L2.tup_mk KX G ?aNO_NAMES ?lNO_NAMES ?zNO_NAMES ?vNO_NAMES
      (case aNO_NAMES=>k_is)
      (case lNO_NAMES=>k_is)
      (case zNO_NAMES=>decide)
      (case vNO_NAMES=>exact .cons ⟨_,rfl⟩ (.cons ⟨_,rfl⟩ (.cons ⟨_,rfl⟩ .nil)))
    obtain ⟨a_NO_NAMES,g_NO_NAMES,k_NO_NAMES⟩:=g_NO_NAMES
    have T2:∃ CG CF CB CI CN,K21.Cls (L2.KOf KX) mg CG CF CB CI CN:=by
      dsimp only [L2.KOf]
      refine' K21.cls_mk KX G n_isinstance n_ValueError n_int ?aG ?aF ?aB ?aI ?aN ?xgG ?xgN ?z1F ?z2F ?z3F ?z4F ?z5F ?upF ?veF ?noFB ?noFI ?z1B ?z2B ?z3B ?z4B ?z5B ?upB ?veB ?noBF ?noBI ?z1I ?z2I ?z3I ?z4I ?z5I ?upI ?veI ?noIF ?noIB
      (case aG=>k_is)
      (case aF=>k_is)
      (case aB=>k_is)
      (case aI=>k_is)
      (case aN=>k_is)
      (case xgG=>first | k_exc | rfl | decide)
      (case xgN=>first | k_exc | rfl | decide)
      (case z1F=>first | k_exc | rfl | decide)
      (case z2F=>k_is)
      (case z3F=>k_is)
      (case z4F=>k_is)
      (case z5F=>k_is)
      (case upF=>k_is)
      (case veF=>first | kit_is | rfl | decide)
      (case noFB=>first | kit_is | rfl | decide)
      (case noFI=>first | kit_is | rfl | decide)
      (case z1B=>first | k_exc | rfl | decide)
      (case z2B=>k_is)
      (case z3B=>k_is)
      (case z4B=>k_is)
      (case z5B=>k_is)
      (case upB=>k_is)
      (case veB=>first | kit_is | rfl | decide)
      (case noBF=>first | kit_is | rfl | decide)
      (case noBI=>first | kit_is | rfl | decide)
      (case z1I=>first | k_exc | rfl | decide)
      (case z2I=>k_is)
      (case z3I=>k_is)
      (case z4I=>k_is)
      (case z5I=>k_is)
      (case upI=>k_is)
      (case veI=>first | kit_is | rfl | decide)
      (case noIF=>first | kit_is | rfl | decide)
      (case noIB=>first | kit_is | rfl | decide)
    obtain ⟨CG,CF,CB,CI,CN,T2⟩:=T2
    have T:K21.Txt (L2.KOf KX) w mg a_TOP:=⟨n_set,n_sorted,n_len,n_list,n_tuple,n_int,n_str,n_bool,n_min,n_all,n_zip,n_range,n_enumerate,n_isinstance,g_NO_RULE,g_TOP,k_TOP⟩
    have TR:K21.TxR mg:=⟨n_set,n_sorted⟩
    have TN:K21.TxN (L2.KOf KX) mg a_SIDES a_NO_NAMES CN:=⟨n_len,n_any,g_MOST_RULES,g_MOST_RANK,g_MOST_PARTS,g_SIDES,g_NO_NAMES,k_SIDES,k_NO_NAMES,T2.c_NoRule,T2.x_NoRule⟩
    have TF:K21.TxF (L2.KOf KX) mg CF:=⟨T2.c_NoFloor,T2.oF.Z.exc⟩
    have TB:K21.TxB (L2.KOf KX) mg CB:=⟨T2.c_Barren,T2.oB.Z.exc,n_all,n_isinstance,n_str⟩
    have TI:K21.TxI (L2.KOf KX) mg CI:=⟨T2.c_Idle,T2.oI.Z.exc⟩
    obtain ⟨f,fd,hf,Fu,hb⟩:=R24.ex
    have e0:=hmg.symm.trans hf
    cases e0
    refine ⟨fd,fun s u=>?_,fun base kb nb=>(K21.law_of R0 R1 R2 R3 R4 R5 R6 R7 R8 R9 R10 R11 R12 R13 R14 R15 R16 R17 R18 R19 R20 R21 R22 R23 ⟨⟨_,fd,hf,Fu,hb⟩⟩ T TR TN TF TB TI T2).at hf Fu.lk⟩
    exact .of_eq (hb [u] rfl)
  case S=>exact fun K H a ns hl hO hS=>⟨a,ns,rfl,hS,hl,fun _=>rfl⟩
  case C=>exact fun _ _ _ _ z=>z
