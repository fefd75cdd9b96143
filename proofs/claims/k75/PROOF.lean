import PyProof.Rows.All
import Wide.All
import OpenK.AllK
import Wide.FinOn
import Lean
import PyProof.EqAt
import PyProof.EqKinds
import PyProof.TupleCall
import PyProof.ListRange
import PyProof.StrLawsChain
import PyProof.StrBlockI
import PyProof.StrBlock2
import PyProof.ZipIter
import PyProof.Rows.ZipGen
import OpenK.KRaise
import OpenK.KOwn
import PyProof.ExcClass3
import PyProof.ExcBaseAll.ValueError
import PyProof.FString
import PyProof.FString4
import PyProof.StrLawsRepr
import PyProof.NsDelKeeps
import PyProof.Rows.Catch
import PyProof.ExcArgsOwn
import PyProof.ExcAttrAll.ValueError
import OpenK.KDescr
import KE.KIsAll
import KE.KLam
import PyProof.ReprRoads
import PyProof.EnumMake
import PyProof.Rows.EnumRows
import PyProof.Rows.SeqMore2
import PyProof.AttrMissHeap
import KE.KDictOf
import KE.KRevIter
import KE.KDictLaws
import PyProof.ConsumeWalk
import PyProof.CallStr
import KE.KIntText
import KE.KxText
import KE.RegKIsAll
import PySem.Challenge.RW_regrowth_k75_whole_sheets_in_a_row
set_option Elab.async false
set_option linter.all false
set_option maxRecDepth 100000
namespace L2
open PySem PySem.Spec PyProof.Rows
noncomputable abbrev Key:=Sum Int Str
noncomputable def keyIs:Key→Value→Bool
  | .inl k,v=>Value.isInt k v
  | .inr x,v=>Value.isStrOf x v
noncomputable def keyH (w:World):Key→Int
  | .inl k=>hashInt k
  | .inr x=>hashStr w x
theorem keyIs_shape:∀ {k:Key} {v:Value},keyIs k v = true→(∃ i t,k = Sum.inl i∧v = Value.int i t)∨(∃ x t,k = Sum.inr x∧v = Value.str x t)
  | .inl i,v,h=>by
    obtain ⟨t,e⟩:=Value.isInt_shape (k:=i) (v:=v) h
    exact .inl ⟨i,t,rfl,e⟩
  | .inr x,v,h=>by
    obtain ⟨t,e⟩:=Value.isStrOf_shape (x:=x) (v:=v) h
    exact .inr ⟨x,t,rfl,e⟩
theorem keyIs_int (i:Int) (t:Tok):keyIs (.inl i) (.int i t) = true:=by simp [keyIs,Value.isInt]
theorem keyIs_str (x:Str) (t:Tok):keyIs (.inr x) (.str x t) = true:=by simp [keyIs,Value.isStrOf]
theorem key_ll (a b : Int) : decide ((Sum.inl a : Key) = Sum.inl b) = (a == b) :=by grind
theorem key_rr (a b : Str) : decide ((Sum.inr a : Key) = Sum.inr b) = decide (a = b) :=by grind
theorem key_lr (a : Int) (b : Str) : decide ((Sum.inl a : Key) = Sum.inr b) = false :=by grind
theorem key_rl (a : Str) (b : Int) : decide ((Sum.inr a : Key) = Sum.inl b) = false :=by grind
noncomputable def mixKind (prog:Program) (w:World):PySem.KeyKind prog w Key where
  is:=keyIs
  hash:=keyH w
  inj:=fun v a b ha hb=>by
    rcases keyIs_shape ha with ⟨i,t,rfl,rfl⟩ | ⟨x,t,rfl,rfl⟩
    · rcases keyIs_shape hb with ⟨j,u,rfl,e⟩ | ⟨y,u,rfl,e⟩
      · injection e with e1 _; rw [e1]
      · exact nomatch e
    · rcases keyIs_shape hb with ⟨j,u,rfl,e⟩ | ⟨y,u,rfl,e⟩
      · exact nomatch e
      · injection e with e1 _; rw [e1]
  byValue:=fun k v h=>by
    rcases keyIs_shape h with ⟨i,t,rfl,rfl⟩ | ⟨x,t,rfl,rfl⟩ <;> rfl
  pyHash:=fun hv h=>by
    rcases keyIs_shape hv with ⟨i,t,rfl,rfl⟩ | ⟨x,t,rfl,rfl⟩
    · exact wpAny_pyHash_int h
    · exact wpAny_pyHash_str h
  eqBool:=fun hu hv h=>by
    rcases keyIs_shape hu with ⟨i,t,rfl,rfl⟩ | ⟨x,t,rfl,rfl⟩
    · rcases keyIs_shape hv with ⟨j,u,rfl,rfl⟩ | ⟨y,u,rfl,rfl⟩
      · rw [key_ll] at h; exact wpAny_eqBool_int h
      · rw [key_lr] at h; exact SeqAt.EqAt.int_str i t y u _ _ _ _ h
    · rcases keyIs_shape hv with ⟨j,u,rfl,rfl⟩ | ⟨y,u,rfl,rfl⟩
      · rw [key_rl] at h; exact SeqAt.EqAt.str_int x t j u _ _ _ _ h
      · rw [key_rr] at h; exact wpAny_eqBool_str h
  «strs»:=fun k x t v h=>by
    rcases keyIs_shape h with ⟨i,u,rfl,e⟩ | ⟨y,u,rfl,e⟩
    · exact nomatch e
    · injection e with e1 _
      subst e1
      cases v <;> rfl
theorem mixKind_int (prog:Program) (w:World) (i:Int) (t:Tok):(mixKind prog w).is (.inl i) (.int i t) = true:=keyIs_int i t
theorem mixKind_str (prog:Program) (w:World) (x:Str) (t:Tok):(mixKind prog w).is (.inr x) (.str x t) = true:=keyIs_str x t
end L2
namespace L2
open PySem PySem.Spec PyProof.Rows
inductive V where
  | non | bl (b:Bool) | int (i:Int) | str (x:Str) | byt (b:Array UInt8) | flt (b:UInt64) | ref (a:Addr) | ty (n:String)
  deriving DecidableEq
noncomputable def RelV:V→Value→Prop
  | .non,u=>u = Value.none
  | .bl b,u=>u = Value.bool b
  | .int i,u=>∃ t,u = Value.int i t
  | .str x,u=>∃ t,u = Value.str x t
  | .byt b,u=>∃ t,u = Value.bytes b t
  | .flt b,u=>∃ t,u = Value.float b t
  | .ref a,u=>u = Value.ref a
  | .ty n,u=>u = Value.type n
noncomputable abbrev Vals:List V→List Value→Prop:=Paired RelV
theorem Vals.length {xs:List V} {us:List Value} (r:Vals xs us):xs.length = us.length:=Paired.length r
theorem Vals.get:∀ {xs:List V} {us:List Value} {i:Nat} {x:V},Vals xs us→xs[i]? = some x→∃ u,us[i]? = some u∧RelV x u
  | _,_,_,_,.nil,e=>by simp at e
  | _,_,0,_,.cons r _,e=>by simp at e; subst e; exact ⟨_,rfl,r⟩
  | _,_,i + 1,x,.cons _ t,e=>by
    obtain ⟨u,h1,h2⟩:=Vals.get (i:=i) (x:=x) t (by simpa using e)
    exact ⟨u,by simpa using h1,h2⟩
theorem Vals.set {x:V} {u:Value} (r:RelV x u):∀ {xs:List V} {us:List Value} (i:Nat),Vals xs us→Vals (xs.set i x) (us.set i u)
  | _,_,_,.nil=>.nil
  | _,_,0,.cons _ t=>.cons r t
  | _,_,i + 1,.cons q t=>.cons q (Vals.set r i t)
theorem Vals.append:∀ {xs ys:List V} {us ws:List Value},Vals xs us→Vals ys ws→Vals (xs ++ ys) (us ++ ws)
  | _,_,_,_,.nil,s=>s
  | _,_,_,_,.cons r t,s=>.cons r (Vals.append t s)
theorem Vals.take:∀ {xs:List V} {us:List Value} (n:Nat),Vals xs us→Vals (xs.take n) (us.take n)
  | _,_,0,_=>.nil
  | _,_,_ + 1,.nil=>.nil
  | _,_,n + 1,.cons r t=>.cons r (Vals.take n t)
theorem Vals.drop:∀ {xs:List V} {us:List Value} (n:Nat),Vals xs us→Vals (xs.drop n) (us.drop n)
  | _,_,0,r=>r
  | _,_,_ + 1,.nil=>.nil
  | _,_,n + 1,.cons _ t=>Vals.drop n t
noncomputable def RelO:Option V→Option Value→Prop
  | some v,some u=>RelV v u
  | none,none=>True
  | _,_=>False
noncomputable def KV {κ:Type}:List (κ × V)→List (κ × Value)→Prop:=Paired fun (p:κ × V) (q:κ × Value)=>p.1 = q.1∧RelV p.2 q.2
noncomputable def kV:Key→V
  | .inl i=>.int i
  | .inr x=>.str x
inductive HO where
  /-- a list -/
  | lst (xs:List V)
  /-- a tuple (never changes) -/
  | tup (xs:List V)
  /-- a dict whose keys are ints and texts; one whose keys are tuples of ints and texts (the empty one is both) -/
  | dK (kvs:List (Key × V)) | dT (kvs:List (List Key × V))
  /-- a set of ints: its members,its size -/
  | set (S:Int→Bool) (n:Nat)
  /-- an instance of the class at C,its dict at dx,its attributes -/
  | ins (C dx:Addr) (fs:List (Str × V))
  /-- the dict of the instance at x -/
  | own (x:Addr)
  /-- the dict of an exception -/
  | xd (fs:List (Str × V))
  /-- a bound method,f of x -/
  | met (f x:Addr)
  /-- a range object lo,lo + 1,.. below hi -/
  | rng (lo hi:Int)
  /-- a thing that is known to the object (the script; a dict while a loop walks it): read,never written while it is so -/
  | frz (o:Obj) (u:HO)
  /-- a code object's table -/
  | tbl (ps:Array Value)
  /-- any other thing,by what is true of its one object (a def of one's own: SetO a S n:=HO.ext fun h=>..) -/
  | ext (φ:Heap→Prop)
noncomputable abbrev Hp:=Addr→Option HO
noncomputable def upd (H:Hp) (a:Addr) (o:HO):Hp:=fun b=>if b = a then some o else H b
theorem upd_same {H : Hp} {a : Addr} {o : HO} : upd H a o a = some o := by unfold upd; simp
theorem upd_ne {H:Hp} {a b:Addr} {o:HO} (h:b ≠ a):upd H a o b = H b:=by unfold upd; rw [if_neg h]
theorem ne_of {H : Hp} {a b : Addr} {o u : HO} (h : H a = some o) (h' : H b = some u) (d : o ≠ u) : a ≠ b := by
  intro e; simp_all
theorem ne_of_none {H : Hp} {a b : Addr} {o : HO} (h : H a = some o) (h' : H b = none) : a ≠ b :=by grind
section
variable (P:Program) (w:World)
noncomputable def ObjOk (H:Hp) (h:Heap) (a:Addr):HO→Prop
  | .lst xs=>xs.length ≤ sizeLine∧∃ (its:List Value) (n:Nat),Vals xs its∧h.get? a = some { cls:=.type "list",data:=.seq its.toArray n }
  | .tup xs=>xs.length ≤ sizeLine∧∃ its:List Value,Vals xs its∧IsTup h a its.toArray
  | .dK kvs=>kvs.length ≤ sizeLine∧(a == sysModules) = false∧∃ vs,KV kvs vs∧h.DictOf (mixKind P w) a vs
  | .dT kvs => kvs.length ≤ sizeLine ∧ (a == sysModules) = false ∧ ∃ xs : List (List Key × Addr × Value),
      Paired (fun (p:List Key × V) (q:List Key × Addr × Value)=>p.1 = q.1∧H q.2.1 = some (.tup (p.1.map kV))∧RelV p.2 q.2.2) kvs xs ∧
      ∃ o es ep,h.get? a = some o∧o.ExactDict∧o.data = .dict es ep∧es.toList = xs.map (entryOfKey (tupleKind (mixKind P w)))∧(xs.map (·.1)).Nodup
  | .set S n=>h.SetOf (intKind P w) a S n
  | .ins C dx fs => H dx = some (.own a) ∧ fs.length ≤ 1000 ∧ dx ≠ a ∧ h.get? a = some (PySem.W.instObj C dx) ∧
      ∃ mA,h.Ns1 dx mA∧(∀ f,RelO (fs.lookup f) (mA f))∧PySem.Within mA (fs.map (·.1))
  | .own _=>∃ o,h.get? a = some o
  | .xd fs=>∃ mA,h.Ns1 a mA∧∀ f,RelO (fs.lookup f) (mA f)
  | .rng lo hi=>∃ t u v,h.get? a = some { cls:=.type "range",data:=.fields #[.int lo t,.int hi u,.int 1 v] }
  | .frz o u=>h.get? a = some o∧ObjOk H h a u
  | .tbl ps=>h.get? a = some { cls:=.none,data:=.fields ps }
  | .met f x=>h.get? a = some (PySem.W.methodObj (.ref f) (.ref x))
  | .ext φ=>φ h∧(∃ o,h.get? a = some o)∧∀ h1 h2:Heap,φ h1→(∀ o,h1.get? a = some o→h2.get? a = some o)→φ h2
noncomputable def HOk (H:Hp) (h:Heap):Prop:=∀ a o,H a = some o→ObjOk P w H h a o
end
section
variable {P:Program} {w:World} {H H':Hp} {h h':Heap} {a:Addr} {o:HO}
theorem ObjOk.lt (x:ObjOk P w H h a o):a < h.objs.size:=by
  cases o with
  | lst xs=>obtain ⟨_,_,_,_,e⟩:=x; exact Heap.lt_size e
  | tup xs=>obtain ⟨_,_,_,p⟩:=x; exact p.lt
  | dK kvs=>obtain ⟨_,_,_,_,o,_,_,e,_⟩:=x; exact Heap.lt_size e
  | dT kvs=>obtain ⟨_,_,_,_,o,_,_,e,_⟩:=x; exact Heap.lt_size e
  | set S n=>obtain ⟨o,_,_,_,e,_⟩:=x; exact Heap.lt_size e
  | ins C dx fs=>obtain ⟨_,_,_,e,_⟩:=x; exact Heap.lt_size e
  | own y=>obtain ⟨_,e⟩:=x; exact Heap.lt_size e
  | xd fs=>obtain ⟨_,⟨_,_,_,e,_⟩,_⟩:=x; exact Heap.lt_size e
  | rng lo hi=>obtain ⟨_,_,_,e⟩:=x; exact Heap.lt_size e
  | frz ob u=>obtain ⟨e,_⟩:=x; exact Heap.lt_size e
  | tbl ps=>exact Heap.lt_size (show h.get? a = some _ from x)
  | met f y=>exact Heap.lt_size (show h.get? a = some _ from x)
  | ext φ=>obtain ⟨_,⟨_,e⟩,_⟩:=x; exact Heap.lt_size e
theorem Paired.mapP {α β:Type} {F G:α→β→Prop}:∀ {l₁:List α} {l₂:List β},Paired F l₁ l₂→(∀ a b,F a b→G a b)→Paired G l₁ l₂
  | _,_,.nil,_=>.nil
  | _,_,.cons r t,f=>.cons (f _ _ r) (Paired.mapP t f)
theorem ObjOk.stay (x : ObjOk P w H h a o) (k : ∀ b u, (b = a ∨ H b = some (.own a)) → h.get? b = some u → h'.get? b = some u)
    (ho:∀ b,H b = some (.own a)→H' b = some (.own a)) (ht:∀ b xs,H b = some (.tup xs)→H' b = some (.tup xs)):ObjOk P w H' h' a o:=by
  induction o with
  | lst xs=>obtain ⟨z,its,n,r,e⟩:=x; exact ⟨z,its,n,r,k _ _ (.inl rfl) e⟩
  | tup xs=>obtain ⟨z,its,r,ob,e,c⟩:=x; exact ⟨z,its,r,ob,k _ _ (.inl rfl) e,c⟩
  | dK kvs=>obtain ⟨z,y,vs,r,ob,es,ep,e,c⟩:=x; exact ⟨z,y,vs,r,ob,es,ep,k _ _ (.inl rfl) e,c⟩
  | dT kvs =>
    obtain ⟨z,y,xs,r,ob,es,ep,e,c⟩:=x
    exact ⟨z,y,xs,Paired.mapP r fun p q z=>⟨z.1,ht _ _ z.2.1,z.2.2⟩,ob,es,ep,k _ _ (.inl rfl) e,c⟩
  | set S n=>obtain ⟨ob,es,ep,t,e,c⟩:=x; exact ⟨ob,es,ep,t,k _ _ (.inl rfl) e,c⟩
  | ins C dx fs =>
    obtain ⟨d,z,ne,e,mA,⟨od,es,ep,e2,c⟩,r⟩:=x
    exact ⟨ho _ d,z,ne,k _ _ (.inl rfl) e,mA,⟨od,es,ep,k _ _ (.inr d) e2,c⟩,r⟩
  | own y=>obtain ⟨ob,e⟩:=x; exact ⟨ob,k _ _ (.inl rfl) e⟩
  | xd fs=>obtain ⟨mA,⟨od,es,ep,e,c⟩,r⟩:=x; exact ⟨mA,⟨od,es,ep,k _ _ (.inl rfl) e,c⟩,r⟩
  | rng lo hi=>obtain ⟨t,u,v,e⟩:=x; exact ⟨t,u,v,k _ _ (.inl rfl) e⟩
  | frz ob u ih=>obtain ⟨e,q⟩:=x; exact ⟨k _ _ (.inl rfl) e,ih q⟩
  | tbl ps =>
    have e:h.get? a = some { cls:=.none,data:=.fields ps }:=x
    show h'.get? a = some { cls:=.none,data:=.fields ps }
    exact k a _ (.inl rfl) e
  | met f y =>
    have e:h.get? a = some (PySem.W.methodObj (.ref f) (.ref y)):=x
    show h'.get? a = some (PySem.W.methodObj (.ref f) (.ref y))
    exact k a _ (.inl rfl) e
  | ext φ=>obtain ⟨p,⟨o,e⟩,st⟩:=x; exact ⟨st _ _ p fun o q=>k _ _ (.inl rfl) q,⟨o,k _ _ (.inl rfl) e⟩,st⟩
theorem HOk.lt (x:HOk P w H h) (e:H a = some o):a < h.objs.size:=(x a o e).lt
theorem HOk.fresh (x:HOk P w H h) (e:h.objs.size ≤ a):H a = none:=by
  cases q:H a with
  | none=>rfl
  | some u=>exact absurd (Nat.lt_of_lt_of_le (x.lt q) e) (Nat.lt_irrefl _)
theorem HOk.kept (x:HOk P w H h) (k:∀ b u,h.get? b = some u→h'.get? b = some u):HOk P w H h':=fun a o e =>
  (x a o e).stay (fun b u _ q=>k b u q) (fun _ q=>q) fun _ _ q=>q
theorem HOk.laid (x : HOk P w H h) (k : ∀ b u, h.get? b = some u → h'.get? b = some u) (hp : h.objs.size ≤ a) (new : ObjOk P w (upd H a o) h' a o) : HOk P w (upd H a o) h' := fun b u e => by
  have hn := x.fresh hp
  by_cases hb : b = a
  · subst hb; rw [upd_same] at e; grind
  · rw [upd_ne hb] at e
    exact (x b u e).stay (fun c v _ q => k c v q) (fun c q => by rw [upd_ne (ne_of_none q hn)]; exact q) fun c xs q => by rw [upd_ne (ne_of_none q hn)]; exact q
end
noncomputable def Rd (H:Hp) (a:Addr) (u:HO):Prop:=H a = some u∨∃ o,H a = some (.frz o u)
theorem Rd.ok {P:Program} {w:World} {H:Hp} {h:Heap} {a:Addr} {u:HO} (r:Rd H a u) (x:HOk P w H h):ObjOk P w H h a u:=by
  rcases r with r | ⟨o,r⟩
  · exact x a u r
  · obtain ⟨_,q⟩:=x a _ r
    exact q
noncomputable def Mut:Option HO→Prop
  | some (.lst _)=>True
  | some (.dK _)=>True
  | some (.dT _)=>True
  | some (.set _ _)=>True
  | some (.ins _ _ _)=>True
  | some (.ext _)=>True
  | _=>False
section
variable {P:Program} {w:World} {H:Hp} {h h':Heap} {x e:Addr} {o':HO}
theorem HOk.write (ok : HOk P w H h) (mu : Mut (H x)) (he : e = x ∨ H e = some (.own x)) (k : ∀ b u, b ≠ e → h.get? b = some u → h'.get? b = some u) (heo : ∃ u, h'.get? e = some u)
    (new : ObjOk P w (upd H x o') h' x o') : HOk P w (upd H x o') h' := fun b u q => by
  have nown : ∀ c y, H c = some (.own y) → c ≠ x := fun c y r z => by subst z; rw [r] at mu; exact mu
  have ntup : ∀ c xs, H c = some (.tup xs) → c ≠ x := fun c xs r z => by subst z; rw [r] at mu; exact mu
  by_cases hb : b = x
  · subst hb; rw [upd_same] at q; cases q; exact new
  · rw [upd_ne hb] at q
    by_cases hbe : b = e
    · have q' : H b = some (.own x) := by
        rcases he with z | z
        · exact absurd (hbe.trans z) hb
        · rw [hbe]; exact z
      rw [q] at q'; cases q'
      obtain ⟨v, hv⟩ := heo
      exact ⟨v, by rw [hbe]; exact hv⟩
    · refine (ok b u q).stay (fun c v hc r => k c v ?_ r) (fun c r => by rw [upd_ne (nown c b r)]; exact r) fun c xs r => by rw [upd_ne (ntup c xs r)]; exact r
      grind
end
structure Un (fs ex:List Addr) (H H':Hp) (h h':Heap):Prop where
  keep:∀ b o,h.get? b = some o→H b = none→b ∉ fs→b ∉ ex→h'.get? b = some o
  slot:∀ b o,h.get? b = some o→H b = none→b ∈ fs→b ∉ ex→∃ sl,h'.get? b = some { o with slots:=sl }
  free:∀ b o,h.get? b = some o→H b = none→b ∉ ex→H' b = none
  there:∀ b o,h.get? b = some o→b ∉ ex→∃ o',h'.get? b = some o'
  tups:∀ b xs,H b = some (.tup xs)→H' b = some (.tup xs)
  frzs:∀ b o u,H b = some (.frz o u)→H' b = some (.frz o u)
  tbls:∀ b ps,H b = some (.tbl ps)→∃ more,H' b = some (.tbl (ps ++ more))
section
variable {fs fs' ex ex':List Addr} {H H1 H2:Hp} {h h1 h2 h':Heap} {a x e:Addr} {o:HO}
theorem Un.any (u:Un fs ex H H1 h h1) {b:Addr} {ob:Obj} (q:h.get? b = some ob) (n:H b = none) (hx:b ∉ ex):∃ sl,h1.get? b = some { ob with slots:=sl }:=by
  by_cases hb:b ∈ fs
  · exact u.slot b ob q n hb hx
  · exact ⟨ob.slots,u.keep b ob q n hb hx⟩
theorem Un.kept (k : ∀ b u, h.get? b = some u → h'.get? b = some u) : Un fs ex H H h h' :=
  ⟨fun b ob q _ _ _ => k b ob q, fun b ob q _ _ _ => ⟨ob.slots, k b ob q⟩, fun _ _ _ n _ => n, fun b ob q _ => ⟨ob, k b ob q⟩, fun _ _ q => q, fun _ _ _ q => q, fun _ ps q => ⟨#[], by simp_all⟩⟩
theorem Un.refl:Un fs ex H H h h:=Un.kept fun _ _ q=>q
theorem Un.laid (k:∀ b u,h.get? b = some u→h'.get? b = some u) (hp:h.objs.size ≤ a) (hn:H a = none):Un fs ex H (upd H a o) h h' where
  keep:=fun b u q _ _ _=>k b u q
  slot:=fun b u q _ _ _=>⟨u.slots,k b u q⟩
  free:=fun b u q n _=>by rw [upd_ne (Nat.ne_of_lt (Nat.lt_of_lt_of_le (Heap.lt_size q) hp))]; exact n
  there:=fun b u q _=>⟨u,k b u q⟩
  tups:=fun b xs q=>by rw [upd_ne (ne_of_none q hn)]; exact q
  frzs:=fun b u xs q=>by rw [upd_ne (ne_of_none q hn)]; exact q
  tbls:=fun b ps q=>⟨#[],by rw [upd_ne (ne_of_none q hn),q]; simp⟩
theorem Un.write (mu : Mut (H x)) (he : e = x ∨ H e = some (.own x)) (k : ∀ b u, b ≠ e → h.get? b = some u → h'.get? b = some u) (heo : ∃ u, h'.get? e = some u) : Un fs ex H (upd H x o) h h' := by
  have hx : ∀ b, H b = none → b ≠ x := fun b n z => by subst z; rw [n] at mu; exact mu
  have hb : ∀ b, H b = none → b ≠ e := fun b n z => by simp_all
  have hm : ∀ b u, H b = some u → ¬ Mut (some u) → b ≠ x := fun b u q nm z => by subst z; rw [q] at mu; exact nm mu
  refine ⟨fun b u q n _ _ => k b u (hb b n) q, fun b u q n _ _ => ⟨u.slots, k b u (hb b n) q⟩, fun b u q n _ => by rw [upd_ne (hx b n)]; exact n, fun b u q _ => ?_,
    fun b xs q => by rw [upd_ne (hm b _ q fun z => z)]; exact q, fun b u xs q => by rw [upd_ne (hm b _ q fun z => z)]; exact q, fun b ps q => ⟨#[], by rw [upd_ne (hm b _ q fun z => z), q]; simp⟩⟩
  by_cases hbe : b = e
  · subst hbe; exact heo
  · exact ⟨u, k b u hbe q⟩
end
noncomputable def trk (h:Heap) (H:Hp):List Addr:=(List.range h.objs.size).filter fun a=>(H a).isSome
noncomputable def hidT (h:Heap) (H:Hp):Heap:=PySem.W.hideAll h (trk h H)
theorem hidT_size (h:Heap) (H:Hp):(hidT h H).objs.size = h.objs.size:=PySem.W.hideAll_size _ _
theorem hidT_get {h : Heap} {H : Hp} {b : Addr} {o : Obj} (e : h.get? b = some o) (n : H b = none) : (hidT h H).get? b = some o :=
  PySem.W.hideAll_get _ e fun hm => by
    have q : (H b).isSome = true := (List.mem_filter.mp hm).2
    simp_all
theorem of_hidT {h : Heap} {H : Hp} {b : Addr} {o : Obj} (e : (hidT h H).get? b = some o) : h.get? b = some o ∧ H b = none := by
  have e' : h.get? b = some o := PySem.W.of_hideAll (trk h H) e
  refine ⟨e', ?_⟩
  cases q : H b with
  | none => rfl
  | some x =>
    have hm : b ∈ trk h H := List.mem_filter.mpr ⟨List.mem_range.mpr (Heap.lt_size e'), by simp [q]⟩
    have z : (hidT h H).get? b = none := PySem.W.hideAll_none (trk h H) hm
    grind
noncomputable def allNews (g h:Heap) (L:Addr):List (Addr × Obj):=(List.range h.objs.size).filterMap fun a=>if a = L∨(g.get? a).isSome = true then none else (h.get? a).map fun o=>(a,o)
noncomputable def rest (g h:Heap) (L d:Addr):List (Addr × Obj):=(allNews g h L).filter fun p=>decide (p.1 ≠ d)
end L2
namespace L2
open PySem PySem.Spec PyProof.Rows
structure Mod (K:PySem.W.Frag) (mg:Str→Option Value) (base:Heap):Prop where
  kin:K.In base
  glob:base.Ns mainGlobals mg
  blt:∃ mb,base.Ns builtinsNs mb∧∀ x:Str,x ≠ "__name__"→mb x = bootBuiltins x
  nolimit:base.NoLimit
structure Cx where
  prog:Program
  w:World
  K:PySem.W.Frag
  mg:Str→Option Value
  base:Heap
  A:Around
  N:List Str
  s₀:Shared
  H₀:Hp
  env:Env
  outer:List Env
  stack:List Env
  ex:List Addr
  fn:Str→Bool
  calm:Bool
  pn:List (Addr × Obj)
  xe:Value→Shared→Prop
noncomputable def frs (l:List Env):List Addr:=l.filterMap (·.frame)
noncomputable abbrev Cx.fs (X:Cx):List Addr:=frs X.outer
noncomputable def Vis (sc:Scope) (x:Str):Prop:=sc.names.lookup x = some .local∨sc.names.lookup x = some .cell∨sc.names.lookup x = some .free
noncomputable def Loc (sc:Scope) (x:Str):Prop:=sc.names.lookup x = some .local∨sc.names.lookup x = some .cell
noncomputable def Look (env:Env) (h:Heap) (m:Str→Option Value) (x:Str) (u:Value):Prop :=
  (env.kindOf x = some .local∧m x = some u)∨((env.kindOf x = some .cell∨env.kindOf x = some .free)∧∃ c,env.cells.lookup x = some c∧h.IsCell c (some u))
structure Cx.Ok (X:Cx):Prop where
  mod:Mod X.K X.mg X.base
  kind:X.env.scope.kind = .function
  glob:X.env.globals = mainGlobals
  blt:X.env.builtins = builtinsNs
  above:X.s₀.heap.objs.size ≤ X.env.locals
  inj:∀ x y c,X.env.cells.lookup x = some c→X.env.cells.lookup y = some c→x = y
  has:∀ x,(X.env.kindOf x = some .cell∨X.env.kindOf x = some .free)→∃ c,X.env.cells.lookup x = some c
  cab:∀ x c,X.fn x = true→X.env.cells.lookup x = some c→X.s₀.heap.objs.size ≤ c
  hd:X.calm = true→X.A.handled = none
  frames:X.A.frames = some X.stack
  stk:X.stack = X.outer∨(X.stack = X.env :: X.outer∧X.env.frame = some X.env.locals)
  exf:∀ b ∈ X.ex,b ≠ X.env.locals∧∀ x c,X.env.cells.lookup x = some c→c ≠ b
  bs:∀ b o,X.base.get? b = some o→X.s₀.heap.get? b = some o∧X.H₀ b = none
  bsz:X.base.objs.size ≤ X.s₀.heap.objs.size
  noex:∀ b o,X.base.get? b = some o→b ∉ X.ex
  exfs:∀ b ∈ X.ex,b ∉ X.fs
  funs:X.s₀.heap.FunFrames X.base X.outer
  frf:∀ b ∈ X.fs,X.H₀ b = none
structure Inv (X:Cx) (pins:List (Addr × Obj)) (σ:List (Option V)) (H:Hp) (s:Shared):Prop where
  ok:X.Ok
  os:s.os = X.s₀.os
  bare:AllBare s.gens
  base:Un X.fs X.ex X.H₀ H X.s₀.heap s.heap
  loc:∃ m,s.heap.Ns X.env.locals m∧∀ (i:Nat) (x:Str) (v:V),X.N[i]? = some x→σ[i]? = some (some v)→Vis X.env.scope x→∃ u,RelV v u∧Look X.env s.heap m x u
  cell:∀ x c,X.env.cells.lookup x = some c→∃ v,s.heap.IsCell c v
  free:H X.env.locals = none
  freeC:∀ x c,X.env.cells.lookup x = some c→H c = none
  pin:∀ p ∈ X.pn ++ pins,s.heap.get? p.1 = some p.2∧H p.1 = none∧p.1 ≠ X.env.locals∧p.1 ∉ X.fs∧∀ v,p.2.data ≠ .cell v
  hok:HOk X.prog X.w H s.heap
  len:σ.length = X.N.length
section
variable {X:Cx} {pins:List (Addr × Obj)} {σ:List (Option V)} {H H':Hp} {s:Shared} {h':Heap}
theorem Cx.Ok.nofr (ok : X.Ok) {b : Addr} {o : Obj} (e : X.base.get? b = some o) : b ∉ X.fs := fun hb => by
  have := (ok.funs.mem hb).1
  grind
theorem Inv.bs (I:Inv X pins σ H s):∀ b o,X.base.get? b = some o→s.heap.get? b = some o∧H b = none:=fun b o e =>
  ⟨I.base.keep b o (I.ok.bs b o e).1 (I.ok.bs b o e).2 (I.ok.nofr e) (I.ok.noex b o e),I.base.free b o (I.ok.bs b o e).1 (I.ok.bs b o e).2 (I.ok.noex b o e)⟩
theorem Inv.bk (I:Inv X pins σ H s):∀ b o,X.base.get? b = some o→s.heap.get? b = some o:=fun b o e=>(I.bs b o e).1
theorem Inv.mod (I:Inv X pins σ H s):Mod X.K X.mg X.base:=I.ok.mod
theorem Inv.kIn (I:Inv X pins σ H s):X.K.In s.heap:=I.ok.mod.kin.keeps I.bk
theorem Inv.nolimit (I:Inv X pins σ H s):s.heap.NoLimit:=I.ok.mod.nolimit.keeps I.bk
theorem Inv.fr (I:Inv X pins σ H s):∃ m,Fr X.base X.env.locals s.heap m :=
  let ⟨m,hn,_⟩:=I.loc
  ⟨m,hn,I.bk,Nat.le_trans I.ok.bsz I.ok.above⟩
theorem Inv.lt (I:Inv X pins σ H s):X.env.locals < s.heap.objs.size:=let ⟨_,hn,_⟩:=I.loc; hn.lt
theorem Inv.sz (I:Inv X pins σ H s):X.s₀.heap.objs.size ≤ s.heap.objs.size:=Nat.le_trans I.ok.above (Nat.le_of_lt I.lt)
theorem Inv.nofs (I:Inv X pins σ H s) {a:Addr} (h:s.heap.objs.size ≤ a):a ∉ X.fs:=fun hb=>by
  obtain ⟨_,o,ho,_⟩:=I.ok.funs.mem hb
  exact absurd (Nat.lt_of_lt_of_le (Heap.lt_size ho) (Nat.le_trans I.sz h)) (Nat.lt_irrefl _)
theorem Inv.cne (I : Inv X pins σ H s) : ∀ x c, X.env.cells.lookup x = some c → c ≠ X.env.locals := fun x c e z => by
  obtain ⟨v, o, ho, hd⟩ := I.cell x c e
  obtain ⟨m, ⟨o', es, ep, ho', hd', _⟩, _⟩ := I.loc
  simp_all
theorem Inv.funs (I:Inv X pins σ H s):s.heap.FunFrames X.base X.outer:=by
  have all:∀ (l:List Env),(∀ b ∈ frs l,b ∈ X.fs)→X.s₀.heap.FunFrames X.base l→s.heap.FunFrames X.base l:=by
    intro l
    induction l with
    | nil=>intro _ _; trivial
    | cons env r ih =>
      intro hs hl
      obtain ⟨hk,⟨L,o,hf,hn,ho,hd⟩,hr⟩:=hl
      have hL:L ∈ X.fs:=hs L (by unfold frs; rw [List.filterMap_cons,hf]; exact List.mem_cons_self)
      obtain ⟨sl,e⟩:=I.base.slot L o ho (I.ok.frf L hL) hL fun z=>I.ok.exfs L z hL
      exact ⟨hk,⟨L,_,hf,hn,e,hd⟩,ih (fun b hb=>hs b (by unfold frs; rw [List.filterMap_cons,hf]; exact List.mem_cons_of_mem _ hb)) hr⟩
  exact all X.outer (fun _ hb=>hb) I.ok.funs
theorem Inv.stack (I:Inv X pins σ H s):s.heap.FunFrames X.base X.stack:=by
  rcases I.ok.stk with e | ⟨e,hf⟩
  · rw [e]; exact I.funs
  · rw [e]
    obtain ⟨m,hn,_⟩:=I.loc
    refine .cons (by rw [I.ok.kind]; decide) hf hn ?_ I.funs
    exact Heap.get?_none_of_le (Nat.le_trans I.ok.bsz I.ok.above)
theorem Inv.stkSub (I : Inv X pins σ H s) : ∀ b ∈ frs X.stack, b ∈ X.env.locals :: X.fs := fun b hb => by
  rcases I.ok.stk with e | ⟨e, hf⟩
  · simp_all
  · rw [e] at hb
    unfold frs at hb
    rw [List.filterMap_cons, hf] at hb
    exact hb
theorem Inv.stkFree (I:Inv X pins σ H s):∀ b ∈ frs X.stack,H b = none:=fun b hb=>by
  rcases List.mem_cons.mp (I.stkSub b hb) with e | hb
  · rw [e]; exact I.free
  · obtain ⟨_,o,ho,_⟩:=I.ok.funs.mem hb
    exact I.base.free b o ho (I.ok.frf b hb) fun z=>I.ok.exfs b z hb
theorem Inv.step {g' : Array GenState} {t' : Nat} {d' : Drawn} {ch : List Addr} (I : Inv X pins σ H s)
    (hch:∀ b ∈ ch,(b ∈ X.ex∨X.s₀.heap.objs.size ≤ b)∧b ≠ X.env.locals∧(∀ x c,X.env.cells.lookup x = some c→c ≠ b)∧∀ p ∈ X.pn ++ pins,p.1 ≠ b)
    (keep:∀ b o,b ≠ X.env.locals→b ∉ X.fs→b ∉ ch→s.heap.get? b = some o→H b = none→h'.get? b = some o)
    (slot:∀ b o,b ≠ X.env.locals→b ∈ X.fs→b ∉ ch→s.heap.get? b = some o→H b = none→∃ sl,h'.get? b = some { o with slots:=sl }) (free:∀ b o,b ∉ ch→s.heap.get? b = some o→H b = none→H' b = none)
    (there:∀ b o,b ∉ ch→s.heap.get? b = some o→∃ o',h'.get? b = some o')
    (tups:∀ b xs,H b = some (.tup xs)→H' b = some (.tup xs)) (frzs:∀ b o u,H b = some (.frz o u)→H' b = some (.frz o u)) (tbls:∀ b ps,H b = some (.tbl ps)→∃ more,H' b = some (.tbl (ps ++ more)))
    (ns:∀ m,s.heap.Ns X.env.locals m→h'.Ns X.env.locals m) (hok:HOk X.prog X.w H' h') (hg:AllBare g') :
    Inv X pins σ H' { s with heap:=h',gens:=g',drawn:=d',toks:=t' }:=by
  have neL:∀ b o,X.s₀.heap.get? b = some o→b ≠ X.env.locals:=fun b o e=>Nat.ne_of_lt (Nat.lt_of_lt_of_le (Heap.lt_size e) I.ok.above)
  have neC:∀ b o,X.s₀.heap.get? b = some o→b ∉ X.ex→b ∉ ch:=fun b o e hx hb=>by
    rcases (hch b hb).1 with z | z
    · exact hx z
    · exact absurd (Nat.lt_of_lt_of_le (Heap.lt_size e) z) (Nat.lt_irrefl _)
  have cellK:∀ x c,X.env.cells.lookup x = some c→∀ v,s.heap.IsCell c v→h'.IsCell c v:=fun x c e v ⟨o,ho,hd⟩=>by
    have nch:c ∉ ch:=fun z=>(hch c z).2.2.1 x c e rfl
    by_cases hc:c ∈ X.fs
    · obtain ⟨sl,q⟩:=slot c o (I.cne x c e) hc nch ho (I.freeC x c e)
      exact ⟨_,q,hd⟩
    · exact ⟨o,keep c o (I.cne x c e) hc nch ho (I.freeC x c e),hd⟩
  refine ⟨I.ok,I.os,hg,⟨fun b o e n hb hx=>?_,fun b o e n hb hx=>?_,fun b o e n hx=>?_,fun b o e hx=>?_,fun b xs e=>tups b xs (I.base.tups b xs e),fun b o xs e=>frzs b o xs (I.base.frzs b o xs e),fun b ps e=>?_⟩,?_,fun x c e=>?_,?_,fun x c e=>?_,fun p hp=>?_,hok,I.len⟩
  · exact keep b o (neL b o e) hb (neC b o e hx) (I.base.keep b o e n hb hx) (I.base.free b o e n hx)
  · obtain ⟨sl,e1⟩:=I.base.slot b o e n hb hx
    obtain ⟨sl',e2⟩:=slot b _ (neL b o e) hb (neC b o e hx) e1 (I.base.free b o e n hx)
    exact ⟨sl',e2⟩
  · obtain ⟨o',e1⟩:=I.base.there b o e hx
    exact free b o' (neC b o e hx) e1 (I.base.free b o e n hx)
  · obtain ⟨o',e1⟩:=I.base.there b o e hx
    exact there b o' (neC b o e hx) e1
  · obtain ⟨m1,e1⟩:=I.base.tbls b ps e
    obtain ⟨m2,e2⟩:=tbls b _ e1
    exact ⟨m1 ++ m2,by rw [e2,Array.append_assoc]⟩
  · obtain ⟨m,hn,hl⟩:=I.loc
    refine ⟨m,ns m hn,fun i x v e1 e2 e3=>?_⟩
    obtain ⟨u,r,l⟩:=hl i x v e1 e2 e3
    refine ⟨u,r,?_⟩
    rcases l with l | ⟨k,c,e,z⟩
    · exact .inl l
    · exact .inr ⟨k,c,e,cellK x c e _ z⟩
  · obtain ⟨v,z⟩:=I.cell x c e
    exact ⟨v,cellK x c e v z⟩
  · obtain ⟨m,⟨o,_,_,ho,_⟩,_⟩:=I.loc
    exact free _ o (fun z=>(hch _ z).2.1 rfl) ho I.free
  · obtain ⟨v,o,ho,hd⟩:=I.cell x c e
    exact free c o (fun z=>(hch c z).2.2.1 x c e rfl) ho (I.freeC x c e)
  · obtain ⟨e,n,ne,nf,d⟩:=I.pin p hp
    have nch:p.1 ∉ ch:=fun z=>(hch p.1 z).2.2.2 p hp rfl
    exact ⟨keep p.1 p.2 ne nf nch e n,free p.1 p.2 nch e n,ne,nf,d⟩
theorem Inv.un {t':Nat} (I:Inv X pins σ H s) (u:Un X.fs [] H H' s.heap h') (hok:HOk X.prog X.w H' h'):Inv X pins σ H' { s with heap:=h',toks:=t' }:=by
  obtain ⟨m,⟨o,es,ep,ho,r⟩,_⟩:=id I.loc
  obtain ⟨sl,hL⟩:=u.any ho I.free (by simp)
  exact I.step (g':=s.gens) (d':=s.drawn) (ch:=[]) (fun _ z=>nomatch z) (fun b o _ hb _ e n=>u.keep b o e n hb (by simp)) (fun b o _ hb _ e n=>u.slot b o e n hb (by simp)) (fun b o _ e n=>u.free b o e n (by simp)) (fun b o _ e=>u.there b o e (by simp)) u.tups u.frzs u.tbls (fun m' hm=>by
    obtain ⟨o',es',ep',ho',r'⟩:=hm
    rw [ho] at ho'; cases ho'
    exact ⟨_,es',ep',hL,r'⟩) hok I.bare
theorem Inv.call {g' : Array GenState} {t' : Nat} {d' : Drawn} {ch : List Addr} (I : Inv X pins σ H s) (u : Un (frs X.stack) ch H H' s.heap h') (hok : HOk X.prog X.w H' h') (hg : AllBare g')
    (hch:∀ b ∈ ch,(b ∈ X.ex∨X.s₀.heap.objs.size ≤ b)∧b ≠ X.env.locals∧(∀ x c,X.env.cells.lookup x = some c→c ≠ b)∧∀ p ∈ X.pn ++ pins,p.1 ≠ b) :
    Inv X pins σ H' { s with heap:=h',gens:=g',drawn:=d',toks:=t' }:=by
  obtain ⟨m,⟨o,es,ep,ho,r⟩,_⟩:=id I.loc
  obtain ⟨sl,hL⟩:=u.any ho I.free fun z=>(hch _ z).2.1 rfl
  exact I.step (ch:=ch) hch (fun b o hL hb hc e n=>u.keep b o e n (fun z=>(List.mem_cons.mp (I.stkSub b z)).elim hL hb) hc) (fun b o _ _ hc e n=>u.any e n hc) (fun b o hc e n=>u.free b o e n hc) (fun b o hc e=>u.there b o e hc) u.tups u.frzs u.tbls (fun m' hm=>by
    obtain ⟨o',es',ep',ho',r'⟩:=hm
    rw [ho] at ho'; cases ho'
    exact ⟨_,es',ep',hL,r'⟩) hok hg
theorem Inv.turned {t' : Nat} {it : Addr} (I : Inv X pins σ H s) (k : ∀ b o, b ≠ it → s.heap.get? b = some o → h'.get? b = some o) (hn : H it = none) (hL : it ≠ X.env.locals)
    (h1:it ∈ X.ex∨X.s₀.heap.objs.size ≤ it) (h2:∀ x c,X.env.cells.lookup x = some c→c ≠ it) (h3:∀ p ∈ X.pn ++ pins,p.1 ≠ it):Inv X pins σ H { s with heap:=h',toks:=t' }:=by
  have nit:∀ b u,H b = some u→b ≠ it:=fun b u e z=>by rw [z,hn] at e; cases e
  refine I.step (g':=s.gens) (d':=s.drawn) (ch:=[it]) (fun b hb=>?_) (fun b o _ _ hc e _=>k b o (fun z=>hc (by simp [z])) e) (fun b o _ _ hc e _=>⟨o.slots,k b o (fun z=>hc (by simp [z])) e⟩) (fun _ _ _ _ n=>n)
    (fun b o hc e=>⟨o,k b o (fun z=>hc (by simp [z])) e⟩) (fun _ _ e=>e) (fun _ _ _ e=>e) (fun b ps e=>⟨#[],by rw [e]; simp⟩) (fun m hm=>?_) (fun b u e=>?_) I.bare
  · have e:b = it:=by simpa using hb
    subst e
    exact ⟨h1,hL,h2,h3⟩
  · obtain ⟨o,es,ep,ho,r⟩:=hm
    exact ⟨o,es,ep,k _ o (Ne.symm hL) ho,r⟩
  · refine (I.hok b u e).stay (fun c v hc q=>k c v ?_ q) (fun _ q=>q) fun _ _ q=>q
    rcases hc with z | z
    · rw [z]; exact nit b u e
    · exact nit c _ z
theorem Inv.tok (I:Inv X pins σ H s) (t:Nat):Inv X pins σ H { s with toks:=t }:=I.un (h':=s.heap) (t':=t) Un.refl I.hok
theorem Inv.kept {t':Nat} (I:Inv X pins σ H s) (k:∀ b u,s.heap.get? b = some u→h'.get? b = some u):Inv X pins σ H { s with heap:=h',toks:=t' }:=I.un (Un.kept k) (I.hok.kept k)
theorem Inv.laid {a : Addr} {o : HO} {t' : Nat} (I : Inv X pins σ H s) (k : ∀ b u, s.heap.get? b = some u → h'.get? b = some u) (hp : s.heap.objs.size ≤ a) (new : ObjOk X.prog X.w (upd H a o) h' a o) :
    Inv X pins σ (upd H a o) { s with heap:=h',toks:=t' }:=I.un (Un.laid k hp (I.hok.fresh hp)) (I.hok.laid k hp new)
theorem Inv.write {x e : Addr} {o : HO} {t' : Nat} (I : Inv X pins σ H s) (mu : Mut (H x)) (he : e = x ∨ H e = some (.own x)) (k : ∀ b u, b ≠ e → s.heap.get? b = some u → h'.get? b = some u) (heo : ∃ u, h'.get? e = some u)
    (new:ObjOk X.prog X.w (upd H x o) h' x o):Inv X pins σ (upd H x o) { s with heap:=h',toks:=t' }:=I.un (Un.write mu he k heo) (I.hok.write mu he k heo new)
theorem Inv.pins_of {pins':List (Addr × Obj)} (I:Inv X pins σ H s) (h:∀ p ∈ pins',s.heap.get? p.1 = some p.2∧H p.1 = none∧p.1 ≠ X.env.locals∧p.1 ∉ X.fs∧∀ v,p.2.data ≠ .cell v):Inv X pins' σ H s :=
  ⟨I.ok,I.os,I.bare,I.base,I.loc,I.cell,I.free,I.freeC,fun p hp=>(List.mem_append.mp hp).elim (fun z=>I.pin p (List.mem_append_left _ z)) (h p),I.hok,I.len⟩
theorem nodup_ix {N:List Str} (hN:N.Nodup) {i j:Nat} {x:Str} (a:N[i]? = some x) (b:N[j]? = some x):i = j:=by
  obtain ⟨h1,e1⟩:=List.getElem?_eq_some_iff.mp a
  obtain ⟨h2,e2⟩:=List.getElem?_eq_some_iff.mp b
  exact (List.getElem_inj hN).mp (e1.trans e2.symm)
theorem store_ok2 {M : Model} {A : Around} {E : Value → Shared → Prop} {i : Nat} {x : Str} {v : V} {u : Value} {Q : Unit → Shared → Prop} (I : Inv X pins σ H s) (hN : X.N.Nodup) (hi : X.N[i]? = some x) (hx : Loc X.env.scope x) (r : RelV v u)
    (h:∀ s',Inv X pins (σ.set i (some v)) H s'→(∃ a,Heap.SameBut a s.heap s'.heap∧(a = X.env.locals∨X.env.cells.lookup x = some a))→Q () s') (hf:X.fn x = true∨X.env.scope.names.lookup x = some .local:=by first | exact .inl rfl | exact .inr rfl | assumption):wpAny M A (storeName X.env x u) Q E s:=by
  obtain ⟨m,hn,hl⟩:=id I.loc
  have hcls:(X.env.scope.kind == .class || (X.env.scope.kind == .module && X.env.locals != X.env.globals)) = false:=by rw [I.ok.kind]; rfl
  have hiσ:i < σ.length:=by rw [I.len]; exact (List.getElem?_eq_some_iff.mp hi).1
  have cne:=I.cne
  have tracked:∀ {a:Addr} {h':Heap},(∃ o,s.heap.get? a = some o∧H a = none)→Heap.SameBut a s.heap h'→HOk X.prog X.w H h':=fun {a h'} ha hs b ob e=>by
    obtain ⟨_,_,hfree⟩:=ha
    refine (I.hok b ob e).stay (fun c w' hc q=>(hs.2 c ?_).trans q) (fun _ q=>q) fun _ _ q=>q
    rintro rfl
    rcases hc with rfl | hc
    · rw [hfree] at e; cases e
    · rw [hfree] at hc; cases hc
  rcases hx with hk | hk
  · refine wpAny_storeName_local hk hn (fun h' hn' hs=>?_) hcls
    obtain ⟨oL,_,_,hoL,_⟩:=id hn
    refine h _ ⟨I.ok,I.os,I.bare,⟨fun b o e n hb hx=>?_,fun b o e n hb hx=>?_,I.base.free,fun b o e hx=>?_,I.base.tups,I.base.frzs,I.base.tbls⟩,⟨_,hn',fun j y v' e1 e2 e3=>?_⟩,fun y c e=>?_,I.free,I.freeC,fun p hp=>?_,tracked ⟨oL,hoL,I.free⟩ hs,by simpa using I.len⟩ ⟨_,hs,.inl rfl⟩
    · exact (hs.2 b (Nat.ne_of_lt (Nat.lt_of_lt_of_le (Heap.lt_size e) I.ok.above))).trans (I.base.keep b o e n hb hx)
    · obtain ⟨sl,e1⟩:=I.base.slot b o e n hb hx
      exact ⟨sl,(hs.2 b (Nat.ne_of_lt (Nat.lt_of_lt_of_le (Heap.lt_size e) I.ok.above))).trans e1⟩
    · obtain ⟨o',e1⟩:=I.base.there b o e hx
      exact ⟨o',(hs.2 b (Nat.ne_of_lt (Nat.lt_of_lt_of_le (Heap.lt_size e) I.ok.above))).trans e1⟩
    · by_cases hj:j = i
      · subst hj
        rw [hi] at e1; cases e1
        rw [List.getElem?_set_self hiσ] at e2
        cases e2
        exact ⟨u,r,.inl ⟨hk,by simp⟩⟩
      · rw [List.getElem?_set_ne (Ne.symm hj)] at e2
        obtain ⟨u',r',q⟩:=hl j y v' e1 e2 e3
        refine ⟨u',r',?_⟩
        rcases q with ⟨k,e⟩ | ⟨k,c,e,z⟩
        · refine .inl ⟨k,?_⟩
          have:y ≠ x:=fun e=>hj (nodup_ix hN e1 (e ▸ hi))
          simp [this,e]
        · exact .inr ⟨k,c,e,z.sameBut hs (cne y c e)⟩
    · obtain ⟨w',z⟩:=I.cell y c e
      exact ⟨w',z.sameBut hs (cne y c e)⟩
    · obtain ⟨e,n,ne,nf,d⟩:=I.pin p hp
      exact ⟨(hs.2 p.1 ne).trans e,n,ne,nf,d⟩
  · have hfn : X.fn x = true := by
      rcases hf with z | z
      · exact z
      · rw [z] at hk; cases hk
    obtain ⟨c,hc⟩:=I.ok.has x (.inl hk)
    obtain ⟨w',z⟩:=I.cell x c hc
    refine wpAny_storeName_cell I.ok.kind hk hc z (fun h' hc' hs=>?_)
    obtain ⟨oc,hoc,hocd⟩:=id z
    refine h { s with heap:=h' } ⟨I.ok,I.os,I.bare,⟨fun b o e n hb hx=>?_,fun b o e n hb hx=>?_,I.base.free,fun b o e hx=>?_,I.base.tups,I.base.frzs,I.base.tbls⟩,⟨m,hn.sameBut hs (Ne.symm (cne x c hc)),fun j y v' e1 e2 e3=>?_⟩,fun y c' e=>?_,I.free,I.freeC,fun p hp=>?_,tracked ⟨oc,hoc,I.freeC x c hc⟩ hs,by simpa using I.len⟩ ⟨c,hs,.inr hc⟩
    · exact (hs.2 b (Nat.ne_of_lt (Nat.lt_of_lt_of_le (Heap.lt_size e) (I.ok.cab x c hfn hc)))).trans (I.base.keep b o e n hb hx)
    · obtain ⟨sl,e1⟩:=I.base.slot b o e n hb hx
      exact ⟨sl,(hs.2 b (Nat.ne_of_lt (Nat.lt_of_lt_of_le (Heap.lt_size e) (I.ok.cab x c hfn hc)))).trans e1⟩
    · obtain ⟨o',e1⟩:=I.base.there b o e hx
      exact ⟨o',(hs.2 b (Nat.ne_of_lt (Nat.lt_of_lt_of_le (Heap.lt_size e) (I.ok.cab x c hfn hc)))).trans e1⟩
    · by_cases hj:j = i
      · subst hj
        rw [hi] at e1; cases e1
        rw [List.getElem?_set_self hiσ] at e2
        cases e2
        exact ⟨u,r,.inr ⟨.inl hk,c,hc,hc'⟩⟩
      · rw [List.getElem?_set_ne (Ne.symm hj)] at e2
        obtain ⟨u',r',q⟩:=hl j y v' e1 e2 e3
        refine ⟨u',r',?_⟩
        rcases q with q | ⟨k,c',e,z'⟩
        · exact .inl q
        · refine .inr ⟨k,c',e,z'.sameBut hs ?_⟩
          rintro rfl
          exact hj (nodup_ix hN e1 (I.ok.inj _ _ _ e hc ▸ hi))
    · by_cases hcc:c' = c
      · subst hcc; exact ⟨_,hc'⟩
      · obtain ⟨w2,z2⟩:=I.cell y c' e
        exact ⟨w2,z2.sameBut hs hcc⟩
    · obtain ⟨e,n,ne,nf,d⟩:=I.pin p hp
      refine ⟨(hs.2 p.1 ?_).trans e,n,ne,nf,d⟩
      intro q
      rw [q,hoc] at e
      have q':oc = p.2:=Option.some.inj e
      exact d w' (by rw [← q']; exact hocd)
theorem store_ok {M : Model} {A : Around} {E : Value → Shared → Prop} {i : Nat} {x : Str} {v : V} {u : Value} {Q : Unit → Shared → Prop} (I : Inv X pins σ H s) (hN : X.N.Nodup) (hi : X.N[i]? = some x) (hx : Loc X.env.scope x) (r : RelV v u)
    (h:∀ s',Inv X pins (σ.set i (some v)) H s'→Q () s') (hf:X.fn x = true∨X.env.scope.names.lookup x = some .local:=by first | exact .inl rfl | exact .inr rfl | assumption):wpAny M A (storeName X.env x u) Q E s :=
  store_ok2 I hN hi hx r (fun s' I' _=>h s' I') hf
theorem Inv.call' {s' : Shared} {ch : List Addr} (I : Inv X pins σ H s) (ho : s'.os = s.os) (u : Un (frs X.stack) ch H H' s.heap s'.heap) (hok : HOk X.prog X.w H' s'.heap) (hg : AllBare s'.gens)
    (hch:∀ b ∈ ch,(b ∈ X.ex∨X.s₀.heap.objs.size ≤ b)∧b ≠ X.env.locals∧(∀ x c,X.env.cells.lookup x = some c→c ≠ b)∧∀ p ∈ X.pn ++ pins,p.1 ≠ b):Inv X pins σ H' s':=by
  obtain ⟨h',g',d',t',o'⟩:=s'
  have e:o' = s.os:=ho
  subst e
  exact I.call (g':=g') (t':=t') (d':=d') u hok hg hch
end
noncomputable abbrev XK:=Value→Option Addr→Hp→Prop
noncomputable abbrev St:=List (Option V)
noncomputable abbrev VK:=V→Hp→Prop
noncomputable abbrev TE:=St→Hp→VK→Prop
noncomputable abbrev TT:=St→Hp→(Bool→Hp→Prop)→Prop
noncomputable abbrev TA:=St→Hp→(List V→Hp→Prop)→Prop
structure Ends where
  nx:St→Hp→Prop
  rt:VK
  bk:St→Hp→Prop:=fun _ _=>False
  ct:St→Hp→Prop:=fun _ _=>False
noncomputable abbrev TS:=Ends→St→Hp→Prop
inductive EP (X:Cx) (pins:List (Addr × Obj)) (σ:St) (Q:VK) (u:Value) (s':Shared) : Prop | mk (v : _) (H' : _) : (Inv X pins σ H' s') → RelV v u → (Q v H') → EP X pins σ Q u s'
noncomputable def TP (X:Cx) (pins:List (Addr × Obj)) (σ:St) (Q:Bool→Hp→Prop) (b:Bool) (s':Shared):Prop:=∃ H',Inv X pins σ H' s'∧Q b H'
inductive AP (X:Cx) (pins:List (Addr × Obj)) (σ:St) (Q:List V→Hp→Prop) (us:List Value) (s':Shared) : Prop | mk (vs : _) (H' : _) : (Inv X pins σ H' s') → Vals vs us → (Q vs H') → AP X pins σ Q us s'
noncomputable def SP (X:Cx) (pins:List (Addr × Obj)) (D:Ends) (f:Flow) (s':Shared):Prop :=
  match f with
  | .next=>∃ σ' H',Inv X pins σ' H' s'∧D.nx σ' H'
  | .brk=>∃ σ' H',Inv X pins σ' H' s'∧D.bk σ' H'
  | .cont=>∃ σ' H',Inv X pins σ' H' s'∧D.ct σ' H'
  | .ret u=>∃ v σ' H',Inv X pins σ' H' s'∧RelV v u∧D.rt v H'
noncomputable def PE (X:Cx) (e:Expr) (t:TE):Prop :=
  ∀ (pins:List (Addr × Obj)) (s:Shared) (σ:St) (H:Hp) (Q:VK),Inv X pins σ H s→t σ H Q→wpAny (model X.prog X.w) X.A (eval e X.env) (EP X pins σ Q) X.xe s
noncomputable def PT (X:Cx) (e:Expr) (t:TT):Prop :=
  ∀ (pins:List (Addr × Obj)) (s:Shared) (σ:St) (H:Hp) (Q:Bool→Hp→Prop),Inv X pins σ H s→t σ H Q→wpAny (model X.prog X.w) X.A (isTrue e X.env (eval e X.env)) (TP X pins σ Q) X.xe s
noncomputable def PW (X:Cx) (e:Expr) (t:TT):Prop :=
  ∀ (whole:Sem Value) (pins:List (Addr × Obj)) (s:Shared) (σ:St) (H:Hp) (Q:Bool→Hp→Prop),Inv X pins σ H s→t σ H Q→wpAny (model X.prog X.w) X.A (isTrue e X.env whole) (TP X pins σ Q) X.xe s
theorem PW.pt {X:Cx} {e:Expr} {t:TT} (h:PW X e t):PT X e t:=h _
noncomputable def PA (X:Cx) (es:List Expr) (t:TA):Prop :=
  ∀ (pos:Pos) (pins:List (Addr × Obj)) (s:Shared) (σ:St) (H:Hp) (Q:List V→Hp→Prop),Inv X pins σ H s→t σ H Q→wpAny (model X.prog X.w) X.A (spliced (backTo pos (starEach es X.env))) (AP X pins σ Q) X.xe s
noncomputable def PS (X:Cx) (st:Stmt) (t:TS):Prop :=
  ∀ (pins:List (Addr × Obj)) (s:Shared) (σ:St) (H:Hp) (D:Ends),Inv X pins σ H s→t D σ H→wpAny (model X.prog X.w) X.A (exec st X.env) (SP X pins D) X.xe s
noncomputable def PSs (X:Cx) (st:List Stmt) (t:TS):Prop :=
  ∀ (pins:List (Addr × Obj)) (s:Shared) (σ:St) (H:Hp) (D:Ends),Inv X pins σ H s→t D σ H→wpAny (model X.prog X.w) X.A (execs st X.env) (SP X pins D) X.xe s
theorem thn {α:Type} {t:Sem α} {Q Q':α→Shared→Prop} {M:Model} {A:Around} {E:Value→Shared→Prop} {s:Shared} (h:wpAny M A t Q E s) (hQ:∀ a s,Q a s→Q' a s):wpAny M A t Q' E s:=wpAny_mono h hQ fun _ _ x=>x
end L2
namespace L2
open PySem PySem.Spec PyProof.Rows
section
variable {X:Cx}
inductive tVar (i:Nat) (σ : St) (H : Hp) (Q : VK) : Prop | mk (v : _) : (σ[i]? = some (some v)) → Q v H → tVar i σ H Q
noncomputable def tC (v:V):TE:=fun _ H Q=>Q v H
theorem pe_var {i:Nat} {x:Str} {pos:Pos} (hN:X.N[i]? = some x) (hv:Vis X.env.scope x) (hd:(x == ("__debug__":Str)) = false:=by decide) (hcd:(x == ("__classdict__":Str)) = false:=by decide):PE X (.Name x pos) (tVar i):=by
  intro pins s σ H Q I h
  obtain ⟨v,e,h⟩:=h
  obtain ⟨m,hn,hl⟩:=I.loc
  obtain ⟨u,r,l⟩:=hl i x v hN e hv
  have fin:EP X pins σ Q u s:=⟨v,H,I,r,h⟩
  rcases l with ⟨hk,hm⟩ | ⟨hk,c,hc,hcell⟩
  · exact wpAny_Name (wpAny_loadName_local I.ok.kind hk hn hm fin) hd
  · rcases hk with hk | hk
    · exact wpAny_Name (wpAny_loadName_cell I.ok.kind hk hc hcell fin) hd
    · exact wpAny_Name (wpAny_loadName_free I.ok.kind hk hc hcell fin hcd) hd
theorem pe_int {i j pos}:PE X (.Constant (.int i) j pos) (tC (.int i)):=fun _ _ _ H _ I h=>wpAny_Constant_int ⟨.int i,H,I.tok _,⟨_,rfl⟩,h⟩
theorem pe_bl {b j pos}:PE X (.Constant (.bool b) j pos) (tC (.bl b)):=fun _ _ _ H _ I h=>Constant_bool ⟨.bl b,H,I,rfl,h⟩
theorem pe_non {j pos}:PE X (.Constant .none j pos) (tC .non):=fun _ _ _ H _ I h=>Constant_none ⟨.non,H,I,rfl,h⟩
theorem pe_str {x j pos}:PE X (.Constant (.str x) j pos) (tC (.str x)):=fun _ _ _ H _ I h=>Calls.Constant_str ⟨.str x,H,I.tok _,⟨_,rfl⟩,h⟩
noncomputable def Gl (X:Cx) (x:Str):Prop:=X.env.kindOf x = some .globalImplicit
theorem ld_glob {E : Value → Shared → Prop} {pins : List (Addr × Obj)} {s : Shared} {σ : St} {H : Hp} {x : Str} {u : Value} {pos : Pos} {Q : Value → Shared → Prop} (I : Inv X pins σ H s) (hg : Gl X x) (hm : X.mg x = some u) (h : Q u s)
    (hd:(x == ("__debug__":Str)) = false:=by decide):wpAny (model X.prog X.w) X.A (eval (.Name x pos) X.env) Q E s :=
  Calls.Name_function_global I.ok.kind hg (Calls.loadGlobal_global (by rw [I.ok.glob]; exact I.mod.glob.keeps I.bk) hm h) hd
theorem ld_blt {E : Value → Shared → Prop} {pins : List (Addr × Obj)} {s : Shared} {σ : St} {H : Hp} {x : Str} {u : Value} {pos : Pos} {Q : Value → Shared → Prop} (I : Inv X pins σ H s) (hg : Gl X x) (hm : X.mg x = none) (hv : bootBuiltins x = some u) (h : Q u s)
    (hn:x ≠ "__name__":=by decide) (hd:(x == ("__debug__":Str)) = false:=by decide):wpAny (model X.prog X.w) X.A (eval (.Name x pos) X.env) Q E s:=by
  obtain ⟨mb,h1,h2⟩:=I.mod.blt
  exact Calls.Name_function_global I.ok.kind hg (Calls.loadGlobal_builtin (by rw [I.ok.glob]; exact I.mod.glob.keeps I.bk) hm (by rw [I.ok.blt]; exact h1.keeps I.bk) ((h2 x hn).trans hv) h) hd
theorem pe_bltn {x:Str} {v:V} {u:Value} {pos:Pos} (hg:Gl X x) (hm:X.mg x = none) (hv:bootBuiltins x = some u) (r:RelV v u) (hn:x ≠ "__name__":=by decide) (hd:(x == ("__debug__":Str)) = false:=by decide):PE X (.Name x pos) (tC v) :=
  fun _ _ _ H _ I h=>ld_blt I hg hm hv ⟨v,H,I,r,h⟩ hn hd
variable {a b:Expr} {ta tb:TE} {pos:Pos}
noncomputable def tB (t:TE):TT:=fun σ H Q=>t σ H fun x H1=>∃ c,x = .bl c∧Q c H1
theorem pt_val {e:Expr} {t:TE} (h:PE X e t) (he:∀ whole,isTrue e X.env whole = (do let v ← whole; standAt e.pos; holding [v] (truthy v)):=by intro _; rfl):PT X e (tB t):=by
  intro pins s σ H Q I hw
  refine isTrue_plain (thn (h pins s σ H _ I hw) fun v s1 ⟨x,H1,I1,r1,q1⟩=>?_) (he _)
  obtain ⟨d,rfl,q⟩:=q1
  cases r1
  exact wpAny_truthy_bool ⟨H1,I1,q⟩
variable {tA tB':TT} {rest:List Expr}
noncomputable def tAnd (t u:TT):TT:=fun σ H Q=>t σ H fun c H1=>if c = true then u σ H1 Q else Q false H1
noncomputable def tOr (t u:TT):TT:=fun σ H Q=>t σ H fun c H1=>if c = true then Q true H1 else u σ H1 Q
noncomputable def tNot (t:TT):TT:=fun σ H Q=>t σ H fun c H1=>Q (!c) H1
theorem pw_and1 (ha:PT X a tA):PW X (.BoolOp .And [a] pos) tA:=by
  intro wh pins s σ H Q I h
  refine isTrue_and (thn (ha pins s σ H Q I h) fun c s1 e=>?_)
  cases c with
  | true=>exact isTrue_and_nil e
  | false=>exact e
theorem pw_or1 (ha:PT X a tA):PW X (.BoolOp .Or [a] pos) tA:=by
  intro wh pins s σ H Q I h
  refine isTrue_or (thn (ha pins s σ H Q I h) fun c s1 e=>?_)
  cases c with
  | false=>exact isTrue_or_nil e
  | true=>exact e
theorem pw_and (ha:PT X a tA) (hb:PW X (.BoolOp .And (b :: rest) pos) tB'):PW X (.BoolOp .And (a :: b :: rest) pos) (tAnd tA tB'):=by
  intro wh pins s σ H Q I h
  refine isTrue_and (thn (ha pins s σ H _ I h) fun c s1 ⟨H1,I1,q1⟩=>?_)
  cases c with
  | true=>exact hb wh pins s1 σ H1 Q I1 q1
  | false=>exact ⟨H1,I1,q1⟩
theorem pw_or (ha:PT X a tA) (hb:PW X (.BoolOp .Or (b :: rest) pos) tB'):PW X (.BoolOp .Or (a :: b :: rest) pos) (tOr tA tB'):=by
  intro wh pins s σ H Q I h
  refine isTrue_or (thn (ha pins s σ H _ I h) fun c s1 ⟨H1,I1,q1⟩=>?_)
  cases c with
  | true=>exact ⟨H1,I1,q1⟩
  | false=>exact hb wh pins s1 σ H1 Q I1 q1
theorem pt_not (ha:PT X a tA):PT X (.UnaryOp .Not a pos) (tNot tA):=by
  intro pins s σ H Q I h
  exact isTrue_not (ha pins s σ H (fun c H1=>Q (!c) H1) I h)
noncomputable def tAndV (ta tb:TE):TE:=fun σ H Q=>ta σ H fun x H1=>∃ c,x = .bl c∧if c = true then tb σ H1 Q else Q (.bl false) H1
theorem pe_one {op} {t:TE} (h:PE X a t):PE X (.BoolOp op [a] pos) t:=fun pins s σ H Q I hw=>BoolOp_one (h pins s σ H Q I hw)
theorem pe_and (ha:PE X a ta) (hb:PE X (.BoolOp .And (b :: rest) pos) tb):PE X (.BoolOp .And (a :: b :: rest) pos) (tAndV ta tb):=by
  intro pins s σ H Q I h
  refine BoolOp_and (thn (ha pins s σ H _ I h) fun v s1 ⟨x,H1,I1,r1,q1⟩=>?_)
  obtain ⟨c,rfl,q1⟩:=q1
  cases r1
  refine wpAny_truthy_bool ?_
  cases c with
  | true=>exact hb pins s1 σ H1 Q I1 q1
  | false=>exact ⟨.bl false,H1,I1,rfl,q1⟩
noncomputable def tIf (t:TT) (ta tb:TE):TE:=fun σ H Q=>t σ H fun c H1=>if c = true then ta σ H1 Q else tb σ H1 Q
theorem pe_ifExp {c:Expr} (hc:PT X c tA) (ha:PE X a ta) (hb:PE X b tb):PE X (.IfExp c a b pos) (tIf tA ta tb):=by
  intro pins s σ H Q I h
  refine wpAny_IfExp (thn (hc pins s σ H _ I h) fun d s1 ⟨H1,I1,q1⟩=>?_)
  cases d with
  | true=>exact ha pins s1 σ H1 Q I1 q1
  | false=>exact hb pins s1 σ H1 Q I1 q1
end
end L2
namespace L2
open PySem PySem.Spec PyProof.Rows
noncomputable def SqL (K:PySem.W.Frag) (H:Hp) (a:Addr) (xs:List V):Prop :=
  Rd H a (.lst xs) ∨
    ∃ (o:Obj) (its:Array Value) (n:Nat),K.lookup a = some o∧o.cls = .type "list"∧o.dict = none∧o.data = .seq its n∧its.size ≤ sizeLine∧Vals xs its.toList
noncomputable def SqT (K:PySem.W.Frag) (H:Hp) (a:Addr) (xs:List V):Prop :=
  Rd H a (.tup xs) ∨
    ∃ (o:Obj) (its:Array Value) (n:Nat),K.lookup a = some o∧o.cls = .type "tuple"∧o.data = .seq its n∧its.size ≤ sizeLine∧Vals xs its.toList
noncomputable def absV:Value→Option V
  | .none=>some .non
  | .bool b=>some (.bl b)
  | .int i _=>some (.int i)
  | .str x _=>some (.str x)
  | .bytes b _=>some (.byt b)
  | .float b _=>some (.flt b)
  | .ref a=>some (.ref a)
  | .type n=>some (.ty n)
  | _=>none
theorem RelV.abs {x:V} {u:Value} (r:RelV x u):absV u = some x:=by
  cases x with
  | non=>cases r; rfl
  | bl _=>cases r; rfl
  | int _=>obtain ⟨t,rfl⟩:=r; rfl
  | str _=>obtain ⟨t,rfl⟩:=r; rfl
  | byt _=>obtain ⟨t,rfl⟩:=r; rfl
  | flt _=>obtain ⟨t,rfl⟩:=r; rfl
  | ref _=>cases r; rfl
  | ty _=>cases r; rfl
theorem RelV.inj {x y:V} {u:Value} (r:RelV x u) (q:RelV y u):x = y:=Option.some.inj (r.abs.symm.trans q.abs)
theorem Vals.inj:∀ {xs ys:List V} {us:List Value},Vals xs us→Vals ys us→xs = ys
  | _,_,_,.nil,.nil=>rfl
  | _,_,_,.cons r t,.cons r' t'=>by rw [r.inj r',Vals.inj t t']
section
variable {X:Cx} {pins:List (Addr × Obj)} {σ:St} {H:Hp} {s:Shared} {a:Addr} {xs ys:List V}
theorem SqL.of {K:PySem.W.Frag} (h:H a = some (.lst xs)):SqL K H a xs:=.inl (.inl h)
theorem SqT.of {K:PySem.W.Frag} (h:H a = some (.tup xs)):SqT K H a xs:=.inl (.inl h)
theorem Inv.list (I : Inv X pins σ H s) (h : SqL X.K H a xs) : ∃ its : List Value, Vals xs its ∧ PlainL s.heap a its.toArray ∧ xs.length ≤ sizeLine := by
  rcases h with h | ⟨o, its, n, hk, hc, hd, hs, hz, r⟩
  · obtain ⟨z, its, n, r, e⟩ := h.ok I.hok
    exact ⟨its, r, ⟨_, n, e, rfl, rfl, rfl⟩, z⟩
  · refine ⟨its.toList, r, ⟨o, n, I.kIn a o hk, hc, hd, by omega⟩, ?_⟩
    have e := r.length
    grind
theorem Inv.tuple (I : Inv X pins σ H s) (h : SqT X.K H a xs) : ∃ its : List Value, Vals xs its ∧ IsTup s.heap a its.toArray ∧ xs.length ≤ sizeLine := by
  rcases h with h | ⟨o, its, n, hk, hc, hs, hz, r⟩
  · obtain ⟨z, its, r, p⟩ := h.ok I.hok
    exact ⟨its, r, p, z⟩
  · refine ⟨its.toList, r, ⟨o, I.kIn a o hk, hc, n, by omega⟩, ?_⟩
    have e := r.length
    simp_all
theorem Inv.list_inj (I : Inv X pins σ H s) (h : SqL X.K H a xs) (h' : SqL X.K H a ys) : xs = ys := by
  obtain ⟨its, r, ⟨o, n, e, _, _, d⟩, _⟩ := I.list h
  obtain ⟨its', r', ⟨o', n', e', _, _, d'⟩, _⟩ := I.list h'
  rw [e] at e'; have : its = its' := by simp_all
  subst this
  exact r.inj r'
theorem Inv.tuple_inj (I : Inv X pins σ H s) (h : SqT X.K H a xs) (h' : SqT X.K H a ys) : xs = ys := by
  obtain ⟨its, r, ⟨o, e, _, n, d⟩, _⟩ := I.tuple h
  obtain ⟨its', r', ⟨o', e', _, n', d'⟩, _⟩ := I.tuple h'
  rw [e] at e'; have : its = its' := by simp_all
  subst this
  exact r.inj r'
end
noncomputable abbrev Cx.wish (X:Cx) (E:Value→Shared→Prop):Cx:={ X with xe:=E }
noncomputable abbrev Cx.nox (X:Cx):Cx:=X.wish fun _ _=>False
theorem Cx.Ok.wish {X:Cx} (ok:X.Ok) (E:Value→Shared→Prop):(X.wish E).Ok :=
  ⟨ok.mod,ok.kind,ok.glob,ok.blt,ok.above,ok.inj,ok.has,ok.cab,ok.hd,ok.frames,ok.stk,ok.exf,ok.bs,ok.bsz,ok.noex,ok.exfs,ok.funs,ok.frf⟩
theorem Cx.Ok.unwish {X:Cx} {E:Value→Shared→Prop} (ok:(X.wish E).Ok):X.Ok :=
  ⟨ok.mod,ok.kind,ok.glob,ok.blt,ok.above,ok.inj,ok.has,ok.cab,ok.hd,ok.frames,ok.stk,ok.exf,ok.bs,ok.bsz,ok.noex,ok.exfs,ok.funs,ok.frf⟩
section
variable {X:Cx} {pins:List (Addr × Obj)} {σ:St} {H:Hp} {s:Shared} {E:Value→Shared→Prop}
theorem Inv.wish (I:Inv X pins σ H s) (E:Value→Shared→Prop):Inv (X.wish E) pins σ H s:=⟨I.ok.wish E,I.os,I.bare,I.base,I.loc,I.cell,I.free,I.freeC,I.pin,I.hok,I.len⟩
theorem Inv.unwish (I:Inv (X.wish E) pins σ H s):Inv X pins σ H s:=⟨I.ok.unwish,I.os,I.bare,I.base,I.loc,I.cell,I.free,I.freeC,I.pin,I.hok,I.len⟩
theorem SP.unwish {D:Ends} {f:Flow} {s':Shared} (h:SP (X.wish E) pins D f s'):SP X pins D f s':=by
  cases f with
  | next=>obtain ⟨σ',H',I,q⟩:=h; exact ⟨σ',H',I.unwish,q⟩
  | brk=>obtain ⟨σ',H',I,q⟩:=h; exact ⟨σ',H',I.unwish,q⟩
  | cont=>obtain ⟨σ',H',I,q⟩:=h; exact ⟨σ',H',I.unwish,q⟩
  | ret u=>obtain ⟨v,σ',H',I,r,q⟩:=h; exact ⟨v,σ',H',I.unwish,r,q⟩
theorem PSs.nox {st:List Stmt} {t:TS} (h:PSs X.nox st t):PSs X st t:=fun pins s σ H D I hw =>
  wpAny_mono (h pins s σ H D (I.wish _) hw) (fun _ _ q=>q.unwish) fun _ _ z=>False.elim z
end
section
variable {X:Cx} {st:Stmt} {rest:List Stmt} {t u:TS} {e:Expr} {te:TE} {pos:Pos}
noncomputable def tNext:TS:=fun D σ H=>D.nx σ H
noncomputable def tSeq (t u:TS):TS:=fun D σ H=>t { D with nx:=u D } σ H
theorem pss_nil:PSs X [] tNext:=fun _ _ σ H _ I h=>wpAny_execs_nil ⟨σ,H,I,h⟩
theorem pss_cons (h1:PS X st t) (h2:PSs X rest u):PSs X (st :: rest) (tSeq t u):=by
  intro pins s σ H D I h
  refine wpAny_execs_cons (thn (h1 pins s σ H { D with nx:=u D } I h) fun f s1 q=>?_)
  cases f with
  | next =>
    obtain ⟨σ',H',I',q⟩:=q
    exact h2 pins s1 σ' H' D I' q
  | ret v=>exact q
  | brk=>exact q
  | cont=>exact q
theorem pss_one (h1:PS X st t):PSs X [st] t:=by
  intro pins s σ H D I h
  refine wpAny_execs_cons (thn (h1 pins s σ H D I h) fun f s1 q=>?_)
  cases f with
  | next=>exact wpAny_execs_nil q
  | ret v=>exact q
  | brk=>exact q
  | cont=>exact q
theorem Inv.quiet {pins:List (Addr × Obj)} {σ:St} {H:Hp} {s:Shared} (I:Inv X pins σ H s):interactive X.env = false:=by simp [interactive,I.ok.kind]
noncomputable def tDrop (te:TE):TS:=fun D σ H=>te σ H fun _ H1=>D.nx σ H1
theorem ps_expr (he:PE X e te) (hs:swapsWith e none pos.line X.env = pure false:=by rfl):PS X (.Expr e pos) (tDrop te):=by
  intro pins s σ H D I h
  exact wpAny_Expr_any (thn (he pins s σ H _ I h) fun v s1 ⟨x,H1,I1,r1,q1⟩=>⟨σ,H1,I1,q1⟩) I.quiet hs
noncomputable def tRet (te:TE):TS:=fun D σ H=>te σ H D.rt
theorem ps_ret (he:PE X e te):PS X (.Return (some e) pos) (tRet te):=by
  intro pins s σ H D I h
  exact wpAny_Return_some (thn (he pins s σ H _ I h) fun v s1 ⟨x,H1,I1,r1,q1⟩=>⟨x,σ,H1,I1,r1,q1⟩)
noncomputable def tIfS (c:TT) (t u:TS):TS:=fun D σ H=>c σ H fun b H1=>if b = true then t D σ H1 else u D σ H1
theorem ps_if {c:Expr} {a b:List Stmt} {tc:TT} (hc:PT X c tc) (ha:PSs X a t) (hb:PSs X b u):PS X (.If c a b pos) (tIfS tc t u):=by
  intro pins s σ H D I h
  refine wpAny_If (thn (hc pins s σ H _ I h) fun d s1 ⟨H1,I1,q1⟩=>?_)
  cases d with
  | true=>exact ha pins s1 σ H1 D I1 q1
  | false=>exact hb pins s1 σ H1 D I1 q1
end
noncomputable abbrev TG:=V→St→Hp→(St→Hp→Prop)→Prop
noncomputable abbrev TGs:=List V→St→Hp→(St→Hp→Prop)→Prop
noncomputable def PG (X:Cx) (target:Expr) (t:TG):Prop :=
  ∀ (pins:List (Addr × Obj)) (s:Shared) (σ:St) (H:Hp) (v:V) (u:Value) (Q:St→Hp→Prop),Inv X pins σ H s→RelV v u→t v σ H Q →
    wpAny (model X.prog X.w) X.A (assign target X.env u) (fun _ s'=>∃ σ' H',Inv X pins σ' H' s'∧Q σ' H') X.xe s
noncomputable def PGs (X:Cx) (ts:List Expr) (t:TGs):Prop :=
  ∀ (pins:List (Addr × Obj)) (s:Shared) (σ:St) (H:Hp) (vs:List V) (us:List Value) (Q:St→Hp→Prop),Inv X pins σ H s→Vals vs us→t vs σ H Q →
    wpAny (model X.prog X.w) X.A (assignInOrder ((assignEach ts X.env).map (·.2)) us) (fun _ s'=>∃ σ' H',Inv X pins σ' H' s'∧Q σ' H') X.xe s
noncomputable abbrev TSet:=V→V→V→Hp→(Hp→Prop)→Prop
noncomputable def PSet (X:Cx) (t:TSet):Prop :=
  ∀ (pins:List (Addr × Obj)) (s:Shared) (σ:St) (H:Hp) (o i v:V) (ov iv u:Value) (Q:Hp→Prop),Inv X pins σ H s→RelV o ov→RelV i iv→RelV v u→t o i v H Q →
    wpAny (model X.prog X.w) X.A (setItem ov iv u) (fun _ s'=>∃ H',Inv X pins σ H' s'∧Q H') X.xe s
section
variable {X:Cx} {pos:Pos}
noncomputable def gName (i:Nat):TG:=fun v σ H Q=>Q (σ.set i (some v)) H
theorem pg_name {i:Nat} {x:Str} (hN:X.N.Nodup) (hi:X.N[i]? = some x) (hx:Loc X.env.scope x) (hf:X.fn x = true∨X.env.scope.names.lookup x = some .local:=by first | exact .inl rfl | exact .inr rfl | assumption):PG X (.Name x pos) (gName i):=by
  intro pins s σ H v u Q I r h
  exact wpAny_assign_Name (store_ok I hN hi hx r (fun s' I'=>⟨_,H,I',h⟩) hf)
noncomputable def gNil:TGs:=fun vs σ H Q=>vs = []∧Q σ H
inductive gCons (t:TG) (u:TGs) (vs : List V) (σ : St) (H : Hp) (Q : St → Hp → Prop) : Prop | mk (v : _) (r : _) : (vs = v :: r) → (t v σ H fun σ' H'=>u r σ' H' Q) → gCons t u vs σ H Q
theorem pgs_nil : PGs X [] gNil := by
  intro pins s σ H vs us Q I r h
  obtain ⟨e, h⟩ := h
  exact assignInOrder_nil ⟨σ, H, I, h⟩
theorem pgs_cons {e : Expr} {es : List Expr} {t : TG} {u : TGs} (h1 : PG X e t) (h2 : PGs X es u)
    (hs:(assignEach (e :: es) X.env).map (·.2) = assign e X.env :: (assignEach es X.env).map (·.2):=by rfl):PGs X (e :: es) (gCons t u):=by
  intro pins s σ H vs us Q I r h
  obtain ⟨v,vr,e1,h⟩:=h
  subst e1
  cases r with
  | cons r rr =>
    rw [hs]
    refine assignInOrder_cons (thn (h1 pins s σ H _ _ _ I r h) fun _ s1 ⟨σ1,H1,I1,q1⟩=>?_)
    exact h2 pins s1 σ1 H1 _ _ Q I1 rr q1
inductive gTup (K:PySem.W.Frag) (n:Nat) (t:TGs) (v : V) (σ : St) (H : Hp) (Q : St → Hp → Prop) : Prop | mk (a : _) (xs : _) : (v = .ref a) → SqT K H a xs → (xs.length = n) → t xs σ H Q → gTup K n t v σ H Q
theorem pg_tup {es : List Expr} {k : Nat} {t : TGs} {n : Nat} (hc : X.calm = true) (h : PGs X es t)
    (hn : (assignEach es X.env).length = n := by rfl) (hst : (assignEach es X.env).findIdx? (·.1) = none := by rfl) : PG X (.Tuple es k pos) (gTup X.K n t) := by
  intro pins s σ H v u Q I r hw
  obtain ⟨a, xs, e1, hq, hl, hw⟩ := hw
  subst e1
  cases r
  obtain ⟨its, rv, ht, hz⟩ := I.tuple hq
  refine assign_Tuple_tuple (I.ok.hd hc) ht (by simp [hn, ← hl, rv.length]) hst fun h' hx => ?_
  have I1 : Inv X pins σ H { s with heap := h' } := I.kept (t' := s.toks) fun b o e => hx b o (Nat.ne_of_lt (Heap.lt_size e)) e
  exact h pins _ σ H xs _ Q I1 (by lia) hw
noncomputable def gSub (to ti:TE) (t:TSet):TG:=fun v σ H Q=>to σ H fun o H1=>ti σ H1 fun i H2=>t o i v H2 fun H3=>Q σ H3
theorem pg_sub {o i : Expr} {to ti : TE} {t : TSet} (ho : PE X o to) (hi : PE X i ti) (hs : PSet X t)
    (ha:∀ v,assign (.Subscript o i pos) X.env v = (do
      let ov ← holding [v] (eval o X.env)
      let iv ← holding [v,ov] (eval i X.env)
      standAt pos
      holding [v,ov,iv] (setItem ov iv v)
      release [v,ov,iv] []):=by intro _; rfl):PG X (.Subscript o i pos) (gSub to ti t):=by
  intro pins s σ H v u Q I r h
  rw [ha]
  refine wpAny_bind (wpAny_holding (thn (ho pins s σ H _ I h) fun ov s1 ⟨x,H1,I1,r1,q1⟩=>?_))
  refine wpAny_bind (wpAny_holding (thn (hi pins s1 σ H1 _ I1 q1) fun iv s2 ⟨y,H2,I2,r2,q2⟩=>?_))
  refine wpAny_bind (wpAny_standAt (wpAny_bind (wpAny_holding (thn (hs pins s2 σ H2 x y v ov iv u _ I2 r1 r2 r q2) fun _ s3 ⟨H3,I3,q3⟩=>?_))))
  exact wpAny_release ⟨σ,H3,I3,q3⟩
noncomputable def tAsg (te:TE) (g:TG):TS:=fun D σ H=>te σ H fun x H1=>g x σ H1 D.nx
theorem ps_asg {tg e : Expr} {te : TE} {g : TG} (he : PE X e te) (hg : PG X tg g) (hs : swapsWithSole [tg] e pos.line X.env = pure false := by rfl) (hw : swappedStores [tg] e X.env = pure none := by rfl)
    (h1:(assignEach [tg] X.env).map (·.2) = [assign tg X.env]:=by rfl):PS X (.Assign [tg] e pos) (tAsg te g):=by
  intro pins s σ H D I h
  refine wpAny_Assign_stores (thn (he pins s σ H _ I h) fun v s1 ⟨x,H1,I1,r1,q1⟩=>?_) hs hw
  rw [h1]
  exact thn (hg pins s1 σ H1 x v _ I1 r1 q1) fun _ s2 q=>q
theorem ps_set {i : Nat} {x : Str} {e : Expr} {te : TE} {pos' : Pos} (hN : X.N.Nodup) (hi : X.N[i]? = some x) (hx : Loc X.env.scope x) (he : PE X e te) (hs : swapsWith e (some (.Name x pos')) pos.line X.env = pure false := by rfl) (hf : X.fn x = true ∨ X.env.scope.names.lookup x = some .local := by first | exact .inl rfl | exact .inr rfl | assumption) :
    PS X (.Assign [.Name x pos'] e pos) (tAsg te (gName i)):=by
  intro pins s σ H D I h
  refine wpAny_Assign_Name (thn (he pins s σ H _ I h) fun v s1 ⟨y,H1,I1,r1,q1⟩=>?_) hs
  exact store_ok I1 hN hi hx r1 (fun s2 I2=>⟨_,H1,I2,q1⟩) hf
end
section
variable {X:Cx} {pos:Pos}
inductive tWhile (c:TT) (tb:TS) (D : Ends) (σ : St) (H : Hp) : Prop | mk (W:Nat→St→Hp→Prop) : ((∃ m,W m σ H)) → (∀ m σ H,W m σ H →
  c σ H fun b H1=>if b = true then ∃ N:St→Hp→Prop,(∀ σ' H',N σ' H'→∃ m',m' < m∧W m' σ' H')∧tb { D with nx:=N,ct:=N,bk:=D.nx } σ H1 else D.nx σ H1) → tWhile c tb D σ H
theorem ps_while {c:Expr} {body:List Stmt} {tc:TT} {tb:TS} (hp:PassesOwn (model X.prog X.w) X.A X.env X.xe) (hc:PT X c tc) (hb:PSs X body tb):PS X (.While c body [] pos) (tWhile tc tb):=by
  intro pins s σ H D I h
  obtain ⟨W,⟨m0,w0⟩,turn⟩:=h
  refine wpAny_While (codeAny_whileLoop (fun n s'=>∃ σ' H',Inv X pins σ' H' s'∧W n σ' H') ?_ m0 ⟨σ,H,I,w0⟩)
  rintro n s1 ⟨σ1,H1,I1,w1⟩
  refine wpAny_passesOwn hp (thn (hc pins s1 σ1 H1 _ I1 (turn n σ1 H1 w1)) fun b s2 ⟨H2,I2,q2⟩=>?_)
  cases b with
  | true =>
    obtain ⟨N,hN,q2⟩:=q2
    rw [if_pos rfl]
    refine wpAny_passesOwn hp (thn (hb pins s2 σ1 H2 _ I2 q2) fun f s3 q3=>?_)
    cases f with
    | next =>
      obtain ⟨σ3,H3,I3,n3⟩:=q3
      obtain ⟨m',hm,w3⟩:=hN σ3 H3 n3
      exact ⟨m',hm,σ3,H3,I3,w3⟩
    | cont =>
      obtain ⟨σ3,H3,I3,n3⟩:=q3
      obtain ⟨m',hm,w3⟩:=hN σ3 H3 n3
      exact ⟨m',hm,σ3,H3,I3,w3⟩
    | brk=>exact q3
    | ret v=>exact q3
  | false =>
    rw [if_neg Bool.false_ne_true]
    exact wpAny_execs_nil ⟨σ1,H2,I2,q2⟩
end
structure It where
  go:Nat→Hp→Prop
  yld:Nat→Hp→V→Hp→Prop
  stop:Nat→Hp→Prop
noncomputable def FpOk (X:Cx) (pins:List (Addr × Obj)) (H:Hp) (b:Addr):Prop :=
  H b = none∧b ≠ X.env.locals∧b ∉ X.fs∧(b ∈ X.ex∨X.s₀.heap.objs.size ≤ b)∧(∀ x c,X.env.cells.lookup x = some c→c ≠ b)∧∀ p ∈ X.pn ++ pins,p.1 ≠ b
theorem Inv.fpOk {X : Cx} {pins : List (Addr × Obj)} {σ : St} {H H' : Hp} {s : Shared} {b : Addr} (I : Inv X pins σ H s) (hb : s.heap.objs.size ≤ b) (hn : H' b = none) : FpOk X pins H' b := by
  refine ⟨hn, Nat.ne_of_gt (Nat.lt_of_lt_of_le I.lt hb), I.nofs hb, .inr (Nat.le_trans I.sz hb), fun x c e z => ?_, fun p hp z => ?_⟩
  · obtain ⟨v, q⟩ := I.cell x c e
    exact absurd (Nat.lt_of_lt_of_le q.lt (by simp_all)) (Nat.lt_irrefl _)
  · exact absurd (Nat.lt_of_lt_of_le (Heap.lt_size (I.pin p hp).1) (by simp_all)) (Nat.lt_irrefl _)
structure Turn (P:Program) (w:World) (K:PySem.W.Frag) (tg:Expr) (J:It) (fp:List Addr) (it:Addr) (tn:Nat→Heap→Prop):Prop where
  mem:it ∈ fp
  obj:∀ i h,tn i h→∀ b ∈ fp,∃ o,h.get? b = some o∧∀ v,o.data ≠ .cell v
  keep:∀ i h h',tn i h→(∀ b ∈ fp,∀ o,h.get? b = some o→h'.get? b = some o)→tn i h'
  item:∀ (X:Cx),X.prog = P→X.w = w→X.K = K→X.calm = true→∀ (i:Nat) (pins:List (Addr × Obj)) (s:Shared) (σ:St) (H:Hp) (E:Value→Shared→Prop),Inv X pins σ H s→(∀ b ∈ fp,FpOk X pins H b)→tn i s.heap→J.go i H →
    wpAny (model P w) X.A (pyNext (.ref it)) (fun r s1=>∃ u,r = some u ∧
      wpAny (model P w) X.A (letOwnedTupleGo tg (.ref it) u) (fun _ s2=>∃ x H',Inv X pins σ H' s2∧RelV x u∧J.yld i H x H'∧tn (i + 1) s2.heap∧∀ b ∈ fp,H' b = none) E s1) E s
  done:∀ (X:Cx),X.prog = P→X.w = w→X.K = K→X.calm = true→∀ (i:Nat) (pins:List (Addr × Obj)) (s:Shared) (σ:St) (H:Hp) (E:Value→Shared→Prop),Inv X pins σ H s→(∀ b ∈ fp,FpOk X pins H b)→tn i s.heap→J.stop i H →
    wpAny (model P w) X.A (pyNext (.ref it)) (fun r s1=>r = none∧Inv X pins σ H s1) E s
  self:∀ (A:Around) (i:Nat) (s:Shared) (Q:Value→Shared→Prop) (E:Value→Shared→Prop),tn i s.heap→Q (.ref it) s→wpAny (model P w) A (pyIter (.ref it)) Q E s
noncomputable abbrev TI:=St→Hp→(It→Hp→Prop)→Prop
noncomputable def PIE (X:Cx) (pins:List (Addr × Obj)) (σ:St) (tg:Expr) (R:It→Hp→Prop) (itv:Value) (s2:Shared):Prop :=
  ∃ (it:Addr) (fp:List Addr) (tn:Nat→Heap→Prop) (J:It) (H':Hp),itv = .ref it∧Inv X pins σ H' s2∧Turn X.prog X.w X.K tg J fp it tn∧tn 0 s2.heap∧(∀ b ∈ fp,FpOk X pins H' b)∧R J H'
noncomputable def PI (X:Cx) (tg iter:Expr) (wi:TI):Prop :=
  ∀ (pins:List (Addr × Obj)) (s:Shared) (σ:St) (H:Hp) (R:It→Hp→Prop),Inv X pins σ H s→wi σ H R →
    wpAny (model X.prog X.w) X.A (eval iter X.env) (fun v s1=>wpAny (model X.prog X.w) X.A (pyIter v) (PIE X pins σ tg R) X.xe s1) X.xe s
theorem go_of {M : Model} {A : Around} {E : Value → Shared → Prop} {s : Shared} {tg : Expr} {it : Addr} {u : Value} {o : Obj} {n : String} {vs : Array Value} {Q : Unit → Shared → Prop} (ho : s.heap.get? it = some o) (hc : o.cls = .type n) (hd : o.data = .fields vs)
    (hn:["enumerate","zip","dict_itemiterator","dict_reverseitemiterator","odict_iterator","itertools.zip_longest","itertools.pairwise"].contains n = false) (hQ:Q () s):wpAny M A (letOwnedTupleGo tg (.ref it) u) Q E s:=by
  unfold letOwnedTupleGo
  cases tg <;> first
    | exact wpAny_pure hQ
    | (cases u <;> first
        | exact wpAny_pure hQ
        | (refine wpAny_bind (wpAny_load ho ?_)
           rw [hc,hd]
           show wpAny M A (if (["enumerate","zip","dict_itemiterator","dict_reverseitemiterator","odict_iterator","itertools.zip_longest","itertools.pairwise"].contains n && vs[0]? == some (rawInt _)) = true then _ else _) Q E s
           rw [if_neg (by intro h; rw [hn,Bool.false_and] at h; cases h)]
           exact wpAny_pure hQ))
noncomputable def Itl (K:PySem.W.Frag) (a:Addr):It :=
  ⟨fun i H=>∃ xs x,SqL K H a xs∧xs[i]? = some x,fun i H x H'=>H' = H∧∀ xs,SqL K H a xs→xs[i]? = some x,fun i H=>∃ xs,SqL K H a xs∧xs.length ≤ i⟩
noncomputable def Itt (K:PySem.W.Frag) (a:Addr):It :=
  ⟨fun i H=>∃ xs x,SqT K H a xs∧xs[i]? = some x,fun i H x H'=>H' = H∧∀ xs,SqT K H a xs→xs[i]? = some x,fun i H=>∃ xs,SqT K H a xs∧xs.length ≤ i⟩
noncomputable def Itr (lo:Int) (n:Nat):It:=⟨fun i _=>i < n,fun i H x H'=>H' = H∧x = .int (lo + i),fun i _=>n ≤ i⟩
theorem turn_list {P:Program} {w:World} {K:PySem.W.Frag} {tg:Expr} (a it:Addr):Turn P w K tg (Itl K a) [it] it (fun i h=>h.IsListIter it a i) where
  mem:=by simp
  obj:=fun i h st b hb=>by
    have e:b = it:=by simpa using hb
    subst e
    obtain ⟨o,e,c,d⟩:=st
    exact ⟨o,e,fun v z=>by rw [d] at z; cases z⟩
  keep:=fun i h h' st k=>st.at fun o e=>k it (by simp) o e
  item:=by
    intro X hP hw hK hc i pins s σ H E I hf st hg
    subst hP hw hK
    obtain ⟨xs,x,hq,hx⟩:=hg
    obtain ⟨its,rv,p,hz⟩:=I.list hq
    obtain ⟨u,hu,ru⟩:=rv.get hx
    obtain ⟨f0,f1,f2,f3,f4,f5⟩:=hf it (by simp)
    refine wpAny_pyNext_list_item st p.isList (x:=u) (by simpa using hu) fun h' st' sb=>?_
    have I1:Inv X pins σ H { s with heap:=h' }:=I.turned (t':=s.toks) (fun b o hb e=>(sb.2 b hb).trans e) f0 f1 f3 f4 f5
    obtain ⟨o,e,c,d⟩:=id st'
    exact ⟨u,rfl,go_of (s:={ s with heap:=h' }) e c d (by decide) ⟨x,H,I1,ru,⟨rfl,fun ys hy=>by rw [I.list_inj hy hq]; exact hx⟩,st',fun b hb=>(hf b hb).1⟩⟩
  done:=by
    intro X hP hw hK hc i pins s σ H E I hf st hg
    subst hP hw hK
    obtain ⟨xs,hq,hx⟩:=hg
    obtain ⟨its,rv,p,hz⟩:=I.list hq
    obtain ⟨f0,f1,f2,f3,f4,f5⟩:=hf it (by simp)
    have hl:=rv.length
    exact wpAny_pyNext_list_end (I.ok.hd hc) st p.isList (by simp; lia) fun h' eb=>⟨rfl,I.turned (t':=s.toks) (fun b o hb e=>eb b o hb e) f0 f1 f3 f4 f5⟩
  self:=fun _ _ _ _ _ st h=>wpAny_pyIter_listiter st h
theorem turn_tuple {P:Program} {w:World} {K:PySem.W.Frag} {tg:Expr} (a it:Addr):Turn P w K tg (Itt K a) [it] it (fun i h=>h.IsTupleIter it a i) where
  mem:=by simp
  obj:=fun i h st b hb=>by
    have e:b = it:=by simpa using hb
    subst e
    obtain ⟨o,e,c,d⟩:=st
    exact ⟨o,e,fun v z=>by rw [d] at z; cases z⟩
  keep:=fun i h h' st k=>st.at fun o e=>k it (by simp) o e
  item:=by
    intro X hP hw hK hc i pins s σ H E I hf st hg
    subst hP hw hK
    obtain ⟨xs,x,hq,hx⟩:=hg
    obtain ⟨its,rv,p,hz⟩:=I.tuple hq
    obtain ⟨u,hu,ru⟩:=rv.get hx
    obtain ⟨f0,f1,f2,f3,f4,f5⟩:=hf it (by simp)
    refine wpAny_pyNext_tuple_item st (show s.heap.IsTuple a its.toArray from p) (x:=u) (by simpa using hu) fun h' st' sb=>?_
    have I1:Inv X pins σ H { s with heap:=h' }:=I.turned (t':=s.toks) (fun b o hb e=>(sb.2 b hb).trans e) f0 f1 f3 f4 f5
    obtain ⟨o,e,c,d⟩:=id st'
    exact ⟨u,rfl,go_of (s:={ s with heap:=h' }) e c d (by decide) ⟨x,H,I1,ru,⟨rfl,fun ys hy=>by rw [I.tuple_inj hy hq]; exact hx⟩,st',fun b hb=>(hf b hb).1⟩⟩
  done:=by
    intro X hP hw hK hc i pins s σ H E I hf st hg
    subst hP hw hK
    obtain ⟨xs,hq,hx⟩:=hg
    obtain ⟨its,rv,p,hz⟩:=I.tuple hq
    obtain ⟨f0,f1,f2,f3,f4,f5⟩:=hf it (by simp)
    have hl:=rv.length
    exact wpAny_pyNext_tuple_end (I.ok.hd hc) st (show s.heap.IsTuple a its.toArray from p) (by simp; lia) fun h' eb=>⟨rfl,I.turned (t':=s.toks) (fun b o hb e=>eb b o hb e) f0 f1 f3 f4 f5⟩
  self:=fun _ _ _ _ _ st h=>wpAny_pyIter_tupleiter st h
theorem turn_range {P:Program} {w:World} {K:PySem.W.Frag} {tg:Expr} (it:Addr) (lo:Int) (n:Nat):Turn P w K tg (Itr lo n) [it] it (fun i h=>IsRangeIter h it (lo + (i:Nat) * 1) ((n:Int) - (i:Nat)) 1) where
  mem:=by simp
  obj:=fun i h st b hb=>by
    have e:b = it:=by simpa using hb
    subst e
    exact ⟨_,st,fun v z=>by
      have z':Data.fields _ = Data.cell v:=z
      cases z'⟩
  keep:=fun i h h' st k=>k it (by simp) _ st
  item:=by
    intro X hP hw hK hc i pins s σ H E I hf st hg
    subst hP hw hK
    obtain ⟨f0,f1,f2,f3,f4,f5⟩:=hf it (by simp)
    have W:=Walks.range (prog:=X.prog) (w:=X.w) (I.ok.hd hc) it lo 1 n
    refine W.item i s _ _ hg st fun v h' tk hv st' kk=>?_
    obtain ⟨t,rfl⟩:=hv
    have I1:Inv X pins σ H { s with heap:=h',toks:=tk }:=I.turned (fun b o hb e=>kk b o (by simpa using hb) e) f0 f1 f3 f4 f5
    refine ⟨_,rfl,go_of (s:={ s with heap:=h',toks:=tk }) (n:="range_iterator") st' rfl rfl (by decide) ⟨.int (lo + i),H,I1,⟨t,?_⟩,⟨rfl,rfl⟩,st',fun b hb=>(hf b hb).1⟩⟩
    rw [Int.mul_one]
  done:=by
    intro X hP hw hK hc i pins s σ H E I hf st hg
    subst hP hw hK
    obtain ⟨f0,f1,f2,f3,f4,f5⟩:=hf it (by simp)
    exact wpAny_pyNext_range_end (I.ok.hd hc) st (by have:n ≤ i:=hg; lia) fun h' eb=>⟨rfl,I.turned (t':=s.toks) (fun b o hb e=>eb b o hb e) f0 f1 f3 f4 f5⟩
  self:=fun _ _ _ _ _ st h=>wpAny_pyIter_rangeiter st h
end L2
namespace L2
open PySem PySem.Spec PyProof.Rows
section
variable {X:Cx} {tg:Expr}
theorem range_it {pins : List (Addr × Obj)} {σ : St} {H : Hp} {s : Shared} {R : It → Hp → Prop} {E : Value → Shared → Prop} {lo hi : Int} {t u v : Tok} {tk : Nat} (I : Inv X pins σ H s) (h1 : -(2 ^ 62) ≤ lo) (h2 : lo < 2 ^ 62) (h3 : -(2 ^ 62) ≤ hi) (h4 : hi < 2 ^ 62)
    (q : R (Itr lo (hi - lo).toNat) H) : wpAny (model X.prog X.w) X.A (pyIter (.ref s.heap.objs.size)) (PIE X pins σ tg R) E { s with heap := s.heap.push { cls := .type "range", data := .fields #[.int lo t, .int hi u, .int 1 v] }, toks := tk } := by
  refine wpAny_pyIter_range (IsRange.new ..) (small_one h1 h2 h3 h4) ?_
  have I1 : Inv X pins σ H { s with heap := s.heap.push { cls := .type "range", data := .fields #[.int lo t, .int hi u, .int 1 v] }, toks := tk } := I.kept fun b o e => Heap.get?_push_of_some _ e
  refine ⟨(s.heap.push { cls := .type "range", data := .fields #[.int lo t, .int hi u, .int 1 v] }).objs.size, [(s.heap.push { cls := .type "range", data := .fields #[.int lo t, .int hi u, .int 1 v] }).objs.size], _, _, H, rfl,
    I1.kept (t' := tk) fun b o e => Heap.get?_push_of_some _ e, turn_range _ lo (hi - lo).toNat, ?_, fun b hb => ?_, q⟩
  · have e1 : lo + ((0 : Nat) : Int) * 1 = lo := by simp
    have e2 : (((hi - lo).toNat : Nat) : Int) - ((0 : Nat) : Int) = Builtin.Range.rangeSize lo hi 1 := by rw [rangeSize_one]; split <;> lia
    rw [e1, e2]
    exact Heap.get?_push_size _ rfl
  · have e : b = (s.heap.push { cls := .type "range", data := .fields #[.int lo t, .int hi u, .int 1 v] }).objs.size := by simpa using hb
    subst e
    exact I1.fpOk (Nat.le_refl _) (I1.hok.fresh (Nat.le_refl _))
noncomputable def iRng1 (ta:TA):TI:=fun σ H R=>ta σ H fun vs H1=>∃ j:Int,vs = [.int j]∧-(2 ^ 62) ≤ j∧j < 2 ^ 62∧R (Itr 0 j.toNat) H1
theorem pi_range1 {a : Expr} {ta : TA} {p pos : Pos} (hg : Gl X "range") (hm : X.mg "range" = none) (ha : PA X [a] ta) (hs : starEach [a] X.env = [(false, eval a X.env)] := by rfl) : PI X tg (.Call (.Name "range" p) [a] [] pos) (iRng1 ta) := by
  intro pins s σ H R I h
  refine Call_ (ld_blt I hg hm boot_range (PyProof.Rows.callWith_type1 (thn (ha pos pins s σ H _ I h) fun us s1 ⟨vs, H1, I1, r1, q1⟩ => ?_) hs rfl))
  obtain ⟨j, e, q1, q2, q⟩ := q1
  subst e
  cases r1 with
  | cons r rr =>
    cases rr
    obtain ⟨t, rfl⟩ := r
    exact call_range_1 (range_it I1 (by lia) (by lia) q1 q2 (by simp_all))
noncomputable def tFor (wi:TI) (g:TG) (tb:TS):TS:=fun D σ H=>wi σ H fun J H1=>∃ W:Nat→Nat→St→Hp→Prop,(∃ m,W 0 m σ H1)∧∀ i m σ H,W i m σ H →
  (J.stop i H∧D.nx σ H)∨(J.go i H∧∃ N:St→Hp→Prop,(∀ σ' H',N σ' H'→∃ m',m' < m∧W (i + 1) m' σ' H')∧∀ x H',J.yld i H x H'→g x σ H' fun σ2 H2=>tb { D with nx:=N,ct:=N,bk:=D.nx } σ2 H2)
noncomputable def pinsAt (fp:List Addr) (h:Heap):List (Addr × Obj):=fp.filterMap fun b=>(h.get? b).map fun o=>(b,o)
theorem mem_pinsAt {fp:List Addr} {h:Heap} {b:Addr} {o:Obj} (hb:b ∈ fp) (e:h.get? b = some o):(b,o) ∈ pinsAt fp h:=List.mem_filterMap.mpr ⟨b,hb,by rw [e]; rfl⟩
theorem of_pinsAt {fp : List Addr} {h : Heap} {p : Addr × Obj} (hp : p ∈ pinsAt fp h) : p.1 ∈ fp ∧ h.get? p.1 = some p.2 := by
  obtain ⟨b, hb, e⟩ := List.mem_filterMap.mp hp
  cases q : h.get? b with
  | none => simp_all
  | some o =>
    rw [q] at e
    have e' : (b, o) = p := Option.some.inj e
    subst e'
    exact ⟨hb, q⟩
theorem Inv.pinned {pins : List (Addr × Obj)} {σ : St} {H : Hp} {s : Shared} {fp : List Addr} (I : Inv X pins σ H s) (hf : ∀ b ∈ fp, FpOk X pins H b) (ho : ∀ b ∈ fp, ∃ o, s.heap.get? b = some o ∧ ∀ v, o.data ≠ .cell v) : Inv X (pins ++ pinsAt fp s.heap) σ H s :=
  I.pins_of fun p hp => (List.mem_append.mp hp).elim (fun z => I.pin p (List.mem_append_right _ z)) fun z => by
    obtain ⟨hb, e⟩ := of_pinsAt z
    obtain ⟨f0, f1, f2, _⟩ := hf p.1 hb
    obtain ⟨o, e', d⟩ := ho p.1 hb
    simp_all
theorem Inv.unpinned {pins pl:List (Addr × Obj)} {σ:St} {H:Hp} {s:Shared} (I:Inv X (pins ++ pl) σ H s):Inv X pins σ H s:=I.pins_of fun p hp=>I.pin p (List.mem_append_right _ (List.mem_append_left _ hp))
theorem ps_for {iter : Expr} {body : List Stmt} {wi : TI} {g : TG} {tb : TS} {pos : Pos} (hp : PassesOwn (model X.prog X.w) X.A X.env X.xe) (hc : X.calm = true) (hi : PI X tg iter wi) (hg : PG X tg g) (hb : PSs X body tb)
    (hs:∀ x,foldedSetIterable iter X.env x = pure x:=by intro _; rfl):PS X (.For tg iter body [] pos) (tFor wi g tb):=by
  intro pins s σ H D I h
  refine wpAny_For (thn (hi pins s σ H _ I h) fun v s1 h1=>thn h1 fun itv s2 h2=>?_) hs
  obtain ⟨it,fp,tn,J,H2,e,I2,T,st2,f2,W,⟨m0,w0⟩,turn⟩:=h2
  subst e
  have stat:∀ {H':Hp},(∀ b ∈ fp,H' b = none)→∀ b ∈ fp,FpOk X pins H' b:=fun hn b hb=>⟨hn b hb,(f2 b hb).2⟩
  refine codeAny_forLoop_any (fun n s'=>∃ i σ' H',Inv X pins σ' H' s'∧tn i s'.heap∧(∀ b ∈ fp,H' b = none)∧W i n σ' H') ?_ m0 ⟨0,σ,H2,I2,st2,fun b hb=>(f2 b hb).1,w0⟩
  rintro n s3 ⟨i,σ3,H3,I3,st3,fr3,w3⟩
  rcases turn i n σ3 H3 w3 with ⟨stop,qn⟩ | ⟨go,N,hN,step⟩
  · refine wpAny_passesOwn hp (thn (T.done X rfl rfl rfl hc i pins s3 σ3 H3 X.xe I3 (stat fr3) st3 stop) fun r s4 ⟨hr,I4⟩=>?_)
    subst hr
    exact wpAny_execs_nil ⟨σ3,H3,I4,qn⟩
  · refine wpAny_passesOwn hp (thn (T.item X rfl rfl rfl hc i pins s3 σ3 H3 X.xe I3 (stat fr3) st3 go) fun r s4 ⟨u,hr,h4⟩=>?_)
    subst hr
    refine wpAny_passesOwn hp (thn h4 fun _ s5 ⟨x,H5,I5,r5,y5,st5,fr5⟩=>?_)
    have I5':=I5.pinned (stat fr5) (T.obj _ _ st5)
    refine wpAny_passesOwn hp (thn (hg _ s5 σ3 H5 x u _ I5' r5 (step x H5 y5)) fun _ s6 ⟨σ6,H6,I6,q6⟩=>?_)
    refine wpAny_passesOwn hp (thn (hb _ s6 σ6 H6 _ I6 q6) fun f s7 q7=>?_)
    have again:∀ {σ7:St} {H7:Hp},Inv X (pins ++ pinsAt fp s5.heap) σ7 H7 s7→N σ7 H7→∃ m,m < n∧∃ i σ' H',Inv X pins σ' H' s7∧tn i s7.heap∧(∀ b ∈ fp,H' b = none)∧W i m σ' H':=fun {σ7 H7} I7 n7=>by
      obtain ⟨m',hm,w7⟩:=hN σ7 H7 n7
      refine ⟨m',hm,i + 1,σ7,H7,I7.unpinned,T.keep _ _ _ st5 fun b hb o e=>(I7.pin (b,o) (List.mem_append_right _ (List.mem_append_right _ (mem_pinsAt hb e)))).1,fun b hb=>?_,w7⟩
      obtain ⟨o,e,d⟩:=T.obj _ _ st5 b hb
      exact (I7.pin (b,o) (List.mem_append_right _ (List.mem_append_right _ (mem_pinsAt hb e)))).2.1
    cases f with
    | next=>obtain ⟨σ7,H7,I7,n7⟩:=q7; exact again I7 n7
    | cont=>obtain ⟨σ7,H7,I7,n7⟩:=q7; exact again I7 n7
    | brk=>obtain ⟨σ7,H7,I7,q7⟩:=q7; exact ⟨σ7,H7,I7.unpinned,q7⟩
    | ret v=>obtain ⟨x7,σ7,H7,I7,r7,q7⟩:=q7; exact ⟨x7,σ7,H7,I7.unpinned,r7,q7⟩
end
theorem for_list {K : PySem.W.Frag} {a : Addr} {xs : List V} {g : TG} {tb : TS} {D : Ends} {σ : St} {H : Hp} (Pv : Nat → St → Hp → Prop) (h0 : Pv 0 σ H) (hl : ∀ i σ H, i ≤ xs.length → Pv i σ H → SqL K H a xs)
    (hs:∀ i x σ H,xs[i]? = some x→Pv i σ H→g x σ H fun σ2 H2=>tb { D with nx:=Pv (i + 1),ct:=Pv (i + 1),bk:=D.nx } σ2 H2) (hd:∀ σ H,Pv xs.length σ H→D.nx σ H) :
    ∃ W:Nat→Nat→St→Hp→Prop,(∃ m,W 0 m σ H)∧∀ i m σ H,W i m σ H →
      ((Itl K a).stop i H∧D.nx σ H)∨((Itl K a).go i H∧∃ N:St→Hp→Prop,(∀ σ' H',N σ' H'→∃ m',m' < m∧W (i + 1) m' σ' H')∧∀ x H',(Itl K a).yld i H x H'→g x σ H' fun σ2 H2=>tb { D with nx:=N,ct:=N,bk:=D.nx } σ2 H2):=by
  refine ⟨fun i m σ H=>m = xs.length - i∧i ≤ xs.length∧Pv i σ H,⟨xs.length,by simp,Nat.zero_le _,h0⟩,?_⟩
  rintro i m σ H ⟨rfl,hi,p⟩
  have q:=hl i σ H hi p
  by_cases hlt:i < xs.length
  · refine .inr ⟨⟨xs,xs[i],q,by simp [hlt]⟩,Pv (i + 1),fun σ' H' p'=>⟨xs.length - (i + 1),by lia,rfl,hlt,p'⟩,fun x H' y=>?_⟩
    obtain ⟨e,y⟩:=y
    subst e
    exact hs i x σ _ (y xs q) p
  · have e:i = xs.length:=by lia
    subst e
    exact .inl ⟨⟨xs,q,Nat.le_refl _⟩,hd σ H p⟩
theorem for_range {lo : Int} {n : Nat} {g : TG} {tb : TS} {D : Ends} {σ : St} {H : Hp} (Pv : Nat → St → Hp → Prop) (h0 : Pv 0 σ H)
    (hs:∀ i σ H,i < n→Pv i σ H→g (.int (lo + i)) σ H fun σ2 H2=>tb { D with nx:=Pv (i + 1),ct:=Pv (i + 1),bk:=D.nx } σ2 H2) (hd:∀ σ H,Pv n σ H→D.nx σ H) :
    ∃ W:Nat→Nat→St→Hp→Prop,(∃ m,W 0 m σ H)∧∀ i m σ H,W i m σ H →
      ((Itr lo n).stop i H∧D.nx σ H)∨((Itr lo n).go i H∧∃ N:St→Hp→Prop,(∀ σ' H',N σ' H'→∃ m',m' < m∧W (i + 1) m' σ' H')∧∀ x H',(Itr lo n).yld i H x H'→g x σ H' fun σ2 H2=>tb { D with nx:=N,ct:=N,bk:=D.nx } σ2 H2):=by
  refine ⟨fun i m σ H=>m = n - i∧i ≤ n∧Pv i σ H,⟨n,by simp,Nat.zero_le _,h0⟩,?_⟩
  rintro i m σ H ⟨rfl,hi,p⟩
  by_cases hlt:i < n
  · refine .inr ⟨hlt,Pv (i + 1),fun σ' H' p'=>⟨n - (i + 1),by lia,rfl,hlt,p'⟩,fun x H' y=>?_⟩
    obtain ⟨e,y⟩:=y
    subst e y
    exact hs i σ _ hlt p
  · have e:i = n:=by lia
    subst e
    exact .inl ⟨Nat.le_refl _,hd σ H p⟩
end L2
namespace L2
open PySem PySem.Spec PyProof.Rows
noncomputable abbrev R2:=V→V→Hp→VK→Prop
noncomputable def OpR (X:Cx) (f:Value→Value→Sem Value) (r:R2):Prop :=
  ∀ (pins:List (Addr × Obj)) (s:Shared) (σ:St) (H:Hp) (x y:V) (v u:Value) (Q:VK),Inv X pins σ H s→RelV x v→RelV y u→r x y H Q →
    wpAny (model X.prog X.w) X.A (f v u) (EP X pins σ Q) X.xe s
noncomputable def UnR (X:Cx) (f:Value→Sem Value) (r:V→Hp→VK→Prop):Prop :=
  ∀ (pins:List (Addr × Obj)) (s:Shared) (σ:St) (H:Hp) (x:V) (v:Value) (Q:VK),Inv X pins σ H s→RelV x v→r x H Q →
    wpAny (model X.prog X.w) X.A (f v) (EP X pins σ Q) X.xe s
noncomputable def CallR (X:Cx) (f:Value) (r:List V→Hp→VK→Prop):Prop :=
  ∀ (pins:List (Addr × Obj)) (s:Shared) (σ:St) (H:Hp) (xs:List V) (us:List Value) (Q:VK),Inv X pins σ H s→Vals xs us→r xs H Q →
    wpAny (model X.prog X.w) X.A (call f us) (EP X pins σ Q) X.xe s
noncomputable def tOp (r:R2) (ta tb:TE):TE:=fun σ H Q=>ta σ H fun x H1=>tb σ H1 fun y H2=>r x y H2 Q
noncomputable def tUn (r:V→Hp→VK→Prop) (ta:TE):TE:=fun σ H Q=>ta σ H fun x H1=>r x H1 Q
inductive rI (C:Int→Int→Prop) (g:Int→Int→V) (x : V) (y : V) (H : Hp) (Q : VK) : Prop | mk (i : _) (j : _) : (x = .int i) → (y = .int j) → C i j → (Q (g i j) H) → rI C g x y H Q
inductive rI0 (g:Int→Int→V) (x : V) (y : V) (H : Hp) (Q : VK) : Prop | mk (i : _) (j : _) : (x = .int i) → (y = .int j) → (Q (g i j) H) → rI0 g x y H Q
inductive rU (g:Int→V) (x : V) (H : Hp) (Q : VK) : Prop | mk (i : _) : (x = .int i) → (Q (g i) H) → rU g x H Q
section
variable {X:Cx} {a b c:Expr} {ta tb tc:TE} {pos:Pos}
theorem binT (ha : PE X a ta) (hb : PE X b tb) {pins : List (Addr × Obj)} {s : Shared} {σ : St} {H : Hp} {R : V → V → Hp → Prop} (I : Inv X pins σ H s)
    (h:ta σ H fun x H1=>tb σ H1 fun y H2=>R x y H2) {Q:Value→Shared→Prop} {f:Value→Value→Sem Value}
    (hf:∀ v u s2 x y H2,Inv X pins σ H2 s2→RelV x v→RelV y u→R x y H2→wpAny (model X.prog X.w) X.A (f v u) Q X.xe s2) :
    wpAny (model X.prog X.w) X.A (eval a X.env) (fun v s₁=>wpAny (model X.prog X.w) X.A (eval b X.env) (fun u s₂=>wpAny (model X.prog X.w) X.A (f v u) Q X.xe s₂) X.xe s₁) X.xe s:=by
  refine thn (ha pins s σ H _ I h) fun v s1 ⟨x,H1,I1,r1,q1⟩=>?_
  refine thn (hb pins s1 σ H1 _ I1 q1) fun u s2 ⟨y,H2,I2,r2,q2⟩=>?_
  exact hf v u s2 x y H2 I2 r1 r2 q2
theorem pe_op {op:Operator} {r:R2} (ho:OpR X (binaryOp op) r) (ha:PE X a ta) (hb:PE X b tb):PE X (.BinOp a op b pos) (tOp r ta tb):=by
  intro pins s σ H Q I h
  exact wpAny_BinOp (binT ha hb I h fun v u s2 x y H2 I2 rx ry q=>ho pins s2 σ H2 x y v u Q I2 rx ry q)
theorem pe_un {op:UnaryOp} {r:V→Hp→VK→Prop} (ho:UnR X (unaryOp op) r) (ha:PE X a ta):PE X (.UnaryOp op a pos) (tUn r ta):=by
  intro pins s σ H Q I h
  exact UnaryOp_ (thn (ha pins s σ H _ I h) fun v s1 ⟨x,H1,I1,r1,q1⟩=>ho pins s1 σ H1 x v Q I1 r1 q1)
theorem opI {f : Value → Value → Sem Value} {C : Int → Int → Prop} {g : Int → Int → Int}
    (rule:∀ (i j:Int) (t u:Tok) (s:Shared) (Q:Value→Shared→Prop) (E:Value→Shared→Prop),C i j→Q (.int (g i j) s.toks) { s with toks:=s.toks + 1 }→wpAny (model X.prog X.w) X.A (f (.int i t) (.int j u)) Q E s) :
    OpR X f (rI C fun i j=>.int (g i j)):=by
  intro pins s σ H x y v u Q I rx ry h
  obtain ⟨i,j,rfl,rfl,hc,q⟩:=h
  obtain ⟨t,rfl⟩:=rx
  obtain ⟨t',rfl⟩:=ry
  exact rule i j t t' s _ _ hc ⟨.int (g i j),H,I.tok _,⟨_,rfl⟩,q⟩
theorem opI0 {f : Value → Value → Sem Value} {g : Int → Int → Int}
    (rule:∀ (i j:Int) (t u:Tok) (s:Shared) (Q:Value→Shared→Prop) (E:Value→Shared→Prop),Q (.int (g i j) s.toks) { s with toks:=s.toks + 1 }→wpAny (model X.prog X.w) X.A (f (.int i t) (.int j u)) Q E s) :
    OpR X f (rI0 fun i j=>.int (g i j)):=by
  intro pins s σ H x y v u Q I rx ry h
  obtain ⟨i,j,rfl,rfl,q⟩:=h
  obtain ⟨t,rfl⟩:=rx
  obtain ⟨t',rfl⟩:=ry
  exact rule i j t t' s _ _ ⟨.int (g i j),H,I.tok _,⟨_,rfl⟩,q⟩
theorem opB0 {f : Value → Value → Sem Value} {g : Int → Int → Bool}
    (rule:∀ (i j:Int) (t u:Tok) (s:Shared) (Q:Value→Shared→Prop) (E:Value→Shared→Prop),Q (.bool (g i j)) s→wpAny (model X.prog X.w) X.A (f (.int i t) (.int j u)) Q E s) :
    OpR X f (rI0 fun i j=>.bl (g i j)):=by
  intro pins s σ H x y v u Q I rx ry h
  obtain ⟨i,j,rfl,rfl,q⟩:=h
  obtain ⟨t,rfl⟩:=rx
  obtain ⟨t',rfl⟩:=ry
  exact rule i j t t' s _ _ ⟨.bl (g i j),H,I,rfl,q⟩
noncomputable def CDiv (i j:Int):Prop:=0 < j∧j < 1073741824
noncomputable def CPow (i j:Int):Prop:=0 ≤ j∧j ≤ 1000000∧i.natAbs < 2 ^ 64
noncomputable def CMul (i j:Int):Prop:=(-(2 ^ 64) < i∧i < 2 ^ 64)∨(-(2 ^ 64) < j∧j < 2 ^ 64)
theorem CMul.ok {i j:Int} (h:CMul i j):IntMulOk i j:=by
  rcases h with ⟨h1,h2⟩ | ⟨h1,h2⟩
  · exact .of_left (intBits_le_64 h1 h2)
  · exact .of_right (intBits_le_64 h1 h2)
theorem op_add:OpR X (binaryOp .Add) (rI0 fun i j=>.int (i + j)):=opI0 fun _ _ _ _ _ _ _ q=>add_int q
theorem op_sub:OpR X (binaryOp .Sub) (rI0 fun i j=>.int (i - j)):=opI0 fun _ _ _ _ _ _ _ q=>sub_int q
theorem op_mul:OpR X (binaryOp .Mult) (rI CMul fun i j=>.int (i * j)):=opI fun _ _ _ _ _ _ _ hc q=>mul_int q hc.ok
theorem op_fdiv:OpR X (binaryOp .FloorDiv) (rI CDiv fun i j=>.int (i / j)):=opI fun i j _ _ _ _ _ hc q=>by
  have h1:(0:Int) < j:=hc.1
  have h2:j < 1073741824:=hc.2
  exact floordiv_int (by lia) (by rw [Int.fdiv_eq_ediv_of_nonneg i (by lia)]; exact q) (.inl (PyProof.noPylong_small (by lia)))
theorem op_mod : OpR X (binaryOp .Mod) (rI (fun _ j => 0 < j) fun i j => .int (i % j)) := opI fun i j _ _ _ _ _ hc q => by
  exact mod_int' (by lia) (by rw [Int.fmod_eq_emod_of_nonneg i (by lia)]; exact q)
theorem op_pow:OpR X (binaryOp .Pow) (rI CPow fun i j=>.int (i ^ j.toNat)):=opI fun _ _ _ _ _ _ _ hc q=>pow_int_small hc.1 hc.2.1 hc.2.2 q
theorem unI {f : Value → Sem Value} {g : Int → Int}
    (rule:∀ (i:Int) (t:Tok) (s:Shared) (Q:Value→Shared→Prop) (E:Value→Shared→Prop),Q (.int (g i) s.toks) { s with toks:=s.toks + 1 }→wpAny (model X.prog X.w) X.A (f (.int i t)) Q E s) :
    UnR X f (rU fun i=>.int (g i)):=by
  intro pins s σ H x v Q I rx h
  obtain ⟨i,rfl,q⟩:=h
  obtain ⟨t,rfl⟩:=rx
  exact rule i t s _ _ ⟨.int (g i),H,I.tok _,⟨_,rfl⟩,q⟩
theorem un_neg:UnR X (unaryOp .USub) (rU fun i=>.int (-i)):=unI fun _ _ _ _ _ q=>neg_int q
end
noncomputable def scal:V→V→Bool
  | .non,.non=>true | .non,.int _=>true | .int _,.non=>true | .non,.bl _=>true | .bl _,.non=>true | .non,.str _=>true | .str _,.non=>true
  | .int _,.int _=>true | .bl _,.bl _=>true | .str _,.str _=>true | .byt _,.byt _=>true
  | .int _,.str _=>true | .str _,.int _=>true | .bl _,.str _=>true | .str _,.bl _=>true
  | _,_=>false
noncomputable def rEq:R2:=fun x y H Q=>scal x y = true∧Q (.bl (decide (x = y))) H
noncomputable def rNe:R2:=fun x y H Q=>scal x y = true∧Q (.bl (!decide (x = y))) H
theorem dec_int {i j:Int}:decide (V.int i = V.int j) = (i == j):=by
  rw [Bool.eq_iff_iff]
  simp
theorem dec_bl {i j:Bool}:decide (V.bl i = V.bl j) = (i == j):=by
  rw [Bool.eq_iff_iff]
  simp
theorem dec_str {i j:Str}:decide (V.str i = V.str j) = (i == j):=by
  rw [Bool.eq_iff_iff]
  simp
theorem dec_byt {i j : Array UInt8} : decide (V.byt i = V.byt j) = (i.toList == j.toList) := by
  rw [Bool.eq_iff_iff]
  simp
section
variable {X:Cx} {a b c:Expr} {ta tb tc:TE} {pos:Pos}
theorem fin_bl {pins:List (Addr × Obj)} {σ:St} {H:Hp} {s:Shared} {Q:VK} {k k':Bool} (I:Inv X pins σ H s) (q:Q (.bl k) H) (e:k = k'):EP X pins σ Q (.bool k') s:=by
  subst e
  exact ⟨.bl k,H,I,rfl,q⟩
theorem op_eq:OpR X (compareOp .Eq) rEq:=by
  intro pins s σ H x y v u Q I rx ry h
  obtain ⟨hs,q⟩:=h
  cases x with
  | non =>
    cases rx
    cases y with
    | non=>cases ry; exact PySem.EqNone.eq_none_none (fin_bl I q (by simp))
    | bl j=>cases ry; exact PySem.EqNone.eq_none_bool (fin_bl I q (by simp))
    | int j=>obtain ⟨t',rfl⟩:=ry; exact PySem.EqNone.eq_none_int (fin_bl I q (by simp))
    | str j=>obtain ⟨t',rfl⟩:=ry; exact PySem.EqNone.eq_none_str (fin_bl I q (by simp))
    | _=>exact absurd (show false = true from hs) Bool.false_ne_true
  | bl i =>
    cases rx
    cases y with
    | non=>cases ry; exact PySem.EqNone.eq_bool_none (fin_bl I q (by simp))
    | bl j=>cases ry; exact eq_bool (fin_bl I q dec_bl)
    | str j=>obtain ⟨t',rfl⟩:=ry; exact PySem.EqMixed.eq_bool_str (fin_bl I q (by simp))
    | _=>exact absurd (show false = true from hs) Bool.false_ne_true
  | int i =>
    obtain ⟨t,rfl⟩:=rx
    cases y with
    | non=>cases ry; exact PySem.EqNone.eq_int_none (fin_bl I q (by simp))
    | int j=>obtain ⟨t',rfl⟩:=ry; exact eq_int (fin_bl I q dec_int)
    | str j=>obtain ⟨t',rfl⟩:=ry; exact PySem.EqMixed.eq_int_str (fin_bl I q (by simp))
    | _=>exact absurd (show false = true from hs) Bool.false_ne_true
  | str i =>
    obtain ⟨t,rfl⟩:=rx
    cases y with
    | non=>cases ry; exact PySem.EqNone.eq_str_none (fin_bl I q (by simp))
    | bl j=>cases ry; exact PySem.EqMixed.eq_str_bool (fin_bl I q (by simp))
    | int j=>obtain ⟨t',rfl⟩:=ry; exact PySem.EqMixed.eq_str_int (fin_bl I q (by simp))
    | str j=>obtain ⟨t',rfl⟩:=ry; exact eq_str (fin_bl I q dec_str)
    | _=>exact absurd (show false = true from hs) Bool.false_ne_true
  | byt i =>
    obtain ⟨t,rfl⟩:=rx
    cases y with
    | byt j=>obtain ⟨t',rfl⟩:=ry; exact PySem.W.eq_bytes (fin_bl I q dec_byt)
    | _=>exact absurd (show false = true from hs) Bool.false_ne_true
  | _=>cases y <;> exact absurd (show false = true from hs) Bool.false_ne_true
theorem op_ne:OpR X (compareOp .NotEq) rNe:=by
  intro pins s σ H x y v u Q I rx ry h
  obtain ⟨hs,q⟩:=h
  cases x with
  | non =>
    cases rx
    cases y with
    | non=>cases ry; exact PySem.EqNone.ne_none_none (fin_bl I q (by simp))
    | bl j=>cases ry; exact PySem.EqNone.ne_none_bool (fin_bl I q (by simp))
    | int j=>obtain ⟨t',rfl⟩:=ry; exact PySem.EqNone.ne_none_int (fin_bl I q (by simp))
    | str j=>obtain ⟨t',rfl⟩:=ry; exact PySem.EqNone.ne_none_str (fin_bl I q (by simp))
    | _=>exact absurd (show false = true from hs) Bool.false_ne_true
  | bl i =>
    cases rx
    cases y with
    | non=>cases ry; exact PySem.EqNone.ne_bool_none (fin_bl I q (by simp))
    | bl j=>cases ry; exact ne_bool (fin_bl I q (congrArg not dec_bl))
    | str j=>obtain ⟨t',rfl⟩:=ry; exact PySem.EqMixed.ne_bool_str (fin_bl I q (by simp))
    | _=>exact absurd (show false = true from hs) Bool.false_ne_true
  | int i =>
    obtain ⟨t,rfl⟩:=rx
    cases y with
    | non=>cases ry; exact PySem.EqNone.ne_int_none (fin_bl I q (by simp))
    | int j=>obtain ⟨t',rfl⟩:=ry; exact ne_int (fin_bl I q (congrArg not dec_int))
    | str j=>obtain ⟨t',rfl⟩:=ry; exact PySem.EqMixed.ne_int_str (fin_bl I q (by simp))
    | _=>exact absurd (show false = true from hs) Bool.false_ne_true
  | str i =>
    obtain ⟨t,rfl⟩:=rx
    cases y with
    | non=>cases ry; exact PySem.EqNone.ne_str_none (fin_bl I q (by simp))
    | bl j=>cases ry; exact PySem.EqMixed.ne_str_bool (fin_bl I q (by simp))
    | int j=>obtain ⟨t',rfl⟩:=ry; exact PySem.EqMixed.ne_str_int (fin_bl I q (by simp))
    | str j=>obtain ⟨t',rfl⟩:=ry; exact ne_str (fin_bl I q (congrArg not dec_str))
    | _=>exact absurd (show false = true from hs) Bool.false_ne_true
  | byt i =>
    obtain ⟨t,rfl⟩:=rx
    cases y with
    | byt j=>obtain ⟨t',rfl⟩:=ry; exact PySem.W.ne_bytes (fin_bl I q (congrArg not dec_byt))
    | _=>exact absurd (show false = true from hs) Bool.false_ne_true
  | _=>cases y <;> exact absurd (show false = true from hs) Bool.false_ne_true
theorem op_lt:OpR X (compareOp .Lt) (rI0 fun i j=>.bl (decide (i < j))):=opB0 fun _ _ _ _ _ _ _ q=>lt_int q
theorem op_gt:OpR X (compareOp .Gt) (rI0 fun i j=>.bl (decide (j < i))):=opB0 fun _ _ _ _ _ _ _ q=>gt_int q
theorem op_ge:OpR X (compareOp .GtE) (rI0 fun i j=>.bl (decide (j ≤ i))):=opB0 fun _ _ _ _ _ _ _ q=>ge_int q
theorem op_lt_str:OpR X (compareOp .Lt) (fun x y H Q=>∃ i j,x = .str i∧y = .str j∧Q (.bl (decide (i.cps.toList < j.cps.toList))) H):=by
  intro pins s σ H x y v u Q I rx ry h
  obtain ⟨i,j,rfl,rfl,q⟩:=h
  obtain ⟨t,rfl⟩:=rx
  obtain ⟨t',rfl⟩:=ry
  exact lt_str (fin_bl I q rfl)
theorem op_in_str:OpR X (compareOp .In) (fun x y H Q=>∃ i j,x = .str i∧y = .str j∧Q (.bl (!(Builtin.Str.occurrences j i 0 j.length 1).isEmpty)) H):=by
  intro pins s σ H x y v u Q I rx ry h
  obtain ⟨i,j,rfl,rfl,q⟩:=h
  obtain ⟨t,rfl⟩:=rx
  obtain ⟨t',rfl⟩:=ry
  exact in_str (fin_bl I q rfl)
theorem op_isN : OpR X (compareOp .Is) (fun x y H Q => y = .non ∧ Q (.bl (decide (x = .non))) H) := by
  intro pins s σ H x y v u Q I rx ry h
  obtain ⟨rfl, q⟩ := h
  cases ry
  refine is_none_gen (fin_bl I q ?_)
  cases x <;> first
    | lia
    | (obtain ⟨t, rfl⟩ := rx; rfl)
theorem op_notN : OpR X (compareOp .IsNot) (fun x y H Q => y = .non ∧ Q (.bl (!decide (x = .non))) H) := by
  intro pins s σ H x y v u Q I rx ry h
  obtain ⟨rfl, q⟩ := h
  cases ry
  refine isnot_none_gen (fin_bl I q ?_)
  cases x <;> first
    | lia
    | (obtain ⟨t, rfl⟩ := rx; rfl)
theorem nomark (b : Expr) {op : CmpOp} (h : op ≠ .In := by decide) (h2 : op ≠ .NotIn := by decide) : behindInMarks op b = false := by
  have e1 : (op == CmpOp.In) = false := by simp_all
  have e2 : (op == CmpOp.NotIn) = false := by grind
  cases b <;> simp [behindInMarks, e1, e2]
theorem pe_cmpR {op:CmpOp} {r:R2} (ho:OpR X (compareOp op) r) (ha:PE X a ta) (hb:PE X b tb) (hm:behindInMarks op b = false):PE X (.Compare a [op] [b] pos) (tOp r ta tb):=by
  intro pins s σ H Q I h
  exact wpAny_Compare1 (binT ha hb I h fun v u s2 x y H2 I2 rx ry q=>ho pins s2 σ H2 x y v u Q I2 rx ry q) hm
noncomputable def tTest (t:TE):TT:=fun σ H Q=>t σ H fun x H'=>∃ k,x = .bl k∧Q k H'
theorem pt_cmpR {op:CmpOp} {r:R2} (ho:OpR X (compareOp op) r) (ha:PE X a ta) (hb:PE X b tb) (hm:behindInMarks op b = false):PT X (.Compare a [op] [b] pos) (tTest (tOp r ta tb)):=by
  intro pins s σ H Q I h
  refine wpAny_isTrue_Compare1 (thn (ha pins s σ H _ I h) fun v s1 ⟨x,H1,I1,r1,q1⟩=>thn (hb pins s1 σ H1 _ I1 q1) fun u s2 ⟨y,H2,I2,r2,q2⟩ =>
    thn (ho pins s2 σ H2 x y v u _ I2 r1 r2 q2) fun c s3 ⟨z,H3,I3,r3,k,e,q3⟩=>?_) hm
  subst e
  cases r3
  exact wpAny_truthy_bool ⟨H3,I3,q3⟩
theorem line63 : (sizeLine : Nat) < 2 ^ 63 := by decide
theorem op_add_str:OpR X (binaryOp .Add) (fun x y H Q=>∃ i j,x = .str i∧y = .str j∧i.length + j.length ≤ sizeLine∧Q (.str (i ++ j)) H):=by
  intro pins s σ H x y v u Q I rx ry h
  obtain ⟨i,j,rfl,rfl,hz,q⟩:=h
  obtain ⟨t,rfl⟩:=rx
  obtain ⟨t',rfl⟩:=ry
  exact add_str (fun t' tk=>⟨.str (i ++ j),H,I.tok _,⟨_,rfl⟩,q⟩) hz
theorem vals1 {x:V} {us:List Value} (r:Vals [x] us):∃ u,us = [u]∧RelV x u:=by
  cases r with
  | cons r1 r2=>cases r2; exact ⟨_,rfl,r1⟩
theorem vals2 {x y:V} {us:List Value} (r:Vals [x,y] us):∃ u w',us = [u,w']∧RelV x u∧RelV y w':=by
  cases r with
  | cons r1 r2 =>
    cases r2 with
    | cons r3 r4=>cases r4; exact ⟨_,_,rfl,r1,r3⟩
theorem call_max2 (hc:X.calm = true):CallR X (.builtin "max") (fun xs H Q=>∃ i j,xs = [.int i,.int j]∧Q (.int (if j > i then j else i)) H):=by
  intro pins s σ H xs us Q I r h
  obtain ⟨i,j,rfl,q⟩:=h
  obtain ⟨u,w',rfl,⟨t,rfl⟩,⟨t',rfl⟩⟩:=vals2 r
  refine max_two_ints (I.ok.hd hc) fun h' tk k=>⟨_,H,I.kept k,?_,q⟩
  by_cases hj:j > i
  · rw [if_pos hj,if_pos hj]; exact ⟨_,rfl⟩
  · rw [if_neg hj,if_neg hj]; exact ⟨_,rfl⟩
theorem call_int1:CallR X (.type "int") (fun xs H Q=>(∃ i,xs = [.int i]∧Q (.int i) H)∨∃ k,xs = [.bl k]∧Q (.int (if k then 1 else 0)) H):=by
  intro pins s σ H xs us Q I r h
  rcases h with ⟨i,rfl,q⟩ | ⟨k,rfl,q⟩
  · obtain ⟨u,rfl,t,rfl⟩:=vals1 r
    exact call_int_int ⟨.int i,H,I,⟨_,rfl⟩,q⟩
  · obtain ⟨u,rfl,r1⟩:=vals1 r
    cases r1
    exact call_int_bool ⟨.int (if k then 1 else 0),H,I.tok _,⟨_,rfl⟩,q⟩
theorem call_ord:CallR X (.builtin "ord") (fun xs H Q=>∃ x,xs = [.str x]∧x.length = 1∧Q (.int (x.cps.getD 0 0:Nat)) H):=by
  intro pins s σ H xs us Q I r h
  obtain ⟨x,rfl,hz,q⟩:=h
  obtain ⟨u,rfl,t,rfl⟩:=vals1 r
  exact ord_of_one hz ⟨.int _,H,I.tok _,⟨_,rfl⟩,q⟩
end
end L2
namespace L2
open PySem PySem.Spec PyProof.Rows
structure ObjM (h:Heap) (x dx C:Addr) (mA:Str→Option Value):Prop where
  obj:h.get? x = some (PySem.W.instObj C dx)
  ns:h.Ns1 dx mA
  ne:dx ≠ x
theorem lookIn_ns {h : Heap} {dx : Addr} {mA : Str → Option Value} (n : h.Ns1 dx mA) : ∃ od, h.get? dx = some od ∧ ∀ name, PySem.W.lookIn name od = some (mA name) := by
  obtain ⟨o, es, ep, ho, hd, hk, _, hm⟩ := n
  refine ⟨o, ho, fun name => ?_⟩
  have e := hm name
  unfold nsFind findBy at e
  rw [← Array.find?_toList] at e
  unfold PySem.W.lookIn
  rw [hd]
  dsimp only
  split
  · simp_all
  · rename_i q
    rw [q] at e
    have a : es.toList.any (·.refKey) = false := by
      rw [List.any_eq_false]
      intro y hy
      obtain ⟨z, t, hkey⟩ := hk y (Array.mem_toList_iff.mp hy)
      simp [DictEntry.refKey, hkey]
    have a' : ¬ es.toList.any (·.refKey) = true := by rw [a]; exact Bool.false_ne_true
    rw [if_neg a']
    exact congrArg some e
theorem ObjM.look {h:Heap} {x dx C:Addr} {mA:Str→Option Value} (I:ObjM h x dx C mA):∃ od,PySem.W.InstAt h x (PySem.W.instObj C dx) C (some od)∧∀ name,PySem.W.lookIn name od = some (mA name) :=
  let ⟨od,ho,hl⟩:=lookIn_ns I.ns
  ⟨od,⟨I.obj,rfl,rfl,ho⟩,hl⟩
section
variable {prog:Program} {w:World} {A:Around} {E:Value→Shared→Prop} {s:Shared} {K:PySem.W.Frag} {x dx C f:Addr} {mA:Str→Option Value} {name:Str} {v:Value}
theorem get_map {expr : Bool} {Q : Value → Shared → Prop} (X : K.In s.heap) (I : ObjM s.heap x dx C mA) (hg : PySem.W.plainGet K C name = true) (hh : PySem.W.hasDictIn K C = true)
    (ha:PySem.W.findIn K (.ref C) name = some none) (hv:mA name = some v) (hv':PySem.W.handedIn v = true) (h:Q v { s with toks:=s.toks + 1 }) :
    wpAny (model prog w) A (getAttr (.ref x) name expr) Q E s:=by
  obtain ⟨od,J,hl⟩:=I.look
  exact PySem.W.get_value X J (PySem.W.plainGet_of hg).1 (PySem.W.findObj_own hh ha rfl (by rw [hl,hv])) hv' h
theorem get_meth {pl : Sem Bool} {Q : Value × List Value → Shared → Prop} (X : K.In s.heap) (I : ObjM s.heap x dx C mA) (hg : PySem.W.plainGet K C name = true)
    (hf:PySem.W.findIn K (.ref C) name = some (some (.ref f))) (ht:PySem.W.isFn K (.ref f) = true) (hv:mA name = none) (h:Q (.ref f,[.ref x]) s) :
    wpAny (model prog w) A (getMethod (.ref x) name pl) Q E s:=by
  obtain ⟨od,J,hl⟩:=I.look
  exact PySem.W.method_fn X J (PySem.W.plainGet_of hg).1 (PySem.W.plainGet_of hg).2 hf (beq_iff_eq.mp ht) (by show (PySem.W.lookIn name od).map (·.isSome) = some false; rw [hl,hv]; rfl) h
theorem set_map {ns : List Str} {Q : Unit → Shared → Prop} (X : K.In s.heap) (I : ObjM s.heap x dx C mA)
    (hs:PySem.W.findIn K (.ref C) "__setattr__" = some (some (.builtin "object.__setattr__"))) (hp:PySem.W.plainOver K C = true) (ht:PySem.W.takerIn K C name = some none) (hh:PySem.W.hasDictIn K C = true)
    (hw:PySem.Within mA ns) (hsz:ns.length ≤ sizeLine)
    (h:∀ h',ObjM h' x dx C (fun y=>if y = name then some v else mA y)→Heap.SameBut dx s.heap h'→Q () { s with heap:=h',toks:=s.toks + 2 }) :
    wpAny (model prog w) A (setAttr (.ref x) name v) Q E s:=by
  obtain ⟨od,J,hl⟩:=I.look
  refine PySem.W.set_plain X J hs (PySem.W.osa_open (s:={ s with toks:=s.toks + 1 }) (r:=none) X J hp ht fun b=>?_)
  obtain ⟨cd,hc,hd'⟩:=PySem.W.any_some hh
  have hx:s.heap.get? x = some ⟨.ref C,some dx,.plain,#[]⟩:=I.obj
  refine wpAny_bind (wpAny_pure (wpAny_bind (wpAny_bind (wpAny_loadPart hx (wpAny_bind (PySem.W.Looks.here (s:={ s with toks:=s.toks + 1 }) (PySem.W.looks_clsIn X hc) ?_))))))
  rw [hd']
  refine wpAny_pure (a:=some dx) (wpAny_bind (wpAny_pure (wpAny_bind ?_)))
  refine wpAny_nsSet1 (s:={ s with toks:=s.toks + 1 }) I.ns fun h' hn2 hs2=>?_
  obtain ⟨oD,esD,epD,hoD,hdD,hcD⟩:=hn2.count (PySem.Within.cons name v hw)
  refine wpAny_bind (wpAny_lookBehind hoD (by rw [hdD]; exact pastItsLine_dict (Nat.le_trans hcD (by rw [List.length_cons]; lia))) ?_)
  exact wpAny_pure (h _ ⟨(hs2.2 _ (Ne.symm I.ne)).trans I.obj,hn2,I.ne⟩ hs2)
theorem make_map {R : Result → Shared → Prop} {vs : List Value} {kw : List (Str × Value)} (X : K.In s.heap) (hm : PySem.W.makesIn K C = true)
    (hi:PySem.W.findIn K (.ref C) "__init__" = some (some (.ref f))) (hf:PySem.W.typeIn K (.ref f) = some (.type "function"))
    (h:codeAny (model prog w) (A.under (.builtin "type.__call__" ⟨.ref C :: vs,kw⟩)) (.call (.ref f) ⟨.ref (s.heap.objs.size + 1) :: vs,kw⟩) (PySem.W.InitBack (s.heap.objs.size + 1) R)
      { s with heap:=(s.heap.push PySem.W.emptyDict).push (PySem.W.instObj C s.heap.objs.size) }) :
    codeAny (model prog w) A (.call (.ref C) ⟨vs,kw⟩) R s:=by
  obtain ⟨hh,g,d,t,os⟩:=s
  exact PySem.W.make_core (PySem.W.makes_of X hm) (PySem.W.looks_findIn X hi) (fun self=>PySem.W.bind_fn X self hf) (.inl rfl) h
end
noncomputable def putF (f:Str) (v:V):List (Str × V)→List (Str × V)
  | []=>[(f,v)]
  | (g,x) :: r=>if g = f then (g,v) :: r else (g,x) :: putF f v r
theorem lookup_putF (f g:Str) (v:V):∀ fs:List (Str × V),(putF f v fs).lookup g = if g = f then some v else fs.lookup g
  | []=>by
    show List.lookup g [(f,v)] = _
    by_cases h:g = f
    · have hb:(g == f) = true:=beq_iff_eq.mpr h
      simp only [List.lookup,hb,if_pos h]
    · have hb:(g == f) = false:=beq_eq_false_iff_ne.mpr h
      simp only [List.lookup,hb,if_neg h]
  | (k,x) :: r=>by
    have ih:=lookup_putF f g v r
    rw [show putF f v ((k,x) :: r) = (if k = f then (k,v) :: r else (k,x) :: putF f v r) from rfl]
    by_cases hk:k = f
    · rw [if_pos hk]
      by_cases h:g = k
      · have hb:(g == k) = true:=beq_iff_eq.mpr h
        simp only [List.lookup,hb,if_pos (h.trans hk)]
      · have hb:(g == k) = false:=beq_eq_false_iff_ne.mpr h
        simp only [List.lookup,hb,if_neg (fun e:g = f=>h (e.trans hk.symm))]
    · rw [if_neg hk]
      by_cases h:g = k
      · have hb:(g == k) = true:=beq_iff_eq.mpr h
        simp only [List.lookup,hb,if_neg (fun e:g = f=>hk (h.symm.trans e))]
      · have hb:(g == k) = false:=beq_eq_false_iff_ne.mpr h
        simp only [List.lookup,hb]
        exact ih
theorem keys_putF (f:Str) (v:V):∀ fs:List (Str × V),f ∈ (putF f v fs).map (·.1)∧∀ g,g ∈ fs.map (·.1)→g ∈ (putF f v fs).map (·.1)
  | []=>⟨by simp [putF],fun g h=>by simp at h⟩
  | (k,x) :: r=>by
    obtain ⟨i1,i2⟩:=keys_putF f v r
    rw [show putF f v ((k,x) :: r) = (if k = f then (k,v) :: r else (k,x) :: putF f v r) from rfl]
    by_cases hk:k = f
    · rw [if_pos hk]
      subst hk
      exact ⟨by simp,fun g h=>by simpa using h⟩
    · rw [if_neg hk]
      refine ⟨?_,fun g h=>?_⟩
      · rw [List.map_cons]
        exact List.mem_cons_of_mem _ i1
      · rw [List.map_cons] at h ⊢
        rcases List.mem_cons.mp h with e | e
        · exact List.mem_cons.mpr (.inl e)
        · exact List.mem_cons_of_mem _ (i2 g e)
theorem length_putF (f:Str) (v:V):∀ fs:List (Str × V),(putF f v fs).length ≤ fs.length + 1
  | []=>by simp [putF]
  | (k,x) :: r=>by
    have ih:=length_putF f v r
    rw [show putF f v ((k,x) :: r) = (if k = f then (k,v) :: r else (k,x) :: putF f v r) from rfl]
    by_cases hk:k = f
    · rw [if_pos hk,List.length_cons,List.length_cons]; lia
    · rw [if_neg hk,List.length_cons,List.length_cons]; lia
theorem RelO.some_of {v:V} {o:Option Value} (r:RelO (some v) o):∃ u,o = some u∧RelV v u:=by
  cases o with
  | none=>exact (show False from r).elim
  | some u=>exact ⟨u,rfl,r⟩
theorem RelO.none_of {o:Option Value} (r:RelO none o):o = none:=by
  cases o with
  | none=>rfl
  | some u=>exact (show False from r).elim
theorem handed_of {v:V} {u:Value} (r:RelV v u):PySem.W.handedIn u = true:=by
  cases v with
  | non=>cases (show u = Value.none from r); rfl
  | bl b=>cases (show u = Value.bool b from r); rfl
  | int i=>obtain ⟨t,e⟩:=(show ∃ t,u = Value.int i t from r); cases e; rfl
  | str x=>obtain ⟨t,e⟩:=(show ∃ t,u = Value.str x t from r); cases e; rfl
  | byt b=>obtain ⟨t,e⟩:=(show ∃ t,u = Value.bytes b t from r); cases e; rfl
  | flt b=>obtain ⟨t,e⟩:=(show ∃ t,u = Value.float b t from r); cases e; rfl
  | ref a=>cases (show u = Value.ref a from r); rfl
  | ty n=>cases (show u = Value.type n from r); rfl
section
variable {P:Program} {w:World} {H H':Hp} {h h':Heap} {a C dx:Addr} {fs fs':List (Str × V)}
theorem ins_get (hok:HOk P w H h) (e:H a = some (.ins C dx fs)):∃ mA,ObjM h a dx C mA∧(∀ f,RelO (fs.lookup f) (mA f))∧PySem.Within mA (fs.map (·.1))∧fs.length ≤ 1000∧H dx = some (.own a):=by
  obtain ⟨d,z,ne,ob,mA,n,r,q⟩:=(show ObjOk P w H h a (.ins C dx fs) from hok a _ e)
  exact ⟨mA,⟨ob,n,ne⟩,r,q,z,d⟩
end
structure Cls (K:PySem.W.Frag) (C:Addr):Prop where
  pg:PySem.W.plainGet K C Str.empty = true
  hd:PySem.W.hasDictIn K C = true
  po:PySem.W.plainOver K C = true
  sa:PySem.W.findIn K (.ref C) "__setattr__" = some (some (.builtin "object.__setattr__"))
theorem Cls.get {K:PySem.W.Frag} {C:Addr} (c:Cls K C) (f:Str):PySem.W.plainGet K C f = true:=c.pg
noncomputable def NoAttr (K:PySem.W.Frag) (C:Addr) (f:Str):Prop:=PySem.W.findIn K (.ref C) f = some none
theorem NoAttr.taker {K:PySem.W.Frag} {C:Addr} {f:Str} (n:NoAttr K C f):PySem.W.takerIn K C f = some none:=by
  unfold PySem.W.takerIn
  rw [show PySem.W.findIn K (.ref C) f = some none from n]
  rfl
structure Con (K:PySem.W.Frag) (C:Addr) (f:Str) (v:V) (u:Value):Prop where
  at_:PySem.W.findIn K (.ref C) f = some (some u)
  rel:RelV v u
  get:PySem.W.specialIn K u "__get__" = some none
  cp:PySem.W.copiedNames.contains f = false
structure Meth (K:PySem.W.Frag) (C:Addr) (m:Str) (f:Addr):Prop where
  at_:PySem.W.findIn K (.ref C) m = some (some (.ref f))
  fn:PySem.W.isFn K (.ref f) = true
  kp:PySem.W.keepIn K (.ref f) = true
section
variable {X:Cx} {pins:List (Addr × Obj)} {σ:St} {H:Hp} {s:Shared} {a C dx:Addr} {fs:List (Str × V)} {f:Str} {v:V} {A:Around} {E:Value→Shared→Prop}
theorem getattr_ok {b : Bool} {Q : Value → Shared → Prop} (I : Inv X pins σ H s) (e : H a = some (.ins C dx fs)) (c : Cls X.K C) (n : NoAttr X.K C f) (l : fs.lookup f = some v)
    (h:∀ u s',Inv X pins σ H s'→RelV v u→Q u s'):wpAny (model X.prog X.w) A (getAttr (.ref a) f b) Q E s:=by
  obtain ⟨mA,O,r,_,_,_⟩:=ins_get I.hok e
  obtain ⟨u,hu,ru⟩:=RelO.some_of (v:=v) (o:=mA f) (by rw [← l]; exact r f)
  exact get_map I.kIn O (c.get f) c.hd n hu (handed_of ru) (h u _ (I.tok _) ru)
theorem getmeth_ok {m : Str} {g : Addr} {pl : Sem Bool} {Q : Value × List Value → Shared → Prop} (I : Inv X pins σ H s) (e : H a = some (.ins C dx fs)) (c : Cls X.K C) (k : Meth X.K C m g) (l : fs.lookup m = none)
    (h:Q (.ref g,[.ref a]) s):wpAny (model X.prog X.w) A (getMethod (.ref a) m pl) Q E s:=by
  obtain ⟨mA,O,r,_,_,_⟩:=ins_get I.hok e
  have hn:mA m = none:=RelO.none_of (by rw [← l]; exact r m)
  exact get_meth I.kIn O (c.get m) k.at_ k.fn hn h
theorem setattr_ok {y : V} {u : Value} {Q : Unit → Shared → Prop} (I : Inv X pins σ H s) (e : H a = some (.ins C dx fs)) (c : Cls X.K C) (n : NoAttr X.K C f) (hl : fs.length < 1000) (ry : RelV y u)
    (h:∀ s',Inv X pins σ (upd H a (.ins C dx (putF f y fs))) s'→Q () s'):wpAny (model X.prog X.w) A (setAttr (.ref a) f u) Q E s:=by
  obtain ⟨mA,O,r,wi,_,ho⟩:=ins_get I.hok e
  have hz:(fs.map (·.1)).length ≤ sizeLine:=by rw [List.length_map,sizeLine_eq]; lia
  refine set_map I.kIn O c.sa c.po n.taker c.hd wi hz fun h' O' sb=>h _ ?_
  have hd:∃ o,h'.get? dx = some o:=let ⟨o,_,_,e',_⟩:=O'.ns; ⟨o,e'⟩
  refine I.write (x:=a) (e:=dx) (by rw [e]; exact True.intro) (.inr ho) (fun b q hb z=>(sb.2 b hb).trans z) hd ?_
  refine ⟨by rw [upd_ne O.ne]; exact ho,?_,O.ne,O'.obj,_,O'.ns,fun g=>?_,fun g hg=>?_⟩
  · have:=length_putF f y fs; lia
  · show RelO ((putF f y fs).lookup g) (if g = f then some u else mA g)
    rw [lookup_putF]
    by_cases q:g = f
    · rw [if_pos q,if_pos q]; exact ry
    · rw [if_neg q,if_neg q]; exact r g
  · by_cases q:g = f
    · rw [q]; exact (keys_putF f y fs).1
    · refine (keys_putF f y fs).2 g (wi g fun z=>hg ?_)
      show (if g = f then some u else mA g) = none
      rw [if_neg q]; exact z
theorem Inv.made (I : Inv X pins σ H s) : Inv X pins σ (upd (upd H s.heap.objs.size (.own (s.heap.objs.size + 1))) (s.heap.objs.size + 1) (.ins C s.heap.objs.size []))
    { s with heap:=(s.heap.push PySem.W.emptyDict).push (PySem.W.instObj C s.heap.objs.size) }:=by
  have e1:(s.heap.push PySem.W.emptyDict).get? s.heap.objs.size = some PySem.W.emptyDict:=Heap.get?_push_size s.heap rfl
  have e2:((s.heap.push PySem.W.emptyDict).push (PySem.W.instObj C s.heap.objs.size)).get? (s.heap.objs.size + 1) = some (PySem.W.instObj C s.heap.objs.size):=by
    have:=Heap.get?_push_size (s.heap.push PySem.W.emptyDict) (o:=PySem.W.instObj C s.heap.objs.size) rfl
    rwa [Heap.size_push] at this
  have e3:(s.heap.push PySem.W.emptyDict).Ns s.heap.objs.size (fun _=>none):=⟨PySem.W.emptyDict,#[],_,e1,rfl,(fun e he=>absurd he (by simp)),fun _=>rfl⟩
  have I1:=I.laid (a:=s.heap.objs.size) (o:=.own (s.heap.objs.size + 1)) (h':=s.heap.push PySem.W.emptyDict) (t':=s.toks) (fun b u q=>Heap.get?_push_of_some _ q) (Nat.le_refl _) ⟨_,e1⟩
  refine I1.laid (a:=s.heap.objs.size + 1) (o:=.ins C s.heap.objs.size []) (t':=s.toks) (fun b u q=>Heap.get?_push_of_some _ q) (Nat.le_of_eq (Heap.size_push _ _)) ?_
  have ne:s.heap.objs.size ≠ s.heap.objs.size + 1:=Nat.ne_of_lt (Nat.lt_succ_self _)
  refine ⟨by rw [upd_ne ne,upd_same],Nat.zero_le _,ne,e2,fun _=>none,(Heap.Ns1.of_empty e3).at fun o q=>Heap.get?_push_of_some _ q,fun _=>True.intro,fun y hy=>absurd rfl hy⟩
theorem attr_of {prog : Program} {w : World} {env : Env} {e : Expr} {f : Str} {pos : Pos} {s : Shared} {Q : Value → Shared → Prop} (hb : attributeBase e f env (eval e env) = eval e env)
    (h:wpAny (model prog w) A (eval e env) (fun o s₁=>wpAny (model prog w) A (getAttr o f true) Q E s₁) E s):wpAny (model prog w) A (eval (.Attribute e f pos) env) Q E s :=
  Attribute_any_ h (by rw [arm_eval_Attribute,hb])
end
section
variable {X:Cx} {o e value:Expr} {f:Str} {pos pos' tpos:Pos} {ta tv:TE}
end
section
variable {X:Cx} {pins:List (Addr × Obj)} {σ:St} {H:Hp} {s:Shared} {A:Around} {E:Value→Shared→Prop} {Q:Value→Shared→Prop} {c:Value} {b:Bool}
inductive TyOf (K:PySem.W.Frag) (H:Hp):V→Value→Prop where
  | non:TyOf K H .non (.type "NoneType")
  | bl (x:Bool):TyOf K H (.bl x) (.type "bool")
  | int (i:Int):TyOf K H (.int i) (.type "int")
  | str (x:Str):TyOf K H (.str x) (.type "str")
  | flt (x:UInt64):TyOf K H (.flt x) (.type "float")
  | lst {a:Addr} {xs:List V} (e:H a = some (.lst xs)):TyOf K H (.ref a) (.type "list")
  | frz {a:Addr} {o:Obj} {xs:List V} (e:H a = some (.frz o (.lst xs))):TyOf K H (.ref a) (.type "list")
  | tup {a:Addr} {xs:List V} (e:H a = some (.tup xs)):TyOf K H (.ref a) (.type "tuple")
  | dK {a:Addr} {kvs:List (Key × V)} (e:H a = some (.dK kvs)):TyOf K H (.ref a) (.type "dict")
  | dT {a:Addr} {kvs:List (List Key × V)} (e:H a = some (.dT kvs)):TyOf K H (.ref a) (.type "dict")
  | ins {a C dx : Addr} {fs : List (Str × V)} (e : H a = some (.ins C dx fs)) (cl : Cls K C) (ha : PySem.W.findIn K (.ref C) "__class__" = some (some (.builtin "object.__class__")))
      (hn:PySem.W.specialIn K (.builtin "object.__class__") "__get__" = some (some (.builtin "getset_descriptor.__get__"))) (htk:PySem.W.takesIn K (.builtin "object.__class__") = some true)
      (hm:PySem.W.mroIn K C (.type "object") = some true):TyOf K H (.ref a) (.ref C)
theorem isinst_ok {x : V} {u t : Value} (I : Inv X pins σ H s) (rx : RelV x u) (ty : TyOf X.K H x t) (e : PySem.W.kitOne X.K t c = some b) (h : ∀ tk, Q (.bool b) { s with toks := tk }) :
    wpAny (model X.prog X.w) A (call (.builtin "isinstance") [u,c]) Q E s:=by
  cases ty with
  | non=>cases (show u = Value.none from rx); exact PySem.W.kia_one PySem.W.kitx_none I.kIn True.intro e (fun z=>nomatch z) h
  | bl y=>cases (show u = Value.bool y from rx); exact PySem.W.kia_one PySem.W.kitx_bool I.kIn True.intro e (fun z=>nomatch z) h
  | int i=>obtain ⟨t,q⟩:=(show ∃ t,u = Value.int i t from rx); cases q; exact PySem.W.kia_one PySem.W.kitx_int I.kIn True.intro e (fun z=>nomatch z) h
  | str y=>obtain ⟨t,q⟩:=(show ∃ t,u = Value.str y t from rx); cases q; exact PySem.W.kia_one PySem.W.kitx_str I.kIn True.intro e (fun z=>nomatch z) h
  | flt y=>obtain ⟨t,q⟩:=(show ∃ t,u = Value.float y t from rx); cases q; exact PySem.W.kia_one PySem.W.kitx_float I.kIn True.intro e (fun z=>nomatch z) h
  | @lst a xs ea =>
    cases (show u = Value.ref a from rx)
    obtain ⟨_,_,n,_,h1⟩:=(show ObjOk X.prog X.w H s.heap a (.lst xs) from I.hok a _ ea)
    exact PySem.W.kia_one PySem.W.kitx_list I.kIn ⟨_,h1,rfl⟩ e (fun z=>nomatch z) h
  | @frz a ob xs ea =>
    cases (show u = Value.ref a from rx)
    obtain ⟨_,_,_,n,_,h1⟩:=(show ObjOk X.prog X.w H s.heap a (.frz ob (.lst xs)) from I.hok a _ ea)
    exact PySem.W.kia_one PySem.W.kitx_list I.kIn ⟨_,h1,rfl⟩ e (fun z=>nomatch z) h
  | @tup a xs ea =>
    cases (show u = Value.ref a from rx)
    obtain ⟨_,_,_,p⟩:=(show ObjOk X.prog X.w H s.heap a (.tup xs) from I.hok a _ ea)
    obtain ⟨o,h1,h2,_⟩:=p
    exact PySem.W.kia_one PySem.W.kitx_tuple I.kIn ⟨o,h1,h2⟩ e (fun z=>nomatch z) h
  | @dK a kvs ea =>
    cases (show u = Value.ref a from rx)
    obtain ⟨_,_,vs,_,p⟩:=(show ObjOk X.prog X.w H s.heap a (.dK kvs) from I.hok a _ ea)
    obtain ⟨o,es,ep,h1,h2,_⟩:=p
    exact PySem.W.kia_one PySem.W.kitx_dict I.kIn ⟨o,h1,h2.1⟩ e (fun z=>nomatch z) h
  | @dT a kvs ea =>
    cases (show u = Value.ref a from rx)
    obtain ⟨_,_,xs,_,o,es,ep,h1,h2,_⟩:=(show ObjOk X.prog X.w H s.heap a (.dT kvs) from I.hok a _ ea)
    exact PySem.W.kia_one PySem.W.kitx_dict I.kIn ⟨o,h1,h2.1⟩ e (fun z=>nomatch z) h
  | @ins a C dx fs ea cl ha hn htk hm =>
    cases (show u = Value.ref a from rx)
    obtain ⟨mA,O,_⟩:=ins_get I.hok ea
    obtain ⟨od,J,_⟩:=O.look
    exact PySem.W.kia_one (PySem.W.kitx_own (cl.get _) cl.hd ha hn htk hm) I.kIn J e (fun z=>nomatch z) h
end
end L2
namespace L2
open PySem PySem.Spec PyProof.Rows
structure Room (k:Nat) (A:Around):Prop where
  hd:A.handled = none
  dp:A.depth + 3 * k + 5 < recursionLimit
  un:A.units + 16 * k + 200 < cLine
  gd:A.guards = some []
theorem Room.mono {j k:Nat} {A:Around} (r:Room k A) (h:j ≤ k):Room j A:=⟨r.hd,by have:=r.dp; lia,by have:=r.un; lia,r.gd⟩
theorem Room.deeper {k:Nat} {A:Around} (r:Room (k + 1) A) (env:Env):Room k (A.deeper env) :=
  ⟨r.hd,by have:=r.dp; show A.depth + 1 + 3 * k + 5 < _; lia,by have:=r.un; show A.units + 3 + 16 * k + 200 < _; lia,r.gd⟩
theorem make_depth {A:Around} {C:Addr} {us:List Value} {kw:List (Str × Value)}:(A.under (.builtin "type.__call__" ⟨.ref C :: us,kw⟩)).depth = A.depth + 1:=by
  first | rfl | simp [Around.under,Code.weight,Code.isCreation,Code.isGuard,Code.isCaller,Code.frames,Code.isFrame,guardIds]
theorem make_units {A:Around} {C:Addr} {us:List Value} {kw:List (Str × Value)}:(A.under (.builtin "type.__call__" ⟨.ref C :: us,kw⟩)).units = A.units + 1:=by
  first | rfl | simp [Around.under,Code.cUnits,Code.frames,Code.isFrame]
theorem Room.make {k:Nat} {A:Around} (r:Room (k + 1) A) (C:Addr) (us:List Value) (kw:List (Str × Value)):Room k (A.under (.builtin "type.__call__" ⟨.ref C :: us,kw⟩)) :=
  ⟨r.hd,by have:=r.dp; rw [make_depth]; lia,by have:=r.un; rw [make_units]; lia,by first | exact r.gd | (show pushGuards (Code.guards _) A.guards = _; rw [r.gd]; rfl) | simp [Around.under,pushGuards,Code.guards,Code.isGuard,guardIds,r.gd]⟩
theorem Room.depth {k:Nat} {A:Around} (r:Room k A):A.depth < recursionLimit:=by have:=r.dp; lia
theorem Room.units {k:Nat} {A:Around} (r:Room k A):A.units + 64 < cLine:=by have:=r.un; lia
noncomputable def tNil:TA:=fun _ H Q=>Q [] H
noncomputable def tCons (ta:TE) (tr:TA):TA:=fun σ H Q=>ta σ H fun x H1=>tr σ H1 fun xs H2=>Q (x :: xs) H2
section
variable {X:Cx} {e:Expr} {es:List Expr} {te:TE} {t:TA} {pos:Pos}
theorem pa_nil:PA X [] tNil:=fun _ _ _ _ H Q I h=>Calls.spliced_nil ⟨[],H,I,.nil,h⟩
theorem pa_cons (ha : PE X e te) (hr : PA X es t) (hs : starEach (e :: es) X.env = (false, eval e X.env) :: starEach es X.env := by rfl) : PA X (e :: es) (tCons te t) := by
  intro pos pins s σ H Q I h
  rw [hs]
  refine Calls.spliced_cons (thn (ha pins s σ H _ I h) fun u s1 ⟨x, H1, I1, r1, q1⟩ => ?_)
  exact thn (hr pos pins s1 σ H1 _ I1 q1) fun us s2 ⟨xs, H2, I2, r2, q2⟩ => ⟨x :: xs, H2, I2, .cons r1 r2, q2⟩
noncomputable def tTup (t:TA):TE:=fun σ H Q=>t σ H fun xs H1=>xs.length ≤ sizeLine∧∀ p,H1 p = none→Q (.ref p) (upd H1 p (.tup xs))
noncomputable def tLst (t:TA):TE:=fun σ H Q=>t σ H fun xs H1=>xs.length ≤ sizeLine∧∀ p,H1 p = none→Q (.ref p) (upd H1 p (.lst xs))
theorem pe_tup {x1} (h:PA X es t):PE X (.Tuple es x1 pos) (tTup t):=by
  intro pins s σ H Q I hq
  refine wpAny_Tuple_spliced (thn (h pos pins s σ H _ I hq) fun us s1 ⟨xs,H1,I1,r,z,q⟩=>⟨by rw [← r.length]; exact z,?_⟩)
  have hf:H1 s1.heap.objs.size = none:=I1.hok.fresh (Nat.le_refl _)
  refine ⟨.ref s1.heap.objs.size,upd H1 s1.heap.objs.size (.tup xs),I1.laid (t':=s1.toks) (fun b u e=>Heap.get?_push_of_some _ e) (Nat.le_refl _) ?_,rfl,q _ hf⟩
  exact ⟨z,us,r,⟨_,Heap.get?_push_size _ rfl,rfl,_,rfl⟩⟩
theorem pe_lst (h:PA X es t):PE X (.List es pos) (tLst t):=by
  intro pins s σ H Q I hq
  refine wpAny_List_spliced (thn (h pos pins s σ H _ I hq) fun us s1 ⟨xs,H1,I1,r,z,q⟩=>⟨by rw [← r.length]; exact z,?_⟩)
  have hf:H1 s1.heap.objs.size = none:=I1.hok.fresh (Nat.le_refl _)
  refine ⟨.ref s1.heap.objs.size,upd H1 s1.heap.objs.size (.lst xs),I1.laid (t':=s1.toks) (fun b u e=>Heap.get?_push_of_some _ e) (Nat.le_refl _) ?_,rfl,q _ hf⟩
  exact ⟨z,us,0,r,Heap.get?_push_size _ rfl⟩
end
noncomputable abbrev Sp:=List V→Hp→VK→XK→Prop
noncomputable abbrev CXT:=List Env→Hp→Shared→XK→Value→Shared→Prop
structure Env0 (P:Program) (w:World) (K:PySem.W.Frag) (mg:Str→Option Value) (base:Heap) (A:Around) (outer:List Env) (s:Shared) (H:Hp):Prop where
  frames:A.frames = some outer
  mod:Mod K mg base
  bs:∀ b o,base.get? b = some o→s.heap.get? b = some o∧H b = none
  bsz:base.objs.size ≤ s.heap.objs.size
  funs:s.heap.FunFrames base outer
  frf:∀ b ∈ frs outer,H b = none
  hok:HOk P w H s.heap
  bare:AllBare s.gens
noncomputable def CE (outer:List Env) (P:Program) (w:World) (H:Hp) (s:Shared) (Q:VK) (u:Value) (s':Shared):Prop :=
  ∃ v H',s'.os = s.os∧AllBare s'.gens∧Un (frs outer) [] H H' s.heap s'.heap∧HOk P w H' s'.heap∧RelV v u∧Q v H'
noncomputable def CR (CX:CXT) (outer:List Env) (P:Program) (w:World) (H:Hp) (s:Shared) (Q:VK) (E:XK) (r:Result) (s':Shared):Prop :=
  match r with
  | .ok (.ret u)=>CE outer P w H s Q u s'
  | .ok _=>False
  | .error e=>CX outer H s E e s'
structure FnOk (P:Program) (w:World) (K:PySem.W.Frag) (mg:Str→Option Value) (base:Heap) (CX:CXT) (k:Nat) (f:Addr) (fd:FuncData) (ps:List Str) (sp:Sp):Prop where
  len:∀ vs H Q E,sp vs H Q E→vs.length = ps.length
  run:∀ (A:Around) (outer:List Env) (s:Shared) (H:Hp) (args:Args) (us:List Value) (vs:List V) (Q:VK) (E:XK),Room k A→Env0 P w K mg base A outer s H→BindsTo s fd args (ps.zip us)→Vals vs us→sp vs H Q E →
    codeAny (model P w) A (.call (.ref f) args) (CR CX outer P w H s Q E) s
theorem Env0.make {P : Program} {w : World} {K : PySem.W.Frag} {mg : Str → Option Value} {base : Heap} {A : Around} {outer : List Env} {s : Shared} {H : Hp} (e : Env0 P w K mg base A outer s H) (C : Addr) (us : List Value) (kw : List (Str × Value)) :
    Env0 P w K mg base (A.under (.builtin "type.__call__" ⟨.ref C :: us,kw⟩)) outer s H:=⟨by first | exact e.frames | (simpa [Around.under,Code.envs,Code.isFrame,pushEnvs] using e.frames),e.mod,e.bs,e.bsz,e.funs,e.frf,e.hok,e.bare⟩
section
variable {X:Cx} {pins:List (Addr × Obj)} {σ:St} {H:Hp} {s s':Shared}
theorem Inv.env0 (I:Inv X pins σ H s):Env0 X.prog X.w X.K X.mg X.base X.A X.stack s H :=
  ⟨I.ok.frames,I.ok.mod,I.bs,Nat.le_trans I.ok.bsz I.sz,I.stack,I.stkFree,I.hok,I.bare⟩
theorem Inv.after {Q:VK} {u:Value} (I:Inv X pins σ H s) (h:CE X.stack X.prog X.w H s Q u s'):EP X pins σ Q u s':=by
  obtain ⟨v,H',os,bare,un,hok,r,q⟩:=h
  obtain ⟨hh,g,d,t,os'⟩:=s'
  obtain rfl:os' = s.os:=os
  exact ⟨v,H',I.call (h':=hh) (g':=g) (d':=d) (t':=t) (ch:=[]) un hok bare (fun b z=>absurd z (by simp)),r,q⟩
end
noncomputable def tCall (sp:Sp) (dvs:List V) (E:XK) (t:TA):TE:=fun σ H Q=>t σ H fun vs H1=>sp (vs ++ dvs) H1 Q E
noncomputable def tMake (C:Addr) (sp:Sp) (dvs:List V) (E:XK) (t:TA):TE:=fun σ H Q=>t σ H fun vs H1=>∀ x dx,H1 x = none→H1 dx = none→dx ≠ x →
  sp (.ref x :: (vs ++ dvs)) (upd (upd H1 dx (.own x)) x (.ins C dx [])) (fun v H2=>v = .non∧Q (.ref x) H2) E
noncomputable def Binds (K:PySem.W.Frag) (fd:FuncData) (ps:List Str) (ds:List Value):Prop :=
  ∀ (s:Shared) (us:List Value),K.In s.heap→(us ++ ds).length = ps.length→BindsTo s fd ⟨us,[]⟩ (ps.zip (us ++ ds))
theorem Binds.all {K:PySem.W.Frag} {fd:FuncData} {ps:List Str} (h:∀ us:List Value,us.length = ps.length→bindArgs fd ⟨us,[]⟩ = pure (ps.zip us)):Binds K fd ps []:=fun s us _ hl=>by
  rw [List.append_nil] at hl ⊢
  exact .of_eq (h us hl)
noncomputable def Passes (CX:CXT) (X:Cx) (E:XK):Prop:=∀ (pins:List (Addr × Obj)) (σ:St) (H:Hp) (s:Shared) (e:Value) (s':Shared),Inv X pins σ H s→CX X.stack H s E e s'→X.xe e s'
section
variable {X:Cx} {CX:CXT} {k:Nat} {f C:Addr} {fd:FuncData} {ps:List Str} {sp:Sp} {dvs:List V} {ds:List Value} {E:XK} {x m:Str} {p pos apos:Pos} {e o:Expr} {es:List Expr} {ta:TE} {t:TA}
theorem run_fn {pins : List (Addr × Obj)} {σ : St} {H : Hp} {s : Shared} {Q : VK} {us : List Value} {vs : List V} (F : FnOk X.prog X.w X.K X.mg X.base CX k f fd ps sp) (hr : Room k X.A) (hb : Binds X.K fd ps ds) (hd : Vals dvs ds) (hx : Passes CX X E)
    (I:Inv X pins σ H s) (r:Vals vs us) (h:sp (vs ++ dvs) H Q E):wpAny (model X.prog X.w) X.A (call (.ref f) us) (EP X pins σ Q) X.xe s:=by
  have r2:Vals (vs ++ dvs) (us ++ ds):=r.append hd
  have hl:(us ++ ds).length = ps.length:=by rw [← r2.length]; exact F.len _ _ _ _ h
  refine wpAny_call (codeAny_mono (F.run X.A X.stack s H ⟨us,[]⟩ (us ++ ds) (vs ++ dvs) Q E hr I.env0 (hb s us I.kIn hl) r2 h) fun r s' hq=>?_)
  cases r with
  | error e=>exact hx pins σ H s e s' I hq
  | ok fl =>
    cases fl with
    | ret u=>exact I.after hq
    | next=>exact False.elim hq
    | brk=>exact False.elim hq
    | cont=>exact False.elim hq
theorem pe_call (F : FnOk X.prog X.w X.K X.mg X.base CX k f fd ps sp) (hr : Room k X.A) (hg : Gl X x) (hm : X.mg x = some (.ref f)) (hk : PySem.W.keepIn X.K (.ref f) = true) (hb : Binds X.K fd ps ds) (hd : Vals dvs ds) (hx : Passes CX X E)
    (ha:PA X (e :: es) t) (hdb:(x == ("__debug__":Str)) = false:=by decide) (he:starEach (e :: es) X.env = (false,eval e X.env) :: starEach es X.env:=by rfl) (hpl:(backTo pos (starEach es X.env)).any (·.1) = false:=by rfl) :
    PE X (.Call (.Name x p) (e :: es) [] pos) (tCall sp dvs E t):=by
  intro pins s σ H Q I h
  refine wpAny_Call_Name_kw (ld_glob I hg hm ?_ hdb)
  refine PySem.W.callWith_K (h₀:=X.base) I.ok.mod.kin hk (thn (ha pos pins s σ H _ I h) fun us s1 ⟨vs,H1,I1,r,q⟩=>⟨I1.kIn,?_⟩) he hpl
  exact run_fn F hr hb hd hx I1 r q
structure Mk (K:PySem.W.Frag) (C f:Addr):Prop where
  makes:PySem.W.makesIn K C = true
  init:PySem.W.findIn K (.ref C) "__init__" = some (some (.ref f))
  fn:PySem.W.isFn K (.ref f) = true
  kp:PySem.W.keepIn K (.ref C) = true
theorem run_make {pins : List (Addr × Obj)} {σ : St} {H : Hp} {s : Shared} {Q : VK} {us : List Value} {vs : List V} (M : Mk X.K C f) (F : FnOk X.prog X.w X.K X.mg X.base CX k f fd ps sp) (hr : Room (k + 1) X.A) (hb : Binds X.K fd ps ds) (hd : Vals dvs ds)
    (hx:Passes CX X E) (I:Inv X pins σ H s) (r:Vals vs us)
    (h:∀ x dx,H x = none→H dx = none→dx ≠ x→sp (.ref x :: (vs ++ dvs)) (upd (upd H dx (.own x)) x (.ins C dx [])) (fun v H2=>v = .non∧Q (.ref x) H2) E) :
    wpAny (model X.prog X.w) X.A (call (.ref C) us) (EP X pins σ Q) X.xe s:=by
  have hq:=h (s.heap.objs.size + 1) s.heap.objs.size (I.hok.fresh (Nat.le_succ _)) (I.hok.fresh (Nat.le_refl _)) (Nat.ne_of_lt (Nat.lt_succ_self _))
  have I2:=Inv.made (C:=C) I
  have r2:Vals (V.ref (s.heap.objs.size + 1) :: (vs ++ dvs)) (Value.ref (s.heap.objs.size + 1) :: (us ++ ds)):=.cons rfl (r.append hd)
  have hl:(Value.ref (s.heap.objs.size + 1) :: us ++ ds).length = ps.length:=by
    have e:=r2.length
    rw [F.len _ _ _ _ hq] at e
    exact e.symm
  refine wpAny_call (make_map (f:=f) I.kIn M.makes M.init (beq_iff_eq.mp M.fn) (codeAny_mono (F.run _ X.stack _ _ ⟨Value.ref (s.heap.objs.size + 1) :: us,[]⟩ (Value.ref (s.heap.objs.size + 1) :: (us ++ ds)) _ _ E (hr.make C us [])
    (I2.env0.make C us []) (hb _ (Value.ref (s.heap.objs.size + 1) :: us) I2.kIn hl) r2 hq) fun r s' hq'=>?_))
  cases r with
  | error e=>exact hx pins σ _ _ e s' I2 hq'
  | ok fl =>
    cases fl with
    | ret u =>
      obtain ⟨v,H',I3,rv,ev,q3⟩:=I2.after hq'
      subst ev
      exact ⟨rv,⟨V.ref (s.heap.objs.size + 1),H',I3,rfl,q3⟩⟩
    | next=>exact False.elim hq'
    | brk=>exact False.elim hq'
    | cont=>exact False.elim hq'
theorem pe_make (M : Mk X.K C f) (F : FnOk X.prog X.w X.K X.mg X.base CX k f fd ps sp) (hr : Room (k + 1) X.A) (hg : Gl X x) (hm : X.mg x = some (.ref C)) (hb : Binds X.K fd ps ds) (hd : Vals dvs ds) (hx : Passes CX X E)
    (ha:PA X (e :: es) t) (hdb:(x == ("__debug__":Str)) = false:=by decide) (he:starEach (e :: es) X.env = (false,eval e X.env) :: starEach es X.env:=by rfl) (hpl:(backTo pos (starEach es X.env)).any (·.1) = false:=by rfl) :
    PE X (.Call (.Name x p) (e :: es) [] pos) (tMake C sp dvs E t):=by
  intro pins s σ H Q I h
  refine wpAny_Call_Name_kw (ld_glob I hg hm ?_ hdb)
  refine PySem.W.callWith_K (h₀:=X.base) I.ok.mod.kin M.kp (thn (ha pos pins s σ H _ I h) fun us s1 ⟨vs,H1,I1,r,q⟩=>⟨I1.kIn,?_⟩) he hpl
  exact run_make M F hr hb hd hx I1 r q
end
section
variable {X:Cx} {CX:CXT} {k:Nat} {f C:Addr} {fd:FuncData} {ps ks:List Str} {sp:Sp} {E:XK} {x m:Str} {p pos apos kpos:Pos} {e o:Expr} {es:List Expr} {kws:List Keyword} {te ta:TE} {t tk:TA} {nm:Option Str}
structure KBinds (K:PySem.W.Frag) (fd:FuncData) (ps ks:List Str) (g:List Value→List Value→List Value) (gV:List V→List V→List V):Prop where
  to:∀ (s:Shared) (us ws:List Value),K.In s.heap→(g us ws).length = ps.length→BindsTo s fd ⟨us,ks.zip ws⟩ (ps.zip (g us ws))
  rel:∀ {vs:List V} {us:List Value} {zs:List V} {ws:List Value},Vals vs us→Vals zs ws→Vals (gV vs zs) (g us ws)
variable {g:List Value→List Value→List Value} {gV:List V→List V→List V}
end
structure FnScope (N P:List Str) (sc:Scope):Prop where
  kind:sc.kind = .function
  co:sc.isCoroutine = false
  gen:sc.isGenerator = false
  nd:N.Nodup
  pre:N.take P.length = P
  par:∀ x ∈ P,sc.names.lookup x = some .local∨sc.names.lookup x = some .cell
  nofree:∀ y ∈ sc.names,y.2 ≠ .free
theorem bindL_out {kindOf:Str→Option NameKind} {x:Str}:∀ {binds:List (Str × Value)} {m:Str→Option Value},(∀ v,(x,v) ∉ binds)→bindL kindOf binds m x = m x
  | [],_,_=>rfl
  | (n,v) :: r,m,h=>by
    unfold bindL
    rw [bindL_out fun w hw=>h w (List.mem_cons_of_mem _ hw)]
    split
    · have:x ≠ n:=by rintro rfl; exact h v List.mem_cons_self
      simp [this]
    · rfl
theorem bindC_out {kindOf:Str→Option NameKind} {x:Str}:∀ {binds:List (Str × Value)} {m:Str→Option Value},(∀ v,(x,v) ∉ binds)→bindC kindOf binds m x = m x
  | [],_,_=>rfl
  | (n,v) :: r,m,h=>by
    unfold bindC
    rw [bindC_out fun w hw=>h w (List.mem_cons_of_mem _ hw)]
    split
    · rfl
    · have:x ≠ n:=by rintro rfl; exact h v List.mem_cons_self
      simp [this]
theorem bindL_get {kindOf : Str → Option NameKind} {x : Str} {v : Value} : ∀ {P : List Str} {vs : List Value} {i : Nat} {m : Str → Option Value}, P.Nodup → P[i]? = some x → vs[i]? = some v → kindOf x = some .local →
    bindL kindOf (P.zip vs) m x = some v
  | [],_,_,_,_,h,_,_=>by simp at h
  | _ :: _,[],_,_,_,_,h,_=>by simp at h
  | p :: P,w :: vs,0,m,nd,h1,h2,hk=>by
    simp at h1 h2; subst h1; subst h2
    show bindL kindOf ((p,w) :: P.zip vs) m p = _
    unfold bindL
    rw [bindL_out fun v hv=>(List.nodup_cons.mp nd).1 (List.of_mem_zip hv).1,if_pos hk]
    simp
  | p :: P,w :: vs,i + 1,m,nd,h1,h2,hk=>by
    show bindL kindOf ((p,w) :: P.zip vs) m x = _
    unfold bindL
    exact bindL_get (i:=i) (List.nodup_cons.mp nd).2 (by simpa using h1) (by simpa using h2) hk
theorem bindC_get {kindOf : Str → Option NameKind} {x : Str} {v : Value} : ∀ {P : List Str} {vs : List Value} {i : Nat} {m : Str → Option Value}, P.Nodup → P[i]? = some x → vs[i]? = some v → kindOf x ≠ some .local →
    bindC kindOf (P.zip vs) m x = some v
  | [],_,_,_,_,h,_,_=>by simp at h
  | _ :: _,[],_,_,_,_,h,_=>by simp at h
  | p :: P,w :: vs,0,m,nd,h1,h2,hk=>by
    simp at h1 h2; subst h1; subst h2
    show bindC kindOf ((p,w) :: P.zip vs) m p = _
    unfold bindC
    rw [bindC_out fun v hv=>(List.nodup_cons.mp nd).1 (List.of_mem_zip hv).1,if_neg hk]
    simp
  | p :: P,w :: vs,i + 1,m,nd,h1,h2,hk=>by
    show bindC kindOf ((p,w) :: P.zip vs) m x = _
    unfold bindC
    exact bindC_get (i:=i) (List.nodup_cons.mp nd).2 (by simpa using h1) (by simpa using h2) hk
noncomputable def start (N:List Str) (vs:List V):St:=vs.map some ++ List.replicate (N.length - vs.length) none
noncomputable def cxOf (CX:CXT) (P:Program) (w:World) (K:PySem.W.Frag) (mg:Str→Option Value) (base:Heap) (N:List Str) (qual:Str) (scope:Scope) (f:Addr) (cd:Value) (A:Around) (outer:List Env) (s:Shared) (H:Hp) (E:XK):Cx where
  prog:=P
  w:=w
  K:=K
  mg:=mg
  base:=base
  A:=A.deeper (envOfC qual scope s.heap.objs.size f cd)
  N:=N
  s₀:=s
  H₀:=H
  env:=envOfC qual scope s.heap.objs.size f cd
  outer:=outer
  stack:=envOfC qual scope s.heap.objs.size f cd :: outer
  ex:=[]
  calm:=true
  fn:=fun _=>true
  pn:=[]
  xe:=fun e s'=>wpAny (model P w) (A.deeper (envOfC qual scope s.heap.objs.size f cd)) (leaving (envOfC qual scope s.heap.objs.size f cd) e) (fun _ s''=>CX outer H s E e s'') (fun e' s''=>CX outer H s E e' s'') s'
theorem cell_has {sc:Scope} {n:Nat} {x:Str} (h:sc.names.lookup x = some .cell):∃ c,(cellsFrom n sc.names []).lookup x = some c:=by
  have q:=PySem.W.cellsFrom_some sc.names n [] (.inl h)
  exact Option.isSome_iff_exists.mp q
theorem inv_start {CX : CXT} {P : Program} {w : World} {K : PySem.W.Frag} {mg : Str → Option Value} {base : Heap} {N ps : List Str} {qual : Str} {scope : Scope} {f : Addr} {cd : Value} {A : Around} {outer : List Env} {s s1 : Shared} {H : Hp} {E : XK} {us : List Value} {vs : List V}
    (S:FnScope N ps scope) (hd:A.handled = none) (e0:Env0 P w K mg base A outer s H) (hl:vs.length = ps.length) (r:Vals vs us)
    (x:InCallC s s.heap.objs.size (bindL (envOfC qual scope s.heap.objs.size f cd).kindOf (ps.zip us) fun _=>none) (cellsFrom (s.heap.objs.size + 1) scope.names []) (bindC (envOfC qual scope s.heap.objs.size f cd).kindOf (ps.zip us) fun _=>none) s1) :
    Inv (cxOf CX P w K mg base N qual scope f cd A outer s H E) [] (start N vs) H s1:=by
  have hpl:ps.length ≤ N.length:=by have:=congrArg List.length S.pre; rw [List.length_take] at this; lia
  obtain ⟨h1,tk,rfl,hk⟩:=x.done
  have noA:∀ b:Addr,b ∉ (cxOf CX P w K mg base N qual scope f cd A outer s H E).ex:=fun b z=>absurd (show b ∈ ([]:List Addr) from z) (by simp)
  refine ⟨⟨e0.mod,S.kind,rfl,rfl,Nat.le_refl _,fun y z c h1 h2=>?_,fun y hy=>?_,fun y c _ h=>?_,fun _=>hd,Around.frames_deeper e0.frames,.inr ⟨rfl,rfl⟩,fun b z=>absurd z (noA b),e0.bs,e0.bsz,fun b _ _=>noA b,fun b z=>absurd z (noA b),e0.funs,e0.frf⟩,
    rfl,e0.bare,Un.kept hk,⟨_,x.toInCall.ns,fun i y v h1 h2 h3=>?_⟩,fun y c h=>⟨_,x.cell y c h⟩,e0.hok.fresh (Nat.le_refl _),fun y c h=>?_,fun p hp=>absurd (show p ∈ ([]:List (Addr × Obj)) from hp) (by simp),e0.hok.kept hk,?_⟩
  · exact name_of_addr x.apart (PySem.mem_of_lookup h1) (PySem.mem_of_lookup h2)
  · have hy:scope.names.lookup y = some .cell∨scope.names.lookup y = some .free:=hy
    rcases hy with hy | hy
    · exact cell_has hy
    · exact absurd rfl (S.nofree _ (PySem.mem_of_lookup hy))
  · exact Nat.le_of_lt (x.above y c (PySem.mem_of_lookup h))
  · have hi : i < vs.length := by
      unfold start at h2
      by_cases hi:i < vs.length
      · exact hi
      · rw [List.getElem?_append_right (by simpa using hi)] at h2
        rw [List.getElem?_replicate] at h2
        split at h2 <;> cases h2
    have ha:vs[i]? = some v:=by
      unfold start at h2
      rw [List.getElem?_append_left (by simpa using hi),List.getElem?_map] at h2
      cases e:vs[i]? with
      | none=>rw [e] at h2; cases h2
      | some a=>rw [e] at h2; cases h2; rfl
    obtain ⟨u,hu,rv⟩:=r.get ha
    have hp:ps[i]? = some y:=by
      rw [← S.pre,List.getElem?_take_of_lt (by lia)]; exact h1
    have ndP:ps.Nodup:=by rw [← S.pre]; exact S.nd.sublist (List.take_sublist _ _)
    refine ⟨u,rv,?_⟩
    rcases S.par y (List.mem_of_getElem? hp) with k | k
    · exact .inl ⟨k,bindL_get ndP hp hu k⟩
    · obtain ⟨c,e⟩:=cell_has (n:=s.heap.objs.size + 1) k
      refine .inr ⟨.inl k,c,e,?_⟩
      have q:=x.cell y c e
      rw [bindC_get ndP hp hu (by show scope.names.lookup y ≠ _; rw [k]; decide)] at q
      exact q
  · exact e0.hok.fresh (Nat.le_of_lt (x.above y c (PySem.mem_of_lookup h)))
  · unfold start
    show _ = N.length
    rw [List.length_append,List.length_map,List.length_replicate]
    lia
theorem fn_of {CX : CXT} {P : Program} {w : World} {K : PySem.W.Frag} {mg : Str → Option Value} {base : Heap} {k : Nat} {f : Addr} {name qual : Str} {params : Arguments} {body : List Stmt} {scope : Scope} {dV kV doc pm cdv ct oc : Value} {an od : Option Addr}
    {osl:Array (Option Value)} {N ps:List Str} {sp:Sp} (lk:K.lookup f = some ⟨oc,od,.func (PySem.W.fnOf name qual params body scope dV kV doc pm an cdv ct),osl⟩) (hcd:PySem.W.codeIn K cdv qual = true) (S:FnScope N ps scope)
    (len:∀ vs H Q E,sp vs H Q E→vs.length = ps.length)
    (hbody:∀ (A:Around) (outer:List Env) (s:Shared) (H:Hp) (vs:List V) (Q:VK) (E:XK),Room k (A.deeper (envOfC qual scope s.heap.objs.size f cdv))→sp vs H Q E →
      ∃ t,PSs (cxOf CX P w K mg base N qual scope f cdv A outer s H E) body t∧t { nx:=fun _ H'=>Q .non H',rt:=Q } (start N vs) H) :
    FnOk P w K mg base CX (k + 1) f (PySem.W.fnOf name qual params body scope dV kV doc pm an cdv ct) ps sp:=by
  refine ⟨len,fun A outer s H args us vs Q E hr e0 hb r hsp=>?_⟩
  have hl:=len _ _ _ _ hsp
  have KX:K.In s.heap:=e0.mod.kin.keeps fun b o e=>(e0.bs b o e).1
  have lim:s.heap.NoLimit:=e0.mod.nolimit.keeps fun b o e=>(e0.bs b o e).1
  have hkind:∀ y ∈ ps.zip us,scope.names.lookup y.1 = some .local∨(scope.names.lookup y.1 = some .cell∧((cellsFrom (s.heap.objs.size + 1) scope.names []).lookup y.1).isSome = true):=fun ⟨n,v⟩ hy=>by
    rcases S.par n (List.of_mem_zip hy).1 with q | q
    · exact .inl q
    · exact .inr ⟨q,PySem.W.cellsFrom_some _ _ _ (.inl q)⟩
  refine codeAny_call_function hr.depth (KX _ _ lk) rfl S.co S.gen rfl (PySem.W.codeRec_of KX hcd) (hb _ _ _ _ ?_)
  refine wpAny_newFunctionEnv_cells S.kind hkind fun env he s1 x=>?_
  subst he
  refine ⟨lim.keeps x.toInCall.keep,codeAny_func ?_⟩
  obtain ⟨t,ht,hq⟩:=hbody A outer s H vs Q E (hr.deeper _) hsp
  have I:Inv (cxOf CX P w K mg base N qual scope f cdv A outer s H E) [] (start N vs) H s1:=inv_start S hr.hd e0 hl r x
  refine wpAny_mono (ht [] s1 (start N vs) H _ I hq) (fun fl s' hs=>?_) fun e s' hs=>hs
  have fin:∀ {σ':St} {H':Hp} {v:V} {u:Value},Inv (cxOf CX P w K mg base N qual scope f cdv A outer s H E) [] σ' H' s'→RelV v u→Q v H'→CE outer P w H s Q u s' :=
    fun {σ' H' v u} J rv q=>⟨v,H',J.os,J.bare,J.base,J.hok,rv,q⟩
  cases fl with
  | ret u =>
    obtain ⟨v,σ',H',J,rv,q⟩:=hs
    exact fin J rv q
  | next =>
    obtain ⟨σ',H',J,q⟩:=hs
    exact fin (v:=V.non) (u:=Value.none) J rfl q
  | brk =>
    obtain ⟨_,_,_,q⟩:=hs
    exact False.elim q
  | cont =>
    obtain ⟨_,_,_,q⟩:=hs
    exact False.elim q
end L2
namespace L2
open PySem PySem.Spec PyProof.Rows
section
variable {X:Cx} {x:Str} {p pos:Pos} {e:Expr} {es:List Expr} {t:TA} {id T:String} {r:List V→Hp→VK→Prop}
noncomputable def tCB (r:List V→Hp→VK→Prop) (t:TA):TE:=fun σ H Q=>t σ H fun vs H1=>r vs H1 Q
theorem pe_callB (hc : CallR X (.builtin id) r) (hg : Gl X x) (hm : X.mg x = none) (hv : bootBuiltins x = some (.builtin id)) (ha : PA X (e :: es) t) (hn : x ≠ "__name__" := by decide) (hdb : (x == ("__debug__" : Str)) = false := by decide)
    (he:starEach (e :: es) X.env = (false,eval e X.env) :: starEach es X.env:=by rfl) (hpl:(backTo pos (starEach es X.env)).any (·.1) = false:=by rfl):PE X (.Call (.Name x p) (e :: es) [] pos) (tCB r t):=by
  intro pins s σ H Q I h
  refine wpAny_Call_Name_kw (ld_blt I hg hm hv ?_ hn hdb)
  exact PyProof.Rows.callWith_builtin1 (thn (ha pos pins s σ H _ I h) fun us s1 ⟨vs,H1,I1,r1,q1⟩=>hc pins s1 σ H1 vs us Q I1 r1 q1) he hpl
theorem pe_callTy (hc : CallR X (.type T) r) (hg : Gl X x) (hm : X.mg x = none) (hv : bootBuiltins x = some (.type T)) (ha : PA X (e :: es) t) (hn : x ≠ "__name__" := by decide) (hdb : (x == ("__debug__" : Str)) = false := by decide)
    (he:starEach (e :: es) X.env = (false,eval e X.env) :: starEach es X.env:=by rfl) (hpl:(backTo pos (starEach es X.env)).any (·.1) = false:=by rfl):PE X (.Call (.Name x p) (e :: es) [] pos) (tCB r t):=by
  intro pins s σ H Q I h
  refine wpAny_Call_Name_kw (ld_blt I hg hm hv ?_ hn hdb)
  exact PyProof.Rows.callWith_type1 (thn (ha pos pins s σ H _ I h) fun us s1 ⟨vs,H1,I1,r1,q1⟩=>hc pins s1 σ H1 vs us Q I1 r1 q1) he hpl
end
end L2
namespace HT
open PySem PyProof.Rows
section
open PySem.SeqAt
open PySem.AutoSeq1 (wpAny_loadPart')
open PySem.MeetsSeq PySem.MeetsSeq2 PySem.MeetsSeq3
end
section
variable {prog:Program} {w:World} {A:Around} {E:Value→Shared→Prop} {s:Shared}
theorem cat_tup {t b : Addr} {vs ws : List Value} {Q : Value → Shared → Prop} (ht : IsTup s.heap t vs.toArray) (hb : IsTup s.heap b ws.toArray) (hv : vs ≠ [])
    (h1 : ws = [] → Q (.ref t) s) (h2 : ws ≠ [] → Q (.ref s.heap.objs.size) { s with heap := s.heap.push { cls := .type "tuple", data := .seq (vs ++ ws).toArray } })
    (hsz : vs.length + ws.length ≤ sizeLine) : wpAny (model prog w) A (binaryOp .Add (.ref t) (.ref b)) Q E s := by
  obtain ⟨⟨cls, dd, data, sl⟩, ho, hc, n, hd⟩ := id ht
  obtain ⟨⟨cls2, dd2, data2, sl2⟩, ho2, hc2, n2, hd2⟩ := id hb
  simp only at hc hd hc2 hd2
  subst hc hd hc2 hd2
  have e : vs.toArray ++ ws.toArray = (vs ++ ws).toArray := by simp
  by_cases hw : ws = []
  · exact concat_meets ⟨_, ho, rfl⟩ ⟨_, ho2, rfl⟩ noFill_tuple_add seq_tuple_add PySem.F.slot_tuple_add PySem.F.entry_tuple_add (PySem.F.args_tuple_add_2 _ _)
      (tuple_addW1 t b vs.toArray ws.toArray n n2 dd dd2 sl sl2 (by simpa using hv) (by simp [hw])) ⟨ho, ho2, h1 hw⟩
  · refine concat_meets ⟨_, ho, rfl⟩ ⟨_, ho2, rfl⟩ noFill_tuple_add seq_tuple_add PySem.F.slot_tuple_add PySem.F.entry_tuple_add (PySem.F.args_tuple_add_2 _ _)
      (tuple_addW2 t b vs.toArray ws.toArray n n2 dd dd2 sl sl2 (by simpa using hv) (by simpa using hw) (by simp_all)) ⟨ho, ho2, ?_⟩
    rw [e]
    exact h2 hw
noncomputable def sIx (n d:Nat):Option Int→Nat
  | none=>d
  | some v=>if v < 0 then (v + (n:Int)).toNat else min v.toNat n
theorem sIx_none (n d:Nat):sIx n d none = d:=rfl
theorem sIx_nat (n d k : Nat) : sIx n d (some (k : Int)) = min k n := rfl
theorem sIx_le (n d : Nat) (hd : d ≤ n) (o : Option Int) : sIx n d o ≤ n := by
  cases o with
  | none => exact hd
  | some v =>
    show (if v < 0 then (v + (n : Int)).toNat else min v.toNat n) ≤ n
    grind
theorem clip_eq (v : Int) (n d : Nat) : (if v < 0 then max (v + (n : Int)) 0 else min v (n : Int)) = ((sIx n d (some v) : Nat) : Int) := by
  show (if v < 0 then max (v + (n : Int)) 0 else min v (n : Int)) = (((if v < 0 then (v + (n : Int)).toNat else min v.toNat n) : Nat) : Int)
  grind
theorem adjust_gen (lo hi : Option Int) (n : Nat) : Builtin.Slice.sliceAdjust lo hi 1 (n : Int) = (((sIx n 0 lo : Nat) : Int), ((sIx n n hi : Nat) : Int)) := by
  have h1 : ¬ ((1 : Int) < 0) := by lia
  unfold Builtin.Slice.sliceAdjust
  refine Prod.ext ?_ ?_
  · cases lo with
    | none => rfl
    | some v => exact clip_eq v n 0
  · cases hi with
    | none => rfl
    | some v => exact clip_eq v n n
theorem places_gen (i j : Nat) : Builtin.Slice.slicePlaces (i : Int) (j : Int) 1 = j - i := by
  unfold Builtin.Slice.slicePlaces
  grind
theorem slicePart_ {v:Value} {o:Option Int} {Q:Option Int→Shared→Prop} (p:IsPart v o) (h:Q o s):wpAny (model prog w) A (Builtin.Slice.slicePartIndex v) Q E s:=by
  cases p with
  | none=>exact slicePart_none h
  | int i t=>exact slicePart_int h
theorem sliceApplied_gen {sl : Addr} {vl vu : Value} {lo hi : Option Int} {n : Nat} {Q : Int × Int × Nat → Shared → Prop} (hs : s.heap.IsSliceOf sl vl vu .none) (pl : IsPart vl lo) (pu : IsPart vu hi)
    (h : Q (((sIx n 0 lo : Nat) : Int), 1, sIx n n hi - sIx n 0 lo) s) : wpAny (model prog w) A (Builtin.Slice.sliceApplied (.ref sl) (pure (n : Int))) Q E s := by
  obtain ⟨os, hos, hcs, hds⟩ := id hs
  refine wpAny_bind (wpAny_bind (wpAny_field hos hds (x := vl) rfl (wpAny_bind (wpAny_field hos hds (x := vu) rfl (wpAny_bind (wpAny_field hos hds (x := .none) rfl (wpAny_pure ?_)))))))
  refine wpAny_bind (slicePart_none ?_)
  rw [if_neg (by decide)]
  refine wpAny_bind (slicePart_ pl (wpAny_bind (slicePart_ pu (wpAny_bind (wpAny_pure ?_)))))
  show wpAny _ _ (match Builtin.Slice.sliceAdjust lo hi 1 (n : Int) with | (lo, hi) => pure (lo, (1 : Int), Builtin.Slice.slicePlaces lo hi 1)) _ _ s
  rw [adjust_gen lo hi n]
  show wpAny _ _ (pure (((sIx n 0 lo : Nat) : Int), (1 : Int), Builtin.Slice.slicePlaces ((sIx n 0 lo : Nat) : Int) ((sIx n n hi : Nat) : Int) 1)) _ _ s
  rw [places_gen]
  exact wpAny_pure h
theorem pick_gen (xs:Array Value) (i k:Nat):((List.range k).filterMap fun (m:Nat)=>xs[((i:Int) + (m:Int) * 1).toNat]?).toArray = ((xs.toList.drop i).take k).toArray:=by
  have e:(fun (m:Nat)=>xs[((i:Int) + (m:Int) * 1).toNat]?) = fun m=>xs[i + m]?:=by
    funext m
    have:((i:Int) + (m:Int) * 1).toNat = i + m:=by lia
    rw [this]
  rw [e]
  have:=pick_run xs i k
  rw [List.filterMap_map] at this
  have e2:((fun x=>xs[x]?) ∘ fun x=>i + x) = fun m=>xs[i + m]?:=rfl
  rw [e2] at this
  rw [this]
theorem getItem_tuple_cut {t sl : Addr} {items : Array Value} {vl vu : Value} {lo hi : Option Int} {Q : Value → Shared → Prop} (ht : IsTup s.heap t items) (hs : s.heap.IsSliceOf sl vl vu .none) (pl : IsPart vl lo) (pu : IsPart vu hi)
    (hw : ¬ (sIx items.size 0 lo = 0 ∧ sIx items.size items.size hi = items.size))
    (h : Q (.ref s.heap.objs.size) { s with heap := s.heap.push { cls := .type "tuple", data := .seq ((items.toList.drop (sIx items.size 0 lo)).take (sIx items.size items.size hi - sIx items.size 0 lo)).toArray } })
    (hsz : items.size ≤ sizeLine) : wpAny (model prog w) A (getItem (.ref t) (.ref sl)) Q E s := by
  have htake : sizeOk (.seq ((items.toList.drop (sIx items.size 0 lo)).take (sIx items.size items.size hi - sIx items.size 0 lo)).toArray) := by
    show ((items.toList.drop (sIx items.size 0 lo)).take (sIx items.size items.size hi - sIx items.size 0 lo)).toArray.size ≤ sizeLine
    rw [List.size_toArray, List.length_take, List.length_drop, Array.length_toList]
    lia
  have hj : sIx items.size items.size hi ≤ items.size := sIx_le _ _ (Nat.le_refl _) hi
  obtain ⟨os, hos, hcs, hds⟩ := id hs
  have hTs : s.TypeIs (.ref sl) "slice" := ⟨os, hos, hcs⟩
  unfold getItem
  try with_reducible refine wpAny_holding ?_
  first | refine wpAny_bind (wpAny_pure ?_) | skip
  refine wpAny_bind (wpAny_sequenceKey ht.typeIs (by decide) ?_)
  refine wpAny_bind (wpAny_callSpecial?_slot (name := Str.ofString "__getitem__") ht.typeIs PyProof.Rows.slot_tuple_getitem
    (wpAny_call_entry PyProof.Rows.slot_tuple_getitem ht.typeIs entry_tuple_getitem ?_ (args_tuple_getitem _ _)))
  show wpAny _ _ (Builtin.Tuple.tupleItemsOf (.ref t) >>= _) _ _ s
  refine wpAny_bind (tupleItemsOf_ ht ?_)
  refine wpAny_bind (wpAny_typeOf hTs ?_)
  rw [if_pos (by decide)]
  refine wpAny_bind (sliceApplied_gen hs pl pu ?_)
  have hno : ¬ ((((sIx items.size 0 lo : Nat) : Int) == 0 && (1 : Int) == 1 && (sIx items.size items.size hi - sIx items.size 0 lo) == items.size) = true) := by grind
  show wpAny _ _ (if (((sIx items.size 0 lo : Nat) : Int) == 0 && (1 : Int) == 1 && (sIx items.size items.size hi - sIx items.size 0 lo) == items.size) = true then _ else _) _ _ s
  rw [if_neg hno, pick_gen]
  first
    | exact wpAny_bind (m := Builtin.Tuple.tupleExact _) (wpAny_newObj_type (wpAny_pure ⟨_, rfl, wpAny_pure h⟩) htake)
    | exact wpAny_bind (m := Builtin.Tuple.tupleExact _) (wpAny_newObj_type (wpAny_bind (wpAny_pure (wpAny_pure ⟨_, rfl, wpAny_pure h⟩))) htake)
    | exact wpAny_bind (wpAny_bind (m := Builtin.Tuple.tupleExact _) (wpAny_newObj_type (wpAny_pure (wpAny_pure ⟨_, rfl, wpAny_pure h⟩)) htake))
    | exact wpAny_bind (wpAny_bind (m := Builtin.Tuple.tupleExact _) (wpAny_newObj_type (wpAny_pure ⟨_, rfl, wpAny_pure h⟩) htake))
end
end HT
namespace L2
open PySem PySem.Spec PyProof.Rows
noncomputable abbrev TO:=St→Hp→(Option Int→Hp→Prop)→Prop
noncomputable def PO (X:Cx) (e:Option Expr) (t:TO):Prop :=
  ∀ (pins:List (Addr × Obj)) (s:Shared) (σ:St) (H:Hp) (Q:Option Int→Hp→Prop),Inv X pins σ H s→t σ H Q →
    wpAny (model X.prog X.w) X.A (evalPart e X.env) (fun u s'=>∃ o H',Inv X pins σ H' s'∧IsPart u o∧Q o H') X.xe s
noncomputable def tNoPart:TO:=fun _ H Q=>Q none H
noncomputable def tPart (t:TE):TO:=fun σ H Q=>t σ H fun x H1=>∃ i,x = .int i∧Q (some i) H1
theorem intsAre_of {ns : List Int} : ∀ {us : List Value}, Vals (ns.map V.int) us → IntsAre us ns := by
  induction ns with
  | nil => intro us r; cases r; exact .nil
  | cons n ns ih =>
    intro us r
    cases r with
    | cons r1 r2 =>
      obtain ⟨t, e⟩ := r1
      subst e
      exact .cons n t (ih r2)
section
variable {X:Cx} {e:Expr} {te:TE} {lo hi:Option Expr} {tl th:TO} {pos p2:Pos}
theorem po_none : PO X none tNoPart := by
  intro pins s σ H Q I h
  exact wpAny_pure ⟨none, H, I, .none, h⟩
theorem po_some (h : PE X e te) : PO X (some e) (tPart te) := by
  intro pins s σ H Q I hw
  refine thn (h pins s σ H _ I hw) fun u s1 ⟨x, H1, I1, r1, q1⟩ => ?_
  obtain ⟨i, rfl, q⟩ := q1
  obtain ⟨t, rfl⟩ := r1
  exact ⟨some i, H1, I1, .int i t, q⟩
noncomputable def SlR (X:Cx) (r:V→Option Int→Option Int→Hp→VK→Prop):Prop :=
  ∀ (pins:List (Addr × Obj)) (s:Shared) (σ:St) (H:Hp) (x:V) (v vl vu:Value) (lo hi:Option Int) (sl:Addr) (Q:VK),Inv X pins σ H s→RelV x v→s.heap.IsSliceOf sl vl vu .none→IsPart vl lo→IsPart vu hi→r x lo hi H Q →
    ∃ T id,typeLookup (.type T) "__getitem__" = pure (some (.builtin id))∧s.TypeIs v T∧wpAny (model X.prog X.w) X.A (getItem v (.ref sl)) (EP X pins σ Q) X.xe s
noncomputable def tSl (r:V→Option Int→Option Int→Hp→VK→Prop) (te:TE) (tl th:TO):TE:=fun σ H Q=>te σ H fun x H1=>tl σ H1 fun l H2=>th σ H2 fun u H3=>r x l u H3 Q
theorem pe_slice {r : V → Option Int → Option Int → Hp → VK → Prop} (hr : SlR X r) (he : PE X e te) (hl : PO X lo tl) (hu : PO X hi th) : PE X (.Subscript e (.Slice lo hi none p2) pos) (tSl r te tl th) := by
  intro pins s σ H Q I h
  refine Subscript_ (thn (he pins s σ H _ I h) fun v s1 ⟨x, H1, I1, r1, q1⟩ => ?_)
  refine wpAny_Slice (thn (hl pins s1 σ H1 _ I1 q1) fun vl s2 ⟨l, H2, I2, pl, q2⟩ => thn (hu pins s2 σ H2 _ I2 q2) fun vu s3 ⟨u, H3, I3, pu, q3⟩ => ?_)
  rw [evalPart_none]
  refine wpAny_pure ?_
  have I4 : Inv X pins σ H3 { s3 with heap := s3.heap.push { cls := .type "slice", data := .fields #[vl, vu, .none] } } := I3.kept (t' := s3.toks) fun b ob q => Heap.get?_push_of_some _ q
  obtain ⟨T, id, hT, ht, hg⟩ := hr pins { s3 with heap := s3.heap.push { cls := .type "slice", data := .fields #[vl, vu, .none] } } σ H3 x v vl vu l u s3.heap.objs.size Q I4 r1 (Heap.IsSliceOf.new ..) pl pu q3
  exact tail_any (ops := [.ref s3.heap.objs.size, v]) ht hT hg (by with_unfolding_all rfl)
noncomputable def cutV (xs:List V) (lo hi:Option Int):List V:=(xs.drop (HT.sIx xs.length 0 lo)).take (HT.sIx xs.length xs.length hi - HT.sIx xs.length 0 lo)
theorem cutV_length (xs:List V) (lo hi:Option Int):(cutV xs lo hi).length ≤ xs.length:=by
  unfold cutV
  rw [List.length_take,List.length_drop]
  lia
inductive rSlT (K:PySem.W.Frag) (x : V) (lo : Option Int) (hi : Option Int) (H : Hp) (Q : VK) : Prop | mk (a : _) (xs : _) : (x = .ref a) → SqT K H a xs → (¬ (HT.sIx xs.length 0 lo = 0∧HT.sIx xs.length xs.length hi = xs.length)) → (∀ p,H p = none→Q (.ref p) (upd H p (.tup (cutV xs lo hi)))) → rSlT K x lo hi H Q
theorem sl_tup : SlR X (rSlT X.K) := by
  intro pins s σ H x v vl vu lo hi sl Q I rx hs pl pu h
  obtain ⟨a, xs, rfl, hx, hw, q⟩ := h
  cases rx
  obtain ⟨its, r, ht, hz⟩ := I.tuple hx
  have hlen : its.toArray.size = xs.length := by exact r.length.symm
  refine ⟨"tuple", _, PyProof.Rows.slot_tuple_getitem.lookup, ht.typeIs, ?_⟩
  refine HT.getItem_tuple_cut ht hs pl pu (by rw [hlen]; exact hw) ?_ (by rw [hlen]; exact hz)
  rw [hlen]
  refine ⟨.ref s.heap.objs.size, _, I.laid (t' := s.toks) (o := .tup (cutV xs lo hi)) (fun b ob q => Heap.get?_push_of_some _ q) (Nat.le_refl _) ?_, rfl, q _ (I.hok.fresh (Nat.le_refl _))⟩
  exact ⟨Nat.le_trans (cutV_length xs lo hi) hz, _, (r.drop (HT.sIx xs.length 0 lo)).take (HT.sIx xs.length xs.length hi - HT.sIx xs.length 0 lo), IsTup.new _ _⟩
inductive rCatT (K:PySem.W.Frag) (x : V) (y : V) (H : Hp) (Q : VK) : Prop | mk (a : _) (b : _) (xs : _) (ys : _) : (x = .ref a) → (y = .ref b) → SqT K H a xs → SqT K H b ys → (xs ≠ []) → (xs.length + ys.length ≤ sizeLine) → ((ys = []→Q (.ref a) H)) → ((ys ≠ []→∀ p,H p = none→Q (.ref p) (upd H p (.tup (xs ++ ys))))) → rCatT K x y H Q
theorem Vals.nil_iff {xs:List V} {us:List Value} (r:Vals xs us):us = [] ↔ xs = []:=by
  cases r with
  | nil=>simp
  | cons _ _=>simp
theorem op_catT : OpR X (binaryOp .Add) (rCatT X.K) := by
  intro pins s σ H x y v u Q I rx ry h
  obtain ⟨a, b, xs, ys, rfl, rfl, ha, hb, hx, hz, q1, q2⟩ := h
  cases rx
  cases ry
  obtain ⟨its, r1, p1, _⟩ := I.tuple ha
  obtain ⟨its2, r2, p2, _⟩ := I.tuple hb
  refine HT.cat_tup p1 p2 (fun z => hx (r1.nil_iff.mp z)) (fun z => ⟨.ref a, H, I, rfl, q1 (r2.nil_iff.mp z)⟩) (fun z => ?_) (by rw [← r1.length, ← r2.length]; exact hz)
  refine ⟨.ref s.heap.objs.size, _, I.laid (t' := s.toks) (o := .tup (xs ++ ys)) (fun b ob q => Heap.get?_push_of_some _ q) (Nat.le_refl _) ?_, rfl, q2 (fun w => z (r2.nil_iff.mpr w)) _ (I.hok.fresh (Nat.le_refl _))⟩
  exact ⟨by simp_all, _, r1.append r2, IsTup.new _ _⟩
end
end L2
namespace L2
open PySem PySem.Spec PyProof.Rows
noncomputable def ixN (n:Nat) (i:Int):Option Nat:=if 0 ≤ i then (if i < n then some i.toNat else none) else if -(n:Int) ≤ i then some (i + n).toNat else none
noncomputable def atI {α:Type} (xs:List α) (i:Int):Option α:=(ixN xs.length i).bind fun j=>xs[j]?
theorem ixN_seq {n:Nat} {i:Int} {j:Nat} (h:ixN n i = some j):seqIndex? i n = some j∧j < n∧-(n:Int) ≤ i∧i < n:=by
  unfold ixN at h
  by_cases h0:0 ≤ i
  · rw [if_pos h0] at h
    by_cases h1:i < n
    · rw [if_pos h1] at h
      have e:i.toNat = j:=Option.some.inj h
      exact ⟨by rw [seqIndex_of h0 h1,e],by lia,by lia,h1⟩
    · rw [if_neg h1] at h; cases h
  · rw [if_neg h0] at h
    by_cases h1:-(n:Int) ≤ i
    · rw [if_pos h1] at h
      have e:(i + n).toNat = j:=Option.some.inj h
      exact ⟨by rw [seqIndex_neg (by lia) h1,e],by lia,h1,by lia⟩
    · rw [if_neg h1] at h; cases h
theorem atI_get {α : Type} {xs : List α} {i : Int} {v : α} (h : atI xs i = some v) : ∃ j, seqIndex? i xs.length = some j ∧ xs[j]? = some v ∧ j < xs.length ∧ -(xs.length : Int) ≤ i ∧ i < xs.length := by
  unfold atI at h
  cases e : ixN xs.length i with
  | none => simp_all
  | some j =>
    rw [e] at h
    obtain ⟨h1, h2, h3, h4⟩ := ixN_seq e
    exact ⟨j, h1, h, h2, h3, h4⟩
theorem atI_nat {α : Type} {xs : List α} {j : Nat} {v : α} (h : xs[j]? = some v) : atI xs (j : Int) = some v := by
  have hj : j < xs.length := (List.getElem?_eq_some_iff.mp h).1
  have e : ixN xs.length (j : Int) = some j := by
    unfold ixN
    simp_all
  unfold atI; rw [e]; exact h
theorem atI_last {α:Type} (xs:List α) (v:α):atI (xs ++ [v]) (-1) = some v:=by
  have hl:(xs ++ [v]).length = xs.length + 1:=by simp
  have e:ixN (xs ++ [v]).length (-1) = some xs.length:=by
    unfold ixN
    rw [hl,if_neg (by decide),if_pos (by lia)]
    congr 1
    lia
  unfold atI
  rw [e]
  show (xs ++ [v])[xs.length]? = some v
  simp
noncomputable def PlainIx (b:Expr):Prop:=∀ o i,subscripted b false o i = operate [o,i] (getItem o i)
noncomputable def IxR (X:Cx) (r:R2):Prop :=
  ∀ (value slice:Expr) (pins:List (Addr × Obj)) (s:Shared) (σ:St) (H:Hp) (x y:V) (v u:Value) (Q:VK),Inv X pins σ H s→RelV x v→RelV y u→r x y H Q →
    subscripted slice false v u = operate [v,u] (getItem v u)→wpAny (model X.prog X.w) X.A (subscriptTail value slice v u) (EP X pins σ Q) X.xe s
noncomputable def MtR (X:Cx) (id:String) (r:V→List V→Hp→VK→Prop):Prop :=
  ∀ (pins:List (Addr × Obj)) (s:Shared) (σ:St) (H:Hp) (x:V) (xs:List V) (v:Value) (us:List Value) (Q:VK),Inv X pins σ H s→RelV x v→Vals xs us→r x xs H Q →
    wpAny (model X.prog X.w) X.A (call (.builtin id) (v :: us)) (EP X pins σ Q) X.xe s
section
variable {X:Cx} {a b:Expr} {ta tb:TE} {pos:Pos}
theorem pe_ix {r:R2} (hr:IxR X r) (ha:PE X a ta) (hb:PE X b tb) (hs:PlainIx b):PE X (.Subscript a b pos) (tOp r ta tb):=by
  intro pins s σ H Q I h
  exact Subscript_ (binT ha hb I h fun v u s2 x y H2 I2 rx ry q=>hr a b pins s2 σ H2 x y v u Q I2 rx ry q (hs _ _))
inductive rIxL (K:PySem.W.Frag) (x : V) (y : V) (H : Hp) (Q : VK) : Prop | mk (p : _) (xs : _) (i : _) (v : _) : (x = .ref p) → (y = .int i) → SqL K H p xs → (atI xs i = some v) → Q v H → rIxL K x y H Q
inductive rIxT (K:PySem.W.Frag) (x : V) (y : V) (H : Hp) (Q : VK) : Prop | mk (p : _) (xs : _) (i : _) (v : _) : (x = .ref p) → (y = .int i) → SqT K H p xs → (atI xs i = some v) → Q v H → rIxT K x y H Q
inductive rIxS (x : V) (y : V) (H : Hp) (Q : VK) : Prop | mk (z : _) (i : _) (c : _) : (x = .str z) → (y = .int i) → (z.length ≤ sizeLine) → (atI z.cps.toList i = some c) → (Q (.str ⟨#[c]⟩) H) → rIxS x y H Q
theorem ix_list:IxR X (rIxL X.K):=by
  intro value slice pins s σ H x y v u Q I rx ry h hs
  obtain ⟨p,xs,i,z,rfl,rfl,hq,he,q⟩:=h
  cases rx
  obtain ⟨t,rfl⟩:=ry
  obtain ⟨its,r,pl,hz⟩:=I.list hq
  obtain ⟨j,h1,h2,h3,h4,h5⟩:=atI_get he
  obtain ⟨w,ew,rw'⟩:=r.get h2
  have hl:=r.length
  have hn:=line63
  have fin:EP X pins σ Q w s:=⟨z,H,I,rw',q⟩
  by_cases h0:0 ≤ i
  · have hj : i.toNat = j := by
      rw [seqIndex_of h0 h5] at h1
      exact Option.some.inj h1
    exact item_listR pl.isList h0 (by lia) (by rw [hj]; simpa using ew) fin hs
  · have hj : (i + (its.toArray.size : Int)).toNat = j := by
      rw [seqIndex_neg (by lia) h4] at h1
      rw [List.size_toArray,← hl]
      exact Option.some.inj h1
    exact subscriptTail_builtinR (x:=w) pl.isList.typeIs slot_list_getitem.lookup
      (wpAny_getItem_list_neg (Q:=fun r s'=>r = w∧EP X pins σ Q r s') pl.isList (by lia) (by rw [List.size_toArray] <;> lia) (by lia) (by rw [hj]; simpa using ew) ⟨rfl,fin⟩) hs
theorem ix_tup : IxR X (rIxT X.K) := by
  intro value slice pins s σ H x y v u Q I rx ry h hs
  obtain ⟨p, xs, i, z, rfl, rfl, hq, he, q⟩ := h
  cases rx
  obtain ⟨t, rfl⟩ := ry
  obtain ⟨its, r, pl, hz⟩ := I.tuple hq
  obtain ⟨j, h1, h2, h3, h4, h5⟩ := atI_get he
  obtain ⟨w, ew, rw'⟩ := r.get h2
  have hl := r.length
  have hn := line63
  have fin : EP X pins σ Q w s := ⟨z, H, I, rw', q⟩
  exact subscriptTail_builtinR (x := w) pl.typeIs slot_tuple_getitem.lookup
    (getItem_tuple (j := j) (Q := fun r s' => r = w ∧ EP X pins σ Q r s') pl (by lia) (by lia) (by simp_all) (by simpa using ew) ⟨rfl, fin⟩) hs
theorem ix_str : IxR X rIxS := by
  intro value slice pins s σ H x y v u Q I rx ry h hs
  obtain ⟨z, i, c, rfl, rfl, hz, he, q⟩ := h
  obtain ⟨t, rfl⟩ := rx
  obtain ⟨t', rfl⟩ := ry
  obtain ⟨j, h1, h2, h3, h4, h5⟩ := atI_get he
  have hl : z.cps.toList.length = z.length := rfl
  rw [hl] at h1 h4 h5
  have hn := line63
  exact tail_any (typeIs_str s z t) slot_str_getitem.lookup (getItem_str (c := c) (by grind) (by rw [h1]; simpa using h2) ⟨.str ⟨#[c]⟩, H, I.tok _, ⟨_, rfl⟩, q⟩) hs
theorem mapSeq_set (its:List Value) (n j:Nat) (u:Value):Obj.mapSeq (·.setIfInBounds j u) { cls:=.type "list",data:=.seq its.toArray n } = { cls:=.type "list",data:=.seq (its.set j u).toArray n }:=by
  simp [Obj.mapSeq]
theorem Inv.lst {pins : List (Addr × Obj)} {σ : St} {H : Hp} {s : Shared} {p : Addr} {xs : List V} (I : Inv X pins σ H s) (h : H p = some (.lst xs)) :
    ∃ (its:List Value) (n:Nat),Vals xs its∧s.heap.get? p = some { cls:=.type "list",data:=.seq its.toArray n }∧xs.length ≤ sizeLine:=by
  obtain ⟨z,its,n,r,e⟩:=I.hok p _ h
  exact ⟨its,n,r,e,z⟩
theorem Inv.lstUpd {pins : List (Addr × Obj)} {σ : St} {H : Hp} {s : Shared} {p : Addr} {xs ys : List V} {its its' : List Value} {n n' : Nat} {f : Obj → Obj} (I : Inv X pins σ H s) (h : H p = some (.lst xs))
    (ho:s.heap.get? p = some { cls:=.type "list",data:=.seq its.toArray n }) (hf:f { cls:=.type "list",data:=.seq its.toArray n } = { cls:=.type "list",data:=.seq its'.toArray n' }) (r:Vals ys its') (hz:ys.length ≤ sizeLine) (t:Nat) :
    Inv X pins σ (upd H p (.lst ys)) { s with heap:=s.heap.update p f,toks:=t }:=by
  have e:(s.heap.update p f).get? p = some { cls:=.type "list",data:=.seq its'.toArray n' }:=by
    rw [Heap.get?_update_self f ho (by rw [hf] <;> rfl),hf]
  refine I.write (x:=p) (e:=p) (by rw [h]; trivial) (.inl rfl) (fun b u hb q=>(Heap.get?_update_other _ _ (Ne.symm hb)).trans q) ⟨_,e⟩ ?_
  exact ⟨hz,its',n',r,e⟩
inductive rSetL (o : V) (i : V) (v : V) (H : Hp) (Q : (Hp→Prop)) : Prop | mk (p : _) (xs : _) (k : _) (j : _) : (o = .ref p) → (i = .int k) → (H p = some (.lst xs)) → (ixN xs.length k = some j) → (Q (upd H p (.lst (xs.set j v)))) → rSetL o i v H Q
theorem set_list:PSet X rSetL:=by
  intro pins s σ H o i v ov iv u Q I ro ri rv h
  obtain ⟨p,xs,k,j,rfl,rfl,hp,hj,q⟩:=h
  cases ro
  obtain ⟨t,rfl⟩:=ri
  obtain ⟨its,n,r,ho,hz⟩:=I.lst hp
  obtain ⟨h1,h2,h3,h4⟩:=ixN_seq hj
  have hl:=r.length
  have hn:=line63
  have I':Inv X pins σ (upd H p (.lst (xs.set j v))) { s with heap:=s.heap.update p (Obj.mapSeq (·.setIfInBounds j u)) } :=
    I.lstUpd hp ho (mapSeq_set its n j u) (r.set rv j) (by rw [List.length_set]; exact hz) s.toks
  by_cases h0:0 ≤ k
  · have hk : k.toNat = j := by
      rw [seqIndex_of h0 h4] at h1
      exact Option.some.inj h1
    exact PySem.W.ki_setAt ho h0 (by lia) (by rw [List.size_toArray,← hl]; exact h4) (by rw [hk]; exact ⟨_,I',q⟩)
  · have hk : (k + (its.toArray.size : Int)).toNat = j := by
      rw [seqIndex_neg (by lia) h3] at h1
      rw [List.size_toArray,← hl]
      exact Option.some.inj h1
    exact PySem.W.ki_setBack ho (by lia) (by rw [List.size_toArray,← hl]; exact h3) (by lia) (by rw [hk]; exact ⟨_,I',q⟩)
theorem slice_bounds (lo hi:Option Int) (n:Nat):(sliceBounds lo hi none n).1 = ((HT.sIx n 0 lo:Nat):Int)∧(sliceBounds lo hi none n).2.1 = ((HT.sIx n n hi:Nat):Int)∧(sliceBounds lo hi none n).2.2 = 1:=by
  refine ⟨?_,?_,rfl⟩
  · cases lo with
    | none=>simp [sliceBounds,HT.sIx]
    | some i =>
      simp only [sliceBounds,HT.sIx,Option.getD_none,show (1:Int) > 0 by decide,if_true]
      by_cases h:i < 0
      · simp only [h,if_true] <;> lia
      · simp only [h,if_false] <;> lia
  · cases hi with
    | none=>simp [sliceBounds,HT.sIx]
    | some i =>
      simp only [sliceBounds,HT.sIx,Option.getD_none,show (1:Int) > 0 by decide,if_true]
      by_cases h:i < 0
      · simp only [h,if_true] <;> lia
      · simp only [h,if_false] <;> lia
theorem slicePick_cut (its:List Value) (lo hi:Option Int):slicePick its.toArray lo hi none = ((its.drop (HT.sIx its.length 0 lo)).take (HT.sIx its.length its.length hi - HT.sIx its.length 0 lo)).toArray:=by
  obtain ⟨h1,h2,h3⟩:=slice_bounds lo hi its.toArray.size
  unfold slicePick
  rw [h1,h2,h3]
  simp only [sliceRange_one,pick_run,List.size_toArray] <;> rfl
inductive rSlL (K:PySem.W.Frag) (x : V) (lo : Option Int) (hi : Option Int) (H : Hp) (Q : VK) : Prop | mk (a : _) (xs : _) : (x = .ref a) → SqL K H a xs → (∀ p,H p = none→Q (.ref p) (upd H p (.lst (cutV xs lo hi)))) → rSlL K x lo hi H Q
theorem sl_list : SlR X (rSlL X.K) := by
  intro pins s σ H x v vl vu lo hi sl Q I rx hs pl pu h
  obtain ⟨a, xs, rfl, hx, q⟩ := h
  cases rx
  obtain ⟨its, r, ht, hz⟩ := I.list hx
  have hlen := r.length
  refine ⟨"list", _, slot_list_getitem.lookup, ht.isList.typeIs, ?_⟩
  refine wpAny_getItem_list_slice ht.isList hs pl pu .none (by simp) ?_ (by grind)
  rw [slicePick_cut, ← hlen]
  refine ⟨.ref s.heap.objs.size, _, I.laid (t' := s.toks) (o := .lst (cutV xs lo hi)) (fun b ob q => Heap.get?_push_of_some _ q) (Nat.le_refl _) ?_, rfl, q _ (I.hok.fresh (Nat.le_refl _))⟩
  exact ⟨Nat.le_trans (cutV_length xs lo hi) hz, _, 0, (r.drop (HT.sIx xs.length 0 lo)).take (HT.sIx xs.length xs.length hi - HT.sIx xs.length 0 lo), Heap.get?_push_size _ rfl⟩
noncomputable def flatV:V→Bool
  | .non=>true
  | .bl _=>true
  | .int _=>true
  | .str _=>true
  | _=>false
noncomputable def eqV:V→V→Bool
  | .non,.non=>true
  | .bl a,.bl b=>a == b
  | .bl a,.int b=>(if a then 1 else 0) == b
  | .int a,.bl b=>a == (if b then 1 else 0)
  | .int a,.int b=>a == b
  | .str a,.str b=>a == b
  | _,_=>false
theorem eqAt_V {A:Around} {s:Shared} {y x:V} {u v:Value} (ry:RelV y u) (rx:RelV x v) (fy:flatV y = true) (fx:flatV x = true):SeqAt.EqAt A s u v (eqV y x):=by
  cases y with
  | non =>
    cases ry
    cases x with
    | non=>cases rx; exact SeqAt.EqAt.same _
    | bl b=>cases rx; exact SeqAt.EqAt.none_bool b
    | int b=>obtain ⟨t,rfl⟩:=rx; exact SeqAt.EqAt.none_int b t
    | str b=>obtain ⟨t,rfl⟩:=rx; exact SeqAt.EqAt.none_str b t
    | _=>exact absurd (show false = true from fx) Bool.false_ne_true
  | bl a =>
    cases ry
    cases x with
    | non=>cases rx; exact SeqAt.EqAt.bool_none a
    | bl b=>cases rx; exact SeqAt.EqAt.bool_bool a b
    | int b=>obtain ⟨t,rfl⟩:=rx; exact SeqAt.EqAt.bool_int a b t
    | str b=>obtain ⟨t,rfl⟩:=rx; exact SeqAt.EqAt.bool_str a b t
    | _=>exact absurd (show false = true from fx) Bool.false_ne_true
  | int a =>
    obtain ⟨t',rfl⟩:=ry
    cases x with
    | non=>cases rx; exact SeqAt.EqAt.int_none a t'
    | bl b=>cases rx; exact SeqAt.EqAt.int_bool a t' b
    | int b=>obtain ⟨t,rfl⟩:=rx; exact SeqAt.EqAt.int_int a t' b t
    | str b=>obtain ⟨t,rfl⟩:=rx; exact SeqAt.EqAt.int_str a t' b t
    | _=>exact absurd (show false = true from fx) Bool.false_ne_true
  | str a =>
    obtain ⟨t',rfl⟩:=ry
    cases x with
    | non=>cases rx; exact SeqAt.EqAt.str_none a t'
    | bl b=>cases rx; exact SeqAt.EqAt.str_bool a t' b
    | int b=>obtain ⟨t,rfl⟩:=rx; exact SeqAt.EqAt.str_int a t' b t
    | str b=>obtain ⟨t,rfl⟩:=rx; exact SeqAt.EqAt.str_str a t' b t
    | _=>exact absurd (show false = true from fx) Bool.false_ne_true
  | _=>exact absurd (show false = true from fy) Bool.false_ne_true
noncomputable def eqU (x:V) (u:Value):Bool:=match u with
  | .none=>eqV .non x
  | .bool b=>eqV (.bl b) x
  | .int i _=>eqV (.int i) x
  | .str z _=>eqV (.str z) x
  | _=>false
theorem eqU_of {x y:V} {u:Value} (r:RelV y u) (f:flatV y = true):eqU x u = eqV y x:=by
  cases y with
  | non=>cases r; rfl
  | bl b=>cases r; rfl
  | int i=>obtain ⟨t,rfl⟩:=r; rfl
  | str z=>obtain ⟨t,rfl⟩:=r; rfl
  | _=>exact absurd (show false = true from f) Bool.false_ne_true
theorem any_eqU {x:V}:∀ {xs:List V} {us:List Value},Vals xs us→xs.all flatV = true→us.any (eqU x) = xs.any fun y=>eqV y x
  | _,_,.nil,_=>rfl
  | y :: xs,u :: us,.cons r t,f=>by
    rw [List.all_cons,Bool.and_eq_true] at f
    rw [List.any_cons,List.any_cons,eqU_of r f.1,any_eqU t f.2]
theorem mem_eqAt {A:Around} {s:Shared} {x:V} {v:Value} (rx:RelV x v) (fx:flatV x = true):∀ {xs:List V} {us:List Value},Vals xs us→xs.all flatV = true→∀ u ∈ us,SeqAt.EqAt A s u v (eqU x u)
  | _,_,.nil,_=>fun u hu=>by cases hu
  | y :: xs,u :: us,.cons r t,f=>fun u' hu=>by
    rw [List.all_cons,Bool.and_eq_true] at f
    rcases List.mem_cons.mp hu with rfl | hu
    · rw [eqU_of r f.1]; exact eqAt_V r rx f.1 fx
    · exact mem_eqAt rx fx t f.2 u' hu
noncomputable def inV (x:V) (xs:List V):Bool:=xs.any fun y=>eqV y x
inductive rIn (K:PySem.W.Frag) (neg:Bool) (x : V) (y : V) (H : Hp) (Q : VK) : Prop | mk (p : _) (xs : _) : (y = .ref p) → ((SqL K H p xs∨SqT K H p xs)) → (flatV x = true) → (xs.all flatV = true) → (Q (.bl (if neg then !inV x xs else inV x xs)) H) → rIn K neg x y H Q
theorem op_in_seq : OpR X (compareOp .In) (rIn X.K false) := by
  intro pins s σ H x y v u Q I rx ry h
  obtain ⟨p, xs, rfl, hq, fx, fs, q⟩ := h
  cases ry
  rcases hq with hq | hq
  · obtain ⟨its, r, pl, hz⟩ := I.list hq
    refine SeqAt.in_listAt (eqU x) pl.isList (fun w hw => mem_eqAt rx fx r fs w (by simp_all)) ⟨.bl _, H, I, rfl, ?_⟩
    rw [show its.toArray.any (eqU x) = its.any (eqU x) by simp, any_eqU r fs]
    exact q
  · obtain ⟨its, r, pl, hz⟩ := I.tuple hq
    refine SeqAt.in_tupleAt (eqU x) pl (fun w hw => mem_eqAt rx fx r fs w (by simpa using hw)) ⟨.bl _, H, I, rfl, ?_⟩
    rw [show its.toArray.any (eqU x) = its.any (eqU x) by simp, any_eqU r fs]
    exact q
theorem call_len_seq:CallR X (.builtin "len") (fun xs H Q=>∃ p ys,xs = [.ref p]∧(SqL X.K H p ys∨SqT X.K H p ys)∧Q (.int ys.length) H):=by
  intro pins s σ H xs us Q I r h
  obtain ⟨p,ys,rfl,hq,q⟩:=h
  obtain ⟨u,rfl,rx⟩:=vals1 r
  cases rx
  have hn:=line63
  rcases hq with hq | hq
  · obtain ⟨its,r',pl,hz⟩:=I.list hq
    have hlen:=r'.length
    exact Calls.call_len_list pl.isList (by simp only [List.size_toArray] <;> lia) ⟨.int ys.length,H,I.tok _,⟨s.toks + 1,by rw [List.size_toArray,hlen]⟩,q⟩
  · obtain ⟨its,r',pl,hz⟩:=I.tuple hq
    have hlen:=r'.length
    exact len_tuple pl (by simp only [List.size_toArray] <;> lia) ⟨.int ys.length,H,I.tok _,⟨s.toks + 1,by rw [List.size_toArray,hlen]⟩,q⟩
theorem call_len_str:CallR X (.builtin "len") (fun xs H Q=>∃ z,xs = [.str z]∧z.length ≤ sizeLine∧Q (.int z.length) H):=by
  intro pins s σ H xs us Q I r h
  obtain ⟨z,rfl,hz,q⟩:=h
  obtain ⟨u,rfl,t,rfl⟩:=vals1 r
  have hn:=line63
  exact len_str (by lia) ⟨.int z.length,H,I.tok _,⟨_,rfl⟩,q⟩
theorem call_list_of:CallR X (.type "list") (fun xs H Q=>∃ p ys,xs = [.ref p]∧(SqL X.K H p ys∨SqT X.K H p ys)∧∀ l,H l = none→Q (.ref l) (upd H l (.lst ys))):=by
  intro pins s σ H xs us Q I r h
  obtain ⟨p,ys,rfl,hq,q⟩:=h
  obtain ⟨u,rfl,rx⟩:=vals1 r
  cases rx
  have fin : ∀ (its : List Value), Vals ys its → ys.length ≤ sizeLine → ∀ (h' : Heap) (c' : Nat), (∀ b o', s.heap.get? b = some o' → h'.get? b = some o') →
      h'.get? s.heap.objs.size = some { cls:=.type "list",dict:=none,data:=.seq its.toArray c',slots:=#[] }→EP X pins σ Q (.ref s.heap.objs.size) { s with heap:=h' }:=fun its r' hz h' c' kp e =>
    ⟨.ref s.heap.objs.size,_,I.laid (t':=s.toks) kp (Nat.le_refl _) (show ObjOk X.prog X.w _ h' _ (.lst ys) from ⟨hz,its,c',r',e⟩),rfl,q _ (I.hok.fresh (Nat.le_refl _))⟩
  rcases hq with hq | hq
  · obtain ⟨its,r',pl,hz⟩:=I.list hq
    have hlen:=r'.length
    obtain ⟨o,ho,hc,n,hd⟩:=pl.isList
    exact call_list_seq p (.inl rfl) ho hc hd (fun h' c' kp e=>fin its r' hz h' c' kp e) (by simp only [List.size_toArray] <;> lia)
  · obtain ⟨its,r',pl,hz⟩:=I.tuple hq
    have hlen:=r'.length
    obtain ⟨o,ho,hc,n,hd⟩:=pl
    exact call_list_seq p (.inr rfl) ho hc hd (fun h' c' kp e=>fin its r' hz h' c' kp e) (by simp only [List.size_toArray] <;> lia)
theorem call_tuple_of:CallR X (.type "tuple") (fun xs H Q=>∃ p ys,xs = [.ref p]∧((SqL X.K H p ys∧∀ l,H l = none→Q (.ref l) (upd H l (.tup ys)))∨(SqT X.K H p ys∧Q (.ref p) H))):=by
  intro pins s σ H xs us Q I r h
  obtain ⟨p,ys,rfl,h⟩:=h
  obtain ⟨u,rfl,rx⟩:=vals1 r
  cases rx
  rcases h with ⟨hq,q⟩ | ⟨hq,q⟩
  · obtain ⟨its,r',pl,hz⟩:=I.list hq
    have hlen:=r'.length
    refine call_tuple_list pl.isList (fun h' kp=>?_) (by simp only [List.size_toArray] <;> lia)
    have I1:Inv X pins σ H { s with heap:=h' }:=I.kept (t':=s.toks) kp
    have I2:Inv X pins σ (upd H h'.objs.size (.tup ys)) { s with heap:=h'.push { cls:=.type "tuple",data:=.seq its.toArray } } :=
      I1.laid (t':=s.toks) (fun b o e=>Heap.get?_push_of_some _ e) (Nat.le_refl _) (show ObjOk X.prog X.w _ _ _ (.tup ys) from ⟨hz,its,r',IsTup.new _ _⟩)
    exact ⟨.ref h'.objs.size,_,I2,rfl,q _ (I1.hok.fresh (Nat.le_refl _))⟩
  · obtain ⟨its,r',pl,hz⟩:=I.tuple hq
    exact call_tuple_same pl ⟨.ref p,H,I,rfl,q⟩
noncomputable def tyV (K:PySem.W.Frag) (T:String) (x:V) (H:Hp):Prop:=match x with
  | .str _=>T = "str"
  | .int _=>T = "int"
  | .ref p => (T = "list" ∧ ∃ xs, SqL K H p xs) ∨ (T = "tuple" ∧ ∃ o, K.lookup p = some o ∧ o.cls = .type "tuple" ∧ o.dict = none) ∨
      (T = "dict"∧((∃ kvs,H p = some (.dK kvs))∨∃ kvs,H p = some (.dT kvs)))∨(T = "set"∧∃ S n,H p = some (.set S n))
  | _=>False
theorem tyV_is {pins : List (Addr × Obj)} {σ : St} {H : Hp} {s : Shared} {T : String} {x : V} {v : Value} (I : Inv X pins σ H s) (r : RelV x v) (ty : tyV X.K T x H) :
    s.TypeIs v T∧∀ a,v = .ref a→∃ ob,s.heap.get? a = some ob∧ob.dict = none:=by
  cases x with
  | str z =>
    obtain ⟨t,rfl⟩:=r
    cases (show T = "str" from ty)
    exact ⟨typeIs_str s z t,fun _ e=>nomatch e⟩
  | int i =>
    obtain ⟨t,rfl⟩:=r
    cases (show T = "int" from ty)
    exact ⟨typeIs_int s i t,fun _ e=>nomatch e⟩
  | ref p =>
    cases r
    rcases ty with ⟨rfl,xs,hq⟩ | ⟨rfl,o,hk,hc,hd⟩ | ⟨rfl,hk⟩ | ⟨rfl,S,n,hk⟩
    · obtain ⟨its,_,pl,_⟩:=I.list hq
      refine ⟨pl.isList.typeIs,fun a e=>?_⟩
      cases e
      obtain ⟨o,n,e,c,hd,_⟩:=pl
      exact ⟨o,e,hd⟩
    · refine ⟨⟨o,I.kIn p o hk,hc⟩,fun a e=>?_⟩
      cases e
      exact ⟨o,I.kIn _ o hk,hd⟩
    · have z : ∃ o, s.heap.get? p = some o ∧ o.ExactDict := by
        rcases hk with ⟨kvs,hk⟩ | ⟨kvs,hk⟩
        · obtain ⟨_,_,_,_,o,_,_,e,ex,_⟩:=I.hok p _ hk
          exact ⟨o,e,ex⟩
        · obtain ⟨_,_,_,_,o,_,_,e,ex,_⟩:=I.hok p _ hk
          exact ⟨o,e,ex⟩
      obtain ⟨o,e,ex⟩:=z
      refine ⟨⟨o,e,ex.1⟩,fun a e2=>?_⟩
      cases e2
      exact ⟨o,e,ex.2.1⟩
    · obtain ⟨o,_,_,_,e,ex,_⟩:=I.hok p _ hk
      refine ⟨⟨o,e,ex.1⟩,fun a e2=>?_⟩
      cases e2
      exact ⟨o,e,ex.2.1⟩
  | _=>exact False.elim ty
noncomputable def tBM0 (K:PySem.W.Frag) (T:String) (r:V→List V→Hp→VK→Prop) (to:TE):TE:=fun σ H Q=>to σ H fun x H1=>tyV K T x H1∧r x [] H1 Q
noncomputable def tBM (K:PySem.W.Frag) (T:String) (r:V→List V→Hp→VK→Prop) (to:TE) (t:TA):TE:=fun σ H Q=>to σ H fun x H1=>tyV K T x H1∧t σ H1 fun xs H2=>r x xs H2 Q
variable {o e:Expr} {es:List Expr} {to:TE} {t:TA} {name:Str} {apos cpos:Pos} {T id:String} {r:V→List V→Hp→VK→Prop}
theorem pe_bm0 (pa : PlainAttrs T) (slot : Slot T name id) (hty : typeOf (.builtin id) = pure (.type "method_descriptor")) (hm : MtR X id r) (ho : PE X o to)
    (hbase:attributeBase o name X.env (eval o X.env) = eval o X.env:=by rfl) (hline:(apos.endLine == cpos.line) = true:=by rfl):PE X (.Call (.Attribute o name apos) [] [] cpos) (tBM0 X.K T r to):=by
  intro pins s σ H Q I h
  refine wpAny_Call_method0_late hbase hline (thn (ho pins s σ H _ I h) fun v s1 ⟨x,H1,I1,r1,ty,q1⟩=>?_)
  obtain ⟨h1,h2⟩:=tyV_is I1 r1 ty
  exact ⟨T,id,pa,slot,hty,h1,h2,Calls.callWith_builtin rfl (PySem.evalArgs_none (hm pins s1 σ H1 x [] v [] Q I1 r1 .nil q1))⟩
theorem pe_bm (pa : PlainAttrs T) (slot : Slot T name id) (hty : typeOf (.builtin id) = pure (.type "method_descriptor")) (hm : MtR X id r) (ho : PE X o to) (ha : PA X (e :: es) t)
    (hbase:attributeBase o name X.env (eval o X.env) = eval o X.env:=by rfl)
    (hfew:((backTo cpos (starEach (e :: es) X.env)).all (fun x=>!x.1) && (backToKw cpos (keywordEach [] X.env)).all (fun x=>x.1.isSome)
      && decide ((e :: es).length + ([]:List Keyword).length + (if ([]:List Keyword).isEmpty then 0 else 1) < 30)) = true:=by rfl)
    (hline:(apos.endLine == cpos.line) = true:=by rfl) (hs:starEach (e :: es) X.env = (false,eval e X.env) :: starEach es X.env:=by rfl) (hplain:(backTo cpos (starEach es X.env)).any (·.1) = false:=by rfl) :
    PE X (.Call (.Attribute o name apos) (e :: es) [] cpos) (tBM X.K T r to t):=by
  intro pins s σ H Q I h
  refine wpAny_Call_method_late hbase hfew hline rfl (thn (ho pins s σ H _ I h) fun v s1 ⟨x,H1,I1,r1,ty,q1⟩=>?_)
  obtain ⟨h1,h2⟩:=tyV_is I1 r1 ty
  refine ⟨T,id,pa,slot,hty,h1,h2,?_⟩
  have hA:=ha cpos pins s1 σ H1 _ I1 q1
  rw [hs] at hA ⊢
  refine Calls.callWith_builtin (by show (false || (backTo cpos (starEach es X.env)).any (·.1)) = false; rw [hplain] <;> rfl) (Calls.evalArgs_plain ?_)
  exact thn hA fun us s2 ⟨vs,H2,I2,r2,q2⟩=>hm pins s2 σ H2 x vs v us Q I2 r1 r2 q2
end
end L2
namespace L2
open PySem PySem.Spec PyProof.Rows
noncomputable def MtM (X:Cx) (id:String) (r:V→List V→Hp→VK→Prop):Prop :=
  ∀ (pins:List (Addr × Obj)) (s:Shared) (σ:St) (H:Hp) (x:V) (xs:List V) (v:Value) (us:List Value) (Q:VK),Inv X pins σ H s→RelV x v→Vals xs us→r x xs H Q →
    wpAny (model X.prog X.w) X.A (call (.builtin id) (v :: us)) (EP X pins σ Q) X.xe s
theorem Vals.one:∀ {x:V} {us:List Value},Vals [x] us→∃ u,us = [u]∧RelV x u
  | _,_,.cons r .nil=>⟨_,rfl,r⟩
theorem Vals.zero:∀ {us:List Value},Vals [] us→us = []
  | _,.nil=>rfl
theorem Vals.eraseIdx:∀ {xs:List V} {us:List Value} (i:Nat),Vals xs us→Vals (xs.eraseIdx i) (us.eraseIdx i)
  | _,_,_,.nil=>.nil
  | _,_,0,.cons _ t=>t
  | _,_,i + 1,.cons r t=>.cons r (Vals.eraseIdx i t)
theorem Vals.reverse {xs:List V} {us:List Value} (h:Vals xs us):Vals xs.reverse us.reverse:=by
  induction h with
  | nil=>exact .nil
  | cons r t ih=>rw [List.reverse_cons,List.reverse_cons]; exact Vals.append ih (.cons r .nil)
theorem Vals.rep {xs:List V} {us:List Value} (h:Vals xs us):∀ k:Nat,Vals (List.replicate k xs).flatten (List.replicate k us).flatten
  | 0=>.nil
  | k + 1=>by
    rw [List.replicate_succ,List.replicate_succ,List.flatten_cons,List.flatten_cons]
    exact Vals.append h (Vals.rep h k)
theorem len_erase {α:Type}:∀ (l:List α) (i:Nat),(l.eraseIdx i).length ≤ l.length
  | [],_=>Nat.le_refl _
  | _ :: _,0=>Nat.le_succ _
  | _ :: r,i + 1=>Nat.succ_le_succ (len_erase r i)
theorem foldl_rep (its : List Value) : ∀ (k : Nat) (acc : List Value),
    List.foldl (fun x1 x2=>x1 ++ x2) acc.toArray (List.replicate k its.toArray) = (acc ++ (List.replicate k its).flatten).toArray
  | 0,acc=>by simp
  | k + 1,acc=>by
    have e:acc.toArray ++ its.toArray = (acc ++ its).toArray:=by simp
    have e2:(acc ++ its) ++ (List.replicate k its).flatten = acc ++ (List.replicate (k + 1) its).flatten:=by
      rw [List.replicate_succ,List.flatten_cons,List.append_assoc]
    rw [← e2,← foldl_rep its k (acc ++ its),← e,List.replicate_succ,List.foldl_cons]
section
variable {X:Cx} {pins:List (Addr × Obj)} {σ:St} {H:Hp} {s:Shared} {l b:Addr} {xs ys zs:List V}
theorem Inv.lset {its its' : List Value} {n : Nat} {f : Array Value → Array Value} {t' : Nat} (I : Inv X pins σ H s) (hH : H l = some (.lst xs))
    (e:s.heap.get? l = some { cls:=.type "list",data:=.seq its.toArray n }) (hf:f its.toArray = its'.toArray) (hv:Vals ys its') (hz:ys.length ≤ sizeLine) :
    Inv X pins σ (upd H l (.lst ys)) { s with heap:=s.heap.update l (Obj.mapSeq f),toks:=t' }:=by
  have q:=PySem.IsL.update e f
  rw [hf] at q
  refine I.write (x:=l) (e:=l) (by rw [hH]; exact trivial) (.inl rfl) (fun b' u hb hu=>(Heap.get?_update_other s.heap (Obj.mapSeq f) (Ne.symm hb)).trans hu) ⟨_,q⟩ ?_
  exact ⟨hz,its',_,hv,q⟩
theorem Inv.lnew {its : List Value} {t' : Nat} (I : Inv X pins σ H s) (hv : Vals ys its) (hz : ys.length ≤ sizeLine) :
    Inv X pins σ (upd H s.heap.objs.size (.lst ys)) { s with heap:=s.heap.push { cls:=.type "list",data:=.seq its.toArray },toks:=t' } :=
  I.laid (fun _ _ q=>Heap.get?_push_of_some _ q) (Nat.le_refl _) ⟨hz,its,0,hv,Heap.get?_push_size _ rfl⟩
theorem Inv.fresh (I:Inv X pins σ H s):H s.heap.objs.size = none:=I.hok.fresh (Nat.le_refl _)
theorem Inv.lstM (I:Inv X pins σ H s) (hH:H l = some (.lst xs)):xs.length ≤ sizeLine∧∃ (its:List Value) (n:Nat),Vals xs its∧xs.length = its.length∧s.heap.get? l = some { cls:=.type "list",data:=.seq its.toArray n }:=by
  obtain ⟨z,its,n,r,e⟩:=I.hok l _ hH
  exact ⟨z,its,n,r,r.length,e⟩
theorem notLongL {n : Nat} (h : n ≤ sizeLine) : Builtin.List.listTooLong n = false := by
  exact decide_eq_false (by lia)
end
section
variable {X:Cx}
inductive rAppend (x : V) (vs : List V) (H : Hp) (Q : VK) : Prop | mk (l : _) (xs : _) (y : _) : (x = .ref l) → (vs = [y]) → (H l = some (.lst xs)) → (xs.length < sizeLine) → (Q .non (upd H l (.lst (xs ++ [y])))) → rAppend x vs H Q
theorem mt_append : MtM X "list.append" rAppend := by
  intro pins s σ H x vs v us Q I rx rv h
  obtain ⟨l, xs, y, rfl, rfl, hH, hz, q⟩ := h
  cases rx
  obtain ⟨u, rfl, ru⟩ := rv.one
  obtain ⟨z, its, n, r, hl, e⟩ := I.lstM hH
  refine call_meets F.slot_list_append ⟨_, e, rfl⟩ F.entry_list_append (F.args_list_append_2 _ _) (PySem.list_append l its.toArray n u (by rw [List.size_toArray]; lia)) ⟨e, ?_⟩
  refine ⟨.non, _, I.lset (its' := its ++ [u]) hH e (by simp) (r.append (.cons ru .nil)) ?_, rfl, q⟩
  grind
inductive rPopAt (x : V) (vs : List V) (H : Hp) (Q : VK) : Prop | mk (l : _) (xs : _) (i : _) (k : _) (y : _) : (x = .ref l) → (vs = [.int i]) → (H l = some (.lst xs)) → (-(2 ^ 63) ≤ i) → (i < 2 ^ 63) → (seqIndex? i xs.length = some k) → (xs[k]? = some y) → (Q y (upd H l (.lst (xs.eraseIdx k)))) → rPopAt x vs H Q
theorem mt_popAt:MtM X "list.pop" rPopAt:=by
  intro pins s σ H x vs v us Q I rx rv h
  obtain ⟨l,xs,i,k,y,rfl,rfl,hH,h1,h2,hk,hy,q⟩:=h
  cases rx
  obtain ⟨u,rfl,ru⟩:=rv.one
  obtain ⟨t,rfl⟩:=ru
  obtain ⟨z,its,n,r,hl,e⟩:=I.lstM hH
  obtain ⟨w,hw,rw'⟩:=r.get hy
  refine call_meets F.slot_list_pop ⟨_,e,rfl⟩ F.entry_list_pop (F.args_list_pop_2 _ _)
    (MeetsSeq.list_pop_at l its.toArray n i t k w (fitsIndex_both h1 h2) (by rw [List.size_toArray,← hl]; exact hk) (by rw [← Array.getElem?_toList]; exact hw) (by rw [List.size_toArray]; lia)) ⟨e,?_⟩
  refine ⟨y,_,I.lset (its':=its.eraseIdx k) hH e ?_ (r.eraseIdx k) ?_,rw',q⟩
  · show its.toArray.eraseIdxIfInBounds k = (its.eraseIdx k).toArray
    rw [List.eraseIdxIfInBounds_toArray]
  · have:=len_erase xs k
    lia
inductive rClear (x : V) (vs : List V) (H : Hp) (Q : VK) : Prop | mk (l : _) (xs : _) : (x = .ref l) → (vs = []) → (H l = some (.lst xs)) → (Q .non (upd H l (.lst []))) → rClear x vs H Q
theorem mt_clear:MtM X "list.clear" rClear:=by
  intro pins s σ H x vs v us Q I rx rv h
  obtain ⟨l,xs,rfl,rfl,hH,q⟩:=h
  cases rx
  have hus:=rv.zero
  subst hus
  obtain ⟨z,its,n,r,hl,e⟩:=I.lstM hH
  refine call_meets F.slot_list_clear ⟨_,e,rfl⟩ F.entry_list_clear (F.args_list_clear_1 _) (AutoSeq1.list_clear_list_0 l its.toArray n (by rw [List.size_toArray]; lia)) ⟨e,?_⟩
  exact ⟨.non,_,I.lset (its':=[]) (ys:=[]) hH e rfl .nil (Nat.zero_le _),rfl,q⟩
inductive rCat (x : V) (y : V) (H : Hp) (Q : VK) : Prop | mk (l : _) (b : _) (xs : _) (zs : _) : (x = .ref l) → (y = .ref b) → (H l = some (.lst xs)) → (H b = some (.lst zs)) → (xs.length + zs.length ≤ sizeLine) → (∀ p,H p = none→Q (.ref p) (upd H p (.lst (xs ++ zs)))) → rCat x y H Q
theorem op_cat : OpR X (binaryOp .Add) rCat := by
  intro pins s σ H x y v u Q I rx ry h
  obtain ⟨l, b, xs, zs, rfl, rfl, hH, hB, hz, q⟩ := h
  cases rx
  cases ry
  obtain ⟨z, its, n, r, hl, e⟩ := I.lstM hH
  obtain ⟨z2, its2, n2, r2, hl2, e2⟩ := I.lstM hB
  refine PySem.P.add_list e e2 ?_ (by simp_all)
  have ea : its.toArray ++ its2.toArray = (its ++ its2).toArray := by simp
  rw [ea]
  exact ⟨.ref _, _, I.lnew (t' := s.toks) (r.append r2) (by rw [List.length_append]; lia), rfl, q _ I.fresh⟩
inductive rRep (x : V) (y : V) (H : Hp) (Q : VK) : Prop | mk (l : _) (k : _) (xs : _) : (x = .ref l) → (y = .int k) → (H l = some (.lst xs)) → (-(2 ^ 63) ≤ k) → (k < 2 ^ 63) → (xs.length * k.toNat ≤ sizeLine) → (∀ p,H p = none→Q (.ref p) (upd H p (.lst (List.replicate k.toNat xs).flatten))) → rRep x y H Q
theorem len_rep {α:Type} (xs:List α) (k:Nat):(List.replicate k xs).flatten.length = k * xs.length:=by
  induction k with
  | zero=>simp
  | succ k ih=>rw [List.replicate_succ,List.flatten_cons,List.length_append,ih,Nat.succ_mul,Nat.add_comm]
theorem op_rep:OpR X (binaryOp .Mult) rRep:=by
  intro pins s σ H x y v u Q I rx ry h
  obtain ⟨l,k,xs,rfl,rfl,hH,h1,h2,hz,q⟩:=h
  cases rx
  obtain ⟨t,rfl⟩:=ry
  obtain ⟨z,its,n,r,hl,e⟩:=I.lstM hH
  have hlen:its.toArray.size * k.toNat ≤ sizeLine:=by rw [List.size_toArray,← hl]; exact hz
  have hcap:¬ its.toArray.size * k.toNat > (2 ^ 63 - 1) / 8:=by
    have:(sizeLine:Nat) ≤ (2 ^ 63 - 1) / 8:=by decide
    lia
  have hfit:¬ (!Builtin.List.listFitsIndex k) = true:=by
    rw [fitsIndex_both h1 h2]
    exact Bool.false_ne_true
  have hlong:¬ Builtin.List.listTooLong (its.toArray.size * k.toNat) = true:=by
    rw [notLongL hlen]
    exact Bool.false_ne_true
  have hnew:List.foldl (fun x1 x2=>x1 ++ x2) #[] (List.replicate (if its.toArray.isEmpty = true then 0 else k.toNat) its.toArray) = (List.replicate k.toNat its).flatten.toArray:=by
    have f0:∀ m:Nat,List.foldl (fun x1 x2=>x1 ++ x2) #[] (List.replicate m its.toArray) = (List.replicate m its).flatten.toArray:=fun m=>by
      have:=foldl_rep its m []
      rw [List.nil_append] at this
      exact this
    rw [f0]
    cases its with
    | nil=>simp
    | cons a r'=>rw [if_neg (by simp)]
  refine wpAny_binaryOp_repeat_ref (T:="list") (U:="int") (by decide) ⟨_,e,rfl⟩ (fun s'=>typeIs_int s' k t) noFill_list_mul F.fills_int_mul F.slot_int_rmul repeat_list F.slot_int_index.lookup
    (call_meets F.slot_int_rmul (typeIs_int s k t) F.entry_int_rmul (F.args_int_rmul_2 _ _) (int___rmul___int_list k t l its.toArray n)
      ⟨e,rfl,⟨_,e,rfl⟩,call_meets F.slot_list_mul ⟨_,e,rfl⟩ F.entry_list_mul (F.args_list_mul_2 _ _) (AutoListH.list___mul___list_int_3 l its.toArray n k t hfit hcap hlong) ⟨e,?_⟩⟩)
  rw [hnew]
  exact ⟨.ref _,_,I.lnew (t':=s.toks) (r.rep k.toNat) (by rw [len_rep,Nat.mul_comm]; exact hz),rfl,q _ I.fresh⟩
end
section
variable {prog:Program} {w:World} {A:Around} {E:Value→Shared→Prop} {s:Shared}
end
section
variable {X:Cx}
end
end L2
namespace L2
open PySem PySem.Spec PyProof.Rows
section
variable {κ:Type} [DecidableEq κ]
noncomputable def valV (kvs:List (κ × V)) (k:κ):Option V:=(kvs.find? fun kv=>decide (kv.1 = k)).map (·.2)
noncomputable def putK (kvs:List (κ × V)) (k:κ) (v:V):List (κ × V) :=
  if (kvs.any fun kv=>decide (kv.1 = k)) = true then kvs.map (fun kv=>if kv.1 = k then (kv.1,v) else kv) else kvs ++ [(k,v)]
theorem valV_pos {p:κ × V} {r:List (κ × V)} {k:κ} (e:p.1 = k):valV (p :: r) k = some p.2:=by simp [valV,List.find?_cons,e]
theorem valV_neg {p:κ × V} {r:List (κ × V)} {k:κ} (e:¬ p.1 = k):valV (p :: r) k = valV r k:=by simp [valV,List.find?_cons,e]
theorem valV_any (k:κ):∀ kvs:List (κ × V),(kvs.any fun kv=>decide (kv.1 = k)) = (valV kvs k).isSome
  | []=>rfl
  | p :: r=>by
    rw [List.any_cons]
    by_cases e:p.1 = k
    · simp only [valV_pos e,decide_eq_true e,Bool.true_or,Option.isSome_some]
    · rw [valV_neg e,decide_eq_false e,Bool.false_or]; exact valV_any k r
theorem valV_map (k j:κ) (y:V):∀ kvs:List (κ × V),valV (kvs.map fun kv=>if kv.1 = k then (kv.1,y) else kv) j = (valV kvs j).map fun x=>if j = k then y else x
  | []=>rfl
  | p :: r=>by
    have ih:=valV_map k j y r
    rw [List.map_cons]
    by_cases h:p.1 = k
    · rw [if_pos h]
      by_cases e:p.1 = j
      · rw [valV_pos (p:=(p.1,y)) e,valV_pos e,Option.map_some,if_pos (e.symm.trans h)]
      · rw [valV_neg (p:=(p.1,y)) e,valV_neg e,ih]
    · rw [if_neg h]
      by_cases e:p.1 = j
      · rw [valV_pos (p:=p) e,valV_pos e,Option.map_some,if_neg (fun z=>h (e.trans z))]
      · rw [valV_neg (p:=p) e,valV_neg e,ih]
theorem valV_snoc (k j:κ) (y:V):∀ kvs:List (κ × V),valV kvs k = none→valV (kvs ++ [(k,y)]) j = if j = k then some y else valV kvs j
  | [],_=>by
    by_cases e:k = j
    · rw [if_pos e.symm]; exact valV_pos (p:=(k,y)) e
    · rw [if_neg (fun z=>e z.symm)]; exact valV_neg (p:=(k,y)) e
  | p :: r,hn=>by
    rw [List.cons_append]
    have hk:¬ p.1 = k:=fun z=>by rw [valV_pos z] at hn; cases hn
    rw [valV_neg hk] at hn
    have ih:=valV_snoc k j y r hn
    by_cases e:p.1 = j
    · rw [valV_pos e,valV_pos e,if_neg (fun z=>hk (e.trans z))]
    · rw [valV_neg e,valV_neg e,ih]
theorem valV_put (kvs:List (κ × V)) (k j:κ) (y:V):valV (putK kvs k y) j = if j = k then some y else valV kvs j:=by
  unfold putK
  by_cases a:(kvs.any fun kv=>decide (kv.1 = k)) = true
  · rw [if_pos a,valV_map]
    rw [valV_any] at a
    by_cases e:j = k
    · obtain ⟨x,hx⟩:=Option.isSome_iff_exists.mp a
      rw [if_pos e,e,hx,Option.map_some,if_pos rfl]
    · rw [if_neg e]
      cases valV kvs j with
      | none=>rfl
      | some x=>rw [Option.map_some,if_neg e]
  · rw [if_neg a]
    refine valV_snoc k j y kvs ?_
    rw [valV_any] at a
    cases q:valV kvs k with
    | none=>rfl
    | some x=>rw [q] at a; exact (a rfl).elim
theorem length_putK (kvs : List (κ × V)) (k : κ) (v : V) : (putK kvs k v).length ≤ kvs.length + 1 := by
  unfold putK
  split
  · simp
  simp
theorem RelO.isSome_eq {o:Option V} {u:Option Value} (r:RelO o u):o.isSome = u.isSome:=by
  cases o with
  | none=>cases u with
    | none=>rfl
    | some _=>exact (show False from r).elim
  | some _=>cases u with
    | none=>exact (show False from r).elim
    | some _=>rfl
theorem RelO.getD {o:Option V} {u:Option Value} {d:V} {d':Value} (r:RelO o u) (rd:RelV d d'):RelV (o.getD d) (u.getD d'):=by
  cases o with
  | none=>cases u with
    | none=>exact rd
    | some _=>exact (show False from r).elim
  | some _=>cases u with
    | none=>exact (show False from r).elim
    | some _=>exact r
theorem KV.val {kvs : List (κ × V)} {vs : List (κ × Value)} (r : KV kvs vs) (k : κ) : RelO (valV kvs k) (valueAt vs k) := by
  induction r with
  | nil => exact True.intro
  | @cons p q ps qs h t ih =>
    obtain ⟨h1, h2⟩ := h
    by_cases e : p.1 = k
    · have e' : q.1 = k := h1.symm.trans e
      have b : valueAt (q :: qs) k = some q.2 := by simp [valueAt, List.find?_cons, e']
      rw [valV_pos e, b]; exact h2
    · have e' : ¬ q.1 = k := fun z => e (h1.trans z)
      have b : valueAt (q :: qs) k = valueAt qs k := by simp [valueAt, List.find?_cons, e']
      rw [valV_neg e, b]; exact ih
theorem KV.any {kvs : List (κ × V)} {vs : List (κ × Value)} (r : KV kvs vs) (k : κ) : (kvs.any fun kv => decide (kv.1 = k)) = vs.any fun kv => decide (kv.1 = k) := by
  induction r with
  | nil => rfl
  | cons h t ih => simp_all
theorem KV.repl {kvs : List (κ × V)} {vs : List (κ × Value)} (r : KV kvs vs) (k : κ) {y : V} {u : Value} (ry : RelV y u) :
    KV (kvs.map fun kv => if kv.1 = k then (kv.1, y) else kv) (vs.map fun kv => if kv.1 = k then (kv.1, u) else kv) := by
  unfold KV at r ⊢
  induction r with
  | nil => exact .nil
  | @cons p q ps qs h t ih =>
    refine .cons ?_ ih
    obtain ⟨h1, h2⟩ := h
    by_cases e : p.1 = k
    · simp_all
    simp_all
theorem KV.put {kvs:List (κ × V)} {vs:List (κ × Value)} (r:KV kvs vs) (k:κ) {y:V} {u:Value} (ry:RelV y u):KV (putK kvs k y) (stored vs k u):=by
  unfold putK stored
  rw [r.any k]
  by_cases e:(vs.any fun kv=>decide (kv.1 = k)) = true
  · rw [if_pos e,if_pos e]; exact r.repl k ry
  · rw [if_neg e,if_neg e]; exact Paired.snoc r ⟨rfl,ry⟩
theorem KV.keys {kvs:List (κ × V)} {vs:List (κ × Value)} (r:KV kvs vs):kvs.map (·.1) = vs.map (·.1):=by
  unfold KV at r
  induction r with
  | nil=>rfl
  | cons h t ih=>rw [List.map_cons,List.map_cons,ih,h.1]
theorem KV.length {kvs:List (κ × V)} {vs:List (κ × Value)} (r:KV kvs vs):kvs.length = vs.length:=Paired.length r
end
theorem kV_is {P:Program} {w:World} {k:Key} {u:Value} (r:RelV (kV k) u):(mixKind P w).is k u = true:=by
  cases k with
  | inl i=>obtain ⟨t,e⟩:=(show ∃ t,u = Value.int i t from r); subst e; exact mixKind_int P w i t
  | inr x=>obtain ⟨t,e⟩:=(show ∃ t,u = Value.str x t from r); subst e; exact mixKind_str P w x t
theorem items_are {P : Program} {w : World} : ∀ {ks : List Key} {us : List Value}, Vals (ks.map kV) us → ItemsAre (mixKind P w) ks us
  | [], _, r => by cases r; exact .nil
  | k :: ks, _, r => by
    cases r with
    | cons h t => exact .cons (kV_is h) (items_are t)
noncomputable abbrev KT (H:Hp):List (List Key × V)→List (List Key × Addr × Value)→Prop:=Paired fun p q=>p.1 = q.1∧H q.2.1 = some (.tup (p.1.map kV))∧RelV p.2 q.2.2
theorem KT.val {H:Hp} {kvs:List (List Key × V)} {xs:List (List Key × Addr × Value)} (r:KT H kvs xs) (k:List Key):RelO (valV kvs k) ((atKey xs k).map (·.2)):=by
  induction r with
  | nil=>exact True.intro
  | @cons p q ps qs h t ih =>
    obtain ⟨h1,_,h2⟩:=h
    by_cases e:p.1 = k
    · have e':q.1 = k:=h1.symm.trans e
      have b:atKey (q :: qs) k = some q.2:=by simp [atKey,List.find?_cons,e']
      rw [valV_pos e,b]; exact h2
    · have e':¬ q.1 = k:=fun z=>e (h1.trans z)
      have b:atKey (q :: qs) k = atKey qs k:=by simp [atKey,List.find?_cons,e']
      rw [valV_neg e,b]; exact ih
theorem KT.repl {H : Hp} {kvs : List (List Key × V)} {xs : List (List Key × Addr × Value)} (r : KT H kvs xs) (k : List Key) {y : V} {u : Value} (ry : RelV y u) :
    KT H (kvs.map fun kv=>if kv.1 = k then (kv.1,y) else kv) (xs.map (putAt k u)):=by
  induction r with
  | nil=>exact .nil
  | @cons p q ps qs h t ih =>
    rw [List.map_cons,List.map_cons]
    refine .cons ?_ ih
    obtain ⟨h1,h2,h3⟩:=h
    unfold putAt
    by_cases e:p.1 = k
    · rw [if_pos e,if_pos (h1.symm.trans e)]; exact ⟨h1,h2,ry⟩
    · rw [if_neg e,if_neg (fun z=>e (h1.trans z))]; exact ⟨h1,h2,h3⟩
theorem KT.put {H : Hp} {kvs : List (List Key × V)} {xs : List (List Key × Addr × Value)} (r : KT H kvs xs) (k : List Key) {b : Addr} {y : V} {u : Value} (hb : H b = some (.tup (k.map kV))) (ry : RelV y u) :
    KT H (putK kvs k y) (storedH xs k b u):=by
  have e:(kvs.any fun kv=>decide (kv.1 = k)) = (atKey xs k).isSome:=by
    rw [valV_any,(r.val k).isSome_eq,Option.isSome_map]
  unfold putK storedH
  rw [e]
  by_cases q:(atKey xs k).isSome = true
  · rw [if_pos q,if_pos q]; exact r.repl k ry
  · rw [if_neg q,if_neg q]; exact Paired.snoc r ⟨rfl,hb,ry⟩
theorem KT.keeps {H H':Hp} {kvs:List (List Key × V)} {xs:List (List Key × Addr × Value)} (r:KT H kvs xs) (ht:∀ b ys,H b = some (.tup ys)→H' b = some (.tup ys)):KT H' kvs xs :=
  Paired.mapP r fun _ _ z=>⟨z.1,ht _ _ z.2.1,z.2.2⟩
section
variable {P:Program} {w:World} {H:Hp} {h:Heap} {a:Addr}
theorem rd_of {u:HO} (ok:HOk P w H h) (e:Rd H a u):ObjOk P w H h a u:=e.ok ok
theorem dk_rd {kvs:List (Key × V)} (ok:HOk P w H h) (e:Rd H a (.dK kvs)):kvs.length ≤ sizeLine∧(a == sysModules) = false∧∃ vs,KV kvs vs∧h.DictOf (mixKind P w) a vs :=
  show ObjOk P w H h a (.dK kvs) from rd_of ok e
theorem dk_of {kvs:List (Key × V)} (ok:HOk P w H h) (e:H a = some (.dK kvs)):kvs.length ≤ sizeLine∧(a == sysModules) = false∧∃ vs,KV kvs vs∧h.DictOf (mixKind P w) a vs:=dk_rd ok (.inl e)
theorem key_of {ks:List Key} (ok:HOk P w H h) (e:H a = some (.tup (ks.map kV))):(tupleKind (mixKind P w)).is h ks a:=by
  obtain ⟨_,its,r,o,h1,h2,n,h3⟩:=(show ObjOk P w H h a (.tup (ks.map kV)) from ok a _ e)
  exact ⟨o,its.toArray,n,h1,h2,h3,by simpa using items_are r⟩
theorem dt_rd {kvs : List (List Key × V)} (ok : HOk P w H h) (e : Rd H a (.dT kvs)) : kvs.length ≤ sizeLine ∧ (a == sysModules) = false ∧
    ∃ xs,KT H kvs xs∧h.DictOfH (tupleKind (mixKind P w)) a xs:=by
  obtain ⟨z,y,xs,r,o,es,ep,h1,h2,h3,h4,h5⟩:=(show ObjOk P w H h a (.dT kvs) from rd_of ok e)
  refine ⟨z,y,xs,r,o,es,ep,h1,h2,h3,h4,fun x hx=>?_,h5⟩
  have all:∀ {l:List (List Key × V)} {m:List (List Key × Addr × Value)},KT H l m→∀ x ∈ m,(tupleKind (mixKind P w)).is h x.1 x.2.1:=by
    intro l m q
    induction q with
    | nil=>intro x hx; exact nomatch hx
    | @cons p q ps qs hq t ih =>
      intro x hx
      rcases List.mem_cons.mp hx with e | hx
      · subst e
        exact key_of ok (by rw [← hq.1]; exact hq.2.1)
      · exact ih x hx
  exact all r x hx
theorem dt_of {kvs : List (List Key × V)} (ok : HOk P w H h) (e : H a = some (.dT kvs)) : kvs.length ≤ sizeLine ∧ (a == sysModules) = false ∧
    ∃ xs,KT H kvs xs∧h.DictOfH (tupleKind (mixKind P w)) a xs:=dt_rd ok (.inl e)
end
noncomputable def DGet (H:Hp) (a:Addr) (y:V) (r:Option V):Prop :=
  (∃ kvs k,Rd H a (.dK kvs)∧y = kV k∧r = valV kvs k)∨∃ kvs k b,Rd H a (.dT kvs)∧y = .ref b∧H b = some (.tup (k.map kV))∧r = valV kvs k
noncomputable def DPut (H:Hp) (a:Addr) (y v:V) (H':Hp):Prop :=
  (∃ kvs k,H a = some (.dK kvs)∧y = kV k∧kvs.length < sizeLine∧H' = upd H a (.dK (putK kvs k v))) ∨
  ∃ kvs k b,H a = some (.dT kvs)∧y = .ref b∧H b = some (.tup (k.map kV))∧kvs.length < sizeLine∧H' = upd H a (.dT (putK kvs k v))
section
variable {X:Cx} {pins:List (Addr × Obj)} {σ:St} {H:Hp} {s:Shared} {a:Addr} {y v:V} {u r:Value} {o:Option V} {A:Around} {E:Value→Shared→Prop}
theorem Inv.big (I:Inv X pins σ H s):sysModules < s.heap.objs.size:=by
  have h:mainGlobals < s.heap.objs.size:=(I.mod.glob.keeps I.bk).lt
  exact Nat.lt_trans (by decide) h
theorem d_getItem {Q : Value → Shared → Prop} (hu : A.units + 1 < cLine) (I : Inv X pins σ H s) (g : DGet H a y (some v)) (ry : RelV y u) (h : ∀ w' s', Inv X pins σ H s' → RelV v w' → Q w' s') :
    wpAny (model X.prog X.w) A (getItem (.ref a) u) Q E s:=by
  rcases g with ⟨kvs,k,e,ey,l⟩ | ⟨kvs,k,b,e,ey,eb,l⟩
  · subst ey
    obtain ⟨z,hd,vs,rel,dd⟩:=dk_rd I.hok e
    obtain ⟨w',hw,rw'⟩:=RelO.some_of (v:=v) (o:=valueAt vs k) (by rw [l]; exact rel.val k)
    exact wpAny_getItem_of (kV_is ry) dd.mapOf hw (h w' _ (I.tok _) rw')
  · subst ey
    cases (show u = Value.ref b from ry)
    obtain ⟨z,hd,xs,rel,dd⟩:=dt_rd I.hok e
    obtain ⟨w',hw,rw'⟩:=RelO.some_of (v:=v) (o:=(atKey xs k).map (·.2)) (by rw [l]; exact rel.val k)
    obtain ⟨p,hp,hp2⟩:=Option.map_eq_some_iff.mp hw
    refine wpAny_getItem_heap (tupleKind_room_in1 hu) (key_of I.hok eb) dd hp ?_
    rw [hp2]
    exact h w' _ (I.tok _) rw'
theorem d_in {Q : Value → Shared → Prop} (hu : A.units + 1 < cLine) (I : Inv X pins σ H s) (g : DGet H a y o) (ry : RelV y u) (h : ∀ s', Inv X pins σ H s' → Q (.bool o.isSome) s') :
    wpAny (model X.prog X.w) A (compareOp .In u (.ref a)) Q E s:=by
  rcases g with ⟨kvs,k,e,ey,l⟩ | ⟨kvs,k,b,e,ey,eb,l⟩
  · subst ey
    obtain ⟨z,hd,vs,rel,dd⟩:=dk_rd I.hok e
    refine wpAny_in_of (kV_is ry) hd dd.mapOf ?_
    rw [← (rel.val k).isSome_eq,← l]
    exact h _ (I.tok _)
  · subst ey
    cases (show u = Value.ref b from ry)
    obtain ⟨z,hd,xs,rel,dd⟩:=dt_rd I.hok e
    refine wpAny_in_heap (tupleKind_room_in1 hu) (key_of I.hok eb) hd dd ?_
    have q:=(rel.val k).isSome_eq
    rw [Option.isSome_map] at q
    rw [← q,← l]
    exact h _ (I.tok _)
theorem d_write {h' : Heap} {t' : Nat} {ob : HO} (I : Inv X pins σ H s) (mu : Mut (H a)) (hs : Heap.SameBut a s.heap h') (he : ∃ q, h'.get? a = some q) (new : ObjOk X.prog X.w (upd H a ob) h' a ob) :
    Inv X pins σ (upd H a ob) { s with heap:=h',toks:=t' } :=
  I.write (x:=a) (e:=a) mu (.inl rfl) (fun b q hb z=>(hs.2 b hb).trans z) he new
theorem dk_new {P : Program} {w : World} {H' : Hp} {h' : Heap} {kvs : List (Key × V)} {vs : List (Key × Value)} (z : kvs.length ≤ sizeLine) (hd : (a == sysModules) = false) (rel : KV kvs vs) (dd : h'.DictOf (mixKind P w) a vs) :
    ObjOk P w H' h' a (.dK kvs):=⟨z,hd,vs,rel,dd⟩
theorem d_setItem {H' : Hp} {Q : Unit → Shared → Prop} (hu : A.units + 1 < cLine) (I : Inv X pins σ H s) (g : DPut H a y v H') (ry : RelV y u) (rv : RelV v r) (h : ∀ s', Inv X pins σ H' s' → Q () s') :
    wpAny (model X.prog X.w) A (setItem (.ref a) u r) Q E s:=by
  rcases g with ⟨kvs,k,e,ey,l,eH⟩ | ⟨kvs,k,b,e,ey,eb,l,eH⟩
  · subst ey eH
    obtain ⟨z,hd,vs,rel,dd⟩:=dk_of I.hok e
    have hz:vs.length ≤ sizeLine:=by rw [← rel.length]; exact z
    have hl:(putK kvs k v).length ≤ sizeLine:=by have:=length_putK kvs k v; lia
    refine wpAny_setItem_pairs (hsz:=hz) (kV_is ry) dd fun h' dd' hs=>h _ ?_
    have he:∃ q,h'.get? a = some q:=let ⟨q,_,_,hq,_⟩:=dd'; ⟨q,hq⟩
    exact d_write I (by rw [e]; exact True.intro) hs he (dk_new hl hd (rel.put k rv) dd')
  · subst ey eH
    cases (show u = Value.ref b from ry)
    obtain ⟨z,hd,xs,rel,dd⟩:=dt_of I.hok e
    have hz:xs.length ≤ sizeLine:=by rw [← Paired.length rel]; exact z
    have hl:(putK kvs k v).length ≤ sizeLine:=by have:=length_putK kvs k v; lia
    refine wpAny_setItem_heap (hsz:=hz) (tupleKind_room_in1 hu) (key_of I.hok eb) dd fun h' dd' hs=>h _ ?_
    obtain ⟨q,es,ep,hq,h2,h3,h4,_,h5⟩:=dd'
    refine d_write I (by rw [e]; exact True.intro) hs ⟨q,hq⟩ ⟨hl,hd,_,(rel.put k eb rv).keeps fun c ys ec=>?_,q,es,ep,hq,h2,h3,h4,h5⟩
    rw [upd_ne (ne_of ec e (fun z=>nomatch z))]
    exact ec
end
section
variable {X:Cx} {pins:List (Addr × Obj)} {σ:St} {H:Hp} {s:Shared} {a:Addr} {kvs:List (Key × V)} {k:Key} {u:Value} {A:Around} {E:Value→Shared→Prop}
end
section
variable {X:Cx} {o i e value:Expr} {pos pos' tpos:Pos} {td ty tv:TE}
end
theorem dk_empty {P:Program} {w:World} {H:Hp} (h:Heap) (hb:sysModules < h.objs.size):ObjOk P w H (h.push { cls:=.type "dict",data:=.dict #[] }) h.objs.size (.dK []) :=
  ⟨Nat.zero_le _,beq_eq_false_iff_ne.mpr (Ne.symm (Nat.ne_of_lt hb)),[],.nil,Heap.DictOf.new h⟩
noncomputable def tDNewK:TE:=fun _ H Q=>∀ p,H p = none→Q (.ref p) (upd H p (.dK []))
section
variable {X:Cx} {pos:Pos}
theorem pe_dnewK:PE X (.Dict [] [] pos) tDNewK:=fun pins s σ H Q I h =>
  wpAny_Dict_empty ⟨.ref s.heap.objs.size,_,I.laid (a:=s.heap.objs.size) (o:=.dK []) (t':=s.toks) (fun _ _ q=>Heap.get?_push_of_some _ q) (Nat.le_refl _) (dk_empty s.heap I.big),rfl,h _ (I.hok.fresh (Nat.le_refl _))⟩
end
noncomputable def tPairs:List (TE × TE)→St→Hp→(List (V × V)→Hp→Prop)→Prop
  | [],_,H,Q=>Q [] H
  | (tk,tv) :: r,σ,H,Q=>tk σ H fun x H1=>tv σ H1 fun y H2=>tPairs r σ H2 fun ps H3=>Q ((x,y) :: ps) H3
noncomputable abbrev VV:List (V × V)→List (Value × Value)→Prop:=Paired fun p q=>RelV p.1 q.1∧RelV p.2 q.2
noncomputable def PPs (X:Cx) (pos:Pos) (keys:List (Option Expr)) (values:List Expr) (trs:List (TE × TE)):Prop :=
  ∀ (pins:List (Addr × Obj)) (s:Shared) (σ:St) (H:Hp) (Q:List (V × V)→Hp→Prop),Inv X pins σ H s→tPairs trs σ H Q →
    wpAny (model X.prog X.w) X.A (evalPairs (pairTrees keys values X.env pos)) (fun vs s'=>∃ ps H',Inv X pins σ H' s'∧VV ps vs∧Q ps H') X.xe s
theorem pps_nil {X:Cx} {pos:Pos}:PPs X pos [] [] []:=fun pins s σ H Q I h=>pairTrees_nil_walk ⟨[],H,I,.nil,h⟩
theorem pps_cons {X : Cx} {pos : Pos} {k v : Expr} {ks : List (Option Expr)} {vs : List Expr} {tk tv : TE} {trs : List (TE × TE)} (hk : PE X k tk) (hv : PE X v tv) (hr : PPs X pos ks vs trs) :
    PPs X pos (some k :: ks) (v :: vs) ((tk,tv) :: trs):=fun pins s σ H Q I h =>
  pairTrees_cons_walk (thn (hk pins s σ H _ I h) fun u s1 ⟨x,H1,I1,rx,q1⟩=>thn (hv pins s1 σ H1 _ I1 q1) fun w2 s2 ⟨y,H2,I2,ry,q2⟩ =>
    thn (hr pins s2 σ H2 _ I2 q2) fun ws s3 ⟨ps,H3,I3,rel,q3⟩=>⟨(x,y) :: ps,H3,I3,.cons ⟨rx,ry⟩ rel,q3⟩)
noncomputable def mergeK (kvs more:List (Key × V)):List (Key × V):=more.foldl (fun acc kv=>putK acc kv.1 kv.2) kvs
theorem KV.merge:∀ {more:List (Key × V)} {rs:List (Key × Value)} {kvs:List (Key × V)} {vs:List (Key × Value)},KV more rs→KV kvs vs→KV (mergeK kvs more) (merged vs rs):=by
  intro more rs kvs vs r
  unfold KV at r
  induction r generalizing kvs vs with
  | nil=>intro q; exact q
  | @cons p q ps qs h t ih =>
    intro r0
    have e:KV (putK kvs p.1 p.2) (stored vs q.1 q.2):=by
      have:=r0.put p.1 h.2
      rw [← h.1]; exact this
    exact ih e
theorem length_mergeK:∀ (more kvs:List (Key × V)),(mergeK kvs more).length ≤ kvs.length + more.length
  | [],kvs=>by show kvs.length ≤ kvs.length + 0; lia
  | p :: r,kvs=>by
    have h1:=length_mergeK r (putK kvs p.1 p.2)
    have h2:=length_putK kvs p.1 p.2
    show (mergeK (putK kvs p.1 p.2) r).length ≤ _
    rw [List.length_cons]; lia
theorem carries_of {P:Program} {w:World}:∀ {kvs:List (Key × V)} {ws:List (Value × Value)},VV (kvs.map fun kv=>(kV kv.1,kv.2)) ws→∃ rs,Carries (mixKind P w) ws rs∧KV kvs rs
  | [],_,r=>by rw [List.map_nil] at r; cases r; exact ⟨[],True.intro,.nil⟩
  | p :: kvs,_,r=>by
    rw [List.map_cons] at r
    cases r with
    | @cons a b as bs h t =>
      obtain ⟨rs,c,q⟩:=carries_of (P:=P) (w:=w) t
      obtain ⟨b1,b2⟩:=b
      exact ⟨(p.1,b2) :: rs,⟨kV_is h.1,rfl,c⟩,.cons ⟨rfl,h.2⟩ q⟩
noncomputable def tDisp (trs:List (TE × TE)):TE:=fun σ H Q=>∀ p,H p = none→tPairs trs σ (upd H p (.dK [])) fun ps H2=>H2 p = some (.dK [])∧∃ kvs:List (Key × V),ps = kvs.map (fun kv=>(kV kv.1,kv.2))∧kvs.length ≤ 15∧Q (.ref p) (upd H2 p (.dK (mergeK [] kvs)))
theorem pe_disp {X : Cx} {pos : Pos} {keys : List (Option Expr)} {values : List Expr} {trs : List (TE × TE)} (h : PPs X pos keys values trs) (hall : keys.all (·.isSome) = true) (hl : keys.length = values.length) (h0 : keys ≠ [])
    (h15:keys.length ≤ 15):PE X (.Dict keys values pos) (tDisp trs):=by
  intro pins s σ H Q I q
  have hn:=I.hok.fresh (Nat.le_refl s.heap.objs.size)
  have I1:=I.laid (a:=s.heap.objs.size) (o:=.dK []) (h':=s.heap.push { cls:=.type "dict",data:=.dict #[] }) (t':=s.toks) (fun _ _ q=>Heap.get?_push_of_some _ q) (Nat.le_refl _) (dk_empty s.heap I.big)
  refine wpAny_Dict_walk (knd:=mixKind X.prog X.w) hall hl h0 h15 (thn (h pins _ σ _ _ I1 (q _ hn)) fun ws s2 ⟨ps,H2,I2,rel,e,kvs,ep,lk,q2⟩=>?_)
  subst ep
  obtain ⟨rs,c,rk⟩:=carries_of (P:=X.prog) (w:=X.w) rel
  obtain ⟨z,hd,vs0,r0,dd⟩:=dk_of I2.hok e
  cases r0
  refine ⟨rs,c,dd,fun h' dd' hs=>⟨.ref s.heap.objs.size,_,?_,rfl,q2⟩⟩
  have hz:(mergeK [] kvs).length ≤ sizeLine:=by
    have h1:=length_mergeK kvs []
    rw [List.length_nil] at h1
    rw [sizeLine_eq]; lia
  have he:∃ q,h'.get? s.heap.objs.size = some q:=let ⟨q,_,_,hq,_⟩:=dd'; ⟨q,hq⟩
  exact d_write I2 (by rw [e]; exact True.intro) hs he (dk_new hz hd (rk.merge .nil) dd')
structure M1 (X:Cx) (o:Expr) (m:Str) (apos:Pos) (e:Expr) (cpos:Pos):Prop where
  base:attributeBase o m X.env (eval o X.env) = eval o X.env
  few:((backTo cpos (starEach [e] X.env)).all (fun x=>!x.1) && (backToKw cpos (keywordEach [] X.env)).all (fun x=>x.1.isSome)
    && decide (([e]:List Expr).length + ([]:List Keyword).length + (if ([]:List Keyword).isEmpty then 0 else 1) < 30)) = true
  line:(apos.endLine == cpos.line) = true
  trees:backTo cpos (starEach [e] X.env) = [(false,eval e X.env)]
structure M2 (X:Cx) (o:Expr) (m:Str) (apos:Pos) (e f:Expr) (cpos:Pos):Prop where
  base:attributeBase o m X.env (eval o X.env) = eval o X.env
  few:((backTo cpos (starEach [e,f] X.env)).all (fun x=>!x.1) && (backToKw cpos (keywordEach [] X.env)).all (fun x=>x.1.isSome)
    && decide (([e,f]:List Expr).length + ([]:List Keyword).length + (if ([]:List Keyword).isEmpty then 0 else 1) < 30)) = true
  line:(apos.endLine == cpos.line) = true
  trees:backTo cpos (starEach [e,f] X.env) = [(false,eval e X.env),(false,eval f X.env)]
noncomputable def IsD (H:Hp) (a:Addr):Prop:=(∃ kvs,Rd H a (.dK kvs))∨∃ kvs,Rd H a (.dT kvs)
theorem isD_at {X : Cx} {pins : List (Addr × Obj)} {σ : St} {H : Hp} {s : Shared} {a : Addr} (I : Inv X pins σ H s) (d : IsD H a) :
    s.TypeIs (.ref a) "dict"∧(∀ b,Value.ref a = .ref b→∃ ob,s.heap.get? b = some ob∧ob.dict = none)∧(a == sysModules) = false:=by
  rcases d with ⟨kvs,e⟩ | ⟨kvs,e⟩
  · obtain ⟨_,hd,vs,_,dd⟩:=dk_rd I.hok e
    refine ⟨dd.typeIs,fun b q=>?_,hd⟩
    cases q
    obtain ⟨ob,_,_,h1,h2,_⟩:=dd
    exact ⟨ob,h1,h2.2.1⟩
  · obtain ⟨_,hd,xs,_,dd⟩:=dt_rd I.hok e
    refine ⟨dd.typeIs,fun b q=>?_,hd⟩
    cases q
    obtain ⟨ob,_,_,h1,h2,_⟩:=dd
    exact ⟨ob,h1,h2.2.1⟩
section
variable {X:Cx} {pins:List (Addr × Obj)} {σ:St} {H:Hp} {s:Shared} {a:Addr} {y d:V} {u r:Value} {o:Option V} {A:Around} {E:Value→Shared→Prop}
theorem d_get1 {Q : Value → Shared → Prop} (hu : A.units + 1 < cLine) (I : Inv X pins σ H s) (g : DGet H a y o) (ry : RelV y u) (h : ∀ w' s', Inv X pins σ H s' → RelV (o.getD .non) w' → Q w' s') :
    wpAny (model X.prog X.w) A (call (.builtin "dict.get") [.ref a,u]) Q E s:=by
  rcases g with ⟨kvs,k,e,ey,l⟩ | ⟨kvs,k,b,e,ey,eb,l⟩
  · subst ey
    obtain ⟨z,hd,vs,rel,dd⟩:=dk_rd I.hok e
    refine call_meetsIn PySem.F.slot_dict_get dd.typeIs PySem.F.entry_dict_get (PySem.F.args_dict_get_2 _ _) (meets_dict_get (mixKind X.prog X.w) a (kV_is ry) hd) ⟨_,dd.mapOf,h _ _ (I.tok _) ?_⟩
    rw [l]
    exact (rel.val k).getD rfl
  · subst ey
    cases (show u = Value.ref b from ry)
    obtain ⟨z,hd,xs,rel,dd⟩:=dt_rd I.hok e
    refine call_meetsIn PySem.F.slot_dict_get dd.typeIs PySem.F.entry_dict_get (PySem.F.args_dict_get_2 _ _) (meetsH_dict_get (tupleKind (mixKind X.prog X.w)) a b hd) ⟨tupleKind_room_in1 hu,k,xs,key_of I.hok eb,dd,h _ _ (I.tok _) ?_⟩
    rw [l]
    exact (rel.val k).getD rfl
theorem d_get2 {Q : Value → Shared → Prop} (hu : A.units + 1 < cLine) (I : Inv X pins σ H s) (g : DGet H a y o) (ry : RelV y u) (rd : RelV d r) (h : ∀ w' s', Inv X pins σ H s' → RelV (o.getD d) w' → Q w' s') :
    wpAny (model X.prog X.w) A (call (.builtin "dict.get") [.ref a,u,r]) Q E s:=by
  rcases g with ⟨kvs,k,e,ey,l⟩ | ⟨kvs,k,b,e,ey,eb,l⟩
  · subst ey
    obtain ⟨z,hd,vs,rel,dd⟩:=dk_rd I.hok e
    refine call_meetsIn PySem.F.slot_dict_get dd.typeIs PySem.F.entry_dict_get (PySem.F.args_dict_get_3 _ _ _) (meets_dict_get_default (mixKind X.prog X.w) a (kV_is ry) hd r) ⟨_,dd.mapOf,h _ _ (I.tok _) ?_⟩
    rw [l]
    exact (rel.val k).getD rd
  · subst ey
    cases (show u = Value.ref b from ry)
    obtain ⟨z,hd,xs,rel,dd⟩:=dt_rd I.hok e
    refine call_meetsIn PySem.F.slot_dict_get dd.typeIs PySem.F.entry_dict_get (PySem.F.args_dict_get_3 _ _ _) (meetsH_dict_get_default (tupleKind (mixKind X.prog X.w)) a b hd r) ⟨tupleKind_room_in1 hu,k,xs,key_of I.hok eb,dd,h _ _ (I.tok _) ?_⟩
    rw [l]
    exact (rel.val k).getD rd
end
noncomputable def tDGet1 (td ty:TE):TE:=fun σ H Q=>td σ H fun x H1=>∃ a,x = .ref a∧IsD H1 a∧ty σ H1 fun y H2=>∃ o,DGet H2 a y o∧Q (o.getD .non) H2
section
variable {X:Cx} {o e f:Expr} {apos cpos:Pos} {td ty tx:TE}
theorem pe_dget1 (hu:X.A.units + 1 < cLine) (ho:PE X o td) (he:PE X e ty) (m:M1 X o "get" apos e cpos):PE X (.Call (.Attribute o "get" apos) [e] [] cpos) (tDGet1 td ty):=by
  intro pins s σ H Q I h
  refine wpAny_Call_method m.base m.few m.line PySem.F.plainAttrs_dict PySem.F.slot_dict_get PySem.F.type_dict_get (thn (ho pins s σ H _ I h) fun u s1 ⟨x,H1,I1,rx,a,ex,d,q1⟩=>?_)
  subst ex
  obtain rfl:u = Value.ref a:=rx
  obtain ⟨t1,t2,_⟩:=isD_at I1 d
  refine ⟨t1,t2,?_⟩
  rw [m.trees]
  refine Calls.callWith_builtin rfl (Calls.evalArgs_plain (Calls.spliced_cons (thn (he pins s1 σ H1 _ I1 q1) fun iv s2 ⟨y,H2,I2,ry,ov,g,q2⟩=>Calls.spliced_nil ?_)))
  exact d_get1 hu I2 g ry fun w' s3 I3 rw'=>⟨_,H2,I3,rw',q2⟩
end
section
variable {X:Cx} {pins:List (Addr × Obj)} {σ:St} {H:Hp} {s:Shared} {a:Addr} {kvs:List (Key × V)} {A:Around} {E:Value→Shared→Prop}
end
section
variable {X:Cx} {pins:List (Addr × Obj)} {σ:St} {H:Hp} {s:Shared} {a:Addr} {y:V} {u:Value} {A:Around} {E:Value→Shared→Prop}
end
end L2
namespace Att
open PySem PySem.W PySem.Calls PyProof.Rows
theorem ints_of_wellAll {P : Params} {h : Heap} : ∀ (ns : List Int) (vs : List Value), WellAll P h vs (ns.map WData.int) → IntsAre vs ns := by
  intro ns
  induction ns with
  | nil =>
    intro vs w
    cases w
    exact .nil
  | cons n ns ih =>
    intro vs w
    cases w with
    | cons a b =>
      cases a
      exact .cons _ _ (ih _ b)
theorem script_of {l : OpenLaw} {n : Nat} (hn : l.most = some n) {P : Params} {h : Heap} {args : List WData} {vals : List Value}
    (hpre : l.row.toRowW.claim.pre args = true) (hwl : WellAll P h vals args) :
    ∃ a vs ns, vals = [Value.ref a] ∧ args = [WData.list (ns.map WData.int)] ∧ h.get? a = some { cls := .type "list", data := .seq vs.toArray } ∧ IntsAre vs ns ∧ ns.length ≤ n := by
  have hsh : WShape.hasAll [] args [.list .int] = true := (pre_splitW hpre).1
  have hc : l.pre.holds [] { args := args } = true := (pre_splitW hpre).2
  obtain ⟨d, r, rfl, h1, h2⟩ := hasAllW_cons hsh
  obtain rfl := hasAllW_nil h2
  obtain ⟨xs, rfl, h3⟩ := hasW_list h1
  obtain ⟨ns, rfl⟩ := items_int h3
  have hlen : ns.length ≤ n := by
    unfold OpenLaw.pre at hc
    have h4 : (WTm.not (.lt (.lit (.int (n : Int))) (.len (.arg 0)))).holds [] { args := [.list (ns.map .int)] } = true := by
      have h4 := (holds_andW hc).1
      rw [hn] at h4
      exact h4
    have h5 := condW_of h4 (w_not (w_lt w_lit (w_len_list (w_arg rfl))))
    simp_all
  cases hwl with
  | cons w1 w2 =>
    cases w2
    cases w1 with
    | list ho hall => exact ⟨_, _, ns, rfl, rfl, ho, ints_of_wellAll ns _ hall, hlen⟩
theorem post_true (l : OpenLaw) (args : List WData) : l.row.toRowW.claim.post args (.bool true) args = true :=
  postW_of (r := l.row.toRowW) (X := (true == true))
    (show WShape.has [] (.bool true) .bool = true by first | rfl | decide | simp)
    (show (WTm.eq .res (.lit (.bool true))).value [] { args := args, res := some (.bool true), after := args } = some (.bool (true == true)) from w_eq_bool (w_res rfl) w_lit) rfl
theorem attach_call {l : OpenLaw} {n : Nat} {q : Program} {loose : List Str} {XP : (Str → Option Value) → Heap → Prop} {YP : World → Heap → Prop} {d : DefRec}
    (hn:l.most = some n) (hdf:d.params.defaults = [])
    (call:∀ (w:World) (s₀ s₁:Shared) (mg mb:Str→Option Value) (fa:Addr) (o:Obj) (pm cd doc:Value) (a:Addr) (vs:List Value) (ns:List Int),
      Ground q loose [] XP w s₀ mg mb s₁.heap→YP w s₁.heap →
      s₁.heap.get? fa = some o→o.data = .func (docDef d.name d.params d.body d.scope pm cd doc)→s₁.heap.CodeRec cd d.name→mg d.name = some (.ref fa) →
      s₁.heap.get? a = some { cls:=.type "list",data:=.seq vs.toArray }→IntsAre vs ns→ns.length ≤ n→s₁.gens = #[] →
      codeAny (model l.prog w) callerA (.call (.ref fa) ⟨[.ref a],[]⟩) (fun r s'=>r = .ok (.ret (.bool true))∧OldK s₁.heap s'.heap∧s'.os = s₁.os∧AllBare s'.gens) s₁) :
    WalkO q loose XP YP l.row.toRowW d [] (fun f vs=>PySem.call f vs):=by
  intro w s₀ s₁ mg mb G Y fa o pm cd doc dV kV ho hd hcd hD hmg hg args vals as hpre hlay hrd hwl hlo
  obtain rfl:dV = .none:=Dflts.none hD hdf
  obtain rfl:kV = .none:=Dflts.noKw hD
  obtain ⟨a,vs,ns,rfl,rfl,hobj,hints,hlen⟩:=script_of hn hpre hwl
  refine enter_call (codeAny_mono (call w s₀ s₁ mg mb fa o pm cd doc a vs ns G Y ho (fd_plain hd) hcd hmg hobj hints hlen hg) fun r s' hq=>?_)
  obtain ⟨rfl,h2,h3,h4⟩:=hq
  exact ⟨.inl ⟨.bool true,.bool true,[],rfl,fun _=>rfl,.bool true,post_true l _,fun _=>⟨List.Pairwise.nil,fun _ hm=>(nomatch hm)⟩⟩,h2,h3,h4⟩
section
variable {prog:Program} {w:World} {A:Around} {E:Value→Shared→Prop} {s:Shared} {K:Frag}
end
end Att
namespace L2
open PySem PySem.Spec PyProof.Rows
theorem vals_ints:∀ {vs:List Value} {ns:List Int},IntsAre vs ns→Vals (ns.map V.int) vs
  | _,_,.nil=>.nil
  | _,_,.cons n t h=>.cons ⟨t,rfl⟩ (vals_ints h)
end L2
namespace L2
open PySem PySem.Spec PyProof.Rows
noncomputable abbrev KOf {K:PySem.W.Frag} {h:Heap} (_:K.In h):PySem.W.Frag:=K
end L2
namespace L2
open PySem PySem.Spec PyProof.Rows
noncomputable def defArgs (s:Stmt):Arguments:=match s with
  | .FunctionDef _ a _ _ _ _ _ _ _ _=>a
  | _=>{ posonlyargs:=[],args:=[],vararg:=none,kwonlyargs:=[],kw_defaults:=[],kwarg:=none,defaults:=[] }
noncomputable def defBody (s:Stmt):List Stmt:=match s with
  | .FunctionDef _ _ b _ _ _ _ _ _ _=>b
  | _=>[]
noncomputable def defScope (s:Stmt):Scope:=match s with
  | .FunctionDef _ _ _ _ _ _ sc _ _ _=>sc
  | _=>{ kind:=.function,names:=[],isGenerator:=false,isCoroutine:=false }
noncomputable abbrev CX0:CXT:=fun _ _ _ _ _ _=>False
noncomputable abbrev E0:XK:=fun _ _ _=>False
theorem pass0 {X:Cx}:Passes CX0 X E0:=fun _ _ _ _ _ _ _ h=>h.elim
structure Fun (K:PySem.W.Frag) (x qual:Str) (st:Stmt) (f:Addr) (fd:FuncData):Prop where
  ex:∃ (oc:Value) (od:Option Addr) (kV doc pm:Value) (an:Option Addr) (cdv ct:Value) (osl:Array (Option Value)),
    fd = PySem.W.fnOf x qual (defArgs st) (defBody st) (defScope st) .none kV doc pm an cdv ct∧K.lookup f = some ⟨oc,od,.func fd,osl⟩∧PySem.W.codeIn K cdv qual = true
  kp:PySem.W.keepIn K (.ref f) = true
section
variable {P:Program} {w:World} {K:PySem.W.Frag} {mg:Str→Option Value} {base:Heap}
theorem Fun.ok {x qual : Str} {st : Stmt} {f : Addr} {fd : FuncData} {N ps : List Str} {k : Nat} {sp : Sp} (F : Fun K x qual st f fd) (S : FnScope N ps (defScope st)) (len : ∀ vs H Q E, sp vs H Q E → vs.length = ps.length)
    (hbody:∀ (cdv:Value) (A:Around) (outer:List Env) (s:Shared) (H:Hp) (vs:List V) (Q:VK) (E:XK),Room k (A.deeper (envOfC qual (defScope st) s.heap.objs.size f cdv))→sp vs H Q E →
      ∃ t,PSs (cxOf CX0 P w K mg base N qual (defScope st) f cdv A outer s H E).nox (defBody st) t∧t { nx:=fun _ H'=>Q .non H',rt:=Q } (start N vs) H):FnOk P w K mg base CX0 (k + 1) f fd ps sp:=by
  obtain ⟨oc,od,kV,doc,pm,an,cdv,ct,osl,rfl,lk,hcd⟩:=F.ex
  refine fn_of lk hcd S len fun A outer s H vs Q E hr hsp=>?_
  obtain ⟨t,h,q⟩:=hbody cdv A outer s H vs Q E hr hsp
  exact ⟨t,h.nox,q⟩
theorem Fun.binds {x qual : Str} {st : Stmt} {f : Addr} {fd : FuncData} {ps : List Str} (F : Fun K x qual st f fd)
    (h:∀ (kV doc pm:Value) (an:Option Addr) (cdv ct:Value) (us:List Value),us.length = ps.length→bindArgs (PySem.W.fnOf x qual (defArgs st) (defBody st) (defScope st) .none kV doc pm an cdv ct) ⟨us,[]⟩ = pure (ps.zip us)):Binds K fd ps []:=by
  obtain ⟨oc,od,kV,doc,pm,an,cdv,ct,osl,rfl,lk,hcd⟩:=F.ex
  exact .all (h kV doc pm an cdv ct)
theorem fun_mk {x qual : Str} {st : Stmt} {f : Addr} {oc : Value} {od an : Option Addr} {osl : Array (Option Value)} {kV doc pm cdv ct : Value} (l : K.lookup f = some ⟨oc, od, .func (PySem.W.fnOf x qual (defArgs st) (defBody st) (defScope st) .none kV doc pm an cdv ct), osl⟩)
    (c:PySem.W.codeIn K cdv qual = true) (k:PySem.W.keepIn K (.ref f) = true):Fun K x qual st f (PySem.W.fnOf x qual (defArgs st) (defBody st) (defScope st) .none kV doc pm an cdv ct):=⟨⟨oc,od,kV,doc,pm,an,cdv,ct,osl,rfl,l,c⟩,k⟩
end
section
variable {X:Cx}
theorem pv (i : Nat) {x : Str} {pos : Pos} (hN : X.N[i]? = some x := by rfl) (hv : Vis X.env.scope x := by first | exact Or.inl rfl | exact Or.inr (Or.inl rfl) | exact Or.inr (Or.inr rfl)) (hd : (x == ("__debug__" : Str)) = false := by decide)
    (hcd:(x == ("__classdict__":Str)) = false:=by decide):PE X (.Name x pos) (tVar i):=pe_var hN hv hd hcd
end
theorem ite2 {c A B : Prop} [Decidable c] (h1 : c → A) (h2 : ¬ c → B) : if c then A else B :=by simp_all
noncomputable def Same (H H':Hp):Prop:=∀ b o,H b = some o→H' b = some o
theorem Same.refl (H:Hp):Same H H:=fun _ _ h=>h
theorem Same.trans {H H1 H2:Hp} (a:Same H H1) (b:Same H1 H2):Same H H2:=fun c o h=>b c o (a c o h)
theorem Same.seq {K:PySem.W.Frag} {H H':Hp} {a:Addr} {xs:List V} (e:Same H H') (h:SqL K H a xs):SqL K H' a xs:=by
  rcases h with (h | ⟨o,h⟩) | h
  · exact .inl (.inl (e _ _ h))
  · exact .inl (.inr ⟨o,e _ _ h⟩)
  · exact .inr h
section
variable {κ:Type} [DecidableEq κ]
end
end L2
set_option maxHeartbeats 4000000
namespace L2
open PySem PySem.Spec PyProof.Rows
noncomputable def closOf (env:Env):List (Str × NameKind)→List (Str × Addr)→List (Str × Addr)
  | [],acc=>acc
  | (n, k) :: r, acc => if k == .free then (match env.cells.lookup n with
      | some c=>closOf env r ((n,c) :: acc)
      | none=>closOf env r acc) else closOf env r acc
theorem closOf_ok {env : Env} : ∀ {names : List (Str × NameKind)} {acc : List (Str × Addr)}, (∀ n c, acc.lookup n = some c → env.cells.lookup n = some c) →
    ∀ n c, (closOf env names acc).lookup n = some c → env.cells.lookup n = some c
  | [], acc, h, n, c, e => h n c e
  | (x, k) :: r, acc, h, n, c, e => by
    unfold closOf at e
    split at e
    · split at e
      · refine closOf_ok (fun y d q => ?_) n c e
        grind
      · exact closOf_ok h n c e
    · exact closOf_ok h n c e
theorem closOf_acc {env:Env}:∀ {names:List (Str × NameKind)} {acc:List (Str × Addr)} {n:Str},(acc.lookup n).isSome = true→((closOf env names acc).lookup n).isSome = true
  | [],_,_,h=>h
  | (x,k) :: r,acc,n,h=>by
    unfold closOf
    split
    · split
      · refine closOf_acc ?_
        rw [List.lookup_cons]
        cases n == x with
        | true=>rfl
        | false=>exact h
      · exact closOf_acc h
    · exact closOf_acc h
theorem closOf_has {env : Env} : ∀ {names : List (Str × NameKind)} {acc : List (Str × Addr)} {n : Str} {c : Addr}, (n, NameKind.free) ∈ names → env.cells.lookup n = some c → ((closOf env names acc).lookup n).isSome = true
  | [], _, _, _, h, _ => nomatch h
  | (x, k) :: r, acc, n, c, h, e => by
    rcases List.mem_cons.mp h with q | q
    · cases q
      unfold closOf
      rw [if_pos (by rfl), e]
      refine closOf_acc ?_
      simp
    · unfold closOf
      split
      · split
        · exact closOf_has q e
        · exact closOf_has q e
      · exact closOf_has q e
theorem closureFor_of {scope:Scope} {env:Env} (h:∀ y ∈ scope.names,y.2 = .free→∃ c,env.cells.lookup y.1 = some c):closureFor scope env = pure (closOf env scope.names []):=by
  simp only [closureFor]
  have go : ∀ (names : List (Str × NameKind)) (acc : List (Str × Addr)), (∀ y ∈ names, y.2 = .free → ∃ c, env.cells.lookup y.1 = some c) →
      (forIn names acc (fun x cs=>if (x.2 == NameKind.free) = true then (do let a ← cellOf env x.1; pure (ForInStep.yield ((x.1,a) :: cs))) else pure (ForInStep.yield cs)):Sem (List (Str × Addr))) = pure (closOf env names acc):=by
    intro names
    induction names with
    | nil=>intro acc _; rfl
    | cons p r ih =>
      intro acc hh
      obtain ⟨n,k⟩:=p
      rw [List.forIn_cons]
      unfold closOf
      by_cases hk:(k == NameKind.free) = true
      · obtain ⟨c,hc⟩:=hh (n,k) List.mem_cons_self (by simpa using hk)
        have hc':env.cells.lookup n = some c:=hc
        rw [if_pos hk,if_pos hk,hc']
        have e:cellOf env n = pure c:=by unfold cellOf; rw [hc']
        simp only [e,pure_bind]
        exact ih _ fun y hy=>hh y (List.mem_cons_of_mem _ hy)
      · rw [if_neg hk,if_neg hk]
        simp only [pure_bind]
        exact ih _ fun y hy=>hh y (List.mem_cons_of_mem _ hy)
  have:=go scope.names [] h
  simpa using this
theorem lookup_relabel {env : Env} : ∀ {names : List (Str × NameKind)} {x : Str},
    (names.map fun (n,k)=>if (k == NameKind.free && env.scope.kind == .function && env.kindOf n == some .cell) then (n,NameKind.cell) else (n,k)).lookup x =
      (names.lookup x).map fun k=>if (k == NameKind.free && env.scope.kind == .function && env.kindOf x == some .cell) then NameKind.cell else k
  | [],_=>rfl
  | (n,k) :: r,x=>by
    have ih:=@lookup_relabel env r x
    rw [List.map_cons]
    show List.lookup x ((if (k == NameKind.free && env.scope.kind == .function && env.kindOf n == some .cell) = true then (n,NameKind.cell) else (n,k)) :: _) = _
    cases hx:x == n with
    | true =>
      have e:x = n:=beq_iff_eq.mp hx
      subst e
      by_cases hc:(k == NameKind.free && env.scope.kind == .function && env.kindOf x == some .cell) = true
      · rw [if_pos hc,List.lookup_cons,List.lookup_cons,hx]
        simp only [Option.map_some,hc,if_true]
      · rw [if_neg hc,List.lookup_cons,List.lookup_cons,hx]
        simp only [Option.map_some]
        rw [if_neg hc]
    | false =>
      by_cases hc:(k == NameKind.free && env.scope.kind == .function && env.kindOf n == some .cell) = true
      · rw [if_pos hc,List.lookup_cons,List.lookup_cons,hx]; exact ih
      · rw [if_neg hc,List.lookup_cons,List.lookup_cons,hx]; exact ih
theorem comp_loop {prog : Program} {w : World} {A : Around} {R : Result → Shared → Prop} {s : Shared} {elt target iter : Expr} {ifs : List Expr} {scope : Scope} {pos : Pos} {it acc : Value} {env : Env} (I : Nat → Shared → Prop)
    (turn:∀ n s,I n s→wpAny (model prog w) A (pyNext it) (fun r s₁=>match r with
      | none=>R (.ok .next) s₁
      | some v => wpAny (model prog w) A (letOwnedTupleGo target it v) (fun _ s₁' => wpAny (model prog w) A (assign target env v) (fun _ s₂ =>
          wpAny (model prog w) A (forIn ifs true fun c r=>if r = true then do let ok ← isTrue c env (eval c env); pure (ForInStep.yield ok) else pure (ForInStep.yield r)) (fun ok s₃ =>
            if ok = true then wpAny (model prog w) A (eval elt env) (fun x s₄ =>
              wpAny (model prog w) A (call (.builtin "list.append") [acc,x]) (fun _ s₅=>∃ m,m < n∧I m s₅) (notedBy (model prog w) A env fun e s'=>R (.error e) s') s₄) (notedBy (model prog w) A env fun e s'=>R (.error e) s') s₃
            else ∃ m,m < n∧I m s₃) (notedBy (model prog w) A env fun e s'=>R (.error e) s') s₂) (notedBy (model prog w) A env fun e s'=>R (.error e) s') s₁') (notedBy (model prog w) A env fun e s'=>R (.error e) s') s₁) (notedBy (model prog w) A env fun e s'=>R (.error e) s') s)
    (n:Nat) (h:I n s) :
    codeAny (model prog w) A (.compLoop (.ListComp elt [⟨target,iter,ifs,0⟩] scope pos) 0 it acc env) R s:=by
  refine codeAny_loop rfl I (fun n s hI=>?_) n h
  show wpAny _ A ((compTurn (.ListComp elt [⟨target,iter,ifs,0⟩] scope pos) 0 it acc env).onRaise (fun x=>do noteFrame x env; theTreesLotGoes x)) _ _ s
  refine wpAny_noted ?_
  rw [compTurn_list]
  refine wpAny_bind (wpAny_standAt (wpAny_bind (wpAny_mono (turn n s hI) (fun r s₁ h₁=>?_) fun _ _ h'=>h')))
  cases r with
  | none=>exact wpAny_pure h₁
  | some v =>
    refine wpAny_bind (wpAny_mono h₁ (fun _ s₁' h₁'=>?_) fun _ _ h'=>h')
    refine wpAny_bind (wpAny_mono h₁' (fun _ s₂ h₂=>wpAny_bind (wpAny_mono h₂ (fun ok s₃ h₃=>?_) fun _ _ h'=>h')) fun _ _ h'=>h')
    cases ok with
    | false=>exact wpAny_pure ⟨rfl,h₃⟩
    | true =>
      exact wpAny_bind (wpAny_bind (wpAny_mono h₃ (fun x s₄ h₄=>wpAny_bind (wpAny_mono h₄ (fun _ s₅ h₅=>wpAny_pure (wpAny_pure ⟨rfl,h₅⟩)) fun _ _ h'=>h')) fun _ _ h'=>h'))
noncomputable def capt (cap:List (Option Nat)) (σ:St):St:=cap.map fun o=>o.bind fun i=>(σ[i]?).join
noncomputable def cxComp (X:Cx) (N:List Str) (scope:Scope) (C:Addr) (s:Shared) (H:Hp) (ex:List Addr):Cx where
  prog:=X.prog
  w:=X.w
  K:=X.K
  mg:=X.mg
  base:=X.base
  A:=X.A
  N:=N
  s₀:=s
  H₀:=H
  env:=compEnvC scope (closOf X.env scope.names []) C X.env
  outer:=X.stack
  stack:=X.stack
  ex:=ex
  fn:=fun _=>false
  calm:=X.calm
  pn:=[]
  xe:=fun _ _=>False
structure CompScope (X:Cx) (N:List Str) (cap:List (Option Nat)) (scope:Scope):Prop where
  kind:scope.kind = .function
  nocell:∀ y ∈ scope.names,y.2 ≠ .cell
  loc:∀ y ∈ scope.names,y.2 = .local→scope.names.lookup y.1 = some .local
  fre:∀ y ∈ scope.names,y.2 = .free→X.env.scope.names.lookup y.1 = some .cell∨X.env.scope.names.lookup y.1 = some .free
  nd:N.Nodup
  len:cap.length = N.length
  cap:∀ (j i:Nat),cap[j]? = some (some i)→∃ y,N[j]? = some y∧X.N[i]? = some y∧scope.names.lookup y = some .free
noncomputable def compChk (outer:List (Str × NameKind)) (N0 N:List Str) (cap:List (Option Nat)) (names:List (Str × NameKind)):Bool :=
  names.all (fun y=>y.2 != .cell && (y.2 != .local || names.lookup y.1 == some .local) && (y.2 != .free || outer.lookup y.1 == some .cell || outer.lookup y.1 == some .free)) &&
  decide N.Nodup && cap.length == N.length &&
  (List.range cap.length).all fun j=>match cap[j]? with
    | some (some i)=>(match N[j]? with
      | some y=>N0[i]? == some y && names.lookup y == some .free
      | none=>false)
    | _=>true
theorem CompScope.of {X : Cx} {N : List Str} {cap : List (Option Nat)} {scope : Scope} (hk : scope.kind = .function) (h : compChk X.env.scope.names X.N N cap scope.names = true) : CompScope X N cap scope := by
  unfold compChk at h
  simp only [Bool.and_eq_true, List.all_eq_true, decide_eq_true_eq, beq_iff_eq] at h
  obtain ⟨⟨⟨h1, h2⟩, h3⟩, h4⟩ := h
  refine ⟨hk, fun y hy e => ?_, fun y hy e => ?_, fun y hy e => ?_, h2, h3, fun j i e => ?_⟩
  · have := (h1 y hy).1.1
    rw [e] at this
    exact absurd this (by decide)
  · have := (h1 y hy).1.2
    rw [e] at this
    simpa using this
  · have := (h1 y hy).2
    rw [e] at this
    simpa using this
  · have hj : j < cap.length := (List.getElem?_eq_some_iff.mp e).1
    have := h4 j (List.mem_range.mpr hj)
    rw [e] at this
    simp_all
theorem getElem?_capt {cap : List (Option Nat)} {σ : St} {j : Nat} {v : V} (h : (capt cap σ)[j]? = some (some v)) : ∃ i, cap[j]? = some (some i) ∧ σ[i]? = some (some v) := by
  unfold capt at h
  rw [List.getElem?_map] at h
  cases e : cap[j]? with
  | none => simp_all
  | some o =>
    rw [e] at h
    cases o with
    | none => simp at h
    | some i =>
      refine ⟨i, rfl, ?_⟩
      simp only [Option.map_some, Option.bind_some, Option.some.injEq] at h
      cases q : σ[i]? with
      | none => simp_all
      | some z => simp_all
theorem inv_comp {X : Cx} {pins : List (Addr × Obj)} {σ : St} {H : Hp} {s : Shared} {N : List Str} {cap : List (Option Nat)} {scope : Scope} {ex : List Addr} {h₁ : Heap} {tk : Nat} {C : Addr} (S : CompScope X N cap scope) (I : Inv X pins σ H s) (hC : s.heap.objs.size ≤ C)
    (hns:h₁.Ns C (fun _=>none)) (hk:∀ b o,s.heap.get? b = some o→h₁.get? b = some o) (hex:∀ b ∈ ex,b < s.heap.objs.size∧FpOk X pins H b) :
    Inv (cxComp X N scope C s H ex) [] (capt cap σ) H { s with heap:=h₁,toks:=tk }:=by
  have hcl:∀ n c,(closOf X.env scope.names []).lookup n = some c→X.env.cells.lookup n = some c:=closOf_ok (fun n c e=>by simp at e)
  have cne:∀ x c,(closOf X.env scope.names []).lookup x = some c→c < s.heap.objs.size:=fun x c e=>by
    obtain ⟨v,q⟩:=I.cell x c (hcl x c e)
    exact q.lt
  have nob:∀ b o,X.base.get? b = some o→b ∉ ex:=fun b o e hb=>by
    obtain ⟨hlt,f0,f1,f2,f3,f4,f5⟩:=hex b hb
    rcases f3 with z | z
    · exact I.ok.noex b o e z
    · exact absurd (Nat.lt_of_lt_of_le (Heap.lt_size e) (Nat.le_trans I.ok.bsz z)) (Nat.lt_irrefl _)
  refine ⟨⟨I.ok.mod,?_,I.ok.glob,I.ok.blt,hC,fun x y c h1 h2=>I.ok.inj x y c (hcl x c h1) (hcl y c h2),fun x hx=>?_,fun x c hf _=>?_,I.ok.hd,I.ok.frames,.inl rfl,fun b hb=>?_,fun b o e=>I.bs b o e,Nat.le_trans I.ok.bsz I.sz,nob,fun b hb=>?_,I.stack,I.stkFree⟩,
    rfl,I.bare,Un.kept hk,⟨_,hns,fun j y v h1 h2 h3=>?_⟩,fun x c e=>?_,I.hok.fresh hC,fun x c e=>?_,fun p hp=>absurd (show p ∈ ([]:List (Addr × Obj)) from hp) (by simp),I.hok.kept hk,?_⟩
  · exact S.kind
  · have hx:(relabel scope X.env).names.lookup x = some .cell∨(relabel scope X.env).names.lookup x = some .free:=hx
    unfold relabel at hx
    simp only [lookup_relabel] at hx
    cases q:scope.names.lookup x with
    | none=>rw [q] at hx; simp at hx
    | some k =>
      have hm:=PySem.mem_of_lookup q
      have hkf:k = .free:=by
        rw [q] at hx
        simp only [Option.map_some,Option.some.injEq] at hx
        by_cases z:(k == NameKind.free && X.env.scope.kind == .function && X.env.kindOf x == some .cell) = true
        · have : (k == NameKind.free) = true := by
            rw [Bool.and_eq_true,Bool.and_eq_true] at z
            exact z.1.1
          exact beq_iff_eq.mp this
        · rw [if_neg z] at hx
          rcases hx with hx | hx
          · exact absurd hx (S.nocell _ hm)
          · exact hx
      subst hkf
      obtain ⟨c,hc⟩:=I.ok.has x (S.fre _ hm rfl)
      exact Option.isSome_iff_exists.mp (closOf_has hm hc)
  · exact absurd (show false = true from hf) Bool.false_ne_true
  · obtain ⟨hlt,_⟩:=hex b hb
    refine ⟨Nat.ne_of_lt (Nat.lt_of_lt_of_le hlt hC),fun x c e z=>?_⟩
    exact (hex b hb).2.2.2.2.2.1 x c (hcl x c e) z
  · intro hb2
    rcases List.mem_cons.mp (I.stkSub b hb2) with e | e
    · exact (hex b hb).2.2.1 e
    · exact (hex b hb).2.2.2.1 e
  · obtain ⟨i,e1,e2⟩:=getElem?_capt h2
    obtain ⟨y',e3,e4,e5⟩:=S.cap j i e1
    rw [show N[j]? = some y from h1] at e3
    cases e3
    obtain ⟨m,_,hl⟩:=I.loc
    have hm:=PySem.mem_of_lookup e5
    have hv:Vis X.env.scope y:=by
      rcases S.fre _ hm rfl with z | z
      · exact .inr (.inl z)
      · exact .inr (.inr z)
    obtain ⟨u,r,l⟩:=hl i y v e4 e2 hv
    refine ⟨u,r,.inr ⟨?_,?_⟩⟩
    · show (relabel scope X.env).names.lookup y = some .cell∨(relabel scope X.env).names.lookup y = some .free
      unfold relabel
      simp only [lookup_relabel,e5,Option.map_some,Option.some.injEq]
      split
      · exact .inl rfl
      · exact .inr rfl
    · rcases l with ⟨hk2,_⟩ | ⟨_,c,hc,hcell⟩
      · rcases S.fre _ hm rfl with z | z
        · rw [show X.env.kindOf y = some .cell from z] at hk2; cases hk2
        · rw [show X.env.kindOf y = some .free from z] at hk2; cases hk2
      · refine ⟨c,?_,hcell.keeps hk⟩
        obtain ⟨c',hc'⟩:=Option.isSome_iff_exists.mp (closOf_has (acc:=[]) hm hc)
        have:=hcl y c' hc'
        rw [hc] at this
        cases this
        exact hc'
  · obtain ⟨v,q⟩:=I.cell x c (hcl x c e)
    exact ⟨v,q.keeps hk⟩
  · exact I.freeC x c (hcl x c e)
  · show (capt cap σ).length = N.length
    unfold capt
    rw [List.length_map]
    exact S.len
noncomputable def Gath (J:It) (cap:List (Option Nat)) (g:TG) (tc:TT) (te:TE) (Q:Addr→Hp→Prop) (σ:St) (H:Hp):Prop :=
  ∃ W:Nat→Nat→List V→St→Hp→Prop,(∃ m,W 0 m [] (capt cap σ) H)∧∀ i m ys σ' H',W i m ys σ' H' →
    (J.stop i H'∧ys.length ≤ sizeLine∧∀ D,H' D = none→Q D (upd H' D (.lst ys)))∨(J.go i H'∧ys.length < sizeLine∧∃ N:List V→St→Hp→Prop,(∀ ys2 σ2 H2,N ys2 σ2 H2→∃ m',m' < m∧W (i + 1) m' ys2 σ2 H2) ∧
      ∀ x H2,J.yld i H' x H2→g x σ' H2 fun σ3 H3=>tc σ3 H3 fun b H4=>if b = true then te σ3 H4 fun y H5=>N (ys ++ [y]) σ3 H5 else N ys σ3 H4)
noncomputable def tComp (cap:List (Option Nat)) (wi:TI) (g:TG) (tc:TT) (te:TE) (Q:Addr→Hp→Prop):St→Hp→Prop:=fun σ H=>wi σ H fun J H1=>Gath J cap g tc te Q σ H1
noncomputable def tTrue:TT:=fun _ H Q=>Q true H
noncomputable def PTs (X:Cx) (ifs:List Expr) (t:TT):Prop :=
  ∀ (pins:List (Addr × Obj)) (s:Shared) (σ:St) (H:Hp) (Q:Bool→Hp→Prop),Inv X pins σ H s→t σ H Q →
    wpAny (model X.prog X.w) X.A (forIn ifs true fun c r=>if r = true then do let ok ← isTrue c X.env (eval c X.env); pure (ForInStep.yield ok) else pure (ForInStep.yield r)) (TP X pins σ Q) X.xe s
theorem pts_nil {X:Cx}:PTs X [] tTrue:=fun pins s σ H Q I h=>wpAny_tests_nil ⟨H,I,h⟩
theorem pts_one {X:Cx} {c:Expr} {t:TT} (h:PT X c t):PTs X [c] t:=fun pins s σ H Q I hw=>wpAny_tests_one (h pins s σ H Q I hw)
theorem HOk.add {P : Program} {w : World} {H : Hp} {h : Heap} {a : Addr} {o : HO} (x : HOk P w H h) (hn : H a = none) (new : ObjOk P w (upd H a o) h a o) : HOk P w (upd H a o) h := fun b u e => by
  by_cases hb : b = a
  · subst hb; rw [upd_same] at e; simp_all
  · rw [upd_ne hb] at e
    exact (x b u e).stay (fun c v _ q => q) (fun c q => by rw [upd_ne (ne_of_none q hn)]; exact q) fun c xs q => by rw [upd_ne (ne_of_none q hn)]; exact q
theorem Un.add {fs ex:List Addr} {H H1:Hp} {h h1:Heap} {a:Addr} {o:HO} (u:Un fs ex H H1 h h1) (ha:h.objs.size ≤ a) (hn:H1 a = none):Un fs ex H (upd H1 a o) h h1 where
  keep:=u.keep
  slot:=u.slot
  free:=fun b ob q n hx=>by rw [upd_ne (Nat.ne_of_lt (Nat.lt_of_lt_of_le (Heap.lt_size q) ha))]; exact u.free b ob q n hx
  there:=u.there
  tups:=fun b xs q=>by
    have q':=u.tups b xs q
    rw [upd_ne (ne_of_none q' hn)]; exact q'
  frzs:=fun b ob xs q=>by
    have q':=u.frzs b ob xs q
    rw [upd_ne (ne_of_none q' hn)]; exact q'
  tbls:=fun b ps q=>by
    obtain ⟨m,q'⟩:=u.tbls b ps q
    exact ⟨m,by rw [upd_ne (ne_of_none q' hn)]; exact q'⟩
noncomputable abbrev lobj (its:List Value) (k:Nat):Obj:={ cls:=.type "list",data:=.seq its.toArray k }
theorem comp_block {X : Cx} {pins : List (Addr × Obj)} {σ : St} {H : Hp} {s : Shared} {N : List Str} {cap : List (Option Nat)} {scope : Scope} {elt target iter : Expr} {ifs : List Expr} {pos : Pos} {g : TG} {tc : TT} {te : TE} {J : It} {fp : List Addr} {it : Addr} {tn : Nat → Heap → Prop}
    {Q:Addr→Hp→Prop} {RR:Value→Addr→Result→Shared→Prop} {E:Value→Shared→Prop} (hc:X.calm = true) (S:CompScope X N cap scope) (I:Inv X pins σ H s) (T:Turn X.prog X.w X.K target J fp it tn) (st:tn 0 s.heap) (fo:∀ b ∈ fp,FpOk X pins H b)
    (hg:∀ C s₀ H₀,PG (cxComp X N scope C s₀ H₀ fp) target g) (ht:∀ C s₀ H₀,PTs (cxComp X N scope C s₀ H₀ fp) ifs tc) (he:∀ C s₀ H₀,PE (cxComp X N scope C s₀ H₀ fp) elt te)
    (h:Gath J cap g tc te Q σ H)
    (hRR:∀ D C s' H',Inv X pins σ H' s'→Q D H'→(∃ m,s'.heap.Ns C m)→H' C = none→X.s₀.heap.objs.size ≤ C→C ≠ X.env.locals→(∀ x c,X.env.cells.lookup x = some c→c ≠ C)→(∀ p ∈ X.pn ++ pins,p.1 ≠ C)→RR (.ref D) C (.ok .next) s') :
    wpAny (model X.prog X.w) X.A (newList []) (fun acc s₃=>wpAny (model X.prog X.w) X.A (newFunctionEnv scope X.env.globals (closOf X.env scope.names []) [] X.env.qual none .none (some X.env)) (fun cenv s₄ =>
      codeAny (model X.prog X.w) X.A (.compStart (.ListComp elt [⟨target,iter,ifs,0⟩] scope pos) 0 (.ref it) acc { cenv with scope:=relabel scope X.env }) (RR acc cenv.locals) s₄) E s₃) E s:=by
  have hfr:∀ a,s.heap.objs.size ≤ a→H a = none:=fun a ha=>I.hok.fresh ha
  obtain ⟨W,⟨m0,w0⟩,turn⟩:=h
  have fol:∀ b ∈ fp,b < s.heap.objs.size:=fun b hb=>by
    obtain ⟨o,ho,_⟩:=T.obj 0 _ st b hb
    exact Heap.lt_size ho
  have clt:∀ x c,X.env.cells.lookup x = some c→c < s.heap.objs.size:=fun x c e=>by
    obtain ⟨v,q⟩:=I.cell x c e
    exact q.lt
  refine wpAny_newObj_type (wpAny_newFunctionEnv S.nocell (by intro y hy; simp at hy) (fun h₁ hns₁ hsb₁=>?_) S.kind)
  dsimp only at hns₁ hsb₁ ⊢
  generalize hD:s.heap.objs.size = D at *
  generalize hH3:s.heap.push { cls:=.type "list",data:=.seq ([]:List Value).toArray } = H3 at *
  have hC:H3.objs.size = D + 1:=by rw [← hH3,Heap.size_push,hD]
  have keep3:∀ b o,s.heap.get? b = some o→H3.get? b = some o:=fun b o e=>by rw [← hH3]; exact Heap.get?_push_of_some _ e
  have keep4:∀ b o,H3.get? b = some o→h₁.get? b = some o:=fun b o e=>hsb₁.extBut b o (Nat.ne_of_lt (Heap.lt_size e)) (Heap.get?_push_of_some _ e)
  have D4:h₁.get? D = some (lobj [] 0):=keep4 _ _ (by rw [← hH3,← hD]; exact Heap.get?_push_size _ rfl)
  generalize hCC:H3.objs.size = C at *
  have hDC:D < C:=by lia
  have hDC':D ≤ C:=Nat.le_of_lt hDC
  have hL:X.env.locals < D:=by rw [← hD]; exact I.lt
  have I4:Inv (cxComp X N scope C s H fp) [] (capt cap σ) H { s with heap:=h₁,toks:=s.toks + ([]:List (Str × Value)).length } :=
    inv_comp S I (by lia) hns₁ (fun b o e=>keep4 b o (keep3 b o e)) fun b hb=>⟨by rw [hD]; exact fol b hb,fo b hb⟩
  have fp4:∀ {H':Hp} {ob:Obj},(∀ b ∈ fp,H' b = none)→∀ b ∈ fp,FpOk (cxComp X N scope C s H fp) [(D,ob)] H' b:=fun {H' ob} hn b hb=>by
    obtain ⟨f0,f1,f2,f3,f4,f5⟩:=fo b hb
    have hlt:=fol b hb
    refine ⟨hn b hb,?_,fun z=>?_,.inl hb,fun x c e=>f4 x c (closOf_ok (fun n c e=>by simp at e) x c e),fun p hp=>?_⟩
    · exact Nat.ne_of_lt (Nat.lt_of_lt_of_le hlt hDC')
    · rcases List.mem_cons.mp (I.stkSub b z) with e | e
      · exact f1 e
      · exact f2 e
    · have hp':p ∈ [(D,ob)]:=hp
      rw [List.mem_singleton.mp hp']
      exact Nat.ne_of_gt hlt
  have st4:tn 0 h₁:=T.keep _ _ _ st fun b hb o e=>keep4 b o (keep3 b o e)
  have nfs:D ∉ (cxComp X N scope C s H fp).fs:=fun z=>by
    rcases List.mem_cons.mp (I.stkSub D z) with e | e
    · exact Nat.ne_of_gt hL e
    · exact I.nofs (Nat.le_of_eq hD) e
  have pinD:∀ {σ':St} {H':Hp} {s':Shared} {ob:Obj},Inv (cxComp X N scope C s H fp) [] σ' H' s'→H' D = none→s'.heap.get? D = some ob→(∀ v,ob.data ≠ .cell v)→Inv (cxComp X N scope C s H fp) [(D,ob)] σ' H' s':=fun {σ' H' s' ob} J hn e nc =>
    J.pins_of fun p hp=>by
      rw [List.mem_singleton.mp hp]
      exact ⟨e,hn,Nat.ne_of_lt hDC,nfs,nc⟩
  have loop : ∀ s₄ : Shared, s₄ = { s with heap := h₁, toks := s.toks + ([] : List (Str × Value)).length } →
      codeAny (model X.prog X.w) X.A (.compLoop (.ListComp elt [⟨target,iter,ifs,0⟩] scope pos) 0 (.ref it) (.ref D) (compEnvC scope (closOf X.env scope.names []) C X.env)) (RR (.ref D) C) s₄:=by
    rintro s₄ rfl
    refine comp_loop (fun n s'=>∃ i ys its k σ' H',Inv (cxComp X N scope C s H fp) [(D,lobj its k)] σ' H' s'∧Vals ys its∧tn i s'.heap∧(∀ b ∈ fp,H' b = none)∧W i n ys σ' H') ?_ m0
      ⟨0,[],[],0,_,_,pinD I4 (hfr D (Nat.le_refl _)) D4 (fun v z=>by cases z),.nil,st4,fun b hb=>(fo b hb).1,w0⟩
    rintro n s5 ⟨i,ys,its,k,σ5,H5,I5,rv5,st5,fr5,w5⟩
    have hpin:=I5.pin (D,lobj its k) (List.mem_append_right _ List.mem_cons_self)
    rcases turn i n ys σ5 H5 w5 with ⟨stop,hz,q⟩ | ⟨go,hz,NN,hNN,step⟩
    · refine thn (T.done (cxComp X N scope C s H fp) rfl rfl rfl hc i _ s5 σ5 H5 _ I5 (fp4 fr5) st5 stop) fun r s6 ⟨hr,I6⟩=>?_
      subst hr
      have p6:=I6.pin (D,lobj its k) (List.mem_append_right _ List.mem_cons_self)
      have I7:Inv X pins σ (upd H5 D (.lst ys)) s6:=I.call' (ch:=fp) I6.os (I6.base.add (Nat.le_of_eq hD) p6.2.1) (I6.hok.add p6.2.1 ⟨hz,its,k,rv5,p6.1⟩) I6.bare fun b hb=>by
        obtain ⟨f0,f1,f2,f3,f4,f5⟩:=fo b hb
        exact ⟨f3,f1,f4,f5⟩
      obtain ⟨m6,hn6,_⟩:=I6.loc
      refine hRR _ C s6 _ I7 (q D p6.2.1) ⟨m6,hn6⟩ ?_ ?_ ?_ ?_ ?_
      · rw [upd_ne (Nat.ne_of_gt hDC)]; exact I6.free
      · exact Nat.le_trans (by rw [← hD]; exact I.sz) hDC'
      · exact Nat.ne_of_gt (Nat.lt_of_lt_of_le hL hDC')
      · intro x c e z
        exact Nat.ne_of_lt (Nat.lt_of_lt_of_le (clt x c e) hDC') z
      · intro p hp z
        have h6:=Heap.lt_size (I.pin p hp).1
        rw [hD] at h6
        exact Nat.ne_of_lt (Nat.lt_of_lt_of_le h6 hDC') z
    · refine thn (T.item (cxComp X N scope C s H fp) rfl rfl rfl hc i _ s5 σ5 H5 _ I5 (fp4 fr5) st5 go) fun r s6 ⟨u,hr,h6⟩=>?_
      subst hr
      refine thn h6 fun _ s7 ⟨x,H7,I7,r7,y7,st7,fr7⟩=>?_
      have I7':=I7.pinned (fp4 fr7) (T.obj _ _ st7)
      have kept:∀ {σ8:St} {H8:Hp} {s8:Shared},Inv (cxComp X N scope C s H fp) ([(D,lobj its k)] ++ pinsAt fp s7.heap) σ8 H8 s8→tn (i + 1) s8.heap∧∀ b ∈ fp,H8 b = none:=fun {σ8 H8 s8} I8 =>
        ⟨T.keep _ _ _ st7 fun b hb o e=>(I8.pin (b,o) (List.mem_append_right _ (List.mem_append_right _ (mem_pinsAt hb e)))).1,fun b hb=>by
          obtain ⟨o,e,d⟩:=T.obj _ _ st7 b hb
          exact (I8.pin (b,o) (List.mem_append_right _ (List.mem_append_right _ (mem_pinsAt hb e)))).2.1⟩
      refine wpAny_mono (hg C s H _ s7 σ5 H7 x u _ I7' r7 (step x H7 y7)) (fun _ s8 ⟨σ8,H8,I8,q8⟩=>?_) fun _ _ f=>f.elim
      refine wpAny_mono (ht C s H _ s8 σ8 H8 _ I8 q8) (fun ok s9 ⟨H9,I9,q9⟩=>?_) fun _ _ f=>f.elim
      cases ok with
      | false =>
        rw [if_neg Bool.false_ne_true] at q9 ⊢
        obtain ⟨m',hm,w9⟩:=hNN _ _ _ q9
        exact ⟨m',hm,i + 1,ys,its,k,σ8,H9,I9.unpinned,rv5,(kept I9).1,(kept I9).2,w9⟩
      | true =>
        rw [if_pos rfl] at q9 ⊢
        refine wpAny_mono (he C s H _ s9 σ8 H9 _ I9 q9) (fun y s10 ⟨yv,H10,I10,r10,n10⟩=>?_) fun _ _ f=>f.elim
        obtain ⟨m',hm,w10⟩:=hNN _ _ _ n10
        obtain ⟨k10,f10⟩:=kept I10
        have p10:=I10.pin (D,lobj its k) (List.mem_append_right _ (List.mem_append_left _ List.mem_cons_self))
        have hlen:=rv5.length
        refine wpAny_list_append_plain (hsz:=by rw [List.size_toArray]; lia) (show s10.heap.PlainList D its.toArray from ⟨k,p10.1⟩) fun h11 hl11 hsb11=>?_
        obtain ⟨k11,e11⟩:=hl11
        have J0:Inv (cxComp X N scope C s H fp) [] σ8 H10 s10:=I10.pins_of fun p hp=>nomatch hp
        have J1:Inv (cxComp X N scope C s H fp) [] σ8 H10 { s10 with heap:=h11 }:=J0.turned (t':=s10.toks) (fun b o hb e=>hsb11.extBut b o hb e) p10.2.1 (Nat.ne_of_lt hDC) (.inr (Nat.le_of_eq hD)) (fun x c e z=>Nat.ne_of_lt (clt x c (closOf_ok (fun n c e=>by simp at e) x c e)) z) fun p hp=>nomatch (show p ∈ ([]:List (Addr × Obj)) from hp)
        have e12:h11.get? D = some (lobj (its ++ [y]) k11):=by rw [e11]; simp [lobj]
        refine ⟨m',hm,i + 1,ys ++ [yv],its ++ [y],k11,σ8,H10,pinD J1 p10.2.1 e12 (fun v z=>by cases z),rv5.append (.cons r10 .nil),?_,f10,w10⟩
        exact T.keep _ _ _ k10 fun b hb o e=>hsb11.extBut b o (Nat.ne_of_lt (fol b hb)) e
  refine codeAny_compStart_list (loop _ ?_) (T.self X.A 0 _ _ _ ?_ (loop _ ?_))
  · rfl
  · exact st4
  · rfl
theorem pe_comp {X : Cx} {N : List Str} {cap : List (Option Nat)} {scope : Scope} {elt target iter : Expr} {ifs : List Expr} {pos : Pos} {wi : TI} {g : TG} {tc : TT} {te : TE} (hc : X.calm = true) (S : CompScope X N cap scope) (hi : PI X target iter wi)
    (hg : ∀ C s₀ H₀ ex, PG (cxComp X N scope C s₀ H₀ ex) target g) (ht : ∀ C s₀ H₀ ex, PTs (cxComp X N scope C s₀ H₀ ex) ifs tc) (he : ∀ C s₀ H₀ ex, PE (cxComp X N scope C s₀ H₀ ex) elt te)
    (hs : ∀ x, foldedSetIterable iter X.env x = pure x := by intro _; rfl) :
    PE X (.ListComp elt [⟨target, iter, ifs, 0⟩] scope pos) (fun σ H Q => tComp cap wi g tc te (fun D H' => Q (.ref D) H') σ H) := by
  intro pins s σ H Q I h
  have hclos : closureFor scope X.env = pure (closOf X.env scope.names []) := closureFor_of fun y hy hf => I.ok.has y.1 (S.fre y hy hf)
  refine wpAny_comprehension_free (use := none) rfl hs hclos S.kind S.loc (thn (hi pins s σ H _ I h) fun xv s1 h1 => thn h1 fun itv s2 h2 => ?_)
  obtain ⟨it, fp, tn, J, H2, e, I2, T, st2, f2, q2⟩ := h2
  subst e
  refine comp_block (RR := fun acc C => compPost (model X.prog X.w) X.A X.xe none (EP X pins σ Q) acc C) hc S I2 T st2 f2 (fun C s₀ H₀ => hg C s₀ H₀ fp) (fun C s₀ H₀ => ht C s₀ H₀ fp) (fun C s₀ H₀ => he C s₀ H₀ fp) q2 ?_
  intro D C s' H' I' q ⟨m, hn⟩ hf hsz hL hcell hpin
  refine ⟨m, hn, fun h' hsb => ⟨.ref D, H', ?_, rfl, q⟩⟩
  exact I'.turned (t' := s'.toks) (fun b o hb e => hsb.extBut b o hb e) hf hL (.inr hsz) hcell hpin
theorem ps_comp {X : Cx} {N : List Str} {cap : List (Option Nat)} {scope : Scope} {elt target iter : Expr} {ifs : List Expr} {pos pos' spos : Pos} {wi : TI} {g : TG} {tc : TT} {te : TE} {i : Nat} {x : Str} (hc : X.calm = true) (S : CompScope X N cap scope) (hi : PI X target iter wi)
    (hg : ∀ C s₀ H₀ ex, PG (cxComp X N scope C s₀ H₀ ex) target g) (ht : ∀ C s₀ H₀ ex, PTs (cxComp X N scope C s₀ H₀ ex) ifs tc) (he : ∀ C s₀ H₀ ex, PE (cxComp X N scope C s₀ H₀ ex) elt te)
    (hN : X.N.Nodup) (hix : X.N[i]? = some x) (hx : X.env.scope.names.lookup x = some .local) (hsw : swapsWith (.ListComp elt [⟨target, iter, ifs, 0⟩] scope pos) (some (.Name x pos')) spos.line X.env = pure true := by rfl)
    (hs : ∀ x, foldedSetIterable iter X.env x = pure x := by intro _; rfl) :
    PS X (.Assign [.Name x pos'] (.ListComp elt [⟨target, iter, ifs, 0⟩] scope pos) spos) (fun D σ H => tComp cap wi g tc te (fun d H' => D.nx (σ.set i (some (.ref d))) H') σ H) := by
  intro pins s σ H D I h
  have hclos : closureFor scope X.env = pure (closOf X.env scope.names []) := closureFor_of fun y hy hf => I.ok.has y.1 (S.fre y hy hf)
  rw [exec_Assign_Name_used _ _ _ _ hsw]
  refine wpAny_bind (wpAny_standAt (wpAny_bind ?_))
  refine wpAny_bind (wpAny_mono (wpAny_comprehension_free (use := some (assign (.Name x pos') X.env)) (Q := fun _ s' => SP X pins D .next s') rfl hs hclos S.kind S.loc
    (thn (hi pins s σ H _ I h) fun xv s1 h1 => thn h1 fun itv s2 h2 => ?_)) (fun _ s' hq => wpAny_pure (wpAny_pure hq)) fun _ _ e => e)
  obtain ⟨it, fp, tn, J, H2, e, I2, T, st2, f2, q2⟩ := h2
  subst e
  refine comp_block (RR := fun acc C => compPost (model X.prog X.w) X.A X.xe (some (assign (.Name x pos') X.env)) (fun _ s' => SP X pins D .next s') acc C) hc S I2 T st2 f2 (fun C s₀ H₀ => hg C s₀ H₀ fp) (fun C s₀ H₀ => ht C s₀ H₀ fp) (fun C s₀ H₀ => he C s₀ H₀ fp) q2 ?_
  intro d C s' H' I' q ⟨m, hn⟩ hf hsz hL hcell hpin
  show wpAny _ X.A (assign (.Name x pos') X.env (.ref d)) _ _ s'
  refine wpAny_assign_Name (store_ok2 I' hN hix (.inl hx) (show RelV (.ref d) (.ref d) from rfl) (fun s'' I'' ⟨a, hsb, ha⟩ => ?_) (.inr hx))
  have hCa : C ≠ a := by
    rcases ha with z | z
    · rw [z]; exact hL
    · exact fun w => hcell x a z w.symm
  refine ⟨m, hn.sameBut hsb hCa, fun h' hsb' => ⟨_, H', ?_, q⟩⟩
  exact I''.turned (t' := s''.toks) (fun b o hb e => hsb'.extBut b o hb e) hf hL (.inr hsz) hcell hpin
end L2
namespace L2
open PySem PySem.Spec PyProof.Rows
noncomputable def Its (x:Str):It:=⟨fun i _=>i < x.cps.size,fun i H v H'=>H' = H∧∃ c,x.cps[i]? = some c∧v = .str ⟨#[c]⟩,fun i _=>i = x.cps.size⟩
theorem turn_str {P : Program} {w : World} {K : PySem.W.Frag} {tg : Expr} (ty : String) (it : Addr) (x : Str) (t : Tok)
    (hw:∀ A':Around,A'.handled = none→Walks P w A' it [it] [it] x.cps.size (SignAt x) (fun i h=>h.IsStrIter it ty x t i))
    (hself:∀ (A:Around) (i:Nat) (s:Shared) (Q:Value→Shared→Prop) (E:Value→Shared→Prop),s.heap.IsStrIter it ty x t i→Q (.ref it) s→wpAny (model P w) A (pyIter (.ref it)) Q E s)
    (hn:["enumerate","zip","dict_itemiterator","dict_reverseitemiterator","odict_iterator","itertools.zip_longest","itertools.pairwise"].contains ty = false) :
    Turn P w K tg (Its x) [it] it (fun i h=>h.IsStrIter it ty x t i) where
  mem:=by simp
  obj:=fun i h st b hb=>by
    have e:b = it:=by simpa using hb
    subst e
    obtain ⟨o,e,c,d⟩:=st
    exact ⟨o,e,fun v z=>by rw [d] at z; cases z⟩
  keep:=fun i h h' st k=>let ⟨o,e,r⟩:=st; ⟨o,k it (by simp) o e,r⟩
  item:=by
    intro X hP hw' hK hc i pins s σ H E I hf st hg
    subst hP hw' hK
    obtain ⟨f0,f1,f2,f3,f4,f5⟩:=hf it (by simp)
    refine (hw X.A (I.ok.hd hc)).item i s _ _ hg st fun v h' tk hv st' kk=>?_
    obtain ⟨c,u,hc',rfl⟩:=hv
    have I1:Inv X pins σ H { s with heap:=h',toks:=tk }:=I.turned (fun b o hb e=>kk b o (by simpa using hb) e) f0 f1 f3 f4 f5
    obtain ⟨o,e,cc,d⟩:=id st'
    exact ⟨_,rfl,go_of (s:={ s with heap:=h',toks:=tk }) e cc d hn ⟨.str ⟨#[c]⟩,H,I1,⟨u,rfl⟩,⟨rfl,c,hc',rfl⟩,st',fun b hb=>(hf b hb).1⟩⟩
  done:=by
    intro X hP hw' hK hc i pins s σ H E I hf st hg
    subst hP hw' hK
    obtain ⟨f0,f1,f2,f3,f4,f5⟩:=hf it (by simp)
    have hg':i = x.cps.size:=hg
    subst hg'
    exact (hw X.A (I.ok.hd hc)).done s _ _ st fun h' tk kk=>⟨rfl,I.turned (fun b o hb e=>kk b o (by simpa using hb) e) f0 f1 f3 f4 f5⟩
  self:=hself
theorem for_str {x : Str} {g : TG} {tb : TS} {D : Ends} {σ : St} {H : Hp} (Pv : Nat → St → Hp → Prop) (h0 : Pv 0 σ H)
    (hs:∀ i c σ H,x.cps[i]? = some c→Pv i σ H→g (.str ⟨#[c]⟩) σ H fun σ2 H2=>tb { D with nx:=Pv (i + 1),ct:=Pv (i + 1),bk:=D.nx } σ2 H2) (hd:∀ σ H,Pv x.cps.size σ H→D.nx σ H) :
    ∃ W:Nat→Nat→St→Hp→Prop,(∃ m,W 0 m σ H)∧∀ i m σ H,W i m σ H →
      ((Its x).stop i H∧D.nx σ H)∨((Its x).go i H∧∃ N:St→Hp→Prop,(∀ σ' H',N σ' H'→∃ m',m' < m∧W (i + 1) m' σ' H')∧∀ v H',(Its x).yld i H v H'→g v σ H' fun σ2 H2=>tb { D with nx:=N,ct:=N,bk:=D.nx } σ2 H2):=by
  refine ⟨fun i m σ H=>m = x.cps.size - i∧i ≤ x.cps.size∧Pv i σ H,⟨x.cps.size,by simp,Nat.zero_le _,h0⟩,?_⟩
  rintro i m σ H ⟨rfl,hi,p⟩
  by_cases hlt:i < x.cps.size
  · refine .inr ⟨hlt,Pv (i + 1),fun σ' H' p'=>⟨x.cps.size - (i + 1),by lia,rfl,hlt,p'⟩,fun v H' y=>?_⟩
    obtain ⟨e,c,hc,rfl⟩:=y
    subst e
    exact hs i c σ _ hc p
  · have e:i = x.cps.size:=by lia
    subst e
    exact .inl ⟨rfl,hd σ H p⟩
section
variable {X:Cx}
theorem op_mul_str:OpR X (binaryOp .Mult) (fun x y H Q=>∃ z n,x = .str z∧y = .int n∧MulOk z n∧Q (.str (Txt.mul z n)) H):=by
  intro pins s σ H x y v u Q I r1 r2 h
  obtain ⟨z,n,rfl,rfl,ok,q⟩:=h
  obtain ⟨t,rfl⟩:=r1
  obtain ⟨t',rfl⟩:=r2
  exact SB.mul ok fun t' k=>⟨.str _,H,I.tok k,⟨t',rfl⟩,q⟩
theorem strs_vals:∀ (l:List (Str × Tok)),Vals (l.map fun p=>V.str p.1) (strValues l)
  | []=>.nil
  | (x,t) :: l=>.cons ⟨t,rfl⟩ (strs_vals l)
inductive rSplit (x : V) (vs : List V) (H : Hp) (Q : VK) : Prop | mk (z : _) (y : _) : (x = .str z) → (vs = [.str y]) → (y.length ≠ 0) → (z.length < sizeLine) → ((Txt.split z y).length ≤ sizeLine) → (∀ l,H l = none→Q (.ref l) (upd H l (.lst ((Txt.split z y).map V.str)))) → rSplit x vs H Q
theorem split_laid {pins : List (Addr × Obj)} {σ : St} {H : Hp} {s : Shared} {l : List (Str × Tok)} {ts : List Str} {tk : Nat} {Q : VK} (I : Inv X pins σ H s) (e : l.map (·.1) = ts) (hz : ts.length ≤ sizeLine) (q : ∀ l, H l = none → Q (.ref l) (upd H l (.lst (ts.map V.str)))) :
    EP X pins σ Q (.ref s.heap.objs.size) { s with heap:=s.heap.push { cls:=.type "list",data:=.seq (strValues l).toArray },toks:=tk }:=by
  subst e
  refine ⟨.ref s.heap.objs.size,_,I.laid (o:=.lst ((l.map (·.1)).map V.str)) (fun b ob q=>Heap.get?_push_of_some _ q) (Nat.le_refl _) ?_,rfl,q _ (I.hok.fresh (Nat.le_refl _))⟩
  refine ⟨by rw [List.length_map]; exact hz,strValues l,0,?_,Heap.get?_push_size _ rfl⟩
  have:=strs_vals l
  rw [List.map_map]
  exact this
open Builtin Builtin.Str in
theorem mt_split:MtR X "str.split" rSplit:=by
  intro pins s σ H x xs v us Q I rx rs h
  obtain ⟨z,y,rfl,rfl,hy0,hz,hl,q⟩:=h
  obtain ⟨t,rfl⟩:=rx
  obtain ⟨uu,rfl,ru⟩:=vals1 rs
  obtain ⟨u,rfl⟩:=ru
  have hy:(y.length == 0) = false:=by simpa using hy0
  have hz':z.length ≤ sizeLine:=Nat.le_of_lt hz
  unfold Txt.split at hl q
  cases h1:(decide (z.length < y.length) || decide (strKind z < strKind y))
  · rw [h1] at hl q
    simp only [Bool.false_eq_true,if_false] at hl q
    cases hf:(occurrences z y 0 z.length (z.length + 1)).isEmpty
    · rw [hf] at hl q
      simp only [Bool.false_eq_true,if_false] at hl q
      refine call_meets F.slot_str_split (typeIs_str _ _ _) F.entry_str_split (F.args_str_split_2 _ _) (meets_str_split_sep z y t u h1 hy hf hz' hl) ?_
      show wants _ _ _ { s with toks:=_,heap:=s.heap.push { cls:=.type "list",data:=.seq (strsFrom s.toks (partsBetween z (occurrences z y 0 z.length (z.length + 1)) y.length)).toArray } }
      rw [strsFrom_eq]
      exact split_laid (l:=numbered s.toks _) I (numbered_texts _ _) hl q
    · rw [hf] at hl q
      simp only [if_true] at hl q
      exact call_meets F.slot_str_split (typeIs_str _ _ _) F.entry_str_split (F.args_str_split_2 _ _) (meets_str_split_not_found z y t u h1 hy hf)
        (split_laid (l:=[(z,t)]) (tk:=s.toks) I rfl hl q)
  · rw [h1] at hl q
    simp only [if_true] at hl q
    exact call_meets F.slot_str_split (typeIs_str _ _ _) F.entry_str_split (F.args_str_split_2 _ _) (meets_str_split_cannot_occur z y t u h1)
      (split_laid (l:=[(z,t)]) (tk:=s.toks) I rfl hl q)
inductive rSlS (x : V) (lo : Option Int) (hi : Option Int) (H : Hp) (Q : VK) : Prop | mk (z : _) : (x = .str z) → (z.length ≤ sizeLine) → (Q (.str (Txt.slice z lo hi)) H) → rSlS x lo hi H Q
theorem sl_str:SlR X rSlS:=by
  intro pins s σ H x v vl vu lo hi sl Q I rx hs pl pu h
  obtain ⟨z,rfl,hz,q⟩:=h
  obtain ⟨t,rfl⟩:=rx
  refine ⟨"str",_,F.slot_str_getitem.lookup,typeIs_str _ _ _,?_⟩
  have fin:∀ t' k,EP X pins σ Q (.str (Txt.slice z lo hi) t') { s with toks:=k }:=fun t' k=>⟨.str _,H,I.tok k,⟨t',rfl⟩,q⟩
  cases pl with
  | none =>
    cases pu with
    | none=>exact wpAny_getItem_str_slice (l:=none) (u:=none) (st:=none) hs rfl (post_val_or_str ⟨Nat.le_trans (Txt.slice_le z _ _) hz,fin⟩)
    | int j uj=>exact wpAny_getItem_str_slice (l:=none) (u:=some (j,uj)) (st:=none) hs rfl (post_val_or_str ⟨Nat.le_trans (Txt.slice_le z _ _) hz,fin⟩)
  | int i ui =>
    cases pu with
    | none=>exact wpAny_getItem_str_slice (l:=some (i,ui)) (u:=none) (st:=none) hs rfl (post_val_or_str ⟨Nat.le_trans (Txt.slice_le z _ _) hz,fin⟩)
    | int j uj=>exact wpAny_getItem_str_slice (l:=some (i,ui)) (u:=some (j,uj)) (st:=none) hs rfl (post_val_or_str ⟨Nat.le_trans (Txt.slice_le z _ _) hz,fin⟩)
theorem call_sum (hc:X.calm = true):CallR X (.builtin "sum") (fun xs H Q=>∃ (l:Addr) (ns:List Int),xs = [.ref l]∧SqL X.K H l (ns.map V.int)∧Q (.int ns.sum) H):=by
  intro pins s σ H xs us Q I r h
  obtain ⟨l,ns,rfl,hq,q⟩:=h
  obtain ⟨u,rfl,ru⟩:=vals1 r
  cases ru
  obtain ⟨its,rv,pl,hz⟩:=I.list hq
  have hi:IntsAre its ns:=intsAre_of rv
  obtain ⟨arr,ea⟩:=hi.allInts.items
  have hl:s.heap.IsList l (intItems arr):=by rw [← ea]; exact pl.isList
  have en:numsOf (intItems arr).toList = ns:=by rw [← ea]; exact hi.numsOf
  refine sum_intListG (I.ok.hd hc) hl fun h' tk t' hk=>?_
  rw [nums_intItems] at en
  have e2:preSum (numAt arr) arr.size = ns.sum:=by rw [preSum_eq,List.take_of_length_le (by simp),en]
  rw [e2]
  exact ⟨.int _,H,I.kept hk,⟨t',rfl⟩,q⟩
end
mutual
inductive DatV (K:PySem.W.Frag) (H:Hp):V→PyData→Prop
  | none:DatV K H .non .none
  | bool (b:Bool):DatV K H (.bl b) (.bool b)
  | int (i:Int):DatV K H (.int i) (.int i)
  | str (x:Str):DatV K H (.str x) (.str x)
  | list {a:Addr} {xs:List V} {ds:List PyData}:SqL K H a xs→DatVs K H xs ds→DatV K H (.ref a) (.list ds)
  | tuple {a:Addr} {xs:List V} {ds:List PyData}:SqT K H a xs→DatVs K H xs ds→DatV K H (.ref a) (.tuple ds)
inductive DatVs (K:PySem.W.Frag) (H:Hp):List V→List PyData→Prop
  | nil:DatVs K H [] []
  | cons {x:V} {xs:List V} {d:PyData} {ds:List PyData}:DatV K H x d→DatVs K H xs ds→DatVs K H (x :: xs) (d :: ds)
end
theorem Same.seqT {K:PySem.W.Frag} {H H':Hp} {a:Addr} {xs:List V} (e:Same H H') (h:SqT K H a xs):SqT K H' a xs:=by
  rcases h with (h | ⟨o,h⟩) | h
  · exact .inl (.inl (e _ _ h))
  · exact .inl (.inr ⟨o,e _ _ h⟩)
  · exact .inr h
mutual
theorem DatV.same {K:PySem.W.Frag} {H H':Hp} (e:Same H H'):∀ {x:V} {d:PyData},DatV K H x d→DatV K H' x d
  | _,_,.none=>.none
  | _,_,.bool b=>.bool b
  | _,_,.int i=>.int i
  | _,_,.str x=>.str x
  | _,_,.list h hs=>.list (e.seq h) (DatVs.same e hs)
  | _,_,.tuple h hs=>.tuple (e.seqT h) (DatVs.same e hs)
theorem DatVs.same {K:PySem.W.Frag} {H H':Hp} (e:Same H H'):∀ {xs:List V} {ds:List PyData},DatVs K H xs ds→DatVs K H' xs ds
  | _,_,.nil=>.nil
  | _,_,.cons h hs=>.cons (DatV.same e h) (DatVs.same e hs)
end
mutual
theorem DatV.reads {X:Cx} {pins:List (Addr × Obj)} {σ:St} {H:Hp} {s:Shared} (I:Inv X pins σ H s):∀ {x:V} {d:PyData} {u:Value},DatV X.K H x d→RelV x u→∃ as,Reads s.heap u d as
  | _,_,_,.none,r=>by cases r; exact ⟨_,.none⟩
  | _,_,_,.bool b,r=>by cases r; exact ⟨_,.bool b⟩
  | _,_,_,.int i,r=>by obtain ⟨t,rfl⟩:=r; exact ⟨_,.int i t⟩
  | _,_,_,.str x,r=>by obtain ⟨t,rfl⟩:=r; exact ⟨_,.str x t⟩
  | _,_,_,.list h hs,r=>by
    cases r
    obtain ⟨its,rv,⟨o,n,h1,h2,h3,h4⟩,hz⟩:=I.list h
    obtain ⟨as,ra⟩:=DatVs.reads I hs rv
    exact ⟨_,.list h1 h2 h4 ra⟩
  | _,_,_,.tuple h hs,r=>by
    cases r
    obtain ⟨its,rv,⟨o,h1,h2,n,h4⟩,hz⟩:=I.tuple h
    obtain ⟨as,ra⟩:=DatVs.reads I hs rv
    exact ⟨_,.tuple h1 h2 h4 ra⟩
theorem DatVs.reads {X:Cx} {pins:List (Addr × Obj)} {σ:St} {H:Hp} {s:Shared} (I:Inv X pins σ H s):∀ {xs:List V} {ds:List PyData} {us:List Value},DatVs X.K H xs ds→Vals xs us→∃ as,ReadsAll s.heap us ds as
  | _,_,_,.nil,r=>by cases r; exact ⟨_,.nil⟩
  | _,_,_,.cons h hs,r=>by
    cases r with
    | cons r1 r2 =>
      obtain ⟨as,ra⟩:=DatV.reads I h r1
      obtain ⟨bs,rb⟩:=DatVs.reads I hs r2
      exact ⟨_,.cons ra rb⟩
end
theorem DatVs.length {K:PySem.W.Frag} {H:Hp}:∀ {xs:List V} {ds:List PyData},DatVs K H xs ds→xs.length = ds.length
  | _,_,.nil=>rfl
  | _,_,.cons _ hs=>by rw [List.length_cons,List.length_cons,DatVs.length hs]
theorem DatVs.get {K:PySem.W.Frag} {H:Hp}:∀ {xs:List V} {ds:List PyData} {i:Nat} {x:V},DatVs K H xs ds→xs[i]? = some x→∃ d,ds[i]? = some d∧DatV K H x d
  | _,_,_,_,.nil,e=>by simp at e
  | _,_,0,_,.cons h _,e=>by simp at e; subst e; exact ⟨_,rfl,h⟩
  | _,_,i + 1,x,.cons _ hs,e=>by
    obtain ⟨d,h1,h2⟩:=DatVs.get (i:=i) (x:=x) hs (by simpa using e)
    exact ⟨d,by simpa using h1,h2⟩
theorem DatVs.snoc {K:PySem.W.Frag} {H:Hp} {x:V} {d:PyData} (h:DatV K H x d):∀ {xs:List V} {ds:List PyData},DatVs K H xs ds→DatVs K H (xs ++ [x]) (ds ++ [d])
  | _,_,.nil=>.cons h .nil
  | _,_,.cons h' hs=>.cons h' (DatVs.snoc h hs)
inductive rEqD (K:PySem.W.Frag) (x : V) (y : V) (H : Hp) (Q : VK) : Prop | mk (da : _) (db : _) : DatV K H x da → DatV K H y db → (da.canLay0 = true) → (db.canLay0 = true) → (min da.depth db.depth ≤ 60) → (Q (.bl (PyData.eqv da db)) H) → rEqD K x y H Q
inductive rNeD (K:PySem.W.Frag) (x : V) (y : V) (H : Hp) (Q : VK) : Prop | mk (da : _) (db : _) : DatV K H x da → DatV K H y db → (da.canLay0 = true) → (db.canLay0 = true) → (min da.depth db.depth ≤ 60) → (Q (.bl (!PyData.eqv da db)) H) → rNeD K x y H Q
theorem op_eqD {X:Cx} (hu:X.A.units + 64 < cLine):OpR X (compareOp .Eq) (rEqD X.K):=by
  intro pins s σ H x y v u Q I rx ry h
  obtain ⟨da,db,h1,h2,l1,l2,hd,q⟩:=h
  obtain ⟨as,ra⟩:=h1.reads I rx
  obtain ⟨bs,rb⟩:=h2.reads I ry
  exact SeqAt.compareEq_reads ra rb l1 l2 (by lia) ⟨.bl _,H,I,rfl,q⟩
theorem op_neD {X:Cx} (hu:X.A.units + 64 < cLine):OpR X (compareOp .NotEq) (rNeD X.K):=by
  intro pins s σ H x y v u Q I rx ry h
  obtain ⟨da,db,h1,h2,l1,l2,hd,q⟩:=h
  obtain ⟨as,ra⟩:=h1.reads I rx
  obtain ⟨bs,rb⟩:=h2.reads I ry
  exact SeqAt.compareNe_reads ra rb l1 l2 (by lia) ⟨.bl _,H,I,rfl,q⟩
end L2
namespace L2
open PySem PySem.Spec PyProof.Rows
structure KTab (K:PySem.W.Frag) (w:World) (a:Addr) (kvs:List (Str × V)):Prop where
  ex:∃ es n,K.lookup a = some ⟨.type "dict",none,.dict es n,#[]⟩∧PySem.W.KeysLit w.params es.toList∧Paired (fun (p:Str × V) (e:DictEntry)=>(∃ t,e.key = .str p.1 t)∧RelV p.2 e.val) kvs es.toList
  lo:(a == sysModules) = false
theorem findBy_rel {kvs:List (Str × V)} {es:List DictEntry} (r:Paired (fun (p:Str × V) (e:DictEntry)=>(∃ t,e.key = .str p.1 t)∧RelV p.2 e.val) kvs es) (x:Str):RelO (kvs.lookup x) (findBy Value.isStrOf es.toArray x):=by
  unfold findBy
  rw [List.find?_toArray]
  induction r with
  | nil=>exact True.intro
  | @cons p e ps qs h t ih =>
    obtain ⟨⟨tk,hk⟩,hv⟩:=h
    rw [List.lookup_cons,List.find?_cons,hk]
    by_cases q:x = p.1
    · subst q
      simp only [beq_self_eq_true]
      have:Value.isStrOf p.1 (.str p.1 tk) = true:=by simp [Value.isStrOf]
      rw [this]
      exact hv
    · have h1:(x == p.1) = false:=by simpa using q
      have h2:Value.isStrOf x (.str p.1 tk) = false:=by
        simp only [Value.isStrOf]
        simpa using fun z=>q z.symm
      rw [h1,h2]
      exact ih
theorem KTab.map {X : Cx} {pins : List (Addr × Obj)} {σ : St} {H : Hp} {s : Shared} {a : Addr} {kvs : List (Str × V)} (T : KTab X.K X.w a kvs) (I : Inv X pins σ H s) :
    ∃ f : Str → Option Value, s.heap.MapOf (strKind X.prog X.w) a f ∧ ∀ x, RelO (kvs.lookup x) (f x) := by
  obtain ⟨es, n, hl, hk, r⟩ := T.ex
  refine ⟨_, PySem.W.mapOf_K (prog := X.prog) I.kIn hl hk, fun x => ?_⟩
  have := findBy_rel r x
  omega
section
variable {X:Cx} {o e f:Expr} {apos cpos pos:Pos} {td ty tx:TE}
theorem MapOf.dict {h:Heap} {P:Program} {w:World} {a:Addr} {f:Str→Option Value} (m:h.MapOf (strKind P w) a f):∀ b,Value.ref a = .ref b→∃ ob,h.get? b = some ob∧ob.dict = none:=fun b q=>by
  cases q
  obtain ⟨ob,_,_,h1,h2,_⟩:=m
  exact ⟨ob,h1,h2.2.1⟩
inductive rIxK (K:PySem.W.Frag) (w:World) (x : V) (y : V) (H : Hp) (Q : VK) : Prop | mk (a : _) (kvs : _) (k : _) (v : _) : (x = .ref a) → (y = .str k) → KTab K w a kvs → (kvs.lookup k = some v) → Q v H → rIxK K w x y H Q
theorem ix_ktab:IxR X (rIxK X.K X.w):=by
  intro value slice pins s σ H x y v u Q I rx ry h hs
  obtain ⟨a,kvs,k,z,rfl,rfl,T,hl,q⟩:=h
  cases rx
  obtain ⟨t,rfl⟩:=ry
  obtain ⟨f2,m2,r2⟩:=T.map I
  obtain ⟨w',hw,rw'⟩:=RelO.some_of (v:=z) (o:=f2 k) (by rw [← hl]; exact r2 k)
  exact tail_any m2.typeIs slot_dict_getitem.lookup (wpAny_getItem_of (strKind_is X.prog X.w k t) m2 hw ⟨z,H,I.tok _,rw',q⟩) hs
end
end L2
namespace L2
open PySem PySem.Spec PyProof.Rows
section
variable {X:Cx} {a b c e o:Expr} {ta tb tc te:TE} {pos p:Pos}
noncomputable def mVar (i:Nat):TE:=fun σ H Q=>match σ[i]? with
  | some (some v)=>Q v H
  | _=>False
theorem mVar_eq (i : Nat) : mVar i = tVar i := by
  funext σ H Q
  refine propext ⟨fun h => ?_, fun ⟨v, e, h⟩ => ?_⟩
  · unfold mVar at h
    split at h
    · exact ⟨_, ‹_›, h⟩
    simp_all
  · unfold mVar
    simp_all
theorem pn (i : Nat) {x : Str} {pos : Pos} (hN : X.N[i]? = some x := by rfl) (hv : Vis X.env.scope x := by first | exact Or.inl rfl | exact Or.inr (Or.inl rfl) | exact Or.inr (Or.inr rfl)) (hd : (x == ("__debug__" : Str)) = false := by decide)
    (hcd:(x == ("__classdict__":Str)) = false:=by decide):PE X (.Name x pos) (mVar i):=by
  rw [mVar_eq]
  exact pe_var hN hv hd hcd
noncomputable def mTest (t:TE):TT:=fun σ H Q=>t σ H fun x H'=>match x with
  | .bl k=>Q k H'
  | _=>False
theorem mTest_eq (t : TE) : mTest t = tTest t := by
  funext σ H Q
  unfold mTest tTest
  congr 1
  funext x H'
  refine propext ⟨fun h => ?_, fun ⟨k, e, h⟩ => ?_⟩
  · split at h
    · exact ⟨_, rfl, h⟩
    simp_all
  simp_all
theorem mTest_eqB (t:TE):mTest t = tB t:=by rw [mTest_eq]; rfl
theorem pt_cmpM {op:CmpOp} {r:R2} (ho:OpR X (compareOp op) r) (ha:PE X a ta) (hb:PE X b tb) (hm:behindInMarks op b = false:=by first | exact nomark _ | rfl):PT X (.Compare a [op] [b] pos) (mTest (tOp r ta tb)):=by
  rw [mTest_eq]
  exact pt_cmpR ho ha hb hm
theorem pt_valM {e:Expr} {t:TE} (h:PE X e t) (he:∀ whole,isTrue e X.env whole = (do let v ← whole; standAt e.pos; holding [v] (truthy v)):=by intro _; rfl):PT X e (mTest t):=by
  rw [mTest_eqB]
  exact pt_val h he
noncomputable def mAndV (ta tb:TE):TE:=fun σ H Q=>ta σ H fun x H1=>match x with
  | .bl c=>if c = true then tb σ H1 Q else Q (.bl false) H1
  | _=>False
theorem mAndV_eq (ta tb : TE) : mAndV ta tb = tAndV ta tb := by
  funext σ H Q
  unfold mAndV tAndV
  congr 1
  funext x H'
  refine propext ⟨fun h => ?_, fun ⟨k, e, h⟩ => ?_⟩
  · split at h
    · exact ⟨_, rfl, h⟩
    simp_all
  simp_all
theorem pe_andM {rest:List Expr} (ha:PE X a ta) (hb:PE X (.BoolOp .And (b :: rest) pos) tb):PE X (.BoolOp .And (a :: b :: rest) pos) (mAndV ta tb):=by rw [mAndV_eq]; exact pe_and ha hb
noncomputable def gAdd (K:PySem.W.Frag):R2:=fun x y H Q=>match x,y with
  | .int i,.int j=>Q (.int (i + j)) H
  | .str i,.str j=>i.length + j.length ≤ sizeLine∧Q (.str (i ++ j)) H
  | .ref l, .ref b => (∃ xs zs, H l = some (.lst xs) ∧ H b = some (.lst zs) ∧ xs.length + zs.length ≤ sizeLine ∧ ∀ p, H p = none → Q (.ref p) (upd H p (.lst (xs ++ zs)))) ∨
      ∃ xs ys,SqT K H l xs∧SqT K H b ys∧xs ≠ []∧xs.length + ys.length ≤ sizeLine∧(ys = []→Q (.ref l) H)∧(ys ≠ []→∀ p,H p = none→Q (.ref p) (upd H p (.tup (xs ++ ys))))
  | _,_=>False
theorem og_add {K : PySem.W.Frag} (hK : X.K = K := by rfl) : OpR X (binaryOp .Add) (gAdd K) := by
  subst hK
  intro pins s σ H x y v u Q I rx ry h
  unfold gAdd at h
  split at h
  · exact op_add pins s σ H _ _ v u Q I rx ry ⟨_, _, rfl, rfl, h⟩
  · exact op_add_str pins s σ H _ _ v u Q I rx ry ⟨_, _, rfl, rfl, h.1, h.2⟩
  · rcases h with ⟨xs, zs, h1, h2, h3, h4⟩ | ⟨xs, ys, h1, h2, h3, h4, h5, h6⟩
    · exact op_cat pins s σ H _ _ v u Q I rx ry ⟨_, _, xs, zs, rfl, rfl, h1, h2, h3, h4⟩
    · exact op_catT pins s σ H _ _ v u Q I rx ry ⟨_, _, xs, ys, rfl, rfl, h1, h2, h3, h4, h5, h6⟩
  simp_all
noncomputable def gMinus:R2:=fun x y H Q=>match x,y with
  | .int i,.int j=>Q (.int (i - j)) H
  | _,_=>False
theorem og_sub : OpR X (binaryOp .Sub) gMinus := by
  intro pins s σ H x y v u Q I rx ry h
  unfold gMinus at h
  split at h
  · exact op_sub pins s σ H _ _ v u Q I rx ry ⟨_, _, rfl, rfl, h⟩
  simp_all
noncomputable def gMul:R2:=fun x y H Q=>match x,y with
  | .int i,.int j=>CMul i j∧Q (.int (i * j)) H
  | .str z,.int n=>MulOk z n∧Q (.str (Txt.mul z n)) H
  | .ref l,.int k=>∃ xs,H l = some (.lst xs)∧-(2 ^ 63) ≤ k∧k < 2 ^ 63∧xs.length * k.toNat ≤ sizeLine∧∀ p,H p = none→Q (.ref p) (upd H p (.lst (List.replicate k.toNat xs).flatten))
  | _,_=>False
theorem og_mul:OpR X (binaryOp .Mult) gMul:=by
  intro pins s σ H x y v u Q I rx ry h
  unfold gMul at h
  split at h
  · exact op_mul pins s σ H _ _ v u Q I rx ry ⟨_,_,rfl,rfl,h.1,h.2⟩
  · exact op_mul_str pins s σ H _ _ v u Q I rx ry ⟨_,_,rfl,rfl,h.1,h.2⟩
  · obtain ⟨xs,h1,h2,h3,h4,h5⟩:=h
    exact op_rep pins s σ H _ _ v u Q I rx ry ⟨_,_,xs,rfl,rfl,h1,h2,h3,h4,h5⟩
  · exact h.elim
noncomputable def gDiv:R2:=fun x y H Q=>match x,y with
  | .int i,.int j=>CDiv i j∧Q (.int (i / j)) H
  | _,_=>False
theorem og_div : OpR X (binaryOp .FloorDiv) gDiv := by
  intro pins s σ H x y v u Q I rx ry h
  unfold gDiv at h
  split at h
  · exact op_fdiv pins s σ H _ _ v u Q I rx ry ⟨_, _, rfl, rfl, h.1, h.2⟩
  simp_all
noncomputable def gMod:R2:=fun x y H Q=>match x,y with
  | .int i,.int j=>0 < j∧Q (.int (i % j)) H
  | _,_=>False
theorem og_mod : OpR X (binaryOp .Mod) gMod := by
  intro pins s σ H x y v u Q I rx ry h
  unfold gMod at h
  split at h
  · exact op_mod pins s σ H _ _ v u Q I rx ry ⟨_, _, rfl, rfl, h.1, h.2⟩
  simp_all
noncomputable def gEq (K:PySem.W.Frag) (neg:Bool):R2:=fun x y H Q=>match x,y with
  | .int i,.int j=>Q (.bl (neg ^^ decide (i = j))) H
  | .str i,.str j=>Q (.bl (neg ^^ decide (i = j))) H
  | .bl i,.bl j=>Q (.bl (neg ^^ decide (i = j))) H
  | .ref i,.ref j=>∃ da db,DatV K H (.ref i) da∧DatV K H (.ref j) db∧da.canLay0 = true∧db.canLay0 = true∧min da.depth db.depth ≤ 60∧Q (.bl (neg ^^ PyData.eqv da db)) H
  | _,_=>False
theorem og_eq (hu : X.A.units + 64 < cLine) {K : PySem.W.Frag} (hK : X.K = K := by rfl) : OpR X (compareOp .Eq) (gEq K false) := by
  subst hK
  intro pins s σ H x y v u Q I rx ry h
  unfold gEq at h
  split at h
  · refine op_eq pins s σ H _ _ v u Q I rx ry ⟨rfl, ?_⟩
    simpa using h
  · refine op_eq pins s σ H _ _ v u Q I rx ry ⟨rfl, ?_⟩
    simpa using h
  · refine op_eq pins s σ H _ _ v u Q I rx ry ⟨rfl, ?_⟩
    simpa using h
  · obtain ⟨da, db, h1, h2, h3, h4, h5, h6⟩ := h
    exact op_eqD hu pins s σ H _ _ v u Q I rx ry ⟨da, db, h1, h2, h3, h4, h5, by simp_all⟩
  simp_all
theorem og_ne (hu : X.A.units + 64 < cLine) {K : PySem.W.Frag} (hK : X.K = K := by rfl) : OpR X (compareOp .NotEq) (gEq K true) := by
  subst hK
  intro pins s σ H x y v u Q I rx ry h
  unfold gEq at h
  split at h
  · refine op_ne pins s σ H _ _ v u Q I rx ry ⟨rfl, ?_⟩
    simpa using h
  · refine op_ne pins s σ H _ _ v u Q I rx ry ⟨rfl, ?_⟩
    simpa using h
  · refine op_ne pins s σ H _ _ v u Q I rx ry ⟨rfl, ?_⟩
    simpa using h
  · obtain ⟨da, db, h1, h2, h3, h4, h5, h6⟩ := h
    exact op_neD hu pins s σ H _ _ v u Q I rx ry ⟨da, db, h1, h2, h3, h4, h5, by simp_all⟩
  simp_all
noncomputable def gLt:R2:=fun x y H Q=>match x,y with
  | .int i,.int j=>Q (.bl (decide (i < j))) H
  | .str i,.str j=>Q (.bl (decide (i.cps.toList < j.cps.toList))) H
  | _,_=>False
theorem og_lt : OpR X (compareOp .Lt) gLt := by
  intro pins s σ H x y v u Q I rx ry h
  unfold gLt at h
  split at h
  · exact op_lt pins s σ H _ _ v u Q I rx ry ⟨_, _, rfl, rfl, h⟩
  · exact op_lt_str pins s σ H _ _ v u Q I rx ry ⟨_, _, rfl, rfl, h⟩
  simp_all
noncomputable def gGt:R2:=fun x y H Q=>match x,y with
  | .int i,.int j=>Q (.bl (decide (j < i))) H
  | _,_=>False
theorem og_gt : OpR X (compareOp .Gt) gGt := by
  intro pins s σ H x y v u Q I rx ry h
  unfold gGt at h
  split at h
  · exact op_gt pins s σ H _ _ v u Q I rx ry ⟨_, _, rfl, rfl, h⟩
  simp_all
noncomputable def gGe:R2:=fun x y H Q=>match x,y with
  | .int i,.int j=>Q (.bl (decide (j ≤ i))) H
  | _,_=>False
theorem og_ge:OpR X (compareOp .GtE) gGe:=by
  intro pins s σ H x y v u Q I rx ry h
  unfold gGe at h
  split at h
  · exact op_ge pins s σ H _ _ v u Q I rx ry ⟨_,_,rfl,rfl,h⟩
  · exact h.elim
noncomputable def gIn (K:PySem.W.Frag) (neg:Bool):R2:=fun x y H Q=>match y with
  | .str j=>(match x with
    | .str i=>Q (.bl (neg ^^ !(Builtin.Str.occurrences j i 0 j.length 1).isEmpty)) H
    | _=>False)
  | .ref p=>∃ xs,(SqL K H p xs∨SqT K H p xs)∧flatV x = true∧xs.all flatV = true∧Q (.bl (neg ^^ inV x xs)) H
  | _=>False
theorem og_in {K : PySem.W.Frag} (hK : X.K = K := by rfl) : OpR X (compareOp .In) (gIn K false) := by
  subst hK
  intro pins s σ H x y v u Q I rx ry h
  unfold gIn at h
  split at h
  · split at h
    · refine op_in_str pins s σ H _ _ v u Q I rx ry ⟨_, _, rfl, rfl, ?_⟩
      simpa using h
    simp_all
  · obtain ⟨xs, h1, h2, h3, h4⟩ := h
    exact op_in_seq pins s σ H _ _ v u Q I rx ry ⟨_, xs, rfl, h1, h2, h3, by simp_all⟩
  simp_all
noncomputable def gIs (neg:Bool):R2:=fun x y H Q=>match y with
  | .non=>(match x with
    | .non=>Q (.bl (neg ^^ true)) H
    | _=>Q (.bl (neg ^^ false)) H)
  | _=>False
theorem og_is : OpR X (compareOp .Is) (gIs false) := by
  intro pins s σ H x y v u Q I rx ry h
  unfold gIs at h
  split at h
  · refine op_isN pins s σ H _ _ v u Q I rx ry ⟨rfl, ?_⟩
    split at h
    · exact h
    simp_all
  simp_all
theorem og_isnot : OpR X (compareOp .IsNot) (gIs true) := by
  intro pins s σ H x y v u Q I rx ry h
  unfold gIs at h
  split at h
  · refine op_notN pins s σ H _ _ v u Q I rx ry ⟨rfl, ?_⟩
    split at h
    · exact h
    simp_all
  simp_all
noncomputable def gIx (K:PySem.W.Frag) (w:World):R2:=fun x y H Q=>match x,y with
  | .ref q,.int i=>(∃ xs v,SqL K H q xs∧atI xs i = some v∧Q v H)∨∃ xs v,SqT K H q xs∧atI xs i = some v∧Q v H
  | .str z,.int i=>z.length ≤ sizeLine∧∃ c,atI z.cps.toList i = some c∧Q (.str ⟨#[c]⟩) H
  | .ref q,.str k=>(∃ kvs v,KTab K w q kvs∧kvs.lookup k = some v∧Q v H)∨∃ (kvs:List (Key × V)) (v:V),H q = some (.dK kvs)∧valV kvs (Sum.inr k) = some v∧Q v H
  | _,_=>False
theorem og_ix (hu:X.A.units + 64 < cLine) {K:PySem.W.Frag} {w:World} (hK:X.K = K:=by rfl) (hw:X.w = w:=by rfl):IxR X (gIx K w):=by
  subst hK
  subst hw
  intro value slice pins s σ H x y v u Q I rx ry h hs
  unfold gIx at h
  split at h
  · rcases h with ⟨xs,z,h1,h2,h3⟩ | ⟨xs,z,h1,h2,h3⟩
    · exact ix_list value slice pins s σ H _ _ v u Q I rx ry ⟨_,xs,_,z,rfl,rfl,h1,h2,h3⟩ hs
    · exact ix_tup value slice pins s σ H _ _ v u Q I rx ry ⟨_,xs,_,z,rfl,rfl,h1,h2,h3⟩ hs
  · obtain ⟨hz,c,h1,h2⟩:=h
    exact ix_str value slice pins s σ H _ _ v u Q I rx ry ⟨_,_,c,rfl,rfl,hz,h1,h2⟩ hs
  · rcases h with ⟨kvs,z,h1,h2,h3⟩ | ⟨kvs,z,h1,h2,h3⟩
    · exact ix_ktab value slice pins s σ H _ _ v u Q I rx ry ⟨_,kvs,_,z,rfl,rfl,h1,h2,h3⟩ hs
    · cases rx
      have hd:=dk_of I.hok h1
      obtain ⟨_,_,vs,_,dd⟩:=hd
      exact tail_any dd.typeIs slot_dict_getitem.lookup (d_getItem (y:=kV (Sum.inr _)) (v:=z) (by lia) I (.inl ⟨kvs,_,.inl h1,rfl,h2.symm⟩) ry fun w' s' I' rw'=>⟨z,H,I',rw',h3⟩) hs
  · exact h.elim
noncomputable def mPart (t:TE):TO:=fun σ H Q=>t σ H fun x H1=>match x with
  | .int i=>Q (some i) H1
  | _=>False
theorem mPart_eq (t : TE) : mPart t = tPart t := by
  funext σ H Q
  unfold mPart tPart
  congr 1
  funext x H'
  refine propext ⟨fun h => ?_, fun ⟨k, e, h⟩ => ?_⟩
  · split at h
    · exact ⟨_, rfl, h⟩
    simp_all
  simp_all
theorem po_someM (h:PE X e te):PO X (some e) (mPart te):=by rw [mPart_eq]; exact po_some h
noncomputable def gLen (K:PySem.W.Frag):List V→Hp→VK→Prop:=fun xs H Q=>match xs with
  | [.str y]=>y.length ≤ sizeLine∧Q (.int y.length) H
  | [.ref p]=>∃ ys,(SqL K H p ys∨SqT K H p ys)∧Q (.int ys.length) H
  | _=>False
theorem cg_len {K : PySem.W.Frag} (hK : X.K = K := by rfl) : CallR X (.builtin "len") (gLen K) := by
  subst hK
  intro pins s σ H xs us Q I r h
  unfold gLen at h
  split at h
  · exact call_len_str pins s σ H _ us Q I r ⟨_, rfl, h.1, h.2⟩
  · obtain ⟨ys, h1, h2⟩ := h
    exact call_len_seq pins s σ H _ us Q I r ⟨_, ys, rfl, h1, h2⟩
  simp_all
noncomputable def gOrd:List V→Hp→VK→Prop:=fun xs H Q=>match xs with
  | [.str x]=>x.length = 1∧Q (.int (x.cps.getD 0 0:Nat)) H
  | _=>False
theorem cg_ord:CallR X (.builtin "ord") gOrd:=by
  intro pins s σ H xs us Q I r h
  unfold gOrd at h
  split at h
  · exact call_ord pins s σ H _ us Q I r ⟨_,rfl,h.1,h.2⟩
  · exact h.elim
noncomputable def gMax:List V→Hp→VK→Prop:=fun xs H Q=>match xs with
  | [.int i,.int j]=>Q (.int (max i j)) H
  | _=>False
theorem cg_max (hc : X.calm = true) : CallR X (.builtin "max") gMax := by
  intro pins s σ H xs us Q I r h
  unfold gMax at h
  split at h
  · rename_i i j
    refine call_max2 hc pins s σ H _ us Q I r ⟨i, j, rfl, ?_⟩
    grind
  simp_all
noncomputable def gSum (K:PySem.W.Frag):List V→Hp→VK→Prop:=fun xs H Q=>match xs with
  | [.ref l]=>∃ ns:List Int,SqL K H l (ns.map V.int)∧Q (.int ns.sum) H
  | _=>False
theorem cg_sum (hc : X.calm = true) {K : PySem.W.Frag} (hK : X.K = K := by rfl) : CallR X (.builtin "sum") (gSum K) := by
  subst hK
  intro pins s σ H xs us Q I r h
  unfold gSum at h
  split at h
  · obtain ⟨ns, h1, h2⟩ := h
    exact call_sum hc pins s σ H _ us Q I r ⟨_, ns, rfl, h1, h2⟩
  simp_all
noncomputable def gList (K:PySem.W.Frag):List V→Hp→VK→Prop:=fun xs H Q=>match xs with
  | [.ref p]=>∃ ys,(SqL K H p ys∨SqT K H p ys)∧∀ l,H l = none→Q (.ref l) (upd H l (.lst ys))
  | _=>False
theorem cg_list {K : PySem.W.Frag} (hK : X.K = K := by rfl) : CallR X (.type "list") (gList K) := by
  subst hK
  intro pins s σ H xs us Q I r h
  unfold gList at h
  split at h
  · obtain ⟨ys, h1, h2⟩ := h
    exact call_list_of pins s σ H _ us Q I r ⟨_, ys, rfl, h1, h2⟩
  simp_all
noncomputable def gAppend:V→List V→Hp→VK→Prop:=fun x vs H Q=>match x,vs with
  | .ref l,[y]=>∃ xs,H l = some (.lst xs)∧xs.length < sizeLine∧Q .non (upd H l (.lst (xs ++ [y])))
  | _,_=>False
theorem mg_append : MtR X "list.append" gAppend := by
  intro pins s σ H x xs v us Q I rx rs h
  unfold gAppend at h
  split at h
  · obtain ⟨ys, h1, h2, h3⟩ := h
    exact mt_append pins s σ H _ _ v us Q I rx rs ⟨_, ys, _, rfl, rfl, h1, h2, h3⟩
  simp_all
end
end L2
namespace L2
open PySem PySem.Spec PyProof.Rows
section
variable {X:Cx} {tg:Expr}
noncomputable def iAny (K:PySem.W.Frag) (tl:TE):TI:=fun σ H R=>tl σ H fun x H1=>match x with
  | .str z=>R (Its z) H1
  | .ref a=>((∃ xs,SqL K H1 a xs)∧R (Itl K a) H1)∨((∃ xs,SqT K H1 a xs)∧R (Itt K a) H1)
  | _=>False
theorem pi_any {l:Expr} {tl:TE} (hl:PE X l tl) {K:PySem.W.Frag} (hK:X.K = K:=by rfl):PI X tg l (iAny K tl):=by
  subst hK
  intro pins s σ H R I h
  refine thn (hl pins s σ H _ I h) fun v s1 ⟨x,H1,I1,r1,q1⟩=>?_
  try dsimp only at q1
  split at q1
  · rename_i z
    obtain ⟨t,rfl⟩:=r1
    have fin:∀ b ∈ [s1.heap.objs.size],FpOk X pins H1 b:=fun b hb=>by
      have e:b = s1.heap.objs.size:=by simpa using hb
      subst e
      exact I1.fpOk (Nat.le_refl _) (I1.hok.fresh (Nat.le_refl _))
    cases ha:z.cps.all (· < 128)
    · refine wpAny_pyIter_wide ha ?_
      exact ⟨s1.heap.objs.size,[s1.heap.objs.size],_,_,H1,rfl,I1.kept (t':=s1.toks) fun b o e=>Heap.get?_push_of_some _ e,
        turn_str "str_iterator" _ z t (fun A' hA=>Walks.strWide hA _ z t) (fun A i s Q E st h=>wpAny_pyIter_striter_wide st h) (by decide),⟨_,Heap.get?_push_size _ rfl,rfl,rfl⟩,fin,q1⟩
    · refine wpAny_pyIter_ascii ha ?_
      exact ⟨s1.heap.objs.size,[s1.heap.objs.size],_,_,H1,rfl,I1.kept (t':=s1.toks) fun b o e=>Heap.get?_push_of_some _ e,
        turn_str "str_ascii_iterator" _ z t (fun A' hA=>Walks.strAscii hA _ z t) (fun A i s Q E st h=>wpAny_pyIter_striter_ascii st h) (by decide),⟨_,Heap.get?_push_size _ rfl,rfl,rfl⟩,fin,q1⟩
  · rename_i a
    cases r1
    have fin:∀ b ∈ [s1.heap.objs.size],FpOk X pins H1 b:=fun b hb=>by
      have e:b = s1.heap.objs.size:=by simpa using hb
      subst e
      exact I1.fpOk (Nat.le_refl _) (I1.hok.fresh (Nat.le_refl _))
    rcases q1 with ⟨⟨xs,hq⟩,q⟩ | ⟨⟨xs,hq⟩,q⟩
    · obtain ⟨its,rv,p,hz⟩:=I1.list hq
      refine wpAny_pyIter_list p.isList ?_
      exact ⟨s1.heap.objs.size,[s1.heap.objs.size],_,_,H1,rfl,I1.kept (t':=s1.toks) fun b o e=>Heap.get?_push_of_some _ e,turn_list a _,⟨_,Heap.get?_push_size _ rfl,rfl,rfl⟩,fin,q⟩
    · obtain ⟨its,rv,p,hz⟩:=I1.tuple hq
      refine wpAny_pyIter_tuple (show s1.heap.IsTuple a its.toArray from p) ?_
      exact ⟨s1.heap.objs.size,[s1.heap.objs.size],_,_,H1,rfl,I1.kept (t':=s1.toks) fun b o e=>Heap.get?_push_of_some _ e,turn_tuple a _,⟨_,Heap.get?_push_size _ rfl,rfl,rfl⟩,fin,q⟩
  · exact q1.elim
noncomputable def mRng1 (ta:TA):TI:=fun σ H R=>ta σ H fun vs H1=>match vs with
  | [.int j]=>-(2 ^ 62) ≤ j∧j < 2 ^ 62∧R (Itr 0 j.toNat) H1
  | _=>False
theorem mRng1_eq (ta : TA) : mRng1 ta = iRng1 ta := by
  funext σ H R
  unfold mRng1 iRng1
  congr 1
  funext vs H'
  refine propext ⟨fun h => ?_, fun ⟨k, e, h⟩ => ?_⟩
  · split at h
    · exact ⟨_, rfl, h⟩
    simp_all
  · subst e; exact h
theorem pi_rng1 {a:Expr} {ta:TA} {p pos:Pos} (hg:Gl X "range") (hm:X.mg "range" = none) (ha:PA X [a] ta) (hs:starEach [a] X.env = [(false,eval a X.env)]:=by rfl):PI X tg (.Call (.Name "range" p) [a] [] pos) (mRng1 ta):=by
  rw [mRng1_eq]; exact pi_range1 hg hm ha hs
noncomputable def noStar:Expr→Bool
  | .Starred ..=>false
  | _=>true
noncomputable def noStars:List Expr→Bool
  | []=>true
  | e :: r=>noStar e && noStars r
theorem starEach_cons {e:Expr} {es:List Expr} {env:Env} (h:noStar e = true):starEach (e :: es) env = (false,eval e env) :: starEach es env:=by
  cases e <;> first | rfl | exact absurd h Bool.false_ne_true
theorem stars_none : ∀ {es : List Expr} {env : Env}, noStars es = true → ∀ x ∈ starEach es env, x.1 = false
  | [], env, _, x, hx => by
    have : starEach [] env = [] := rfl
    simp_all
  | e :: r, env, h, x, hx => by
    have h' : noStar e = true ∧ noStars r = true := by simpa [noStars] using h
    rw [starEach_cons h'.1] at hx
    rcases List.mem_cons.mp hx with q | q
    · rw [q]
    · exact stars_none h'.2 x q
theorem back_any {es : List Expr} {env : Env} {pos : Pos} (h : noStars es = true) : (backTo pos (starEach es env)).any (·.1) = false := by
  rw [List.any_eq_false]
  intro x hx
  obtain ⟨y, hy, e⟩ := List.mem_map.mp hx
  have := stars_none h y hy
  rw [← e, this]
  simp
theorem back_all {es : List Expr} {env : Env} {pos : Pos} (h : noStars es = true) : (backTo pos (starEach es env)).all (fun x => !x.1) = true := by
  rw [List.all_eq_true]
  intro x hx
  obtain ⟨y, hy, e⟩ := List.mem_map.mp hx
  have := stars_none h y hy
  rw [← e, this]
  rfl
noncomputable def notSuper:Expr→Bool
  | .Call (.Name _ _) [] [] _=>false
  | _=>true
theorem base_of {o:Expr} {attr:Str} {env:Env} {whole:Sem Value} (h:notSuper o = true):attributeBase o attr env whole = whole:=by
  unfold attributeBase
  split
  · exact absurd h Bool.false_ne_true
  · rfl
theorem pa_consM {es:List Expr} {t:TA} (ha:PE X e te) (hr:PA X es t) (h:noStar e = true:=by rfl):PA X (e :: es) (tCons te t):=pa_cons ha hr (starEach_cons h)
theorem pe_callBM {x : Str} {id : String} {r : List V → Hp → VK → Prop} {es : List Expr} {t : TA} {p pos : Pos} (hc : CallR X (.builtin id) r) (hg : Gl X x) (hm : X.mg x = none) (hv : bootBuiltins x = some (.builtin id)) (ha : PA X (e :: es) t) (hn : x ≠ "__name__" := by decide) (hdb : (x == ("__debug__" : Str)) = false := by decide)
    (h:noStars (e :: es) = true:=by rfl):PE X (.Call (.Name x p) (e :: es) [] pos) (tCB r t):=by
  have h':noStar e = true∧noStars es = true:=by simpa [noStars] using h
  exact pe_callB hc hg hm hv ha hn hdb (starEach_cons h'.1) (back_any h'.2)
theorem pe_callTyM {x : Str} {T : String} {r : List V → Hp → VK → Prop} {es : List Expr} {t : TA} {p pos : Pos} (hc : CallR X (.type T) r) (hg : Gl X x) (hm : X.mg x = none) (hv : bootBuiltins x = some (.type T)) (ha : PA X (e :: es) t) (hn : x ≠ "__name__" := by decide) (hdb : (x == ("__debug__" : Str)) = false := by decide)
    (h:noStars (e :: es) = true:=by rfl):PE X (.Call (.Name x p) (e :: es) [] pos) (tCB r t):=by
  have h':noStar e = true∧noStars es = true:=by simpa [noStars] using h
  exact pe_callTy hc hg hm hv ha hn hdb (starEach_cons h'.1) (back_any h'.2)
theorem pe_bmK {K : PySem.W.Frag} {o e : Expr} {es : List Expr} {to : TE} {t : TA} {name : Str} {apos cpos : Pos} {T id : String} {r : V → List V → Hp → VK → Prop} (pa : PlainAttrs T) (slot : Slot T name id) (hty : typeOf (.builtin id) = pure (.type "method_descriptor")) (hm : MtR X id r) (ho : PE X o to) (ha : PA X (e :: es) t) (hK : X.K = K := by rfl)
    (hsup:notSuper o = true:=by rfl) (h:noStars (e :: es) = true:=by rfl) (h30:(e :: es).length < 30:=by decide) (hline:(apos.endLine == cpos.line) = true:=by rfl) :
    PE X (.Call (.Attribute o name apos) (e :: es) [] cpos) (tBM K T r to t):=by
  subst hK
  have h':noStar e = true∧noStars es = true:=by simpa [noStars] using h
  refine pe_bm pa slot hty hm ho ha (base_of hsup) ?_ hline (starEach_cons h'.1) (back_any h'.2)
  rw [back_all h]
  have e0:keywordEach [] X.env = []:=rfl
  rw [e0]
  simpa [backToKw] using h30
theorem pe_bm0K {K : PySem.W.Frag} {o : Expr} {to : TE} {name : Str} {apos cpos : Pos} {T id : String} {r : V → List V → Hp → VK → Prop} (pa : PlainAttrs T) (slot : Slot T name id) (hty : typeOf (.builtin id) = pure (.type "method_descriptor")) (hm : MtR X id r) (ho : PE X o to) (hK : X.K = K := by rfl)
    (hsup:notSuper o = true:=by rfl) (hline:(apos.endLine == cpos.line) = true:=by rfl):PE X (.Call (.Attribute o name apos) [] [] cpos) (tBM0 K T r to):=by
  subst hK
  exact pe_bm0 pa slot hty hm ho (base_of hsup) hline
theorem pg_tupK {K : PySem.W.Frag} {es : List Expr} {k : Nat} {t : TGs} {n : Nat} {pos : Pos} (hc : X.calm = true) (h : PGs X es t) (hK : X.K = K := by rfl)
    (hn:(assignEach es X.env).length = n:=by rfl) (hst:(assignEach es X.env).findIdx? (·.1) = none:=by rfl):PG X (.Tuple es k pos) (gTup K n t):=by
  subst hK
  exact pg_tup hc h hn hst
structure Def (P:Program) (w:World) (K:PySem.W.Frag) (mg:Str→Option Value) (base:Heap) (k:Nat) (x:Str) (ps:List Str) (sp:Sp):Prop where
  ex:∃ f fd,mg x = some (.ref f)∧PySem.W.keepIn K (.ref f) = true∧(∃ oc od osl,K.lookup f = some ⟨oc,od,.func fd,osl⟩)∧Binds K fd ps []∧FnOk P w K mg base CX0 k f fd ps sp
theorem pe_def {k : Nat} {x : Str} {ps : List Str} {sp : Sp} {e : Expr} {es : List Expr} {t : TA} {p pos : Pos} (D : Def X.prog X.w X.K X.mg X.base k x ps sp) (hr : Room k X.A) (hg : Gl X x) (ha : PA X (e :: es) t) (hdb : (x == ("__debug__" : Str)) = false := by decide)
    (hst : noStars (e :: es) = true := by rfl) (hx : Passes CX0 X E0 := by exact pass0) :
    PE X (.Call (.Name x p) (e :: es) [] pos) (fun σ H Q => t σ H fun vs H1 => sp vs H1 Q E0) := by
  obtain ⟨f, fd, mgf, kp, _, b, G⟩ := D.ex
  have h' : noStar e = true ∧ noStars es = true := by simpa [noStars] using hst
  have he := starEach_cons (es := es) (env := X.env) h'.1
  have hpl := back_any (env := X.env) (pos := pos) h'.2
  have h := pe_call (X := X) (dvs := []) (E := E0) (p := p) (pos := pos) G hr hg mgf kp b .nil hx ha hdb he hpl
  intro pins s σ H Q I hq
  refine h pins s σ H Q I ?_
  show t σ H fun vs H1 => sp (vs ++ []) H1 Q E0
  simp_all
end
theorem Fun.lk {K:PySem.W.Frag} {x qual:Str} {st:Stmt} {f:Addr} {fd:FuncData} (F:Fun K x qual st f fd):∃ oc od osl,K.lookup f = some ⟨oc,od,.func fd,osl⟩:=by
  obtain ⟨oc,od,kV,doc,pm,an,cdv,ct,osl,_,lk,_⟩:=F.ex
  exact ⟨oc,od,osl,lk⟩
structure Raw (K:PySem.W.Frag) (mg:Str→Option Value) (x:Str) (st:Stmt) (ps:List Str):Prop where
  ex:∃ f fd,mg x = some (.ref f)∧Fun K x x st f fd∧∀ (us:List Value),us.length = ps.length→bindArgs fd ⟨us,[]⟩ = pure (ps.zip us)
theorem Raw.mk' {K : PySem.W.Frag} {mg : Str → Option Value} {h : Heap} {x : Str} {st : Stmt} {ps : List Str} {f : Addr} {oc : Value} {od an : Option Addr} {osl : Array (Option Value)} {kV doc pm cdv ct : Value} (X : K.In h) (G : h.Ns mainGlobals mg)
    (a:PySem.W.nsIn K mainGlobals x = some (some (.ref f))) (l:K.lookup f = some ⟨oc,od,.func (PySem.W.fnOf x x (defArgs st) (defBody st) (defScope st) .none kV doc pm an cdv ct),osl⟩)
    (c:PySem.W.codeIn K cdv x = true) (k:PySem.W.keepIn K (.ref f) = true)
    (hb:∀ (us:List Value),us.length = ps.length→bindArgs (PySem.W.fnOf x x (defArgs st) (defBody st) (defScope st) .none kV doc pm an cdv ct) ⟨us,[]⟩ = pure (ps.zip us)):Raw K mg x st ps :=
  ⟨⟨f,_,PySem.W.mg_of X G a,fun_mk l c k,hb⟩⟩
theorem Raw.def {P : Program} {w : World} {K : PySem.W.Frag} {mg : Str → Option Value} {base : Heap} {x : Str} {st : Stmt} {N ps : List Str} {k : Nat} {sp : Sp} (R : Raw K mg x st ps) (S : FnScope N ps (defScope st)) (len : ∀ vs H Q E, sp vs H Q E → vs.length = ps.length)
    (hbody:∀ (f:Addr) (cdv:Value) (A:Around) (outer:List Env) (s:Shared) (H:Hp) (vs:List V) (Q:VK) (E:XK),Room k (A.deeper (envOfC x (defScope st) s.heap.objs.size f cdv))→sp vs H Q E →
      ∃ t,PSs (cxOf CX0 P w K mg base N x (defScope st) f cdv A outer s H E).nox (defBody st) t∧t { nx:=fun _ H'=>Q .non H',rt:=Q } (start N vs) H):Def P w K mg base (k + 1) x ps sp:=by
  obtain ⟨f,fd,h1,F,b⟩:=R.ex
  exact ⟨f,fd,h1,F.kp,F.lk,.all b,F.ok S len (fun cdv=>hbody f cdv)⟩
theorem Def.at {P : Program} {w : World} {K : PySem.W.Frag} {mg : Str → Option Value} {base : Heap} {k : Nat} {x : Str} {ps : List Str} {sp : Sp} {f : Addr} {fd : FuncData} (D : Def P w K mg base k x ps sp) (h : mg x = some (.ref f))
    (l : ∃ oc od osl, K.lookup f = some ⟨oc, od, .func fd, osl⟩) : FnOk P w K mg base CX0 k f fd ps sp := by
  obtain ⟨f', fd', h', _, ⟨oc', od', osl', l'⟩, _, F⟩ := D.ex
  grind
section
variable {K:PySem.W.Frag} {w:World} {mg:Str→Option Value} {h:Heap} {x:Str}
end
end L2
namespace L2
open PySem PySem.Spec PyProof.Rows
theorem same_upd {H H':Hp} {p:Addr} {o:HO} (e:Same H H') (h:H p = none):Same H (upd H' p o):=fun b u q=>by
  rw [upd_ne (ne_of_none q h)]
  exact e b u q
theorem same_new {H:Hp} {p:Addr} {o:HO} (h:H p = none):Same H (upd H p o):=same_upd (Same.refl H) h
section
variable {cap:List (Option Nat)} {g:TG} {tc:TT} {te:TE} {Q:Addr→Hp→Prop} {σ:St} {H:Hp}
theorem gath_of {J : It} {n : Nat} {item : Nat → V → Prop} (Pv : Nat → List V → St → Hp → Prop) (hn : n ≤ 1000000) (h0 : Pv 0 [] (capt cap σ) H) (hlen : ∀ i ys σ' H', Pv i ys σ' H' → ys.length ≤ i)
    (hgo:∀ i ys σ' H',i < n→Pv i ys σ' H'→J.go i H') (hyld:∀ i ys σ' H' x H2,i < n→Pv i ys σ' H'→J.yld i H' x H2→item i x∧H2 = H') (hstop:∀ ys σ' H',Pv n ys σ' H'→J.stop n H')
    (hs:∀ i x ys σ' H',i < n→item i x→Pv i ys σ' H'→g x σ' H' fun σ3 H3=>tc σ3 H3 fun b H4=>if b = true then te σ3 H4 fun y H5=>Pv (i + 1) (ys ++ [y]) σ3 H5 else Pv (i + 1) ys σ3 H4)
    (hd:∀ ys σ' H',Pv n ys σ' H'→∀ D,H' D = none→Q D (upd H' D (.lst ys))):Gath J cap g tc te Q σ H:=by
  have big:(1000000:Nat) < sizeLine:=by rw [sizeLine_eq]; decide
  refine ⟨fun i m ys σ' H'=>m = n - i∧i ≤ n∧Pv i ys σ' H',⟨n,by simp,Nat.zero_le _,h0⟩,?_⟩
  rintro i m ys σ' H' ⟨rfl,hi,p⟩
  have hl:=hlen i ys σ' H' p
  by_cases hlt:i < n
  · refine .inr ⟨hgo i ys σ' H' hlt p,by lia,Pv (i + 1),fun ys2 σ2 H2 p'=>⟨n - (i + 1),by lia,rfl,hlt,p'⟩,fun x H2 y=>?_⟩
    obtain ⟨h1,h2⟩:=hyld i ys σ' H' x H2 hlt p y
    subst h2
    exact hs i x ys σ' _ hlt h1 p
  · have e:i = n:=by lia
    subst e
    exact .inl ⟨hstop ys σ' H' p,by lia,hd ys σ' H' p⟩
theorem gath_range {lo : Int} {n : Nat} (Pv : Nat → List V → St → Hp → Prop) (hn : n ≤ 1000000) (h0 : Pv 0 [] (capt cap σ) H) (hlen : ∀ i ys σ' H', Pv i ys σ' H' → ys.length ≤ i)
    (hs:∀ i ys σ' H',i < n→Pv i ys σ' H'→g (.int (lo + i)) σ' H' fun σ3 H3=>tc σ3 H3 fun b H4=>if b = true then te σ3 H4 fun y H5=>Pv (i + 1) (ys ++ [y]) σ3 H5 else Pv (i + 1) ys σ3 H4)
    (hd:∀ ys σ' H',Pv n ys σ' H'→∀ D,H' D = none→Q D (upd H' D (.lst ys))):Gath (Itr lo n) cap g tc te Q σ H :=
  gath_of (item:=fun i x=>x = .int (lo + i)) Pv hn h0 hlen (fun i ys σ' H' hi _=>hi) (fun i ys σ' H' x H2 _ _ y=>⟨y.2,y.1⟩) (fun _ _ _ _=>Nat.le_refl n) (fun i x ys σ' H' hi e p=>by subst e; exact hs i ys σ' H' hi p) hd
theorem gath_list {K : PySem.W.Frag} {a : Addr} {xs : List V} (Pv : Nat → List V → St → Hp → Prop) (hn : xs.length ≤ 1000000) (h0 : Pv 0 [] (capt cap σ) H) (hlen : ∀ i ys σ' H', Pv i ys σ' H' → ys.length ≤ i)
    (hl : ∀ i ys σ' H', Pv i ys σ' H' → SqL K H' a xs)
    (hs : ∀ i x ys σ' H', xs[i]? = some x → Pv i ys σ' H' → g x σ' H' fun σ3 H3 => tc σ3 H3 fun b H4 => if b = true then te σ3 H4 fun y H5 => Pv (i + 1) (ys ++ [y]) σ3 H5 else Pv (i + 1) ys σ3 H4)
    (hd : ∀ ys σ' H', Pv xs.length ys σ' H' → ∀ D, H' D = none → Q D (upd H' D (.lst ys))) : Gath (Itl K a) cap g tc te Q σ H :=
  gath_of (item := fun i x => xs[i]? = some x) Pv hn h0 hlen (fun i ys σ' H' hi p => ⟨xs, xs[i], hl i ys σ' H' p, by simp⟩) (fun i ys σ' H' x H2 _ p y => ⟨y.2 xs (hl i ys σ' H' p), y.1⟩)
    (fun ys σ' H' p => ⟨xs, hl _ ys σ' H' p, Nat.le_refl _⟩) (fun i x ys σ' H' hi e p => hs i x ys σ' H' e p) hd
end
end L2
namespace L2
open PySem PySem.Spec PyProof.Rows
@[irreducible] noncomputable def Irr (p:Prop):Prop:=p
theorem Irr.mk {p:Prop} (h:p):Irr p:=by unfold Irr; exact h
theorem Irr.out {p:Prop} (h:Irr p):p:=by unfold Irr at h; exact h
noncomputable abbrev JE (X:Cx) (e:Expr) (t:TE):Prop:=Irr (PE X e t)
noncomputable abbrev JT (X:Cx) (e:Expr) (t:TT):Prop:=Irr (PT X e t)
noncomputable abbrev JW (X:Cx) (e:Expr) (t:TT):Prop:=Irr (PW X e t)
noncomputable abbrev JA (X:Cx) (es:List Expr) (t:TA):Prop:=Irr (PA X es t)
noncomputable abbrev JO (X:Cx) (e:Option Expr) (t:TO):Prop:=Irr (PO X e t)
noncomputable abbrev JS (X:Cx) (st:Stmt) (t:TS):Prop:=Irr (PS X st t)
noncomputable abbrev JSs (X:Cx) (st:List Stmt) (t:TS):Prop:=Irr (PSs X st t)
noncomputable abbrev JG (X:Cx) (e:Expr) (t:TG):Prop:=Irr (PG X e t)
noncomputable abbrev JGs (X:Cx) (e:List Expr) (t:TGs):Prop:=Irr (PGs X e t)
noncomputable abbrev JI (X:Cx) (tg it:Expr) (t:TI):Prop:=Irr (PI X tg it t)
section
variable {X:Cx} {a b c e f k o v tg it:Expr} {es:List Expr} {ta tb tc te td ty tx tk tv:TE} {tA tB':TT} {t:TA} {u u':TS} {pos pos' p p2 apos cpos spos:Pos} {st:Stmt} {sts sts':List Stmt} {K:PySem.W.Frag} {w:World}
theorem o_add (hK:X.K = K:=by rfl):Irr (OpR X (binaryOp .Add) (gAdd K)):=.mk (og_add hK)
theorem o_sub:Irr (OpR X (binaryOp .Sub) gMinus):=.mk og_sub
theorem o_mul:Irr (OpR X (binaryOp .Mult) gMul):=.mk og_mul
theorem o_div:Irr (OpR X (binaryOp .FloorDiv) gDiv):=.mk og_div
theorem o_mod:Irr (OpR X (binaryOp .Mod) gMod):=.mk og_mod
theorem o_eq (hu:X.A.units + 64 < cLine) (hK:X.K = K:=by rfl):Irr (OpR X (compareOp .Eq) (gEq K false)):=.mk (og_eq hu hK)
theorem o_ne (hu:X.A.units + 64 < cLine) (hK:X.K = K:=by rfl):Irr (OpR X (compareOp .NotEq) (gEq K true)):=.mk (og_ne hu hK)
theorem o_lt:Irr (OpR X (compareOp .Lt) gLt):=.mk og_lt
theorem o_gt:Irr (OpR X (compareOp .Gt) gGt):=.mk og_gt
theorem o_ge:Irr (OpR X (compareOp .GtE) gGe):=.mk og_ge
theorem o_is:Irr (OpR X (compareOp .Is) (gIs false)):=.mk og_is
theorem o_isnot:Irr (OpR X (compareOp .IsNot) (gIs true)):=.mk og_isnot
theorem o_ix (hu:X.A.units + 64 < cLine) (hK:X.K = K:=by rfl) (hw:X.w = w:=by rfl):Irr (IxR X (gIx K w)):=.mk (og_ix hu hK hw)
theorem c_len (hK:X.K = K:=by rfl):Irr (CallR X (.builtin "len") (gLen K)):=.mk (cg_len hK)
theorem c_ord:Irr (CallR X (.builtin "ord") gOrd):=.mk cg_ord
theorem c_max (hc:X.calm = true):Irr (CallR X (.builtin "max") gMax):=.mk (cg_max hc)
theorem c_sum (hc:X.calm = true) (hK:X.K = K:=by rfl):Irr (CallR X (.builtin "sum") (gSum K)):=.mk (cg_sum hc hK)
theorem c_list (hK:X.K = K:=by rfl):Irr (CallR X (.type "list") (gList K)):=.mk (cg_list hK)
theorem m_append:Irr (MtR X "list.append" gAppend):=.mk mg_append
theorem jn (i : Nat) {x : Str} (hN : X.N[i]? = some x := by rfl) (hv : Vis X.env.scope x := by first | exact Or.inl rfl | exact Or.inr (Or.inl rfl) | exact Or.inr (Or.inr rfl)) (hd : (x == ("__debug__" : Str)) = false := by decide)
    (hcd:(x == ("__classdict__":Str)) = false:=by decide):JE X (.Name x pos) (mVar i):=.mk (pn i hN hv hd hcd)
theorem j_int {i:Int} {j:Nat}:JE X (.Constant (.int i) j pos) (tC (.int i)):=.mk pe_int
theorem j_bl {b:Bool} {j:Nat}:JE X (.Constant (.bool b) j pos) (tC (.bl b)):=.mk pe_bl
theorem j_non {j:Nat}:JE X (.Constant .none j pos) (tC .non):=.mk pe_non
theorem j_str {x:Str} {j:Nat}:JE X (.Constant (.str x) j pos) (tC (.str x)):=.mk pe_str
theorem j_bltn {x:Str} {v:V} {u:Value} (hg:Gl X x) (hm:X.mg x = none) (hv:bootBuiltins x = some u) (r:RelV v u) (hn:x ≠ "__name__":=by decide) (hd:(x == ("__debug__":Str)) = false:=by decide):JE X (.Name x pos) (tC v):=.mk (pe_bltn hg hm hv r hn hd)
theorem j_op {op:Operator} {r:R2} (ho:Irr (OpR X (binaryOp op) r)) (ha:JE X a ta) (hb:JE X b tb):JE X (.BinOp a op b pos) (tOp r ta tb):=.mk (pe_op ho.out ha.out hb.out)
theorem j_cmp {op:CmpOp} {r:R2} (ho:Irr (OpR X (compareOp op) r)) (ha:JE X a ta) (hb:JE X b tb) (hm:behindInMarks op b = false:=by first | exact nomark _ | rfl):JE X (.Compare a [op] [b] pos) (tOp r ta tb):=.mk (pe_cmpR ho.out ha.out hb.out hm)
theorem j_and (ha:JE X a ta) (hb:JE X (.BoolOp .And (b :: es) pos) tb):JE X (.BoolOp .And (a :: b :: es) pos) (mAndV ta tb):=.mk (pe_andM ha.out hb.out)
theorem j_one {op:BoolOp} (h:JE X a ta):JE X (.BoolOp op [a] pos) ta:=.mk (pe_one h.out)
theorem j_ife (hc:JT X c tA) (ha:JE X a ta) (hb:JE X b tb):JE X (.IfExp c a b pos) (tIf tA ta tb):=.mk (pe_ifExp hc.out ha.out hb.out)
theorem ja_nil:JA X [] tNil:=.mk pa_nil
theorem ja_cons (ha:JE X e te) (hr:JA X es t) (h:noStar e = true:=by rfl):JA X (e :: es) (tCons te t):=.mk (pa_consM ha.out hr.out h)
theorem j_tup {x1:Nat} (h:JA X es t):JE X (.Tuple es x1 pos) (tTup t):=.mk (pe_tup h.out)
theorem j_lst (h:JA X es t):JE X (.List es pos) (tLst t):=.mk (pe_lst h.out)
theorem jo_none:JO X none tNoPart:=.mk po_none
theorem jo_some (h:JE X e te):JO X (some e) (mPart te):=.mk (po_someM h.out)
theorem j_slice {r:V→Option Int→Option Int→Hp→VK→Prop} {lo hi:Option Expr} {tl th:TO} (hr:Irr (SlR X r)) (he:JE X e te) (hl:JO X lo tl) (hu:JO X hi th):JE X (.Subscript e (.Slice lo hi none p2) pos) (tSl r te tl th):=.mk (pe_slice hr.out he.out hl.out hu.out)
theorem j_ix {r:R2} (hr:Irr (IxR X r)) (ha:JE X a ta) (hb:JE X b tb) (hs:PlainIx b:=by exact fun _ _=>rfl):JE X (.Subscript a b pos) (tOp r ta tb):=.mk (pe_ix hr.out ha.out hb.out hs)
theorem j_def {k : Nat} {x : Str} {ps : List Str} {sp : Sp} (D : Def X.prog X.w X.K X.mg X.base k x ps sp) (hr : Room k X.A) (hg : Gl X x) (ha : JA X (e :: es) t) (hdb : (x == ("__debug__" : Str)) = false := by decide)
    (hst:noStars (e :: es) = true:=by rfl):JE X (.Call (.Name x p) (e :: es) [] pos) (fun σ H Q=>t σ H fun vs H1=>sp vs H1 Q E0):=.mk (pe_def D hr hg ha.out hdb hst)
theorem j_callB {x : Str} {id : String} {r : List V → Hp → VK → Prop} (hc : Irr (CallR X (.builtin id) r)) (hg : Gl X x) (hm : X.mg x = none) (hv : bootBuiltins x = some (.builtin id)) (ha : JA X (e :: es) t) (hn : x ≠ "__name__" := by decide) (hdb : (x == ("__debug__" : Str)) = false := by decide)
    (h:noStars (e :: es) = true:=by rfl):JE X (.Call (.Name x p) (e :: es) [] pos) (tCB r t):=.mk (pe_callBM hc.out hg hm hv ha.out hn hdb h)
theorem j_callTy {x : Str} {T : String} {r : List V → Hp → VK → Prop} (hc : Irr (CallR X (.type T) r)) (hg : Gl X x) (hm : X.mg x = none) (hv : bootBuiltins x = some (.type T)) (ha : JA X (e :: es) t) (hn : x ≠ "__name__" := by decide) (hdb : (x == ("__debug__" : Str)) = false := by decide)
    (h:noStars (e :: es) = true:=by rfl):JE X (.Call (.Name x p) (e :: es) [] pos) (tCB r t):=.mk (pe_callTyM hc.out hg hm hv ha.out hn hdb h)
theorem j_bm {name : Str} {T id : String} {r : V → List V → Hp → VK → Prop} {to : TE} (pa : PlainAttrs T) (slot : Slot T name id) (hty : typeOf (.builtin id) = pure (.type "method_descriptor")) (hm : Irr (MtR X id r)) (ho : JE X o to) (ha : JA X (e :: es) t) (hK : X.K = K := by rfl)
    (hsup:notSuper o = true:=by rfl) (h:noStars (e :: es) = true:=by rfl) (h30:(e :: es).length < 30:=by decide) (hline:(apos.endLine == cpos.line) = true:=by rfl) :
    JE X (.Call (.Attribute o name apos) (e :: es) [] cpos) (tBM K T r to t):=.mk (pe_bmK pa slot hty hm.out ho.out ha.out hK hsup h h30 hline)
theorem j_bm0 {name : Str} {T id : String} {r : V → List V → Hp → VK → Prop} {to : TE} (pa : PlainAttrs T) (slot : Slot T name id) (hty : typeOf (.builtin id) = pure (.type "method_descriptor")) (hm : Irr (MtR X id r)) (ho : JE X o to) (hK : X.K = K := by rfl)
    (hsup:notSuper o = true:=by rfl) (hline:(apos.endLine == cpos.line) = true:=by rfl):JE X (.Call (.Attribute o name apos) [] [] cpos) (tBM0 K T r to):=.mk (pe_bm0K pa slot hty hm.out ho.out hK hsup hline)
noncomputable abbrev JPs (X:Cx) (pos:Pos) (keys:List (Option Expr)) (values:List Expr) (trs:List (TE × TE)):Prop:=Irr (PPs X pos keys values trs)
theorem jps_nil:JPs X pos [] [] []:=.mk pps_nil
theorem jps_cons {ks:List (Option Expr)} {vs:List Expr} {trs:List (TE × TE)} (hk:JE X k tk) (hv:JE X v tv) (hr:JPs X pos ks vs trs):JPs X pos (some k :: ks) (v :: vs) ((tk,tv) :: trs):=.mk (pps_cons hk.out hv.out hr.out)
theorem j_disp {keys : List (Option Expr)} {values : List Expr} {trs : List (TE × TE)} (h : JPs X pos keys values trs) (hall : keys.all (·.isSome) = true := by rfl) (hl : keys.length = values.length := by rfl) (h0 : keys ≠ [] := by exact List.cons_ne_nil _ _)
    (h15:keys.length ≤ 15:=by decide):JE X (.Dict keys values pos) (tDisp trs):=.mk (pe_disp h.out hall hl h0 h15)
theorem jt_cmp {op:CmpOp} {r:R2} (ho:Irr (OpR X (compareOp op) r)) (ha:JE X a ta) (hb:JE X b tb) (hm:behindInMarks op b = false:=by first | exact nomark _ | rfl):JT X (.Compare a [op] [b] pos) (mTest (tOp r ta tb)):=.mk (pt_cmpM ho.out ha.out hb.out hm)
theorem jt_val (h:JE X e te) (he:∀ whole,isTrue e X.env whole = (do let v ← whole; standAt e.pos; holding [v] (truthy v)):=by intro _; rfl):JT X e (mTest te):=.mk (pt_valM h.out he)
theorem jt_not (ha:JT X a tA):JT X (.UnaryOp .Not a pos) (tNot tA):=.mk (pt_not ha.out)
theorem jw_and1 (ha:JT X a tA):JW X (.BoolOp .And [a] pos) tA:=.mk (pw_and1 ha.out)
theorem jw_or1 (ha:JT X a tA):JW X (.BoolOp .Or [a] pos) tA:=.mk (pw_or1 ha.out)
theorem jw_and (ha:JT X a tA) (hb:JW X (.BoolOp .And (b :: es) pos) tB'):JW X (.BoolOp .And (a :: b :: es) pos) (tAnd tA tB'):=.mk (pw_and ha.out hb.out)
theorem jw_or (ha:JT X a tA) (hb:JW X (.BoolOp .Or (b :: es) pos) tB'):JW X (.BoolOp .Or (a :: b :: es) pos) (tOr tA tB'):=.mk (pw_or ha.out hb.out)
theorem jw_t (h:JW X e tA):JT X e tA:=.mk h.out.pt
theorem ji_any (h:JE X e te) (hK:X.K = K:=by rfl):JI X tg e (iAny K te):=.mk (pi_any h.out hK)
theorem ji_rng1 (hg:Gl X "range") (hm:X.mg "range" = none) (ha:JA X [a] t) (h:noStar a = true:=by rfl):JI X tg (.Call (.Name "range" p) [a] [] pos) (mRng1 t):=.mk (pi_rng1 hg hm ha.out (starEach_cons h))
theorem jg_name {i:Nat} {x:Str} (hN:X.N.Nodup) (hi:X.N[i]? = some x) (hx:Loc X.env.scope x) (hf:X.fn x = true∨X.env.scope.names.lookup x = some .local:=by first | exact .inl rfl | exact .inr rfl | assumption):JG X (.Name x pos) (gName i):=.mk (pg_name hN hi hx hf)
theorem jgs_nil:JGs X [] gNil:=.mk pgs_nil
theorem jgs_cons {g:TG} {gs:TGs} (h1:JG X e g) (h2:JGs X es gs) (hs:(assignEach (e :: es) X.env).map (·.2) = assign e X.env :: (assignEach es X.env).map (·.2):=by rfl):JGs X (e :: es) (gCons g gs):=.mk (pgs_cons h1.out h2.out hs)
theorem jg_tup {k:Nat} {gs:TGs} {n:Nat} (hc:X.calm = true) (h:JGs X es gs) (hK:X.K = K:=by rfl) (hn:(assignEach es X.env).length = n:=by rfl) (hst:(assignEach es X.env).findIdx? (·.1) = none:=by rfl):JG X (.Tuple es k pos) (gTup K n gs):=.mk (pg_tupK hc h.out hK hn hst)
theorem jg_sub (ho : JE X o ta) (hi : JE X k tb) (ha : ∀ v, assign (.Subscript o k pos) X.env v = (do
      let ov ← holding [v] (eval o X.env)
      let iv ← holding [v,ov] (eval k X.env)
      standAt pos
      holding [v,ov,iv] (setItem ov iv v)
      release [v,ov,iv] []):=by intro _; rfl):JG X (.Subscript o k pos) (L2.gSub ta tb rSetL):=.mk (pg_sub ho.out hi.out set_list ha)
noncomputable abbrev JTs (X:Cx) (ifs:List Expr) (t:TT):Prop:=Irr (PTs X ifs t)
theorem jts_nil:JTs X [] tTrue:=.mk pts_nil
theorem jts_one (h:JT X c tA):JTs X [c] tA:=.mk (pts_one h.out)
theorem j_comp {N : List Str} {cap : List (Option Nat)} {scope : Scope} {ifs : List Expr} {wi : TI} {g : TG} (hc : X.calm = true) (S : CompScope X N cap scope) (hi : JI X tg it wi)
    (hg:∀ C s₀ H₀ ex,JG (cxComp X N scope C s₀ H₀ ex) tg g) (ht:∀ C s₀ H₀ ex,JTs (cxComp X N scope C s₀ H₀ ex) ifs tA) (he:∀ C s₀ H₀ ex,JE (cxComp X N scope C s₀ H₀ ex) e te)
    (hs:∀ x,foldedSetIterable it X.env x = pure x:=by intro _; rfl) :
    JE X (.ListComp e [⟨tg,it,ifs,0⟩] scope pos) (fun σ H Q=>tComp cap wi g tA te (fun D H'=>Q (.ref D) H') σ H) :=
  .mk (pe_comp hc S hi.out (fun C s₀ H₀ ex=>(hg C s₀ H₀ ex).out) (fun C s₀ H₀ ex=>(ht C s₀ H₀ ex).out) (fun C s₀ H₀ ex=>(he C s₀ H₀ ex).out) hs)
theorem js_comp {N : List Str} {cap : List (Option Nat)} {scope : Scope} {ifs : List Expr} {wi : TI} {g : TG} {i : Nat} {x : Str} (hc : X.calm = true) (S : CompScope X N cap scope) (hi : JI X tg it wi)
    (hg:∀ C s₀ H₀ ex,JG (cxComp X N scope C s₀ H₀ ex) tg g) (ht:∀ C s₀ H₀ ex,JTs (cxComp X N scope C s₀ H₀ ex) ifs tA) (he:∀ C s₀ H₀ ex,JE (cxComp X N scope C s₀ H₀ ex) e te)
    (hN:X.N.Nodup) (hix:X.N[i]? = some x) (hx:X.env.scope.names.lookup x = some .local) (hsw:swapsWith (.ListComp e [⟨tg,it,ifs,0⟩] scope pos) (some (.Name x pos')) spos.line X.env = pure true:=by rfl)
    (hs:∀ x,foldedSetIterable it X.env x = pure x:=by intro _; rfl) :
    JS X (.Assign [.Name x pos'] (.ListComp e [⟨tg,it,ifs,0⟩] scope pos) spos) (fun D σ H=>tComp cap wi g tA te (fun d H'=>D.nx (σ.set i (some (.ref d))) H') σ H) :=
  .mk (ps_comp hc S hi.out (fun C s₀ H₀ ex=>(hg C s₀ H₀ ex).out) (fun C s₀ H₀ ex=>(ht C s₀ H₀ ex).out) (fun C s₀ H₀ ex=>(he C s₀ H₀ ex).out) hN hix hx hsw hs)
theorem jss_nil:JSs X [] tNext:=.mk pss_nil
theorem jss_cons (h1:JS X st u) (h2:JSs X sts u'):JSs X (st :: sts) (tSeq u u'):=.mk (pss_cons h1.out h2.out)
theorem jss_one (h1:JS X st u):JSs X [st] u:=.mk (pss_one h1.out)
theorem js_set {i : Nat} {x : Str} (hN : X.N.Nodup) (hi : X.N[i]? = some x) (hx : Loc X.env.scope x) (he : JE X e te) (hs : swapsWith e (some (.Name x pos')) pos.line X.env = pure false := by rfl) (hf : X.fn x = true ∨ X.env.scope.names.lookup x = some .local := by first | exact .inl rfl | exact .inr rfl | assumption) :
    JS X (.Assign [.Name x pos'] e pos) (tAsg te (gName i)):=.mk (ps_set hN hi hx he.out hs hf)
theorem js_asg {g : TG} (he : JE X e te) (hg : JG X tg g) (hs : swapsWithSole [tg] e pos.line X.env = pure false := by rfl) (hw : swappedStores [tg] e X.env = pure none := by rfl)
    (h1:(assignEach [tg] X.env).map (·.2) = [assign tg X.env]:=by rfl):JS X (.Assign [tg] e pos) (tAsg te g):=.mk (ps_asg he.out hg.out hs hw h1)
theorem js_if (hc:JT X c tA) (ha:JSs X sts u) (hb:JSs X sts' u'):JS X (.If c sts sts' pos) (tIfS tA u u'):=.mk (ps_if hc.out ha.out hb.out)
theorem js_ret (he:JE X e te):JS X (.Return (some e) pos) (tRet te):=.mk (ps_ret he.out)
theorem js_expr (he:JE X e te) (hs:swapsWith e none pos.line X.env = pure false:=by rfl):JS X (.Expr e pos) (tDrop te):=.mk (ps_expr he.out hs)
theorem js_while (hp:PassesOwn (model X.prog X.w) X.A X.env X.xe) (hc:JT X c tA) (hb:JSs X sts u):JS X (.While c sts [] pos) (tWhile tA u):=.mk (ps_while hp hc.out hb.out)
theorem js_for {wi : TI} {g : TG} (hp : PassesOwn (model X.prog X.w) X.A X.env X.xe) (hc : X.calm = true) (hi : JI X tg it wi) (hg : JG X tg g) (hb : JSs X sts u)
    (hs:∀ x,foldedSetIterable it X.env x = pure x:=by intro _; rfl):JS X (.For tg it sts [] pos) (tFor wi g u):=.mk (ps_for hp hc hi.out hg.out hb.out hs)
end
theorem Raw.defJ {P : Program} {w : World} {K : PySem.W.Frag} {mg : Str → Option Value} {base : Heap} {x : Str} {st : Stmt} {N ps : List Str} {k : Nat} {sp : Sp} (R : Raw K mg x st ps) (S : FnScope N ps (defScope st)) (len : ∀ vs H Q E, sp vs H Q E → vs.length = ps.length)
    (hbody:∀ (f:Addr) (cdv:Value) (A:Around) (outer:List Env) (s:Shared) (H:Hp) (vs:List V) (Q:VK) (E:XK),Room k (A.deeper (envOfC x (defScope st) s.heap.objs.size f cdv))→sp vs H Q E →
      ∃ t,JSs (cxOf CX0 P w K mg base N x (defScope st) f cdv A outer s H E).nox (defBody st) t∧t { nx:=fun _ H'=>Q .non H',rt:=Q } (start N vs) H):Def P w K mg base (k + 1) x ps sp :=
  R.def S len fun f cdv A outer s H vs Q E hr h=>let ⟨t,h1,h2⟩:=hbody f cdv A outer s H vs Q E hr h; ⟨t,h1.out,h2⟩
end L2
namespace L2
open PySem PySem.Spec PyProof.Rows
inductive TyD (K:PySem.W.Frag) (H:Hp):V→String→Prop where
  | non:TyD K H .non "NoneType"
  | bl (x:Bool):TyD K H (.bl x) "bool"
  | int (i:Int):TyD K H (.int i) "int"
  | str (x:Str):TyD K H (.str x) "str"
  | list {a:Addr} {xs:List V} (e:SqL K H a xs):TyD K H (.ref a) "list"
  | tuple {a:Addr} {xs:List V} (e:SqT K H a xs):TyD K H (.ref a) "tuple"
theorem isinst_okD {X : Cx} {pins : List (Addr × Obj)} {σ : St} {H : Hp} {s : Shared} {A : Around} {E : Value → Shared → Prop} {Q : Value → Shared → Prop} {c : Value} {b : Bool} {x : V} {u : Value} {t : String} (I : Inv X pins σ H s) (rx : RelV x u) (ty : TyD X.K H x t) (e : PySem.W.kitOne X.K (.type t) c = some b) (h : ∀ tk, Q (.bool b) { s with toks := tk }) :
    wpAny (model X.prog X.w) A (call (.builtin "isinstance") [u,c]) Q E s:=by
  cases ty with
  | non=>exact isinst_ok I rx .non e h
  | bl y=>exact isinst_ok I rx (.bl y) e h
  | int i=>exact isinst_ok I rx (.int i) e h
  | str y=>exact isinst_ok I rx (.str y) e h
  | @list a xs ea =>
    cases (show u = Value.ref a from rx)
    obtain ⟨its,rv,⟨o,n,h1,h2,h3,h4⟩,hz⟩:=I.list ea
    exact PySem.W.kia_one PySem.W.kitx_list I.kIn ⟨o,h1,h2⟩ e (fun z=>nomatch z) h
  | @tuple a xs ea =>
    cases (show u = Value.ref a from rx)
    obtain ⟨its,rv,⟨o,h1,h2,n,h4⟩,hz⟩:=I.tuple ea
    exact PySem.W.kia_one PySem.W.kitx_tuple I.kIn ⟨o,h1,h2⟩ e (fun z=>nomatch z) h
noncomputable def gIsi (K:PySem.W.Frag):List V→Hp→VK→Prop:=fun xs H Q=>match xs with
  | [x,.ty Tn]=>∃ ty b,TyD K H x ty∧PySem.W.kitOne K (.type ty) (.type Tn) = some b∧Q (.bl b) H
  | _=>False
theorem c_isiD {X : Cx} {K : PySem.W.Frag} (hK : X.K = K := by rfl) : Irr (CallR X (.builtin "isinstance") (gIsi K)) := by
  refine .mk ?_
  subst hK
  intro pins s σ H xs us Q I r h
  unfold gIsi at h
  split at h
  · obtain ⟨ty, b, h1, h2, q⟩ := h
    obtain ⟨u, w', rfl, r1, r2⟩ := vals2 r
    cases r2
    exact isinst_okD I r1 h1 h2 fun tk => ⟨.bl b, H, I.tok tk, rfl, q⟩
  simp_all
end L2
namespace L2
open PySem PySem.Spec PyProof.Rows
noncomputable abbrev anyHO:HO:=.ext fun _=>True
noncomputable def Kn (H:Hp) (a:Addr) (o:Obj):Prop:=H a = some (.frz o anyHO)
theorem Kn.get {P:Program} {w:World} {H:Hp} {h:Heap} {a:Addr} {o:Obj} (k:Kn H a o) (x:HOk P w H h):h.get? a = some o:=(x a _ k).1
theorem ok_any {P:Program} {w:World} {H:Hp} {h:Heap} {a:Addr} {o:Obj} (e:h.get? a = some o):ObjOk P w H h a (.frz o anyHO):=⟨e,True.intro,⟨o,e⟩,fun _ _ _ _=>True.intro⟩
noncomputable def rem (cs:List Addr) (H:Hp):Hp:=fun b=>if b ∈ cs then none else H b
noncomputable def back (cs:List Addr) (H H':Hp):Hp:=fun b=>if b ∈ cs then H b else H' b
theorem rem_in {cs:List Addr} {H:Hp} {b:Addr} (h:b ∈ cs):rem cs H b = none:=if_pos h
theorem rem_out {cs:List Addr} {H:Hp} {b:Addr} (h:b ∉ cs):rem cs H b = H b:=if_neg h
theorem back_in {cs:List Addr} {H H':Hp} {b:Addr} (h:b ∈ cs):back cs H H' b = H b:=if_pos h
theorem back_out {cs:List Addr} {H H':Hp} {b:Addr} (h:b ∉ cs):back cs H H' b = H' b:=if_neg h
section
variable {P:Program} {w:World} {H H':Hp} {h h':Heap} {cs fs:List Addr}
theorem kn_not {c:Addr} {u:HO} (k:∀ c ∈ cs,∃ o,Kn H c o) (e:H c = some u) (n:∀ o,u ≠ .frz o anyHO):c ∉ cs:=fun m=>by
  obtain ⟨o,q⟩:=k c m
  unfold Kn at q
  rw [e] at q
  exact n o (Option.some.inj q)
theorem kn_none {c:Addr} (k:∀ c ∈ cs,∃ o,Kn H c o) (e:H c = none):c ∉ cs:=fun m=>by
  obtain ⟨o,q⟩:=k c m
  unfold Kn at q
  rw [e] at q
  cases q
theorem HOk.rem (x:HOk P w H h) (k:∀ c ∈ cs,∃ o,Kn H c o):HOk P w (rem cs H) h:=fun b u e=>by
  have nb:b ∉ cs:=fun m=>by rw [rem_in m] at e; cases e
  rw [rem_out nb] at e
  refine (x b u e).stay (fun c v _ q=>q) (fun c q=>?_) fun c xs q=>?_
  · rw [rem_out (kn_not k q fun o z=>by cases z)]; exact q
  · rw [rem_out (kn_not k q fun o z=>by cases z)]; exact q
theorem Un.back (u:Un fs [] (rem cs H) H' h h') (k:∀ c ∈ cs,∃ o,Kn H c o):Un fs [] H (back cs H H') h h' where
  keep:=fun b o q n hb hx=>u.keep b o q (by rw [rem_out (kn_none k n)]; exact n) hb hx
  slot:=fun b o q n hb hx=>u.slot b o q (by rw [rem_out (kn_none k n)]; exact n) hb hx
  free:=fun b o q n hx=>by
    rw [back_out (kn_none k n)]
    exact u.free b o q (by rw [rem_out (kn_none k n)]; exact n) hx
  there:=u.there
  tups:=fun b xs q=>by
    have nb:=kn_not k q fun o z=>by cases z
    rw [back_out nb]
    exact u.tups b xs (by rw [rem_out nb]; exact q)
  frzs:=fun b o z q=>by
    by_cases m:b ∈ cs
    · rw [back_in m]; exact q
    · rw [back_out m]
      exact u.frzs b o z (by rw [rem_out m]; exact q)
  tbls:=fun b ps q=>by
    have nb:=kn_not k q fun o z=>by cases z
    rw [back_out nb]
    exact u.tbls b ps (by rw [rem_out nb]; exact q)
theorem HOk.back (x':HOk P w H' h') (u:Un fs [] (L2.rem cs H) H' h h') (k:∀ c ∈ cs,∃ o,Kn H c o) (x:HOk P w H h) (hf:∀ c ∈ cs,c ∉ fs):HOk P w (L2.back cs H H') h':=fun b v e=>by
  by_cases m:b ∈ cs
  · rw [back_in m] at e
    obtain ⟨o,q⟩:=k b m
    have q':H b = some (.frz o anyHO):=q
    rw [q'] at e
    cases e
    exact ok_any (u.keep b o (Kn.get q x) (rem_in m) (hf b m) (by simp))
  · rw [back_out m] at e
    have gone:∀ c,c ∈ cs→H' c = none:=fun c mc=>by
      obtain ⟨o,q⟩:=k c mc
      exact u.free c o (Kn.get q x) (rem_in mc) (by simp)
    refine (x' b v e).stay (fun c v _ q=>q) (fun c q=>?_) fun c xs q=>?_
    · rw [back_out fun mc=>by rw [gone c mc] at q; cases q]; exact q
    · rw [back_out fun mc=>by rw [gone c mc] at q; cases q]; exact q
end
structure CloScope (ps ls fr:List Str) (sc:Scope):Prop where
  kind:sc.kind = .function
  co:sc.isCoroutine = false
  gen:sc.isGenerator = false
  nd:(ps ++ ls ++ fr).Nodup
  par:∀ x ∈ ps,sc.names.lookup x = some .local
  nocell:∀ y ∈ sc.names,y.2 ≠ .cell
  fre:∀ x ∈ fr,sc.names.lookup x = some .free
  all:∀ y ∈ sc.names,y.2 = .free→y.1 ∈ fr
structure Made (H:Hp) (f:Addr) (name qual:Str) (st:Stmt) (cl:List (Str × Addr)):Prop where
  ex:∃ (doc pm:Value) (c':Addr) (ctv:Value) (oc:Obj) (vs:Array Value) (t:Tok),Kn H f (PySem.W.fnMade name qual (defArgs st) (defBody st) (defScope st) cl doc pm c' ctv)∧Kn H c' oc∧oc.data = .fields vs∧vs[1]? = some (.str qual t)
structure CloAt (H:Hp) (f:Addr) (name qual:Str) (st:Stmt) (fr:List Str) (cs:List Addr) (ws:List V):Prop where
  ex:∃ cl,Made H f name qual st cl∧(∀ x c,cl.lookup x = some c→∃ j:Nat,fr[j]? = some x∧cs[j]? = some c)∧∀ (j:Nat) x,fr[j]? = some x→∃ c,cl.lookup x = some c∧cs[j]? = some c
  cells:∀ (j:Nat) x,ws[j]? = some x→∃ c o u,cs[j]? = some c∧Kn H c o∧o.data = .cell (some u)∧RelV x u
  l1:cs.length = fr.length
  l2:ws.length = fr.length
  nd:cs.Nodup
theorem CloAt.kn {H:Hp} {f:Addr} {name qual:Str} {st:Stmt} {fr:List Str} {cs:List Addr} {ws:List V} (C:CloAt H f name qual st fr cs ws):∀ c ∈ cs,∃ o,Kn H c o:=fun c m=>by
  obtain ⟨j,hj,e⟩:=List.mem_iff_getElem.mp m
  have hw:j < ws.length:=by rw [C.l2,← C.l1]; exact hj
  obtain ⟨c',o,u,h1,h2,_⟩:=C.cells j ws[j] (List.getElem?_eq_getElem hw)
  rw [List.getElem?_eq_getElem hj,e] at h1
  cases h1
  exact ⟨o,h2⟩
theorem CloAt.same {H H':Hp} {f:Addr} {name qual:Str} {st:Stmt} {fr:List Str} {cs:List Addr} {ws:List V} (C:CloAt H f name qual st fr cs ws) (h:∀ b o,Kn H b o→Kn H' b o):CloAt H' f name qual st fr cs ws:=by
  obtain ⟨cl,⟨doc,pm,c',ctv,oc,vs,t,h1,h2,h3,h4⟩,h5,h6⟩:=C.ex
  refine ⟨⟨cl,⟨doc,pm,c',ctv,oc,vs,t,h _ _ h1,h _ _ h2,h3,h4⟩,h5,h6⟩,fun j x e=>?_,C.l1,C.l2,C.nd⟩
  obtain ⟨c,o,u,q1,q2,q3,q4⟩:=C.cells j x e
  exact ⟨c,o,u,q1,h _ _ q2,q3,q4⟩
theorem lookup_mem {β:Type} {y:Str} {u:β}:∀ {l:List (Str × β)},(l.map (·.1)).Nodup→(y,u) ∈ l→l.lookup y = some u
  | [],_,h=>nomatch h
  | (z,v) :: r,nd,h=>by
    rw [List.lookup_cons]
    rw [List.map_cons,List.nodup_cons] at nd
    rcases List.mem_cons.mp h with e | e
    · cases e
      rw [beq_self_eq_true]
    · have:(y == z) = false:=beq_eq_false_iff_ne.mpr fun q=>nd.1 (by rw [← q]; exact List.mem_map_of_mem (f:=(·.1)) e)
      rw [this]
      exact lookup_mem nd.2 e
theorem lookup_zipR {y:Str} {u:Value}:∀ {ps:List Str} {us:List Value} {i:Nat},ps.Nodup→ps[i]? = some y→us[i]? = some u→(ps.zip us).reverse.lookup y = some u:=by
  intro ps us i nd h1 h2
  have mem:(y,u) ∈ ps.zip us:=by
    refine List.mem_iff_getElem?.mpr ⟨i,?_⟩
    rw [List.getElem?_zip_eq_some]
    exact ⟨h1,h2⟩
  have nd2:(((ps.zip us).reverse).map (·.1)).Nodup:=by
    rw [List.map_reverse]
    refine (List.reverse_perm _).nodup_iff.mpr ?_
    have:(ps.zip us).map (·.1) = ps.take us.length:=by
      clear h1 h2 mem nd
      induction ps generalizing us with
      | nil=>simp
      | cons p r ih =>
        cases us with
        | nil=>simp
        | cons v s=>simp [ih]
    rw [this]
    exact nd.sublist (List.take_sublist _ _)
  exact lookup_mem nd2 (List.mem_reverse.mpr mem)
noncomputable def cxClo (P:Program) (w:World) (K:PySem.W.Frag) (mg:Str→Option Value) (base:Heap) (N:List Str) (qual:Str) (scope:Scope) (f:Addr) (cd:Value) (cl:List (Str × Addr)) (A:Around) (outer:List Env) (s:Shared) (H:Hp):Cx where
  prog:=P
  w:=w
  K:=K
  mg:=mg
  base:=base
  A:=A.deeper (PySem.W.envX qual scope s.heap.objs.size f cd cl)
  N:=N
  s₀:=s
  H₀:=H
  env:=PySem.W.envX qual scope s.heap.objs.size f cd cl
  outer:=outer
  stack:=PySem.W.envX qual scope s.heap.objs.size f cd cl :: outer
  ex:=[]
  calm:=true
  fn:=fun _=>false
  pn:=[]
  xe:=fun _ _=>False
end L2
namespace L2
open PySem PySem.Spec PyProof.Rows
structure FnV (P:Program) (w:World) (K:PySem.W.Frag) (mg:Str→Option Value) (base:Heap) (k:Nat) (f:Addr) (sp:Sp):Prop where
  fn:∀ vs H Q E,sp vs H Q E→∃ oc od fd sl,Kn H f ⟨oc,od,.func fd,sl⟩
  run:∀ (A:Around) (outer:List Env) (s:Shared) (H:Hp) (us:List Value) (vs:List V) (Q:VK) (E:XK),Room k A→Env0 P w K mg base A outer s H→Vals vs us→sp vs H Q E →
    codeAny (model P w) A (.call (.ref f) ⟨us,[]⟩) (CR CX0 outer P w H s Q E) s
noncomputable def mCallV (i:Nat) (sp:Addr→Sp) (t:TA):TE:=fun σ H Q=>match σ[i]? with
  | some (some (.ref f))=>t σ H fun vs H1=>sp f vs H1 Q E0
  | _=>False
section
variable {X:Cx} {e:Expr} {es:List Expr} {t:TA} {p pos:Pos}
theorem pe_callV {i : Nat} {x : Str} {k : Nat} {sp : Addr → Sp} (F : ∀ f, FnV X.prog X.w X.K X.mg X.base k f (sp f)) (hr : Room k X.A) (hN : X.N[i]? = some x) (hv : Vis X.env.scope x) (hd : (x == ("__debug__" : Str)) = false) (hcd : (x == ("__classdict__" : Str)) = false) (ha : PA X (e :: es) t)
    (hst:noStars (e :: es) = true):PE X (.Call (.Name x p) (e :: es) [] pos) (mCallV i sp t):=by
  have h':noStar e = true∧noStars es = true:=by simpa [noStars] using hst
  have he:=starEach_cons (es:=es) (env:=X.env) h'.1
  have hpl:=back_any (env:=X.env) (pos:=pos) h'.2
  intro pins s σ H Q I h
  unfold mCallV at h
  split at h
  · rename_i f hf
    refine wpAny_Call_Name_kw ?_
    refine thn (pe_var hN hv hd hcd pins s σ H (fun v H'=>v = .ref f∧H' = H) I ⟨_,hf,rfl,rfl⟩) fun v s1 ⟨x1,H1,I1,r1,e1,e2⟩=>?_
    subst e1 e2
    obtain rfl:v = Value.ref f:=r1
    have step:=thn (ha pos pins s1 σ H1 _ I1 h) (Q':=fun vs s₁=>PySem.W.FnAt f s₁.heap∧wpAny (model X.prog X.w) X.A (call (.ref f) ([] ++ vs)) (EP X pins σ Q) X.xe s₁) fun us s2 ⟨vs,H2,I2,r2,q2⟩=>by
      obtain ⟨oc,od,fd,sl,kn⟩:=(F f).fn _ _ _ _ q2
      refine ⟨⟨oc,od,fd,sl,Kn.get kn I2.hok⟩,?_⟩
      rw [List.nil_append]
      refine wpAny_call (codeAny_mono ((F f).run X.A X.stack s2 H2 us vs Q E0 hr I2.env0 r2 q2) fun r s' hq=>?_)
      cases r with
      | error e=>exact hq.elim
      | ok fl =>
        cases fl with
        | ret u=>exact I2.after hq
        | next=>exact False.elim hq
        | brk=>exact False.elim hq
        | cont=>exact False.elim hq
    rw [he] at step ⊢
    exact PySem.W.callWith_of (by show ((false || (backTo pos (starEach es X.env)).any (·.1)) || false) = false; rw [hpl]; rfl) PySem.W.keeps_F (Calls.evalArgs_plain step)
  · exact h.elim
theorem j_callV (i : Nat) {x : Str} {k : Nat} {sp : Addr → Sp} (F : ∀ f, FnV X.prog X.w X.K X.mg X.base k f (sp f)) (hr : Room k X.A) (ha : JA X (e :: es) t) (hN : X.N[i]? = some x := by rfl) (hv : Vis X.env.scope x := by first | exact Or.inl rfl | exact Or.inr (Or.inl rfl) | exact Or.inr (Or.inr rfl))
    (hd:(x == ("__debug__":Str)) = false:=by decide) (hcd:(x == ("__classdict__":Str)) = false:=by decide) (hst:noStars (e :: es) = true:=by rfl):JE X (.Call (.Name x p) (e :: es) [] pos) (mCallV i sp t):=.mk (pe_callV F hr hN hv hd hcd ha.out hst)
end
noncomputable def BMain (mg:Str→Option Value) (base:Heap):Prop:=∃ bm ob,mg "__builtins__" = some (.ref bm)∧bm ≠ builtinsNs∧base.get? bm = some ob∧ob.cls = .type "module"∧ob.dict = some builtinsNs∧ob.data = .plain
theorem triples_ok:∀ l:List (Pos × Addr),TriplesOk (triples l)
  | []=>True.intro
  | (p,c) :: r=>triples_ok r
theorem among_some {pos:Pos} {c:Value}:∀ {l:List (Pos × Addr)},codeAmong pos (triples l) = some c→∃ q ∈ l,q.1.line = pos.line∧q.1.col = pos.col∧c = .ref q.2
  | [],h=>by cases h
  | (p,c') :: r,h=>by
    have h':(if (((p.line:Nat):Int) == ((pos.line:Nat):Int) && ((p.col:Nat):Int) == ((pos.col:Nat):Int)) = true then some (Value.ref c') else codeAmong pos (triples r)) = some c:=h
    split at h'
    · rename_i hb
      rw [Bool.and_eq_true,beq_iff_eq,beq_iff_eq] at hb
      exact ⟨(p,c'),List.mem_cons_self,by show p.line = pos.line; lia,by show p.col = pos.col; lia,(Option.some.inj h').symm⟩
    · obtain ⟨q,m,r⟩:=among_some h'
      exact ⟨q,List.mem_cons_of_mem _ m,r⟩
structure TabOk (H:Hp) (Pt:Addr) (qs:List (Pos × Str)):Prop where
  ex:∃ l:List (Pos × Addr),H Pt = some (.tbl (triples l).toArray)∧∀ q ∈ l,∃ qual oc vs t,(q.1,qual) ∈ qs∧Kn H q.2 oc∧oc.data = .fields vs∧vs[1]? = some (.str qual t)
theorem TabOk.same {H H':Hp} {Pt:Addr} {qs:List (Pos × Str)} (T:TabOk H Pt qs) (h1:H' Pt = H Pt) (h2:∀ b o,Kn H b o→Kn H' b o):TabOk H' Pt qs:=by
  obtain ⟨l,e,h⟩:=T.ex
  refine ⟨l,h1.trans e,fun q m=>?_⟩
  obtain ⟨qual,oc,vs,t,a,b,c⟩:=h q m
  exact ⟨qual,oc,vs,t,a,h2 _ _ b,c⟩
noncomputable def SmB (Pt:Addr) (H H':Hp):Prop:=∀ b u,b ≠ Pt→H b = some u→H' b = some u
noncomputable def tNDef (i:Nat) (Pt:Addr) (qs:List (Pos × Str)) (name qual:Str) (st:Stmt) (cl:List (Str × Addr)):TS:=fun D σ H=>TabOk H Pt qs∧∀ f H',H f = none→SmB Pt H H'→TabOk H' Pt qs→Made H' f name qual st cl→D.nx (σ.set i (some (.ref f))) H'
section
variable {X:Cx}
theorem ps_ndef {i : Nat} {name : Str} {params : Arguments} {body : List Stmt} {scope : Scope} {pos : Pos} {c Pt : Addr} {qs : List (Pos × Str)} (hN : X.N.Nodup) (hi : X.N[i]? = some name) (hx : Loc X.env.scope name) (hcode : X.env.code = .ref c) (hK : PySem.W.codeHdIn X.K c Pt = true) (hB : BMain X.mg X.base)
    (hqs:∀ q ∈ qs,q.1.line = pos.line→q.1.col = pos.col→q.2 = qualnameIn X.env name name) (hmem:(pos,qualnameIn X.env name name) ∈ qs)
    (hfre:∀ y ∈ scope.names,y.2 = .free→X.env.scope.names.lookup y.1 = some .cell∨X.env.scope.names.lookup y.1 = some .free)
    (hd0:params.defaults = []) (hk0:params.kw_defaults = []) (ha:annTrees params none X.env = []) (hf:X.fn name = true∨X.env.scope.names.lookup name = some .local) :
    PS X (.FunctionDef name params body [] none [] scope none name pos) (tNDef i Pt qs name (qualnameIn X.env name name) (.FunctionDef name params body [] none [] scope none name pos) (closOf X.env scope.names [])):=by
  intro pins s σ H D I h
  obtain ⟨T,h⟩:=h
  obtain ⟨l,hP,hl⟩:=T.ex
  have hclos:closureFor scope X.env = pure (closOf X.env scope.names []):=closureFor_of fun y hy q=>I.ok.has y.1 (hfre y hy q)
  have hg:s.heap.Ns mainGlobals X.mg:=I.ok.mod.glob.keeps I.bk
  have C:PySem.W.CodeHd s.heap c Pt:=PySem.W.codeHd_of_K I.kIn hK
  have hPt:s.heap.get? Pt = some (PySem.W.tabObj (triples l).toArray):=I.hok Pt _ hP
  obtain ⟨bm,ob,b1,b2,b3,b4,b5,b6⟩:=hB
  have b3':=I.bk _ _ b3
  have hgP:mainGlobals ≠ Pt:=fun q=>by
    obtain ⟨o,es,ep,e,hd,_⟩:=hg
    rw [q,hPt] at e; cases e; cases hd
  have hbP:bm ≠ Pt:=fun q=>by
    rw [q,hPt] at b3'; cases b3'; cases b4
  have hbG:bm ≠ mainGlobals:=fun q=>by
    obtain ⟨o,es,ep,e,hd,_⟩:=hg
    rw [← q,b3'] at e; cases e; rw [hd] at b6; cases b6
  have hBA:s.heap.BuiltinsAt X.mg Pt:=⟨bm,ob,b1,b2,hbG,hbP,b3',b4,b5,b6⟩
  refine PySem.W.nestDef_K hd0 hk0 ha ?_
  cases hc:codeAmong pos (triples l) with
  | some cv =>
    obtain ⟨q,mq,e1,e2,rfl⟩:=among_some hc
    obtain ⟨qual,oc,vs,t,m1,k1,d1,d2⟩:=hl q mq
    have eq:=hqs _ m1 e1 e2
    dsimp only at eq
    subst eq
    refine PySem.W.makeFunction_hit (ps:=(triples l).toArray) hclos I.ok.glob hg hcode C hPt (by simpa using triples_ok l) (by simpa using hc) hBA fun ctv doc h' tk hk hsz=>?_
    have I1:Inv X pins σ H { s with heap:=h',toks:=tk }:=I.kept hk
    have I2:=I1.laid (a:=h'.objs.size) (o:=.frz (PySem.W.fnMade name (qualnameIn X.env name name) params body scope (closOf X.env scope.names []) doc ((X.mg "__name__").getD .none) q.2 ctv) anyHO) (h':=h'.push (PySem.W.fnMade name (qualnameIn X.env name name) params body scope (closOf X.env scope.names []) doc ((X.mg "__name__").getD .none) q.2 ctv)) (t':=tk)
      (fun b o e=>Heap.get?_push_of_some _ e) (Nat.le_refl _) (ok_any (Heap.get?_push_size _ rfl))
    have hfr:H h'.objs.size = none:=I1.hok.fresh (Nat.le_refl _)
    refine store_ok I2 hN hi hx (v:=.ref h'.objs.size) rfl (fun s' I3=>⟨_,_,I3,?_⟩) hf
    have sm:∀ b u,H b = some u→upd H h'.objs.size (.frz (PySem.W.fnMade name (qualnameIn X.env name name) params body scope (closOf X.env scope.names []) doc ((X.mg "__name__").getD .none) q.2 ctv) anyHO) b = some u:=fun b u e=>by
      rw [upd_ne (ne_of_none e hfr)]; exact e
    exact h _ _ hfr (fun b u _ e=>sm b u e) (T.same (upd_ne (ne_of_none hP hfr)) fun b o k=>sm b _ k) ⟨doc,_,q.2,ctv,oc,vs,t,upd_same,sm _ _ k1,d1,d2⟩
  | none =>
    refine PySem.W.makeFunction_K (ps:=(triples l).toArray) hclos I.ok.glob hg hcode C hPt (by simpa using triples_ok l) (by simpa using hc) hgP hBA fun c' ctv doc h' tk hx' hge hlt hrec htb=>?_
    obtain ⟨c2,oc,vs,t,e2,hoc,hd,hv⟩:=hrec
    cases e2
    have hcn:H c' = none:=I.hok.fresh hge
    have hszL:s.heap.objs.size ≤ h'.objs.size:=Nat.le_of_lt (Nat.lt_of_le_of_lt hge hlt)
    have hfn:H h'.objs.size = none:=I.hok.fresh hszL
    generalize hfo:PySem.W.fnMade name (qualnameIn X.env name name) params body scope (closOf X.env scope.names []) doc ((X.mg "__name__").getD .none) c' ctv = fo
    have hcf:c' ≠ h'.objs.size:=Nat.ne_of_lt hlt
    have htb':(h'.push fo).get? Pt = some (PySem.W.tabObj ((triples (l ++ [(pos,c')])).toArray)):=by
      rw [triples_append]
      refine Heap.get?_push_of_some _ ?_
      rw [htb]
      simp
    let H':Hp:=upd (upd (upd H Pt (.tbl (triples (l ++ [(pos,c')])).toArray)) c' (.frz oc anyHO)) h'.objs.size (.frz fo anyHO)
    have hPc:Pt ≠ c':=ne_of_none hP hcn
    have hPf:Pt ≠ h'.objs.size:=ne_of_none hP hfn
    have at_:∀ b u,b ≠ Pt→H b = some u→H' b = some u:=fun b u nb e=>by
      show upd (upd (upd H Pt _) c' _) h'.objs.size _ b = _
      rw [upd_ne (ne_of_none e hfn),upd_ne (ne_of_none e hcn),upd_ne nb]; exact e
    have fr_:∀ b,b < s.heap.objs.size→H b = none→H' b = none:=fun b hb e=>by
      show upd (upd (upd H Pt _) c' _) h'.objs.size _ b = _
      rw [upd_ne (Nat.ne_of_lt (Nat.lt_of_lt_of_le hb hszL)),upd_ne (Nat.ne_of_lt (Nat.lt_of_lt_of_le hb hge)),upd_ne (fun z=>by rw [z,hP] at e; cases e)]; exact e
    have keep:∀ b o,b ≠ Pt→s.heap.get? b = some o→(h'.push fo).get? b = some o:=fun b o nb e=>Heap.get?_push_of_some _ (hx' b o nb e)
    have nP:∀ b,H b = none→b ≠ Pt:=fun b e z=>by rw [z,hP] at e; cases e
    have tP:H' Pt = some (.tbl (triples (l ++ [(pos,c')])).toArray):=by
      show upd (upd (upd H Pt _) c' _) h'.objs.size _ Pt = _
      rw [upd_ne hPf,upd_ne hPc,upd_same]
    have un:Un X.fs [] H H' s.heap (h'.push fo):={
      keep:=fun b o q n _ _=>keep b o (nP b n) q
      slot:=fun b o q n _ _=>⟨o.slots,keep b o (nP b n) q⟩
      free:=fun b o q n _=>fr_ b (Heap.lt_size q) n
      there:=fun b o q _=>by
        by_cases z:b = Pt
        · exact ⟨_,by rw [z]; exact htb'⟩
        · exact ⟨o,keep b o z q⟩
      tups:=fun b xs q=>at_ b _ (fun z=>by rw [z,hP] at q; cases q) q
      frzs:=fun b o u q=>at_ b _ (fun z=>by rw [z,hP] at q; cases q) q
      tbls:=fun b ps q=>by
        by_cases z:b = Pt
        · subst z
          rw [hP] at q
          cases q
          exact ⟨#[rawInt pos.line,rawInt pos.col,.ref c'],by rw [tP,triples_append]; simp⟩
        · exact ⟨#[],by rw [at_ b _ z q]; simp⟩ }
    have hok:HOk X.prog X.w H' (h'.push fo):=fun b u e=>by
      by_cases z1:b = h'.objs.size
      · subst z1
        have e':upd (upd (upd H Pt (.tbl (triples (l ++ [(pos,c')])).toArray)) c' (.frz oc anyHO)) h'.objs.size (.frz fo anyHO) h'.objs.size = some u:=e
        rw [upd_same] at e'
        cases e'
        exact ok_any (Heap.get?_push_size _ (by rw [← hfo]; rfl))
      · by_cases z2:b = c'
        · subst z2
          have e':upd (upd (upd H Pt (.tbl (triples (l ++ [(pos,b)])).toArray)) b (.frz oc anyHO)) h'.objs.size (.frz fo anyHO) b = some u:=e
          rw [upd_ne z1,upd_same] at e'
          cases e'
          exact ok_any (Heap.get?_push_of_some _ hoc)
        · by_cases z3:b = Pt
          · subst z3
            rw [tP] at e
            cases e
            exact htb'
          · have e':upd (upd (upd H Pt (.tbl (triples (l ++ [(pos,c')])).toArray)) c' (.frz oc anyHO)) h'.objs.size (.frz fo anyHO) b = some u:=e
            rw [upd_ne z1,upd_ne z2,upd_ne z3] at e'
            refine (I.hok b u e').stay (fun c v hc q=>keep c v ?_ q) (fun c q=>at_ c _ (fun z=>by rw [z,hP] at q; cases q) q) fun c xs q=>at_ c _ (fun z=>by rw [z,hP] at q; cases q) q
            rcases hc with rfl | hc
            · exact z3
            · intro z; rw [z,hP] at hc; cases hc
    have I2:Inv X pins σ H' { s with heap:=h'.push fo,toks:=tk }:=I.un un hok
    refine store_ok I2 hN hi hx (v:=.ref h'.objs.size) rfl (fun s' I3=>⟨_,_,I3,?_⟩) hf
    have kf:Kn H' h'.objs.size fo:=upd_same
    have kc:Kn H' c' oc:=by
      show upd (upd (upd H Pt _) c' _) h'.objs.size _ c' = _
      rw [upd_ne hcf,upd_same]
    have kk:∀ b o,Kn H b o→Kn H' b o:=fun b o k=>at_ b _ (fun z=>by
      have k':H b = some (.frz o anyHO):=k
      rw [z,hP] at k'; cases k') k
    refine h _ _ hfn at_ ⟨l ++ [(pos,c')],tP,fun q m=>?_⟩ ⟨doc,_,c',ctv,oc,vs,t,by rw [← hfo] at kf; exact kf,kc,hd,hv⟩
    rcases List.mem_append.mp m with m | m
    · obtain ⟨qual,oc',vs',t',m1,k1,d1⟩:=hl q m
      exact ⟨qual,oc',vs',t',m1,kk _ _ k1,d1⟩
    · rw [List.mem_singleton.mp m]
      exact ⟨_,oc,vs,t,hmem,kc,hd,hv⟩
end
end L2
namespace L2
open PySem PySem.Spec PyProof.Rows
noncomputable def froz (cs:List Addr) (os:List Obj) (H:Hp):Hp:=fun b=>match (cs.zip os).lookup b with
  | some o=>some (.frz o anyHO)
  | none=>H b
structure Froz (env:Env) (N:List Str) (σ:St) (fr:List Str) (cs:List Addr) (os:List Obj):Prop where
  l1:cs.length = fr.length
  l2:os.length = fr.length
  at_:∀ (j:Nat) x,fr[j]? = some x→∃ (c:Addr) (o:Obj) (i:Nat) (v:V) (u:Value),cs[j]? = some c∧os[j]? = some o∧env.cells.lookup x = some c∧N[i]? = some x∧σ[i]? = some (some v)∧o.data = .cell (some u)∧RelV v u
  nd:cs.Nodup
theorem lookupA_none {α:Type} {b:Addr}:∀ {cs:List Addr} {os:List α},b ∉ cs→(cs.zip os).lookup b = none
  | [],_,_=>rfl
  | c :: r,[],_=>rfl
  | c :: r,o :: q,h=>by
    rw [List.zip_cons_cons,List.lookup_cons]
    have:(b == c) = false:=beq_eq_false_iff_ne.mpr fun e=>h (by rw [e]; exact List.mem_cons_self)
    rw [this]
    exact lookupA_none fun m=>h (List.mem_cons_of_mem _ m)
theorem lookupA_some {α:Type} {b:Addr} {o:α}:∀ {cs:List Addr} {os:List α} {j:Nat},cs.Nodup→cs[j]? = some b→os[j]? = some o→(cs.zip os).lookup b = some o
  | [],_,_,_,h,_=>by simp at h
  | c :: r,[],_,_,_,h=>by simp at h
  | c :: r,o' :: q,0,nd,h1,h2=>by
    simp at h1 h2
    subst h1 h2
    rw [List.zip_cons_cons,List.lookup_cons,beq_self_eq_true]
  | c :: r,o' :: q,j + 1,nd,h1,h2=>by
    have h1':r[j]? = some b:=by simpa using h1
    rw [List.nodup_cons] at nd
    rw [List.zip_cons_cons,List.lookup_cons]
    have:(b == c) = false:=beq_eq_false_iff_ne.mpr fun e=>nd.1 (by rw [← e]; exact List.mem_of_getElem? h1')
    rw [this]
    exact lookupA_some nd.2 h1' (by simpa using h2)
theorem froz_out {cs:List Addr} {os:List Obj} {H:Hp} {b:Addr} (h:b ∉ cs):froz cs os H b = H b:=by unfold froz; rw [lookupA_none h]
theorem froz_at {cs:List Addr} {os:List Obj} {H:Hp} {b:Addr} {o:Obj} {j:Nat} (nd:cs.Nodup) (h1:cs[j]? = some b) (h2:os[j]? = some o):Kn (froz cs os H) b o:=by unfold Kn froz; rw [lookupA_some nd h1 h2]
theorem froz_in {cs:List Addr} {os:List Obj} {H:Hp} {b:Addr} (nd:cs.Nodup) (hl:os.length = cs.length) (h:b ∈ cs):∃ (j:Nat) (o:Obj),cs[j]? = some b∧os[j]? = some o∧Kn (froz cs os H) b o:=by
  obtain ⟨j,hj,e⟩:=List.mem_iff_getElem.mp h
  have h1:cs[j]? = some b:=by rw [List.getElem?_eq_getElem hj,e]
  have h2:os[j]? = some os[j]:=List.getElem?_eq_getElem (by lia)
  exact ⟨j,_,h1,h2,froz_at nd h1 h2⟩
noncomputable def tDefC (env:Env) (N:List Str) (fr:List Str) (is:List Nat) (sp:Sp) (t:TA):TE:=fun σ H Q=>t σ H fun vs H1=>(∀ i ∈ is,∃ v,σ[i]? = some (some v)) ∧
  ∀ cs os,Froz env N σ fr cs os→(∀ c ∈ cs,H1 c = none)→sp vs (froz cs os H1) (fun v H2=>Q v (rem cs H2)) E0
section
variable {X:Cx} {e:Expr} {es:List Expr} {t:TA} {p pos:Pos}
theorem pe_defC {k : Nat} {x : Str} {ps : List Str} {sp : Sp} {fr : List Str} {is : List Nat} (D : Def X.prog X.w X.K X.mg X.base k x ps sp) (hr : Room k X.A) (hg : Gl X x) (ha : PA X (e :: es) t) (hdb : (x == ("__debug__" : Str)) = false)
    (hst:noStars (e :: es) = true) (hl:is.length = fr.length) (hfr:∀ (j:Nat) y i,fr[j]? = some y→is[j]? = some i→X.N[i]? = some y∧X.env.scope.names.lookup y = some .cell∧X.fn y = true) (hnd:fr.Nodup) :
    PE X (.Call (.Name x p) (e :: es) [] pos) (tDefC X.env X.N fr is sp t):=by
  obtain ⟨f,fd,mgf,kp,_,b,G⟩:=D.ex
  have h':noStar e = true∧noStars es = true:=by simpa [noStars] using hst
  have he:=starEach_cons (es:=es) (env:=X.env) h'.1
  have hpl:=back_any (env:=X.env) (pos:=pos) h'.2
  intro pins s σ H Q I h
  refine wpAny_Call_Name_kw (ld_glob I hg mgf ?_ hdb)
  refine PySem.W.callWith_K (h₀:=X.base) I.ok.mod.kin kp (thn (ha pos pins s σ H _ I h) fun us s1 ⟨vs,H1,I1,r,hv,q⟩=>⟨I1.kIn,?_⟩) he hpl
  have cell:∀ (j:Nat) y,fr[j]? = some y→∃ (c:Addr) (o:Obj) (i:Nat) (v:V) (u:Value),X.env.cells.lookup y = some c∧s1.heap.get? c = some o∧X.N[i]? = some y∧σ[i]? = some (some v)∧o.data = .cell (some u)∧RelV v u:=fun j y hy=>by
    have hj:j < is.length:=by rw [hl]; exact (List.getElem?_eq_some_iff.mp hy).1
    obtain ⟨z1,z2,z3⟩:=hfr j y is[j] hy (List.getElem?_eq_getElem hj)
    obtain ⟨v,ev⟩:=hv is[j] (List.getElem_mem hj)
    obtain ⟨m,_,hlk⟩:=I1.loc
    obtain ⟨u,ru,lk⟩:=hlk _ y v z1 ev (.inr (.inl z2))
    rcases lk with ⟨k1,_⟩ | ⟨_,c,hc,o,ho,hd⟩
    · have k1':X.env.scope.names.lookup y = some .local:=k1
      rw [z2] at k1'
      cases k1'
    · exact ⟨c,o,_,v,u,hc,ho,z1,ev,hd,ru⟩
  let cs:List Addr:=fr.map fun y=>(X.env.cells.lookup y).getD 0
  let os:List Obj:=cs.map fun c=>(s1.heap.get? c).getD default
  have csj:∀ (j:Nat) y c,fr[j]? = some y→X.env.cells.lookup y = some c→cs[j]? = some c:=fun j y c h1 h2=>by
    show (fr.map _)[j]? = _
    rw [List.getElem?_map,h1]
    show some ((X.env.cells.lookup y).getD 0) = _
    rw [h2]; rfl
  have osj:∀ (j:Nat) c o,cs[j]? = some c→s1.heap.get? c = some o→os[j]? = some o:=fun j c o h1 h2=>by
    show (cs.map _)[j]? = _
    rw [List.getElem?_map,h1]
    show some ((s1.heap.get? c).getD default) = _
    rw [h2]; rfl
  have l1:cs.length = fr.length:=List.length_map ..
  have l2:os.length = fr.length:=by rw [← l1]; exact List.length_map ..
  have mem:∀ c ∈ cs,∃ (y:Str) (j:Nat),fr[j]? = some y∧X.env.cells.lookup y = some c:=fun c m=>by
    obtain ⟨j,hj,ec⟩:=List.mem_iff_getElem.mp m
    have hj':j < fr.length:=by lia
    obtain ⟨c',o,i,v,u,a1,_⟩:=cell j fr[j] (List.getElem?_eq_getElem hj')
    have:=csj j _ c' (List.getElem?_eq_getElem hj') a1
    rw [List.getElem?_eq_getElem hj,ec] at this
    cases this
    exact ⟨_,j,List.getElem?_eq_getElem hj',a1⟩
  have nd:cs.Nodup:=by
    refine List.nodup_iff_pairwise_ne.mpr (List.pairwise_iff_getElem.mpr fun i j hi hj hij e=>?_)
    have hi':i < fr.length:=by lia
    have hj':j < fr.length:=by lia
    obtain ⟨ci,_,_,_,_,a1,_⟩:=cell i fr[i] (List.getElem?_eq_getElem hi')
    obtain ⟨cj,_,_,_,_,b1,_⟩:=cell j fr[j] (List.getElem?_eq_getElem hj')
    have ei:=csj i _ ci (List.getElem?_eq_getElem hi') a1
    have ej:=csj j _ cj (List.getElem?_eq_getElem hj') b1
    rw [List.getElem?_eq_getElem hi] at ei
    rw [List.getElem?_eq_getElem hj] at ej
    have:ci = cj:=(Option.some.inj ei).symm.trans (e.trans (Option.some.inj ej))
    subst this
    have z:=I1.ok.inj _ _ _ a1 b1
    have:=(List.getElem_inj hnd).mp z
    lia
  have F:Froz X.env X.N σ fr cs os:=⟨l1,l2,fun j y hy=>by
    obtain ⟨c,o,i,v,u,a1,a2,a3,a4,a5,a6⟩:=cell j y hy
    have:=csj j y c hy a1
    exact ⟨c,o,i,v,u,this,osj j c o this a2,a1,a3,a4,a5,a6⟩,nd⟩
  have hcn:∀ c ∈ cs,H1 c = none:=fun c m=>by
    obtain ⟨y,j,_,a⟩:=mem c m
    exact I1.freeC y c a
  have hl2:os.length = cs.length:=by lia
  have hobj:∀ c o,Kn (froz cs os H1) c o→c ∈ cs→s1.heap.get? c = some o:=fun c o k m=>by
    obtain ⟨j,o',h1,h2,h3⟩:=froz_in (H:=H1) nd hl2 m
    obtain ⟨y,j2,hy,a⟩:=mem c m
    obtain ⟨c2,o2,i,v,u,a1,a2,_⟩:=cell j2 y hy
    rw [a] at a1
    cases a1
    have e1:=csj j2 y c hy a
    have e2:=osj j2 c o2 e1 a2
    have k2:=froz_at (H:=H1) nd e1 e2
    unfold Kn at k k2
    rw [k] at k2
    cases k2
    exact a2
  have old:∀ c ∈ cs,X.s₀.heap.objs.size ≤ c:=fun c m=>by
    obtain ⟨y,j,hy,a⟩:=mem c m
    have hj:j < is.length:=by rw [hl]; exact (List.getElem?_eq_some_iff.mp hy).1
    exact I1.ok.cab y c (hfr j y is[j] hy (List.getElem?_eq_getElem hj)).2.2 a
  have hok:HOk X.prog X.w (froz cs os H1) s1.heap:=fun b u e=>by
    by_cases m:b ∈ cs
    · obtain ⟨j,o,h1,h2,h3⟩:=froz_in (H:=H1) nd hl2 m
      have h3':froz cs os H1 b = some (.frz o anyHO):=h3
      rw [h3'] at e
      cases e
      exact ok_any (hobj b o h3 m)
    · rw [froz_out m] at e
      refine (I1.hok b u e).stay (fun _ _ _ q=>q) (fun c q=>?_) fun c xs q=>?_
      · rw [froz_out fun mc=>by rw [hcn c mc] at q; cases q]; exact q
      · rw [froz_out fun mc=>by rw [hcn c mc] at q; cases q]; exact q
  have E:=I1.env0
  have notB:∀ {b:Addr},b < X.s₀.heap.objs.size→b ∉ cs:=fun {b} hb m=>absurd (Nat.lt_of_lt_of_le hb (old b m)) (Nat.lt_irrefl _)
  have frn:∀ b ∈ frs X.stack,b ∉ cs:=fun b hb m=>by
    rcases List.mem_cons.mp (I1.stkSub b hb) with z | z
    · obtain ⟨y,j,_,a⟩:=mem b m
      exact I1.cne y b a z
    · obtain ⟨_,o,ho,_⟩:=I1.ok.funs.mem z
      exact notB (Heap.lt_size ho) m
  have E':Env0 X.prog X.w X.K X.mg X.base X.A X.stack s1 (froz cs os H1):=⟨E.frames,E.mod,fun b o hb=>⟨(E.bs b o hb).1,by
    rw [froz_out (notB (Nat.lt_of_lt_of_le (Heap.lt_size hb) I1.ok.bsz))]; exact (E.bs b o hb).2⟩,E.bsz,E.funs,fun b hb=>by rw [froz_out (frn b hb)]; exact E.frf b hb,hok,E.bare⟩
  have hq:=q cs os F hcn
  have hlen:us.length = ps.length:=by rw [← r.length]; exact G.len _ _ _ _ hq
  have hbind:=b s1 us I1.kIn (by rw [List.append_nil]; exact hlen)
  rw [List.append_nil] at hbind
  refine wpAny_call (codeAny_mono (G.run X.A X.stack s1 (froz cs os H1) ⟨us,[]⟩ us vs _ E0 hr E' hbind r hq) fun r' s' hq'=>?_)
  cases r' with
  | error e=>exact hq'.elim
  | ok fl =>
    cases fl with
    | next=>exact False.elim hq'
    | brk=>exact False.elim hq'
    | cont=>exact False.elim hq'
    | ret u =>
      obtain ⟨v,H2,os',bare,un,hok2,rv,qv⟩:=hq'
      have kn2:∀ c ∈ cs,∃ o,Kn H2 c o:=fun c m=>by
        obtain ⟨j,o,h1,h2,h3⟩:=froz_in (H:=H1) nd hl2 m
        exact ⟨o,un.frzs c o _ h3⟩
      have cellK:∀ b o,b ∈ cs→s1.heap.get? b = some o→s'.heap.get? b = some o:=fun b o m ho=>by
        obtain ⟨j,o2,h1,h2,h3⟩:=froz_in (H:=H1) nd hl2 m
        have e1:=hobj b o2 h3 m
        rw [ho] at e1
        cases e1
        exact Kn.get (un.frzs b o _ h3) hok2
      refine I1.after ⟨v,rem cs H2,os',bare,⟨fun b o ho n hb hx=>?_,fun b o ho n hb hx=>?_,fun b o ho n hx=>?_,un.there,fun b xs e=>?_,fun b o z e=>?_,fun b ps' e=>?_⟩,hok2.rem kn2,rv,qv⟩
      · by_cases m:b ∈ cs
        · exact cellK b o m ho
        · exact un.keep b o ho (by rw [froz_out m]; exact n) hb hx
      · by_cases m:b ∈ cs
        · exact ⟨o.slots,cellK b o m ho⟩
        · exact un.slot b o ho (by rw [froz_out m]; exact n) hb hx
      · by_cases m:b ∈ cs
        · exact rem_in m
        · rw [rem_out m]
          exact un.free b o ho (by rw [froz_out m]; exact n) hx
      · have m:b ∉ cs:=fun m=>by rw [hcn b m] at e; cases e
        rw [rem_out m]
        exact un.tups b xs (by rw [froz_out m]; exact e)
      · have m:b ∉ cs:=fun m=>by rw [hcn b m] at e; cases e
        rw [rem_out m]
        exact un.frzs b o z (by rw [froz_out m]; exact e)
      · have m:b ∉ cs:=fun m=>by rw [hcn b m] at e; cases e
        rw [rem_out m]
        exact un.tbls b ps' (by rw [froz_out m]; exact e)
end
theorem CloAt.lent {H : Hp} {f : Addr} {name qual : Str} {st : Stmt} {env : Env} {N : List Str} {σ : St} {fr : List Str} {cs : List Addr} {os : List Obj} {ws : List V} (M : Made H f name qual st (closOf env (defScope st).names [])) (F : Froz env N σ fr cs os) (hn : ∀ c ∈ cs, H c = none) (hN : N.Nodup) (hnd : fr.Nodup)
    (hall:∀ y ∈ (defScope st).names,y.2 = .free→y.1 ∈ fr) (hfre:∀ x ∈ fr,(x,NameKind.free) ∈ (defScope st).names) (hl:ws.length = fr.length)
    (hw:∀ (j i:Nat) x v,fr[j]? = some x→N[i]? = some x→σ[i]? = some (some v)→ws[j]? = some v):CloAt (froz cs os H) f name qual st fr cs ws:=by
  have up:∀ b o,Kn H b o→Kn (froz cs os H) b o:=fun b o k=>by
    unfold Kn at k ⊢
    rw [froz_out fun m=>by rw [hn b m] at k; cases k]
    exact k
  have keys:∀ {names:List (Str × NameKind)} {acc:List (Str × Addr)} {x:Str} {c:Addr},(∀ y ∈ names,y.2 = .free→y.1 ∈ fr)→(∀ x c,acc.lookup x = some c→x ∈ fr)→(closOf env names acc).lookup x = some c→x ∈ fr:=by
    intro names
    induction names with
    | nil=>intro acc x c _ ha e; exact ha x c e
    | cons p r ih =>
      intro acc x c hy ha e
      obtain ⟨n,k⟩:=p
      unfold closOf at e
      have hr:∀ y ∈ r,y.2 = .free→y.1 ∈ fr:=fun y m=>hy y (List.mem_cons_of_mem _ m)
      split at e
      · rename_i hk
        have hk':k = .free:=beq_iff_eq.mp hk
        split at e
        · refine ih hr (fun x' c' q=>?_) e
          rw [List.lookup_cons] at q
          cases hb:x' == n with
          | true=>rw [beq_iff_eq.mp hb]; exact hy (n,k) List.mem_cons_self hk'
          | false=>rw [hb] at q; exact ha x' c' q
        · exact ih hr ha e
      · exact ih hr ha e
  refine ⟨⟨closOf env (defScope st).names [],⟨?_⟩,fun x c e=>?_,fun j x e=>?_⟩,fun j v e=>?_,F.l1,hl,F.nd⟩
  · obtain ⟨doc,pm,c',ctv,oc,vs,t,h1,h2,h3⟩:=M.ex
    exact ⟨doc,pm,c',ctv,oc,vs,t,up _ _ h1,up _ _ h2,h3⟩
  · have hx:=keys hall (fun x c q=>by simp at q) e
    obtain ⟨j,hj,ex⟩:=List.mem_iff_getElem.mp hx
    have ej:fr[j]? = some x:=by rw [List.getElem?_eq_getElem hj,ex]
    obtain ⟨c2,o,i,v,u,a1,a2,a3,_⟩:=F.at_ j x ej
    have:=closOf_ok (env:=env) (fun n c e=>by simp at e) x c e
    rw [a3] at this
    cases this
    exact ⟨j,ej,a1⟩
  · obtain ⟨c2,o,i,v,u,a1,a2,a3,_⟩:=F.at_ j x e
    obtain ⟨c,hc⟩:=Option.isSome_iff_exists.mp (closOf_has (env:=env) (acc:=[]) (hfre x (List.mem_of_getElem? e)) a3)
    have:=closOf_ok (env:=env) (fun n c e=>by simp at e) x c hc
    rw [a3] at this
    cases this
    exact ⟨_,hc,a1⟩
  · have hj:j < fr.length:=by rw [← hl]; exact (List.getElem?_eq_some_iff.mp e).1
    obtain ⟨c2,o,i,v',u,a1,a2,a3,a4,a5,a6,a7⟩:=F.at_ j fr[j] (List.getElem?_eq_getElem hj)
    have:=hw j i _ v' (List.getElem?_eq_getElem hj) a4 a5
    rw [e] at this
    cases this
    exact ⟨c2,o,u,a1,froz_at F.nd a1 a2,a6,a7⟩
structure Only2 (ts:List (Addr × Addr)) (H:Hp):Prop where
  tabs:∀ q ∈ ts,H q.2 = some (.tbl #[])
  rest:∀ b,H b = none∨(∃ q ∈ ts,q.2 = b)∨∃ o xs,H b = some (.frz o (.lst xs))
theorem law_call2 {P : Program} {w : World} {K : PySem.W.Frag} {mg mb : Str → Option Value} {CX : CXT} {k : Nat} {fa a : Addr} {fd : FuncData} {x : Str} {sp : Sp} {s₁ : Shared} {vs : List Value} {ns : List Int} {ts : List (Addr × Addr)}
    (KX:K.In s₁.heap) (hns:s₁.heap.Ns mainGlobals mg) (hb:s₁.heap.Ns builtinsNs mb) (hbb:∀ x:Str,x ≠ "__name__"→mb x = bootBuiltins x) (hlim:s₁.heap.NoLimit) (hg:s₁.gens = #[]) (hbm:BMain mg s₁.heap)
    (hT:PySem.W.TabsAt ts s₁.heap) (hnt:PySem.W.noTabs K = true)
    (ha:s₁.heap.get? a = some { cls:=.type "list",data:=.seq vs.toArray }) (hi:IntsAre vs ns) (hl:ns.length ≤ sizeLine) (hr:Room k callerA)
    (F:∀ base:Heap,K.In base→base.Ns mainGlobals mg→BMain mg base→FnOk P w K mg base CX k fa fd [x] sp) (hbind:∀ (s:Shared) (u:Value),BindsTo s fd ⟨[u],[]⟩ [(x,u)])
    (hsp:∀ H:Hp,Only2 ts H→SqL K H a (ns.map V.int)→sp [.ref a] H (fun v _=>v = .bl true) fun _ _ _=>False)
    (hCX:∀ H e s',CX [] H s₁ (fun _ _ _=>False) e s'→False) :
    codeAny (model P w) callerA (.call (.ref fa) ⟨[.ref a],[]⟩) (fun r s'=>r = .ok (.ret (.bool true))∧OldK s₁.heap s'.heap∧s'.os = s₁.os∧AllBare s'.gens) s₁:=by
  have rv:=vals_ints hi
  have lenV:=hi.length
  have tabN:∀ q ∈ ts,q.2 ≠ a:=fun q m z=>by
    have:=(hT q m).2
    rw [z,ha] at this; cases this
  have tabK:∀ q ∈ ts,K.lookup q.2 = none:=fun q m=>by
    cases e:K.lookup q.2 with
    | none=>rfl
    | some o =>
      have h1:=KX _ _ e
      rw [(hT q m).2] at h1
      cases h1
      have h2:=List.all_eq_true.mp hnt (q.2,PySem.W.tabObj #[]) (PySem.W.mem_of_lookupK e)
      exact absurd (show false = true from h2) Bool.false_ne_true
  have core : ∀ H : Hp, Only2 ts H → SqL K H a (ns.map V.int) → HOk P w H s₁.heap → (∀ b, H b ≠ none → b = a ∨ ∃ q ∈ ts, q.2 = b) → (H a ≠ none → K.lookup a = none) →
      codeAny (model P w) callerA (.call (.ref fa) ⟨[.ref a],[]⟩) (fun r s'=>r = .ok (.ret (.bool true))∧OldK s₁.heap s'.heap∧s'.os = s₁.os∧AllBare s'.gens) s₁:=by
    intro H hO hS hok hA hK
    have base_of:∀ {b:Addr} {o:Obj},s₁.heap.get? b = some o→H b = none→(hidT s₁.heap H).get? b = some o:=fun e n=>hidT_get e n
    have noC:∀ {b:Addr} {o:Obj},s₁.heap.get? b = some o→o.cls ≠ .none→(∀ xs n,o.data ≠ .seq xs n)→H b = none:=fun {b o} e c d=>by
      cases q:H b with
      | none=>rfl
      | some u =>
        rcases hA b (by rw [q]; simp) with z | ⟨q',m,z⟩
        · subst z; rw [ha] at e; cases e; exact absurd rfl (d _ _)
        · have:=(hT q' m).2; rw [z,e] at this; cases this; exact absurd rfl c
    have noA:∀ {b:Addr} {o:Obj} {es:Array DictEntry} {ep:Nat},s₁.heap.get? b = some o→o.data = .dict es ep→H b = none:=fun {b o es ep} e d=>by
      cases q:H b with
      | none=>rfl
      | some u =>
        rcases hA b (by rw [q]; simp) with z | ⟨q',m,z⟩
        · subst z
          rw [ha] at e; cases e
          have d':Data.seq vs.toArray _ = Data.dict es ep:=d
          cases d'
        · have:=(hT q' m).2
          rw [z,e] at this; cases this; cases d
    have nsK:∀ {b:Addr} {m:Str→Option Value},s₁.heap.Ns b m→(hidT s₁.heap H).Ns b m:=fun {b m} ⟨o,es,ep,e,d,r⟩=>⟨o,es,ep,base_of e (noA e d),d,r⟩
    have hKb:K.In (hidT s₁.heap H):=fun b o e=>base_of (KX b o e) (by
      cases q:H b with
      | none=>rfl
      | some u =>
        rcases hA b (by rw [q]; simp) with z | ⟨q',m,z⟩
        · subst z
          rw [hK (by rw [q]; simp)] at e; cases e
        · subst z
          rw [tabK q' m] at e; cases e)
    have hBb:BMain mg (hidT s₁.heap H):=by
      obtain ⟨bm,ob,b1,b2,b3,b4,b5,b6⟩:=hbm
      exact ⟨bm,ob,b1,b2,base_of b3 (noC b3 (by rw [b4]; intro z; cases z) (by rw [b6]; intro _ _ z; cases z)),b4,b5,b6⟩
    have hM:Mod K mg (hidT s₁.heap H):=⟨hKb,nsK hns,⟨mb,nsK hb,hbb⟩,let ⟨mc,h1,h2⟩:=hlim; ⟨mc,nsK h1,h2⟩⟩
    have e0:Env0 P w K mg (hidT s₁.heap H) callerA [] s₁ H:=⟨rfl,hM,fun b o e=>of_hidT e,Nat.le_of_eq (hidT_size _ _),trivial,fun b hb=>absurd (show b ∈ ([]:List Addr) from hb) (by simp),hok,.of_eq hg⟩
    refine codeAny_mono ((F _ hKb (nsK hns) hBb).run callerA [] s₁ H ⟨[.ref a],[]⟩ [.ref a] [.ref a] _ _ hr e0 (hbind s₁ (.ref a)) (.cons rfl .nil) (hsp H hO hS)) fun r s' h=>?_
    cases r with
    | error e=>exact (hCX H e s' h).elim
    | ok fl =>
      cases fl with
      | next=>exact False.elim h
      | brk=>exact False.elim h
      | cont=>exact False.elim h
      | ret u =>
        obtain ⟨v,H',os,bare,un,hok',r',q⟩:=h
        have q':v = .bl true:=q
        subst q'
        obtain rfl:u = Value.bool true:=r'
        have key:∀ b o,s₁.heap.get? b = some o→s'.heap.get? b = some o∨∃ q ∈ ts,q.2 = b∧o = PySem.W.tabObj #[]∧∃ ps,s'.heap.get? b = some (PySem.W.tabObj ps):=fun b o e=>by
          cases q:H b with
          | none=>exact .inl (un.keep b o e q (by intro z; exact absurd (show b ∈ ([]:List Addr) from z) (by simp)) (by simp))
          | some u =>
            rcases hO.rest b with z | ⟨q',m,z⟩ | ⟨ob,xs,z⟩
            · rw [q] at z; cases z
            · subst z
              have h1:=hO.tabs q' m
              obtain ⟨more,h2⟩:=un.tbls _ _ h1
              have h3:=hok' _ _ h2
              have h4:=(hT q' m).2
              rw [e] at h4
              cases h4
              exact .inr ⟨q',m,rfl,rfl,_,h3⟩
            · have z2:=un.frzs b ob _ z
              obtain ⟨e1,_⟩:=hok b _ z
              obtain ⟨e2,_⟩:=hok' b _ z2
              rw [e] at e1; cases e1
              exact .inl e2
        refine ⟨rfl,⟨fun b o e=>?_,fun b o e=>?_⟩,os,bare⟩
        · rcases key b o e with z | ⟨q',m,z,eo,ps,z2⟩
          · exact .inl z
          · subst z eo
            exact .inr (.inl ⟨((hT q' m).1.tab (hT q' m).2).isCodeTable,rfl,#[],ps,rfl,by rw [Array.empty_append]; exact z2⟩)
        · rcases key b o e with z | ⟨q',m,z,eo,ps,z2⟩
          · exact ⟨_,z⟩
          · exact ⟨_,z2⟩
  have tb:∀ b,(∃ q ∈ ts,q.2 = b) ↔ b ∈ ts.map (·.2):=fun b=>by rw [List.mem_map]
  cases hk:K.lookup a with
  | some o =>
    have e:=KX a o hk
    rw [ha] at e
    cases e
    refine core (fun b=>if b ∈ ts.map (·.2) then some (.tbl #[]) else none) ⟨fun q m=>if_pos ((tb _).mp ⟨q,m,rfl⟩),fun b=>?_⟩ (.inr ⟨_,vs.toArray,_,hk,rfl,rfl,rfl,by rw [List.size_toArray,lenV]; exact hl,by simpa using rv⟩) (fun b u z=>?_) (fun b z=>?_) fun z=>?_
    · by_cases m:b ∈ ts.map (·.2)
      · exact .inr (.inl ((tb b).mpr m))
      · exact .inl (if_neg m)
    · by_cases m:b ∈ ts.map (·.2)
      · have z':=(if_pos m).symm.trans z
        cases z'
        obtain ⟨q,mq,rfl⟩:=(tb b).mpr m
        exact (hT q mq).2
      · have z':=(if_neg m).symm.trans z
        cases z'
    · by_cases m:b ∈ ts.map (·.2)
      · exact .inr ((tb b).mpr m)
      · exact absurd (if_neg m) z
    · by_cases m:a ∈ ts.map (·.2)
      · obtain ⟨q,mq,e⟩:=(tb a).mpr m
        exact absurd e (tabN q mq)
      · exact absurd (if_neg m) z
  | none =>
    refine core (fun b=>if b = a then some (.frz { cls:=.type "list",data:=.seq vs.toArray } (.lst (ns.map V.int))) else if b ∈ ts.map (·.2) then some (.tbl #[]) else none) ⟨fun q m=>?_,fun b=>?_⟩ (.inl (.inr ⟨{ cls:=.type "list",data:=.seq vs.toArray },if_pos rfl⟩)) (fun b u z=>?_) (fun b z=>?_) fun _=>hk
    · rw [if_neg (tabN q m),if_pos ((tb _).mp ⟨q,m,rfl⟩)]
    · by_cases hb:b = a
      · exact .inr (.inr ⟨_,_,if_pos hb⟩)
      · by_cases m:b ∈ ts.map (·.2)
        · exact .inr (.inl ((tb b).mpr m))
        · exact .inl (by rw [if_neg hb,if_neg m])
    · dsimp only at z
      by_cases hb:b = a
      · rw [if_pos hb] at z
        cases z
        subst hb
        exact ⟨ha,by rw [List.length_map]; exact hl,vs,_,rv,ha⟩
      · rw [if_neg hb] at z
        by_cases m:b ∈ ts.map (·.2)
        · rw [if_pos m] at z
          cases z
          obtain ⟨q,mq,rfl⟩:=(tb b).mpr m
          exact (hT q mq).2
        · rw [if_neg m] at z; cases z
    · by_cases hb:b = a
      · exact .inl hb
      · rw [if_neg hb] at z
        by_cases m:b ∈ ts.map (·.2)
        · exact .inr ((tb b).mpr m)
        · rw [if_neg m] at z; exact absurd rfl z
theorem walk_of2 {l : PySem.W.OpenLaw} {n k : Nat} {q : Program} {loose : List Str} {XP : (Str → Option Value) → Heap → Prop} {YP : World → Heap → Prop} {d : DefRec} {K : Params → PySem.W.Frag} {CX : CXT} {sp : PySem.W.Frag → Sp} {x : Str} (ts : List Addr)
    (hn:l.most = some n) (hn2:n ≤ sizeLine) (hdf:d.params.defaults = []) (hr:Room k callerA)
    (hY:∀ (w:World) (h:Heap),YP w h→(K w.params).In h) (hT:∀ (w:World) (h:Heap),YP w h→∀ q ∈ ts,h.get? q = some (PySem.W.tabObj #[])) (hnt:∀ P:Params,PySem.W.noTabs (K P) = true)
    (F:∀ (w:World) (mg:Str→Option Value) (fa:Addr) (h:Heap),(K w.params).In h→h.Ns mainGlobals mg→mg d.name = some (.ref fa) →
      (∀ q ∈ ts,∃ c,PySem.W.codeHdIn (K w.params) c q = true)∧∃ fd:FuncData,(∀ (s:Shared) (u:Value),BindsTo s fd ⟨[u],[]⟩ [(x,u)]) ∧
        ∀ base:Heap,(K w.params).In base→base.Ns mainGlobals mg→BMain mg base→FnOk l.prog w (K w.params) mg base CX k fa fd [x] (sp (K w.params)))
    (hsp:∀ (K:PySem.W.Frag) (H:Hp) (a:Addr) (ns:List Int),ns.length ≤ n→(∀ q ∈ ts,H q = some (.tbl #[]))→SqL K H a (ns.map V.int)→sp K [.ref a] H (fun v _=>v = .bl true) fun _ _ _=>False)
    (hCX:∀ (H:Hp) (s:Shared) (e:Value) (s':Shared),CX [] H s (fun _ _ _=>False) e s'→False) :
    PySem.W.WalkO q loose XP YP l.row.toRowW d [] (fun f vs=>PySem.call f vs):=by
  refine Att.attach_call hn hdf fun w s₀ s₁ mg mb fa o pm cd doc a vs ns G Y ho hd hcd hmg hobj hints hlen hg=>?_
  have KX:=hY w _ Y
  obtain ⟨hC,fd,hb,hF⟩:=F w mg fa _ KX G.T.g hmg
  have pairs:∀ l:List Addr,(∀ q ∈ l,∃ c,PySem.W.codeHdIn (K w.params) c q = true)→∃ ps:List (Addr × Addr),ps.map (·.2) = l∧∀ q ∈ ps,PySem.W.codeHdIn (K w.params) q.1 q.2 = true:=by
    intro l
    induction l with
    | nil=>exact fun _=>⟨[],rfl,fun q m=>nomatch m⟩
    | cons x r ih =>
      intro h
      obtain ⟨c,hc⟩:=h x List.mem_cons_self
      obtain ⟨ps,e,hp⟩:=ih fun q m=>h q (List.mem_cons_of_mem _ m)
      refine ⟨(c,x) :: ps,by rw [List.map_cons,e],fun q m=>?_⟩
      rcases List.mem_cons.mp m with z | z
      · rw [z]; exact hc
      · exact hp q z
  obtain ⟨ps,e,hp⟩:=pairs ts hC
  have hT':∀ q ∈ ps,s₁.heap.get? q.2 = some (PySem.W.tabObj #[]):=fun q m=>hT w _ Y q.2 (by rw [← e]; exact List.mem_map_of_mem (f:=(·.2)) m)
  exact law_call2 (ts:=ps) KX G.T.g G.T.b G.T.builtins G.T.nolimit hg G.T.bmain (fun q m=>⟨PySem.W.codeHd_of_K KX (hp q m),hT' q m⟩) (hnt _) hobj hints (Nat.le_trans hlen hn2) hr hF hb
    (fun H hO hS=>hsp _ H a ns hlen (fun q m=>by rw [← e] at m; obtain ⟨r,hr,rfl⟩:=List.mem_map.mp m; exact hO.tabs r hr) hS) fun H e s'=>hCX H s₁ e s'
end L2
namespace L2
open PySem PySem.Spec PyProof.Rows
section
variable {X:Cx} {e a:Expr} {es:List Expr} {t:TA} {ta te:TE} {p pos:Pos} {K:PySem.W.Frag}
theorem js_ndef {i : Nat} {name : Str} {params : Arguments} {body : List Stmt} {scope : Scope} {c Pt : Addr} {qs : List (Pos × Str)} {st : Stmt} {qual : Str} (hN : X.N.Nodup) (hi : X.N[i]? = some name) (hx : Loc X.env.scope name) (hcode : X.env.code = .ref c) (hK : PySem.W.codeHdIn X.K c Pt = true) (hB : BMain X.mg X.base)
    (hq:qualnameIn X.env name name = qual) (hst:st = .FunctionDef name params body [] none [] scope none name pos) (hqs:qs = [(pos,qual)])
    (hfre:scope.names.all (fun y=>y.2 != .free || X.env.scope.names.lookup y.1 == some .cell || X.env.scope.names.lookup y.1 == some .free) = true)
    (hd0:params.defaults = []:=by rfl) (hk0:params.kw_defaults = []:=by rfl) (ha:annTrees params none X.env = []:=by rfl) (hf:X.fn name = true∨X.env.scope.names.lookup name = some .local:=by first | exact .inl rfl | exact .inr rfl | assumption) :
    JS X st (tNDef i Pt qs name qual st (closOf X.env (defScope st).names [])):=by
  subst hst hqs hq
  refine .mk (ps_ndef hN hi hx hcode hK hB (fun q m _ _=>by rw [List.mem_singleton.mp m]) (List.mem_singleton.mpr rfl) (fun y hy hk=>?_) hd0 hk0 ha hf)
  have:=List.all_eq_true.mp hfre y hy
  rw [hk] at this
  simp at this
  exact this
theorem j_defC {k : Nat} {x : Str} {ps : List Str} {sp : Sp} (fr : List Str) (is : List Nat) (D : Def X.prog X.w X.K X.mg X.base k x ps sp) (hr : Room k X.A) (hg : Gl X x) (ha : JA X (e :: es) t)
    (hfr:(fr.zip is).all (fun q=>X.N[q.2]? == some q.1 && X.env.scope.names.lookup q.1 == some .cell && X.fn q.1) = true) (hl:is.length = fr.length:=by rfl) (hnd:fr.Nodup:=by decide +kernel) (hdb:(x == ("__debug__":Str)) = false:=by decide)
    (hst:noStars (e :: es) = true:=by rfl):JE X (.Call (.Name x p) (e :: es) [] pos) (tDefC X.env X.N fr is sp t):=by
  refine .mk (pe_defC D hr hg ha.out hdb hst hl (fun j y i h1 h2=>?_) hnd)
  have m:(y,i) ∈ fr.zip is:=List.mem_iff_getElem?.mpr ⟨j,by rw [List.getElem?_zip_eq_some]; exact ⟨h1,h2⟩⟩
  have:=List.all_eq_true.mp hfr _ m
  simp only [Bool.and_eq_true,beq_iff_eq] at this
  exact ⟨this.1.1,this.1.2,this.2⟩
noncomputable def mNeg (ta:TE):TE:=fun σ H Q=>ta σ H fun x H1=>match x with
  | .int i=>Q (.int (-i)) H1
  | _=>False
theorem j_neg (ha:JE X a ta):JE X (.UnaryOp .USub a pos) (mNeg ta):=by
  refine .mk ?_
  have h:=pe_un (pos:=pos) un_neg ha.out
  intro pins s σ H Q I q
  refine h pins s σ H Q I ?_
  unfold mNeg at q
  unfold tUn
  refine cast (congrArg (ta σ H) ?_) q
  funext x H1
  refine propext ⟨fun z=>?_,fun z=>?_⟩
  · split at z
    · exact ⟨_,rfl,z⟩
    · exact z.elim
  · obtain ⟨i,rfl,z⟩:=z
    exact z
end
structure FunC (K:PySem.W.Frag) (x:Str) (st:Stmt) (f:Addr) (fd:FuncData) (c:Addr):Prop where
  ex:∃ (oc:Value) (od:Option Addr) (kV doc pm:Value) (an:Option Addr) (ct:Value) (osl:Array (Option Value)),
    fd = PySem.W.fnOf x x (defArgs st) (defBody st) (defScope st) .none kV doc pm an (.ref c) ct∧K.lookup f = some ⟨oc,od,.func fd,osl⟩∧PySem.W.codeIn K (.ref c) x = true
  kp:PySem.W.keepIn K (.ref f) = true
structure RawC (K:PySem.W.Frag) (mg:Str→Option Value) (x:Str) (st:Stmt) (ps:List Str) (c Pt:Addr):Prop where
  ex:∃ f fd,mg x = some (.ref f)∧FunC K x st f fd c∧∀ (us:List Value),us.length = ps.length→bindArgs fd ⟨us,[]⟩ = pure (ps.zip us)
  hd:PySem.W.codeHdIn K c Pt = true
theorem RawC.mk' {K : PySem.W.Frag} {mg : Str → Option Value} {h : Heap} {x : Str} {st : Stmt} {ps : List Str} {f c Pt : Addr} {oc : Value} {od an : Option Addr} {osl : Array (Option Value)} {kV doc pm ct : Value} (X : K.In h) (G : h.Ns mainGlobals mg)
    (a:PySem.W.nsIn K mainGlobals x = some (some (.ref f))) (l:K.lookup f = some ⟨oc,od,.func (PySem.W.fnOf x x (defArgs st) (defBody st) (defScope st) .none kV doc pm an (.ref c) ct),osl⟩)
    (cd:PySem.W.codeIn K (.ref c) x = true) (k:PySem.W.keepIn K (.ref f) = true) (hd:PySem.W.codeHdIn K c Pt = true)
    (hb:∀ (us:List Value),us.length = ps.length→bindArgs (PySem.W.fnOf x x (defArgs st) (defBody st) (defScope st) .none kV doc pm an (.ref c) ct) ⟨us,[]⟩ = pure (ps.zip us)):RawC K mg x st ps c Pt :=
  ⟨⟨f,_,PySem.W.mg_of X G a,⟨⟨oc,od,kV,doc,pm,an,ct,osl,rfl,l,cd⟩,k⟩,hb⟩,hd⟩
theorem FunC.lk {K:PySem.W.Frag} {x:Str} {st:Stmt} {f c:Addr} {fd:FuncData} (F:FunC K x st f fd c):∃ oc od osl,K.lookup f = some ⟨oc,od,.func fd,osl⟩:=by
  obtain ⟨oc,od,kV,doc,pm,an,ct,osl,_,lk,_⟩:=F.ex
  exact ⟨oc,od,osl,lk⟩
theorem RawC.defJ {P : Program} {w : World} {K : PySem.W.Frag} {mg : Str → Option Value} {base : Heap} {x : Str} {st : Stmt} {N ps : List Str} {k : Nat} {sp : Sp} {c Pt : Addr} (R : RawC K mg x st ps c Pt) (S : FnScope N ps (defScope st)) (len : ∀ vs H Q E, sp vs H Q E → vs.length = ps.length)
    (hbody:∀ (f:Addr) (A:Around) (outer:List Env) (s:Shared) (H:Hp) (vs:List V) (Q:VK) (E:XK),Room k (A.deeper (envOfC x (defScope st) s.heap.objs.size f (.ref c)))→sp vs H Q E →
      ∃ t,JSs (cxOf CX0 P w K mg base N x (defScope st) f (.ref c) A outer s H E).nox (defBody st) t∧t { nx:=fun _ H'=>Q .non H',rt:=Q } (start N vs) H):Def P w K mg base (k + 1) x ps sp:=by
  obtain ⟨f,fd,h1,F,b⟩:=R.ex
  have lk:=F.lk
  obtain ⟨oc,od,kV,doc,pm,an,ct,osl,rfl,l,hcd⟩:=F.ex
  refine ⟨f,_,h1,F.kp,lk,.all b,fn_of l hcd S len fun A outer s H vs Q E hr hsp=>?_⟩
  obtain ⟨t,h,q⟩:=hbody f A outer s H vs Q E hr hsp
  exact ⟨t,h.out.nox,q⟩
end L2
namespace L2
open PySem
noncomputable def ndPos (s:Stmt):Pos:=match s with
  | .FunctionDef _ _ _ _ _ _ _ _ _ p=>p
  | _=>⟨0,0,0,0⟩
end L2
namespace L2
open PySem PySem.Spec PyProof.Rows
section
variable {X:Cx} {e k:Expr} {es:List Expr} {t:TA} {te tk:TE} {p pos p2:Pos} {K:PySem.W.Frag}
end
end L2
namespace Rg
noncomputable def okSign (c:Nat):Prop:=(32 ≤ c∧c ≤ 126∧c ≠ 37)∨c = 10
end Rg
namespace Rg
open PySem PySem.Builtin PySem.Builtin.Str
noncomputable abbrev S (l:List Nat):Str:=⟨l.toArray⟩
theorem S_inj {a b : List Nat} (h : S a = S b) : a = b :=by grind
theorem S_of (x : Str) : x = S x.cps.toList :=by grind
theorem S_app (a b:List Nat):S a ++ S b = S (a ++ b):=Str.ext' (by rw [Str.cps_append]; simp)
theorem S_len (a:List Nat):(S a).length = a.length:=by simp [Str.length]
noncomputable def clipN (n:Nat) (d:Nat):Option Int→Nat
  | none=>d
  | some i=>if i < 0 then (i + n).toNat else min i.toNat n
theorem sliceIdx (lo hi:Option Int) (n:Nat):strSliceIndices lo hi 1 n = (List.range (clipN n n hi - clipN n 0 lo)).map (fun k=>clipN n 0 lo + k):=by
  have clip:∀ (v:Option Int) (d:Nat),(match v with | none=>((d:Nat):Int) | some i=>let i:=if i < 0 then i + (n:Int) else i; if (1:Int) > 0 then max 0 (min i n) else max (-1) (min i (n - 1))) = (clipN n d v:Int):=by
    intro v d
    cases v with
    | none=>rfl
    | some i =>
      unfold clipN
      dsimp only
      rw [if_pos (by decide)]
      by_cases h:i < 0
      · rw [if_pos h,if_pos h]; lia
      · rw [if_neg h,if_neg h]; lia
  have e:strSliceIndices lo hi 1 n = sliceRange (clipN n 0 lo:Int) (clipN n n hi:Int) 1:=by
    rw [← clip lo 0,← clip hi n]
    unfold strSliceIndices
    cases lo <;> cases hi <;> rfl
  rw [e]
  unfold sliceRange
  dsimp only
  rw [if_pos (by decide)]
  by_cases hlt:((clipN n 0 lo:Nat):Int) < (clipN n n hi:Int)
  · rw [if_pos hlt]
    have e3:((((clipN n n hi:Nat):Int) - (clipN n 0 lo:Nat) + 1 - 1) / 1).toNat = clipN n n hi - clipN n 0 lo:=by
      rw [Int.ediv_one]; lia
    rw [e3]
    refine List.map_congr_left fun k _=>?_
    lia
  · rw [if_neg hlt]
    have:clipN n n hi - clipN n 0 lo = 0:=by lia
    rw [this]
    simp
theorem clipN_le {n d:Nat} (hd:d ≤ n) (v:Option Int):clipN n d v ≤ n:=by
  cases v with
  | none=>exact hd
  | some i=>unfold clipN; dsimp only; split <;> lia
noncomputable def cut (l:List Nat) (lo hi:Option Int):List Nat:=(l.drop (clipN l.length 0 lo)).take (clipN l.length l.length hi - clipN l.length 0 lo)
theorem slice_S (l:List Nat) (lo hi:Option Int):Txt.slice (S l) lo hi = S (cut l lo hi):=by
  have h1:=clipN_le (Nat.zero_le l.length) lo
  have h2:=clipN_le (Nat.le_refl l.length) hi
  have hp:(strSliceIndices lo hi 1 (S l).length).filterMap ((S l).cps[·]?) = cut l lo hi:=by
    rw [S_len,sliceIdx]
    unfold cut
    by_cases h:clipN l.length 0 lo ≤ clipN l.length l.length hi
    · have:=StrLaws.picks l (clipN l.length l.length hi - clipN l.length 0 lo) (clipN l.length 0 lo) (by lia)
      simpa using this
    · have e:clipN l.length l.length hi - clipN l.length 0 lo = 0:=by lia
      rw [e]
      simp
  unfold Txt.slice
  split
  · rename_i h
    have h3:(strSliceIndices lo hi 1 (S l).length).length = (S l).length:=by simpa using h
    rw [S_len,sliceIdx,List.length_map,List.length_range] at h3
    have e1:clipN l.length 0 lo = 0:=by lia
    have e2:clipN l.length l.length hi = l.length:=by lia
    unfold cut
    rw [e1,e2]
    simp
  · rw [hp]
theorem clipN_nat (n d a:Nat):clipN n d (some (a:Int)) = min a n:=by
  unfold clipN
  dsimp only
  rw [if_neg (by lia),Int.toNat_natCast]
theorem clipN_none (n d:Nat):clipN n d none = d:=rfl
theorem cut_to (l:List Nat) (b:Nat):cut l none (some (b:Int)) = l.take b:=by
  unfold cut
  rw [clipN_nat,clipN_none,List.drop_zero,Nat.sub_zero]
  by_cases h:b ≤ l.length
  · rw [show min b l.length = b by lia]
  · rw [show min b l.length = l.length by lia,List.take_of_length_le (Nat.le_refl _),List.take_of_length_le (by lia)]
end Rg
namespace Rg
structure Prt where
  d:Nat
  m:Nat
  l:List Nat
noncomputable def tl (d:Nat) (sg:List Nat) (k c:Nat):Bool:=if d = 2 then sg[k]? == some c else if d = 0 then decide (c ∈ sg) else !decide (c ∈ sg)
noncomputable def runA (t:Nat→Nat→Bool):Nat→List Nat→Nat
  | _,[]=>0
  | k,c :: r=>if t k c then runA t (k + 1) r + 1 else 0
theorem runA_le (t:Nat→Nat→Bool):∀ (k:Nat) (l:List Nat),runA t k l ≤ l.length
  | _,[]=>Nat.le_refl _
  | k,c :: r=>by
    unfold runA
    split
    · have:=runA_le t (k + 1) r
      simp; lia
    · exact Nat.zero_le _
noncomputable def mostN (p:Prt) (left:Nat):Nat:=if p.d = 2 then p.l.length else if p.m = 2∨p.m = 3 then left + 1 else 1
noncomputable def stN (p:Prt) (l:List Nat) (pl:Nat):Nat:=min (mostN p (l.length - pl)) (runA (tl p.d p.l) 0 (l.drop pl))
noncomputable def lkN (p:Prt) (l:List Nat) (pl:Nat):Nat:=min (stN p l pl + 1) (mostN p (l.length - pl))
noncomputable def holdsN (p:Prt) (st:Nat):Bool:=if p.m = 1∨p.m = 3 then true else decide ((if p.d = 2 then p.l.length else 1) ≤ st) == decide (p.m ≠ 5)
noncomputable def nextN (p:Prt) (l:List Nat) (pl:Nat):Nat:=if p.m = 4∨p.m = 5 then pl else pl + stN p l pl
noncomputable def goF (l:List Nat) (at_:Nat):List Prt→Nat→Nat→Nat × Nat
  | [],pl,lk=>(pl - at_,lk)
  | p :: ps,pl,lk=>if holdsN p (stN p l pl) then goF l at_ ps (nextN p l pl) (max lk (pl - at_ + lkN p l pl)) else (0,max lk (pl - at_ + lkN p l pl))
noncomputable def takeF (ps:List Prt) (l:List Nat) (at_:Nat):Nat × Nat:=goF l at_ ps at_ 0
theorem stN_le (p:Prt) (l:List Nat) (pl:Nat):stN p l pl ≤ l.length - pl:=by
  unfold stN
  have:=runA_le (tl p.d p.l) 0 (l.drop pl)
  rw [List.length_drop] at this
  lia
theorem lkN_le (p:Prt) (l:List Nat) (pl:Nat):lkN p l pl ≤ l.length - pl + 1:=by
  have:=stN_le p l pl
  unfold lkN
  lia
theorem stN_lk (p:Prt) (l:List Nat) (pl:Nat):stN p l pl ≤ lkN p l pl:=by
  unfold lkN stN
  lia
theorem nextN_le {p:Prt} {l:List Nat} {pl:Nat} (h:pl ≤ l.length):pl ≤ nextN p l pl∧nextN p l pl ≤ l.length:=by
  have:=stN_le p l pl
  unfold nextN
  split <;> lia
theorem goF_le (l:List Nat) (a:Nat):∀ (ps:List Prt) (pl lk:Nat),a ≤ pl→pl ≤ l.length→a + lk ≤ l.length + 1→a + (goF l a ps pl lk).2 ≤ l.length + 1∧a + (goF l a ps pl lk).1 ≤ l.length
  | [],pl,lk,h1,h2,h3=>by
    show a + lk ≤ _∧a + (pl - a) ≤ _
    lia
  | p :: ps,pl,lk,h1,h2,h3=>by
    have hl:=lkN_le p l pl
    have hn:=nextN_le (p:=p) h2
    unfold goF
    split
    · exact goF_le l a ps _ _ (by lia) hn.2 (by lia)
    · show a + max lk _ ≤ _∧a + 0 ≤ _
      lia
end Rg
namespace Rg
open PySem PySem.Spec PyProof.Rows L2
noncomputable def deedS:Nat→Str
  | 0=>"in"
  | 1=>"out"
  | _=>"row"
noncomputable def manyS:Nat→Str
  | 0=>"once"
  | 1=>"maybe"
  | 2=>"some"
  | 3=>"any"
  | 4=>"ahead"
  | _=>"not"
structure Prt.Ok (p:Prt):Prop where
  hd:p.d < 3
  hm:p.m < 6
  row:p.d = 2→p.m = 0∨p.m = 4∨p.m = 5
  l1:1 ≤ p.l.length
  l2:p.l.length ≤ 100
  ok:∀ c ∈ p.l,okSign c
noncomputable def Prt.dat (p:Prt):PyData:=.tuple [.str (deedS p.d),.str (S p.l),.str (manyS p.m)]
theorem big:(1000000:Nat) < sizeLine:=by rw [sizeLine_eq]; decide
theorem dat_part {K:PySem.W.Frag} {H:Hp} {x:V} {p:Prt} (h:DatV K H x p.dat):∃ t,x = .ref t∧SqT K H t [.str (deedS p.d),.str (S p.l),.str (manyS p.m)]:=by
  unfold Prt.dat at h
  cases h with
  | tuple h1 h2 =>
    cases h2 with
    | cons a b =>
      cases a
      cases b with
      | cons a b =>
        cases a
        cases b with
        | cons a b =>
          cases a
          cases b
          exact ⟨_,rfl,h1⟩
theorem dat_list {K:PySem.W.Frag} {H:Hp} {x:V} {ds:List PyData} (h:DatV K H x (.list ds)):∃ a xs,x = .ref a∧SqL K H a xs∧DatVs K H xs ds:=by
  cases h with
  | list h1 h2=>exact ⟨_,_,rfl,h1,h2⟩
theorem strOk_S {l:List Nat} (h:∀ c ∈ l,okSign c):PyData.strOk (S l) = true:=by
  unfold PyData.strOk
  simp
  intro c hc
  have:=h c hc
  unfold okSign at this
  lia
theorem deedS_ok (d:Nat):PyData.strOk (deedS d) = true:=by unfold deedS; split <;> decide +kernel
theorem manyS_ok (d:Nat):PyData.strOk (manyS d) = true:=by unfold manyS; split <;> decide +kernel
theorem part_lay {p:Prt} (h:p.Ok):p.dat.canLay0 = true:=by
  unfold Prt.dat
  simp only [PyData.canLay0,PyData.canLayAll0,deedS_ok,manyS_ok,strOk_S h.ok,Bool.and_self]
theorem parts_lay:∀ {ps:List Prt},(∀ p ∈ ps,p.Ok)→PyData.canLayAll0 (ps.map Prt.dat) = true
  | [],_=>by simp only [List.map_nil,PyData.canLayAll0]
  | p :: r,h=>by
    rw [List.map_cons]
    simp only [PyData.canLayAll0,part_lay (h p List.mem_cons_self),parts_lay fun q hq=>h q (List.mem_cons_of_mem _ hq),Bool.and_self]
noncomputable def Kp (la:Addr) (H H':Hp):Prop:=∀ b u,b ≠ la→H b = some u→H' b = some u
structure AskAt (H:Hp) (an aq:Str) (ast:Stmt) (afr:List Str) (f la:Addr) (tx as:List Nat):Prop where
  clo:∃ cs,CloAt H f an aq ast afr cs [.ref la,.str (S tx)]
  lst:H la = some (.lst (as.map fun k=>V.int (k:Nat)))
theorem lent2 {H : Hp} {f : Addr} {name qual : Str} {st : Stmt} {env : Env} {N : List Str} {σ : L2.St} {fr : List Str} {cs : List Addr} {os : List Obj} {ws : List V} (M : Made H f name qual st (closOf env (defScope st).names [])) (F : Froz env N σ fr cs os) (hn : ∀ c ∈ cs, H c = none) (hN : N.Nodup) (hnd : fr.Nodup)
    (hall:(defScope st).names.all (fun y=>y.2 != .free || fr.contains y.1) = true) (hfre:fr.all (fun x=>(defScope st).names.contains (x,NameKind.free)) = true) (hl:ws.length = fr.length)
    (hw:∀ j,j < fr.length→∃ i:Nat,N[i]? = fr[j]?∧σ[i]? = some ws[j]?):CloAt (froz cs os H) f name qual st fr cs ws:=by
  refine CloAt.lent M F hn hN hnd (fun y hy hk=>?_) (fun x hx=>?_) hl fun j i x v h1 h2 h3=>?_
  · have:=List.all_eq_true.mp hall y hy
    rw [hk] at this
    simpa using this
  · have:=List.all_eq_true.mp hfre x hx
    simpa using this
  · obtain ⟨i0,a1,a2⟩:=hw j (List.getElem?_eq_some_iff.mp h1).1
    rw [h1] at a1
    have:=nodup_ix hN h2 a1
    subst this
    rw [h3] at a2
    exact (Option.some.inj a2).symm
theorem froz_some {cs:List Addr} {os:List Obj} {H:Hp} {b:Addr} {u:HO} (hn:∀ c ∈ cs,H c = none) (e:H b = some u):froz cs os H b = some u:=by
  rw [froz_out fun m=>by rw [hn b m] at e; cases e]
  exact e
theorem SmB.trans {Pt:Addr} {H H1 H2:Hp} (a:SmB Pt H H1) (b:SmB Pt H1 H2):SmB Pt H H2:=fun c u n e=>b c u n (a c u n e)
theorem SmB.of {Pt:Addr} {H H':Hp} (s:Same H H'):SmB Pt H H':=fun b u _ e=>s b u e
theorem TabOk.tab {H:Hp} {Pt:Addr} {qs:List (Pos × Str)} (T:TabOk H Pt qs):∃ ps,H Pt = some (.tbl ps):=by
  obtain ⟨l,e,_⟩:=T.ex
  exact ⟨_,e⟩
theorem TabOk.grow {H H':Hp} {Pt:Addr} {qs:List (Pos × Str)} (T:TabOk H Pt qs) (s:Same H H'):TabOk H' Pt qs:=by
  obtain ⟨l,e,h⟩:=T.ex
  exact T.same ((s _ _ e).trans e.symm) fun b o k=>s b _ k
theorem TabOk.start {H:Hp} {Pt:Addr} {qs:List (Pos × Str)} (e:H Pt = some (.tbl #[])):TabOk H Pt qs:=⟨[],e,fun q m=>nomatch m⟩
end Rg
namespace L2
open PySem PySem.Spec PyProof.Rows
theorem Inv.turnedL {X : Cx} {pins : List (Addr × Obj)} {σ : List (Option V)} {H : Hp} {s : Shared} {h' : Heap} {t' : Nat} {fp : List Addr} (I : Inv X pins σ H s) (k : ∀ b o, b ∉ fp → s.heap.get? b = some o → h'.get? b = some o)
    (hf : ∀ b ∈ fp, FpOk X pins H b) : Inv X pins σ H { s with heap := h', toks := t' } := by
  have nit : ∀ b u, H b = some u → b ∉ fp := fun b u e z => by rw [(hf b z).1] at e; cases e
  refine I.step (g' := s.gens) (d' := s.drawn) (ch := fp) (fun b hb => ?_) (fun b o _ _ hc e _ => k b o hc e) (fun b o _ _ hc e _ => ⟨o.slots, k b o hc e⟩) (fun _ _ _ _ n => n)
    (fun b o hc e => ⟨o, k b o hc e⟩) (fun _ _ e => e) (fun _ _ _ e => e) (fun b ps e => ⟨#[], by simp_all⟩) (fun m hm => ?_) (fun b u e => ?_) I.bare
  · obtain ⟨_, f1, _, f3, f4, f5⟩ := hf b hb
    exact ⟨f3, f1, f4, f5⟩
  · obtain ⟨o, es, ep, ho, r⟩ := hm
    exact ⟨o, es, ep, k _ o (fun z => (hf _ z).2.1 rfl) ho, r⟩
  · refine (I.hok b u e).stay (fun c v hc q => k c v ?_ q) (fun _ q => q) fun _ _ q => q
    rcases hc with z | z
    · rw [z]; exact nit b u e
    · exact nit c _ z
section
variable {prog:Program} {w:World} {A:Around} {E:Value→Shared→Prop} {s:Shared}
theorem nextOf_tup_item {it l : Addr} {i : Nat} {items} {x : Value} {Q : Value → Shared → Prop} (hit : s.heap.IsTupleIter it l i)
    (hl : s.heap.IsTuple l items) (hx : items[i]? = some x)
    (hQ : ∀ h', h'.IsTupleIter it l (i + 1) → Heap.SameBut it s.heap h' → Q x { s with heap := h' }) :
    wpAny (model prog w) A (Builtin.SmallTypes.nextOf (.ref it)) Q E s := by
  obtain ⟨o, ho, hc, hd⟩ := id hit
  obtain ⟨ol, hol, _, nl, hdl⟩ := hl
  unfold Builtin.SmallTypes.nextOf
  refine wpAny_bind (wpAny_callSpecial?_slot (name := Str.ofString "__next__") hit.typeIs F.slot_tuple_iterator_next
    (wpAny_call_entry F.slot_tuple_iterator_next hit.typeIs F.entry_tuple_iterator_next ?_ (F.args_tuple_iterator_next_1 _)))
  show wpAny _ _ (field (.ref it) 0 >>= _) _ _ s
  refine wpAny_bind (wpAny_field ho hd (x := .ref l) rfl ?_)
  show wpAny _ _ (field (.ref it) 1 >>= _) _ _ s
  refine wpAny_bind (wpAny_field ho hd (x := .int i 0) rfl ?_)
  refine wpAny_bind (wpAny_seqItems hol hdl ?_)
  simp only [Int.toNat_natCast, hx]
  refine wpAny_bind (wpAny_setField ho hd (by simp) (wpAny_pure ⟨x, rfl, wpAny_pure (hQ _ ?_ (Heap.SameBut.update ..))⟩))
  exact ⟨_, Heap.get?_update_self _ ho (Obj.isFreed_of_fields (Obj.data_mapFields hd _)), (Obj.cls_mapFields ..).trans hc, by
    rw [Obj.data_mapFields hd]; simp [rawInt]⟩
theorem nextOf_tup_end {it l : Addr} {i : Nat} {items} {Q : Value → Shared → Prop} (hh : A.handled = none)
    (hit : s.heap.IsTupleIter it l i) (hl : s.heap.IsTuple l items) (hx : items[i]? = none)
    (hE : ∀ h' e, Heap.ExtBut it s.heap h' → (∃ o, h'.get? e = some o ∧ o.cls = .type "StopIteration") → E (.ref e) { s with heap := h' }) :
    wpAny (model prog w) A (Builtin.SmallTypes.nextOf (.ref it)) Q E s := by
  obtain ⟨o, ho, hc, hd⟩ := id hit
  obtain ⟨ol, hol, _, nl, hdl⟩ := hl
  unfold Builtin.SmallTypes.nextOf
  refine wpAny_bind (wpAny_callSpecial?_slot (name := Str.ofString "__next__") hit.typeIs F.slot_tuple_iterator_next
    (wpAny_call_entry F.slot_tuple_iterator_next hit.typeIs F.entry_tuple_iterator_next ?_ (F.args_tuple_iterator_next_1 _)))
  show wpAny _ _ (field (.ref it) 0 >>= _) _ _ s
  refine wpAny_bind (wpAny_field ho hd (x := .ref l) rfl ?_)
  show wpAny _ _ (field (.ref it) 1 >>= _) _ _ s
  refine wpAny_bind (wpAny_field ho hd (x := .int i 0) rfl ?_)
  show wpAny _ _ (seqItems? (.ref l) >>= _) _ _ s
  refine wpAny_bind (wpAny_seqItems hol hdl ?_)
  simp only [Int.toNat_natCast, hx]
  refine wpAny_bind (wpAny_rule (wpAny_bind (wpAny_setField ho hd (by simp) ?_)))
  show wpAny _ _ (newExc (.type "StopIteration") [] >>= _) _ _ _
  refine wpAny_bind ?_
  simp only [newExc, newTuple]
  refine wpAny_bind (wpAny_newObj_type ?_ (by size_fits))
  refine wpAny_bind (m := firstArgMember _ _) (wpAny_of_eq (a := Value.none) (by first | rfl | (simp only [firstArgMember]; rfl)) ?_)
  refine wpAny_newObj_type ?_ (by size_fits)
  simp only [raiseNew]
  refine wpAny_bind (wpAny_handled ?_)
  first | rw [show A.in1.handled = none from hh] | rw [hh]
  refine wpAny_bind (wpAny_pure (wpAny_throw ?_))
  exact hE _ _ (((Heap.SameBut.update ..).extBut.push _).push _) ⟨_, Heap.get?_push_size _ rfl, rfl⟩
noncomputable def ItAt (t:Bool) (h:Heap) (it a:Addr) (k:Nat):Prop:=match t with
  | true=>h.IsTupleIter it a k
  | false=>h.IsListIter it a k
noncomputable def SrcAt (t:Bool) (h:Heap) (a:Addr) (xs:Array Value):Prop:=match t with
  | true=>h.IsTuple a xs
  | false=>h.IsList a xs
noncomputable def itCls (t:Bool):String:=match t with
  | true=>"tuple_iterator"
  | false=>"list_iterator"
theorem ItAt.at {t:Bool} {h h':Heap} {it a:Addr} {k:Nat} (x:ItAt t h it a k) (e:∀ o,h.get? it = some o→h'.get? it = some o):ItAt t h' it a k:=by
  cases t with
  | true=>obtain ⟨o,ho,r⟩:=x; exact ⟨o,e o ho,r⟩
  | false=>obtain ⟨o,ho,r⟩:=x; exact ⟨o,e o ho,r⟩
theorem ItAt.obj {t:Bool} {h:Heap} {it a:Addr} {k:Nat} (x:ItAt t h it a k):∃ o,h.get? it = some o∧∀ v,o.data ≠ .cell v:=by
  cases t with
  | true=>obtain ⟨o,ho,_,d⟩:=x; exact ⟨o,ho,fun v z=>by rw [d] at z; cases z⟩
  | false=>obtain ⟨o,ho,_,d⟩:=x; exact ⟨o,ho,fun v z=>by rw [d] at z; cases z⟩
theorem SrcAt.at {t:Bool} {h h':Heap} {a:Addr} {xs:Array Value} (x:SrcAt t h a xs) (e:∀ o,h.get? a = some o→h'.get? a = some o):SrcAt t h' a xs:=by
  cases t with
  | true=>obtain ⟨o,ho,r⟩:=x; exact ⟨o,e o ho,r⟩
  | false=>obtain ⟨o,ho,r⟩:=x; exact ⟨o,e o ho,r⟩
theorem SrcAt.lt {t:Bool} {h:Heap} {a:Addr} {xs:Array Value} (x:SrcAt t h a xs):a < h.objs.size:=by
  cases t with
  | true=>obtain ⟨o,ho,_⟩:=x; exact Heap.lt_size ho
  | false=>obtain ⟨o,ho,_⟩:=x; exact Heap.lt_size ho
theorem nextOf_item {t : Bool} {it a : Addr} {k : Nat} {xs : Array Value} {x : Value} {Q : Value → Shared → Prop} (hit : ItAt t s.heap it a k) (hs : SrcAt t s.heap a xs) (hx : xs[k]? = some x)
    (hQ:∀ h',ItAt t h' it a (k + 1)→Heap.SameBut it s.heap h'→Q x { s with heap:=h' }):wpAny (model prog w) A (Builtin.SmallTypes.nextOf (.ref it)) Q E s:=by
  cases t with
  | true=>exact nextOf_tup_item hit hs hx hQ
  | false=>exact wpAny_nextOf_list_item hit hs hx hQ
theorem nextOf_end {t : Bool} {it a : Addr} {k : Nat} {xs : Array Value} {Q : Value → Shared → Prop} (hh : A.handled = none) (hit : ItAt t s.heap it a k) (hs : SrcAt t s.heap a xs) (hx : xs[k]? = none)
    (hE:∀ h' e,Heap.ExtBut it s.heap h'→(∃ o,h'.get? e = some o∧o.cls = .type "StopIteration")→E (.ref e) { s with heap:=h' }):wpAny (model prog w) A (Builtin.SmallTypes.nextOf (.ref it)) Q E s:=by
  cases t with
  | true=>exact nextOf_tup_end hh hit hs hx hE
  | false=>exact wpAny_nextOf_list_end hh hit hs hx hE
theorem pyIter_src {t : Bool} {a : Addr} {xs : Array Value} {Q : Value → Shared → Prop} (hs : SrcAt t s.heap a xs)
    (hQ:Q (.ref s.heap.objs.size) { s with heap:=s.heap.push { cls:=.type (itCls t),data:=.fields #[.ref a,.int 0 0] } }):wpAny (model prog w) A (pyIter (.ref a)) Q E s:=by
  cases t with
  | true=>exact wpAny_pyIter_tuple hs hQ
  | false=>exact wpAny_pyIter_list hs hQ
theorem ItAt.new {t:Bool} {h:Heap} {it a:Addr} (e:h.get? it = some { cls:=.type (itCls t),data:=.fields #[.ref a,.int 0 0] }):ItAt t h it a 0:=by
  cases t with
  | true=>exact ⟨_,e,rfl,rfl⟩
  | false=>exact ⟨_,e,rfl,rfl⟩
theorem zipN_item {t1 t2 : Bool} {z TI TO i1 i2 l1 l2 : Addr} {k1 k2 : Nat} {xs ys : Array Value} {x y a b : Value} {Q : Option Value → Shared → Prop} (D : ZipApart z TI TO i1 i2 l1 l2)
    (hz : IsZip s.heap z TI TO .none) (hTI : IsPair s.heap TI (.ref i1) (.ref i2)) (hTO : IsPair s.heap TO a b)
    (h1 : ItAt t1 s.heap i1 l1 k1) (h2 : ItAt t2 s.heap i2 l2 k2) (hl1 : SrcAt t1 s.heap l1 xs) (hl2 : SrcAt t2 s.heap l2 ys) (hx : xs[k1]? = some x) (hy : ys[k2]? = some y)
    (hQ : ∀ h', IsZip h' z TI TO (rawInt s.heap.objs.size) → IsPair h' TO x y → ItAt t1 h' i1 l1 (k1 + 1) → ItAt t2 h' i2 l2 (k2 + 1) → IsPair h' s.heap.objs.size x y → h'.objs.size = s.heap.objs.size + 1 →
      (∀ c o, c ≠ z → c ≠ TO → c ≠ i1 → c ≠ i2 → s.heap.get? c = some o → h'.get? c = some o) → Q (some (.ref s.heap.objs.size)) { s with heap := h' }) :
    wpAny (model prog w) A (pyNext (.ref z)) Q E s := by
  have hT : s.TypeIs (.ref z) "zip" := ⟨_, hz, rfl⟩
  unfold pyNext
  refine wpAny_bind (wpAny_attempt (wpAny_callSpecial?_slot (name := Str.ofString "__next__") hT F.slot_zip_next
    (wpAny_call_entry F.slot_zip_next hT F.entry_zip_next ?_ (F.args_zip_next_1 _))))
  show wpAny _ _ (field (.ref z) 2 >>= _) _ _ _
  refine wpAny_bind (wpAny_field hz rfl (x := .bool false) rfl ?_)
  show wpAny _ _ (field (.ref z) 3 >>= _) _ _ _
  refine wpAny_bind (wpAny_field hz rfl (x := .ref TI) rfl ?_)
  refine wpAny_bind (wpAny_seqItems hTI rfl ?_)
  show wpAny _ _ (Builtin.SmallTypes.ownedTupleIsFree (.ref z) >>= _) _ _ _
  refine wpAny_bind ?_
  unfold Builtin.SmallTypes.ownedTupleIsFree
  refine wpAny_bind (wpAny_field hz rfl (x := .none) rfl (wpAny_pure ?_))
  simp only [if_true]
  refine wpAny_bind (wpAny_rule ?_)
  refine wpAny_bind (wpAny_field hz rfl (x := .ref TO) rfl ?_)
  refine wpAny_bind (wpAny_setField_rec hz (by simp) fun h₁ hz₁ hs₁ => ?_)
  replace hz₁ : IsZip h₁ z TI TO .ellipsis := hz₁
  refine wpAny_bind ?_
  simp only [List.zipIdx_cons, List.zipIdx_nil, List.forIn_cons, List.forIn_nil]
  refine wpAny_bind (wpAny_bind (wpAny_onRaise ?_))
  show wpAny _ _ (Builtin.SmallTypes.nextOf (.ref i1) >>= _) _ _ _
  refine wpAny_bind (nextOf_item (h1.at fun o e => hs₁.extBut _ _ D.i1z e) (hl1.at fun o e => hs₁.extBut _ _ D.l1z e) hx fun h₂ h1₂ hs₂ => wpAny_pure ?_)
  have hTO₂ : IsPair h₂ TO a b := hs₂.extBut _ _ D.TOi1 (hs₁.extBut _ _ D.TOz hTO)
  refine wpAny_bind (wpAny_seqItems hTO₂ rfl ?_)
  refine wpAny_bind (wpAny_updateSeq_pair hTO₂ fun h₃ hTO₃ hs₃ => ?_)
  replace hTO₃ : IsPair h₃ TO x b := hTO₃
  refine wpAny_bind (wpAny_letGo (wpAny_pure ?_))
  refine wpAny_bind (wpAny_bind (wpAny_onRaise ?_))
  show wpAny _ _ (Builtin.SmallTypes.nextOf (.ref i2) >>= _) _ _ _
  refine wpAny_bind (nextOf_item (h2.at fun o e => hs₃.extBut _ _ D.TOi2.symm (hs₂.extBut _ _ D.i12.symm (hs₁.extBut _ _ D.i2z e)))
    (hl2.at fun o e => hs₃.extBut _ _ D.l2TO (hs₂.extBut _ _ D.l2i1 (hs₁.extBut _ _ D.l2z e))) hy fun h₄ h2₄ hs₄ => wpAny_pure ?_)
  have hTO₄ : IsPair h₄ TO x b := hs₄.extBut _ _ D.TOi2 hTO₃
  refine wpAny_bind (wpAny_seqItems hTO₄ rfl ?_)
  refine wpAny_bind (wpAny_updateSeq_pair hTO₄ fun h₅ hTO₅ hs₅ => ?_)
  replace hTO₅ : IsPair h₅ TO x y := hTO₅
  refine wpAny_bind (wpAny_letGo (wpAny_pure (wpAny_pure ?_)))
  refine wpAny_bind (wpAny_seqItems hTO₅ rfl ?_)
  refine wpAny_bind (wpAny_newTuple ?_)
  have hsz : h₅.objs.size = s.heap.objs.size := by rw [hs₅.1, hs₄.1, hs₃.1, hs₂.1, hs₁.1]
  have hz₅ : IsZip h₅ z TI TO .ellipsis := hs₅.extBut _ _ D.TOz.symm (hs₄.extBut _ _ D.i2z.symm (hs₃.extBut _ _ D.TOz.symm (hs₂.extBut _ _ D.i1z.symm hz₁)))
  have hk₅ : ∀ c o, c ≠ z → c ≠ TO → c ≠ i1 → c ≠ i2 → s.heap.get? c = some o → h₅.get? c = some o := fun c o c1 c2 c3 c4 e =>
    hs₅.extBut _ _ c2 (hs₄.extBut _ _ c4 (hs₃.extBut _ _ c2 (hs₂.extBut _ _ c3 (hs₁.extBut _ _ c1 e))))
  have h1₅ : ItAt t1 h₅ i1 l1 (k1 + 1) := h1₂.at fun o e => hs₅.extBut _ _ D.TOi1.symm (hs₄.extBut _ _ D.i12 (hs₃.extBut _ _ D.TOi1.symm e))
  have h2₅ : ItAt t2 h₅ i2 l2 (k2 + 1) := h2₄.at fun o e => hs₅.extBut _ _ D.TOi2.symm e
  have hzlt : z < h₅.objs.size := Heap.lt_size hz₅
  refine wpAny_bind ?_
  unfold Builtin.SmallTypes.ownedTupleHandOut
  have hz₆ : IsZip (h₅.push { cls := .type "tuple", data := .seq #[x, y] }) z TI TO .ellipsis := Heap.get?_push_of_some _ hz₅
  refine wpAny_bind (wpAny_setField_rec hz₆ (by simp) fun h₇ hz₇ hs₇ => ?_)
  replace hz₇ : IsZip h₇ z TI TO (rawInt h₅.objs.size) := hz₇
  refine wpAny_setField_rec hz₇ (by simp) fun h₈ hz₈ hs₈ => ?_
  replace hz₈ : IsZip h₈ z TI TO (rawInt h₅.objs.size) := hz₈
  have up : ∀ c o, c ≠ z → h₅.get? c = some o → h₈.get? c = some o := fun c o c1 e => hs₈.extBut _ _ c1 (hs₇.extBut _ _ c1 (Heap.get?_push_of_some _ e))
  have hT₈ : IsPair h₈ h₅.objs.size x y := hs₈.extBut _ _ (Nat.ne_of_gt hzlt) (hs₇.extBut _ _ (Nat.ne_of_gt hzlt) (Heap.get?_push_size _ rfl))
  have hz8 : h₈.objs.size = h₅.objs.size + 1 := by rw [hs₈.1, hs₇.1, Heap.size_push]
  rw [hsz] at hz₈ hT₈ hz8
  refine wpAny_pure ⟨_, rfl, ?_⟩
  refine wpAny_pure ?_
  show Q (some (.ref h₅.objs.size)) _
  rw [hsz]
  exact hQ h₈ hz₈ (up _ _ D.TOz hTO₅) (h1₅.at fun o e => up _ o D.i1z e) (h2₅.at fun o e => up _ o D.i2z e) hT₈ hz8 fun c o c1 c2 c3 c4 e => up c o c1 (hk₅ c o c1 c2 c3 c4 e)
theorem zipN_end {t1 t2 : Bool} {z TI TO i1 i2 l1 l2 : Addr} {k1 k2 : Nat} {xs ys : Array Value} {a b : Value} {Q : Option Value → Shared → Prop} (hh : A.handled = none) (D : ZipApart z TI TO i1 i2 l1 l2)
    (hz:IsZip s.heap z TI TO .none) (hTI:IsPair s.heap TI (.ref i1) (.ref i2)) (hTO:IsPair s.heap TO a b)
    (h1:ItAt t1 s.heap i1 l1 k1) (h2:ItAt t2 s.heap i2 l2 k2) (hl1:SrcAt t1 s.heap l1 xs) (hl2:SrcAt t2 s.heap l2 ys) (hend:xs[k1]? = none∨ys[k2]? = none)
    (hQ:∀ h',(∀ c o,c ≠ z→c ≠ TO→c ≠ i1→c ≠ i2→s.heap.get? c = some o→h'.get? c = some o)→Q none { s with heap:=h' }):wpAny (model prog w) A (pyNext (.ref z)) Q E s:=by
  have hT:s.TypeIs (.ref z) "zip":=⟨_,hz,rfl⟩
  have hE : ∀ h' e, (∀ c o, c ≠ z → c ≠ TO → c ≠ i1 → c ≠ i2 → s.heap.get? c = some o → h'.get? c = some o) → (∃ o, h'.get? e = some o ∧ o.cls = .type "StopIteration") →
      wpAny (model prog w) A (do if (← isInstance (.ref e) (.type "StopIteration")) then pure none else throw (.ref e)) Q E { s with heap:=h' }:=fun h' e hk he=>by
    obtain ⟨o,ho,hc⟩:=he
    exact wpAny_bind (wpAny_isInstance (T:="StopIteration") (b:=true) ⟨o,ho,hc⟩ isSubtype_stop (wpAny_pure (hQ _ hk)))
  unfold pyNext
  refine wpAny_bind (wpAny_attempt (wpAny_callSpecial?_slot (name:=Str.ofString "__next__") hT F.slot_zip_next
    (wpAny_call_entry F.slot_zip_next hT F.entry_zip_next ?_ (F.args_zip_next_1 _))))
  show wpAny _ _ (field (.ref z) 2 >>= _) _ _ _
  refine wpAny_bind (wpAny_field hz rfl (x:=.bool false) rfl ?_)
  show wpAny _ _ (field (.ref z) 3 >>= _) _ _ _
  refine wpAny_bind (wpAny_field hz rfl (x:=.ref TI) rfl ?_)
  refine wpAny_bind (wpAny_seqItems hTI rfl ?_)
  show wpAny _ _ (Builtin.SmallTypes.ownedTupleIsFree (.ref z) >>= _) _ _ _
  refine wpAny_bind ?_
  unfold Builtin.SmallTypes.ownedTupleIsFree
  refine wpAny_bind (wpAny_field hz rfl (x:=.none) rfl (wpAny_pure ?_))
  simp only [if_true]
  refine wpAny_bind (wpAny_rule ?_)
  refine wpAny_bind (wpAny_field hz rfl (x:=.ref TO) rfl ?_)
  refine wpAny_bind (wpAny_setField_rec hz (by simp) fun h₁ hz₁ hs₁=>?_)
  replace hz₁:IsZip h₁ z TI TO .ellipsis:=hz₁
  refine wpAny_bind ?_
  simp only [List.zipIdx_cons,List.zipIdx_nil,List.forIn_cons,List.forIn_nil]
  refine wpAny_bind (wpAny_bind (wpAny_onRaise ?_))
  show wpAny _ _ (Builtin.SmallTypes.nextOf (.ref i1) >>= _) _ _ _
  cases hx:xs[k1]? with
  | none =>
    refine wpAny_bind (nextOf_end hh (h1.at fun o e=>hs₁.extBut _ _ D.i1z e) (hl1.at fun o e=>hs₁.extBut _ _ D.l1z e) hx fun h₂ e hs₂ he=>?_)
    obtain ⟨oe,hoe,hce⟩:=he
    have hz₂:IsZip h₂ z TI TO .ellipsis:=hs₂ _ _ D.i1z.symm hz₁
    have hez:e ≠ z:=fun x=>by subst x; rw [hz₂] at hoe; cases hoe; simp at hce
    refine wpAny_setField_rec hz₂ (by simp) fun h₃ _ hs₃=>hE h₃ e (fun c o c1 _ c3 _ x=>hs₃.extBut _ _ c1 (hs₂ _ _ c3 (hs₁.extBut _ _ c1 x))) ⟨oe,hs₃.extBut _ _ hez hoe,hce⟩
  | some x =>
    have hy:ys[k2]? = none:=by rcases hend with h | h; rw [hx] at h; cases h; exact h
    refine wpAny_bind (nextOf_item (h1.at fun o e=>hs₁.extBut _ _ D.i1z e) (hl1.at fun o e=>hs₁.extBut _ _ D.l1z e) hx fun h₂ h1₂ hs₂=>wpAny_pure ?_)
    have hTO₂:IsPair h₂ TO a b:=hs₂.extBut _ _ D.TOi1 (hs₁.extBut _ _ D.TOz hTO)
    refine wpAny_bind (wpAny_seqItems hTO₂ rfl ?_)
    refine wpAny_bind (wpAny_updateSeq_pair hTO₂ fun h₃ hTO₃ hs₃=>?_)
    refine wpAny_bind (wpAny_letGo (wpAny_pure ?_))
    refine wpAny_bind (wpAny_bind (wpAny_onRaise ?_))
    show wpAny _ _ (Builtin.SmallTypes.nextOf (.ref i2) >>= _) _ _ _
    refine wpAny_bind (nextOf_end hh (h2.at fun o e=>hs₃.extBut _ _ D.TOi2.symm (hs₂.extBut _ _ D.i12.symm (hs₁.extBut _ _ D.i2z e)))
      (hl2.at fun o e=>hs₃.extBut _ _ D.l2TO (hs₂.extBut _ _ D.l2i1 (hs₁.extBut _ _ D.l2z e))) hy fun h₄ e hs₄ he=>?_)
    obtain ⟨oe,hoe,hce⟩:=he
    have hz₄:IsZip h₄ z TI TO .ellipsis:=hs₄ _ _ D.i2z.symm (hs₃.extBut _ _ D.TOz.symm (hs₂.extBut _ _ D.i1z.symm hz₁))
    have hez:e ≠ z:=fun x=>by subst x; rw [hz₄] at hoe; cases hoe; simp at hce
    refine wpAny_setField_rec hz₄ (by simp) fun h₅ _ hs₅=>hE h₅ e (fun c o c1 c2 c3 c4 x=>hs₅.extBut _ _ c1 (hs₄ _ _ c4 (hs₃.extBut _ _ c2 (hs₂.extBut _ _ c3 (hs₁.extBut _ _ c1 x))))) ⟨oe,hs₅.extBut _ _ hez hoe,hce⟩
end
noncomputable def zipI (t1:Bool) (h:Heap) (l1:Addr):Heap:=h.push { cls:=.type (itCls t1),data:=.fields #[.ref l1,.int 0 0] }
noncomputable def zipJ (t1 t2:Bool) (h:Heap) (l1 l2:Addr):Heap:=(zipI t1 h l1).push { cls:=.type (itCls t2),data:=.fields #[.ref l2,.int 0 0] }
noncomputable def zipK (t1 t2:Bool) (h:Heap) (l1 l2:Addr):Heap:=(zipJ t1 t2 h l1 l2).push { cls:=.type "tuple",data:=.seq #[.ref h.objs.size,.ref (zipI t1 h l1).objs.size] }
noncomputable def zipL (t1 t2:Bool) (h:Heap) (l1 l2:Addr):Heap:=(zipK t1 t2 h l1 l2).push { cls:=.type "tuple",data:=.seq #[.none,.none] }
noncomputable def zipM (t1 t2:Bool) (h:Heap) (l1 l2:Addr):Heap:=(zipL t1 t2 h l1 l2).push { cls:=.type "zip",data:=.fields #[.none,.bool false,.bool false,.ref (zipJ t1 t2 h l1 l2).objs.size,.ref (zipK t1 t2 h l1 l2).objs.size] }
theorem meets_zip (t1 t2 : Bool) (l1 l2 : Addr) (xs ys : Array Value) :
    Meets (Builtin.«zip.__new__» ⟨[.type "zip",.ref l1,.ref l2],[]⟩) (fun _ R s=>SrcAt t1 s.heap l1 xs∧SrcAt t2 s.heap l2 ys ∧
      R (.ok (.ret (.ref (zipL t1 t2 s.heap l1 l2).objs.size))) { s with heap:=zipM t1 t2 s.heap l1 l2 }) :=
  .of_wp fun prog w A R s h=>by
    obtain ⟨hp,g,d,tk,os⟩:=s; obtain ⟨hl1,hl2,h⟩:=h
    have hsub:=sub_zip
    have hL1:SrcAt t1 (Shared.heap ⟨hp,g,d,tk,os⟩) l1 xs:=hl1
    have hL2:SrcAt t2 (Shared.heap ⟨hp.push { cls:=.type (itCls t1),data:=.fields #[.ref l1,.int 0 0] },g,d,tk,os⟩) l2 ys:=hl2.at fun o e=>Heap.get?_push_of_some _ e
    wp_walk using pyIter_src hL1,pyIter_src hL2
    exact ⟨_,rfl,h⟩
end L2
namespace L2
open PySem PySem.Spec PyProof.Rows
section
variable {prog:Program} {w:World} {A:Around} {E:Value→Shared→Prop} {s:Shared}
theorem call_zip {t1 t2 : Bool} {l1 l2 : Addr} {xs ys : Array Value} {Q : Value → Shared → Prop} (hl1 : SrcAt t1 s.heap l1 xs) (hl2 : SrcAt t2 s.heap l2 ys)
    (h:∀ h',IsZip h' (s.heap.objs.size + 4) (s.heap.objs.size + 2) (s.heap.objs.size + 3) .none→IsPair h' (s.heap.objs.size + 2) (.ref s.heap.objs.size) (.ref (s.heap.objs.size + 1)) →
      IsPair h' (s.heap.objs.size + 3) .none .none→ItAt t1 h' s.heap.objs.size l1 0→ItAt t2 h' (s.heap.objs.size + 1) l2 0 →
      (∀ c o,s.heap.get? c = some o→h'.get? c = some o)→Q (.ref (s.heap.objs.size + 4)) { s with heap:=h' }) :
    wpAny (model prog w) A (call (.type "zip") [.ref l1,.ref l2]) Q E s:=by
  refine callType_new F.called_zip (by decide) (F.typeCall_zip_2 _ _) (F.newCall_zip_2 _ _) (fun obj=>F.args_object_init_3 obj _ _) F.entry_zip_new
    (meets_zip t1 t2 l1 l2 xs ys) ⟨hl1,hl2,?_⟩
  have z1:(zipI t1 s.heap l1).objs.size = s.heap.objs.size + 1:=Heap.size_push ..
  have z2:(zipJ t1 t2 s.heap l1 l2).objs.size = s.heap.objs.size + 2:=by rw [zipJ,Heap.size_push,z1]
  have z3:(zipK t1 t2 s.heap l1 l2).objs.size = s.heap.objs.size + 3:=by rw [zipK,Heap.size_push,z2]
  have z4:(zipL t1 t2 s.heap l1 l2).objs.size = s.heap.objs.size + 4:=by rw [zipL,Heap.size_push,z3]
  have g5:(zipM t1 t2 s.heap l1 l2).get? (zipL t1 t2 s.heap l1 l2).objs.size = some _:=Heap.get?_push_size _ rfl
  have g4:(zipM t1 t2 s.heap l1 l2).get? (zipK t1 t2 s.heap l1 l2).objs.size = some _:=Heap.get?_push_of_some _ (Heap.get?_push_size _ rfl)
  have g3:(zipM t1 t2 s.heap l1 l2).get? (zipJ t1 t2 s.heap l1 l2).objs.size = some _:=Heap.get?_push_of_some _ (Heap.get?_push_of_some _ (Heap.get?_push_size _ rfl))
  have g2:(zipM t1 t2 s.heap l1 l2).get? (zipI t1 s.heap l1).objs.size = some _:=Heap.get?_push_of_some _ (Heap.get?_push_of_some _ (Heap.get?_push_of_some _ (Heap.get?_push_size _ rfl)))
  have g1:(zipM t1 t2 s.heap l1 l2).get? s.heap.objs.size = some _:=Heap.get?_push_of_some _ (Heap.get?_push_of_some _ (Heap.get?_push_of_some _ (Heap.get?_push_of_some _ (Heap.get?_push_size _ rfl))))
  show _∧_
  rw [z2,z3,z4] at g5
  rw [z1,z2] at g3
  rw [z3] at g4
  rw [z1] at g2
  rw [z4]
  exact ⟨⟨_,g5,rfl⟩,h _ g5 g3 g4 (ItAt.new g1) (ItAt.new g2) fun c o x =>
    Heap.get?_push_of_some _ (Heap.get?_push_of_some _ (Heap.get?_push_of_some _ (Heap.get?_push_of_some _ (Heap.get?_push_of_some _ x))))⟩
end
noncomputable def SqA (t:Bool) (K:PySem.W.Frag) (H:Hp) (a:Addr) (xs:List V):Prop:=match t with
  | true=>SqT K H a xs
  | false=>SqL K H a xs
theorem Inv.src {X:Cx} {pins:List (Addr × Obj)} {σ:List (Option V)} {H:Hp} {s:Shared} {t:Bool} {a:Addr} {xs:List V} (I:Inv X pins σ H s) (h:SqA t X.K H a xs):∃ its:List Value,Vals xs its∧SrcAt t s.heap a its.toArray:=by
  cases t with
  | true=>obtain ⟨its,rv,p,_⟩:=I.tuple h; exact ⟨its,rv,p⟩
  | false=>obtain ⟨its,rv,p,_⟩:=I.list h; exact ⟨its,rv,p.isList⟩
theorem Inv.src_inj {X:Cx} {pins:List (Addr × Obj)} {σ:List (Option V)} {H:Hp} {s:Shared} {t:Bool} {a:Addr} {xs ys:List V} (I:Inv X pins σ H s) (h:SqA t X.K H a xs) (h':SqA t X.K H a ys):xs = ys:=by
  cases t with
  | true=>exact I.tuple_inj h h'
  | false=>exact I.list_inj h h'
noncomputable def Itz (K:PySem.W.Frag) (t1 t2:Bool) (a b:Addr):It :=
  ⟨fun i H=>∃ xs x ys y,SqA t1 K H a xs∧xs[i]? = some x∧SqA t2 K H b ys∧ys[i]? = some y,
   fun i H v H'=>∃ T x y,(∀ xs,SqA t1 K H a xs→xs[i]? = some x)∧(∀ ys,SqA t2 K H b ys→ys[i]? = some y)∧H T = none∧v = .ref T∧H' = upd H T (.tup [x,y]),
   fun i H=>∃ xs ys,SqA t1 K H a xs∧SqA t2 K H b ys∧(xs.length ≤ i∨ys.length ≤ i)⟩
theorem turn_zip {P : Program} {w : World} {K : PySem.W.Frag} {elts : List Expr} {x1} {pos : Pos} {t1 t2 : Bool} {a b z TI TO i1 i2 : Addr} (D : ZipApart z TI TO i1 i2 a b) :
    Turn P w K (.Tuple elts x1 pos) (Itz K t1 t2 a b) [z,TI,TO,i1,i2] z (fun i h=>IsZip h z TI TO .none∧IsPair h TI (.ref i1) (.ref i2)∧(∃ u v,IsPair h TO u v)∧ItAt t1 h i1 a i∧ItAt t2 h i2 b i) where
  mem:=by simp
  obj:=by
    rintro i h ⟨hz,hTI,⟨u,v,hTO⟩,h1,h2⟩ c hc
    simp only [List.mem_cons,List.not_mem_nil,or_false] at hc
    rcases hc with rfl | rfl | rfl | rfl | rfl
    · exact ⟨_,hz,fun v z=>by cases z⟩
    · exact ⟨_,hTI,fun v z=>by cases z⟩
    · exact ⟨_,hTO,fun v z=>by cases z⟩
    · exact h1.obj
    · exact h2.obj
  keep:=by
    rintro i h h' ⟨hz,hTI,⟨u,v,hTO⟩,h1,h2⟩ k
    exact ⟨k z (by simp) _ hz,k TI (by simp) _ hTI,⟨u,v,k TO (by simp) _ hTO⟩,h1.at fun o e=>k i1 (by simp) o e,h2.at fun o e=>k i2 (by simp) o e⟩
  item:=by
    rintro X hP hw hK hc i pins s σ H E I hf ⟨hz,hTI,⟨u,v,hTO⟩,h1,h2⟩ ⟨xs,x,ys,y,q1,hx,q2,hy⟩
    subst hP hw hK
    obtain ⟨its1,rv1,p1⟩:=I.src q1
    obtain ⟨its2,rv2,p2⟩:=I.src q2
    obtain ⟨ux,hux,rx⟩:=rv1.get hx
    obtain ⟨uy,huy,ry⟩:=rv2.get hy
    refine zipN_item D hz hTI hTO h1 h2 p1 p2 (x:=ux) (y:=uy) (by simpa using hux) (by simpa using huy) fun h' a1 a2 a3 a4 a5 a6 a7=>?_
    have hT:H s.heap.objs.size = none:=I.hok.fresh (Nat.le_refl _)
    have I1:Inv X pins σ (upd H s.heap.objs.size (.tup [x,y])) { s with heap:=s.heap.push { cls:=.type "tuple",data:=.seq [ux,uy].toArray } } :=
      I.laid (t':=s.toks) (fun b o e=>Heap.get?_push_of_some _ e) (Nat.le_refl _) (show ObjOk X.prog X.w _ _ _ (.tup [x,y]) from ⟨by show 2 ≤ sizeLine; decide,[ux,uy],.cons rx (.cons ry .nil),IsTup.new _ _⟩)
    have hlt:∀ c ∈ [z,TI,TO,i1,i2],c < s.heap.objs.size:=by
      intro c hc
      simp only [List.mem_cons,List.not_mem_nil,or_false] at hc
      rcases hc with rfl | rfl | rfl | rfl | rfl
      · exact Heap.lt_size hz
      · exact Heap.lt_size hTI
      · exact Heap.lt_size hTO
      · obtain ⟨o,e,_⟩:=h1.obj; exact Heap.lt_size e
      · obtain ⟨o,e,_⟩:=h2.obj; exact Heap.lt_size e
    have hf':∀ c ∈ [z,TI,TO,i1,i2],FpOk X pins (upd H s.heap.objs.size (.tup [x,y])) c:=fun c hc=>by
      obtain ⟨f0,fr⟩:=hf c hc
      exact ⟨by rw [upd_ne (Nat.ne_of_lt (hlt c hc))]; exact f0,fr⟩
    have kept:∀ c o,c ∉ [z,TI,TO,i1,i2]→(s.heap.push { cls:=.type "tuple",data:=.seq [ux,uy].toArray }).get? c = some o→h'.get? c = some o:=by
      intro c o hc e
      have hc':c ≠ z∧c ≠ TI∧c ≠ TO∧c ≠ i1∧c ≠ i2:=by simpa using hc
      by_cases hn:c = s.heap.objs.size
      · subst hn
        have e0:(s.heap.push { cls:=.type "tuple",data:=.seq [ux,uy].toArray }).get? s.heap.objs.size = some { cls:=.type "tuple",data:=.seq [ux,uy].toArray }:=Heap.get?_push_size _ rfl
        rw [e0] at e
        cases e
        exact a5
      · have e1 : s.heap.get? c = some o := by
          rw [Heap.get?_push_ne _ _ _ hn] at e
          exact e
        exact a7 c o hc'.1 hc'.2.2.1 hc'.2.2.2.1 hc'.2.2.2.2 e1
    have I2:Inv X pins σ (upd H s.heap.objs.size (.tup [x,y])) { s with heap:=h' }:=I1.turnedL (t':=s.toks) kept hf'
    refine ⟨_,rfl,?_⟩
    refine wpAny_letOwnedTupleGo_zip a1 fun h2' hz2 hs2=>?_
    have I3:Inv X pins σ (upd H s.heap.objs.size (.tup [x,y])) { s with heap:=h2' }:=Inv.turnedL (s:={ s with heap:=h' }) (h':=h2') (t':=s.toks) (fp:=[z,TI,TO,i1,i2]) I2 (fun c o hc e=>hs2.extBut _ _ (fun q=>hc (by simp [q])) e) hf'
    refine ⟨.ref s.heap.objs.size,_,I3,rfl,⟨_,x,y,fun zs hq=>by rw [I.src_inj hq q1]; exact hx,fun zs hq=>by rw [I.src_inj hq q2]; exact hy,hT,rfl,rfl⟩,?_,fun c hc=>(hf' c hc).1⟩
    exact ⟨hz2,hs2.extBut _ _ D.TIz (a7 _ _ D.TIz D.TITO D.TIi1 D.TIi2 hTI),⟨_,_,hs2.extBut _ _ D.TOz a2⟩,a3.at fun o e=>hs2.extBut _ _ D.i1z e,a4.at fun o e=>hs2.extBut _ _ D.i2z e⟩
  done:=by
    rintro X hP hw hK hc i pins s σ H E I hf ⟨hz,hTI,⟨u,v,hTO⟩,h1,h2⟩ ⟨xs,ys,q1,q2,hend⟩
    subst hP hw hK
    obtain ⟨its1,rv1,p1⟩:=I.src q1
    obtain ⟨its2,rv2,p2⟩:=I.src q2
    have l1:=rv1.length
    have l2:=rv2.length
    refine zipN_end (I.ok.hd hc) D hz hTI hTO h1 h2 p1 p2 (by simp; lia) fun h' hk=>⟨rfl,I.turnedL (t':=s.toks) (fp:=[z,TI,TO,i1,i2]) (fun c o hc e=>?_) hf⟩
    have hc':c ≠ z∧c ≠ TI∧c ≠ TO∧c ≠ i1∧c ≠ i2:=by simpa using hc
    exact hk c o hc'.1 hc'.2.2.1 hc'.2.2.2.1 hc'.2.2.2.2 e
  self:=fun _ _ _ _ _ st h=>wpAny_pyIter_zip st.1 h
section
variable {X:Cx} {K:PySem.W.Frag}
noncomputable def iZip (K:PySem.W.Frag) (ta:TA):TI:=fun σ H R=>ta σ H fun vs H1=>match vs with
  | [.ref a,.ref b]=>∃ t1 t2,(∃ xs,SqA t1 K H1 a xs)∧(∃ ys,SqA t2 K H1 b ys)∧R (Itz K t1 t2 a b) H1
  | _=>False
theorem pi_zip {a b : Expr} {ta : TA} {p pos : Pos} {elts : List Expr} {x1} {pos' : Pos} (hg : Gl X "zip") (hm : X.mg "zip" = none) (ha : PA X [a, b] ta) (hK : X.K = K := by rfl) (hs : starEach [a, b] X.env = [(false, eval a X.env), (false, eval b X.env)] := by rfl) (hs2 : starEach [b] X.env = [(false, eval b X.env)] := by rfl) :
    PI X (.Tuple elts x1 pos') (.Call (.Name "zip" p) [a,b] [] pos) (iZip K ta):=by
  subst hK
  intro pins s σ H R I h
  refine Call_ (ld_blt I hg hm boot_zip (PyProof.Rows.callWith_type1 (thn (ha pos pins s σ H _ I h) fun us s1 ⟨vs,H1,I1,r1,q1⟩=>?_) (by rw [hs,hs2]) (by rw [hs2]; rfl)))
  try dsimp only at q1
  split at q1
  · obtain ⟨u,u',rfl,r,r'⟩:=vals2 r1
    cases r
    cases r'
    obtain ⟨t1,t2,⟨xs,hx⟩,⟨ys,hy⟩,q⟩:=q1
    obtain ⟨its1,rv1,p1⟩:=I1.src hx
    obtain ⟨its2,rv2,p2⟩:=I1.src hy
    refine call_zip p1 p2 fun h' hz hTI hTO h1 h2 hk=>?_
    refine wpAny_pyIter_zip hz ?_
    refine ⟨_,[s1.heap.objs.size + 4,s1.heap.objs.size + 2,s1.heap.objs.size + 3,s1.heap.objs.size,s1.heap.objs.size + 1],_,_,H1,rfl,I1.kept (t':=s1.toks) hk,turn_zip (zipApart_new p1.lt p2.lt),⟨hz,hTI,⟨_,_,hTO⟩,h1,h2⟩,fun c hc=>?_,q⟩
    have hge:s1.heap.objs.size ≤ c:=by
      simp only [List.mem_cons,List.not_mem_nil,or_false] at hc
      rcases hc with rfl | rfl | rfl | rfl | rfl
      · exact Nat.le_add_right _ 4
      · exact Nat.le_add_right _ 2
      · exact Nat.le_add_right _ 3
      · exact Nat.le_refl _
      · exact Nat.le_add_right _ 1
    exact I1.fpOk hge (I1.hok.fresh hge)
  · exact q1.elim
theorem ji_zip {a b : Expr} {ta : TA} {p pos : Pos} {elts : List Expr} {x1} {pos' : Pos} (hg : Gl X "zip") (hm : X.mg "zip" = none) (ha : JA X [a, b] ta) (hK : X.K = K := by rfl) (h1 : noStar a = true := by rfl) (h2 : noStar b = true := by rfl) :
    JI X (.Tuple elts x1 pos') (.Call (.Name "zip" p) [a,b] [] pos) (iZip K ta):=.mk (pi_zip hg hm ha.out hK (by rw [starEach_cons h1,starEach_cons h2]; rfl) (by rw [starEach_cons h2]; rfl))
end
theorem for_zip {K : PySem.W.Frag} {t1 t2 : Bool} {a b : Addr} {xs ys : List V} {g : TG} {tb : TS} {D : Ends} {σ : St} {H : Hp} (Pv : Nat → St → Hp → Prop) (h0 : Pv 0 σ H) (hle : xs.length = ys.length)
    (hl:∀ i σ H,i ≤ xs.length→Pv i σ H→SqA t1 K H a xs∧SqA t2 K H b ys)
    (hs:∀ i x y σ H,xs[i]? = some x→ys[i]? = some y→Pv i σ H→∀ T,H T = none→g (.ref T) σ (upd H T (.tup [x,y])) fun σ2 H2=>tb { D with nx:=Pv (i + 1),ct:=Pv (i + 1),bk:=D.nx } σ2 H2) (hd:∀ σ H,Pv xs.length σ H→D.nx σ H) :
    ∃ W:Nat→Nat→St→Hp→Prop,(∃ m,W 0 m σ H)∧∀ i m σ H,W i m σ H →
      ((Itz K t1 t2 a b).stop i H∧D.nx σ H)∨((Itz K t1 t2 a b).go i H∧∃ N:St→Hp→Prop,(∀ σ' H',N σ' H'→∃ m',m' < m∧W (i + 1) m' σ' H')∧∀ x H',(Itz K t1 t2 a b).yld i H x H'→g x σ H' fun σ2 H2=>tb { D with nx:=N,ct:=N,bk:=D.nx } σ2 H2):=by
  refine ⟨fun i m σ H=>m = xs.length - i∧i ≤ xs.length∧Pv i σ H,⟨xs.length,by simp,Nat.zero_le _,h0⟩,?_⟩
  rintro i m σ H ⟨rfl,hi,p⟩
  obtain ⟨q1,q2⟩:=hl i σ H hi p
  by_cases hlt:i < xs.length
  · have hlt2:i < ys.length:=by lia
    refine .inr ⟨⟨xs,xs[i],ys,ys[i],q1,by simp [hlt],q2,by simp [hlt2]⟩,Pv (i + 1),fun σ' H' p'=>⟨xs.length - (i + 1),by lia,rfl,hlt,p'⟩,fun v H' y=>?_⟩
    obtain ⟨T,x,y,e1,e2,hT,rfl,rfl⟩:=y
    exact hs i x y σ H (e1 xs q1) (e2 ys q2) p T hT
  · have e:i = xs.length:=by lia
    subst e
    exact .inl ⟨⟨xs,ys,q1,q2,.inl (Nat.le_refl _)⟩,hd σ H p⟩
end L2
namespace L2
open PySem PySem.Spec PyProof.Rows
noncomputable def FlyG (B:Heap) (l:List Env) (e:Addr) (cls a0:Value) (h:Heap):Prop:=B.StaysIn h∧B.get? e = none∧h.FunFrames B l∧∃ fl,h.TracedAtW B e cls a0 fl
section
variable {M:Model} {A:Around} {E:Value→Shared→Prop} {s:Shared} {B:Heap} {env:Env} {outer:List Env} {L e:Addr} {cls a0:Value} {Q:Unit→Shared→Prop}
end
noncomputable def FlyAt (P:Program) (w:World) (stack:List Env) (fs ex:List Addr) (H₀:Hp) (h₀:Heap) (os:OsState) (E:XK) (e:Value) (s':Shared):Prop :=
  ∃ (a:Addr) (B:Heap) (cls a0:Value) (H':Hp),e = .ref a∧s'.os = os∧AllBare s'.gens∧FlyG B stack a cls a0 s'.heap∧HOk P w H' B∧Un fs ex H₀ H' h₀ s'.heap ∧
  (∀ b o,h₀.get? b = some o→b ∉ fs→b ∉ ex→(∃ o',B.get? b = some o')∧(H₀ b = none→B.get? b = some o))∧E cls none H'
noncomputable def CX1 (P:Program) (w:World):CXT:=fun outer H s E e s'=>FlyAt P w outer (frs outer) [] H s.heap s.os E e s'
section
variable {X:Cx} {E:XK} {pins:List (Addr × Obj)} {σ:List (Option V)} {H H':Hp} {s:Shared} {h'' B:Heap}
end
section
variable {P:Program} {w:World} {K:PySem.W.Frag} {mg:Str→Option Value} {base:Heap} {N:List Str} {qual:Str} {scope:Scope} {f:Addr} {cd:Value} {A:Around} {outer:List Env} {s₀:Shared} {H₀:Hp} {E:XK}
  {pins:List (Addr × Obj)} {σ:List (Option V)} {H H':Hp} {s:Shared} {h' h'' B:Heap}
end
end L2
namespace L2
open PySem PySem.Spec PyProof.Rows
abbrev bmVE:List Value:=[.type "ValueError",.type "Exception",.type "BaseException",.type "object"]
section
variable {X:Cx} {e:Expr} {es:List Expr} {te:TE} {c c':St→Hp→Prop} {pos:Pos}
end
end L2
namespace L2
open PySem PySem.Spec PyProof.Rows
section
variable {P:Program} {w:World} {K:PySem.W.Frag} {mg:Str→Option Value} {base:Heap} {N:List Str} {qual:Str} {scope:Scope} {f:Addr} {cd:Value} {A:Around} {outer:List Env} {s₀:Shared} {H₀:Hp} {E:XK}
end
section
variable {X:Cx} {e e1 e2:Expr} {es:List Expr} {te:TE} {c c':St→Hp→Prop} {pos:Pos}
end
structure DefX (P:Program) (w:World) (K:PySem.W.Frag) (mg:Str→Option Value) (base:Heap) (k:Nat) (x:Str) (ps:List Str) (sp:Sp):Prop where
  ex:∃ f fd,mg x = some (.ref f)∧PySem.W.keepIn K (.ref f) = true∧(∃ oc od osl,K.lookup f = some ⟨oc,od,.func fd,osl⟩)∧Binds K fd ps []∧FnOk P w K mg base (CX1 P w) k f fd ps sp
section
variable {X:Cx} {k:Nat} {x:Str} {ps:List Str} {sp:Sp} {e:Expr} {es:List Expr} {t:TA} {p pos:Pos} {E:XK}
end
end L2
namespace L2
open PySem PySem.Spec PyProof.Rows
end L2
namespace L2
open PySem PySem.Spec PyProof.Rows
section
variable {X:Cx} {E:XK} {pins:List (Addr × Obj)} {σ:List (Option V)} {H:Hp} {s:Shared}
end
section
variable {X:Cx} {E:XK} {N:List Str} {cap:List (Option Nat)} {scope:Scope} {elt target iter:Expr} {ifs:List Expr} {pos pos' spos:Pos} {wi:TI} {g:TG} {tc:TT} {te:TE}
end
end L2
namespace L2
open PySem PySem.Spec PyProof.Rows
section
variable {X:Cx} {E:XK} {N:List Str} {cap:List (Option Nat)} {scope:Scope} {elt target iter:Expr} {ifs:List Expr} {pos pos' spos:Pos} {wi:TI} {g:TG} {tc:TT} {te:TE}
end
end L2
namespace L2
open PySem PySem.Spec PyProof.Rows
section
variable {M:Model} {A:Around} {E:Value→Shared→Prop}
variable {nm q:Str} {C N:Addr} {bs bm:List Value} {hdct:Bool} {sn:List Str} {sub:List Value} {ab:Bool} {col:Option Bool} {dd:Option Addr} {k0 k1 k2 k3 k5:Option Value} {newId:String}
variable {nm' q':Str} {G N':Addr} {bs' bm':List Value} {hdct':Bool} {sn':List Str} {sub':List Value} {ab':Bool} {col':Option Bool} {dd':Option Addr} {k0' k1' k2' k3' k5':Option Value} {newId':String}
end
section
variable {X:Cx} {pins:List (Addr × Obj)} {σ:List (Option V)} {H:Hp} {s:Shared}
end
end L2
namespace L2
open PySem PySem.Spec PyProof.Rows
structure ExcK (K:PySem.W.Frag) (C:Addr):Prop where
  exc:PySem.W.excIn K C bmVE "ValueError.__new__" = true
  f1:PySem.W.findIn K (.ref C) "__getattribute__" = some (some (.builtin "BaseException.__getattribute__"))
  f2:PySem.W.findIn K (.ref C) "__getattr__" = some none
  f3:PySem.W.findIn K (.ref C) "__class__" = some (some (.builtin "object.__class__"))
  obj:PySem.W.mroIn K C (.type "object") = some true
section
variable {X:Cx} {k:Nat} {x G n:Str} {ps:List Str} {sp:Sp} {e:Expr} {es:List Expr} {t:TA} {p gp cpos epos hpos pos:Pos} {CG:Addr} {newId:String} {i:Nat} {b₀:Stmt} {suite:List Stmt} {ts:Addr→Addr→TS}
end
end L2
namespace PySem.W
open PySem PySem.Calls PyProof.Rows Builtin Builtin.ObjectAttr Builtin.Getset_descriptor
end PySem.W
namespace L2
open PySem PySem.Spec PyProof.Rows PySem.W
structure InstE (h:Heap) (a:Addr) (o:Obj) (C:Addr):Prop where
  at_:h.get? a = some o
  cls:o.cls = .ref C
section
variable {prog:Program} {w:World} {A:Around} {E:Value→Shared→Prop} {h:Heap} {g:Array GenState} {d:Drawn} {t:Nat} {os:OsState} {a:Addr} {o:Obj} {K:Frag}
  {nm q:Str} {C N:Addr} {bs bm:List Value} {hdct:Bool} {sn:List Str} {sub:List Value} {ab:Bool} {col:Option Bool} {dd:Option Addr} {k0 k1 k2 k3 k5:Option Value} {newId:String}
end
end L2
namespace L2
open PySem PySem.Spec PyProof.Rows
noncomputable def lamArgs (e:Expr):Arguments:=match e with
  | .Lambda a _ _ _=>a
  | _=>{ posonlyargs:=[],args:=[],vararg:=none,kwonlyargs:=[],kw_defaults:=[],kwarg:=none,defaults:=[] }
noncomputable def lamBody (e:Expr):Expr:=match e with
  | .Lambda _ b _ _=>b
  | _=>e
noncomputable def lamScope (e:Expr):Scope:=match e with
  | .Lambda _ _ sc _=>sc
  | _=>{ kind:=.function,names:=[],isGenerator:=false,isCoroutine:=false }
noncomputable def stBody (s:Stmt):List Stmt:=match s with
  | .For _ _ b _ _=>b
  | .While _ b _ _=>b
  | .If _ b _ _=>b
  | _=>[]
structure MadeL (H:Hp) (f:Addr) (qual:Str) (le:Expr) (cl:List (Str × Addr)):Prop where
  ex:∃ (pm:Value) (c':Addr) (ctv:Value) (oc:Obj) (vs:Array Value) (t:Tok),Kn H f (PySem.W.kla_obj "<lambda>" qual (lamArgs le) (lamBody le) (lamScope le) cl pm c' ctv)∧Kn H c' oc∧oc.data = .fields vs∧vs[1]? = some (.str qual t)
structure CloAtL (H:Hp) (f:Addr) (qual:Str) (le:Expr) (fr:List Str) (cs:List Addr) (ws:List V):Prop where
  ex:∃ cl,MadeL H f qual le cl∧(∀ x c,cl.lookup x = some c→∃ j:Nat,fr[j]? = some x∧cs[j]? = some c)∧∀ (j:Nat) x,fr[j]? = some x→∃ c,cl.lookup x = some c∧cs[j]? = some c
  cells:∀ (j:Nat) x,ws[j]? = some x→∃ c o u,cs[j]? = some c∧Kn H c o∧o.data = .cell (some u)∧RelV x u
  l1:cs.length = fr.length
  l2:ws.length = fr.length
  nd:cs.Nodup
section
variable {X:Cx}
end
end L2
namespace L2
open PySem PySem.Spec PyProof.Rows
section
variable {X:Cx} {pos:Pos} {K:PySem.W.Frag}
noncomputable def gSlA (K:PySem.W.Frag):V→Option Int→Option Int→Hp→VK→Prop:=fun x lo hi H Q=>match x with
  | .str z=>z.length ≤ sizeLine∧Q (.str (Txt.slice z lo hi)) H
  | .ref a=>(∃ xs,SqL K H a xs∧∀ p,H p = none→Q (.ref p) (upd H p (.lst (cutV xs lo hi))))∨∃ xs,SqT K H a xs∧¬ (HT.sIx xs.length 0 lo = 0∧HT.sIx xs.length xs.length hi = xs.length)∧∀ p,H p = none→Q (.ref p) (upd H p (.tup (cutV xs lo hi)))
  | _=>False
theorem o_slA (hK : X.K = K := by rfl) : Irr (SlR X (gSlA K)) := by
  refine .mk ?_
  subst hK
  intro pins s σ H x v vl vu lo hi sl Q I rx hs pl pu h
  unfold gSlA at h
  split at h
  · exact sl_str pins s σ H _ v vl vu lo hi sl Q I rx hs pl pu ⟨_, rfl, h.1, h.2⟩
  · rcases h with ⟨xs, h1, h2⟩ | ⟨xs, h1, h2, h3⟩
    · exact sl_list pins s σ H _ v vl vu lo hi sl Q I rx hs pl pu ⟨_, xs, rfl, h1, h2⟩
    · exact sl_tup pins s σ H _ v vl vu lo hi sl Q I rx hs pl pu ⟨_, xs, rfl, h1, h2, h3⟩
  simp_all
end
end L2
namespace L2
open PySem PySem.Spec PyProof.Rows
section
variable {X:Cx} {a b c e f i o k v value:Expr} {ta tb te td ty tv tx:TE} {K:PySem.W.Frag} {w:World} {pos pos' p2 apos cpos:Pos}
noncomputable def gInA (K:PySem.W.Frag) (neg:Bool):R2:=fun x y H Q=>match y with
  | .str j=>(match x with
    | .str i=>Q (.bl (neg ^^ !(Builtin.Str.occurrences j i 0 j.length 1).isEmpty)) H
    | _=>False)
  | .ref p=>(∃ xs,(SqL K H p xs∨SqT K H p xs)∧flatV x = true∧xs.all flatV = true∧Q (.bl (neg ^^ inV x xs)) H)∨∃ o,DGet H p x o∧Q (.bl (neg ^^ o.isSome)) H
  | _=>False
theorem o_inA (hu : X.A.units + 64 < cLine) (hK : X.K = K := by rfl) : Irr (OpR X (compareOp .In) (gInA K false)) := by
  refine .mk ?_
  subst hK
  intro pins s σ H x y v u Q I rx ry h
  cases y with
  | str j => exact og_in rfl pins s σ H x (.str j) v u Q I rx ry h
  | ref p =>
    rcases h with h | ⟨ov, g, q⟩
    · exact og_in rfl pins s σ H x (.ref p) v u Q I rx ry h
    · obtain rfl : u = Value.ref p := ry
      exact d_in (by lia) I g rx fun s3 I3 => ⟨.bl ov.isSome, H, I3, rfl, by simp_all⟩
  | _ => exact False.elim h
noncomputable def gIxA (K:PySem.W.Frag) (w:World):R2:=fun x y H Q=>match x,y with
  | .ref q,.int i=>(∃ xs v,SqL K H q xs∧atI xs i = some v∧Q v H)∨(∃ xs v,SqT K H q xs∧atI xs i = some v∧Q v H)∨∃ v,DGet H q (.int i) (some v)∧Q v H
  | .str z,.int i=>z.length ≤ sizeLine∧∃ c,atI z.cps.toList i = some c∧Q (.str ⟨#[c]⟩) H
  | .ref q,.str k=>(∃ kvs v,KTab K w q kvs∧kvs.lookup k = some v∧Q v H)∨∃ v,DGet H q (.str k) (some v)∧Q v H
  | .ref q,.ref b=>∃ v,DGet H q (.ref b) (some v)∧Q v H
  | _,_=>False
theorem DGet.isD {H:Hp} {a:Addr} {y:V} {r:Option V} (g:DGet H a y r):IsD H a:=by
  rcases g with ⟨kvs,k,h,_⟩ | ⟨kvs,k,b,h,_⟩
  · exact .inl ⟨kvs,h⟩
  · exact .inr ⟨kvs,h⟩
theorem o_ixA (hu:X.A.units + 64 < cLine) (hK:X.K = K:=by rfl) (hw:X.w = w:=by rfl):Irr (IxR X (gIxA K w)):=by
  refine .mk ?_
  subst hK
  subst hw
  have dd : ∀ (value slice : Expr) (pins : List (Addr × Obj)) (s : Shared) (σ : St) (H : Hp) (q : Addr) (y z : V) (v u : Value) (Q : VK), Inv X pins σ H s → RelV (.ref q) v → RelV y u → DGet H q y (some z) → Q z H →
      subscripted slice false v u = operate [v,u] (getItem v u)→wpAny (model X.prog X.w) X.A (subscriptTail value slice v u) (EP X pins σ Q) X.xe s:=by
    intro value slice pins s σ H q y z v u Q I rx ry g h3 hs
    obtain rfl:v = Value.ref q:=rx
    exact tail_any (isD_at I (DGet.isD g)).1 slot_dict_getitem.lookup (d_getItem (by lia) I g ry fun w' s' I' rw'=>⟨z,H,I',rw',h3⟩) hs
  intro value slice pins s σ H x y v u Q I rx ry h hs
  unfold gIxA at h
  split at h
  · rcases h with ⟨xs,z,h1,h2,h3⟩ | ⟨xs,z,h1,h2,h3⟩ | ⟨z,g,h3⟩
    · exact ix_list value slice pins s σ H _ _ v u Q I rx ry ⟨_,xs,_,z,rfl,rfl,h1,h2,h3⟩ hs
    · exact ix_tup value slice pins s σ H _ _ v u Q I rx ry ⟨_,xs,_,z,rfl,rfl,h1,h2,h3⟩ hs
    · exact dd value slice pins s σ H _ _ z v u Q I rx ry g h3 hs
  · obtain ⟨hz,c,h1,h2⟩:=h
    exact ix_str value slice pins s σ H _ _ v u Q I rx ry ⟨_,_,c,rfl,rfl,hz,h1,h2⟩ hs
  · rcases h with ⟨kvs,z,h1,h2,h3⟩ | ⟨z,g,h3⟩
    · exact ix_ktab value slice pins s σ H _ _ v u Q I rx ry ⟨_,kvs,_,z,rfl,rfl,h1,h2,h3⟩ hs
    · exact dd value slice pins s σ H _ _ z v u Q I rx ry g h3 hs
  · obtain ⟨z,g,h3⟩:=h
    exact dd value slice pins s σ H _ _ z v u Q I rx ry g h3 hs
  · exact h.elim
noncomputable def mDGet1 (td ty:TE):TE:=fun σ H Q=>td σ H fun x H1=>match x with
  | .ref a=>IsD H1 a∧ty σ H1 fun y H2=>∃ o,DGet H2 a y o∧Q (o.getD .non) H2
  | _=>False
theorem mDGet1_eq (td ty:TE):mDGet1 td ty = tDGet1 td ty:=by
  funext σ H Q
  unfold mDGet1 tDGet1
  congr 1
  funext x H'
  refine propext ⟨fun h=>?_,fun ⟨k,e,h⟩=>?_⟩
  · split at h
    · exact ⟨_,rfl,h⟩
    · exact h.elim
  · subst e
    exact h
theorem j_dget1 (hu:X.A.units + 64 < cLine) (ho:JE X o td) (he:JE X e ty) (m:M1 X o "get" apos e cpos:=by exact ⟨rfl,rfl,rfl,rfl⟩):JE X (.Call (.Attribute o "get" apos) [e] [] cpos) (mDGet1 td ty):=by
  rw [mDGet1_eq]
  exact .mk (pe_dget1 (by lia) ho.out he.out m)
noncomputable def mDPut (td ty tv:TE):TS:=fun D σ H=>tv σ H fun v H1=>td σ H1 fun x H2=>match x with
  | .ref a=>ty σ H2 fun y H3=>∃ H4,DPut H3 a y v H4∧D.nx σ H4
  | _=>False
theorem js_dput (hu:X.A.units + 64 < cLine) (ho:JE X o td) (hi:JE X i ty) (hv:JE X value tv) (hs:swapsWith value (some (.Subscript o i pos')) pos.line X.env = pure false:=by rfl):JS X (.Assign [.Subscript o i pos'] value pos) (mDPut td ty tv):=by
  refine .mk ?_
  intro pins s σ H D I h
  refine wpAny_Assign_Subscript (thn (hv.out pins s σ H _ I h) fun r s1 ⟨v,H1,I1,rv,q1⟩=>thn (ho.out pins s1 σ H1 _ I1 q1) fun u s2 ⟨x,H2,I2,rx,q2⟩=>?_) hs
  try dsimp only at q2
  split at q2
  · rename_i a
    obtain rfl:u = Value.ref a:=rx
    refine thn (hi.out pins s2 σ H2 _ I2 q2) fun iv s3 ⟨y,H3,I3,ry,H4,g,q3⟩=>?_
    exact d_setItem (by lia) I3 g ry rv fun s4 I4=>⟨σ,H4,I4,q3⟩
  · exact q2.elim
theorem j_dnewK:JE X (.Dict [] [] pos) tDNewK:=.mk pe_dnewK
theorem DGet.ik {H:Hp} {a:Addr} {kvs:List (Key × V)} {n:Int} {r:Option V} (e:H a = some (.dK kvs)) (h:valV kvs (Sum.inl n) = r):DGet H a (.int n) r:=.inl ⟨kvs,Sum.inl n,.inl e,rfl,h.symm⟩
theorem DGet.sk {H:Hp} {a:Addr} {kvs:List (Key × V)} {n:Str} {r:Option V} (e:H a = some (.dK kvs)) (h:valV kvs (Sum.inr n) = r):DGet H a (.str n) r:=.inl ⟨kvs,Sum.inr n,.inl e,rfl,h.symm⟩
theorem IsD.kd {H:Hp} {a:Addr} {kvs:List (Key × V)} (e:H a = some (.dK kvs)):IsD H a:=.inl ⟨kvs,.inl e⟩
theorem IsD.tk {H:Hp} {a:Addr} {kvs:List (List Key × V)} (e:H a = some (.dT kvs)):IsD H a:=.inr ⟨kvs,.inl e⟩
theorem DPut.ik {H:Hp} {a:Addr} {kvs:List (Key × V)} {n:Int} {v:V} (e:H a = some (.dK kvs)) (hl:kvs.length < sizeLine):DPut H a (.int n) v (upd H a (.dK (putK kvs (Sum.inl n) v))):=.inl ⟨kvs,Sum.inl n,e,rfl,hl,rfl⟩
noncomputable def gInt:List V→Hp→VK→Prop:=fun xs H Q=>match xs with
  | [.int i]=>Q (.int i) H
  | [.bl b]=>Q (.int (if b then 1 else 0)) H
  | _=>False
theorem c_int : Irr (CallR X (.type "int") gInt) := by
  refine .mk ?_
  intro pins s σ H xs us Q I r h
  unfold gInt at h
  split at h
  · exact call_int1 pins s σ H _ us Q I r (.inl ⟨_, rfl, h⟩)
  · exact call_int1 pins s σ H _ us Q I r (.inr ⟨_, rfl, h⟩)
  simp_all
noncomputable def gTuple (K:PySem.W.Frag):List V→Hp→VK→Prop:=fun xs H Q=>match xs with
  | [.ref p]=>∃ ys,(SqL K H p ys∧∀ l,H l = none→Q (.ref l) (upd H l (.tup ys)))∨(SqT K H p ys∧Q (.ref p) H)
  | _=>False
theorem c_tuple (hK : X.K = K := by rfl) : Irr (CallR X (.type "tuple") (gTuple K)) := by
  refine .mk ?_
  subst hK
  intro pins s σ H xs us Q I r h
  unfold gTuple at h
  split at h
  · obtain ⟨ys, h⟩ := h
    exact call_tuple_of pins s σ H _ us Q I r ⟨_, ys, rfl, h⟩
  simp_all
end
end L2
namespace Rg
end Rg
namespace Rg
structure Ent where
  k:List Nat
  f:List Prt
structure Bst where
  k:List Nat
  m:Nat
  lk:Nat
noncomputable def stepB (l:List Nat) (pl:Nat) (b:Bst) (e:Ent):Bst :=
  ⟨if b.m < (takeF e.f l pl).1 then e.k else b.k,max b.m (takeF e.f l pl).1,max b.lk (takeF e.f l pl).2⟩
noncomputable def bestG (b:Bst) (es:List Ent) (l:List Nat) (pl:Nat):Bst:=es.foldl (stepB l pl) b
noncomputable def bestF (es:List Ent) (l:List Nat) (pl:Nat):Bst:=bestG ⟨[],0,1⟩ es l pl
theorem bestG_cons (b:Bst) (e:Ent) (es:List Ent) (l:List Nat) (pl:Nat):bestG b (e :: es) l pl = bestG (stepB l pl b e) es l pl:=rfl
theorem takeF_le {ps:List Prt} {l:List Nat} {pl:Nat} (h:pl ≤ l.length):pl + (takeF ps l pl).2 ≤ l.length + 1∧pl + (takeF ps l pl).1 ≤ l.length :=
  goF_le l pl ps pl 0 (Nat.le_refl _) h (by lia)
theorem goF_fst (l:List Nat) (a:Nat):∀ (ps:List Prt) (pl lk:Nat),a ≤ pl→pl - a ≤ lk→(goF l a ps pl lk).1 ≤ (goF l a ps pl lk).2
  | [],pl,lk,h1,h2=>h2
  | p :: ps,pl,lk,h1,h2=>by
    have hst:=stN_lk p l pl
    unfold goF
    split
    · refine goF_fst l a ps _ _ ?_ ?_
      · unfold nextN; split <;> lia
      · unfold nextN; split <;> lia
    · exact Nat.zero_le _
theorem takeF_fst (ps:List Prt) (l:List Nat) (pl:Nat):(takeF ps l pl).1 ≤ (takeF ps l pl).2:=goF_fst l pl ps pl 0 (Nat.le_refl _) (by lia)
theorem bestG_grow:∀ (es:List Ent) (b:Bst) (l:List Nat) (pl:Nat),b.m ≤ (bestG b es l pl).m∧b.lk ≤ (bestG b es l pl).lk
  | [],b,l,pl=>⟨Nat.le_refl _,Nat.le_refl _⟩
  | e :: es,b,l,pl=>by
    have ih:=bestG_grow es (stepB l pl b e) l pl
    rw [bestG_cons]
    unfold stepB at ih ⊢
    dsimp only at ih ⊢
    lia
theorem bestG_le:∀ (es:List Ent) (b:Bst) (l:List Nat) (pl:Nat),pl ≤ l.length→pl + b.m ≤ l.length→pl + b.lk ≤ l.length + 1→pl + (bestG b es l pl).m ≤ l.length∧pl + (bestG b es l pl).lk ≤ l.length + 1
  | [],b,l,pl,h,h1,h2=>⟨h1,h2⟩
  | e :: es,b,l,pl,h,h1,h2=>by
    have:=takeF_le (ps:=e.f) h
    rw [bestG_cons]
    refine bestG_le es _ l pl h ?_ ?_
    · unfold stepB; dsimp only; lia
    · unfold stepB; dsimp only; lia
theorem bestG_fst:∀ (es:List Ent) (b:Bst) (l:List Nat) (pl:Nat),b.m ≤ b.lk→(bestG b es l pl).m ≤ (bestG b es l pl).lk
  | [],b,l,pl,h=>h
  | e :: es,b,l,pl,h=>by
    have:=takeF_fst e.f l pl
    rw [bestG_cons]
    refine bestG_fst es _ l pl ?_
    unfold stepB; dsimp only; lia
theorem bestF_le {es:List Ent} {l:List Nat} {pl:Nat} (h:pl ≤ l.length):pl + (bestF es l pl).m ≤ l.length∧pl + (bestF es l pl).lk ≤ l.length + 1:=bestG_le es _ l pl h (by simp; lia) (by simp; lia)
theorem bestF_lk (es:List Ent) (l:List Nat) (pl:Nat):1 ≤ (bestF es l pl).lk:=(bestG_grow es ⟨[],0,1⟩ l pl).2
theorem bestF_fst (es:List Ent) (l:List Nat) (pl:Nat):(bestF es l pl).m ≤ (bestF es l pl).lk:=bestG_fst es _ l pl (by simp)
noncomputable def gapGo (gs:List Ent) (l:List Nat) (at_ g k:Nat):Nat × Nat :=
  if h:0 < (bestF gs l (at_ + g)).m∧at_ + g + (bestF gs l (at_ + g)).m ≤ l.length then gapGo gs l at_ (g + (bestF gs l (at_ + g)).m) (max k (g + (bestF gs l (at_ + g)).lk))
  else (g,max k (g + (bestF gs l (at_ + g)).lk))
termination_by l.length - (at_ + g)
decreasing_by lia
theorem gapGo_go {gs:List Ent} {l:List Nat} {at_ g k:Nat} (hg:at_ + g ≤ l.length) (h:0 < (bestF gs l (at_ + g)).m):gapGo gs l at_ g k = gapGo gs l at_ (g + (bestF gs l (at_ + g)).m) (max k (g + (bestF gs l (at_ + g)).lk)):=by
  rw [gapGo,dif_pos ⟨h,(bestF_le hg).1⟩]
theorem gapGo_end {gs:List Ent} {l:List Nat} {at_ g k:Nat} (h:¬ 0 < (bestF gs l (at_ + g)).m):gapGo gs l at_ g k = (g,max k (g + (bestF gs l (at_ + g)).lk)):=by
  rw [gapGo,dif_neg fun z=>h z.1]
theorem gapGo_le (gs : List Ent) (l : List Nat) (at_ : Nat) : ∀ (n g k : Nat), l.length - (at_ + g) ≤ n → at_ + g ≤ l.length → at_ + k ≤ l.length + 1 →
    g ≤ (gapGo gs l at_ g k).1∧at_ + (gapGo gs l at_ g k).1 ≤ l.length∧k ≤ (gapGo gs l at_ g k).2∧(gapGo gs l at_ g k).1 + 1 ≤ (gapGo gs l at_ g k).2∧at_ + (gapGo gs l at_ g k).2 ≤ l.length + 1
  | n,g,k,hn,hg,hk=>by
    have hb:=bestF_le (es:=gs) hg
    have h1:=bestF_lk gs l (at_ + g)
    by_cases h:0 < (bestF gs l (at_ + g)).m
    · rw [gapGo_go hg h]
      match n,hn with
      | 0,hn=>lia
      | n + 1,hn =>
        have ih:=gapGo_le gs l at_ n (g + (bestF gs l (at_ + g)).m) (max k (g + (bestF gs l (at_ + g)).lk)) (by lia) (by lia) (by lia)
        lia
    · rw [gapGo_end h]
      dsimp only
      lia
structure Wd where
  k:List Nat
  g:Nat
  n:Nat
  lk:Nat
noncomputable abbrev kEnd:List Nat:=[101,110,100]
noncomputable abbrev kStray:List Nat:=[115,116,114,97,121]
noncomputable def isGap (e:Ent):Bool:=e.k.isEmpty
noncomputable def gapsOf (es:List Ent):List Ent:=es.filter isGap
noncomputable def restOf (es:List Ent):List Ent:=es.filter fun e=>!isGap e
noncomputable def gapF (es:List Ent) (l:List Nat) (at_:Nat):Nat × Nat:=gapGo (gapsOf es) l at_ 0 0
noncomputable def wordF (es:List Ent) (l:List Nat) (at_:Nat):Wd :=
  if at_ + (gapF es l at_).1 = l.length then ⟨kEnd,(gapF es l at_).1,0,(gapF es l at_).2⟩
  else ⟨if (bestF (restOf es) l (at_ + (gapF es l at_).1)).m = 0 then kStray else (bestF (restOf es) l (at_ + (gapF es l at_).1)).k,(gapF es l at_).1,
    max 1 (bestF (restOf es) l (at_ + (gapF es l at_).1)).m,max (gapF es l at_).2 ((gapF es l at_).1 + (bestF (restOf es) l (at_ + (gapF es l at_).1)).lk)⟩
theorem gapF_le {es:List Ent} {l:List Nat} {at_:Nat} (h:at_ ≤ l.length):at_ + (gapF es l at_).1 ≤ l.length∧(gapF es l at_).1 + 1 ≤ (gapF es l at_).2∧at_ + (gapF es l at_).2 ≤ l.length + 1:=by
  have:=gapGo_le (gapsOf es) l at_ _ 0 0 (Nat.le_refl _) (by lia) (by lia)
  unfold gapF
  lia
theorem wordF_le {es:List Ent} {l:List Nat} {at_:Nat} (h:at_ ≤ l.length):at_ + (wordF es l at_).g + (wordF es l at_).n ≤ l.length∧(wordF es l at_).g + 1 ≤ (wordF es l at_).lk∧(wordF es l at_).g + (wordF es l at_).n ≤ (wordF es l at_).lk∧at_ + (wordF es l at_).lk ≤ l.length + 1:=by
  have hg:=gapF_le (es:=es) h
  unfold wordF
  split
  · dsimp only; lia
  · rename_i hne
    have hb:=bestF_le (es:=restOf es) (l:=l) (pl:=at_ + (gapF es l at_).1) hg.1
    have h1:=bestF_lk (restOf es) l (at_ + (gapF es l at_).1)
    have h2:=bestF_fst (restOf es) l (at_ + (gapF es l at_).1)
    dsimp only
    lia
end Rg
namespace Rg
end Rg
namespace Rg
inductive Reach (es:List Ent) (l:List Nat):Nat→Prop
  | zero:Reach es l 0
  | step {p:Nat}:Reach es l p→(wordF es l p).n ≠ 0→Reach es l (p + (wordF es l p).g + (wordF es l p).n)
theorem Reach.le {es:List Ent} {l:List Nat} {p:Nat} (h:Reach es l p):p ≤ l.length:=by
  induction h with
  | zero=>exact Nat.zero_le _
  | step _ _ ih=>exact (wordF_le ih).1
end Rg
namespace Rg
open PySem PySem.Spec PyProof.Rows L2
noncomputable def Kq (la:Option Addr) (H H':Hp):Prop:=∀ b u,some b ≠ la→H b = some u→H' b = some u
theorem Kq.kp {la:Addr} {H H':Hp} (k:Kp la H H'):Kq (some la) H H':=fun b u n e=>k b u (fun z=>n (congrArg some z)) e
structure Old (la:Option Addr) (H0 H:Hp):Prop where
  nw:∀ a,la = some a→H0 a = none
  sm:Same H0 H
theorem Old.kq {la:Option Addr} {H0 H H':Hp} (h:Old la H0 H) (k:Kq la H H'):Old la H0 H' :=
  ⟨h.nw,fun b u e=>k b u (fun z=>by rw [h.nw b z.symm] at e; cases e) (h.sm b u e)⟩
theorem Old.up {la:Option Addr} {H0 H1 H:Hp} (h:Old la H1 H) (k:Same H0 H1):Old la H0 H:=by
  refine ⟨fun a e=>?_,k.trans h.sm⟩
  cases z:H0 a with
  | none=>rfl
  | some u =>
    have:=h.nw a e
    rw [k a u z] at this
    cases this
noncomputable abbrev AKt:=Hp→Addr→Option Addr→List Nat→List Nat→Prop
structure Asker (AK:AKt):Prop where
  same:∀ {H H':Hp} {f:Addr} {la:Option Addr} {tx as:List Nat},AK H f la tx as→Same H H'→AK H' f la tx as
  lst:∀ {H:Hp} {f a:Addr} {tx as:List Nat},AK H f (some a) tx as→∃ zs,H a = some (.lst zs)
  upd:∀ {H:Hp} {f b:Addr} {la:Option Addr} {tx as:List Nat} {ys:List V} {o:HO},AK H f la tx as→H b = some (.lst ys)→some b ≠ la→AK (L2.upd H b o) f la tx as
theorem Asker.tr {AK:AKt} (A:Asker AK) {H:Hp} {f a:Addr} {tx as:List Nat} (h:AK H f (some a) tx as):H a ≠ none:=fun z=>by
  obtain ⟨zs,e⟩:=A.lst h
  rw [z] at e
  cases e
structure Ent.Ok (e:Ent):Prop where
  len:e.f.length ≤ 12
  ok:∀ p ∈ e.f,p.Ok
  kl:e.k.length ≤ 100
  kok:∀ c ∈ e.k,okSign c
  ke:e.k ≠ kEnd
noncomputable def Ent.dat (e:Ent):PyData:=.tuple [.str (S e.k),.list (e.f.map Prt.dat)]
theorem ent_lay {e:Ent} (h:e.Ok):e.dat.canLay0 = true:=by
  unfold Ent.dat
  simp only [PyData.canLay0,PyData.canLayAll0,strOk_S h.kok,parts_lay h.ok,Bool.and_self]
theorem eqv_nil (ds:List PyData):PyData.eqv (.list ds) (.list []) = ds.isEmpty:=by
  cases ds <;> simp [PyData.eqv,PyData.eqvAll]
noncomputable def Nt (H H':Hp):Prop:=∀ b u,(∀ ps,u ≠ HO.tbl ps)→H b = some u→H' b = some u
theorem Nt.seq {K:PySem.W.Frag} {H H':Hp} {a:Addr} {xs:List V} (e:Nt H H') (h:SqL K H a xs):SqL K H' a xs:=by
  rcases h with h | h
  · refine .inl ?_
    rcases h with h | ⟨o,h⟩
    · exact .inl (e _ _ (fun _ z=>by cases z) h)
    · exact .inr ⟨o,e _ _ (fun _ z=>by cases z) h⟩
  · exact .inr h
theorem Nt.seqT {K:PySem.W.Frag} {H H':Hp} {a:Addr} {xs:List V} (e:Nt H H') (h:SqT K H a xs):SqT K H' a xs:=by
  rcases h with h | h
  · refine .inl ?_
    rcases h with h | ⟨o,h⟩
    · exact .inl (e _ _ (fun _ z=>by cases z) h)
    · exact .inr ⟨o,e _ _ (fun _ z=>by cases z) h⟩
  · exact .inr h
mutual
theorem datv_nt {K:PySem.W.Frag} {H H':Hp} (e:Nt H H'):∀ {x:V} {d:PyData},DatV K H x d→DatV K H' x d
  | _,_,.none=>.none
  | _,_,.bool b=>.bool b
  | _,_,.int i=>.int i
  | _,_,.str x=>.str x
  | _,_,.list h1 h2=>.list (e.seq h1) (datvs_nt e h2)
  | _,_,.tuple h1 h2=>.tuple (e.seqT h1) (datvs_nt e h2)
theorem datvs_nt {K:PySem.W.Frag} {H H':Hp} (e:Nt H H'):∀ {xs:List V} {ds:List PyData},DatVs K H xs ds→DatVs K H' xs ds
  | _,_,.nil=>.nil
  | _,_,.cons a b=>.cons (datv_nt e a) (datvs_nt e b)
end
noncomputable def Wd.dat (w:Wd):PyData:=.tuple [.str (S w.k),.int (w.g:Nat),.int (w.n:Nat),.int (w.lk:Nat)]
noncomputable abbrev Wd.vs (w:Wd):List V:=[.str (S w.k),.int (w.g:Nat),.int (w.n:Nat),.int (w.lk:Nat)]
end Rg
namespace L2
open PySem PySem.Spec PyProof.Rows
section
variable {X:Cx} {K:PySem.W.Frag}
end
end L2
namespace Rg
end Rg
namespace Rg
open PySem PySem.Spec PyProof.Rows L2
theorem atI_last {xs:List V} {v:V} (h:xs[xs.length - 1]? = some v):atI xs (-1) = some v:=by
  have hl:0 < xs.length:=by
    cases xs with
    | nil=>cases h
    | cons x r=>simp
  have e:ixN xs.length (-1) = some (xs.length - 1):=by
    unfold ixN
    rw [if_neg (by decide)]
    rw [if_pos (by lia)]
    congr 1
    lia
  unfold atI
  rw [e]
  exact h
end Rg
namespace L2
open PySem PySem.Spec PyProof.Rows
section
variable {X:Cx} {K:PySem.W.Frag} {e:Expr} {te:TE} {pos:Pos}
end
end L2
namespace L2
open PySem PySem.Spec PyProof.Rows
section
variable {X:Cx} {K:PySem.W.Frag}
end
end L2
namespace L2
open PySem PySem.Spec PyProof.Rows
end L2
namespace L2
open PySem PySem.Spec PyProof.Rows
section
variable {cap:List (Option Nat)} {g:TG} {tc:TT} {te:TE} {Q:Addr→Hp→Prop} {σ:St} {H:Hp}
end
end L2
namespace L2
open PySem PySem.Spec PyProof.Rows
noncomputable def Ite (K:PySem.W.Frag) (a:Addr):It :=
  ⟨fun i H=>∃ xs x,SqL K H a xs∧xs[i]? = some x,
   fun i H v H'=>∃ T x,(∀ xs,SqL K H a xs→xs[i]? = some x)∧H T = none∧v = .ref T∧H' = upd H T (.tup [.int (i:Nat),x]),
   fun i H=>∃ xs,SqL K H a xs∧xs.length ≤ i⟩
theorem turn_enum {P : Program} {w : World} {K : PySem.W.Frag} {elts : List Expr} {x1} {pos : Pos} {a e it : Addr} (hne : e ≠ it) :
    Turn P w K (.Tuple elts x1 pos) (Ite K a) [e,it] e (fun i h=>(∃ old,IsEnum h e it (i:Nat) old)∧h.IsListIter it a i) where
  mem:=by simp
  obj:=by
    rintro i h ⟨⟨old,he⟩,hi⟩ c hc
    simp only [List.mem_cons,List.not_mem_nil,or_false] at hc
    rcases hc with rfl | rfl
    · exact ⟨_,he,fun v z=>by cases z⟩
    · obtain ⟨o,ho,_,d⟩:=hi
      exact ⟨o,ho,fun v z=>by rw [d] at z; cases z⟩
  keep:=by
    rintro i h h' ⟨⟨old,he⟩,hi⟩ k
    refine ⟨⟨old,k e (by simp) _ he⟩,?_⟩
    obtain ⟨o,ho,r⟩:=hi
    exact ⟨o,k it (by simp) _ ho,r⟩
  item:=by
    rintro X hP hw hK hc i pins s σ H E I hf ⟨⟨old,he⟩,hi⟩ ⟨xs,x,q1,hx⟩
    subst hP hw hK
    obtain ⟨its,rv,p1,_⟩:=I.list q1
    obtain ⟨ux,hux,rx⟩:=rv.get hx
    refine wpAny_pyNext_enum_item he hi p1.isList (x:=ux) (by simpa using hux) hne fun h' a1 a2 a3 a4 a5=>?_
    have hT:H s.heap.objs.size = none:=I.hok.fresh (Nat.le_refl _)
    have I1:Inv X pins σ (upd H s.heap.objs.size (.tup [.int (i:Nat),x])) { s with heap:=s.heap.push { cls:=.type "tuple",data:=.seq [.int (i:Nat) s.toks,ux].toArray },toks:=s.toks + 1 } :=
      I.laid (t':=s.toks + 1) (fun b o q=>Heap.get?_push_of_some _ q) (Nat.le_refl _) (show ObjOk X.prog X.w _ _ _ (.tup [.int (i:Nat),x]) from ⟨by show 2 ≤ sizeLine; decide,[.int (i:Nat) s.toks,ux],.cons ⟨_,rfl⟩ (.cons rx .nil),IsTup.new _ _⟩)
    have hlt:∀ c ∈ [e,it],c < s.heap.objs.size:=by
      intro c hc
      simp only [List.mem_cons,List.not_mem_nil,or_false] at hc
      rcases hc with rfl | rfl
      · exact Heap.lt_size he
      · obtain ⟨o,ho,_⟩:=hi; exact Heap.lt_size ho
    have hf':∀ c ∈ [e,it],FpOk X pins (upd H s.heap.objs.size (.tup [.int (i:Nat),x])) c:=fun c hc=>by
      obtain ⟨f0,fr⟩:=hf c hc
      exact ⟨by rw [upd_ne (Nat.ne_of_lt (hlt c hc))]; exact f0,fr⟩
    have kept:∀ c o,c ∉ [e,it]→(s.heap.push { cls:=.type "tuple",data:=.seq [.int (i:Nat) s.toks,ux].toArray }).get? c = some o→h'.get? c = some o:=by
      intro c o hc q
      have hc':c ≠ e∧c ≠ it:=by simpa using hc
      by_cases hn:c = s.heap.objs.size
      · subst hn
        have e0:(s.heap.push { cls:=.type "tuple",data:=.seq [.int (i:Nat) s.toks,ux].toArray }).get? s.heap.objs.size = some { cls:=.type "tuple",data:=.seq [.int (i:Nat) s.toks,ux].toArray }:=Heap.get?_push_size _ rfl
        rw [e0] at q
        cases q
        exact a3
      · rw [Heap.get?_push_ne _ _ _ hn] at q
        exact a5 c o hc'.1 hc'.2 q
    have I2:Inv X pins σ (upd H s.heap.objs.size (.tup [.int (i:Nat),x])) { s with heap:=h',toks:=s.toks + 1 }:=I1.turnedL (t':=s.toks + 1) kept hf'
    refine ⟨_,rfl,?_⟩
    refine wpAny_letOwnedTupleGo_enum a1 fun h2' he2 hs2=>?_
    have I3:Inv X pins σ (upd H s.heap.objs.size (.tup [.int (i:Nat),x])) { s with heap:=h2',toks:=s.toks + 1 }:=Inv.turnedL (s:={ s with heap:=h',toks:=s.toks + 1 }) (h':=h2') (t':=s.toks + 1) (fp:=[e,it]) I2 (fun c o hc q=>hs2.extBut _ _ (fun z=>hc (by simp [z])) q) hf'
    refine ⟨.ref s.heap.objs.size,_,I3,rfl,⟨_,x,fun zs hq=>by rw [I.list_inj hq q1]; exact hx,hT,rfl,rfl⟩,⟨⟨_,he2⟩,?_⟩,fun c hc=>(hf' c hc).1⟩
    obtain ⟨o,ho,r⟩:=a2
    exact ⟨o,hs2.extBut _ _ hne.symm ho,r⟩
  done:=by
    rintro X hP hw hK hc i pins s σ H E I hf ⟨⟨old,he⟩,hi⟩ ⟨xs,q1,hend⟩
    subst hP hw hK
    obtain ⟨its,rv,p1,_⟩:=I.list q1
    have l1:=rv.length
    refine wpAny_pyNext_enum_end (I.ok.hd hc) he hi p1.isList (by simp; lia) fun h' hk=>⟨rfl,I.turnedL (t':=s.toks) (fp:=[e,it]) (fun c o hc q=>?_) hf⟩
    have hc':c ≠ e∧c ≠ it:=by simpa using hc
    exact hk c o hc'.2 q
  self:=fun _ _ _ _ _ st h=>by
    obtain ⟨⟨old,he⟩,_⟩:=st
    exact wpAny_pyIter_enum he h
section
variable {X:Cx} {K:PySem.W.Frag}
noncomputable def iEnum (K:PySem.W.Frag) (ta:TA):TI:=fun σ H R=>ta σ H fun vs H1=>match vs with
  | [.ref a]=>(∃ xs,SqL K H1 a xs)∧R (Ite K a) H1
  | _=>False
theorem pi_enum {a : Expr} {ta : TA} {p pos : Pos} {elts : List Expr} {x1} {pos' : Pos} (hg : Gl X "enumerate") (hm : X.mg "enumerate" = none) (ha : PA X [a] ta) (hK : X.K = K := by rfl) (hs : starEach [a] X.env = [(false, eval a X.env)] := by rfl) :
    PI X (.Tuple elts x1 pos') (.Call (.Name "enumerate" p) [a] [] pos) (iEnum K ta):=by
  subst hK
  intro pins s σ H R I h
  refine Call_ (ld_blt I hg hm boot_enumerate (PyProof.Rows.callWith_type1 (thn (ha pos pins s σ H _ I h) fun us s1 ⟨vs,H1,I1,r1,q1⟩=>?_) (by rw [hs]; rfl) rfl))
  try dsimp only at q1
  split at q1
  · obtain ⟨u,rfl,r⟩:=vals1 r1
    cases r
    obtain ⟨⟨xs,hx⟩,q⟩:=q1
    obtain ⟨its,rv,p1,_⟩:=I1.list hx
    refine call_enumerate_list p1.isList fun h' he hi hz hk=>?_
    refine wpAny_pyIter_enum he ?_
    refine ⟨_,[s1.heap.objs.size + 1,s1.heap.objs.size],_,_,H1,rfl,I1.kept (t':=s1.toks) hk,turn_enum (Nat.succ_ne_self _),⟨⟨_,he⟩,hi⟩,fun c hc=>?_,q⟩
    have hge:s1.heap.objs.size ≤ c:=by
      simp only [List.mem_cons,List.not_mem_nil,or_false] at hc
      rcases hc with rfl | rfl
      · exact Nat.le_succ _
      · exact Nat.le_refl _
    exact I1.fpOk hge (I1.hok.fresh hge)
  · exact q1.elim
theorem ji_enum {a : Expr} {ta : TA} {p pos : Pos} {elts : List Expr} {x1} {pos' : Pos} (hg : Gl X "enumerate") (hm : X.mg "enumerate" = none) (ha : JA X [a] ta) (hK : X.K = K := by rfl) (h1 : noStar a = true := by rfl) :
    JI X (.Tuple elts x1 pos') (.Call (.Name "enumerate" p) [a] [] pos) (iEnum K ta):=.mk (pi_enum hg hm ha.out hK (by rw [starEach_cons h1]; rfl))
noncomputable def gClear:V→List V→Hp→VK→Prop:=fun x vs H Q=>match x,vs with
  | .ref l,[]=>∃ xs,H l = some (.lst xs)∧Q .non (upd H l (.lst []))
  | _,_=>False
theorem m_clear:Irr (MtR X "list.clear" gClear):=by
  refine .mk ?_
  intro pins s σ H x xs v us Q I rx rs h
  unfold gClear at h
  split at h
  · obtain ⟨xs,h1,h2⟩:=h
    exact mt_clear pins s σ H _ _ v us Q I rx rs ⟨_,xs,rfl,rfl,h1,h2⟩
  · exact h.elim
noncomputable def gPopAt:V→List V→Hp→VK→Prop:=fun x vs H Q=>match x,vs with
  | .ref l,[.int i]=>∃ xs k y,H l = some (.lst xs)∧-(2 ^ 63) ≤ i∧i < 2 ^ 63∧seqIndex? i xs.length = some k∧xs[k]? = some y∧Q y (upd H l (.lst (xs.eraseIdx k)))
  | _,_=>False
theorem m_popAt:Irr (MtR X "list.pop" gPopAt):=by
  refine .mk ?_
  intro pins s σ H x xs v us Q I rx rs h
  unfold gPopAt at h
  split at h
  · obtain ⟨xs,k,y,h1,h2,h3,h4,h5,h6⟩:=h
    exact mt_popAt pins s σ H _ _ v us Q I rx rs ⟨_,xs,_,k,y,rfl,rfl,h1,h2,h3,h4,h5,h6⟩
  · exact h.elim
end
theorem for_enum {K : PySem.W.Frag} {a : Addr} {xs : List V} {g : TG} {tb : TS} {D : Ends} {σ : St} {H : Hp} (Pv : Nat → St → Hp → Prop) (h0 : Pv 0 σ H)
    (hl:∀ i σ H,i ≤ xs.length→Pv i σ H→SqL K H a xs)
    (hs:∀ i x σ H,xs[i]? = some x→Pv i σ H→∀ T,H T = none→g (.ref T) σ (upd H T (.tup [.int (i:Nat),x])) fun σ2 H2=>tb { D with nx:=Pv (i + 1),ct:=Pv (i + 1),bk:=D.nx } σ2 H2) (hd:∀ σ H,Pv xs.length σ H→D.nx σ H) :
    ∃ W:Nat→Nat→St→Hp→Prop,(∃ m,W 0 m σ H)∧∀ i m σ H,W i m σ H →
      ((Ite K a).stop i H∧D.nx σ H)∨((Ite K a).go i H∧∃ N:St→Hp→Prop,(∀ σ' H',N σ' H'→∃ m',m' < m∧W (i + 1) m' σ' H')∧∀ x H',(Ite K a).yld i H x H'→g x σ H' fun σ2 H2=>tb { D with nx:=N,ct:=N,bk:=D.nx } σ2 H2):=by
  refine ⟨fun i m σ H=>m = xs.length - i∧i ≤ xs.length∧Pv i σ H,⟨xs.length,by simp,Nat.zero_le _,h0⟩,?_⟩
  rintro i m σ H ⟨rfl,hi,p⟩
  have q1:=hl i σ H hi p
  by_cases hlt:i < xs.length
  · refine .inr ⟨⟨xs,xs[i],q1,by simp [hlt]⟩,Pv (i + 1),fun σ' H' p'=>⟨xs.length - (i + 1),by lia,rfl,hlt,p'⟩,fun v H' y=>?_⟩
    obtain ⟨T,x,e1,hT,rfl,rfl⟩:=y
    exact hs i x σ H (e1 xs q1) p T hT
  · have e:i = xs.length:=by lia
    subst e
    exact .inl ⟨⟨xs,q1,Nat.le_refl _⟩,hd σ H p⟩
end L2
namespace L2
open PySem PySem.Spec PyProof.Rows
namespace FX
end FX
section
variable {prog:Program} {w:World} {A:Around} {E:Value→Shared→Prop} {s:Shared}
end
section
variable {X:Cx} {K:PySem.W.Frag}
noncomputable def gEqA (K:PySem.W.Frag) (neg:Bool):R2:=fun x y H Q=>match x,y with
  | .non,.str j=>PyData.strOk j = true∧Q (.bl neg) H
  | .str j,.non=>PyData.strOk j = true∧Q (.bl neg) H
  | .non,.non=>Q (.bl (!neg)) H
  | .non,.int _=>Q (.bl neg) H
  | .int _,.non=>Q (.bl neg) H
  | x,y=>gEq K neg x y H Q
theorem o_eqA (hu:X.A.units + 64 < cLine) (hK:X.K = K:=by rfl):Irr (OpR X (compareOp .Eq) (gEqA K false)):=by
  refine .mk ?_
  subst hK
  intro pins s σ H x y v u Q I rx ry h
  have gen:∀ da db,DatV X.K H x da→DatV X.K H y db→da.canLay0 = true→db.canLay0 = true→min da.depth db.depth ≤ 60→Q (.bl (PyData.eqv da db)) H→_:=fun da db h1 h2 h3 h4 h5 h6=>op_eqD hu pins s σ H x y v u Q I rx ry ⟨da,db,h1,h2,h3,h4,h5,by simpa using h6⟩
  unfold gEqA at h
  split at h
  · exact gen .none (.str _) .none (.str _) (by simp only [PyData.canLay0]) (by simp only [PyData.canLay0]; exact h.1) (by simp only [PyData.depth]; lia) (by simpa [PyData.eqv] using h.2)
  · exact gen (.str _) .none (.str _) .none (by simp only [PyData.canLay0]; exact h.1) (by simp only [PyData.canLay0]) (by simp only [PyData.depth]; lia) (by simpa [PyData.eqv] using h.2)
  · exact gen .none .none .none .none (by simp only [PyData.canLay0]) (by simp only [PyData.canLay0]) (by simp only [PyData.depth]; lia) (by simpa [PyData.eqv] using h)
  · exact gen .none (.int _) .none (.int _) (by simp only [PyData.canLay0]) (by simp only [PyData.canLay0]) (by simp only [PyData.depth]; lia) (by simpa [PyData.eqv] using h)
  · exact gen (.int _) .none (.int _) .none (by simp only [PyData.canLay0]) (by simp only [PyData.canLay0]) (by simp only [PyData.depth]; lia) (by simpa [PyData.eqv] using h)
  · exact og_eq hu rfl pins s σ H _ _ v u Q I rx ry h
end
end L2
namespace L2
open PySem PySem.Spec PyProof.Rows
section
variable {X:Cx}
noncomputable def gPow:R2:=fun x y H Q=>match x,y with
  | .int i,.int j=>CPow i j∧Q (.int (i ^ j.toNat)) H
  | _,_=>False
theorem o_pow:Irr (OpR X (binaryOp .Pow) gPow):=by
  refine .mk ?_
  intro pins s σ H x y v u Q I rx ry h
  unfold gPow at h
  split at h
  · exact op_pow pins s σ H _ _ v u Q I rx ry ⟨_,_,rfl,rfl,h.1,h.2⟩
  · exact h.elim
end
end L2
namespace L2
open PySem PySem.Spec PyProof.Rows
noncomputable def Itv (K:PySem.W.Frag) (a:Addr) (xs:List V):It :=
  ⟨fun i H=>SqL K H a xs∧i < xs.length,fun i H x H'=>H' = H∧xs[xs.length - 1 - i]? = some x,fun i _=>xs.length ≤ i⟩
theorem turn_rev {P:Program} {w:World} {K:PySem.W.Frag} {tg:Expr} (a it:Addr) (xs:List V):Turn P w K tg (Itv K a xs) [it] it (fun i h=>i ≤ xs.length∧h.IsRevIter it a ((xs.length:Int) - 1 - (i:Int))) where
  mem:=by simp
  obj:=fun i h st b hb=>by
    have e:b = it:=by simpa using hb
    subst e
    obtain ⟨_,o,e,c,d⟩:=st
    exact ⟨o,e,fun v z=>by rw [d] at z; cases z⟩
  keep:=fun i h h' st k=>⟨st.1,st.2.at fun o e=>k it (by simp) o e⟩
  item:=by
    intro X hP hw hK hc i pins s σ H E I hf st hg
    subst hP hw hK
    obtain ⟨hq,hlt⟩:=hg
    obtain ⟨its,rv,p,hz⟩:=I.list hq
    have hx:xs[xs.length - 1 - i]? = some xs[xs.length - 1 - i]:=List.getElem?_eq_getElem (by lia)
    obtain ⟨u,hu,ru⟩:=rv.get hx
    obtain ⟨f0,f1,f2,f3,f4,f5⟩:=hf it (by simp)
    have st0:=st.2
    rw [show ((xs.length:Int) - 1 - (i:Int)) = ((xs.length - 1 - i:Nat):Int) by lia] at st0
    refine wpAny_pyNext_rev_item st0 p.isList (x:=u) (by simpa using hu) fun h' st' sb=>?_
    have I1:Inv X pins σ H { s with heap:=h' }:=I.turned (t':=s.toks) (fun b o hb e=>(sb.2 b hb).trans e) f0 f1 f3 f4 f5
    have st1:h'.IsRevIter it a ((xs.length:Int) - 1 - ((i + 1:Nat):Int)):=by
      rw [show ((xs.length:Int) - 1 - ((i + 1:Nat):Int)) = ((xs.length - 1 - i:Nat):Int) - 1 by lia]
      exact st'
    obtain ⟨o,e,c,d⟩:=id st'
    exact ⟨u,rfl,go_of (s:={ s with heap:=h' }) e c d (by decide) ⟨_,H,I1,ru,⟨rfl,hx⟩,⟨by lia,st1⟩,fun b hb=>(hf b hb).1⟩⟩
  done:=by
    intro X hP hw hK hc i pins s σ H E I hf st hg
    subst hP hw hK
    obtain ⟨f0,f1,f2,f3,f4,f5⟩:=hf it (by simp)
    have st0:=st.2
    have hle:=st.1
    rw [show ((xs.length:Int) - 1 - (i:Int)) = -1 by have:xs.length ≤ i:=hg; lia] at st0
    exact wpAny_pyNext_rev_end (I.ok.hd hc) st0 fun h' eb=>⟨rfl,I.turned (t':=s.toks) (fun b o hb e=>eb b o hb e) f0 f1 f3 f4 f5⟩
  self:=fun _ _ _ _ _ st h=>wpAny_pyIter_revIter st.2 h
section
variable {X:Cx} {K:PySem.W.Frag}
noncomputable def iRev (K:PySem.W.Frag) (ta:TA):TI:=fun σ H R=>ta σ H fun vs H1=>match vs with
  | [.ref a]=>∃ xs,SqL K H1 a xs∧R (Itv K a xs) H1
  | _=>False
theorem pi_rev {tg a : Expr} {ta : TA} {p pos : Pos} (hg : Gl X "reversed") (hm : X.mg "reversed" = none) (ha : PA X [a] ta) (hK : X.K = K := by rfl) (hs : starEach [a] X.env = [(false, eval a X.env)] := by rfl) :
    PI X tg (.Call (.Name "reversed" p) [a] [] pos) (iRev K ta):=by
  subst hK
  intro pins s σ H R I h
  refine Call_ (ld_blt I hg hm boot_reversed (PyProof.Rows.callWith_type1 (thn (ha pos pins s σ H _ I h) fun us s1 ⟨vs,H1,I1,r1,q1⟩=>?_) (by rw [hs]; rfl) rfl))
  try dsimp only at q1
  split at q1
  · rename_i la
    obtain ⟨u,rfl,r⟩:=vals1 r1
    cases r
    obtain ⟨xs,hx,q⟩:=q1
    obtain ⟨its,rv,p1,_⟩:=I1.list hx
    have l1:=rv.length
    refine call_reversed_list p1.isList ?_
    have st:(s1.heap.push (revObj la ((its.toArray.size:Int) - 1))).IsRevIter s1.heap.objs.size la ((xs.length:Int) - 1 - ((0:Nat):Int)):=⟨_,Heap.get?_push_size _ rfl,rfl,by
      rw [show ((xs.length:Int) - 1 - ((0:Nat):Int)) = (its.toArray.size:Int) - 1 by rw [List.size_toArray,l1]; lia]
      rfl⟩
    refine wpAny_pyIter_revIter st ?_
    refine ⟨s1.heap.objs.size,[s1.heap.objs.size],_,_,H1,rfl,I1.kept (t':=s1.toks) fun b o e=>Heap.get?_push_of_some _ e,turn_rev _ _ xs,⟨Nat.zero_le _,st⟩,fun b hb=>?_,q⟩
    have e:b = s1.heap.objs.size:=by simpa using hb
    subst e
    exact I1.fpOk (Nat.le_refl _) (I1.hok.fresh (Nat.le_refl _))
  · exact q1.elim
theorem ji_rev {tg a : Expr} {ta : TA} {p pos : Pos} (hg : Gl X "reversed") (hm : X.mg "reversed" = none) (ha : JA X [a] ta) (hK : X.K = K := by rfl) (h1 : noStar a = true := by rfl) :
    JI X tg (.Call (.Name "reversed" p) [a] [] pos) (iRev K ta):=.mk (pi_rev hg hm ha.out hK (by rw [starEach_cons h1]; rfl))
noncomputable def gSetD:V→List V→Hp→VK→Prop:=fun x vs H Q=>match x,vs with
  | .ref d,[y,z]=>∃ kvs k,H d = some (.dK kvs)∧y = kV k∧kvs.length < sizeLine∧(∀ v,valV kvs k = some v→Q v H)∧(valV kvs k = none→Q z (upd H d (.dK (putK kvs k z))))
  | _,_=>False
theorem m_setd:Irr (MtR X "dict.setdefault" gSetD):=by
  refine .mk ?_
  intro pins s σ H x xs v us Q I rx rs h
  unfold gSetD at h
  split at h
  · rename_i d y z
    obtain ⟨kvs,k,e,rfl,hl,h1,h2⟩:=h
    obtain rfl:v = Value.ref d:=rx
    obtain ⟨u1,u2,rfl,r1,r2⟩:=vals2 rs
    obtain ⟨zz,hd,vs,rel,dd⟩:=dk_of I.hok e
    refine call_meetsIn PySem.F.slot_dict_setdefault dd.typeIs PySem.F.entry_dict_setdefault (PySem.F.args_dict_setdefault_3 _ _ _) (kt_meets_setdefault (mixKind X.prog X.w) d (kV_is r1) hd u2)
      ⟨vs,dd,by rw [← rel.length]; exact zz,fun w' hw=>?_,fun hn h' dd' hs=>?_⟩
    · have q:=rel.val k
      rw [hw] at q
      cases ev:valV kvs k with
      | none=>rw [ev] at q; exact q.elim
      | some v0 =>
        rw [ev] at q
        exact ⟨v0,H,I.tok _,q,h1 v0 ev⟩
    · have q:=rel.val k
      rw [hn] at q
      have ev:valV kvs k = none:=by
        cases ev:valV kvs k with
        | none=>rfl
        | some v0=>rw [ev] at q; exact q.elim
      have hl':(putK kvs k z).length ≤ sizeLine:=by have:=length_putK kvs k z; lia
      have he:∃ q,h'.get? d = some q:=let ⟨q,_,_,hq,_⟩:=dd'; ⟨q,hq⟩
      exact ⟨z,_,d_write I (by rw [e]; exact True.intro) hs he (dk_new hl' hd (rel.put k r2) dd'),r2,h2 ev⟩
  · exact h.elim
noncomputable def gCount:V→List V→Hp→VK→Prop:=fun x vs H Q=>match x,vs with
  | .str a,[.str b]=>Q (.int (Txt.count a b)) H
  | _,_=>False
theorem m_count:Irr (MtR X "str.count" gCount):=by
  refine .mk ?_
  intro pins s σ H x xs v us Q I rx rs h
  unfold gCount at h
  split at h
  · obtain ⟨t,rfl⟩:=rx
    obtain ⟨u,rfl,r⟩:=vals1 rs
    obtain ⟨t',rfl⟩:=r
    exact SC.count ⟨.int _,H,I.tok _,⟨_,rfl⟩,h⟩
  · exact h.elim
end
theorem for_rev {K : PySem.W.Frag} {a : Addr} {xs : List V} {g : TG} {tb : TS} {D : Ends} {σ : St} {H : Hp} (Pv : Nat → St → Hp → Prop) (h0 : Pv 0 σ H)
    (hl:∀ i σ H,i ≤ xs.length→Pv i σ H→SqL K H a xs)
    (hs:∀ i x σ H,i < xs.length→xs[xs.length - 1 - i]? = some x→Pv i σ H→g x σ H fun σ2 H2=>tb { D with nx:=Pv (i + 1),ct:=Pv (i + 1),bk:=D.nx } σ2 H2) (hd:∀ σ H,Pv xs.length σ H→D.nx σ H) :
    ∃ W:Nat→Nat→St→Hp→Prop,(∃ m,W 0 m σ H)∧∀ i m σ H,W i m σ H →
      ((Itv K a xs).stop i H∧D.nx σ H)∨((Itv K a xs).go i H∧∃ N:St→Hp→Prop,(∀ σ' H',N σ' H'→∃ m',m' < m∧W (i + 1) m' σ' H')∧∀ x H',(Itv K a xs).yld i H x H'→g x σ H' fun σ2 H2=>tb { D with nx:=N,ct:=N,bk:=D.nx } σ2 H2):=by
  refine ⟨fun i m σ H=>m = xs.length - i∧i ≤ xs.length∧Pv i σ H,⟨xs.length,by simp,Nat.zero_le _,h0⟩,?_⟩
  rintro i m σ H ⟨rfl,hi,p⟩
  by_cases hlt:i < xs.length
  · refine .inr ⟨⟨hl i σ H hi p,hlt⟩,Pv (i + 1),fun σ' H' p'=>⟨xs.length - (i + 1),by lia,rfl,hlt,p'⟩,fun x H' y=>?_⟩
    obtain ⟨e,y⟩:=y
    subst e
    exact hs i x σ _ hlt y p
  · have e:i = xs.length:=by lia
    subst e
    exact .inl ⟨Nat.le_refl _,hd σ H p⟩
end L2
namespace L2
open PySem PySem.Spec PyProof.Rows
section
variable {X:Cx} {K:PySem.W.Frag}
noncomputable def gStrI:List V→Hp→VK→Prop:=fun xs H Q=>match xs with
  | [.int n]=>n.natAbs.log2 < 1920∧Q (.str (Str.ofString (toString n))) H
  | _=>False
theorem c_strI:Irr (CallR X (.type "str") gStrI):=by
  refine .mk ?_
  intro pins s σ H xs us Q I r h
  unfold gStrI at h
  split at h
  · obtain ⟨h1,q⟩:=h
    obtain ⟨u,rfl,rx⟩:=vals1 r
    obtain ⟨t,rfl⟩:=rx
    exact PySem.P.str_of_int h1 ⟨.str _,H,I.tok _,⟨_,rfl⟩,q⟩
  · exact h.elim
end
section
variable {X:Cx} {p pos:Pos}
end
section
variable {cap:List (Option Nat)} {g:TG} {tc:TT} {te:TE} {Q:Addr→Hp→Prop} {σ:St} {H:Hp} {K:PySem.W.Frag}
end
end L2
namespace L2
open PySem PySem.Spec PyProof.Rows
section
variable {X:Cx} {e:Expr} {es:List Expr} {t:TA} {p pos:Pos}
theorem run_lent {k : Nat} {f : Addr} {fd : FuncData} {ps : List Str} {sp : Sp} {fr : List Str} {is : List Nat} {pins : List (Addr × Obj)} {σ : St} {H1 : Hp} {s1 : Shared} {Q : VK} {us : List Value} {vs : List V} (G : FnOk X.prog X.w X.K X.mg X.base CX0 k f fd ps sp) (b : Binds X.K fd ps []) (hr : Room k X.A)
    (hl:is.length = fr.length) (hfr:∀ (j:Nat) y i,fr[j]? = some y→is[j]? = some i→X.N[i]? = some y∧X.env.scope.names.lookup y = some .cell∧X.fn y = true) (hnd:fr.Nodup)
    (I1:Inv X pins σ H1 s1) (r:Vals vs us) (hv:∀ i ∈ is,∃ v,σ[i]? = some (some v)) (q:∀ cs os,Froz X.env X.N σ fr cs os→(∀ c ∈ cs,H1 c = none)→sp vs (froz cs os H1) (fun v H2=>Q v (rem cs H2)) E0) :
    wpAny (model X.prog X.w) X.A (call (.ref f) us) (EP X pins σ Q) X.xe s1:=by
  have cell:∀ (j:Nat) y,fr[j]? = some y→∃ (c:Addr) (o:Obj) (i:Nat) (v:V) (u:Value),X.env.cells.lookup y = some c∧s1.heap.get? c = some o∧X.N[i]? = some y∧σ[i]? = some (some v)∧o.data = .cell (some u)∧RelV v u:=fun j y hy=>by
    have hj:j < is.length:=by rw [hl]; exact (List.getElem?_eq_some_iff.mp hy).1
    obtain ⟨z1,z2,z3⟩:=hfr j y is[j] hy (List.getElem?_eq_getElem hj)
    obtain ⟨v,ev⟩:=hv is[j] (List.getElem_mem hj)
    obtain ⟨m,_,hlk⟩:=I1.loc
    obtain ⟨u,ru,lk⟩:=hlk _ y v z1 ev (.inr (.inl z2))
    rcases lk with ⟨k1,_⟩ | ⟨_,c,hc,o,ho,hd⟩
    · have k1':X.env.scope.names.lookup y = some .local:=k1
      rw [z2] at k1'
      cases k1'
    · exact ⟨c,o,_,v,u,hc,ho,z1,ev,hd,ru⟩
  let cs:List Addr:=fr.map fun y=>(X.env.cells.lookup y).getD 0
  let os:List Obj:=cs.map fun c=>(s1.heap.get? c).getD default
  have csj:∀ (j:Nat) y c,fr[j]? = some y→X.env.cells.lookup y = some c→cs[j]? = some c:=fun j y c h1 h2=>by
    show (fr.map _)[j]? = _
    rw [List.getElem?_map,h1]
    show some ((X.env.cells.lookup y).getD 0) = _
    rw [h2]; rfl
  have osj:∀ (j:Nat) c o,cs[j]? = some c→s1.heap.get? c = some o→os[j]? = some o:=fun j c o h1 h2=>by
    show (cs.map _)[j]? = _
    rw [List.getElem?_map,h1]
    show some ((s1.heap.get? c).getD default) = _
    rw [h2]; rfl
  have l1:cs.length = fr.length:=List.length_map ..
  have l2:os.length = fr.length:=by rw [← l1]; exact List.length_map ..
  have mem:∀ c ∈ cs,∃ (y:Str) (j:Nat),fr[j]? = some y∧X.env.cells.lookup y = some c:=fun c m=>by
    obtain ⟨j,hj,ec⟩:=List.mem_iff_getElem.mp m
    have hj':j < fr.length:=by lia
    obtain ⟨c',o,i,v,u,a1,_⟩:=cell j fr[j] (List.getElem?_eq_getElem hj')
    have:=csj j _ c' (List.getElem?_eq_getElem hj') a1
    rw [List.getElem?_eq_getElem hj,ec] at this
    cases this
    exact ⟨_,j,List.getElem?_eq_getElem hj',a1⟩
  have nd:cs.Nodup:=by
    refine List.nodup_iff_pairwise_ne.mpr (List.pairwise_iff_getElem.mpr fun i j hi hj hij e=>?_)
    have hi':i < fr.length:=by lia
    have hj':j < fr.length:=by lia
    obtain ⟨ci,_,_,_,_,a1,_⟩:=cell i fr[i] (List.getElem?_eq_getElem hi')
    obtain ⟨cj,_,_,_,_,b1,_⟩:=cell j fr[j] (List.getElem?_eq_getElem hj')
    have ei:=csj i _ ci (List.getElem?_eq_getElem hi') a1
    have ej:=csj j _ cj (List.getElem?_eq_getElem hj') b1
    rw [List.getElem?_eq_getElem hi] at ei
    rw [List.getElem?_eq_getElem hj] at ej
    have:ci = cj:=(Option.some.inj ei).symm.trans (e.trans (Option.some.inj ej))
    subst this
    have z:=I1.ok.inj _ _ _ a1 b1
    have:=(List.getElem_inj hnd).mp z
    lia
  have F:Froz X.env X.N σ fr cs os:=⟨l1,l2,fun j y hy=>by
    obtain ⟨c,o,i,v,u,a1,a2,a3,a4,a5,a6⟩:=cell j y hy
    have:=csj j y c hy a1
    exact ⟨c,o,i,v,u,this,osj j c o this a2,a1,a3,a4,a5,a6⟩,nd⟩
  have hcn:∀ c ∈ cs,H1 c = none:=fun c m=>by
    obtain ⟨y,j,_,a⟩:=mem c m
    exact I1.freeC y c a
  have hl2:os.length = cs.length:=by lia
  have hobj:∀ c o,Kn (froz cs os H1) c o→c ∈ cs→s1.heap.get? c = some o:=fun c o k m=>by
    obtain ⟨j,o',h1,h2,h3⟩:=froz_in (H:=H1) nd hl2 m
    obtain ⟨y,j2,hy,a⟩:=mem c m
    obtain ⟨c2,o2,i,v,u,a1,a2,_⟩:=cell j2 y hy
    rw [a] at a1
    cases a1
    have e1:=csj j2 y c hy a
    have e2:=osj j2 c o2 e1 a2
    have k2:=froz_at (H:=H1) nd e1 e2
    unfold Kn at k k2
    rw [k] at k2
    cases k2
    exact a2
  have old:∀ c ∈ cs,X.s₀.heap.objs.size ≤ c:=fun c m=>by
    obtain ⟨y,j,hy,a⟩:=mem c m
    have hj:j < is.length:=by rw [hl]; exact (List.getElem?_eq_some_iff.mp hy).1
    exact I1.ok.cab y c (hfr j y is[j] hy (List.getElem?_eq_getElem hj)).2.2 a
  have hok:HOk X.prog X.w (froz cs os H1) s1.heap:=fun b u e=>by
    by_cases m:b ∈ cs
    · obtain ⟨j,o,h1,h2,h3⟩:=froz_in (H:=H1) nd hl2 m
      have h3':froz cs os H1 b = some (.frz o anyHO):=h3
      rw [h3'] at e
      cases e
      exact ok_any (hobj b o h3 m)
    · rw [froz_out m] at e
      refine (I1.hok b u e).stay (fun _ _ _ q=>q) (fun c q=>?_) fun c xs q=>?_
      · rw [froz_out fun mc=>by rw [hcn c mc] at q; cases q]; exact q
      · rw [froz_out fun mc=>by rw [hcn c mc] at q; cases q]; exact q
  have E:=I1.env0
  have notB:∀ {b:Addr},b < X.s₀.heap.objs.size→b ∉ cs:=fun {b} hb m=>absurd (Nat.lt_of_lt_of_le hb (old b m)) (Nat.lt_irrefl _)
  have frn:∀ b ∈ frs X.stack,b ∉ cs:=fun b hb m=>by
    rcases List.mem_cons.mp (I1.stkSub b hb) with z | z
    · obtain ⟨y,j,_,a⟩:=mem b m
      exact I1.cne y b a z
    · obtain ⟨_,o,ho,_⟩:=I1.ok.funs.mem z
      exact notB (Heap.lt_size ho) m
  have E':Env0 X.prog X.w X.K X.mg X.base X.A X.stack s1 (froz cs os H1):=⟨E.frames,E.mod,fun b o hb=>⟨(E.bs b o hb).1,by
    rw [froz_out (notB (Nat.lt_of_lt_of_le (Heap.lt_size hb) I1.ok.bsz))]; exact (E.bs b o hb).2⟩,E.bsz,E.funs,fun b hb=>by rw [froz_out (frn b hb)]; exact E.frf b hb,hok,E.bare⟩
  have hq:=q cs os F hcn
  have hlen:us.length = ps.length:=by rw [← r.length]; exact G.len _ _ _ _ hq
  have hbind:=b s1 us I1.kIn (by rw [List.append_nil]; exact hlen)
  rw [List.append_nil] at hbind
  refine wpAny_call (codeAny_mono (G.run X.A X.stack s1 (froz cs os H1) ⟨us,[]⟩ us vs _ E0 hr E' hbind r hq) fun r' s' hq'=>?_)
  cases r' with
  | error e=>exact hq'.elim
  | ok fl =>
    cases fl with
    | next=>exact False.elim hq'
    | brk=>exact False.elim hq'
    | cont=>exact False.elim hq'
    | ret u =>
      obtain ⟨v,H2,os',bare,un,hok2,rv,qv⟩:=hq'
      have kn2:∀ c ∈ cs,∃ o,Kn H2 c o:=fun c m=>by
        obtain ⟨j,o,h1,h2,h3⟩:=froz_in (H:=H1) nd hl2 m
        exact ⟨o,un.frzs c o _ h3⟩
      have cellK:∀ b o,b ∈ cs→s1.heap.get? b = some o→s'.heap.get? b = some o:=fun b o m ho=>by
        obtain ⟨j,o2,h1,h2,h3⟩:=froz_in (H:=H1) nd hl2 m
        have e1:=hobj b o2 h3 m
        rw [ho] at e1
        cases e1
        exact Kn.get (un.frzs b o _ h3) hok2
      refine I1.after ⟨v,rem cs H2,os',bare,⟨fun b o ho n hb hx=>?_,fun b o ho n hb hx=>?_,fun b o ho n hx=>?_,un.there,fun b xs e=>?_,fun b o z e=>?_,fun b ps' e=>?_⟩,hok2.rem kn2,rv,qv⟩
      · by_cases m:b ∈ cs
        · exact cellK b o m ho
        · exact un.keep b o ho (by rw [froz_out m]; exact n) hb hx
      · by_cases m:b ∈ cs
        · exact ⟨o.slots,cellK b o m ho⟩
        · exact un.slot b o ho (by rw [froz_out m]; exact n) hb hx
      · by_cases m:b ∈ cs
        · exact rem_in m
        · rw [rem_out m]
          exact un.free b o ho (by rw [froz_out m]; exact n) hx
      · have m:b ∉ cs:=fun m=>by rw [hcn b m] at e; cases e
        rw [rem_out m]
        exact un.tups b xs (by rw [froz_out m]; exact e)
      · have m:b ∉ cs:=fun m=>by rw [hcn b m] at e; cases e
        rw [rem_out m]
        exact un.frzs b o z (by rw [froz_out m]; exact e)
      · have m:b ∉ cs:=fun m=>by rw [hcn b m] at e; cases e
        rw [rem_out m]
        exact un.tbls b ps' (by rw [froz_out m]; exact e)
end
structure RawM (K:PySem.W.Frag) (C:Addr) (m qual:Str) (st:Stmt) (ps:List Str):Prop where
  ex:∃ f fd,Meth K C m f∧Fun K m qual st f fd∧∀ (us:List Value),us.length = ps.length→bindArgs fd ⟨us,[]⟩ = pure (ps.zip us)
structure DefM (P:Program) (w:World) (K:PySem.W.Frag) (mg:Str→Option Value) (base:Heap) (k:Nat) (C:Addr) (m:Str) (ps:List Str) (sp:Sp):Prop where
  ex:∃ f fd,Meth K C m f∧Binds K fd ps []∧FnOk P w K mg base CX0 k f fd ps sp
theorem RawM.defJ {P : Program} {w : World} {K : PySem.W.Frag} {mg : Str → Option Value} {base : Heap} {C : Addr} {m qual : Str} {st : Stmt} {N ps : List Str} {k : Nat} {sp : Sp} (R : RawM K C m qual st ps) (S : FnScope N ps (defScope st)) (len : ∀ vs H Q E, sp vs H Q E → vs.length = ps.length)
    (hbody:∀ (f:Addr) (cdv:Value) (A:Around) (outer:List Env) (s:Shared) (H:Hp) (vs:List V) (Q:VK) (E:XK),Room k (A.deeper (envOfC qual (defScope st) s.heap.objs.size f cdv))→sp vs H Q E →
      ∃ t,JSs (cxOf CX0 P w K mg base N qual (defScope st) f cdv A outer s H E).nox (defBody st) t∧t { nx:=fun _ H'=>Q .non H',rt:=Q } (start N vs) H):DefM P w K mg base (k + 1) C m ps sp:=by
  obtain ⟨f,fd,M,F,b⟩:=R.ex
  exact ⟨f,fd,M,.all b,F.ok S len fun cdv A outer s H vs Q E hr h=>let ⟨t,h1,h2⟩:=hbody f cdv A outer s H vs Q E hr h; ⟨t,h1.out,h2⟩⟩
theorem RawM.mk' {K : PySem.W.Frag} {C : Addr} {m qual : Str} {st : Stmt} {ps : List Str} {f : Addr} {oc : Value} {od an : Option Addr} {osl : Array (Option Value)} {kV doc pm cdv ct : Value}
    (a:PySem.W.findIn K (.ref C) m = some (some (.ref f))) (l:K.lookup f = some ⟨oc,od,.func (PySem.W.fnOf m qual (defArgs st) (defBody st) (defScope st) .none kV doc pm an cdv ct),osl⟩)
    (c:PySem.W.codeIn K cdv qual = true) (k:PySem.W.keepIn K (.ref f) = true) (fn:PySem.W.isFn K (.ref f) = true)
    (hb:∀ (us:List Value),us.length = ps.length→bindArgs (PySem.W.fnOf m qual (defArgs st) (defBody st) (defScope st) .none kV doc pm an cdv ct) ⟨us,[]⟩ = pure (ps.zip us)):RawM K C m qual st ps :=
  ⟨⟨f,_,⟨a,fn,k⟩,fun_mk l c k,hb⟩⟩
noncomputable def mObj (C:Addr) (x:V) (H:Hp) (q:Addr→Addr→List (Str × V)→Prop):Prop:=match x with
  | .ref a=>∃ dx fs,H a = some (.ins C dx fs)∧q a dx fs
  | _=>False
theorem mObj.out {C:Addr} {x:V} {H:Hp} {q:Addr→Addr→List (Str × V)→Prop} (h:mObj C x H q):∃ a dx fs,x = .ref a∧H a = some (.ins C dx fs)∧q a dx fs:=by
  unfold mObj at h
  split at h
  · obtain ⟨dx,fs,h1,h2⟩:=h
    exact ⟨_,dx,fs,rfl,h1,h2⟩
  · exact h.elim
noncomputable def mFld (C:Addr) (f:Str) (ta:TE):TE:=fun σ H Q=>ta σ H fun x H1=>mObj C x H1 fun _ _ fs=>∃ v,fs.lookup f = some v∧Q v H1
noncomputable def mMeth (C:Addr) (m:Str) (sp:Sp) (ta:TE) (t:TA):TE:=fun σ H Q=>ta σ H fun x H1=>mObj C x H1 fun _ _ fs=>fs.lookup m = none∧t σ H1 fun vs H2=>sp (x :: vs) H2 Q E0
noncomputable def mMethC (C:Addr) (m:Str) (env:Env) (N:List Str) (fr:List Str) (is:List Nat) (sp:Sp) (ta:TE) (t:TA):TE:=fun σ H Q=>ta σ H fun x H1=>mObj C x H1 fun _ _ fs=>fs.lookup m = none ∧
  t σ H1 fun vs H2=>(∀ i ∈ is,∃ v,σ[i]? = some (some v))∧∀ cs os,Froz env N σ fr cs os→(∀ c ∈ cs,H2 c = none)→sp (x :: vs) (froz cs os H2) (fun v H3=>Q v (rem cs H3)) E0
noncomputable def mMake (C:Addr) (sp:Sp) (t:TA):TE:=fun σ H Q=>t σ H fun vs H1=>∀ x dx,H1 x = none→H1 dx = none→dx ≠ x →
  sp (.ref x :: vs) (upd (upd H1 dx (.own x)) x (.ins C dx [])) (fun v H2=>v = .non∧Q (.ref x) H2) E0
noncomputable def mSFld (C:Addr) (f:Str) (ta tv:TE):TS:=fun D σ H=>tv σ H fun y H1=>ta σ H1 fun x H2=>mObj C x H2 fun a dx fs=>fs.length < 1000∧D.nx σ (upd H2 a (.ins C dx (putF f y fs)))
section
variable {X:Cx} {e o value:Expr} {es:List Expr} {t:TA} {ta tv:TE} {p pos apos pos':Pos} {C:Addr} {m f x:Str} {k:Nat} {ps:List Str} {sp:Sp}
theorem j_fld (c:Cls X.K C) (n:NoAttr X.K C f) (ho:JE X o ta) (hb:attributeBase o f X.env (eval o X.env) = eval o X.env:=by rfl):JE X (.Attribute o f pos) (mFld C f ta):=by
  refine .mk ?_
  intro pins s σ H Q I h
  refine attr_of hb (thn (ho.out pins s σ H _ I h) fun u s1 ⟨x,H1,I1,rx,q⟩=>?_)
  obtain ⟨a,dx,fs,rfl,ea,v,l,q⟩:=q.out
  obtain rfl:u = Value.ref a:=rx
  exact getattr_ok I1 ea c n l fun u' s2 I2 ru=>⟨v,H1,I2,ru,q⟩
theorem js_fld (c:Cls X.K C) (n:NoAttr X.K C f) (ho:JE X o ta) (hv:JE X value tv) (hs:swapsWith value (some (.Attribute o f pos')) pos.line X.env = pure false:=by rfl):JS X (.Assign [.Attribute o f pos'] value pos) (mSFld C f ta tv):=by
  refine .mk ?_
  intro pins s σ H D I h
  refine plainObj_wpAny_Assign_Attribute (thn (hv.out pins s σ H _ I h) fun u s1 ⟨y,H1,I1,ry,q⟩=>thn (ho.out pins s1 σ H1 _ I1 q) fun ov s2 ⟨x,H2,I2,rx,q2⟩=>?_) hs
  obtain ⟨a,dx,fs,rfl,ea,l,q2⟩:=q2.out
  obtain rfl:ov = Value.ref a:=rx
  exact setattr_ok I2 ea c n l ry fun s3 I3=>⟨σ,_,I3,q2⟩
theorem j_meth {pl : Sem Bool} (c : Cls X.K C) (D : DefM X.prog X.w X.K X.mg X.base k C m ps sp) (hr : Room k X.A) (ho : JE X o ta) (ha : JA X (e :: es) t) (hst : noStars (e :: es) = true := by rfl)
    (ht:eval (.Call (.Attribute o m apos) (e :: es) [] pos) X.env = (do
      let ov ← eval o X.env
      standAt apos.atName
      let (f,first) ← holding [ov] (getMethod ov m pl)
      callWith pos f first (backTo pos (starEach (e :: es) X.env)) (backToKw pos (keywordEach [] X.env))):=by rfl):JE X (.Call (.Attribute o m apos) (e :: es) [] pos) (mMeth C m sp ta t):=by
  refine .mk ?_
  obtain ⟨g,fd,M,b,G⟩:=D.ex
  have h':noStar e = true∧noStars es = true:=by simpa [noStars] using hst
  have he:=starEach_cons (es:=es) (env:=X.env) h'.1
  have hpl:=back_any (env:=X.env) (pos:=pos) h'.2
  intro pins s σ H Q I h
  refine PySem.W.methodCall_KW (pl:=pl) (thn (ho.out pins s σ H _ I h) fun u s1 ⟨x,H1,I1,rx,q⟩=>?_) ht
  obtain ⟨a,dx,fs,rfl,ea,l,q⟩:=q.out
  obtain rfl:u = Value.ref a:=rx
  refine getmeth_ok I1 ea c M l ?_
  refine PySem.W.callWith_K (first:=[.ref a]) (h₀:=X.base) I.ok.mod.kin M.kp (thn (ha.out pos pins s1 σ H1 _ I1 q) fun us s2 ⟨vs,H2,I2,r,q2⟩=>⟨I2.kIn,?_⟩) he hpl
  exact run_fn (us:=.ref a :: us) (vs:=.ref a :: vs) (dvs:=[]) G hr b .nil pass0 I2 (.cons rfl r) (by rw [List.append_nil]; exact q2)
theorem j_methC {pl : Sem Bool} (fr : List Str) (is : List Nat) (c : Cls X.K C) (D : DefM X.prog X.w X.K X.mg X.base k C m ps sp) (hr : Room k X.A) (ho : JE X o ta) (ha : JA X (e :: es) t)
    (hfr:(fr.zip is).all (fun q=>X.N[q.2]? == some q.1 && X.env.scope.names.lookup q.1 == some .cell && X.fn q.1) = true) (hl:is.length = fr.length:=by rfl) (hnd:fr.Nodup:=by decide +kernel) (hst:noStars (e :: es) = true:=by rfl)
    (ht:eval (.Call (.Attribute o m apos) (e :: es) [] pos) X.env = (do
      let ov ← eval o X.env
      standAt apos.atName
      let (f,first) ← holding [ov] (getMethod ov m pl)
      callWith pos f first (backTo pos (starEach (e :: es) X.env)) (backToKw pos (keywordEach [] X.env))):=by rfl):JE X (.Call (.Attribute o m apos) (e :: es) [] pos) (mMethC C m X.env X.N fr is sp ta t):=by
  refine .mk ?_
  obtain ⟨g,fd,M,b,G⟩:=D.ex
  have h':noStar e = true∧noStars es = true:=by simpa [noStars] using hst
  have he:=starEach_cons (es:=es) (env:=X.env) h'.1
  have hpl:=back_any (env:=X.env) (pos:=pos) h'.2
  intro pins s σ H Q I h
  refine PySem.W.methodCall_KW (pl:=pl) (thn (ho.out pins s σ H _ I h) fun u s1 ⟨x,H1,I1,rx,q⟩=>?_) ht
  obtain ⟨a,dx,fs,rfl,ea,l,q⟩:=q.out
  obtain rfl:u = Value.ref a:=rx
  refine getmeth_ok I1 ea c M l ?_
  refine PySem.W.callWith_K (first:=[.ref a]) (h₀:=X.base) I.ok.mod.kin M.kp (thn (ha.out pos pins s1 σ H1 _ I1 q) fun us s2 ⟨vs,H2,I2,r,hv,q2⟩=>⟨I2.kIn,?_⟩) he hpl
  refine run_lent (us:=.ref a :: us) (vs:=.ref a :: vs) G b hr hl (fun j y i h1 h2=>?_) hnd I2 (.cons rfl r) hv q2
  have mm:(y,i) ∈ fr.zip is:=List.mem_iff_getElem?.mpr ⟨j,by rw [List.getElem?_zip_eq_some]; exact ⟨h1,h2⟩⟩
  have:=List.all_eq_true.mp hfr _ mm
  simp only [Bool.and_eq_true,beq_iff_eq] at this
  exact ⟨this.1.1,this.1.2,this.2⟩
structure MkC (K:PySem.W.Frag) (mg:Str→Option Value) (x:Str) (C:Addr):Prop where
  at_:mg x = some (.ref C)
  makes:PySem.W.makesIn K C = true
  kp:PySem.W.keepIn K (.ref C) = true
theorem j_make (c : MkC X.K X.mg x C) (D : DefM X.prog X.w X.K X.mg X.base k C "__init__" ps sp) (hr : Room (k + 1) X.A) (hg : Gl X x) (ha : JA X (e :: es) t) (hdb : (x == ("__debug__" : Str)) = false := by decide) (hst : noStars (e :: es) = true := by rfl) :
    JE X (.Call (.Name x p) (e :: es) [] pos) (mMake C sp t):=by
  refine .mk ?_
  obtain ⟨g,fd,M,b,G⟩:=D.ex
  have h':noStar e = true∧noStars es = true:=by simpa [noStars] using hst
  have he:=starEach_cons (es:=es) (env:=X.env) h'.1
  have hpl:=back_any (env:=X.env) (pos:=pos) h'.2
  have h:=pe_make (X:=X) (C:=C) (dvs:=[]) (ds:=[]) (E:=E0) (p:=p) (pos:=pos) ⟨c.makes,M.at_,M.fn,c.kp⟩ G hr hg c.at_ b .nil pass0 ha.out hdb he hpl
  intro pins s σ H Q I hq
  refine h pins s σ H Q I ?_
  unfold mMake at hq
  unfold tMake
  refine cast (congrArg (t σ H) ?_) hq
  funext vs H1
  rw [List.append_nil]
end
section
variable {prog:Program} {w:World} {A:Around} {E:Value→Shared→Prop} {s:Shared}
theorem wpAny_pyHash_none {Q:Int→Shared→Prop} (h:Q 0xFCA86420 { s with toks:=s.toks + 1 }):wpAny (model prog w) A (pyHash .none) Q E s:=by
  unfold pyHash
  have hv:[Value.none].any Value.onHeap = false:=rfl
  have ty:s.TypeIs .none "NoneType":=rfl
  refine wpAny_bind ?_
  rw [cRoomFor,if_neg (by rw [hv]; exact Bool.false_ne_true)]; refine wpAny_pure ?_
  refine wpAny_bind (wpAny_specialOf ty PySem.F.slot_NoneType_hash.lookup ?_)
  show wpAny _ _ (if (some (Value.builtin "NoneType.__hash__") == some Value.none) = true then _ else _) Q E s
  rw [if_neg (by rw [beq_builtin_none]; exact Bool.false_ne_true)]
  refine wpAny_bind (wpAny_specialOf ty PySem.F.slot_NoneType_hash.lookup ?_)
  show wpAny _ _ (callSpecialIfBoundUnlessNone? .none "__hash__" _ >>= _) Q E s
  refine wpAny_bind (wpAny_callSpecialIfBoundUnlessNone?_slot ty PySem.F.slot_NoneType_hash
    (wpAny_call_entry PySem.F.slot_NoneType_hash ty PySem.F.entry_NoneType_hash
      (show wpAny _ _ (do ret (← mkInt 0xFCA86420)) _ _ s from wpAny_ret_mkInt ?_) (PySem.F.args_NoneType_hash_1 _)))
  exact wpAny_pure h
end
end L2
namespace L2
open PySem PySem.Spec PyProof.Rows
noncomputable def oKeyIs:Option Key→Value→Bool
  | none,.none=>true
  | none,_=>false
  | some k,v=>keyIs k v
theorem oKey_shape:∀ {k:Option Key} {v:Value},oKeyIs k v = true→(k = none∧v = .none)∨(∃ i t,k = some (Sum.inl i)∧v = Value.int i t)∨(∃ x t,k = some (Sum.inr x)∧v = Value.str x t)
  | none,v,h=>by cases v <;> first | exact .inl ⟨rfl,rfl⟩ | cases h
  | some k,v,h=>by
    rcases keyIs_shape (k:=k) (v:=v) h with ⟨i,t,rfl,rfl⟩ | ⟨x,t,rfl,rfl⟩
    · exact .inr (.inl ⟨i,t,rfl,rfl⟩)
    · exact .inr (.inr ⟨x,t,rfl,rfl⟩)
theorem okey_dec {a b:Key}:decide ((some a:Option Key) = some b) = decide (a = b):=by
  by_cases e:a = b
  · subst e; simp
  · have h:¬ (some a:Option Key) = some b:=fun q=>e (Option.some.inj q)
    rw [decide_eq_false h,decide_eq_false e]
noncomputable def optKind (prog:Program) (w:World):PySem.KeyKind prog w (Option Key) where
  is:=oKeyIs
  hash:=fun k=>match k with | none=>0xFCA86420 | some k=>keyH w k
  inj:=fun v a b ha hb=>by
    rcases oKey_shape ha with ⟨rfl,rfl⟩ | ⟨i,t,rfl,rfl⟩ | ⟨x,t,rfl,rfl⟩ <;> rcases oKey_shape hb with ⟨rfl,e⟩ | ⟨j,u,rfl,e⟩ | ⟨y,u,rfl,e⟩ <;> first | rfl | (injection e with e1 _; rw [e1]) | cases e
  byValue:=fun k v h=>by
    rcases oKey_shape h with ⟨rfl,rfl⟩ | ⟨i,t,rfl,rfl⟩ | ⟨x,t,rfl,rfl⟩ <;> rfl
  pyHash:=fun hv h=>by
    rcases oKey_shape hv with ⟨rfl,rfl⟩ | ⟨i,t,rfl,rfl⟩ | ⟨x,t,rfl,rfl⟩
    · exact wpAny_pyHash_none h
    · exact wpAny_pyHash_int h
    · exact wpAny_pyHash_str h
  eqBool:=fun hu hv h=>by
    rcases oKey_shape hu with ⟨rfl,rfl⟩ | ⟨i,t,rfl,rfl⟩ | ⟨x,t,rfl,rfl⟩ <;> rcases oKey_shape hv with ⟨rfl,rfl⟩ | ⟨j,u,rfl,rfl⟩ | ⟨y,u,rfl,rfl⟩
    · rw [decide_eq_true rfl] at h; exact SeqAt.EqAt.same _ _ _ _ _ h
    · rw [decide_eq_false (fun q=>nomatch q)] at h; exact SeqAt.EqAt.none_int _ _ _ _ _ _ h
    · rw [decide_eq_false (fun q=>nomatch q)] at h; exact SeqAt.EqAt.none_str _ _ _ _ _ _ h
    · rw [decide_eq_false (fun q=>nomatch q)] at h; exact SeqAt.EqAt.int_none _ _ _ _ _ _ h
    · rw [okey_dec,key_ll] at h; exact wpAny_eqBool_int h
    · rw [okey_dec,key_lr] at h; exact SeqAt.EqAt.int_str _ _ _ _ _ _ _ _ h
    · rw [decide_eq_false (fun q=>nomatch q)] at h; exact SeqAt.EqAt.str_none _ _ _ _ _ _ h
    · rw [okey_dec,key_rl] at h; exact SeqAt.EqAt.str_int _ _ _ _ _ _ _ _ h
    · rw [okey_dec,key_rr] at h; exact wpAny_eqBool_str h
  «strs»:=fun k x t v h=>by
    rcases oKey_shape h with ⟨rfl,e⟩ | ⟨i,u,rfl,e⟩ | ⟨y,u,rfl,e⟩
    · exact nomatch e
    · exact nomatch e
    · injection e with e1 _
      subst e1
      cases v <;> rfl
theorem opt_map {prog:Program} {w:World} {h:Heap} {a:Addr} {kvs:List (Key × Value)} (d:h.DictOf (mixKind prog w) a kvs):h.MapOf (optKind prog w) a (fun k=>match k with | none=>none | some k=>valueAt kvs k):=by
  obtain ⟨o,es,ep,h1,h2,h3,h4,h5⟩:=d.mapOf
  refine ⟨o,es,ep,h1,h2,h3,fun e he=>?_,fun k=>?_⟩
  · obtain ⟨k,q1,q2⟩:=h4 e he
    exact ⟨some k,q1,q2⟩
  · cases k with
    | some k=>exact h5 k
    | none =>
      show findBy _ es none = none
      unfold findBy
      rw [Option.map_eq_none_iff,Array.find?_eq_none]
      intro e he z
      obtain ⟨k,q1,q2⟩:=h4 e he
      rcases oKey_shape (k:=none) z with ⟨_,e1⟩ | ⟨_,_,e1,_⟩ | ⟨_,_,e1,_⟩
      · rw [e1] at q1
        rcases keyIs_shape (k:=k) q1 with ⟨_,_,_,e2⟩ | ⟨_,_,_,e2⟩ <;> exact nomatch e2
      · cases e1
      · cases e1
noncomputable def mDGet2N (td ty tx:TE):TE:=fun σ H Q=>td σ H fun x H1=>match x with
  | .ref a=>IsD H1 a∧ty σ H1 fun y H2=>tx σ H2 fun z H3=>(y = .non∧(∃ kvs,H3 a = some (.dK kvs))∧Q z H3)∨∃ o,DGet H3 a y o∧Q (o.getD z) H3
  | _=>False
section
variable {X:Cx} {o e f:Expr} {apos cpos:Pos} {td ty tx:TE}
theorem j_dget2N (hu:X.A.units + 64 < cLine) (ho:JE X o td) (he:JE X e ty) (hf:JE X f tx) (m:M2 X o "get" apos e f cpos:=by exact ⟨rfl,rfl,rfl,rfl⟩):JE X (.Call (.Attribute o "get" apos) [e,f] [] cpos) (mDGet2N td ty tx):=by
  refine .mk ?_
  intro pins s σ H Q I h
  refine wpAny_Call_method m.base m.few m.line PySem.F.plainAttrs_dict PySem.F.slot_dict_get PySem.F.type_dict_get (thn (ho.out pins s σ H _ I h) fun u s1 ⟨x,H1,I1,rx,q1⟩=>?_)
  try dsimp only at q1
  split at q1
  · rename_i a
    obtain ⟨d,q1⟩:=q1
    obtain rfl:u = Value.ref a:=rx
    obtain ⟨t1,t2,_⟩:=isD_at I1 d
    refine ⟨t1,t2,?_⟩
    rw [m.trees]
    refine Calls.callWith_builtin rfl (Calls.evalArgs_plain (Calls.spliced_cons (thn (he.out pins s1 σ H1 _ I1 q1) fun iv s2 ⟨y,H2,I2,ry,q2⟩ =>
      Calls.spliced_cons (thn (hf.out pins s2 σ H2 _ I2 q2) fun fv s3 ⟨z,H3,I3,rz,g⟩=>Calls.spliced_nil ?_))))
    rcases g with ⟨rfl,⟨kvs,ek⟩,q3⟩ | ⟨ov,g,q3⟩
    · cases (show iv = Value.none from ry)
      obtain ⟨_,hd,vs,rel,dd⟩:=dk_of I3.hok ek
      exact call_meetsIn PySem.F.slot_dict_get dd.typeIs PySem.F.entry_dict_get (PySem.F.args_dict_get_3 _ _ _) (meets_dict_get_default (optKind X.prog X.w) a (k:=none) rfl hd fv) ⟨_,opt_map dd,⟨z,H3,I3.tok _,rz,q3⟩⟩
    · exact d_get2 (by lia) I3 g ry rz fun w' s4 I4 rw'=>⟨_,H3,I4,rw',q3⟩
  · exact q1.elim
end
end L2
namespace L2
open PySem PySem.Spec PyProof.Rows
noncomputable def clsBody:Stmt→List Stmt
  | .ClassDef _ _ _ b _ _ _ _ _ _ _=>b
  | _=>[]
theorem clo_runN {P : Program} {w : World} {K : PySem.W.Frag} {mg : Str → Option Value} {base : Heap} {A : Around} {outer : List Env} {s : Shared} {H : Hp} {us : List Value} {vs : List V} {Q : VK} {E : XK} {k : Nat} {f : Addr} {name qual : Str} {st : Stmt} {ps ls fr : List Str} {cs : List Addr} {ws : List V}
    (hr:Room (k + 1) A) (e0:Env0 P w K mg base A outer s H) (C:CloAt H f name qual st fr cs ws) (S:CloScope ps ls fr (defScope st))
    (hb:∀ cl doc pm c' ctv,bindArgs (PySem.W.fnX name qual (defArgs st) (defBody st) (defScope st) cl .none .none doc pm none (.ref c') ctv) ⟨us,[]⟩ = pure (ps.zip us)) (hl:vs.length = ps.length) (r:Vals vs us)
    (hbody:∀ cd cl,Room k (A.deeper (PySem.W.envX qual (defScope st) s.heap.objs.size f cd cl))→∃ t,JSs (cxClo P w K mg base (ps ++ ls ++ fr) qual (defScope st) f cd cl A outer s (rem cs H)) (defBody st) t ∧
      t { nx:=fun _ H'=>(∀ c ∈ cs,H' c = none)→Q .non (back cs H H'),rt:=fun v H'=>(∀ c ∈ cs,H' c = none)→Q v (back cs H H') } (vs.map some ++ List.replicate ls.length none ++ ws.map some) (rem cs H)) :
    codeAny (model P w) A (.call (.ref f) ⟨us,[]⟩) (CR CX0 outer P w H s Q E) s:=by
  have kn:=C.kn
  obtain ⟨cl,⟨doc,pm,c',ctv,oc,vs',t',h1,h2,h3,h4⟩,h5,h6⟩:=C.ex
  have lim:s.heap.NoLimit:=e0.mod.nolimit.keeps fun b o e=>(e0.bs b o e).1
  have ndP:ps.Nodup:=(List.nodup_append.mp (List.nodup_append.mp S.nd).1).1
  have hlu:us.length = ps.length:=by rw [← r.length]; exact hl
  refine codeAny_call_def (fd:=PySem.W.fnX name qual (defArgs st) (defBody st) (defScope st) cl .none .none doc pm none (.ref c') ctv) (body:=defBody st) (binds:=ps.zip us) hr.depth (Kn.get h1 e0.hok) rfl lim
    ⟨c',oc,vs',t',rfl,Kn.get h2 e0.hok,h3,h4⟩ rfl (.of_eq (hb cl doc pm c' ctv)) S.nocell (fun x hx=>S.par x.1 (List.of_mem_zip (a:=x.1) (b:=x.2) hx).1) (fun h₁ hns hk₁=>?_) S.co S.gen S.kind
  obtain ⟨t,ht,hq⟩:=hbody (.ref c') cl (hr.deeper _)
  have fsn:∀ c ∈ cs,c ∉ frs outer:=fun c m z=>by
    obtain ⟨o,q⟩:=kn c m
    have:=e0.frf c z
    unfold Kn at q
    rw [this] at q
    cases q
  have noX:∀ b:Addr,b ∉ (cxClo P w K mg base (ps ++ ls ++ fr) qual (defScope st) f (.ref c') cl A outer s (rem cs H)).ex:=fun b z=>absurd (show b ∈ ([]:List Addr) from z) (by simp)
  have remN:∀ {b:Addr},H b = none→rem cs H b = none:=fun {b} n=>by
    unfold rem
    split
    · rfl
    · exact n
  have cellAt:∀ x c,cl.lookup x = some c→∃ u,h₁.IsCell c (some u):=fun x c e=>by
    obtain ⟨j,q1,q2⟩:=h5 x c e
    have hj:j < ws.length:=by rw [C.l2]; exact (List.getElem?_eq_some_iff.mp q1).1
    obtain ⟨c2,o,u,z1,z2,z3,_⟩:=C.cells j ws[j] (List.getElem?_eq_getElem hj)
    rw [q2] at z1
    cases z1
    exact ⟨u,o,hk₁ _ _ (Kn.get z2 e0.hok),z3⟩
  have I:Inv (cxClo P w K mg base (ps ++ ls ++ fr) qual (defScope st) f (.ref c') cl A outer s (rem cs H)) [] (vs.map some ++ List.replicate ls.length none ++ ws.map some) (rem cs H) { s with heap:=h₁,toks:=s.toks + (ps.zip us).length }:=by
    refine ⟨⟨e0.mod,S.kind,rfl,rfl,Nat.le_refl _,fun y z c q1 q2=>?_,fun y hy=>?_,fun y c hf _=>absurd (show false = true from hf) Bool.false_ne_true,fun _=>hr.hd,Around.frames_deeper e0.frames,.inr ⟨rfl,rfl⟩,fun b z=>absurd z (noX b),fun b o e=>⟨(e0.bs b o e).1,remN (e0.bs b o e).2⟩,e0.bsz,fun b _ _=>noX b,fun b z=>absurd z (noX b),e0.funs,fun b hb=>remN (e0.frf b hb)⟩,
      rfl,e0.bare,Un.kept hk₁,⟨_,hns,fun i y v q1 q2 q3=>?_⟩,fun y c q=>?_,remN (e0.hok.fresh (Nat.le_refl _)),fun y c q=>?_,fun p hp=>absurd (show p ∈ ([]:List (Addr × Obj)) from hp) (by simp),(e0.hok.rem kn).kept hk₁,?_⟩
    · obtain ⟨i,a1,a2⟩:=h5 y c q1
      obtain ⟨j,b1,b2⟩:=h5 z c q2
      obtain ⟨hi,ei⟩:=List.getElem?_eq_some_iff.mp a2
      obtain ⟨hj,ej⟩:=List.getElem?_eq_some_iff.mp b2
      have:i = j:=(List.getElem_inj C.nd).mp (ei.trans ej.symm)
      subst this
      rw [a1] at b1
      exact Option.some.inj b1
    · have hy:(defScope st).names.lookup y = some .cell∨(defScope st).names.lookup y = some .free:=hy
      rcases hy with hy | hy
      · exact absurd rfl (S.nocell _ (PySem.mem_of_lookup hy))
      · obtain ⟨j,hj,e⟩:=List.mem_iff_getElem.mp (S.all _ (PySem.mem_of_lookup hy) rfl)
        obtain ⟨c,q,_⟩:=h6 j y (by rw [List.getElem?_eq_getElem hj]; exact congrArg some e)
        exact ⟨c,q⟩
    · have q1:(ps ++ ls ++ fr)[i]? = some y:=q1
      by_cases hi:i < ps.length
      · have hiv:i < vs.length:=by lia
        rw [List.append_assoc,List.getElem?_append_left hi] at q1
        rw [List.append_assoc,List.getElem?_append_left (by simpa using hiv),List.getElem?_map,List.getElem?_eq_getElem hiv] at q2
        have ev:vs[i] = v:=by simpa using q2
        obtain ⟨u,hu,rv⟩:=r.get (i:=i) (x:=v) (by rw [List.getElem?_eq_getElem hiv,ev])
        refine ⟨u,rv,.inl ⟨S.par y (List.mem_of_getElem? q1),?_⟩⟩
        exact lookup_zipR ndP q1 hu
      · by_cases hi2:i < ps.length + ls.length
        · rw [List.getElem?_append_left (by simp; lia),List.getElem?_append_right (by simp; lia),List.getElem?_replicate] at q2
          split at q2 <;> cases q2
        · rw [List.getElem?_append_right (by simp; lia)] at q1
          rw [List.getElem?_append_right (by simp; lia),List.getElem?_map] at q2
          have eidx:i - (List.map some vs ++ List.replicate ls.length none).length = i - (ps ++ ls).length:=by simp; lia
          rw [eidx] at q2
          cases ew:ws[i - (ps ++ ls).length]? with
          | none=>rw [ew] at q2; cases q2
          | some x =>
            rw [ew] at q2
            have:x = v:=by simpa using q2
            subst this
            obtain ⟨c,o,u,z1,z2,z3,z4⟩:=C.cells _ x ew
            obtain ⟨c2,y1,y2⟩:=h6 _ y q1
            rw [z1] at y2
            cases y2
            exact ⟨u,z4,.inr ⟨.inr (S.fre y (List.mem_of_getElem? q1)),c,y1,o,hk₁ _ _ (Kn.get z2 e0.hok),z3⟩⟩
    · obtain ⟨u,z⟩:=cellAt y c q
      exact ⟨_,z⟩
    · obtain ⟨j,_,q2⟩:=h5 y c q
      exact rem_in (List.mem_of_getElem? q2)
    · have:=C.l2
      show (vs.map some ++ List.replicate ls.length none ++ ws.map some).length = (ps ++ ls ++ fr).length
      simp
      lia
  refine wpAny_mono (ht.out [] _ _ _ _ I hq) (fun fl s' hs=>?_) fun e s' hs=>hs.elim
  have fin:∀ {σ':St} {H':Hp} {v:V} {u:Value},Inv (cxClo P w K mg base (ps ++ ls ++ fr) qual (defScope st) f (.ref c') cl A outer s (rem cs H)) [] σ' H' s'→RelV v u→((∀ c ∈ cs,H' c = none)→Q v (back cs H H'))→CE outer P w H s Q u s' :=
    fun {σ' H' v u} J rv q=>⟨v,_,J.os,J.bare,J.base.back kn,J.hok.back J.base kn e0.hok fsn,rv,q fun c m=>by
      obtain ⟨j,hj,e⟩:=List.mem_iff_getElem.mp m
      have hj':j < fr.length:=by rw [← C.l1]; exact hj
      obtain ⟨c2,q1,q2⟩:=h6 j fr[j] (List.getElem?_eq_getElem hj')
      rw [List.getElem?_eq_getElem hj,e] at q2
      cases q2
      exact J.freeC _ _ q1⟩
  cases fl with
  | ret u =>
    obtain ⟨v,σ',H',J,rv,q⟩:=hs
    exact fin J rv q
  | next =>
    obtain ⟨σ',H',J,q⟩:=hs
    exact fin (v:=V.non) (u:=Value.none) J rfl q
  | brk =>
    obtain ⟨_,_,_,q⟩:=hs
    exact False.elim q
  | cont =>
    obtain ⟨_,_,_,q⟩:=hs
    exact False.elim q
theorem SmB.of {a:Addr} {H H':Hp} (h:Same H H'):SmB a H H':=fun b u _ e=>h b u e
theorem SmB.trans {a:Addr} {H H' H2:Hp} (h:SmB a H H') (g:SmB a H' H2):SmB a H H2:=fun b u n e=>g b u n (h b u n e)
theorem SmB.refl {a:Addr} {H:Hp}:SmB a H H:=fun b u _ e=>e
noncomputable def SameD (H H':Hp):Prop:=(∀ b xs,H b = some (.lst xs)→H' b = some (.lst xs))∧(∀ b xs,H b = some (.tup xs)→H' b = some (.tup xs))∧(∀ b o xs,H b = some (.frz o (.lst xs))→H' b = some (.frz o (.lst xs)))∧∀ b o xs,H b = some (.frz o (.tup xs))→H' b = some (.frz o (.tup xs))
mutual
theorem DatV.sameD {K:PySem.W.Frag} {H H':Hp} (e:SameD H H'):∀ {x:V} {d:PyData},DatV K H x d→DatV K H' x d
  | _,_,.none=>.none
  | _,_,.bool b=>.bool b
  | _,_,.int i=>.int i
  | _,_,.str x=>.str x
  | _,_,.list h hs=>.list (match h with
    | .inl (.inl h)=>.inl (.inl (e.1 _ _ h))
    | .inl (.inr ⟨o,h⟩)=>.inl (.inr ⟨o,e.2.2.1 _ _ _ h⟩)
    | .inr h=>.inr h) (DatVs.sameD e hs)
  | _,_,.tuple h hs=>.tuple (match h with
    | .inl (.inl h)=>.inl (.inl (e.2.1 _ _ h))
    | .inl (.inr ⟨o,h⟩)=>.inl (.inr ⟨o,e.2.2.2 _ _ _ h⟩)
    | .inr h=>.inr h) (DatVs.sameD e hs)
theorem DatVs.sameD {K:PySem.W.Frag} {H H':Hp} (e:SameD H H'):∀ {xs:List V} {ds:List PyData},DatVs K H xs ds→DatVs K H' xs ds
  | _,_,.nil=>.nil
  | _,_,.cons h hs=>.cons (DatV.sameD e h) (DatVs.sameD e hs)
end
theorem SameD.seq {K:PySem.W.Frag} {H H':Hp} {a:Addr} {xs:List V} (e:SameD H H') (h:SqL K H a xs):SqL K H' a xs:=match h with
  | .inl (.inl h)=>.inl (.inl (e.1 _ _ h))
  | .inl (.inr ⟨o,h⟩)=>.inl (.inr ⟨o,e.2.2.1 _ _ _ h⟩)
  | .inr h=>.inr h
theorem SameD.of {H H':Hp} (s:∀ b u,(∀ o x,u = .frz o x→x ≠ anyHO)→(∀ C dx fs,u ≠ .ins C dx fs)→(∀ k,u ≠ .dK k)→(∀ p,u ≠ .tbl p)→H b = some u→H' b = some u):SameD H H' :=
  ⟨fun b xs=>s b _ (fun o x z=>by cases z) (fun _ _ _ z=>by cases z) (fun _ z=>by cases z) (fun _ z=>by cases z),
   fun b xs=>s b _ (fun o x z=>by cases z) (fun _ _ _ z=>by cases z) (fun _ z=>by cases z) (fun _ z=>by cases z),
   fun b o xs=>s b _ (fun o x z=>by cases z; exact fun y=>by cases y) (fun _ _ _ z=>by cases z) (fun _ z=>by cases z) (fun _ z=>by cases z),
   fun b o xs=>s b _ (fun o x z=>by cases z; exact fun y=>by cases y) (fun _ _ _ z=>by cases z) (fun _ z=>by cases z) (fun _ z=>by cases z)⟩
theorem SameD.trans {H H' H2:Hp} (a:SameD H H') (b:SameD H' H2):SameD H H2:=⟨fun x y e=>b.1 _ _ (a.1 _ _ e),fun x y e=>b.2.1 _ _ (a.2.1 _ _ e),fun x o y e=>b.2.2.1 _ _ _ (a.2.2.1 _ _ _ e),fun x o y e=>b.2.2.2 _ _ _ (a.2.2.2 _ _ _ e)⟩
theorem SameD.same {H H':Hp} (s:Same H H'):SameD H H':=⟨fun _ _ e=>s _ _ e,fun _ _ e=>s _ _ e,fun _ _ _ e=>s _ _ e,fun _ _ _ e=>s _ _ e⟩
end L2
namespace Rg
structure Pc where
  b:Nat
  e:Nat
  h:Int
structure Ps where
  P:List Pc
  hs:List Int
  b:Nat
  n:Nat
noncomputable abbrev pEnd:List Nat:=[101,110,100]
noncomputable def isE (dv:List Nat→Option Nat) (k:List Nat):Bool:=decide (k = pEnd) || (dv k).isSome
noncomputable def bAt (P:List Pc):Nat→Nat
  | 0=>0
  | i + 1=>match P[i]? with
    | some p=>p.e + 1
    | none=>0
structure GoodP (dv:List Nat→Option Nat) (ks:List (List Nat)) (s:Ps):Prop where
  n:s.n = ks.length
  b:s.b = bAt s.P s.P.length
  le:s.b ≤ s.n
  no:∀ j k,s.b ≤ j→ks[j]? = some k→isE dv k = false
  pl:s.P.length ≤ ks.length
  pc:∀ i p,s.P[i]? = some p→p.b = bAt s.P i∧p.b ≤ p.e∧p.e < ks.length∧(∀ j k,p.b ≤ j→j < p.e→ks[j]? = some k→isE dv k = false)∧∃ k,ks[p.e]? = some k∧isE dv k = true
  hl:1 ≤ s.hs.length∧s.hs.length ≤ s.P.length + 1
noncomputable def holAt (P:List Pc) (ds:List Nat):Nat→Int
  | 0=>-1
  | i + 1=>match P[i]? with
    | none=>-1
    | some a=>if ds[i]? = some 1 then (i:Int) else if ds[i]? = some 2∧0 ≤ a.h then (match P[a.h.toNat]? with | some q=>q.h | none=>-1) else a.h
noncomputable def dsOf (dv:List Nat→Option Nat) (ks:List (List Nat)) (P:List Pc):List Nat:=P.map fun p=>(dv (ks.getD p.e [])).getD 0
structure GoodH (dv:List Nat→Option Nat) (ks:List (List Nat)) (s:Ps):Prop where
  top:s.hs.getLastD (-1) = holAt s.P (dsOf dv ks s.P) s.P.length
  st0:s.hs[0]? = some (-1)
  st:∀ j y,s.hs[j + 1]? = some y→∃ (m:Nat) (p:Pc),y = (m:Int)∧s.P[m]? = some p∧s.hs[j]? = some p.h
  all:∀ (i:Nat) (p:Pc),s.P[i]? = some p→p.h = holAt s.P (dsOf dv ks s.P) i∧-1 ≤ p.h∧p.h < (i:Int)
end Rg
namespace Rg
structure Rw where
  m:Int
  r:Nat
  ps:List (Int × Option (List Nat))
noncomputable def bPart (notes:List (Int × Int)) (q:Rw):Int:=(notes.getD q.r (-1,-1)).2
noncomputable def bndOf (notes:List (Int × Int)) (q:Rw):Option (List Nat):=if 0 ≤ bPart notes q then (q.ps.getD (bPart notes q).toNat (0,none)).2 else none
structure RowOk (notes:List (Int × Int)) (q:Rw):Prop where
  r:q.r < notes.length
  b:0 ≤ bPart notes q→∃ i s,q.ps[(bPart notes q).toNat]? = some (i,some s)
theorem RowOk.bnd {notes:List (Int × Int)} {q:Rw} (h:RowOk notes q) (hb:0 ≤ bPart notes q):∃ i s,q.ps[(bPart notes q).toNat]? = some (i,some s)∧bndOf notes q = some s:=by
  obtain ⟨i,s,e⟩:=h.b hb
  refine ⟨i,s,e,?_⟩
  unfold bndOf
  rw [if_pos hb,List.getD,e]
  rfl
theorem bnd_no {notes:List (Int × Int)} {q:Rw} (hb:¬ 0 ≤ bPart notes q):bndOf notes q = none:=by
  unfold bndOf
  rw [if_neg hb]
noncomputable abbrev Ev:=(Nat × Nat) × Option (List Nat)
noncomputable def evRow (notes:List (Int × Int)) (i:Nat) (rows:List Rw):List Ev:=rows.zipIdx.map fun q=>((i,q.2),bndOf notes q.1)
noncomputable def evs (notes:List (Int × Int)) (sheet:List (Int × List Rw)):List Ev:=sheet.zipIdx.flatMap fun p=>evRow notes p.2 p.1.2
noncomputable def pl (nm:List Nat) (l:List Ev):List (Nat × Nat):=(l.filter fun e=>decide (e.2 = some nm)).map (·.1)
theorem evRow_snoc (notes:List (Int × Int)) (i:Nat) (rows:List Rw) (q:Rw):evRow notes i (rows ++ [q]) = evRow notes i rows ++ [((i,rows.length),bndOf notes q)]:=by
  unfold evRow
  rw [List.zipIdx_append,List.map_append]
  simp
theorem evs_snoc (notes:List (Int × Int)) (sheet:List (Int × List Rw)) (p:Int × List Rw):evs notes (sheet ++ [p]) = evs notes sheet ++ evRow notes sheet.length p.2:=by
  unfold evs
  rw [List.zipIdx_append,List.flatMap_append]
  simp
theorem pl_app (nm:List Nat) (a b:List Ev):pl nm (a ++ b) = pl nm a ++ pl nm b:=by unfold pl; rw [List.filter_append,List.map_append]
theorem pl_len (nm:List Nat) (l:List Ev):(pl nm l).length ≤ l.length:=by unfold pl; rw [List.length_map]; exact List.length_filter_le _ _
theorem pl_one (nm:List Nat) (p:Nat × Nat) (o:Option (List Nat)):pl nm [(p,o)] = if o = some nm then [p] else []:=by
  unfold pl
  by_cases h:o = some nm
  · rw [if_pos h]; simp [h]
  · rw [if_neg h]; simp [h]
theorem pl_lt {notes:List (Int × Int)} {nm:List Nat} {sheet:List (Int × List Rw)}:∀ p ∈ pl nm (evs notes sheet),p.1 < sheet.length:=by
  intro p hp
  unfold pl evs at hp
  obtain ⟨e,he,rfl⟩:=List.mem_map.mp hp
  obtain ⟨q,hq,h⟩:=List.mem_flatMap.mp (List.mem_filter.mp he).1
  unfold evRow at h
  obtain ⟨r,_,rfl⟩:=List.mem_map.mp h
  obtain ⟨a,i⟩:=q
  have:=(List.mem_zipIdx hq).2.1
  simpa using this
noncomputable def fndT (notes:List (Int × Int)) (nm:List Nat) (rows:List Rw):Nat→Option Nat
  | 0=>none
  | j + 1=>match rows[j]? with
    | some q=>if bndOf notes q = some nm then some j else fndT notes nm rows j
    | none=>fndT notes nm rows j
noncomputable def fnd (notes:List (Int × Int)) (nm:List Nat) (rows:List Rw):Option Nat:=fndT notes nm rows rows.length
theorem pl_row (notes:List (Int × Int)) (nm:List Nat) (i:Nat) (rows:List Rw):∀ j,j ≤ rows.length→(pl nm (evRow notes i (rows.take j))).getLast? = (fndT notes nm rows j).map (i,·):=by
  intro j
  induction j with
  | zero=>intro _; rfl
  | succ j ih =>
    intro hj
    have hlt:j < rows.length:=hj
    have et:rows.take (j + 1) = rows.take j ++ [rows[j]]:=by rw [List.take_add_one,List.getElem?_eq_getElem hlt]; rfl
    rw [et,evRow_snoc,pl_app,pl_one,List.length_take,Nat.min_eq_left (by lia)]
    unfold fndT
    rw [List.getElem?_eq_getElem hlt]
    show _ = (if bndOf notes rows[j] = some nm then some j else fndT notes nm rows j).map (i,·)
    by_cases h:bndOf notes rows[j] = some nm
    · rw [if_pos h,if_pos h,List.getLast?_append]; rfl
    · rw [if_neg h,if_neg h,List.append_nil]; exact ih (by lia)
theorem pl_fst (notes:List (Int × Int)) (nm:List Nat) (i:Nat) (rows:List Rw):∀ p ∈ pl nm (evRow notes i rows),p.1 = i:=by
  intro p hp
  unfold pl evRow at hp
  obtain ⟨e,he,rfl⟩:=List.mem_map.mp hp
  obtain ⟨q,_,rfl⟩:=List.mem_map.mp (List.mem_filter.mp he).1
  rfl
noncomputable def lastT (notes:List (Int × Int)) (nm:List Nat) (sheet:List (Int × List Rw)) (ok:Nat→Bool):Nat→Option Nat
  | 0=>none
  | i + 1=>if ok i = true∧(fnd notes nm (sheet.getD i (-1,[])).2).isSome = true then some i else lastT notes nm sheet ok i
noncomputable def dueT (notes:List (Int × Int)) (nm:List Nat) (sheet:List (Int × List Rw)) (ok:Nat→Bool) (i:Nat):Option (Nat × Nat):=(lastT notes nm sheet ok i).bind fun o=>(fnd notes nm (sheet.getD o (-1,[])).2).map (o,·)
theorem pl_sheet (notes:List (Int × Int)) (nm:List Nat) (sheet:List (Int × List Rw)) (ok:Nat→Bool):∀ i,i ≤ sheet.length→((pl nm (evs notes (sheet.take i))).filter fun p=>ok p.1).getLast? = dueT notes nm sheet ok i:=by
  intro i
  induction i with
  | zero=>intro _; rfl
  | succ i ih =>
    intro hi
    have hlt:i < sheet.length:=hi
    have ih:=ih (by lia)
    have et:sheet.take (i + 1) = sheet.take i ++ [sheet[i]]:=by rw [List.take_add_one,List.getElem?_eq_getElem hlt]; rfl
    have eg:sheet.getD i (-1,[]) = sheet[i]:=by rw [List.getD,List.getElem?_eq_getElem hlt]; rfl
    rw [et,evs_snoc,pl_app,List.filter_append,List.length_take,Nat.min_eq_left (by lia)]
    have hrow:=pl_row notes nm i sheet[i].2 _ (Nat.le_refl _)
    rw [List.take_length] at hrow
    have hfst:=pl_fst notes nm i sheet[i].2
    unfold dueT lastT
    rw [eg]
    by_cases hok:ok i = true
    · have ef:(pl nm (evRow notes i sheet[i].2)).filter (fun p=>ok p.1) = pl nm (evRow notes i sheet[i].2):=List.filter_eq_self.mpr fun p hp=>by rw [hfst p hp]; exact hok
      rw [ef,List.getLast?_append,hrow]
      have efn:fndT notes nm sheet[i].2 sheet[i].2.length = fnd notes nm sheet[i].2:=rfl
      rw [efn]
      cases hf:fnd notes nm sheet[i].2 with
      | none =>
        rw [if_neg (fun z=>nomatch z.2)]
        exact ih
      | some j =>
        rw [if_pos ⟨hok,rfl⟩]
        show some (i,j) = (fnd notes nm (sheet.getD i (-1,[])).2).map (i,·)
        rw [eg,hf]
        rfl
    · have ef:(pl nm (evRow notes i sheet[i].2)).filter (fun p=>ok p.1) = []:=List.filter_eq_nil_iff.mpr fun p hp=>by rw [hfst p hp]; exact hok
      rw [ef,List.append_nil,if_neg (fun z=>hok z.1)]
      exact ih
theorem due_cut (notes:List (Int × Int)) (nm:List Nat) (sheet:List (Int × List Rw)) (ok:Nat→Bool) (n:Nat) (h:∀ i,n ≤ i→ok i = false):∀ k,dueT notes nm sheet ok (n + k) = dueT notes nm sheet ok n:=by
  intro k
  induction k with
  | zero=>rfl
  | succ k ih =>
    rw [← ih]
    show (lastT notes nm sheet ok (n + k + 1)).bind _ = _
    unfold lastT
    rw [if_neg (fun z=>by rw [h (n + k) (by lia)] at z; exact nomatch z.1)]
    rfl
theorem due_some {notes:List (Int × Int)} {nm:List Nat} {sheet:List (Int × List Rw)} {ok:Nat→Bool}:∀ {n o:Nat},lastT notes nm sheet ok n = some o→o < n∧ok o = true∧∃ j,fnd notes nm (sheet.getD o (-1,[])).2 = some j∧dueT notes nm sheet ok n = some (o,j)
  | 0,o,h=>by cases h
  | n + 1,o,h=>by
    have h0:=h
    unfold lastT at h
    split at h
    · rename_i hc
      have e:n = o:=Option.some.inj h
      subst e
      obtain ⟨j,ej⟩:=Option.isSome_iff_exists.mp hc.2
      refine ⟨by lia,hc.1,j,ej,?_⟩
      unfold dueT
      rw [h0]
      show (fnd notes nm (sheet.getD n (-1,[])).2).map (n,·) = _
      rw [ej]
      rfl
    · obtain ⟨h1,h2,j,h3,h4⟩:=due_some h
      refine ⟨by lia,h2,j,h3,?_⟩
      unfold dueT
      rw [h0]
      show (fnd notes nm (sheet.getD o (-1,[])).2).map (o,·) = _
      rw [h3]
      rfl
theorem due_none {notes:List (Int × Int)} {nm:List Nat} {sheet:List (Int × List Rw)} {ok:Nat→Bool} {n:Nat} (h:lastT notes nm sheet ok n = none):dueT notes nm sheet ok n = none:=by unfold dueT; rw [h]; rfl
noncomputable def hol (sheet:List (Int × List Rw)) (i:Nat):Int:=(sheet.getD i (-1,[])).1
noncomputable def chn (sheet:List (Int × List Rw)):Nat→Int→List Int
  | 0,_=>[]
  | f + 1,h=>if h < 0 then [] else h :: chn sheet f (hol sheet h.toNat)
noncomputable def HolOk (sheet:List (Int × List Rw)):Prop:=∀ i,i < sheet.length→-1 ≤ hol sheet i∧hol sheet i < (i:Int)
noncomputable def chain (sheet:List (Int × List Rw)) (h:Int):List Int:=chn sheet (h + 1).toNat h
theorem chn_neg (sheet:List (Int × List Rw)) (f:Nat) {h:Int} (hh:h < 0):chn sheet f h = []:=by
  cases f with
  | zero=>rfl
  | succ f=>unfold chn; rw [if_pos hh]
theorem chn_more {sheet:List (Int × List Rw)} (hk:HolOk sheet):∀ (f:Nat) (h:Int),h < (sheet.length:Int)→h < (f:Int)→chn sheet f h = chn sheet (h + 1).toNat h:=by
  intro f
  induction f using Nat.strongRecOn with
  | _ f ih =>
    intro h hl hf
    by_cases h0:h < 0
    · rw [chn_neg _ _ h0,chn_neg _ _ h0]
    · have h1:=hk h.toNat (by lia)
      cases f with
      | zero=>lia
      | succ f =>
        have e:(h + 1).toNat = h.toNat + 1:=by lia
        rw [e]
        show (if h < 0 then [] else h :: chn sheet f (hol sheet h.toNat)) = (if h < 0 then [] else h :: chn sheet h.toNat (hol sheet h.toNat))
        rw [if_neg h0,if_neg h0]
        congr 1
        rw [ih f (by lia) _ (by lia) (by lia)]
        by_cases hz:h.toNat < f + 1
        · exact (ih h.toNat hz _ (by lia) (by lia)).symm
        · lia
theorem chain_neg (sheet:List (Int × List Rw)) {h:Int} (hh:h < 0):chain sheet h = []:=chn_neg _ _ hh
theorem chain_pos {sheet:List (Int × List Rw)} (hk:HolOk sheet) {h:Int} (h0:0 ≤ h) (hl:h < (sheet.length:Int)):chain sheet h = h :: chain sheet (hol sheet h.toNat):=by
  have h1:=hk h.toNat (by lia)
  unfold chain
  have e:(h + 1).toNat = h.toNat + 1:=by lia
  rw [e]
  show (if h < 0 then [] else h :: chn sheet h.toNat (hol sheet h.toNat)) = _
  rw [if_neg (by lia),chn_more hk h.toNat _ (by lia) (by lia)]
noncomputable def seesB (sheet:List (Int × List Rw)) (n o:Nat):Bool:=decide (hol sheet o = -1∨hol sheet o ∈ chain sheet (hol sheet n))
noncomputable def toldF (notes:List (Int × Int)) (sheet:List (Int × List Rw)) (n:Nat) (nm:List Nat):Option (Nat × Nat):=dueT notes nm sheet (fun o=>decide (o < n) && seesB sheet n o) n
theorem told_full {notes:List (Int × Int)} {sheet:List (Int × List Rw)} {n:Nat} (nm:List Nat) (h:n ≤ sheet.length):((pl nm (evs notes sheet)).filter fun p=>decide (p.1 < n) && seesB sheet n p.1).getLast? = toldF notes sheet n nm:=by
  have h1:=pl_sheet notes nm sheet (fun o=>decide (o < n) && seesB sheet n o) sheet.length (Nat.le_refl _)
  rw [List.take_length] at h1
  rw [h1]
  have h2:=due_cut notes nm sheet (fun o=>decide (o < n) && seesB sheet n o) n (fun i hi=>by show (decide (i < n) && _) = false; rw [decide_eq_false (by lia)]; rfl) (sheet.length - n)
  rw [show n + (sheet.length - n) = sheet.length by lia] at h2
  exact h2
end Rg
namespace Rg
noncomputable abbrev E3:=Nat × List (List Nat) × Option (List Nat)
noncomputable def lk {α:Type} (es:List (Int × α)) (m:Int):Option α:=es.foldl (fun o p=>if p.1 = m then some p.2 else o) none
theorem lk_snoc {α:Type} (es:List (Int × α)) (m:Int) (e:α) (m':Int):lk (es ++ [(m,e)]) m' = if m = m' then some e else lk es m':=by
  unfold lk
  rw [List.foldl_append]
  rfl
theorem lk_foldl {α:Type} (m:Int):∀ (es:List (Int × α)) (o:Option α),(∃ p ∈ es,p.1 = m)→∃ e,es.foldl (fun o p=>if p.1 = m then some p.2 else o) o = some e∧(m,e) ∈ es
  | [],o,h=>by obtain ⟨p,hp,_⟩:=h; cases hp
  | p :: r,o,h=>by
    by_cases hr:∃ p ∈ r,p.1 = m
    · obtain ⟨e,h1,h2⟩:=lk_foldl m r (if p.1 = m then some p.2 else o) hr
      exact ⟨e,h1,List.mem_cons_of_mem _ h2⟩
    · have hp : p.1 = m := by
        obtain ⟨p',hp',e⟩:=h
        rcases List.mem_cons.mp hp' with z | z
        · rw [← z]; exact e
        · exact absurd ⟨p',z,e⟩ hr
      refine ⟨p.2,?_,by rw [← hp]; exact List.mem_cons_self⟩
      rw [List.foldl_cons,if_pos hp]
      have:∀ (l:List (Int × α)) (o:Option α),(∀ p ∈ l,¬ p.1 = m)→l.foldl (fun o p=>if p.1 = m then some p.2 else o) o = o:=by
        intro l
        induction l with
        | nil=>intro o _; rfl
        | cons a l ih =>
          intro o hl
          rw [List.foldl_cons,if_neg (hl a List.mem_cons_self)]
          exact ih o fun p hp=>hl p (List.mem_cons_of_mem _ hp)
      exact this r _ fun p hp z=>hr ⟨p,hp,z⟩
theorem lk_has {α:Type} {es:List (Int × α)} {m:Int} (h:∃ p ∈ es,p.1 = m):∃ e,lk es m = some e∧(m,e) ∈ es:=lk_foldl m es none h
theorem lk_app {α:Type} {es fs:List (Int × α)} {m:Int} (h:∃ p ∈ fs,p.1 = m):lk (es ++ fs) m = lk fs m:=by
  obtain ⟨e,h1,_⟩:=lk_foldl m fs (lk es m) h
  obtain ⟨e',h2,_⟩:=lk_has h
  unfold lk at h2 ⊢
  rw [List.foldl_append]
  have:∀ (l:List (Int × α)) (o o':Option α),(∃ p ∈ l,p.1 = m)→l.foldl (fun o p=>if p.1 = m then some p.2 else o) o = l.foldl (fun o p=>if p.1 = m then some p.2 else o) o':=by
    intro l
    induction l with
    | nil=>intro o o' h; obtain ⟨p,hp,_⟩:=h; cases hp
    | cons a l ih =>
      intro o o' h
      rw [List.foldl_cons,List.foldl_cons]
      by_cases ha:a.1 = m
      · rw [if_pos ha,if_pos ha]
      · rw [if_neg ha,if_neg ha]
        refine ih o o' ?_
        obtain ⟨p,hp,e⟩:=h
        rcases List.mem_cons.mp hp with z | z
        · rw [z] at e; exact absurd e ha
        · exact ⟨p,z,e⟩
  exact this fs _ _ h
theorem lk_mem {α:Type} {es:List (Int × α)} {m:Int} {e:α} (h:lk es m = some e):(m,e) ∈ es:=by
  have:∀ (l:List (Int × α)) (o:Option α),l.foldl (fun o p=>if p.1 = m then some p.2 else o) o = some e→o = some e∨(m,e) ∈ l:=by
    intro l
    induction l with
    | nil=>intro o h; exact .inl h
    | cons a l ih =>
      intro o h
      rw [List.foldl_cons] at h
      rcases ih _ h with z | z
      · by_cases ha:a.1 = m
        · rw [if_pos ha] at z
          refine .inr ?_
          have:a = (m,e):=by rw [← ha,← Option.some.inj z]
          rw [this]; exact List.mem_cons_self
        · rw [if_neg ha] at z; exact .inl z
      · exact .inr (List.mem_cons_of_mem _ z)
  rcases this es none h with z | z
  · cases z
  · exact z
noncomputable def NodOk (rows:List Rw):Prop:=∀ (j:Nat) (q:Rw),rows[j]? = some q→∀ x ∈ q.ps,x.2 = none→∃ (i:Nat) (q':Rw),i < j∧rows[i]? = some q'∧q'.m = x.1
theorem NodOk.snoc {rows:List Rw} {q:Rw} (h:NodOk rows) (hq:∀ x ∈ q.ps,x.2 = none→∃ p ∈ rows,p.m = x.1):NodOk (rows ++ [q]):=fun j p e x hx e2=>by
  have hj:=(List.getElem?_eq_some_iff.mp e).1
  by_cases hjl:j < rows.length
  · rw [List.getElem?_append_left hjl] at e
    obtain ⟨i,q',h1,h2,h3⟩:=h j p e x hx e2
    exact ⟨i,q',h1,by rw [List.getElem?_append_left (by lia)]; exact h2,h3⟩
  · rw [List.length_append,List.length_singleton] at hj
    have ej:j = rows.length:=by lia
    subst ej
    rw [List.getElem?_append_right (Nat.le_refl _),Nat.sub_self] at e
    cases e
    obtain ⟨p',h1,h2⟩:=hq x hx e2
    obtain ⟨i,hi,ei⟩:=List.mem_iff_getElem.mp h1
    exact ⟨i,p',hi,by rw [List.getElem?_append_left hi,List.getElem?_eq_getElem hi,ei],h2⟩
noncomputable def aPart (notes:List (Int × Int)) (q:Rw):Int:=(notes.getD q.r (-1,-1)).1
noncomputable def nameF (notes:List (Int × Int)) (q:Rw):Option (List Nat):=if 0 ≤ aPart notes q then (q.ps.getD (aPart notes q).toNat (0,none)).2 else none
noncomputable def AskOk (notes:List (Int × Int)) (q:Rw):Prop:=0 ≤ aPart notes q→∃ i s,q.ps[(aPart notes q).toNat]? = some (i,some s)
theorem name_yes {notes:List (Int × Int)} {q:Rw} (h:AskOk notes q) (hb:0 ≤ aPart notes q):∃ i s,q.ps[(aPart notes q).toNat]? = some (i,some s)∧nameF notes q = some s:=by
  obtain ⟨i,s,e⟩:=h hb
  refine ⟨i,s,e,?_⟩
  unfold nameF
  rw [if_pos hb,List.getD,e]
  rfl
theorem name_no {notes:List (Int × Int)} {q:Rw} (hb:¬ 0 ≤ aPart notes q):nameF notes q = none:=by
  unfold nameF
  rw [if_neg hb]
section
variable (kf:E3→List Nat) (notes:List (Int × Int)) (sheet:List (Int × List Rw))
noncomputable def givenP (es:List (Int × E3)) (p:Int × Option (List Nat)):List Nat:=match p.2 with
  | some t=>t
  | none=>match lk es p.1 with
    | some e=>kf e
    | none=>[]
noncomputable def givenF (es:List (Int × E3)) (q:Rw):List (List Nat):=q.ps.map (givenP kf es)
noncomputable def kAt (ks:List (List (List Nat))) (p:Nat × Nat):List Nat:=(ks.getD p.1 []).getD p.2 []
noncomputable def placeF (n:Nat) (q:Rw):Option (Nat × Nat):=(nameF notes q).bind fun nm=>toldF notes sheet n nm
noncomputable def foundF (n:Nat) (ks:List (List (List Nat))) (q:Rw):Option (List Nat):=(placeF notes sheet n q).map (kAt ks)
noncomputable def rowE (n:Nat) (ks:List (List (List Nat))) (es:List (Int × E3)) (q:Rw):Int × E3:=(q.m,q.r,givenF kf es q,foundF notes sheet n ks q)
noncomputable def rowsE (n:Nat) (ks:List (List (List Nat))) (es:List (Int × E3)) (rows:List Rw):Nat→List (Int × E3)
  | 0=>[]
  | j + 1=>rowsE n ks es rows j ++ (match rows[j]? with
    | some q=>[rowE kf notes sheet n ks (es ++ rowsE n ks es rows j) q]
    | none=>[])
noncomputable def stp:Nat→List (List (List Nat)) × List (Int × E3)
  | 0=>([],[])
  | i + 1=>match sheet[i]? with
    | some p=>((stp i).1 ++ [(rowsE kf notes sheet i (stp i).1 (stp i).2 p.2 p.2.length).map fun e=>kf e.2],(stp i).2 ++ rowsE kf notes sheet i (stp i).1 (stp i).2 p.2 p.2.length)
    | none=>stp i
variable {kf notes sheet}
theorem rowsE_len {n:Nat} {ks:List (List (List Nat))} {es:List (Int × E3)} {rows:List Rw}:∀ {j:Nat},j ≤ rows.length→(rowsE kf notes sheet n ks es rows j).length = j
  | 0,_=>rfl
  | j + 1,h=>by
    unfold rowsE
    rw [List.length_append,rowsE_len (by lia),List.getElem?_eq_getElem (by lia)]
    rfl
theorem rowsE_succ {n:Nat} {ks:List (List (List Nat))} {es:List (Int × E3)} {rows:List Rw} {j:Nat} {q:Rw} (e:rows[j]? = some q):rowsE kf notes sheet n ks es rows (j + 1) = rowsE kf notes sheet n ks es rows j ++ [rowE kf notes sheet n ks (es ++ rowsE kf notes sheet n ks es rows j) q]:=by
  rw [rowsE,e]
theorem rowsE_mark {n:Nat} {ks:List (List (List Nat))} {es:List (Int × E3)} {rows:List Rw}:∀ {j i:Nat} {q:Rw},rows[i]? = some q→i < j→∃ p ∈ rowsE kf notes sheet n ks es rows j,p.1 = q.m
  | 0,i,q,_,h=>by lia
  | j + 1,i,q,e,h=>by
    have hi:=(List.getElem?_eq_some_iff.mp e).1
    by_cases hij:i < j
    · obtain ⟨p,hp,ep⟩:=rowsE_mark (j:=j) e hij
      refine ⟨p,?_,ep⟩
      rw [rowsE]
      exact List.mem_append_left _ hp
    · have:i = j:=by lia
      subst this
      rw [rowsE_succ e]
      exact ⟨_,List.mem_append_right _ List.mem_cons_self,rfl⟩
theorem rowsE_at {n:Nat} {ks:List (List (List Nat))} {es:List (Int × E3)} {rows:List Rw} {j:Nat} {q:Rw} (e:rows[j]? = some q):∀ {m:Nat},m ≤ rows.length→j < m→(rowsE kf notes sheet n ks es rows m)[j]? = some (rowE kf notes sheet n ks (es ++ rowsE kf notes sheet n ks es rows j) q)
  | 0,_,h=>by lia
  | m + 1,hm,h=>by
    rw [rowsE_succ (List.getElem?_eq_getElem (show m < rows.length by lia))]
    by_cases hj:j < m
    · rw [List.getElem?_append_left (by rw [rowsE_len (by lia)]; exact hj)]
      exact rowsE_at e (by lia) hj
    · have:j = m:=by lia
      subst this
      rw [List.getElem?_append_right (by rw [rowsE_len (by lia)]; exact Nat.le_refl _),rowsE_len (by lia),Nat.sub_self]
      rw [List.getElem?_eq_getElem (by lia)] at e
      cases e
      rfl
theorem stp_succ {i:Nat} {p:Int × List Rw} (e:sheet[i]? = some p):stp kf notes sheet (i + 1) = ((stp kf notes sheet i).1 ++ [(rowsE kf notes sheet i (stp kf notes sheet i).1 (stp kf notes sheet i).2 p.2 p.2.length).map fun e=>kf e.2],(stp kf notes sheet i).2 ++ rowsE kf notes sheet i (stp kf notes sheet i).1 (stp kf notes sheet i).2 p.2 p.2.length):=by
  rw [stp,e]
theorem stp_len:∀ {i:Nat},i ≤ sheet.length→(stp kf notes sheet i).1.length = i
  | 0,_=>rfl
  | i + 1,h=>by
    rw [stp_succ (List.getElem?_eq_getElem (by lia)),List.length_append,stp_len (by lia)]
    rfl
theorem stp_at:∀ {i n:Nat} {p:Int × List Rw},n ≤ sheet.length→i < n→sheet[i]? = some p→∃ l,(stp kf notes sheet n).1[i]? = some l∧l.length = p.2.length
  | i,0,p,_,h,_=>by lia
  | i,n + 1,p,hn,h,e=>by
    have en:=List.getElem?_eq_getElem (show n < sheet.length by lia)
    rw [stp_succ en]
    by_cases hi:i < n
    · obtain ⟨l,h1,h2⟩:=stp_at (n:=n) (by lia) hi e
      exact ⟨l,by rw [List.getElem?_append_left (by rw [stp_len (by lia)]; exact hi)]; exact h1,h2⟩
    · have:i = n:=by lia
      subst this
      rw [en] at e
      cases e
      refine ⟨_,by rw [List.getElem?_append_right (by rw [stp_len (by lia)]; exact Nat.le_refl _),stp_len (by lia),Nat.sub_self]; rfl,?_⟩
      rw [List.length_map,rowsE_len (Nat.le_refl _)]
theorem pl_in {nm:List Nat}:∀ p ∈ pl nm (evs notes sheet),∃ pc,sheet[p.1]? = some pc∧p.2 < pc.2.length:=by
  intro p hp
  unfold pl at hp
  obtain ⟨e,he,rfl⟩:=List.mem_map.mp hp
  have he':=(List.mem_filter.mp he).1
  unfold evs at he'
  obtain ⟨x,hx,hx2⟩:=List.mem_flatMap.mp he'
  unfold evRow at hx2
  obtain ⟨y,hy,rfl⟩:=List.mem_map.mp hx2
  have h1:=List.mem_zipIdx hx
  have h2:=List.mem_zipIdx hy
  refine ⟨x.1,?_,by show y.2 < _; lia⟩
  show sheet[x.2]? = _
  rw [List.getElem?_eq_getElem (by lia)]
  simp only [Nat.sub_zero] at h1
  exact congrArg some h1.2.2.symm
theorem told_in {n:Nat} {nm:List Nat} {p:Nat × Nat} (hn:n ≤ sheet.length) (h:toldF notes sheet n nm = some p):p.1 < n∧∃ pc,sheet[p.1]? = some pc∧p.2 < pc.2.length:=by
  rw [← told_full nm hn] at h
  have hm:=List.mem_of_getLast? h
  obtain ⟨h1,h2⟩:=List.mem_filter.mp hm
  rw [Bool.and_eq_true] at h2
  exact ⟨of_decide_eq_true h2.1,pl_in p h1⟩
noncomputable def askL (pv:Int→Option E3) (es:List (Int × E3)):List E3:=es.filterMap fun e=>if pv e.1 = some e.2 then none else some e.2
theorem askL_snoc (pv:Int→Option E3) (es:List (Int × E3)) (e:Int × E3):askL pv (es ++ [e]) = askL pv es ++ (if pv e.1 = some e.2 then [] else [e.2]):=by
  unfold askL
  rw [List.filterMap_append,List.filterMap_cons]
  by_cases h:pv e.1 = some e.2
  · rw [if_pos h,if_pos h]; rfl
  · rw [if_neg h,if_neg h]; rfl
theorem askL_none (es:List (Int × E3)):askL (fun _=>none) es = es.map (·.2):=by
  unfold askL
  induction es with
  | nil=>rfl
  | cons e r ih=>rw [List.filterMap_cons,if_neg (fun z=>by cases z),List.map_cons,← ih]
end
end Rg
namespace K75
open PySem PySem.Spec PyProof.Rows L2 Rg
noncomputable def top (i:Nat):Stmt:=PySem.Challenge.pw_regrowth_k75_whole_sheets_in_a_row.main.body.getD i (.Pass ⟨0,0,0,0⟩)
structure Txt (K:PySem.W.Frag) (w:World) (mg:Str→Option Value):Prop where
  n_len:mg "len" = none
  n_range:mg "range" = none
  n_isinstance:mg "isinstance" = none
  n_int:mg "int" = none
  n_bool:mg "bool" = none
  n_tuple:mg "tuple" = none
  n_enumerate:mg "enumerate" = none
  n_reversed:mg "reversed" = none
  n_list:mg "list" = none
  n_str:mg "str" = none
  n_ord:mg "ord" = none
  n_zip:mg "zip" = none
  n_max:mg "max" = none
  n_sum:mg "sum" = none
noncomputable def txtD:Option (List Nat)→PyData
  | none=>.none
  | some s=>.str (S s)
noncomputable def txtV:Option (List Nat)→V
  | none=>.non
  | some s=>.str (S s)
noncomputable def partDat (p:Int × Option (List Nat)):PyData:=.tuple [.int p.1,txtD p.2]
noncomputable def rowDat (q:Rw):PyData:=.tuple [.int q.m,.int (q.r:Nat),.list (q.ps.map partDat)]
noncomputable def pieDat (p:Int × List Rw):PyData:=.tuple [.int p.1,.list (p.2.map rowDat)]
noncomputable def noteDat (n:Int × Int):PyData:=.tuple [.int n.1,.int n.2]
theorem datvs_at {K:PySem.W.Frag} {H:Hp} {α:Type} {f:α→PyData} {ys:List V} {l:List α} {i:Nat} {a:α} (h:DatVs K H ys (l.map f)) (e:l[i]? = some a):∃ y,ys[i]? = some y∧DatV K H y (f a):=by
  have hi:=(List.getElem?_eq_some_iff.mp e).1
  have hl:=h.length
  rw [List.length_map] at hl
  obtain ⟨d,hd,hv⟩:=h.get (List.getElem?_eq_getElem (show i < ys.length by lia))
  rw [List.getElem?_map,e] at hd
  cases hd
  exact ⟨_,List.getElem?_eq_getElem (by lia),hv⟩
theorem datvs_has {K:PySem.W.Frag} {H:Hp} {α:Type} {f:α→PyData} {ys:List V} {l:List α} {i:Nat} {y:V} (h:DatVs K H ys (l.map f)) (e:ys[i]? = some y):∃ a,l[i]? = some a∧DatV K H y (f a):=by
  obtain ⟨d,hd,hv⟩:=h.get e
  rw [List.getElem?_map] at hd
  cases ea:l[i]? with
  | none=>rw [ea] at hd; cases hd
  | some a=>rw [ea] at hd; cases hd; exact ⟨a,rfl,hv⟩
theorem dat_list {K:PySem.W.Frag} {H:Hp} {x:V} {ds:List PyData} (h:DatV K H x (.list ds)):∃ b ys,x = .ref b∧SqL K H b ys∧DatVs K H ys ds:=by
  cases h with
  | list h1 h2=>exact ⟨_,_,rfl,h1,h2⟩
theorem dat_txt {K:PySem.W.Frag} {H:Hp} {x:V} {o:Option (List Nat)} (h:DatV K H x (txtD o)):x = txtV o:=by
  cases o with
  | none=>cases h; rfl
  | some s=>cases h; rfl
theorem dat_part {K:PySem.W.Frag} {H:Hp} {x:V} {p:Int × Option (List Nat)} (h:DatV K H x (partDat p)):∃ t,x = .ref t∧SqT K H t [.int p.1,txtV p.2]:=by
  unfold partDat at h
  cases h with
  | tuple h1 h2 =>
    cases h2 with
    | cons a b =>
      cases a
      cases b with
      | cons a b =>
        have:=dat_txt a
        subst this
        cases b
        exact ⟨_,rfl,h1⟩
theorem dat_row {K:PySem.W.Frag} {H:Hp} {x:V} {q:Rw} (h:DatV K H x (rowDat q)):∃ t b ys,x = .ref t∧SqT K H t [.int q.m,.int (q.r:Nat),.ref b]∧SqL K H b ys∧DatVs K H ys (q.ps.map partDat):=by
  unfold rowDat at h
  cases h with
  | tuple h1 h2 =>
    cases h2 with
    | cons a b =>
      cases a
      cases b with
      | cons a b =>
        cases a
        cases b with
        | cons a b =>
          obtain ⟨l,ys,rfl,h3,h4⟩:=dat_list a
          cases b
          exact ⟨_,l,ys,rfl,h1,h3,h4⟩
theorem dat_pie {K:PySem.W.Frag} {H:Hp} {x:V} {q:Int × List Rw} (h:DatV K H x (pieDat q)):∃ t b ys,x = .ref t∧SqT K H t [.int q.1,.ref b]∧SqL K H b ys∧DatVs K H ys (q.2.map rowDat):=by
  unfold pieDat at h
  cases h with
  | tuple h1 h2 =>
    cases h2 with
    | cons a b =>
      cases a
      cases b with
      | cons a b =>
        obtain ⟨l,ys,rfl,h3,h4⟩:=dat_list a
        cases b
        exact ⟨_,l,ys,rfl,h1,h3,h4⟩
theorem dat_note {K:PySem.W.Frag} {H:Hp} {x:V} {q:Int × Int} (h:DatV K H x (noteDat q)):∃ t,x = .ref t∧SqT K H t [.int q.1,.int q.2]:=by
  unfold noteDat at h
  cases h with
  | tuple h1 h2 =>
    cases h2 with
    | cons a b =>
      cases a
      cases b with
      | cons a b =>
        cases a
        cases b
        exact ⟨_,rfl,h1⟩
structure PlV (H:Hp) (ys:List V) (ps:List (Nat × Nat)):Prop where
  len:ys.length = ps.length
  at':∀ (k:Nat) (p:Nat × Nat),ps[k]? = some p→∃ t,ys[k]? = some (.ref t)∧H t = some (.tup [.int (p.1:Nat),.int (p.2:Nat)])
theorem PlV.mono {H H':Hp} {ys:List V} {ps:List (Nat × Nat)} (h:PlV H ys ps) (e:∀ t vs,H t = some (.tup vs)→H' t = some (.tup vs)):PlV H' ys ps :=
  ⟨h.len,fun k p hp=>let ⟨t,h1,h2⟩:=h.at' k p hp; ⟨t,h1,e _ _ h2⟩⟩
theorem PlV.snoc {H:Hp} {ys:List V} {ps:List (Nat × Nat)} {t:Addr} {p:Nat × Nat} (h:PlV H ys ps) (ht:H t = some (.tup [.int (p.1:Nat),.int (p.2:Nat)])):PlV H (ys ++ [.ref t]) (ps ++ [p]):=by
  refine ⟨by rw [List.length_append,List.length_append,h.len]; rfl,fun k q hq=>?_⟩
  by_cases hk:k < ps.length
  · rw [List.getElem?_append_left hk] at hq
    obtain ⟨t',h1,h2⟩:=h.at' k q hq
    exact ⟨t',by rw [List.getElem?_append_left (by rw [h.len]; exact hk)]; exact h1,h2⟩
  · have hl:=(List.getElem?_eq_some_iff.mp hq).1
    have ek:k = ps.length:=by simp at hl; lia
    subst ek
    rw [List.getElem?_append_right (Nat.le_refl _),Nat.sub_self] at hq
    cases hq
    exact ⟨t,by rw [List.getElem?_append_right (by rw [h.len]; exact Nat.le_refl _),h.len,Nat.sub_self]; rfl,ht⟩
structure BdI (H0 H':Hp) (d:Addr) (el:List Ev) (kvs:List (Key × V)) (n:Nat):Prop where
  hd:H' d = some (.dK kvs)
  len:kvs.length ≤ n
  same:Same H0 H'
  dn:H0 d = none
  no:∀ nm,valV kvs (Sum.inr (S nm)) = none→pl nm el = []
  yes:∀ nm v,valV kvs (Sum.inr (S nm)) = some v→∃ b ys,v = .ref b∧H0 b = none∧H' b = some (.lst ys)∧PlV H' ys (pl nm el)
  inj:∀ nm nm' b,valV kvs (Sum.inr (S nm)) = some (.ref b)→valV kvs (Sum.inr (S nm')) = some (.ref b)→nm = nm'
theorem BdI.grow {H0 H' H2:Hp} {d:Addr} {el:List Ev} {kvs:List (Key × V)} {n:Nat} (h:BdI H0 H' d el kvs n) (s:Same H' H2):BdI H0 H2 d el kvs n :=
  ⟨s _ _ h.hd,h.len,h.same.trans s,h.dn,h.no,fun nm v hv=>let ⟨b,ys,h1,h2,h3,h4⟩:=h.yes nm v hv; ⟨b,ys,h1,h2,s _ _ h3,h4.mono fun _ _ e=>s _ _ e⟩,h.inj⟩
theorem BdI.none {H0 H':Hp} {d:Addr} {el:List Ev} {kvs:List (Key × V)} {n:Nat} (h:BdI H0 H' d el kvs n) (p:Nat × Nat):BdI H0 H' d (el ++ [(p,Option.none)]) kvs n:=by
  have e:∀ nm,pl nm (el ++ [(p,Option.none)]) = pl nm el:=fun nm=>by rw [pl_app,pl_one,if_neg (fun z=>nomatch z),List.append_nil]
  exact ⟨h.hd,h.len,h.same,h.dn,fun nm hv=>by rw [e]; exact h.no nm hv,fun nm v hv=>by rw [e]; exact h.yes nm v hv,h.inj⟩
theorem BdI.new {H0 H' : Hp} {d b : Addr} {el : List Ev} {kvs : List (Key × V)} {n : Nat} {nm : List Nat} (h : BdI H0 H' d el kvs n) (hn : valV kvs (Sum.inr (S nm)) = Option.none) (hb : H' b = some (.lst [])) (hb0 : H0 b = Option.none) (hbf : ∀ nm', valV kvs (Sum.inr (S nm')) ≠ some (.ref b)) :
    BdI H0 (upd H' d (.dK (putK kvs (Sum.inr (S nm)) (.ref b)))) d el (putK kvs (Sum.inr (S nm)) (.ref b)) (n + 1):=by
  have nd:∀ {c:Addr} {ys:List V},H' c = some (.lst ys)→c ≠ d:=fun e z=>by rw [z,h.hd] at e; cases e
  have ndt:∀ {c:Addr} {ys:List V},H' c = some (.tup ys)→c ≠ d:=fun e z=>by rw [z,h.hd] at e; cases e
  have hv:∀ nm',valV (putK kvs (Sum.inr (S nm)) (.ref b)) (Sum.inr (S nm')) = if nm' = nm then some (.ref b) else valV kvs (Sum.inr (S nm')):=fun nm'=>by
    rw [valV_put]
    by_cases e:nm' = nm
    · rw [if_pos e,if_pos (by rw [e])]
    · rw [if_neg e,if_neg (fun z=>e (S_inj (Sum.inr.inj z)))]
  refine ⟨upd_same,?_,fun c u e=>?_,h.dn,fun nm' e=>?_,fun nm' v e=>?_,fun nm1 nm2 c e1 e2=>?_⟩
  · have:=length_putK kvs (Sum.inr (S nm)) (.ref b); have:=h.len; lia
  · rw [upd_ne fun z=>by rw [z,h.dn] at e; cases e]; exact h.same c u e
  · rw [hv] at e
    split at e
    · cases e
    · exact h.no nm' e
  · rw [hv] at e
    split at e
    · rename_i en
      cases e
      refine ⟨b,[],rfl,hb0,by rw [upd_ne (nd hb)]; exact hb,?_⟩
      rw [en,h.no nm hn]
      exact ⟨rfl,fun k p hp=>by cases hp⟩
    · obtain ⟨c,ys,h1,h2,h3,h4⟩:=h.yes nm' v e
      exact ⟨c,ys,h1,h2,by rw [upd_ne (nd h3)]; exact h3,h4.mono fun t vs et=>by rw [upd_ne (ndt et)]; exact et⟩
  · rw [hv] at e1 e2
    split at e1
    · split at e2
      · rename_i a1 a2; rw [a1,a2]
      · cases e1; exact absurd e2 (hbf nm2)
    · split at e2
      · cases e2; exact absurd e1 (hbf nm1)
      · exact h.inj nm1 nm2 c e1 e2
theorem BdI.put {H0 H' : Hp} {d b t : Addr} {el : List Ev} {kvs : List (Key × V)} {n i j : Nat} {nm : List Nat} {ys : List V} (h : BdI H0 H' d el kvs n) (hv : valV kvs (Sum.inr (S nm)) = some (.ref b)) (hb : H' b = some (.lst ys)) (ht : H' t = some (.tup [.int (i : Nat), .int (j : Nat)])) :
    BdI H0 (upd H' b (.lst (ys ++ [.ref t]))) d (el ++ [((i,j),some nm)]) kvs n:=by
  have ndt:∀ {c:Addr} {zs:List V},H' c = some (.tup zs)→c ≠ b:=fun e z=>by rw [z,hb] at e; cases e
  have h0:H0 b = Option.none:=by
    obtain ⟨c,zs,h1,h2,_⟩:=h.yes nm _ hv
    cases h1
    exact h2
  refine ⟨by rw [upd_ne fun z=>by rw [← z,h.hd] at hb; cases hb]; exact h.hd,h.len,fun c u e=>?_,h.dn,fun nm' e=>?_,fun nm' v e=>?_,h.inj⟩
  · rw [upd_ne fun z=>by rw [z,h0] at e; cases e]; exact h.same c u e
  · rw [pl_app,pl_one,if_neg (fun z=>by cases z; rw [hv] at e; cases e),List.append_nil]; exact h.no nm' e
  · obtain ⟨c,zs,h1,h2,h3,h4⟩:=h.yes nm' v e
    have h4':PlV (upd H' b (.lst (ys ++ [.ref t]))) zs (pl nm' el):=h4.mono fun t vs et=>by rw [upd_ne (ndt et)]; exact et
    by_cases en:nm' = nm
    · subst en
      have ec:c = b:=by rw [hv] at e; rw [h1] at e; cases e; rfl
      subst ec
      rw [hb] at h3
      cases h3
      refine ⟨c,ys ++ [.ref t],h1,h2,upd_same,?_⟩
      rw [pl_app,pl_one,if_pos rfl]
      exact h4'.snoc (by rw [upd_ne (ndt ht)]; exact ht)
    · have nc:c ≠ b:=fun z=>en (h.inj nm' nm b (by rw [e,h1,z]) hv)
      refine ⟨c,zs,h1,h2,by rw [upd_ne nc]; exact h3,?_⟩
      rw [pl_app,pl_one,if_neg (fun z=>en (by cases z; rfl)),List.append_nil]
      exact h4'
structure ShOk (notes:List (Int × Int)) (sheet:List (Int × List Rw)):Prop where
  len:sheet.length ≤ 100
  rows:∀ p ∈ sheet,p.2.length ≤ 100
  ok:∀ p ∈ sheet,∀ q ∈ p.2,RowOk notes q
section
variable {P:Program} {w:World} {K:PySem.W.Frag} {mg:Str→Option Value} {base:Heap}
inductive spNB (K:PySem.W.Frag) (vs : List V) (H : Hp) (Q : VK) (_e : XK) : Prop | mk (sr nr:Addr) (sheet:List (Int × List Rw)) (notes:List (Int × Int)) : (vs = [.ref sr,.ref nr]) → (DatV K H (.ref sr) (.list (sheet.map pieDat))) → (DatV K H (.ref nr) (.list (notes.map noteDat))) → ShOk notes sheet → (∀ (H':Hp) (d:Addr) (kvs:List (Key × V)) (n:Nat),BdI H H' d (evs notes sheet) kvs n→Q (.ref d) H') → spNB K vs H Q _e
noncomputable abbrev st_names_bound:Stmt:=top 1
theorem sc_names_bound:FnScope ["sheet","notes","bound","piece","entry","row","told","part"] ["sheet","notes"] (defScope st_names_bound):=⟨rfl,rfl,rfl,by decide +kernel,rfl,by decide +kernel,by decide +kernel⟩
theorem def_nb (R:Raw K mg "names_bound" st_names_bound ["sheet","notes"]) (T:Txt K w mg):Def P w K mg base 1 "names_bound" ["sheet","notes"] (spNB K):=by
  refine R.defJ sc_names_bound (fun vs H Q E h=>?_) (fun f cdv A outer s H vs Q E hr h=>?_)
  · obtain ⟨sr,nr,sheet,notes,rfl,_⟩:=h
    rfl
  · obtain ⟨sr,nr,sheet,notes,rfl,hS,hN,ok,q⟩:=h
    have sc:=sc_names_bound
    have hu:=hr.units
    have hb:=big
    obtain ⟨_,ys,e0,hSl,hSd⟩:=dat_list hS
    cases e0
    obtain ⟨_,zs,e0,hNl,hNd⟩:=dat_list hN
    cases e0
    have hyl:ys.length = sheet.length:=by have:=hSd.length; rw [List.length_map] at this; exact this
    have hsl:=ok.len
    refine ⟨_,(jss_cons (js_set (i:=2) sc.nd rfl (Or.inl rfl) j_dnewK)
    (jss_cons (js_for PassesOwn.never rfl (ji_enum (K:=K) rfl T.n_enumerate (ja_cons (jn 0) ja_nil)) (jg_tup (K:=K) (n:=2) rfl (jgs_cons (jg_name (i:=3) sc.nd rfl (Or.inl rfl)) (jgs_cons (jg_name (i:=4) sc.nd rfl (Or.inl rfl)) jgs_nil)))
    (jss_one (js_for PassesOwn.never rfl (ji_enum (K:=K) rfl T.n_enumerate (ja_cons (j_ix (o_ix hu (K:=K) (w:=w)) (jn 4) j_int) ja_nil)) (jg_tup (K:=K) (n:=2) rfl (jgs_cons (jg_name (i:=5) sc.nd rfl (Or.inl rfl)) (jgs_cons (jg_name (i:=6) sc.nd rfl (Or.inl rfl)) jgs_nil)))
    (jss_cons (js_set (i:=7) sc.nd rfl (Or.inl rfl) (j_ix (o_ix hu (K:=K) (w:=w)) (j_ix (o_ix hu (K:=K) (w:=w)) (jn 1) (j_ix (o_ix hu (K:=K) (w:=w)) (jn 6) j_int)) j_int))
    (jss_one (js_if (jt_cmp o_ge (jn 7) j_int)
    (jss_one (js_expr (j_bm (K:=K) PySem.F.plainAttrs_list PySem.F.slot_list_append PySem.F.type_list_append m_append (j_bm (K:=K) PySem.F.plainAttrs_dict PySem.F.slot_dict_setdefault PySem.F.type_dict_setdefault m_setd (jn 2) (ja_cons (j_ix (o_ix hu (K:=K) (w:=w)) (j_ix (o_ix hu (K:=K) (w:=w)) (j_ix (o_ix hu (K:=K) (w:=w)) (jn 6) j_int) (jn 7)) j_int) (ja_cons (j_lst ja_nil) ja_nil))) (ja_cons (j_tup (ja_cons (jn 3) (ja_cons (jn 5) ja_nil))) ja_nil))))
    jss_nil))))))
    (jss_one (js_ret (jn 2))))),?_⟩
    refine fun d hd=>?_
    have b0:BdI H (upd H d (.dK [])) d (evs notes (sheet.take 0)) [] 0:=⟨upd_same,Nat.le_refl _,same_new hd,hd,fun _ _=>rfl,(fun _ _ e=>by cases e),(fun _ _ _ e=>by cases e)⟩
    generalize upd H d (.dK []) = H1 at b0 ⊢
    refine ⟨⟨_,b0.same.seq hSl⟩,for_enum (K:=K) (a:=sr) (xs:=ys)
      (fun i σ H'=>∃ (kvs:List (Key × V)) (n:Nat) (v3 v4 v5 v6 v7:Option V),BdI H H' d (evs notes (sheet.take i)) kvs n∧n ≤ 100 * i∧(evs notes (sheet.take i)).length ≤ 100 * i∧σ = [some (.ref sr),some (.ref nr),some (.ref d),v3,v4,v5,v6,v7])
      ⟨[],0,none,none,none,none,none,b0,by lia,Nat.le_refl _,rfl⟩ (fun i σ H' _ h=>by obtain ⟨_,_,_,_,_,_,_,b,_⟩:=h; exact b.same.seq hSl) ?_ ?_⟩
    · rintro i x σ H' hx ⟨kvs,n,v3,v4,v5,v6,v7,bI,hn,hel,rfl⟩ Tz hTz
      obtain ⟨pc,epc,hpc⟩:=datvs_has hSd hx
      have hil:=(List.getElem?_eq_some_iff.mp epc).1
      have hpm:pc ∈ sheet:=List.mem_of_getElem? epc
      have etk:sheet.take (i + 1) = sheet.take i ++ [pc]:=by rw [List.take_add_one,epc]; rfl
      have etl:(sheet.take i).length = i:=by rw [List.length_take]; lia
      obtain ⟨tp,br,rs,rfl,hT,hR,hRd⟩:=dat_pie hpc
      have hrl:rs.length = pc.2.length:=by have:=hRd.length; rw [List.length_map] at this; exact this
      have hr100:=ok.rows pc hpm
      have s4:Same H' (upd H' Tz (.tup [.int (i:Nat),.ref tp])):=same_new hTz
      have hz4:upd H' Tz (.tup [.int (i:Nat),.ref tp]) Tz = some (.tup [.int (i:Nat),.ref tp]):=upd_same
      generalize upd H' Tz (.tup [.int (i:Nat),.ref tp]) = H4 at s4 hz4 ⊢
      have bI4:=bI.grow s4
      refine ⟨Tz,_,rfl,SqT.of hz4,rfl,_,_,rfl,_,_,rfl,rfl,?_⟩
      refine .inr ⟨_,_,bI4.same.seqT hT,rfl,?_⟩
      refine ⟨⟨_,bI4.same.seq hR⟩,for_enum (K:=K) (a:=br) (xs:=rs)
        (fun j σ H'=>∃ (kvs:List (Key × V)) (n:Nat) (v5 v6 v7:Option V),BdI H H' d (evs notes (sheet.take i) ++ evRow notes i (pc.2.take j)) kvs n∧n ≤ 100 * i + j∧(evs notes (sheet.take i) ++ evRow notes i (pc.2.take j)).length ≤ 100 * i + j∧σ = [some (.ref sr),some (.ref nr),some (.ref d),some (.int (i:Nat)),some (.ref tp),v5,v6,v7])
        ⟨kvs,n,v5,v6,v7,by rw [List.take_zero]; show BdI H H4 d (_ ++ []) kvs n; rw [List.append_nil]; exact bI4,by lia,by rw [List.take_zero]; show (_ ++ []).length ≤ _; rw [List.append_nil]; lia,rfl⟩ (fun j σ H' _ h=>by obtain ⟨_,_,_,_,_,b,_⟩:=h; exact b.same.seq hR) ?_ ?_⟩
      · clear kvs n v5 v6 v7 bI bI4 hn s4 hz4 hTz
        rintro j x σ H5 hx5 ⟨kvs,n,v5,v6,v7,bI,hn,hel2,rfl⟩ Ty hTy
        obtain ⟨rq,erq,hrq⟩:=datvs_has hRd hx5
        have hjl:=(List.getElem?_eq_some_iff.mp erq).1
        have hrm:rq ∈ pc.2:=List.mem_of_getElem? erq
        have rok:=ok.ok pc hpm rq hrm
        have ejk:pc.2.take (j + 1) = pc.2.take j ++ [rq]:=by rw [List.take_add_one,erq]; rfl
        have ejl:(pc.2.take j).length = j:=by rw [List.length_take]; lia
        have eev:evs notes (sheet.take i) ++ evRow notes i (pc.2.take (j + 1)) = (evs notes (sheet.take i) ++ evRow notes i (pc.2.take j)) ++ [((i,j),bndOf notes rq)]:=by rw [ejk,evRow_snoc,ejl,List.append_assoc]
        rw [eev]
        generalize evs notes (sheet.take i) ++ evRow notes i (pc.2.take j) = el at bI hel2 ⊢
        obtain ⟨tr,bp,pv,rfl,hRT,hPL,hPD⟩:=dat_row hrq
        have s6:Same H5 (upd H5 Ty (.tup [.int (j:Nat),.ref tr])):=same_new hTy
        have hz6:upd H5 Ty (.tup [.int (j:Nat),.ref tr]) Ty = some (.tup [.int (j:Nat),.ref tr]):=upd_same
        generalize upd H5 Ty (.tup [.int (j:Nat),.ref tr]) = H6 at s6 hz6 ⊢
        have bI6:=bI.grow s6
        have sm:=bI6.same
        refine ⟨Ty,_,rfl,SqT.of hz6,rfl,_,_,rfl,_,_,rfl,rfl,?_⟩
        have hnr:notes[rq.r]? = some (notes.getD rq.r (-1,-1)):=by rw [List.getD,List.getElem?_eq_getElem rok.r]; rfl
        obtain ⟨ny,eny,hny⟩:=datvs_at hNd hnr
        obtain ⟨tn,rfl,hnt⟩:=dat_note hny
        refine .inr ⟨_,_,sm.seqT hRT,rfl,?_⟩
        refine .inl ⟨_,_,sm.seq hNl,atI_nat eny,?_⟩
        refine .inr ⟨_,_,sm.seqT hnt,rfl,?_⟩
        show if decide ((0:Int) ≤ bPart notes rq) = true then _ else _
        refine ite2 (fun h=>?_) (fun h=>?_)
        · have hbp:0 ≤ bPart notes rq:=of_decide_eq_true h
          obtain ⟨pi,nm,epp,ebn⟩:=rok.bnd hbp
          rw [ebn]
          obtain ⟨py,epy,hpy⟩:=datvs_at hPD epp
          obtain ⟨tpp,rfl,hpt⟩:=dat_part hpy
          have eix:atI pv (bPart notes rq) = some (.ref tpp):=by
            rw [show bPart notes rq = (((bPart notes rq).toNat:Nat):Int) by lia]
            exact atI_nat epy
          have fin : ∀ (H7 : Hp) (kvs : List (Key × V)) (b : Addr) (ws : List V) (n : Nat), BdI H H7 d el kvs n → n ≤ 100 * i + j + 1 → valV kvs (Sum.inr (S nm)) = some (.ref b) → H7 b = some (.lst ws) → ∀ t7, H7 t7 = none →
              ∃ (kvs':List (Key × V)) (n':Nat) (v5 v6 v7:Option V),BdI H (upd (upd H7 t7 (.tup [.int (i:Nat),.int (j:Nat)])) b (.lst (ws ++ [.ref t7]))) d (el ++ [((i,j),some nm)]) kvs' n'∧n' ≤ 100 * i + (j + 1)∧(el ++ [((i,j),some nm)]).length ≤ 100 * i + (j + 1) ∧
                [some (V.ref sr),some (.ref nr),some (.ref d),some (.int (i:Nat)),some (.ref tp),some (.int (j:Nat)),some (.ref tr),some (.int (bPart notes rq))] = [some (.ref sr),some (.ref nr),some (.ref d),some (.int (i:Nat)),some (.ref tp),v5,v6,v7]:=fun H7 kvs b ws n b7 hn7 hv hws t7 ht7 =>
            ⟨kvs,n,_,_,_,(b7.grow (same_new ht7)).put hv (by rw [upd_ne fun z=>by rw [z,ht7] at hws; cases hws]; exact hws) upd_same,by lia,by rw [List.length_append]; show el.length + 1 ≤ _; lia,rfl⟩
          refine ⟨.inr (.inr (.inl ⟨rfl,.inl ⟨_,bI6.hd⟩⟩)),?_⟩
          refine .inr ⟨_,_,sm.seqT hRT,rfl,?_⟩
          refine .inl ⟨_,_,sm.seq hPL,eix,?_⟩
          refine .inr ⟨_,_,sm.seqT hpt,rfl,?_⟩
          refine ⟨(show 0 ≤ sizeLine by decide),fun b7 hb7=>?_⟩
          have s7:Same H6 (upd H6 b7 (.lst [])):=same_new hb7
          have hb7':upd H6 b7 (.lst []) b7 = some (.lst []):=upd_same
          have b70:H b7 = none:=by
            cases z:H b7 with
            | none=>rfl
            | some u=>rw [sm _ _ z] at hb7; cases hb7
          have hbf:∀ nm',valV kvs (Sum.inr (S nm')) ≠ some (.ref b7):=fun nm' z=>by
            obtain ⟨c,ws,h1,_,h3,_⟩:=bI6.yes nm' _ z
            cases h1
            rw [hb7] at h3
            cases h3
          generalize upd H6 b7 (.lst []) = H7 at s7 hb7' ⊢
          have bI7:=bI6.grow s7
          have hkl:=bI7.len
          refine ⟨kvs,Sum.inr (S nm),bI7.hd,rfl,by lia,fun v hv=>?_,fun hv=>?_⟩
          · obtain ⟨b,ws,rfl,_,hws,hpl⟩:=bI7.yes nm v hv
            refine ⟨.inl ⟨rfl,_,SqL.of hws⟩,(show 2 ≤ sizeLine by decide),fun t8 ht8=>?_⟩
            have n8:b ≠ t8:=fun z=>by rw [← z,hws] at ht8; cases ht8
            have hwl:=hpl.len
            have hwl2:=pl_len nm el
            refine ⟨ws,by rw [upd_ne n8]; exact hws,by lia,?_⟩
            exact fin H7 kvs b ws n bI7 (by lia) hv hws t8 ht8
          · have bI8:=bI7.new hv hb7' b70 hbf
            have hv8:valV (putK kvs (Sum.inr (S nm)) (.ref b7)) (Sum.inr (S nm)) = some (.ref b7):=by rw [valV_put,if_pos rfl]
            have hb8:upd H7 d (.dK (putK kvs (Sum.inr (S nm)) (.ref b7))) b7 = some (.lst []):=by rw [upd_ne fun z=>by rw [z,bI7.hd] at hb7'; cases hb7']; exact hb7'
            generalize upd H7 d (.dK (putK kvs (Sum.inr (S nm)) (.ref b7))) = H8 at bI8 hb8 ⊢
            refine ⟨.inl ⟨rfl,_,SqL.of hb8⟩,(show 2 ≤ sizeLine by decide),fun t8 ht8=>?_⟩
            have n8:b7 ≠ t8:=fun z=>by rw [← z,hb8] at ht8; cases ht8
            refine ⟨[],by rw [upd_ne n8]; exact hb8,(show 0 < sizeLine by decide),?_⟩
            exact fin H8 _ b7 [] (n + 1) bI8 (by lia) hv8 hb8 t8 ht8
        · have hbp:¬ 0 ≤ bPart notes rq:=fun z=>h (decide_eq_true z)
          rw [bnd_no hbp]
          exact ⟨kvs,n,_,_,_,bI6.none _,by lia,by rw [List.length_append]; show el.length + 1 ≤ _; lia,rfl⟩
      · rintro σ H5 ⟨kvs,n,v5,v6,v7,bI,hn,hel2,rfl⟩
        rw [hrl,List.take_length] at bI hel2
        refine ⟨kvs,n,_,_,_,_,_,?_,by lia,?_,rfl⟩
        · rw [etk,evs_snoc,etl]
          exact bI
        · rw [etk,evs_snoc,etl]
          lia
    · rintro σ H' ⟨kvs,n,v3,v4,v5,v6,v7,bI,hn,_,rfl⟩
      rw [hyl,List.take_length] at bI
      exact q H' d kvs n bI
end
end K75
namespace K75
open PySem PySem.Spec PyProof.Rows L2 Rg
theorem ifS_of {c : TT} {t1 t2 : TS} {D : Ends} {σ : L2.St} {H : Hp} (R : Bool → Hp → Prop) (h1 : ∀ H', R true H' → t1 D σ H') (h2 : ∀ H', R false H' → t2 D σ H')
    (hc:(∀ H',R true H'→t1 D σ H')→(∀ H',R false H'→t2 D σ H')→c σ H fun b H'=>if b = true then t1 D σ H' else t2 D σ H'):tIfS c t1 t2 D σ H:=hc h1 h2
noncomputable def placeDat (p:Nat × Nat):PyData:=.tuple [.int (p.1:Nat),.int (p.2:Nat)]
noncomputable def optDat:Option (Nat × Nat)→PyData
  | none=>.none
  | some p=>placeDat p
theorem last_take {ps:List (Nat × Nat)} {f:Nat × Nat→Bool} {k:Nat} {p:Nat × Nat} (e:ps[k]? = some p):((ps.take (k + 1)).filter f).getLast? = if f p = true then some p else ((ps.take k).filter f).getLast?:=by
  have et:ps.take (k + 1) = ps.take k ++ [p]:=by rw [List.take_add_one,e]; rfl
  rw [et,List.filter_append]
  by_cases h:f p = true
  · rw [if_pos h,List.filter_cons,if_pos h,List.getLast?_append]; rfl
  · rw [if_neg h,List.filter_cons,if_neg h]; simp
section
variable {P:Program} {w:World} {K:PySem.W.Frag} {mg:Str→Option Value} {base:Heap}
theorem sheet_at {H:Hp} {ys:List V} {sheet:List (Int × List Rw)} (hd:DatVs K H ys (sheet.map pieDat)) {i:Nat} (hi:i < sheet.length):∃ t b rs,ys[i]? = some (.ref t)∧SqT K H t [.int (hol sheet i),.ref b]∧SqL K H b rs∧DatVs K H rs ((sheet.getD i (-1,[])).2.map rowDat):=by
  have e:sheet[i]? = some (sheet.getD i (-1,[])):=by rw [List.getD,List.getElem?_eq_getElem hi]; rfl
  obtain ⟨y,ey,hy⟩:=datvs_at hd e
  obtain ⟨t,b,rs,rfl,h1,h2,h3⟩:=dat_pie hy
  exact ⟨t,b,rs,ey,h1,h2,h3⟩
inductive HdI (H:Hp) (d:Addr) (sheet:List (Int × List Rw)) (n:Nat) : Prop | mk (kvs : _) : (H d = some (.dK kvs)) → (∀ x:Int,(valV kvs (Sum.inl x)).isSome = decide (x = -1∨x ∈ chain sheet (hol sheet n))) → HdI H d sheet n
inductive spHold (K:PySem.W.Frag) (vs : List V) (H : Hp) (Q : VK) (_e : XK) : Prop | mk (sr:Addr) (n:Nat) (sheet:List (Int × List Rw)) : (vs = [.ref sr,.int (n:Nat)]) → (DatV K H (.ref sr) (.list (sheet.map pieDat))) → (n < sheet.length) → (sheet.length ≤ 100) → HolOk sheet → (∀ (H':Hp) (d:Addr),Same H H'→H d = none→HdI H' d sheet n→Q (.ref d) H') → spHold K vs H Q _e
noncomputable abbrev st_holders_of:Stmt:=top 2
theorem sc_holders_of:FnScope ["sheet","number","holder","holders"] ["sheet","number"] (defScope st_holders_of):=⟨rfl,rfl,rfl,by decide +kernel,rfl,by decide +kernel,by decide +kernel⟩
theorem def_hold (R:Raw K mg "holders_of" st_holders_of ["sheet","number"]) (T:Txt K w mg):Def P w K mg base 1 "holders_of" ["sheet","number"] (spHold K):=by
  refine R.defJ sc_holders_of (fun vs H Q E h=>?_) (fun f cdv A outer s H vs Q E hr h=>?_)
  · obtain ⟨sr,n,sheet,rfl,_⟩:=h
    rfl
  · obtain ⟨sr,n,sheet,rfl,hS,hn,hl,hk,q⟩:=h
    have sc:=sc_holders_of
    have hu:=hr.units
    have hb:=big
    obtain ⟨_,ys,e0,hSl,hSd⟩:=dat_list hS
    cases e0
    refine ⟨_,(jss_cons (js_set (i:=2) sc.nd rfl (Or.inl rfl) (j_ix (o_ix hu (K:=K) (w:=w)) (j_ix (o_ix hu (K:=K) (w:=w)) (jn 0) (jn 1)) j_int))
    (jss_cons (js_set (i:=3) sc.nd rfl (Or.inl rfl) (j_disp (jps_cons (j_neg j_int) j_bl jps_nil)))
    (jss_cons (js_while PassesOwn.never (jt_cmp o_ge (jn 2) j_int)
    (jss_cons (js_dput hu (jn 3) (jn 2) j_bl)
    (jss_one (js_set (i:=2) sc.nd rfl (Or.inl rfl) (j_ix (o_ix hu (K:=K) (w:=w)) (j_ix (o_ix hu (K:=K) (w:=w)) (jn 0) (jn 2)) j_int)))))
    (jss_one (js_ret (jn 3)))))),?_⟩
    obtain ⟨tp,br,rs,ey,hT,_,_⟩:=sheet_at hSd hn
    refine .inl ⟨_,_,hSl,atI_nat ey,?_⟩
    refine .inr ⟨_,_,hT,rfl,?_⟩
    have h0:=hk n hn
    refine fun d hd=>⟨upd_same,[(Sum.inl (-1),.bl true)],rfl,by decide,?_⟩
    have s1:Same H (upd (upd H d (.dK [])) d (.dK (mergeK [] [(Sum.inl (-1),V.bl true)]))):=fun b u e=>by
      have nb:b ≠ d:=fun z=>by rw [z,hd] at e; cases e
      rw [upd_ne nb,upd_ne nb]; exact e
    have h1:upd (upd H d (.dK [])) d (.dK (mergeK [] [(Sum.inl (-1),V.bl true)])) d = some (.dK (mergeK [] [(Sum.inl (-1),V.bl true)])):=upd_same
    generalize upd (upd H d (.dK [])) d (.dK (mergeK [] [(Sum.inl (-1),V.bl true)])) = H1 at s1 h1 ⊢
    refine ⟨fun m σ H' => ∃ (h : Int) (kvs : List (Key × V)), m = (h + 1).toNat ∧ -1 ≤ h ∧ h < (sheet.length : Int) ∧ Same H H' ∧ H' d = some (.dK kvs) ∧ kvs.length + (h + 1).toNat ≤ 200 ∧ (∀ x : Int, ((valV kvs (Sum.inl x)).isSome = true ∨ x ∈ chain sheet h) ↔ (x = -1 ∨ x ∈ chain sheet (hol sheet n))) ∧
        σ = [some (.ref sr),some (.int (n:Nat)),some (.int h),some (.ref d)],
      ⟨_,hol sheet n,_,rfl,h0.1,by lia,s1,h1,?_,fun x=>?_,rfl⟩,?_⟩
    · show 1 + (hol sheet n + 1).toNat ≤ 200
      lia
    · have ev:valV (mergeK [] [(Sum.inl (-1),V.bl true)]) (Sum.inl x) = if (Sum.inl x:Key) = Sum.inl (-1) then some (V.bl true) else none:=valV_put [] (Sum.inl (-1)) (Sum.inl x) (.bl true)
      rw [ev]
      by_cases hx:x = -1
      · rw [if_pos (by rw [hx])]; simp [hx]
      · rw [if_neg (fun z=>hx (Sum.inl.inj z))]; simp [hx]
    · rintro m σ H' ⟨h,kvs,rfl,hlo,hhi,sm,hd',hz,hx,rfl⟩
      show if decide ((0:Int) ≤ h) = true then _ else _
      refine ite2 (fun hc=>?_) (fun hc=>?_)
      · have h00:0 ≤ h:=of_decide_eq_true hc
        have h1:=hk h.toNat (by lia)
        obtain ⟨tp,br,rs,ey,hT,_,_⟩:=sheet_at hSd (show h.toNat < sheet.length by lia)
        refine ⟨fun σ' H2 => ∃ (kvs : List (Key × V)), Same H H2 ∧ H2 d = some (.dK kvs) ∧ kvs.length + (hol sheet h.toNat + 1).toNat ≤ 200 ∧ (∀ x : Int, ((valV kvs (Sum.inl x)).isSome = true ∨ x ∈ chain sheet (hol sheet h.toNat)) ↔ (x = -1 ∨ x ∈ chain sheet (hol sheet n))) ∧
            σ' = [some (.ref sr),some (.int (n:Nat)),some (.int (hol sheet h.toNat)),some (.ref d)],?_,?_⟩
        · rintro σ' H2 ⟨kvs',a1,a2,a3,a4,a5⟩
          exact ⟨_,by lia,_,kvs',rfl,by lia,by lia,a1,a2,a3,a4,a5⟩
        · refine ⟨_,DPut.ik hd' (by lia),?_⟩
          have s2:Same H (upd H' d (.dK (putK kvs (Sum.inl h) (.bl true)))):=fun b u e=>by
            rw [upd_ne fun z=>by rw [z,hd] at e; cases e]; exact sm b u e
          have e2:upd H' d (.dK (putK kvs (Sum.inl h) (.bl true))) d = some (.dK (putK kvs (Sum.inl h) (.bl true))):=upd_same
          generalize upd H' d (.dK (putK kvs (Sum.inl h) (.bl true))) = H2 at s2 e2 ⊢
          refine .inl ⟨_,_,s2.seq hSl,(show atI ys h = some (.ref tp) by rw [show h = ((h.toNat:Nat):Int) by lia]; exact atI_nat ey),?_⟩
          refine .inr ⟨_,_,s2.seqT hT,rfl,?_⟩
          refine ⟨_,s2,e2,?_,fun x=>?_,rfl⟩
          · have:=length_putK kvs (Sum.inl h) (.bl true); lia
          · rw [← hx x,chain_pos hk h00 hhi,valV_put]
            by_cases e:x = h
            · rw [if_pos (by rw [e])]; simp [e]
            · rw [if_neg (fun z=>e (Sum.inl.inj z))]; simp [e]
      · have h00:¬ 0 ≤ h:=fun z=>hc (decide_eq_true z)
        refine q H' d sm hd ⟨kvs,hd',fun x=>?_⟩
        have:=hx x
        rw [chain_neg sheet (show h < 0 by lia)] at this
        rw [Bool.eq_iff_iff,decide_eq_true_iff,← this]
        simp
inductive spSeen (K:PySem.W.Frag) (vs : List V) (H : Hp) (Q : VK) (_e : XK) : Prop | mk (sr pr hd:Addr) (n:Nat) (sheet:List (Int × List Rw)) (ws:List V) (ps:List (Nat × Nat)) : (vs = [.ref sr,.ref pr,.int (n:Nat),.ref hd]) → (DatV K H (.ref sr) (.list (sheet.map pieDat))) → SqL K H pr ws → PlV H ws ps → ((∀ p ∈ ps,p.1 < sheet.length)) → HdI H hd sheet n → (∀ (H':Hp) (v:V),Same H H'→DatV K H' v (optDat (ps.filter fun p=>decide (p.1 < n) && seesB sheet n p.1).getLast?)→Q v H') → spSeen K vs H Q _e
noncomputable abbrev st_last_seen:Stmt:=top 3
theorem sc_last_seen:FnScope ["sheet","places","number","holders","piece","row"] ["sheet","places","number","holders"] (defScope st_last_seen):=⟨rfl,rfl,rfl,by decide +kernel,rfl,by decide +kernel,by decide +kernel⟩
theorem def_seen (R:Raw K mg "last_seen" st_last_seen ["sheet","places","number","holders"]) (T:Txt K w mg):Def P w K mg base 1 "last_seen" ["sheet","places","number","holders"] (spSeen K):=by
  refine R.defJ sc_last_seen (fun vs H Q E h=>?_) (fun f cdv A outer s H vs Q E hr h=>?_)
  · obtain ⟨sr,pr,hd,n,sheet,ws,ps,rfl,_⟩:=h
    rfl
  · obtain ⟨sr,pr,hd,n,sheet,ws,ps,rfl,hS,hP,hV,hlt,⟨kvs,hdk,hdv⟩,q⟩:=h
    have sc:=sc_last_seen
    have hu:=hr.units
    have hb:=big
    obtain ⟨_,ys,e0,hSl,hSd⟩:=dat_list hS
    cases e0
    have hwl:=hV.len
    refine ⟨_,(jss_cons (js_for PassesOwn.never rfl (ji_rev (K:=K) rfl T.n_reversed (ja_cons (jn 1) ja_nil)) (jg_tup (K:=K) (n:=2) rfl (jgs_cons (jg_name (i:=4) sc.nd rfl (Or.inl rfl)) (jgs_cons (jg_name (i:=5) sc.nd rfl (Or.inl rfl)) jgs_nil)))
    (jss_one (js_if (jw_t (jw_and (jt_cmp o_lt (jn 4) (jn 2)) (jw_and1 (jt_cmp (o_inA hu (K:=K)) (j_ix (o_ix hu (K:=K) (w:=w)) (j_ix (o_ix hu (K:=K) (w:=w)) (jn 0) (jn 4)) j_int) (jn 3)))))
    (jss_one (js_ret (j_tup (ja_cons (jn 4) (ja_cons (jn 5) ja_nil)))))
    jss_nil)))
    (jss_one (js_ret j_non))),?_⟩
    generalize hf:(fun p:Nat × Nat=>decide (p.1 < n) && seesB sheet n p.1) = ff at q
    refine ⟨ws,hP,for_rev (K:=K) (a:=pr) (xs:=ws)
      (fun i σ H'=>H' = H∧(∃ v4 v5,σ = [some (.ref sr),some (.ref pr),some (.int (n:Nat)),some (.ref hd),v4,v5])∧(ps.filter ff).getLast? = ((ps.take (ps.length - i)).filter ff).getLast?)
      ⟨rfl,⟨none,none,rfl⟩,by rw [Nat.sub_zero,List.take_length]⟩ (fun i σ H' _ h=>by rw [h.1]; exact hP) ?_ ?_⟩
    · rintro i x σ H' hi hx ⟨rfl,⟨v4,v5,rfl⟩,hg⟩
      have hj:ws.length - 1 - i < ps.length:=by lia
      have ep:=List.getElem?_eq_getElem hj
      generalize ps[ws.length - 1 - i] = p at ep
      obtain ⟨t,et,ht⟩:=hV.at' _ p ep
      rw [hx] at et
      cases et
      have hpl:=hlt p (List.mem_of_getElem? ep)
      obtain ⟨tp,br,rs,ey,hT,_,_⟩:=sheet_at hSd hpl
      have hg2:(ps.filter ff).getLast? = if ff p = true then some p else ((ps.take (ps.length - (i + 1))).filter ff).getLast?:=by
        rw [hg,← last_take (f:=ff) (k:=ps.length - (i + 1)) (by rw [show ps.length - (i + 1) = ws.length - 1 - i by lia]; exact ep)]
        congr 3
        lia
      have hfp:ff p = (decide (p.1 < n) && seesB sheet n p.1):=by rw [← hf]
      refine ⟨t,_,rfl,SqT.of ht,rfl,_,_,rfl,_,_,rfl,rfl,?_⟩
      refine ifS_of (fun b H5=>H5 = H'∧b = ff p) ?_ ?_ ?_
      · intro H5' hH5
        obtain ⟨e5,hE⟩:=hH5
        rw [e5]
        clear e5 H5'
        rw [if_pos hE.symm] at hg2
        refine ⟨(show 2 ≤ sizeLine by decide),fun t5 ht5=>?_⟩
        refine q _ _ (same_new ht5) ?_
        rw [hg2]
        exact .tuple (SqT.of upd_same) (.cons (.int _) (.cons (.int _) .nil))
      · intro H5' hH5
        obtain ⟨e5,hE⟩:=hH5
        rw [e5]
        clear e5 H5'
        rw [if_neg (by rw [← hE]; exact Bool.false_ne_true)] at hg2
        exact ⟨rfl,⟨_,_,rfl⟩,hg2⟩
      · intro hT' hF
        show if decide (((p.1:Nat):Int) < ((n:Nat):Int)) = true then _ else _
        by_cases hpn:p.1 < n
        · rw [if_pos (decide_eq_true (by lia))]
          refine .inl ⟨_,_,hSl,atI_nat ey,?_⟩
          refine .inr ⟨_,_,hT,rfl,?_⟩
          refine .inr ⟨_,DGet.ik hdk rfl,?_⟩
          have ev:(valV kvs (Sum.inl (hol sheet p.1))).isSome = ff p:=by
            rw [hdv,hfp,decide_eq_true hpn,Bool.true_and]; rfl
          show if (false ^^ (valV kvs (Sum.inl (hol sheet p.1))).isSome) = true then _ else _
          rw [Bool.false_xor,ev]
          cases hfv:ff p with
          | true=>exact hT' _ ⟨rfl,hfv.symm⟩
          | false=>exact hF _ ⟨rfl,hfv.symm⟩
        · rw [if_neg (by rw [decide_eq_false (by lia)]; exact Bool.false_ne_true)]
          exact hF _ ⟨rfl,by rw [hfp,decide_eq_false hpn]; rfl⟩
    · rintro σ H' ⟨rfl,⟨v4,v5,rfl⟩,hg⟩
      rw [hwl,Nat.sub_self] at hg
      refine q _ _ (Same.refl _) ?_
      rw [hg]
      exact .none
end
end K75
namespace K75
open PySem PySem.Spec PyProof.Rows L2 Rg
theorem rem_le {cs:List Addr} {H H':Hp} (s:Same H H'):Same (rem cs H) (rem cs H'):=fun b u e=>by
  have nb:b ∉ cs:=fun m=>by rw [rem_in m] at e; cases e
  rw [rem_out nb] at e ⊢
  exact s b u e
theorem rem_same {cs:List Addr} {H:Hp}:Same (rem cs H) H:=fun b u e=>by
  have nb:b ∉ cs:=fun m=>by rw [rem_in m] at e; cases e
  rw [rem_out nb] at e
  exact e
theorem rem_upd_in {cs:List Addr} {H:Hp} {a:Addr} {o:HO} (h:a ∈ cs):rem cs (upd H a o) = rem cs H:=by
  funext b
  by_cases m:b ∈ cs
  · rw [rem_in m,rem_in m]
  · rw [rem_out m,rem_out m,upd_ne fun z=>m (by rw [z]; exact h)]
noncomputable def shL:Nat→List Nat
  | 0=>[119]
  | 1=>[119]
  | 2=>[110,119,110]
  | 3=>[119,110,119]
  | 4=>[119,119,110]
  | 5=>[110]
  | 6=>[119,110]
  | _=>[119,119,119]
noncomputable abbrev shVs:List V:=[.str "w",.str "w",.str "nwn",.str "wnw",.str "wwn",.str "n",.str "wn",.str "www"]
theorem sh_at:∀ {k:Nat},k < 8→atI shVs (k:Int) = some (.str (S (shL k)))
  | 0,_=>rfl
  | 1,_=>rfl
  | 2,_=>rfl
  | 3,_=>rfl
  | 4,_=>rfl
  | 5,_=>rfl
  | 6,_=>rfl
  | 7,_=>rfl
  | k + 8,h=>by lia
theorem sh_len (k:Nat):1 ≤ (shL k).length∧(shL k).length ≤ 3:=by unfold shL; split <;> decide
theorem one_w (c:Nat):decide ((⟨#[c]⟩:Str) = ("w":Str)) = decide (c = 119):=by
  by_cases h:c = 119
  · subst h; rw [decide_eq_true (show (⟨#[119]⟩:Str) = ("w":Str) from rfl),decide_eq_true rfl]
  · have h':¬ (⟨#[c]⟩:Str) = ("w":Str):=fun z=>h (by have:=S_inj (a:=[c]) (b:=[119]) z; simpa using this)
    rw [decide_eq_false h,decide_eq_false h']
theorem one_n (c:Nat):decide ((⟨#[c]⟩:Str) = ("n":Str)) = decide (c = 110):=by
  by_cases h:c = 110
  · subst h; rw [decide_eq_true (show (⟨#[110]⟩:Str) = ("n":Str) from rfl),decide_eq_true rfl]
  · have h':¬ (⟨#[c]⟩:Str) = ("n":Str):=fun z=>h (by have:=S_inj (a:=[c]) (b:=[110]) z; simpa using this)
    rw [decide_eq_false h,decide_eq_false h']
noncomputable def ntOk (k:Nat) (b:Int):Prop:=b = -1∨∃ j:Nat,b = (j:Int)∧(shL k)[j]? = some 119
structure NtOk (notes:List (Int × Int)):Prop where
  len:notes.length = 8
  ok:∀ k n,notes[k]? = some n→ntOk k n.2
  ok1:∀ k n,notes[k]? = some n→ntOk k n.1
theorem nats_dat {K:PySem.W.Frag} {H:Hp}:∀ ks:List Nat,DatVs K H (ks.map fun k=>V.int (k:Nat)) (ks.map fun k=>PyData.int (k:Nat))
  | []=>.nil
  | k :: r=>.cons (.int _) (nats_dat r)
theorem nats_lay:∀ ks:List Nat,PyData.canLayAll0 (ks.map fun k=>PyData.int (k:Nat)) = true
  | []=>by simp only [List.map_nil,PyData.canLayAll0]
  | k :: r=>by rw [List.map_cons]; simp only [PyData.canLayAll0,PyData.canLay0,nats_lay r,Bool.and_self]
noncomputable def wAt (k t:Nat):List Nat:=(List.range t).filter fun j=>decide ((shL k)[j]? = some 119)
theorem wAt_succ (k t:Nat):wAt k (t + 1) = if (shL k)[t]? = some 119 then wAt k t ++ [t] else wAt k t:=by
  unfold wAt
  rw [List.range_succ,List.filter_append]
  by_cases h:(shL k)[t]? = some 119
  · rw [if_pos h]; simp [h]
  · rw [if_neg h]; simp [h]
theorem wAt_len (k t:Nat):(wAt k t).length ≤ t:=by
  unfold wAt
  have:=List.length_filter_le (fun j=>decide ((shL k)[j]? = some 119)) (List.range t)
  rw [List.length_range] at this
  exact this
theorem wAt_ok (k t:Nat):∀ j ∈ wAt k t,(shL k)[j]? = some 119:=fun j hj=>by
  unfold wAt at hj
  simpa using (List.mem_filter.mp hj).2
theorem pick_at {l:List Nat} (h:l ≠ []) (x:Int):∃ j ∈ l,atI (l.map fun k=>V.int (k:Nat)) (x % ((l.map fun k=>V.int (k:Nat)).length:Int)) = some (.int (j:Nat)):=by
  rw [List.length_map]
  have h0:0 < l.length:=List.length_pos_iff.mpr h
  have h1:=Int.emod_nonneg x (show (l.length:Int) ≠ 0 by lia)
  have h2:=Int.emod_lt_of_pos x (show 0 < (l.length:Int) by lia)
  have h3:(x % (l.length:Int)).toNat < l.length:=by lia
  have e:=List.getElem?_eq_getElem h3
  have hm:=List.getElem_mem h3
  generalize l[(x % (l.length:Int)).toNat] = v at e hm
  refine ⟨v,hm,?_⟩
  have key:atI (l.map fun k=>V.int (k:Nat)) (((x % (l.length:Int)).toNat:Nat):Int) = some (.int (v:Nat)):=atI_nat (by rw [List.getElem?_map,e]; rfl)
  rw [show (((x % (l.length:Int)).toNat:Nat):Int) = x % (l.length:Int) by lia] at key
  exact key
section
variable {P:Program} {w:World} {K:PySem.W.Frag} {mg:Str→Option Value} {base:Heap}
inductive spNotes (K:PySem.W.Frag) (vs : List V) (H : Hp) (Q : VK) (_e : XK) : Prop | mk (c:Int) : (vs = [.int c]) → (∀ (H':Hp) (p:Addr) (ys:List V) (notes:List (Int × Int)),Same H H'→H' p = some (.lst ys)→DatVs K H' ys (notes.map noteDat)→NtOk notes→Q (.ref p) H') → spNotes K vs H Q _e
noncomputable abbrev st__law_notes:Stmt:=top 9
theorem sc__law_notes:FnScope ["_law_cell","_law_notes_here","_law_k","_law_shape","_law_spots","_law_number","_law_asked","_law_bound"] ["_law_cell"] (defScope st__law_notes):=⟨rfl,rfl,rfl,by decide +kernel,rfl,by decide +kernel,by decide +kernel⟩
theorem def_notes (R:Raw K mg "_law_notes" st__law_notes ["_law_cell"]) (T:Txt K w mg):Def P w K mg base 1 "_law_notes" ["_law_cell"] (spNotes K):=by
  refine R.defJ sc__law_notes (fun vs H Q E h=>?_) (fun f cdv A outer s H vs Q E hr h=>?_)
  · obtain ⟨c,rfl,_⟩:=h
    rfl
  · obtain ⟨c,rfl,q⟩:=h
    have sc:=sc__law_notes
    have hu:=hr.units
    have hb:=big
    refine ⟨_,(jss_cons (js_set (i:=1) sc.nd rfl (Or.inl rfl) (j_lst ja_nil))
    (jss_cons (js_for PassesOwn.never rfl (ji_rng1 rfl T.n_range (ja_cons j_int ja_nil)) (jg_name (i:=2) sc.nd rfl (Or.inl rfl))
    (jss_cons (js_set (i:=3) sc.nd rfl (Or.inr rfl) (j_ix (o_ix hu (K:=K) (w:=w)) (j_lst (ja_cons j_str (ja_cons j_str (ja_cons j_str (ja_cons j_str (ja_cons j_str (ja_cons j_str (ja_cons j_str (ja_cons j_str ja_nil))))))))) (jn 2)))
    (jss_cons (js_comp (i:=4) (N:=["_law_j","_law_shape"]) (cap:=[none,some 3]) rfl (CompScope.of rfl (by rfl)) (ji_rng1 rfl T.n_range (ja_cons (j_callB (c_len (K:=K)) rfl T.n_len PySem.boot_len (ja_cons (jn 3) ja_nil)) ja_nil)) (fun _ _ _ _=>(jg_name (i:=0) (show List.Nodup [("_law_j":Str),("_law_shape":Str)] by decide +kernel) rfl (Or.inl rfl))) (fun _ _ _ _=>(jts_one (jt_cmp (o_eq hu (K:=K)) (j_ix (o_ix hu (K:=K) (w:=w)) (jn 1) (jn 0)) j_str))) (fun _ _ _ _=>(jn 0)) sc.nd rfl rfl)
    (jss_cons (js_set (i:=5) sc.nd rfl (Or.inl rfl) (j_op o_mod (j_op o_mul (j_op o_mod (jn 0) j_int) (j_op (o_add (K:=K)) (j_op o_mul (jn 2) (jn 2)) j_int)) j_int))
    (jss_cons (js_set (i:=6) sc.nd rfl (Or.inl rfl) (j_neg j_int))
    (jss_cons (js_set (i:=7) sc.nd rfl (Or.inl rfl) (j_neg j_int))
    (jss_cons (js_if (jw_t (jw_and (jt_cmp (o_ne hu (K:=K)) (jn 4) (j_lst ja_nil)) (jw_and1 (jt_cmp o_gt (j_op o_mod (jn 5) j_int) j_int))))
    (jss_one (js_set (i:=6) sc.nd rfl (Or.inl rfl) (j_ix (o_ix hu (K:=K) (w:=w)) (jn 4) (j_op o_mod (j_op o_div (jn 5) j_int) (j_callB (c_len (K:=K)) rfl T.n_len PySem.boot_len (ja_cons (jn 4) ja_nil))))))
    jss_nil)
    (jss_cons (js_if (jw_t (jw_and (jt_cmp (o_ne hu (K:=K)) (jn 4) (j_lst ja_nil)) (jw_and1 (jt_cmp o_gt (j_op o_mod (j_op o_div (jn 5) j_int) j_int) j_int))))
    (jss_one (js_set (i:=7) sc.nd rfl (Or.inl rfl) (j_ix (o_ix hu (K:=K) (w:=w)) (jn 4) (j_op o_mod (j_op o_div (jn 5) j_int) (j_callB (c_len (K:=K)) rfl T.n_len PySem.boot_len (ja_cons (jn 4) ja_nil))))))
    jss_nil)
    (jss_one (js_expr (j_bm (K:=K) PySem.F.plainAttrs_list PySem.F.slot_list_append PySem.F.type_list_append m_append (jn 1) (ja_cons (j_tup (ja_cons (jn 6) (ja_cons (jn 7) ja_nil))) ja_nil))))))))))))
    (jss_one (js_ret (jn 1))))),?_⟩
    refine ⟨(show 0 ≤ sizeLine by decide),fun p hp=>?_⟩
    have s1:Same H (upd H p (.lst [])):=same_new hp
    have h1:upd H p (.lst []) p = some (.lst []):=upd_same
    generalize upd H p (.lst []) = H1 at s1 h1 ⊢
    refine ⟨by decide,by decide,?_⟩
    refine for_range (n:=8) (fun i σ H'=>∃ (ys:List V) (notes:List (Int × Int)) (v2 v3 v4 v5 v6 v7:Option V),Same H H'∧H' p = some (.lst ys)∧DatVs K (rem [p] H') ys (notes.map noteDat)∧notes.length = i∧(∀ k n,notes[k]? = some n→ntOk k n.2∧ntOk k n.1)∧σ = [some (.int c),some (.ref p),v2,v3,v4,v5,v6,v7])
      ⟨[],[],none,none,none,none,none,none,s1,h1,.nil,rfl,(fun k n e=>by cases e),rfl⟩ ?_ ?_
    · rintro i σ H' hi ⟨ys,notes,v2,v3,v4,v5,v6,v7,sm,hys,hD,hnl,hok,rfl⟩
      have hyl:ys.length = i:=by have:=hD.length; rw [List.length_map] at this; lia
      refine ⟨(show 8 ≤ sizeLine by decide),fun p2 hp2=>?_⟩
      have s2:Same H' (upd H' p2 (.lst shVs)):=same_new hp2
      have h2:upd H' p2 (.lst shVs) p2 = some (.lst shVs):=upd_same
      generalize upd H' p2 (.lst shVs) = H2 at s2 h2 ⊢
      refine .inl ⟨_,_,SqL.of h2,by rw [Int.zero_add]; exact sh_at hi,?_⟩
      have hsl:=sh_len i
      have hSl:(S (shL i)).length = (shL i).length:=S_len _
      refine ⟨by rw [hSl]; lia,by rw [hSl]; lia,by rw [hSl]; lia,?_⟩
      refine gath_range (n:=(((S (shL i)).length:Nat):Int).toNat) (fun t zs σ' H''=>H'' = H2∧zs = (wAt i t).map (fun j=>V.int (j:Nat))∧∃ v,σ' = [v,some (.str (S (shL i)))]) (by rw [hSl]; lia) ⟨rfl,rfl,_,rfl⟩
        (fun t zs σ' H'' h=>by rw [h.2.1,List.length_map]; exact wAt_len i t) ?_ ?_
      · rintro t zs σ' H'' ht ⟨rfl,rfl,v,rfl⟩
        have ht':t < (shL i).length:=by rw [hSl] at ht; lia
        refine ⟨by rw [hSl]; lia,(shL i)[t],by rw [Int.zero_add]; exact atI_nat (List.getElem?_eq_getElem ht'),?_⟩
        show if (false ^^ decide ((⟨#[(shL i)[t]]⟩:Str) = ("w":Str))) = true then _ else _
        rw [Bool.false_xor,one_w]
        refine ite2 (fun h=>?_) (fun h=>?_)
        · have h':(shL i)[t]? = some 119:=by rw [List.getElem?_eq_getElem ht',of_decide_eq_true h]
          refine ⟨rfl,?_,_,rfl⟩
          rw [wAt_succ,if_pos h',List.map_append,Int.zero_add]
          rfl
        · have h':¬ (shL i)[t]? = some 119:=by rw [List.getElem?_eq_getElem ht']; exact fun z=>h (decide_eq_true (Option.some.inj z))
          refine ⟨rfl,?_,_,rfl⟩
          rw [wAt_succ,if_neg h']
      rintro zs σ' H'' ⟨rfl,rfl,v,rfl⟩ sp hsp
      rw [hSl,Int.toNat_natCast]
      have hwo:=wAt_ok i (shL i).length
      generalize wAt i (shL i).length = l at hwo ⊢
      have s3:Same H'' (upd H'' sp (.lst (l.map fun j=>V.int (j:Nat)))):=same_new hsp
      have h3:upd H'' sp (.lst (l.map fun j=>V.int (j:Nat))) sp = some (.lst (l.map fun j=>V.int (j:Nat))):=upd_same
      generalize upd H'' sp (.lst (l.map fun j=>V.int (j:Nat))) = H3 at s3 h3 ⊢
      have s03:=s2.trans s3
      refine ⟨by decide,.inl ⟨by lia,by lia⟩,.inl ⟨by lia,by lia⟩,by decide,?_⟩
      generalize c % 2147483647 * ((0 + (i:Int)) * (0 + (i:Int)) + 48271) % 1000003 = nu
      have hp3:=s03 _ _ hys
      have leaf : ∀ (a b : Int) (H5 : Hp) (t : Addr), Same H3 H5 → H5 t = none → ntOk i b → ntOk i a → ∃ (ys' : List V) (notes' : List (Int × Int)) (v2 v3 v4 v5 v6 v7 : Option V), Same H (upd (upd H5 t (.tup [.int a, .int b])) p (.lst (ys ++ [.ref t]))) ∧ (upd (upd H5 t (.tup [.int a, .int b])) p (.lst (ys ++ [.ref t]))) p = some (.lst ys') ∧
          DatVs K (rem [p] (upd (upd H5 t (.tup [.int a,.int b])) p (.lst (ys ++ [.ref t])))) ys' (notes'.map noteDat)∧notes'.length = i + 1∧(∀ k n,notes'[k]? = some n→ntOk k n.2∧ntOk k n.1) ∧
          [some (V.int c),some (.ref p),some (.int (0 + (i:Nat))),some (.str (S (shL i))),some (.ref sp),some (.int nu),some (.int a),some (.int b)] = [some (.int c),some (.ref p),v2,v3,v4,v5,v6,v7]:=by
        intro a b H5 t s5 ht hb' ha'
        have np:t ≠ p:=fun z=>by rw [z,s5 _ _ hp3] at ht; cases ht
        have s6:Same H5 (upd H5 t (.tup [.int a,.int b])):=same_new ht
        have h6:upd H5 t (.tup [.int a,.int b]) t = some (.tup [.int a,.int b]):=upd_same
        generalize upd H5 t (.tup [.int a,.int b]) = H6 at s6 h6 ⊢
        refine ⟨ys ++ [.ref t],notes ++ [(a,b)],_,_,_,_,_,_,fun d u e=>?_,upd_same,?_,by rw [List.length_append,hnl]; rfl,fun k n e=>?_,rfl⟩
        · rw [upd_ne fun z=>by rw [z,hp] at e; cases e]; exact s6 _ _ (s5 _ _ (s03 _ _ (sm d u e)))
        · rw [rem_upd_in List.mem_cons_self,List.map_append]
          refine DatVs.snoc (.tuple (SqT.of ?_) (.cons (.int _) (.cons (.int _) .nil))) (hD.same (rem_le ((s03.trans s5).trans s6)))
          rw [rem_out (by simpa using np)]; exact h6
        · by_cases hk:k < notes.length
          · rw [List.getElem?_append_left hk] at e; exact hok k n e
          · have hl:=(List.getElem?_eq_some_iff.mp e).1
            have ek:k = notes.length:=by simp at hl; lia
            subst ek
            rw [List.getElem?_append_right (Nat.le_refl _),Nat.sub_self] at e
            cases e
            rw [hnl]
            exact ⟨hb',ha'⟩
      have lay1:(PyData.list (l.map fun j=>PyData.int (j:Nat))).canLay0 = true:=by simp only [PyData.canLay0]; exact nats_lay l
      have lay2:(PyData.list []).canLay0 = true:=by simp only [PyData.canLay0,PyData.canLayAll0]
      have dep:min (PyData.list (l.map fun j=>PyData.int (j:Nat))).depth (PyData.list []).depth ≤ 60:=by
        have:(PyData.list []).depth ≤ 60:=by simp only [PyData.depth,PyData.depthAll]; lia
        lia
      have hem:l ≠ []→(true ^^ (l.map fun j=>PyData.int (j:Nat)).isEmpty) = true:=fun h=>by cases l with | nil=>exact absurd rfl h | cons a r=>rfl
      have hem0:l = []→(true ^^ (l.map fun j=>PyData.int (j:Nat)).isEmpty) = false:=fun h=>by rw [h]; rfl
      dsimp only [gName,tSeq,tAsg,mNeg,tC]
      refine ifS_of (fun b H5=>Same H3 H5∧(b = true→l ≠ [])) ?t1 ?f1 ?c1
      case c1 =>
        intro hT hF
        refine ⟨(show 0 ≤ sizeLine by decide),fun p5 hp5=>?_⟩
        have s5:Same H3 (upd H3 p5 (.lst [])):=same_new hp5
        refine ⟨.list (l.map fun j=>PyData.int (j:Nat)),.list [],.list (SqL.of (s5 _ _ h3)) (nats_dat l),.list (SqL.of upd_same) .nil,lay1,lay2,dep,?_⟩
        rw [eqv_nil]
        by_cases hn:l = []
        · rw [hem0 hn]
          exact hF _ ⟨s5,(fun z=>nomatch z)⟩
        · rw [hem hn]
          refine ⟨by decide,?_⟩
          show if decide ((0:Int) < nu % 3) = true then _ else _
          refine ite2 (fun h=>?_) (fun h=>?_)
          · exact hT _ ⟨s5,fun _=>hn⟩
          · exact hF _ ⟨s5,fun _=>hn⟩
      case' t1 =>
        intro H5 hh
        obtain ⟨s5,hne⟩:=hh
        obtain ⟨j1,hj1,ej1⟩:=pick_at (hne rfl) (nu / 3)
        have ha':ntOk i ((j1:Nat):Int):=.inr ⟨j1,rfl,hwo j1 hj1⟩
        refine ⟨⟨by decide,by decide⟩,_,.inl (SqL.of (s5 _ _ h3)),by have:=List.length_pos_iff.mpr (hne rfl); rw [List.length_map]; lia,.inl ⟨_,_,SqL.of (s5 _ _ h3),ej1,?_⟩⟩
      case' f1 =>
        intro H5 hh
        obtain ⟨s5,hne⟩:=hh
        have ha':ntOk i (-1):=.inl rfl
      all_goals
        try dsimp only [gName,tNext,tSeq]
        refine ifS_of (fun b H6=>Same H3 H6∧(b = true→l ≠ [])) ?_ ?_ ?_
        rotate_left 2
        · skip
          intro hT hF
          refine ⟨(show 0 ≤ sizeLine by decide),fun p5 hp5=>?_⟩
          have s6:Same H5 (upd H5 p5 (.lst [])):=same_new hp5
          refine ⟨.list (l.map fun j=>PyData.int (j:Nat)),.list [],.list (SqL.of (s6 _ _ (s5 _ _ h3))) (nats_dat l),.list (SqL.of upd_same) .nil,lay1,lay2,dep,?_⟩
          rw [eqv_nil]
          by_cases hn:l = []
          · rw [hem0 hn]
            exact hF _ ⟨s5.trans s6,(fun z=>nomatch z)⟩
          · rw [hem hn]
            refine ⟨⟨by decide,by decide⟩,by decide,?_⟩
            show if decide ((0:Int) < nu / 9 % 3) = true then _ else _
            refine ite2 (fun h=>?_) (fun h=>?_)
            · exact hT _ ⟨s5.trans s6,fun _=>hn⟩
            · exact hF _ ⟨s5.trans s6,fun _=>hn⟩
        · intro H6 hh
          obtain ⟨s6,hne2⟩:=hh
          obtain ⟨j2,hj2,ej2⟩:=pick_at (hne2 rfl) (nu / 27)
          refine ⟨⟨by decide,by decide⟩,_,.inl (SqL.of (s6 _ _ h3)),by have:=List.length_pos_iff.mpr (hne2 rfl); rw [List.length_map]; lia,.inl ⟨_,_,SqL.of (s6 _ _ h3),ej2,?_⟩⟩
          have hb':ntOk i ((j2:Nat):Int):=.inr ⟨j2,rfl,hwo j2 hj2⟩
          refine ⟨.inl ⟨rfl,_,SqL.of (s6 _ _ hp3)⟩,(show 2 ≤ sizeLine by decide),fun t ht=>?_⟩
          have np:p ≠ t:=fun z=>by rw [← z,s6 _ _ hp3] at ht; cases ht
          refine ⟨ys,by rw [upd_ne np]; exact s6 _ _ hp3,by lia,?_⟩
          exact leaf _ _ H6 t s6 ht hb' ha'
        · intro H6 hh
          obtain ⟨s6,hne2⟩:=hh
          have hb':ntOk i (-1):=.inl rfl
          refine ⟨.inl ⟨rfl,_,SqL.of (s6 _ _ hp3)⟩,(show 2 ≤ sizeLine by decide),fun t ht=>?_⟩
          have np:p ≠ t:=fun z=>by rw [← z,s6 _ _ hp3] at ht; cases ht
          refine ⟨ys,by rw [upd_ne np]; exact s6 _ _ hp3,by lia,?_⟩
          exact leaf _ _ H6 t s6 ht hb' ha'
    · rintro σ H' ⟨ys,notes,v2,v3,v4,v5,v6,v7,sm,hys,hD,hnl,hok,rfl⟩
      exact q H' p ys notes sm hys (hD.same rem_same) ⟨hnl,fun k n e=>(hok k n e).1,fun k n e=>(hok k n e).2⟩
end
end K75
namespace Rg
noncomputable def mks (sheet:List (Int × List Rw)):List Int:=sheet.flatMap fun p=>p.2.map Rw.m
noncomputable def cntR (m:Int) (rows:List Rw):Nat:=(rows.map Rw.m).count m
noncomputable def cntS (m:Int) (sheet:List (Int × List Rw)):Nat:=(mks sheet).count m
theorem mks_app (s t:List (Int × List Rw)):mks (s ++ t) = mks s ++ mks t:=List.flatMap_append
theorem mks_cons (p:Int × List Rw) (t:List (Int × List Rw)):mks (p :: t) = p.2.map Rw.m ++ mks t:=List.flatMap_cons
theorem mks_one (p:Int × List Rw):mks [p] = p.2.map Rw.m:=by rw [mks_cons]; exact List.append_nil _
theorem cnt_cons (m:Int) (p:Int × List Rw) (t:List (Int × List Rw)):cntS m (p :: t) = cntR m p.2 + cntS m t:=by unfold cntS cntR; rw [mks_cons,List.count_append]
theorem cnt_app (m:Int) (s t:List (Int × List Rw)):cntS m (s ++ t) = cntS m s + cntS m t:=by unfold cntS; rw [mks_app,List.count_append]
theorem cnt_one (m:Int) (p:Int × List Rw):cntS m [p] = cntR m p.2:=by unfold cntS cntR; rw [mks_one]
theorem cnt_set (m:Int) (p:Int × List Rw):∀ {sheet:List (Int × List Rw)} {i:Nat} {p0:Int × List Rw},sheet[i]? = some p0→cntS m (sheet.set i p) + cntR m p0.2 = cntS m sheet + cntR m p.2
  | [],_,_,e=>by simp at e
  | q :: t,0,p0,e=>by
    cases e
    show cntS m (p :: t) + _ = _
    rw [cnt_cons,cnt_cons]; lia
  | q :: t,i + 1,p0,e=>by
    show cntS m (q :: t.set i p) + _ = _
    have:=cnt_set m p (sheet:=t) (i:=i) (p0:=p0) (by simpa using e)
    rw [cnt_cons,cnt_cons]; lia
theorem cnt_take (m:Int) (sheet:List (Int × List Rw)) (n:Nat):cntS m (sheet.take n) ≤ cntS m sheet:=by
  have:=cnt_app m (sheet.take n) (sheet.drop n)
  rw [List.take_append_drop] at this
  lia
structure EdL (sheet:List (Int × List Rw)) (rows:List Rw) (sheet':List (Int × List Rw)):Prop where
  len:sheet'.length ≤ sheet.length + 1
  cnt:∀ m,cntS m sheet' ≤ cntS m sheet + cntR m rows
theorem EdL.put {sheet:List (Int × List Rw)} {rows:List Rw} {i:Nat} {p0 p:Int × List Rw} (e:sheet[i]? = some p0) (h:∀ m,cntR m p.2 ≤ cntR m p0.2 + cntR m rows):EdL sheet rows (sheet.set i p) :=
  ⟨by rw [List.length_set]; lia,fun m=>by have:=cnt_set m p e; have:=h m; lia⟩
theorem EdL.swap {sheet:List (Int × List Rw)} {rows:List Rw} {i j:Nat} {p q p' q' x:Int × List Rw} (e:sheet[i]? = some p) (f:sheet[j]? = some q) (hp:p'.2 = q.2) (hq:q'.2 = p.2) (g:(sheet.set i p')[j]? = some x):EdL sheet rows ((sheet.set i p').set j q'):=by
  refine ⟨by rw [List.length_set,List.length_set]; lia,fun m=>?_⟩
  have h1:=cnt_set m p' e
  have h2:=cnt_set m q' g
  rw [hp] at h1
  rw [hq] at h2
  have hx:x.2 = q.2:=by
    by_cases z:i = j
    · subst z
      rw [List.getElem?_set_self (List.getElem?_eq_some_iff.mp e).1] at g
      cases g; exact hp
    · rw [List.getElem?_set_ne z,f] at g
      cases g; rfl
  rw [hx] at h2
  lia
theorem EdL.app {sheet:List (Int × List Rw)} {rows:List Rw} (h:Int):EdL sheet rows (sheet ++ [(h,rows)]) :=
  ⟨by rw [List.length_append]; exact Nat.le_refl _,fun m=>by rw [cnt_app,cnt_one]; exact Nat.le_refl _⟩
theorem EdL.cut {sheet:List (Int × List Rw)} {rows:List Rw} (n:Nat):EdL sheet rows (sheet.take n) :=
  ⟨by rw [List.length_take]; lia,fun m=>by have:=cnt_take m sheet n; lia⟩
theorem cntR_map (m:Int) {f:Rw→Rw} (h:∀ q,(f q).m = q.m) (rows:List Rw):cntR m (rows.map f) = cntR m rows:=by
  unfold cntR
  rw [List.map_map,show Rw.m ∘ f = Rw.m from funext h]
structure MkR (lo hi:Int) (ms:List Int):Prop where
  in':∀ m ∈ ms,lo ≤ m∧m < hi
  nd:ms.Nodup
theorem MkR.nil {lo hi:Int}:MkR lo hi []:=⟨fun m hm=>(by cases hm),List.nodup_nil⟩
theorem MkR.mono {lo hi lo' hi':Int} {ms:List Int} (h:MkR lo hi ms) (h1:lo' ≤ lo) (h2:hi ≤ hi'):MkR lo' hi' ms:=⟨fun m hm=>by have:=h.in' m hm; lia,h.nd⟩
theorem MkR.app {lo hi hi':Int} {ms ns:List Int} (h:MkR lo hi ms) (k:MkR hi hi' ns) (h1:lo ≤ hi) (h2:hi ≤ hi'):MkR lo hi' (ms ++ ns):=by
  refine ⟨fun m hm=>?_,List.nodup_append.mpr ⟨h.nd,k.nd,fun a ha b hb e=>?_⟩⟩
  · rcases List.mem_append.mp hm with z | z
    · have:=h.in' m z; lia
    · have:=k.in' m z; lia
  · have:=h.in' a ha
    have:=k.in' b hb
    lia
theorem EdL.mrk {lo hi lo2 hi2:Int} {sheet sheet':List (Int × List Rw)} {rows:List Rw} (h:EdL sheet rows sheet') (a:MkR lo hi (mks sheet)) (b:MkR lo2 hi2 (rows.map Rw.m)) (h1:lo ≤ lo2) (h2:hi ≤ lo2) (h3:hi ≤ hi2):MkR lo hi2 (mks sheet'):=by
  refine ⟨fun m hm=>?_,List.nodup_iff_count.mpr fun m=>?_⟩
  · have c1:0 < cntS m sheet':=List.count_pos_iff.mpr hm
    have c2:=h.cnt m
    by_cases z:m ∈ mks sheet
    · have:=a.in' m z; lia
    · have c3:cntS m sheet = 0:=List.count_eq_zero.mpr z
      have c4:0 < cntR m rows:=by lia
      have:=b.in' m (List.count_pos_iff.mp c4)
      lia
  · have c2:=h.cnt m
    have c3:cntS m sheet ≤ 1:=List.nodup_iff_count.mp a.nd m
    have c4:cntR m rows ≤ 1:=List.nodup_iff_count.mp b.nd m
    show cntS m sheet' ≤ 1
    by_cases z:m ∈ mks sheet
    · have c5 : cntR m rows = 0 := List.count_eq_zero.mpr fun y => by
        have:=a.in' m z
        have:=b.in' m y
        lia
      lia
    · have c5:cntS m sheet = 0:=List.count_eq_zero.mpr z
      lia
theorem MkR.take {lo hi:Int} {sheet:List (Int × List Rw)} (h:MkR lo hi (mks sheet)) (n:Nat):MkR lo hi (mks (sheet.take n)):=by
  have e:mks (sheet.take n) ++ mks (sheet.drop n) = mks sheet:=by rw [← mks_app,List.take_append_drop]
  rw [← e] at h
  exact ⟨fun m hm=>h.in' m (List.mem_append_left _ hm),(List.nodup_append.mp h.nd).1⟩
structure MkI (fi st mk:Int) (rows:List Rw):Prop where
  r:MkR fi mk (rows.map Rw.m)
  lo:fi ≤ mk
  hi:mk ≤ fi + ((4 * rows.length:Nat):Int) * st
theorem MkI.snoc {fi st mk:Int} {rows:List Rw} (h:MkI fi st mk rows) (hst:0 < st) {x:Rw} (h1:mk ≤ x.m) (h2:x.m ≤ mk + 3 * st):MkI fi st (x.m + st) (rows ++ [x]):=by
  have hl:=h.lo
  have hh:=h.hi
  refine ⟨?_,by lia,?_⟩
  · rw [List.map_append]
    exact h.r.app (hi':=x.m + st) ⟨fun m hm=>by rw [List.mem_singleton.mp hm]; lia,(by simp)⟩ h.lo (by lia)
  · rw [List.length_append]
    show x.m + st ≤ fi + ((4 * (rows.length + 1):Nat):Int) * st
    rw [show ((4 * (rows.length + 1):Nat):Int) = ((4 * rows.length:Nat):Int) + 4 by lia,Int.add_mul]
    lia
theorem MkI.rows {fi st mk:Int} {rows:List Rw} (h:MkI fi st mk rows) (hst:0 < st) (hl:rows.length ≤ 25):MkR fi (fi + 100 * st) (rows.map Rw.m):=by
  refine h.r.mono (by lia) ?_
  have:=h.hi
  have:((4 * rows.length:Nat):Int) * st ≤ 100 * st:=Int.mul_le_mul_of_nonneg_right (by lia) (by lia)
  lia
theorem lk_nd {α:Type}:∀ {es:List (Int × α)} {m:Int} {e:α},(es.map (·.1)).Nodup→(m,e) ∈ es→lk es m = some e:=fun {es m e} nd h=>by
  obtain ⟨e',h1,h2⟩:=lk_has (es:=es) (m:=m) ⟨_,h,rfl⟩
  rw [h1]
  have:∀ {l:List (Int × α)},(l.map (·.1)).Nodup→(m,e) ∈ l→(m,e') ∈ l→e' = e:=by
    intro l
    induction l with
    | nil=>intro _ h _; cases h
    | cons q t ih =>
      intro nd a b
      rw [List.map_cons,List.nodup_cons] at nd
      rcases List.mem_cons.mp a with rfl | a'
      · rcases List.mem_cons.mp b with z | b
        · cases z; rfl
        · exact absurd (show m ∈ t.map (·.1) from List.mem_map.mpr ⟨(m,e'),b,rfl⟩) nd.1
      · rcases List.mem_cons.mp b with rfl | b'
        · exact absurd (show m ∈ t.map (·.1) from List.mem_map.mpr ⟨(m,e),a',rfl⟩) nd.1
        · exact ih nd.2 a' b'
  rw [this nd h h2]
theorem askL_again {es:List (Int × E3)} (nd:(es.map (·.1)).Nodup):askL (lk es) es = []:=by
  unfold askL
  rw [List.filterMap_eq_nil_iff]
  intro a ha
  rw [if_pos (lk_nd nd (m:=a.1) (e:=a.2) ha)]
section
variable {kf:E3→List Nat} {notes:List (Int × Int)} {sheet:List (Int × List Rw)}
theorem rowsE_fst {n:Nat} {ks:List (List (List Nat))} {es:List (Int × E3)} {rows:List Rw}:∀ {j:Nat},j ≤ rows.length→(rowsE kf notes sheet n ks es rows j).map (·.1) = (rows.take j).map Rw.m
  | 0,_=>rfl
  | j + 1,h=>by
    have e:=List.getElem?_eq_getElem (show j < rows.length by lia)
    rw [rowsE_succ e,List.map_append,rowsE_fst (by lia),List.take_add_one,e,List.map_append]
    rfl
theorem stp_fst:∀ {i:Nat},i ≤ sheet.length→(stp kf notes sheet i).2.map (·.1) = mks (sheet.take i)
  | 0,_=>rfl
  | i + 1,h=>by
    have e:=List.getElem?_eq_getElem (show i < sheet.length by lia)
    rw [stp_succ e,List.map_append,stp_fst (by lia),rowsE_fst (Nat.le_refl _),List.take_length,List.take_add_one,e,mks_app]
    show _ = _ ++ mks [sheet[i]]
    rw [mks_one]
theorem stp_nd {lo hi:Int} (h:MkR lo hi (mks sheet)):((stp kf notes sheet sheet.length).2.map (·.1)).Nodup:=by
  rw [stp_fst (Nat.le_refl _),List.take_length]; exact h.nd
end
end Rg
namespace K75
open PySem PySem.Spec PyProof.Rows L2 Rg
theorem cut_drop (xs:List V) {a:Nat} (h:a ≤ xs.length):cutV xs (some (a:Int)) none = xs.drop a:=by
  unfold cutV
  rw [HT.sIx_nat,HT.sIx_none,show min a xs.length = a by lia]
  exact List.take_of_length_le (by simp)
theorem cut_take (xs:List V) {a:Nat} (h:a ≤ xs.length):cutV xs none (some (a:Int)) = xs.take a:=by
  unfold cutV
  rw [HT.sIx_nat,HT.sIx_none,show min a xs.length = a by lia]
  simp
noncomputable def nC (r:Nat):Nat:=(shL r).count 110
theorem cnt_n:∀ {r:Nat},r < 8→Txt.count (S (shL r)) ("n":Str) = ((nC r:Nat):Int)
  | 0,_=>by decide +kernel
  | 1,_=>by decide +kernel
  | 2,_=>by decide +kernel
  | 3,_=>by decide +kernel
  | 4,_=>by decide +kernel
  | 5,_=>by decide +kernel
  | 6,_=>by decide +kernel
  | 7,_=>by decide +kernel
  | k + 8,h=>by lia
structure RwOk (ls:List (List Nat)) (q:Rw):Prop where
  r:q.r < 8
  len:q.ps.length ≤ 3
  w:∀ j:Nat,(shL q.r)[j]? = some 119→∃ (i:Int) (s:List Nat),q.ps[j]? = some (i,some s)
  s:∀ x ∈ q.ps,∀ s,x.2 = some s→s ∈ ls
structure PtV (H:Hp) (ys:List V) (ps:List (Int × Option (List Nat))):Prop where
  len:ys.length = ps.length
  at':∀ (k:Nat) (p:Int × Option (List Nat)),ps[k]? = some p→∃ t,ys[k]? = some (.ref t)∧H t = some (.tup [.int p.1,txtV p.2])
theorem PtV.mono {H H':Hp} {ys:List V} {ps:List (Int × Option (List Nat))} (h:PtV H ys ps) (e:∀ t vs,H t = some (.tup vs)→H' t = some (.tup vs)):PtV H' ys ps :=
  ⟨h.len,fun k p hp=>let ⟨t,h1,h2⟩:=h.at' k p hp; ⟨t,h1,e _ _ h2⟩⟩
theorem PtV.snoc {H:Hp} {ys:List V} {ps:List (Int × Option (List Nat))} {t:Addr} {p:Int × Option (List Nat)} (h:PtV H ys ps) (ht:H t = some (.tup [.int p.1,txtV p.2])):PtV H (ys ++ [.ref t]) (ps ++ [p]):=by
  refine ⟨by rw [List.length_append,List.length_append,h.len]; rfl,fun k q hq=>?_⟩
  by_cases hk:k < ps.length
  · rw [List.getElem?_append_left hk] at hq
    obtain ⟨t',h1,h2⟩:=h.at' k q hq
    exact ⟨t',by rw [List.getElem?_append_left (by rw [h.len]; exact hk)]; exact h1,h2⟩
  · have hl:=(List.getElem?_eq_some_iff.mp hq).1
    have ek:k = ps.length:=by simp at hl; lia
    subst ek
    rw [List.getElem?_append_right (Nat.le_refl _),Nat.sub_self] at hq
    cases hq
    exact ⟨t,by rw [List.getElem?_append_right (by rw [h.len]; exact Nat.le_refl _),h.len,Nat.sub_self]; rfl,ht⟩
theorem txt_dat {K:PySem.W.Frag} {H:Hp} (o:Option (List Nat)):DatV K H (txtV o) (txtD o):=by
  cases o with
  | none=>exact .none
  | some s=>exact .str _
theorem PtV.dats {K:PySem.W.Frag} {H:Hp}:∀ {ys:List V} {ps:List (Int × Option (List Nat))},PtV H ys ps→DatVs K H ys (ps.map partDat)
  | [],[],_=>.nil
  | [],_ :: _,h=>by have:=h.len; simp at this
  | _ :: _,[],h=>by have:=h.len; simp at this
  | y :: ys,p :: ps,h=>by
    obtain ⟨t,h1,h2⟩:=h.at' 0 p rfl
    cases h1
    refine .cons (.tuple (SqT.of h2) (.cons (.int _) (.cons (txt_dat _) .nil))) (PtV.dats ⟨by have:=h.len; simpa using this,fun k q hq=>h.at' (k + 1) q hq⟩)
theorem pop0 {ns:List Int} {n:Int}:seqIndex? 0 ((n :: ns).map V.int).length = some 0:=by
  unfold seqIndex?
  simp
theorem cnt_drop {r t:Nat} (h:t < (shL r).length):((shL r).drop t).count 110 = (if (shL r)[t] = 110 then 1 else 0) + ((shL r).drop (t + 1)).count 110:=by
  rw [List.drop_eq_getElem_cons h,List.count_cons]
  by_cases e:(shL r)[t] = 110
  · rw [if_pos e]; simp [e]; lia
  · rw [if_neg e]; simp [e]
theorem name_at {ls:List (List Nat)} (h:0 < ls.length) (x:Int):∃ s ∈ ls,atI (ls.map fun k=>V.str (S k)) (x % ((ls.map fun k=>V.str (S k)).length:Int)) = some (.str (S s)):=by
  rw [List.length_map]
  have h1:=Int.emod_nonneg x (show (ls.length:Int) ≠ 0 by lia)
  have h2:=Int.emod_lt_of_pos x (show 0 < (ls.length:Int) by lia)
  have h3:(x % (ls.length:Int)).toNat < ls.length:=by lia
  have e:=List.getElem?_eq_getElem h3
  have hm:=List.getElem_mem h3
  generalize ls[(x % (ls.length:Int)).toNat] = v at e hm
  refine ⟨v,hm,?_⟩
  have key:atI (ls.map fun k=>V.str (S k)) (((x % (ls.length:Int)).toNat:Nat):Int) = some (.str (S v)):=atI_nat (by rw [List.getElem?_map,e]; rfl)
  rw [show (((x % (ls.length:Int)).toNat:Nat):Int) = x % (ls.length:Int) by lia] at key
  exact key
theorem rem_cons {p:Addr} {cs:List Addr} {H:Hp}:Same (rem (p :: cs) H) (rem cs H):=fun b u e=>by
  have nb:b ∉ p :: cs:=fun m=>by rw [rem_in m] at e; cases e
  rw [rem_out nb] at e
  rw [rem_out fun m=>nb (List.mem_cons_of_mem _ m)]
  exact e
theorem test_of {c:TT} {σ:L2.St} {H:Hp} {Q:Bool→Hp→Prop} (R:Bool→Hp→Prop) (h:∀ b H',R b H'→Q b H') (hc:(∀ b H',R b H'→Q b H')→c σ H Q):c σ H Q:=hc h
section
variable {P:Program} {w:World} {K:PySem.W.Frag} {mg:Str→Option Value} {base:Heap}
inductive spRows (K:PySem.W.Frag) (vs : List V) (H : Hp) (Q : VK) (_e : XK) : Prop | mk (c fi st:Int) (nr:Addr) (ls:List (List Nat)) (cs:List Addr) : (vs = [.int c,.ref nr,.int fi,.int st]) → (SqL K H nr (ls.map fun k=>V.str (S k))) → (0 < ls.length) → (ls.length ≤ 20) → ((∀ c ∈ cs,∃ zs,H c = some (.lst zs))) → (∀ (H':Hp) (p:Addr) (ys:List V) (rows:List Rw),Same H H'→H' p = some (.lst ys)→p ∉ cs→DatVs K (rem cs H') ys (rows.map rowDat)→rows.length ≤ 10→(∀ q ∈ rows,RwOk ls q)→NodOk rows→(0 < st→MkR fi (fi + 100 * st) (rows.map Rw.m))→Q (.ref p) H') → spRows K vs H Q _e
noncomputable abbrev st__law_rows:Stmt:=top 10
theorem sc__law_rows:FnScope ["_law_cell","_law_names_here","_law_first","_law_step_here","_law_rows_here","_law_waiting","_law_mark","_law_turn","_law_number","_law_many","_law_rule","_law_shape","_law_cut","_law_nodes","_law_parts","_law_j"] ["_law_cell","_law_names_here","_law_first","_law_step_here"] (defScope st__law_rows):=⟨rfl,rfl,rfl,by decide +kernel,rfl,by decide +kernel,by decide +kernel⟩
theorem def_rows (R:Raw K mg "_law_rows" st__law_rows ["_law_cell","_law_names_here","_law_first","_law_step_here"]) (T:Txt K w mg):Def P w K mg base 1 "_law_rows" ["_law_cell","_law_names_here","_law_first","_law_step_here"] (spRows K):=by
  refine R.defJ sc__law_rows (fun vs H Q E h=>?_) (fun f cdv A outer s H vs Q E hr h=>?_)
  · obtain ⟨c,fi,st,nr,ls,cs,rfl,_⟩:=h
    rfl
  · obtain ⟨c,fi,st,nr,ls,cs,rfl,hS,hl0,hl20,hcs,q⟩:=h
    have sc:=sc__law_rows
    have hu:=hr.units
    have hb:=big
    obtain ⟨u2, hP2, hq2⟩ : ∃ u, JSs (cxOf CX0 P w K mg base ["_law_cell", "_law_names_here", "_law_first", "_law_step_here", "_law_rows_here", "_law_waiting", "_law_mark", "_law_turn", "_law_number", "_law_many", "_law_rule", "_law_shape", "_law_cut", "_law_nodes", "_law_parts", "_law_j"] "_law_rows" (defScope st__law_rows) f cdv A outer s H E).nox ((stBody ((defBody st__law_rows).getD 6 (.Pass ⟨0, 0, 0, 0⟩))).drop 5) u ∧
        ∀ (D:Ends) (H1:Hp) (p wa:Addr) (rs:List V) (rows:List Rw) (wt:List Int) (mk nu:Int) (r:Nat) (v7 v9 v12 v13 v14 v15:Option V),Same H H1→H p = none→H1 p = some (.lst rs)→wa ≠ p→H1 wa = some (.lst (wt.map V.int))→DatVs K (rem (p :: cs) H1) rs (rows.map rowDat)→rows.length ≤ 100→wt.length ≤ 100→r < 8→nC r ≤ wt.length →
          (∀ (H2:Hp) (rs':List V) (x:Rw) (wt':List Int) (wa':Addr) (mk':Int) (v12 v13 v14 v15:Option V),Same H H2→H2 p = some (.lst rs')→wa' ≠ p→H2 wa' = some (.lst (wt'.map V.int))→DatVs K (rem (p :: cs) H2) rs' ((rows ++ [x]).map rowDat)→RwOk ls x→(∀ y ∈ x.ps,y.2 = none→y.1 ∈ wt)→(∀ m ∈ wt',m ∈ wt∨m = x.m)→wt'.length = wt.length - nC r + 1→(0 < st→mk ≤ x.m∧x.m ≤ mk + 3 * st∧mk' = x.m + st) →
            D.nx [some (.int c),some (.ref nr),some (.int fi),some (.int st),some (.ref p),some (.ref wa'),some (.int mk'),v7,some (.int nu),v9,some (.int (r:Nat)),some (.str (S (shL r))),v12,v13,v14,v15] H2) →
          u D [some (.int c),some (.ref nr),some (.int fi),some (.int st),some (.ref p),some (.ref wa),some (.int mk),v7,some (.int nu),v9,some (.int (r:Nat)),some (.str (S (shL r))),v12,v13,v14,v15] H1:=by
      refine ⟨_,(jss_cons (js_set (i:=12) sc.nd rfl (Or.inl rfl) (j_op o_sub (j_callB (c_len (K:=K)) rfl T.n_len PySem.boot_len (ja_cons (jn 5) ja_nil)) (j_bm (K:=K) PySem.F.plainAttrs_str PySem.F.slot_str_count PySem.F.type_str_count m_count (jn 11) (ja_cons j_str ja_nil))))
    (jss_cons (js_set (i:=13) sc.nd rfl (Or.inl rfl) (j_slice (o_slA (K:=K)) (jn 5) (jo_some (jn 12)) jo_none))
    (jss_cons (js_set (i:=14) sc.nd rfl (Or.inl rfl) (j_lst ja_nil))
    (jss_cons (js_for PassesOwn.never rfl (ji_rng1 rfl T.n_range (ja_cons (j_callB (c_len (K:=K)) rfl T.n_len PySem.boot_len (ja_cons (jn 11) ja_nil)) ja_nil)) (jg_name (i:=15) sc.nd rfl (Or.inl rfl))
    (jss_one (js_if (jt_cmp (o_eq hu (K:=K)) (j_ix (o_ix hu (K:=K) (w:=w)) (jn 11) (jn 15)) j_str)
    (jss_one (js_expr (j_bm (K:=K) PySem.F.plainAttrs_list PySem.F.slot_list_append PySem.F.type_list_append m_append (jn 14) (ja_cons (j_tup (ja_cons (j_bm (K:=K) PySem.F.plainAttrs_list PySem.F.slot_list_pop PySem.F.type_list_pop m_popAt (jn 13) (ja_cons j_int ja_nil)) (ja_cons j_non ja_nil))) ja_nil))))
    (jss_cons (js_expr (j_bm (K:=K) PySem.F.plainAttrs_list PySem.F.slot_list_append PySem.F.type_list_append m_append (jn 14) (ja_cons (j_tup (ja_cons (jn 6) (ja_cons (j_ix (o_ix hu (K:=K) (w:=w)) (jn 1) (j_op o_mod (j_op o_div (jn 8) (j_op (o_add (K:=K)) j_int (j_op o_mul j_int (jn 15)))) (j_callB (c_len (K:=K)) rfl T.n_len PySem.boot_len (ja_cons (jn 1) ja_nil)))) ja_nil))) ja_nil)))
    (jss_one (js_set (i:=6) sc.nd rfl (Or.inl rfl) (j_op (o_add (K:=K)) (jn 6) (jn 3))))))))
    (jss_cons (js_expr (j_bm (K:=K) PySem.F.plainAttrs_list PySem.F.slot_list_append PySem.F.type_list_append m_append (jn 4) (ja_cons (j_tup (ja_cons (jn 6) (ja_cons (jn 10) (ja_cons (jn 14) ja_nil)))) ja_nil)))
    (jss_cons (js_set (i:=5) sc.nd rfl (Or.inl rfl) (j_op (o_add (K:=K)) (j_slice (o_slA (K:=K)) (jn 5) jo_none (jo_some (jn 12))) (j_lst (ja_cons (jn 6) ja_nil))))
    (jss_one (js_set (i:=6) sc.nd rfl (Or.inl rfl) (j_op (o_add (K:=K)) (jn 6) (jn 3)))))))))),?_⟩
      intro D H1 p wa rs rows wt mk nu r v7 v9 v12 v13 v14 v15 s1 hp0 hrs nwp hwt hD hrl hwl hr8 hnc hend
      have hSl:(S (shL r)).length = (shL r).length:=S_len _
      have hsl:=sh_len r
      have hcn:=cnt_n hr8
      have hrsl:rs.length = rows.length:=by have:=hD.length; rw [List.length_map] at this; exact this
      refine ⟨_,.inl (SqL.of hwt),rfl,?_⟩
      dsimp only [tCons,tC,tNil,gCount,gMinus,gName]
      rw [hcn,List.length_map]
      rw [show ((wt.length:Nat):Int) - ((nC r:Nat):Int) = ((wt.length - nC r:Nat):Int) by lia]
      generalize hcu:wt.length - nC r = cu
      have hcu':cu ≤ (wt.map V.int).length:=by rw [List.length_map]; lia
      refine .inl ⟨_,SqL.of hwt,fun np hnp=>?_⟩
      rw [cut_drop _ hcu',← List.map_drop]
      have s2:Same H1 (upd H1 np (.lst ((wt.drop cu).map V.int))):=same_new hnp
      have h2:upd H1 np (.lst ((wt.drop cu).map V.int)) np = some (.lst ((wt.drop cu).map V.int)):=upd_same
      generalize upd H1 np (.lst ((wt.drop cu).map V.int)) = H2 at s2 h2 ⊢
      refine ⟨(show 0 ≤ sizeLine by decide),fun pp hpp=>?_⟩
      have s3:Same H2 (upd H2 pp (.lst [])):=same_new hpp
      have h3:upd H2 pp (.lst []) pp = some (.lst []):=upd_same
      generalize upd H2 pp (.lst []) = H3 at s3 h3 ⊢
      have nnp:np ≠ pp:=fun z=>by rw [z,hpp] at h2; cases h2
      have nH:∀ {b:Addr} {u:HO},H1 b = some u→b ≠ np∧b ≠ pp:=fun e=>⟨(fun z=>by rw [z,hnp] at e; cases e),(fun z=>by have q2:=s2 _ _ e; rw [z,hpp] at q2; cases q2)⟩
      have hdl:(wt.drop cu).length = nC r:=by rw [List.length_drop]; lia
      refine ⟨by rw [hSl]; lia,by rw [hSl]; lia,by rw [hSl]; lia,?_⟩
      refine for_range (n := (((S (shL r)).length : Nat) : Int).toNat) (fun t σ H' => ∃ (pv : List V) (ps : List (Int × Option (List Nat))) (ns : List Int) (mk' : Int) (v15 : Option V), (∀ b u, b ≠ np → b ≠ pp → H3 b = some u → H' b = some u) ∧ H' pp = some (.lst pv) ∧ H' np = some (.lst (ns.map V.int)) ∧ PtV H' pv ps ∧ ps.length = t ∧
          ns.length = ((shL r).drop t).count 110∧(∀ j,j < t→(shL r)[j]? = some 119→∃ i s,ps[j]? = some (i,some s))∧(∀ x ∈ ps,∀ s,x.2 = some s→s ∈ ls)∧(∀ y ∈ ps,y.2 = none→y.1 ∈ wt)∧(∀ n ∈ ns,n ∈ wt)∧(0 < st→mk ≤ mk'∧mk' ≤ mk + (t:Nat) * st) ∧
          σ = [some (.int c),some (.ref nr),some (.int fi),some (.int st),some (.ref p),some (.ref wa),some (.int mk'),v7,some (.int nu),v9,some (.int (r:Nat)),some (.str (S (shL r))),some (.int (cu:Nat)),some (.ref np),some (.ref pp),v15])
        ⟨[],[],wt.drop cu,mk,v15,(fun b u _ _ e=>e),h3,s3 _ _ h2,⟨rfl,fun k x e=>by cases e⟩,rfl,hdl,(fun j hj=>by lia),(fun x hx=>by cases hx),(fun x hx=>by cases hx),(fun n hn=>List.mem_of_mem_drop hn),(fun _=>⟨Int.le_refl _,by show mk ≤ mk + 0 * st; rw [Int.zero_mul]; lia⟩),rfl⟩ ?_ ?_
      · rintro t σ H' ht ⟨pv,ps,ns,mk',v15',hk,hpv,hns,hPt,hpl,hnl,hw,hsn,hno,hnw,hmk,rfl⟩
        have ht':t < (shL r).length:=by rw [hSl] at ht; lia
        have hpvl:=hPt.len
        have hcd:=cnt_drop ht'
        have hgt:=List.getElem?_eq_getElem ht'
        refine ⟨by rw [hSl]; lia,(shL r)[t],by rw [Int.zero_add]; exact atI_nat hgt,?_⟩
        generalize (shL r)[t] = ch at hgt hcd ⊢
        show if (false ^^ decide ((⟨#[ch]⟩:Str) = ("n":Str))) = true then _ else _
        rw [Bool.false_xor,one_n]
        have leaf : ∀ (x : Int × Option (List Nat)) (ns' : List Int) (mk2 : Int) (H5 : Hp) (t5 : Addr), (∀ b u, b ≠ np → b ≠ pp → H3 b = some u → H5 b = some u) → H5 pp = some (.lst pv) → H5 np = some (.lst (ns'.map V.int)) → PtV H5 pv ps → H5 t5 = none → ns'.length = ((shL r).drop (t + 1)).count 110 → ((shL r)[t]? = some 119 → x.2.isSome = true) → (∀ s, x.2 = some s → s ∈ ls) → (x.2 = none → x.1 ∈ wt) → (∀ n ∈ ns', n ∈ wt) → (0 < st → mk2 = mk' ∨ mk2 = mk' + st) →
            ∃ (pv':List V) (ps':List (Int × Option (List Nat))) (ns:List Int) (mk':Int) (v15:Option V),(∀ b u,b ≠ np→b ≠ pp→H3 b = some u→upd (upd H5 t5 (.tup [.int x.1,txtV x.2])) pp (.lst (pv ++ [.ref t5])) b = some u)∧upd (upd H5 t5 (.tup [.int x.1,txtV x.2])) pp (.lst (pv ++ [.ref t5])) pp = some (.lst pv') ∧
              upd (upd H5 t5 (.tup [.int x.1,txtV x.2])) pp (.lst (pv ++ [.ref t5])) np = some (.lst (ns.map V.int))∧PtV (upd (upd H5 t5 (.tup [.int x.1,txtV x.2])) pp (.lst (pv ++ [.ref t5]))) pv' ps'∧ps'.length = t + 1 ∧
              ns.length = ((shL r).drop (t + 1)).count 110∧(∀ j,j < t + 1→(shL r)[j]? = some 119→∃ i s,ps'[j]? = some (i,some s))∧(∀ x ∈ ps',∀ s,x.2 = some s→s ∈ ls)∧(∀ y ∈ ps',y.2 = none→y.1 ∈ wt)∧(∀ n ∈ ns,n ∈ wt)∧(0 < st→mk ≤ mk'∧mk' ≤ mk + (t + 1:Nat) * st) ∧
              [some (.int c),some (.ref nr),some (.int fi),some (.int st),some (.ref p),some (.ref wa),some (.int mk2),v7,some (.int nu),v9,some (.int (r:Nat)),some (.str (S (shL r))),some (.int (cu:Nat)),some (.ref np),some (.ref pp),some (.int (0 + (t:Nat)))] = [some (.int c),some (.ref nr),some (.int fi),some (.int st),some (.ref p),some (.ref wa),some (.int mk'),v7,some (.int nu),v9,some (.int (r:Nat)),some (.str (S (shL r))),some (.int (cu:Nat)),some (.ref np),some (.ref pp),v15]:=by
          intro x ns' mk2 H5 t5 k5 hp5 hn5 hP5 ht5 hl5 hx1 hx2 hx3 hx4 hx5
          have n1:t5 ≠ pp:=fun z=>by rw [z,hp5] at ht5; cases ht5
          have n2:t5 ≠ np:=fun z=>by rw [z,hn5] at ht5; cases ht5
          have s6:Same H5 (upd H5 t5 (.tup [.int x.1,txtV x.2])):=same_new ht5
          have h6:upd H5 t5 (.tup [.int x.1,txtV x.2]) t5 = some (.tup [.int x.1,txtV x.2]):=upd_same
          generalize upd H5 t5 (.tup [.int x.1,txtV x.2]) = H6 at s6 h6 ⊢
          have ndt:∀ {b:Addr} {zs:List V},H6 b = some (.tup zs)→b ≠ pp:=fun e z=>by rw [z,s6 _ _ hp5] at e; cases e
          refine ⟨pv ++ [.ref t5],ps ++ [x],ns',mk2,_,fun b u m1 m2 e=>?_,upd_same,by rw [upd_ne nnp]; exact s6 _ _ hn5,?_,by rw [List.length_append,hpl]; rfl,hl5,fun j hj e=>?_,fun y hy s e=>?_,fun y hy e=>?_,hx4,fun hst=>?_,rfl⟩
          · rw [upd_ne m2]; exact s6 _ _ (k5 b u m1 m2 e)
          · exact ((hP5.mono fun _ _ e=>s6 _ _ e).snoc h6).mono fun b zs e=>by rw [upd_ne (ndt e)]; exact e
          · by_cases hjt:j < t
            · obtain ⟨i,s,e'⟩:=hw j hjt e
              exact ⟨i,s,by rw [List.getElem?_append_left (by lia)]; exact e'⟩
            · have ej:j = t:=by lia
              subst ej
              obtain ⟨s,es⟩:=Option.isSome_iff_exists.mp (hx1 e)
              refine ⟨x.1,s,?_⟩
              rw [List.getElem?_append_right (by lia),hpl,Nat.sub_self,← es]
              rfl
          · rcases List.mem_append.mp hy with z | z
            · exact hsn y z s e
            · rw [List.mem_singleton.mp z] at e; exact hx2 s e
          · rcases List.mem_append.mp hy with z | z
            · exact hno y z e
            · rw [List.mem_singleton.mp z] at e ⊢; exact hx3 e
          · have k1:=hmk hst
            have k2:=hx5 hst
            rw [show ((t + 1:Nat):Int) = (t:Nat) + 1 by lia,Int.add_mul]
            lia
        refine ite2 (fun h=>?_) (fun h=>?_)
        · have hch:ch = 110:=of_decide_eq_true h
          rw [if_pos hch] at hcd
          cases ns with
          | nil=>simp at hnl; lia
          | cons n0 ns' =>
          refine ⟨.inl ⟨rfl,_,SqL.of hpv⟩,.inl ⟨rfl,_,SqL.of hns⟩,_,0,.int n0,hns,by decide,by decide,pop0,rfl,?_⟩
          refine ⟨(show 2 ≤ sizeLine by decide),fun t5 ht5=>?_⟩
          have e5:upd H' np (.lst (((n0 :: ns').map V.int).eraseIdx 0)) np = some (.lst (ns'.map V.int)):=upd_same
          have p5:upd H' np (.lst (((n0 :: ns').map V.int).eraseIdx 0)) pp = some (.lst pv):=by rw [upd_ne nnp.symm]; exact hpv
          have k5:∀ b u,b ≠ np→b ≠ pp→H3 b = some u→upd H' np (.lst (((n0 :: ns').map V.int).eraseIdx 0)) b = some u:=fun b u m1 m2 e=>by rw [upd_ne m1]; exact hk b u m1 m2 e
          have P5:PtV (upd H' np (.lst (((n0 :: ns').map V.int).eraseIdx 0))) pv ps:=hPt.mono fun b zs e=>by rw [upd_ne fun z=>by rw [z,hns] at e; cases e]; exact e
          generalize upd H' np (.lst (((n0 :: ns').map V.int).eraseIdx 0)) = H5 at ht5 e5 p5 k5 P5 ⊢
          have m5:pp ≠ t5:=fun z=>by rw [← z,p5] at ht5; cases ht5
          refine ⟨pv,by rw [upd_ne m5]; exact p5,by lia,?_⟩
          exact leaf (n0,none) ns' mk' H5 t5 k5 p5 e5 P5 ht5 (by simp at hnl; lia) (fun z=>by rw [hgt,hch] at z; cases z) (fun s z=>by cases z) (fun _=>hnw n0 List.mem_cons_self) (fun n hn=>hnw n (List.mem_cons_of_mem _ hn)) (fun _=>.inl rfl)
        · have hch:¬ ch = 110:=fun z=>h (decide_eq_true z)
          rw [if_neg hch] at hcd
          have sH:Same H H':=fun b u e=>hk b u (nH (s1 _ _ e)).1 (nH (s1 _ _ e)).2 (s3 _ _ (s2 _ _ (s1 _ _ e)))
          have hlm:(ls.map fun k=>V.str (S k)).length = ls.length:=List.length_map ..
          obtain ⟨sn,hsm,esn⟩:=name_at hl0 (nu / (5 + 8 * (0 + (t:Int))))
          refine ⟨.inl ⟨rfl,_,SqL.of hpv⟩,.inl ⟨by decide,by decide⟩,⟨by lia,by lia⟩,_,.inl (sH.seq hS),by lia,.inl ⟨_,_,sH.seq hS,esn,?_⟩⟩
          refine ⟨(show 2 ≤ sizeLine by decide),fun t5 ht5=>?_⟩
          have m5:pp ≠ t5:=fun z=>by rw [← z,hpv] at ht5; cases ht5
          refine ⟨pv,by rw [upd_ne m5]; exact hpv,by lia,?_⟩
          exact leaf (mk',some sn) ns (mk' + st) H' t5 hk hpv hns hPt ht5 (by lia) (fun _=>rfl) (fun s z=>by cases z; exact hsm) (fun z=>by cases z) hnw (fun _=>.inr rfl)
      · rintro σ H' ⟨pv,ps,ns,mk',v15',hk,hpv,hns,hPt,hpl,hnl,hw,hsn,hno,hnw,hmk,rfl⟩
        rw [hSl,Int.toNat_natCast] at hpl hw hmk
        have kH:∀ {b:Addr} {u:HO},H1 b = some u→H' b = some u:=fun e=>hk _ _ (nH e).1 (nH e).2 (s3 _ _ (s2 _ _ e))
        have hrs':=kH hrs
        have hwt':=kH hwt
        have hD':DatVs K (rem (p :: cs) H') rs (rows.map rowDat):=hD.same fun b u e=>by
          have nb:b ∉ p :: cs:=fun m=>by rw [rem_in m] at e; cases e
          rw [rem_out nb] at e ⊢
          exact kH e
        have n1:pp ≠ p:=fun z=>by rw [z] at hpp; rw [s2 _ _ hrs] at hpp; cases hpp
        refine ⟨.inl ⟨rfl,_,SqL.of hrs'⟩,(show 3 ≤ sizeLine by decide),fun t5 ht5=>?_⟩
        have n5:p ≠ t5:=fun z=>by rw [← z,hrs'] at ht5; cases ht5
        have s5:Same H' (upd H' t5 (.tup [.int mk',.int (r:Nat),.ref pp])):=same_new ht5
        have h5:upd H' t5 (.tup [.int mk',.int (r:Nat),.ref pp]) t5 = some (.tup [.int mk',.int (r:Nat),.ref pp]):=upd_same
        generalize upd H' t5 (.tup [.int mk',.int (r:Nat),.ref pp]) = H5 at s5 h5 ⊢
        refine ⟨rs,s5 _ _ hrs',by lia,?_⟩
        have e6:rem (p :: cs) (upd H5 p (.lst (rs ++ [.ref t5]))) = rem (p :: cs) H5:=rem_upd_in List.mem_cons_self
        have p6:upd H5 p (.lst (rs ++ [.ref t5])) p = some (.lst (rs ++ [.ref t5])):=upd_same
        have w6:upd H5 p (.lst (rs ++ [.ref t5])) wa = some (.lst (wt.map V.int)):=by rw [upd_ne nwp]; exact s5 _ _ hwt'
        have s6:Same H (upd H5 p (.lst (rs ++ [.ref t5]))):=fun b u e=>by
          rw [upd_ne fun z=>by rw [z,hp0] at e; cases e]; exact s5 _ _ (kH (s1 b u e))
        have hrow:DatV K (rem (p :: cs) H5) (.ref t5) (rowDat ⟨mk',r,ps⟩):=by
          have r5:∀ {b:Addr} {u:HO},b ≠ p→b ∉ cs→H5 b = some u→rem (p :: cs) H5 b = some u:=fun nb nc e=>by rw [rem_out (by simp [nb,nc])]; exact e
          have ct:∀ {b:Addr} {zs:List V},H5 b = some (.tup zs)→b ∉ cs:=fun e m=>by
            obtain ⟨xs,ex⟩:=hcs _ m
            rw [s5 _ _ (kH (s1 _ _ ex))] at e
            cases e
          have hp5:PtV (rem (p :: cs) H5) pv ps:=hPt.mono fun b zs e=>r5 (fun z=>by rw [z,hrs'] at e; cases e) (ct (s5 _ _ e)) (s5 _ _ e)
          have np:pp ∉ cs:=fun m=>by
            obtain ⟨xs,ex⟩:=hcs _ m
            rw [s2 _ _ (s1 _ _ ex)] at hpp
            cases hpp
          exact .tuple (SqT.of (r5 n5.symm (ct h5) h5)) (.cons (.int _) (.cons (.int _) (.cons (.list (SqL.of (r5 n1 np (s5 _ _ hpv))) hp5.dats) .nil)))
        have hD6:DatVs K (rem (p :: cs) (upd H5 p (.lst (rs ++ [.ref t5])))) (rs ++ [.ref t5]) ((rows ++ [⟨mk',r,ps⟩]:List Rw).map rowDat):=by
          rw [e6,List.map_append]
          exact DatVs.snoc hrow (hD'.same (rem_le s5))
        generalize upd H5 p (.lst (rs ++ [.ref t5])) = H6 at p6 w6 s6 hD6 ⊢
        refine .inl ⟨_,SqL.of w6,fun a7 ha7=>?_⟩
        rw [cut_take _ hcu',← List.map_take]
        have s7:Same H6 (upd H6 a7 (.lst ((wt.take cu).map V.int))):=same_new ha7
        have h7:upd H6 a7 (.lst ((wt.take cu).map V.int)) a7 = some (.lst ((wt.take cu).map V.int)):=upd_same
        generalize upd H6 a7 (.lst ((wt.take cu).map V.int)) = H7 at s7 h7 ⊢
        refine ⟨(show 1 ≤ sizeLine by decide),fun a8 ha8=>?_⟩
        have s8:Same H7 (upd H7 a8 (.lst [.int mk'])):=same_new ha8
        have h8:upd H7 a8 (.lst [.int mk']) a8 = some (.lst [.int mk']):=upd_same
        generalize upd H7 a8 (.lst [.int mk']) = H8 at s8 h8 ⊢
        refine .inl ⟨_,_,s8 _ _ h7,h8,by rw [List.length_map,List.length_take]; show min cu wt.length + 1 ≤ sizeLine; lia,fun a9 ha9=>?_⟩
        have s9:Same H8 (upd H8 a9 (.lst ((wt.take cu).map V.int ++ [.int mk']))):=same_new ha9
        have h9:upd H8 a9 (.lst ((wt.take cu).map V.int ++ [.int mk'])) a9 = some (.lst ((wt.take cu ++ [mk']).map V.int)):=by rw [List.map_append]; exact upd_same
        have n9:a9 ≠ p:=fun z=>by rw [z,s8 _ _ (s7 _ _ p6)] at ha9; cases ha9
        generalize upd H8 a9 (.lst ((wt.take cu).map V.int ++ [.int mk'])) = H9 at s9 h9 ⊢
        have s69:=(s7.trans s8).trans s9
        refine hend H9 (rs ++ [.ref t5]) ⟨mk',r,ps⟩ (wt.take cu ++ [mk']) a9 (mk' + st) _ _ _ _ (s6.trans s69) (s69 _ _ p6) n9 h9 (hD6.same (rem_le s69)) ⟨hr8,by show ps.length ≤ 3; lia,fun j e=>hw j (List.getElem?_eq_some_iff.mp e).1 e,hsn⟩ hno (fun m hm=>by
          rcases List.mem_append.mp hm with z | z
          · exact .inl (List.mem_of_mem_take z)
          · exact .inr (List.mem_singleton.mp z)) (by rw [List.length_append,List.length_take]; show min cu wt.length + 1 = _; lia) (fun hst=>by
          have k1:=hmk hst
          have k2:(((shL r).length:Nat):Int) * st ≤ 3 * st:=Int.mul_le_mul_of_nonneg_right (by lia) (by lia)
          exact ⟨k1.1,by show mk' ≤ _; lia,rfl⟩)
    refine ⟨_,(jss_cons (js_set (i:=4) sc.nd rfl (Or.inl rfl) (j_lst ja_nil))
    (jss_cons (js_set (i:=5) sc.nd rfl (Or.inl rfl) (j_lst ja_nil))
    (jss_cons (js_set (i:=6) sc.nd rfl (Or.inl rfl) (jn 2))
    (jss_cons (js_set (i:=7) sc.nd rfl (Or.inl rfl) j_int)
    (jss_cons (js_set (i:=8) sc.nd rfl (Or.inl rfl) (j_op o_mod (j_op o_mul (j_op o_mod (jn 0) j_int) j_int) j_int))
    (jss_cons (js_set (i:=9) sc.nd rfl (Or.inl rfl) (j_op o_mod (jn 8) j_int))
    (jss_cons (js_while PassesOwn.never (jw_t (jw_or (jt_cmp o_lt (jn 7) (jn 9)) (jw_or1 (jt_cmp o_gt (j_callB (c_len (K:=K)) rfl T.n_len PySem.boot_len (ja_cons (jn 5) ja_nil)) j_int))))
    (jss_cons (js_set (i:=8) sc.nd rfl (Or.inl rfl) (j_op o_mod (j_op (o_add (K:=K)) (j_op o_mul (jn 8) j_int) (jn 7)) j_int))
    (jss_cons (js_set (i:=10) sc.nd rfl (Or.inl rfl) (j_ix (o_ix hu (K:=K) (w:=w)) (j_lst (ja_cons (j_op o_mod (j_op o_div (jn 8) j_int) j_int) (ja_cons j_int ja_nil))) (j_callTy c_int rfl T.n_int boot_int (ja_cons (j_cmp o_ge (jn 7) (jn 9)) ja_nil))))
    (jss_cons (js_set (i:=7) sc.nd rfl (Or.inl rfl) (j_op (o_add (K:=K)) (jn 7) j_int))
    (jss_cons (js_set (i:=11) sc.nd rfl (Or.inl rfl) (j_ix (o_ix hu (K:=K) (w:=w)) (j_lst (ja_cons j_str (ja_cons j_str (ja_cons j_str (ja_cons j_str (ja_cons j_str (ja_cons j_str (ja_cons j_str (ja_cons j_str ja_nil))))))))) (jn 10)))
    (jss_cons (js_if (jt_cmp o_gt (j_bm (K:=K) PySem.F.plainAttrs_str PySem.F.slot_str_count PySem.F.type_str_count m_count (jn 11) (ja_cons j_str ja_nil)) (j_callB (c_len (K:=K)) rfl T.n_len PySem.boot_len (ja_cons (jn 5) ja_nil)))
    (jss_cons (js_set (i:=10) sc.nd rfl (Or.inl rfl) (j_op o_mod (j_op o_div (jn 8) j_int) j_int))
    (jss_one (js_set (i:=11) sc.nd rfl (Or.inl rfl) j_str)))
    jss_nil)
    hP2))))))
    (jss_one (js_ret (jn 4)))))))))),?_⟩
    refine ⟨(show 0 ≤ sizeLine by decide),fun p hp=>?_⟩
    have s1:Same H (upd H p (.lst [])):=same_new hp
    have h1:upd H p (.lst []) p = some (.lst []):=upd_same
    generalize upd H p (.lst []) = H1 at s1 h1 ⊢
    refine ⟨(show 0 ≤ sizeLine by decide),fun wa hwa=>?_⟩
    have s2:Same H1 (upd H1 wa (.lst [])):=same_new hwa
    have h2:upd H1 wa (.lst []) wa = some (.lst (([]:List Int).map V.int)):=upd_same
    have nwp:wa ≠ p:=fun z=>by rw [z,h1] at hwa; cases hwa
    generalize upd H1 wa (.lst []) = H2 at s2 h2 ⊢
    refine ⟨by decide,.inr ⟨by decide,by decide⟩,by decide,by decide,?_⟩
    have hnu0:0 ≤ c % 2147483647 * 69621 % 1000033:=by lia
    have hnu1:c % 2147483647 * 69621 % 1000033 < 2147483647:=by lia
    generalize c % 2147483647 * 69621 % 1000033 = nu0 at hnu0 hnu1 ⊢
    obtain ⟨many,hmany,hm6⟩:∃ many:Nat,nu0 % 6 = ((many:Nat):Int)∧many ≤ 5:=⟨(nu0 % 6).toNat,by lia,by lia⟩
    rw [hmany]
    refine ⟨fun m σ H' => ∃ (wa : Addr) (rs : List V) (rows : List Rw) (wt : List Int) (mk nu : Int) (turn : Nat) (v10 v11 v12 v13 v14 v15 : Option V), m = 10 * (many - turn) + wt.length ∧ Same H H' ∧ H' p = some (.lst rs) ∧ wa ≠ p ∧ H' wa = some (.lst (wt.map V.int)) ∧ DatVs K (rem (p :: cs) H') rs (rows.map rowDat) ∧ rows.length = turn ∧
        ((turn ≤ many∧wt.length ≤ turn)∨(many ≤ turn∧turn + wt.length ≤ 2 * many))∧(∀ x ∈ rows,RwOk ls x)∧(∀ m ∈ wt,∃ q ∈ rows,q.m = m)∧NodOk rows∧(0 < st→MkI fi st mk rows)∧0 ≤ nu ∧
        σ = [some (.int c),some (.ref nr),some (.int fi),some (.int st),some (.ref p),some (.ref wa),some (.int mk),some (.int (turn:Nat)),some (.int nu),some (.int (many:Nat)),v10,v11,v12,v13,v14,v15],
      ⟨_,wa,[],[],[],fi,nu0,0,none,none,none,none,none,none,rfl,s1.trans s2,s2 _ _ h1,nwp,h2,.nil,rfl,.inl ⟨by lia,by simp⟩,(fun x hx=>by cases hx),(fun x hx=>by cases hx),(fun j q hq=>by cases hq),(fun hst=>⟨.nil,Int.le_refl _,by show fi ≤ fi + 0 * st; rw [Int.zero_mul]; lia⟩),hnu0,rfl⟩,?_⟩
    rintro m σ H' ⟨wa,rs,rows,wt,mk,nu,turn,v10,v11,v12,v13,v14,v15,rfl,sm,hrs,nwp',hwt,hD,hrl,hbd,hrok,hwm,hnod,hmi,hnu,rfl⟩
    refine test_of (fun b H5=>H5 = H'∧b = decide (turn < many∨1 < wt.length)) ?_ ?_
    · rintro b H5 ⟨rfl,hb⟩
      cases b with
      | false =>
        have hno:¬ (turn < many∨1 < wt.length):=fun z=>by rw [decide_eq_true z] at hb; cases hb
        rw [if_neg Bool.false_ne_true]
        exact q _ p rs rows sm hrs (fun m=>by obtain ⟨zs,ez⟩:=hcs _ m; rw [hp] at ez; cases ez) (hD.same rem_cons) (by lia) hrok hnod (fun hst=>(hmi hst).rows hst (by lia))
      | true =>
        have hyes:turn < many∨1 < wt.length:=of_decide_eq_true hb.symm
        rw [if_pos rfl]
        refine ⟨fun σ' H2=>∃ m',m' < 10 * (many - turn) + wt.length∧∃ (wa:Addr) (rs:List V) (rows:List Rw) (wt:List Int) (mk nu:Int) (turn:Nat) (v10 v11 v12 v13 v14 v15:Option V),m' = 10 * (many - turn) + wt.length∧Same H H2∧H2 p = some (.lst rs)∧wa ≠ p∧H2 wa = some (.lst (wt.map V.int))∧DatVs K (rem (p :: cs) H2) rs (rows.map rowDat)∧rows.length = turn ∧
          ((turn ≤ many∧wt.length ≤ turn)∨(many ≤ turn∧turn + wt.length ≤ 2 * many))∧(∀ x ∈ rows,RwOk ls x)∧(∀ m ∈ wt,∃ q ∈ rows,q.m = m)∧NodOk rows∧(0 < st→MkI fi st mk rows)∧0 ≤ nu ∧
          σ' = [some (.int c),some (.ref nr),some (.int fi),some (.int st),some (.ref p),some (.ref wa),some (.int mk),some (.int (turn:Nat)),some (.int nu),some (.int (many:Nat)),v10,v11,v12,v13,v14,v15],fun σ' H2 h=>h,?_⟩
        refine ⟨.inr ⟨by decide,by decide⟩,by decide,?_⟩
        have hn0:0 ≤ (nu * 48271 + ((turn:Nat):Int)) % 2147483647:=by lia
        generalize (nu * 48271 + ((turn:Nat):Int)) % 2147483647 = nu' at hn0 ⊢
        refine ⟨⟨by decide,by decide⟩,by decide,(show 2 ≤ sizeLine by decide),fun p3 hp3=>?_⟩
        have s3:Same H5 (upd H5 p3 (.lst [.int (nu' / 3 % 8),.int 2])):=same_new hp3
        have h3:upd H5 p3 (.lst [.int (nu' / 3 % 8),.int 2]) p3 = some (.lst [.int (nu' / 3 % 8),.int 2]):=upd_same
        generalize upd H5 p3 (.lst [.int (nu' / 3 % 8),.int 2]) = H3 at s3 h3 ⊢
        obtain ⟨r0,hr0,er0,h20⟩:∃ r0:Nat,r0 < 8∧atI [V.int (nu' / 3 % 8),.int 2] (if decide (((many:Nat):Int) ≤ ((turn:Nat):Int)) = true then 1 else 0) = some (.int (r0:Nat))∧(many ≤ turn→r0 = 2):=by
          by_cases h:many ≤ turn
          · exact ⟨2,by lia,by rw [if_pos (decide_eq_true (by lia))]; rfl,fun _=>rfl⟩
          · refine ⟨(nu' / 3 % 8).toNat,by lia,?_,fun z=>absurd z h⟩
            rw [if_neg (by rw [decide_eq_false (by lia)]; exact Bool.false_ne_true),show (((nu' / 3 % 8).toNat:Nat):Int) = nu' / 3 % 8 by lia]
            rfl
        refine .inl ⟨_,_,SqL.of h3,er0,?_⟩
        refine ⟨(show 8 ≤ sizeLine by decide),fun p4 hp4=>?_⟩
        have s4:Same H3 (upd H3 p4 (.lst shVs)):=same_new hp4
        have h4:upd H3 p4 (.lst shVs) p4 = some (.lst shVs):=upd_same
        generalize upd H3 p4 (.lst shVs) = H4 at s4 h4 ⊢
        refine .inl ⟨_,_,SqL.of h4,sh_at hr0,?_⟩
        have s54:=s3.trans s4
        have go : ∀ (D : Ends) (r : Nat), r < 8 → nC r ≤ wt.length → (many ≤ turn → nC r = 2) → (D.nx = fun σ' H2 => ∃ m', m' < 10 * (many - turn) + wt.length ∧ ∃ (wa : Addr) (rs : List V) (rows : List Rw) (wt : List Int) (mk nu : Int) (turn : Nat) (v10 v11 v12 v13 v14 v15 : Option V), m' = 10 * (many - turn) + wt.length ∧ Same H H2 ∧ H2 p = some (.lst rs) ∧ wa ≠ p ∧ H2 wa = some (.lst (wt.map V.int)) ∧ DatVs K (rem (p :: cs) H2) rs (rows.map rowDat) ∧ rows.length = turn ∧
            ((turn ≤ many∧wt.length ≤ turn)∨(many ≤ turn∧turn + wt.length ≤ 2 * many))∧(∀ x ∈ rows,RwOk ls x)∧(∀ m ∈ wt,∃ q ∈ rows,q.m = m)∧NodOk rows∧(0 < st→MkI fi st mk rows)∧0 ≤ nu ∧
            σ' = [some (.int c),some (.ref nr),some (.int fi),some (.int st),some (.ref p),some (.ref wa),some (.int mk),some (.int (turn:Nat)),some (.int nu),some (.int (many:Nat)),v10,v11,v12,v13,v14,v15]) →
            u2 D [some (.int c),some (.ref nr),some (.int fi),some (.int st),some (.ref p),some (.ref wa),some (.int mk),some (.int (((turn:Nat):Int) + 1)),some (.int nu'),some (.int (many:Nat)),some (.int (r:Nat)),some (.str (S (shL r))),v12,v13,v14,v15] H4:=by
          intro D r hr8 hnc h2 eD
          refine hq2 D H4 p wa rs rows wt mk nu' r _ _ v12 v13 v14 v15 (sm.trans s54) hp (s54 _ _ hrs) nwp' (s54 _ _ hwt) (hD.same (rem_le s54)) (by lia) (by lia) hr8 hnc ?_
          intro H9 rs' x wt' wa' mk' w12 w13 w14 w15 s9 hrs9 nw9 hwt9 hD9 hx hx2 hwt2 hwl9 hmx
          rw [eD]
          refine ⟨_,?_,wa',rs',rows ++ [x],wt',mk',nu',turn + 1,_,_,_,_,_,_,rfl,s9,hrs9,nw9,hwt9,hD9,by rw [List.length_append,hrl]; rfl,?_,fun y hy=>?_,fun m hm=>?_,hnod.snoc fun y hy e=>hwm _ (hx2 y hy e),fun hst=>(by obtain ⟨k1,k2,k3⟩:=hmx hst; rw [k3]; exact (hmi hst).snoc hst k1 k2),hn0,rfl⟩
          · by_cases ht:many ≤ turn
            · have:=h2 ht; lia
            · lia
          · by_cases ht:many ≤ turn
            · have:=h2 ht; lia
            · lia
          · rcases List.mem_append.mp hy with z | z
            · exact hrok y z
            · rw [List.mem_singleton.mp z]; exact hx
          · rcases hwt2 m hm with z | z
            · obtain ⟨q,hq,e⟩:=hwm m z
              exact ⟨q,List.mem_append_left _ hq,e⟩
            · exact ⟨x,List.mem_append_right _ List.mem_cons_self,z.symm⟩
        refine ⟨rfl,?_⟩
        dsimp only [tCons,tC,tNil,gCount]
        rw [cnt_n hr0]
        refine ⟨_,.inl (SqL.of (s54 _ _ hwt)),?_⟩
        rw [List.length_map]
        show if decide (((wt.length:Nat):Int) < ((nC r0:Nat):Int)) = true then _ else _
        refine ite2 (fun h=>?_) (fun h=>?_)
        · have h':wt.length < nC r0:=by have:=of_decide_eq_true h; lia
          refine ⟨⟨by decide,by decide⟩,by decide,?_⟩
          obtain ⟨r1,er1,hr1⟩:∃ r1:Nat,nu' / 24 % 2 = ((r1:Nat):Int)∧(r1 = 0∨r1 = 1):=⟨(nu' / 24 % 2).toNat,by lia,by lia⟩
          rw [er1]
          have hsh:shL r1 = [119]:=by rcases hr1 with rfl | rfl <;> rfl
          have hnc1:nC r1 = 0:=by unfold nC; rw [hsh]; rfl
          have g:=fun D e=>go D r1 (by lia) (by lia) (fun z=>by have e2:=h20 z; rw [e2] at h'; have:nC 2 = 2:=rfl; lia) e
          rw [hsh] at g
          exact g _ rfl
        · have h':¬ wt.length < nC r0:=fun z=>h (decide_eq_true (by lia))
          exact go _ r0 hr0 (by lia) (fun z=>by rw [h20 z]; rfl) rfl
    · intro hQ
      show if decide (((turn:Nat):Int) < ((many:Nat):Int)) = true then _ else _
      by_cases ht:turn < many
      · rw [if_pos (decide_eq_true (by lia))]
        exact hQ true _ ⟨rfl,by rw [decide_eq_true (Or.inl ht)]⟩
      · rw [if_neg (by rw [decide_eq_false (by lia)]; exact Bool.false_ne_true)]
        refine ⟨_,.inl (SqL.of hwt),?_⟩
        refine hQ _ _ ⟨rfl,?_⟩
        rw [List.length_map]
        by_cases hw:1 < wt.length
        · rw [decide_eq_true (Or.inr hw),decide_eq_true (by lia)]
        · rw [decide_eq_false (show ¬ (1:Int) < ((wt.length:Nat):Int) by lia),decide_eq_false (fun z=>z.elim ht hw)]
end
end K75
namespace K75
open PySem PySem.Spec PyProof.Rows L2 Rg
section
variable {P:Program} {w:World} {K:PySem.W.Frag} {mg:Str→Option Value} {base:Heap}
inductive spCell (K:PySem.W.Frag) (vs : List V) (H : Hp) (Q : VK) (_e : XK) : Prop | mk (a:Addr) (ns:List Int) (k:Nat) : (vs = [.ref a,.int k]) → (SqL K H a (ns.map V.int)) → (Q (.int (ns.getD k 0)) H) → spCell K vs H Q _e
noncomputable abbrev st__law_cell_at:Stmt:=top 7
theorem sc__law_cell_at:FnScope ["_law_script","_law_k"] ["_law_script","_law_k"] (defScope st__law_cell_at):=⟨rfl,rfl,rfl,by decide +kernel,rfl,by decide +kernel,by decide +kernel⟩
theorem def_cell (R:Raw K mg "_law_cell_at" st__law_cell_at ["_law_script","_law_k"]) (T:Txt K w mg):Def P w K mg base 1 "_law_cell_at" ["_law_script","_law_k"] (spCell K):=by
  refine R.defJ sc__law_cell_at (fun vs H Q E h=>?_) (fun f cdv A outer s H vs Q E hr h=>?_)
  · obtain ⟨a,ns,k,rfl,_⟩:=h
    rfl
  · obtain ⟨a,ns,k,rfl,hS,q⟩:=h
    have sc:=sc__law_cell_at
    have hu:=hr.units
    refine ⟨_,(jss_cons (js_if (jt_cmp o_lt (jn 1) (j_callB (c_len (K:=K)) rfl T.n_len PySem.boot_len (ja_cons (jn 0) ja_nil)))
    (jss_one (js_ret (j_ix (o_ix hu (K:=K) (w:=w)) (jn 0) (jn 1))))
    jss_nil)
    (jss_one (js_ret j_int))),?_⟩
    refine ⟨_,.inl hS,?_⟩
    rw [List.length_map]
    show if decide ((k:Int) < (ns.length:Int)) = true then _ else _
    refine ite2 (fun h=>?_) (fun h=>?_)
    · have hk : k < ns.length := by
        have:=of_decide_eq_true h
        lia
      refine .inl ⟨_,.int (ns.getD k 0),hS,atI_nat ?_,q⟩
      rw [List.getElem?_map,List.getElem?_eq_getElem hk]
      simp [List.getD,hk]
    · have hk:¬ k < ns.length:=fun z=>h (decide_eq_true (by lia))
      have e:ns.getD k 0 = 0:=by simp [List.getD,List.getElem?_eq_none (by lia:ns.length ≤ k)]
      rw [e] at q
      exact q
noncomputable abbrev lettersL:List Nat:=("abcefghijklmnopqrstuvwxz":Str).cps.toList
noncomputable def ltF (x:Int):Nat:=lettersL.getD (x % 24).toNat 0
theorem lettersL_len:lettersL.length = 24:=by decide +kernel
theorem lt_at (x:Int):atI lettersL (x % 24) = some (ltF x):=by
  have h1:(x % 24).toNat < lettersL.length:=by rw [lettersL_len]; lia
  have e:(((x % 24).toNat:Nat):Int) = x % 24:=by lia
  have key:=atI_nat (xs:=lettersL) (List.getElem?_eq_getElem h1)
  rw [e] at key
  rw [key]
  unfold ltF
  rw [List.getD,List.getElem?_eq_getElem h1]
  rfl
noncomputable def letB (c:Nat):Bool:=decide (97 ≤ c) && decide (c ≤ 122) && c != 121
theorem lt_let (x:Int):letB (ltF x) = true:=by
  have h1:(x % 24).toNat < lettersL.length:=by rw [lettersL_len]; lia
  have h2:lettersL.all letB = true:=by decide +kernel
  unfold ltF
  rw [List.getD,List.getElem?_eq_getElem h1]
  exact List.all_eq_true.mp h2 _ (List.getElem_mem h1)
theorem let_ok {c:Nat} (h:letB c = true):okSign c:=by
  unfold letB at h
  simp at h
  exact .inl ⟨by lia,by lia,by lia⟩
noncomputable def nmSz (c:Int):Nat:=(1 + c % 7).toNat
noncomputable def nmAt (c:Int):Nat:=(c / 7 % (1 + c % 7)).toNat
theorem nm_sz (c:Int):((nmSz c:Nat):Int) = 1 + c % 7∧1 ≤ nmSz c∧nmSz c ≤ 7:=by unfold nmSz; lia
theorem nm_at (c:Int):((nmAt c:Nat):Int) = c / 7 % (1 + c % 7)∧nmAt c < nmSz c:=by
  have h0:=Int.emod_nonneg (c / 7) (show 1 + c % 7 ≠ 0 by lia)
  have h1:=Int.emod_lt_of_pos (c / 7) (show 0 < 1 + c % 7 by lia)
  unfold nmAt nmSz
  lia
noncomputable def nmC (c:Int) (k j:Nat):Nat:=ltF (c / 245 + (if j = nmAt c then (k:Int) else (j:Int) * (c / 49 % 5)))
noncomputable def nameL (c:Int) (k:Nat):List Nat:=(List.range (nmSz c)).map (nmC c k)
theorem nameL_len (c:Int) (k:Nat):(nameL c k).length = nmSz c:=by unfold nameL; simp
theorem nameL_let (c:Int) (k:Nat):∀ x ∈ nameL c k,letB x = true:=fun x hx=>by
  unfold nameL at hx
  obtain ⟨j,_,rfl⟩:=List.mem_map.mp hx
  exact lt_let _
inductive spNames (K:PySem.W.Frag) (vs : List V) (H : Hp) (Q : VK) (_e : XK) : Prop | mk (c:Int) (m:Nat) : (vs = [.int c,.int (m:Nat)]) → (m ≤ 20) → (∀ (H':Hp) (p:Addr),Same H H'→H p = none→H' p = some (.lst ((List.range m).map fun k=>V.str (S (nameL c k))))→Q (.ref p) H') → spNames K vs H Q _e
noncomputable abbrev st__law_names:Stmt:=top 8
theorem sc__law_names:FnScope ["_law_cell","_law_many","_law_letters","_law_at","_law_names_here","_law_k","_law_name","_law_j","_law_step_here"] ["_law_cell","_law_many"] (defScope st__law_names):=⟨rfl,rfl,rfl,by decide +kernel,rfl,by decide +kernel,by decide +kernel⟩
theorem def_names (R:Raw K mg "_law_names" st__law_names ["_law_cell","_law_many"]) (T:Txt K w mg):Def P w K mg base 1 "_law_names" ["_law_cell","_law_many"] (spNames K):=by
  refine R.defJ sc__law_names (fun vs H Q E h=>?_) (fun f cdv A outer s H vs Q E hr h=>?_)
  · obtain ⟨c,m,rfl,_⟩:=h
    rfl
  · obtain ⟨c,m,rfl,hm,q⟩:=h
    have sc:=sc__law_names
    have hu:=hr.units
    have hb:=big
    refine ⟨_,(jss_cons (js_set (i:=2) sc.nd rfl (Or.inl rfl) j_str)
    (jss_cons (js_set (i:=3) sc.nd rfl (Or.inl rfl) (j_op o_mod (j_op o_div (jn 0) j_int) (j_op (o_add (K:=K)) j_int (j_op o_mod (jn 0) j_int))))
    (jss_cons (js_set (i:=4) sc.nd rfl (Or.inl rfl) (j_lst ja_nil))
    (jss_cons (js_for PassesOwn.never rfl (ji_rng1 rfl T.n_range (ja_cons (jn 1) ja_nil)) (jg_name (i:=5) sc.nd rfl (Or.inl rfl))
    (jss_cons (js_set (i:=6) sc.nd rfl (Or.inl rfl) j_str)
    (jss_cons (js_for PassesOwn.never rfl (ji_rng1 rfl T.n_range (ja_cons (j_op (o_add (K:=K)) j_int (j_op o_mod (jn 0) j_int)) ja_nil)) (jg_name (i:=7) sc.nd rfl (Or.inl rfl))
    (jss_cons (js_set (i:=8) sc.nd rfl (Or.inl rfl) (j_op o_mul (jn 7) (j_op o_mod (j_op o_div (jn 0) j_int) j_int)))
    (jss_cons (js_if (jt_cmp (o_eq hu (K:=K)) (jn 7) (jn 3))
    (jss_one (js_set (i:=8) sc.nd rfl (Or.inl rfl) (jn 5)))
    jss_nil)
    (jss_one (js_set (i:=6) sc.nd rfl (Or.inl rfl) (j_op (o_add (K:=K)) (jn 6) (j_ix (o_ix hu (K:=K) (w:=w)) (jn 2) (j_op o_mod (j_op (o_add (K:=K)) (j_op o_div (jn 0) j_int) (jn 8)) j_int))))))))
    (jss_one (js_expr (j_bm (K:=K) PySem.F.plainAttrs_list PySem.F.slot_list_append PySem.F.type_list_append m_append (jn 4) (ja_cons (jn 6) ja_nil)))))))
    (jss_one (js_ret (jn 4))))))),?_⟩
    refine ⟨⟨by decide,by decide⟩,by decide,show (0:Int) < 1 + c % 7 by lia,?_⟩
    rw [← (nm_at c).1]
    refine ⟨(show 0 ≤ sizeLine by decide),fun p hp=>?_⟩
    have s1:Same H (upd H p (.lst [])):=same_new hp
    have h1:upd H p (.lst []) p = some (.lst []):=upd_same
    generalize upd H p (.lst []) = H1 at s1 h1 ⊢
    refine ⟨by lia,by lia,?_⟩
    refine for_range (n:=((m:Nat):Int).toNat) (fun i σ H'=>∃ (v5 v6 v7 v8:Option V),Same H H'∧H' p = some (.lst ((List.range i).map fun k=>V.str (S (nameL c k))))∧σ = [some (.int c),some (.int (m:Nat)),some (.str "abcefghijklmnopqrstuvwxz"),some (.int (nmAt c:Nat)),some (.ref p),v5,v6,v7,v8]) ⟨none,none,none,none,s1,h1,rfl⟩ ?_ ?_
    · rintro i σ H' hi ⟨v5,v6,v7,v8,s2,hp2,rfl⟩
      have esz:=(nm_sz c).1
      have hsz:=(nm_sz c).2
      refine ⟨by decide,?_⟩
      refine ⟨show -(2 ^ 62) ≤ 1 + c % 7 by lia,show 1 + c % 7 < 2 ^ 62 by lia,?_⟩
      refine for_range (n:=(1 + c % 7).toNat) (fun j σ H2=>H2 = H'∧∃ (v7 v8:Option V),σ = [some (.int c),some (.int (m:Nat)),some (.str "abcefghijklmnopqrstuvwxz"),some (.int (nmAt c:Nat)),some (.ref p),some (.int (i:Nat)),some (.str (S ((List.range j).map (nmC c i)))),v7,v8])
        ⟨rfl,v7,v8,by simp; rfl⟩ ?_ ?_
      · rintro j σ H2 hj ⟨rfl,v7,v8,rfl⟩
        have hj7:j < 7:=by lia
        have put:∀ st:Int,st = (if j = nmAt c then ((i:Nat):Int) else (j:Int) * (c / 49 % 5))→∀ v:Option V,∃ o,atI lettersL ((c / 245 + st) % 24) = some o∧S ((List.range j).map (nmC c i)) ++ S [o] = S ((List.range (j + 1)).map (nmC c i)):=fun st e v=>by
          refine ⟨ltF (c / 245 + st),lt_at _,?_⟩
          rw [S_app,List.range_succ,List.map_append]
          congr 2
          show [ltF (c / 245 + st)] = [nmC c i j]
          unfold nmC
          rw [e]
        refine ⟨⟨by decide,by decide⟩,by decide,.inl ⟨by lia,by lia⟩,?_⟩
        show if (false ^^ decide (((0:Int) + (j:Nat)) = ((nmAt c:Nat):Int))) = true then _ else _
        rw [Bool.false_xor]
        refine ite2 (fun h=>?_) (fun h=>?_)
        · have h':j = nmAt c:=by have:=of_decide_eq_true h; lia
          obtain ⟨o,eo,es⟩:=put ((i:Nat):Int) (by rw [if_pos h']) none
          refine ⟨⟨by decide,by decide⟩,by decide,by decide +kernel,o,by rw [Int.zero_add] at *; exact eo,by rw [S_len,S_len,List.length_map,List.length_range]; simp; lia,?_⟩
          rw [es]
          exact ⟨rfl,_,_,rfl⟩
        · have h':¬ j = nmAt c:=fun z=>h (decide_eq_true (by lia))
          obtain ⟨o,eo,es⟩:=put (((0:Int) + (j:Nat)) * (c / 49 % 5)) (by rw [if_neg h',Int.zero_add]) none
          refine ⟨⟨by decide,by decide⟩,by decide,by decide +kernel,o,eo,by rw [S_len,S_len,List.length_map,List.length_range]; simp; lia,?_⟩
          rw [es]
          exact ⟨rfl,_,_,rfl⟩
      · rintro σ H2 ⟨rfl,v7,v8,rfl⟩
        rw [show (1 + c % 7).toNat = nmSz c from rfl]
        refine ⟨.inl ⟨rfl,_,SqL.of hp2⟩,_,hp2,by rw [List.length_map,List.length_range]; lia,?_⟩
        refine ⟨_,_,_,_,fun b u e=>?_,?_,rfl⟩
        · rw [upd_ne fun z=>by rw [z,hp] at e; cases e]; exact s2 b u e
        · rw [upd_same,List.range_succ,List.map_append]
          rfl
    · rintro σ H' ⟨v5,v6,v7,v8,s2,hp2,rfl⟩
      exact q H' p s2 hp (by simpa using hp2)
end
noncomputable def fI:Option Nat→Int
  | none=>-1
  | some j=>(j:Int)
theorem fI_pos (o:Option Nat):decide ((0:Int) ≤ fI o) = o.isSome:=by
  cases o with
  | none=>rfl
  | some j=>rw [decide_eq_true (show (0:Int) ≤ fI (some j) by show (0:Int) ≤ (j:Int); lia)]; rfl
theorem fnd_step {notes:List (Int × Int)} {nm:List Nat} {rows:List Rw} {j:Nat} {q:Rw} (e:rows[j]? = some q):fndT notes nm rows (j + 1) = if bndOf notes q = some nm then some j else fndT notes nm rows j:=by
  show (match rows[j]? with | some q=>if bndOf notes q = some nm then some j else fndT notes nm rows j | none=>fndT notes nm rows j) = _
  rw [e]
section
variable {P:Program} {w:World} {K:PySem.W.Frag} {mg:Str→Option Value} {base:Heap}
inductive spBin (K:PySem.W.Frag) (vs : List V) (H : Hp) (Q : VK) (_e : XK) : Prop | mk (rr nr:Addr) (rs:List V) (rows:List Rw) (notes:List (Int × Int)) (nm:List Nat) : (vs = [.ref rr,.ref nr,.str (S nm)]) → SqL K H rr rs → (DatVs K H rs (rows.map rowDat)) → (DatV K H (.ref nr) (.list (notes.map noteDat))) → (rows.length ≤ 100) → ((∀ q ∈ rows,RowOk notes q)) → (Q (.int (fI (fnd notes nm rows))) H) → spBin K vs H Q _e
noncomputable abbrev st__law_bound_in:Stmt:=top 13
theorem sc__law_bound_in:FnScope ["_law_rows_here","_law_notes_here","_law_name","_law_k","_law_number","_law_part"] ["_law_rows_here","_law_notes_here","_law_name"] (defScope st__law_bound_in):=⟨rfl,rfl,rfl,by decide +kernel,rfl,by decide +kernel,by decide +kernel⟩
theorem def_bin (R:Raw K mg "_law_bound_in" st__law_bound_in ["_law_rows_here","_law_notes_here","_law_name"]) (T:Txt K w mg):Def P w K mg base 1 "_law_bound_in" ["_law_rows_here","_law_notes_here","_law_name"] (spBin K):=by
  refine R.defJ sc__law_bound_in (fun vs H Q E h=>?_) (fun f cdv A outer s H vs Q E hr h=>?_)
  · obtain ⟨rr,nr,rs,rows,notes,nm,rfl,_⟩:=h
    rfl
  · obtain ⟨rr,nr,rs,rows,notes,nm,rfl,hR,hRd,hN,hl,hok,q⟩:=h
    have sc:=sc__law_bound_in
    have hu:=hr.units
    have hb:=big
    obtain ⟨_,zs,e0,hNl,hNd⟩:=dat_list hN
    cases e0
    have hrl:rs.length = rows.length:=by have:=hRd.length; rw [List.length_map] at this; exact this
    refine ⟨_,(jss_cons (js_for PassesOwn.never rfl (ji_rng1 rfl T.n_range (ja_cons (j_callB (c_len (K:=K)) rfl T.n_len PySem.boot_len (ja_cons (jn 0) ja_nil)) ja_nil)) (jg_name (i:=3) sc.nd rfl (Or.inl rfl))
    (jss_cons (js_set (i:=4) sc.nd rfl (Or.inl rfl) (j_op o_sub (j_op o_sub (j_callB (c_len (K:=K)) rfl T.n_len PySem.boot_len (ja_cons (jn 0) ja_nil)) j_int) (jn 3)))
    (jss_cons (js_set (i:=5) sc.nd rfl (Or.inl rfl) (j_ix (o_ix hu (K:=K) (w:=w)) (j_ix (o_ix hu (K:=K) (w:=w)) (jn 1) (j_ix (o_ix hu (K:=K) (w:=w)) (j_ix (o_ix hu (K:=K) (w:=w)) (jn 0) (jn 4)) j_int)) j_int))
    (jss_one (js_if (jw_t (jw_and (jt_cmp o_ge (jn 5) j_int) (jw_and1 (jt_cmp (o_eq hu (K:=K)) (j_ix (o_ix hu (K:=K) (w:=w)) (j_ix (o_ix hu (K:=K) (w:=w)) (j_ix (o_ix hu (K:=K) (w:=w)) (j_ix (o_ix hu (K:=K) (w:=w)) (jn 0) (jn 4)) j_int) (jn 5)) j_int) (jn 2)))))
    (jss_one (js_ret (jn 4)))
    jss_nil)))))
    (jss_one (js_ret (j_neg j_int)))),?_⟩
    refine ⟨_,.inl hR,by lia,by lia,?_⟩
    refine for_range (n:=((rs.length:Nat):Int).toNat) (fun k σ H'=>H' = H∧fnd notes nm rows = fndT notes nm rows (rows.length - k)∧∃ v3 v4 v5,σ = [some (.ref rr),some (.ref nr),some (.str (S nm)),v3,v4,v5])
      ⟨rfl,rfl,none,none,none,rfl⟩ ?_ ?_
    · rintro k σ H' hk ⟨rfl,hf,v3,v4,v5,rfl⟩
      rw [Int.toNat_natCast] at hk
      have hj:rows.length - 1 - k < rows.length:=by lia
      have er:=List.getElem?_eq_getElem hj
      generalize rows[rows.length - 1 - k] = rq at er
      have rok:=hok rq (List.mem_of_getElem? er)
      obtain ⟨y,ey,hy⟩:=datvs_at hRd er
      obtain ⟨tr,bp,pv,rfl,hRT,hPL,hPD⟩:=dat_row hy
      have ein:((rs.length:Nat):Int) - 1 - (0 + ((k:Nat):Int)) = ((rows.length - 1 - k:Nat):Int):=by lia
      have hnr:notes[rq.r]? = some (notes.getD rq.r (-1,-1)):=by rw [List.getD,List.getElem?_eq_getElem rok.r]; rfl
      obtain ⟨ny,eny,hny⟩:=datvs_at hNd hnr
      obtain ⟨tn,rfl,hnt⟩:=dat_note hny
      have hf2:fnd notes nm rows = if bndOf notes rq = some nm then some (rows.length - 1 - k) else fndT notes nm rows (rows.length - (k + 1)):=by
        rw [hf,show rows.length - k = rows.length - 1 - k + 1 by lia,fnd_step er,show rows.length - 1 - k = rows.length - (k + 1) by lia]
      refine ⟨_,.inl hR,?_⟩
      have eyI:atI rs (((rs.length:Nat):Int) - 1 - (0 + ((k:Nat):Int))) = some (.ref tr):=by rw [ein]; exact atI_nat ey
      refine .inl ⟨_,_,hR,eyI,?_⟩
      refine .inr ⟨_,_,hRT,rfl,?_⟩
      refine .inl ⟨_,_,hNl,atI_nat eny,?_⟩
      refine .inr ⟨_,_,hnt,rfl,?_⟩
      dsimp only [gName]
      refine ifS_of (fun b H5=>H5 = H'∧b = decide (bndOf notes rq = some nm)) ?_ ?_ ?_
      · intro H5' hH5
        obtain ⟨e5,hE⟩:=hH5
        rw [e5]
        clear e5 H5'
        rw [if_pos (of_decide_eq_true hE.symm)] at hf2
        rw [hf2,show fI (some (rows.length - 1 - k)) = ((rs.length:Nat):Int) - 1 - (0 + ((k:Nat):Int)) from ein.symm] at q
        exact q
      · intro H5' hH5
        obtain ⟨e5,hE⟩:=hH5
        rw [e5]
        clear e5 H5'
        rw [if_neg (fun z=>by rw [decide_eq_true z] at hE; cases hE)] at hf2
        exact ⟨rfl,hf2,_,_,_,rfl⟩
      · intro hT hF
        show if decide ((0:Int) ≤ bPart notes rq) = true then _ else _
        by_cases hbp:0 ≤ bPart notes rq
        · rw [if_pos (decide_eq_true hbp)]
          obtain ⟨pi,s,epp,ebn⟩:=rok.bnd hbp
          obtain ⟨py,epy,hpy⟩:=datvs_at hPD epp
          obtain ⟨tpp,rfl,hpt⟩:=dat_part hpy
          have eix:atI pv (bPart notes rq) = some (.ref tpp):=by
            rw [show bPart notes rq = (((bPart notes rq).toNat:Nat):Int) by lia]
            exact atI_nat epy
          refine .inl ⟨_,_,hR,eyI,?_⟩
          refine .inr ⟨_,_,hRT,rfl,?_⟩
          refine .inl ⟨_,_,hPL,eix,?_⟩
          refine .inr ⟨_,_,hpt,rfl,?_⟩
          show if (false ^^ decide (S s = S nm)) = true then _ else _
          rw [Bool.false_xor]
          by_cases hs:s = nm
          · rw [if_pos (decide_eq_true (by rw [hs]))]
            exact hT _ ⟨rfl,by rw [ebn,hs,decide_eq_true rfl]⟩
          · rw [if_neg (fun z=>hs (S_inj (of_decide_eq_true z)))]
            exact hF _ ⟨rfl,by rw [ebn,decide_eq_false (fun z=>hs (Option.some.inj z))]⟩
        · rw [if_neg (fun z=>hbp (of_decide_eq_true z))]
          exact hF _ ⟨rfl,by rw [bnd_no hbp,decide_eq_false (fun z=>nomatch z)]⟩
    · rintro σ H' ⟨rfl,hf,v3,v4,v5,rfl⟩
      rw [Int.toNat_natCast,hrl,Nat.sub_self] at hf
      rw [hf] at q
      exact q
end
section
variable {P:Program} {w:World} {K:PySem.W.Frag} {mg:Str→Option Value} {base:Heap}
inductive spSees (K:PySem.W.Frag) (vs : List V) (H : Hp) (Q : VK) (_e : XK) : Prop | mk (sr:Addr) (n o:Nat) (sheet:List (Int × List Rw)) : (vs = [.ref sr,.int (n:Nat),.int (o:Nat)]) → (DatV K H (.ref sr) (.list (sheet.map pieDat))) → (n < sheet.length) → (o < sheet.length) → HolOk sheet → (Q (.bl (seesB sheet n o)) H) → spSees K vs H Q _e
noncomputable abbrev st__law_sees:Stmt:=top 14
theorem sc__law_sees:FnScope ["_law_sheet_here","_law_number","_law_other","_law_holder_here"] ["_law_sheet_here","_law_number","_law_other"] (defScope st__law_sees):=⟨rfl,rfl,rfl,by decide +kernel,rfl,by decide +kernel,by decide +kernel⟩
theorem def_sees (R:Raw K mg "_law_sees" st__law_sees ["_law_sheet_here","_law_number","_law_other"]) (T:Txt K w mg):Def P w K mg base 1 "_law_sees" ["_law_sheet_here","_law_number","_law_other"] (spSees K):=by
  refine R.defJ sc__law_sees (fun vs H Q E h=>?_) (fun f cdv A outer s H vs Q E hr h=>?_)
  · obtain ⟨sr,n,o,sheet,rfl,_⟩:=h
    rfl
  · obtain ⟨sr,n,o,sheet,rfl,hS,hn,ho,hk,q⟩:=h
    have sc:=sc__law_sees
    have hu:=hr.units
    have hb:=big
    obtain ⟨_,ys,e0,hSl,hSd⟩:=dat_list hS
    cases e0
    obtain ⟨tp,br,rs,ey,hT,_,_⟩:=sheet_at hSd hn
    obtain ⟨tp2,br2,rs2,ey2,hT2,_,_⟩:=sheet_at hSd ho
    have h0:=hk n hn
    refine ⟨_,(jss_cons (js_set (i:=3) sc.nd rfl (Or.inl rfl) (j_ix (o_ix hu (K:=K) (w:=w)) (j_ix (o_ix hu (K:=K) (w:=w)) (jn 0) (jn 1)) j_int))
    (jss_cons (js_while PassesOwn.never (jt_cmp o_ge (jn 3) j_int)
    (jss_cons (js_if (jt_cmp (o_eq hu (K:=K)) (j_ix (o_ix hu (K:=K) (w:=w)) (j_ix (o_ix hu (K:=K) (w:=w)) (jn 0) (jn 2)) j_int) (jn 3))
    (jss_one (js_ret j_bl))
    jss_nil)
    (jss_one (js_set (i:=3) sc.nd rfl (Or.inl rfl) (j_ix (o_ix hu (K:=K) (w:=w)) (j_ix (o_ix hu (K:=K) (w:=w)) (jn 0) (jn 3)) j_int)))))
    (jss_one (js_ret (j_cmp (o_eq hu (K:=K)) (j_ix (o_ix hu (K:=K) (w:=w)) (j_ix (o_ix hu (K:=K) (w:=w)) (jn 0) (jn 2)) j_int) (j_neg j_int)))))),?_⟩
    refine .inl ⟨_,_,hSl,atI_nat ey,?_⟩
    refine .inr ⟨_,_,hT,rfl,?_⟩
    refine ⟨fun m σ H'=>H' = H∧∃ h:Int,m = (h + 1).toNat∧-1 ≤ h∧h < (sheet.length:Int)∧seesB sheet n o = decide (hol sheet o = -1∨hol sheet o ∈ chain sheet h)∧σ = [some (.ref sr),some (.int (n:Nat)),some (.int (o:Nat)),some (.int h)],
      ⟨_,rfl,hol sheet n,rfl,h0.1,by lia,rfl,rfl⟩,?_⟩
    rintro m σ H' ⟨rfl,h,rfl,hlo,hhi,hx,rfl⟩
    show if decide ((0:Int) ≤ h) = true then _ else _
    refine ite2 (fun hc=>?_) (fun hc=>?_)
    · have h00:0 ≤ h:=of_decide_eq_true hc
      have h1:=hk h.toNat (by lia)
      obtain ⟨tp3,br3,rs3,ey3,hT3,_,_⟩:=sheet_at hSd (show h.toNat < sheet.length by lia)
      rw [chain_pos hk h00 hhi] at hx
      refine ⟨fun σ' H2=>H2 = H'∧seesB sheet n o = decide (hol sheet o = -1∨hol sheet o ∈ chain sheet (hol sheet h.toNat))∧σ' = [some (.ref sr),some (.int (n:Nat)),some (.int (o:Nat)),some (.int (hol sheet h.toNat))],?_,?_⟩
      · rintro σ' H2 ⟨rfl,a1,a2⟩
        exact ⟨_,by lia,rfl,hol sheet h.toNat,rfl,by lia,by lia,a1,a2⟩
      · refine .inl ⟨_,_,hSl,atI_nat ey2,?_⟩
        refine .inr ⟨_,_,hT2,rfl,?_⟩
        show if (false ^^ decide (hol sheet o = h)) = true then _ else _
        rw [Bool.false_xor]
        refine ite2 (fun e=>?_) (fun e=>?_)
        · have e':hol sheet o = h:=of_decide_eq_true e
          rw [hx,decide_eq_true (Or.inr (by rw [e']; exact List.mem_cons_self))] at q
          exact q
        · have e':¬ hol sheet o = h:=fun z=>e (decide_eq_true z)
          refine .inl ⟨_,_,hSl,(show atI ys h = some (.ref tp3) by rw [show h = ((h.toNat:Nat):Int) by lia]; exact atI_nat ey3),?_⟩
          refine .inr ⟨_,_,hT3,rfl,?_⟩
          refine ⟨rfl,?_,rfl⟩
          rw [hx]
          congr 1
          simp [e']
    · have h00:¬ 0 ≤ h:=fun z=>hc (decide_eq_true z)
      rw [chain_neg sheet (show h < 0 by lia)] at hx
      refine .inl ⟨_,_,hSl,atI_nat ey2,?_⟩
      refine .inr ⟨_,_,hT2,rfl,?_⟩
      show Q (.bl (false ^^ decide (hol sheet o = -1))) H'
      rw [Bool.false_xor]
      have e:seesB sheet n o = decide (hol sheet o = -1):=by rw [hx]; simp
      rw [e] at q
      exact q
inductive spHolr (K:PySem.W.Frag) (vs : List V) (H : Hp) (Q : VK) (_e : XK) : Prop | mk (sr:Addr) (x:Int) (ys:List V) (sheet:List (Int × List Rw)) : (vs = [.ref sr,.int x]) → SqL K H sr ys → (DatVs K H ys (sheet.map pieDat)) → (PyData.canLayAll0 (sheet.map pieDat) = true) → (sheet.length ≤ 100) → HolOk sheet → (∀ (H':Hp) (h:Int),Same H H'→-1 ≤ h→h < (sheet.length:Int)→Q (.int h) H') → spHolr K vs H Q _e
noncomputable abbrev st__law_holder:Stmt:=top 11
theorem sc__law_holder:FnScope ["_law_sheet_here","_law_number"] ["_law_sheet_here","_law_number"] (defScope st__law_holder):=⟨rfl,rfl,rfl,by decide +kernel,rfl,by decide +kernel,by decide +kernel⟩
theorem def_holr (R:Raw K mg "_law_holder" st__law_holder ["_law_sheet_here","_law_number"]) (T:Txt K w mg):Def P w K mg base 1 "_law_holder" ["_law_sheet_here","_law_number"] (spHolr K):=by
  refine R.defJ sc__law_holder (fun vs H Q E h=>?_) (fun f cdv A outer s H vs Q E hr h=>?_)
  · obtain ⟨sr,x,ys,sheet,rfl,_⟩:=h
    rfl
  · obtain ⟨sr,x,ys,sheet,rfl,hSl,hSd,hlay,hl,hk,q⟩:=h
    have sc:=sc__law_holder
    have hu:=hr.units
    have hb:=big
    have hyl:ys.length = sheet.length:=by have:=hSd.length; rw [List.length_map] at this; exact this
    refine ⟨_,(jss_cons (js_if (jw_t (jw_or (jt_cmp (o_eq hu (K:=K)) (j_op o_mod (jn 1) j_int) j_int) (jw_or1 (jt_cmp (o_eq hu (K:=K)) (jn 0) (j_lst ja_nil)))))
    (jss_one (js_ret (j_neg j_int)))
    jss_nil)
    (jss_cons (js_if (jt_cmp (o_eq hu (K:=K)) (j_op o_mod (jn 1) j_int) j_int)
    (jss_one (js_ret (j_op o_sub (j_callB (c_len (K:=K)) rfl T.n_len PySem.boot_len (ja_cons (jn 0) ja_nil)) j_int)))
    jss_nil)
    (jss_cons (js_if (jt_cmp (o_eq hu (K:=K)) (j_op o_mod (jn 1) j_int) j_int)
    (jss_one (js_ret (j_ix (o_ix hu (K:=K) (w:=w)) (j_ix (o_ix hu (K:=K) (w:=w)) (jn 0) (j_neg j_int)) j_int)))
    jss_nil)
    (jss_one (js_ret (j_op o_mod (j_op o_div (jn 1) j_int) (j_callB (c_len (K:=K)) rfl T.n_len PySem.boot_len (ja_cons (jn 0) ja_nil)))))))),?_⟩
    have lay1:(PyData.list (sheet.map pieDat)).canLay0 = true:=by simp only [PyData.canLay0]; exact hlay
    have lay2:(PyData.list []).canLay0 = true:=by simp only [PyData.canLay0,PyData.canLayAll0]
    have dep:min (PyData.list (sheet.map pieDat)).depth (PyData.list []).depth ≤ 60:=by
      have:(PyData.list []).depth ≤ 60:=by simp only [PyData.depth,PyData.depthAll]; lia
      lia
    refine ifS_of (fun b H5=>Same H H5∧(b = false→sheet ≠ [])) ?_ ?_ ?_
    · intro H5 hh
      exact q H5 (-1) hh.1 (by lia) (by lia)
    · intro H5 hh
      obtain ⟨s5,hne⟩:=hh
      have hne:=hne rfl
      have hpos:0 < sheet.length:=List.length_pos_iff.mpr hne
      refine ⟨by decide,?_⟩
      show if (false ^^ decide (x % 4 = 1)) = true then _ else _
      rw [Bool.false_xor]
      refine ite2 (fun e=>?_) (fun e=>?_)
      · refine ⟨_,.inl (s5.seq hSl),?_⟩
        exact q H5 _ s5 (by lia) (by lia)
      · refine ⟨by decide,?_⟩
        show if (false ^^ decide (x % 4 = 2)) = true then _ else _
        rw [Bool.false_xor]
        refine ite2 (fun e=>?_) (fun e=>?_)
        · obtain ⟨tp,br,rs,ey,hT,_,_⟩:=sheet_at hSd (show sheet.length - 1 < sheet.length by lia)
          have h1:=hk (sheet.length - 1) (by lia)
          refine .inl ⟨_,_,s5.seq hSl,atI_last (by rw [hyl]; exact ey),?_⟩
          refine .inr ⟨_,_,s5.seqT hT,rfl,?_⟩
          exact q H5 _ s5 h1.1 (by lia)
        · refine ⟨⟨by decide,by decide⟩,_,.inl (s5.seq hSl),by lia,?_⟩
          have h1:=Int.emod_nonneg (x / 4) (show ((ys.length:Nat):Int) ≠ 0 by lia)
          have h2:=Int.emod_lt_of_pos (x / 4) (show 0 < ((ys.length:Nat):Int) by lia)
          exact q H5 _ s5 (by lia) (by lia)
    · intro hT hF
      refine ⟨by decide,?_⟩
      show if (false ^^ decide (x % 4 = 0)) = true then _ else _
      rw [Bool.false_xor]
      refine ite2 (fun e=>?_) (fun e=>?_)
      · exact hT _ ⟨Same.refl _,(fun z=>nomatch z)⟩
      · refine ⟨(show 0 ≤ sizeLine by decide),fun p5 hp5=>?_⟩
        have s5:Same H (upd H p5 (.lst [])):=same_new hp5
        refine ⟨.list (sheet.map pieDat),.list [],.list (s5.seq hSl) (hSd.same s5),.list (SqL.of upd_same) .nil,lay1,lay2,dep,?_⟩
        rw [eqv_nil]
        cases hsh:sheet with
        | nil=>exact hT _ ⟨s5,(fun z=>nomatch z)⟩
        | cons a r=>exact hF _ ⟨s5,fun _ z=>by rw [hsh] at z; cases z⟩
end
end K75
namespace K75
open PySem PySem.Spec PyProof.Rows L2 Rg
noncomputable abbrev st_law:Stmt:=top 22
theorem sc_law:FnScope ["_law_script","_law_names_here","_law_notes_here","_law_first","_law_step_here","_law_cells","_law_sheet_here","_law_judge","_law_answers","_law_record","_law_turn","_law_cell","_law_rows_here","_law_kinds","_law_asked"] ["_law_script"] (defScope st_law):=⟨rfl,rfl,rfl,by decide +kernel,rfl,by decide +kernel,by decide +kernel⟩
noncomputable abbrev st_law__law_judge:Stmt:=(defBody st_law).getD 7 (.Pass ⟨0,0,0,0⟩)
theorem sn_law__law_judge:CloScope ["_law_rule","_law_given","_law_found_here"] [] ["_law_asked"] (defScope st_law__law_judge):=⟨rfl,rfl,rfl,by decide +kernel,by decide +kernel,by decide +kernel,by decide +kernel,by decide +kernel⟩
noncomputable abbrev q_law__law_judge:Str:=(("law":Str) ++ ".<locals>.") ++ "_law_judge"
noncomputable abbrev qs_law__law_judge:List (Pos × Str):=[(ndPos st_law__law_judge,q_law__law_judge)]
noncomputable abbrev fr_judge:List Str:=["_law_asked"]
structure ClsT (K:PySem.W.Frag) (mg:Str→Option Value) (C:Addr):Prop where
  cls:Cls K C
  na_notes:NoAttr K C "notes"
  na_judge:NoAttr K C "judge"
  na_judged:NoAttr K C "judged"
  mkc:MkC K mg "Answers" C
noncomputable def flds (nr f jd:Addr):List (Str × V):=[("notes",.ref nr),("judge",.ref f),("judged",.ref jd)]
noncomputable def TxOk (t:List Nat):Prop:=(∀ c ∈ t,c < 1114112)∧t.length ≤ 1000
structure EOk (e:E3):Prop where
  r:e.1 < 1000
  n:e.2.1.length ≤ 3
  g:∀ t ∈ e.2.1,TxOk t
  f:∀ t,e.2.2 = some t→TxOk t
noncomputable def txs (gl:List (List Nat)):List V:=gl.map fun t=>V.str (S t)
noncomputable def askDat3 (e:E3):PyData:=.tuple [.int (e.1:Nat),.list (e.2.1.map fun t=>.str (S t)),txtD e.2.2]
noncomputable def entDat (e:E3):PyData:=.tuple [.int (e.1:Nat),.tuple (e.2.1.map fun t=>.str (S t)),txtD e.2.2]
theorem txs_dat {K:PySem.W.Frag} {H:Hp}:∀ gl:List (List Nat),DatVs K H (txs gl) (gl.map fun t=>.str (S t))
  | []=>.nil
  | t :: r=>.cons (.str _) (txs_dat r)
theorem strOk_tx {t:List Nat} (h:TxOk t):PyData.strOk (S t) = true:=by
  unfold PyData.strOk
  rw [Array.all_eq_true']
  intro c hc
  exact decide_eq_true (h.1 c (by simpa using hc))
theorem txs_lay:∀ {gl:List (List Nat)},(∀ t ∈ gl,TxOk t)→PyData.canLayAll0 (gl.map fun t=>PyData.str (S t)) = true
  | [],_=>rfl
  | t :: r,h=>by
    show (PyData.canLay0 (.str (S t)) && PyData.canLayAll0 (r.map fun t=>PyData.str (S t))) = true
    rw [txs_lay fun t ht=>h t (List.mem_cons_of_mem _ ht),Bool.and_true]
    show PyData.strOk (S t) = true
    exact strOk_tx (h t List.mem_cons_self)
theorem txt_lay3 {o:Option (List Nat)} (h:∀ t,o = some t→TxOk t):(txtD o).canLay0 = true:=by
  cases o with
  | none=>rfl
  | some t=>exact strOk_tx (h t rfl)
theorem ent_lay {e:E3} (h:EOk e):(entDat e).canLay0 = true:=by
  show (true && (PyData.canLayAll0 (e.2.1.map fun t=>PyData.str (S t)) && ((txtD e.2.2).canLay0 && true))) = true
  rw [txs_lay h.g,txt_lay3 h.f]
  rfl
theorem txs_depth:∀ gl:List (List Nat),PyData.depthAll (gl.map fun t=>PyData.str (S t)) ≤ 1
  | []=>by decide
  | t :: r=>by
    show max (PyData.str (S t)).depth (PyData.depthAll (r.map fun t=>PyData.str (S t))) ≤ 1
    have:=txs_depth r
    have h:(PyData.str (S t)).depth ≤ 1:=by simp [PyData.depth]
    lia
theorem ent_depth (e:E3):(entDat e).depth ≤ 10:=by
  have h1:=txs_depth e.2.1
  have h2:(txtD e.2.2).depth ≤ 1:=by cases e.2.2 <;> simp [txtD,PyData.depth]
  simp only [entDat,PyData.depth,PyData.depthAll]
  lia
theorem txs_eqv:∀ a b:List (List Nat),PyData.eqvAll (a.map fun t=>PyData.str (S t)) (b.map fun t=>PyData.str (S t)) = decide (a = b)
  | [],[]=>rfl
  | [],_ :: _=>rfl
  | _ :: _,[]=>rfl
  | t :: r,u :: v=>by
    rw [List.map_cons,List.map_cons,PyData.eqvAll,txs_eqv r v]
    simp only [PyData.eqv]
    by_cases h:t = u
    · subst h; simp
    · have:¬ S t = S u:=fun z=>h (S_inj z)
      simp [h,this]
theorem ent_eqv (a b:E3):PyData.eqv (entDat a) (entDat b) = decide (a = b):=by
  obtain ⟨r,g,f⟩:=a
  obtain ⟨r',g',f'⟩:=b
  have hf:PyData.eqv (txtD f) (txtD f') = decide (f = f'):=by
    cases f with
    | none=>cases f' <;> simp [txtD,PyData.eqv]
    | some a =>
      cases f' with
      | none=>simp [txtD,PyData.eqv]
      | some b =>
        simp only [txtD,PyData.eqv]
        by_cases h:a = b
        · subst h; simp
        · have:¬ S a = S b:=fun z=>h (S_inj z)
          simp [h,this]
  have hr:(((r:Nat):Int) == ((r':Nat):Int)) = decide (r = r'):=by
    by_cases h:r = r'
    · subst h; simp
    · have:¬ ((r:Nat):Int) = ((r':Nat):Int):=fun z=>h (by lia)
      simp [h,this]
  simp only [entDat,PyData.eqv,PyData.eqvAll,txs_eqv,hf,hr]
  by_cases h1:r = r' <;> by_cases h2:g = g' <;> by_cases h3:f = f' <;> simp [h1,h2,h3]
inductive EntV (kf:E3→List Nat) (H:Hp) (v:V) (e:E3) : Prop | mk (t : _) (tg : _) : (v = .ref t) → (H t = some (.tup [.int (e.1:Nat),.ref tg,txtV e.2.2,.str (S (kf e))])) → (H tg = some (.tup (txs e.2.1))) → EntV kf H v e
theorem EntV.mono {kf:E3→List Nat} {H H':Hp} {v:V} {e:E3} (h:EntV kf H v e) (s:∀ t vs,H t = some (.tup vs)→H' t = some (.tup vs)):EntV kf H' v e :=
  let ⟨t,tg,h1,h2,h3⟩:=h; ⟨t,tg,h1,s _ _ h2,s _ _ h3⟩
structure JdI (kf:E3→List Nat) (H:Hp) (jd:Addr) (pv:Int→Option E3) (n:Nat):Prop where
  ex:∃ kvs,H jd = some (.dK kvs)∧kvs.length ≤ n∧(∀ m,pv m = none→valV kvs (Sum.inl m) = none)∧∀ m e,pv m = some e→∃ v,valV kvs (Sum.inl m) = some v∧EntV kf H v e
theorem JdI.mono {kf:E3→List Nat} {H H':Hp} {jd:Addr} {pv:Int→Option E3} {n:Nat} (h:JdI kf H jd pv n) (e:H' jd = H jd) (s:∀ t vs,H t = some (.tup vs)→H' t = some (.tup vs)):JdI kf H' jd pv n :=
  let ⟨kvs,h1,h2,h3,h4⟩:=h.ex; ⟨kvs,e.trans h1,h2,h3,fun m x q=>let ⟨v,a,b⟩:=h4 m x q; ⟨v,a,b.mono s⟩⟩
structure AskI (K:PySem.W.Frag) (H:Hp) (f:Addr) (X:List Addr) (al:Addr) (as:List E3):Prop where
  clo:∃ cs,CloAt H f "_law_judge" q_law__law_judge st_law__law_judge fr_judge cs [.ref al]
  lst:∃ ys,H al = some (.lst ys)∧DatVs K (rem (al :: X) H) ys (as.map askDat3)
  xs:∀ c ∈ X,∃ u,H c = some u∧∀ o,u ≠ .frz o anyHO
section
variable {K:PySem.W.Frag} {H H':Hp} {f al:Addr} {X:List Addr} {as:List E3}
theorem AskI.len (h:AskI K H f X al as):∃ ys,H al = some (.lst ys)∧ys.length = as.length:=by
  obtain ⟨ys,h1,h2⟩:=h.lst
  exact ⟨ys,h1,by have:=h2.length; rw [List.length_map] at this; exact this⟩
theorem AskI.kn (h:AskI K H f X al as) (s:SmB al H H'):∀ b o,Kn H b o→Kn H' b o:=fun b o k=>by
  obtain ⟨ys,h1,_⟩:=h.lst
  refine s b _ (fun z=>?_) k
  have k':H b = some (.frz o anyHO):=k
  rw [z,h1] at k'
  cases k'
theorem SmB.remX (s:SmB al H H'):Same (rem (al :: X) H) (rem (al :: X) H'):=fun b u e=>by
  have nb:b ∉ al :: X:=fun m=>by rw [rem_in m] at e; cases e
  rw [rem_out nb] at e ⊢
  exact s b u (fun z=>nb (by rw [z]; exact List.mem_cons_self)) e
theorem AskI.same (h:AskI K H f X al as) (s:SmB al H H') (e:H' al = H al):AskI K H' f X al as:=by
  obtain ⟨cs,C⟩:=h.clo
  obtain ⟨ys,h1,h2⟩:=h.lst
  refine ⟨⟨cs,C.same (h.kn s)⟩,⟨ys,e.trans h1,h2.same (SmB.remX s)⟩,fun c m=>?_⟩
  obtain ⟨l,q,n⟩:=h.xs c m
  by_cases z:c = al
  · exact ⟨.lst ys,by rw [z]; exact e.trans h1,fun o y=>by cases y⟩
  · exact ⟨l,s _ _ z q,n⟩
theorem AskI.grow (h:AskI K H f X al as) (s:Same H H'):AskI K H' f X al as:=by
  obtain ⟨ys,h1,_⟩:=h.len
  exact h.same (.of s) (by rw [h1,s _ _ h1])
theorem AskI.ne (h:AskI K H f X al as) {b:Addr} {u:HO} (e:H b = some u) (n:∀ xs,u ≠ .lst xs):b ≠ al:=fun z=>by
  obtain ⟨ys,h1,_⟩:=h.len
  rw [z,h1] at e
  exact n _ (Option.some.inj e).symm
theorem AskI.put (h:AskI K H f X al as) {c:Addr} {u:HO} (m:c ∈ X) (n:c ≠ al) (hu:∀ o,u ≠ .frz o anyHO):AskI K (upd H c u) f X al as:=by
  obtain ⟨cs,C⟩:=h.clo
  obtain ⟨ys,h1,h2⟩:=h.lst
  obtain ⟨l0,hc,hn⟩:=h.xs c m
  refine ⟨⟨cs,C.same fun b o k=>?_⟩,⟨ys,by rw [upd_ne n.symm]; exact h1,by rw [rem_upd_in (List.mem_cons_of_mem _ m)]; exact h2⟩,fun b mb=>?_⟩
  · have k':H b = some (.frz o anyHO):=k
    show upd H c u b = _
    rw [upd_ne fun z=>by rw [z,hc] at k'; exact hn o (Option.some.inj k')]; exact k
  · by_cases z:b = c
    · exact ⟨u,by rw [z]; exact upd_same,hu⟩
    · obtain ⟨l2,q,n2⟩:=h.xs b mb
      exact ⟨l2,by rw [upd_ne z]; exact q,n2⟩
theorem AskI.putO (h:AskI K H f X al as) {c:Addr} {u u':HO} (hc:H c = some u) (h1:∀ xs,u ≠ .lst xs) (h2:∀ xs,u ≠ .tup xs) (h3:∀ o x,u ≠ .frz o x) (hu:∀ o,u' ≠ .frz o anyHO):AskI K (upd H c u') f X al as:=by
  obtain ⟨cs,C⟩:=h.clo
  obtain ⟨ys,y1,y2⟩:=h.lst
  have up:∀ {b:Addr} {x:HO},x ≠ u→H b = some x→upd H c u' b = some x:=fun {b x} n e=>by
    rw [upd_ne fun z=>by rw [z,hc] at e; exact n (Option.some.inj e).symm]; exact e
  have rr:∀ {b:Addr} {x:HO},x ≠ u→rem (al :: X) H b = some x→rem (al :: X) (upd H c u') b = some x:=fun {b x} n e=>by
    have nb:b ∉ al :: X:=fun m=>by rw [rem_in m] at e; cases e
    rw [rem_out nb] at e ⊢
    exact up n e
  refine ⟨⟨cs,C.same fun b o k=>up (fun z=>h3 _ _ z.symm) k⟩,⟨ys,up (fun z=>h1 _ z.symm) y1,y2.sameD ⟨fun b xs e=>rr (fun z=>h1 _ z.symm) e,fun b xs e=>rr (fun z=>h2 _ z.symm) e,fun b o x e=>rr (fun z=>h3 _ _ z.symm) e,fun b o x e=>rr (fun z=>h3 _ _ z.symm) e⟩⟩,fun b m=>?_⟩
  by_cases z:b = c
  · exact ⟨u',by rw [z]; exact upd_same,hu⟩
  · obtain ⟨l,q,n⟩:=h.xs b m
    exact ⟨l,by rw [upd_ne z]; exact q,n⟩
theorem AskI.more (h:AskI K H f X al as) {c:Addr} {u:HO} (hc:H c = none) (hu:∀ o,u ≠ .frz o anyHO):AskI K (upd H c u) f (c :: X) al as:=by
  have g:=h.grow (same_new (o:=u) hc)
  obtain ⟨ys,h1,h2⟩:=h.lst
  have nc:al ≠ c:=fun z=>by rw [z,hc] at h1; cases h1
  refine ⟨g.clo,⟨ys,by rw [upd_ne nc]; exact h1,h2.same fun b u e=>?_⟩,fun b m=>?_⟩
  · have nb:b ∉ al :: X:=fun m=>by rw [rem_in m] at e; cases e
    rw [rem_out nb] at e
    have nbc:b ≠ c:=fun z=>by rw [z,hc] at e; cases e
    rw [rem_out (by intro m; rcases List.mem_cons.mp m with z | z; exact nb (by rw [z]; exact List.mem_cons_self); rcases List.mem_cons.mp z with z | z; exact nbc z; exact nb (List.mem_cons_of_mem _ z)),upd_ne nbc]
    exact e
  · rcases List.mem_cons.mp m with z | z
    · exact ⟨u,by rw [z]; exact upd_same,hu⟩
    · exact g.xs b z
theorem AskI.less {c:Addr} (h:AskI K H f (c :: X) al as):AskI K H f X al as:=by
  obtain ⟨ys,h1,h2⟩:=h.lst
  refine ⟨h.clo,⟨ys,h1,h2.same fun b u e=>?_⟩,fun b m=>h.xs b (List.mem_cons_of_mem _ m)⟩
  have nb:b ∉ al :: c :: X:=fun m=>by rw [rem_in m] at e; cases e
  rw [rem_out nb] at e
  rw [rem_out fun m=>nb (by rcases List.mem_cons.mp m with z | z; exact List.mem_cons.mpr (.inl z); exact List.mem_cons_of_mem _ (List.mem_cons_of_mem _ z))]
  exact e
end
inductive spJ (kf:E3→List Nat) (K:PySem.W.Frag) (f:Addr) (vs : List V) (H : Hp) (Q : VK) (_e : XK) : Prop | mk (g al:Addr) (X:List Addr) (e:E3) (as:List E3) : (vs = [.int (e.1:Nat),.ref g,txtV e.2.2]) → (H g = some (.lst (txs e.2.1))) → (g ≠ al) → (AskI K H f (g :: X) al as) → (as.length ≤ 200000) → EOk e → (∀ H',(∀ b u,b ≠ al→b ≠ g→H b = some u→H' b = some u)→AskI K H' f (g :: X) al (as ++ [e])→Q (.str (S (kf e))) H') → spJ kf K f vs H Q _e
section
variable {P:Program} {w:World} {K:PySem.W.Frag} {mg:Str→Option Value} {base:Heap} {C:Addr} {kf:E3→List Nat}
inductive spNA (K:PySem.W.Frag) (C:Addr) (vs : List V) (H : Hp) (Q : VK) (_e : XK) : Prop | mk (a dx nr f jd pb:Addr) (notes:List (Int × Int)) (q:Rw) (zs pv:List V) : (vs = [.ref a,.int (q.r:Nat),.ref pb]) → (H a = some (.ins C dx (flds nr f jd))) → SqL K H nr zs → (DatVs K H zs (notes.map noteDat)) → SqL K H pb pv → (DatVs K H pv (q.ps.map partDat)) → (q.r < notes.length) → AskOk notes q → (Q (txtV (nameF notes q)) H) → spNA K C vs H Q _e
noncomputable abbrev st_Answers_name_asked:Stmt:=(clsBody (top 5)).getD 2 (.Pass ⟨0,0,0,0⟩)
theorem sc_Answers_name_asked:FnScope ["self","rule","parts","asked"] ["self","rule","parts"] (defScope st_Answers_name_asked):=⟨rfl,rfl,rfl,by decide +kernel,rfl,by decide +kernel,by decide +kernel⟩
theorem def_na (TC:ClsT K mg C) (R:RawM K C "name_asked" "Answers.name_asked" st_Answers_name_asked ["self","rule","parts"]):DefM P w K mg base 1 C "name_asked" ["self","rule","parts"] (spNA K C):=by
  refine R.defJ sc_Answers_name_asked (fun vs H Q E h=>?_) (fun f cdv A outer s H vs Q E hr h=>?_)
  · obtain ⟨a,dx,nr,f,jd,pb,notes,q,zs,pv,rfl,_⟩:=h
    rfl
  · obtain ⟨a,dx,nr,f,jd,pb,notes,q,zs,pv,rfl,ha,hN,hNd,hP,hPd,hr',hok,hq⟩:=h
    have sc:=sc_Answers_name_asked
    have hu:=hr.units
    refine ⟨_,(jss_cons (js_set (i:=3) sc.nd rfl (Or.inl rfl) (j_ix (o_ixA hu (K:=K) (w:=w)) (j_ix (o_ixA hu (K:=K) (w:=w)) (j_fld TC.cls TC.na_notes (jn 0)) (jn 1)) j_int))
    (jss_one (js_ret (j_ife (jt_cmp o_ge (jn 3) j_int) (j_ix (o_ixA hu (K:=K) (w:=w)) (j_ix (o_ixA hu (K:=K) (w:=w)) (jn 2) (jn 3)) j_int) j_non)))),?_⟩
    have hnr:notes[q.r]? = some (notes.getD q.r (-1,-1)):=by rw [List.getD,List.getElem?_eq_getElem hr']; rfl
    obtain ⟨ny,eny,hny⟩:=datvs_at hNd hnr
    obtain ⟨tn,rfl,hnt⟩:=dat_note hny
    refine ⟨dx,_,ha,.ref nr,rfl,?_⟩
    refine .inl ⟨_,_,hN,atI_nat eny,?_⟩
    refine .inr (.inl ⟨_,_,hnt,rfl,?_⟩)
    show if decide ((0:Int) ≤ aPart notes q) = true then _ else _
    refine ite2 (fun h=>?_) (fun h=>?_)
    · have hb:0 ≤ aPart notes q:=of_decide_eq_true h
      obtain ⟨pi,nm,epp,en⟩:=name_yes hok hb
      rw [en] at hq
      obtain ⟨py,epy,hpy⟩:=datvs_at hPd epp
      obtain ⟨tpp,rfl,hpt⟩:=dat_part hpy
      have eix:atI pv (aPart notes q) = some (.ref tpp):=by
        rw [show aPart notes q = (((aPart notes q).toNat:Nat):Int) by lia]
        exact atI_nat epy
      refine .inl ⟨_,_,hP,eix,?_⟩
      exact .inr (.inl ⟨_,_,hpt,rfl,hq⟩)
    · have hb:¬ 0 ≤ aPart notes q:=fun z=>h (decide_eq_true z)
      rw [name_no hb] at hq
      exact hq
inductive spJR (kf:E3→List Nat) (K:PySem.W.Frag) (C:Addr) (vs : List V) (H : Hp) (Q : VK) (_e : XK) : Prop | mk (a dx nr f jd tg al:Addr) (X:List Addr) (m:Int) (e:E3) (pv:Int→Option E3) (n:Nat) (as:List E3) : (vs = [.ref a,.int m,.int (e.1:Nat),.ref tg,txtV e.2.2]) → (H a = some (.ins C dx (flds nr f jd))) → JdI kf H jd pv n → (H tg = some (.tup (txs e.2.1))) → AskI K H f X al as → (as.length ≤ 200000) → EOk e → ((∀ m e,pv m = some e→EOk e)) → (∀ H' v,SmB al H H'→AskI K H' f X al (as ++ if pv m = some e then [] else [e])→EntV kf H' v e→Q v H') → spJR kf K C vs H Q _e
noncomputable abbrev st_Answers_judged_row:Stmt:=(clsBody (top 5)).getD 3 (.Pass ⟨0,0,0,0⟩)
theorem sc_Answers_judged_row:FnScope ["self","mark","rule","given","found","before","judge"] ["self","mark","rule","given","found"] (defScope st_Answers_judged_row):=⟨rfl,rfl,rfl,by decide +kernel,rfl,by decide +kernel,by decide +kernel⟩
theorem def_jr (TC:ClsT K mg C) (T:Txt K w mg) (R:RawM K C "judged_row" "Answers.judged_row" st_Answers_judged_row ["self","mark","rule","given","found"]) (FV_judge:∀ f,FnV P w K mg base 2 f (spJ kf K f)):DefM P w K mg base 3 C "judged_row" ["self","mark","rule","given","found"] (spJR kf K C):=by
  refine R.defJ sc_Answers_judged_row (fun vs H Q E h=>?_) (fun f cdv A outer s H vs Q E hr h=>?_)
  · obtain ⟨a,dx,nr,f,jd,tg,al,X,m,e,pv,n,as,rfl,_⟩:=h
    rfl
  · obtain ⟨a,dx,nr,jf,jd,tg,al,X,m,e,pv,n,as,rfl,ha,hJ,hg,hA,has,he,hpv,q⟩:=h
    have sc:=sc_Answers_judged_row
    have hu:=hr.units
    have hb:=big
    obtain ⟨u2, hP2, hq2⟩ : ∃ u, JSs (cxOf CX0 P w K mg base ["self", "mark", "rule", "given", "found", "before", "judge"] "Answers.judged_row" (defScope st_Answers_judged_row) f cdv A outer s H E).nox ((defBody st_Answers_judged_row).drop 2) u ∧
        ∀ (H1:Hp) (v5:V),Same H H1→¬ pv m = some e→u { nx:=fun _ H'=>Q .non H',rt:=Q } [some (.ref a),some (.int m),some (.int (e.1:Nat)),some (.ref tg),some (txtV e.2.2),some v5,none] H1:=by
      refine ⟨_,(jss_cons (js_set (i:=6) sc.nd rfl (Or.inl rfl) (j_fld TC.cls TC.na_judge (jn 0)))
    (jss_one (js_ret (j_tup (ja_cons (jn 2) (ja_cons (jn 3) (ja_cons (jn 4) (ja_cons (j_callV 6 FV_judge (hr.mono (by decide)) (ja_cons (jn 2) (ja_cons (j_callTy (c_list (K:=K)) rfl T.n_list boot_list (ja_cons (jn 3) ja_nil)) (ja_cons (jn 4) ja_nil)))) ja_nil)))))))),?_⟩
      intro H1 v5 s1 hne
      refine ⟨dx,_,s1 _ _ ha,.ref jf,rfl,?_⟩
      refine ⟨_,.inr (SqT.of (s1 _ _ hg)),fun g2 hg2=>?_⟩
      have s2:Same H1 (upd H1 g2 (.lst (txs e.2.1))):=same_new hg2
      have h2:upd H1 g2 (.lst (txs e.2.1)) g2 = some (.lst (txs e.2.1)):=upd_same
      have hA2:=(hA.grow s1).more (u:=.lst (txs e.2.1)) hg2 (fun o z=>by cases z)
      generalize upd H1 g2 (.lst (txs e.2.1)) = H2 at s2 h2 hA2 ⊢
      have n2:g2 ≠ al:=fun z=>by
        obtain ⟨ys,h3,_⟩:=(hA.grow s1).len
        rw [z,h3] at hg2
        cases hg2
      refine ⟨g2,al,X,e,as,rfl,h2,n2,hA2,has,he,fun H3 k3 hA3=>?_⟩
      refine ⟨(show 4 ≤ sizeLine by decide),fun t4 ht4=>?_⟩
      have s4:Same H3 (upd H3 t4 (.tup [.int (e.1:Nat),.ref tg,txtV e.2.2,.str (S (kf e))])):=same_new ht4
      have h4:upd H3 t4 (.tup [.int (e.1:Nat),.ref tg,txtV e.2.2,.str (S (kf e))]) t4 = some (.tup [.int (e.1:Nat),.ref tg,txtV e.2.2,.str (S (kf e))]):=upd_same
      generalize upd H3 t4 (.tup [.int (e.1:Nat),.ref tg,txtV e.2.2,.str (S (kf e))]) = H4 at s4 h4 ⊢
      have k2:∀ b u,b ≠ al→H b = some u→H3 b = some u:=fun b u n e'=>k3 b u n (fun z=>by have:=s1 _ _ e'; rw [z,hg2] at this; cases this) (s2 _ _ (s1 _ _ e'))
      refine q H4 _ (fun b u n e'=>s4 _ _ (k2 b u n e')) ?_ ⟨t4,tg,rfl,h4,s4 _ _ (k2 tg _ (hA.ne hg fun xs z=>by cases z) hg)⟩
      rw [if_neg hne]
      exact hA3.less.grow s4
    refine ⟨_,(jss_cons (js_set (i:=5) sc.nd rfl (Or.inl rfl) (j_dget1 hu (j_fld TC.cls TC.na_judged (jn 0)) (jn 1)))
    (jss_cons (js_if (jw_t (jw_and (jt_cmp o_isnot (jn 5) j_non) (jw_and1 (jt_cmp (o_eq hu (K:=K)) (j_slice (o_slA (K:=K)) (jn 5) jo_none (jo_some j_int)) (j_tup (ja_cons (jn 2) (ja_cons (jn 3) (ja_cons (jn 4) ja_nil))))))))
    (jss_one (js_ret (jn 5)))
    jss_nil)
    hP2)),?_⟩
    obtain ⟨kvs,hk1,hk2,hk3,hk4⟩:=hJ.ex
    refine ⟨dx,_,ha,.ref jd,rfl,IsD.kd hk1,_,DGet.ik hk1 rfl,?_⟩
    cases hp:pv m with
    | none =>
      rw [hk3 m hp]
      exact hq2 H _ (Same.refl _) (by rw [hp]; exact fun z=>nomatch z)
    | some e' =>
      obtain ⟨v,ev,t,tg',rfl,ht,htg⟩:=hk4 m e' hp
      rw [ev]
      refine .inr ⟨_,SqT.of ht,fun z=>absurd (show (3:Nat) = 4 from z.2) (by decide),fun p1 hp1=>?_⟩
      have s1:Same H (upd H p1 (.tup [.int (e'.1:Nat),.ref tg',txtV e'.2.2])):=same_new hp1
      have h1:upd H p1 (.tup [.int (e'.1:Nat),.ref tg',txtV e'.2.2]) p1 = some (.tup [.int (e'.1:Nat),.ref tg',txtV e'.2.2]):=upd_same
      have eH:upd H p1 (.tup (cutV [.int (e'.1:Nat),.ref tg',txtV e'.2.2,.str (S (kf e'))] none (some 3))) = upd H p1 (.tup [.int (e'.1:Nat),.ref tg',txtV e'.2.2]):=rfl
      rw [eH]
      generalize upd H p1 (.tup [.int (e'.1:Nat),.ref tg',txtV e'.2.2]) = H1 at s1 h1 ⊢
      refine ⟨(show 3 ≤ sizeLine by decide),fun p2 hp2=>?_⟩
      have s2:Same H1 (upd H1 p2 (.tup [.int (e.1:Nat),.ref tg,txtV e.2.2])):=same_new hp2
      have h2:upd H1 p2 (.tup [.int (e.1:Nat),.ref tg,txtV e.2.2]) p2 = some (.tup [.int (e.1:Nat),.ref tg,txtV e.2.2]):=upd_same
      generalize upd H1 p2 (.tup [.int (e.1:Nat),.ref tg,txtV e.2.2]) = H2 at s2 h2 ⊢
      have s12:=s1.trans s2
      have d1:DatV K H2 (.ref p1) (entDat e'):=.tuple (SqT.of (s2 _ _ h1)) (.cons (.int _) (.cons (.tuple (SqT.of (s12 _ _ htg)) (txs_dat _)) (.cons (txt_dat _) .nil)))
      have d2:DatV K H2 (.ref p2) (entDat e):=.tuple (SqT.of h2) (.cons (.int _) (.cons (.tuple (SqT.of (s12 _ _ hg)) (txs_dat _)) (.cons (txt_dat _) .nil)))
      have hd1:=ent_depth e'
      refine ⟨_,_,d1,d2,ent_lay (hpv m e' hp),ent_lay he,by lia,?_⟩
      show if (false ^^ PyData.eqv (entDat e') (entDat e)) = true then _ else _
      rw [Bool.false_xor,ent_eqv]
      refine ite2 (fun h=>?_) (fun h=>?_)
      · have hee:e' = e:=of_decide_eq_true h
        subst hee
        refine q H2 _ (.of s12) ?_ ⟨t,tg',rfl,s12 _ _ ht,s12 _ _ htg⟩
        rw [if_pos hp,List.append_nil]
        exact hA.grow s12
      · have hee:¬ e' = e:=fun z=>h (decide_eq_true z)
        exact hq2 H2 _ s12 (by rw [hp]; exact fun z=>hee (Option.some.inj z))
end
end K75
namespace K75
open PySem PySem.Spec PyProof.Rows L2 Rg
section
variable {P:Program} {w:World} {K:PySem.W.Frag} {mg:Str→Option Value} {base:Heap} {C:Addr} {kf:E3→List Nat}
inductive spInit (K:PySem.W.Frag) (C:Addr) (vs : List V) (H : Hp) (Q : VK) (_e : XK) : Prop | mk (a dx n0 f:Addr) (zs:List V) : (vs = [.ref a,.ref n0,.ref f]) → (H a = some (.ins C dx [])) → SqL K H n0 zs → (∀ H' nr jd,(∀ b u,b ≠ a→H b = some u→H' b = some u)→H nr = none→H' nr = some (.lst zs)→H' jd = some (.dK [])→H' a = some (.ins C dx (flds nr f jd))→Q .non H') → spInit K C vs H Q _e
noncomputable abbrev st_Answers___init__:Stmt:=(clsBody (top 5)).getD 0 (.Pass ⟨0,0,0,0⟩)
theorem sc_Answers___init__:FnScope ["self","notes","judge"] ["self","notes","judge"] (defScope st_Answers___init__):=⟨rfl,rfl,rfl,by decide +kernel,rfl,by decide +kernel,by decide +kernel⟩
theorem def_init (TC:ClsT K mg C) (T:Txt K w mg) (R:RawM K C "__init__" "Answers.__init__" st_Answers___init__ ["self","notes","judge"]):DefM P w K mg base 1 C "__init__" ["self","notes","judge"] (spInit K C):=by
  refine R.defJ sc_Answers___init__ (fun vs H Q E h=>?_) (fun f cdv A outer s H vs Q E hr h=>?_)
  · obtain ⟨a,dx,n0,f,zs,rfl,_⟩:=h
    rfl
  · obtain ⟨a,dx,n0,jf,zs,rfl,ha,hS,q⟩:=h
    have sc:=sc_Answers___init__
    have hu:=hr.units
    refine ⟨_,(jss_cons (js_fld TC.cls TC.na_notes (jn 0) (j_callTy (c_list (K:=K)) rfl T.n_list boot_list (ja_cons (jn 1) ja_nil)))
    (jss_cons (js_fld TC.cls TC.na_judge (jn 0) (jn 2))
    (jss_one (js_fld TC.cls TC.na_judged (jn 0) j_dnewK)))),?_⟩
    refine ⟨_,.inl hS,fun nr hnr=>?_⟩
    have s1:Same H (upd H nr (.lst zs)):=same_new hnr
    have h1:upd H nr (.lst zs) nr = some (.lst zs):=upd_same
    generalize upd H nr (.lst zs) = H1 at s1 h1 ⊢
    have na:nr ≠ a:=fun z=>by rw [z,ha] at hnr; cases hnr
    refine ⟨dx,_,s1 _ _ ha,(show 0 < 1000 by decide),?_⟩
    refine ⟨dx,_,upd_same,(show 1 < 1000 by decide),?_⟩
    refine fun jd hjd=>?_
    have nj:jd ≠ a:=fun z=>by rw [z,upd_same] at hjd; cases hjd
    have nj2:jd ≠ nr:=fun z=>by rw [z,upd_ne na,upd_ne na,h1] at hjd; cases hjd
    refine ⟨dx,[("notes",.ref nr),("judge",.ref jf)],by rw [upd_ne nj.symm]; exact upd_same,(show 2 < 1000 by decide),?_⟩
    refine q _ nr jd (fun b u n e=>?_) hnr ?_ ?_ upd_same
    · have e1:=s1 _ _ e
      have nb:b ≠ jd:=fun z=>by rw [z] at e1 n; rw [upd_ne n,upd_ne n,e1] at hjd; cases hjd
      rw [upd_ne n,upd_ne nb,upd_ne n,upd_ne n]; exact e1
    · rw [upd_ne na,upd_ne nj2.symm,upd_ne na,upd_ne na]; exact h1
    · rw [upd_ne nj]; exact upd_same
structure KrV (B H:Hp) (kr:Addr) (xs:List V) (ks:List (List (List Nat))):Prop where
  len:xs.length = ks.length
  at':∀ (i:Nat) (l:List (List Nat)),ks[i]? = some l→∃ b,xs[i]? = some (.ref b)∧H b = some (.lst (txs l))∧B b = none∧b ≠ kr
theorem KrV.mono {B H H':Hp} {kr:Addr} {xs:List V} {ks:List (List (List Nat))} (h:KrV B H kr xs ks) (e:∀ b l,B b = none→b ≠ kr→H b = some (.lst l)→H' b = some (.lst l)):KrV B H' kr xs ks :=
  ⟨h.len,fun i l hl=>let ⟨b,h1,h2,h3,h4⟩:=h.at' i l hl; ⟨b,h1,e b _ h3 h4 h2,h3,h4⟩⟩
theorem KrV.snoc {B H:Hp} {kr:Addr} {xs:List V} {ks:List (List (List Nat))} {b:Addr} {l:List (List Nat)} (h:KrV B H kr xs ks) (hb:H b = some (.lst (txs l))) (h0:B b = none) (hn:b ≠ kr):KrV B H kr (xs ++ [.ref b]) (ks ++ [l]):=by
  refine ⟨by rw [List.length_append,List.length_append,h.len]; rfl,fun k q hq=>?_⟩
  by_cases hk:k < ks.length
  · rw [List.getElem?_append_left hk] at hq
    obtain ⟨t',h1,h2⟩:=h.at' k q hq
    exact ⟨t',by rw [List.getElem?_append_left (by rw [h.len]; exact hk)]; exact h1,h2⟩
  · have hl:=(List.getElem?_eq_some_iff.mp hq).1
    have ek:k = ks.length:=by simp at hl; lia
    subst ek
    rw [List.getElem?_append_right (Nat.le_refl _),Nat.sub_self] at hq
    cases hq
    exact ⟨b,by rw [List.getElem?_append_right (by rw [h.len]; exact Nat.le_refl _),h.len,Nat.sub_self]; rfl,hb,h0,hn⟩
structure RkI (kf:E3→List Nat) (K:PySem.W.Frag) (B H:Hp) (f:Addr) (X:List Addr) (al jd kr:Addr) (as0:List E3) (pv:Int→Option E3) (ks:List (List (List Nat))) (es:List (Int × E3)):Prop where
  sm:SmB al B H
  ask:AskI K H f X al (as0 ++ askL pv es)
  jdI:JdI kf H jd (lk es) es.length
  jn:B jd = none
  jx:jd ∈ X
  krI:∃ xs,H kr = some (.lst xs)∧KrV B H kr xs ks
  kn:B kr = none
  al0:∃ ys,B al = some (.lst ys)
section
variable {B H H':Hp} {f al jd kr ow:Addr} {X:List Addr} {as0:List E3} {pv:Int→Option E3} {ks:List (List (List Nat))} {es:List (Int × E3)}
theorem RkI.nal (h:RkI kf K B H f X al jd kr as0 pv ks es) {b:Addr} (e:B b = none):b ≠ al:=fun z=>by
  obtain ⟨ys,q⟩:=h.al0
  rw [z,q] at e
  cases e
theorem RkI.nal0 (h:RkI kf K B H f X al jd kr as0 pv ks es) {b:Addr} {u:HO} (e:B b = some u) (n:∀ xs,u ≠ .lst xs):b ≠ al:=fun z=>by
  obtain ⟨ys,q⟩:=h.al0
  rw [z,q] at e
  exact n _ (Option.some.inj e).symm
theorem RkI.smb (h:RkI kf K B H f X al jd kr as0 pv ks es) (s:SmB al H H') (a:AskI K H' f X al (as0 ++ askL pv es)):RkI kf K B H' f X al jd kr as0 pv ks es:=by
  obtain ⟨xs,h1,h2⟩:=h.krI
  obtain ⟨kvs,k1,_⟩:=h.jdI.ex
  refine ⟨h.sm.trans s,a,h.jdI.mono (by rw [k1]; exact s _ _ (h.nal h.jn) k1) (fun t vs e=>s _ _ (h.ask.ne e fun xs z=>by cases z) e),h.jn,h.jx,⟨xs,s _ _ (h.nal h.kn) h1,h2.mono fun b l e n q=>s _ _ (h.nal e) q⟩,h.kn,h.al0⟩
theorem RkI.grow (h:RkI kf K B H f X al jd kr as0 pv ks es) (s:Same H H'):RkI kf K B H' f X al jd kr as0 pv ks es:=h.smb (.of s) (h.ask.grow s)
theorem RkI.own {l l' : List V} (h : RkI kf K B H f X al jd kr as0 pv ks es) (mx : ow ∈ X) (ho : B ow = none) (hw : H ow = some (.lst l)) (nk : ow ≠ kr) (hx : ∀ xs : List V, H kr = some (.lst xs) → ∀ i : Nat, xs[i]? ≠ some (V.ref ow)) :
    RkI kf K B (upd H ow (.lst l')) f X al jd kr as0 pv ks es:=by
  obtain ⟨xs,h1,h2⟩:=h.krI
  obtain ⟨kvs,k1,_⟩:=h.jdI.ex
  have nt:∀ {t:Addr} {vs:List V},H t = some (.tup vs)→t ≠ ow:=fun e z=>by rw [z,hw] at e; cases e
  have nj:jd ≠ ow:=fun z=>by rw [z,hw] at k1; cases k1
  refine ⟨fun b u n e=>by rw [upd_ne fun z=>by rw [z,ho] at e; cases e]; exact h.sm b u n e,h.ask.put mx (h.nal ho) (fun o z=>by cases z),h.jdI.mono (upd_ne nj) (fun t vs e=>by rw [upd_ne (nt e)]; exact e),h.jn,h.jx,⟨xs,by rw [upd_ne nk.symm]; exact h1,h2.len,fun i q hq=>?_⟩,h.kn,h.al0⟩
  obtain ⟨b,b1,b2,b3,b4⟩:=h2.at' i q hq
  exact ⟨b,b1,by rw [upd_ne fun z=>hx xs h1 i (by rw [b1,z])]; exact b2,b3,b4⟩
theorem RkI.put {kvs : List (Key × V)} {m : Int} {e : E3} {v : V} (h : RkI kf K B H f X al jd kr as0 pv ks es) (hk : H jd = some (.dK kvs)) (s : SmB al H H') (a : AskI K H' f X al (as0 ++ askL pv es ++ if pv m = some e then [] else [e])) (hv : EntV kf H' v e) :
    RkI kf K B (upd H' jd (.dK (putK kvs (Sum.inl m) v))) f X al jd kr as0 pv ks (es ++ [(m,e)]):=by
  obtain ⟨xs,h1,h2⟩:=h.krI
  obtain ⟨kvs',k1,k2,k3,k4⟩:=h.jdI.ex
  rw [hk] at k1
  cases k1
  have hk':=s _ _ (h.nal h.jn) hk
  have nt:∀ {t:Addr} {vs:List V},H' t = some (.tup vs)→t ≠ jd:=fun e z=>by rw [z,hk'] at e; cases e
  have nl:∀ {t:Addr} {vs:List V},H' t = some (.lst vs)→t ≠ jd:=fun e z=>by rw [z,hk'] at e; cases e
  have ts:∀ t vs,H t = some (.tup vs)→H' t = some (.tup vs):=fun t vs e=>s _ _ (h.ask.ne e fun xs z=>by cases z) e
  have tu:∀ t vs,H' t = some (.tup vs)→upd H' jd (.dK (putK kvs (Sum.inl m) v)) t = some (.tup vs):=fun t vs e=>by rw [upd_ne (nt e)]; exact e
  refine ⟨fun b u n e=>by rw [upd_ne fun z=>by rw [z,h.jn] at e; cases e]; exact s _ _ n (h.sm b u n e),?_,⟨⟨_,upd_same,?_,fun m' q=>?_,fun m' e' q=>?_⟩⟩,h.jn,h.jx,⟨xs,?_,h2.len,fun i q hq=>?_⟩,h.kn,h.al0⟩
  · rw [askL_snoc,← List.append_assoc]
    exact a.put h.jx (h.nal h.jn) (fun o z=>by cases z)
  · have:=length_putK kvs (Sum.inl m) v
    rw [List.length_append,List.length_singleton]
    lia
  · rw [lk_snoc] at q
    rw [valV_put]
    by_cases z:m = m'
    · rw [if_pos z] at q; cases q
    · rw [if_neg z] at q
      rw [if_neg (fun y=>z (Sum.inl.inj y).symm)]
      exact k3 m' q
  · rw [lk_snoc] at q
    rw [valV_put]
    by_cases z:m = m'
    · rw [if_pos z] at q
      cases q
      exact ⟨v,by rw [if_pos (by rw [z])],hv.mono tu⟩
    · rw [if_neg z] at q
      obtain ⟨v',a1,a2⟩:=k4 m' e' q
      exact ⟨v',by rw [if_neg (fun y=>z (Sum.inl.inj y).symm)]; exact a1,(a2.mono ts).mono tu⟩
  · have:=s _ _ (h.nal h.kn) h1
    rw [upd_ne (nl this)]; exact this
  · obtain ⟨b,b1,b2,b3,b4⟩:=h2.at' i q hq
    have:=s _ _ (h.nal b3) b2
    exact ⟨b,b1,by rw [upd_ne (nl this)]; exact this,b3,b4⟩
theorem RkI.done (h:RkI kf K B H f (ow :: X) al jd kr as0 pv ks es) (mj:jd ∈ X) (mk:kr ∈ X) {xs:List V} (hk:H kr = some (.lst xs)) {l:List (List Nat)} (hw:H ow = some (.lst (txs l))) (ho:B ow = none) (nk:ow ≠ kr):RkI kf K B (upd H kr (.lst (xs ++ [.ref ow]))) f X al jd kr as0 pv (ks ++ [l]) es:=by
  obtain ⟨xs',h1,h2⟩:=h.krI
  rw [hk] at h1
  cases h1
  obtain ⟨kvs,k1,_⟩:=h.jdI.ex
  have nt:∀ {t:Addr} {vs:List V},H t = some (.tup vs)→t ≠ kr:=fun e z=>by rw [z,hk] at e; cases e
  have nj:jd ≠ kr:=fun z=>by rw [z,hk] at k1; cases k1
  refine ⟨fun b u n e=>by rw [upd_ne fun z=>by rw [z,h.kn] at e; cases e]; exact h.sm b u n e,h.ask.less.put mk (h.nal h.kn) (fun o z=>by cases z),h.jdI.mono (upd_ne nj) (fun t vs e=>by rw [upd_ne (nt e)]; exact e),h.jn,mj,⟨_,upd_same,?_⟩,h.kn,h.al0⟩
  refine KrV.snoc (h2.mono fun b l e n q=>by rw [upd_ne n]; exact q) ?_ ho nk
  rw [upd_ne nk]; exact hw
end
end
end K75
namespace K75
open PySem PySem.Spec PyProof.Rows L2 Rg
structure RkOk (kf:E3→List Nat) (notes:List (Int × Int)) (sheet:List (Int × List Rw)):Prop where
  sh:ShOk notes sheet
  hk:HolOk sheet
  nod:∀ p ∈ sheet,NodOk p.2
  ask:∀ p ∈ sheet,∀ q ∈ p.2,AskOk notes q
  len:∀ p ∈ sheet,∀ q ∈ p.2,q.ps.length ≤ 3
  tx:∀ p ∈ sheet,∀ q ∈ p.2,∀ x ∈ q.ps,∀ s,x.2 = some s→TxOk s
  kt:∀ e,EOk e→TxOk (kf e)
  rr:∀ p ∈ sheet,∀ q ∈ p.2,q.r < 1000
theorem txOk_nil:TxOk []:=⟨(fun c h=>by cases h),Nat.zero_le _⟩
theorem kAt_ok {ks:List (List (List Nat))} (h:∀ l ∈ ks,∀ t ∈ l,TxOk t) (p:Nat × Nat):TxOk (kAt ks p):=by
  unfold kAt
  cases e:ks[p.1]? with
  | none =>
    have:ks.getD p.1 [] = []:=by unfold List.getD; rw [e]; rfl
    rw [this]; exact txOk_nil
  | some l =>
    have:ks.getD p.1 [] = l:=by unfold List.getD; rw [e]; rfl
    rw [this]
    cases e2:l[p.2]? with
    | none=>rw [List.getD,e2]; exact txOk_nil
    | some t=>rw [List.getD,e2]; exact h l (List.mem_of_getElem? e) t (List.mem_of_getElem? e2)
theorem kAt_eq {ks:List (List (List Nat))} {p:Nat × Nat} {l:List (List Nat)} {x:List Nat} (e:ks[p.1]? = some l) (e2:l[p.2]? = some x):kAt ks p = x:=by
  unfold kAt
  have:ks.getD p.1 [] = l:=by unfold List.getD; rw [e]; rfl
  rw [this,List.getD,e2]; rfl
theorem rowE_ok {kf:E3→List Nat} {notes:List (Int × Int)} {sheet:List (Int × List Rw)} (ok:RkOk kf notes sheet) {p:Int × List Rw} {q:Rw} (hp:p ∈ sheet) (hq:q ∈ p.2) {n:Nat} {ks:List (List (List Nat))} {es:List (Int × E3)} (hes:∀ p ∈ es,EOk p.2) (hks:∀ l ∈ ks,∀ t ∈ l,TxOk t):EOk (rowE kf notes sheet n ks es q).2:=by
  refine ⟨ok.rr p hp q hq,by show (q.ps.map _).length ≤ 3; rw [List.length_map]; exact ok.len p hp q hq,fun t ht=>?_,fun t ht=>?_⟩
  · obtain ⟨x,hx,rfl⟩:=List.mem_map.mp (show t ∈ q.ps.map (givenP kf es) from ht)
    unfold givenP
    cases e:x.2 with
    | some s=>exact ok.tx p hp q hq x hx s e
    | none =>
      cases e2:lk es x.1 with
      | none=>exact txOk_nil
      | some e3=>exact ok.kt _ (hes _ (lk_mem e2))
  · have ht':(placeF notes sheet n q).map (kAt ks) = some t:=ht
    obtain ⟨p,_,rfl⟩:=Option.map_eq_some_iff.mp ht'
    exact kAt_ok hks p
theorem same_al {al:Addr} {H H':Hp} (s:SmB al H H'):Same (rem [al] H) H':=fun b u e=>by
  have nb:b ∉ [al]:=fun m=>by rw [rem_in m] at e; cases e
  rw [rem_out nb] at e
  exact s b u (fun z=>nb (by rw [z]; exact List.mem_cons_self)) e
theorem dat_opt {K:PySem.W.Frag} {H:Hp} {v:V} {o:Option (Nat × Nat)} (h:DatV K H v (optDat o)):(o = none∧v = .non)∨∃ p t,o = some p∧v = .ref t∧SqT K H t [.int (p.1:Nat),.int (p.2:Nat)]:=by
  cases o with
  | none=>cases h; exact .inl ⟨rfl,rfl⟩
  | some p =>
    refine .inr ⟨p,?_⟩
    cases h with
    | tuple h1 h2 =>
      cases h2 with
      | cons a b =>
        cases a
        cases b with
        | cons a b =>
          cases a
          cases b
          exact ⟨_,rfl,rfl,h1⟩
noncomputable abbrev rkN:List Str:=["self","sheet","bound","judged","kinds","number","piece","holders","own","mark","rule","parts","given","name","place","found"]
section
variable {P:Program} {w:World} {K:PySem.W.Frag} {mg:Str→Option Value} {base:Heap} {C:Addr} {kf:E3→List Nat}
inductive spRk (kf:E3→List Nat) (K:PySem.W.Frag) (C:Addr) (vs : List V) (H : Hp) (Q : VK) (_e : XK) : Prop | mk (a dx nr f jd al sr:Addr) (sheet:List (Int × List Rw)) (notes:List (Int × Int)) (pv:Int→Option E3) (n:Nat) (as0:List E3) : (vs = [.ref a,.ref sr]) → (H a = some (.ins C dx (flds nr f jd))) → JdI kf H jd pv n → RkOk kf notes sheet → (DatV K (rem [al] H) (.ref sr) (.list (sheet.map pieDat))) → (DatV K (rem [al] H) (.ref nr) (.list (notes.map noteDat))) → (AskI K H f [] al as0) → (as0.length ≤ 100000) → ((∀ m e,pv m = some e→EOk e)) → (∀ H' kr jd' n' xs,(∀ b u,b ≠ al→b ≠ a→H b = some u→H' b = some u)→H' a = some (.ins C dx (flds nr f jd'))→JdI kf H' jd' (lk (stp kf notes sheet sheet.length).2) n'→AskI K H' f [] al (as0 ++ askL pv (stp kf notes sheet sheet.length).2)→H' kr = some (.lst xs)→KrV H H' kr xs (stp kf notes sheet sheet.length).1→H kr = none→Q (.ref kr) H') → spRk kf K C vs H Q _e
noncomputable abbrev st_Answers_reckon:Stmt:=(clsBody (top 5)).getD 1 (.Pass ⟨0,0,0,0⟩)
theorem sc_Answers_reckon:FnScope ["self","sheet","bound","judged","kinds","number","piece","holders","own","mark","rule","parts","given","name","place","found"] ["self","sheet"] (defScope st_Answers_reckon):=⟨rfl,rfl,rfl,by decide +kernel,rfl,by decide +kernel,by decide +kernel⟩
theorem row_rk (TC : ClsT K mg C) (T : Txt K w mg) (D_last_seen : Def P w K mg base 1 "last_seen" ["sheet", "places", "number", "holders"] (spSeen K)) (DM_Answers_name_asked : DefM P w K mg base 1 C "name_asked" ["self", "rule", "parts"] (spNA K C)) (DM_Answers_judged_row : DefM P w K mg base 3 C "judged_row" ["self", "mark", "rule", "given", "found"] (spJR kf K C))
    {f:Addr} {cdv:Value} {A:Around} {outer:List Env} {s:Shared} {H:Hp} {E:XK} (hr:Room 3 (A.deeper (envOfC "Answers.reckon" (defScope st_Answers_reckon) s.heap.objs.size f cdv)))
    {a dx nr jf jd al sr:Addr} {sheet:List (Int × List Rw)} {notes:List (Int × Int)} {pv:Int→Option E3} {n:Nat} {as0:List E3} (ha:H a = some (.ins C dx (flds nr jf jd))) (hJ:JdI kf H jd pv n) (ok:RkOk kf notes sheet)
    (hS:DatV K (rem [al] H) (.ref sr) (.list (sheet.map pieDat))) (hN:DatV K (rem [al] H) (.ref nr) (.list (notes.map noteDat))) (hA:AskI K H jf [] al as0) (has:as0.length ≤ 100000) (hpv:∀ m e,pv m = some e→EOk e) :
    ∃ u,JSs (cxOf CX0 P w K mg base rkN "Answers.reckon" (defScope st_Answers_reckon) f cdv A outer s H E).nox (stBody ((stBody ((defBody st_Answers_reckon).getD 3 (.Pass ⟨0,0,0,0⟩))).getD 2 (.Pass ⟨0,0,0,0⟩))) u ∧
      ∀ (D:Ends) (B H5:Hp) (d kr j2 ow hd bp:Addr) (kvs:List (Key × V)) (nb i:Nat) (pc:Int × List Rw) (q:Rw) (pvv:List V) (ks:List (List (List Nat))) (es:List (Int × E3)) (own:List (List Nat)) (v6 v12 v13 v14 v15:Option V),
        BdI H B d (evs notes sheet) kvs nb→i < sheet.length→pc ∈ sheet→q ∈ pc.2→SqL K (rem [al] H) bp pvv→DatVs K (rem [al] H) pvv (q.ps.map partDat) →
        RkI kf K B H5 jf [ow,j2,kr] al j2 kr as0 pv ks es→H5 ow = some (.lst (txs own))→B ow = none→ow ≠ kr→(∀ xs:List V,H5 kr = some (.lst xs)→∀ k:Nat,xs[k]? ≠ some (V.ref ow))→HdI H5 hd sheet i→hd ≠ j2 →
        (∀ (k:Nat) (p:Int × List Rw),sheet[k]? = some p→k < i→∃ l,ks[k]? = some l∧l.length = p.2.length)→(∀ x ∈ q.ps,x.2 = none→∃ e,lk es x.1 = some e)→(∀ p ∈ es,EOk p.2)→(∀ l ∈ ks,∀ t ∈ l,TxOk t)→es.length ≤ 20000→own.length ≤ 1000 →
        (∀ (H6:Hp) (v12 v13 v14 v15:Option V),RkI kf K B H6 jf [ow,j2,kr] al j2 kr as0 pv ks (es ++ [rowE kf notes sheet i ks es q])→H6 ow = some (.lst (txs (own ++ [kf (rowE kf notes sheet i ks es q).2])))→H6 kr = H5 kr→HdI H6 hd sheet i →
          D.nx [some (.ref a),some (.ref sr),some (.ref d),some (.ref j2),some (.ref kr),some (.int (i:Nat)),v6,some (.ref hd),some (.ref ow),some (.int q.m),some (.int (q.r:Nat)),some (.ref bp),v12,v13,v14,v15] H6) →
        u D [some (.ref a),some (.ref sr),some (.ref d),some (.ref j2),some (.ref kr),some (.int (i:Nat)),v6,some (.ref hd),some (.ref ow),some (.int q.m),some (.int (q.r:Nat)),some (.ref bp),v12,v13,v14,v15] H5:=by
  have sc:=sc_Answers_reckon
  have hu:=hr.units
  have hb:=big
  have naa:a ≠ al:=hA.ne ha fun xs z=>by cases z
  obtain ⟨u3, hP3, hq3⟩ : ∃ u, JSs (cxOf CX0 P w K mg base rkN "Answers.reckon" (defScope st_Answers_reckon) f cdv A outer s H E).nox ((stBody ((stBody ((defBody st_Answers_reckon).getD 3 (.Pass ⟨0, 0, 0, 0⟩))).getD 2 (.Pass ⟨0, 0, 0, 0⟩))).drop 3) u ∧
      ∀ (D:Ends) (B H5:Hp) (d kr j2 ow hd bp tg:Addr) (i:Nat) (q:Rw) (ks:List (List (List Nat))) (es:List (Int × E3)) (own:List (List Nat)) (v:V) (v6 v13 v15:Option V),
        SmB al H B→i ≤ sheet.length→RkI kf K B H5 jf [ow,j2,kr] al j2 kr as0 pv ks es→H5 ow = some (.lst (txs own))→B ow = none→ow ≠ kr→(∀ xs:List V,H5 kr = some (.lst xs)→∀ k:Nat,xs[k]? ≠ some (V.ref ow))→HdI H5 hd sheet i→hd ≠ j2→H5 tg = some (.tup (txs (givenF kf es q)))→DatV K H5 v (optDat (placeF notes sheet i q)) →
        (∀ (k:Nat) (p:Int × List Rw),sheet[k]? = some p→k < i→∃ l,ks[k]? = some l∧l.length = p.2.length)→EOk (rowE kf notes sheet i ks es q).2→es.length ≤ 20000→own.length ≤ 1000 →
        (∀ (H6:Hp) (v12 v13 v14 v15:Option V),RkI kf K B H6 jf [ow,j2,kr] al j2 kr as0 pv ks (es ++ [rowE kf notes sheet i ks es q])→H6 ow = some (.lst (txs (own ++ [kf (rowE kf notes sheet i ks es q).2])))→H6 kr = H5 kr→HdI H6 hd sheet i →
          D.nx [some (.ref a),some (.ref sr),some (.ref d),some (.ref j2),some (.ref kr),some (.int (i:Nat)),v6,some (.ref hd),some (.ref ow),some (.int q.m),some (.int (q.r:Nat)),some (.ref bp),v12,v13,v14,v15] H6) →
        u D [some (.ref a),some (.ref sr),some (.ref d),some (.ref j2),some (.ref kr),some (.int (i:Nat)),v6,some (.ref hd),some (.ref ow),some (.int q.m),some (.int (q.r:Nat)),some (.ref bp),some (.ref tg),v13,some v,v15] H5:=by
    refine ⟨_,(jss_cons (js_set (i:=15) sc.nd rfl (Or.inl rfl) (j_ife (jt_cmp o_is (jn 14) j_non) j_non (j_ix (o_ixA hu (K:=K) (w:=w)) (j_ix (o_ixA hu (K:=K) (w:=w)) (jn 4) (j_ix (o_ixA hu (K:=K) (w:=w)) (jn 14) j_int)) (j_ix (o_ixA hu (K:=K) (w:=w)) (jn 14) j_int))))
    (jss_cons (js_dput hu (jn 3) (jn 9) (j_meth TC.cls DM_Answers_judged_row (hr.mono (by decide)) (jn 0) (ja_cons (jn 9) (ja_cons (jn 10) (ja_cons (jn 12) (ja_cons (jn 15) ja_nil))))))
    (jss_one (js_expr (j_bm (K:=K) PySem.F.plainAttrs_list PySem.F.slot_list_append PySem.F.type_list_append m_append (jn 8) (ja_cons (j_ix (o_ixA hu (K:=K) (w:=w)) (j_ix (o_ixA hu (K:=K) (w:=w)) (jn 3) (jn 9)) j_int) ja_nil)))))),?_⟩
    intro D B H5 d kr j2 ow hd bp tg i q ks es own v v6 v13 v15 sHB hi R hw ho nk hnx hhd nhd htg hv hks heo hel hol hend
    have ha5:H5 a = some (.ins C dx (flds nr jf jd)):=(sHB.trans R.sm) _ _ naa ha
    obtain ⟨kx,hkx,hkv⟩:=R.krI
    have hal:=R.ask.len
    have haskl:(as0 ++ askL pv es).length ≤ 200000:=by
      rw [List.length_append]
      have:(askL pv es).length ≤ es.length:=List.length_filterMap_le _ _
      lia
    obtain ⟨jkv,jk1,jk2,_,_⟩:=R.jdI.ex
    have hJ5:JdI kf H5 jd pv n:=by
      obtain ⟨kvs,k1,_⟩:=hJ.ex
      exact hJ.mono (by rw [k1]; exact (sHB.trans R.sm) _ _ (hA.ne k1 fun xs z=>by cases z) k1) fun t vs e=>(sHB.trans R.sm) _ _ (hA.ne e fun xs z=>by cases z) e
    have tail : ∀ fo, foundF notes sheet i ks q = fo → (tSeq (mDPut (mVar 3) (mVar 9) (mMeth C "judged_row" (spJR kf K C) (mVar 0) (tCons (mVar 9) (tCons (mVar 10) (tCons (mVar 12) (tCons (mVar 15) tNil)))))) (tDrop (tBM K "list" gAppend (mVar 8) (tCons (tOp (gIxA K w) (tOp (gIxA K w) (mVar 3) (mVar 9)) (tC (.int 3))) tNil)))) D
        [some (.ref a),some (.ref sr),some (.ref d),some (.ref j2),some (.ref kr),some (.int (i:Nat)),v6,some (.ref hd),some (.ref ow),some (.int q.m),some (.int (q.r:Nat)),some (.ref bp),some (.ref tg),v13,some v,some (txtV fo)] H5:=by
      intro fo hfo
      have hee:(rowE kf notes sheet i ks es q).2 = (q.r,givenF kf es q,fo):=by unfold rowE; rw [hfo]
      have hem:rowE kf notes sheet i ks es q = (q.m,(q.r,givenF kf es q,fo)):=by unfold rowE; rw [hfo]
      rw [hee] at heo
      refine ⟨dx,_,ha5,rfl,?_⟩
      refine ⟨a,dx,nr,jf,jd,tg,al,[ow,j2,kr],q.m,(q.r,givenF kf es q,fo),pv,n,as0 ++ askL pv es,rfl,ha5,hJ5,htg,R.ask,haskl,heo,hpv,fun H6 v6' s6 hA6 hE6=>?_⟩
      have jk6:H6 j2 = some (.dK jkv):=s6 _ _ (R.nal R.jn) jk1
      refine ⟨_,.inl ⟨jkv,Sum.inl q.m,jk6,rfl,by lia,rfl⟩,?_⟩
      have R7:=R.put jk1 s6 hA6 hE6
      have hE7:EntV kf (upd H6 j2 (.dK (putK jkv (Sum.inl q.m) v6'))) v6' (q.r,givenF kf es q,fo):=hE6.mono fun t vs e=>by rw [upd_ne fun z=>by rw [z,jk6] at e; cases e]; exact e
      have jk7:upd H6 j2 (.dK (putK jkv (Sum.inl q.m) v6')) j2 = some (.dK (putK jkv (Sum.inl q.m) v6')):=upd_same
      have ow7:upd H6 j2 (.dK (putK jkv (Sum.inl q.m) v6')) ow = some (.lst (txs own)):=by
        have h6:=s6 _ _ (R.nal ho) hw
        rw [upd_ne fun z=>by rw [z,jk6] at h6; cases h6]; exact h6
      have kr7:upd H6 j2 (.dK (putK jkv (Sum.inl q.m) v6')) kr = H5 kr:=by
        have h6:=s6 _ _ (R.nal R.kn) hkx
        have nn:kr ≠ j2:=fun z=>by rw [z,jk6] at h6; cases h6
        rw [upd_ne nn,h6,hkx]
      have hd7:HdI (upd H6 j2 (.dK (putK jkv (Sum.inl q.m) v6'))) hd sheet i:=by
        obtain ⟨k0,k1,k2⟩:=hhd
        have k1':=s6 _ _ (R.ask.ne k1 fun xs z=>by cases z) k1
        exact ⟨k0,by rw [upd_ne nhd]; exact k1',k2⟩
      generalize upd H6 j2 (.dK (putK jkv (Sum.inl q.m) v6')) = H7 at R7 hE7 jk7 ow7 kr7 hd7 ⊢
      obtain ⟨t7,tg7,rfl,ht7,_⟩:=hE7
      refine ⟨.inl ⟨rfl,_,SqL.of ow7⟩,?_⟩
      refine .inr (.inr ⟨_,DGet.ik jk7 (by rw [valV_put,if_pos rfl]),?_⟩)
      refine .inr (.inl ⟨_,_,SqT.of ht7,rfl,?_⟩)
      refine ⟨_,ow7,by unfold txs; rw [List.length_map]; lia,?_⟩
      have R8:RkI kf K B (upd H7 ow (.lst (txs own ++ [.str (S (kf (q.r,givenF kf es q,fo)))]))) jf [ow,j2,kr] al j2 kr as0 pv ks (es ++ [(q.m,(q.r,givenF kf es q,fo))]):=R7.own List.mem_cons_self ho ow7 nk (fun xs e k=>hnx xs (by rw [← kr7]; exact e) k)
      refine hend _ _ _ _ _ (by rw [hem]; exact R8) ?_ ?_ ?_
      · rw [hee,upd_same]; unfold txs; rw [List.map_append]; rfl
      · rw [upd_ne nk.symm]; exact kr7
      · obtain ⟨k0,k1,k2⟩:=hd7
        exact ⟨k0,by rw [upd_ne fun z=>by rw [z,ow7] at k1; cases k1]; exact k1,k2⟩
    rcases dat_opt hv with ⟨ho1,rfl⟩ | ⟨p,t,ho1,rfl,hT⟩
    · exact tail none (by unfold foundF; rw [ho1]; rfl)
    · obtain ⟨nm,_,htold⟩:=Option.bind_eq_some_iff.mp (show (nameF notes q).bind (fun nm=>toldF notes sheet i nm) = some p from ho1)
      obtain ⟨hp1,pc,epc,hp2⟩:=told_in hi htold
      obtain ⟨l,el,hll⟩:=hks p.1 pc epc hp1
      obtain ⟨b,hb1,hb2,_⟩:=hkv.at' p.1 l el
      have et:l[p.2]? = some l[p.2]:=List.getElem?_eq_getElem (by lia)
      have ek:kAt ks p = l[p.2]:=kAt_eq el et
      refine .inr (.inl ⟨_,_,hT,rfl,?_⟩)
      refine .inl ⟨_,_,SqL.of hkx,atI_nat hb1,?_⟩
      refine .inr (.inl ⟨_,_,hT,rfl,?_⟩)
      refine .inl ⟨_,_,SqL.of hb2,atI_nat (show (txs l)[p.2]? = some (.str (S l[p.2])) by unfold txs; rw [List.getElem?_map,et]; rfl),?_⟩
      exact tail (some l[p.2]) (by unfold foundF; rw [ho1,← ek]; rfl)
  refine ⟨_,(jss_cons (js_set (i:=12) sc.nd rfl (Or.inl rfl) (j_callTy (c_tuple (K:=K)) rfl T.n_tuple boot_tuple (ja_cons (j_comp (N:=["part","text","judged"]) (cap:=[none,none,some 3]) rfl (CompScope.of rfl (by rfl)) (ji_any (K:=K) (jn 11)) (fun _ _ _ _=>(jg_tup (K:=K) (n:=2) rfl (jgs_cons (jg_name (i:=0) (show List.Nodup [("part":Str),("text":Str),("judged":Str)] by decide +kernel) rfl (Or.inl rfl)) (jgs_cons (jg_name (i:=1) (show List.Nodup [("part":Str),("text":Str),("judged":Str)] by decide +kernel) rfl (Or.inl rfl)) jgs_nil)))) (fun _ _ _ _=>jts_nil) (fun _ _ _ _=>(j_ife (jt_cmp o_is (jn 1) j_non) (j_ix (o_ixA hu (K:=K) (w:=w)) (j_ix (o_ixA hu (K:=K) (w:=w)) (jn 2) (jn 0)) j_int) (jn 1)))) ja_nil)))
    (jss_cons (js_set (i:=13) sc.nd rfl (Or.inl rfl) (j_meth TC.cls DM_Answers_name_asked (hr.mono (by decide)) (jn 0) (ja_cons (jn 10) (ja_cons (jn 11) ja_nil))))
    (jss_cons (js_set (i:=14) sc.nd rfl (Or.inl rfl) (j_def D_last_seen (hr.mono (by decide)) rfl (ja_cons (jn 1) (ja_cons (j_dget2N hu (jn 2) (jn 13) (j_lst ja_nil)) (ja_cons (jn 5) (ja_cons (jn 7) ja_nil))))))
    hP3))),?_⟩
  intro D B H5 d kr j2 ow hd bp kvs nb i pc q pvv ks es own v6 v12 v13 v14 v15 bI hi hpc hq hP hPd R hw ho nk hnx hhd nhd hks hnod hes hkt hel hol hend
  have sHB:SmB al H B:=.of bI.same
  have rok:=ok.sh.ok pc hpc q hq
  have hp3:=ok.len pc hpc q hq
  have hpl:pvv.length = q.ps.length:=by have:=hPd.length; rw [List.length_map] at this; exact this
  obtain ⟨jkv,jk1,jk2,jk3,jk4⟩:=R.jdI.ex
  have s5:=same_al (sHB.trans R.sm)
  have heo:=rowE_ok (n:=i) ok hpc hq hes hkt
  refine .inl ⟨⟨_,s5.seq hP⟩,?_⟩
  refine gath_list (xs:=pvv) (fun k ys σ' H'=>H' = H5∧ys = txs ((q.ps.take k).map (givenP kf es))∧∃ v0 v1:Option V,σ' = [v0,v1,some (.ref j2)]) (by lia) ⟨rfl,rfl,none,none,rfl⟩
    (fun k ys σ' H' h=>by rw [h.2.1]; unfold txs; rw [List.length_map,List.length_map,List.length_take]; lia) (fun k ys σ' H' h=>by rw [h.1]; exact s5.seq hP) ?_ ?_
  · rintro k x ys σ' H' hx ⟨rfl,rfl,v0,v1,rfl⟩
    obtain ⟨pt,ept,hpt⟩:=datvs_has hPd hx
    obtain ⟨t,rfl,hT⟩:=dat_part hpt
    have etk:q.ps.take (k + 1) = q.ps.take k ++ [pt]:=by rw [List.take_add_one,ept]; rfl
    refine ⟨t,_,rfl,s5.seqT hT,rfl,_,_,rfl,_,_,rfl,rfl,?_⟩
    have fin:∀ tx,givenP kf es pt = tx→H' = H'∧txs ((q.ps.take k).map (givenP kf es)) ++ [V.str (S tx)] = txs ((q.ps.take (k + 1)).map (givenP kf es))∧∃ v0 v1:Option V,[some (V.int pt.1),some (txtV pt.2),some (.ref j2)] = [v0,v1,some (.ref j2)]:=fun tx e =>
      ⟨rfl,by rw [etk,List.map_append,← e]; unfold txs; rw [List.map_append]; rfl,_,_,rfl⟩
    cases e2:pt.2 with
    | none =>
      rw [e2] at fin
      obtain ⟨e3,hl3⟩:=hnod pt (List.mem_of_getElem? ept) e2
      obtain ⟨v,ev,tt,tg,rfl,ht,htg⟩:=jk4 _ _ hl3
      refine .inr (.inr ⟨_,DGet.ik jk1 ev,?_⟩)
      refine .inr (.inl ⟨_,_,SqT.of ht,rfl,?_⟩)
      exact fin _ (by unfold givenP; rw [e2,hl3])
    | some tx =>
      rw [e2] at fin
      exact fin _ (by unfold givenP; rw [e2])
  · rintro ys σ' H' ⟨rfl,rfl,v0,v1,rfl⟩ g1 hg1
    rw [hpl,List.take_length]
    have s1:Same H' (upd H' g1 (.lst (txs (givenF kf es q)))):=same_new hg1
    have h1:upd H' g1 (.lst (txs (givenF kf es q))) g1 = some (.lst (txs (givenF kf es q))):=upd_same
    have eH:upd H' g1 (.lst (txs (q.ps.map (givenP kf es)))) = upd H' g1 (.lst (txs (givenF kf es q))):=rfl
    rw [eH]
    generalize upd H' g1 (.lst (txs (givenF kf es q))) = H1 at s1 h1 ⊢
    refine ⟨_,.inl ⟨SqL.of h1,fun tg htg=>?_⟩⟩
    have s2:Same H1 (upd H1 tg (.tup (txs (givenF kf es q)))):=same_new htg
    have h2:upd H1 tg (.tup (txs (givenF kf es q))) tg = some (.tup (txs (givenF kf es q))):=upd_same
    generalize upd H1 tg (.tup (txs (givenF kf es q))) = H2 at s2 h2 ⊢
    have s12:=s1.trans s2
    have R2:=R.grow s12
    have s02:=same_al (sHB.trans R2.sm)
    have ha2:H2 a = some (.ins C dx (flds nr jf jd)):=(sHB.trans R2.sm) _ _ naa ha
    obtain ⟨_,zs,e0,hNl,hNd⟩:=dat_list hN
    cases e0
    refine ⟨dx,_,ha2,rfl,?_⟩
    refine ⟨a,dx,nr,jf,jd,bp,notes,q,zs,pvv,rfl,ha2,s02.seq hNl,hNd.same s02,s02.seq hP,hPd.same s02,rok.r,ok.ask pc hpc q hq,?_⟩
    have hBd2:H2 d = some (.dK kvs):=R2.sm _ _ (R.nal0 bI.hd fun xs z=>by cases z) bI.hd
    refine ⟨IsD.kd hBd2,(show 0 ≤ sizeLine by decide),fun b3 hb3=>?_⟩
    have s3:Same H2 (upd H2 b3 (.lst [])):=same_new hb3
    have h3:upd H2 b3 (.lst []) b3 = some (.lst []):=upd_same
    generalize upd H2 b3 (.lst []) = H3 at s3 h3 ⊢
    have R3:=R2.grow s3
    have s03:=s02.trans s3
    have hhd3:HdI H3 hd sheet i:=by
      obtain ⟨k0,k1,k2⟩:=hhd
      exact ⟨k0,s3 _ _ (s12 _ _ k1),k2⟩
    have kr4:∀ {H4:Hp},Same H3 H4→H4 kr = H' kr:=fun s4=>by
      obtain ⟨kx,hkx,_⟩:=R.krI
      rw [hkx,s4 _ _ (s3 _ _ (s12 _ _ hkx))]
    have go:∀ (H4:Hp) (v:V) (v13 v15:Option V),Same H3 H4→DatV K H4 v (optDat (placeF notes sheet i q))→u3 D [some (.ref a),some (.ref sr),some (.ref d),some (.ref j2),some (.ref kr),some (.int (i:Nat)),v6,some (.ref hd),some (.ref ow),some (.int q.m),some (.int (q.r:Nat)),some (.ref bp),some (.ref tg),v13,some v,v15] H4:=fun H4 v v13 v15 s4 hv=>by
      have kq:H4 kr = H' kr:=kr4 s4
      obtain ⟨k0,k1,k2⟩:=hhd3
      refine hq3 D B H4 d kr j2 ow hd bp tg i q ks es own v v6 v13 v15 sHB (by lia) (R3.grow s4) (s4 _ _ (s3 _ _ (s12 _ _ hw))) ho nk (fun xs e k=>hnx xs (by rw [← kq]; exact e) k) ⟨k0,s4 _ _ k1,k2⟩ nhd (s4 _ _ (s3 _ _ h2)) hv hks heo hel hol fun H6 w12 w13 w14 w15 R6 o6 k6 d6=>?_
      exact hend H6 w12 w13 w14 w15 R6 o6 (k6.trans kq) d6
    cases hnm:nameF notes q with
    | none =>
      refine .inl ⟨rfl,⟨_,s3 _ _ hBd2⟩,?_⟩
      refine ⟨sr,b3,hd,i,sheet,[],[],rfl,hS.same s03,SqL.of h3,⟨rfl,fun k p hp=>by cases hp⟩,(fun p hp=>by cases hp),hhd3,fun H4 v s4 hv=>?_⟩
      refine go H4 v _ _ s4 ?_
      unfold placeF
      rw [hnm]
      exact hv
    | some nm =>
      refine .inr ⟨_,DGet.sk (s3 _ _ hBd2) rfl,?_⟩
      obtain ⟨pr,ws,ev,hws,hpl2⟩:∃ (pr:Addr) (ws:List V),(valV kvs (Sum.inr (S nm))).getD (.ref b3) = .ref pr∧H3 pr = some (.lst ws)∧PlV H3 ws (pl nm (evs notes sheet)):=by
        cases e:valV kvs (Sum.inr (S nm)) with
        | none =>
          refine ⟨b3,[],rfl,h3,?_⟩
          rw [bI.no nm e]
          exact ⟨rfl,fun k p hp=>by cases hp⟩
        | some v =>
          obtain ⟨b,ws,rfl,h6,h7,h8⟩:=bI.yes nm v e
          have nb:b ≠ al:=fun z=>by
            obtain ⟨ys,q1,_⟩:=hA.len
            rw [z,q1] at h6
            cases h6
          exact ⟨b,ws,rfl,R3.sm _ _ nb h7,h8.mono fun t vs e=>R3.sm _ _ (R.nal0 e fun xs z=>by cases z) e⟩
      rw [ev]
      refine ⟨sr,pr,hd,i,sheet,ws,pl nm (evs notes sheet),rfl,hS.same s03,SqL.of hws,hpl2,pl_lt,hhd3,fun H4 v s4 hv=>?_⟩
      rw [told_full nm (by lia)] at hv
      refine go H4 v _ _ s4 ?_
      unfold placeF
      rw [hnm]
      exact hv
theorem def_rk (TC : ClsT K mg C) (T : Txt K w mg) (R : RawM K C "reckon" "Answers.reckon" st_Answers_reckon ["self", "sheet"]) (D_names_bound : Def P w K mg base 1 "names_bound" ["sheet", "notes"] (spNB K)) (D_holders_of : Def P w K mg base 1 "holders_of" ["sheet", "number"] (spHold K)) (D_last_seen : Def P w K mg base 1 "last_seen" ["sheet", "places", "number", "holders"] (spSeen K))
    (DM_Answers_name_asked:DefM P w K mg base 1 C "name_asked" ["self","rule","parts"] (spNA K C)) (DM_Answers_judged_row:DefM P w K mg base 3 C "judged_row" ["self","mark","rule","given","found"] (spJR kf K C)):DefM P w K mg base 4 C "reckon" ["self","sheet"] (spRk kf K C):=by
  refine R.defJ sc_Answers_reckon (fun vs H Q E h=>?_) (fun f cdv A outer s H vs Q E hr h=>?_)
  · obtain ⟨a,dx,nr,jf,jd,al,sr,sheet,notes,pv,n,as0,rfl,_⟩:=h
    rfl
  · obtain ⟨a,dx,nr,jf,jd,al,sr,sheet,notes,pv,n,as0,rfl,ha,hJ,ok,hS,hN,hA,has,hpv,q⟩:=h
    have sc:=sc_Answers_reckon
    have hu:=hr.units
    have hb:=big
    obtain ⟨u2,hP2,hq2⟩:=row_rk (P:=P) (w:=w) (base:=base) (outer:=outer) (E:=E) TC T D_last_seen DM_Answers_name_asked DM_Answers_judged_row hr ha hJ ok hS hN hA has hpv
    have naa:a ≠ al:=hA.ne ha fun xs z=>by cases z
    have hsl:=ok.sh.len
    obtain ⟨_,ys,e0,hSl,hSd⟩:=dat_list hS
    cases e0
    have hyl:ys.length = sheet.length:=by have:=hSd.length; rw [List.length_map] at this; exact this
    have sa0:Same (rem [al] H) H:=same_al .refl
    refine ⟨_,(jss_cons (js_set (i:=2) sc.nd rfl (Or.inl rfl) (j_def D_names_bound (hr.mono (by decide)) rfl (ja_cons (jn 1) (ja_cons (j_fld TC.cls TC.na_notes (jn 0)) ja_nil))))
    (jss_cons (js_set (i:=3) sc.nd rfl (Or.inr rfl) j_dnewK)
    (jss_cons (js_set (i:=4) sc.nd rfl (Or.inl rfl) (j_lst ja_nil))
    (jss_cons (js_for PassesOwn.never rfl (ji_enum (K:=K) rfl T.n_enumerate (ja_cons (jn 1) ja_nil)) (jg_tup (K:=K) (n:=2) rfl (jgs_cons (jg_name (i:=5) sc.nd rfl (Or.inl rfl)) (jgs_cons (jg_name (i:=6) sc.nd rfl (Or.inl rfl)) jgs_nil)))
    (jss_cons (js_set (i:=7) sc.nd rfl (Or.inl rfl) (j_def D_holders_of (hr.mono (by decide)) rfl (ja_cons (jn 1) (ja_cons (jn 5) ja_nil))))
    (jss_cons (js_set (i:=8) sc.nd rfl (Or.inl rfl) (j_lst ja_nil))
    (jss_cons (js_for PassesOwn.never rfl (ji_any (K:=K) (j_ix (o_ixA hu (K:=K) (w:=w)) (jn 6) j_int)) (jg_tup (K:=K) (n:=3) rfl (jgs_cons (jg_name (i:=9) sc.nd rfl (Or.inl rfl)) (jgs_cons (jg_name (i:=10) sc.nd rfl (Or.inl rfl)) (jgs_cons (jg_name (i:=11) sc.nd rfl (Or.inl rfl)) jgs_nil))))
    hP2)
    (jss_one (js_expr (j_bm (K:=K) PySem.F.plainAttrs_list PySem.F.slot_list_append PySem.F.type_list_append m_append (jn 4) (ja_cons (jn 8) ja_nil))))))))
    (jss_cons (js_fld TC.cls TC.na_judged (jn 0) (jn 3))
    (jss_one (js_ret (jn 4)))))))),?_⟩
    refine ⟨dx,_,ha,.ref nr,rfl,?_⟩
    refine ⟨sr,nr,sheet,notes,rfl,hS.same sa0,hN.same sa0,ok.sh,fun B d kvs nb bI=>?_⟩
    have sHB:SmB al H B:=.of bI.same
    have al1:∃ zs,B al = some (.lst zs):=by
      obtain ⟨zs,q1,_⟩:=hA.len
      exact ⟨zs,bI.same _ _ q1⟩
    refine fun j2 hj2=>?_
    have s1:Same B (upd B j2 (.dK [])):=same_new hj2
    have h1:upd B j2 (.dK []) j2 = some (.dK []):=upd_same
    have A1:=(hA.grow bI.same).more (c:=j2) (u:=.dK []) hj2 (fun o z=>by cases z)
    generalize upd B j2 (.dK []) = H1 at s1 h1 A1 ⊢
    refine ⟨(show 0 ≤ sizeLine by decide),fun kr hkr=>?_⟩
    have s2:Same H1 (upd H1 kr (.lst [])):=same_new hkr
    have h2:upd H1 kr (.lst []) kr = some (.lst []):=upd_same
    have A2:=A1.more (c:=kr) (u:=.lst []) hkr (fun o z=>by cases z)
    have nkj:kr ≠ j2:=fun z=>by rw [z,h1] at hkr; cases hkr
    generalize upd H1 kr (.lst []) = H2 at s2 h2 A2 ⊢
    have bnone:∀ {b:Addr},H1 b = none→B b = none:=fun {b} e=>by
      cases z:B b with
      | none=>rfl
      | some u=>rw [s1 _ _ z] at e; cases e
    have kn:=bnone hkr
    have R0:RkI kf K B H2 jf [j2,kr] al j2 kr as0 pv [] []:=by
      refine ⟨.of (s1.trans s2),?_,⟨[],s2 _ _ h1,Nat.le_refl _,fun _ _=>rfl,(fun m e z=>by cases z)⟩,hj2,List.mem_cons_self,⟨[],h2,rfl,fun i l e=>by cases e⟩,kn,al1⟩
      obtain ⟨cl,ls,xs⟩:=A2
      rw [show as0 ++ askL pv [] = as0 by show as0 ++ [] = as0; rw [List.append_nil]]
      refine ⟨cl,?_,fun c m=>xs c (by rcases List.mem_cons.mp m with z | z; exact List.mem_cons_of_mem _ (by rw [z]; exact List.mem_cons_self); rw [List.mem_singleton.mp z]; exact List.mem_cons_self)⟩
      obtain ⟨zs,z1,z2⟩:=ls
      refine ⟨zs,z1,z2.same fun b u e=>?_⟩
      have nb:b ∉ [al,kr,j2]:=fun m=>by rw [rem_in m] at e; cases e
      rw [rem_out nb] at e
      rw [rem_out fun m=>nb (by simp at m ⊢; rcases m with z | z | z; exact .inl z; exact .inr (.inr z); exact .inr (.inl z))]
      exact e
    have hpos:∀ i,i ≤ sheet.length→(stp kf notes sheet i).2.length ≤ 100 * i:=by
      intro i
      induction i with
      | zero=>intro _; exact Nat.le_refl _
      | succ i ih =>
        intro hi
        have ep:=List.getElem?_eq_getElem (show i < sheet.length by lia)
        rw [stp_succ ep,List.length_append,rowsE_len (Nat.le_refl _)]
        have:=ih (by lia)
        have:=ok.sh.rows _ (List.getElem_mem (show i < sheet.length by lia))
        lia
    refine ⟨⟨_,(same_al (sHB.trans R0.sm)).seq hSl⟩,for_enum (K:=K) (a:=sr) (xs:=ys)
      (fun i σ H'=>∃ (v5 v6 v7 v8 v9 v10 v11 v12 v13 v14 v15:Option V),RkI kf K B H' jf [j2,kr] al j2 kr as0 pv (stp kf notes sheet i).1 (stp kf notes sheet i).2∧(∀ p ∈ (stp kf notes sheet i).2,EOk p.2)∧(∀ l ∈ (stp kf notes sheet i).1,∀ t ∈ l,TxOk t) ∧
        σ = [some (.ref a),some (.ref sr),some (.ref d),some (.ref j2),some (.ref kr),v5,v6,v7,v8,v9,v10,v11,v12,v13,v14,v15])
      ⟨none,none,none,none,none,none,none,none,none,none,none,R0,(fun p hp=>by cases hp),(fun l hl=>by cases hl),rfl⟩ (fun i σ H' _ h=>by obtain ⟨_,_,_,_,_,_,_,_,_,_,_,r,_⟩:=h; exact (same_al (sHB.trans r.sm)).seq hSl) ?_ ?_⟩
    · rintro i x σ H' hx ⟨v5,v6,v7,v8,v9,v10,v11,v12,v13,v14,v15,Ri,hes,hkt,rfl⟩ Tz hTz
      obtain ⟨pc,epc,hpc⟩:=datvs_has hSd hx
      have hil:=(List.getElem?_eq_some_iff.mp epc).1
      have hpm:pc ∈ sheet:=List.mem_of_getElem? epc
      have hr100:=ok.sh.rows pc hpm
      obtain ⟨tp,br,rs,rfl,hT,hR,hRd⟩:=dat_pie hpc
      have hrl:rs.length = pc.2.length:=by have:=hRd.length; rw [List.length_map] at this; exact this
      have s4:Same H' (upd H' Tz (.tup [.int (i:Nat),.ref tp])):=same_new hTz
      have hz4:upd H' Tz (.tup [.int (i:Nat),.ref tp]) Tz = some (.tup [.int (i:Nat),.ref tp]):=upd_same
      generalize upd H' Tz (.tup [.int (i:Nat),.ref tp]) = H4 at s4 hz4 ⊢
      have R4:=Ri.grow s4
      refine ⟨Tz,_,rfl,SqT.of hz4,rfl,_,_,rfl,_,_,rfl,rfl,?_⟩
      refine ⟨sr,i,sheet,rfl,hS.same (same_al (sHB.trans R4.sm)),hil,hsl,ok.hk,fun H5 hd s5 hd0 hhd=>?_⟩
      have R5:=R4.grow s5
      refine ⟨(show 0 ≤ sizeLine by decide),fun ow how=>?_⟩
      have s6:Same H5 (upd H5 ow (.lst [])):=same_new how
      have h6:upd H5 ow (.lst []) ow = some (.lst []):=upd_same
      have R6:RkI kf K B (upd H5 ow (.lst [])) jf [ow,j2,kr] al j2 kr as0 pv (stp kf notes sheet i).1 (stp kf notes sheet i).2:=by
        have g:=R5.grow s6
        exact ⟨g.sm,R5.ask.more how (fun o z=>by cases z),g.jdI,g.jn,List.mem_cons_of_mem _ g.jx,g.krI,g.kn,g.al0⟩
      obtain ⟨kx,hkx,hkv⟩:=R5.krI
      have hkxl:kx.length ≤ 100:=by rw [hkv.len,stp_len (by lia)]; lia
      obtain ⟨jkv,jk1,_⟩:=R5.jdI.ex
      have nok:ow ≠ kr:=fun z=>by rw [z,hkx] at how; cases how
      have ho0:B ow = none:=by
        cases z:B ow with
        | none=>rfl
        | some u =>
          by_cases zz:ow = al
          · obtain ⟨zs,q1⟩:=R5.ask.len
            rw [zz,q1.1] at how; cases how
          · rw [R5.sm _ _ zz z] at how; cases how
      have hnx:∀ k:Nat,kx[k]? ≠ some (V.ref ow):=fun k z=>by
        have hk:=(List.getElem?_eq_some_iff.mp z).1
        rw [hkv.len] at hk
        obtain ⟨b,b1,b2,_⟩:=hkv.at' k _ (List.getElem?_eq_getElem hk)
        rw [z] at b1
        cases b1
        rw [how] at b2; cases b2
      have nhd:hd ≠ j2:=fun z=>by
        obtain ⟨jv4,j4,_⟩:=R4.jdI.ex
        rw [z,j4] at hd0; cases hd0
      have hhd6:HdI (upd H5 ow (.lst [])) hd sheet i:=by
        obtain ⟨k0,k1,k2⟩:=hhd
        exact ⟨k0,s6 _ _ k1,k2⟩
      have hk6:upd H5 ow (.lst []) kr = some (.lst kx):=s6 _ _ hkx
      generalize upd H5 ow (.lst []) = H6 at s6 h6 R6 hhd6 hk6 ⊢
      refine .inr (.inl ⟨_,_,(same_al (sHB.trans R6.sm)).seqT hT,rfl,?_⟩)
      have hp:=hpos i (by lia)
      have eks:(stp kf notes sheet (i + 1)).1 = (stp kf notes sheet i).1 ++ [(rowsE kf notes sheet i (stp kf notes sheet i).1 (stp kf notes sheet i).2 pc.2 pc.2.length).map fun e=>kf e.2]:=by rw [stp_succ epc]
      have ees:(stp kf notes sheet (i + 1)).2 = (stp kf notes sheet i).2 ++ rowsE kf notes sheet i (stp kf notes sheet i).1 (stp kf notes sheet i).2 pc.2 pc.2.length:=by rw [stp_succ epc]
      have hka:∀ (k:Nat) (p:Int × List Rw),sheet[k]? = some p→k < i→∃ l,(stp kf notes sheet i).1[k]? = some l∧l.length = p.2.length:=fun k p e hk=>stp_at (by lia) hk e
      rw [eks,ees]
      generalize (stp kf notes sheet i).1 = ks at R6 hkt hka ⊢
      generalize (stp kf notes sheet i).2 = es at R6 hes hp ⊢
      refine .inl ⟨⟨_,(same_al (sHB.trans R6.sm)).seq hR⟩,for_list (K:=K) (a:=br) (xs:=rs)
        (fun j σ H'=>∃ (v9 v10 v11 v12 v13 v14 v15:Option V),RkI kf K B H' jf [ow,j2,kr] al j2 kr as0 pv ks (es ++ rowsE kf notes sheet i ks es pc.2 j)∧H' ow = some (.lst (txs ((rowsE kf notes sheet i ks es pc.2 j).map fun e=>kf e.2)))∧H' kr = some (.lst kx)∧HdI H' hd sheet i∧(∀ p ∈ es ++ rowsE kf notes sheet i ks es pc.2 j,EOk p.2) ∧
          σ = [some (.ref a),some (.ref sr),some (.ref d),some (.ref j2),some (.ref kr),some (.int (i:Nat)),some (.ref tp),some (.ref hd),some (.ref ow),v9,v10,v11,v12,v13,v14,v15])
        ⟨v9,v10,v11,v12,v13,v14,v15,by show RkI kf K B H6 jf [ow,j2,kr] al j2 kr as0 pv ks (es ++ []); rw [List.append_nil]; exact R6,h6,hk6,hhd6,(fun p hp=>by have hp':p ∈ es ++ []:=hp; rw [List.append_nil] at hp'; exact hes p hp'),rfl⟩ (fun j σ H' _ h=>by obtain ⟨_,_,_,_,_,_,_,r,_⟩:=h; exact (same_al (sHB.trans r.sm)).seq hR) ?_ ?_⟩
      · rintro j x σ H7 hx7 ⟨v9,v10,v11,v12,v13,v14,v15,R7,ow7,kr7,hd7,hes7,rfl⟩
        obtain ⟨rq,erq,hrq⟩:=datvs_has hRd hx7
        have hjl:=(List.getElem?_eq_some_iff.mp erq).1
        have hrm:rq ∈ pc.2:=List.mem_of_getElem? erq
        obtain ⟨tr,bp,pvv,rfl,hRT,hPL,hPD⟩:=dat_row hrq
        have hlen:(rowsE kf notes sheet i ks es pc.2 j).length = j:=rowsE_len (by lia)
        refine ⟨tr,_,rfl,(same_al (sHB.trans R7.sm)).seqT hRT,rfl,_,_,rfl,_,_,rfl,_,_,rfl,rfl,?_⟩
        refine hq2 _ B H7 d kr j2 ow hd bp kvs nb i pc rq pvv ks _ _ _ v12 v13 v14 v15 bI hil hpm hrm hPL hPD R7 ow7 ho0 nok (fun xs e k=>by rw [kr7] at e; cases e; exact hnx k) hd7 nhd hka ?_ hes7 hkt (by rw [List.length_append,hlen]; lia) (by rw [List.length_map,hlen]; lia) fun H8 w12 w13 w14 w15 R8 o8 k8 d8=>?_
        · intro y hy ey
          obtain ⟨i',q',h1,h2,h3⟩:=ok.nod pc hpm j rq erq y hy ey
          obtain ⟨p,hp1,hp2⟩:=rowsE_mark (kf:=kf) (notes:=notes) (sheet:=sheet) (n:=i) (ks:=ks) (es:=es) h2 h1
          obtain ⟨e,he,_⟩:=lk_has (es:=es ++ rowsE kf notes sheet i ks es pc.2 j) (m:=y.1) ⟨p,List.mem_append_right _ hp1,hp2.trans h3⟩
          exact ⟨e,he⟩
        · refine ⟨_,_,_,_,_,_,_,?_,?_,k8.trans kr7,d8,?_,rfl⟩
          · rw [rowsE_succ erq,← List.append_assoc]; exact R8
          · rw [rowsE_succ erq,List.map_append]; exact o8
          · rw [rowsE_succ erq,← List.append_assoc]
            intro p hp
            rcases List.mem_append.mp hp with z | z
            · exact hes7 p z
            · rw [List.mem_singleton.mp z]; exact rowE_ok ok hpm hrm hes7 hkt
      · rintro σ H7 ⟨v9,v10,v11,v12,v13,v14,v15,R7,ow7,kr7,hd7,hes7,rfl⟩
        rw [hrl] at R7 ow7 hes7
        refine ⟨.inl ⟨rfl,_,SqL.of kr7⟩,_,kr7,by lia,?_⟩
        refine ⟨_,_,_,_,_,_,_,_,_,_,_,R7.done List.mem_cons_self (List.mem_cons_of_mem _ List.mem_cons_self) kr7 ow7 ho0 nok,hes7,?_,rfl⟩
        intro l hl t ht
        rcases List.mem_append.mp hl with z | z
        · exact hkt l z t ht
        · rw [List.mem_singleton.mp z] at ht
          obtain ⟨e,he,rfl⟩:=List.mem_map.mp ht
          exact ok.kt _ (hes7 e (List.mem_append_right _ he))
    · rintro σ H' ⟨v5,v6,v7,v8,v9,v10,v11,v12,v13,v14,v15,Ri,hes,hkt,rfl⟩
      rw [hyl] at Ri
      have hp:=hpos sheet.length (Nat.le_refl _)
      have ha9:H' a = some (.ins C dx (flds nr jf jd)):=(sHB.trans Ri.sm) _ _ naa ha
      refine ⟨dx,_,ha9,(show 3 < 1000 by decide),?_⟩
      obtain ⟨kx,hkx,hkv⟩:=Ri.krI
      have na:∀ {t:Addr} {vs:List V},H' t = some (.tup vs)→t ≠ a:=fun e z=>by rw [z,ha9] at e; cases e
      have nl:∀ {t:Addr} {vs:List V},H' t = some (.lst vs)→t ≠ a:=fun e z=>by rw [z,ha9] at e; cases e
      obtain ⟨jkv,jk1,_⟩:=Ri.jdI.ex
      have nj:j2 ≠ a:=fun z=>by rw [z,ha9] at jk1; cases jk1
      have hH:∀ {b:Addr},B b = none→H b = none:=fun {b} e=>by
        cases z:H b with
        | none=>rfl
        | some u=>rw [bI.same _ _ z] at e; cases e
      refine q _ kr j2 _ kx (fun b u n1 n2 e=>?_) upd_same (Ri.jdI.mono (upd_ne nj) fun t vs e=>by rw [upd_ne (na e)]; exact e) ?_ (by rw [upd_ne (nl hkx)]; exact hkx) ⟨hkv.len,fun k l e=>?_⟩ (hH Ri.kn)
      · rw [upd_ne n2]; exact (sHB.trans Ri.sm) _ _ n1 e
      · exact (Ri.ask.less.less).putO ha9 (fun xs z=>by cases z) (fun xs z=>by cases z) (fun o x z=>by cases z) (fun o z=>by cases z)
      · obtain ⟨b,b1,b2,b3,b4⟩:=hkv.at' k l e
        exact ⟨b,b1,by rw [upd_ne (nl b2)]; exact b2,hH b3,b4⟩
end
end K75
namespace K75
open PySem PySem.Spec PyProof.Rows L2 Rg
noncomputable def kn0 (n:Int) (t:List Nat):Int:=t.foldl (fun a c=>(a * 131 + (c:Nat)) % 1000003) n
noncomputable def kn1 (n:Int) (t:List Nat):Int:=(kn0 n (t.take 9) * 69621 + (t.length:Nat)) % 1000033
noncomputable def kn3 (n:Int) (t:List Nat):Int:=t.foldl (fun a c=>(a * 137 + (c:Nat)) % 1000033) n
noncomputable def kn2 (n:Int):Option (List Nat)→Int
  | none=>n
  | some t=>kn3 ((n * 48271 + 5 + (t.length:Nat)) % 1000003) (t.take 9)
noncomputable def knum (e:E3):Int:=kn2 (e.2.1.foldl kn1 ((e.1:Nat) * 7919 + 17)) e.2.2
noncomputable def ktx (n:Int):List Nat:=if n % 9 = 4 then [] else if n % 9 = 5 then List.replicate (50 + n / 9 % 11).toNat 122 else (("k":Str) ++ Str.ofString (toString n)).cps.toList
noncomputable def kfn (e:E3):List Nat:=ktx (knum e)
theorem kn3_b:∀ (t:List Nat) {n:Int},0 ≤ n→n < 100000000→0 ≤ kn3 n t∧kn3 n t < 100000000
  | [],n,h1,h2=>⟨h1,h2⟩
  | c :: t,n,h1,h2=>kn3_b t (n:=(n * 137 + (c:Nat)) % 1000033) (by lia) (by lia)
theorem kn1_b:∀ (g:List (List Nat)) {n:Int},0 ≤ n→n < 100000000→0 ≤ g.foldl kn1 n∧g.foldl kn1 n < 100000000
  | [],n,h1,h2=>⟨h1,h2⟩
  | t :: g,n,h1,h2=>kn1_b g (n:=kn1 n t) (by unfold kn1; lia) (by unfold kn1; lia)
theorem knum_b {e:E3} (h:EOk e):0 ≤ knum e∧knum e < 100000000:=by
  have hr:=h.r
  have h1:=kn1_b e.2.1 (n:=((e.1:Nat):Int) * 7919 + 17) (by lia) (by lia)
  unfold knum
  cases e.2.2 with
  | none=>exact h1
  | some t=>exact kn3_b _ (by lia) (by lia)
theorem num_cps (s:String):∀ c ∈ (Str.ofString s).cps.toList,c < 1114112:=by
  rw [Str.ofString_eq_byList]
  unfold Str.ofStringByList
  intro c hc
  have hc':c ∈ s.toList.map Char.toNat:=by simpa using hc
  obtain ⟨x,_,rfl⟩:=List.mem_map.mp hc'
  have:=x.valid
  show x.val.toNat < 1114112
  rcases this with h | h
  · have h':x.val.toNat < 55296:=h
    lia
  · exact h.2
theorem ktx_ok {n:Int} (h0:0 ≤ n) (h1:n < 100000000):TxOk (ktx n):=by
  unfold ktx
  split
  · exact ⟨(fun c h=>by cases h),Nat.zero_le _⟩
  · split
    · refine ⟨fun c h=>?_,?_⟩
      · have:=List.eq_of_mem_replicate h; lia
      · rw [List.length_replicate]; lia
    · refine ⟨fun c h=>?_,?_⟩
      · rw [Str.cps_append,Array.toList_append] at h
        rcases List.mem_append.mp h with z | z
        · exact num_cps "k" c z
        · exact num_cps _ c z
      · have h2:=PySem.W.KT.len_num h0 (show n < 10 ^ 10 by lia)
        have h3:=PySem.W.KT.len_app (a:=("k":Str)) (b:=Str.ofString (toString n)) (A:=1) (B:=10) (by decide) h2
        rw [Str.length,← Array.length_toList] at h3
        lia
theorem kfn_ok (e:E3) (h:EOk e):TxOk (kfn e):=ktx_ok (knum_b h).1 (knum_b h).2
theorem z_ok:∀ j:Fin 11,MulOk ("z":Str) (50 + (j.val:Int)):=by
  unfold MulOk
  decide +kernel
theorem z_eq:∀ j:Fin 11,Txt.mul ("z":Str) (50 + (j.val:Int)) = S (List.replicate (50 + j.val) 122):=by decide +kernel
section
variable {P:Program} {w:World} {K:PySem.W.Frag} {mg:Str→Option Value} {base:Heap}
inductive spKind (K:PySem.W.Frag) (vs : List V) (H : Hp) (Q : VK) (_e : XK) : Prop | mk (g:Addr) (e:E3) : (vs = [.int (e.1:Nat),.ref g,txtV e.2.2]) → (SqL K H g (txs e.2.1)) → EOk e → (Q (.str (S (kfn e))) H) → spKind K vs H Q _e
noncomputable abbrev st__law_kind:Stmt:=top 16
theorem sc__law_kind:FnScope ["_law_rule","_law_given","_law_found_here","_law_number","_law_text","_law_sign"] ["_law_rule","_law_given","_law_found_here"] (defScope st__law_kind):=⟨rfl,rfl,rfl,by decide +kernel,rfl,by decide +kernel,by decide +kernel⟩
theorem def_kind (R:Raw K mg "_law_kind" st__law_kind ["_law_rule","_law_given","_law_found_here"]) (T:Txt K w mg):Def P w K mg base 1 "_law_kind" ["_law_rule","_law_given","_law_found_here"] (spKind K):=by
  refine R.defJ sc__law_kind (fun vs H Q E h=>?_) (fun f cdv A outer s H vs Q E hr h=>?_)
  · obtain ⟨g,e,rfl,_⟩:=h
    rfl
  · obtain ⟨g,e,rfl,hS,he,q⟩:=h
    have sc:=sc__law_kind
    have hu:=hr.units
    have hb:=big
    have hr1:=he.r
    obtain ⟨u3, hP3, hq3⟩ : ∃ u, JSs (cxOf CX0 P w K mg base ["_law_rule", "_law_given", "_law_found_here", "_law_number", "_law_text", "_law_sign"] "_law_kind" (defScope st__law_kind) f cdv A outer s H E).nox ((defBody st__law_kind).drop 3) u ∧
        ∀ (n:Int) (v4 v5:Option V),0 ≤ n→n < 100000000→n = knum e→u { nx:=fun _ H'=>Q .non H',rt:=Q } [some (.int (e.1:Nat)),some (.ref g),some (txtV e.2.2),some (.int n),v4,v5] H:=by
      refine ⟨_,(jss_cons (js_if (jt_cmp (o_eq hu (K:=K)) (j_op o_mod (jn 3) j_int) j_int)
    (jss_one (js_ret j_str))
    jss_nil)
    (jss_cons (js_if (jt_cmp (o_eq hu (K:=K)) (j_op o_mod (jn 3) j_int) j_int)
    (jss_one (js_ret (j_op o_mul j_str (j_op (o_add (K:=K)) j_int (j_op o_mod (j_op o_div (jn 3) j_int) j_int)))))
    jss_nil)
    (jss_one (js_ret (j_op (o_add (K:=K)) j_str (j_callTy c_strI rfl T.n_str boot_str (ja_cons (jn 3) ja_nil))))))),?_⟩
      intro n v4 v5 h0 h1 hn
      have hq:Q (.str (S (ktx n))) H:=by rw [hn]; exact q
      clear q hn
      refine ⟨by decide,?_⟩
      show if (false ^^ decide (n % 9 = 4)) = true then _ else _
      rw [Bool.false_xor]
      unfold ktx at hq
      refine ite2 (fun h=>?_) (fun h=>?_)
      · rw [if_pos (of_decide_eq_true h)] at hq
        exact hq
      · rw [if_neg (fun z=>h (decide_eq_true z))] at hq
        refine ⟨by decide,?_⟩
        show if (false ^^ decide (n % 9 = 5)) = true then _ else _
        rw [Bool.false_xor]
        refine ite2 (fun h=>?_) (fun h=>?_)
        · rw [if_pos (of_decide_eq_true h)] at hq
          refine ⟨⟨by decide,by decide⟩,by decide,?_⟩
          have hj:(n / 9 % 11).toNat < 11:=by lia
          have ej:n / 9 % 11 = (((⟨(n / 9 % 11).toNat,hj⟩:Fin 11).val:Nat):Int):=by show _ = (((n / 9 % 11).toNat:Nat):Int); lia
          have h2:=z_ok ⟨(n / 9 % 11).toNat,hj⟩
          have h3:=z_eq ⟨(n / 9 % 11).toNat,hj⟩
          rw [← ej] at h2 h3
          refine ⟨h2,?_⟩
          rw [h3]
          rw [show (50 + n / 9 % 11).toNat = 50 + (n / 9 % 11).toNat by lia] at hq
          exact hq
        · rw [if_neg (fun z=>h (decide_eq_true z))] at hq
          have h2:=PySem.W.KT.len_num h0 (show n < 10 ^ 10 by lia)
          refine ⟨?_,?_,?_⟩
          · by_cases hz:n.natAbs = 0
            · rw [hz]; decide
            · exact (Nat.log2_lt hz).mpr (Nat.lt_of_lt_of_le (show n.natAbs < 2 ^ 27 by lia) (Nat.pow_le_pow_right (by decide) (by decide)))
          · have:(("k":Str)).length = 1:=by decide
            lia
          · rw [← S_of] at hq
            exact hq
    refine ⟨_,(jss_cons (js_set (i:=3) sc.nd rfl (Or.inl rfl) (j_op (o_add (K:=K)) (j_op o_mul (jn 0) j_int) j_int))
    (jss_cons (js_for PassesOwn.never rfl (ji_any (K:=K) (jn 1)) (jg_name (i:=4) sc.nd rfl (Or.inl rfl))
    (jss_cons (js_for PassesOwn.never rfl (ji_any (K:=K) (j_slice (o_slA (K:=K)) (jn 4) jo_none (jo_some j_int))) (jg_name (i:=5) sc.nd rfl (Or.inl rfl))
    (jss_one (js_set (i:=3) sc.nd rfl (Or.inl rfl) (j_op o_mod (j_op (o_add (K:=K)) (j_op o_mul (jn 3) j_int) (j_callB c_ord rfl T.n_ord boot_ord (ja_cons (jn 5) ja_nil))) j_int))))
    (jss_one (js_set (i:=3) sc.nd rfl (Or.inl rfl) (j_op o_mod (j_op (o_add (K:=K)) (j_op o_mul (jn 3) j_int) (j_callB (c_len (K:=K)) rfl T.n_len PySem.boot_len (ja_cons (jn 4) ja_nil))) j_int)))))
    (jss_cons (js_if (jt_cmp o_isnot (jn 2) j_non)
    (jss_cons (js_set (i:=3) sc.nd rfl (Or.inl rfl) (j_op o_mod (j_op (o_add (K:=K)) (j_op (o_add (K:=K)) (j_op o_mul (jn 3) j_int) j_int) (j_callB (c_len (K:=K)) rfl T.n_len PySem.boot_len (ja_cons (jn 2) ja_nil))) j_int))
    (jss_one (js_for PassesOwn.never rfl (ji_any (K:=K) (j_slice (o_slA (K:=K)) (jn 2) jo_none (jo_some j_int))) (jg_name (i:=5) sc.nd rfl (Or.inl rfl))
    (jss_one (js_set (i:=3) sc.nd rfl (Or.inl rfl) (j_op o_mod (j_op (o_add (K:=K)) (j_op o_mul (jn 3) j_int) (j_callB c_ord rfl T.n_ord boot_ord (ja_cons (jn 5) ja_nil))) j_int))))))
    jss_nil)
    hP3))),?_⟩
    refine ⟨.inr ⟨by decide,by decide⟩,?_⟩
    have hn0:(0:Int) ≤ ((e.1:Nat):Int) * 7919 + 17:=by lia
    have hn1:((e.1:Nat):Int) * 7919 + 17 < 100000000:=by lia
    have hkn:knum e = kn2 (e.2.1.foldl kn1 (((e.1:Nat):Int) * 7919 + 17)) e.2.2:=rfl
    obtain ⟨n0,en0⟩:∃ n0:Int,n0 = ((e.1:Nat):Int) * 7919 + 17:=⟨_,rfl⟩
    rw [← en0] at hn0 hn1 hkn
    refine .inl ⟨⟨_,hS⟩,for_list (K:=K) (a:=g) (xs:=txs e.2.1) (fun i σ H'=>∃ (v4 v5:Option V),H' = H∧σ = [some (.int (e.1:Nat)),some (.ref g),some (txtV e.2.2),some (.int ((e.2.1.take i).foldl kn1 n0)),v4,v5])
      ⟨none,none,rfl,by rw [en0]; rfl⟩ (fun i σ H' _ h=>by obtain ⟨_,_,rfl,_⟩:=h; exact hS) ?_ ?_⟩
    · rintro i x σ H' hx ⟨v4,v5,rfl,rfl⟩
      unfold txs at hx
      rw [List.getElem?_map] at hx
      cases et:e.2.1[i]? with
      | none=>rw [et] at hx; cases hx
      | some t =>
        rw [et] at hx
        have ex:x = .str (S t):=(Option.some.inj hx).symm
        subst ex
        have htk:=he.g t (List.mem_of_getElem? et)
        have hb1:=kn1_b (e.2.1.take i) hn0 hn1
        have etk:e.2.1.take (i + 1) = e.2.1.take i ++ [t]:=by rw [List.take_add_one,et]; rfl
        have hfold:(e.2.1.take (i + 1)).foldl kn1 n0 = kn1 ((e.2.1.take i).foldl kn1 n0) t:=by rw [etk,List.foldl_append]; rfl
        rw [hfold]
        generalize (e.2.1.take i).foldl kn1 n0 = n1 at hb1 ⊢
        refine ⟨by rw [S_len]; have:=htk.2; lia,?_⟩
        show ∃ W,_
        have hsl:Txt.slice (S t) none (some 9) = S (t.take 9):=by rw [slice_S]; exact congrArg S (cut_to t 9)
        rw [hsl]
        refine for_str (x:=S (t.take 9)) (fun k σ H2=>∃ (v5:Option V),H2 = H'∧σ = [some (.int (e.1:Nat)),some (.ref g),some (txtV e.2.2),some (.int (kn0 n1 ((t.take 9).take k))),some (.str (S t)),v5]) ⟨v5,rfl,rfl⟩ ?_ ?_
        · rintro k c σ H2 hc ⟨v5,rfl,rfl⟩
          have hc':(t.take 9)[k]? = some c:=by simpa using hc
          have ek:(t.take 9).take (k + 1) = (t.take 9).take k ++ [c]:=by rw [List.take_add_one,hc']; rfl
          refine ⟨.inr ⟨by decide,by decide⟩,rfl,by decide,some (.str ⟨#[c]⟩),rfl,?_⟩
          rw [ek]
          unfold kn0
          rw [List.foldl_append]
          rfl
        · rintro σ H2 ⟨v5,rfl,rfl⟩
          have e9:(t.take 9).take (S (t.take 9)).cps.size = t.take 9:=by
            rw [show (S (t.take 9)).cps.size = (t.take 9).length by simp,List.take_length]
          rw [e9]
          refine ⟨.inr ⟨by decide,by decide⟩,by rw [S_len]; have:=htk.2; lia,by decide,some (.str (S t)),v5,rfl,?_⟩
          rw [S_len]
          rfl
    · rintro σ H' ⟨v4,v5,rfl,rfl⟩
      have el:(e.2.1.take (txs e.2.1).length) = e.2.1:=by unfold txs; rw [List.length_map,List.take_length]
      rw [el]
      have hb1:=kn1_b e.2.1 hn0 hn1
      generalize e.2.1.foldl kn1 n0 = n1 at hb1 hkn ⊢
      cases ef:e.2.2 with
      | none =>
        rw [ef] at hq3 hkn
        exact hq3 _ _ _ hb1.1 hb1.2 hkn.symm
      | some t =>
        rw [ef] at hq3 hkn
        have htk:=he.f t ef
        refine ⟨.inr ⟨by decide,by decide⟩,by rw [S_len]; have:=htk.2; lia,by decide,?_⟩
        rw [S_len]
        have hm0:0 ≤ (n1 * 48271 + 5 + (t.length:Nat)) % 1000003:=by lia
        have hm1:(n1 * 48271 + 5 + (t.length:Nat)) % 1000003 < 100000000:=by lia
        have hkn':knum e = kn3 ((n1 * 48271 + 5 + (t.length:Nat)) % 1000003) (t.take 9):=hkn
        generalize (n1 * 48271 + 5 + (t.length:Nat)) % 1000003 = n2 at hm0 hm1 hkn' ⊢
        refine ⟨by rw [S_len]; have:=htk.2; lia,?_⟩
        show ∃ W,_
        have hsl:Txt.slice (S t) none (some 9) = S (t.take 9):=by rw [slice_S]; exact congrArg S (cut_to t 9)
        rw [hsl]
        refine for_str (x:=S (t.take 9)) (fun k σ H2=>∃ (v4 v5:Option V),H2 = H'∧σ = [some (.int (e.1:Nat)),some (.ref g),some (.str (S t)),some (.int (kn3 n2 ((t.take 9).take k))),v4,v5]) ⟨v4,v5,rfl,rfl⟩ ?_ ?_
        · rintro k c σ H2 hc ⟨v4,v5,rfl,rfl⟩
          have hc':(t.take 9)[k]? = some c:=by simpa using hc
          have ek:(t.take 9).take (k + 1) = (t.take 9).take k ++ [c]:=by rw [List.take_add_one,hc']; rfl
          refine ⟨.inr ⟨by decide,by decide⟩,rfl,by decide,v4,some (.str ⟨#[c]⟩),rfl,?_⟩
          rw [ek]
          unfold kn3
          rw [List.foldl_append]
          rfl
        · rintro σ H2 ⟨v4,v5,rfl,rfl⟩
          have e9:(t.take 9).take (S (t.take 9)).cps.size = t.take 9:=by
            rw [show (S (t.take 9)).cps.size = (t.take 9).length by simp,List.take_length]
          rw [e9]
          have hb3:=kn3_b (t.take 9) hm0 hm1
          exact hq3 _ _ _ hb3.1 hb3.2 hkn'.symm
end
end K75
namespace K75
open PySem PySem.Spec PyProof.Rows L2 Rg
section
variable {P:Program} {w:World} {K:PySem.W.Frag} {mg:Str→Option Value} {base:Heap}
theorem fv_judge (T:Txt K w mg) (D__law_kind:Def P w K mg base 1 "_law_kind" ["_law_rule","_law_given","_law_found_here"] (spKind K)) (f:Addr):FnV P w K mg base 2 f (spJ kfn K f) where
  fn:=fun vs H Q E h=>by
    obtain ⟨g,al,X,e,as,rfl,hg,ng,hA,_⟩:=h
    obtain ⟨cs,C⟩:=hA.clo
    obtain ⟨cl,⟨doc,pm,c',ctv,oc,vs,t,h1,_⟩,_⟩:=C.ex
    exact ⟨_,_,_,_,h1⟩
  run:=fun A outer s H us vs Q E hr e0 r h=>by
    obtain ⟨g,al,X,e,as,rfl,hg,ng,hA,has,he,q⟩:=h
    obtain ⟨cs,C⟩:=hA.clo
    have hb:=big
    obtain ⟨ys,hy1,hy2⟩:=hA.lst
    have hyl:ys.length = as.length:=by have:=hy2.length; rw [List.length_map] at this; exact this
    have hl3:us.length = 3:=by rw [← r.length]; rfl
    obtain ⟨w1,w2,w3,rfl⟩:∃ w1 w2 w3,us = [w1,w2,w3]:=by
      match us,hl3 with
      | [a,b,c],_=>exact ⟨a,b,c,rfl⟩
    refine clo_runN (k:=1) hr e0 C sn_law__law_judge (fun cl doc pm c' ctv=>rfl) rfl r fun cd cl hr=>?_
    have hu:=hr.units
    have sn:=sn_law__law_judge
    refine ⟨_,(jss_cons (js_expr (j_bm (K:=K) PySem.F.plainAttrs_list PySem.F.slot_list_append PySem.F.type_list_append m_append (jn 3) (ja_cons (j_tup (ja_cons (jn 0) (ja_cons (j_callTy (c_list (K:=K)) rfl T.n_list boot_list (ja_cons (jn 1) ja_nil)) (ja_cons (jn 2) ja_nil)))) ja_nil)))
    (jss_one (js_ret (j_def D__law_kind (hr.mono (by decide)) rfl (ja_cons (jn 0) (ja_cons (jn 1) (ja_cons (jn 2) ja_nil))))))),?_⟩
    have nal:al ∉ cs:=kn_not C.kn hy1 fun o z=>by cases z
    have nog:g ∉ cs:=kn_not C.kn hg fun o z=>by cases z
    have hal:rem cs H al = some (.lst ys):=by rw [rem_out nal]; exact hy1
    have hgg:rem cs H g = some (.lst (txs e.2.1)):=by rw [rem_out nog]; exact hg
    refine ⟨.inl ⟨rfl,_,SqL.of hal⟩,?_⟩
    refine ⟨_,.inl (SqL.of hgg),fun l hl=>?_⟩
    have s1:Same (rem cs H) (upd (rem cs H) l (.lst (txs e.2.1))):=same_new hl
    have h1:upd (rem cs H) l (.lst (txs e.2.1)) l = some (.lst (txs e.2.1)):=upd_same
    generalize upd (rem cs H) l (.lst (txs e.2.1)) = H1 at s1 h1 ⊢
    refine ⟨(show 3 ≤ sizeLine by decide),fun t ht=>?_⟩
    have s2:Same H1 (upd H1 t (.tup [.int (e.1:Nat),.ref l,txtV e.2.2])):=same_new ht
    have h2:upd H1 t (.tup [.int (e.1:Nat),.ref l,txtV e.2.2]) t = some (.tup [.int (e.1:Nat),.ref l,txtV e.2.2]):=upd_same
    generalize upd H1 t (.tup [.int (e.1:Nat),.ref l,txtV e.2.2]) = H2 at s2 h2 ⊢
    have s12:=s1.trans s2
    have al2:=s12 _ _ hal
    refine ⟨ys,al2,by lia,?_⟩
    have nla:l ≠ al:=fun z=>by rw [z,hal] at hl; cases hl
    have nta:t ≠ al:=fun z=>by rw [z,s1 _ _ hal] at ht; cases ht
    have l2:=s2 _ _ h1
    refine ⟨g,e,rfl,SqL.of (by rw [upd_ne ng]; exact s12 _ _ hgg),he,fun hcs=>?_⟩
    have a3:upd H2 al (.lst (ys ++ [.ref t])) al = some (.lst (ys ++ [.ref t])):=upd_same
    have l3:upd H2 al (.lst (ys ++ [.ref t])) l = some (.lst (txs e.2.1)):=by rw [upd_ne nla]; exact l2
    have t3:upd H2 al (.lst (ys ++ [.ref t])) t = some (.tup [.int (e.1:Nat),.ref l,txtV e.2.2]):=by rw [upd_ne nta]; exact h2
    have k3:∀ b u,b ≠ al→rem cs H b = some u→upd H2 al (.lst (ys ++ [.ref t])) b = some u:=fun b u n e=>by rw [upd_ne n]; exact s12 _ _ e
    generalize upd H2 al (.lst (ys ++ [.ref t])) = H3 at hcs a3 l3 t3 k3 ⊢
    have nlc:l ∉ cs:=fun m=>by rw [hcs l m] at l3; cases l3
    have ntc:t ∉ cs:=fun m=>by rw [hcs t m] at t3; cases t3
    have st:SmB al H (back cs H H3):=fun b u n e=>by
      by_cases m:b ∈ cs
      · rw [back_in m]; exact e
      · rw [back_out m]; exact k3 b u n (by rw [rem_out m]; exact e)
    have a4:back cs H H3 al = some (.lst (ys ++ [.ref t])):=by rw [back_out nal]; exact a3
    have l4:back cs H H3 l = some (.lst (txs e.2.1)):=by rw [back_out nlc]; exact l3
    have t4:back cs H H3 t = some (.tup [.int (e.1:Nat),.ref l,txtV e.2.2]):=by rw [back_out ntc]; exact t3
    have fresh:∀ {b:Addr},rem cs H b = none→b ∉ cs→b ∉ g :: X:=fun {b} e n m=>by
      obtain ⟨u,hu,_⟩:=hA.xs b m
      rw [rem_out n,hu] at e; cases e
    have nlx:=fresh hl nlc
    have t0:rem cs H t = none:=by
      cases z:rem cs H t with
      | none=>rfl
      | some u=>rw [s1 _ _ z] at ht; cases ht
    have ntx:=fresh t0 ntc
    generalize back cs H H3 = H4 at st a4 l4 t4 ⊢
    refine q H4 (fun b u n _ e=>st b u n e) ⟨⟨cs,C.same (hA.kn st)⟩,⟨_,a4,?_⟩,fun c m=>?_⟩
    · rw [List.map_append]
      refine DatVs.snoc ?_ (hy2.same (SmB.remX st))
      have rt:rem (al :: g :: X) H4 t = some (.tup [.int (e.1:Nat),.ref l,txtV e.2.2]):=by rw [rem_out (fun m=>by rcases List.mem_cons.mp m with z | z; exact nta z; exact ntx z)]; exact t4
      have rl:rem (al :: g :: X) H4 l = some (.lst (txs e.2.1)):=by rw [rem_out (fun m=>by rcases List.mem_cons.mp m with z | z; exact nla z; exact nlx z)]; exact l4
      exact .tuple (SqT.of rt) (.cons (.int _) (.cons (.list (SqL.of rl) (txs_dat _)) (.cons (txt_dat _) .nil)))
    · obtain ⟨u,hu,n⟩:=hA.xs c m
      by_cases z:c = al
      · exact ⟨_,by rw [z]; exact a4,fun o y=>by cases y⟩
      · exact ⟨u,st _ _ z hu,n⟩
end
end K75
namespace K75
open PySem PySem.Spec PyProof.Rows L2 Rg
section
variable {P:Program} {w:World} {K:PySem.W.Frag} {mg:Str→Option Value} {base:Heap}
inductive spBdr (K:PySem.W.Frag) (vs : List V) (H : Hp) (Q : VK) (_e : XK) : Prop | mk (sr nr:Addr) (n:Nat) (nm:List Nat) (sheet:List (Int × List Rw)) (notes:List (Int × Int)) : (vs = [.ref sr,.ref nr,.int (n:Nat),.str (S nm)]) → (DatV K H (.ref sr) (.list (sheet.map pieDat))) → (DatV K H (.ref nr) (.list (notes.map noteDat))) → ShOk notes sheet → HolOk sheet → (n < sheet.length) → (∀ (H':Hp) (v:V),Same H H'→DatV K H' v (optDat (toldF notes sheet n nm))→Q v H') → spBdr K vs H Q _e
noncomputable abbrev st__law_binder:Stmt:=top 15
theorem sc__law_binder:FnScope ["_law_sheet_here","_law_notes_here","_law_number","_law_name","_law_k","_law_other"] ["_law_sheet_here","_law_notes_here","_law_number","_law_name"] (defScope st__law_binder):=⟨rfl,rfl,rfl,by decide +kernel,rfl,by decide +kernel,by decide +kernel⟩
theorem def_bdr (R : Raw K mg "_law_binder" st__law_binder ["_law_sheet_here", "_law_notes_here", "_law_number", "_law_name"]) (T : Txt K w mg) (D__law_bound_in : Def P w K mg base 1 "_law_bound_in" ["_law_rows_here", "_law_notes_here", "_law_name"] (spBin K)) (D__law_sees : Def P w K mg base 1 "_law_sees" ["_law_sheet_here", "_law_number", "_law_other"] (spSees K)) :
    Def P w K mg base 2 "_law_binder" ["_law_sheet_here","_law_notes_here","_law_number","_law_name"] (spBdr K):=by
  refine R.defJ sc__law_binder (fun vs H Q E h=>?_) (fun f cdv A outer s H vs Q E hr h=>?_)
  · obtain ⟨sr,nr,n,nm,sheet,notes,rfl,_⟩:=h
    rfl
  · obtain ⟨sr,nr,n,nm,sheet,notes,rfl,hS,hN,ok,hk,hn,q⟩:=h
    have sc:=sc__law_binder
    have hu:=hr.units
    have hb:=big
    have hl:=ok.len
    obtain ⟨_,ys,e0,hSl,hSd⟩:=dat_list hS
    cases e0
    refine ⟨_,(jss_cons (js_for PassesOwn.never rfl (ji_rng1 rfl T.n_range (ja_cons (jn 2) ja_nil)) (jg_name (i:=4) sc.nd rfl (Or.inl rfl))
    (jss_cons (js_set (i:=5) sc.nd rfl (Or.inl rfl) (j_op o_sub (j_op o_sub (jn 2) j_int) (jn 4)))
    (jss_one (js_if (jw_t (jw_and (jt_val (j_def D__law_sees (hr.mono (by decide)) rfl (ja_cons (jn 0) (ja_cons (jn 2) (ja_cons (jn 5) ja_nil))))) (jw_and1 (jt_cmp o_ge (j_def D__law_bound_in (hr.mono (by decide)) rfl (ja_cons (j_ix (o_ix hu (K:=K) (w:=w)) (j_ix (o_ix hu (K:=K) (w:=w)) (jn 0) (jn 5)) j_int) (ja_cons (jn 1) (ja_cons (jn 3) ja_nil)))) j_int))))
    (jss_one (js_ret (j_tup (ja_cons (jn 5) (ja_cons (j_def D__law_bound_in (hr.mono (by decide)) rfl (ja_cons (j_ix (o_ix hu (K:=K) (w:=w)) (j_ix (o_ix hu (K:=K) (w:=w)) (jn 0) (jn 5)) j_int) (ja_cons (jn 1) (ja_cons (jn 3) ja_nil)))) ja_nil)))))
    jss_nil))))
    (jss_one (js_ret j_non))),?_⟩
    refine ⟨by lia,by lia,?_⟩
    generalize hok:(fun o=>decide (o < n) && seesB sheet n o) = okf
    have htold:toldF notes sheet n nm = dueT notes nm sheet okf n:=by rw [← hok]; rfl
    have pcOk:∀ o,o < sheet.length→(sheet.getD o (-1,[])).2.length ≤ 100∧∀ q ∈ (sheet.getD o (-1,[])).2,RowOk notes q:=fun o ho=>by
      have e:sheet.getD o (-1,[]) = sheet[o]:=by rw [List.getD,List.getElem?_eq_getElem ho]; rfl
      rw [e]
      exact ⟨ok.rows _ (List.getElem_mem ho),ok.ok _ (List.getElem_mem ho)⟩
    refine for_range (n:=((n:Nat):Int).toNat) (fun i σ H'=>H' = H∧lastT notes nm sheet okf n = lastT notes nm sheet okf (n - i)∧∃ v4 v5,σ = [some (.ref sr),some (.ref nr),some (.int (n:Nat)),some (.str (S nm)),v4,v5])
      ⟨rfl,rfl,none,none,rfl⟩ ?_ ?_
    · rintro i σ H' hi ⟨rfl,hlast,v4,v5,rfl⟩
      rw [Int.toNat_natCast] at hi
      obtain ⟨o,ho⟩:∃ o,n - i = o + 1:=⟨n - i - 1,by lia⟩
      have ho':o < sheet.length:=by lia
      obtain ⟨tp,br,rs,ey,hT,hR,hRd⟩:=sheet_at hSd ho'
      have hokf:okf o = seesB sheet n o:=by rw [← hok]; show (decide (o < n) && _) = _; rw [decide_eq_true (by lia),Bool.true_and]
      have hstep:lastT notes nm sheet okf (o + 1) = if okf o = true∧(fnd notes nm (sheet.getD o (-1,[])).2).isSome = true then some o else lastT notes nm sheet okf o:=rfl
      rw [ho,hstep] at hlast
      have eo:((n:Nat):Int) - 1 - (0 + ((i:Nat):Int)) = ((o:Nat):Int):=by lia
      have no:¬ (okf o = true∧(fnd notes nm (sheet.getD o (-1,[])).2).isSome = true)→lastT notes nm sheet okf n = lastT notes nm sheet okf (n - (i + 1)):=fun hc=>by
        rw [if_neg hc] at hlast
        rw [hlast,show n - (i + 1) = o by lia]
      have hix:atI ys (((n:Nat):Int) - 1 - (0 + ((i:Nat):Int))) = some (.ref tp):=by rw [eo]; exact atI_nat ey
      refine ⟨sr,n,o,sheet,congrArg (fun z=>[V.ref sr,V.int ((n:Nat):Int),V.int z]) eo,hS,hn,ho',hk,?_⟩
      show if seesB sheet n o = true then _ else _
      by_cases hse:seesB sheet n o = true
      · rw [if_pos hse]
        refine .inl ⟨_,_,hSl,hix,?_⟩
        refine .inr ⟨_,_,hT,rfl,?_⟩
        refine ⟨br,nr,rs,(sheet.getD o (-1,[])).2,notes,nm,rfl,hR,hRd,hN,(pcOk o ho').1,(pcOk o ho').2,?_⟩
        show if decide ((0:Int) ≤ fI (fnd notes nm (sheet.getD o (-1,[])).2)) = true then _ else _
        rw [fI_pos]
        by_cases hfs:(fnd notes nm (sheet.getD o (-1,[])).2).isSome = true
        · rw [if_pos hfs]
          rw [if_pos ⟨hokf.trans hse,hfs⟩] at hlast
          obtain ⟨_,_,j,ej,ed⟩:=due_some hlast
          refine .inl ⟨_,_,hSl,hix,?_⟩
          refine .inr ⟨_,_,hT,rfl,?_⟩
          refine ⟨br,nr,rs,(sheet.getD o (-1,[])).2,notes,nm,rfl,hR,hRd,hN,(pcOk o ho').1,(pcOk o ho').2,?_⟩
          rw [ej]
          refine ⟨(show 2 ≤ sizeLine by decide),fun t ht=>q _ _ (same_new ht) ?_⟩
          have ht2:upd H' t (.tup [.int (((n:Nat):Int) - 1 - (0 + ((i:Nat):Int))),.int (fI (some j))]) t = some (.tup [.int (o:Nat),.int (j:Nat)]):=by rw [upd_same,eo]; rfl
          rw [htold,ed]
          exact .tuple (SqT.of ht2) (.cons (.int _) (.cons (.int _) .nil))
        · rw [if_neg hfs]
          exact ⟨rfl,no (fun z=>hfs z.2),_,_,rfl⟩
      · rw [if_neg hse]
        exact ⟨rfl,no (fun z=>hse (hokf.symm.trans z.1)),_,_,rfl⟩
    · rintro σ H' ⟨rfl,hlast,v4,v5,rfl⟩
      rw [Int.toNat_natCast,Nat.sub_self] at hlast
      refine q H' .non (Same.refl _) ?_
      rw [htold,due_none hlast]
      exact .none
noncomputable def KsV (H:Hp) (xs:List V) (ks:List (List (List Nat))):Prop:=∀ (i:Nat) (l:List (List Nat)),ks[i]? = some l→∃ b,xs[i]? = some (.ref b)∧H b = some (.lst (txs l))
theorem KsV.same {H H':Hp} {xs:List V} {ks:List (List (List Nat))} (h:KsV H xs ks) (s:Same H H'):KsV H' xs ks:=fun i l e=>let ⟨b,h1,h2⟩:=h i l e; ⟨b,h1,s _ _ h2⟩
inductive spFnd (K:PySem.W.Frag) (vs : List V) (H : Hp) (Q : VK) (_e : XK) : Prop | mk (sr nr tr bp kr:Addr) (n:Nat) (q:Rw) (sheet:List (Int × List Rw)) (notes:List (Int × Int)) (pv kx:List V) (ks:List (List (List Nat))) : (vs = [.ref sr,.ref nr,.int (n:Nat),.ref tr,.ref kr]) → (DatV K H (.ref sr) (.list (sheet.map pieDat))) → (DatV K H (.ref nr) (.list (notes.map noteDat))) → (SqT K H tr [.int q.m,.int (q.r:Nat),.ref bp]) → SqL K H bp pv → (DatVs K H pv (q.ps.map partDat)) → SqL K H kr kx → KsV H kx ks → ShOk notes sheet → HolOk sheet → (n < sheet.length) → (q.r < notes.length) → AskOk notes q → ((∀ (k:Nat) (p:Int × List Rw),sheet[k]? = some p→k < n→∃ l,ks[k]? = some l∧l.length = p.2.length)) → (∀ H',Same H H'→Q (txtV (foundF notes sheet n ks q)) H') → spFnd K vs H Q _e
noncomputable abbrev st__law_found:Stmt:=top 17
theorem sc__law_found:FnScope ["_law_sheet_here","_law_notes_here","_law_number","_law_row","_law_kinds","_law_part","_law_spot"] ["_law_sheet_here","_law_notes_here","_law_number","_law_row","_law_kinds"] (defScope st__law_found):=⟨rfl,rfl,rfl,by decide +kernel,rfl,by decide +kernel,by decide +kernel⟩
theorem def_fnd (R : Raw K mg "_law_found" st__law_found ["_law_sheet_here", "_law_notes_here", "_law_number", "_law_row", "_law_kinds"]) (T : Txt K w mg) (D__law_binder : Def P w K mg base 2 "_law_binder" ["_law_sheet_here", "_law_notes_here", "_law_number", "_law_name"] (spBdr K)) :
    Def P w K mg base 3 "_law_found" ["_law_sheet_here","_law_notes_here","_law_number","_law_row","_law_kinds"] (spFnd K):=by
  refine R.defJ sc__law_found (fun vs H Q E h=>?_) (fun f cdv A outer s H vs Q E hr h=>?_)
  · obtain ⟨sr,nr,tr,bp,kr,n,q,sheet,notes,pv,kx,ks,rfl,_⟩:=h
    rfl
  · obtain ⟨sr,nr,tr,bp,kr,n,q,sheet,notes,pv,kx,ks,rfl,hS,hN,hT,hP,hPd,hkx,hkv,ok,hk,hn,hr',hok,hks,hq⟩:=h
    have sc:=sc__law_found
    have hu:=hr.units
    have hb:=big
    refine ⟨_,(jss_cons (js_set (i:=5) sc.nd rfl (Or.inl rfl) (j_ix (o_ix hu (K:=K) (w:=w)) (j_ix (o_ix hu (K:=K) (w:=w)) (jn 1) (j_ix (o_ix hu (K:=K) (w:=w)) (jn 3) j_int)) j_int))
    (jss_cons (js_if (jt_cmp o_lt (jn 5) j_int)
    (jss_one (js_ret j_non))
    jss_nil)
    (jss_cons (js_set (i:=6) sc.nd rfl (Or.inl rfl) (j_def D__law_binder (hr.mono (by decide)) rfl (ja_cons (jn 0) (ja_cons (jn 1) (ja_cons (jn 2) (ja_cons (j_ix (o_ix hu (K:=K) (w:=w)) (j_ix (o_ix hu (K:=K) (w:=w)) (j_ix (o_ix hu (K:=K) (w:=w)) (jn 3) j_int) (jn 5)) j_int) ja_nil))))))
    (jss_cons (js_if (jt_cmp o_is (jn 6) j_non)
    (jss_one (js_ret j_non))
    jss_nil)
    (jss_one (js_ret (j_ix (o_ix hu (K:=K) (w:=w)) (j_ix (o_ix hu (K:=K) (w:=w)) (jn 4) (j_ix (o_ix hu (K:=K) (w:=w)) (jn 6) j_int)) (j_ix (o_ix hu (K:=K) (w:=w)) (jn 6) j_int)))))))),?_⟩
    obtain ⟨_,zs,e0,hNl,hNd⟩:=dat_list hN
    cases e0
    have hnr:notes[q.r]? = some (notes.getD q.r (-1,-1)):=by rw [List.getD,List.getElem?_eq_getElem hr']; rfl
    obtain ⟨ny,eny,hny⟩:=datvs_at hNd hnr
    obtain ⟨tn,rfl,hnt⟩:=dat_note hny
    refine .inr ⟨_,_,hT,rfl,?_⟩
    refine .inl ⟨_,_,hNl,atI_nat eny,?_⟩
    refine .inr ⟨_,_,hnt,rfl,?_⟩
    show if decide (aPart notes q < (0:Int)) = true then _ else _
    refine ite2 (fun h=>?_) (fun h=>?_)
    · have hb:¬ 0 ≤ aPart notes q:=by have:=of_decide_eq_true h; lia
      have:=hq H (Same.refl _)
      unfold foundF placeF at this
      rw [name_no hb] at this
      exact this
    · have hb : 0 ≤ aPart notes q := by
        by_cases z:aPart notes q < 0
        · exact absurd (decide_eq_true z) h
        · lia
      obtain ⟨pi,nm,epp,en⟩:=name_yes hok hb
      obtain ⟨py,epy,hpy⟩:=datvs_at hPd epp
      obtain ⟨tpp,rfl,hpt⟩:=dat_part hpy
      have eix:atI pv (aPart notes q) = some (.ref tpp):=by
        rw [show aPart notes q = (((aPart notes q).toNat:Nat):Int) by lia]
        exact atI_nat epy
      refine .inr ⟨_,_,hT,rfl,?_⟩
      refine .inl ⟨_,_,hP,eix,?_⟩
      refine .inr ⟨_,_,hpt,rfl,?_⟩
      refine ⟨sr,nr,n,nm,sheet,notes,rfl,hS,hN,ok,hk,hn,fun H1 v s1 hv=>?_⟩
      have hpl:placeF notes sheet n q = toldF notes sheet n nm:=by unfold placeF; rw [en]; rfl
      rw [← hpl] at hv
      rcases dat_opt hv with ⟨ho1,rfl⟩ | ⟨p,t,ho1,rfl,hTt⟩
      · have:=hq H1 s1
        unfold foundF at this
        rw [ho1] at this
        exact this
      · have htold:=ho1
        rw [hpl] at htold
        obtain ⟨hp1,pc,epc,hp2⟩:=told_in (by lia) htold
        obtain ⟨l,el,hll⟩:=hks p.1 pc epc hp1
        obtain ⟨b,hb1,hb2⟩:=hkv p.1 l el
        have et:l[p.2]? = some l[p.2]:=List.getElem?_eq_getElem (by lia)
        have ek:kAt ks p = l[p.2]:=kAt_eq el et
        refine .inr ⟨_,_,hTt,rfl,?_⟩
        refine .inl ⟨_,_,s1.seq hkx,atI_nat hb1,?_⟩
        refine .inr ⟨_,_,hTt,rfl,?_⟩
        refine .inl ⟨_,_,SqL.of (s1 _ _ hb2),atI_nat (show (txs l)[p.2]? = some (.str (S l[p.2])) by unfold txs; rw [List.getElem?_map,et]; rfl),?_⟩
        have:=hq H1 s1
        unfold foundF at this
        rw [ho1,Option.map_some,ek] at this
        exact this
inductive spCpy (K:PySem.W.Frag) (vs : List V) (H : Hp) (Q : VK) (_e : XK) : Prop | mk (sr:Addr) (sheet:List (Int × List Rw)) (cs:List Addr) : (vs = [.ref sr]) → ((∀ c ∈ cs,∃ u,H c = some u)) → (DatV K (rem cs H) (.ref sr) (.list (sheet.map pieDat))) → (sheet.length ≤ 100) → ((∀ p ∈ sheet,p.2.length ≤ 100)) → (∀ H' p,Same H H'→H p = none→DatV K (rem cs H') (.ref p) (.list (sheet.map pieDat))→Q (.ref p) H') → spCpy K vs H Q _e
noncomputable abbrev st__law_copied:Stmt:=top 18
theorem sc__law_copied:FnScope ["_law_sheet_here"] ["_law_sheet_here"] (defScope st__law_copied):=⟨rfl,rfl,rfl,by decide +kernel,rfl,by decide +kernel,by decide +kernel⟩
theorem def_cpy (R:Raw K mg "_law_copied" st__law_copied ["_law_sheet_here"]) (T:Txt K w mg):Def P w K mg base 1 "_law_copied" ["_law_sheet_here"] (spCpy K):=by
  refine R.defJ sc__law_copied (fun vs H Q E h=>?_) (fun f cdv A outer s H vs Q E hr h=>?_)
  · obtain ⟨sr,sheet,cs,rfl,_⟩:=h
    rfl
  · obtain ⟨sr,sheet,cs,rfl,hcs,hS,hl,hrl,q⟩:=h
    have sc:=sc__law_copied
    have hu:=hr.units
    have hb:=big
    obtain ⟨_,ys,e0,hSl,hSd⟩:=dat_list hS
    cases e0
    have hyl:ys.length = sheet.length:=by have:=hSd.length; rw [List.length_map] at this; exact this
    have fresh:∀ {H':Hp} {b:Addr},Same H H'→H' b = none→b ∉ cs:=fun {H' b} sm e m=>by
      obtain ⟨u,hu⟩:=hcs b m
      rw [sm _ _ hu] at e; cases e
    have r0:∀ {H':Hp},Same H H'→Same (rem cs H) H':=fun sm b u e=>sm _ _ (rem_same _ _ e)
    have rn:∀ {H':Hp} {b:Addr} {u:HO},b ∉ cs→H' b = some u→rem cs H' b = some u:=fun n e=>by rw [rem_out n]; exact e
    refine ⟨_,(jss_one (js_ret (j_comp (N:=["_law_holder_here","_law_rows_here"]) (cap:=[none,none]) rfl (CompScope.of rfl (by rfl)) (ji_any (K:=K) (jn 0)) (fun _ _ _ _=>(jg_tup (K:=K) (n:=2) rfl (jgs_cons (jg_name (i:=0) (show List.Nodup [("_law_holder_here":Str),("_law_rows_here":Str)] by decide +kernel) rfl (Or.inl rfl)) (jgs_cons (jg_name (i:=1) (show List.Nodup [("_law_holder_here":Str),("_law_rows_here":Str)] by decide +kernel) rfl (Or.inl rfl)) jgs_nil)))) (fun _ _ _ _=>jts_nil) (fun _ _ _ _=>(j_tup (ja_cons (jn 0) (ja_cons (j_comp (N:=["_law_mark","_law_rule","_law_parts"]) (cap:=[none,none,none]) rfl (CompScope.of rfl (by rfl)) (ji_any (K:=K) (jn 1)) (fun _ _ _ _=>(jg_tup (K:=K) (n:=3) rfl (jgs_cons (jg_name (i:=0) (show List.Nodup [("_law_mark":Str),("_law_rule":Str),("_law_parts":Str)] by decide +kernel) rfl (Or.inl rfl)) (jgs_cons (jg_name (i:=1) (show List.Nodup [("_law_mark":Str),("_law_rule":Str),("_law_parts":Str)] by decide +kernel) rfl (Or.inl rfl)) (jgs_cons (jg_name (i:=2) (show List.Nodup [("_law_mark":Str),("_law_rule":Str),("_law_parts":Str)] by decide +kernel) rfl (Or.inl rfl)) jgs_nil))))) (fun _ _ _ _=>jts_nil) (fun _ _ _ _=>(j_tup (ja_cons (jn 0) (ja_cons (jn 1) (ja_cons (j_callTy (c_list (K:=K)) rfl T.n_list boot_list (ja_cons (jn 2) ja_nil)) ja_nil)))))) ja_nil))))))),?_⟩
    refine .inl ⟨⟨_,(r0 (Same.refl _)).seq hSl⟩,?_⟩
    refine gath_list (xs:=ys) (fun i zs σ' H'=>Same H H'∧DatVs K (rem cs H') zs ((sheet.take i).map pieDat)∧∃ v0 v1:Option V,σ' = [v0,v1]) (by lia) ⟨Same.refl _,.nil,none,none,rfl⟩
      (fun i zs σ' H' h=>by have:=h.2.1.length; rw [List.length_map,List.length_take] at this; lia) (fun i zs σ' H' h=>(r0 h.1).seq hSl) ?_ ?_
    · rintro i x zs σ' H' hx ⟨sm,hD,v0,v1,rfl⟩
      obtain ⟨pc,epc,hpc⟩:=datvs_has hSd hx
      have etk:sheet.take (i + 1) = sheet.take i ++ [pc]:=by rw [List.take_add_one,epc]; rfl
      have hr100:=hrl pc (List.mem_of_getElem? epc)
      obtain ⟨tp,br,rs,rfl,hT,hR,hRd⟩:=dat_pie hpc
      have hrsl:rs.length = pc.2.length:=by have:=hRd.length; rw [List.length_map] at this; exact this
      refine ⟨tp,_,rfl,(r0 sm).seqT hT,rfl,_,_,rfl,_,_,rfl,rfl,?_⟩
      refine .inl ⟨⟨_,(r0 sm).seq hR⟩,?_⟩
      refine gath_list (xs:=rs) (fun j ws σ' H2=>Same H' H2∧DatVs K (rem cs H2) ws ((pc.2.take j).map rowDat)∧∃ v0 v1 v2:Option V,σ' = [v0,v1,v2]) (by lia) ⟨Same.refl _,.nil,none,none,none,rfl⟩
        (fun j ws σ' H2 h=>by have:=h.2.1.length; rw [List.length_map,List.length_take] at this; lia) (fun j ws σ' H2 h=>(r0 (sm.trans h.1)).seq hR) ?_ ?_
      · rintro j y ws σ' H2 hy ⟨sm2,hD2,w0,w1,w2,rfl⟩
        obtain ⟨rq,erq,hrq⟩:=datvs_has hRd hy
        have ejk:pc.2.take (j + 1) = pc.2.take j ++ [rq]:=by rw [List.take_add_one,erq]; rfl
        obtain ⟨tr,bp,pv,rfl,hRT,hPL,hPD⟩:=dat_row hrq
        refine ⟨tr,_,rfl,(r0 (sm.trans sm2)).seqT hRT,rfl,_,_,rfl,_,_,rfl,_,_,rfl,rfl,?_⟩
        refine ⟨_,.inl ((r0 (sm.trans sm2)).seq hPL),fun l hl'=>?_⟩
        have s3:Same H2 (upd H2 l (.lst pv)):=same_new hl'
        have h3:upd H2 l (.lst pv) l = some (.lst pv):=upd_same
        have nl:=fresh (sm.trans sm2) hl'
        generalize upd H2 l (.lst pv) = H3 at s3 h3 ⊢
        refine ⟨(show 3 ≤ sizeLine by decide),fun t ht=>?_⟩
        have s4:Same H3 (upd H3 t (.tup [.int rq.m,.int (rq.r:Nat),.ref l])):=same_new ht
        have h4:upd H3 t (.tup [.int rq.m,.int (rq.r:Nat),.ref l]) t = some (.tup [.int rq.m,.int (rq.r:Nat),.ref l]):=upd_same
        have nt:=fresh ((sm.trans sm2).trans s3) ht
        generalize upd H3 t (.tup [.int rq.m,.int (rq.r:Nat),.ref l]) = H4 at s4 h4 ⊢
        have s34:=s3.trans s4
        refine ⟨sm2.trans s34,?_,_,_,_,rfl⟩
        rw [ejk,List.map_append]
        refine DatVs.snoc ?_ (hD2.same (rem_le s34))
        exact .tuple (SqT.of (rn nt h4)) (.cons (.int _) (.cons (.int _) (.cons (.list (SqL.of (rn nl (s4 _ _ h3))) (hPD.same (rem_le (((sm.trans sm2).trans s34))))) .nil)))
      · rintro ws σ' H2 ⟨sm2,hD2,w0,w1,w2,rfl⟩ l hl'
        rw [hrsl,List.take_length] at hD2
        have s3:Same H2 (upd H2 l (.lst ws)):=same_new hl'
        have h3:upd H2 l (.lst ws) l = some (.lst ws):=upd_same
        have nl:=fresh (sm.trans sm2) hl'
        generalize upd H2 l (.lst ws) = H3 at s3 h3 ⊢
        refine ⟨(show 2 ≤ sizeLine by decide),fun t ht=>?_⟩
        have s4:Same H3 (upd H3 t (.tup [.int pc.1,.ref l])):=same_new ht
        have h4:upd H3 t (.tup [.int pc.1,.ref l]) t = some (.tup [.int pc.1,.ref l]):=upd_same
        have nt:=fresh ((sm.trans sm2).trans s3) ht
        generalize upd H3 t (.tup [.int pc.1,.ref l]) = H4 at s4 h4 ⊢
        have s34:=s3.trans s4
        refine ⟨(sm.trans sm2).trans s34,?_,_,_,rfl⟩
        rw [etk,List.map_append]
        refine DatVs.snoc ?_ (hD.same (rem_le (sm2.trans s34)))
        exact .tuple (SqT.of (rn nt h4)) (.cons (.int _) (.cons (.list (SqL.of (rn nl (s4 _ _ h3))) (hD2.same (rem_le s34))) .nil))
    · rintro zs σ' H' ⟨sm,hD,v0,v1,rfl⟩ p hp
      rw [hyl,List.take_length] at hD
      have p0:H p = none:=by
        cases z:H p with
        | none=>rfl
        | some u=>rw [sm _ _ z] at hp; cases hp
      exact q _ p (sm.trans (same_new hp)) p0 (.list (SqL.of (rn (fresh sm hp) upd_same)) (hD.same (rem_le (same_new hp))))
end
end K75
namespace K75
open PySem PySem.Spec PyProof.Rows L2 Rg
theorem part_lay {ls:List (List Nat)} (hls:∀ l ∈ ls,∀ c ∈ l,okSign c):∀ {ps:List (Int × Option (List Nat))},(∀ x ∈ ps,∀ s,x.2 = some s→s ∈ ls)→PyData.canLayAll0 (ps.map partDat) = true
  | [],_=>by simp only [List.map_nil,PyData.canLayAll0]
  | (i,o) :: r,h=>by
    have h1:(partDat (i,o)).canLay0 = true:=by
      cases o with
      | none=>unfold partDat txtD; simp only [PyData.canLay0,PyData.canLayAll0,Bool.and_self]
      | some s =>
        have:=strOk_S (hls s (h _ List.mem_cons_self s rfl))
        unfold partDat txtD
        simp only [PyData.canLay0,PyData.canLayAll0,this,Bool.and_self]
    rw [List.map_cons]
    simp only [PyData.canLayAll0,h1,part_lay hls fun x hx=>h x (List.mem_cons_of_mem _ hx),Bool.and_self]
theorem rows_lay {ls:List (List Nat)} (hls:∀ l ∈ ls,∀ c ∈ l,okSign c):∀ {rows:List Rw},(∀ q ∈ rows,RwOk ls q)→PyData.canLayAll0 (rows.map rowDat) = true
  | [],_=>by simp only [List.map_nil,PyData.canLayAll0]
  | q :: r,h=>by
    have h0:=part_lay hls (h q List.mem_cons_self).s
    have h1:(rowDat q).canLay0 = true:=by
      unfold rowDat
      simp only [PyData.canLay0,PyData.canLayAll0,h0,Bool.and_self]
    rw [List.map_cons]
    simp only [PyData.canLayAll0,h1,rows_lay hls fun x hx=>h x (List.mem_cons_of_mem _ hx),Bool.and_self]
theorem sheet_lay {ls:List (List Nat)} (hls:∀ l ∈ ls,∀ c ∈ l,okSign c):∀ {sheet:List (Int × List Rw)},(∀ p ∈ sheet,∀ q ∈ p.2,RwOk ls q)→PyData.canLayAll0 (sheet.map pieDat) = true
  | [],_=>by simp only [List.map_nil,PyData.canLayAll0]
  | p :: r,h=>by
    have h0:=rows_lay hls (h p List.mem_cons_self)
    have h1:(pieDat p).canLay0 = true:=by
      unfold pieDat
      simp only [PyData.canLay0,PyData.canLayAll0,h0,Bool.and_self]
    rw [List.map_cons]
    simp only [PyData.canLayAll0,h1,sheet_lay hls fun x hx=>h x (List.mem_cons_of_mem _ hx),Bool.and_self]
theorem row_ok {ls:List (List Nat)} {notes:List (Int × Int)} {q:Rw} (hn:NtOk notes) (h:RwOk ls q):RowOk notes q:=by
  have hr:q.r < notes.length:=by rw [hn.len]; exact h.r
  refine ⟨hr,fun hb=>?_⟩
  have e:notes[q.r]? = some (notes.getD q.r (-1,-1)):=by rw [List.getD,List.getElem?_eq_getElem hr]; rfl
  have e2:bPart notes q = (notes.getD q.r (-1,-1)).2:=rfl
  rcases hn.ok _ _ e with z | ⟨j,ej,hj⟩
  · rw [← e2] at z; lia
  · rw [← e2] at ej
    rw [ej,Int.toNat_natCast]
    exact h.w j hj
theorem hol_app {sheet:List (Int × List Rw)} (hk:HolOk sheet) {h:Int} (rows:List Rw) (h1:-1 ≤ h) (h2:h < (sheet.length:Int)):HolOk (sheet ++ [(h,rows)]):=by
  intro i hi
  unfold hol
  by_cases hl:i < sheet.length
  · have e:(sheet ++ [(h,rows)]).getD i (-1,[]) = sheet.getD i (-1,[]):=by rw [List.getD,List.getD,List.getElem?_append_left hl]
    rw [e]
    exact hk i hl
  · have ei:i = sheet.length:=by simp at hi; lia
    subst ei
    have e:(sheet ++ [(h,rows)]).getD sheet.length (-1,[]) = (h,rows):=by rw [List.getD,List.getElem?_append_right (Nat.le_refl _),Nat.sub_self]; rfl
    rw [e]
    exact ⟨h1,h2⟩
theorem stp_ok {notes:List (Int × Int)} {sheet:List (Int × List Rw)} (ok:RkOk kfn notes sheet):∀ i,i ≤ sheet.length→(∀ p ∈ (stp kfn notes sheet i).2,EOk p.2)∧∀ l ∈ (stp kfn notes sheet i).1,∀ t ∈ l,TxOk t:=by
  intro i
  induction i with
  | zero=>intro _; exact ⟨(fun p hp=>by cases hp),(fun l hl=>by cases hl)⟩
  | succ i ih =>
    intro hi
    obtain ⟨h1,h2⟩:=ih (by lia)
    have ep:=List.getElem?_eq_getElem (show i < sheet.length by lia)
    have hpm:=List.getElem_mem (show i < sheet.length by lia)
    generalize sheet[i] = pc at ep hpm
    rw [stp_succ ep]
    generalize (stp kfn notes sheet i).1 = ks at h2 ⊢
    generalize (stp kfn notes sheet i).2 = es at h1 ⊢
    have key:∀ j,j ≤ pc.2.length→∀ p ∈ es ++ rowsE kfn notes sheet i ks es pc.2 j,EOk p.2:=by
      intro j
      induction j with
      | zero=>intro _ p hp; have hp':p ∈ es ++ []:=hp; rw [List.append_nil] at hp'; exact h1 p hp'
      | succ j jh =>
        intro hj p hp
        have eq:=List.getElem?_eq_getElem (show j < pc.2.length by lia)
        rw [rowsE_succ eq,← List.append_assoc] at hp
        rcases List.mem_append.mp hp with z | z
        · exact jh (by lia) p z
        · rw [List.mem_singleton.mp z]
          exact rowE_ok ok hpm (List.getElem_mem (show j < pc.2.length by lia)) (jh (by lia)) h2
    refine ⟨key _ (Nat.le_refl _),fun l hl t ht=>?_⟩
    rcases List.mem_append.mp hl with z | z
    · exact h2 l z t ht
    · rw [List.mem_singleton.mp z] at ht
      obtain ⟨e,he,rfl⟩:=List.mem_map.mp ht
      exact ok.kt _ (key _ (Nat.le_refl _) e (List.mem_append_right _ he))
theorem depthAll_le {k:Nat}:∀ {ds:List PyData},(∀ d ∈ ds,d.depth ≤ k)→PyData.depthAll ds ≤ k
  | [],_=>by simp [PyData.depthAll]
  | d :: r,h=>by
    have h1:=h d List.mem_cons_self
    have h2:=depthAll_le (ds:=r) fun x hx=>h x (List.mem_cons_of_mem _ hx)
    simp only [PyData.depthAll]
    lia
theorem lst_depth {k:Nat} {α:Type} {f:α→PyData} {l:List α} (h:∀ x ∈ l,(f x).depth ≤ k):(PyData.list (l.map f)).depth ≤ k + 1:=by
  have:PyData.depthAll (l.map f) ≤ k:=depthAll_le fun d hd=>by obtain ⟨x,hx,rfl⟩:=List.mem_map.mp hd; exact h x hx
  simp only [PyData.depth]
  lia
theorem txtD_depth (o:Option (List Nat)):(txtD o).depth ≤ 1:=by cases o <;> simp [txtD,PyData.depth]
theorem ask3_depth (e:E3):(askDat3 e).depth ≤ 4:=by
  have h1:=txs_depth e.2.1
  have h2:=txtD_depth e.2.2
  simp only [askDat3,PyData.depth,PyData.depthAll]
  lia
theorem ask_ok {ls:List (List Nat)} {notes:List (Int × Int)} {q:Rw} (hn:NtOk notes) (h:RwOk ls q):AskOk notes q:=fun hb=>by
  have hr:q.r < notes.length:=by rw [hn.len]; exact h.r
  have e:notes[q.r]? = some (notes.getD q.r (-1,-1)):=by rw [List.getD,List.getElem?_eq_getElem hr]; rfl
  have e2:aPart notes q = (notes.getD q.r (-1,-1)).1:=rfl
  rcases hn.ok1 _ _ e with z | ⟨j,ej,hj⟩
  · rw [← e2] at z; lia
  · rw [← e2] at ej
    rw [ej,Int.toNat_natCast]
    exact h.w j hj
theorem tx_sign {l:List Nat} (h:∀ c ∈ l,okSign c) (hl:l.length ≤ 1000):TxOk l:=⟨fun c hc=>by rcases h c hc with z | z <;> lia,hl⟩
end K75
namespace K75
open PySem PySem.Spec PyProof.Rows L2 Rg
structure ShG (ls:List (List Nat)) (sheet:List (Int × List Rw)):Prop where
  hk:HolOk sheet
  ok:∀ p ∈ sheet,p.2.length ≤ 10∧(∀ x ∈ p.2,RwOk ls x)∧NodOk p.2
structure LsG (ls:List (List Nat)):Prop where
  len:ls.length = 3
  ok:∀ l ∈ ls,∀ c ∈ l,okSign c
  z:∀ l ∈ ls,l.length ≤ 1000
theorem ShG.rk {ls:List (List Nat)} {sheet:List (Int × List Rw)} {notes:List (Int × Int)} (h:ShG ls sheet) (hl:LsG ls) (hn:sheet.length ≤ 100) (hno:NtOk notes):RkOk kfn notes sheet :=
  ⟨⟨hn,fun p hp=>by have:=(h.ok p hp).1; lia,fun p hp x hx=>row_ok hno ((h.ok p hp).2.1 x hx)⟩,h.hk,fun p hp=>(h.ok p hp).2.2,fun p hp x hx=>ask_ok hno ((h.ok p hp).2.1 x hx),fun p hp x hx=>((h.ok p hp).2.1 x hx).len,fun p hp x hx y hy t ht=>tx_sign (hl.ok t (((h.ok p hp).2.1 x hx).s y hy t ht)) (hl.z t (((h.ok p hp).2.1 x hx).s y hy t ht)),kfn_ok,fun p hp x hx=>by have:=((h.ok p hp).2.1 x hx).r; lia⟩
theorem ShG.lay {ls:List (List Nat)} {sheet:List (Int × List Rw)} (h:ShG ls sheet) (hl:LsG ls):PyData.canLayAll0 (sheet.map pieDat) = true:=sheet_lay hl.ok fun p hp=>(h.ok p hp).2.1
section
variable {P:Program} {w:World} {K:PySem.W.Frag} {mg:Str→Option Value} {base:Heap}
inductive spSht (K:PySem.W.Frag) (vs : List V) (H : Hp) (Q : VK) (_e : XK) : Prop | mk (cr nr:Addr) (fi st:Int) (ms:List Int) (ls:List (List Nat)) : (vs = [.ref cr,.ref nr,.int fi,.int st]) → (SqL K H cr (ms.map V.int)) → (ms.length ≤ 20) → (SqL K H nr (ls.map fun k=>V.str (S k))) → LsG ls → (∀ H' sa ys sheet,Same H H'→H sa = none→H' sa = some (.lst ys)→DatVs K H' ys (sheet.map pieDat)→ShG ls sheet→sheet.length = ms.length→(0 < st→MkR fi (fi + 100 * (sheet.length:Nat) * st) (mks sheet))→Q (.ref sa) H') → spSht K vs H Q _e
noncomputable abbrev st__law_sheet:Stmt:=top 12
theorem sc__law_sheet:FnScope ["_law_cells","_law_names_here","_law_first","_law_step_here","_law_sheet_here","_law_cell","_law_rows_here"] ["_law_cells","_law_names_here","_law_first","_law_step_here"] (defScope st__law_sheet):=⟨rfl,rfl,rfl,by decide +kernel,rfl,by decide +kernel,by decide +kernel⟩
theorem def_sht (R : Raw K mg "_law_sheet" st__law_sheet ["_law_cells", "_law_names_here", "_law_first", "_law_step_here"]) (T : Txt K w mg) (D__law_rows : Def P w K mg base 1 "_law_rows" ["_law_cell", "_law_names_here", "_law_first", "_law_step_here"] (spRows K)) (D__law_holder : Def P w K mg base 1 "_law_holder" ["_law_sheet_here", "_law_number"] (spHolr K)) :
    Def P w K mg base 2 "_law_sheet" ["_law_cells","_law_names_here","_law_first","_law_step_here"] (spSht K):=by
  refine R.defJ sc__law_sheet (fun vs H Q E h=>?_) (fun f cdv A outer s H vs Q E hr h=>?_)
  · obtain ⟨cr,nr,fi,st,ms,ls,rfl,_⟩:=h
    rfl
  · obtain ⟨cr,nr,fi,st,ms,ls,rfl,hC,hml,hnr,hls,q⟩:=h
    have sc:=sc__law_sheet
    have hu:=hr.units
    have hb:=big
    have hl3:=hls.len
    refine ⟨_,(jss_cons (js_set (i:=4) sc.nd rfl (Or.inl rfl) (j_lst ja_nil))
    (jss_cons (js_for PassesOwn.never rfl (ji_any (K:=K) (jn 0)) (jg_name (i:=5) sc.nd rfl (Or.inl rfl))
    (jss_cons (js_set (i:=6) sc.nd rfl (Or.inl rfl) (j_def D__law_rows (hr.mono (by decide)) rfl (ja_cons (jn 5) (ja_cons (jn 1) (ja_cons (j_op (o_add (K:=K)) (jn 2) (j_op o_mul (j_op o_mul j_int (j_callB (c_len (K:=K)) rfl T.n_len PySem.boot_len (ja_cons (jn 4) ja_nil))) (jn 3))) (ja_cons (jn 3) ja_nil))))))
    (jss_one (js_expr (j_bm (K:=K) PySem.F.plainAttrs_list PySem.F.slot_list_append PySem.F.type_list_append m_append (jn 4) (ja_cons (j_tup (ja_cons (j_def D__law_holder (hr.mono (by decide)) rfl (ja_cons (jn 4) (ja_cons (j_op o_mod (j_op o_mul (j_op o_mod (jn 5) j_int) j_int) j_int) ja_nil))) (ja_cons (jn 6) ja_nil))) ja_nil))))))
    (jss_one (js_ret (jn 4))))),?_⟩
    refine ⟨(show 0 ≤ sizeLine by decide),fun sa hsa=>?_⟩
    have s3:Same H (upd H sa (.lst [])):=same_new hsa
    have h3:upd H sa (.lst []) sa = some (.lst []):=upd_same
    generalize upd H sa (.lst []) = H3 at s3 h3 ⊢
    refine .inl ⟨⟨_, s3.seq hC⟩, for_list (K := K) (a := cr) (xs := ms.map V.int) (fun i σ H' => ∃ (ys : List V) (sheet : List (Int × List Rw)) (v6 v7 : Option V), Same H H' ∧ H' sa = some (.lst ys) ∧ DatVs K (rem [sa] H') ys (sheet.map pieDat) ∧ sheet.length = i ∧ ShG ls sheet ∧ (0 < st → MkR fi (fi + 100 * (sheet.length : Nat) * st) (mks sheet)) ∧
        σ = [some (.ref cr),some (.ref nr),some (.int fi),some (.int st),some (.ref sa),v6,v7])
      ⟨[],[],none,none,s3,h3,.nil,rfl,⟨(fun i hi=>by simp at hi),(fun p hp=>by cases hp)⟩,(fun _=>.nil),rfl⟩ (fun i σ H' _ h=>by obtain ⟨_,_,_,_,h,_⟩:=h; exact h.seq hC) ?_ ?_⟩
    · rintro i x σ H' hx ⟨ys,sheet,v6,v7,sm,hys,hyd,hsl,hg,hmk,rfl⟩
      rw [List.getElem?_map] at hx
      obtain ⟨cell,rfl,hil⟩:∃ c:Int,x = .int c∧i < ms.length:=by
        cases z:ms[i]? with
        | none=>rw [z] at hx; cases hx
        | some y=>rw [z] at hx; exact ⟨y,(Option.some.inj hx).symm,(List.getElem?_eq_some_iff.mp z).1⟩
      have hyl:ys.length = sheet.length:=by have:=hyd.length; rw [List.length_map] at this; exact this
      refine ⟨_,.inl (SqL.of hys),.inl ⟨by decide,by decide⟩,.inl ⟨by lia,by lia⟩,?_⟩
      refine ⟨cell,_,st,nr,ls,[sa],rfl,sm.seq hnr,by lia,by lia,(fun c hc=>by rw [List.mem_singleton.mp hc]; exact ⟨_,hys⟩),fun H5 rp rs rows s5 hrp hrn hrd hrl hrk hnod hmr=>?_⟩
      refine ⟨.inl ⟨rfl,_,SqL.of (s5 _ _ hys)⟩,by decide,.inr ⟨by decide,by decide⟩,by decide,?_⟩
      refine ⟨sa,_,ys,sheet,rfl,SqL.of (s5 _ _ hys),(hyd.same rem_same).same s5,hg.lay hls,by lia,hg.hk,fun H6 h s6 h1 h2=>?_⟩
      refine ⟨(show 2 ≤ sizeLine by decide),fun t7 ht7=>?_⟩
      have s56:=s5.trans s6
      have n7:t7 ≠ sa:=fun z=>by rw [z,s56 _ _ hys] at ht7; cases ht7
      have s7:Same H6 (upd H6 t7 (.tup [.int h,.ref rp])):=same_new ht7
      have h7:upd H6 t7 (.tup [.int h,.ref rp]) t7 = some (.tup [.int h,.ref rp]):=upd_same
      generalize upd H6 t7 (.tup [.int h,.ref rp]) = H7 at s7 h7 ⊢
      have s57:=s56.trans s7
      refine ⟨ys,s57 _ _ hys,by lia,?_⟩
      have nsa:∀ {b:Addr} {u:HO},H b = some u→b ≠ sa:=fun e z=>by rw [z,hsa] at e; cases e
      refine ⟨ys ++ [.ref t7],sheet ++ [(h,rows)],_,_,fun b u e=>?_,upd_same,?_,by rw [List.length_append,hsl]; rfl,⟨hol_app hg.hk rows h1 h2,fun p hp=>?_⟩,fun hst=>?_,rfl⟩
      · rw [upd_ne (nsa e)]; exact s57 _ _ (sm b u e)
      · rw [rem_upd_in List.mem_cons_self,List.map_append]
        have s57':=s6.trans s7
        have g1:rem [sa] H7 t7 = some (.tup [.int h,.ref rp]):=by rw [rem_out (by simpa using n7)]; exact h7
        have g2:rem [sa] H7 rp = some (.lst rs):=by rw [rem_out hrn]; exact s57' _ _ hrp
        exact DatVs.snoc (.tuple (SqT.of g1) (.cons (.int _) (.cons (.list (SqL.of g2) (hrd.same (rem_le s57'))) .nil))) (hyd.same (rem_le s57))
      · rcases List.mem_append.mp hp with z | z
        · exact hg.ok p z
        · rw [List.mem_singleton.mp z]; exact ⟨hrl,hrk,hnod⟩
      · rw [mks_app,mks_one,List.length_append]
        have e1:=hmr hst
        rw [hyl] at e1
        have e2:fi + 100 * ((sheet.length + 1:Nat):Int) * st = fi + 100 * ((sheet.length:Nat):Int) * st + 100 * st:=by rw [show (100:Int) * ((sheet.length + 1:Nat):Int) = 100 * ((sheet.length:Nat):Int) + 100 by lia,Int.add_mul]; lia
        show MkR fi (fi + 100 * ((sheet.length + 1:Nat):Int) * st) _
        rw [e2]
        have e3:0 ≤ 100 * ((sheet.length:Nat):Int) * st:=Int.mul_nonneg (by lia) (by lia)
        exact (hmk hst).app e1 (by lia) (by lia)
    · rintro σ H' ⟨ys,sheet,v6,v7,sm,hys,hyd,hsl,hg,hmk,rfl⟩
      rw [List.length_map] at hsl
      exact q H' sa ys sheet sm hsa hys (hyd.same rem_same) hg hsl hmk
end
noncomputable def renP (nm ot:List Nat) (p:Int × Option (List Nat)):Int × Option (List Nat):=(p.1,if p.2 = some nm then some ot else p.2)
noncomputable def renR (nm ot:List Nat) (q:Rw):Rw:=⟨q.m,q.r,q.ps.map (renP nm ot)⟩
theorem renR_ok {ls:List (List Nat)} {nm ot:List Nat} {q:Rw} (h:RwOk ls q) (ho:ot ∈ ls):RwOk ls (renR nm ot q):=by
  refine ⟨h.r,by show (q.ps.map _).length ≤ 3; rw [List.length_map]; exact h.len,fun j e=>?_,fun x hx s e=>?_⟩
  · obtain ⟨i,s,e2⟩:=h.w j e
    have e3:(q.ps.map (renP nm ot))[j]? = some (renP nm ot (i,some s)):=by rw [List.getElem?_map,e2]; rfl
    by_cases z:s = nm
    · exact ⟨i,ot,by show (q.ps.map (renP nm ot))[j]? = _; rw [e3]; unfold renP; rw [if_pos (by rw [z])]⟩
    · exact ⟨i,s,by show (q.ps.map (renP nm ot))[j]? = _; rw [e3]; unfold renP; rw [if_neg (fun y=>z (Option.some.inj y))]⟩
  · obtain ⟨y,hy,rfl⟩:=List.mem_map.mp (show x ∈ q.ps.map (renP nm ot) from hx)
    have e':(if y.2 = some nm then some ot else y.2) = some s:=e
    by_cases z:y.2 = some nm
    · rw [if_pos z] at e'; cases e'; exact ho
    · rw [if_neg z] at e'; exact h.s y hy s e'
theorem renR_nod {nm ot:List Nat} {rows:List Rw} (h:NodOk rows):NodOk (rows.map (renR nm ot)):=fun j q e x hx e2=>by
  rw [List.getElem?_map] at e
  cases z:rows[j]? with
  | none=>rw [z] at e; cases e
  | some q0 =>
    rw [z] at e
    cases e
    obtain ⟨y,hy,rfl⟩:=List.mem_map.mp (show x ∈ q0.ps.map (renP nm ot) from hx)
    have e':(if y.2 = some nm then some ot else y.2) = none:=e2
    have hy2:y.2 = none:=by
      by_cases w:y.2 = some nm
      · rw [if_pos w] at e'; cases e'
      · rw [if_neg w] at e'; exact e'
    obtain ⟨i,q',h1,h2,h3⟩:=h j q0 z y hy hy2
    exact ⟨i,renR nm ot q',h1,by rw [List.getElem?_map,h2]; rfl,h3⟩
section
variable {P:Program} {w:World} {K:PySem.W.Frag} {mg:Str→Option Value} {base:Heap}
inductive spRen (K:PySem.W.Frag) (vs : List V) (H : Hp) (Q : VK) (_e : XK) : Prop | mk (rr:Addr) (rs:List V) (rows:List Rw) (nm ot:List Nat) (cs:List Addr) : (vs = [.ref rr,.str (S nm),.str (S ot)]) → ((∀ c ∈ cs,∃ l,H c = some (.lst l))) → (SqL K (rem cs H) rr rs) → (DatVs K (rem cs H) rs (rows.map rowDat)) → (rows.length ≤ 100) → ((∀ q ∈ rows,q.ps.length ≤ 3)) → TxOk nm → (∀ H' p zs,Same H H'→H p = none→H' p = some (.lst zs)→DatVs K (rem cs H') zs ((rows.map (renR nm ot)).map rowDat)→Q (.ref p) H') → spRen K vs H Q _e
noncomputable abbrev st__law_renamed:Stmt:=top 20
theorem sc__law_renamed:FnScope ["_law_rows_here","_law_name","_law_other","_law_found_here","_law_mark","_law_rule","_law_parts","_law_some","_law_part","_law_text"] ["_law_rows_here","_law_name","_law_other"] (defScope st__law_renamed):=⟨rfl,rfl,rfl,by decide +kernel,rfl,by decide +kernel,by decide +kernel⟩
theorem def_ren (R:Raw K mg "_law_renamed" st__law_renamed ["_law_rows_here","_law_name","_law_other"]) (T:Txt K w mg):Def P w K mg base 1 "_law_renamed" ["_law_rows_here","_law_name","_law_other"] (spRen K):=by
  refine R.defJ sc__law_renamed (fun vs H Q E h=>?_) (fun f cdv A outer s H vs Q E hr h=>?_)
  · obtain ⟨rr,rs,rows,nm,ot,cs,rfl,_⟩:=h
    rfl
  · obtain ⟨rr,rs,rows,nm,ot,cs,rfl,hcs,hR,hRd,hl,hp3,htx,q⟩:=h
    have sc:=sc__law_renamed
    have hu:=hr.units
    have hb:=big
    have hrl:rs.length = rows.length:=by have:=hRd.length; rw [List.length_map] at this; exact this
    have fresh:∀ {H':Hp} {b:Addr},Same H H'→H' b = none→b ∉ cs:=fun {H' b} sm e m=>by
      obtain ⟨u,hu⟩:=hcs b m
      rw [sm _ _ hu] at e; cases e
    have r0:∀ {H':Hp},Same H H'→Same (rem cs H) H':=fun sm b u e=>sm _ _ (rem_same _ _ e)
    refine ⟨_,(jss_cons (js_set (i:=3) sc.nd rfl (Or.inl rfl) (j_lst ja_nil))
    (jss_cons (js_for PassesOwn.never rfl (ji_any (K:=K) (jn 0)) (jg_tup (K:=K) (n:=3) rfl (jgs_cons (jg_name (i:=4) sc.nd rfl (Or.inl rfl)) (jgs_cons (jg_name (i:=5) sc.nd rfl (Or.inl rfl)) (jgs_cons (jg_name (i:=6) sc.nd rfl (Or.inl rfl)) jgs_nil))))
    (jss_cons (js_set (i:=7) sc.nd rfl (Or.inl rfl) (j_lst ja_nil))
    (jss_cons (js_for PassesOwn.never rfl (ji_any (K:=K) (jn 6)) (jg_tup (K:=K) (n:=2) rfl (jgs_cons (jg_name (i:=8) sc.nd rfl (Or.inl rfl)) (jgs_cons (jg_name (i:=9) sc.nd rfl (Or.inl rfl)) jgs_nil)))
    (jss_cons (js_if (jt_cmp (o_eqA hu (K:=K)) (jn 9) (jn 1))
    (jss_one (js_set (i:=9) sc.nd rfl (Or.inl rfl) (jn 2)))
    jss_nil)
    (jss_one (js_expr (j_bm (K:=K) PySem.F.plainAttrs_list PySem.F.slot_list_append PySem.F.type_list_append m_append (jn 7) (ja_cons (j_tup (ja_cons (jn 8) (ja_cons (jn 9) ja_nil))) ja_nil))))))
    (jss_one (js_expr (j_bm (K:=K) PySem.F.plainAttrs_list PySem.F.slot_list_append PySem.F.type_list_append m_append (jn 3) (ja_cons (j_tup (ja_cons (jn 4) (ja_cons (jn 5) (ja_cons (jn 7) ja_nil)))) ja_nil)))))))
    (jss_one (js_ret (jn 3))))),?_⟩
    refine ⟨(show 0 ≤ sizeLine by decide),fun fr hfr=>?_⟩
    have s1:Same H (upd H fr (.lst [])):=same_new hfr
    have h1:upd H fr (.lst []) fr = some (.lst []):=upd_same
    have nfr:=fresh (Same.refl _) hfr
    generalize upd H fr (.lst []) = H1 at s1 h1 ⊢
    refine .inl ⟨⟨_,(r0 s1).seq hR⟩,for_list (K:=K) (a:=rr) (xs:=rs) (fun i σ H'=>∃ (ds:List V) (v4 v5 v6 v7 v8 v9:Option V),Same H H'∧H' fr = some (.lst ds)∧DatVs K (rem (fr :: cs) H') ds (((rows.take i).map (renR nm ot)).map rowDat)∧σ = [some (.ref rr),some (.str (S nm)),some (.str (S ot)),some (.ref fr),v4,v5,v6,v7,v8,v9])
      ⟨[],none,none,none,none,none,none,s1,h1,.nil,rfl⟩ (fun i σ H' _ h=>by obtain ⟨_,_,_,_,_,_,_,h,_⟩:=h; exact (r0 h).seq hR) ?_ ?_⟩
    · rintro i x σ H' hx ⟨ds,v4,v5,v6,v7,v8,v9,sm,hds,hD,rfl⟩
      obtain ⟨rq,erq,hrq⟩:=datvs_has hRd hx
      have hil:=(List.getElem?_eq_some_iff.mp erq).1
      have hq3:=hp3 rq (List.mem_of_getElem? erq)
      have etk:rows.take (i + 1) = rows.take i ++ [rq]:=by rw [List.take_add_one,erq]; rfl
      have hdl:ds.length = i:=by have:=hD.length; rw [List.length_map,List.length_map,List.length_take] at this; lia
      obtain ⟨tr,bp,pv,rfl,hRT,hPL,hPD⟩:=dat_row hrq
      have hpl:pv.length = rq.ps.length:=by have:=hPD.length; rw [List.length_map] at this; exact this
      refine ⟨tr,_,rfl,(r0 sm).seqT hRT,rfl,_,_,rfl,_,_,rfl,_,_,rfl,rfl,?_⟩
      refine ⟨(show 0 ≤ sizeLine by decide),fun so hso=>?_⟩
      have s2:Same H' (upd H' so (.lst [])):=same_new hso
      have h2:upd H' so (.lst []) so = some (.lst []):=upd_same
      have nso:=fresh sm hso
      have nsf:so ≠ fr:=fun z=>by rw [z,hds] at hso; cases hso
      generalize upd H' so (.lst []) = H2 at s2 h2 ⊢
      refine .inl ⟨⟨_,(r0 (sm.trans s2)).seq hPL⟩,for_list (K:=K) (a:=bp) (xs:=pv) (fun k σ H3=>∃ (ws:List V) (v8 v9:Option V),Same H' H3∧H3 so = some (.lst ws)∧PtV H3 ws ((rq.ps.take k).map (renP nm ot))∧σ = [some (.ref rr),some (.str (S nm)),some (.str (S ot)),some (.ref fr),some (.int rq.m),some (.int (rq.r:Nat)),some (.ref bp),some (.ref so),v8,v9])
        ⟨[],v8,v9,s2,h2,⟨rfl,fun k p e=>by cases e⟩,rfl⟩ (fun k σ H3 _ h=>by obtain ⟨_,_,_,h,_⟩:=h; exact (r0 (sm.trans h)).seq hPL) ?_ ?_⟩
      · rintro k y σ H3 hy ⟨ws,v8,v9,s3,hws,hPt,rfl⟩
        obtain ⟨pt,ept,hpt⟩:=datvs_has hPD hy
        have hkl:=(List.getElem?_eq_some_iff.mp ept).1
        have ek:rq.ps.take (k + 1) = rq.ps.take k ++ [pt]:=by rw [List.take_add_one,ept]; rfl
        have hwl:ws.length = k:=by have:=hPt.len; rw [List.length_map,List.length_take] at this; lia
        obtain ⟨t,rfl,hTt⟩:=dat_part hpt
        refine ⟨t,_,rfl,(r0 (sm.trans s3)).seqT hTt,rfl,_,_,rfl,_,_,rfl,rfl,?_⟩
        have leaf : ∀ tx, (renP nm ot pt) = (pt.1, tx) → ∀ t5, H3 t5 = none → ∃ (ws' : List V) (v8 v9 : Option V), Same H' (upd (upd H3 t5 (.tup [.int pt.1, txtV tx])) so (.lst (ws ++ [.ref t5]))) ∧ upd (upd H3 t5 (.tup [.int pt.1, txtV tx])) so (.lst (ws ++ [.ref t5])) so = some (.lst ws') ∧ PtV (upd (upd H3 t5 (.tup [.int pt.1, txtV tx])) so (.lst (ws ++ [.ref t5]))) ws' ((rq.ps.take (k + 1)).map (renP nm ot)) ∧
            [some (V.ref rr),some (.str (S nm)),some (.str (S ot)),some (.ref fr),some (.int rq.m),some (.int (rq.r:Nat)),some (.ref bp),some (.ref so),some (.int pt.1),some (txtV tx)] = [some (.ref rr),some (.str (S nm)),some (.str (S ot)),some (.ref fr),some (.int rq.m),some (.int (rq.r:Nat)),some (.ref bp),some (.ref so),v8,v9]:=fun tx etx t5 ht5=>by
          have n5:t5 ≠ so:=fun z=>by rw [z,hws] at ht5; cases ht5
          have s5:Same H3 (upd H3 t5 (.tup [.int pt.1,txtV tx])):=same_new ht5
          have h5:upd H3 t5 (.tup [.int pt.1,txtV tx]) t5 = some (.tup [.int pt.1,txtV tx]):=upd_same
          generalize upd H3 t5 (.tup [.int pt.1,txtV tx]) = H5 at s5 h5 ⊢
          have hw5:=s5 _ _ hws
          refine ⟨ws ++ [.ref t5],_,_,fun b u e=>?_,upd_same,?_,rfl⟩
          · rw [upd_ne fun z=>by rw [z,hso] at e; cases e]; exact s5 _ _ (s3 b u e)
          · rw [ek,List.map_append]
            show PtV _ _ ((rq.ps.take k).map (renP nm ot) ++ [renP nm ot pt])
            rw [etx]
            exact ((hPt.mono fun _ _ e=>s5 _ _ e).snoc h5).mono fun b zs e=>by rw [upd_ne fun z=>by rw [z,hw5] at e; cases e]; exact e
        have n5:∀ {t5:Addr},H3 t5 = none→so ≠ t5:=fun ht5 z=>by rw [z,ht5] at hws; cases hws
        cases e2:pt.2 with
        | none =>
          refine ⟨strOk_tx htx,?_⟩
          exact ⟨.inl ⟨rfl,_,SqL.of hws⟩,(show 2 ≤ sizeLine by decide),fun t5 ht5=>⟨ws,by rw [upd_ne (n5 ht5)]; exact hws,by lia,leaf none (by unfold renP; rw [e2,if_neg (fun z=>by cases z)]) t5 ht5⟩⟩
        | some tx =>
          show if (false ^^ decide (S tx = S nm)) = true then _ else _
          rw [Bool.false_xor]
          refine ite2 (fun h=>?_) (fun h=>?_)
          · have hh:tx = nm:=S_inj (of_decide_eq_true h)
            exact ⟨.inl ⟨rfl,_,SqL.of hws⟩,(show 2 ≤ sizeLine by decide),fun t5 ht5=>⟨ws,by rw [upd_ne (n5 ht5)]; exact hws,by lia,leaf (some ot) (by unfold renP; rw [e2,if_pos (by rw [hh])]) t5 ht5⟩⟩
          · have hh:¬ tx = nm:=fun z=>h (decide_eq_true (by rw [z]))
            exact ⟨.inl ⟨rfl,_,SqL.of hws⟩,(show 2 ≤ sizeLine by decide),fun t5 ht5=>⟨ws,by rw [upd_ne (n5 ht5)]; exact hws,by lia,leaf (some tx) (by unfold renP; rw [e2,if_neg (fun z=>hh (Option.some.inj z))]) t5 ht5⟩⟩
      · rintro σ H3 ⟨ws,v8,v9,s3,hws,hPt,rfl⟩
        rw [hpl,List.take_length] at hPt
        have hf3:=s3 _ _ hds
        refine ⟨.inl ⟨rfl,_,SqL.of hf3⟩,(show 3 ≤ sizeLine by decide),fun t5 ht5=>?_⟩
        have s5:Same H3 (upd H3 t5 (.tup [.int rq.m,.int (rq.r:Nat),.ref so])):=same_new ht5
        have h5:upd H3 t5 (.tup [.int rq.m,.int (rq.r:Nat),.ref so]) t5 = some (.tup [.int rq.m,.int (rq.r:Nat),.ref so]):=upd_same
        have n5:=fresh (sm.trans s3) ht5
        generalize upd H3 t5 (.tup [.int rq.m,.int (rq.r:Nat),.ref so]) = H5 at s5 h5 ⊢
        have hf5:=s5 _ _ hf3
        have n5f:t5 ≠ fr:=fun z=>by rw [z,hf5] at h5; cases h5
        refine ⟨ds,hf5,by lia,?_⟩
        refine ⟨ds ++ [.ref t5],_,_,_,_,_,_,fun b u e=>?_,upd_same,?_,rfl⟩
        · rw [upd_ne fun z=>by rw [z,hfr] at e; cases e]; exact s5 _ _ (s3 _ _ (sm b u e))
        · rw [rem_upd_in List.mem_cons_self,etk,List.map_append,List.map_append]
          refine DatVs.snoc ?_ (hD.same (rem_le (s3.trans s5)))
          have rn:∀ {b:Addr} {u:HO},b ≠ fr→b ∉ cs→H5 b = some u→rem (fr :: cs) H5 b = some u:=fun n1 n2 e=>by rw [rem_out (by intro m; rcases List.mem_cons.mp m with z | z; exact n1 z; exact n2 z)]; exact e
          have tupn:∀ {b:Addr} {zs:List V},H3 b = some (.tup zs)→b ∉ cs→rem (fr :: cs) H5 b = some (.tup zs):=fun e n=>rn (fun z=>by rw [z,hf3] at e; cases e) n (s5 _ _ e)
          refine .tuple (SqT.of (rn n5f n5 h5)) (.cons (.int _) (.cons (.int _) (.cons (.list (SqL.of (rn nsf nso (s5 _ _ hws))) ?_) .nil)))
          have hPt5:PtV (rem (fr :: cs) H5) ws (rq.ps.map (renP nm ot)):=hPt.mono fun b zs e=>tupn e fun m=>by
            obtain ⟨l,hl'⟩:=hcs b m
            rw [s3 _ _ (sm _ _ hl')] at e; cases e
          exact hPt5.dats
    · rintro σ H' ⟨ds,v4,v5,v6,v7,v8,v9,sm,hds,hD,rfl⟩
      rw [hrl,List.take_length] at hD
      exact q H' fr ds sm hfr hds (hD.same rem_cons)
end
end K75
namespace K75
open PySem PySem.Spec PyProof.Rows L2 Rg
theorem datvs_set {K:PySem.W.Frag} {H:Hp} {x:V} {d:PyData} (hx:DatV K H x d):∀ {xs:List V} {ds:List PyData} (i:Nat),DatVs K H xs ds→DatVs K H (xs.set i x) (ds.set i d)
  | _,_,_,.nil=>.nil
  | _,_,0,.cons h hs=>.cons hx hs
  | _,_,i + 1,.cons h hs=>.cons h (datvs_set hx i hs)
noncomputable def PieG (ls:List (List Nat)) (rows:List Rw):Prop:=rows.length ≤ 10∧(∀ x ∈ rows,RwOk ls x)∧NodOk rows
theorem ShG.put {ls:List (List Nat)} {sheet:List (Int × List Rw)} (h:ShG ls sheet) {i:Nat} {p:Int × List Rw} (h1:-1 ≤ p.1) (h2:p.1 < (i:Int)) (hp:PieG ls p.2):ShG ls (sheet.set i p):=by
  refine ⟨fun k hk=>?_,fun x hx=>?_⟩
  · rw [List.length_set] at hk
    by_cases z:k = i
    · subst z
      have e:hol (sheet.set k p) k = p.1:=by unfold hol; rw [List.getD,List.getElem?_set_self hk]; rfl
      rw [e]; exact ⟨h1,h2⟩
    · have e:hol (sheet.set i p) k = hol sheet k:=by unfold hol; rw [List.getD,List.getD,List.getElem?_set_ne (fun y=>z y.symm)]
      rw [e]; exact h.hk k hk
  · rcases List.mem_or_eq_of_mem_set hx with z | z
    · exact h.ok x z
    · rw [z]; exact hp
theorem ShG.take {ls:List (List Nat)} {sheet:List (Int × List Rw)} (h:ShG ls sheet) (n:Nat):ShG ls (sheet.take n):=by
  refine ⟨fun k hk=>?_,fun x hx=>h.ok x (List.mem_of_mem_take hx)⟩
  rw [List.length_take] at hk
  have e:hol (sheet.take n) k = hol sheet k:=by unfold hol; rw [List.getD,List.getD,List.getElem?_take_of_lt (by lia)]
  rw [e]; exact h.hk k (by lia)
noncomputable def swR (q:Rw):Rw:=⟨q.m,if q.r = 0 then 1 else if q.r = 1 then 0 else q.r,q.ps⟩
theorem swR_ok {ls:List (List Nat)} {q:Rw} (h:RwOk ls q):RwOk ls (swR q):=by
  have hr:=h.r
  have e:shL (swR q).r = shL q.r:=by
    show shL (if q.r = 0 then 1 else if q.r = 1 then 0 else q.r) = _
    by_cases z:q.r = 0
    · rw [if_pos z,z]; rfl
    · rw [if_neg z]
      by_cases y:q.r = 1
      · rw [if_pos y,y]; rfl
      · rw [if_neg y]
  refine ⟨?_,h.len,fun j z=>h.w j (by rw [← e]; exact z),h.s⟩
  show (if q.r = 0 then 1 else if q.r = 1 then 0 else q.r) < 8
  split
  · decide
  · split
    · decide
    · exact hr
theorem swR_nod {rows:List Rw} (h:NodOk rows):NodOk (rows.map swR):=fun j q e x hx e2=>by
  rw [List.getElem?_map] at e
  cases z:rows[j]? with
  | none=>rw [z] at e; cases e
  | some q0 =>
    rw [z] at e
    cases e
    obtain ⟨i,q',h1,h2,h3⟩:=h j q0 z x hx e2
    exact ⟨i,swR q',h1,by rw [List.getElem?_map,h2]; rfl,h3⟩
theorem sw_at {r:Nat} (h:r < 8):atI [V.int 1,.int 0,.int 2,.int 3,.int 4,.int 5,.int 6,.int 7] (r:Nat) = some (.int ((if r = 0 then 1 else if r = 1 then 0 else r:Nat):Int)):=by
  match r,h with
  | 0,_=>rfl
  | 1,_=>rfl
  | 2,_=>rfl
  | 3,_=>rfl
  | 4,_=>rfl
  | 5,_=>rfl
  | 6,_=>rfl
  | 7,_=>rfl
  | k + 8,h=>lia
theorem cut_neg1 (xs:List V) (h:xs.length ≤ 1000):cutV xs none (some (-1)) = xs.take (xs.length - 1):=by
  by_cases h0:xs.length = 0
  · have e:xs = []:=List.length_eq_zero_iff.mp h0
    rw [e]; rfl
  · have e : HT.sIx xs.length xs.length (some (-1)) = HT.sIx xs.length xs.length (some ((xs.length - 1 : Nat) : Int)) := by
      unfold HT.sIx
      simp only
      split <;> split <;> lia
    have e2:cutV xs none (some (-1)) = cutV xs none (some ((xs.length - 1:Nat):Int)):=by unfold cutV; rw [e]
    rw [e2,cut_take xs (by lia)]
theorem datvs_take {K:PySem.W.Frag} {H:Hp}:∀ (n:Nat) {xs:List V} {ds:List PyData},DatVs K H xs ds→DatVs K H (xs.take n) (ds.take n)
  | 0,_,_,_=>.nil
  | _ + 1,_,_,.nil=>.nil
  | n + 1,_,_,.cons h hs=>.cons h (datvs_take n hs)
section
variable {P:Program} {w:World} {K:PySem.W.Frag} {mg:Str→Option Value} {base:Heap}
inductive spEd (K:PySem.W.Frag) (vs : List V) (H : Hp) (Q : VK) (_e : XK) : Prop | mk (sr nr rr:Addr) (c:Int) (ls:List (List Nat)) (sheet:List (Int × List Rw)) (rs:List V) (rows:List Rw) (cs:List Addr) : (vs = [.ref sr,.int c,.ref nr,.ref rr]) → ((∀ c ∈ cs,∃ l,H c = some (.lst l))) → (DatV K (rem cs H) (.ref sr) (.list (sheet.map pieDat))) → (SqL K (rem cs H) nr (ls.map fun k=>V.str (S k))) → (SqL K (rem cs H) rr rs) → (DatVs K (rem cs H) rs (rows.map rowDat)) → LsG ls → ShG ls sheet → (sheet.length ≤ 90) → PieG ls rows → (∀ H' p ys sheet',Same H H'→H p = none→H' p = some (.lst ys)→DatVs K (rem cs H') ys (sheet'.map pieDat)→ShG ls sheet'→EdL sheet rows sheet'→Q (.ref p) H') → spEd K vs H Q _e
noncomputable abbrev edN:List Str:=["_law_sheet_here","_law_cell","_law_names_here","_law_rows_here","_law_number","_law_way","_law_found_here","_law_at","_law_holder_here","_law_old","_law_other"]
noncomputable abbrev st__law_edited:Stmt:=top 21
theorem sc__law_edited:FnScope ["_law_sheet_here","_law_cell","_law_names_here","_law_rows_here","_law_number","_law_way","_law_found_here","_law_at","_law_holder_here","_law_old","_law_other"] ["_law_sheet_here","_law_cell","_law_names_here","_law_rows_here"] (defScope st__law_edited):=⟨rfl,rfl,rfl,by decide +kernel,rfl,by decide +kernel,by decide +kernel⟩
theorem def_ed (R : Raw K mg "_law_edited" st__law_edited ["_law_sheet_here", "_law_cell", "_law_names_here", "_law_rows_here"]) (T : Txt K w mg) (D__law_holder : Def P w K mg base 1 "_law_holder" ["_law_sheet_here", "_law_number"] (spHolr K)) (D__law_renamed : Def P w K mg base 1 "_law_renamed" ["_law_rows_here", "_law_name", "_law_other"] (spRen K)) :
    Def P w K mg base 2 "_law_edited" ["_law_sheet_here","_law_cell","_law_names_here","_law_rows_here"] (spEd K):=by
  refine R.defJ sc__law_edited (fun vs H Q E h=>?_) (fun f cdv A outer s H vs Q E hr h=>?_)
  · obtain ⟨sr,nr,rr,c,ls,sheet,rs,rows,cs,rfl,_⟩:=h
    rfl
  · obtain ⟨sr,nr,rr,c,ls,sheet,rs,rows,cs,rfl,hcs,hS,hnr,hR,hRd,hls,hg,hl,hpg,q⟩:=h
    have sc:=sc__law_edited
    have hu:=hr.units
    have hb:=big
    obtain ⟨_,ys,e0,hSl,hSd⟩:=dat_list hS
    cases e0
    have hyl:ys.length = sheet.length:=by have:=hSd.length; rw [List.length_map] at this; exact this
    have fresh:∀ {H':Hp} {b:Addr},Same H H'→H' b = none→b ∉ cs:=fun {H' b} sm e m=>by
      obtain ⟨u,hu⟩:=hcs b m
      rw [sm _ _ hu] at e; cases e
    have r0:∀ {H':Hp},Same H H'→Same (rem cs H) H':=fun sm b u e=>sm _ _ (rem_same _ _ e)
    have setq : ∀ (fl : Addr), H fl = none → fl ∉ cs → ∀ (H2 : Hp) (zs : List V) (sh : List (Int × List Rw)) (t : Addr) (p : Int × List Rw) (j : Nat), Same H H2 → DatVs K (rem (fl :: cs) H2) zs (sh.map pieDat) → DatV K (rem (fl :: cs) H2) (.ref t) (pieDat p) →
        Same H (upd H2 fl (.lst (zs.set j (.ref t))))∧upd H2 fl (.lst (zs.set j (.ref t))) fl = some (.lst (zs.set j (.ref t)))∧DatVs K (rem (fl :: cs) (upd H2 fl (.lst (zs.set j (.ref t))))) (zs.set j (.ref t)) ((sh.set j p).map pieDat):=fun fl fl0 nfl H2 zs sh t p j sm hD hT=>by
      refine ⟨fun b u e=>by rw [upd_ne fun z=>by rw [z,fl0] at e; cases e]; exact sm b u e,upd_same,?_⟩
      rw [rem_upd_in List.mem_cons_self,List.map_set]
      exact datvs_set hT j hD
    obtain ⟨u5, hP5, hq5⟩ : ∃ u, JSs (cxOf CX0 P w K mg base edN "_law_edited" (defScope st__law_edited) f cdv A outer s H E).nox ((defBody st__law_edited).drop 5) u ∧
        ∀ (H1:Hp) (fl:Addr) (wy nu:Int) (at_:Nat),Same H H1→H fl = none→fl ∉ cs→H1 fl = some (.lst ys)→DatVs K (rem (fl :: cs) H1) ys (sheet.map pieDat)→(wy = 1∨wy = 2∨wy = 3∨wy = 4∨wy = 5∨wy = 6)→at_ < sheet.length→0 ≤ nu →
          u { nx:=fun _ H'=>Q .non H',rt:=Q } [some (.ref sr),some (.int c),some (.ref nr),some (.ref rr),some (.int nu),some (.int wy),some (.ref fl),some (.int (at_:Nat)),none,none,none] H1:=by
      refine ⟨_,(jss_cons (js_if (jt_cmp (o_eqA hu (K:=K)) (jn 5) j_int)
    (jss_one (js_ret (j_slice (o_slA (K:=K)) (jn 6) jo_none (jo_some (j_neg j_int)))))
    jss_nil)
    (jss_cons (js_asg (j_ix (o_ix hu (K:=K) (w:=w)) (jn 6) (jn 7)) (jg_tup (K:=K) (n:=2) rfl (jgs_cons (jg_name (i:=8) sc.nd rfl (Or.inl rfl)) (jgs_cons (jg_name (i:=9) sc.nd rfl (Or.inl rfl)) jgs_nil))))
    (jss_cons (js_if (jt_cmp (o_eqA hu (K:=K)) (jn 5) j_int)
    (jss_one (js_asg (j_tup (ja_cons (jn 8) (ja_cons (jn 3) ja_nil))) (jg_sub (jn 6) (jn 7))))
    jss_nil)
    (jss_cons (js_if (jt_cmp (o_eqA hu (K:=K)) (jn 5) j_int)
    (jss_one (js_asg (j_tup (ja_cons (j_def D__law_holder (hr.mono (by decide)) rfl (ja_cons (j_slice (o_slA (K:=K)) (jn 6) jo_none (jo_some (jn 7))) (ja_cons (j_op o_div (jn 4) j_int) ja_nil))) (ja_cons (jn 9) ja_nil))) (jg_sub (jn 6) (jn 7))))
    jss_nil)
    (jss_cons (js_if (jt_cmp (o_eqA hu (K:=K)) (jn 5) j_int)
    (jss_one (js_asg (j_tup (ja_cons (jn 8) (ja_cons (j_def D__law_renamed (hr.mono (by decide)) rfl (ja_cons (jn 9) (ja_cons (j_ix (o_ix hu (K:=K) (w:=w)) (jn 2) (j_op o_mod (j_op o_div (jn 4) j_int) j_int)) (ja_cons (j_ix (o_ix hu (K:=K) (w:=w)) (jn 2) (j_op o_mod (j_op o_div (jn 4) j_int) j_int)) ja_nil)))) ja_nil))) (jg_sub (jn 6) (jn 7))))
    jss_nil)
    (jss_cons (js_if (jt_cmp (o_eqA hu (K:=K)) (jn 5) j_int)
    (jss_one (js_asg (j_tup (ja_cons (jn 8) (ja_cons (j_comp (N:=["_law_mark","_law_rule","_law_parts"]) (cap:=[none,none,none]) rfl (CompScope.of rfl (by rfl)) (ji_any (K:=K) (jn 9)) (fun _ _ _ _=>(jg_tup (K:=K) (n:=3) rfl (jgs_cons (jg_name (i:=0) (show List.Nodup [("_law_mark":Str),("_law_rule":Str),("_law_parts":Str)] by decide +kernel) rfl (Or.inl rfl)) (jgs_cons (jg_name (i:=1) (show List.Nodup [("_law_mark":Str),("_law_rule":Str),("_law_parts":Str)] by decide +kernel) rfl (Or.inl rfl)) (jgs_cons (jg_name (i:=2) (show List.Nodup [("_law_mark":Str),("_law_rule":Str),("_law_parts":Str)] by decide +kernel) rfl (Or.inl rfl)) jgs_nil))))) (fun _ _ _ _=>jts_nil) (fun _ _ _ _=>(j_tup (ja_cons (jn 0) (ja_cons (j_ix (o_ix hu (K:=K) (w:=w)) (j_lst (ja_cons j_int (ja_cons j_int (ja_cons j_int (ja_cons j_int (ja_cons j_int (ja_cons j_int (ja_cons j_int (ja_cons j_int ja_nil))))))))) (jn 1)) (ja_cons (jn 2) ja_nil)))))) ja_nil))) (jg_sub (jn 6) (jn 7))))
    jss_nil)
    (jss_cons (js_if (jt_cmp (o_eqA hu (K:=K)) (jn 5) j_int)
    (jss_cons (js_set (i:=10) sc.nd rfl (Or.inl rfl) (j_op o_mod (j_op o_div (jn 4) j_int) (j_callB (c_len (K:=K)) rfl T.n_len PySem.boot_len (ja_cons (jn 6) ja_nil))))
    (jss_cons (js_asg (j_tup (ja_cons (jn 8) (ja_cons (j_ix (o_ix hu (K:=K) (w:=w)) (j_ix (o_ix hu (K:=K) (w:=w)) (jn 6) (jn 10)) j_int) ja_nil))) (jg_sub (jn 6) (jn 7)))
    (jss_one (js_asg (j_tup (ja_cons (j_ix (o_ix hu (K:=K) (w:=w)) (j_ix (o_ix hu (K:=K) (w:=w)) (jn 6) (jn 10)) j_int) (ja_cons (jn 9) ja_nil))) (jg_sub (jn 6) (jn 10))))))
    jss_nil)
    (jss_one (js_ret (jn 6)))))))))),?_⟩
      intro H1 fl wy nu at_ s1 fl0 nfl hfl hD hw hat hnu
      have epc:=List.getElem?_eq_getElem hat
      have hpm:=List.getElem_mem hat
      have hpo:=hg.hk at_ hat
      have ehol:hol sheet at_ = (sheet[at_]).1:=by unfold hol; rw [List.getD,epc]; rfl
      rw [ehol] at hpo
      generalize sheet[at_] = pc at epc hpm hpo
      obtain ⟨y,ey,hy⟩:=datvs_at hD epc
      obtain ⟨tp,br,rs1,rfl,hT,hR1,hRd1⟩:=dat_pie hy
      have rc:∀ {H':Hp},Same (rem (fl :: cs) H') H':=fun b u e=>rem_same b u e
      have hix:atI ys ((at_:Nat):Int) = some (.ref tp):=atI_nat ey
      have hjx:ixN ys.length ((at_:Nat):Int) = some at_:=by unfold ixN; rw [if_pos (by lia),if_pos (by lia),Int.toNat_natCast]
      have rn:∀ {H':Hp} {b:Addr} {u:HO},b ≠ fl→b ∉ cs→H' b = some u→rem (fl :: cs) H' b = some u:=fun n1 n2 e=>by rw [rem_out (by intro m; rcases List.mem_cons.mp m with z | z; exact n1 z; exact n2 z)]; exact e
      have pcg:=hg.ok pc hpm
      have sRR:SqL K (rem (fl :: cs) H1) rr rs:=by
        have hs:Same (rem cs H) (rem (fl :: cs) H1):=fun b u e=>by
          have nb:b ∉ cs:=fun m=>by rw [rem_in m] at e; cases e
          rw [rem_out nb] at e
          exact rn (fun z=>by rw [z,fl0] at e; cases e) nb (s1 _ _ e)
        exact hs.seq hR
      have dRR:DatVs K (rem (fl :: cs) H1) rs (rows.map rowDat):=hRd.same fun b u e=>by
        have nb:b ∉ cs:=fun m=>by rw [rem_in m] at e; cases e
        rw [rem_out nb] at e
        exact rn (fun z=>by rw [z,fl0] at e; cases e) nb (s1 _ _ e)
      have fin:∀ (H':Hp) (zs:List V) (sh:List (Int × List Rw)),Same H H'→H' fl = some (.lst zs)→DatVs K (rem (fl :: cs) H') zs (sh.map pieDat)→ShG ls sh→EdL sheet rows sh→Q (.ref fl) H':=fun H' zs sh sm hz hd hs hl'=>q H' fl zs sh sm fl0 hz (hd.same rem_cons) hs hl'
      have put1 : ∀ (H2 : Hp) (h : Int) (b : Addr) (bs : List V) (rows2 : List Rw) (t : Addr), Same H1 H2 → SqL K (rem (fl :: cs) H2) b bs → DatVs K (rem (fl :: cs) H2) bs (rows2.map rowDat) → -1 ≤ h → h < ((at_ : Nat) : Int) → PieG ls rows2 → (∀ m, cntR m rows2 ≤ cntR m pc.2 + cntR m rows) → H2 t = none →
          (upd H2 t (.tup [.int h,.ref b])) fl = some (.lst ys)∧Q (.ref fl) (upd (upd H2 t (.tup [.int h,.ref b])) fl (.lst (ys.set at_ (.ref t)))):=fun H2 h b bs rows2 t s2 hb1 hb2 h1 h2 hp2 hct ht=>by
        have s3:Same H2 (upd H2 t (.tup [.int h,.ref b])):=same_new ht
        have h3:upd H2 t (.tup [.int h,.ref b]) t = some (.tup [.int h,.ref b]):=upd_same
        generalize upd H2 t (.tup [.int h,.ref b]) = H3 at s3 h3 ⊢
        have s23:=s2.trans s3
        have hf3:=s23 _ _ hfl
        have ntf:t ≠ fl:=fun z=>by rw [z,hf3] at h3; cases h3
        have ntc:=fresh (s1.trans s2) ht
        obtain ⟨a1,a2,a3⟩:=setq fl fl0 nfl H3 ys sheet t (h,rows2) at_ (s1.trans s23) (hD.same (rem_le s23)) (.tuple (SqT.of (rn ntf ntc h3)) (.cons (.int _) (.cons (.list ((rem_le s3).seq hb1) (hb2.same (rem_le s3))) .nil)))
        exact ⟨hf3,fin _ _ _ a1 a2 a3 (hg.put h1 h2 hp2) (.put epc hct)⟩
      rcases hw with rfl | rfl | rfl | rfl | rfl | rfl
      · -- the last one goes
        refine .inl ⟨_,SqL.of hfl,fun p hp=>?_⟩
        rw [cut_neg1 ys (by lia)]
        have s2:Same H1 (upd H1 p (.lst (ys.take (ys.length - 1)))):=same_new hp
        have p0:H p = none:=by
          cases z:H p with
          | none=>rfl
          | some u=>rw [s1 _ _ z] at hp; cases hp
        refine q _ p _ (sheet.take (ys.length - 1)) (s1.trans s2) p0 upd_same ?_ (hg.take _) (.cut _)
        rw [List.map_take]
        exact datvs_take _ ((hD.same rem_cons).same (rem_le s2))
      · refine .inl ⟨_,_,SqL.of hfl,hix,?_⟩
        refine ⟨tp,_,rfl,rc.seqT hT,rfl,_,_,rfl,_,_,rfl,rfl,?_⟩
        refine ⟨(show 2 ≤ sizeLine by decide),fun t ht=>?_⟩
        obtain ⟨a1,a2⟩:=put1 H1 pc.1 rr rs rows t (Same.refl _) sRR dRR hpo.1 hpo.2 hpg (fun m=>by lia) ht
        exact ⟨fl,ys,_,at_,rfl,rfl,a1,hjx,a2⟩
      · refine .inl ⟨_,_,SqL.of hfl,hix,?_⟩
        refine ⟨tp,_,rfl,rc.seqT hT,rfl,_,_,rfl,_,_,rfl,rfl,?_⟩
        refine .inl ⟨_,SqL.of hfl,fun p hp=>?_⟩
        rw [cut_take ys (show at_ ≤ ys.length by lia)]
        have s2:Same H1 (upd H1 p (.lst (ys.take at_))):=same_new hp
        have h2:upd H1 p (.lst (ys.take at_)) p = some (.lst (ys.take at_)):=upd_same
        generalize upd H1 p (.lst (ys.take at_)) = H2 at s2 h2 ⊢
        refine ⟨⟨by decide,by decide⟩,?_⟩
        have hg':=hg.take at_
        refine ⟨p,_,ys.take at_,sheet.take at_,rfl,SqL.of h2,by rw [List.map_take]; exact datvs_take _ ((hD.same rc).same s2),hg'.lay hls,by rw [List.length_take]; lia,hg'.hk,fun H6 h s6 h1 h2'=>?_⟩
        rw [List.length_take] at h2'
        refine ⟨(show 2 ≤ sizeLine by decide),fun t ht=>?_⟩
        obtain ⟨a1,a2⟩:=put1 H6 h br rs1 pc.2 t (s2.trans s6) ((rem_le (s2.trans s6)).seq hR1) (hRd1.same (rem_le (s2.trans s6))) h1 (by lia) pcg (fun m=>by lia) ht
        exact ⟨fl,ys,_,at_,rfl,rfl,a1,hjx,a2⟩
      · refine .inl ⟨_,_,SqL.of hfl,hix,?_⟩
        refine ⟨tp,_,rfl,rc.seqT hT,rfl,_,_,rfl,_,_,rfl,rfl,?_⟩
        have snr:SqL K H1 nr (ls.map fun k=>V.str (S k)):=(r0 s1).seq hnr
        have hl3:((ls.map fun k=>V.str (S k)).length:Int) = 3:=by rw [List.length_map,hls.len]; rfl
        obtain ⟨n1,hm1,en1⟩:=name_at (show 0 < ls.length by rw [hls.len]; decide) (nu / 8)
        obtain ⟨n2,hm2,en2⟩:=name_at (show 0 < ls.length by rw [hls.len]; decide) (nu / 24)
        rw [hl3] at en1 en2
        refine ⟨⟨by decide,by decide⟩,by decide,.inl ⟨_,_,snr,en1,?_⟩⟩
        refine ⟨⟨by decide,by decide⟩,by decide,.inl ⟨_,_,snr,en2,?_⟩⟩
        have hcl:∀ c ∈ fl :: cs,∃ l,H1 c = some (.lst l):=fun c m=>by
          rcases List.mem_cons.mp m with z | z
          · rw [z]; exact ⟨_,hfl⟩
          · obtain ⟨l,hl'⟩:=hcs c z; exact ⟨l,s1 _ _ hl'⟩
        refine ⟨br,rs1,pc.2,n1,n2,fl :: cs,rfl,hcl,hR1,hRd1,by have:=pcg.1; lia,fun x hx=>(pcg.2.1 x hx).len,tx_sign (hls.ok n1 hm1) (hls.z n1 hm1),fun H6 p zs s6 p0 hp6 hd6=>?_⟩
        refine ⟨(show 2 ≤ sizeLine by decide),fun t ht=>?_⟩
        have npf:p ≠ fl:=fun z=>by rw [z,hfl] at p0; cases p0
        obtain ⟨a1,a2⟩:=put1 H6 pc.1 p zs (pc.2.map (renR n1 n2)) t s6 (SqL.of (rn npf (fresh s1 p0) hp6)) hd6 hpo.1 hpo.2 ⟨by rw [List.length_map]; exact pcg.1,fun x hx=>(by obtain ⟨y,hy,rfl⟩:=List.mem_map.mp hx; exact renR_ok (pcg.2.1 y hy) hm2),renR_nod pcg.2.2⟩ (fun m=>by rw [cntR_map m (f:=renR n1 n2) (fun q=>rfl)]; lia) ht
        exact ⟨fl,ys,_,at_,rfl,rfl,a1,hjx,a2⟩
      · refine .inl ⟨_,_,SqL.of hfl,hix,?_⟩
        refine ⟨tp,_,rfl,rc.seqT hT,rfl,_,_,rfl,_,_,rfl,rfl,?_⟩
        have hr1l:rs1.length = pc.2.length:=by have:=hRd1.length; rw [List.length_map] at this; exact this
        have h10:=pcg.1
        refine .inl ⟨⟨_,rc.seq hR1⟩,?_⟩
        refine gath_list (xs:=rs1) (fun j ws σ' H2=>Same H1 H2∧DatVs K (rem (fl :: cs) H2) ws (((pc.2.take j).map swR).map rowDat)∧∃ v0 v1 v2:Option V,σ' = [v0,v1,v2]) (by lia) ⟨Same.refl _,.nil,none,none,none,rfl⟩
          (fun j ws σ' H2 h=>by have:=h.2.1.length; rw [List.length_map,List.length_map,List.length_take] at this; lia) (fun j ws σ' H2 h=>Same.seq (show Same (rem (fl :: cs) H1) H2 from fun b u e=>h.1 _ _ (rc _ _ e)) hR1) ?_ ?_
        · rintro j y ws σ' H2 hy2 ⟨sm2,hD2,w0,w1,w2,rfl⟩
          obtain ⟨rq,erq,hrq⟩:=datvs_has hRd1 hy2
          have ejk:pc.2.take (j + 1) = pc.2.take j ++ [rq]:=by rw [List.take_add_one,erq]; rfl
          obtain ⟨tr,bp,pv,rfl,hRT,hPL,hPD⟩:=dat_row hrq
          have hr8:=(pcg.2.1 rq (List.mem_of_getElem? erq)).r
          have s12:Same (rem (fl :: cs) H1) H2:=fun b u e=>sm2 _ _ (rc _ _ e)
          refine ⟨tr,_,rfl,s12.seqT hRT,rfl,_,_,rfl,_,_,rfl,_,_,rfl,rfl,?_⟩
          refine ⟨(show 8 ≤ sizeLine by decide),fun l hl'=>?_⟩
          have s3:Same H2 (upd H2 l (.lst [V.int 1,.int 0,.int 2,.int 3,.int 4,.int 5,.int 6,.int 7])):=same_new hl'
          have h3:upd H2 l (.lst [V.int 1,.int 0,.int 2,.int 3,.int 4,.int 5,.int 6,.int 7]) l = some (.lst [V.int 1,.int 0,.int 2,.int 3,.int 4,.int 5,.int 6,.int 7]):=upd_same
          generalize upd H2 l (.lst [V.int 1,.int 0,.int 2,.int 3,.int 4,.int 5,.int 6,.int 7]) = H3 at s3 h3 ⊢
          refine .inl ⟨_,_,SqL.of h3,sw_at hr8,?_⟩
          refine ⟨(show 3 ≤ sizeLine by decide),fun t ht=>?_⟩
          have s4:Same H3 (upd H3 t (.tup [.int rq.m,.int ((if rq.r = 0 then 1 else if rq.r = 1 then 0 else rq.r:Nat):Int),.ref bp])):=same_new ht
          have h4:upd H3 t (.tup [.int rq.m,.int ((if rq.r = 0 then 1 else if rq.r = 1 then 0 else rq.r:Nat):Int),.ref bp]) t = some (.tup [.int rq.m,.int ((if rq.r = 0 then 1 else if rq.r = 1 then 0 else rq.r:Nat):Int),.ref bp]):=upd_same
          have nt:=fresh ((s1.trans sm2).trans s3) ht
          generalize upd H3 t (.tup [.int rq.m,.int ((if rq.r = 0 then 1 else if rq.r = 1 then 0 else rq.r:Nat):Int),.ref bp]) = H4 at s4 h4 ⊢
          have s34:=s3.trans s4
          have ntf:t ≠ fl:=fun z=>by rw [z,s34 _ _ (sm2 _ _ hfl)] at h4; cases h4
          refine ⟨sm2.trans s34,?_,_,_,_,rfl⟩
          rw [ejk,List.map_append,List.map_append]
          refine DatVs.snoc ?_ (hD2.same (rem_le s34))
          exact .tuple (SqT.of (rn ntf nt h4)) (.cons (.int _) (.cons (.int _) (.cons (.list ((rem_le (sm2.trans s34)).seq hPL) (hPD.same (rem_le (sm2.trans s34)))) .nil)))
        · rintro ws σ' H2 ⟨sm2,hD2,w0,w1,w2,rfl⟩ l hl'
          rw [hr1l,List.take_length] at hD2
          have s3:Same H2 (upd H2 l (.lst ws)):=same_new hl'
          have h3:upd H2 l (.lst ws) l = some (.lst ws):=upd_same
          have nl:=fresh (s1.trans sm2) hl'
          have nlf:l ≠ fl:=fun z=>by rw [z,sm2 _ _ hfl] at hl'; cases hl'
          generalize upd H2 l (.lst ws) = H3 at s3 h3 ⊢
          refine ⟨(show 2 ≤ sizeLine by decide),fun t ht=>?_⟩
          obtain ⟨a1,a2⟩:=put1 H3 pc.1 l ws (pc.2.map swR) t (sm2.trans s3) (SqL.of (rn nlf nl h3)) (hD2.same (rem_le s3)) hpo.1 hpo.2 ⟨by rw [List.length_map]; exact pcg.1,fun x hx=>(by obtain ⟨y,hy,rfl⟩:=List.mem_map.mp hx; exact swR_ok (pcg.2.1 y hy)),swR_nod pcg.2.2⟩ (fun m=>by rw [cntR_map m (f:=swR) (fun q=>rfl)]; lia) ht
          exact ⟨fl,ys,_,at_,rfl,rfl,a1,hjx,a2⟩
      · refine .inl ⟨_,_,SqL.of hfl,hix,?_⟩
        refine ⟨tp,_,rfl,rc.seqT hT,rfl,_,_,rfl,_,_,rfl,rfl,?_⟩
        obtain ⟨o,ho,eo⟩:∃ o:Nat,o < sheet.length∧nu / 8 % ((ys.length:Nat):Int) = (o:Int):=by
          have h1:=Int.emod_nonneg (nu / 8) (show ((ys.length:Nat):Int) ≠ 0 by lia)
          have h2:=Int.emod_lt_of_pos (nu / 8) (show 0 < ((ys.length:Nat):Int) by lia)
          exact ⟨(nu / 8 % ((ys.length:Nat):Int)).toNat,by lia,by lia⟩
        refine ⟨⟨by decide,by decide⟩,_,.inl (SqL.of hfl),by lia,?_⟩
        have hixo:∀ {zs:List V} {v:V},zs[o]? = some v→atI zs (nu / 8 % ((ys.length:Nat):Int)) = some v:=fun e=>by rw [eo]; exact atI_nat e
        have epo:=List.getElem?_eq_getElem ho
        have hpmo:=List.getElem_mem ho
        generalize sheet[o] = po at epo hpmo
        obtain ⟨yo,eyo,hyo⟩:=datvs_at hD epo
        obtain ⟨tpo,bro,rso,rfl,hTo,hRo,hRdo⟩:=dat_pie hyo
        refine .inl ⟨_,_,SqL.of hfl,hixo eyo,?_⟩
        refine .inr ⟨_,_,rc.seqT hTo,rfl,?_⟩
        refine ⟨(show 2 ≤ sizeLine by decide),fun t ht=>?_⟩
        have s3:Same H1 (upd H1 t (.tup [.int pc.1,.ref bro])):=same_new ht
        have h3:upd H1 t (.tup [.int pc.1,.ref bro]) t = some (.tup [.int pc.1,.ref bro]):=upd_same
        generalize upd H1 t (.tup [.int pc.1,.ref bro]) = H3 at s3 h3 ⊢
        have hf3:=s3 _ _ hfl
        have ntf:t ≠ fl:=fun z=>by rw [z,hf3] at h3; cases h3
        obtain ⟨a1,a2,a3⟩:=setq fl fl0 nfl H3 ys sheet t (pc.1,po.2) at_ (s1.trans s3) (hD.same (rem_le s3)) (.tuple (SqT.of (rn ntf (fresh s1 ht) h3)) (.cons (.int _) (.cons (.list ((rem_le s3).seq hRo) (hRdo.same (rem_le s3))) .nil)))
        refine ⟨fl,ys,_,at_,rfl,rfl,hf3,hjx,?_⟩
        have g1:=hg.put (i:=at_) (p:=(pc.1,po.2)) hpo.1 hpo.2 (hg.ok po hpmo)
        have k4:Same (rem (fl :: cs) H3) (rem (fl :: cs) (upd H3 fl (.lst (ys.set at_ (.ref t))))):=fun b u e=>by rw [rem_upd_in List.mem_cons_self]; exact e
        generalize upd H3 fl (.lst (ys.set at_ (.ref t))) = H4 at a1 a2 a3 k4 ⊢
        have ho1:o < (sheet.set at_ (pc.1,po.2)).length:=by rw [List.length_set]; exact ho
        have ep1:=List.getElem?_eq_getElem ho1
        have hh1:=g1.hk o ho1
        have eh1:hol (sheet.set at_ (pc.1,po.2)) o = ((sheet.set at_ (pc.1,po.2))[o]).1:=by unfold hol; rw [List.getD,ep1]; rfl
        rw [eh1] at hh1
        generalize (sheet.set at_ (pc.1,po.2))[o] = p1 at ep1 hh1
        obtain ⟨y1,ey1,hy1⟩:=datvs_at a3 ep1
        obtain ⟨tp1,br1,rs2,rfl,hT1,_,_⟩:=dat_pie hy1
        refine .inl ⟨_,_,SqL.of a2,hixo ey1,?_⟩
        refine .inr ⟨_,_,rc.seqT hT1,rfl,?_⟩
        refine ⟨(show 2 ≤ sizeLine by decide),fun t2 ht2=>?_⟩
        have s5:Same H4 (upd H4 t2 (.tup [.int p1.1,.ref br])):=same_new ht2
        have h5:upd H4 t2 (.tup [.int p1.1,.ref br]) t2 = some (.tup [.int p1.1,.ref br]):=upd_same
        generalize upd H4 t2 (.tup [.int p1.1,.ref br]) = H5 at s5 h5 ⊢
        have hf5:=s5 _ _ a2
        have ntf2:t2 ≠ fl:=fun z=>by rw [z,hf5] at h5; cases h5
        have kk:Same (rem (fl :: cs) H1) (rem (fl :: cs) H5):=fun b u e=>rem_le s5 _ _ (k4 _ _ (rem_le s3 _ _ e))
        obtain ⟨b1,b2,b3⟩:=setq fl fl0 nfl H5 (ys.set at_ (.ref t)) (sheet.set at_ (pc.1,po.2)) t2 (p1.1,pc.2) o (a1.trans s5) (a3.same (rem_le s5)) (.tuple (SqT.of (rn ntf2 (fresh a1 ht2) h5)) (.cons (.int _) (.cons (.list (kk.seq hR1) (hRd1.same kk)) .nil)))
        have hjo:ixN (ys.set at_ (.ref t)).length (nu / 8 % ((ys.length:Nat):Int)) = some o:=by rw [eo,List.length_set]; unfold ixN; rw [if_pos (by lia),if_pos (by lia),Int.toNat_natCast]
        refine ⟨fl,_,_,o,rfl,rfl,hf5,hjo,?_⟩
        exact fin _ _ _ b1 b2 b3 (g1.put hh1.1 hh1.2 pcg) (.swap epc epo rfl rfl ep1)
    obtain ⟨u4, hP4, hq4⟩ : ∃ u, JSs (cxOf CX0 P w K mg base edN "_law_edited" (defScope st__law_edited) f cdv A outer s H E).nox ((defBody st__law_edited).drop 4) u ∧
        ∀ (H1:Hp) (fl:Addr) (wy nu:Int) (at_:Nat),Same H H1→H fl = none→fl ∉ cs→H1 fl = some (.lst ys)→DatVs K (rem (fl :: cs) H1) ys (sheet.map pieDat)→(wy = 0∨wy = 1∨wy = 2∨wy = 3∨wy = 4∨wy = 5∨wy = 6)→(0 < sheet.length→at_ < sheet.length)→0 ≤ nu →
          u { nx:=fun _ H'=>Q .non H',rt:=Q } [some (.ref sr),some (.int c),some (.ref nr),some (.ref rr),some (.int nu),some (.int wy),some (.ref fl),some (.int (at_:Nat)),none,none,none] H1:=by
      refine ⟨_,(jss_cons (js_if (jw_t (jw_or (jt_cmp (o_eqA hu (K:=K)) (jn 5) j_int) (jw_or1 (jt_cmp (o_eqA hu (K:=K)) (jn 6) (j_lst ja_nil)))))
    (jss_one (js_ret (j_op (o_add (K:=K)) (jn 6) (j_lst (ja_cons (j_tup (ja_cons (j_def D__law_holder (hr.mono (by decide)) rfl (ja_cons (jn 6) (ja_cons (j_op o_div (jn 4) j_int) ja_nil))) (ja_cons (jn 3) ja_nil))) ja_nil)))))
    jss_nil)
    hP5),?_⟩
      intro H1 fl wy nu at_ s1 fl0 nfl hfl hD hw hat hnu
      show tIfS _ _ _ _ _ _
      refine ifS_of (fun b H5=>Same H1 H5∧(b = false→wy ≠ 0∧0 < sheet.length)) ?_ ?_ ?_
      · intro H5 hh
        obtain ⟨s5,_⟩:=hh
        refine ⟨⟨by decide,by decide⟩,?_⟩
        have rc:Same (rem (fl :: cs) H1) H1:=fun b u e=>rem_same b u e
        refine ⟨fl,_,ys,sheet,rfl,SqL.of (s5 _ _ hfl),(hD.same rc).same s5,hg.lay hls,by lia,hg.hk,fun H6 h s6 h1 h2=>?_⟩
        have s56:=s5.trans s6
        refine ⟨(show 2 ≤ sizeLine by decide),fun t ht=>?_⟩
        have s7:Same H6 (upd H6 t (.tup [.int h,.ref rr])):=same_new ht
        have h7:upd H6 t (.tup [.int h,.ref rr]) t = some (.tup [.int h,.ref rr]):=upd_same
        have ntc:=fresh (s1.trans s56) ht
        generalize upd H6 t (.tup [.int h,.ref rr]) = H7 at s7 h7 ⊢
        refine ⟨(show 1 ≤ sizeLine by decide),fun l hl'=>?_⟩
        have s8:Same H7 (upd H7 l (.lst [.ref t])):=same_new hl'
        have h8:upd H7 l (.lst [.ref t]) l = some (.lst [.ref t]):=upd_same
        generalize upd H7 l (.lst [.ref t]) = H8 at s8 h8 ⊢
        have s58:=(s56.trans s7).trans s8
        refine .inl ⟨_,_,s58 _ _ hfl,h8,by show ys.length + 1 ≤ _; lia,fun p hp=>?_⟩
        have s9:Same H8 (upd H8 p (.lst (ys ++ [.ref t]))):=same_new hp
        have p0:H p = none:=by
          cases z:H p with
          | none=>rfl
          | some u=>rw [s58 _ _ (s1 _ _ z)] at hp; cases hp
        have hrr:Same (rem cs H) (rem cs (upd H8 p (.lst (ys ++ [.ref t])))):=rem_le ((s1.trans s58).trans s9)
        refine q _ p _ (sheet ++ [(h,rows)]) ((s1.trans s58).trans s9) p0 upd_same ?_ ⟨hol_app hg.hk rows h1 h2,fun x hx=>?_⟩ (.app h)
        · rw [List.map_append]
          refine DatVs.snoc ?_ ((hD.same rem_cons).same (rem_le (s58.trans s9)))
          exact .tuple (SqT.of (by rw [rem_out ntc]; exact s9 _ _ (s8 _ _ h7))) (.cons (.int _) (.cons (.list (hrr.seq hR) (hRd.same hrr)) .nil))
        · rcases List.mem_append.mp hx with z | z
          · exact hg.ok x z
          · rw [List.mem_singleton.mp z]; exact hpg
      · intro H5 hh
        obtain ⟨s5,hne⟩:=hh
        obtain ⟨h1,h2⟩:=hne rfl
        exact hq5 H5 fl wy nu at_ (s1.trans s5) fl0 nfl (s5 _ _ hfl) (hD.same (rem_le s5)) (by rcases hw with z | z; exact absurd z h1; exact z) (hat h2) hnu
      · intro hT' hF
        show if (false ^^ decide (wy = 0)) = true then _ else _
        rw [Bool.false_xor]
        by_cases hw0:wy = 0
        · rw [if_pos (decide_eq_true hw0)]
          exact hT' _ ⟨Same.refl _,(fun z=>nomatch z)⟩
        · rw [if_neg (fun z=>hw0 (of_decide_eq_true z))]
          refine ⟨(show 0 ≤ sizeLine by decide),fun p5 hp5=>?_⟩
          have s5:Same H1 (upd H1 p5 (.lst [])):=same_new hp5
          have h5:upd H1 p5 (.lst []) p5 = some (.lst []):=upd_same
          generalize upd H1 p5 (.lst []) = H5 at s5 h5 ⊢
          have lay1:(PyData.list (sheet.map pieDat)).canLay0 = true:=by have:=hg.lay hls; simp only [PyData.canLay0]; exact this
          have lay2:(PyData.list []).canLay0 = true:=by simp only [PyData.canLay0,PyData.canLayAll0]
          have dep:min (PyData.list (sheet.map pieDat)).depth (PyData.list []).depth ≤ 60:=by
            have:(PyData.list []).depth ≤ 60:=by simp only [PyData.depth,PyData.depthAll]; lia
            lia
          refine ⟨_,_,.list (SqL.of (s5 _ _ hfl)) ((hD.same (fun b u e=>rem_same b u e)).same s5),.list (SqL.of h5) .nil,lay1,lay2,dep,?_⟩
          rw [eqv_nil]
          cases hsh:sheet with
          | nil=>exact hT' _ ⟨s5,(fun z=>nomatch z)⟩
          | cons p0 pr=>exact hF _ ⟨s5,fun _=>⟨hw0,by rw [hsh]; simp⟩⟩
    refine ⟨_,(jss_cons (js_set (i:=4) sc.nd rfl (Or.inl rfl) (j_op o_mod (j_op o_mul (j_op o_mod (jn 1) j_int) j_int) j_int))
    (jss_cons (js_set (i:=5) sc.nd rfl (Or.inl rfl) (j_op o_mod (jn 1) j_int))
    (jss_cons (js_set (i:=6) sc.nd rfl (Or.inl rfl) (j_callTy (c_list (K:=K)) rfl T.n_list boot_list (ja_cons (jn 0) ja_nil)))
    (jss_cons (js_set (i:=7) sc.nd rfl (Or.inl rfl) (j_op o_mod (jn 4) (j_callB (c_max rfl) rfl T.n_max boot_max (ja_cons j_int (ja_cons (j_callB (c_len (K:=K)) rfl T.n_len PySem.boot_len (ja_cons (jn 6) ja_nil)) ja_nil)))))
    hP4)))),?_⟩
    refine ⟨by decide,.inr ⟨by decide,by decide⟩,by decide,?_⟩
    refine ⟨by decide,?_⟩
    refine ⟨_,.inl ((r0 (Same.refl _)).seq hSl),fun fl hfl=>?_⟩
    have s1:Same H (upd H fl (.lst ys)):=same_new hfl
    have h1:upd H fl (.lst ys) fl = some (.lst ys):=upd_same
    have nfl:=fresh (Same.refl _) hfl
    have d1:Same (rem cs H) (rem (fl :: cs) (upd H fl (.lst ys))):=fun b u e=>by
      have nb:b ∉ cs:=fun m=>by rw [rem_in m] at e; cases e
      rw [rem_out nb] at e
      have nbf:b ≠ fl:=fun z=>by rw [z,hfl] at e; cases e
      rw [rem_out (by intro m; rcases List.mem_cons.mp m with z | z; exact nbf z; exact nb z),upd_ne nbf]; exact e
    generalize upd H fl (.lst ys) = H1 at s1 h1 d1 ⊢
    refine ⟨_,.inl (SqL.of h1),by lia,?_⟩
    have hnu:0 ≤ c % 2147483647 * 16807 % 999983:=by lia
    obtain ⟨nu,enu⟩:∃ nu,nu = c % 2147483647 * 16807 % 999983:=⟨_,rfl⟩
    rw [← enu] at hnu
    obtain ⟨at_,eat,hat⟩:∃ at_:Nat,nu % max 1 ((ys.length:Nat):Int) = ((at_:Nat):Int)∧(0 < sheet.length→at_ < sheet.length):=by
      have h1:=Int.emod_nonneg nu (show max 1 ((ys.length:Nat):Int) ≠ 0 by lia)
      have h2:=Int.emod_lt_of_pos nu (show 0 < max 1 ((ys.length:Nat):Int) by lia)
      exact ⟨(nu % max 1 ((ys.length:Nat):Int)).toNat,by lia,fun h=>by lia⟩
    have key:=hq4 H1 fl (c % 7) nu at_ s1 hfl nfl h1 (hSd.same d1) (by lia) hat hnu
    rw [← eat,enu] at key
    exact key
end
end K75
namespace L2
open PySem PySem.Spec PyProof.Rows
noncomputable def gNeA (K:PySem.W.Frag):R2:=fun x y H Q=>match x,y with
  | .non,.ref j=>∃ db,DatV K H (.ref j) db∧db.canLay0 = true∧Q (.bl (!PyData.eqv .none db)) H
  | x,y=>gEq K true x y H Q
section
variable {X:Cx} {K:PySem.W.Frag}
theorem o_neA (hu:X.A.units + 64 < cLine) (hK:X.K = K:=by rfl):Irr (OpR X (compareOp .NotEq) (gNeA K)):=by
  refine .mk ?_
  subst hK
  intro pins s σ H x y v u Q I rx ry h
  unfold gNeA at h
  split at h
  · obtain ⟨db,h1,h2,h3⟩:=h
    exact op_neD hu pins s σ H _ _ v u Q I rx ry ⟨.none,db,.none,h1,(by simp only [PyData.canLay0]),h2,(by simp only [PyData.depth]; lia),by simpa using h3⟩
  · exact og_ne hu rfl pins s σ H _ _ v u Q I rx ry h
end
end L2
namespace K75
open PySem PySem.Spec PyProof.Rows L2 Rg
structure RecI (K:PySem.W.Frag) (H:Hp) (al rd:Addr) (pv:Int→Option E3):Prop where
  ex:∃ kvs,H rd = some (.dK kvs)∧(∀ m,pv m = none→valV kvs (Sum.inl m) = none)∧∀ m e,pv m = some e→∃ v,valV kvs (Sum.inl m) = some v∧DatV K (rem [al] H) v (askDat3 e)
theorem RecI.keep {K:PySem.W.Frag} {H H':Hp} {al rd:Addr} {pv:Int→Option E3} (h:RecI K H al rd pv) (e:H' rd = H rd) (s:SameD (rem [al] H) (rem [al] H')):RecI K H' al rd pv :=
  let ⟨kvs,h1,h2,h3⟩:=h.ex; ⟨kvs,e.trans h1,h2,fun m x q=>let ⟨v,a,b⟩:=h3 m x q; ⟨v,a,b.sameD s⟩⟩
inductive OneV (B H:Hp) (du:Addr) (v:V) (e:E3) : Prop | mk (t : _) (g : _) : (v = .ref t) → (H t = some (.tup [.int (e.1:Nat),.ref g,txtV e.2.2])) → (H g = some (.lst (txs e.2.1))) → (B g = none) → (g ≠ du) → OneV B H du v e
structure FrI (B H:Hp) (du fd:Addr) (es:List (Int × E3)):Prop where
  ex:∃ kvs,H fd = some (.dK kvs)∧kvs.length ≤ es.length∧(∀ m,lk es m = none→valV kvs (Sum.inl m) = none)∧∀ m e,lk es m = some e→∃ v,valV kvs (Sum.inl m) = some v∧OneV B H du v e
theorem FrI.mono {B H H':Hp} {du fd:Addr} {es:List (Int × E3)} (h:FrI B H du fd es) (e:H' fd = H fd) (s1:∀ t vs,H t = some (.tup vs)→H' t = some (.tup vs)) (s2:∀ g xs,g ≠ du→H g = some (.lst xs)→H' g = some (.lst xs)):FrI B H' du fd es :=
  let ⟨kvs,h1,h2,h3,h4⟩:=h.ex; ⟨kvs,e.trans h1,h2,h3,fun m x q=>let ⟨v,a,t,g,b1,b2,b3,b4,b5⟩:=h4 m x q; ⟨v,a,t,g,b1,s1 _ _ b2,s2 _ _ b5 b3,b4,b5⟩⟩
theorem one_eqv (a b:E3):PyData.eqv (askDat3 a) (askDat3 b) = decide (a = b):=by
  obtain ⟨r,g,f⟩:=a
  obtain ⟨r',g',f'⟩:=b
  have hf:PyData.eqv (txtD f) (txtD f') = decide (f = f'):=by
    cases f with
    | none=>cases f' <;> simp [txtD,PyData.eqv]
    | some a =>
      cases f' with
      | none=>simp [txtD,PyData.eqv]
      | some b =>
        simp only [txtD,PyData.eqv]
        by_cases h:a = b
        · subst h; simp
        · have:¬ S a = S b:=fun z=>h (S_inj z)
          simp [h,this]
  have hr:(((r:Nat):Int) == ((r':Nat):Int)) = decide (r = r'):=by
    by_cases h:r = r'
    · subst h; simp
    · have:¬ ((r:Nat):Int) = ((r':Nat):Int):=fun z=>h (by lia)
      simp [h,this]
  simp only [askDat3,PyData.eqv,PyData.eqvAll,txs_eqv,hf,hr]
  by_cases h1:r = r' <;> by_cases h2:g = g' <;> by_cases h3:f = f' <;> simp [h1,h2,h3]
theorem canAll:∀ {ds:List PyData},(∀ d ∈ ds,d.canLay0 = true)→PyData.canLayAll0 ds = true
  | [],_=>by simp only [PyData.canLayAll0]
  | d :: r,h=>by simp only [PyData.canLayAll0,h d List.mem_cons_self,canAll fun x hx=>h x (List.mem_cons_of_mem _ hx),Bool.and_self]
theorem one_lay {e:E3} (h:EOk e):(askDat3 e).canLay0 = true:=by
  have a:=txs_lay h.g
  have b:=txt_lay3 h.f
  simp only [askDat3,PyData.canLay0,PyData.canLayAll0,a,b,Bool.and_self]
noncomputable def TdI (H:Hp) (td:Addr) (es:List (Int × E3)):Prop:=∃ kvs,H td = some (.dK kvs)∧kvs.length ≤ es.length∧∀ m,valV kvs (Sum.inl m) = (lk es m).map fun e=>V.str (S (kfn e))
theorem TdI.same {H H':Hp} {td:Addr} {es:List (Int × E3)} (h:TdI H td es) (e:H' td = H td):TdI H' td es:=let ⟨kvs,h1,h2⟩:=h; ⟨kvs,e.trans h1,h2⟩
theorem stp_mono {kf:E3→List Nat} {notes:List (Int × Int)} {sheet:List (Int × List Rw)} {i:Nat}:∀ {n:Nat},i ≤ n→n ≤ sheet.length→∀ (k:Nat) (l:List (List Nat)),(stp kf notes sheet i).1[k]? = some l→(stp kf notes sheet n).1[k]? = some l:=by
  intro n hin
  induction n with
  | zero => intro _ k l e; have : i = 0 := by lia
            subst this; exact e
  | succ n ih =>
    intro hn k l e
    by_cases h:i = n + 1
    · subst h; exact e
    · have:=ih (by lia) (by lia) k l e
      rw [stp_succ (List.getElem?_eq_getElem (show n < sheet.length by lia))]
      rw [List.getElem?_append_left (List.getElem?_eq_some_iff.mp this).1]
      exact this
noncomputable abbrev stN:List Str:=["_law_answers","_law_asked","_law_sheet_here","_law_notes_here","_law_record","_law_kinds","_law_fresh","_law_due","_law_number","_law_told","_law_row","_law_kind_here","_law_given","_law_one"]
section
variable {P:Program} {w:World} {K:PySem.W.Frag} {mg:Str→Option Value} {base:Heap} {C:Addr}
noncomputable abbrev st__law_step:Stmt:=top 19
theorem sc__law_step:FnScope ["_law_answers","_law_asked","_law_sheet_here","_law_notes_here","_law_record","_law_kinds","_law_fresh","_law_due","_law_number","_law_told","_law_row","_law_kind_here","_law_given","_law_one"] ["_law_answers","_law_asked","_law_sheet_here","_law_notes_here","_law_record"] (defScope st__law_step):=⟨rfl,rfl,rfl,by decide +kernel,rfl,by decide +kernel,by decide +kernel⟩
theorem row_st (T : Txt K w mg) (D__law_found : Def P w K mg base 3 "_law_found" ["_law_sheet_here", "_law_notes_here", "_law_number", "_law_row", "_law_kinds"] (spFnd K)) (D__law_kind : Def P w K mg base 1 "_law_kind" ["_law_rule", "_law_given", "_law_found_here"] (spKind K))
    {f:Addr} {cdv:Value} {A:Around} {outer:List Env} {s:Shared} {H:Hp} {E:XK} (hr:Room 5 (A.deeper (envOfC "_law_step" (defScope st__law_step) s.heap.objs.size f cdv)))
    {sheet:List (Int × List Rw)} {notes:List (Int × Int)} (ok:RkOk kfn notes sheet) :
    ∃ u,JSs (cxOf CX0 P w K mg base stN "_law_step" (defScope st__law_step) f cdv A outer s H E).nox (stBody ((stBody ((defBody st__law_step).getD 5 (.Pass ⟨0,0,0,0⟩))).getD 2 (.Pass ⟨0,0,0,0⟩))) u ∧
      ∀ (D:Ends) (B H5:Hp) (a al sr nr rd kr fd du td tr bp:Addr) (pv:Int→Option E3) (rkv:List (Key × V)) (i:Nat) (q:Rw) (pc:Int × List Rw) (ds pvv kx:List V) (ks:List (List (List Nat))) (es ns:List (Int × E3)) (v12 v13:Option V),
        DatV K B (.ref sr) (.list (sheet.map pieDat))→DatV K B (.ref nr) (.list (notes.map noteDat))→B kr = some (.lst kx)→KsV B kx ks→B rd = some (.dK rkv)→(∀ m,pv m = none→valV rkv (Sum.inl m) = none)→(∀ m e,pv m = some e→∃ v,valV rkv (Sum.inl m) = some v∧DatV K B v (askDat3 e))→(∀ m e,pv m = some e→EOk e) →
        Same B H5→B du = none→B fd = none→B td = none→fd ≠ td→H5 du = some (.lst ds)→DatVs K (rem [du] H5) ds ((askL pv (es ++ ns)).map askDat3)→TdI H5 td ns→FrI B H5 du fd (es ++ ns)→i < sheet.length→pc ∈ sheet→q ∈ pc.2→SqT K B tr [.int q.m,.int (q.r:Nat),.ref bp]→SqL K B bp pvv→DatVs K B pvv (q.ps.map partDat) →
        (∀ (k:Nat) (p:Int × List Rw),sheet[k]? = some p→k < i→∃ l,ks[k]? = some l∧l.length = p.2.length)→(∀ x ∈ q.ps,x.2 = none→∃ p ∈ ns,p.1 = x.1)→(∀ p ∈ es ++ ns,EOk p.2)→(∀ l ∈ ks,∀ t ∈ l,TxOk t)→(es ++ ns).length ≤ 20000 →
        (∀ (H6:Hp) (ds':List V) (v12 v13:Option V),Same B H6→H6 du = some (.lst ds')→DatVs K (rem [du] H6) ds' ((askL pv (es ++ (ns ++ [rowE kfn notes sheet i ks (es ++ ns) q]))).map askDat3)→TdI H6 td (ns ++ [rowE kfn notes sheet i ks (es ++ ns) q])→FrI B H6 du fd (es ++ (ns ++ [rowE kfn notes sheet i ks (es ++ ns) q])) →
          D.nx [some (.ref a),some (.ref al),some (.ref sr),some (.ref nr),some (.ref rd),some (.ref kr),some (.ref fd),some (.ref du),some (.int (i:Nat)),some (.ref td),some (.ref tr),some (.str (S (kfn (rowE kfn notes sheet i ks (es ++ ns) q).2))),v12,v13] H6) →
        u D [some (.ref a),some (.ref al),some (.ref sr),some (.ref nr),some (.ref rd),some (.ref kr),some (.ref fd),some (.ref du),some (.int (i:Nat)),some (.ref td),some (.ref tr),some (.str (S (kfn (rowE kfn notes sheet i ks (es ++ ns) q).2))),v12,v13] H5:=by
  have sc:=sc__law_step
  have hu:=hr.units
  have hb:=big
  refine ⟨_,(jss_cons (js_comp (i:=12) (N:=["_law_mark","_law_text","_law_told"]) (cap:=[none,none,some 9]) rfl (CompScope.of rfl (by rfl)) (ji_any (K:=K) (j_ix (o_ixA hu (K:=K) (w:=w)) (jn 10) j_int)) (fun _ _ _ _=>(jg_tup (K:=K) (n:=2) rfl (jgs_cons (jg_name (i:=0) (show List.Nodup [("_law_mark":Str),("_law_text":Str),("_law_told":Str)] by decide +kernel) rfl (Or.inl rfl)) (jgs_cons (jg_name (i:=1) (show List.Nodup [("_law_mark":Str),("_law_text":Str),("_law_told":Str)] by decide +kernel) rfl (Or.inl rfl)) jgs_nil)))) (fun _ _ _ _=>jts_nil) (fun _ _ _ _=>(j_ife (jt_cmp o_isnot (jn 1) j_non) (jn 1) (j_ix (o_ixA hu (K:=K) (w:=w)) (jn 2) (jn 0)))) sc.nd rfl rfl)
    (jss_cons (js_set (i:=13) sc.nd rfl (Or.inl rfl) (j_tup (ja_cons (j_ix (o_ixA hu (K:=K) (w:=w)) (jn 10) j_int) (ja_cons (jn 12) (ja_cons (j_def D__law_found (hr.mono (by decide)) rfl (ja_cons (jn 2) (ja_cons (jn 3) (ja_cons (jn 8) (ja_cons (jn 10) (ja_cons (jn 5) ja_nil)))))) ja_nil)))))
    (jss_cons (js_if (jw_t (jw_or (jt_not (jt_val (j_callB (c_isiD (K:=K)) rfl T.n_isinstance boot_isinstance (ja_cons (jn 11) (ja_cons (j_bltn (v:=.ty "str") rfl T.n_str boot_str rfl) ja_nil))))) (jw_or1 (jt_cmp (o_neA hu (K:=K)) (jn 11) (j_def D__law_kind (hr.mono (by decide)) rfl (ja_cons (j_ix (o_ixA hu (K:=K) (w:=w)) (jn 13) j_int) (ja_cons (j_ix (o_ixA hu (K:=K) (w:=w)) (jn 13) j_int) (ja_cons (j_ix (o_ixA hu (K:=K) (w:=w)) (jn 13) j_int) ja_nil))))))))
    (jss_one (js_ret j_non))
    jss_nil)
    (jss_cons (js_if (jt_cmp (o_neA hu (K:=K)) (j_dget1 hu (jn 4) (j_ix (o_ixA hu (K:=K) (w:=w)) (jn 10) j_int)) (jn 13))
    (jss_one (js_expr (j_bm (K:=K) PySem.F.plainAttrs_list PySem.F.slot_list_append PySem.F.type_list_append m_append (jn 7) (ja_cons (jn 13) ja_nil))))
    jss_nil)
    (jss_cons (js_dput hu (jn 6) (j_ix (o_ixA hu (K:=K) (w:=w)) (jn 10) j_int) (jn 13))
    (jss_one (js_dput hu (jn 9) (j_ix (o_ixA hu (K:=K) (w:=w)) (jn 10) j_int) (jn 11)))))))),?_⟩
  intro D B H5 a al sr nr rd kr fd du td tr bp pv rkv i q pc ds pvv kx ks es ns v12 v13 hS hN hkr hks hrd hr1 hr2 hpv s5 du0 fd0 td0 nft hdu hD hTd hFr hi hpc hq hT hP hPd hka hnod hes hkt hel hend
  have hdl:ds.length ≤ (es ++ ns).length:=by
    have h1:=hD.length
    rw [List.length_map] at h1
    rw [h1]
    exact List.length_filterMap_le _ _
  have hpl:pvv.length = q.ps.length:=by have:=hPd.length; rw [List.length_map] at this; exact this
  have hp3:=ok.len pc hpc q hq
  have rok:=ok.sh.ok pc hpc q hq
  have heo:=rowE_ok (n:=i) ok hpc hq hes hkt
  obtain ⟨kvs,hk1,hk2,hk3⟩:=hTd
  refine .inr (.inl ⟨_,_,s5.seqT hT,rfl,?_⟩)
  refine .inl ⟨⟨_,s5.seq hP⟩,?_⟩
  refine gath_list (xs:=pvv) (fun k ys σ' H'=>H' = H5∧ys = txs ((q.ps.take k).map (givenP kfn (es ++ ns)))∧∃ v0 v1:Option V,σ' = [v0,v1,some (.ref td)]) (by lia) ⟨rfl,rfl,none,none,rfl⟩
    (fun k ys σ' H' h=>by rw [h.2.1]; unfold txs; rw [List.length_map,List.length_map,List.length_take]; lia) (fun k ys σ' H' h=>by rw [h.1]; exact s5.seq hP) ?_ ?_
  · rintro k x ys σ' H' hx ⟨rfl,rfl,v0,v1,rfl⟩
    obtain ⟨pt,ept,hpt⟩:=datvs_has hPd hx
    obtain ⟨t,rfl,hTt⟩:=dat_part hpt
    have etk:q.ps.take (k + 1) = q.ps.take k ++ [pt]:=by rw [List.take_add_one,ept]; rfl
    refine ⟨t,_,rfl,s5.seqT hTt,rfl,_,_,rfl,_,_,rfl,rfl,?_⟩
    have fin:∀ tx,givenP kfn (es ++ ns) pt = tx→H' = H'∧txs ((q.ps.take k).map (givenP kfn (es ++ ns))) ++ [V.str (S tx)] = txs ((q.ps.take (k + 1)).map (givenP kfn (es ++ ns)))∧∃ v0 v1:Option V,[some (V.int pt.1),some (txtV pt.2),some (.ref td)] = [v0,v1,some (.ref td)]:=fun tx e =>
      ⟨rfl,by rw [etk,List.map_append,← e]; unfold txs; rw [List.map_append]; rfl,_,_,rfl⟩
    cases e2:pt.2 with
    | none =>
      rw [e2] at fin
      obtain ⟨p0,hp0,ep0⟩:=hnod pt (List.mem_of_getElem? ept) e2
      obtain ⟨e3,hl3,_⟩:=lk_has (es:=ns) (m:=pt.1) ⟨p0,hp0,ep0⟩
      have hl4:lk (es ++ ns) pt.1 = some e3:=by rw [lk_app ⟨p0,hp0,ep0⟩]; exact hl3
      refine .inr (.inr ⟨_,DGet.ik hk1 (by rw [hk3,hl3]; rfl),?_⟩)
      exact fin _ (by unfold givenP; rw [e2,hl4])
    | some tx =>
      rw [e2] at fin
      exact fin _ (by unfold givenP; rw [e2])
  · rintro ys σ' H' ⟨rfl,rfl,v0,v1,rfl⟩ gv hgv
    rw [hpl,List.take_length]
    have eg:(q.ps.map (givenP kfn (es ++ ns))) = givenF kfn (es ++ ns) q:=rfl
    rw [eg]
    have gv0:B gv = none:=by
      cases z:B gv with
      | none=>rfl
      | some u=>rw [s5 _ _ z] at hgv; cases hgv
    have ngd:gv ≠ du:=fun z=>by rw [z,hdu] at hgv; cases hgv
    have sgg:Same H' (upd H' gv (.lst (txs (givenF kfn (es ++ ns) q)))):=same_new hgv
    have hg:upd H' gv (.lst (txs (givenF kfn (es ++ ns) q))) gv = some (.lst (txs (givenF kfn (es ++ ns) q))):=upd_same
    generalize upd H' gv (.lst (txs (givenF kfn (es ++ ns) q))) = H6 at hg sgg ⊢
    have s6:=s5.trans sgg
    refine .inr (.inl ⟨_,_,s6.seqT hT,rfl,?_⟩)
    refine ⟨sr,nr,tr,bp,kr,i,q,sheet,notes,pvv,kx,ks,rfl,hS.same s6,hN.same s6,s6.seqT hT,s6.seq hP,hPd.same s6,SqL.of (s6 _ _ hkr),hks.same s6,ok.sh,ok.hk,hi,rok.r,ok.ask pc hpc q hq,hka,fun H7 s7=>?_⟩
    have hee:(rowE kfn notes sheet i ks (es ++ ns) q).2 = (q.r,givenF kfn (es ++ ns) q,foundF notes sheet i ks q):=rfl
    have hem:rowE kfn notes sheet i ks (es ++ ns) q = (q.m,(q.r,givenF kfn (es ++ ns) q,foundF notes sheet i ks q)):=rfl
    rw [hee] at heo hend ⊢
    rw [hem] at hend
    generalize foundF notes sheet i ks q = fo at heo hend ⊢
    have hg7:=s7 _ _ hg
    generalize givenF kfn (es ++ ns) q = gl at heo hend hg7 ⊢
    refine ⟨(show 3 ≤ sizeLine by decide),fun t ht=>?_⟩
    have s8:Same H7 (upd H7 t (.tup [.int (q.r:Nat),.ref gv,txtV fo])):=same_new ht
    have h8:upd H7 t (.tup [.int (q.r:Nat),.ref gv,txtV fo]) t = some (.tup [.int (q.r:Nat),.ref gv,txtV fo]):=upd_same
    generalize upd H7 t (.tup [.int (q.r:Nat),.ref gv,txtV fo]) = H8 at s8 h8 ⊢
    have s58:=(sgg.trans s7).trans s8
    have sB8:=s5.trans s58
    have hg8:=s8 _ _ hg7
    have hdu8:=s58 _ _ hdu
    have ntd:t ≠ du:=fun z=>by rw [z,hdu8] at h8; cases h8
    have hk8:=s58 _ _ hk1
    have hD8:=hD.same (rem_le (cs:=[du]) s58)
    have hFr8:FrI B H8 du fd (es ++ ns):=by
      obtain ⟨fk,f1,_⟩:=hFr.ex
      exact hFr.mono (by rw [f1]; exact s58 _ _ f1) (fun t vs e=>s58 _ _ e) (fun g xs _ e=>s58 _ _ e)
    have dat8:DatV K H8 (.ref t) (askDat3 (q.r,gl,fo)):=.tuple (SqT.of h8) (.cons (.int _) (.cons (.list (SqL.of hg8) (txs_dat _)) (.cons (txt_dat _) .nil)))
    have dat8r:DatV K (rem [du] H8) (.ref t) (askDat3 (q.r,gl,fo)):=.tuple (SqT.of (by rw [rem_out (fun m=>ntd (List.mem_singleton.mp m))]; exact h8)) (.cons (.int _) (.cons (.list (SqL.of (by rw [rem_out (fun m=>ngd (List.mem_singleton.mp m))]; exact hg8)) (txs_dat _)) (.cons (txt_dat _) .nil)))
    refine ⟨"str",true,.str _,rfl,?_⟩
    refine .inr (.inl ⟨_,_,SqT.of h8,rfl,?_⟩)
    refine .inr (.inl ⟨_,_,SqT.of h8,rfl,?_⟩)
    refine .inr (.inl ⟨_,_,SqT.of h8,rfl,?_⟩)
    refine ⟨gv,(q.r,gl,fo),rfl,SqL.of hg8,heo,?_⟩
    show if (true ^^ decide (S (kfn (q.r,gl,fo)) = S (kfn (q.r,gl,fo)))) = true then _ else _
    rw [decide_eq_true rfl]
    have tail : ∀ (H9 : Hp) (ds' : List V), Same B H9 → (∀ b xs, H8 b = some (.tup xs) → H9 b = some (.tup xs)) → (∀ b xs, b ≠ du → H8 b = some (.lst xs) → H9 b = some (.lst xs)) → H9 fd = H8 fd → H9 td = H8 td → H9 du = some (.lst ds') → DatVs K (rem [du] H9) ds' ((askL pv (es ++ ns) ++ if pv q.m = some (q.r, gl, fo) then [] else [(q.r, gl, fo)]).map askDat3) →
        tSeq (mDPut (mVar 6) (tOp (gIxA K w) (mVar 10) (tC (.int 0))) (mVar 13)) (mDPut (mVar 9) (tOp (gIxA K w) (mVar 10) (tC (.int 0))) (mVar 11)) D
          [some (.ref a),some (.ref al),some (.ref sr),some (.ref nr),some (.ref rd),some (.ref kr),some (.ref fd),some (.ref du),some (.int (i:Nat)),some (.ref td),some (.ref tr),some (.str (S (kfn (q.r,gl,fo)))),some (.ref gv),some (.ref t)] H9:=by
      intro H9 ds' sB9 kt kl efd etd hdu9 hD9
      obtain ⟨fk,f1,f2,f3,f4⟩:=hFr8.ex
      have f9:H9 fd = some (.dK fk):=efd.trans f1
      have k9:H9 td = some (.dK kvs):=etd.trans hk8
      have t9:=kt _ _ h8
      have g9:=kl _ _ ngd hg8
      refine .inr (.inl ⟨_,_,sB9.seqT hT,rfl,?_⟩)
      refine ⟨_,.inl ⟨fk,Sum.inl q.m,f9,rfl,by lia,rfl⟩,?_⟩
      have nF:∀ {b:Addr} {xs:List V},H9 b = some (.tup xs)→b ≠ fd:=fun e z=>by rw [z,f9] at e; cases e
      have nF2:∀ {b:Addr} {xs:List V},H9 b = some (.lst xs)→b ≠ fd:=fun e z=>by rw [z,f9] at e; cases e
      have kt10:∀ b xs,H9 b = some (.tup xs)→upd H9 fd (.dK (putK fk (Sum.inl q.m) (.ref t))) b = some (.tup xs):=fun b xs e=>by rw [upd_ne (nF e)]; exact e
      have kl10:∀ b xs,H9 b = some (.lst xs)→upd H9 fd (.dK (putK fk (Sum.inl q.m) (.ref t))) b = some (.lst xs):=fun b xs e=>by rw [upd_ne (nF2 e)]; exact e
      have sB10:Same B (upd H9 fd (.dK (putK fk (Sum.inl q.m) (.ref t)))):=fun b u e=>by rw [upd_ne fun z=>by rw [z,fd0] at e; cases e]; exact sB9 b u e
      have k10:upd H9 fd (.dK (putK fk (Sum.inl q.m) (.ref t))) td = some (.dK kvs):=by rw [upd_ne nft.symm]; exact k9
      have F10:FrI B (upd H9 fd (.dK (putK fk (Sum.inl q.m) (.ref t)))) du fd (es ++ (ns ++ [(q.m,(q.r,gl,fo))])):=by
        rw [← List.append_assoc]
        refine ⟨_,upd_same,?_,fun m hm=>?_,fun m e hm=>?_⟩
        · have:=length_putK fk (Sum.inl q.m) (V.ref t)
          rw [List.length_append,List.length_singleton]
          lia
        · rw [lk_snoc] at hm
          rw [valV_put]
          by_cases z:q.m = m
          · rw [if_pos z] at hm; cases hm
          · rw [if_neg z] at hm
            rw [if_neg (fun y=>z (Sum.inl.inj y).symm)]
            exact f3 m hm
        · rw [lk_snoc] at hm
          rw [valV_put]
          by_cases z:q.m = m
          · rw [if_pos z] at hm
            cases hm
            exact ⟨_,by rw [if_pos (by rw [z])],t,gv,rfl,kt10 _ _ t9,kl10 _ _ g9,gv0,ngd⟩
          · rw [if_neg z] at hm
            obtain ⟨v,b0,t',g',b1,b2,b3,b4,b5⟩:=f4 m e hm
            exact ⟨v,by rw [if_neg (fun y=>z (Sum.inl.inj y).symm)]; exact b0,t',g',b1,kt10 _ _ (kt _ _ b2),kl10 _ _ (kl _ _ b5 b3),b4,b5⟩
      have d10:=kl10 _ _ hdu9
      have hD10:DatVs K (rem [du] (upd H9 fd (.dK (putK fk (Sum.inl q.m) (.ref t))))) ds' ((askL pv (es ++ (ns ++ [(q.m,(q.r,gl,fo))]))).map askDat3):=by
        rw [← List.append_assoc,askL_snoc]
        refine hD9.sameD ⟨fun b xs e=>?_,fun b xs e=>?_,fun b o u e=>?_,fun b o u e=>?_⟩ <;>
          (have nb:b ∉ [du]:=fun m=>by rw [rem_in m] at e; cases e
           rw [rem_out nb] at e ⊢
           rw [upd_ne fun z=>by rw [z,f9] at e; cases e]
           exact e)
      generalize upd H9 fd (.dK (putK fk (Sum.inl q.m) (.ref t))) = H10 at sB10 k10 F10 d10 hD10 ⊢
      refine .inr (.inl ⟨_,_,sB10.seqT hT,rfl,?_⟩)
      refine ⟨_,.inl ⟨kvs,Sum.inl q.m,k10,rfl,by rw [List.length_append] at hel; lia,rfl⟩,?_⟩
      have ntF:td ≠ fd:=nft.symm
      obtain ⟨fk2,g1,_⟩:=F10.ex
      refine hend _ ds' _ _ (fun b u e=>?_) ?_ ?_ ⟨_,upd_same,?_,fun m=>?_⟩ (F10.mono (upd_ne nft) (fun b xs e=>by rw [upd_ne fun z=>by rw [z,k10] at e; cases e]; exact e) (fun b xs _ e=>by rw [upd_ne fun z=>by rw [z,k10] at e; cases e]; exact e))
      · rw [upd_ne fun z=>by rw [z,td0] at e; cases e]; exact sB10 b u e
      · rw [upd_ne fun z=>by rw [z,k10] at d10; cases d10]; exact d10
      · refine hD10.sameD ⟨fun b xs e => ?_, fun b xs e => ?_, fun b o u e => ?_, fun b o u e => ?_⟩ <;>
          (have nb:b ∉ [du]:=fun m=>by rw [rem_in m] at e; cases e
           rw [rem_out nb] at e ⊢
           rw [upd_ne fun z=>by rw [z,k10] at e; cases e]
           exact e)
      · have:=length_putK kvs (Sum.inl q.m) (V.str (S (kfn (q.r,gl,fo))))
        rw [List.length_append,List.length_singleton]
        lia
      · rw [valV_put,lk_snoc]
        by_cases z:q.m = m
        · rw [if_pos z,if_pos (by rw [z])]; rfl
        · rw [if_neg z,if_neg (fun y=>z (Sum.inl.inj y).symm)]; exact hk3 m
    have nofd:∀ {xs:List V},H8 fd ≠ some (.lst xs):=fun e=>by obtain ⟨fk,f1,_⟩:=hFr8.ex; rw [f1] at e; cases e
    have notd:∀ {xs:List V},H8 td ≠ some (.lst xs):=fun e=>by rw [hk8] at e; cases e
    have yes:pv q.m ≠ some (q.r,gl,fo)→Same B (upd H8 du (.lst (ds ++ [.ref t])))∧DatVs K (rem [du] (upd H8 du (.lst (ds ++ [.ref t])))) (ds ++ [.ref t]) ((askL pv (es ++ ns) ++ if pv q.m = some (q.r,gl,fo) then [] else [(q.r,gl,fo)]).map askDat3):=fun hne=>by
      refine ⟨fun b u e=>by rw [upd_ne fun z=>by rw [z,du0] at e; cases e]; exact sB8 b u e,?_⟩
      rw [if_neg hne,rem_upd_in List.mem_cons_self,List.map_append]
      exact DatVs.snoc dat8r hD8
    refine ⟨IsD.kd (sB8 _ _ hrd),?_⟩
    refine .inr (.inl ⟨_,_,sB8.seqT hT,rfl,?_⟩)
    refine ⟨_,DGet.ik (sB8 _ _ hrd) rfl,?_⟩
    have fin2:pv q.m ≠ some (q.r,gl,fo)→_:=fun hne=>tail (upd H8 du (.lst (ds ++ [.ref t]))) (ds ++ [.ref t]) (yes hne).1 (fun b xs e=>by rw [upd_ne fun z=>by rw [z,hdu8] at e; cases e]; exact e) (fun b xs n e=>by rw [upd_ne n]; exact e) (upd_ne fun z=>nofd (by rw [z]; exact hdu8)) (upd_ne fun z=>notd (by rw [z]; exact hdu8)) upd_same (yes hne).2
    cases hp:pv q.m with
    | none =>
      rw [hr1 _ hp]
      refine ⟨askDat3 (q.r,gl,fo),dat8,one_lay heo,?_⟩
      refine ⟨.inl ⟨rfl,_,SqL.of hdu8⟩,ds,hdu8,by lia,?_⟩
      exact fin2 (by rw [hp]; exact fun z=>nomatch z)
    | some e' =>
      obtain ⟨v,ev,hv⟩:=hr2 _ _ hp
      rw [ev]
      have hv8:=hv.same sB8
      obtain ⟨tv,rfl⟩:∃ tv,v = .ref tv:=by cases hv with | tuple h1 h2=>exact ⟨_,rfl⟩
      have hd1:=ask3_depth e'
      refine ⟨_,_,hv8,dat8,one_lay (hpv _ _ hp),one_lay heo,by lia,?_⟩
      show if (true ^^ PyData.eqv (askDat3 e') (askDat3 (q.r,gl,fo))) = true then _ else _
      rw [one_eqv]
      by_cases hee2:e' = (q.r,gl,fo)
      · rw [decide_eq_true hee2]
        refine tail H8 ds sB8 (fun b xs e=>e) (fun b xs _ e=>e) rfl rfl hdu8 ?_
        rw [if_pos (by rw [hp,hee2]),List.append_nil]
        exact hD8
      · rw [decide_eq_false hee2]
        refine ⟨.inl ⟨rfl,_,SqL.of hdu8⟩,ds,hdu8,by lia,?_⟩
        exact fin2 (by rw [hp]; exact fun z=>hee2 (Option.some.inj z))
end
end K75
namespace K75
open PySem PySem.Spec PyProof.Rows L2 Rg
section
variable {P:Program} {w:World} {K:PySem.W.Frag} {mg:Str→Option Value} {base:Heap} {C:Addr}
theorem AskI.clear {H:Hp} {f al:Addr} {as:List E3} (h:AskI K H f [] al as):AskI K (upd H al (.lst [])) f [] al []:=by
  obtain ⟨cs,Cc⟩:=h.clo
  obtain ⟨ys,y1,_⟩:=h.lst
  refine ⟨⟨cs,Cc.same fun b o k=>?_⟩,⟨[],upd_same,.nil⟩,(fun c m=>by cases m)⟩
  have k':H b = some (.frz o anyHO):=k
  show upd H al (.lst []) b = _
  rw [upd_ne fun z=>by rw [z,y1] at k'; cases k']; exact k
inductive spStep (K:PySem.W.Frag) (C:Addr) (vs : List V) (H : Hp) (Q : VK) (_e : XK) : Prop | mk (a dx n2 f jd al sr nr rd:Addr) (sheet:List (Int × List Rw)) (notes:List (Int × Int)) (pv:Int→Option E3) (n:Nat) (as0:List E3) : (vs = [.ref a,.ref al,.ref sr,.ref nr,.ref rd]) → (H a = some (.ins C dx (flds n2 f jd))) → JdI kfn H jd pv n → RkOk kfn notes sheet → (DatV K (rem [al] H) (.ref sr) (.list (sheet.map pieDat))) → (DatV K (rem [al] H) (.ref nr) (.list (notes.map noteDat))) → (DatV K (rem [al] H) (.ref n2) (.list (notes.map noteDat))) → (AskI K H f [] al as0) → RecI K H al rd pv → ((∀ m e,pv m = some e→EOk e)) → (∀ H' rd' jd' n' as',(∀ b u,b ≠ al→b ≠ a→H b = some u→H' b = some u)→H' a = some (.ins C dx (flds n2 f jd'))→JdI kfn H' jd' (lk (stp kfn notes sheet sheet.length).2) n'→AskI K H' f [] al as'→RecI K H' al rd' (lk (stp kfn notes sheet sheet.length).2)→Q (.ref rd') H') → spStep K C vs H Q _e
theorem def_st (TC : ClsT K mg C) (T : Txt K w mg) (R : Raw K mg "_law_step" st__law_step ["_law_answers", "_law_asked", "_law_sheet_here", "_law_notes_here", "_law_record"]) (D__law_copied : Def P w K mg base 1 "_law_copied" ["_law_sheet_here"] (spCpy K)) (DM_Answers_reckon : DefM P w K mg base 4 C "reckon" ["self", "sheet"] (spRk kfn K C))
    (D__law_found:Def P w K mg base 3 "_law_found" ["_law_sheet_here","_law_notes_here","_law_number","_law_row","_law_kinds"] (spFnd K)) (D__law_kind:Def P w K mg base 1 "_law_kind" ["_law_rule","_law_given","_law_found_here"] (spKind K)) :
    Def P w K mg base 6 "_law_step" ["_law_answers","_law_asked","_law_sheet_here","_law_notes_here","_law_record"] (spStep K C):=by
  refine R.defJ sc__law_step (fun vs H Q E h=>?_) (fun f cdv A outer s H vs Q E hr h=>?_)
  · obtain ⟨a,dx,n2,f,jd,al,sr,nr,rd,sheet,notes,pv,n,as0,rfl,_⟩:=h
    rfl
  · obtain ⟨a,dx,n2,jf,jd,al,sr,nr,rd,sheet,notes,pv,n,as0,rfl,ha,hJ,ok,hS,hN,hN2,hA,hRec,hpv,q⟩:=h
    have sc:=sc__law_step
    have hu:=hr.units
    have hb:=big
    have hsl:=ok.sh.len
    obtain ⟨u2,hP2,hq2⟩:=row_st (outer:=outer) (H:=H) (E:=E) T D__law_found D__law_kind hr ok
    have naa:a ≠ al:=hA.ne ha fun xs z=>by cases z
    obtain ⟨y0,hal0,_⟩:=hA.len
    have hpos:∀ i,i ≤ sheet.length→(stp kfn notes sheet i).2.length ≤ 100 * i:=by
      intro i
      induction i with
      | zero=>intro _; exact Nat.le_refl _
      | succ i ih =>
        intro hi
        have ep:=List.getElem?_eq_getElem (show i < sheet.length by lia)
        rw [stp_succ ep,List.length_append,rowsE_len (Nat.le_refl _)]
        have:=ih (by lia)
        have:=ok.sh.rows _ (List.getElem_mem (show i < sheet.length by lia))
        lia
    refine ⟨_,(jss_cons (js_expr (j_bm0 (K:=K) PySem.F.plainAttrs_list PySem.F.slot_list_clear PySem.F.type_list_clear m_clear (jn 1)))
    (jss_cons (js_set (i:=5) sc.nd rfl (Or.inl rfl) (j_meth TC.cls DM_Answers_reckon (hr.mono (by decide)) (jn 0) (ja_cons (j_def D__law_copied (hr.mono (by decide)) rfl (ja_cons (jn 2) ja_nil)) ja_nil)))
    (jss_cons (js_if (jw_t (jw_or (jt_not (jt_val (j_callB (c_isiD (K:=K)) rfl T.n_isinstance boot_isinstance (ja_cons (jn 5) (ja_cons (j_bltn (v:=.ty "list") rfl T.n_list boot_list rfl) ja_nil))))) (jw_or1 (jt_cmp (o_neA hu (K:=K)) (j_callB (c_len (K:=K)) rfl T.n_len PySem.boot_len (ja_cons (jn 5) ja_nil)) (j_callB (c_len (K:=K)) rfl T.n_len PySem.boot_len (ja_cons (jn 2) ja_nil))))))
    (jss_one (js_ret j_non))
    jss_nil)
    (jss_cons (js_set (i:=6) sc.nd rfl (Or.inl rfl) j_dnewK)
    (jss_cons (js_set (i:=7) sc.nd rfl (Or.inl rfl) (j_lst ja_nil))
    (jss_cons (js_for PassesOwn.never rfl (ji_rng1 rfl T.n_range (ja_cons (j_callB (c_len (K:=K)) rfl T.n_len PySem.boot_len (ja_cons (jn 2) ja_nil)) ja_nil)) (jg_name (i:=8) sc.nd rfl (Or.inl rfl))
    (jss_cons (js_set (i:=9) sc.nd rfl (Or.inr rfl) j_dnewK)
    (jss_cons (js_if (jw_t (jw_or (jt_not (jt_val (j_callB (c_isiD (K:=K)) rfl T.n_isinstance boot_isinstance (ja_cons (j_ix (o_ixA hu (K:=K) (w:=w)) (jn 5) (jn 8)) (ja_cons (j_bltn (v:=.ty "list") rfl T.n_list boot_list rfl) ja_nil))))) (jw_or1 (jt_cmp (o_neA hu (K:=K)) (j_callB (c_len (K:=K)) rfl T.n_len PySem.boot_len (ja_cons (j_ix (o_ixA hu (K:=K) (w:=w)) (jn 5) (jn 8)) ja_nil)) (j_callB (c_len (K:=K)) rfl T.n_len PySem.boot_len (ja_cons (j_ix (o_ixA hu (K:=K) (w:=w)) (j_ix (o_ixA hu (K:=K) (w:=w)) (jn 2) (jn 8)) j_int) ja_nil))))))
    (jss_one (js_ret j_non))
    jss_nil)
    (jss_one (js_for PassesOwn.never rfl (ji_zip (K:=K) rfl T.n_zip (ja_cons (j_ix (o_ixA hu (K:=K) (w:=w)) (j_ix (o_ixA hu (K:=K) (w:=w)) (jn 2) (jn 8)) j_int) (ja_cons (j_ix (o_ixA hu (K:=K) (w:=w)) (jn 5) (jn 8)) ja_nil))) (jg_tup (K:=K) (n:=2) rfl (jgs_cons (jg_name (i:=10) sc.nd rfl (Or.inl rfl)) (jgs_cons (jg_name (i:=11) sc.nd rfl (Or.inl rfl)) jgs_nil)))
    hP2)))))
    (jss_cons (js_if (jt_cmp (o_neA hu (K:=K)) (jn 1) (jn 7))
    (jss_one (js_ret j_non))
    jss_nil)
    (jss_one (js_ret (jn 6)))))))))),?_⟩
    refine ⟨.inl ⟨rfl,_,SqL.of hal0⟩,_,hal0,?_⟩
    have A1:=hA.clear
    have k1:∀ {b:Addr} {u:HO},b ≠ al→H b = some u→upd H al (.lst []) b = some u:=fun n e=>by rw [upd_ne n]; exact e
    have al1:upd H al (.lst []) al = some (.lst []):=upd_same
    have r1:rem [al] (upd H al (.lst [])) = rem [al] H:=rem_upd_in List.mem_cons_self
    have ha1:=k1 naa ha
    have hJ1:JdI kfn (upd H al (.lst [])) jd pv n:=by
      obtain ⟨kvs,j1,_⟩:=hJ.ex
      exact hJ.mono (by rw [j1]; exact k1 (hA.ne j1 fun xs z=>by cases z) j1) fun t vs e=>k1 (hA.ne e fun xs z=>by cases z) e
    rw [← r1] at hS hN hN2
    generalize upd H al (.lst []) = H1 at A1 k1 al1 r1 ha1 hJ1 hS hN hN2 ⊢
    refine ⟨dx,_,ha1,rfl,?_⟩
    refine ⟨sr,sheet,[al],rfl,(fun c m=>by rw [List.mem_singleton.mp m]; exact ⟨_,al1⟩),hS,hsl,ok.sh.rows,fun H2 cp s2 cp0 hC2=>?_⟩
    have hJ2:JdI kfn H2 jd pv n:=by
      obtain ⟨kvs,j1,_⟩:=hJ1.ex
      exact hJ1.mono (by rw [j1]; exact s2 _ _ j1) fun t vs e=>s2 _ _ e
    refine ⟨a,dx,n2,jf,jd,al,cp,sheet,notes,pv,n,[],rfl,s2 _ _ ha1,hJ2,ok,hC2,hN2.same (rem_le s2),A1.grow s2,Nat.zero_le _,hpv,fun B kr jd' n' xs k3 ha3 hJ3 hA3 hkr3 hkv3 kr0=>?_⟩
    have kB:∀ {b:Addr} {u:HO},b ≠ al→b ≠ a→H b = some u→B b = some u:=fun n1 n2 e=>k3 _ _ n1 n2 (s2 _ _ (k1 n1 e))
    have kB1:∀ {b:Addr} {u:HO},b ≠ al→b ≠ a→H1 b = some u→B b = some u:=fun n1 n2 e=>k3 _ _ n1 n2 (s2 _ _ e)
    have dB:SameD (rem [al] H1) (rem [al] B):=.of fun b u _ n2 _ _ e=>by
      have nb:b ∉ [al]:=fun m=>by rw [rem_in m] at e; cases e
      rw [rem_out nb] at e ⊢
      exact kB1 (fun z=>nb (by rw [z]; exact List.mem_singleton.mpr rfl)) (fun z=>by rw [z,ha1] at e; exact n2 _ _ _ (Option.some.inj e).symm) e
    have rB:Same (rem [al] B) B:=fun b u e=>rem_same b u e
    have hSB:=(hS.sameD dB).same rB
    have hNB:=(hN.sameD dB).same rB
    obtain ⟨rkv,hrd0,hr1,hr2⟩:=hRec.ex
    have hrdB:B rd = some (.dK rkv):=kB (hA.ne hrd0 fun xs z=>by cases z) (fun z=>by rw [z,ha] at hrd0; cases hrd0) hrd0
    have hr2B:∀ m e,pv m = some e→∃ v,valV rkv (Sum.inl m) = some v∧DatV K B v (askDat3 e):=fun m e hm=>by
      obtain ⟨v,v1,v2⟩:=hr2 m e hm
      rw [← r1] at v2
      exact ⟨v,v1,(v2.sameD dB).same rB⟩
    have hkG:KsV B xs (stp kfn notes sheet sheet.length).1:=fun i l e=>by
      obtain ⟨b,b1,b2,_⟩:=hkv3.at' i l e
      exact ⟨b,b1,b2⟩
    have hxl:xs.length = sheet.length:=by rw [hkv3.len]; exact stp_len (Nat.le_refl _)
    obtain ⟨_,ys,e0,hSl,hSd⟩:=dat_list hSB
    cases e0
    have hyl:ys.length = sheet.length:=by have:=hSd.length; rw [List.length_map] at this; exact this
    obtain ⟨as,hasB,hasd⟩:=hA3.lst
    rw [List.nil_append] at hasd
    have alB:∀ {b:Addr},B b = none→b ≠ al:=fun e z=>by rw [z,hasB] at e; cases e
    clear hS hN hN2 r1 k1 A1 hJ1 hJ2 hC2 kB1 dB
    dsimp only
    refine ⟨"list",true,.list (SqL.of hkr3),rfl,?_⟩
    refine ⟨_,.inl (SqL.of hkr3),_,.inl hSl,?_⟩
    rw [hxl,hyl]
    show if (true ^^ decide (((sheet.length:Nat):Int) = ((sheet.length:Nat):Int))) = true then _ else _
    rw [decide_eq_true rfl]
    refine fun fd hfd=>?_
    have s4:Same B (upd B fd (.dK [])):=same_new hfd
    have h4:upd B fd (.dK []) fd = some (.dK []):=upd_same
    generalize upd B fd (.dK []) = H4 at s4 h4 ⊢
    refine ⟨(show 0 ≤ sizeLine by decide),fun du hdu=>?_⟩
    have s5:Same H4 (upd H4 du (.lst [])):=same_new hdu
    have h5:upd H4 du (.lst []) du = some (.lst []):=upd_same
    have du0:B du = none:=by
      cases z:B du with
      | none=>rfl
      | some u=>rw [s4 _ _ z] at hdu; cases hdu
    generalize upd H4 du (.lst []) = H5 at s5 h5 ⊢
    have s45:=s4.trans s5
    refine ⟨_,.inl (s45.seq hSl),?_⟩
    rw [hyl]
    refine ⟨by lia,by lia,?_⟩
    refine for_range (n := ((sheet.length : Nat) : Int).toNat) (fun i σ H' => ∃ (ds : List V) (v8 v9 v10 v11 v12 v13 : Option V), Same B H' ∧ H' du = some (.lst ds) ∧ DatVs K (rem [du] H') ds ((askL pv (stp kfn notes sheet i).2).map askDat3) ∧ FrI B H' du fd (stp kfn notes sheet i).2 ∧ (∀ p ∈ (stp kfn notes sheet i).2, EOk p.2) ∧ (∀ l ∈ (stp kfn notes sheet i).1, ∀ t ∈ l, TxOk t) ∧
        σ = [some (.ref a),some (.ref al),some (.ref sr),some (.ref nr),some (.ref rd),some (.ref kr),some (.ref fd),some (.ref du),v8,v9,v10,v11,v12,v13])
      ⟨[],none,none,none,none,none,none,s45,h5,.nil,⟨[],s5 _ _ h4,Nat.le_refl _,(fun _ _=>rfl),(fun m e z=>by cases z)⟩,(fun p hp=>by cases hp),(fun l hl=>by cases hl),rfl⟩ ?_ ?_
    · rintro i σ H' hi ⟨ds,v8,v9,v10,v11,v12,v13,sm,hds,hD,hF,hes,hkt,rfl⟩
      rw [Int.toNat_natCast] at hi
      have epc:=List.getElem?_eq_getElem hi
      have hpm:=List.getElem_mem hi
      generalize sheet[i] = pc at epc hpm
      have hr100:=ok.sh.rows pc hpm
      obtain ⟨y,ey,hy⟩:=datvs_at hSd epc
      obtain ⟨tp,br,rs,rfl,hT,hR,hRd⟩:=dat_pie hy
      have hrl:rs.length = pc.2.length:=by have:=hRd.length; rw [List.length_map] at this; exact this
      have eks:(stp kfn notes sheet (i + 1)).1 = (stp kfn notes sheet i).1 ++ [(rowsE kfn notes sheet i (stp kfn notes sheet i).1 (stp kfn notes sheet i).2 pc.2 pc.2.length).map fun e=>kfn e.2]:=by rw [stp_succ epc]
      have ees:(stp kfn notes sheet (i + 1)).2 = (stp kfn notes sheet i).2 ++ rowsE kfn notes sheet i (stp kfn notes sheet i).1 (stp kfn notes sheet i).2 pc.2 pc.2.length:=by rw [stp_succ epc]
      have hka:∀ (k:Nat) (p:Int × List Rw),sheet[k]? = some p→k < i→∃ l,(stp kfn notes sheet i).1[k]? = some l∧l.length = p.2.length:=fun k p e hk=>stp_at (by lia) hk e
      have hp:=hpos i (by lia)
      have hksi:KsV B xs (stp kfn notes sheet i).1:=fun k l e=>hkG k l (stp_mono (by lia) (Nat.le_refl _) k l e)
      obtain ⟨kb,ekb,hkb⟩:=hkG i _ (stp_mono (i:=i + 1) (by lia) (Nat.le_refl _) i _ (by rw [eks,List.getElem?_append_right (by rw [stp_len (by lia)]; exact Nat.le_refl _),stp_len (by lia),Nat.sub_self]; rfl))
      refine fun td htd=>?_
      have s2':Same H' (upd H' td (.dK [])):=same_new htd
      have h2:upd H' td (.dK []) td = some (.dK []):=upd_same
      have td0:B td = none:=by
        cases z:B td with
        | none=>rfl
        | some u=>rw [sm _ _ z] at htd; cases htd
      have nft:fd ≠ td:=fun z=>by obtain ⟨fk,f1,_⟩:=hF.ex; rw [z,htd] at f1; cases f1
      have hF2:FrI B (upd H' td (.dK [])) du fd (stp kfn notes sheet i).2:=hF.mono (upd_ne nft) (fun t vs e=>s2' _ _ e) (fun g xs _ e=>s2' _ _ e)
      generalize upd H' td (.dK []) = H2' at s2' h2 hF2 ⊢
      have sm2:=sm.trans s2'
      have i0:((0:Int) + ((i:Nat):Int)) = ((i:Nat):Int):=by lia
      have hix:atI ys (0 + ((i:Nat):Int)) = some (.ref tp):=by rw [i0]; exact atI_nat ey
      have hixk:atI xs (0 + ((i:Nat):Int)) = some (.ref kb):=by rw [i0]; exact atI_nat ekb
      refine .inl ⟨_,_,SqL.of (sm2 _ _ hkr3),hixk,?_⟩
      refine ⟨"list",true,.list (SqL.of (sm2 _ _ hkb)),rfl,?_⟩
      refine .inl ⟨_,_,SqL.of (sm2 _ _ hkr3),hixk,?_⟩
      refine ⟨_,.inl (SqL.of (sm2 _ _ hkb)),?_⟩
      refine .inl ⟨_,_,sm2.seq hSl,hix,?_⟩
      refine .inr (.inl ⟨_,_,sm2.seqT hT,rfl,?_⟩)
      refine ⟨_,.inl (sm2.seq hR),?_⟩
      have ell:(txs ((rowsE kfn notes sheet i (stp kfn notes sheet i).1 (stp kfn notes sheet i).2 pc.2 pc.2.length).map fun e=>kfn e.2)).length = rs.length:=by unfold txs; rw [List.length_map,List.length_map,rowsE_len (Nat.le_refl _),hrl]
      rw [ell]
      show if (true ^^ decide (((rs.length:Nat):Int) = ((rs.length:Nat):Int))) = true then _ else _
      rw [decide_eq_true rfl]
      refine .inl ⟨_,_,sm2.seq hSl,hix,?_⟩
      refine .inr (.inl ⟨_,_,sm2.seqT hT,rfl,?_⟩)
      refine .inl ⟨_,_,SqL.of (sm2 _ _ hkr3),hixk,?_⟩
      rw [eks,ees]
      generalize (stp kfn notes sheet i).1 = ks at hkt hka hksi hkb ell ⊢
      generalize (stp kfn notes sheet i).2 = es at hD hes hp hkb ell hF2 ⊢
      refine ⟨false,false,⟨_,sm2.seq hR⟩,⟨_,SqL.of (sm2 _ _ hkb)⟩,for_zip (K:=K) (t1:=false) (t2:=false) (a:=br) (b:=kb) (xs:=rs) (ys:=txs ((rowsE kfn notes sheet i ks es pc.2 pc.2.length).map fun e=>kfn e.2))
        (fun j σ H'=>∃ (ds:List V) (v10 v11 v12 v13:Option V),Same B H'∧H' du = some (.lst ds)∧DatVs K (rem [du] H') ds ((askL pv (es ++ rowsE kfn notes sheet i ks es pc.2 j)).map askDat3)∧TdI H' td (rowsE kfn notes sheet i ks es pc.2 j)∧FrI B H' du fd (es ++ rowsE kfn notes sheet i ks es pc.2 j)∧(∀ p ∈ es ++ rowsE kfn notes sheet i ks es pc.2 j,EOk p.2) ∧
          σ = [some (.ref a),some (.ref al),some (.ref sr),some (.ref nr),some (.ref rd),some (.ref kr),some (.ref fd),some (.ref du),some (.int (i:Nat)),some (.ref td),v10,v11,v12,v13])
        ⟨ds,v10,v11,v12,v13,sm2,s2' _ _ hds,by show DatVs K (rem [du] H2') ds ((askL pv (es ++ ([]:List (Int × E3)))).map askDat3); rw [List.append_nil]; exact hD.same (rem_le s2'),⟨[],h2,Nat.le_refl _,fun m=>rfl⟩,by show FrI B H2' du fd (es ++ ([]:List (Int × E3))); rw [List.append_nil]; exact hF2,(fun p hp=>by have hp':p ∈ es ++ []:=hp; rw [List.append_nil] at hp'; exact hes p hp'),by rw [i0]; rfl⟩ ell.symm
        (fun j σ H' _ h=>by obtain ⟨_,_,_,_,_,r,_⟩:=h; exact ⟨r.seq hR,SqL.of (r _ _ hkb)⟩) ?_ ?_⟩
      · rintro j x y σ H7 hx7 hy7 ⟨ds,v10,v11,v12,v13,s7,du7,D7,T7,F7,hes7,rfl⟩ Tz hTz
        obtain ⟨rq,erq,hrq⟩:=datvs_has hRd hx7
        have hjl:=(List.getElem?_eq_some_iff.mp erq).1
        have hrm:rq ∈ pc.2:=List.mem_of_getElem? erq
        obtain ⟨tr,bp,pvv,rfl,hRT,hPL,hPD⟩:=dat_row hrq
        have hlen:(rowsE kfn notes sheet i ks es pc.2 j).length = j:=rowsE_len (by lia)
        have ey7:y = .str (S (kfn (rowE kfn notes sheet i ks (es ++ rowsE kfn notes sheet i ks es pc.2 j) rq).2)):=by
          unfold txs at hy7
          rw [List.getElem?_map,List.getElem?_map,rowsE_at erq (Nat.le_refl _) hjl] at hy7
          exact (Option.some.inj hy7).symm
        subst ey7
        have s8:Same H7 (upd H7 Tz (.tup [.ref tr,.str (S (kfn (rowE kfn notes sheet i ks (es ++ rowsE kfn notes sheet i ks es pc.2 j) rq).2))])):=same_new hTz
        have h8:upd H7 Tz (.tup [.ref tr,.str (S (kfn (rowE kfn notes sheet i ks (es ++ rowsE kfn notes sheet i ks es pc.2 j) rq).2))]) Tz = some (.tup [.ref tr,.str (S (kfn (rowE kfn notes sheet i ks (es ++ rowsE kfn notes sheet i ks es pc.2 j) rq).2))]):=upd_same
        generalize upd H7 Tz (.tup [.ref tr,.str (S (kfn (rowE kfn notes sheet i ks (es ++ rowsE kfn notes sheet i ks es pc.2 j) rq).2))]) = H8 at s8 h8 ⊢
        refine ⟨Tz,_,rfl,SqT.of h8,rfl,_,_,rfl,_,_,rfl,rfl,?_⟩
        have T8:TdI H8 td (rowsE kfn notes sheet i ks es pc.2 j):=by
          have T7':=T7
          obtain ⟨kv,k1,_⟩:=T7'
          exact T7.same (by rw [k1]; exact s8 _ _ k1)
        have F8:FrI B H8 du fd (es ++ rowsE kfn notes sheet i ks es pc.2 j):=by
          obtain ⟨fk,f1,_⟩:=F7.ex
          exact F7.mono (by rw [f1]; exact s8 _ _ f1) (fun t vs e=>s8 _ _ e) (fun g xs _ e=>s8 _ _ e)
        refine hq2 _ B H8 a al sr nr rd kr fd du td tr bp pv rkv i rq pc ds pvv xs ks es (rowsE kfn notes sheet i ks es pc.2 j) v12 v13 hSB hNB hkr3 hksi hrdB hr1 hr2B hpv (s7.trans s8) du0 hfd td0 nft (s8 _ _ du7) (D7.same (rem_le s8)) T8 F8 hi hpm hrm hRT hPL hPD hka ?_ hes7 hkt (by rw [List.length_append,hlen]; lia) fun H9 ds9 w12 w13 s9 d9 D9 T9 F9=>?_
        · intro z hz ez
          obtain ⟨i',q',h1,h2,h3⟩:=ok.nod pc hpm j rq erq z hz ez
          obtain ⟨p,hp1,hp2⟩:=rowsE_mark (kf:=kfn) (notes:=notes) (sheet:=sheet) (n:=i) (ks:=ks) (es:=es) h2 h1
          exact ⟨p,hp1,hp2.trans h3⟩
        · refine ⟨ds9,_,_,_,_,s9,d9,?_,?_,?_,?_,rfl⟩
          · rw [rowsE_succ erq]; exact D9
          · rw [rowsE_succ erq]; exact T9
          · rw [rowsE_succ erq]; exact F9
          · rw [rowsE_succ erq,← List.append_assoc]
            intro p hp
            rcases List.mem_append.mp hp with z | z
            · exact hes7 p z
            · rw [List.mem_singleton.mp z]; exact rowE_ok ok hpm hrm hes7 hkt
      · rintro σ H7 ⟨ds,v10,v11,v12,v13,s7,du7,D7,T7,F7,hes7,rfl⟩
        rw [hrl] at D7 hes7 F7
        refine ⟨ds,_,_,_,_,_,_,s7,du7,D7,F7,hes7,?_,rfl⟩
        intro l hl t ht
        rcases List.mem_append.mp hl with z | z
        · exact hkt l z t ht
        · rw [List.mem_singleton.mp z] at ht
          obtain ⟨e,he,rfl⟩:=List.mem_map.mp ht
          exact ok.kt _ (hes7 e (List.mem_append_right _ he))
    · rintro σ H' ⟨ds,v8,v9,v10,v11,v12,v13,sm,hds,hD,hF,hes,hkt,rfl⟩
      rw [Int.toNat_natCast] at hD hF hes
      have lay2:(PyData.list ((askL pv (stp kfn notes sheet sheet.length).2).map askDat3)).canLay0 = true:=by
        have:PyData.canLayAll0 ((askL pv (stp kfn notes sheet sheet.length).2).map askDat3) = true:=canAll fun d hd=>by
          obtain ⟨e,he,rfl⟩:=List.mem_map.mp hd
          obtain ⟨p,hp,hpe⟩:=List.mem_filterMap.mp he
          have:e = p.2:=by
            by_cases z:pv p.1 = some p.2
            · rw [if_pos z] at hpe; cases hpe
            · rw [if_neg z] at hpe; exact (Option.some.inj hpe).symm
          rw [this]
          exact one_lay (hes p hp)
        simp only [PyData.canLay0]
        exact this
      have dep2:(PyData.list ((askL pv (stp kfn notes sheet sheet.length).2).map askDat3)).depth ≤ 60:=by
        have:=lst_depth (k:=4) (f:=askDat3) (l:=askL pv (stp kfn notes sheet sheet.length).2) fun p _=>ask3_depth p
        lia
      refine ⟨_,_,.list (SqL.of (sm _ _ hasB)) ((hasd.same rB).same sm),.list (SqL.of hds) (hD.same rem_same),lay2,lay2,by lia,?_⟩
      rw [SeqAt.eqv_refl _ lay2]
      have hal':=sm _ _ hasB
      obtain ⟨fk,f1,f2,f3,f4⟩:=hF.ex
      refine q H' fd jd' n' _ (fun b u n1 n2 e=>sm _ _ (kB n1 n2 e)) (sm _ _ ha3) ?_ (hA3.grow sm) ⟨fk,f1,f3,fun m e hm=>?_⟩
      · obtain ⟨kvs,j1,_⟩:=hJ3.ex
        exact hJ3.mono (by rw [j1]; exact sm _ _ j1) fun t vs e=>sm _ _ e
      · obtain ⟨v,v0,t,g,rfl,v1,v2,v3,v4⟩:=f4 m e hm
        refine ⟨_,v0,.tuple (SqT.of (by rw [rem_out (fun z=>by rw [List.mem_singleton.mp z,hal'] at v1; cases v1)]; exact v1)) (.cons (.int _) (.cons (.list (SqL.of (by rw [rem_out (fun z=>alB v3 (List.mem_singleton.mp z))]; exact v2)) (txs_dat _)) (.cons (txt_dat _) .nil)))⟩
end
end K75
namespace K75
open PySem PySem.Spec PyProof.Rows L2 Rg
theorem made_kn {H H':Hp} {f:Addr} {name qual:Str} {st:Stmt} {cl:List (Str × Addr)} (M:Made H f name qual st cl) (s:∀ b o,Kn H b o→Kn H' b o):Made H' f name qual st cl:=by
  obtain ⟨doc,pm,c',ctv,oc,vs,t,m1,m2,m3⟩:=M.ex
  exact ⟨doc,pm,c',ctv,oc,vs,t,s _ _ m1,s _ _ m2,m3⟩
theorem lent_out {H8 H9 : Hp} {cs : List Addr} {os : List Obj} {al a : Addr} {u1 u2 : HO} (hn : ∀ c ∈ cs, H8 c = none) (nd : cs.Nodup) (hl : os.length = cs.length) (hal : H8 al = some u1) (ha : H8 a = some u2) (k9 : ∀ b u, b ≠ al → b ≠ a → froz cs os H8 b = some u → H9 b = some u) :
    (∀ b u,b ≠ al→b ≠ a→H8 b = some u→rem cs H9 b = some u)∧∀ b u,(∀ o,u ≠ .frz o anyHO)→H9 b = some u→rem cs H9 b = some u:=by
  refine ⟨fun b u n1 n2 e=>?_,fun b u n e=>?_⟩
  · rw [rem_out fun m=>by rw [hn b m] at e; cases e]
    exact k9 b u n1 n2 (froz_some hn e)
  · rw [rem_out fun m=>?_]
    · exact e
    · obtain ⟨j,o,h1,h2,h3⟩:=froz_in (H:=H8) nd hl m
      have k':H9 b = some (.frz o anyHO):=k9 b _ (fun z=>by have:=hn b m; rw [z,hal] at this; cases this) (fun z=>by have:=hn b m; rw [z,ha] at this; cases this) h3
      rw [e] at k'
      exact n o (Option.some.inj k')
structure AnsI (K:PySem.W.Frag) (C:Addr) (H:Hp) (cl:List (Str × Addr)) (a dx n2 fa al nt rd:Addr) (notes:List (Int × Int)) (pv:Int→Option E3):Prop where
  ins:∃ jd n,H a = some (.ins C dx (flds n2 fa jd))∧JdI kfn H jd pv n
  made:Made H fa "_law_judge" q_law__law_judge st_law__law_judge cl
  ask:∃ (ys:List V) (as:List E3),H al = some (.lst ys)∧DatVs K (rem [al] H) ys (as.map askDat3)
  n1:DatV K (rem [al] H) (.ref nt) (.list (notes.map noteDat))
  n2':DatV K (rem [al] H) (.ref n2) (.list (notes.map noteDat))
  rc:RecI K H al rd pv
  eok:∀ m e,pv m = some e→EOk e
theorem AnsI.grow {K:PySem.W.Frag} {C:Addr} {H H':Hp} {cl:List (Str × Addr)} {a dx n2 fa al nt rd:Addr} {notes:List (Int × Int)} {pv:Int→Option E3} (h:AnsI K C H cl a dx n2 fa al nt rd notes pv) (s:Same H H'):AnsI K C H' cl a dx n2 fa al nt rd notes pv:=by
  obtain ⟨jd,n,i1,i2⟩:=h.ins
  obtain ⟨ys,as,k1,k2⟩:=h.ask
  obtain ⟨kvs,j1,_⟩:=i2.ex
  obtain ⟨rk,r1,_⟩:=h.rc.ex
  exact ⟨⟨jd,n,s _ _ i1,i2.mono (by rw [j1]; exact s _ _ j1) fun t vs e=>s _ _ e⟩,made_kn h.made fun b o k=>s _ _ k,⟨ys,as,s _ _ k1,k2.same (rem_le s)⟩,h.n1.same (rem_le s),h.n2'.same (rem_le s),h.rc.keep (by rw [r1]; exact s _ _ r1) (.same (rem_le s)),h.eok⟩
theorem AnsI.step {K : PySem.W.Frag} {C : Addr} {H : Hp} {a dx n2 fa al nt rd sr : Addr} {notes : List (Int × Int)} {pv : Int → Option E3} {sheet : List (Int × List Rw)} {env : Env} {N : List Str} {σ : L2.St} {Q : VK} {i : Nat} (h : AnsI K C H (closOf env (defScope st_law__law_judge).names []) a dx n2 fa al nt rd notes pv) (ok : RkOk kfn notes sheet)
    (hS:DatV K (rem [al] H) (.ref sr) (.list (sheet.map pieDat))) (hN:N.Nodup) (hi:N[i]? = some "_law_asked") (hσ:σ[i]? = some (some (.ref al)))
    (q:∀ G rd',(∀ b u,b ≠ al→b ≠ a→H b = some u→G b = some u)→AnsI K C G (closOf env (defScope st_law__law_judge).names []) a dx n2 fa al nt rd' notes (lk (stp kfn notes sheet sheet.length).2)→Q (.ref rd') G) :
    ∀ cs os,Froz env N σ fr_judge cs os→(∀ c ∈ cs,H c = none)→spStep K C [.ref a,.ref al,.ref sr,.ref nt,.ref rd] (froz cs os H) (fun v H2=>Q v (rem cs H2)) E0:=by
  intro cs os F hn
  obtain ⟨jd,n,i1,i2⟩:=h.ins
  obtain ⟨ys,as,k1,k2⟩:=h.ask
  obtain ⟨kvs,j1,_⟩:=i2.ex
  obtain ⟨rk,r1,_⟩:=h.rc.ex
  have Cc:=lent2 (ws:=[.ref al]) h.made F hn hN (by decide +kernel) (by decide +kernel) (by decide +kernel) rfl (fun j hj=>match j,hj with | 0,_=>⟨i,hi,hσ⟩)
  have fz:Same H (froz cs os H):=fun b u e=>froz_some hn e
  have rz:=rem_le (cs:=[al]) fz
  have naa:a ≠ al:=fun z=>by rw [z,k1] at i1; cases i1
  refine ⟨a,dx,n2,fa,jd,al,sr,nt,rd,sheet,notes,pv,n,as,rfl,fz _ _ i1,i2.mono (by rw [j1]; exact fz _ _ j1) (fun t vs e=>fz _ _ e),ok,hS.same rz,h.n1.same rz,h.n2'.same rz,⟨⟨cs,Cc⟩,⟨ys,fz _ _ k1,k2.same rz⟩,(fun c m=>by cases m)⟩,h.rc.keep (by rw [r1]; exact fz _ _ r1) (.same rz),h.eok,fun H9 rd' jd' n' as' k9 i9 j9 a9 r9=>?_⟩
  obtain ⟨keep,out⟩:=lent_out hn F.nd (F.l2.trans F.l1.symm) k1 i1 k9
  obtain ⟨ys',y1,y2⟩:=a9.lst
  have dG:SameD (rem [al] H) (rem [al] (rem cs H9)):=.of fun b u _ n2 _ _ e=>by
    have nb:b ∉ [al]:=fun m=>by rw [rem_in m] at e; cases e
    rw [rem_out nb] at e ⊢
    exact keep b u (fun z=>nb (by rw [z]; exact List.mem_singleton.mpr rfl)) (fun z=>by rw [z,i1] at e; exact n2 _ _ _ (Option.some.inj e).symm) e
  have d9:SameD (rem [al] H9) (rem [al] (rem cs H9)):=.of fun b u n1 _ _ _ e=>by
    have nb:b ∉ [al]:=fun m=>by rw [rem_in m] at e; cases e
    rw [rem_out nb] at e ⊢
    exact out b u (fun o z=>n1 o _ z rfl) e
  obtain ⟨kv9,q1,_⟩:=j9.ex
  obtain ⟨rk9,w1,_⟩:=r9.ex
  refine q _ rd' keep ⟨⟨jd',n',out _ _ (fun o z=>by cases z) i9,j9.mono (by rw [q1]; exact out _ _ (fun o z=>by cases z) q1) fun t vs e=>out _ _ (fun o z=>by cases z) e⟩,made_kn h.made fun b o k=>?_,⟨ys',as',out _ _ (fun o z=>by cases z) y1,y2.sameD d9⟩,h.n1.sameD dG,h.n2'.sameD dG,r9.keep (by rw [w1]; exact out _ _ (fun o z=>by cases z) w1) d9,fun m e hm=>?_⟩
  · have k':H b = some (.frz o anyHO):=k
    exact keep b _ (fun z=>by rw [z,k1] at k'; cases k') (fun z=>by rw [z,i1] at k'; cases k') k
  · exact (stp_ok ok sheet.length (Nat.le_refl _)).1 _ (lk_mem hm)
theorem mks_len:∀ sheet:List (Int × List Rw),(sheet.map fun p=>((p.2.length:Nat):Int)).sum = ((mks sheet).length:Nat)
  | []=>rfl
  | p :: t=>by
    rw [List.map_cons,List.sum_cons,mks_len t,mks_cons,List.length_append,List.length_map]
    lia
noncomputable def kDat (l:List (List Nat)):PyData:=.list (l.map fun t=>.str (S t))
theorem ks_dat {K:PySem.W.Frag} {H:Hp}:∀ {xs:List V} {ks:List (List (List Nat))},xs.length = ks.length→(∀ (i:Nat) (l:List (List Nat)),ks[i]? = some l→∃ b,xs[i]? = some (.ref b)∧H b = some (.lst (txs l)))→DatVs K H xs (ks.map kDat)
  | [],[],_,_=>.nil
  | [],_ :: _,h,_=>by simp at h
  | _ :: _,[],h,_=>by simp at h
  | x :: xs,l :: ks,h,e=>by
    obtain ⟨b,h1,h2⟩:=e 0 l rfl
    cases h1
    exact .cons (.list (SqL.of h2) (txs_dat l)) (ks_dat (by simpa using h) fun i l hl=>e (i + 1) l hl)
theorem ks_lay:∀ {ks:List (List (List Nat))},(∀ l ∈ ks,∀ t ∈ l,TxOk t)→PyData.canLayAll0 (ks.map kDat) = true
  | [],_=>rfl
  | l :: ks,h=>by
    have h2:=ks_lay (ks:=ks) fun l hl=>h l (List.mem_cons_of_mem _ hl)
    rw [List.map_cons]
    simp only [PyData.canLayAll0,kDat,PyData.canLay0,txs_lay (h l List.mem_cons_self),h2,Bool.and_self]
theorem k_depth (l:List (List Nat)):(kDat l).depth ≤ 2:=lst_depth (k:=1) fun t _=>by simp [PyData.depth]
theorem reck_lent {K : PySem.W.Frag} {C : Addr} {H : Hp} {a dx n2 fa jd al sr : Addr} {notes : List (Int × Int)} {pv : Int → Option E3} {n : Nat} {as : List E3} {ys : List V} {sheet : List (Int × List Rw)} {env : Env} {N : List Str} {σ : L2.St} {Q : VK} {i : Nat}
    (i1:H a = some (.ins C dx (flds n2 fa jd))) (i2:JdI kfn H jd pv n) (hM:Made H fa "_law_judge" q_law__law_judge st_law__law_judge (closOf env (defScope st_law__law_judge).names []))
    (k1:H al = some (.lst ys)) (k2:DatVs K (rem [al] H) ys (as.map askDat3)) (has:as.length ≤ 100000) (ok:RkOk kfn notes sheet)
    (hS:DatV K (rem [al] H) (.ref sr) (.list (sheet.map pieDat))) (hN2:DatV K (rem [al] H) (.ref n2) (.list (notes.map noteDat))) (eok:∀ m e,pv m = some e→EOk e) (hN:N.Nodup) (hi:N[i]? = some "_law_asked") (hσ:σ[i]? = some (some (.ref al)))
    {cs:List Addr} {os:List Obj} (F:Froz env N σ fr_judge cs os) (hn:∀ c ∈ cs,H c = none)
    (q:∀ H9 kr ys',(∀ b u,b ≠ al→b ≠ a→H b = some u→rem cs H9 b = some u)→rem cs H9 al = some (.lst ys')→DatVs K (rem [al] (rem cs H9)) ys' ((as ++ askL pv (stp kfn notes sheet sheet.length).2).map askDat3)→DatV K (rem [al] (rem cs H9)) (.ref kr) (.list ((stp kfn notes sheet sheet.length).1.map kDat))→Q (.ref kr) H9) :
    spRk kfn K C [.ref a,.ref sr] (froz cs os H) Q E0:=by
  obtain ⟨kvs,j1,_⟩:=i2.ex
  have Cc:=lent2 (ws:=[.ref al]) hM F hn hN (by decide +kernel) (by decide +kernel) (by decide +kernel) rfl (fun j hj=>match j,hj with | 0,_=>⟨i,hi,hσ⟩)
  have fz:Same H (froz cs os H):=fun b u e=>froz_some hn e
  have rz:=rem_le (cs:=[al]) fz
  refine ⟨a,dx,n2,fa,jd,al,sr,sheet,notes,pv,n,as,rfl,fz _ _ i1,i2.mono (by rw [j1]; exact fz _ _ j1) (fun t vs e=>fz _ _ e),ok,hS.same rz,hN2.same rz,⟨⟨cs,Cc⟩,⟨ys,fz _ _ k1,k2.same rz⟩,(fun c m=>by cases m)⟩,has,eok,fun H9 kr jd' n' xs k9 i9 j9 a9 hkr hkv kr0=>?_⟩
  obtain ⟨keep,out⟩:=lent_out hn F.nd (F.l2.trans F.l1.symm) k1 i1 k9
  obtain ⟨ys',y1,y2⟩:=a9.lst
  have d9:SameD (rem [al] H9) (rem [al] (rem cs H9)):=.of fun b u n1 _ _ _ e=>by
    have nb:b ∉ [al]:=fun m=>by rw [rem_in m] at e; cases e
    rw [rem_out nb] at e ⊢
    exact out b u (fun o z=>n1 o _ z rfl) e
  have nal:∀ {b:Addr},froz cs os H b = none→b ∉ [al]:=fun e m=>by rw [List.mem_singleton.mp m,fz _ _ k1] at e; cases e
  refine q _ kr ys' keep (out _ _ (fun o z=>by cases z) y1) (y2.sameD d9) (.list (SqL.of (xs:=xs) ?_) (ks_dat hkv.len fun i l e=>?_))
  · rw [rem_out (nal kr0)]; exact out _ _ (fun o z=>by cases z) hkr
  · obtain ⟨b,b1,b2,b3,b4⟩:=hkv.at' i l e
    exact ⟨b,b1,by rw [rem_out (nal b3)]; exact out _ _ (fun o z=>by cases z) b2⟩
noncomputable abbrev lawN:List Str:=["_law_script","_law_names_here","_law_notes_here","_law_first","_law_step_here","_law_cells","_law_sheet_here","_law_judge","_law_answers","_law_record","_law_turn","_law_cell","_law_rows_here","_law_kinds","_law_asked"]
section
variable {P:Program} {w:World} {K:PySem.W.Frag} {mg:Str→Option Value} {base:Heap} {C c_law P_law:Addr}
inductive spLaw (Pt:Addr) (K:PySem.W.Frag) (vs : List V) (H : Hp) (Q : VK) (_e : XK) : Prop | mk (a:Addr) (ns:List Int) : (vs = [.ref a]) → (SqL K H a (ns.map V.int)) → (ns.length ≤ 63) → TabOk H Pt qs_law__law_judge → (∀ H',Q (.bl true) H') → spLaw Pt K vs H Q _e
theorem end_law (TC : ClsT K mg C) (T : Txt K w mg) (R : RawC K mg "law" st_law ["_law_script"] c_law P_law) (B : BMain mg base) (DM_Answers___init__ : DefM P w K mg base 1 C "__init__" ["self", "notes", "judge"] (spInit K C)) (DM_Answers_reckon : DefM P w K mg base 4 C "reckon" ["self", "sheet"] (spRk kfn K C)) (D__law_step : Def P w K mg base 6 "_law_step" ["_law_answers", "_law_asked", "_law_sheet_here", "_law_notes_here", "_law_record"] (spStep K C))
    {f:Addr} {A:Around} {outer:List Env} {s:Shared} {H:Hp} {E:XK} {Q:VK} (hr:Room 6 (A.deeper (envOfC "law" (defScope st_law) s.heap.objs.size f (.ref c_law)))) (q:∀ H',Q (.bl true) H') :
    ∃ u,JSs (cxOf CX0 P w K mg base lawN "law" (defScope st_law) f (.ref c_law) A outer s H E).nox ((defBody st_law).drop 12) u ∧
      ∀ (H1:Hp) (a nr nt sr fa x dx n2 al rd:Addr) (pv:Int→Option E3) (sheet:List (Int × List Rw)) (notes:List (Int × Int)) (lo hi:Int) (v3 v4 v5 v10 v11 v12:Option V),
        AnsI K C H1 (closOf (envOfC "law" (defScope st_law) s.heap.objs.size f (.ref c_law)) (defScope st_law__law_judge).names []) x dx n2 fa al nt rd notes pv→DatV K (rem [al] H1) (.ref sr) (.list (sheet.map pieDat))→RkOk kfn notes sheet→MkR lo hi (mks sheet) →
        u { nx:=fun _ H'=>Q .non H',rt:=Q } [some (.ref a),some (.ref nr),some (.ref nt),v3,v4,v5,some (.ref sr),some (.ref fa),some (.ref x),some (.ref rd),v10,v11,v12,none,some (.ref al)] H1:=by
  have sc:=sc_law
  have hu:=hr.units
  have hb:=big
  refine ⟨_,(jss_cons (js_set (i:=9) sc.nd rfl (Or.inl rfl) (j_defC ["_law_asked"] [14] D__law_step (hr.mono (by decide)) rfl (ja_cons (jn 8) (ja_cons (jn 14) (ja_cons (jn 6) (ja_cons (jn 2) (ja_cons (jn 9) ja_nil))))) (by rfl)))
    (jss_cons (js_expr (j_bm0 (K:=K) PySem.F.plainAttrs_list PySem.F.slot_list_clear PySem.F.type_list_clear m_clear (jn 14)))
    (jss_cons (js_set (i:=13) sc.nd rfl (Or.inl rfl) (j_methC ["_law_asked"] [14] TC.cls DM_Answers_reckon (hr.mono (by decide)) (jn 8) (ja_cons (jn 6) ja_nil) (by rfl)))
    (jss_cons (js_if (jw_t (jw_or (jt_cmp o_is (jn 9) j_non) (jw_or1 (jt_cmp (o_ne hu (K:=K)) (jn 14) (j_lst ja_nil)))))
    (jss_one (js_ret j_bl))
    jss_nil)
    (jss_one (js_ret (j_and (j_cmp (o_eq hu (K:=K)) (j_methC ["_law_asked"] [14] TC.cls DM_Answers_reckon (hr.mono (by decide)) (j_make TC.mkc DM_Answers___init__ (hr.mono (by decide)) rfl (ja_cons (jn 2) (ja_cons (jn 7) ja_nil))) (ja_cons (jn 6) ja_nil) (by rfl)) (jn 13)) (j_one (j_cmp (o_eq hu (K:=K)) (j_callB (c_len (K:=K)) rfl T.n_len PySem.boot_len (ja_cons (jn 14) ja_nil)) (j_callB (c_sum rfl (K:=K)) rfl T.n_sum boot_sum (ja_cons (j_comp (N:=["_law_holder_here","_law_rows_here"]) (cap:=[none,none]) rfl (CompScope.of rfl (by rfl)) (ji_any (K:=K) (jn 6)) (fun _ _ _ _=>(jg_tup (K:=K) (n:=2) rfl (jgs_cons (jg_name (i:=0) (show List.Nodup [("_law_holder_here":Str),("_law_rows_here":Str)] by decide +kernel) rfl (Or.inl rfl)) (jgs_cons (jg_name (i:=1) (show List.Nodup [("_law_holder_here":Str),("_law_rows_here":Str)] by decide +kernel) rfl (Or.inl rfl)) jgs_nil)))) (fun _ _ _ _=>jts_nil) (fun _ _ _ _=>(j_callB (c_len (K:=K)) rfl T.n_len PySem.boot_len (ja_cons (jn 1) ja_nil)))) ja_nil))))))))))),?_⟩
  intro H1 a nr nt sr fa x dx n2 al rd pv sheet notes lo hi v3 v4 v5 v10 v11 v12 I hS ok hmk
  have sD:∀ {H' G:Hp} {jd x dx n2:Addr},H' x = some (.ins C dx (flds n2 fa jd))→(∀ b u,b ≠ al→b ≠ x→H' b = some u→G b = some u)→SameD (rem [al] H') (rem [al] G):=fun {H' G jd x dx n2} x0 kG=>.of fun b u _ n2 _ _ e=>by
    have nb:b ∉ [al]:=fun m=>by rw [rem_in m] at e; cases e
    rw [rem_out nb] at e ⊢
    exact kG b u (fun z=>nb (by rw [z]; exact List.mem_singleton.mpr rfl)) (fun z=>by rw [z,x0] at e; exact n2 _ _ _ (Option.some.inj e).symm) e
  refine ⟨fun i hi=>?_,?_⟩
  · rw [List.mem_singleton.mp hi]; exact ⟨_,rfl⟩
  refine I.step ok hS sc.nd (i:=14) rfl rfl fun G rd' kG IG=>?_
  obtain ⟨jd0,n0,x0,_⟩:=I.ins
  have hS1:=hS.sameD (sD x0 kG)
  clear I hS x0 kG
  obtain ⟨jd,n,i1,i2⟩:=IG.ins
  obtain ⟨ys,as,k1,_⟩:=IG.ask
  refine ⟨.inl ⟨rfl,_,SqL.of k1⟩,_,k1,?_⟩
  have nxl:x ≠ al:=fun z=>by rw [z,k1] at i1; cases i1
  have k3:∀ {b:Addr} {u:HO},b ≠ al→G b = some u→upd G al (.lst []) b = some u:=fun n e=>by rw [upd_ne n]; exact e
  have nl:∀ {b:Addr} {u:HO},(∀ l,u ≠ .lst l)→G b = some u→b ≠ al:=fun n e z=>by rw [z,k1] at e; exact n _ (Option.some.inj e).symm
  have al3:upd G al (.lst []) al = some (.lst []):=upd_same
  have r3:rem [al] (upd G al (.lst [])) = rem [al] G:=rem_upd_in List.mem_cons_self
  have i3:=k3 nxl i1
  have j3:JdI kfn (upd G al (.lst [])) jd (lk (stp kfn notes sheet sheet.length).2) n:=by
    obtain ⟨kvs,j1,_⟩:=i2.ex
    exact i2.mono (by rw [j1]; exact k3 (nl (fun l z=>by cases z) j1) j1) fun t vs e=>k3 (nl (fun l z=>by cases z) e) e
  have m3:Made (upd G al (.lst [])) fa "_law_judge" q_law__law_judge st_law__law_judge (closOf (envOfC "law" (defScope st_law) s.heap.objs.size f (.ref c_law)) (defScope st_law__law_judge).names []):=made_kn IG.made fun b o k=>by
    have k':G b = some (.frz o anyHO):=k
    exact k3 (nl (fun l z=>by cases z) k') k'
  have hN3:=IG.n1
  have hN4:=IG.n2'
  rw [← r3] at hS1 hN3 hN4
  have eok:=IG.eok
  clear IG
  generalize upd G al (.lst []) = H3 at k3 al3 r3 i3 j3 m3 hS1 hN3 hN4 ⊢
  refine ⟨dx,_,i3,rfl,?_⟩
  refine ⟨fun i hi=>?_,fun cs os F hn=>?_⟩
  · rw [List.mem_singleton.mp hi]; exact ⟨_,rfl⟩
  refine reck_lent (as:=[]) i3 j3 m3 al3 .nil (Nat.zero_le _) ok hS1 hN4 eok sc.nd (i:=14) rfl rfl F hn fun H9 kr ys4 k4 al4 d4 kd4=>?_
  dsimp only
  generalize rem cs H9 = G4 at k4 al4 d4 kd4 ⊢
  clear F hn
  rw [askL_again (stp_nd hmk)] at d4
  cases d4
  have hS4:=hS1.sameD (sD i3 k4)
  have hN4:=hN3.sameD (sD i3 k4)
  have m4:=made_kn m3 fun b o k=>by
    have k':H3 b = some (.frz o anyHO):=k
    exact k4 b _ (fun z=>by rw [z,al3] at k'; cases k') (fun z=>by rw [z,i3] at k'; cases k') k'
  clear i3 j3 m3 k3 r3 hS1 hN3 k4
  refine ⟨(show 0 ≤ sizeLine by decide),fun p5 hp5=>?_⟩
  have s5:Same G4 (upd G4 p5 (.lst [])):=same_new hp5
  have h5:upd G4 p5 (.lst []) p5 = some (.lst []):=upd_same
  generalize upd G4 p5 (.lst []) = H5 at s5 h5 ⊢
  refine ⟨_,_,.list (SqL.of (s5 _ _ al4)) .nil,.list (SqL.of h5) .nil,rfl,rfl,by decide,?_⟩
  have al5:=s5 _ _ al4
  have r5:=rem_le (cs:=[al]) s5
  have hS5:=hS4.same r5
  have hN5:=hN4.same r5
  have kd5:=kd4.same r5
  have m5:=made_kn m4 fun b o k=>s5 _ _ k
  clear hS4 hN4 kd4 m4 al4 s5 h5 r5
  obtain ⟨_,zs,e0,hnt,hnd⟩:=dat_list hN5
  cases e0
  refine fun x2 dx2 hx hdx nxd=>?_
  have g0:∀ {b:Addr} {u:HO},H5 b = some u→b ≠ x2∧b ≠ dx2:=fun e=>⟨(fun z=>by rw [z,hx] at e; cases e),(fun z=>by rw [z,hdx] at e; cases e)⟩
  have s7:Same H5 (upd (upd H5 dx2 (.own x2)) x2 (.ins C dx2 [])):=fun b u e=>by rw [upd_ne (g0 e).1,upd_ne (g0 e).2]; exact e
  have h7:upd (upd H5 dx2 (.own x2)) x2 (.ins C dx2 []) x2 = some (.ins C dx2 []):=upd_same
  generalize upd (upd H5 dx2 (.own x2)) x2 (.ins C dx2 []) = H7 at s7 h7 ⊢
  have rs5:Same (rem [al] H5) H5:=fun b u e=>rem_same b u e
  refine ⟨x2,dx2,nt,fa,zs,rfl,h7,s7.seq (rs5.seq hnt),fun H8 n3 jd3 k8 n30 hn3 hjd hx8=>⟨rfl,?_⟩⟩
  have k58:Same H5 H8:=fun b u e=>k8 b u (g0 e).1 (s7 _ _ e)
  have r8:=rem_le (cs:=[al]) k58
  have n3l:n3 ∉ [al]:=fun m=>by rw [List.mem_singleton.mp m,s7 _ _ al5] at n30; cases n30
  refine ⟨dx2,_,hx8,rfl,?_⟩
  refine ⟨fun i hi=>?_,fun cs os F hn=>?_⟩
  · rw [List.mem_singleton.mp hi]; exact ⟨_,rfl⟩
  refine reck_lent (as:=[]) (pv:=fun _=>none) (n:=0) hx8 ⟨[],hjd,Nat.le_refl _,(fun _ _=>rfl),(fun m e z=>by cases z)⟩ (made_kn m5 fun b o k=>k58 _ _ k) (k58 _ _ al5) .nil (Nat.zero_le _) ok (hS5.same r8) (.list (SqL.of (by rw [rem_out n3l]; exact hn3)) (hnd.same r8)) (fun m e z=>by cases z) sc.nd (i:=14) rfl rfl F hn fun H9 kr2 ys6 k6 al6 d6 kd6=>?_
  dsimp only
  generalize rem cs H9 = G6 at k6 al6 d6 kd6 ⊢
  have d56:=(SameD.same r8).trans (sD hx8 k6)
  have rG:Same (rem [al] G6) G6:=fun b u e=>rem_same b u e
  have lay:(PyData.list ((stp kfn notes sheet sheet.length).1.map kDat)).canLay0 = true:=by
    have:=ks_lay (stp_ok ok sheet.length (Nat.le_refl _)).2
    simp only [PyData.canLay0]
    exact this
  have dep:(PyData.list ((stp kfn notes sheet sheet.length).1.map kDat)).depth ≤ 60:=by
    have:=lst_depth (k:=2) (f:=kDat) (l:=(stp kfn notes sheet sheet.length).1) fun l _=>k_depth l
    lia
  refine ⟨_,_,kd6.same rG,(kd5.sameD d56).same rG,lay,lay,by lia,?_⟩
  rw [SeqAt.eqv_refl _ lay]
  refine ⟨_,.inl (SqL.of al6),?_⟩
  have hS6:=(hS5.sameD d56).same rG
  obtain ⟨_,ps,e0,hpl,hpd⟩:=dat_list hS6
  cases e0
  have hpn:ps.length = sheet.length:=by have:=hpd.length; rw [List.length_map] at this; exact this
  have hsl:=ok.sh.len
  refine .inl ⟨⟨_,hpl⟩,?_⟩
  refine gath_list (xs:=ps) (fun k ws σ' H'=>H' = G6∧ws = ((sheet.take k).map fun p=>V.int (p.2.length:Nat))∧∃ v0 v1:Option V,σ' = [v0,v1]) (by lia) ⟨rfl,rfl,none,none,rfl⟩ (fun k ws σ' H' h=>by rw [h.2.1,List.length_map,List.length_take]; lia) (fun k ws σ' H' h=>by rw [h.1]; exact hpl) ?_ ?_
  · rintro k y ws σ' H' hy ⟨rfl,rfl,v0,v1,rfl⟩
    obtain ⟨pc,epc,hpc⟩:=datvs_has hpd hy
    have etk:sheet.take (k + 1) = sheet.take k ++ [pc]:=by rw [List.take_add_one,epc]; rfl
    obtain ⟨tp,br,rs,rfl,hT,hR,hRd⟩:=dat_pie hpc
    have hrsl:rs.length = pc.2.length:=by have:=hRd.length; rw [List.length_map] at this; exact this
    refine ⟨tp,_,rfl,hT,rfl,_,_,rfl,_,_,rfl,rfl,?_⟩
    refine ⟨_,.inl hR,rfl,?_,_,_,rfl⟩
    rw [etk,List.map_append,hrsl]
    rfl
  · rintro ws σ' H' ⟨rfl,rfl,v0,v1,rfl⟩
    rw [hpn,List.take_length]
    refine fun D hD=>?_
    refine ⟨sheet.map fun p=>((p.2.length:Nat):Int),SqL.of (by rw [List.map_map]; exact upd_same),?_⟩
    have e6:ys6.length = (mks sheet).length:=by
      have h1:=d6.length
      have h2:=congrArg List.length (stp_fst (kf:=kfn) (notes:=notes) (sheet:=sheet) (Nat.le_refl _))
      rw [List.length_map,List.nil_append,askL_none,List.length_map] at h1
      rw [List.length_map,List.take_length] at h2
      lia
    rw [mks_len,e6]
    show Q (.bl (false ^^ decide (((mks sheet).length:Int) = ((mks sheet).length:Int)))) _
    rw [decide_eq_true rfl]
    exact q _
end
end K75
namespace K75
open PySem PySem.Spec PyProof.Rows L2 Rg
theorem cut_4 (ns:List Int):∃ ms:List Int,cutV (ns.map V.int) (some 4) (some 64) = ms.map V.int∧ms.length ≤ 60:=by
  refine ⟨(ns.drop (min 4 ns.length)).take (min 64 ns.length - min 4 ns.length),?_,?_⟩
  · unfold cutV
    rw [show (some (4:Int)) = some ((4:Nat):Int) from rfl,show (some (64:Int)) = some ((64:Nat):Int) from rfl,HT.sIx_nat,HT.sIx_nat,List.length_map,List.map_take,List.map_drop]
  · rw [List.length_take,List.length_drop]; lia
theorem cut_6 (xs:List V):cutV xs none (some 6) = xs.take 6:=by
  unfold cutV
  rw [show (some (6:Int)) = some ((6:Nat):Int) from rfl,HT.sIx_nat,HT.sIx_none]
  show (xs.drop 0).take (min 6 xs.length - 0) = _
  rw [List.drop_zero,Nat.sub_zero]
  by_cases h:6 ≤ xs.length
  · rw [Nat.min_eq_left h]
  · rw [Nat.min_eq_right (by lia),List.take_of_length_le (by lia),List.take_of_length_le (by lia)]
section
variable {P:Program} {w:World} {K:PySem.W.Frag} {mg:Str→Option Value} {base:Heap} {C c_law P_law:Addr}
theorem twice_law (TC : ClsT K mg C) (T : Txt K w mg) (R : RawC K mg "law" st_law ["_law_script"] c_law P_law) (B : BMain mg base) (D__law_step : Def P w K mg base 6 "_law_step" ["_law_answers", "_law_asked", "_law_sheet_here", "_law_notes_here", "_law_record"] (spStep K C))
    {f:Addr} {A:Around} {outer:List Env} {s:Shared} {H:Hp} {E:XK} (hr:Room 6 (A.deeper (envOfC "law" (defScope st_law) s.heap.objs.size f (.ref c_law)))) :
    ∃ u,JSs (cxOf CX0 P w K mg base lawN "law" (defScope st_law) f (.ref c_law) A outer s H E).nox ((stBody ((defBody st_law).getD 11 (.Pass ⟨0,0,0,0⟩))).drop 3) u ∧
      ∀ (D:Ends) (H1:Hp) (a nr nt sr fa x dx n2 al rd:Addr) (cl:Int) (pv:Int→Option E3) (sheet:List (Int × List Rw)) (notes:List (Int × Int)) (v3 v4 v5 v10 v12:Option V),
        AnsI K C H1 (closOf (envOfC "law" (defScope st_law) s.heap.objs.size f (.ref c_law)) (defScope st_law__law_judge).names []) x dx n2 fa al nt rd notes pv→DatV K (rem [al] H1) (.ref sr) (.list (sheet.map pieDat))→RkOk kfn notes sheet →
        (∀ H2 rd2 pv2,(∀ b u,b ≠ al→b ≠ x→H1 b = some u→H2 b = some u)→SameD (rem [al] H1) (rem [al] H2)→AnsI K C H2 (closOf (envOfC "law" (defScope st_law) s.heap.objs.size f (.ref c_law)) (defScope st_law__law_judge).names []) x dx n2 fa al nt rd2 notes pv2→D.nx [some (.ref a),some (.ref nr),some (.ref nt),v3,v4,v5,some (.ref sr),some (.ref fa),some (.ref x),some (.ref rd2),v10,some (.int cl),v12,none,some (.ref al)] H2) →
        u D [some (.ref a),some (.ref nr),some (.ref nt),v3,v4,v5,some (.ref sr),some (.ref fa),some (.ref x),some (.ref rd),v10,some (.int cl),v12,none,some (.ref al)] H1:=by
  have sc:=sc_law
  have hu:=hr.units
  have hb:=big
  have sD:∀ {H' G:Hp} {al fa jd x dx n2:Addr},H' x = some (.ins C dx (flds n2 fa jd))→(∀ b u,b ≠ al→b ≠ x→H' b = some u→G b = some u)→SameD (rem [al] H') (rem [al] G):=fun {H' G al fa jd x dx n2} x0 kG=>.of fun b u _ n2 _ _ e=>by
    have nb:b ∉ [al]:=fun m=>by rw [rem_in m] at e; cases e
    rw [rem_out nb] at e ⊢
    exact kG b u (fun z=>nb (by rw [z]; exact List.mem_singleton.mpr rfl)) (fun z=>by rw [z,x0] at e; exact n2 _ _ _ (Option.some.inj e).symm) e
  obtain ⟨u5, hP5, hq5⟩ : ∃ u, JSs (cxOf CX0 P w K mg base lawN "law" (defScope st_law) f (.ref c_law) A outer s H E).nox ((stBody ((defBody st_law).getD 11 (.Pass ⟨0, 0, 0, 0⟩))).drop 5) u ∧
      ∀ (D:Ends) (H1:Hp) (a nr nt sr fa x al rd:Addr) (v3 v4 v5 v10 v11 v12:Option V),D.nx [some (.ref a),some (.ref nr),some (.ref nt),v3,v4,v5,some (.ref sr),some (.ref fa),some (.ref x),some (.ref rd),v10,v11,v12,none,some (.ref al)] H1 →
        u D [some (.ref a),some (.ref nr),some (.ref nt),v3,v4,v5,some (.ref sr),some (.ref fa),some (.ref x),some (.ref rd),v10,v11,v12,none,some (.ref al)] H1:=by
    refine ⟨_,(jss_one (js_if (jt_cmp o_is (jn 9) j_non)
    (jss_one (js_ret j_bl))
    jss_nil)),?_⟩
    intro D H1 a nr nt sr fa x al rd v3 v4 v5 v10 v11 v12 h
    exact h
  obtain ⟨u4, hP4, hq4⟩ : ∃ u, JSs (cxOf CX0 P w K mg base lawN "law" (defScope st_law) f (.ref c_law) A outer s H E).nox ((stBody ((defBody st_law).getD 11 (.Pass ⟨0, 0, 0, 0⟩))).drop 4) u ∧
      ∀ (D:Ends) (H1:Hp) (a nr nt sr fa x dx n2 al rd:Addr) (cl:Int) (pv:Int→Option E3) (sheet:List (Int × List Rw)) (notes:List (Int × Int)) (v3 v4 v5 v10 v12:Option V),
        AnsI K C H1 (closOf (envOfC "law" (defScope st_law) s.heap.objs.size f (.ref c_law)) (defScope st_law__law_judge).names []) x dx n2 fa al nt rd notes pv→DatV K (rem [al] H1) (.ref sr) (.list (sheet.map pieDat))→RkOk kfn notes sheet →
        (∀ H2 rd2 pv2,(∀ b u,b ≠ al→b ≠ x→H1 b = some u→H2 b = some u)→SameD (rem [al] H1) (rem [al] H2)→AnsI K C H2 (closOf (envOfC "law" (defScope st_law) s.heap.objs.size f (.ref c_law)) (defScope st_law__law_judge).names []) x dx n2 fa al nt rd2 notes pv2→D.nx [some (.ref a),some (.ref nr),some (.ref nt),v3,v4,v5,some (.ref sr),some (.ref fa),some (.ref x),some (.ref rd2),v10,some (.int cl),v12,none,some (.ref al)] H2) →
        u D [some (.ref a),some (.ref nr),some (.ref nt),v3,v4,v5,some (.ref sr),some (.ref fa),some (.ref x),some (.ref rd),v10,some (.int cl),v12,none,some (.ref al)] H1:=by
    refine ⟨_,(jss_cons (js_if (jw_t (jw_and (jt_cmp o_isnot (jn 9) j_non) (jw_and1 (jt_cmp (o_eq hu (K:=K)) (j_op o_mod (j_op o_div (jn 11) j_int) j_int) j_int))))
    (jss_one (js_set (i:=9) sc.nd rfl (Or.inl rfl) (j_defC ["_law_asked"] [14] D__law_step (hr.mono (by decide)) rfl (ja_cons (jn 8) (ja_cons (jn 14) (ja_cons (jn 6) (ja_cons (jn 2) (ja_cons (jn 9) ja_nil))))) (by rfl))))
    jss_nil)
    hP5),?_⟩
    intro D H1 a nr nt sr fa x dx n2 al rd cl pv sheet notes v3 v4 v5 v10 v12 I hS ok h
    refine ⟨⟨by decide,by decide⟩,by decide,?_⟩
    show if (false ^^ decide (cl / 49 % 10 = 1)) = true then _ else _
    rw [Bool.false_xor]
    refine ite2 (fun _=>?_) (fun _=>?_)
    · refine ⟨fun i hi=>?_,?_⟩
      · rw [List.mem_singleton.mp hi]; exact ⟨_,rfl⟩
      refine I.step ok hS sc.nd (i:=14) rfl rfl fun G rd' kG IG=>?_
      obtain ⟨jd0,n0,x0,_⟩:=I.ins
      exact hq5 _ _ _ _ _ _ _ _ _ _ _ _ _ _ _ _ (h G rd' _ kG (sD x0 kG) IG)
    · exact hq5 _ _ _ _ _ _ _ _ _ _ _ _ _ _ _ _ (h H1 rd pv (fun b u _ _ e=>e) (SameD.same (Same.refl _)) I)
  refine ⟨_,(jss_cons (js_if (jw_t (jw_and (jt_cmp o_isnot (jn 9) j_non) (jw_and1 (jt_cmp o_lt (j_op o_mod (j_op o_div (jn 11) j_int) j_int) j_int))))
    (jss_one (js_set (i:=9) sc.nd rfl (Or.inl rfl) (j_defC ["_law_asked"] [14] D__law_step (hr.mono (by decide)) rfl (ja_cons (jn 8) (ja_cons (jn 14) (ja_cons (jn 6) (ja_cons (jn 2) (ja_cons (jn 9) ja_nil))))) (by rfl))))
    jss_nil)
    hP4),?_⟩
  intro D H1 a nr nt sr fa x dx n2 al rd cl pv sheet notes v3 v4 v5 v10 v12 I hS ok h
  refine ⟨⟨by decide,by decide⟩,by decide,?_⟩
  show if decide (cl / 49 % 10 < 2) = true then _ else _
  refine ite2 (fun _=>?_) (fun _=>?_)
  · refine ⟨fun i hi=>?_,?_⟩
    · rw [List.mem_singleton.mp hi]; exact ⟨_,rfl⟩
    refine I.step ok hS sc.nd (i:=14) rfl rfl fun G rd' kG IG=>?_
    obtain ⟨jd0,n0,x0,_⟩:=I.ins
    exact hq4 _ G a nr nt sr fa x dx n2 al rd' cl _ sheet notes _ _ _ _ _ IG (hS.sameD (sD x0 kG)) ok fun H2 rd2 pv2 k2 d2 I2=>h H2 rd2 pv2 (fun b u n1 n2 e=>k2 b u n1 n2 (kG b u n1 n2 e)) ((sD x0 kG).trans d2) I2
  · exact hq4 _ H1 a nr nt sr fa x dx n2 al rd cl pv sheet notes _ _ _ _ _ I hS ok h
end
end K75
namespace K75
open PySem PySem.Spec PyProof.Rows L2 Rg
section
variable {P:Program} {w:World} {K:PySem.W.Frag} {mg:Str→Option Value} {base:Heap} {C c_law P_law:Addr}
theorem mid_law (TC : ClsT K mg C) (T : Txt K w mg) (R : RawC K mg "law" st_law ["_law_script"] c_law P_law) (B : BMain mg base) (DM_Answers___init__ : DefM P w K mg base 1 C "__init__" ["self", "notes", "judge"] (spInit K C)) (DM_Answers_reckon : DefM P w K mg base 4 C "reckon" ["self", "sheet"] (spRk kfn K C)) (D__law_step : Def P w K mg base 6 "_law_step" ["_law_answers", "_law_asked", "_law_sheet_here", "_law_notes_here", "_law_record"] (spStep K C))
    (D__law_rows:Def P w K mg base 1 "_law_rows" ["_law_cell","_law_names_here","_law_first","_law_step_here"] (spRows K)) (D__law_edited:Def P w K mg base 2 "_law_edited" ["_law_sheet_here","_law_cell","_law_names_here","_law_rows_here"] (spEd K))
    {f:Addr} {A:Around} {outer:List Env} {s:Shared} {H:Hp} {E:XK} {Q:VK} (hr:Room 6 (A.deeper (envOfC "law" (defScope st_law) s.heap.objs.size f (.ref c_law)))) (q:∀ H',Q (.bl true) H') :
    ∃ u,JSs (cxOf CX0 P w K mg base lawN "law" (defScope st_law) f (.ref c_law) A outer s H E).nox ((defBody st_law).drop 6) u ∧
      ∀ (H1:Hp) (a nr nt sa:Addr) (ns:List Int) (fi st:Int) (ys zs:List V) (ls:List (List Nat)) (sheet:List (Int × List Rw)) (notes:List (Int × Int)) (v5 v12:Option V),TabOk H1 P_law qs_law__law_judge→SqL K H1 a (ns.map V.int)→SqL K H1 nr (ls.map fun k=>V.str (S k))→LsG ls→0 < st→st ≤ 1000 →
        H1 sa = some (.lst ys)→DatVs K H1 ys (sheet.map pieDat)→ShG ls sheet→sheet.length ≤ 6→MkR fi (fi + 100 * ((11:Nat):Int) * st) (mks sheet)→H1 nt = some (.lst zs)→DatVs K H1 zs (notes.map noteDat)→NtOk notes →
        u { nx:=fun _ H'=>Q .non H',rt:=Q } [some (.ref a),some (.ref nr),some (.ref nt),some (.int fi),some (.int st),v5,some (.ref sa),none,none,none,none,none,v12,none,none] H1:=by
  have sc:=sc_law
  have hu:=hr.units
  have hb:=big
  obtain ⟨u12,hP12,hq12⟩:=end_law (outer:=outer) (H:=H) (E:=E) TC T R B DM_Answers___init__ DM_Answers_reckon D__law_step hr q
  obtain ⟨u3,hP3,hq3⟩:=twice_law (outer:=outer) (H:=H) (E:=E) TC T R B D__law_step hr
  refine ⟨_,(jss_cons (js_set (i:=14) sc.nd rfl (Or.inr rfl) (j_lst ja_nil))
    (jss_cons (js_ndef (i:=7) (c:=c_law) (Pt:=P_law) (qs:=qs_law__law_judge) (st:=st_law__law_judge) (qual:=q_law__law_judge) sc.nd rfl (Or.inl rfl) rfl R.hd B rfl rfl rfl rfl)
    (jss_cons (js_set (i:=8) sc.nd rfl (Or.inl rfl) (j_make TC.mkc DM_Answers___init__ (hr.mono (by decide)) rfl (ja_cons (jn 2) (ja_cons (jn 7) ja_nil))))
    (jss_cons (js_set (i:=9) sc.nd rfl (Or.inl rfl) (j_defC ["_law_asked"] [14] D__law_step (hr.mono (by decide)) rfl (ja_cons (jn 8) (ja_cons (jn 14) (ja_cons (jn 6) (ja_cons (jn 2) (ja_cons j_dnewK ja_nil))))) (by rfl)))
    (jss_cons (js_set (i:=10) sc.nd rfl (Or.inl rfl) j_int)
    (jss_cons (js_for PassesOwn.never rfl (ji_any (K:=K) (j_slice (o_slA (K:=K)) (jn 0) (jo_some j_int) (jo_some j_int))) (jg_name (i:=11) sc.nd rfl (Or.inl rfl))
    (jss_cons (js_set (i:=10) sc.nd rfl (Or.inl rfl) (j_op (o_add (K:=K)) (jn 10) j_int))
    (jss_cons (js_set (i:=12) sc.nd rfl (Or.inl rfl) (j_def D__law_rows (hr.mono (by decide)) rfl (ja_cons (j_op o_div (jn 11) j_int) (ja_cons (jn 1) (ja_cons (j_op (o_add (K:=K)) (jn 3) (j_op o_mul (j_op o_mul j_int (j_op (o_add (K:=K)) j_int (jn 10))) (jn 4))) (ja_cons (jn 4) ja_nil))))))
    (jss_cons (js_set (i:=6) sc.nd rfl (Or.inl rfl) (j_slice (o_slA (K:=K)) (j_def D__law_edited (hr.mono (by decide)) rfl (ja_cons (jn 6) (ja_cons (jn 11) (ja_cons (jn 1) (ja_cons (jn 12) ja_nil))))) jo_none (jo_some j_int)))
    hP3))))
    hP12)))))),?_⟩
  intro H1 a nr nt sa ns fi st ys zs ls sheet notes v5 v12 hT hA hnr hls st0 st1 hsa hSd hg hl6 hmk hnt hNd hno
  refine ⟨(show 0 ≤ sizeLine by decide),fun al hal=>?_⟩
  have s2:Same H1 (upd H1 al (.lst [])):=same_new hal
  have h2:upd H1 al (.lst []) al = some (.lst []):=upd_same
  have r2:Same H1 (rem [al] (upd H1 al (.lst []))):=fun b u e=>by
    have nb:b ≠ al:=fun z=>by rw [z,hal] at e; cases e
    rw [rem_out (fun m=>nb (List.mem_singleton.mp m)),upd_ne nb]; exact e
  generalize upd H1 al (.lst []) = H2 at s2 h2 r2 ⊢
  have hT2:=Rg.TabOk.grow hT s2
  obtain ⟨pst,hpt⟩:=Rg.TabOk.tab hT2
  refine ⟨hT2,fun fa H3 hfa sm3 hT3 hM=>?_⟩
  have k3:∀ {b:Addr} {u:HO},(∀ p,u ≠ .tbl p)→H2 b = some u→H3 b = some u:=fun {b u} n e=>sm3 b u (fun z=>by rw [z,hpt] at e; exact n _ (Option.some.inj e).symm) e
  have h3:H3 al = some (.lst []):=k3 (fun p z=>by cases z) h2
  have d3:SameD (rem [al] H2) (rem [al] H3):=.of fun b u _ _ _ n e=>by
    have nb:b ∉ [al]:=fun m=>by rw [rem_in m] at e; cases e
    rw [rem_out nb] at e ⊢
    exact k3 n e
  have d13:=(SameD.same r2).trans d3
  have hS3:DatV K (rem [al] H3) (.ref sa) (.list (sheet.map pieDat)):=.list (d13.seq (SqL.of hsa)) (hSd.sameD d13)
  have nt3:H3 nt = some (.lst zs):=k3 (fun p z=>by cases z) (s2 _ _ hnt)
  have hN3:DatVs K (rem [al] H3) zs (notes.map noteDat):=hNd.sameD d13
  have nr3:SqL K (rem [al] H3) nr (ls.map fun k=>V.str (S k)):=d13.seq hnr
  have a3:SqL K (rem [al] H3) a (ns.map V.int):=d13.seq hA
  have nnt:nt ≠ al:=fun z=>by rw [z,hal] at hnt; cases hnt
  have rr:∀ {G G':Hp},Same G G'→Same (rem [al] G) (rem [al] G'):=fun sm=>rem_le sm
  refine fun x dx hx hdx nxd=>?_
  have g0:∀ {b:Addr} {u:HO},H3 b = some u→b ≠ x∧b ≠ dx:=fun e=>⟨(fun z=>by rw [z,hx] at e; cases e),(fun z=>by rw [z,hdx] at e; cases e)⟩
  have s7:Same H3 (upd (upd H3 dx (.own x)) x (.ins C dx [])):=fun b u e=>by rw [upd_ne (g0 e).1,upd_ne (g0 e).2]; exact e
  have h7:upd (upd H3 dx (.own x)) x (.ins C dx []) x = some (.ins C dx []):=upd_same
  generalize upd (upd H3 dx (.own x)) x (.ins C dx []) = H7 at s7 h7 ⊢
  refine ⟨x,dx,nt,fa,zs,rfl,h7,SqL.of (s7 _ _ nt3),fun H8 n2 jd k8 n20 hn2 hjd hx8=>⟨rfl,?_⟩⟩
  have s38:Same H3 H8:=fun b u e=>k8 b u (g0 e).1 (s7 _ _ e)
  refine fun rd hrd=>?_
  have s9:Same H8 (upd H8 rd (.dK [])):=same_new hrd
  have h9:upd H8 rd (.dK []) rd = some (.dK []):=upd_same
  generalize upd H8 rd (.dK []) = H9 at s9 h9 ⊢
  have s39:=s38.trans s9
  have n2l:n2 ≠ al:=fun z=>by rw [z,s7 _ _ h3] at n20; cases n20
  have al9:=s39 _ _ h3
  have hN9:=hN3.same (rr s39)
  have I9:AnsI K C H9 (closOf (envOfC "law" (defScope st_law) s.heap.objs.size f (.ref c_law)) (defScope st_law__law_judge).names []) x dx n2 fa al nt rd notes (fun _=>none) :=
    ⟨⟨jd,0,s9 _ _ hx8,⟨[],s9 _ _ hjd,Nat.le_refl _,(fun _ _=>rfl),(fun m e z=>by cases z)⟩⟩,made_kn hM fun b o k=>s39 _ _ k,⟨[],[],al9,.nil⟩,.list (SqL.of (by rw [rem_out (fun m=>nnt (List.mem_singleton.mp m))]; exact s39 _ _ nt3)) hN9,.list (SqL.of (by rw [rem_out (fun m=>n2l (List.mem_singleton.mp m))]; exact s9 _ _ hn2)) hN9,⟨[],h9,(fun _ _=>rfl),(fun m e z=>by cases z)⟩,(fun m e z=>by cases z)⟩
  have x9:=s9 _ _ hx8
  refine ⟨fun i hi=>?_,?_⟩
  · rw [List.mem_singleton.mp hi]; exact ⟨_,rfl⟩
  refine I9.step (hg.rk hls (by lia) hno) (hS3.same (rr s39)) sc.nd (i:=14) rfl rfl fun G rd2 kG IG=>?_
  have dG:SameD (rem [al] H9) (rem [al] G):=.of fun b u _ n2 _ _ e=>by
    have nb:b ∉ [al]:=fun m=>by rw [rem_in m] at e; cases e
    rw [rem_out nb] at e ⊢
    exact kG b u (fun z=>nb (by rw [z]; exact List.mem_singleton.mpr rfl)) (fun z=>by rw [z,x9] at e; exact n2 _ _ _ (Option.some.inj e).symm) e
  have d3G:=(SameD.same (rr s39)).trans dG
  have hSG:=hS3.sameD d3G
  have nrG:=d3G.seq nr3
  have aG:=d3G.seq a3
  clear I9 x9 kG dG d3G hS3 nr3 a3 hN9 al9 hM hN3
  obtain ⟨ms,em,hm60⟩:=cut_4 ns
  have rs:∀ {G:Hp},Same (rem [al] G) G:=fun b u e=>rem_same b u e
  refine .inl ⟨_,rs.seq aG,fun ll hll=>?_⟩
  rw [em]
  have s10:Same G (upd G ll (.lst (ms.map V.int))):=same_new hll
  have h10:upd G ll (.lst (ms.map V.int)) ll = some (.lst (ms.map V.int)):=upd_same
  obtain ⟨ysG,asG,alG,_⟩:=IG.ask
  obtain ⟨jdG,nG,xG,_⟩:=IG.ins
  have nll:ll ≠ al:=fun z=>by rw [z,alG] at hll; cases hll
  have nlx:ll ≠ x:=fun z=>by rw [z,xG] at hll; cases hll
  generalize upd G ll (.lst (ms.map V.int)) = H10 at s10 h10 ⊢
  refine .inl ⟨⟨_, SqL.of h10⟩, for_list (K := K) (a := ll) (xs := ms.map V.int) (fun i σ H' => ∃ (rd sr : Addr) (pv : Int → Option E3) (sh : List (Int × List Rw)) (v11 v12 : Option V), AnsI K C H' (closOf (envOfC "law" (defScope st_law) s.heap.objs.size f (.ref c_law)) (defScope st_law__law_judge).names []) x dx n2 fa al nt rd notes pv ∧ H' ll = some (.lst (ms.map V.int)) ∧ SqL K (rem [al] H') nr (ls.map fun k => V.str (S k)) ∧
      DatV K (rem [al] H') (.ref sr) (.list (sh.map pieDat))∧ShG ls sh∧sh.length ≤ 6∧MkR fi (fi + 100 * ((11 + i:Nat):Int) * st) (mks sh) ∧
      σ = [some (.ref a),some (.ref nr),some (.ref nt),some (.int fi),some (.int st),v5,some (.ref sr),some (.ref fa),some (.ref x),some (.ref rd),some (.int (i:Nat)),v11,v12,none,some (.ref al)])
    ⟨rd2,sa,_,sheet,none,v12,IG.grow s10,h10,(rr s10).seq nrG,hSG.same (rr s10),hg,hl6,hmk,rfl⟩ (fun i σ H' _ h=>by obtain ⟨_,_,_,_,_,_,_,h,_⟩:=h; exact SqL.of h) ?_ ?_⟩
  · rintro i y σ H' hy ⟨rd,sr,pv,sh,v11,v12,I,hll',hnr',hS',hg',hl',hmk',rfl⟩
    rw [List.getElem?_map] at hy
    obtain ⟨cell,rfl⟩:∃ c:Int,y = .int c:=by
      cases z:ms[i]? with
      | none=>rw [z] at hy; cases hy
      | some y=>rw [z] at hy; exact ⟨y,(Option.some.inj hy).symm⟩
    obtain ⟨jd0,n0,x0,_⟩:=I.ins
    obtain ⟨ys0,as0,al0,_⟩:=I.ask
    refine ⟨⟨by decide,by decide⟩,?_⟩
    refine ⟨.inl ⟨by decide,by decide⟩,.inr ⟨by lia,by lia⟩,?_⟩
    refine ⟨_,_,st,nr,ls,[al],rfl,rs.seq hnr',by rw [hls.len]; decide,by rw [hls.len]; decide,(fun c hc=>by rw [List.mem_singleton.mp hc]; exact ⟨_,al0⟩),fun H6 rp rs6 rows s6 hrp hrn hrd hrl hrk hnod hmr=>?_⟩
    refine ⟨sr,nr,rp,_,ls,sh,rs6,rows,[al],rfl,(fun c hc=>by rw [List.mem_singleton.mp hc]; exact ⟨_,s6 _ _ al0⟩),hS'.same (rr s6),(rr s6).seq hnr',SqL.of (by rw [rem_out hrn]; exact hrp),hrd,hls,hg',by lia,⟨hrl,hrk,hnod⟩,fun H7 p ys3 sh3 s7 p0 hp hd3 hg3 hed=>?_⟩
    refine .inl ⟨_,SqL.of hp,fun p8 hp8=>?_⟩
    rw [cut_6]
    have s8:Same H7 (upd H7 p8 (.lst (ys3.take 6))):=same_new hp8
    have h8:upd H7 p8 (.lst (ys3.take 6)) p8 = some (.lst (ys3.take 6)):=upd_same
    have n8:p8 ∉ [al]:=fun m=>by rw [List.mem_singleton.mp m,s7 _ _ (s6 _ _ al0)] at hp8; cases hp8
    generalize upd H7 p8 (.lst (ys3.take 6)) = H8' at s8 h8 ⊢
    have s68:=(s6.trans s7).trans s8
    have mk2:MkR fi (fi + 100 * ((11 + (i + 1):Nat):Int) * st) (mks sh3):=by
      have e1:(100:Int) * (10 + (((i:Nat):Int) + 1)) = 100 * ((11 + i:Nat):Int):=by lia
      have e2:fi + 100 * ((11 + (i + 1):Nat):Int) * st = fi + 100 * ((11 + i:Nat):Int) * st + 100 * st:=by rw [show (100:Int) * ((11 + (i + 1):Nat):Int) = 100 * ((11 + i:Nat):Int) + 100 by lia,Int.add_mul]; lia
      have e3:0 ≤ 100 * ((11 + i:Nat):Int) * st:=Int.mul_nonneg (by lia) (by lia)
      have hm:=hmr st0
      rw [e1,← e2] at hm
      exact hed.mrk hmk' hm (by lia) (by lia) (by lia)
    have hS8:DatV K (rem [al] H8') (.ref p8) (.list ((sh3.take 6).map pieDat)):=.list (SqL.of (by rw [rem_out n8]; exact h8)) (by rw [List.map_take]; exact datvs_take _ (hd3.same (rr s8)))
    have hl6':(sh3.take 6).length ≤ 6:=by rw [List.length_take]; lia
    refine hq3 _ H8' a nr nt p8 fa x dx n2 al rd cell pv (sh3.take 6) notes _ _ _ _ _ (I.grow s68) hS8 ((hg3.take 6).rk hls (by lia) hno) fun H2 rd2 pv2 k2 d2 I2=>?_
    exact ⟨rd2,p8,pv2,sh3.take 6,_,_,I2,k2 _ _ nll nlx (s68 _ _ hll'),d2.seq ((rr s68).seq hnr'),hS8.sameD d2,hg3.take 6,hl6',mk2.take 6,rfl⟩
  · rintro σ H' ⟨rd,sr,pv,sh,v11,v12,I,hll',hnr',hS',hg',hl',hmk',rfl⟩
    exact hq12 H' a nr nt sr fa x dx n2 al rd pv sh notes _ _ _ _ _ _ _ _ I hS' (hg'.rk hls (by lia) hno) hmk'
end
end K75
namespace K75
open PySem PySem.Spec PyProof.Rows L2 Rg
section
variable {P:Program} {w:World} {K:PySem.W.Frag} {mg:Str→Option Value} {base:Heap} {C c_law P_law:Addr}
theorem def_law (TC : ClsT K mg C) (T : Txt K w mg) (R : RawC K mg "law" st_law ["_law_script"] c_law P_law) (B : BMain mg base) (D__law_cell_at : Def P w K mg base 1 "_law_cell_at" ["_law_script", "_law_k"] (spCell K)) (D__law_names : Def P w K mg base 1 "_law_names" ["_law_cell", "_law_many"] (spNames K)) (D__law_notes : Def P w K mg base 1 "_law_notes" ["_law_cell"] (spNotes K))
    (D__law_rows:Def P w K mg base 1 "_law_rows" ["_law_cell","_law_names_here","_law_first","_law_step_here"] (spRows K)) (D__law_sheet:Def P w K mg base 2 "_law_sheet" ["_law_cells","_law_names_here","_law_first","_law_step_here"] (spSht K)) (D__law_edited:Def P w K mg base 2 "_law_edited" ["_law_sheet_here","_law_cell","_law_names_here","_law_rows_here"] (spEd K))
    (DM_Answers___init__:DefM P w K mg base 1 C "__init__" ["self","notes","judge"] (spInit K C)) (DM_Answers_reckon:DefM P w K mg base 4 C "reckon" ["self","sheet"] (spRk kfn K C)) (D__law_step:Def P w K mg base 6 "_law_step" ["_law_answers","_law_asked","_law_sheet_here","_law_notes_here","_law_record"] (spStep K C)):Def P w K mg base 7 "law" ["_law_script"] (spLaw P_law K):=by
  refine R.defJ sc_law (fun vs H Q E h=>?_) (fun f A outer s H vs Q E hr h=>?_)
  · obtain ⟨a,ns,rfl,_⟩:=h
    rfl
  · obtain ⟨a,ns,rfl,hS,hn,hTb,q⟩:=h
    have sc:=sc_law
    have hu:=hr.units
    have hb:=big
    obtain ⟨u6,hP6,hq6⟩:=mid_law (outer:=outer) (H:=H) (E:=E) TC T R B DM_Answers___init__ DM_Answers_reckon D__law_step D__law_rows D__law_edited hr q
    refine ⟨_,(jss_cons (js_set (i:=1) sc.nd rfl (Or.inl rfl) (j_def D__law_names (hr.mono (by decide)) rfl (ja_cons (j_def D__law_cell_at (hr.mono (by decide)) rfl (ja_cons (jn 0) (ja_cons j_int ja_nil))) (ja_cons j_int ja_nil))))
    (jss_cons (js_set (i:=2) sc.nd rfl (Or.inl rfl) (j_def D__law_notes (hr.mono (by decide)) rfl (ja_cons (j_def D__law_cell_at (hr.mono (by decide)) rfl (ja_cons (jn 0) (ja_cons j_int ja_nil))) ja_nil)))
    (jss_cons (js_set (i:=3) sc.nd rfl (Or.inl rfl) (j_op (o_add (K:=K)) j_int (j_op o_mod (j_def D__law_cell_at (hr.mono (by decide)) rfl (ja_cons (jn 0) (ja_cons j_int ja_nil))) (j_op o_pow j_int j_int))))
    (jss_cons (js_set (i:=4) sc.nd rfl (Or.inl rfl) (j_op (o_add (K:=K)) j_int (j_op o_mod (j_def D__law_cell_at (hr.mono (by decide)) rfl (ja_cons (jn 0) (ja_cons j_int ja_nil))) j_int)))
    (jss_cons (js_comp (i:=5) (N:=["_law_k","_law_script"]) (cap:=[none,some 0]) rfl (CompScope.of rfl (by rfl)) (ji_rng1 rfl T.n_range (ja_cons (j_op o_mod (j_op o_div (j_def D__law_cell_at (hr.mono (by decide)) rfl (ja_cons (jn 0) (ja_cons j_int ja_nil))) j_int) j_int) ja_nil)) (fun _ _ _ _=>(jg_name (i:=0) (show List.Nodup [("_law_k":Str),("_law_script":Str)] by decide +kernel) rfl (Or.inl rfl))) (fun _ _ _ _=>jts_nil) (fun _ _ _ _=>(j_op o_div (j_def D__law_cell_at (hr.mono (by decide)) rfl (ja_cons (jn 1) (ja_cons (j_op (o_add (K:=K)) j_int (jn 0)) ja_nil))) j_int)) sc.nd rfl rfl)
    (jss_cons (js_set (i:=6) sc.nd rfl (Or.inl rfl) (j_def D__law_sheet (hr.mono (by decide)) rfl (ja_cons (jn 5) (ja_cons (jn 1) (ja_cons (jn 3) (ja_cons (jn 4) ja_nil))))))
    hP6)))))),?_⟩
    refine ⟨a,ns,0,rfl,hS,?_⟩
    refine ⟨_,3,rfl,by decide,fun H1 nr s1 _ hnr=>?_⟩
    have hnr':H1 nr = some (.lst (((List.range 3).map (nameL (ns.getD 0 0))).map fun k=>V.str (S k))):=by rw [hnr,List.map_map]; rfl
    have hls:LsG ((List.range 3).map (nameL (ns.getD 0 0))):=by
      refine ⟨by simp,fun l hl c hc=>?_,fun l hl=>?_⟩
      · obtain ⟨k,_,rfl⟩:=List.mem_map.mp hl
        exact let_ok (nameL_let _ _ c hc)
      · obtain ⟨k,_,rfl⟩:=List.mem_map.mp hl
        rw [nameL_len]
        unfold nmSz
        lia
    generalize (List.range 3).map (nameL (ns.getD 0 0)) = ls at hnr' hls
    clear hnr
    refine ⟨a,ns,1,rfl,s1.seq hS,?_⟩
    refine ⟨_,rfl,fun H2 nt zs notes s2 hnt hnd hno=>?_⟩
    have s12:=s1.trans s2
    refine ⟨a,ns,2,rfl,s12.seq hS,⟨by decide,by decide,by decide⟩,by decide +kernel,?_⟩
    obtain ⟨fi,hfi⟩:∃ fi,fi = 1 + ns.getD 2 0 % (10:Int) ^ ((59:Int).toNat):=⟨_,rfl⟩
    refine ⟨a,ns,3,rfl,s12.seq hS,by decide,?_⟩
    obtain ⟨st,hst⟩:∃ st,st = 1 + ns.getD 3 0 % 1000:=⟨_,rfl⟩
    have hst0:0 < st∧st ≤ 1000:=by rw [hst]; lia
    refine ⟨a,ns,3,rfl,s12.seq hS,⟨by decide,by decide⟩,by decide,?_⟩
    obtain ⟨m,em,hm4⟩:∃ m:Nat,ns.getD 3 0 / 1000 % 5 = ((m:Nat):Int)∧m ≤ 4:=⟨(ns.getD 3 0 / 1000 % 5).toNat,by lia,by lia⟩
    rw [em]
    refine ⟨by lia,by lia,?_⟩
    refine gath_range (n:=((m:Nat):Int).toNat) (fun t zs σ' H'=>H' = H2∧(∃ ms:List Int,zs = ms.map V.int∧ms.length = t)∧∃ v,σ' = [v,some (.ref a)]) (by lia) ⟨rfl,⟨[],rfl,rfl⟩,_,rfl⟩ (fun t zs σ' H' h=>by obtain ⟨_,⟨ms,e1,e2⟩,_⟩:=h; rw [e1,List.length_map,e2]; exact Nat.le_refl _) ?_ ?_
    · rintro t zs σ' H' ht ⟨rfl,⟨ms,rfl,hml⟩,v,rfl⟩
      have e4t:(4:Int) + (0 + ((t:Nat):Int)) = ((4 + t:Nat):Int):=by lia
      refine ⟨a,ns,4 + t,congrArg (fun z=>[V.ref a,V.int z]) e4t,s12.seq hS,?_⟩
      refine ⟨⟨by decide,by decide⟩,rfl,⟨ms ++ [ns.getD (4 + t) 0 / 11],?_,?_⟩,_,rfl⟩
      · rw [List.map_append]; rfl
      · rw [List.length_append,hml]; rfl
    · rintro zs σ' H' ⟨rfl,⟨ms,rfl,hml⟩,v,rfl⟩
      rw [Int.toNat_natCast] at hml
      refine fun cp hcp=>?_
      have s4:Same H' (upd H' cp (.lst (ms.map V.int))):=same_new hcp
      have h4:upd H' cp (.lst (ms.map V.int)) cp = some (.lst (ms.map V.int)):=upd_same
      generalize upd H' cp (.lst (ms.map V.int)) = H4 at s4 h4 ⊢
      refine ⟨cp,nr,_,_,ms,ls,rfl,SqL.of h4,by lia,SqL.of (s4 _ _ (s2 _ _ hnr')),hls,fun H5 sa ys sheet s5 sa0 hsa hSd hg hsl hmk=>?_⟩
      have s15:=(s12.trans s4).trans s5
      have s25:=s4.trans s5
      rw [← hst,← hfi] at hmk
      have hmk2:MkR fi (fi + 100 * ((11:Nat):Int) * st) (mks sheet):=(hmk hst0.1).mono (Int.le_refl _) (by
        have:100 * ((sheet.length:Nat):Int) * st ≤ 100 * ((11:Nat):Int) * st:=Int.mul_le_mul_of_nonneg_right (by lia) (by lia)
        lia)
      have key:=hq6 H5 a nr nt sa ns fi st ys zs ls sheet notes (some (.ref cp)) none (Rg.TabOk.grow hTb s15) (s15.seq hS) (SqL.of (s25 _ _ (s2 _ _ hnr'))) hls hst0.1 hst0.2 hsa hSd hg (by lia) hmk2 (s25 _ _ hnt) (hnd.same s25) hno
      rw [hfi,hst] at key
      exact key
structure ClsA (K:PySem.W.Frag) (mg:Str→Option Value) (C:Addr):Prop where
  tc:ClsT K mg C
  m0:RawM K C "__init__" "Answers.__init__" st_Answers___init__ ["self","notes","judge"]
  m1:RawM K C "reckon" "Answers.reckon" st_Answers_reckon ["self","sheet"]
  m2:RawM K C "name_asked" "Answers.name_asked" st_Answers_name_asked ["self","rule","parts"]
  m3:RawM K C "judged_row" "Answers.judged_row" st_Answers_judged_row ["self","mark","rule","given","found"]
theorem cls_mk {h : Heap} (X : K.In h) (G : h.Ns mainGlobals mg) (a : PySem.W.nsIn K mainGlobals "Answers" = some (some (.ref C))) (pg : PySem.W.plainGet K C Str.empty = true) (hd : PySem.W.hasDictIn K C = true) (po : PySem.W.plainOver K C = true) (sa : PySem.W.findIn K (.ref C) "__setattr__" = some (some (.builtin "object.__setattr__")))
    (n1:PySem.W.findIn K (.ref C) "notes" = some none) (n2:PySem.W.findIn K (.ref C) "judge" = some none) (n3:PySem.W.findIn K (.ref C) "judged" = some none) (mk:PySem.W.makesIn K C = true) (kp:PySem.W.keepIn K (.ref C) = true):ClsT K mg C :=
  ⟨⟨pg,hd,po,sa⟩,n1,n2,n3,⟨PySem.W.mg_of X G a,mk,kp⟩⟩
theorem law_of (R0 : Raw K mg "names_bound" st_names_bound ["sheet", "notes"]) (R1 : Raw K mg "holders_of" st_holders_of ["sheet", "number"]) (R2 : Raw K mg "last_seen" st_last_seen ["sheet", "places", "number", "holders"])
    (R3:Raw K mg "_law_cell_at" st__law_cell_at ["_law_script","_law_k"]) (R4:Raw K mg "_law_names" st__law_names ["_law_cell","_law_many"]) (R5:Raw K mg "_law_notes" st__law_notes ["_law_cell"]) (R6:Raw K mg "_law_rows" st__law_rows ["_law_cell","_law_names_here","_law_first","_law_step_here"])
    (R7:Raw K mg "_law_bound_in" st__law_bound_in ["_law_rows_here","_law_notes_here","_law_name"]) (R8:Raw K mg "_law_sees" st__law_sees ["_law_sheet_here","_law_number","_law_other"]) (R9:Raw K mg "_law_binder" st__law_binder ["_law_sheet_here","_law_notes_here","_law_number","_law_name"])
    (R10:Raw K mg "_law_kind" st__law_kind ["_law_rule","_law_given","_law_found_here"]) (R11:Raw K mg "_law_copied" st__law_copied ["_law_sheet_here"]) (R12:Raw K mg "_law_holder" st__law_holder ["_law_sheet_here","_law_number"]) (R13:Raw K mg "_law_found" st__law_found ["_law_sheet_here","_law_notes_here","_law_number","_law_row","_law_kinds"])
    (R14:Raw K mg "_law_sheet" st__law_sheet ["_law_cells","_law_names_here","_law_first","_law_step_here"]) (R15:Raw K mg "_law_renamed" st__law_renamed ["_law_rows_here","_law_name","_law_other"]) (R16:Raw K mg "_law_edited" st__law_edited ["_law_sheet_here","_law_cell","_law_names_here","_law_rows_here"])
    (R17:Raw K mg "_law_step" st__law_step ["_law_answers","_law_asked","_law_sheet_here","_law_notes_here","_law_record"]) (R18:RawC K mg "law" st_law ["_law_script"] c_law P_law) (B:BMain mg base) (T:Txt K w mg) (Z:ClsA K mg C):Def P w K mg base 7 "law" ["_law_script"] (spLaw P_law K):=by
  obtain ⟨TC,M0,M1,M2,M3⟩:=Z
  have Dk:Def P w K mg base 1 "_law_kind" ["_law_rule","_law_given","_law_found_here"] (spKind K):=def_kind R10 T
  have Dr:=def_rows (P:=P) (w:=w) (base:=base) R6 T
  have Dh:=def_holr (P:=P) (w:=w) (base:=base) R12 T
  have Drk:=def_rk TC T M1 (def_nb R0 T) (def_hold R1 T) (def_seen R2 T) (def_na TC M2) (def_jr TC T M3 (fv_judge T Dk))
  exact def_law TC T R18 B (def_cell R3 T) (def_names R4 T) (def_notes R5 T) Dr (def_sht R14 T Dr Dh) (def_ed R16 T Dh (def_ren R15 T)) (def_init TC T M0) Drk
    (def_st TC T R17 (def_cpy R11 T) Drk (def_fnd R13 T (def_bdr R9 T (def_bin R7 T) (def_sees R8 T))) Dk)
theorem law_start {H:Hp} {a:Addr} {ns:List Int} {Pt:Addr} (hl:ns.length ≤ 63) (hO:∀ q ∈ [Pt],H q = some (.tbl #[])) (hS:SqL K H a (ns.map V.int)):spLaw Pt K [.ref a] H (fun v _=>v = .bl true) fun _ _ _=>False :=
  ⟨a,ns,rfl,hS,hl,Rg.TabOk.start (hO _ List.mem_cons_self),fun _=>rfl⟩
end
end K75
open PySem PySem.W PyProof.Rows
namespace L2
theorem ofLen0 {p:List Value→Prop} (h:Unit→p []):∀ us,us.length = 0→p us:=fun us e=>by rw [List.length_eq_zero_iff.mp e]; exact h ()
theorem ofLen1 {p:List Value→Prop} (h:∀ a,p [a]):∀ us,us.length = 1→p us:=fun us e=>by obtain ⟨a,rfl⟩:=List.length_eq_one_iff.mp e; exact h a
theorem ofLen2 {p:List Value→Prop} (h:∀ a b,p [a,b]):∀ us,us.length = 2→p us:=fun us e=>match us with
  | []=>by cases e
  | a :: r=>ofLen1 (p:=fun z=>p (a :: z)) (h a) r (Nat.succ.inj e)
theorem ofLen3 {p:List Value→Prop} (h:∀ a b c,p [a,b,c]):∀ us,us.length = 3→p us:=fun us e=>match us with
  | []=>by cases e
  | a :: r=>ofLen2 (p:=fun z=>p (a :: z)) (h a) r (Nat.succ.inj e)
theorem ofLen4 {p:List Value→Prop} (h:∀ a b c d,p [a,b,c,d]):∀ us,us.length = 4→p us:=fun us e=>match us with
  | []=>by cases e
  | a :: r=>ofLen3 (p:=fun z=>p (a :: z)) (h a) r (Nat.succ.inj e)
theorem ofLen5 {p:List Value→Prop} (h:∀ a b c d e,p [a,b,c,d,e]):∀ us,us.length = 5→p us:=fun us e=>match us with
  | []=>by cases e
  | a :: r=>ofLen4 (p:=fun z=>p (a :: z)) (h a) r (Nat.succ.inj e)
theorem ofLen6 {p:List Value→Prop} (h:∀ a b c d e f,p [a,b,c,d,e,f]):∀ us,us.length = 6→p us:=fun us e=>match us with
  | []=>by cases e
  | a :: r=>ofLen5 (p:=fun z=>p (a :: z)) (h a) r (Nat.succ.inj e)
theorem ofLen7 {p:List Value→Prop} (h:∀ a b c d e f g,p [a,b,c,d,e,f,g]):∀ us,us.length = 7→p us:=fun us e=>match us with
  | []=>by cases e
  | a :: r=>ofLen6 (p:=fun z=>p (a :: z)) (h a) r (Nat.succ.inj e)
theorem ofLen8 {p:List Value→Prop} (h:∀ a b c d e f g h,p [a,b,c,d,e,f,g,h]):∀ us,us.length = 8→p us:=fun us e=>match us with
  | []=>by cases e
  | a :: r=>ofLen7 (p:=fun z=>p (a :: z)) (h a) r (Nat.succ.inj e)
end L2
set_option maxRecDepth 100000 in
set_option maxHeartbeats 0 in
theorem PySem.Challenge.cw_regrowth_k75_whole_sheets_in_a_row_holds : PySem.Challenge.rw_regrowth_k75_whole_sheets_in_a_row.Holds := by
  w_on; o_law; k_head; (case hw=>w_witness2)
  k_fill
  refine L2.walk_of2 (l:=PySem.Challenge.rw_regrowth_k75_whole_sheets_in_a_row) (n:=63) (k:=7) (x:="_law_script") (CX:=L2.CX0) (sp:=K75.spLaw 174) [174] rfl (by decide) rfl ⟨rfl,by decide,by decide,rfl⟩ (fun w h Y=>PySem.W.km_in_of Y) ?TT ?NT ?F ?S ?C
  case F =>
    intro w mg fa h KX G hmg
    have R0:L2.Raw (L2.KOf KX) mg "names_bound" K75.st_names_bound ["sheet","notes"]:=by
      dsimp only [L2.KOf]
      refine' L2.Raw.mk' KX G ?a0 ?l0 ?c0 ?k0 ?b0
      (case a0=>k_is)
      (case l0=>k_is)
      (case c0=>k_is)
      (case k0=>k_is)
      exact L2.ofLen2 fun _ _=>rfl
    have R1:L2.Raw (L2.KOf KX) mg "holders_of" K75.st_holders_of ["sheet","number"]:=by
      dsimp only [L2.KOf]
      refine' L2.Raw.mk' KX G ?a1 ?l1 ?c1 ?k1 ?b1
      (case a1=>k_is)
      (case l1=>k_is)
      (case c1=>k_is)
      (case k1=>k_is)
      exact L2.ofLen2 fun _ _=>rfl
    have R2:L2.Raw (L2.KOf KX) mg "last_seen" K75.st_last_seen ["sheet","places","number","holders"]:=by
      dsimp only [L2.KOf]
      refine' L2.Raw.mk' KX G ?a2 ?l2 ?c2 ?k2 ?b2
      (case a2=>k_is)
      (case l2=>k_is)
      (case c2=>k_is)
      (case k2=>k_is)
      exact L2.ofLen4 fun _ _ _ _=>rfl
    have R3:L2.Raw (L2.KOf KX) mg "_law_cell_at" K75.st__law_cell_at ["_law_script","_law_k"]:=by
      dsimp only [L2.KOf]
      refine' L2.Raw.mk' KX G ?a3 ?l3 ?c3 ?k3 ?b3
      (case a3=>k_is)
      (case l3=>k_is)
      (case c3=>k_is)
      (case k3=>k_is)
      exact L2.ofLen2 fun _ _=>rfl
    have R4:L2.Raw (L2.KOf KX) mg "_law_names" K75.st__law_names ["_law_cell","_law_many"]:=by
      dsimp only [L2.KOf]
      refine' L2.Raw.mk' KX G ?a4 ?l4 ?c4 ?k4 ?b4
      (case a4=>k_is)
      (case l4=>k_is)
      (case c4=>k_is)
      (case k4=>k_is)
      exact L2.ofLen2 fun _ _=>rfl
    have R5:L2.Raw (L2.KOf KX) mg "_law_notes" K75.st__law_notes ["_law_cell"]:=by
      dsimp only [L2.KOf]
      refine' L2.Raw.mk' KX G ?a5 ?l5 ?c5 ?k5 ?b5
      (case a5=>k_is)
      (case l5=>k_is)
      (case c5=>k_is)
      (case k5=>k_is)
      exact L2.ofLen1 fun _=>rfl
    have R6:L2.Raw (L2.KOf KX) mg "_law_rows" K75.st__law_rows ["_law_cell","_law_names_here","_law_first","_law_step_here"]:=by
      dsimp only [L2.KOf]
      refine' L2.Raw.mk' KX G ?a6 ?l6 ?c6 ?k6 ?b6
      (case a6=>k_is)
      (case l6=>k_is)
      (case c6=>k_is)
      (case k6=>k_is)
      exact L2.ofLen4 fun _ _ _ _=>rfl
    have R7:L2.Raw (L2.KOf KX) mg "_law_bound_in" K75.st__law_bound_in ["_law_rows_here","_law_notes_here","_law_name"]:=by
      dsimp only [L2.KOf]
      refine' L2.Raw.mk' KX G ?a7 ?l7 ?c7 ?k7 ?b7
      (case a7=>k_is)
      (case l7=>k_is)
      (case c7=>k_is)
      (case k7=>k_is)
      exact L2.ofLen3 fun _ _ _=>rfl
    have R8:L2.Raw (L2.KOf KX) mg "_law_sees" K75.st__law_sees ["_law_sheet_here","_law_number","_law_other"]:=by
      dsimp only [L2.KOf]
      refine' L2.Raw.mk' KX G ?a8 ?l8 ?c8 ?k8 ?b8
      (case a8=>k_is)
      (case l8=>k_is)
      (case c8=>k_is)
      (case k8=>k_is)
      exact L2.ofLen3 fun _ _ _=>rfl
    have R9:L2.Raw (L2.KOf KX) mg "_law_binder" K75.st__law_binder ["_law_sheet_here","_law_notes_here","_law_number","_law_name"]:=by
      dsimp only [L2.KOf]
      refine' L2.Raw.mk' KX G ?a9 ?l9 ?c9 ?k9 ?b9
      (case a9=>k_is)
      (case l9=>k_is)
      (case c9=>k_is)
      (case k9=>k_is)
      exact L2.ofLen4 fun _ _ _ _=>rfl
    have R10:L2.Raw (L2.KOf KX) mg "_law_kind" K75.st__law_kind ["_law_rule","_law_given","_law_found_here"]:=by
      dsimp only [L2.KOf]
      refine' L2.Raw.mk' KX G ?a10 ?l10 ?c10 ?k10 ?b10
      (case a10=>k_is)
      (case l10=>k_is)
      (case c10=>k_is)
      (case k10=>k_is)
      exact L2.ofLen3 fun _ _ _=>rfl
    have R11:L2.Raw (L2.KOf KX) mg "_law_copied" K75.st__law_copied ["_law_sheet_here"]:=by
      dsimp only [L2.KOf]
      refine' L2.Raw.mk' KX G ?a11 ?l11 ?c11 ?k11 ?b11
      (case a11=>k_is)
      (case l11=>k_is)
      (case c11=>k_is)
      (case k11=>k_is)
      exact L2.ofLen1 fun _=>rfl
    have R12:L2.Raw (L2.KOf KX) mg "_law_holder" K75.st__law_holder ["_law_sheet_here","_law_number"]:=by
      dsimp only [L2.KOf]
      refine' L2.Raw.mk' KX G ?a12 ?l12 ?c12 ?k12 ?b12
      (case a12=>k_is)
      (case l12=>k_is)
      (case c12=>k_is)
      (case k12=>k_is)
      exact L2.ofLen2 fun _ _=>rfl
    have R13:L2.Raw (L2.KOf KX) mg "_law_found" K75.st__law_found ["_law_sheet_here","_law_notes_here","_law_number","_law_row","_law_kinds"]:=by
      dsimp only [L2.KOf]
      refine' L2.Raw.mk' KX G ?a13 ?l13 ?c13 ?k13 ?b13
      (case a13=>k_is)
      (case l13=>k_is)
      (case c13=>k_is)
      (case k13=>k_is)
      exact L2.ofLen5 fun _ _ _ _ _=>rfl
    have R14:L2.Raw (L2.KOf KX) mg "_law_sheet" K75.st__law_sheet ["_law_cells","_law_names_here","_law_first","_law_step_here"]:=by
      dsimp only [L2.KOf]
      refine' L2.Raw.mk' KX G ?a14 ?l14 ?c14 ?k14 ?b14
      (case a14=>k_is)
      (case l14=>k_is)
      (case c14=>k_is)
      (case k14=>k_is)
      exact L2.ofLen4 fun _ _ _ _=>rfl
    have R15:L2.Raw (L2.KOf KX) mg "_law_renamed" K75.st__law_renamed ["_law_rows_here","_law_name","_law_other"]:=by
      dsimp only [L2.KOf]
      refine' L2.Raw.mk' KX G ?a15 ?l15 ?c15 ?k15 ?b15
      (case a15=>k_is)
      (case l15=>k_is)
      (case c15=>k_is)
      (case k15=>k_is)
      exact L2.ofLen3 fun _ _ _=>rfl
    have R16:L2.Raw (L2.KOf KX) mg "_law_edited" K75.st__law_edited ["_law_sheet_here","_law_cell","_law_names_here","_law_rows_here"]:=by
      dsimp only [L2.KOf]
      refine' L2.Raw.mk' KX G ?a16 ?l16 ?c16 ?k16 ?b16
      (case a16=>k_is)
      (case l16=>k_is)
      (case c16=>k_is)
      (case k16=>k_is)
      exact L2.ofLen4 fun _ _ _ _=>rfl
    have R17:L2.Raw (L2.KOf KX) mg "_law_step" K75.st__law_step ["_law_answers","_law_asked","_law_sheet_here","_law_notes_here","_law_record"]:=by
      dsimp only [L2.KOf]
      refine' L2.Raw.mk' KX G ?a17 ?l17 ?c17 ?k17 ?b17
      (case a17=>k_is)
      (case l17=>k_is)
      (case c17=>k_is)
      (case k17=>k_is)
      exact L2.ofLen5 fun _ _ _ _ _=>rfl
    have R18:∃ c,L2.RawC (L2.KOf KX) mg "law" K75.st_law ["_law_script"] c 174:=by
      dsimp only [L2.KOf]
      refine' Exists.intro _ (L2.RawC.mk' KX G ?a18 ?l18 ?c18 ?k18 ?h18 ?b18)
      (case a18=>k_is)
      (case l18=>k_is)
      (case c18=>k_is)
      (case k18=>k_is)
      (case h18=>kernel_rfl)
      exact L2.ofLen1 fun _=>rfl
    obtain ⟨c_18,R18⟩:=R18
    have n_len:mg "len" = none:=PySem.W.mg_none_of KX G (by k_is)
    have n_range:mg "range" = none:=PySem.W.mg_none_of KX G (by k_is)
    have n_isinstance:mg "isinstance" = none:=PySem.W.mg_none_of KX G (by k_is)
    have n_int:mg "int" = none:=PySem.W.mg_none_of KX G (by k_is)
    have n_bool:mg "bool" = none:=PySem.W.mg_none_of KX G (by k_is)
    have n_tuple:mg "tuple" = none:=PySem.W.mg_none_of KX G (by k_is)
    have n_enumerate:mg "enumerate" = none:=PySem.W.mg_none_of KX G (by k_is)
    have n_reversed:mg "reversed" = none:=PySem.W.mg_none_of KX G (by k_is)
    have n_list:mg "list" = none:=PySem.W.mg_none_of KX G (by k_is)
    have n_str:mg "str" = none:=PySem.W.mg_none_of KX G (by k_is)
    have n_ord:mg "ord" = none:=PySem.W.mg_none_of KX G (by k_is)
    have n_zip:mg "zip" = none:=PySem.W.mg_none_of KX G (by k_is)
    have n_max:mg "max" = none:=PySem.W.mg_none_of KX G (by k_is)
    have n_sum:mg "sum" = none:=PySem.W.mg_none_of KX G (by k_is)
    have T:K75.Txt (L2.KOf KX) w mg:=⟨n_len,n_range,n_isinstance,n_int,n_bool,n_tuple,n_enumerate,n_reversed,n_list,n_str,n_ord,n_zip,n_max,n_sum⟩
    have Z:∃ C,K75.ClsA (L2.KOf KX) mg C:=by
      dsimp only [L2.KOf]
      refine' Exists.intro _ (K75.ClsA.mk (K75.cls_mk KX G ?za ?zpg ?zhd ?zpo ?zsa ?zn1 ?zn2 ?zn3 ?zmk ?zkp) (L2.RawM.mk' ?a___init__ ?l___init__ ?c___init__ ?k___init__ ?f___init__ ?b___init__) (L2.RawM.mk' ?a_reckon ?l_reckon ?c_reckon ?k_reckon ?f_reckon ?b_reckon) (L2.RawM.mk' ?a_name_asked ?l_name_asked ?c_name_asked ?k_name_asked ?f_name_asked ?b_name_asked) (L2.RawM.mk' ?a_judged_row ?l_judged_row ?c_judged_row ?k_judged_row ?f_judged_row ?b_judged_row))
      (case za=>k_is)
      (case zpg=>k_is)
      (case zhd=>k_is)
      (case zpo=>k_is)
      (case zsa=>k_is)
      (case zn1=>k_is)
      (case zn2=>k_is)
      (case zn3=>k_is)
      (case zmk=>k_is)
      (case zkp=>k_is)
      (case a___init__=>k_is)
      (case l___init__=>k_is)
      (case c___init__=>k_is)
      (case k___init__=>k_is)
      (case f___init__=>k_is)
      (case b___init__=>exact L2.ofLen3 fun _ _ _=>rfl)
      (case a_reckon=>k_is)
      (case l_reckon=>k_is)
      (case c_reckon=>k_is)
      (case k_reckon=>k_is)
      (case f_reckon=>k_is)
      (case b_reckon=>exact L2.ofLen2 fun _ _=>rfl)
      (case a_name_asked=>k_is)
      (case l_name_asked=>k_is)
      (case c_name_asked=>k_is)
      (case k_name_asked=>k_is)
      (case f_name_asked=>k_is)
      (case b_name_asked=>exact L2.ofLen3 fun _ _ _=>rfl)
      (case a_judged_row=>k_is)
      (case l_judged_row=>k_is)
      (case c_judged_row=>k_is)
      (case k_judged_row=>k_is)
      (case f_judged_row=>k_is)
      (case b_judged_row=>exact L2.ofLen5 fun _ _ _ _ _=>rfl)
    obtain ⟨C,Z⟩:=Z
    have RL:=R18
    obtain ⟨f,fd,hf,Fu,hb⟩:=R18.ex
    have e0:=hmg.symm.trans hf
    cases e0
    refine ⟨(List.forall_mem_cons.mpr ⟨⟨_,RL.hd⟩,fun _ z=>nomatch z⟩),fd,fun s u=>?_,fun base kb nb bb=>(K75.law_of R0 R1 R2 R3 R4 R5 R6 R7 R8 R9 R10 R11 R12 R13 R14 R15 R16 R17 R18 bb T Z).at hf Fu.lk⟩
    exact .of_eq (hb [u] rfl)
  case TT=>exact fun w h Y q m=>PySem.W.km_tabs_of Y q m
  case NT=>intro P; kernel_rfl
  case S=>exact fun K H a ns hl hO hS=>K75.law_start hl hO hS
  case C=>exact fun _ _ _ _ z=>z
