import PyProof.Rows.All
import Wide.All
import OpenK.AllK
import Wide.FinOn
import Lean
import PyProof.EqAt
import PyProof.EqKinds
import PyProof.TupleCall
import PyProof.ListRange
import PyProof.ZipIter
import PyProof.Rows.ZipGen
import OpenK.KRaise
import OpenK.KOwn
import PyProof.ExcClass3
import PyProof.ExcBaseAll.ValueError
import PyProof.FString
import PyProof.FString4
import PyProof.StrLawsRepr
import PyProof.NsDelKeeps
import PyProof.Rows.Catch
import PyProof.ExcArgsOwn
import PyProof.ExcAttrAll.ValueError
import OpenK.KDescr
import KE.KIsAll
import KE.KLam
import PyProof.EnumMake
import PyProof.Rows.EnumRows
import PyProof.Rows.SeqMore2
import PyProof.AttrMissHeap
import KE.KDictOf
import KE.KRevIter
import KE.KDictLaws
import PyProof.ConsumeWalk
import PyProof.CallStr
import KE.KIntText
import PyProof.SetScanFacts
import PyProof.Rows.SetFrom
import PyProof.CollectWalk
import PyProof.FactsAll.set
import PyProof.SetRoads
import PyProof.CollectStr
import PyProof.Rows.SortShell
import PyProof.Rows.SortWalk
import PyProof.ReprRoads
import PyProof.AutoListH
import PyProof.AutoSeq1
import PyProof.P3Eq
import KE.KDictList
import PyProof.Draws
import PyProof.Rows.SortStr
import PyProof.StrLawsChain
import PyProof.StrBlockI
import PyProof.StrBlock2
import KE.RegKIsAll
import PySem.Challenge.RW_regrowth_k30_first_kinds
set_option Elab.async false
set_option linter.all false
set_option maxRecDepth 100000
namespace L2
open PySem PySem.Spec PyProof.Rows
abbrev Key:=Sum Int Str
def keyIs:Key→Value→Bool
 | .inl k,v=>Value.isInt k v
 | .inr x,v=>Value.isStrOf x v
def keyH (w:World):Key→Int
 | .inl k=>hashInt k
 | .inr x=>hashStr w x
theorem keyIs_shape:∀ {k:Key} {v:Value},keyIs k v = true→(∃ i t,k = Sum.inl i∧v = Value.int i t)∨(∃ x t,k = Sum.inr x∧v = Value.str x t)
 | .inl i,v,h=>by
  obtain ⟨t,e⟩:=Value.isInt_shape (k:=i) (v:=v) h
  exact .inl ⟨i,t,rfl,e⟩
 | .inr x,v,h=>by
  obtain ⟨t,e⟩:=Value.isStrOf_shape (x:=x) (v:=v) h
  exact .inr ⟨x,t,rfl,e⟩
theorem keyIs_int (i:Int) (t:Tok):keyIs (.inl i) (.int i t) = true:=by simp [keyIs,Value.isInt]
theorem keyIs_str (x:Str) (t:Tok):keyIs (.inr x) (.str x t) = true:=by simp [keyIs,Value.isStrOf]
theorem key_ll (a b:Int):decide ((Sum.inl a:Key) = Sum.inl b) = (a == b):=by
 by_cases e:a = b
 ·subst e; simp
 ·have h:¬ (Sum.inl a:Key) = Sum.inl b:=fun q=>e (Sum.inl.inj q)
  rw [decide_eq_false h]
  exact (beq_eq_false_iff_ne.mpr e).symm
theorem key_rr (a b:Str):decide ((Sum.inr a:Key) = Sum.inr b) = decide (a = b):=by
 by_cases e:a = b
 ·subst e; simp
 ·have h:¬ (Sum.inr a:Key) = Sum.inr b:=fun q=>e (Sum.inr.inj q)
  rw [decide_eq_false h,decide_eq_false e]
theorem key_lr (a:Int) (b:Str):decide ((Sum.inl a:Key) = Sum.inr b) = false:=decide_eq_false (fun q=>nomatch q)
theorem key_rl (a:Str) (b:Int):decide ((Sum.inr a:Key) = Sum.inl b) = false:=decide_eq_false (fun q=>nomatch q)
def mixKind (prog:Program) (w:World):PySem.KeyKind prog w Key where
 is:=keyIs
 hash:=keyH w
 inj:=fun v a b ha hb=>by
  rcases keyIs_shape ha with ⟨i,t,rfl,rfl⟩ | ⟨x,t,rfl,rfl⟩
  ·rcases keyIs_shape hb with ⟨j,u,rfl,e⟩ | ⟨y,u,rfl,e⟩
   ·injection e with e1 _; rw [e1]
   ·exact nomatch e
  ·rcases keyIs_shape hb with ⟨j,u,rfl,e⟩ | ⟨y,u,rfl,e⟩
   ·exact nomatch e
   ·injection e with e1 _; rw [e1]
 byValue:=fun k v h=>by
  rcases keyIs_shape h with ⟨i,t,rfl,rfl⟩ | ⟨x,t,rfl,rfl⟩ <;> rfl
 pyHash:=fun hv h=>by
  rcases keyIs_shape hv with ⟨i,t,rfl,rfl⟩ | ⟨x,t,rfl,rfl⟩
  ·exact wpAny_pyHash_int h
  ·exact wpAny_pyHash_str h
 eqBool:=fun hu hv h=>by
  rcases keyIs_shape hu with ⟨i,t,rfl,rfl⟩ | ⟨x,t,rfl,rfl⟩
  ·rcases keyIs_shape hv with ⟨j,u,rfl,rfl⟩ | ⟨y,u,rfl,rfl⟩
   ·rw [key_ll] at h; exact wpAny_eqBool_int h
   ·rw [key_lr] at h; exact SeqAt.EqAt.int_str i t y u _ _ _ _ h
  ·rcases keyIs_shape hv with ⟨j,u,rfl,rfl⟩ | ⟨y,u,rfl,rfl⟩
   ·rw [key_rl] at h; exact SeqAt.EqAt.str_int x t j u _ _ _ _ h
   ·rw [key_rr] at h; exact wpAny_eqBool_str h
 «strs»:=fun k x t v h=>by
  rcases keyIs_shape h with ⟨i,u,rfl,e⟩ | ⟨y,u,rfl,e⟩
  ·exact nomatch e
  ·injection e with e1 _
   subst e1
   cases v <;> rfl
theorem mixKind_int (prog:Program) (w:World) (i:Int) (t:Tok):(mixKind prog w).is (.inl i) (.int i t) = true:=keyIs_int i t
theorem mixKind_str (prog:Program) (w:World) (x:Str) (t:Tok):(mixKind prog w).is (.inr x) (.str x t) = true:=keyIs_str x t
end L2
namespace L2
open PySem PySem.Spec PyProof.Rows
inductive V where
 | non | bl (b:Bool) | int (i:Int) | str (x:Str) | byt (b:Array UInt8) | flt (b:UInt64) | ref (a:Addr) | ty (n:String)
 deriving DecidableEq
def RelV:V→Value→Prop
 | .non,u=>u = Value.none
 | .bl b,u=>u = Value.bool b
 | .int i,u=>∃ t,u = Value.int i t
 | .str x,u=>∃ t,u = Value.str x t
 | .byt b,u=>∃ t,u = Value.bytes b t
 | .flt b,u=>∃ t,u = Value.float b t
 | .ref a,u=>u = Value.ref a
 | .ty n,u=>u = Value.type n
abbrev Vals:List V→List Value→Prop:=Paired RelV
theorem Vals.length {xs:List V} {us:List Value} (r:Vals xs us):xs.length = us.length:=Paired.length r
theorem Vals.get:∀ {xs:List V} {us:List Value} {i:Nat} {x:V},Vals xs us→xs[i]? = some x→∃ u,us[i]? = some u∧RelV x u
 | _,_,_,_,.nil,e=>by simp at e
 | _,_,0,_,.cons r _,e=>by simp at e; subst e; exact ⟨_,rfl,r⟩
 | _,_,i + 1,x,.cons _ t,e=>by
  obtain ⟨u,h1,h2⟩:=Vals.get (i:=i) (x:=x) t (by simpa using e)
  exact ⟨u,by simpa using h1,h2⟩
theorem Vals.set {x:V} {u:Value} (r:RelV x u):∀ {xs:List V} {us:List Value} (i:Nat),Vals xs us→Vals (xs.set i x) (us.set i u)
 | _,_,_,.nil=>.nil
 | _,_,0,.cons _ t=>.cons r t
 | _,_,i + 1,.cons q t=>.cons q (Vals.set r i t)
theorem Vals.append:∀ {xs ys:List V} {us ws:List Value},Vals xs us→Vals ys ws→Vals (xs ++ ys) (us ++ ws)
 | _,_,_,_,.nil,s=>s
 | _,_,_,_,.cons r t,s=>.cons r (Vals.append t s)
theorem Vals.take:∀ {xs:List V} {us:List Value} (n:Nat),Vals xs us→Vals (xs.take n) (us.take n)
 | _,_,0,_=>.nil
 | _,_,_ + 1,.nil=>.nil
 | _,_,n + 1,.cons r t=>.cons r (Vals.take n t)
theorem Vals.drop:∀ {xs:List V} {us:List Value} (n:Nat),Vals xs us→Vals (xs.drop n) (us.drop n)
 | _,_,0,r=>r
 | _,_,_ + 1,.nil=>.nil
 | _,_,n + 1,.cons _ t=>Vals.drop n t
def RelO:Option V→Option Value→Prop
 | some v,some u=>RelV v u
 | none,none=>True
 | _,_=>False
def KV {κ:Type}:List (κ × V)→List (κ × Value)→Prop:=Paired fun (p:κ × V) (q:κ × Value)=>p.1 = q.1∧RelV p.2 q.2
def kV:Key→V
 | .inl i=>.int i
 | .inr x=>.str x
inductive HO where
 /-- a list -/
 | lst (xs:List V)
 /-- a tuple (never changes) -/
 | tup (xs:List V)
 /-- a dict whose keys are ints and texts; one whose keys are tuples of ints and texts (the empty one is both) -/
 | dK (kvs:List (Key × V)) | dT (kvs:List (List Key × V))
 /-- a set of ints: its members,its size -/
 | set (S:Int→Bool) (n:Nat)
 /-- an instance of the class at C,its dict at dx,its attributes -/
 | ins (C dx:Addr) (fs:List (Str × V))
 /-- the dict of the instance at x -/
 | own (x:Addr)
 /-- the dict of an exception -/
 | xd (fs:List (Str × V))
 /-- a bound method,f of x -/
 | met (f x:Addr)
 /-- a range object lo,lo + 1,.. below hi -/
 | rng (lo hi:Int)
 /-- a thing that is known to the object (the script; a dict while a loop walks it): read,never written while it is so -/
 | frz (o:Obj) (u:HO)
 /-- a code object's table -/
 | tbl (ps:Array Value)
 /-- any other thing,by what is true of its one object (a def of one's own: SetO a S n:=HO.ext fun h=>..) -/
 | ext (φ:Heap→Prop)
abbrev Hp:=Addr→Option HO
def upd (H:Hp) (a:Addr) (o:HO):Hp:=fun b=>if b = a then some o else H b
theorem upd_same {H:Hp} {a:Addr} {o:HO}:upd H a o a = some o:=by unfold upd; rw [if_pos rfl]
theorem upd_ne {H:Hp} {a b:Addr} {o:HO} (h:b ≠ a):upd H a o b = H b:=by unfold upd; rw [if_neg h]
theorem upd_upd {H:Hp} {a:Addr} {o u:HO}:upd (upd H a o) a u = upd H a u:=by
 funext b; unfold upd; split <;> rfl
theorem ne_of {H:Hp} {a b:Addr} {o u:HO} (h:H a = some o) (h':H b = some u) (d:o ≠ u):a ≠ b:=by
 intro e; subst e; rw [h] at h'; exact d (Option.some.inj h')
theorem ne_of_none {H:Hp} {a b:Addr} {o:HO} (h:H a = some o) (h':H b = none):a ≠ b:=by
 intro e; subst e; rw [h] at h'; cases h'
section
variable (P:Program) (w:World)
def ObjOk (H:Hp) (h:Heap) (a:Addr):HO→Prop
 | .lst xs=>xs.length ≤ sizeLine∧∃ (its:List Value) (n:Nat),Vals xs its∧h.get? a = some { cls:=.type "list",data:=.seq its.toArray n }
 | .tup xs=>xs.length ≤ sizeLine∧∃ its:List Value,Vals xs its∧IsTup h a its.toArray
 | .dK kvs=>kvs.length ≤ sizeLine∧(a == sysModules) = false∧∃ vs,KV kvs vs∧h.DictOf (mixKind P w) a vs
 | .dT kvs => kvs.length ≤ sizeLine ∧ (a == sysModules) = false ∧ ∃ xs : List (List Key × Addr × Value),
   Paired (fun (p:List Key × V) (q:List Key × Addr × Value)=>p.1 = q.1∧H q.2.1 = some (.tup (p.1.map kV))∧RelV p.2 q.2.2) kvs xs ∧
   ∃ o es ep,h.get? a = some o∧o.ExactDict∧o.data = .dict es ep∧es.toList = xs.map (entryOfKey (tupleKind (mixKind P w)))∧(xs.map (·.1)).Nodup
 | .set S n=>h.SetOf (intKind P w) a S n
 | .ins C dx fs => H dx = some (.own a) ∧ fs.length ≤ 1000 ∧ dx ≠ a ∧ h.get? a = some (PySem.W.instObj C dx) ∧
   ∃ mA,h.Ns1 dx mA∧(∀ f,RelO (fs.lookup f) (mA f))∧PySem.Within mA (fs.map (·.1))
 | .own _=>∃ o,h.get? a = some o
 | .xd fs=>∃ mA,h.Ns1 a mA∧∀ f,RelO (fs.lookup f) (mA f)
 | .rng lo hi=>∃ t u v,h.get? a = some { cls:=.type "range",data:=.fields #[.int lo t,.int hi u,.int 1 v] }
 | .frz o u=>h.get? a = some o∧ObjOk H h a u
 | .tbl ps=>h.get? a = some { cls:=.none,data:=.fields ps }
 | .met f x=>h.get? a = some (PySem.W.methodObj (.ref f) (.ref x))
 | .ext φ=>φ h∧(∃ o,h.get? a = some o)∧∀ h1 h2:Heap,φ h1→(∀ o,h1.get? a = some o→h2.get? a = some o)→φ h2
def HOk (H:Hp) (h:Heap):Prop:=∀ a o,H a = some o→ObjOk P w H h a o
end
section
variable {P:Program} {w:World} {H H':Hp} {h h':Heap} {a:Addr} {o:HO}
theorem ObjOk.lt (x:ObjOk P w H h a o):a < h.objs.size:=by
 cases o with
 | lst xs=>obtain ⟨_,_,_,_,e⟩:=x; exact Heap.lt_size e
 | tup xs=>obtain ⟨_,_,_,p⟩:=x; exact p.lt
 | dK kvs=>obtain ⟨_,_,_,_,o,_,_,e,_⟩:=x; exact Heap.lt_size e
 | dT kvs=>obtain ⟨_,_,_,_,o,_,_,e,_⟩:=x; exact Heap.lt_size e
 | set S n=>obtain ⟨o,_,_,_,e,_⟩:=x; exact Heap.lt_size e
 | ins C dx fs=>obtain ⟨_,_,_,e,_⟩:=x; exact Heap.lt_size e
 | own y=>obtain ⟨_,e⟩:=x; exact Heap.lt_size e
 | xd fs=>obtain ⟨_,⟨_,_,_,e,_⟩,_⟩:=x; exact Heap.lt_size e
 | rng lo hi=>obtain ⟨_,_,_,e⟩:=x; exact Heap.lt_size e
 | frz ob u=>obtain ⟨e,_⟩:=x; exact Heap.lt_size e
 | tbl ps=>exact Heap.lt_size (show h.get? a = some _ from x)
 | met f y=>exact Heap.lt_size (show h.get? a = some _ from x)
 | ext φ=>obtain ⟨_,⟨_,e⟩,_⟩:=x; exact Heap.lt_size e
theorem Paired.mapP {α β:Type} {F G:α→β→Prop}:∀ {l₁:List α} {l₂:List β},Paired F l₁ l₂→(∀ a b,F a b→G a b)→Paired G l₁ l₂
 | _,_,.nil,_=>.nil
 | _,_,.cons r t,f=>.cons (f _ _ r) (Paired.mapP t f)
theorem ObjOk.stay (x : ObjOk P w H h a o) (k : ∀ b u, (b = a ∨ H b = some (.own a)) → h.get? b = some u → h'.get? b = some u)
  (ho:∀ b,H b = some (.own a)→H' b = some (.own a)) (ht:∀ b xs,H b = some (.tup xs)→H' b = some (.tup xs)):ObjOk P w H' h' a o:=by
 induction o with
 | lst xs=>obtain ⟨z,its,n,r,e⟩:=x; exact ⟨z,its,n,r,k _ _ (.inl rfl) e⟩
 | tup xs=>obtain ⟨z,its,r,ob,e,c⟩:=x; exact ⟨z,its,r,ob,k _ _ (.inl rfl) e,c⟩
 | dK kvs=>obtain ⟨z,y,vs,r,ob,es,ep,e,c⟩:=x; exact ⟨z,y,vs,r,ob,es,ep,k _ _ (.inl rfl) e,c⟩
 | dT kvs =>
  obtain ⟨z,y,xs,r,ob,es,ep,e,c⟩:=x
  exact ⟨z,y,xs,Paired.mapP r fun p q z=>⟨z.1,ht _ _ z.2.1,z.2.2⟩,ob,es,ep,k _ _ (.inl rfl) e,c⟩
 | set S n=>obtain ⟨ob,es,ep,t,e,c⟩:=x; exact ⟨ob,es,ep,t,k _ _ (.inl rfl) e,c⟩
 | ins C dx fs =>
  obtain ⟨d,z,ne,e,mA,⟨od,es,ep,e2,c⟩,r⟩:=x
  exact ⟨ho _ d,z,ne,k _ _ (.inl rfl) e,mA,⟨od,es,ep,k _ _ (.inr d) e2,c⟩,r⟩
 | own y=>obtain ⟨ob,e⟩:=x; exact ⟨ob,k _ _ (.inl rfl) e⟩
 | xd fs=>obtain ⟨mA,⟨od,es,ep,e,c⟩,r⟩:=x; exact ⟨mA,⟨od,es,ep,k _ _ (.inl rfl) e,c⟩,r⟩
 | rng lo hi=>obtain ⟨t,u,v,e⟩:=x; exact ⟨t,u,v,k _ _ (.inl rfl) e⟩
 | frz ob u ih=>obtain ⟨e,q⟩:=x; exact ⟨k _ _ (.inl rfl) e,ih q⟩
 | tbl ps =>
  have e:h.get? a = some { cls:=.none,data:=.fields ps }:=x
  show h'.get? a = some { cls:=.none,data:=.fields ps }
  exact k a _ (.inl rfl) e
 | met f y =>
  have e:h.get? a = some (PySem.W.methodObj (.ref f) (.ref y)):=x
  show h'.get? a = some (PySem.W.methodObj (.ref f) (.ref y))
  exact k a _ (.inl rfl) e
 | ext φ=>obtain ⟨p,⟨o,e⟩,st⟩:=x; exact ⟨st _ _ p fun o q=>k _ _ (.inl rfl) q,⟨o,k _ _ (.inl rfl) e⟩,st⟩
theorem HOk.lt (x:HOk P w H h) (e:H a = some o):a < h.objs.size:=(x a o e).lt
theorem HOk.fresh (x:HOk P w H h) (e:h.objs.size ≤ a):H a = none:=by
 cases q:H a with
 | none=>rfl
 | some u=>exact absurd (Nat.lt_of_lt_of_le (x.lt q) e) (Nat.lt_irrefl _)
theorem HOk.kept (x:HOk P w H h) (k:∀ b u,h.get? b = some u→h'.get? b = some u):HOk P w H h':=fun a o e =>
 (x a o e).stay (fun b u _ q=>k b u q) (fun _ q=>q) fun _ _ q=>q
theorem HOk.laid (x:HOk P w H h) (k:∀ b u,h.get? b = some u→h'.get? b = some u) (hp:h.objs.size ≤ a) (new:ObjOk P w (upd H a o) h' a o):HOk P w (upd H a o) h':=fun b u e=>by
 have hn:=x.fresh hp
 by_cases hb:b = a
 ·subst hb; rw [upd_same] at e; cases e; exact new
 ·rw [upd_ne hb] at e
  exact (x b u e).stay (fun c v _ q=>k c v q) (fun c q=>by rw [upd_ne (ne_of_none q hn)]; exact q) fun c xs q=>by rw [upd_ne (ne_of_none q hn)]; exact q
end
def Rd (H:Hp) (a:Addr) (u:HO):Prop:=H a = some u∨∃ o,H a = some (.frz o u)
theorem Rd.ok {P:Program} {w:World} {H:Hp} {h:Heap} {a:Addr} {u:HO} (r:Rd H a u) (x:HOk P w H h):ObjOk P w H h a u:=by
 rcases r with r | ⟨o,r⟩
 ·exact x a u r
 ·obtain ⟨_,q⟩:=x a _ r
  exact q
def Mut:Option HO→Prop
 | some (.lst _)=>True
 | some (.dK _)=>True
 | some (.dT _)=>True
 | some (.set _ _)=>True
 | some (.ins _ _ _)=>True
 | some (.ext _)=>True
 | _=>False
section
variable {P:Program} {w:World} {H:Hp} {h h':Heap} {x e:Addr} {o':HO}
theorem HOk.write (ok : HOk P w H h) (mu : Mut (H x)) (he : e = x ∨ H e = some (.own x)) (k : ∀ b u, b ≠ e → h.get? b = some u → h'.get? b = some u) (heo : ∃ u, h'.get? e = some u)
  (new:ObjOk P w (upd H x o') h' x o'):HOk P w (upd H x o') h':=fun b u q=>by
 have nown:∀ c y,H c = some (.own y)→c ≠ x:=fun c y r z=>by subst z; rw [r] at mu; exact mu
 have ntup:∀ c xs,H c = some (.tup xs)→c ≠ x:=fun c xs r z=>by subst z; rw [r] at mu; exact mu
 by_cases hb:b = x
 ·subst hb; rw [upd_same] at q; cases q; exact new
 ·rw [upd_ne hb] at q
  by_cases hbe:b = e
  ·have q' : H b = some (.own x) := by
    rcases he with z | z
    ·exact absurd (hbe.trans z) hb
    ·rw [hbe]; exact z
   rw [q] at q'; cases q'
   obtain ⟨v,hv⟩:=heo
   exact ⟨v,by rw [hbe]; exact hv⟩
  ·refine (ok b u q).stay (fun c v hc r=>k c v ?_ r) (fun c r=>by rw [upd_ne (nown c b r)]; exact r) fun c xs r=>by rw [upd_ne (ntup c xs r)]; exact r
   rcases hc with rfl | hc
   ·exact hbe
   ·rintro rfl
    rcases he with z | z
    ·exact nown c b hc z
    ·rw [hc] at z; cases z; exact hb rfl
end
structure Un (fs ex:List Addr) (H H':Hp) (h h':Heap):Prop where
 keep:∀ b o,h.get? b = some o→H b = none→b ∉ fs→b ∉ ex→h'.get? b = some o
 slot:∀ b o,h.get? b = some o→H b = none→b ∈ fs→b ∉ ex→∃ sl,h'.get? b = some { o with slots:=sl }
 free:∀ b o,h.get? b = some o→H b = none→b ∉ ex→H' b = none
 there:∀ b o,h.get? b = some o→b ∉ ex→∃ o',h'.get? b = some o'
 tups:∀ b xs,H b = some (.tup xs)→H' b = some (.tup xs)
 frzs:∀ b o u,H b = some (.frz o u)→H' b = some (.frz o u)
 tbls:∀ b ps,H b = some (.tbl ps)→∃ more,H' b = some (.tbl (ps ++ more))
section
variable {fs fs' ex ex':List Addr} {H H1 H2:Hp} {h h1 h2 h':Heap} {a x e:Addr} {o:HO}
theorem Un.any (u:Un fs ex H H1 h h1) {b:Addr} {ob:Obj} (q:h.get? b = some ob) (n:H b = none) (hx:b ∉ ex):∃ sl,h1.get? b = some { ob with slots:=sl }:=by
 by_cases hb:b ∈ fs
 ·exact u.slot b ob q n hb hx
 ·exact ⟨ob.slots,u.keep b ob q n hb hx⟩
theorem Un.kept (k:∀ b u,h.get? b = some u→h'.get? b = some u):Un fs ex H H h h' :=
 ⟨fun b ob q _ _ _=>k b ob q,fun b ob q _ _ _=>⟨ob.slots,k b ob q⟩,fun _ _ _ n _=>n,fun b ob q _=>⟨ob,k b ob q⟩,fun _ _ q=>q,fun _ _ _ q=>q,fun _ ps q=>⟨#[],by rw [q]; simp⟩⟩
theorem Un.refl:Un fs ex H H h h:=Un.kept fun _ _ q=>q
theorem Un.laid (k:∀ b u,h.get? b = some u→h'.get? b = some u) (hp:h.objs.size ≤ a) (hn:H a = none):Un fs ex H (upd H a o) h h' where
 keep:=fun b u q _ _ _=>k b u q
 slot:=fun b u q _ _ _=>⟨u.slots,k b u q⟩
 free:=fun b u q n _=>by rw [upd_ne (Nat.ne_of_lt (Nat.lt_of_lt_of_le (Heap.lt_size q) hp))]; exact n
 there:=fun b u q _=>⟨u,k b u q⟩
 tups:=fun b xs q=>by rw [upd_ne (ne_of_none q hn)]; exact q
 frzs:=fun b u xs q=>by rw [upd_ne (ne_of_none q hn)]; exact q
 tbls:=fun b ps q=>⟨#[],by rw [upd_ne (ne_of_none q hn),q]; simp⟩
theorem Un.write (mu:Mut (H x)) (he:e = x∨H e = some (.own x)) (k:∀ b u,b ≠ e→h.get? b = some u→h'.get? b = some u) (heo:∃ u,h'.get? e = some u):Un fs ex H (upd H x o) h h':=by
 have hx:∀ b,H b = none→b ≠ x:=fun b n z=>by subst z; rw [n] at mu; exact mu
 have hb:∀ b,H b = none→b ≠ e:=fun b n z=>by
  subst z
  rcases he with r | r
  ·exact hx b n r
  ·rw [n] at r; cases r
 have hm:∀ b u,H b = some u→¬ Mut (some u)→b ≠ x:=fun b u q nm z=>by subst z; rw [q] at mu; exact nm mu
 refine ⟨fun b u q n _ _=>k b u (hb b n) q,fun b u q n _ _=>⟨u.slots,k b u (hb b n) q⟩,fun b u q n _=>by rw [upd_ne (hx b n)]; exact n,fun b u q _=>?_,
  fun b xs q=>by rw [upd_ne (hm b _ q fun z=>z)]; exact q,fun b u xs q=>by rw [upd_ne (hm b _ q fun z=>z)]; exact q,fun b ps q=>⟨#[],by rw [upd_ne (hm b _ q fun z=>z),q]; simp⟩⟩
 by_cases hbe:b = e
 ·subst hbe; exact heo
 ·exact ⟨u,k b u hbe q⟩
end
def trk (h:Heap) (H:Hp):List Addr:=(List.range h.objs.size).filter fun a=>(H a).isSome
def hidT (h:Heap) (H:Hp):Heap:=PySem.W.hideAll h (trk h H)
theorem hidT_size (h:Heap) (H:Hp):(hidT h H).objs.size = h.objs.size:=PySem.W.hideAll_size _ _
theorem hidT_get {h:Heap} {H:Hp} {b:Addr} {o:Obj} (e:h.get? b = some o) (n:H b = none):(hidT h H).get? b = some o :=
 PySem.W.hideAll_get _ e fun hm=>by
  have q:(H b).isSome = true:=(List.mem_filter.mp hm).2
  rw [n] at q; simp at q
theorem of_hidT {h:Heap} {H:Hp} {b:Addr} {o:Obj} (e:(hidT h H).get? b = some o):h.get? b = some o∧H b = none:=by
 have e':h.get? b = some o:=PySem.W.of_hideAll (trk h H) e
 refine ⟨e',?_⟩
 cases q:H b with
 | none=>rfl
 | some x =>
  have hm:b ∈ trk h H:=List.mem_filter.mpr ⟨List.mem_range.mpr (Heap.lt_size e'),by simp [q]⟩
  have z:(hidT h H).get? b = none:=PySem.W.hideAll_none (trk h H) hm
  rw [z] at e; cases e
def allNews (g h:Heap) (L:Addr):List (Addr × Obj):=(List.range h.objs.size).filterMap fun a=>if a = L∨(g.get? a).isSome = true then none else (h.get? a).map fun o=>(a,o)
def rest (g h:Heap) (L d:Addr):List (Addr × Obj):=(allNews g h L).filter fun p=>decide (p.1 ≠ d)
end L2
namespace L2
open PySem PySem.Spec PyProof.Rows
structure Mod (K:PySem.W.Frag) (mg:Str→Option Value) (base:Heap):Prop where
 kin:K.In base
 glob:base.Ns mainGlobals mg
 blt:∃ mb,base.Ns builtinsNs mb∧∀ x:Str,x ≠ "__name__"→mb x = bootBuiltins x
 nolimit:base.NoLimit
structure Cx where
 prog:Program
 w:World
 K:PySem.W.Frag
 mg:Str→Option Value
 base:Heap
 A:Around
 N:List Str
 s₀:Shared
 H₀:Hp
 env:Env
 outer:List Env
 stack:List Env
 ex:List Addr
 fn:Str→Bool
 calm:Bool
 pn:List (Addr × Obj)
 xe:Value→Shared→Prop
def frs (l:List Env):List Addr:=l.filterMap (·.frame)
abbrev Cx.fs (X:Cx):List Addr:=frs X.outer
def Vis (sc:Scope) (x:Str):Prop:=sc.names.lookup x = some .local∨sc.names.lookup x = some .cell∨sc.names.lookup x = some .free
def Loc (sc:Scope) (x:Str):Prop:=sc.names.lookup x = some .local∨sc.names.lookup x = some .cell
def Look (env:Env) (h:Heap) (m:Str→Option Value) (x:Str) (u:Value):Prop :=
 (env.kindOf x = some .local∧m x = some u)∨((env.kindOf x = some .cell∨env.kindOf x = some .free)∧∃ c,env.cells.lookup x = some c∧h.IsCell c (some u))
structure Cx.Ok (X:Cx):Prop where
 mod:Mod X.K X.mg X.base
 kind:X.env.scope.kind = .function
 glob:X.env.globals = mainGlobals
 blt:X.env.builtins = builtinsNs
 above:X.s₀.heap.objs.size ≤ X.env.locals
 inj:∀ x y c,X.env.cells.lookup x = some c→X.env.cells.lookup y = some c→x = y
 has:∀ x,(X.env.kindOf x = some .cell∨X.env.kindOf x = some .free)→∃ c,X.env.cells.lookup x = some c
 cab:∀ x c,X.fn x = true→X.env.cells.lookup x = some c→X.s₀.heap.objs.size ≤ c
 hd:X.calm = true→X.A.handled = none
 frames:X.A.frames = some X.stack
 stk:X.stack = X.outer∨(X.stack = X.env :: X.outer∧X.env.frame = some X.env.locals)
 exf:∀ b ∈ X.ex,b ≠ X.env.locals∧∀ x c,X.env.cells.lookup x = some c→c ≠ b
 bs:∀ b o,X.base.get? b = some o→X.s₀.heap.get? b = some o∧X.H₀ b = none
 bsz:X.base.objs.size ≤ X.s₀.heap.objs.size
 noex:∀ b o,X.base.get? b = some o→b ∉ X.ex
 exfs:∀ b ∈ X.ex,b ∉ X.fs
 funs:X.s₀.heap.FunFrames X.base X.outer
 frf:∀ b ∈ X.fs,X.H₀ b = none
structure Inv (X:Cx) (pins:List (Addr × Obj)) (σ:List (Option V)) (H:Hp) (s:Shared):Prop where
 ok:X.Ok
 os:s.os = X.s₀.os
 bare:AllBare s.gens
 base:Un X.fs X.ex X.H₀ H X.s₀.heap s.heap
 loc:∃ m,s.heap.Ns X.env.locals m∧∀ (i:Nat) (x:Str) (v:V),X.N[i]? = some x→σ[i]? = some (some v)→Vis X.env.scope x→∃ u,RelV v u∧Look X.env s.heap m x u
 cell:∀ x c,X.env.cells.lookup x = some c→∃ v,s.heap.IsCell c v
 free:H X.env.locals = none
 freeC:∀ x c,X.env.cells.lookup x = some c→H c = none
 pin:∀ p ∈ X.pn ++ pins,s.heap.get? p.1 = some p.2∧H p.1 = none∧p.1 ≠ X.env.locals∧p.1 ∉ X.fs∧∀ v,p.2.data ≠ .cell v
 hok:HOk X.prog X.w H s.heap
 len:σ.length = X.N.length
section
variable {X:Cx} {pins:List (Addr × Obj)} {σ:List (Option V)} {H H':Hp} {s:Shared} {h':Heap}
theorem Cx.Ok.nofr (ok:X.Ok) {b:Addr} {o:Obj} (e:X.base.get? b = some o):b ∉ X.fs:=fun hb=>by
 have:=(ok.funs.mem hb).1
 rw [e] at this; cases this
theorem Inv.bs (I:Inv X pins σ H s):∀ b o,X.base.get? b = some o→s.heap.get? b = some o∧H b = none:=fun b o e =>
 ⟨I.base.keep b o (I.ok.bs b o e).1 (I.ok.bs b o e).2 (I.ok.nofr e) (I.ok.noex b o e),I.base.free b o (I.ok.bs b o e).1 (I.ok.bs b o e).2 (I.ok.noex b o e)⟩
theorem Inv.bk (I:Inv X pins σ H s):∀ b o,X.base.get? b = some o→s.heap.get? b = some o:=fun b o e=>(I.bs b o e).1
theorem Inv.mod (I:Inv X pins σ H s):Mod X.K X.mg X.base:=I.ok.mod
theorem Inv.kIn (I:Inv X pins σ H s):X.K.In s.heap:=I.ok.mod.kin.keeps I.bk
theorem Inv.nolimit (I:Inv X pins σ H s):s.heap.NoLimit:=I.ok.mod.nolimit.keeps I.bk
theorem Inv.fr (I:Inv X pins σ H s):∃ m,Fr X.base X.env.locals s.heap m :=
 let ⟨m,hn,_⟩:=I.loc
 ⟨m,hn,I.bk,Nat.le_trans I.ok.bsz I.ok.above⟩
theorem Inv.lt (I:Inv X pins σ H s):X.env.locals < s.heap.objs.size:=let ⟨_,hn,_⟩:=I.loc; hn.lt
theorem Inv.sz (I:Inv X pins σ H s):X.s₀.heap.objs.size ≤ s.heap.objs.size:=Nat.le_trans I.ok.above (Nat.le_of_lt I.lt)
theorem Inv.nofs (I:Inv X pins σ H s) {a:Addr} (h:s.heap.objs.size ≤ a):a ∉ X.fs:=fun hb=>by
 obtain ⟨_,o,ho,_⟩:=I.ok.funs.mem hb
 exact absurd (Nat.lt_of_lt_of_le (Heap.lt_size ho) (Nat.le_trans I.sz h)) (Nat.lt_irrefl _)
theorem Inv.cne (I:Inv X pins σ H s):∀ x c,X.env.cells.lookup x = some c→c ≠ X.env.locals:=fun x c e z=>by
 obtain ⟨v,o,ho,hd⟩:=I.cell x c e
 obtain ⟨m,⟨o',es,ep,ho',hd',_⟩,_⟩:=I.loc
 rw [z,ho'] at ho; cases ho; rw [hd'] at hd; cases hd
theorem Inv.funs (I:Inv X pins σ H s):s.heap.FunFrames X.base X.outer:=by
 have all:∀ (l:List Env),(∀ b ∈ frs l,b ∈ X.fs)→X.s₀.heap.FunFrames X.base l→s.heap.FunFrames X.base l:=by
  intro l
  induction l with
  | nil=>intro _ _; trivial
  | cons env r ih =>
   intro hs hl
   obtain ⟨hk,⟨L,o,hf,hn,ho,hd⟩,hr⟩:=hl
   have hL:L ∈ X.fs:=hs L (by unfold frs; rw [List.filterMap_cons,hf]; exact List.mem_cons_self)
   obtain ⟨sl,e⟩:=I.base.slot L o ho (I.ok.frf L hL) hL fun z=>I.ok.exfs L z hL
   exact ⟨hk,⟨L,_,hf,hn,e,hd⟩,ih (fun b hb=>hs b (by unfold frs; rw [List.filterMap_cons,hf]; exact List.mem_cons_of_mem _ hb)) hr⟩
 exact all X.outer (fun _ hb=>hb) I.ok.funs
theorem Inv.stack (I:Inv X pins σ H s):s.heap.FunFrames X.base X.stack:=by
 rcases I.ok.stk with e | ⟨e,hf⟩
 ·rw [e]; exact I.funs
 ·rw [e]
  obtain ⟨m,hn,_⟩:=I.loc
  refine .cons (by rw [I.ok.kind]; decide) hf hn ?_ I.funs
  exact Heap.get?_none_of_le (Nat.le_trans I.ok.bsz I.ok.above)
theorem Inv.stkSub (I:Inv X pins σ H s):∀ b ∈ frs X.stack,b ∈ X.env.locals :: X.fs:=fun b hb=>by
 rcases I.ok.stk with e | ⟨e,hf⟩
 ·rw [e] at hb; exact List.mem_cons_of_mem _ hb
 ·rw [e] at hb
  unfold frs at hb
  rw [List.filterMap_cons,hf] at hb
  exact hb
theorem Inv.stkFree (I:Inv X pins σ H s):∀ b ∈ frs X.stack,H b = none:=fun b hb=>by
 rcases List.mem_cons.mp (I.stkSub b hb) with e | hb
 ·rw [e]; exact I.free
 ·obtain ⟨_,o,ho,_⟩:=I.ok.funs.mem hb
  exact I.base.free b o ho (I.ok.frf b hb) fun z=>I.ok.exfs b z hb
theorem Inv.step {g' : Array GenState} {t' : Nat} {d' : Drawn} {ch : List Addr} (I : Inv X pins σ H s)
  (hch:∀ b ∈ ch,(b ∈ X.ex∨X.s₀.heap.objs.size ≤ b)∧b ≠ X.env.locals∧(∀ x c,X.env.cells.lookup x = some c→c ≠ b)∧∀ p ∈ X.pn ++ pins,p.1 ≠ b)
  (keep:∀ b o,b ≠ X.env.locals→b ∉ X.fs→b ∉ ch→s.heap.get? b = some o→H b = none→h'.get? b = some o)
  (slot:∀ b o,b ≠ X.env.locals→b ∈ X.fs→b ∉ ch→s.heap.get? b = some o→H b = none→∃ sl,h'.get? b = some { o with slots:=sl }) (free:∀ b o,b ∉ ch→s.heap.get? b = some o→H b = none→H' b = none)
  (there:∀ b o,b ∉ ch→s.heap.get? b = some o→∃ o',h'.get? b = some o')
  (tups:∀ b xs,H b = some (.tup xs)→H' b = some (.tup xs)) (frzs:∀ b o u,H b = some (.frz o u)→H' b = some (.frz o u)) (tbls:∀ b ps,H b = some (.tbl ps)→∃ more,H' b = some (.tbl (ps ++ more)))
  (ns:∀ m,s.heap.Ns X.env.locals m→h'.Ns X.env.locals m) (hok:HOk X.prog X.w H' h') (hg:AllBare g') :
  Inv X pins σ H' { s with heap:=h',gens:=g',drawn:=d',toks:=t' }:=by
 have neL:∀ b o,X.s₀.heap.get? b = some o→b ≠ X.env.locals:=fun b o e=>Nat.ne_of_lt (Nat.lt_of_lt_of_le (Heap.lt_size e) I.ok.above)
 have neC:∀ b o,X.s₀.heap.get? b = some o→b ∉ X.ex→b ∉ ch:=fun b o e hx hb=>by
  rcases (hch b hb).1 with z | z
  ·exact hx z
  ·exact absurd (Nat.lt_of_lt_of_le (Heap.lt_size e) z) (Nat.lt_irrefl _)
 have cellK:∀ x c,X.env.cells.lookup x = some c→∀ v,s.heap.IsCell c v→h'.IsCell c v:=fun x c e v ⟨o,ho,hd⟩=>by
  have nch:c ∉ ch:=fun z=>(hch c z).2.2.1 x c e rfl
  by_cases hc:c ∈ X.fs
  ·obtain ⟨sl,q⟩:=slot c o (I.cne x c e) hc nch ho (I.freeC x c e)
   exact ⟨_,q,hd⟩
  ·exact ⟨o,keep c o (I.cne x c e) hc nch ho (I.freeC x c e),hd⟩
 refine ⟨I.ok,I.os,hg,⟨fun b o e n hb hx=>?_,fun b o e n hb hx=>?_,fun b o e n hx=>?_,fun b o e hx=>?_,fun b xs e=>tups b xs (I.base.tups b xs e),fun b o xs e=>frzs b o xs (I.base.frzs b o xs e),fun b ps e=>?_⟩,?_,fun x c e=>?_,?_,fun x c e=>?_,fun p hp=>?_,hok,I.len⟩
 ·exact keep b o (neL b o e) hb (neC b o e hx) (I.base.keep b o e n hb hx) (I.base.free b o e n hx)
 ·obtain ⟨sl,e1⟩:=I.base.slot b o e n hb hx
  obtain ⟨sl',e2⟩:=slot b _ (neL b o e) hb (neC b o e hx) e1 (I.base.free b o e n hx)
  exact ⟨sl',e2⟩
 ·obtain ⟨o',e1⟩:=I.base.there b o e hx
  exact free b o' (neC b o e hx) e1 (I.base.free b o e n hx)
 ·obtain ⟨o',e1⟩:=I.base.there b o e hx
  exact there b o' (neC b o e hx) e1
 ·obtain ⟨m1,e1⟩:=I.base.tbls b ps e
  obtain ⟨m2,e2⟩:=tbls b _ e1
  exact ⟨m1 ++ m2,by rw [e2,Array.append_assoc]⟩
 ·obtain ⟨m,hn,hl⟩:=I.loc
  refine ⟨m,ns m hn,fun i x v e1 e2 e3=>?_⟩
  obtain ⟨u,r,l⟩:=hl i x v e1 e2 e3
  refine ⟨u,r,?_⟩
  rcases l with l | ⟨k,c,e,z⟩
  ·exact .inl l
  ·exact .inr ⟨k,c,e,cellK x c e _ z⟩
 ·obtain ⟨v,z⟩:=I.cell x c e
  exact ⟨v,cellK x c e v z⟩
 ·obtain ⟨m,⟨o,_,_,ho,_⟩,_⟩:=I.loc
  exact free _ o (fun z=>(hch _ z).2.1 rfl) ho I.free
 ·obtain ⟨v,o,ho,hd⟩:=I.cell x c e
  exact free c o (fun z=>(hch c z).2.2.1 x c e rfl) ho (I.freeC x c e)
 ·obtain ⟨e,n,ne,nf,d⟩:=I.pin p hp
  have nch:p.1 ∉ ch:=fun z=>(hch p.1 z).2.2.2 p hp rfl
  exact ⟨keep p.1 p.2 ne nf nch e n,free p.1 p.2 nch e n,ne,nf,d⟩
theorem Inv.un {t':Nat} (I:Inv X pins σ H s) (u:Un X.fs [] H H' s.heap h') (hok:HOk X.prog X.w H' h'):Inv X pins σ H' { s with heap:=h',toks:=t' }:=by
 obtain ⟨m,⟨o,es,ep,ho,r⟩,_⟩:=id I.loc
 obtain ⟨sl,hL⟩:=u.any ho I.free (by simp)
 exact I.step (g':=s.gens) (d':=s.drawn) (ch:=[]) (fun _ z=>nomatch z) (fun b o _ hb _ e n=>u.keep b o e n hb (by simp)) (fun b o _ hb _ e n=>u.slot b o e n hb (by simp)) (fun b o _ e n=>u.free b o e n (by simp)) (fun b o _ e=>u.there b o e (by simp)) u.tups u.frzs u.tbls (fun m' hm=>by
  obtain ⟨o',es',ep',ho',r'⟩:=hm
  rw [ho] at ho'; cases ho'
  exact ⟨_,es',ep',hL,r'⟩) hok I.bare
theorem Inv.call {g' : Array GenState} {t' : Nat} {d' : Drawn} {ch : List Addr} (I : Inv X pins σ H s) (u : Un (frs X.stack) ch H H' s.heap h') (hok : HOk X.prog X.w H' h') (hg : AllBare g')
  (hch:∀ b ∈ ch,(b ∈ X.ex∨X.s₀.heap.objs.size ≤ b)∧b ≠ X.env.locals∧(∀ x c,X.env.cells.lookup x = some c→c ≠ b)∧∀ p ∈ X.pn ++ pins,p.1 ≠ b) :
  Inv X pins σ H' { s with heap:=h',gens:=g',drawn:=d',toks:=t' }:=by
 obtain ⟨m,⟨o,es,ep,ho,r⟩,_⟩:=id I.loc
 obtain ⟨sl,hL⟩:=u.any ho I.free fun z=>(hch _ z).2.1 rfl
 exact I.step (ch:=ch) hch (fun b o hL hb hc e n=>u.keep b o e n (fun z=>(List.mem_cons.mp (I.stkSub b z)).elim hL hb) hc) (fun b o _ _ hc e n=>u.any e n hc) (fun b o hc e n=>u.free b o e n hc) (fun b o hc e=>u.there b o e hc) u.tups u.frzs u.tbls (fun m' hm=>by
  obtain ⟨o',es',ep',ho',r'⟩:=hm
  rw [ho] at ho'; cases ho'
  exact ⟨_,es',ep',hL,r'⟩) hok hg
theorem Inv.turned {t' : Nat} {it : Addr} (I : Inv X pins σ H s) (k : ∀ b o, b ≠ it → s.heap.get? b = some o → h'.get? b = some o) (hn : H it = none) (hL : it ≠ X.env.locals)
  (h1:it ∈ X.ex∨X.s₀.heap.objs.size ≤ it) (h2:∀ x c,X.env.cells.lookup x = some c→c ≠ it) (h3:∀ p ∈ X.pn ++ pins,p.1 ≠ it):Inv X pins σ H { s with heap:=h',toks:=t' }:=by
 have nit:∀ b u,H b = some u→b ≠ it:=fun b u e z=>by rw [z,hn] at e; cases e
 refine I.step (g':=s.gens) (d':=s.drawn) (ch:=[it]) (fun b hb=>?_) (fun b o _ _ hc e _=>k b o (fun z=>hc (by simp [z])) e) (fun b o _ _ hc e _=>⟨o.slots,k b o (fun z=>hc (by simp [z])) e⟩) (fun _ _ _ _ n=>n)
  (fun b o hc e=>⟨o,k b o (fun z=>hc (by simp [z])) e⟩) (fun _ _ e=>e) (fun _ _ _ e=>e) (fun b ps e=>⟨#[],by rw [e]; simp⟩) (fun m hm=>?_) (fun b u e=>?_) I.bare
 ·have e:b = it:=by simpa using hb
  subst e
  exact ⟨h1,hL,h2,h3⟩
 ·obtain ⟨o,es,ep,ho,r⟩:=hm
  exact ⟨o,es,ep,k _ o (Ne.symm hL) ho,r⟩
 ·refine (I.hok b u e).stay (fun c v hc q=>k c v ?_ q) (fun _ q=>q) fun _ _ q=>q
  rcases hc with z | z
  ·rw [z]; exact nit b u e
  ·exact nit c _ z
theorem Inv.tok (I:Inv X pins σ H s) (t:Nat):Inv X pins σ H { s with toks:=t }:=I.un (h':=s.heap) (t':=t) Un.refl I.hok
theorem Inv.kept {t':Nat} (I:Inv X pins σ H s) (k:∀ b u,s.heap.get? b = some u→h'.get? b = some u):Inv X pins σ H { s with heap:=h',toks:=t' }:=I.un (Un.kept k) (I.hok.kept k)
theorem Inv.laid {a : Addr} {o : HO} {t' : Nat} (I : Inv X pins σ H s) (k : ∀ b u, s.heap.get? b = some u → h'.get? b = some u) (hp : s.heap.objs.size ≤ a) (new : ObjOk X.prog X.w (upd H a o) h' a o) :
  Inv X pins σ (upd H a o) { s with heap:=h',toks:=t' }:=I.un (Un.laid k hp (I.hok.fresh hp)) (I.hok.laid k hp new)
theorem Inv.write {x e : Addr} {o : HO} {t' : Nat} (I : Inv X pins σ H s) (mu : Mut (H x)) (he : e = x ∨ H e = some (.own x)) (k : ∀ b u, b ≠ e → s.heap.get? b = some u → h'.get? b = some u) (heo : ∃ u, h'.get? e = some u)
  (new:ObjOk X.prog X.w (upd H x o) h' x o):Inv X pins σ (upd H x o) { s with heap:=h',toks:=t' }:=I.un (Un.write mu he k heo) (I.hok.write mu he k heo new)
theorem Inv.pins_of {pins':List (Addr × Obj)} (I:Inv X pins σ H s) (h:∀ p ∈ pins',s.heap.get? p.1 = some p.2∧H p.1 = none∧p.1 ≠ X.env.locals∧p.1 ∉ X.fs∧∀ v,p.2.data ≠ .cell v):Inv X pins' σ H s :=
 ⟨I.ok,I.os,I.bare,I.base,I.loc,I.cell,I.free,I.freeC,fun p hp=>(List.mem_append.mp hp).elim (fun z=>I.pin p (List.mem_append_left _ z)) (h p),I.hok,I.len⟩
theorem nodup_ix {N:List Str} (hN:N.Nodup) {i j:Nat} {x:Str} (a:N[i]? = some x) (b:N[j]? = some x):i = j:=by
 obtain ⟨h1,e1⟩:=List.getElem?_eq_some_iff.mp a
 obtain ⟨h2,e2⟩:=List.getElem?_eq_some_iff.mp b
 exact (List.getElem_inj hN).mp (e1.trans e2.symm)
theorem store_ok2 {M : Model} {A : Around} {E : Value → Shared → Prop} {i : Nat} {x : Str} {v : V} {u : Value} {Q : Unit → Shared → Prop} (I : Inv X pins σ H s) (hN : X.N.Nodup) (hi : X.N[i]? = some x) (hx : Loc X.env.scope x) (r : RelV v u)
  (h:∀ s',Inv X pins (σ.set i (some v)) H s'→(∃ a,Heap.SameBut a s.heap s'.heap∧(a = X.env.locals∨X.env.cells.lookup x = some a))→Q () s') (hf:X.fn x = true∨X.env.scope.names.lookup x = some .local:=by first | exact .inl rfl | exact .inr rfl | assumption):wpAny M A (storeName X.env x u) Q E s:=by
 obtain ⟨m,hn,hl⟩:=id I.loc
 have hcls:(X.env.scope.kind == .class || (X.env.scope.kind == .module && X.env.locals != X.env.globals)) = false:=by rw [I.ok.kind]; rfl
 have hiσ:i < σ.length:=by rw [I.len]; exact (List.getElem?_eq_some_iff.mp hi).1
 have cne:=I.cne
 have tracked:∀ {a:Addr} {h':Heap},(∃ o,s.heap.get? a = some o∧H a = none)→Heap.SameBut a s.heap h'→HOk X.prog X.w H h':=fun {a h'} ha hs b ob e=>by
  obtain ⟨_,_,hfree⟩:=ha
  refine (I.hok b ob e).stay (fun c w' hc q=>(hs.2 c ?_).trans q) (fun _ q=>q) fun _ _ q=>q
  rintro rfl
  rcases hc with rfl | hc
  ·rw [hfree] at e; cases e
  ·rw [hfree] at hc; cases hc
 rcases hx with hk | hk
 ·refine wpAny_storeName_local hk hn (fun h' hn' hs=>?_) hcls
  obtain ⟨oL,_,_,hoL,_⟩:=id hn
  refine h _ ⟨I.ok,I.os,I.bare,⟨fun b o e n hb hx=>?_,fun b o e n hb hx=>?_,I.base.free,fun b o e hx=>?_,I.base.tups,I.base.frzs,I.base.tbls⟩,⟨_,hn',fun j y v' e1 e2 e3=>?_⟩,fun y c e=>?_,I.free,I.freeC,fun p hp=>?_,tracked ⟨oL,hoL,I.free⟩ hs,by simpa using I.len⟩ ⟨_,hs,.inl rfl⟩
  ·exact (hs.2 b (Nat.ne_of_lt (Nat.lt_of_lt_of_le (Heap.lt_size e) I.ok.above))).trans (I.base.keep b o e n hb hx)
  ·obtain ⟨sl,e1⟩:=I.base.slot b o e n hb hx
   exact ⟨sl,(hs.2 b (Nat.ne_of_lt (Nat.lt_of_lt_of_le (Heap.lt_size e) I.ok.above))).trans e1⟩
  ·obtain ⟨o',e1⟩:=I.base.there b o e hx
   exact ⟨o',(hs.2 b (Nat.ne_of_lt (Nat.lt_of_lt_of_le (Heap.lt_size e) I.ok.above))).trans e1⟩
  ·by_cases hj:j = i
   ·subst hj
    rw [hi] at e1; cases e1
    rw [List.getElem?_set_self hiσ] at e2
    cases e2
    exact ⟨u,r,.inl ⟨hk,by simp⟩⟩
   ·rw [List.getElem?_set_ne (Ne.symm hj)] at e2
    obtain ⟨u',r',q⟩:=hl j y v' e1 e2 e3
    refine ⟨u',r',?_⟩
    rcases q with ⟨k,e⟩ | ⟨k,c,e,z⟩
    ·refine .inl ⟨k,?_⟩
     have:y ≠ x:=fun e=>hj (nodup_ix hN e1 (e ▸ hi))
     simp [this,e]
    ·exact .inr ⟨k,c,e,z.sameBut hs (cne y c e)⟩
  ·obtain ⟨w',z⟩:=I.cell y c e
   exact ⟨w',z.sameBut hs (cne y c e)⟩
  ·obtain ⟨e,n,ne,nf,d⟩:=I.pin p hp
   exact ⟨(hs.2 p.1 ne).trans e,n,ne,nf,d⟩
 ·have hfn : X.fn x = true := by
   rcases hf with z | z
   ·exact z
   ·rw [z] at hk; cases hk
  obtain ⟨c,hc⟩:=I.ok.has x (.inl hk)
  obtain ⟨w',z⟩:=I.cell x c hc
  refine wpAny_storeName_cell I.ok.kind hk hc z (fun h' hc' hs=>?_)
  obtain ⟨oc,hoc,hocd⟩:=id z
  refine h { s with heap:=h' } ⟨I.ok,I.os,I.bare,⟨fun b o e n hb hx=>?_,fun b o e n hb hx=>?_,I.base.free,fun b o e hx=>?_,I.base.tups,I.base.frzs,I.base.tbls⟩,⟨m,hn.sameBut hs (Ne.symm (cne x c hc)),fun j y v' e1 e2 e3=>?_⟩,fun y c' e=>?_,I.free,I.freeC,fun p hp=>?_,tracked ⟨oc,hoc,I.freeC x c hc⟩ hs,by simpa using I.len⟩ ⟨c,hs,.inr hc⟩
  ·exact (hs.2 b (Nat.ne_of_lt (Nat.lt_of_lt_of_le (Heap.lt_size e) (I.ok.cab x c hfn hc)))).trans (I.base.keep b o e n hb hx)
  ·obtain ⟨sl,e1⟩:=I.base.slot b o e n hb hx
   exact ⟨sl,(hs.2 b (Nat.ne_of_lt (Nat.lt_of_lt_of_le (Heap.lt_size e) (I.ok.cab x c hfn hc)))).trans e1⟩
  ·obtain ⟨o',e1⟩:=I.base.there b o e hx
   exact ⟨o',(hs.2 b (Nat.ne_of_lt (Nat.lt_of_lt_of_le (Heap.lt_size e) (I.ok.cab x c hfn hc)))).trans e1⟩
  ·by_cases hj:j = i
   ·subst hj
    rw [hi] at e1; cases e1
    rw [List.getElem?_set_self hiσ] at e2
    cases e2
    exact ⟨u,r,.inr ⟨.inl hk,c,hc,hc'⟩⟩
   ·rw [List.getElem?_set_ne (Ne.symm hj)] at e2
    obtain ⟨u',r',q⟩:=hl j y v' e1 e2 e3
    refine ⟨u',r',?_⟩
    rcases q with q | ⟨k,c',e,z'⟩
    ·exact .inl q
    ·refine .inr ⟨k,c',e,z'.sameBut hs ?_⟩
     rintro rfl
     exact hj (nodup_ix hN e1 (I.ok.inj _ _ _ e hc ▸ hi))
  ·by_cases hcc:c' = c
   ·subst hcc; exact ⟨_,hc'⟩
   ·obtain ⟨w2,z2⟩:=I.cell y c' e
    exact ⟨w2,z2.sameBut hs hcc⟩
  ·obtain ⟨e,n,ne,nf,d⟩:=I.pin p hp
   refine ⟨(hs.2 p.1 ?_).trans e,n,ne,nf,d⟩
   intro q
   rw [q,hoc] at e
   have q':oc = p.2:=Option.some.inj e
   exact d w' (by rw [← q']; exact hocd)
theorem store_ok {M : Model} {A : Around} {E : Value → Shared → Prop} {i : Nat} {x : Str} {v : V} {u : Value} {Q : Unit → Shared → Prop} (I : Inv X pins σ H s) (hN : X.N.Nodup) (hi : X.N[i]? = some x) (hx : Loc X.env.scope x) (r : RelV v u)
  (h:∀ s',Inv X pins (σ.set i (some v)) H s'→Q () s') (hf:X.fn x = true∨X.env.scope.names.lookup x = some .local:=by first | exact .inl rfl | exact .inr rfl | assumption):wpAny M A (storeName X.env x u) Q E s :=
 store_ok2 I hN hi hx r (fun s' I' _=>h s' I') hf
theorem Inv.call' {s' : Shared} {ch : List Addr} (I : Inv X pins σ H s) (ho : s'.os = s.os) (u : Un (frs X.stack) ch H H' s.heap s'.heap) (hok : HOk X.prog X.w H' s'.heap) (hg : AllBare s'.gens)
  (hch:∀ b ∈ ch,(b ∈ X.ex∨X.s₀.heap.objs.size ≤ b)∧b ≠ X.env.locals∧(∀ x c,X.env.cells.lookup x = some c→c ≠ b)∧∀ p ∈ X.pn ++ pins,p.1 ≠ b):Inv X pins σ H' s':=by
 obtain ⟨h',g',d',t',o'⟩:=s'
 have e:o' = s.os:=ho
 subst e
 exact I.call (g':=g') (t':=t') (d':=d') u hok hg hch
end
abbrev XK:=Value→Option Addr→Hp→Prop
abbrev St:=List (Option V)
abbrev VK:=V→Hp→Prop
abbrev TE:=St→Hp→VK→Prop
abbrev TT:=St→Hp→(Bool→Hp→Prop)→Prop
abbrev TA:=St→Hp→(List V→Hp→Prop)→Prop
structure Ends where
 nx:St→Hp→Prop
 rt:VK
 bk:St→Hp→Prop:=fun _ _=>False
 ct:St→Hp→Prop:=fun _ _=>False
abbrev TS:=Ends→St→Hp→Prop
def EP (X:Cx) (pins:List (Addr × Obj)) (σ:St) (Q:VK) (u:Value) (s':Shared):Prop:=∃ v H',Inv X pins σ H' s'∧RelV v u∧Q v H'
def TP (X:Cx) (pins:List (Addr × Obj)) (σ:St) (Q:Bool→Hp→Prop) (b:Bool) (s':Shared):Prop:=∃ H',Inv X pins σ H' s'∧Q b H'
def AP (X:Cx) (pins:List (Addr × Obj)) (σ:St) (Q:List V→Hp→Prop) (us:List Value) (s':Shared):Prop:=∃ vs H',Inv X pins σ H' s'∧Vals vs us∧Q vs H'
def SP (X:Cx) (pins:List (Addr × Obj)) (D:Ends) (f:Flow) (s':Shared):Prop :=
 match f with
 | .next=>∃ σ' H',Inv X pins σ' H' s'∧D.nx σ' H'
 | .brk=>∃ σ' H',Inv X pins σ' H' s'∧D.bk σ' H'
 | .cont=>∃ σ' H',Inv X pins σ' H' s'∧D.ct σ' H'
 | .ret u=>∃ v σ' H',Inv X pins σ' H' s'∧RelV v u∧D.rt v H'
def PE (X:Cx) (e:Expr) (t:TE):Prop :=
 ∀ (pins:List (Addr × Obj)) (s:Shared) (σ:St) (H:Hp) (Q:VK),Inv X pins σ H s→t σ H Q→wpAny (model X.prog X.w) X.A (eval e X.env) (EP X pins σ Q) X.xe s
def PT (X:Cx) (e:Expr) (t:TT):Prop :=
 ∀ (pins:List (Addr × Obj)) (s:Shared) (σ:St) (H:Hp) (Q:Bool→Hp→Prop),Inv X pins σ H s→t σ H Q→wpAny (model X.prog X.w) X.A (isTrue e X.env (eval e X.env)) (TP X pins σ Q) X.xe s
def PW (X:Cx) (e:Expr) (t:TT):Prop :=
 ∀ (whole:Sem Value) (pins:List (Addr × Obj)) (s:Shared) (σ:St) (H:Hp) (Q:Bool→Hp→Prop),Inv X pins σ H s→t σ H Q→wpAny (model X.prog X.w) X.A (isTrue e X.env whole) (TP X pins σ Q) X.xe s
theorem PW.pt {X:Cx} {e:Expr} {t:TT} (h:PW X e t):PT X e t:=h _
def PA (X:Cx) (es:List Expr) (t:TA):Prop :=
 ∀ (pos:Pos) (pins:List (Addr × Obj)) (s:Shared) (σ:St) (H:Hp) (Q:List V→Hp→Prop),Inv X pins σ H s→t σ H Q→wpAny (model X.prog X.w) X.A (spliced (backTo pos (starEach es X.env))) (AP X pins σ Q) X.xe s
def PS (X:Cx) (st:Stmt) (t:TS):Prop :=
 ∀ (pins:List (Addr × Obj)) (s:Shared) (σ:St) (H:Hp) (D:Ends),Inv X pins σ H s→t D σ H→wpAny (model X.prog X.w) X.A (exec st X.env) (SP X pins D) X.xe s
def PSs (X:Cx) (st:List Stmt) (t:TS):Prop :=
 ∀ (pins:List (Addr × Obj)) (s:Shared) (σ:St) (H:Hp) (D:Ends),Inv X pins σ H s→t D σ H→wpAny (model X.prog X.w) X.A (execs st X.env) (SP X pins D) X.xe s
theorem thn {α:Type} {t:Sem α} {Q Q':α→Shared→Prop} {M:Model} {A:Around} {E:Value→Shared→Prop} {s:Shared} (h:wpAny M A t Q E s) (hQ:∀ a s,Q a s→Q' a s):wpAny M A t Q' E s:=wpAny_mono h hQ fun _ _ x=>x
end L2
namespace L2
open PySem PySem.Spec PyProof.Rows
section
variable {X:Cx}
def tVar (i:Nat):TE:=fun σ H Q=>∃ v,σ[i]? = some (some v)∧Q v H
def tC (v:V):TE:=fun _ H Q=>Q v H
theorem pe_var {i:Nat} {x:Str} {pos:Pos} (hN:X.N[i]? = some x) (hv:Vis X.env.scope x) (hd:(x == ("__debug__":Str)) = false:=by decide) (hcd:(x == ("__classdict__":Str)) = false:=by decide):PE X (.Name x pos) (tVar i):=by
 intro pins s σ H Q I h
 obtain ⟨v,e,h⟩:=h
 obtain ⟨m,hn,hl⟩:=I.loc
 obtain ⟨u,r,l⟩:=hl i x v hN e hv
 have fin:EP X pins σ Q u s:=⟨v,H,I,r,h⟩
 rcases l with ⟨hk,hm⟩ | ⟨hk,c,hc,hcell⟩
 ·exact wpAny_Name (wpAny_loadName_local I.ok.kind hk hn hm fin) hd
 ·rcases hk with hk | hk
  ·exact wpAny_Name (wpAny_loadName_cell I.ok.kind hk hc hcell fin) hd
  ·exact wpAny_Name (wpAny_loadName_free I.ok.kind hk hc hcell fin hcd) hd
theorem pe_int {i j pos}:PE X (.Constant (.int i) j pos) (tC (.int i)):=fun _ _ _ H _ I h=>wpAny_Constant_int ⟨.int i,H,I.tok _,⟨_,rfl⟩,h⟩
theorem pe_bl {b j pos}:PE X (.Constant (.bool b) j pos) (tC (.bl b)):=fun _ _ _ H _ I h=>Constant_bool ⟨.bl b,H,I,rfl,h⟩
theorem pe_non {j pos}:PE X (.Constant .none j pos) (tC .non):=fun _ _ _ H _ I h=>Constant_none ⟨.non,H,I,rfl,h⟩
theorem pe_str {x j pos}:PE X (.Constant (.str x) j pos) (tC (.str x)):=fun _ _ _ H _ I h=>Calls.Constant_str ⟨.str x,H,I.tok _,⟨_,rfl⟩,h⟩
def Gl (X:Cx) (x:Str):Prop:=X.env.kindOf x = some .globalImplicit
theorem ld_glob {E : Value → Shared → Prop} {pins : List (Addr × Obj)} {s : Shared} {σ : St} {H : Hp} {x : Str} {u : Value} {pos : Pos} {Q : Value → Shared → Prop} (I : Inv X pins σ H s) (hg : Gl X x) (hm : X.mg x = some u) (h : Q u s)
  (hd:(x == ("__debug__":Str)) = false:=by decide):wpAny (model X.prog X.w) X.A (eval (.Name x pos) X.env) Q E s :=
 Calls.Name_function_global I.ok.kind hg (Calls.loadGlobal_global (by rw [I.ok.glob]; exact I.mod.glob.keeps I.bk) hm h) hd
theorem ld_blt {E : Value → Shared → Prop} {pins : List (Addr × Obj)} {s : Shared} {σ : St} {H : Hp} {x : Str} {u : Value} {pos : Pos} {Q : Value → Shared → Prop} (I : Inv X pins σ H s) (hg : Gl X x) (hm : X.mg x = none) (hv : bootBuiltins x = some u) (h : Q u s)
  (hn:x ≠ "__name__":=by decide) (hd:(x == ("__debug__":Str)) = false:=by decide):wpAny (model X.prog X.w) X.A (eval (.Name x pos) X.env) Q E s:=by
 obtain ⟨mb,h1,h2⟩:=I.mod.blt
 exact Calls.Name_function_global I.ok.kind hg (Calls.loadGlobal_builtin (by rw [I.ok.glob]; exact I.mod.glob.keeps I.bk) hm (by rw [I.ok.blt]; exact h1.keeps I.bk) ((h2 x hn).trans hv) h) hd
theorem pe_glob {x:Str} {v:V} {u:Value} {pos:Pos} (hg:Gl X x) (hm:X.mg x = some u) (r:RelV v u) (hd:(x == ("__debug__":Str)) = false:=by decide):PE X (.Name x pos) (tC v) :=
 fun _ _ _ H _ I h=>ld_glob I hg hm ⟨v,H,I,r,h⟩ hd
theorem pe_bltn {x:Str} {v:V} {u:Value} {pos:Pos} (hg:Gl X x) (hm:X.mg x = none) (hv:bootBuiltins x = some u) (r:RelV v u) (hn:x ≠ "__name__":=by decide) (hd:(x == ("__debug__":Str)) = false:=by decide):PE X (.Name x pos) (tC v) :=
 fun _ _ _ H _ I h=>ld_blt I hg hm hv ⟨v,H,I,r,h⟩ hn hd
variable {a b:Expr} {ta tb:TE} {pos:Pos}
def tB (t:TE):TT:=fun σ H Q=>t σ H fun x H1=>∃ c,x = .bl c∧Q c H1
theorem pt_val {e:Expr} {t:TE} (h:PE X e t) (he:∀ whole,isTrue e X.env whole = (do let v ← whole; standAt e.pos; holding [v] (truthy v)):=by intro _; rfl):PT X e (tB t):=by
 intro pins s σ H Q I hw
 refine isTrue_plain (thn (h pins s σ H _ I hw) fun v s1 ⟨x,H1,I1,r1,q1⟩=>?_) (he _)
 obtain ⟨d,rfl,q⟩:=q1
 cases r1
 exact wpAny_truthy_bool ⟨H1,I1,q⟩
variable {tA tB':TT} {rest:List Expr}
def tAnd (t u:TT):TT:=fun σ H Q=>t σ H fun c H1=>if c = true then u σ H1 Q else Q false H1
def tOr (t u:TT):TT:=fun σ H Q=>t σ H fun c H1=>if c = true then Q true H1 else u σ H1 Q
def tNot (t:TT):TT:=fun σ H Q=>t σ H fun c H1=>Q (!c) H1
theorem pw_and1 (ha:PT X a tA):PW X (.BoolOp .And [a] pos) tA:=by
 intro wh pins s σ H Q I h
 refine isTrue_and (thn (ha pins s σ H Q I h) fun c s1 e=>?_)
 cases c with
 | true=>exact isTrue_and_nil e
 | false=>exact e
theorem pw_or1 (ha:PT X a tA):PW X (.BoolOp .Or [a] pos) tA:=by
 intro wh pins s σ H Q I h
 refine isTrue_or (thn (ha pins s σ H Q I h) fun c s1 e=>?_)
 cases c with
 | false=>exact isTrue_or_nil e
 | true=>exact e
theorem pw_and (ha:PT X a tA) (hb:PW X (.BoolOp .And (b :: rest) pos) tB'):PW X (.BoolOp .And (a :: b :: rest) pos) (tAnd tA tB'):=by
 intro wh pins s σ H Q I h
 refine isTrue_and (thn (ha pins s σ H _ I h) fun c s1 ⟨H1,I1,q1⟩=>?_)
 cases c with
 | true=>exact hb wh pins s1 σ H1 Q I1 q1
 | false=>exact ⟨H1,I1,q1⟩
theorem pw_or (ha:PT X a tA) (hb:PW X (.BoolOp .Or (b :: rest) pos) tB'):PW X (.BoolOp .Or (a :: b :: rest) pos) (tOr tA tB'):=by
 intro wh pins s σ H Q I h
 refine isTrue_or (thn (ha pins s σ H _ I h) fun c s1 ⟨H1,I1,q1⟩=>?_)
 cases c with
 | true=>exact ⟨H1,I1,q1⟩
 | false=>exact hb wh pins s1 σ H1 Q I1 q1
theorem pt_not (ha:PT X a tA):PT X (.UnaryOp .Not a pos) (tNot tA):=by
 intro pins s σ H Q I h
 exact isTrue_not (ha pins s σ H (fun c H1=>Q (!c) H1) I h)
def tOrV (ta tb:TE):TE:=fun σ H Q=>ta σ H fun x H1=>∃ c,x = .bl c∧if c = true then Q (.bl true) H1 else tb σ H1 Q
theorem pe_one {op} {t:TE} (h:PE X a t):PE X (.BoolOp op [a] pos) t:=fun pins s σ H Q I hw=>BoolOp_one (h pins s σ H Q I hw)
theorem pe_or (ha:PE X a ta) (hb:PE X (.BoolOp .Or (b :: rest) pos) tb):PE X (.BoolOp .Or (a :: b :: rest) pos) (tOrV ta tb):=by
 intro pins s σ H Q I h
 refine BoolOp_or (thn (ha pins s σ H _ I h) fun v s1 ⟨x,H1,I1,r1,q1⟩=>?_)
 obtain ⟨c,rfl,q1⟩:=q1
 cases r1
 refine wpAny_truthy_bool ?_
 cases c with
 | false=>exact hb pins s1 σ H1 Q I1 q1
 | true=>exact ⟨.bl true,H1,I1,rfl,q1⟩
def tIf (t:TT) (ta tb:TE):TE:=fun σ H Q=>t σ H fun c H1=>if c = true then ta σ H1 Q else tb σ H1 Q
theorem pe_ifExp {c:Expr} (hc:PT X c tA) (ha:PE X a ta) (hb:PE X b tb):PE X (.IfExp c a b pos) (tIf tA ta tb):=by
 intro pins s σ H Q I h
 refine wpAny_IfExp (thn (hc pins s σ H _ I h) fun d s1 ⟨H1,I1,q1⟩=>?_)
 cases d with
 | true=>exact ha pins s1 σ H1 Q I1 q1
 | false=>exact hb pins s1 σ H1 Q I1 q1
end
end L2
namespace L2
open PySem PySem.Spec PyProof.Rows
def SqL (K:PySem.W.Frag) (H:Hp) (a:Addr) (xs:List V):Prop :=
 Rd H a (.lst xs) ∨
  ∃ (o:Obj) (its:Array Value) (n:Nat),K.lookup a = some o∧o.cls = .type "list"∧o.dict = none∧o.data = .seq its n∧its.size ≤ sizeLine∧Vals xs its.toList
def SqT (K:PySem.W.Frag) (H:Hp) (a:Addr) (xs:List V):Prop :=
 Rd H a (.tup xs) ∨
  ∃ (o:Obj) (its:Array Value) (n:Nat),K.lookup a = some o∧o.cls = .type "tuple"∧o.data = .seq its n∧its.size ≤ sizeLine∧Vals xs its.toList
def absV:Value→Option V
 | .none=>some .non
 | .bool b=>some (.bl b)
 | .int i _=>some (.int i)
 | .str x _=>some (.str x)
 | .bytes b _=>some (.byt b)
 | .float b _=>some (.flt b)
 | .ref a=>some (.ref a)
 | .type n=>some (.ty n)
 | _=>none
theorem RelV.abs {x:V} {u:Value} (r:RelV x u):absV u = some x:=by
 cases x with
 | non=>cases r; rfl
 | bl _=>cases r; rfl
 | int _=>obtain ⟨t,rfl⟩:=r; rfl
 | str _=>obtain ⟨t,rfl⟩:=r; rfl
 | byt _=>obtain ⟨t,rfl⟩:=r; rfl
 | flt _=>obtain ⟨t,rfl⟩:=r; rfl
 | ref _=>cases r; rfl
 | ty _=>cases r; rfl
theorem RelV.inj {x y:V} {u:Value} (r:RelV x u) (q:RelV y u):x = y:=Option.some.inj (r.abs.symm.trans q.abs)
theorem Vals.inj:∀ {xs ys:List V} {us:List Value},Vals xs us→Vals ys us→xs = ys
 | _,_,_,.nil,.nil=>rfl
 | _,_,_,.cons r t,.cons r' t'=>by rw [r.inj r',Vals.inj t t']
section
variable {X:Cx} {pins:List (Addr × Obj)} {σ:St} {H:Hp} {s:Shared} {a:Addr} {xs ys:List V}
theorem SqL.of {K:PySem.W.Frag} (h:H a = some (.lst xs)):SqL K H a xs:=.inl (.inl h)
theorem SqT.of {K:PySem.W.Frag} (h:H a = some (.tup xs)):SqT K H a xs:=.inl (.inl h)
theorem Inv.list (I:Inv X pins σ H s) (h:SqL X.K H a xs):∃ its:List Value,Vals xs its∧PlainL s.heap a its.toArray∧xs.length ≤ sizeLine:=by
 rcases h with h | ⟨o,its,n,hk,hc,hd,hs,hz,r⟩
 ·obtain ⟨z,its,n,r,e⟩:=h.ok I.hok
  exact ⟨its,r,⟨_,n,e,rfl,rfl,rfl⟩,z⟩
 ·refine ⟨its.toList,r,⟨o,n,I.kIn a o hk,hc,hd,by simpa using hs⟩,?_⟩
  have e:=r.length
  simp only [Array.length_toList] at e
  omega
theorem Inv.tuple (I:Inv X pins σ H s) (h:SqT X.K H a xs):∃ its:List Value,Vals xs its∧IsTup s.heap a its.toArray∧xs.length ≤ sizeLine:=by
 rcases h with h | ⟨o,its,n,hk,hc,hs,hz,r⟩
 ·obtain ⟨z,its,r,p⟩:=h.ok I.hok
  exact ⟨its,r,p,z⟩
 ·refine ⟨its.toList,r,⟨o,I.kIn a o hk,hc,n,by simpa using hs⟩,?_⟩
  have e:=r.length
  simp only [Array.length_toList] at e
  omega
theorem Inv.list_inj (I:Inv X pins σ H s) (h:SqL X.K H a xs) (h':SqL X.K H a ys):xs = ys:=by
 obtain ⟨its,r,⟨o,n,e,_,_,d⟩,_⟩:=I.list h
 obtain ⟨its',r',⟨o',n',e',_,_,d'⟩,_⟩:=I.list h'
 rw [e] at e'; cases e'
 rw [d] at d'
 injection d' with d1 _
 have:its = its':=by simpa using congrArg Array.toList d1
 subst this
 exact r.inj r'
theorem Inv.tuple_inj (I:Inv X pins σ H s) (h:SqT X.K H a xs) (h':SqT X.K H a ys):xs = ys:=by
 obtain ⟨its,r,⟨o,e,_,n,d⟩,_⟩:=I.tuple h
 obtain ⟨its',r',⟨o',e',_,n',d'⟩,_⟩:=I.tuple h'
 rw [e] at e'; cases e'
 rw [d] at d'
 injection d' with d1 _
 have:its = its':=by simpa using congrArg Array.toList d1
 subst this
 exact r.inj r'
end
abbrev Cx.wish (X:Cx) (E:Value→Shared→Prop):Cx:={ X with xe:=E }
abbrev Cx.nox (X:Cx):Cx:=X.wish fun _ _=>False
theorem Cx.Ok.wish {X:Cx} (ok:X.Ok) (E:Value→Shared→Prop):(X.wish E).Ok :=
 ⟨ok.mod,ok.kind,ok.glob,ok.blt,ok.above,ok.inj,ok.has,ok.cab,ok.hd,ok.frames,ok.stk,ok.exf,ok.bs,ok.bsz,ok.noex,ok.exfs,ok.funs,ok.frf⟩
theorem Cx.Ok.unwish {X:Cx} {E:Value→Shared→Prop} (ok:(X.wish E).Ok):X.Ok :=
 ⟨ok.mod,ok.kind,ok.glob,ok.blt,ok.above,ok.inj,ok.has,ok.cab,ok.hd,ok.frames,ok.stk,ok.exf,ok.bs,ok.bsz,ok.noex,ok.exfs,ok.funs,ok.frf⟩
section
variable {X:Cx} {pins:List (Addr × Obj)} {σ:St} {H:Hp} {s:Shared} {E:Value→Shared→Prop}
theorem Inv.wish (I:Inv X pins σ H s) (E:Value→Shared→Prop):Inv (X.wish E) pins σ H s:=⟨I.ok.wish E,I.os,I.bare,I.base,I.loc,I.cell,I.free,I.freeC,I.pin,I.hok,I.len⟩
theorem Inv.unwish (I:Inv (X.wish E) pins σ H s):Inv X pins σ H s:=⟨I.ok.unwish,I.os,I.bare,I.base,I.loc,I.cell,I.free,I.freeC,I.pin,I.hok,I.len⟩
theorem SP.unwish {D:Ends} {f:Flow} {s':Shared} (h:SP (X.wish E) pins D f s'):SP X pins D f s':=by
 cases f with
 | next=>obtain ⟨σ',H',I,q⟩:=h; exact ⟨σ',H',I.unwish,q⟩
 | brk=>obtain ⟨σ',H',I,q⟩:=h; exact ⟨σ',H',I.unwish,q⟩
 | cont=>obtain ⟨σ',H',I,q⟩:=h; exact ⟨σ',H',I.unwish,q⟩
 | ret u=>obtain ⟨v,σ',H',I,r,q⟩:=h; exact ⟨v,σ',H',I.unwish,r,q⟩
theorem PSs.nox {st:List Stmt} {t:TS} (h:PSs X.nox st t):PSs X st t:=fun pins s σ H D I hw =>
 wpAny_mono (h pins s σ H D (I.wish _) hw) (fun _ _ q=>q.unwish) fun _ _ z=>False.elim z
end
section
variable {X:Cx} {st:Stmt} {rest:List Stmt} {t u:TS} {e:Expr} {te:TE} {pos:Pos}
def tNext:TS:=fun D σ H=>D.nx σ H
def tSeq (t u:TS):TS:=fun D σ H=>t { D with nx:=u D } σ H
theorem pss_nil:PSs X [] tNext:=fun _ _ σ H _ I h=>wpAny_execs_nil ⟨σ,H,I,h⟩
theorem pss_cons (h1:PS X st t) (h2:PSs X rest u):PSs X (st :: rest) (tSeq t u):=by
 intro pins s σ H D I h
 refine wpAny_execs_cons (thn (h1 pins s σ H { D with nx:=u D } I h) fun f s1 q=>?_)
 cases f with
 | next =>
  obtain ⟨σ',H',I',q⟩:=q
  exact h2 pins s1 σ' H' D I' q
 | ret v=>exact q
 | brk=>exact q
 | cont=>exact q
theorem pss_one (h1:PS X st t):PSs X [st] t:=by
 intro pins s σ H D I h
 refine wpAny_execs_cons (thn (h1 pins s σ H D I h) fun f s1 q=>?_)
 cases f with
 | next=>exact wpAny_execs_nil q
 | ret v=>exact q
 | brk=>exact q
 | cont=>exact q
theorem Inv.quiet {pins:List (Addr × Obj)} {σ:St} {H:Hp} {s:Shared} (I:Inv X pins σ H s):interactive X.env = false:=by simp [interactive,I.ok.kind]
def tDrop (te:TE):TS:=fun D σ H=>te σ H fun _ H1=>D.nx σ H1
theorem ps_expr (he:PE X e te) (hs:swapsWith e none pos.line X.env = pure false:=by rfl):PS X (.Expr e pos) (tDrop te):=by
 intro pins s σ H D I h
 exact wpAny_Expr_any (thn (he pins s σ H _ I h) fun v s1 ⟨x,H1,I1,r1,q1⟩=>⟨σ,H1,I1,q1⟩) I.quiet hs
def tRet (te:TE):TS:=fun D σ H=>te σ H D.rt
theorem ps_ret (he:PE X e te):PS X (.Return (some e) pos) (tRet te):=by
 intro pins s σ H D I h
 exact wpAny_Return_some (thn (he pins s σ H _ I h) fun v s1 ⟨x,H1,I1,r1,q1⟩=>⟨x,σ,H1,I1,r1,q1⟩)
def tIfS (c:TT) (t u:TS):TS:=fun D σ H=>c σ H fun b H1=>if b = true then t D σ H1 else u D σ H1
theorem ps_if {c:Expr} {a b:List Stmt} {tc:TT} (hc:PT X c tc) (ha:PSs X a t) (hb:PSs X b u):PS X (.If c a b pos) (tIfS tc t u):=by
 intro pins s σ H D I h
 refine wpAny_If (thn (hc pins s σ H _ I h) fun d s1 ⟨H1,I1,q1⟩=>?_)
 cases d with
 | true=>exact ha pins s1 σ H1 D I1 q1
 | false=>exact hb pins s1 σ H1 D I1 q1
end
abbrev TG:=V→St→Hp→(St→Hp→Prop)→Prop
abbrev TGs:=List V→St→Hp→(St→Hp→Prop)→Prop
def PG (X:Cx) (target:Expr) (t:TG):Prop :=
 ∀ (pins:List (Addr × Obj)) (s:Shared) (σ:St) (H:Hp) (v:V) (u:Value) (Q:St→Hp→Prop),Inv X pins σ H s→RelV v u→t v σ H Q →
  wpAny (model X.prog X.w) X.A (assign target X.env u) (fun _ s'=>∃ σ' H',Inv X pins σ' H' s'∧Q σ' H') X.xe s
def PGs (X:Cx) (ts:List Expr) (t:TGs):Prop :=
 ∀ (pins:List (Addr × Obj)) (s:Shared) (σ:St) (H:Hp) (vs:List V) (us:List Value) (Q:St→Hp→Prop),Inv X pins σ H s→Vals vs us→t vs σ H Q →
  wpAny (model X.prog X.w) X.A (assignInOrder ((assignEach ts X.env).map (·.2)) us) (fun _ s'=>∃ σ' H',Inv X pins σ' H' s'∧Q σ' H') X.xe s
section
variable {X:Cx} {pos:Pos}
def gName (i:Nat):TG:=fun v σ H Q=>Q (σ.set i (some v)) H
theorem pg_name {i:Nat} {x:Str} (hN:X.N.Nodup) (hi:X.N[i]? = some x) (hx:Loc X.env.scope x) (hf:X.fn x = true∨X.env.scope.names.lookup x = some .local:=by first | exact .inl rfl | exact .inr rfl | assumption):PG X (.Name x pos) (gName i):=by
 intro pins s σ H v u Q I r h
 exact wpAny_assign_Name (store_ok I hN hi hx r (fun s' I'=>⟨_,H,I',h⟩) hf)
def gNil:TGs:=fun vs σ H Q=>vs = []∧Q σ H
def gCons (t:TG) (u:TGs):TGs:=fun vs σ H Q=>∃ v r,vs = v :: r∧t v σ H fun σ' H'=>u r σ' H' Q
theorem pgs_nil:PGs X [] gNil:=by
 intro pins s σ H vs us Q I r h
 obtain ⟨e,h⟩:=h
 subst e
 cases r
 exact assignInOrder_nil ⟨σ,H,I,h⟩
theorem pgs_cons {e : Expr} {es : List Expr} {t : TG} {u : TGs} (h1 : PG X e t) (h2 : PGs X es u)
  (hs:(assignEach (e :: es) X.env).map (·.2) = assign e X.env :: (assignEach es X.env).map (·.2):=by rfl):PGs X (e :: es) (gCons t u):=by
 intro pins s σ H vs us Q I r h
 obtain ⟨v,vr,e1,h⟩:=h
 subst e1
 cases r with
 | cons r rr =>
  rw [hs]
  refine assignInOrder_cons (thn (h1 pins s σ H _ _ _ I r h) fun _ s1 ⟨σ1,H1,I1,q1⟩=>?_)
  exact h2 pins s1 σ1 H1 _ _ Q I1 rr q1
def gTup (K:PySem.W.Frag) (n:Nat) (t:TGs):TG:=fun v σ H Q=>∃ a xs,v = .ref a∧SqT K H a xs∧xs.length = n∧t xs σ H Q
theorem pg_tup {es : List Expr} {k : Nat} {t : TGs} {n : Nat} (hc : X.calm = true) (h : PGs X es t)
  (hn:(assignEach es X.env).length = n:=by rfl) (hst:(assignEach es X.env).findIdx? (·.1) = none:=by rfl):PG X (.Tuple es k pos) (gTup X.K n t):=by
 intro pins s σ H v u Q I r hw
 obtain ⟨a,xs,e1,hq,hl,hw⟩:=hw
 subst e1
 cases r
 obtain ⟨its,rv,ht,hz⟩:=I.tuple hq
 refine assign_Tuple_tuple (I.ok.hd hc) ht (by simp [hn,← hl,rv.length]) hst fun h' hx=>?_
 have I1:Inv X pins σ H { s with heap:=h' }:=I.kept (t':=s.toks) fun b o e=>hx b o (Nat.ne_of_lt (Heap.lt_size e)) e
 exact h pins _ σ H xs _ Q I1 (by simpa using rv) hw
def tAsg (te:TE) (g:TG):TS:=fun D σ H=>te σ H fun x H1=>g x σ H1 D.nx
theorem ps_set {i : Nat} {x : Str} {e : Expr} {te : TE} {pos' : Pos} (hN : X.N.Nodup) (hi : X.N[i]? = some x) (hx : Loc X.env.scope x) (he : PE X e te) (hs : swapsWith e (some (.Name x pos')) pos.line X.env = pure false := by rfl) (hf : X.fn x = true ∨ X.env.scope.names.lookup x = some .local := by first | exact .inl rfl | exact .inr rfl | assumption) :
  PS X (.Assign [.Name x pos'] e pos) (tAsg te (gName i)):=by
 intro pins s σ H D I h
 refine wpAny_Assign_Name (thn (he pins s σ H _ I h) fun v s1 ⟨y,H1,I1,r1,q1⟩=>?_) hs
 exact store_ok I1 hN hi hx r1 (fun s2 I2=>⟨_,H1,I2,q1⟩) hf
end
section
variable {X:Cx} {pos:Pos}
def tWhile (c:TT) (tb:TS):TS:=fun D σ H=>∃ W:Nat→St→Hp→Prop,(∃ m,W m σ H)∧∀ m σ H,W m σ H →
 c σ H fun b H1=>if b = true then ∃ N:St→Hp→Prop,(∀ σ' H',N σ' H'→∃ m',m' < m∧W m' σ' H')∧tb { D with nx:=N,ct:=N,bk:=D.nx } σ H1 else D.nx σ H1
theorem ps_while {c:Expr} {body:List Stmt} {tc:TT} {tb:TS} (hp:PassesOwn (model X.prog X.w) X.A X.env X.xe) (hc:PT X c tc) (hb:PSs X body tb):PS X (.While c body [] pos) (tWhile tc tb):=by
 intro pins s σ H D I h
 obtain ⟨W,⟨m0,w0⟩,turn⟩:=h
 refine wpAny_While (codeAny_whileLoop (fun n s'=>∃ σ' H',Inv X pins σ' H' s'∧W n σ' H') ?_ m0 ⟨σ,H,I,w0⟩)
 rintro n s1 ⟨σ1,H1,I1,w1⟩
 refine wpAny_passesOwn hp (thn (hc pins s1 σ1 H1 _ I1 (turn n σ1 H1 w1)) fun b s2 ⟨H2,I2,q2⟩=>?_)
 cases b with
 | true =>
  obtain ⟨N,hN,q2⟩:=q2
  rw [if_pos rfl]
  refine wpAny_passesOwn hp (thn (hb pins s2 σ1 H2 _ I2 q2) fun f s3 q3=>?_)
  cases f with
  | next =>
   obtain ⟨σ3,H3,I3,n3⟩:=q3
   obtain ⟨m',hm,w3⟩:=hN σ3 H3 n3
   exact ⟨m',hm,σ3,H3,I3,w3⟩
  | cont =>
   obtain ⟨σ3,H3,I3,n3⟩:=q3
   obtain ⟨m',hm,w3⟩:=hN σ3 H3 n3
   exact ⟨m',hm,σ3,H3,I3,w3⟩
  | brk=>exact q3
  | ret v=>exact q3
 | false =>
  rw [if_neg Bool.false_ne_true]
  exact wpAny_execs_nil ⟨σ1,H2,I2,q2⟩
end
structure It where
 go:Nat→Hp→Prop
 yld:Nat→Hp→V→Hp→Prop
 stop:Nat→Hp→Prop
def FpOk (X:Cx) (pins:List (Addr × Obj)) (H:Hp) (b:Addr):Prop :=
 H b = none∧b ≠ X.env.locals∧b ∉ X.fs∧(b ∈ X.ex∨X.s₀.heap.objs.size ≤ b)∧(∀ x c,X.env.cells.lookup x = some c→c ≠ b)∧∀ p ∈ X.pn ++ pins,p.1 ≠ b
theorem Inv.fpOk {X:Cx} {pins:List (Addr × Obj)} {σ:St} {H H':Hp} {s:Shared} {b:Addr} (I:Inv X pins σ H s) (hb:s.heap.objs.size ≤ b) (hn:H' b = none):FpOk X pins H' b:=by
 refine ⟨hn,Nat.ne_of_gt (Nat.lt_of_lt_of_le I.lt hb),I.nofs hb,.inr (Nat.le_trans I.sz hb),fun x c e z=>?_,fun p hp z=>?_⟩
 ·obtain ⟨v,q⟩:=I.cell x c e
  exact absurd (Nat.lt_of_lt_of_le q.lt (by rw [z]; exact hb)) (Nat.lt_irrefl _)
 ·exact absurd (Nat.lt_of_lt_of_le (Heap.lt_size (I.pin p hp).1) (by rw [z]; exact hb)) (Nat.lt_irrefl _)
structure Turn (P:Program) (w:World) (K:PySem.W.Frag) (tg:Expr) (J:It) (fp:List Addr) (it:Addr) (tn:Nat→Heap→Prop):Prop where
 mem:it ∈ fp
 obj:∀ i h,tn i h→∀ b ∈ fp,∃ o,h.get? b = some o∧∀ v,o.data ≠ .cell v
 keep:∀ i h h',tn i h→(∀ b ∈ fp,∀ o,h.get? b = some o→h'.get? b = some o)→tn i h'
 item:∀ (X:Cx),X.prog = P→X.w = w→X.K = K→X.calm = true→∀ (i:Nat) (pins:List (Addr × Obj)) (s:Shared) (σ:St) (H:Hp) (E:Value→Shared→Prop),Inv X pins σ H s→(∀ b ∈ fp,FpOk X pins H b)→tn i s.heap→J.go i H →
  wpAny (model P w) X.A (pyNext (.ref it)) (fun r s1=>∃ u,r = some u ∧
   wpAny (model P w) X.A (letOwnedTupleGo tg (.ref it) u) (fun _ s2=>∃ x H',Inv X pins σ H' s2∧RelV x u∧J.yld i H x H'∧tn (i + 1) s2.heap∧∀ b ∈ fp,H' b = none) E s1) E s
 done:∀ (X:Cx),X.prog = P→X.w = w→X.K = K→X.calm = true→∀ (i:Nat) (pins:List (Addr × Obj)) (s:Shared) (σ:St) (H:Hp) (E:Value→Shared→Prop),Inv X pins σ H s→(∀ b ∈ fp,FpOk X pins H b)→tn i s.heap→J.stop i H →
  wpAny (model P w) X.A (pyNext (.ref it)) (fun r s1=>r = none∧Inv X pins σ H s1) E s
 self:∀ (A:Around) (i:Nat) (s:Shared) (Q:Value→Shared→Prop) (E:Value→Shared→Prop),tn i s.heap→Q (.ref it) s→wpAny (model P w) A (pyIter (.ref it)) Q E s
abbrev TI:=St→Hp→(It→Hp→Prop)→Prop
def PIE (X:Cx) (pins:List (Addr × Obj)) (σ:St) (tg:Expr) (R:It→Hp→Prop) (itv:Value) (s2:Shared):Prop :=
 ∃ (it:Addr) (fp:List Addr) (tn:Nat→Heap→Prop) (J:It) (H':Hp),itv = .ref it∧Inv X pins σ H' s2∧Turn X.prog X.w X.K tg J fp it tn∧tn 0 s2.heap∧(∀ b ∈ fp,FpOk X pins H' b)∧R J H'
def PI (X:Cx) (tg iter:Expr) (wi:TI):Prop :=
 ∀ (pins:List (Addr × Obj)) (s:Shared) (σ:St) (H:Hp) (R:It→Hp→Prop),Inv X pins σ H s→wi σ H R →
  wpAny (model X.prog X.w) X.A (eval iter X.env) (fun v s1=>wpAny (model X.prog X.w) X.A (pyIter v) (PIE X pins σ tg R) X.xe s1) X.xe s
theorem go_of {M : Model} {A : Around} {E : Value → Shared → Prop} {s : Shared} {tg : Expr} {it : Addr} {u : Value} {o : Obj} {n : String} {vs : Array Value} {Q : Unit → Shared → Prop} (ho : s.heap.get? it = some o) (hc : o.cls = .type n) (hd : o.data = .fields vs)
  (hn:["enumerate","zip","dict_itemiterator","dict_reverseitemiterator","odict_iterator","itertools.zip_longest","itertools.pairwise"].contains n = false) (hQ:Q () s):wpAny M A (letOwnedTupleGo tg (.ref it) u) Q E s:=by
 unfold letOwnedTupleGo
 cases tg <;> first
  | exact wpAny_pure hQ
  | (cases u <;> first
    | exact wpAny_pure hQ
    | (refine wpAny_bind (wpAny_load ho ?_)
       rw [hc,hd]
       show wpAny M A (if (["enumerate","zip","dict_itemiterator","dict_reverseitemiterator","odict_iterator","itertools.zip_longest","itertools.pairwise"].contains n && vs[0]? == some (rawInt _)) = true then _ else _) Q E s
       rw [if_neg (by intro h; rw [hn,Bool.false_and] at h; cases h)]
       exact wpAny_pure hQ))
def Itl (K:PySem.W.Frag) (a:Addr):It :=
 ⟨fun i H=>∃ xs x,SqL K H a xs∧xs[i]? = some x,fun i H x H'=>H' = H∧∀ xs,SqL K H a xs→xs[i]? = some x,fun i H=>∃ xs,SqL K H a xs∧xs.length ≤ i⟩
def Itt (K:PySem.W.Frag) (a:Addr):It :=
 ⟨fun i H=>∃ xs x,SqT K H a xs∧xs[i]? = some x,fun i H x H'=>H' = H∧∀ xs,SqT K H a xs→xs[i]? = some x,fun i H=>∃ xs,SqT K H a xs∧xs.length ≤ i⟩
def Itr (lo:Int) (n:Nat):It:=⟨fun i _=>i < n,fun i H x H'=>H' = H∧x = .int (lo + i),fun i _=>n ≤ i⟩
theorem turn_list {P:Program} {w:World} {K:PySem.W.Frag} {tg:Expr} (a it:Addr):Turn P w K tg (Itl K a) [it] it (fun i h=>h.IsListIter it a i) where
 mem:=by simp
 obj:=fun i h st b hb=>by
  have e:b = it:=by simpa using hb
  subst e
  obtain ⟨o,e,c,d⟩:=st
  exact ⟨o,e,fun v z=>by rw [d] at z; cases z⟩
 keep:=fun i h h' st k=>st.at fun o e=>k it (by simp) o e
 item:=by
  intro X hP hw hK hc i pins s σ H E I hf st hg
  subst hP hw hK
  obtain ⟨xs,x,hq,hx⟩:=hg
  obtain ⟨its,rv,p,hz⟩:=I.list hq
  obtain ⟨u,hu,ru⟩:=rv.get hx
  obtain ⟨f0,f1,f2,f3,f4,f5⟩:=hf it (by simp)
  refine wpAny_pyNext_list_item st p.isList (x:=u) (by simpa using hu) fun h' st' sb=>?_
  have I1:Inv X pins σ H { s with heap:=h' }:=I.turned (t':=s.toks) (fun b o hb e=>(sb.2 b hb).trans e) f0 f1 f3 f4 f5
  obtain ⟨o,e,c,d⟩:=id st'
  exact ⟨u,rfl,go_of (s:={ s with heap:=h' }) e c d (by decide) ⟨x,H,I1,ru,⟨rfl,fun ys hy=>by rw [I.list_inj hy hq]; exact hx⟩,st',fun b hb=>(hf b hb).1⟩⟩
 done:=by
  intro X hP hw hK hc i pins s σ H E I hf st hg
  subst hP hw hK
  obtain ⟨xs,hq,hx⟩:=hg
  obtain ⟨its,rv,p,hz⟩:=I.list hq
  obtain ⟨f0,f1,f2,f3,f4,f5⟩:=hf it (by simp)
  have hl:=rv.length
  exact wpAny_pyNext_list_end (I.ok.hd hc) st p.isList (by simp; omega) fun h' eb=>⟨rfl,I.turned (t':=s.toks) (fun b o hb e=>eb b o hb e) f0 f1 f3 f4 f5⟩
 self:=fun _ _ _ _ _ st h=>wpAny_pyIter_listiter st h
theorem turn_tuple {P:Program} {w:World} {K:PySem.W.Frag} {tg:Expr} (a it:Addr):Turn P w K tg (Itt K a) [it] it (fun i h=>h.IsTupleIter it a i) where
 mem:=by simp
 obj:=fun i h st b hb=>by
  have e:b = it:=by simpa using hb
  subst e
  obtain ⟨o,e,c,d⟩:=st
  exact ⟨o,e,fun v z=>by rw [d] at z; cases z⟩
 keep:=fun i h h' st k=>st.at fun o e=>k it (by simp) o e
 item:=by
  intro X hP hw hK hc i pins s σ H E I hf st hg
  subst hP hw hK
  obtain ⟨xs,x,hq,hx⟩:=hg
  obtain ⟨its,rv,p,hz⟩:=I.tuple hq
  obtain ⟨u,hu,ru⟩:=rv.get hx
  obtain ⟨f0,f1,f2,f3,f4,f5⟩:=hf it (by simp)
  refine wpAny_pyNext_tuple_item st (show s.heap.IsTuple a its.toArray from p) (x:=u) (by simpa using hu) fun h' st' sb=>?_
  have I1:Inv X pins σ H { s with heap:=h' }:=I.turned (t':=s.toks) (fun b o hb e=>(sb.2 b hb).trans e) f0 f1 f3 f4 f5
  obtain ⟨o,e,c,d⟩:=id st'
  exact ⟨u,rfl,go_of (s:={ s with heap:=h' }) e c d (by decide) ⟨x,H,I1,ru,⟨rfl,fun ys hy=>by rw [I.tuple_inj hy hq]; exact hx⟩,st',fun b hb=>(hf b hb).1⟩⟩
 done:=by
  intro X hP hw hK hc i pins s σ H E I hf st hg
  subst hP hw hK
  obtain ⟨xs,hq,hx⟩:=hg
  obtain ⟨its,rv,p,hz⟩:=I.tuple hq
  obtain ⟨f0,f1,f2,f3,f4,f5⟩:=hf it (by simp)
  have hl:=rv.length
  exact wpAny_pyNext_tuple_end (I.ok.hd hc) st (show s.heap.IsTuple a its.toArray from p) (by simp; omega) fun h' eb=>⟨rfl,I.turned (t':=s.toks) (fun b o hb e=>eb b o hb e) f0 f1 f3 f4 f5⟩
 self:=fun _ _ _ _ _ st h=>wpAny_pyIter_tupleiter st h
theorem turn_range {P:Program} {w:World} {K:PySem.W.Frag} {tg:Expr} (it:Addr) (lo:Int) (n:Nat):Turn P w K tg (Itr lo n) [it] it (fun i h=>IsRangeIter h it (lo + (i:Nat) * 1) ((n:Int) - (i:Nat)) 1) where
 mem:=by simp
 obj:=fun i h st b hb=>by
  have e:b = it:=by simpa using hb
  subst e
  exact ⟨_,st,fun v z=>by
   have z':Data.fields _ = Data.cell v:=z
   cases z'⟩
 keep:=fun i h h' st k=>k it (by simp) _ st
 item:=by
  intro X hP hw hK hc i pins s σ H E I hf st hg
  subst hP hw hK
  obtain ⟨f0,f1,f2,f3,f4,f5⟩:=hf it (by simp)
  have W:=Walks.range (prog:=X.prog) (w:=X.w) (I.ok.hd hc) it lo 1 n
  refine W.item i s _ _ hg st fun v h' tk hv st' kk=>?_
  obtain ⟨t,rfl⟩:=hv
  have I1:Inv X pins σ H { s with heap:=h',toks:=tk }:=I.turned (fun b o hb e=>kk b o (by simpa using hb) e) f0 f1 f3 f4 f5
  refine ⟨_,rfl,go_of (s:={ s with heap:=h',toks:=tk }) (n:="range_iterator") st' rfl rfl (by decide) ⟨.int (lo + i),H,I1,⟨t,?_⟩,⟨rfl,rfl⟩,st',fun b hb=>(hf b hb).1⟩⟩
  rw [Int.mul_one]
 done:=by
  intro X hP hw hK hc i pins s σ H E I hf st hg
  subst hP hw hK
  obtain ⟨f0,f1,f2,f3,f4,f5⟩:=hf it (by simp)
  exact wpAny_pyNext_range_end (I.ok.hd hc) st (by have:n ≤ i:=hg; omega) fun h' eb=>⟨rfl,I.turned (t':=s.toks) (fun b o hb e=>eb b o hb e) f0 f1 f3 f4 f5⟩
 self:=fun _ _ _ _ _ st h=>wpAny_pyIter_rangeiter st h
end L2
namespace L2
open PySem PySem.Spec PyProof.Rows
section
variable {X:Cx} {tg:Expr}
theorem range_it {pins : List (Addr × Obj)} {σ : St} {H : Hp} {s : Shared} {R : It → Hp → Prop} {E : Value → Shared → Prop} {lo hi : Int} {t u v : Tok} {tk : Nat} (I : Inv X pins σ H s) (h1 : -(2 ^ 62) ≤ lo) (h2 : lo < 2 ^ 62) (h3 : -(2 ^ 62) ≤ hi) (h4 : hi < 2 ^ 62)
  (q:R (Itr lo (hi - lo).toNat) H):wpAny (model X.prog X.w) X.A (pyIter (.ref s.heap.objs.size)) (PIE X pins σ tg R) E { s with heap:=s.heap.push { cls:=.type "range",data:=.fields #[.int lo t,.int hi u,.int 1 v] },toks:=tk }:=by
 refine wpAny_pyIter_range (IsRange.new ..) (small_one h1 h2 h3 h4) ?_
 have I1:Inv X pins σ H { s with heap:=s.heap.push { cls:=.type "range",data:=.fields #[.int lo t,.int hi u,.int 1 v] },toks:=tk }:=I.kept fun b o e=>Heap.get?_push_of_some _ e
 refine ⟨(s.heap.push { cls:=.type "range",data:=.fields #[.int lo t,.int hi u,.int 1 v] }).objs.size,[(s.heap.push { cls:=.type "range",data:=.fields #[.int lo t,.int hi u,.int 1 v] }).objs.size],_,_,H,rfl,
  I1.kept (t':=tk) fun b o e=>Heap.get?_push_of_some _ e,turn_range _ lo (hi - lo).toNat,?_,fun b hb=>?_,q⟩
 ·have e1:lo + ((0:Nat):Int) * 1 = lo:=by simp
  have e2:(((hi - lo).toNat:Nat):Int) - ((0:Nat):Int) = Builtin.Range.rangeSize lo hi 1:=by rw [rangeSize_one]; split <;> omega
  show IsRangeIter _ _ (lo + ((0:Nat):Int) * 1) ((((hi - lo).toNat:Nat):Int) - ((0:Nat):Int)) 1
  rw [e1,e2]
  exact Heap.get?_push_size _ rfl
 ·have e:b = (s.heap.push { cls:=.type "range",data:=.fields #[.int lo t,.int hi u,.int 1 v] }).objs.size:=by simpa using hb
  subst e
  exact I1.fpOk (Nat.le_refl _) (I1.hok.fresh (Nat.le_refl _))
def iRng1 (ta:TA):TI:=fun σ H R=>ta σ H fun vs H1=>∃ j:Int,vs = [.int j]∧-(2 ^ 62) ≤ j∧j < 2 ^ 62∧R (Itr 0 j.toNat) H1
theorem pi_range1 {a:Expr} {ta:TA} {p pos:Pos} (hg:Gl X "range") (hm:X.mg "range" = none) (ha:PA X [a] ta) (hs:starEach [a] X.env = [(false,eval a X.env)]:=by rfl):PI X tg (.Call (.Name "range" p) [a] [] pos) (iRng1 ta):=by
 intro pins s σ H R I h
 refine Call_ (ld_blt I hg hm boot_range (PyProof.Rows.callWith_type1 (thn (ha pos pins s σ H _ I h) fun us s1 ⟨vs,H1,I1,r1,q1⟩=>?_) hs rfl))
 obtain ⟨j,e,q1,q2,q⟩:=q1
 subst e
 cases r1 with
 | cons r rr =>
  cases rr
  obtain ⟨t,rfl⟩:=r
  exact call_range_1 (range_it I1 (by omega) (by omega) q1 q2 (by simpa using q))
def tFor (wi:TI) (g:TG) (tb:TS):TS:=fun D σ H=>wi σ H fun J H1=>∃ W:Nat→Nat→St→Hp→Prop,(∃ m,W 0 m σ H1)∧∀ i m σ H,W i m σ H →
 (J.stop i H∧D.nx σ H)∨(J.go i H∧∃ N:St→Hp→Prop,(∀ σ' H',N σ' H'→∃ m',m' < m∧W (i + 1) m' σ' H')∧∀ x H',J.yld i H x H'→g x σ H' fun σ2 H2=>tb { D with nx:=N,ct:=N,bk:=D.nx } σ2 H2)
def pinsAt (fp:List Addr) (h:Heap):List (Addr × Obj):=fp.filterMap fun b=>(h.get? b).map fun o=>(b,o)
theorem mem_pinsAt {fp:List Addr} {h:Heap} {b:Addr} {o:Obj} (hb:b ∈ fp) (e:h.get? b = some o):(b,o) ∈ pinsAt fp h:=List.mem_filterMap.mpr ⟨b,hb,by rw [e]; rfl⟩
theorem of_pinsAt {fp:List Addr} {h:Heap} {p:Addr × Obj} (hp:p ∈ pinsAt fp h):p.1 ∈ fp∧h.get? p.1 = some p.2:=by
 obtain ⟨b,hb,e⟩:=List.mem_filterMap.mp hp
 cases q:h.get? b with
 | none=>rw [q] at e; cases e
 | some o =>
  rw [q] at e
  have e':(b,o) = p:=Option.some.inj e
  subst e'
  exact ⟨hb,q⟩
theorem Inv.pinned {pins:List (Addr × Obj)} {σ:St} {H:Hp} {s:Shared} {fp:List Addr} (I:Inv X pins σ H s) (hf:∀ b ∈ fp,FpOk X pins H b) (ho:∀ b ∈ fp,∃ o,s.heap.get? b = some o∧∀ v,o.data ≠ .cell v):Inv X (pins ++ pinsAt fp s.heap) σ H s :=
 I.pins_of fun p hp=>(List.mem_append.mp hp).elim (fun z=>I.pin p (List.mem_append_right _ z)) fun z=>by
  obtain ⟨hb,e⟩:=of_pinsAt z
  obtain ⟨f0,f1,f2,_⟩:=hf p.1 hb
  obtain ⟨o,e',d⟩:=ho p.1 hb
  rw [e] at e'; cases e'
  exact ⟨e,f0,f1,f2,d⟩
theorem Inv.unpinned {pins pl:List (Addr × Obj)} {σ:St} {H:Hp} {s:Shared} (I:Inv X (pins ++ pl) σ H s):Inv X pins σ H s:=I.pins_of fun p hp=>I.pin p (List.mem_append_right _ (List.mem_append_left _ hp))
theorem ps_for {iter : Expr} {body : List Stmt} {wi : TI} {g : TG} {tb : TS} {pos : Pos} (hp : PassesOwn (model X.prog X.w) X.A X.env X.xe) (hc : X.calm = true) (hi : PI X tg iter wi) (hg : PG X tg g) (hb : PSs X body tb)
  (hs:∀ x,foldedSetIterable iter X.env x = pure x:=by intro _; rfl):PS X (.For tg iter body [] pos) (tFor wi g tb):=by
 intro pins s σ H D I h
 refine wpAny_For (thn (hi pins s σ H _ I h) fun v s1 h1=>thn h1 fun itv s2 h2=>?_) hs
 obtain ⟨it,fp,tn,J,H2,e,I2,T,st2,f2,W,⟨m0,w0⟩,turn⟩:=h2
 subst e
 have stat:∀ {H':Hp},(∀ b ∈ fp,H' b = none)→∀ b ∈ fp,FpOk X pins H' b:=fun hn b hb=>⟨hn b hb,(f2 b hb).2⟩
 refine codeAny_forLoop_any (fun n s'=>∃ i σ' H',Inv X pins σ' H' s'∧tn i s'.heap∧(∀ b ∈ fp,H' b = none)∧W i n σ' H') ?_ m0 ⟨0,σ,H2,I2,st2,fun b hb=>(f2 b hb).1,w0⟩
 rintro n s3 ⟨i,σ3,H3,I3,st3,fr3,w3⟩
 rcases turn i n σ3 H3 w3 with ⟨stop,qn⟩ | ⟨go,N,hN,step⟩
 ·refine wpAny_passesOwn hp (thn (T.done X rfl rfl rfl hc i pins s3 σ3 H3 X.xe I3 (stat fr3) st3 stop) fun r s4 ⟨hr,I4⟩=>?_)
  subst hr
  exact wpAny_execs_nil ⟨σ3,H3,I4,qn⟩
 ·refine wpAny_passesOwn hp (thn (T.item X rfl rfl rfl hc i pins s3 σ3 H3 X.xe I3 (stat fr3) st3 go) fun r s4 ⟨u,hr,h4⟩=>?_)
  subst hr
  refine wpAny_passesOwn hp (thn h4 fun _ s5 ⟨x,H5,I5,r5,y5,st5,fr5⟩=>?_)
  have I5':=I5.pinned (stat fr5) (T.obj _ _ st5)
  refine wpAny_passesOwn hp (thn (hg _ s5 σ3 H5 x u _ I5' r5 (step x H5 y5)) fun _ s6 ⟨σ6,H6,I6,q6⟩=>?_)
  refine wpAny_passesOwn hp (thn (hb _ s6 σ6 H6 _ I6 q6) fun f s7 q7=>?_)
  have again:∀ {σ7:St} {H7:Hp},Inv X (pins ++ pinsAt fp s5.heap) σ7 H7 s7→N σ7 H7→∃ m,m < n∧∃ i σ' H',Inv X pins σ' H' s7∧tn i s7.heap∧(∀ b ∈ fp,H' b = none)∧W i m σ' H':=fun {σ7 H7} I7 n7=>by
   obtain ⟨m',hm,w7⟩:=hN σ7 H7 n7
   refine ⟨m',hm,i + 1,σ7,H7,I7.unpinned,T.keep _ _ _ st5 fun b hb o e=>(I7.pin (b,o) (List.mem_append_right _ (List.mem_append_right _ (mem_pinsAt hb e)))).1,fun b hb=>?_,w7⟩
   obtain ⟨o,e,d⟩:=T.obj _ _ st5 b hb
   exact (I7.pin (b,o) (List.mem_append_right _ (List.mem_append_right _ (mem_pinsAt hb e)))).2.1
  cases f with
  | next=>obtain ⟨σ7,H7,I7,n7⟩:=q7; exact again I7 n7
  | cont=>obtain ⟨σ7,H7,I7,n7⟩:=q7; exact again I7 n7
  | brk=>obtain ⟨σ7,H7,I7,q7⟩:=q7; exact ⟨σ7,H7,I7.unpinned,q7⟩
  | ret v=>obtain ⟨x7,σ7,H7,I7,r7,q7⟩:=q7; exact ⟨x7,σ7,H7,I7.unpinned,r7,q7⟩
end
theorem for_list {K : PySem.W.Frag} {a : Addr} {xs : List V} {g : TG} {tb : TS} {D : Ends} {σ : St} {H : Hp} (Pv : Nat → St → Hp → Prop) (h0 : Pv 0 σ H) (hl : ∀ i σ H, i ≤ xs.length → Pv i σ H → SqL K H a xs)
  (hs:∀ i x σ H,xs[i]? = some x→Pv i σ H→g x σ H fun σ2 H2=>tb { D with nx:=Pv (i + 1),ct:=Pv (i + 1),bk:=D.nx } σ2 H2) (hd:∀ σ H,Pv xs.length σ H→D.nx σ H) :
  ∃ W:Nat→Nat→St→Hp→Prop,(∃ m,W 0 m σ H)∧∀ i m σ H,W i m σ H →
   ((Itl K a).stop i H∧D.nx σ H)∨((Itl K a).go i H∧∃ N:St→Hp→Prop,(∀ σ' H',N σ' H'→∃ m',m' < m∧W (i + 1) m' σ' H')∧∀ x H',(Itl K a).yld i H x H'→g x σ H' fun σ2 H2=>tb { D with nx:=N,ct:=N,bk:=D.nx } σ2 H2):=by
 refine ⟨fun i m σ H=>m = xs.length - i∧i ≤ xs.length∧Pv i σ H,⟨xs.length,by simp,Nat.zero_le _,h0⟩,?_⟩
 rintro i m σ H ⟨rfl,hi,p⟩
 have q:=hl i σ H hi p
 by_cases hlt:i < xs.length
 ·refine .inr ⟨⟨xs,xs[i],q,by simp [hlt]⟩,Pv (i + 1),fun σ' H' p'=>⟨xs.length - (i + 1),by omega,rfl,hlt,p'⟩,fun x H' y=>?_⟩
  obtain ⟨e,y⟩:=y
  subst e
  exact hs i x σ _ (y xs q) p
 ·have e:i = xs.length:=by omega
  subst e
  exact .inl ⟨⟨xs,q,Nat.le_refl _⟩,hd σ H p⟩
theorem for_range {lo : Int} {n : Nat} {g : TG} {tb : TS} {D : Ends} {σ : St} {H : Hp} (Pv : Nat → St → Hp → Prop) (h0 : Pv 0 σ H)
  (hs:∀ i σ H,i < n→Pv i σ H→g (.int (lo + i)) σ H fun σ2 H2=>tb { D with nx:=Pv (i + 1),ct:=Pv (i + 1),bk:=D.nx } σ2 H2) (hd:∀ σ H,Pv n σ H→D.nx σ H) :
  ∃ W:Nat→Nat→St→Hp→Prop,(∃ m,W 0 m σ H)∧∀ i m σ H,W i m σ H →
   ((Itr lo n).stop i H∧D.nx σ H)∨((Itr lo n).go i H∧∃ N:St→Hp→Prop,(∀ σ' H',N σ' H'→∃ m',m' < m∧W (i + 1) m' σ' H')∧∀ x H',(Itr lo n).yld i H x H'→g x σ H' fun σ2 H2=>tb { D with nx:=N,ct:=N,bk:=D.nx } σ2 H2):=by
 refine ⟨fun i m σ H=>m = n - i∧i ≤ n∧Pv i σ H,⟨n,by simp,Nat.zero_le _,h0⟩,?_⟩
 rintro i m σ H ⟨rfl,hi,p⟩
 by_cases hlt:i < n
 ·refine .inr ⟨hlt,Pv (i + 1),fun σ' H' p'=>⟨n - (i + 1),by omega,rfl,hlt,p'⟩,fun x H' y=>?_⟩
  obtain ⟨e,y⟩:=y
  subst e y
  exact hs i σ _ hlt p
 ·have e:i = n:=by omega
  subst e
  exact .inl ⟨Nat.le_refl _,hd σ H p⟩
end L2
namespace L2
open PySem PySem.Spec PyProof.Rows
abbrev R2:=V→V→Hp→VK→Prop
def OpR (X:Cx) (f:Value→Value→Sem Value) (r:R2):Prop :=
 ∀ (pins:List (Addr × Obj)) (s:Shared) (σ:St) (H:Hp) (x y:V) (v u:Value) (Q:VK),Inv X pins σ H s→RelV x v→RelV y u→r x y H Q →
  wpAny (model X.prog X.w) X.A (f v u) (EP X pins σ Q) X.xe s
def CallR (X:Cx) (f:Value) (r:List V→Hp→VK→Prop):Prop :=
 ∀ (pins:List (Addr × Obj)) (s:Shared) (σ:St) (H:Hp) (xs:List V) (us:List Value) (Q:VK),Inv X pins σ H s→Vals xs us→r xs H Q →
  wpAny (model X.prog X.w) X.A (call f us) (EP X pins σ Q) X.xe s
def TruR (X:Cx) (r:V→Hp→(Bool→Hp→Prop)→Prop):Prop :=
 ∀ (pins:List (Addr × Obj)) (s:Shared) (σ:St) (H:Hp) (x:V) (v:Value) (Q:Bool→Hp→Prop),Inv X pins σ H s→RelV x v→r x H Q →
  wpAny (model X.prog X.w) X.A (truthy v) (TP X pins σ Q) X.xe s
def tOp (r:R2) (ta tb:TE):TE:=fun σ H Q=>ta σ H fun x H1=>tb σ H1 fun y H2=>r x y H2 Q
def rI (C:Int→Int→Prop) (g:Int→Int→V):R2:=fun x y H Q=>∃ i j,x = .int i∧y = .int j∧C i j∧Q (g i j) H
def rI0 (g:Int→Int→V):R2:=fun x y H Q=>∃ i j,x = .int i∧y = .int j∧Q (g i j) H
section
variable {X:Cx} {a b c:Expr} {ta tb tc:TE} {pos:Pos}
theorem binT (ha : PE X a ta) (hb : PE X b tb) {pins : List (Addr × Obj)} {s : Shared} {σ : St} {H : Hp} {R : V → V → Hp → Prop} (I : Inv X pins σ H s)
  (h:ta σ H fun x H1=>tb σ H1 fun y H2=>R x y H2) {Q:Value→Shared→Prop} {f:Value→Value→Sem Value}
  (hf:∀ v u s2 x y H2,Inv X pins σ H2 s2→RelV x v→RelV y u→R x y H2→wpAny (model X.prog X.w) X.A (f v u) Q X.xe s2) :
  wpAny (model X.prog X.w) X.A (eval a X.env) (fun v s₁=>wpAny (model X.prog X.w) X.A (eval b X.env) (fun u s₂=>wpAny (model X.prog X.w) X.A (f v u) Q X.xe s₂) X.xe s₁) X.xe s:=by
 refine thn (ha pins s σ H _ I h) fun v s1 ⟨x,H1,I1,r1,q1⟩=>?_
 refine thn (hb pins s1 σ H1 _ I1 q1) fun u s2 ⟨y,H2,I2,r2,q2⟩=>?_
 exact hf v u s2 x y H2 I2 r1 r2 q2
theorem pe_op {op:Operator} {r:R2} (ho:OpR X (binaryOp op) r) (ha:PE X a ta) (hb:PE X b tb):PE X (.BinOp a op b pos) (tOp r ta tb):=by
 intro pins s σ H Q I h
 exact wpAny_BinOp (binT ha hb I h fun v u s2 x y H2 I2 rx ry q=>ho pins s2 σ H2 x y v u Q I2 rx ry q)
theorem opI {f : Value → Value → Sem Value} {C : Int → Int → Prop} {g : Int → Int → Int}
  (rule:∀ (i j:Int) (t u:Tok) (s:Shared) (Q:Value→Shared→Prop) (E:Value→Shared→Prop),C i j→Q (.int (g i j) s.toks) { s with toks:=s.toks + 1 }→wpAny (model X.prog X.w) X.A (f (.int i t) (.int j u)) Q E s) :
  OpR X f (rI C fun i j=>.int (g i j)):=by
 intro pins s σ H x y v u Q I rx ry h
 obtain ⟨i,j,rfl,rfl,hc,q⟩:=h
 obtain ⟨t,rfl⟩:=rx
 obtain ⟨t',rfl⟩:=ry
 exact rule i j t t' s _ _ hc ⟨.int (g i j),H,I.tok _,⟨_,rfl⟩,q⟩
theorem opI0 {f : Value → Value → Sem Value} {g : Int → Int → Int}
  (rule:∀ (i j:Int) (t u:Tok) (s:Shared) (Q:Value→Shared→Prop) (E:Value→Shared→Prop),Q (.int (g i j) s.toks) { s with toks:=s.toks + 1 }→wpAny (model X.prog X.w) X.A (f (.int i t) (.int j u)) Q E s) :
  OpR X f (rI0 fun i j=>.int (g i j)):=by
 intro pins s σ H x y v u Q I rx ry h
 obtain ⟨i,j,rfl,rfl,q⟩:=h
 obtain ⟨t,rfl⟩:=rx
 obtain ⟨t',rfl⟩:=ry
 exact rule i j t t' s _ _ ⟨.int (g i j),H,I.tok _,⟨_,rfl⟩,q⟩
theorem opB0 {f : Value → Value → Sem Value} {g : Int → Int → Bool}
  (rule:∀ (i j:Int) (t u:Tok) (s:Shared) (Q:Value→Shared→Prop) (E:Value→Shared→Prop),Q (.bool (g i j)) s→wpAny (model X.prog X.w) X.A (f (.int i t) (.int j u)) Q E s) :
  OpR X f (rI0 fun i j=>.bl (g i j)):=by
 intro pins s σ H x y v u Q I rx ry h
 obtain ⟨i,j,rfl,rfl,q⟩:=h
 obtain ⟨t,rfl⟩:=rx
 obtain ⟨t',rfl⟩:=ry
 exact rule i j t t' s _ _ ⟨.bl (g i j),H,I,rfl,q⟩
def CDiv (i j:Int):Prop:=0 < j∧j < 1073741824
def CMul (i j:Int):Prop:=(-(2 ^ 64) < i∧i < 2 ^ 64)∨(-(2 ^ 64) < j∧j < 2 ^ 64)
theorem CMul.ok {i j:Int} (h:CMul i j):IntMulOk i j:=by
 rcases h with ⟨h1,h2⟩ | ⟨h1,h2⟩
 ·exact .of_left (intBits_le_64 h1 h2)
 ·exact .of_right (intBits_le_64 h1 h2)
theorem op_add:OpR X (binaryOp .Add) (rI0 fun i j=>.int (i + j)):=opI0 fun _ _ _ _ _ _ _ q=>add_int q
theorem op_sub:OpR X (binaryOp .Sub) (rI0 fun i j=>.int (i - j)):=opI0 fun _ _ _ _ _ _ _ q=>sub_int q
theorem op_mul:OpR X (binaryOp .Mult) (rI CMul fun i j=>.int (i * j)):=opI fun _ _ _ _ _ _ _ hc q=>mul_int q hc.ok
theorem op_fdiv:OpR X (binaryOp .FloorDiv) (rI CDiv fun i j=>.int (i / j)):=opI fun i j _ _ _ _ _ hc q=>by
 have h1:(0:Int) < j:=hc.1
 have h2:j < 1073741824:=hc.2
 exact floordiv_int (by omega) (by rw [Int.fdiv_eq_ediv_of_nonneg i (by omega)]; exact q) (.inl (PyProof.noPylong_small (by omega)))
theorem op_mod:OpR X (binaryOp .Mod) (rI (fun _ j=>0 < j) fun i j=>.int (i % j)):=opI fun i j _ _ _ _ _ hc q=>by
 have h1:(0:Int) < j:=hc
 exact mod_int' (by omega) (by rw [Int.fmod_eq_emod_of_nonneg i (by omega)]; exact q)
end
def scal:V→V→Bool
 | .non,.non=>true | .non,.int _=>true | .int _,.non=>true | .non,.bl _=>true | .bl _,.non=>true | .non,.str _=>true | .str _,.non=>true
 | .int _,.int _=>true | .bl _,.bl _=>true | .str _,.str _=>true | .byt _,.byt _=>true
 | .int _,.str _=>true | .str _,.int _=>true | .bl _,.str _=>true | .str _,.bl _=>true
 | _,_=>false
def rEq:R2:=fun x y H Q=>scal x y = true∧Q (.bl (decide (x = y))) H
def rNe:R2:=fun x y H Q=>scal x y = true∧Q (.bl (!decide (x = y))) H
theorem dec_int {i j:Int}:decide (V.int i = V.int j) = (i == j):=by
 rw [Bool.eq_iff_iff]
 simp
theorem dec_bl {i j:Bool}:decide (V.bl i = V.bl j) = (i == j):=by
 rw [Bool.eq_iff_iff]
 simp
theorem dec_str {i j:Str}:decide (V.str i = V.str j) = (i == j):=by
 rw [Bool.eq_iff_iff]
 simp
theorem dec_byt {i j:Array UInt8}:decide (V.byt i = V.byt j) = (i.toList == j.toList):=by
 rw [Bool.eq_iff_iff]
 cases i
 cases j
 simp
section
variable {X:Cx} {a b c:Expr} {ta tb tc:TE} {pos:Pos}
theorem fin_bl {pins:List (Addr × Obj)} {σ:St} {H:Hp} {s:Shared} {Q:VK} {k k':Bool} (I:Inv X pins σ H s) (q:Q (.bl k) H) (e:k = k'):EP X pins σ Q (.bool k') s:=by
 subst e
 exact ⟨.bl k,H,I,rfl,q⟩
theorem op_eq:OpR X (compareOp .Eq) rEq:=by
 intro pins s σ H x y v u Q I rx ry h
 obtain ⟨hs,q⟩:=h
 cases x with
 | non =>
  cases rx
  cases y with
  | non=>cases ry; exact PySem.EqNone.eq_none_none (fin_bl I q (by simp))
  | bl j=>cases ry; exact PySem.EqNone.eq_none_bool (fin_bl I q (by simp))
  | int j=>obtain ⟨t',rfl⟩:=ry; exact PySem.EqNone.eq_none_int (fin_bl I q (by simp))
  | str j=>obtain ⟨t',rfl⟩:=ry; exact PySem.EqNone.eq_none_str (fin_bl I q (by simp))
  | _=>exact absurd (show false = true from hs) Bool.false_ne_true
 | bl i =>
  cases rx
  cases y with
  | non=>cases ry; exact PySem.EqNone.eq_bool_none (fin_bl I q (by simp))
  | bl j=>cases ry; exact eq_bool (fin_bl I q dec_bl)
  | str j=>obtain ⟨t',rfl⟩:=ry; exact PySem.EqMixed.eq_bool_str (fin_bl I q (by simp))
  | _=>exact absurd (show false = true from hs) Bool.false_ne_true
 | int i =>
  obtain ⟨t,rfl⟩:=rx
  cases y with
  | non=>cases ry; exact PySem.EqNone.eq_int_none (fin_bl I q (by simp))
  | int j=>obtain ⟨t',rfl⟩:=ry; exact eq_int (fin_bl I q dec_int)
  | str j=>obtain ⟨t',rfl⟩:=ry; exact PySem.EqMixed.eq_int_str (fin_bl I q (by simp))
  | _=>exact absurd (show false = true from hs) Bool.false_ne_true
 | str i =>
  obtain ⟨t,rfl⟩:=rx
  cases y with
  | non=>cases ry; exact PySem.EqNone.eq_str_none (fin_bl I q (by simp))
  | bl j=>cases ry; exact PySem.EqMixed.eq_str_bool (fin_bl I q (by simp))
  | int j=>obtain ⟨t',rfl⟩:=ry; exact PySem.EqMixed.eq_str_int (fin_bl I q (by simp))
  | str j=>obtain ⟨t',rfl⟩:=ry; exact eq_str (fin_bl I q dec_str)
  | _=>exact absurd (show false = true from hs) Bool.false_ne_true
 | byt i =>
  obtain ⟨t,rfl⟩:=rx
  cases y with
  | byt j=>obtain ⟨t',rfl⟩:=ry; exact PySem.W.eq_bytes (fin_bl I q dec_byt)
  | _=>exact absurd (show false = true from hs) Bool.false_ne_true
 | _=>cases y <;> exact absurd (show false = true from hs) Bool.false_ne_true
theorem op_ne:OpR X (compareOp .NotEq) rNe:=by
 intro pins s σ H x y v u Q I rx ry h
 obtain ⟨hs,q⟩:=h
 cases x with
 | non =>
  cases rx
  cases y with
  | non=>cases ry; exact PySem.EqNone.ne_none_none (fin_bl I q (by simp))
  | bl j=>cases ry; exact PySem.EqNone.ne_none_bool (fin_bl I q (by simp))
  | int j=>obtain ⟨t',rfl⟩:=ry; exact PySem.EqNone.ne_none_int (fin_bl I q (by simp))
  | str j=>obtain ⟨t',rfl⟩:=ry; exact PySem.EqNone.ne_none_str (fin_bl I q (by simp))
  | _=>exact absurd (show false = true from hs) Bool.false_ne_true
 | bl i =>
  cases rx
  cases y with
  | non=>cases ry; exact PySem.EqNone.ne_bool_none (fin_bl I q (by simp))
  | bl j=>cases ry; exact ne_bool (fin_bl I q (congrArg not dec_bl))
  | str j=>obtain ⟨t',rfl⟩:=ry; exact PySem.EqMixed.ne_bool_str (fin_bl I q (by simp))
  | _=>exact absurd (show false = true from hs) Bool.false_ne_true
 | int i =>
  obtain ⟨t,rfl⟩:=rx
  cases y with
  | non=>cases ry; exact PySem.EqNone.ne_int_none (fin_bl I q (by simp))
  | int j=>obtain ⟨t',rfl⟩:=ry; exact ne_int (fin_bl I q (congrArg not dec_int))
  | str j=>obtain ⟨t',rfl⟩:=ry; exact PySem.EqMixed.ne_int_str (fin_bl I q (by simp))
  | _=>exact absurd (show false = true from hs) Bool.false_ne_true
 | str i =>
  obtain ⟨t,rfl⟩:=rx
  cases y with
  | non=>cases ry; exact PySem.EqNone.ne_str_none (fin_bl I q (by simp))
  | bl j=>cases ry; exact PySem.EqMixed.ne_str_bool (fin_bl I q (by simp))
  | int j=>obtain ⟨t',rfl⟩:=ry; exact PySem.EqMixed.ne_str_int (fin_bl I q (by simp))
  | str j=>obtain ⟨t',rfl⟩:=ry; exact ne_str (fin_bl I q (congrArg not dec_str))
  | _=>exact absurd (show false = true from hs) Bool.false_ne_true
 | byt i =>
  obtain ⟨t,rfl⟩:=rx
  cases y with
  | byt j=>obtain ⟨t',rfl⟩:=ry; exact PySem.W.ne_bytes (fin_bl I q (congrArg not dec_byt))
  | _=>exact absurd (show false = true from hs) Bool.false_ne_true
 | _=>cases y <;> exact absurd (show false = true from hs) Bool.false_ne_true
theorem op_lt:OpR X (compareOp .Lt) (rI0 fun i j=>.bl (decide (i < j))):=opB0 fun _ _ _ _ _ _ _ q=>lt_int q
theorem op_le:OpR X (compareOp .LtE) (rI0 fun i j=>.bl (decide (i ≤ j))):=opB0 fun _ _ _ _ _ _ _ q=>le_int q
theorem op_gt:OpR X (compareOp .Gt) (rI0 fun i j=>.bl (decide (j < i))):=opB0 fun _ _ _ _ _ _ _ q=>gt_int q
theorem op_lt_str:OpR X (compareOp .Lt) (fun x y H Q=>∃ i j,x = .str i∧y = .str j∧Q (.bl (decide (i.cps.toList < j.cps.toList))) H):=by
 intro pins s σ H x y v u Q I rx ry h
 obtain ⟨i,j,rfl,rfl,q⟩:=h
 obtain ⟨t,rfl⟩:=rx
 obtain ⟨t',rfl⟩:=ry
 exact lt_str (fin_bl I q rfl)
theorem op_in_str:OpR X (compareOp .In) (fun x y H Q=>∃ i j,x = .str i∧y = .str j∧Q (.bl (!(Builtin.Str.occurrences j i 0 j.length 1).isEmpty)) H):=by
 intro pins s σ H x y v u Q I rx ry h
 obtain ⟨i,j,rfl,rfl,q⟩:=h
 obtain ⟨t,rfl⟩:=rx
 obtain ⟨t',rfl⟩:=ry
 exact in_str (fin_bl I q rfl)
theorem op_isN:OpR X (compareOp .Is) (fun x y H Q=>y = .non∧Q (.bl (decide (x = .non))) H):=by
 intro pins s σ H x y v u Q I rx ry h
 obtain ⟨rfl,q⟩:=h
 cases ry
 refine is_none_gen (fin_bl I q ?_)
 cases x <;> first
  | (cases rx; rfl)
  | (obtain ⟨t,rfl⟩:=rx; rfl)
theorem op_notN:OpR X (compareOp .IsNot) (fun x y H Q=>y = .non∧Q (.bl (!decide (x = .non))) H):=by
 intro pins s σ H x y v u Q I rx ry h
 obtain ⟨rfl,q⟩:=h
 cases ry
 refine isnot_none_gen (fin_bl I q ?_)
 cases x <;> first
  | (cases rx; rfl)
  | (obtain ⟨t,rfl⟩:=rx; rfl)
theorem op_notin_str:OpR X (compareOp .NotIn) (fun x y H Q=>∃ i j,x = .str i∧y = .str j∧Q (.bl (!(!(Builtin.Str.occurrences j i 0 j.length 1).isEmpty))) H):=by
 intro pins s σ H x y v u Q I rx ry h
 obtain ⟨i,j,rfl,rfl,q⟩:=h
 obtain ⟨t,rfl⟩:=rx
 obtain ⟨t',rfl⟩:=ry
 exact notIn_str (fin_bl I q rfl)
theorem nomark (b:Expr) {op:CmpOp} (h:op ≠ .In:=by decide) (h2:op ≠ .NotIn:=by decide):behindInMarks op b = false:=by
 have e1:(op == CmpOp.In) = false:=by cases op <;> first | rfl | exact absurd rfl h
 have e2:(op == CmpOp.NotIn) = false:=by cases op <;> first | rfl | exact absurd rfl h2
 cases b <;> simp [behindInMarks,e1,e2]
theorem pe_cmpR {op:CmpOp} {r:R2} (ho:OpR X (compareOp op) r) (ha:PE X a ta) (hb:PE X b tb) (hm:behindInMarks op b = false):PE X (.Compare a [op] [b] pos) (tOp r ta tb):=by
 intro pins s σ H Q I h
 exact wpAny_Compare1 (binT ha hb I h fun v u s2 x y H2 I2 rx ry q=>ho pins s2 σ H2 x y v u Q I2 rx ry q) hm
def tTest (t:TE):TT:=fun σ H Q=>t σ H fun x H'=>∃ k,x = .bl k∧Q k H'
theorem pt_cmpR {op:CmpOp} {r:R2} (ho:OpR X (compareOp op) r) (ha:PE X a ta) (hb:PE X b tb) (hm:behindInMarks op b = false):PT X (.Compare a [op] [b] pos) (tTest (tOp r ta tb)):=by
 intro pins s σ H Q I h
 refine wpAny_isTrue_Compare1 (thn (ha pins s σ H _ I h) fun v s1 ⟨x,H1,I1,r1,q1⟩=>thn (hb pins s1 σ H1 _ I1 q1) fun u s2 ⟨y,H2,I2,r2,q2⟩ =>
  thn (ho pins s2 σ H2 x y v u _ I2 r1 r2 q2) fun c s3 ⟨z,H3,I3,r3,k,e,q3⟩=>?_) hm
 subst e
 cases r3
 exact wpAny_truthy_bool ⟨H3,I3,q3⟩
def tChain (r r':R2) (ta tb tc:TE):TE:=fun σ H Q=>ta σ H fun x H1=>tb σ H1 fun y H2=>r x y H2 fun z H3=>∃ k,z = .bl k ∧
 (if k = true then tc σ H3 fun w' H4=>r' y w' H4 Q else Q (.bl false) H3)
theorem pt_chain {op op' : CmpOp} {r r' : R2} (ho : OpR X (compareOp op) r) (ho' : OpR X (compareOp op') r') (ha : PE X a ta) (hb : PE X b tb) (hc : PE X c tc)
  (hm:lastMarks [op,op'] [b,c] = false:=by with_unfolding_all rfl):PT X (.Compare a [op,op'] [b,c] pos) (tTest (tChain r r' ta tb tc)):=by
 intro pins s σ H Q I h
 refine isTrue_chain (thn (ha pins s σ H _ I h) fun v s1 ⟨x,H1,I1,r1,q1⟩=>test_link (thn (hb pins s1 σ H1 _ I1 q1) fun u s2 ⟨y,H2,I2,r2,q2⟩ =>
  thn (ho pins s2 σ H2 x y v u _ I2 r1 r2 q2) fun d s3 ⟨z,H3,I3,r3,k,e,q3⟩=>?_)) hm
 subst e
 cases r3
 refine wpAny_truthy_bool ?_
 cases k with
 | false =>
  obtain ⟨k',e',q'⟩:=q3
  cases e'
  exact ite_ff ⟨H3,I3,q'⟩
 | true =>
  refine ite_tt (test_last (thn (hc pins s3 σ H3 _ I3 q3) fun w' s4 ⟨z',H4,I4,r4,q4⟩=>thn (ho' pins s4 σ H4 y z' u w' _ I4 r2 r4 q4) fun d' s5 ⟨z2,H5,I5,r5,k2,e2,q5⟩=>?_))
  subst e2
  cases r5
  exact wpAny_truthy_bool ⟨H5,I5,q5⟩
def TruV (K:PySem.W.Frag) (x:V) (H:Hp) (k:Bool):Prop :=
 match x with
 | .non=>k = false
 | .bl b=>k = b
 | .int i=>k = (i != 0)
 | .str y=>y.length ≤ sizeLine∧k = ((y.length:Int) != 0)
 | .byt y=>y.size ≤ sizeLine∧k = ((y.size:Int) != 0)
 | .ref p=>(∃ xs,SqL K H p xs∧k = !xs.isEmpty)∨(∃ xs,SqT K H p xs∧k = !xs.isEmpty)∨∃ kvs,H p = some (.dK kvs)∧k = !kvs.isEmpty
 | _=>False
theorem isEmpty_kv {κ:Type} {kvs:List (κ × V)} {vs:List (κ × Value)} (r:KV kvs vs):(!vs.isEmpty) = !kvs.isEmpty:=by
 cases r <;> rfl
theorem isEmpty_of {xs:List V} {its:List Value} (r:Vals xs its):(!its.toArray.isEmpty) = !xs.isEmpty:=by
 cases r <;> simp
theorem line63:(sizeLine:Nat) < 2 ^ 63:=by rw [sizeLine_eq]; decide
theorem tru_ok:TruR X (fun x H Q=>∃ k,TruV X.K x H k∧Q k H):=by
 intro pins s σ H x v Q I rx h
 obtain ⟨k,e,q⟩:=h
 have hl:=line63
 have hs:sizeLine = 16777216:=sizeLine_eq
 cases x with
 | non =>
  cases rx
  have e':k = false:=e
  subst e'
  exact truthy_none ⟨H,I,q⟩
 | bl b =>
  cases rx
  have e':k = b:=e
  subst e'
  exact wpAny_truthy_bool ⟨H,I,q⟩
 | int i =>
  obtain ⟨t,rfl⟩:=rx
  have e':k = (i != 0):=e
  subst e'
  exact PySem.P.truthy_int ⟨H,I,q⟩
 | str y =>
  obtain ⟨t,rfl⟩:=rx
  obtain ⟨hy,e'⟩:y.length ≤ sizeLine∧k = ((y.length:Int) != 0):=e
  subst e'
  exact PySem.P.truthy_str (by omega) ⟨H,I.tok _,q⟩
 | byt y =>
  obtain ⟨t,rfl⟩:=rx
  obtain ⟨hy,e'⟩:y.size ≤ sizeLine∧k = ((y.size:Int) != 0):=e
  subst e'
  exact PySem.W.truthy_bytes (by omega) ⟨H,I.tok _,q⟩
 | ref p =>
  cases rx
  have e':(∃ xs,SqL X.K H p xs∧k = !xs.isEmpty)∨(∃ xs,SqT X.K H p xs∧k = !xs.isEmpty)∨∃ kvs,H p = some (.dK kvs)∧k = !kvs.isEmpty:=e
  rcases e' with ⟨xs,hx,e'⟩ | ⟨xs,hx,e'⟩ | ⟨kvs,hx,e'⟩
  ·subst e'
   obtain ⟨its,r,pl,hz⟩:=I.list hx
   have hlen:=r.length
   exact wpAny_truthy_list pl.isList (by simp only [List.size_toArray]; omega) ⟨H,I.tok _,by rw [isEmpty_of r]; exact q⟩
  ·subst e'
   obtain ⟨its,r,pl,hz⟩:=I.tuple hx
   have hlen:=r.length
   exact truthy_tuple pl (by simp only [List.size_toArray]; omega) ⟨H,I.tok _,by rw [isEmpty_of r]; exact q⟩
  ·subst e'
   obtain ⟨hz,hS,vs,r,m⟩:kvs.length ≤ sizeLine∧(p == sysModules) = false∧∃ vs,KV kvs vs∧s.heap.DictOf (mixKind X.prog X.w) p vs:=I.hok p _ hx
   have hlen:kvs.length = vs.length:=Paired.length r
   exact wpAny_truthy_dict hS m (by omega) ⟨H,I.tok _,by rw [isEmpty_kv r]; exact q⟩
 | _=>exact (show False from e).elim
theorem pt_truth (ha : PE X a ta) (he : ∀ whole, isTrue a X.env whole = (do let v ← whole; standAt a.pos; holding [v] (truthy v))) :
  PT X a (fun σ H Q=>ta σ H fun x H'=>∃ k,TruV X.K x H' k∧Q k H'):=by
 intro pins s σ H Q I h
 exact isTrue_plain (thn (ha pins s σ H _ I h) fun v s1 ⟨x,H1,I1,r1,q1⟩=>tru_ok pins s1 σ H1 x v Q I1 r1 q1) (he _)
theorem op_add_str:OpR X (binaryOp .Add) (fun x y H Q=>∃ i j,x = .str i∧y = .str j∧i.length + j.length ≤ sizeLine∧Q (.str (i ++ j)) H):=by
 intro pins s σ H x y v u Q I rx ry h
 obtain ⟨i,j,rfl,rfl,hz,q⟩:=h
 obtain ⟨t,rfl⟩:=rx
 obtain ⟨t',rfl⟩:=ry
 exact add_str (fun t' tk=>⟨.str (i ++ j),H,I.tok _,⟨_,rfl⟩,q⟩) hz
theorem vals1 {x:V} {us:List Value} (r:Vals [x] us):∃ u,us = [u]∧RelV x u:=by
 cases r with
 | cons r1 r2=>cases r2; exact ⟨_,rfl,r1⟩
theorem vals2 {x y:V} {us:List Value} (r:Vals [x,y] us):∃ u w',us = [u,w']∧RelV x u∧RelV y w':=by
 cases r with
 | cons r1 r2 =>
  cases r2 with
  | cons r3 r4=>cases r4; exact ⟨_,_,rfl,r1,r3⟩
theorem call_int1:CallR X (.type "int") (fun xs H Q=>(∃ i,xs = [.int i]∧Q (.int i) H)∨∃ k,xs = [.bl k]∧Q (.int (if k then 1 else 0)) H):=by
 intro pins s σ H xs us Q I r h
 rcases h with ⟨i,rfl,q⟩ | ⟨k,rfl,q⟩
 ·obtain ⟨u,rfl,t,rfl⟩:=vals1 r
  exact call_int_int ⟨.int i,H,I,⟨_,rfl⟩,q⟩
 ·obtain ⟨u,rfl,r1⟩:=vals1 r
  cases r1
  exact call_int_bool ⟨.int (if k then 1 else 0),H,I.tok _,⟨_,rfl⟩,q⟩
end
end L2
namespace L2
open PySem PySem.Spec PyProof.Rows
structure ObjM (h:Heap) (x dx C:Addr) (mA:Str→Option Value):Prop where
 obj:h.get? x = some (PySem.W.instObj C dx)
 ns:h.Ns1 dx mA
 ne:dx ≠ x
theorem lookIn_ns {h:Heap} {dx:Addr} {mA:Str→Option Value} (n:h.Ns1 dx mA):∃ od,h.get? dx = some od∧∀ name,PySem.W.lookIn name od = some (mA name):=by
 obtain ⟨o,es,ep,ho,hd,hk,_,hm⟩:=n
 refine ⟨o,ho,fun name=>?_⟩
 have e:=hm name
 unfold nsFind findBy at e
 rw [← Array.find?_toList] at e
 unfold PySem.W.lookIn
 rw [hd]
 dsimp only
 split
 ·rename_i y q
  rw [q] at e
  exact congrArg some e
 ·rename_i q
  rw [q] at e
  have a:es.toList.any (·.refKey) = false:=by
   rw [List.any_eq_false]
   intro y hy
   obtain ⟨z,t,hkey⟩:=hk y (Array.mem_toList_iff.mp hy)
   simp [DictEntry.refKey,hkey]
  have a':¬ es.toList.any (·.refKey) = true:=by rw [a]; exact Bool.false_ne_true
  rw [if_neg a']
  exact congrArg some e
theorem ObjM.look {h:Heap} {x dx C:Addr} {mA:Str→Option Value} (I:ObjM h x dx C mA):∃ od,PySem.W.InstAt h x (PySem.W.instObj C dx) C (some od)∧∀ name,PySem.W.lookIn name od = some (mA name) :=
 let ⟨od,ho,hl⟩:=lookIn_ns I.ns
 ⟨od,⟨I.obj,rfl,rfl,ho⟩,hl⟩
section
variable {prog:Program} {w:World} {A:Around} {E:Value→Shared→Prop} {s:Shared} {K:PySem.W.Frag} {x dx C f:Addr} {mA:Str→Option Value} {name:Str} {v:Value}
end
theorem RelO.some_of {v:V} {o:Option Value} (r:RelO (some v) o):∃ u,o = some u∧RelV v u:=by
 cases o with
 | none=>exact (show False from r).elim
 | some u=>exact ⟨u,rfl,r⟩
section
variable {P:Program} {w:World} {H H':Hp} {h h':Heap} {a C dx:Addr} {fs fs':List (Str × V)}
theorem ins_get (hok:HOk P w H h) (e:H a = some (.ins C dx fs)):∃ mA,ObjM h a dx C mA∧(∀ f,RelO (fs.lookup f) (mA f))∧PySem.Within mA (fs.map (·.1))∧fs.length ≤ 1000∧H dx = some (.own a):=by
 obtain ⟨d,z,ne,ob,mA,n,r,q⟩:=(show ObjOk P w H h a (.ins C dx fs) from hok a _ e)
 exact ⟨mA,⟨ob,n,ne⟩,r,q,z,d⟩
end
structure Cls (K:PySem.W.Frag) (C:Addr):Prop where
 pg:PySem.W.plainGet K C Str.empty = true
 hd:PySem.W.hasDictIn K C = true
 po:PySem.W.plainOver K C = true
 sa:PySem.W.findIn K (.ref C) "__setattr__" = some (some (.builtin "object.__setattr__"))
theorem Cls.get {K:PySem.W.Frag} {C:Addr} (c:Cls K C) (f:Str):PySem.W.plainGet K C f = true:=c.pg
structure Con (K:PySem.W.Frag) (C:Addr) (f:Str) (v:V) (u:Value):Prop where
 at_:PySem.W.findIn K (.ref C) f = some (some u)
 rel:RelV v u
 get:PySem.W.specialIn K u "__get__" = some none
 cp:PySem.W.copiedNames.contains f = false
structure Meth (K:PySem.W.Frag) (C:Addr) (m:Str) (f:Addr):Prop where
 at_:PySem.W.findIn K (.ref C) m = some (some (.ref f))
 fn:PySem.W.isFn K (.ref f) = true
 kp:PySem.W.keepIn K (.ref f) = true
section
variable {X:Cx} {pins:List (Addr × Obj)} {σ:St} {H:Hp} {s:Shared} {a C dx:Addr} {fs:List (Str × V)} {f:Str} {v:V} {A:Around} {E:Value→Shared→Prop}
theorem Inv.made (I : Inv X pins σ H s) : Inv X pins σ (upd (upd H s.heap.objs.size (.own (s.heap.objs.size + 1))) (s.heap.objs.size + 1) (.ins C s.heap.objs.size []))
  { s with heap:=(s.heap.push PySem.W.emptyDict).push (PySem.W.instObj C s.heap.objs.size) }:=by
 have e1:(s.heap.push PySem.W.emptyDict).get? s.heap.objs.size = some PySem.W.emptyDict:=Heap.get?_push_size s.heap rfl
 have e2:((s.heap.push PySem.W.emptyDict).push (PySem.W.instObj C s.heap.objs.size)).get? (s.heap.objs.size + 1) = some (PySem.W.instObj C s.heap.objs.size):=by
  have:=Heap.get?_push_size (s.heap.push PySem.W.emptyDict) (o:=PySem.W.instObj C s.heap.objs.size) rfl
  rwa [Heap.size_push] at this
 have e3:(s.heap.push PySem.W.emptyDict).Ns s.heap.objs.size (fun _=>none):=⟨PySem.W.emptyDict,#[],_,e1,rfl,(fun e he=>absurd he (by simp)),fun _=>rfl⟩
 have I1:=I.laid (a:=s.heap.objs.size) (o:=.own (s.heap.objs.size + 1)) (h':=s.heap.push PySem.W.emptyDict) (t':=s.toks) (fun b u q=>Heap.get?_push_of_some _ q) (Nat.le_refl _) ⟨_,e1⟩
 refine I1.laid (a:=s.heap.objs.size + 1) (o:=.ins C s.heap.objs.size []) (t':=s.toks) (fun b u q=>Heap.get?_push_of_some _ q) (Nat.le_of_eq (Heap.size_push _ _)) ?_
 have ne:s.heap.objs.size ≠ s.heap.objs.size + 1:=Nat.ne_of_lt (Nat.lt_succ_self _)
 refine ⟨by rw [upd_ne ne,upd_same],Nat.zero_le _,ne,e2,fun _=>none,(Heap.Ns1.of_empty e3).at fun o q=>Heap.get?_push_of_some _ q,fun _=>True.intro,fun y hy=>absurd rfl hy⟩
end
section
variable {X:Cx} {o e value:Expr} {f:Str} {pos pos' tpos:Pos} {ta tv:TE}
end
section
variable {X:Cx} {pins:List (Addr × Obj)} {σ:St} {H:Hp} {s:Shared} {A:Around} {E:Value→Shared→Prop} {Q:Value→Shared→Prop} {c:Value} {b:Bool}
inductive TyOf (K:PySem.W.Frag) (H:Hp):V→Value→Prop where
 | non:TyOf K H .non (.type "NoneType")
 | bl (x:Bool):TyOf K H (.bl x) (.type "bool")
 | int (i:Int):TyOf K H (.int i) (.type "int")
 | str (x:Str):TyOf K H (.str x) (.type "str")
 | flt (x:UInt64):TyOf K H (.flt x) (.type "float")
 | lst {a:Addr} {xs:List V} (e:H a = some (.lst xs)):TyOf K H (.ref a) (.type "list")
 | frz {a:Addr} {o:Obj} {xs:List V} (e:H a = some (.frz o (.lst xs))):TyOf K H (.ref a) (.type "list")
 | tup {a:Addr} {xs:List V} (e:H a = some (.tup xs)):TyOf K H (.ref a) (.type "tuple")
 | dK {a:Addr} {kvs:List (Key × V)} (e:H a = some (.dK kvs)):TyOf K H (.ref a) (.type "dict")
 | dT {a:Addr} {kvs:List (List Key × V)} (e:H a = some (.dT kvs)):TyOf K H (.ref a) (.type "dict")
 | ins {a C dx : Addr} {fs : List (Str × V)} (e : H a = some (.ins C dx fs)) (cl : Cls K C) (ha : PySem.W.findIn K (.ref C) "__class__" = some (some (.builtin "object.__class__")))
   (hn:PySem.W.specialIn K (.builtin "object.__class__") "__get__" = some (some (.builtin "getset_descriptor.__get__"))) (htk:PySem.W.takesIn K (.builtin "object.__class__") = some true)
   (hm:PySem.W.mroIn K C (.type "object") = some true):TyOf K H (.ref a) (.ref C)
theorem isinst_ok {x : V} {u t : Value} (I : Inv X pins σ H s) (rx : RelV x u) (ty : TyOf X.K H x t) (e : PySem.W.kitOne X.K t c = some b) (h : ∀ tk, Q (.bool b) { s with toks := tk }) :
  wpAny (model X.prog X.w) A (call (.builtin "isinstance") [u,c]) Q E s:=by
 cases ty with
 | non=>cases (show u = Value.none from rx); exact PySem.W.kia_one PySem.W.kitx_none I.kIn True.intro e (fun z=>nomatch z) h
 | bl y=>cases (show u = Value.bool y from rx); exact PySem.W.kia_one PySem.W.kitx_bool I.kIn True.intro e (fun z=>nomatch z) h
 | int i=>obtain ⟨t,q⟩:=(show ∃ t,u = Value.int i t from rx); cases q; exact PySem.W.kia_one PySem.W.kitx_int I.kIn True.intro e (fun z=>nomatch z) h
 | str y=>obtain ⟨t,q⟩:=(show ∃ t,u = Value.str y t from rx); cases q; exact PySem.W.kia_one PySem.W.kitx_str I.kIn True.intro e (fun z=>nomatch z) h
 | flt y=>obtain ⟨t,q⟩:=(show ∃ t,u = Value.float y t from rx); cases q; exact PySem.W.kia_one PySem.W.kitx_float I.kIn True.intro e (fun z=>nomatch z) h
 | @lst a xs ea =>
  cases (show u = Value.ref a from rx)
  obtain ⟨_,_,n,_,h1⟩:=(show ObjOk X.prog X.w H s.heap a (.lst xs) from I.hok a _ ea)
  exact PySem.W.kia_one PySem.W.kitx_list I.kIn ⟨_,h1,rfl⟩ e (fun z=>nomatch z) h
 | @frz a ob xs ea =>
  cases (show u = Value.ref a from rx)
  obtain ⟨_,_,_,n,_,h1⟩:=(show ObjOk X.prog X.w H s.heap a (.frz ob (.lst xs)) from I.hok a _ ea)
  exact PySem.W.kia_one PySem.W.kitx_list I.kIn ⟨_,h1,rfl⟩ e (fun z=>nomatch z) h
 | @tup a xs ea =>
  cases (show u = Value.ref a from rx)
  obtain ⟨_,_,_,p⟩:=(show ObjOk X.prog X.w H s.heap a (.tup xs) from I.hok a _ ea)
  obtain ⟨o,h1,h2,_⟩:=p
  exact PySem.W.kia_one PySem.W.kitx_tuple I.kIn ⟨o,h1,h2⟩ e (fun z=>nomatch z) h
 | @dK a kvs ea =>
  cases (show u = Value.ref a from rx)
  obtain ⟨_,_,vs,_,p⟩:=(show ObjOk X.prog X.w H s.heap a (.dK kvs) from I.hok a _ ea)
  obtain ⟨o,es,ep,h1,h2,_⟩:=p
  exact PySem.W.kia_one PySem.W.kitx_dict I.kIn ⟨o,h1,h2.1⟩ e (fun z=>nomatch z) h
 | @dT a kvs ea =>
  cases (show u = Value.ref a from rx)
  obtain ⟨_,_,xs,_,o,es,ep,h1,h2,_⟩:=(show ObjOk X.prog X.w H s.heap a (.dT kvs) from I.hok a _ ea)
  exact PySem.W.kia_one PySem.W.kitx_dict I.kIn ⟨o,h1,h2.1⟩ e (fun z=>nomatch z) h
 | @ins a C dx fs ea cl ha hn htk hm =>
  cases (show u = Value.ref a from rx)
  obtain ⟨mA,O,_⟩:=ins_get I.hok ea
  obtain ⟨od,J,_⟩:=O.look
  exact PySem.W.kia_one (PySem.W.kitx_own (cl.get _) cl.hd ha hn htk hm) I.kIn J e (fun z=>nomatch z) h
end
end L2
namespace L2
open PySem PySem.Spec PyProof.Rows
structure Room (k:Nat) (A:Around):Prop where
 hd:A.handled = none
 dp:A.depth + 3 * k + 5 < recursionLimit
 un:A.units + 16 * k + 200 < cLine
 gd:A.guards = some []
theorem Room.mono {j k:Nat} {A:Around} (r:Room k A) (h:j ≤ k):Room j A:=⟨r.hd,by have:=r.dp; omega,by have:=r.un; omega,r.gd⟩
theorem Room.deeper {k:Nat} {A:Around} (r:Room (k + 1) A) (env:Env):Room k (A.deeper env) :=
 ⟨r.hd,by have:=r.dp; show A.depth + 1 + 3 * k + 5 < _; omega,by have:=r.un; show A.units + 3 + 16 * k + 200 < _; omega,r.gd⟩
theorem Room.depth {k:Nat} {A:Around} (r:Room k A):A.depth < recursionLimit:=by have:=r.dp; omega
theorem Room.units {k:Nat} {A:Around} (r:Room k A):A.units + 64 < cLine:=by have:=r.un; omega
def tNil:TA:=fun _ H Q=>Q [] H
def tCons (ta:TE) (tr:TA):TA:=fun σ H Q=>ta σ H fun x H1=>tr σ H1 fun xs H2=>Q (x :: xs) H2
section
variable {X:Cx} {e:Expr} {es:List Expr} {te:TE} {t:TA} {pos:Pos}
theorem pa_nil:PA X [] tNil:=fun _ _ _ _ H Q I h=>Calls.spliced_nil ⟨[],H,I,.nil,h⟩
theorem pa_cons (ha:PE X e te) (hr:PA X es t) (hs:starEach (e :: es) X.env = (false,eval e X.env) :: starEach es X.env:=by rfl):PA X (e :: es) (tCons te t):=by
 intro pos pins s σ H Q I h
 rw [hs]
 show wpAny _ _ (spliced ((false,eval e X.env) :: backTo pos (starEach es X.env))) _ _ s
 refine Calls.spliced_cons (thn (ha pins s σ H _ I h) fun u s1 ⟨x,H1,I1,r1,q1⟩=>?_)
 exact thn (hr pos pins s1 σ H1 _ I1 q1) fun us s2 ⟨xs,H2,I2,r2,q2⟩=>⟨x :: xs,H2,I2,.cons r1 r2,q2⟩
def tTup (t:TA):TE:=fun σ H Q=>t σ H fun xs H1=>xs.length ≤ sizeLine∧∀ p,H1 p = none→Q (.ref p) (upd H1 p (.tup xs))
def tLst (t:TA):TE:=fun σ H Q=>t σ H fun xs H1=>xs.length ≤ sizeLine∧∀ p,H1 p = none→Q (.ref p) (upd H1 p (.lst xs))
theorem pe_tup {x1} (h:PA X es t):PE X (.Tuple es x1 pos) (tTup t):=by
 intro pins s σ H Q I hq
 refine wpAny_Tuple_spliced (thn (h pos pins s σ H _ I hq) fun us s1 ⟨xs,H1,I1,r,z,q⟩=>⟨by rw [← r.length]; exact z,?_⟩)
 have hf:H1 s1.heap.objs.size = none:=I1.hok.fresh (Nat.le_refl _)
 refine ⟨.ref s1.heap.objs.size,upd H1 s1.heap.objs.size (.tup xs),I1.laid (t':=s1.toks) (fun b u e=>Heap.get?_push_of_some _ e) (Nat.le_refl _) ?_,rfl,q _ hf⟩
 exact ⟨z,us,r,⟨_,Heap.get?_push_size _ rfl,rfl,_,rfl⟩⟩
theorem pe_lst (h:PA X es t):PE X (.List es pos) (tLst t):=by
 intro pins s σ H Q I hq
 refine wpAny_List_spliced (thn (h pos pins s σ H _ I hq) fun us s1 ⟨xs,H1,I1,r,z,q⟩=>⟨by rw [← r.length]; exact z,?_⟩)
 have hf:H1 s1.heap.objs.size = none:=I1.hok.fresh (Nat.le_refl _)
 refine ⟨.ref s1.heap.objs.size,upd H1 s1.heap.objs.size (.lst xs),I1.laid (t':=s1.toks) (fun b u e=>Heap.get?_push_of_some _ e) (Nat.le_refl _) ?_,rfl,q _ hf⟩
 exact ⟨z,us,0,r,Heap.get?_push_size _ rfl⟩
end
abbrev Sp:=List V→Hp→VK→XK→Prop
abbrev CXT:=List Env→Hp→Shared→XK→Value→Shared→Prop
structure Env0 (P:Program) (w:World) (K:PySem.W.Frag) (mg:Str→Option Value) (base:Heap) (A:Around) (outer:List Env) (s:Shared) (H:Hp):Prop where
 frames:A.frames = some outer
 mod:Mod K mg base
 bs:∀ b o,base.get? b = some o→s.heap.get? b = some o∧H b = none
 bsz:base.objs.size ≤ s.heap.objs.size
 funs:s.heap.FunFrames base outer
 frf:∀ b ∈ frs outer,H b = none
 hok:HOk P w H s.heap
 bare:AllBare s.gens
def CE (outer:List Env) (P:Program) (w:World) (H:Hp) (s:Shared) (Q:VK) (u:Value) (s':Shared):Prop :=
 ∃ v H',s'.os = s.os∧AllBare s'.gens∧Un (frs outer) [] H H' s.heap s'.heap∧HOk P w H' s'.heap∧RelV v u∧Q v H'
def CR (CX:CXT) (outer:List Env) (P:Program) (w:World) (H:Hp) (s:Shared) (Q:VK) (E:XK) (r:Result) (s':Shared):Prop :=
 match r with
 | .ok (.ret u)=>CE outer P w H s Q u s'
 | .ok _=>False
 | .error e=>CX outer H s E e s'
structure FnOk (P:Program) (w:World) (K:PySem.W.Frag) (mg:Str→Option Value) (base:Heap) (CX:CXT) (k:Nat) (f:Addr) (fd:FuncData) (ps:List Str) (sp:Sp):Prop where
 len:∀ vs H Q E,sp vs H Q E→vs.length = ps.length
 run:∀ (A:Around) (outer:List Env) (s:Shared) (H:Hp) (args:Args) (us:List Value) (vs:List V) (Q:VK) (E:XK),Room k A→Env0 P w K mg base A outer s H→BindsTo s fd args (ps.zip us)→Vals vs us→sp vs H Q E →
  codeAny (model P w) A (.call (.ref f) args) (CR CX outer P w H s Q E) s
theorem FnOk.imp {P : Program} {w : World} {K : PySem.W.Frag} {mg : Str → Option Value} {base : Heap} {CX : CXT} {k : Nat} {f : Addr} {fd : FuncData} {ps : List Str} {sp sp' : Sp} (F : FnOk P w K mg base CX k f fd ps sp)
  (h:∀ vs H Q E,sp' vs H Q E→sp vs H Q E):FnOk P w K mg base CX k f fd ps sp' :=
 ⟨fun vs H Q E q=>F.len vs H Q E (h _ _ _ _ q),fun A outer s H args us vs Q E hr he hb hv hs=>F.run A outer s H args us vs Q E hr he hb hv (h _ _ _ _ hs)⟩
section
variable {X:Cx} {pins:List (Addr × Obj)} {σ:St} {H:Hp} {s s':Shared}
theorem Inv.env0 (I:Inv X pins σ H s):Env0 X.prog X.w X.K X.mg X.base X.A X.stack s H :=
 ⟨I.ok.frames,I.ok.mod,I.bs,Nat.le_trans I.ok.bsz I.sz,I.stack,I.stkFree,I.hok,I.bare⟩
theorem Inv.after {Q:VK} {u:Value} (I:Inv X pins σ H s) (h:CE X.stack X.prog X.w H s Q u s'):EP X pins σ Q u s':=by
 obtain ⟨v,H',os,bare,un,hok,r,q⟩:=h
 obtain ⟨hh,g,d,t,os'⟩:=s'
 obtain rfl:os' = s.os:=os
 exact ⟨v,H',I.call (h':=hh) (g':=g) (d':=d) (t':=t) (ch:=[]) un hok bare (fun b z=>absurd z (by simp)),r,q⟩
end
def tCall (sp:Sp) (dvs:List V) (E:XK) (t:TA):TE:=fun σ H Q=>t σ H fun vs H1=>sp (vs ++ dvs) H1 Q E
def Binds (K:PySem.W.Frag) (fd:FuncData) (ps:List Str) (ds:List Value):Prop :=
 ∀ (s:Shared) (us:List Value),K.In s.heap→(us ++ ds).length = ps.length→BindsTo s fd ⟨us,[]⟩ (ps.zip (us ++ ds))
theorem Binds.all {K:PySem.W.Frag} {fd:FuncData} {ps:List Str} (h:∀ us:List Value,us.length = ps.length→bindArgs fd ⟨us,[]⟩ = pure (ps.zip us)):Binds K fd ps []:=fun s us _ hl=>by
 rw [List.append_nil] at hl ⊢
 exact .of_eq (h us hl)
def Passes (CX:CXT) (X:Cx) (E:XK):Prop:=∀ (pins:List (Addr × Obj)) (σ:St) (H:Hp) (s:Shared) (e:Value) (s':Shared),Inv X pins σ H s→CX X.stack H s E e s'→X.xe e s'
section
variable {X:Cx} {CX:CXT} {k:Nat} {f C:Addr} {fd:FuncData} {ps:List Str} {sp:Sp} {dvs:List V} {ds:List Value} {E:XK} {x m:Str} {p pos apos:Pos} {e o:Expr} {es:List Expr} {ta:TE} {t:TA}
theorem run_fn {pins : List (Addr × Obj)} {σ : St} {H : Hp} {s : Shared} {Q : VK} {us : List Value} {vs : List V} (F : FnOk X.prog X.w X.K X.mg X.base CX k f fd ps sp) (hr : Room k X.A) (hb : Binds X.K fd ps ds) (hd : Vals dvs ds) (hx : Passes CX X E)
  (I:Inv X pins σ H s) (r:Vals vs us) (h:sp (vs ++ dvs) H Q E):wpAny (model X.prog X.w) X.A (call (.ref f) us) (EP X pins σ Q) X.xe s:=by
 have r2:Vals (vs ++ dvs) (us ++ ds):=r.append hd
 have hl:(us ++ ds).length = ps.length:=by rw [← r2.length]; exact F.len _ _ _ _ h
 refine wpAny_call (codeAny_mono (F.run X.A X.stack s H ⟨us,[]⟩ (us ++ ds) (vs ++ dvs) Q E hr I.env0 (hb s us I.kIn hl) r2 h) fun r s' hq=>?_)
 cases r with
 | error e=>exact hx pins σ H s e s' I hq
 | ok fl =>
  cases fl with
  | ret u=>exact I.after hq
  | next=>exact False.elim hq
  | brk=>exact False.elim hq
  | cont=>exact False.elim hq
theorem pe_call (F : FnOk X.prog X.w X.K X.mg X.base CX k f fd ps sp) (hr : Room k X.A) (hg : Gl X x) (hm : X.mg x = some (.ref f)) (hk : PySem.W.keepIn X.K (.ref f) = true) (hb : Binds X.K fd ps ds) (hd : Vals dvs ds) (hx : Passes CX X E)
  (ha:PA X (e :: es) t) (hdb:(x == ("__debug__":Str)) = false:=by decide) (he:starEach (e :: es) X.env = (false,eval e X.env) :: starEach es X.env:=by rfl) (hpl:(backTo pos (starEach es X.env)).any (·.1) = false:=by rfl) :
  PE X (.Call (.Name x p) (e :: es) [] pos) (tCall sp dvs E t):=by
 intro pins s σ H Q I h
 refine wpAny_Call_Name_kw (ld_glob I hg hm ?_ hdb)
 refine PySem.W.callWith_K (h₀:=X.base) I.ok.mod.kin hk (thn (ha pos pins s σ H _ I h) fun us s1 ⟨vs,H1,I1,r,q⟩=>⟨I1.kIn,?_⟩) he hpl
 exact run_fn F hr hb hd hx I1 r q
structure Mk (K:PySem.W.Frag) (C f:Addr):Prop where
 makes:PySem.W.makesIn K C = true
 init:PySem.W.findIn K (.ref C) "__init__" = some (some (.ref f))
 fn:PySem.W.isFn K (.ref f) = true
 kp:PySem.W.keepIn K (.ref C) = true
end
section
variable {X:Cx} {CX:CXT} {k:Nat} {f C:Addr} {fd:FuncData} {ps ks:List Str} {sp:Sp} {E:XK} {x m:Str} {p pos apos kpos:Pos} {e o:Expr} {es:List Expr} {kws:List Keyword} {te ta:TE} {t tk:TA} {nm:Option Str}
structure KBinds (K:PySem.W.Frag) (fd:FuncData) (ps ks:List Str) (g:List Value→List Value→List Value) (gV:List V→List V→List V):Prop where
 to:∀ (s:Shared) (us ws:List Value),K.In s.heap→(g us ws).length = ps.length→BindsTo s fd ⟨us,ks.zip ws⟩ (ps.zip (g us ws))
 rel:∀ {vs:List V} {us:List Value} {zs:List V} {ws:List Value},Vals vs us→Vals zs ws→Vals (gV vs zs) (g us ws)
variable {g:List Value→List Value→List Value} {gV:List V→List V→List V}
end
structure FnScope (N P:List Str) (sc:Scope):Prop where
 kind:sc.kind = .function
 co:sc.isCoroutine = false
 gen:sc.isGenerator = false
 nd:N.Nodup
 pre:N.take P.length = P
 par:∀ x ∈ P,sc.names.lookup x = some .local∨sc.names.lookup x = some .cell
 nofree:∀ y ∈ sc.names,y.2 ≠ .free
theorem bindL_out {kindOf:Str→Option NameKind} {x:Str}:∀ {binds:List (Str × Value)} {m:Str→Option Value},(∀ v,(x,v) ∉ binds)→bindL kindOf binds m x = m x
 | [],_,_=>rfl
 | (n,v) :: r,m,h=>by
  unfold bindL
  rw [bindL_out fun w hw=>h w (List.mem_cons_of_mem _ hw)]
  split
  ·have:x ≠ n:=by rintro rfl; exact h v List.mem_cons_self
   simp [this]
  ·rfl
theorem bindC_out {kindOf:Str→Option NameKind} {x:Str}:∀ {binds:List (Str × Value)} {m:Str→Option Value},(∀ v,(x,v) ∉ binds)→bindC kindOf binds m x = m x
 | [],_,_=>rfl
 | (n,v) :: r,m,h=>by
  unfold bindC
  rw [bindC_out fun w hw=>h w (List.mem_cons_of_mem _ hw)]
  split
  ·rfl
  ·have:x ≠ n:=by rintro rfl; exact h v List.mem_cons_self
   simp [this]
theorem bindL_get {kindOf : Str → Option NameKind} {x : Str} {v : Value} : ∀ {P : List Str} {vs : List Value} {i : Nat} {m : Str → Option Value}, P.Nodup → P[i]? = some x → vs[i]? = some v → kindOf x = some .local →
  bindL kindOf (P.zip vs) m x = some v
 | [],_,_,_,_,h,_,_=>by simp at h
 | _ :: _,[],_,_,_,_,h,_=>by simp at h
 | p :: P,w :: vs,0,m,nd,h1,h2,hk=>by
  simp at h1 h2; subst h1; subst h2
  show bindL kindOf ((p,w) :: P.zip vs) m p = _
  unfold bindL
  rw [bindL_out fun v hv=>(List.nodup_cons.mp nd).1 (List.of_mem_zip hv).1,if_pos hk]
  simp
 | p :: P,w :: vs,i + 1,m,nd,h1,h2,hk=>by
  show bindL kindOf ((p,w) :: P.zip vs) m x = _
  unfold bindL
  exact bindL_get (i:=i) (List.nodup_cons.mp nd).2 (by simpa using h1) (by simpa using h2) hk
theorem bindC_get {kindOf : Str → Option NameKind} {x : Str} {v : Value} : ∀ {P : List Str} {vs : List Value} {i : Nat} {m : Str → Option Value}, P.Nodup → P[i]? = some x → vs[i]? = some v → kindOf x ≠ some .local →
  bindC kindOf (P.zip vs) m x = some v
 | [],_,_,_,_,h,_,_=>by simp at h
 | _ :: _,[],_,_,_,_,h,_=>by simp at h
 | p :: P,w :: vs,0,m,nd,h1,h2,hk=>by
  simp at h1 h2; subst h1; subst h2
  show bindC kindOf ((p,w) :: P.zip vs) m p = _
  unfold bindC
  rw [bindC_out fun v hv=>(List.nodup_cons.mp nd).1 (List.of_mem_zip hv).1,if_neg hk]
  simp
 | p :: P,w :: vs,i + 1,m,nd,h1,h2,hk=>by
  show bindC kindOf ((p,w) :: P.zip vs) m x = _
  unfold bindC
  exact bindC_get (i:=i) (List.nodup_cons.mp nd).2 (by simpa using h1) (by simpa using h2) hk
def start (N:List Str) (vs:List V):St:=vs.map some ++ List.replicate (N.length - vs.length) none
def cxOf (CX:CXT) (P:Program) (w:World) (K:PySem.W.Frag) (mg:Str→Option Value) (base:Heap) (N:List Str) (qual:Str) (scope:Scope) (f:Addr) (cd:Value) (A:Around) (outer:List Env) (s:Shared) (H:Hp) (E:XK):Cx where
 prog:=P
 w:=w
 K:=K
 mg:=mg
 base:=base
 A:=A.deeper (envOfC qual scope s.heap.objs.size f cd)
 N:=N
 s₀:=s
 H₀:=H
 env:=envOfC qual scope s.heap.objs.size f cd
 outer:=outer
 stack:=envOfC qual scope s.heap.objs.size f cd :: outer
 ex:=[]
 calm:=true
 fn:=fun _=>true
 pn:=[]
 xe:=fun e s'=>wpAny (model P w) (A.deeper (envOfC qual scope s.heap.objs.size f cd)) (leaving (envOfC qual scope s.heap.objs.size f cd) e) (fun _ s''=>CX outer H s E e s'') (fun e' s''=>CX outer H s E e' s'') s'
theorem cell_has {sc:Scope} {n:Nat} {x:Str} (h:sc.names.lookup x = some .cell):∃ c,(cellsFrom n sc.names []).lookup x = some c:=by
 have q:=PySem.W.cellsFrom_some sc.names n [] (.inl h)
 exact Option.isSome_iff_exists.mp q
theorem inv_start {CX : CXT} {P : Program} {w : World} {K : PySem.W.Frag} {mg : Str → Option Value} {base : Heap} {N ps : List Str} {qual : Str} {scope : Scope} {f : Addr} {cd : Value} {A : Around} {outer : List Env} {s s1 : Shared} {H : Hp} {E : XK} {us : List Value} {vs : List V}
  (S:FnScope N ps scope) (hd:A.handled = none) (e0:Env0 P w K mg base A outer s H) (hl:vs.length = ps.length) (r:Vals vs us)
  (x:InCallC s s.heap.objs.size (bindL (envOfC qual scope s.heap.objs.size f cd).kindOf (ps.zip us) fun _=>none) (cellsFrom (s.heap.objs.size + 1) scope.names []) (bindC (envOfC qual scope s.heap.objs.size f cd).kindOf (ps.zip us) fun _=>none) s1) :
  Inv (cxOf CX P w K mg base N qual scope f cd A outer s H E) [] (start N vs) H s1:=by
 have hpl:ps.length ≤ N.length:=by have:=congrArg List.length S.pre; rw [List.length_take] at this; omega
 obtain ⟨h1,tk,rfl,hk⟩:=x.done
 have noA:∀ b:Addr,b ∉ (cxOf CX P w K mg base N qual scope f cd A outer s H E).ex:=fun b z=>absurd (show b ∈ ([]:List Addr) from z) (by simp)
 refine ⟨⟨e0.mod,S.kind,rfl,rfl,Nat.le_refl _,fun y z c h1 h2=>?_,fun y hy=>?_,fun y c _ h=>?_,fun _=>hd,Around.frames_deeper e0.frames,.inr ⟨rfl,rfl⟩,fun b z=>absurd z (noA b),e0.bs,e0.bsz,fun b _ _=>noA b,fun b z=>absurd z (noA b),e0.funs,e0.frf⟩,
  rfl,e0.bare,Un.kept hk,⟨_,x.toInCall.ns,fun i y v h1 h2 h3=>?_⟩,fun y c h=>⟨_,x.cell y c h⟩,e0.hok.fresh (Nat.le_refl _),fun y c h=>?_,fun p hp=>absurd (show p ∈ ([]:List (Addr × Obj)) from hp) (by simp),e0.hok.kept hk,?_⟩
 ·exact name_of_addr x.apart (PySem.mem_of_lookup h1) (PySem.mem_of_lookup h2)
 ·have hy:scope.names.lookup y = some .cell∨scope.names.lookup y = some .free:=hy
  rcases hy with hy | hy
  ·exact cell_has hy
  ·exact absurd rfl (S.nofree _ (PySem.mem_of_lookup hy))
 ·exact Nat.le_of_lt (x.above y c (PySem.mem_of_lookup h))
 ·have hi : i < vs.length := by
   unfold start at h2
   by_cases hi:i < vs.length
   ·exact hi
   ·rw [List.getElem?_append_right (by simpa using hi)] at h2
    rw [List.getElem?_replicate] at h2
    split at h2 <;> cases h2
  have ha:vs[i]? = some v:=by
   unfold start at h2
   rw [List.getElem?_append_left (by simpa using hi),List.getElem?_map] at h2
   cases e:vs[i]? with
   | none=>rw [e] at h2; cases h2
   | some a=>rw [e] at h2; cases h2; rfl
  obtain ⟨u,hu,rv⟩:=r.get ha
  have hp:ps[i]? = some y:=by
   rw [← S.pre,List.getElem?_take_of_lt (by omega)]; exact h1
  have ndP:ps.Nodup:=by rw [← S.pre]; exact S.nd.sublist (List.take_sublist _ _)
  refine ⟨u,rv,?_⟩
  rcases S.par y (List.mem_of_getElem? hp) with k | k
  ·exact .inl ⟨k,bindL_get ndP hp hu k⟩
  ·obtain ⟨c,e⟩:=cell_has (n:=s.heap.objs.size + 1) k
   refine .inr ⟨.inl k,c,e,?_⟩
   have q:=x.cell y c e
   rw [bindC_get ndP hp hu (by show scope.names.lookup y ≠ _; rw [k]; decide)] at q
   exact q
 ·exact e0.hok.fresh (Nat.le_of_lt (x.above y c (PySem.mem_of_lookup h)))
 ·unfold start
  show _ = N.length
  rw [List.length_append,List.length_map,List.length_replicate]
  omega
theorem fn_of {CX : CXT} {P : Program} {w : World} {K : PySem.W.Frag} {mg : Str → Option Value} {base : Heap} {k : Nat} {f : Addr} {name qual : Str} {params : Arguments} {body : List Stmt} {scope : Scope} {dV kV doc pm cdv ct oc : Value} {an od : Option Addr}
  {osl:Array (Option Value)} {N ps:List Str} {sp:Sp} (lk:K.lookup f = some ⟨oc,od,.func (PySem.W.fnOf name qual params body scope dV kV doc pm an cdv ct),osl⟩) (hcd:PySem.W.codeIn K cdv qual = true) (S:FnScope N ps scope)
  (len:∀ vs H Q E,sp vs H Q E→vs.length = ps.length)
  (hbody:∀ (A:Around) (outer:List Env) (s:Shared) (H:Hp) (vs:List V) (Q:VK) (E:XK),Room k (A.deeper (envOfC qual scope s.heap.objs.size f cdv))→sp vs H Q E →
   ∃ t,PSs (cxOf CX P w K mg base N qual scope f cdv A outer s H E) body t∧t { nx:=fun _ H'=>Q .non H',rt:=Q } (start N vs) H) :
  FnOk P w K mg base CX (k + 1) f (PySem.W.fnOf name qual params body scope dV kV doc pm an cdv ct) ps sp:=by
 refine ⟨len,fun A outer s H args us vs Q E hr e0 hb r hsp=>?_⟩
 have hl:=len _ _ _ _ hsp
 have KX:K.In s.heap:=e0.mod.kin.keeps fun b o e=>(e0.bs b o e).1
 have lim:s.heap.NoLimit:=e0.mod.nolimit.keeps fun b o e=>(e0.bs b o e).1
 have hkind:∀ y ∈ ps.zip us,scope.names.lookup y.1 = some .local∨(scope.names.lookup y.1 = some .cell∧((cellsFrom (s.heap.objs.size + 1) scope.names []).lookup y.1).isSome = true):=fun ⟨n,v⟩ hy=>by
  rcases S.par n (List.of_mem_zip hy).1 with q | q
  ·exact .inl q
  ·exact .inr ⟨q,PySem.W.cellsFrom_some _ _ _ (.inl q)⟩
 refine codeAny_call_function hr.depth (KX _ _ lk) rfl S.co S.gen rfl (PySem.W.codeRec_of KX hcd) (hb _ _ _ _ ?_)
 refine wpAny_newFunctionEnv_cells S.kind hkind fun env he s1 x=>?_
 subst he
 refine ⟨lim.keeps x.toInCall.keep,codeAny_func ?_⟩
 obtain ⟨t,ht,hq⟩:=hbody A outer s H vs Q E (hr.deeper _) hsp
 have I:Inv (cxOf CX P w K mg base N qual scope f cdv A outer s H E) [] (start N vs) H s1:=inv_start S hr.hd e0 hl r x
 refine wpAny_mono (ht [] s1 (start N vs) H _ I hq) (fun fl s' hs=>?_) fun e s' hs=>hs
 have fin:∀ {σ':St} {H':Hp} {v:V} {u:Value},Inv (cxOf CX P w K mg base N qual scope f cdv A outer s H E) [] σ' H' s'→RelV v u→Q v H'→CE outer P w H s Q u s' :=
  fun {σ' H' v u} J rv q=>⟨v,H',J.os,J.bare,J.base,J.hok,rv,q⟩
 cases fl with
 | ret u =>
  obtain ⟨v,σ',H',J,rv,q⟩:=hs
  exact fin J rv q
 | next =>
  obtain ⟨σ',H',J,q⟩:=hs
  exact fin (v:=V.non) (u:=Value.none) J rfl q
 | brk =>
  obtain ⟨_,_,_,q⟩:=hs
  exact False.elim q
 | cont =>
  obtain ⟨_,_,_,q⟩:=hs
  exact False.elim q
end L2
namespace L2
open PySem PySem.Spec PyProof.Rows
section
variable {X:Cx} {x:Str} {p pos:Pos} {e:Expr} {es:List Expr} {t:TA} {id T:String} {r:List V→Hp→VK→Prop}
def tCB (r:List V→Hp→VK→Prop) (t:TA):TE:=fun σ H Q=>t σ H fun vs H1=>r vs H1 Q
theorem pe_callB (hc : CallR X (.builtin id) r) (hg : Gl X x) (hm : X.mg x = none) (hv : bootBuiltins x = some (.builtin id)) (ha : PA X (e :: es) t) (hn : x ≠ "__name__" := by decide) (hdb : (x == ("__debug__" : Str)) = false := by decide)
  (he:starEach (e :: es) X.env = (false,eval e X.env) :: starEach es X.env:=by rfl) (hpl:(backTo pos (starEach es X.env)).any (·.1) = false:=by rfl):PE X (.Call (.Name x p) (e :: es) [] pos) (tCB r t):=by
 intro pins s σ H Q I h
 refine wpAny_Call_Name_kw (ld_blt I hg hm hv ?_ hn hdb)
 exact PyProof.Rows.callWith_builtin1 (thn (ha pos pins s σ H _ I h) fun us s1 ⟨vs,H1,I1,r1,q1⟩=>hc pins s1 σ H1 vs us Q I1 r1 q1) he hpl
theorem pe_callTy (hc : CallR X (.type T) r) (hg : Gl X x) (hm : X.mg x = none) (hv : bootBuiltins x = some (.type T)) (ha : PA X (e :: es) t) (hn : x ≠ "__name__" := by decide) (hdb : (x == ("__debug__" : Str)) = false := by decide)
  (he:starEach (e :: es) X.env = (false,eval e X.env) :: starEach es X.env:=by rfl) (hpl:(backTo pos (starEach es X.env)).any (·.1) = false:=by rfl):PE X (.Call (.Name x p) (e :: es) [] pos) (tCB r t):=by
 intro pins s σ H Q I h
 refine wpAny_Call_Name_kw (ld_blt I hg hm hv ?_ hn hdb)
 exact PyProof.Rows.callWith_type1 (thn (ha pos pins s σ H _ I h) fun us s1 ⟨vs,H1,I1,r1,q1⟩=>hc pins s1 σ H1 vs us Q I1 r1 q1) he hpl
end
end L2
namespace HT
open PySem PyProof.Rows
section
open PySem.SeqAt
open PySem.AutoSeq1 (wpAny_loadPart')
open PySem.MeetsSeq PySem.MeetsSeq2 PySem.MeetsSeq3
end
section
variable {prog:Program} {w:World} {A:Around} {E:Value→Shared→Prop} {s:Shared}
theorem cat_tup {t b : Addr} {vs ws : List Value} {Q : Value → Shared → Prop} (ht : IsTup s.heap t vs.toArray) (hb : IsTup s.heap b ws.toArray) (hv : vs ≠ [])
  (h1:ws = []→Q (.ref t) s) (h2:ws ≠ []→Q (.ref s.heap.objs.size) { s with heap:=s.heap.push { cls:=.type "tuple",data:=.seq (vs ++ ws).toArray } })
  (hsz:vs.length + ws.length ≤ sizeLine):wpAny (model prog w) A (binaryOp .Add (.ref t) (.ref b)) Q E s:=by
 obtain ⟨⟨cls,dd,data,sl⟩,ho,hc,n,hd⟩:=id ht
 obtain ⟨⟨cls2,dd2,data2,sl2⟩,ho2,hc2,n2,hd2⟩:=id hb
 simp only at hc hd hc2 hd2
 subst hc hd hc2 hd2
 have e:vs.toArray ++ ws.toArray = (vs ++ ws).toArray:=by simp
 by_cases hw:ws = []
 ·exact concat_meets ⟨_, ho, rfl⟩ ⟨_, ho2, rfl⟩ noFill_tuple_add seq_tuple_add PySem.F.slot_tuple_add PySem.F.entry_tuple_add (PySem.F.args_tuple_add_2 _ _)
   (tuple_addW1 t b vs.toArray ws.toArray n n2 dd dd2 sl sl2 (by simpa using hv) (by simp [hw])) ⟨ho,ho2,h1 hw⟩
 ·refine concat_meets ⟨_, ho, rfl⟩ ⟨_, ho2, rfl⟩ noFill_tuple_add seq_tuple_add PySem.F.slot_tuple_add PySem.F.entry_tuple_add (PySem.F.args_tuple_add_2 _ _)
   (tuple_addW2 t b vs.toArray ws.toArray n n2 dd dd2 sl sl2 (by simpa using hv) (by simpa using hw) (by rw [List.size_toArray,List.size_toArray]; exact hsz)) ⟨ho,ho2,?_⟩
  rw [e]
  exact h2 hw
def sIx (n d:Nat):Option Int→Nat
 | none=>d
 | some v=>if v < 0 then (v + (n:Int)).toNat else min v.toNat n
theorem sIx_none (n d:Nat):sIx n d none = d:=rfl
theorem sIx_nat (n d k:Nat):sIx n d (some (k:Int)) = min k n:=by
 show (if (k:Int) < 0 then ((k:Int) + (n:Int)).toNat else min (k:Int).toNat n) = min k n
 rw [if_neg (by omega),Int.toNat_natCast]
theorem sIx_le (n d:Nat) (hd:d ≤ n) (o:Option Int):sIx n d o ≤ n:=by
 cases o with
 | none=>exact hd
 | some v =>
  show (if v < 0 then (v + (n:Int)).toNat else min v.toNat n) ≤ n
  by_cases hv:v < 0
  ·rw [if_pos hv]; omega
  ·rw [if_neg hv]; exact Nat.min_le_right _ _
theorem clip_eq (v:Int) (n d:Nat):(if v < 0 then max (v + (n:Int)) 0 else min v (n:Int)) = ((sIx n d (some v):Nat):Int):=by
 show (if v < 0 then max (v + (n:Int)) 0 else min v (n:Int)) = (((if v < 0 then (v + (n:Int)).toNat else min v.toNat n):Nat):Int)
 by_cases hv:v < 0
 ·simp only [if_pos hv]; omega
 ·simp only [if_neg hv]; omega
theorem adjust_gen (lo hi:Option Int) (n:Nat):Builtin.Slice.sliceAdjust lo hi 1 (n:Int) = (((sIx n 0 lo:Nat):Int),((sIx n n hi:Nat):Int)):=by
 have h1:¬ ((1:Int) < 0):=by omega
 unfold Builtin.Slice.sliceAdjust
 simp only [h1,if_false]
 refine Prod.ext ?_ ?_
 ·cases lo with
  | none=>rfl
  | some v=>exact clip_eq v n 0
 ·cases hi with
  | none=>rfl
  | some v=>exact clip_eq v n n
theorem places_gen (i j:Nat):Builtin.Slice.slicePlaces (i:Int) (j:Int) 1 = j - i:=by
 unfold Builtin.Slice.slicePlaces
 have h1:(1:Int) > 0:=by omega
 simp only [h1,if_true,Int.ediv_one]
 split <;> omega
theorem slicePart_ {v:Value} {o:Option Int} {Q:Option Int→Shared→Prop} (p:IsPart v o) (h:Q o s):wpAny (model prog w) A (Builtin.Slice.slicePartIndex v) Q E s:=by
 cases p with
 | none=>exact slicePart_none h
 | int i t=>exact slicePart_int h
theorem sliceApplied_gen {sl : Addr} {vl vu : Value} {lo hi : Option Int} {n : Nat} {Q : Int × Int × Nat → Shared → Prop} (hs : s.heap.IsSliceOf sl vl vu .none) (pl : IsPart vl lo) (pu : IsPart vu hi)
  (h:Q (((sIx n 0 lo:Nat):Int),1,sIx n n hi - sIx n 0 lo) s):wpAny (model prog w) A (Builtin.Slice.sliceApplied (.ref sl) (pure (n:Int))) Q E s:=by
 obtain ⟨os,hos,hcs,hds⟩:=id hs
 unfold Builtin.Slice.sliceApplied Builtin.Slice.sliceFields
 refine wpAny_bind (wpAny_bind (wpAny_field hos hds (x:=vl) rfl (wpAny_bind (wpAny_field hos hds (x:=vu) rfl (wpAny_bind (wpAny_field hos hds (x:=.none) rfl (wpAny_pure ?_)))))))
 refine wpAny_bind (slicePart_none ?_)
 show wpAny _ _ (if ((1:Int) == 0) = true then _ else _) _ _ s
 rw [if_neg (by decide)]
 refine wpAny_bind (slicePart_ pl (wpAny_bind (slicePart_ pu (wpAny_bind (wpAny_pure ?_)))))
 show wpAny _ _ (match Builtin.Slice.sliceAdjust lo hi 1 (n:Int) with | (lo,hi)=>pure (lo,(1:Int),Builtin.Slice.slicePlaces lo hi 1)) _ _ s
 rw [adjust_gen lo hi n]
 show wpAny _ _ (pure (((sIx n 0 lo:Nat):Int),(1:Int),Builtin.Slice.slicePlaces ((sIx n 0 lo:Nat):Int) ((sIx n n hi:Nat):Int) 1)) _ _ s
 rw [places_gen]
 exact wpAny_pure h
theorem pick_gen (xs:Array Value) (i k:Nat):((List.range k).filterMap fun (m:Nat)=>xs[((i:Int) + (m:Int) * 1).toNat]?).toArray = ((xs.toList.drop i).take k).toArray:=by
 have e:(fun (m:Nat)=>xs[((i:Int) + (m:Int) * 1).toNat]?) = fun m=>xs[i + m]?:=by
  funext m
  have:((i:Int) + (m:Int) * 1).toNat = i + m:=by omega
  rw [this]
 rw [e]
 have:=pick_run xs i k
 rw [List.filterMap_map] at this
 have e2:((fun x=>xs[x]?) ∘ fun x=>i + x) = fun m=>xs[i + m]?:=rfl
 rw [e2] at this
 rw [this]
theorem getItem_tuple_cut {t sl : Addr} {items : Array Value} {vl vu : Value} {lo hi : Option Int} {Q : Value → Shared → Prop} (ht : IsTup s.heap t items) (hs : s.heap.IsSliceOf sl vl vu .none) (pl : IsPart vl lo) (pu : IsPart vu hi)
  (hw:¬ (sIx items.size 0 lo = 0∧sIx items.size items.size hi = items.size))
  (h:Q (.ref s.heap.objs.size) { s with heap:=s.heap.push { cls:=.type "tuple",data:=.seq ((items.toList.drop (sIx items.size 0 lo)).take (sIx items.size items.size hi - sIx items.size 0 lo)).toArray } })
  (hsz:items.size ≤ sizeLine):wpAny (model prog w) A (getItem (.ref t) (.ref sl)) Q E s:=by
 have htake:sizeOk (.seq ((items.toList.drop (sIx items.size 0 lo)).take (sIx items.size items.size hi - sIx items.size 0 lo)).toArray):=by
  show ((items.toList.drop (sIx items.size 0 lo)).take (sIx items.size items.size hi - sIx items.size 0 lo)).toArray.size ≤ sizeLine
  rw [List.size_toArray,List.length_take,List.length_drop,Array.length_toList]
  omega
 have hj:sIx items.size items.size hi ≤ items.size:=sIx_le _ _ (Nat.le_refl _) hi
 obtain ⟨os,hos,hcs,hds⟩:=id hs
 have hTs:s.TypeIs (.ref sl) "slice":=⟨os,hos,hcs⟩
 unfold getItem
 try with_reducible refine wpAny_holding ?_
 first | refine wpAny_bind (wpAny_pure ?_) | skip
 refine wpAny_bind (wpAny_sequenceKey ht.typeIs (by decide) ?_)
 refine wpAny_bind (wpAny_callSpecial?_slot (name:=Str.ofString "__getitem__") ht.typeIs PyProof.Rows.slot_tuple_getitem
  (wpAny_call_entry PyProof.Rows.slot_tuple_getitem ht.typeIs entry_tuple_getitem ?_ (args_tuple_getitem _ _)))
 show wpAny _ _ (Builtin.Tuple.tupleItemsOf (.ref t) >>= _) _ _ s
 refine wpAny_bind (tupleItemsOf_ ht ?_)
 refine wpAny_bind (wpAny_typeOf hTs ?_)
 rw [if_pos (by decide)]
 refine wpAny_bind (sliceApplied_gen hs pl pu ?_)
 have hno:¬ ((((sIx items.size 0 lo:Nat):Int) == 0 && (1:Int) == 1 && (sIx items.size items.size hi - sIx items.size 0 lo) == items.size) = true):=by
  intro q
  rw [Bool.and_eq_true,Bool.and_eq_true] at q
  have q1:((sIx items.size 0 lo:Nat):Int) = 0:=eq_of_beq q.1.1
  have q2:sIx items.size items.size hi - sIx items.size 0 lo = items.size:=eq_of_beq q.2
  exact hw ⟨by omega,by omega⟩
 show wpAny _ _ (if (((sIx items.size 0 lo:Nat):Int) == 0 && (1:Int) == 1 && (sIx items.size items.size hi - sIx items.size 0 lo) == items.size) = true then _ else _) _ _ s
 rw [if_neg hno,pick_gen]
 first
  | exact wpAny_bind (m:=Builtin.Tuple.tupleExact _) (wpAny_newObj_type (wpAny_pure ⟨_,rfl,wpAny_pure h⟩) htake)
  | exact wpAny_bind (m:=Builtin.Tuple.tupleExact _) (wpAny_newObj_type (wpAny_bind (wpAny_pure (wpAny_pure ⟨_,rfl,wpAny_pure h⟩))) htake)
  | exact wpAny_bind (wpAny_bind (m:=Builtin.Tuple.tupleExact _) (wpAny_newObj_type (wpAny_pure (wpAny_pure ⟨_,rfl,wpAny_pure h⟩)) htake))
  | exact wpAny_bind (wpAny_bind (m:=Builtin.Tuple.tupleExact _) (wpAny_newObj_type (wpAny_pure ⟨_,rfl,wpAny_pure h⟩) htake))
end
end HT
namespace L2
open PySem PySem.Spec PyProof.Rows
abbrev TO:=St→Hp→(Option Int→Hp→Prop)→Prop
def PO (X:Cx) (e:Option Expr) (t:TO):Prop :=
 ∀ (pins:List (Addr × Obj)) (s:Shared) (σ:St) (H:Hp) (Q:Option Int→Hp→Prop),Inv X pins σ H s→t σ H Q →
  wpAny (model X.prog X.w) X.A (evalPart e X.env) (fun u s'=>∃ o H',Inv X pins σ H' s'∧IsPart u o∧Q o H') X.xe s
def tNoPart:TO:=fun _ H Q=>Q none H
def tPart (t:TE):TO:=fun σ H Q=>t σ H fun x H1=>∃ i,x = .int i∧Q (some i) H1
section
variable {X:Cx} {e:Expr} {te:TE} {lo hi:Option Expr} {tl th:TO} {pos p2:Pos}
theorem po_none:PO X none tNoPart:=by
 intro pins s σ H Q I h
 rw [evalPart_none]
 exact wpAny_pure ⟨none,H,I,.none,h⟩
theorem po_some (h:PE X e te):PO X (some e) (tPart te):=by
 intro pins s σ H Q I hw
 rw [evalPart_some]
 refine thn (h pins s σ H _ I hw) fun u s1 ⟨x,H1,I1,r1,q1⟩=>?_
 obtain ⟨i,rfl,q⟩:=q1
 obtain ⟨t,rfl⟩:=r1
 exact ⟨some i,H1,I1,.int i t,q⟩
def SlR (X:Cx) (r:V→Option Int→Option Int→Hp→VK→Prop):Prop :=
 ∀ (pins:List (Addr × Obj)) (s:Shared) (σ:St) (H:Hp) (x:V) (v vl vu:Value) (lo hi:Option Int) (sl:Addr) (Q:VK),Inv X pins σ H s→RelV x v→s.heap.IsSliceOf sl vl vu .none→IsPart vl lo→IsPart vu hi→r x lo hi H Q →
  ∃ T id,typeLookup (.type T) "__getitem__" = pure (some (.builtin id))∧s.TypeIs v T∧wpAny (model X.prog X.w) X.A (getItem v (.ref sl)) (EP X pins σ Q) X.xe s
def tSl (r:V→Option Int→Option Int→Hp→VK→Prop) (te:TE) (tl th:TO):TE:=fun σ H Q=>te σ H fun x H1=>tl σ H1 fun l H2=>th σ H2 fun u H3=>r x l u H3 Q
theorem pe_slice {r:V→Option Int→Option Int→Hp→VK→Prop} (hr:SlR X r) (he:PE X e te) (hl:PO X lo tl) (hu:PO X hi th):PE X (.Subscript e (.Slice lo hi none p2) pos) (tSl r te tl th):=by
 intro pins s σ H Q I h
 refine Subscript_ (thn (he pins s σ H _ I h) fun v s1 ⟨x,H1,I1,r1,q1⟩=>?_)
 refine wpAny_Slice (thn (hl pins s1 σ H1 _ I1 q1) fun vl s2 ⟨l,H2,I2,pl,q2⟩=>thn (hu pins s2 σ H2 _ I2 q2) fun vu s3 ⟨u,H3,I3,pu,q3⟩=>?_)
 rw [evalPart_none]
 refine wpAny_pure ?_
 have I4:Inv X pins σ H3 { s3 with heap:=s3.heap.push { cls:=.type "slice",data:=.fields #[vl,vu,.none] } }:=I3.kept (t':=s3.toks) fun b ob q=>Heap.get?_push_of_some _ q
 obtain ⟨T,id,hT,ht,hg⟩:=hr pins { s3 with heap:=s3.heap.push { cls:=.type "slice",data:=.fields #[vl,vu,.none] } } σ H3 x v vl vu l u s3.heap.objs.size Q I4 r1 (Heap.IsSliceOf.new ..) pl pu q3
 show wpAny (model X.prog X.w) X.A (subscriptTail e (.Slice lo hi none p2) v (.ref s3.heap.objs.size)) (EP X pins σ Q) X.xe { s3 with heap:=s3.heap.push { cls:=.type "slice",data:=.fields #[vl,vu,.none] } }
 exact tail_any (ops:=[.ref s3.heap.objs.size,v]) ht hT hg (by with_unfolding_all rfl)
def cutV (xs:List V) (lo hi:Option Int):List V:=(xs.drop (HT.sIx xs.length 0 lo)).take (HT.sIx xs.length xs.length hi - HT.sIx xs.length 0 lo)
theorem cutV_length (xs:List V) (lo hi:Option Int):(cutV xs lo hi).length ≤ xs.length:=by
 unfold cutV
 rw [List.length_take,List.length_drop]
 omega
def rSlT (K:PySem.W.Frag):V→Option Int→Option Int→Hp→VK→Prop:=fun x lo hi H Q=>∃ a xs,x = .ref a∧SqT K H a xs ∧
 ¬ (HT.sIx xs.length 0 lo = 0∧HT.sIx xs.length xs.length hi = xs.length)∧∀ p,H p = none→Q (.ref p) (upd H p (.tup (cutV xs lo hi)))
theorem sl_tup:SlR X (rSlT X.K):=by
 intro pins s σ H x v vl vu lo hi sl Q I rx hs pl pu h
 obtain ⟨a,xs,rfl,hx,hw,q⟩:=h
 cases rx
 obtain ⟨its,r,ht,hz⟩:=I.tuple hx
 have hlen:its.toArray.size = xs.length:=by rw [List.size_toArray]; exact r.length.symm
 refine ⟨"tuple",_,PyProof.Rows.slot_tuple_getitem.lookup,ht.typeIs,?_⟩
 refine HT.getItem_tuple_cut ht hs pl pu (by rw [hlen]; exact hw) ?_ (by rw [hlen]; exact hz)
 rw [hlen]
 refine ⟨.ref s.heap.objs.size,_,I.laid (t':=s.toks) (o:=.tup (cutV xs lo hi)) (fun b ob q=>Heap.get?_push_of_some _ q) (Nat.le_refl _) ?_,rfl,q _ (I.hok.fresh (Nat.le_refl _))⟩
 exact ⟨Nat.le_trans (cutV_length xs lo hi) hz,_,(r.drop (HT.sIx xs.length 0 lo)).take (HT.sIx xs.length xs.length hi - HT.sIx xs.length 0 lo),IsTup.new _ _⟩
def rCatT (K:PySem.W.Frag):R2:=fun x y H Q=>∃ a b xs ys,x = .ref a∧y = .ref b∧SqT K H a xs∧SqT K H b ys∧xs ≠ []∧xs.length + ys.length ≤ sizeLine ∧
 (ys = []→Q (.ref a) H)∧(ys ≠ []→∀ p,H p = none→Q (.ref p) (upd H p (.tup (xs ++ ys))))
theorem Vals.nil_iff {xs:List V} {us:List Value} (r:Vals xs us):us = [] ↔ xs = []:=by
 cases r with
 | nil=>simp
 | cons _ _=>simp
theorem op_catT:OpR X (binaryOp .Add) (rCatT X.K):=by
 intro pins s σ H x y v u Q I rx ry h
 obtain ⟨a,b,xs,ys,rfl,rfl,ha,hb,hx,hz,q1,q2⟩:=h
 cases rx
 cases ry
 obtain ⟨its,r1,p1,_⟩:=I.tuple ha
 obtain ⟨its2,r2,p2,_⟩:=I.tuple hb
 refine HT.cat_tup p1 p2 (fun z=>hx (r1.nil_iff.mp z)) (fun z=>⟨.ref a,H,I,rfl,q1 (r2.nil_iff.mp z)⟩) (fun z=>?_) (by rw [← r1.length,← r2.length]; exact hz)
 refine ⟨.ref s.heap.objs.size,_,I.laid (t':=s.toks) (o:=.tup (xs ++ ys)) (fun b ob q=>Heap.get?_push_of_some _ q) (Nat.le_refl _) ?_,rfl,q2 (fun w=>z (r2.nil_iff.mpr w)) _ (I.hok.fresh (Nat.le_refl _))⟩
 exact ⟨by rw [List.length_append]; exact hz,_,r1.append r2,IsTup.new _ _⟩
end
end L2
namespace L2
open PySem PySem.Spec PyProof.Rows
def ixN (n:Nat) (i:Int):Option Nat:=if 0 ≤ i then (if i < n then some i.toNat else none) else if -(n:Int) ≤ i then some (i + n).toNat else none
def atI {α:Type} (xs:List α) (i:Int):Option α:=(ixN xs.length i).bind fun j=>xs[j]?
theorem ixN_seq {n:Nat} {i:Int} {j:Nat} (h:ixN n i = some j):seqIndex? i n = some j∧j < n∧-(n:Int) ≤ i∧i < n:=by
 unfold ixN at h
 by_cases h0:0 ≤ i
 ·rw [if_pos h0] at h
  by_cases h1:i < n
  ·rw [if_pos h1] at h
   have e:i.toNat = j:=Option.some.inj h
   exact ⟨by rw [seqIndex_of h0 h1,e],by omega,by omega,h1⟩
  ·rw [if_neg h1] at h; cases h
 ·rw [if_neg h0] at h
  by_cases h1:-(n:Int) ≤ i
  ·rw [if_pos h1] at h
   have e:(i + n).toNat = j:=Option.some.inj h
   exact ⟨by rw [seqIndex_neg (by omega) h1,e],by omega,h1,by omega⟩
  ·rw [if_neg h1] at h; cases h
theorem atI_get {α:Type} {xs:List α} {i:Int} {v:α} (h:atI xs i = some v):∃ j,seqIndex? i xs.length = some j∧xs[j]? = some v∧j < xs.length∧-(xs.length:Int) ≤ i∧i < xs.length:=by
 unfold atI at h
 cases e:ixN xs.length i with
 | none=>rw [e] at h; cases h
 | some j =>
  rw [e] at h
  obtain ⟨h1,h2,h3,h4⟩:=ixN_seq e
  exact ⟨j,h1,h,h2,h3,h4⟩
theorem atI_nat {α:Type} {xs:List α} {j:Nat} {v:α} (h:xs[j]? = some v):atI xs (j:Int) = some v:=by
 have hj:j < xs.length:=(List.getElem?_eq_some_iff.mp h).1
 have e:ixN xs.length (j:Int) = some j:=by
  unfold ixN
  rw [if_pos (by omega),if_pos (by omega)]; simp
 unfold atI; rw [e]; exact h
def PlainIx (b:Expr):Prop:=∀ o i,subscripted b false o i = operate [o,i] (getItem o i)
def IxR (X:Cx) (r:R2):Prop :=
 ∀ (value slice:Expr) (pins:List (Addr × Obj)) (s:Shared) (σ:St) (H:Hp) (x y:V) (v u:Value) (Q:VK),Inv X pins σ H s→RelV x v→RelV y u→r x y H Q →
  subscripted slice false v u = operate [v,u] (getItem v u)→wpAny (model X.prog X.w) X.A (subscriptTail value slice v u) (EP X pins σ Q) X.xe s
def MtR (X:Cx) (id:String) (r:V→List V→Hp→VK→Prop):Prop :=
 ∀ (pins:List (Addr × Obj)) (s:Shared) (σ:St) (H:Hp) (x:V) (xs:List V) (v:Value) (us:List Value) (Q:VK),Inv X pins σ H s→RelV x v→Vals xs us→r x xs H Q →
  wpAny (model X.prog X.w) X.A (call (.builtin id) (v :: us)) (EP X pins σ Q) X.xe s
section
variable {X:Cx} {a b:Expr} {ta tb:TE} {pos:Pos}
theorem pe_ix {r:R2} (hr:IxR X r) (ha:PE X a ta) (hb:PE X b tb) (hs:PlainIx b):PE X (.Subscript a b pos) (tOp r ta tb):=by
 intro pins s σ H Q I h
 exact Subscript_ (binT ha hb I h fun v u s2 x y H2 I2 rx ry q=>hr a b pins s2 σ H2 x y v u Q I2 rx ry q (hs _ _))
def rIxL (K:PySem.W.Frag):R2:=fun x y H Q=>∃ p xs i v,x = .ref p∧y = .int i∧SqL K H p xs∧atI xs i = some v∧Q v H
def rIxT (K:PySem.W.Frag):R2:=fun x y H Q=>∃ p xs i v,x = .ref p∧y = .int i∧SqT K H p xs∧atI xs i = some v∧Q v H
def rIxS:R2:=fun x y H Q=>∃ z i c,x = .str z∧y = .int i∧z.length ≤ sizeLine∧atI z.cps.toList i = some c∧Q (.str ⟨#[c]⟩) H
theorem ix_list:IxR X (rIxL X.K):=by
 intro value slice pins s σ H x y v u Q I rx ry h hs
 obtain ⟨p,xs,i,z,rfl,rfl,hq,he,q⟩:=h
 cases rx
 obtain ⟨t,rfl⟩:=ry
 obtain ⟨its,r,pl,hz⟩:=I.list hq
 obtain ⟨j,h1,h2,h3,h4,h5⟩:=atI_get he
 obtain ⟨w,ew,rw'⟩:=r.get h2
 have hl:=r.length
 have hn:=line63
 have fin:EP X pins σ Q w s:=⟨z,H,I,rw',q⟩
 by_cases h0:0 ≤ i
 ·have hj : i.toNat = j := by
   rw [seqIndex_of h0 h5] at h1
   exact Option.some.inj h1
  exact item_listR pl.isList h0 (by omega) (by rw [hj]; simpa using ew) fin hs
 ·have hj : (i + (its.toArray.size : Int)).toNat = j := by
   rw [seqIndex_neg (by omega) h4] at h1
   rw [List.size_toArray,← hl]
   exact Option.some.inj h1
  exact subscriptTail_builtinR (x:=w) pl.isList.typeIs slot_list_getitem.lookup
   (wpAny_getItem_list_neg (Q:=fun r s'=>r = w∧EP X pins σ Q r s') pl.isList (by omega) (by rw [List.size_toArray] <;> omega) (by omega) (by rw [hj]; simpa using ew) ⟨rfl,fin⟩) hs
theorem ix_tup:IxR X (rIxT X.K):=by
 intro value slice pins s σ H x y v u Q I rx ry h hs
 obtain ⟨p,xs,i,z,rfl,rfl,hq,he,q⟩:=h
 cases rx
 obtain ⟨t,rfl⟩:=ry
 obtain ⟨its,r,pl,hz⟩:=I.tuple hq
 obtain ⟨j,h1,h2,h3,h4,h5⟩:=atI_get he
 obtain ⟨w,ew,rw'⟩:=r.get h2
 have hl:=r.length
 have hn:=line63
 have fin:EP X pins σ Q w s:=⟨z,H,I,rw',q⟩
 exact subscriptTail_builtinR (x:=w) pl.typeIs slot_tuple_getitem.lookup
  (getItem_tuple (j:=j) (Q:=fun r s'=>r = w∧EP X pins σ Q r s') pl (by omega) (by omega) (by rw [List.size_toArray,← hl]; exact h1) (by simpa using ew) ⟨rfl,fin⟩) hs
theorem ix_str:IxR X rIxS:=by
 intro value slice pins s σ H x y v u Q I rx ry h hs
 obtain ⟨z,i,c,rfl,rfl,hz,he,q⟩:=h
 obtain ⟨t,rfl⟩:=rx
 obtain ⟨t',rfl⟩:=ry
 obtain ⟨j,h1,h2,h3,h4,h5⟩:=atI_get he
 have hl:z.cps.toList.length = z.length:=by simp [Str.length]
 rw [hl] at h1 h4 h5
 have hn:=line63
 exact tail_any (typeIs_str s z t) slot_str_getitem.lookup (getItem_str (c:=c) (by
  have e1:decide (i < -(2 ^ 63:Int)) = false:=decide_eq_false (by omega)
  have e2:decide (i ≥ 2 ^ 63) = false:=decide_eq_false (by omega)
  rw [e1,e2,Bool.or_false]) (by rw [h1]; simpa using h2) ⟨.str ⟨#[c]⟩,H,I.tok _,⟨_,rfl⟩,q⟩) hs
theorem Inv.lst {pins : List (Addr × Obj)} {σ : St} {H : Hp} {s : Shared} {p : Addr} {xs : List V} (I : Inv X pins σ H s) (h : H p = some (.lst xs)) :
  ∃ (its:List Value) (n:Nat),Vals xs its∧s.heap.get? p = some { cls:=.type "list",data:=.seq its.toArray n }∧xs.length ≤ sizeLine:=by
 obtain ⟨z,its,n,r,e⟩:=I.hok p _ h
 exact ⟨its,n,r,e,z⟩
theorem slice_bounds (lo hi:Option Int) (n:Nat):(sliceBounds lo hi none n).1 = ((HT.sIx n 0 lo:Nat):Int)∧(sliceBounds lo hi none n).2.1 = ((HT.sIx n n hi:Nat):Int)∧(sliceBounds lo hi none n).2.2 = 1:=by
 refine ⟨?_,?_,rfl⟩
 ·cases lo with
  | none=>simp [sliceBounds,HT.sIx]
  | some i =>
   simp only [sliceBounds,HT.sIx,Option.getD_none,show (1:Int) > 0 by decide,if_true]
   by_cases h:i < 0
   ·simp only [h,if_true] <;> omega
   ·simp only [h,if_false] <;> omega
 ·cases hi with
  | none=>simp [sliceBounds,HT.sIx]
  | some i =>
   simp only [sliceBounds,HT.sIx,Option.getD_none,show (1:Int) > 0 by decide,if_true]
   by_cases h:i < 0
   ·simp only [h,if_true] <;> omega
   ·simp only [h,if_false] <;> omega
theorem slicePick_cut (its:List Value) (lo hi:Option Int):slicePick its.toArray lo hi none = ((its.drop (HT.sIx its.length 0 lo)).take (HT.sIx its.length its.length hi - HT.sIx its.length 0 lo)).toArray:=by
 obtain ⟨h1,h2,h3⟩:=slice_bounds lo hi its.toArray.size
 unfold slicePick
 rw [h1,h2,h3]
 simp only [sliceRange_one,pick_run,List.size_toArray] <;> rfl
def rSlL (K:PySem.W.Frag):V→Option Int→Option Int→Hp→VK→Prop:=fun x lo hi H Q=>∃ a xs,x = .ref a∧SqL K H a xs∧∀ p,H p = none→Q (.ref p) (upd H p (.lst (cutV xs lo hi)))
theorem sl_list:SlR X (rSlL X.K):=by
 intro pins s σ H x v vl vu lo hi sl Q I rx hs pl pu h
 obtain ⟨a,xs,rfl,hx,q⟩:=h
 cases rx
 obtain ⟨its,r,ht,hz⟩:=I.list hx
 have hlen:=r.length
 refine ⟨"list",_,slot_list_getitem.lookup,ht.isList.typeIs,?_⟩
 refine wpAny_getItem_list_slice ht.isList hs pl pu .none (by simp) ?_ (by rw [List.size_toArray] <;> omega)
 rw [slicePick_cut,← hlen]
 refine ⟨.ref s.heap.objs.size,_,I.laid (t':=s.toks) (o:=.lst (cutV xs lo hi)) (fun b ob q=>Heap.get?_push_of_some _ q) (Nat.le_refl _) ?_,rfl,q _ (I.hok.fresh (Nat.le_refl _))⟩
 exact ⟨Nat.le_trans (cutV_length xs lo hi) hz,_,0,(r.drop (HT.sIx xs.length 0 lo)).take (HT.sIx xs.length xs.length hi - HT.sIx xs.length 0 lo),Heap.get?_push_size _ rfl⟩
def flatV:V→Bool
 | .non=>true
 | .bl _=>true
 | .int _=>true
 | .str _=>true
 | _=>false
def eqV:V→V→Bool
 | .non,.non=>true
 | .bl a,.bl b=>a == b
 | .bl a,.int b=>(if a then 1 else 0) == b
 | .int a,.bl b=>a == (if b then 1 else 0)
 | .int a,.int b=>a == b
 | .str a,.str b=>a == b
 | _,_=>false
theorem eqAt_V {A:Around} {s:Shared} {y x:V} {u v:Value} (ry:RelV y u) (rx:RelV x v) (fy:flatV y = true) (fx:flatV x = true):SeqAt.EqAt A s u v (eqV y x):=by
 cases y with
 | non =>
  cases ry
  cases x with
  | non=>cases rx; exact SeqAt.EqAt.same _
  | bl b=>cases rx; exact SeqAt.EqAt.none_bool b
  | int b=>obtain ⟨t,rfl⟩:=rx; exact SeqAt.EqAt.none_int b t
  | str b=>obtain ⟨t,rfl⟩:=rx; exact SeqAt.EqAt.none_str b t
  | _=>exact absurd (show false = true from fx) Bool.false_ne_true
 | bl a =>
  cases ry
  cases x with
  | non=>cases rx; exact SeqAt.EqAt.bool_none a
  | bl b=>cases rx; exact SeqAt.EqAt.bool_bool a b
  | int b=>obtain ⟨t,rfl⟩:=rx; exact SeqAt.EqAt.bool_int a b t
  | str b=>obtain ⟨t,rfl⟩:=rx; exact SeqAt.EqAt.bool_str a b t
  | _=>exact absurd (show false = true from fx) Bool.false_ne_true
 | int a =>
  obtain ⟨t',rfl⟩:=ry
  cases x with
  | non=>cases rx; exact SeqAt.EqAt.int_none a t'
  | bl b=>cases rx; exact SeqAt.EqAt.int_bool a t' b
  | int b=>obtain ⟨t,rfl⟩:=rx; exact SeqAt.EqAt.int_int a t' b t
  | str b=>obtain ⟨t,rfl⟩:=rx; exact SeqAt.EqAt.int_str a t' b t
  | _=>exact absurd (show false = true from fx) Bool.false_ne_true
 | str a =>
  obtain ⟨t',rfl⟩:=ry
  cases x with
  | non=>cases rx; exact SeqAt.EqAt.str_none a t'
  | bl b=>cases rx; exact SeqAt.EqAt.str_bool a t' b
  | int b=>obtain ⟨t,rfl⟩:=rx; exact SeqAt.EqAt.str_int a t' b t
  | str b=>obtain ⟨t,rfl⟩:=rx; exact SeqAt.EqAt.str_str a t' b t
  | _=>exact absurd (show false = true from fx) Bool.false_ne_true
 | _=>exact absurd (show false = true from fy) Bool.false_ne_true
def eqU (x:V) (u:Value):Bool:=match u with
 | .none=>eqV .non x
 | .bool b=>eqV (.bl b) x
 | .int i _=>eqV (.int i) x
 | .str z _=>eqV (.str z) x
 | _=>false
theorem eqU_of {x y:V} {u:Value} (r:RelV y u) (f:flatV y = true):eqU x u = eqV y x:=by
 cases y with
 | non=>cases r; rfl
 | bl b=>cases r; rfl
 | int i=>obtain ⟨t,rfl⟩:=r; rfl
 | str z=>obtain ⟨t,rfl⟩:=r; rfl
 | _=>exact absurd (show false = true from f) Bool.false_ne_true
theorem any_eqU {x:V}:∀ {xs:List V} {us:List Value},Vals xs us→xs.all flatV = true→us.any (eqU x) = xs.any fun y=>eqV y x
 | _,_,.nil,_=>rfl
 | y :: xs,u :: us,.cons r t,f=>by
  rw [List.all_cons,Bool.and_eq_true] at f
  rw [List.any_cons,List.any_cons,eqU_of r f.1,any_eqU t f.2]
theorem mem_eqAt {A:Around} {s:Shared} {x:V} {v:Value} (rx:RelV x v) (fx:flatV x = true):∀ {xs:List V} {us:List Value},Vals xs us→xs.all flatV = true→∀ u ∈ us,SeqAt.EqAt A s u v (eqU x u)
 | _,_,.nil,_=>fun u hu=>by cases hu
 | y :: xs,u :: us,.cons r t,f=>fun u' hu=>by
  rw [List.all_cons,Bool.and_eq_true] at f
  rcases List.mem_cons.mp hu with rfl | hu
  ·rw [eqU_of r f.1]; exact eqAt_V r rx f.1 fx
  ·exact mem_eqAt rx fx t f.2 u' hu
def inV (x:V) (xs:List V):Bool:=xs.any fun y=>eqV y x
def rIn (K:PySem.W.Frag) (neg:Bool):R2:=fun x y H Q=>∃ p xs,y = .ref p∧(SqL K H p xs∨SqT K H p xs)∧flatV x = true∧xs.all flatV = true∧Q (.bl (if neg then !inV x xs else inV x xs)) H
theorem op_in_seq:OpR X (compareOp .In) (rIn X.K false):=by
 intro pins s σ H x y v u Q I rx ry h
 obtain ⟨p,xs,rfl,hq,fx,fs,q⟩:=h
 cases ry
 rcases hq with hq | hq
 ·obtain ⟨its,r,pl,hz⟩:=I.list hq
  refine SeqAt.in_listAt (eqU x) pl.isList (fun w hw=>mem_eqAt rx fx r fs w (by simpa using hw)) ⟨.bl _,H,I,rfl,?_⟩
  rw [show its.toArray.any (eqU x) = its.any (eqU x) by simp,any_eqU r fs]
  exact q
 ·obtain ⟨its,r,pl,hz⟩:=I.tuple hq
  refine SeqAt.in_tupleAt (eqU x) pl (fun w hw=>mem_eqAt rx fx r fs w (by simpa using hw)) ⟨.bl _,H,I,rfl,?_⟩
  rw [show its.toArray.any (eqU x) = its.any (eqU x) by simp,any_eqU r fs]
  exact q
theorem op_notIn_seq:OpR X (compareOp .NotIn) (rIn X.K true):=by
 intro pins s σ H x y v u Q I rx ry h
 obtain ⟨p,xs,rfl,hq,fx,fs,q⟩:=h
 cases ry
 rcases hq with hq | hq
 ·obtain ⟨its,r,pl,hz⟩:=I.list hq
  refine SeqAt.notIn_listAt (eqU x) pl.isList (fun w hw=>mem_eqAt rx fx r fs w (by simpa using hw)) ⟨.bl _,H,I,rfl,?_⟩
  rw [show its.toArray.any (eqU x) = its.any (eqU x) by simp,any_eqU r fs]
  exact q
 ·obtain ⟨its,r,pl,hz⟩:=I.tuple hq
  refine SeqAt.notIn_tupleAt (eqU x) pl (fun w hw=>mem_eqAt rx fx r fs w (by simpa using hw)) ⟨.bl _,H,I,rfl,?_⟩
  rw [show its.toArray.any (eqU x) = its.any (eqU x) by simp,any_eqU r fs]
  exact q
theorem call_len_seq:CallR X (.builtin "len") (fun xs H Q=>∃ p ys,xs = [.ref p]∧(SqL X.K H p ys∨SqT X.K H p ys)∧Q (.int ys.length) H):=by
 intro pins s σ H xs us Q I r h
 obtain ⟨p,ys,rfl,hq,q⟩:=h
 obtain ⟨u,rfl,rx⟩:=vals1 r
 cases rx
 have hn:=line63
 rcases hq with hq | hq
 ·obtain ⟨its,r',pl,hz⟩:=I.list hq
  have hlen:=r'.length
  exact Calls.call_len_list pl.isList (by simp only [List.size_toArray] <;> omega) ⟨.int ys.length,H,I.tok _,⟨s.toks + 1,by rw [List.size_toArray,hlen]⟩,q⟩
 ·obtain ⟨its,r',pl,hz⟩:=I.tuple hq
  have hlen:=r'.length
  exact len_tuple pl (by simp only [List.size_toArray] <;> omega) ⟨.int ys.length,H,I.tok _,⟨s.toks + 1,by rw [List.size_toArray,hlen]⟩,q⟩
theorem call_len_str:CallR X (.builtin "len") (fun xs H Q=>∃ z,xs = [.str z]∧z.length ≤ sizeLine∧Q (.int z.length) H):=by
 intro pins s σ H xs us Q I r h
 obtain ⟨z,rfl,hz,q⟩:=h
 obtain ⟨u,rfl,t,rfl⟩:=vals1 r
 have hn:=line63
 exact len_str (by omega) ⟨.int z.length,H,I.tok _,⟨_,rfl⟩,q⟩
theorem call_list_of:CallR X (.type "list") (fun xs H Q=>∃ p ys,xs = [.ref p]∧(SqL X.K H p ys∨SqT X.K H p ys)∧∀ l,H l = none→Q (.ref l) (upd H l (.lst ys))):=by
 intro pins s σ H xs us Q I r h
 obtain ⟨p,ys,rfl,hq,q⟩:=h
 obtain ⟨u,rfl,rx⟩:=vals1 r
 cases rx
 have fin : ∀ (its : List Value), Vals ys its → ys.length ≤ sizeLine → ∀ (h' : Heap) (c' : Nat), (∀ b o', s.heap.get? b = some o' → h'.get? b = some o') →
   h'.get? s.heap.objs.size = some { cls:=.type "list",dict:=none,data:=.seq its.toArray c',slots:=#[] }→EP X pins σ Q (.ref s.heap.objs.size) { s with heap:=h' }:=fun its r' hz h' c' kp e =>
  ⟨.ref s.heap.objs.size,_,I.laid (t':=s.toks) kp (Nat.le_refl _) (show ObjOk X.prog X.w _ h' _ (.lst ys) from ⟨hz,its,c',r',e⟩),rfl,q _ (I.hok.fresh (Nat.le_refl _))⟩
 rcases hq with hq | hq
 ·obtain ⟨its,r',pl,hz⟩:=I.list hq
  have hlen:=r'.length
  obtain ⟨o,ho,hc,n,hd⟩:=pl.isList
  exact call_list_seq p (.inl rfl) ho hc hd (fun h' c' kp e=>fin its r' hz h' c' kp e) (by simp only [List.size_toArray] <;> omega)
 ·obtain ⟨its,r',pl,hz⟩:=I.tuple hq
  have hlen:=r'.length
  obtain ⟨o,ho,hc,n,hd⟩:=pl
  exact call_list_seq p (.inr rfl) ho hc hd (fun h' c' kp e=>fin its r' hz h' c' kp e) (by simp only [List.size_toArray] <;> omega)
theorem call_tuple_of:CallR X (.type "tuple") (fun xs H Q=>∃ p ys,xs = [.ref p]∧((SqL X.K H p ys∧∀ l,H l = none→Q (.ref l) (upd H l (.tup ys)))∨(SqT X.K H p ys∧Q (.ref p) H))):=by
 intro pins s σ H xs us Q I r h
 obtain ⟨p,ys,rfl,h⟩:=h
 obtain ⟨u,rfl,rx⟩:=vals1 r
 cases rx
 rcases h with ⟨hq,q⟩ | ⟨hq,q⟩
 ·obtain ⟨its,r',pl,hz⟩:=I.list hq
  have hlen:=r'.length
  refine call_tuple_list pl.isList (fun h' kp=>?_) (by simp only [List.size_toArray] <;> omega)
  have I1:Inv X pins σ H { s with heap:=h' }:=I.kept (t':=s.toks) kp
  have I2:Inv X pins σ (upd H h'.objs.size (.tup ys)) { s with heap:=h'.push { cls:=.type "tuple",data:=.seq its.toArray } } :=
   I1.laid (t':=s.toks) (fun b o e=>Heap.get?_push_of_some _ e) (Nat.le_refl _) (show ObjOk X.prog X.w _ _ _ (.tup ys) from ⟨hz,its,r',IsTup.new _ _⟩)
  exact ⟨.ref h'.objs.size,_,I2,rfl,q _ (I1.hok.fresh (Nat.le_refl _))⟩
 ·obtain ⟨its,r',pl,hz⟩:=I.tuple hq
  exact call_tuple_same pl ⟨.ref p,H,I,rfl,q⟩
def tyV (K:PySem.W.Frag) (T:String) (x:V) (H:Hp):Prop:=match x with
 | .str _=>T = "str"
 | .int _=>T = "int"
 | .ref p => (T = "list" ∧ ∃ xs, SqL K H p xs) ∨ (T = "tuple" ∧ ∃ o, K.lookup p = some o ∧ o.cls = .type "tuple" ∧ o.dict = none) ∨
   (T = "dict"∧((∃ kvs,H p = some (.dK kvs))∨∃ kvs,H p = some (.dT kvs)))∨(T = "set"∧∃ S n,H p = some (.set S n))
 | _=>False
theorem tyV_is {pins : List (Addr × Obj)} {σ : St} {H : Hp} {s : Shared} {T : String} {x : V} {v : Value} (I : Inv X pins σ H s) (r : RelV x v) (ty : tyV X.K T x H) :
  s.TypeIs v T∧∀ a,v = .ref a→∃ ob,s.heap.get? a = some ob∧ob.dict = none:=by
 cases x with
 | str z =>
  obtain ⟨t,rfl⟩:=r
  cases (show T = "str" from ty)
  exact ⟨typeIs_str s z t,fun _ e=>nomatch e⟩
 | int i =>
  obtain ⟨t,rfl⟩:=r
  cases (show T = "int" from ty)
  exact ⟨typeIs_int s i t,fun _ e=>nomatch e⟩
 | ref p =>
  cases r
  rcases ty with ⟨rfl,xs,hq⟩ | ⟨rfl,o,hk,hc,hd⟩ | ⟨rfl,hk⟩ | ⟨rfl,S,n,hk⟩
  ·obtain ⟨its,_,pl,_⟩:=I.list hq
   refine ⟨pl.isList.typeIs,fun a e=>?_⟩
   cases e
   obtain ⟨o,n,e,c,hd,_⟩:=pl
   exact ⟨o,e,hd⟩
  ·refine ⟨⟨o,I.kIn p o hk,hc⟩,fun a e=>?_⟩
   cases e
   exact ⟨o,I.kIn _ o hk,hd⟩
  ·have z : ∃ o, s.heap.get? p = some o ∧ o.ExactDict := by
    rcases hk with ⟨kvs,hk⟩ | ⟨kvs,hk⟩
    ·obtain ⟨_,_,_,_,o,_,_,e,ex,_⟩:=I.hok p _ hk
     exact ⟨o,e,ex⟩
    ·obtain ⟨_,_,_,_,o,_,_,e,ex,_⟩:=I.hok p _ hk
     exact ⟨o,e,ex⟩
   obtain ⟨o,e,ex⟩:=z
   refine ⟨⟨o,e,ex.1⟩,fun a e2=>?_⟩
   cases e2
   exact ⟨o,e,ex.2.1⟩
  ·obtain ⟨o,_,_,_,e,ex,_⟩:=I.hok p _ hk
   refine ⟨⟨o,e,ex.1⟩,fun a e2=>?_⟩
   cases e2
   exact ⟨o,e,ex.2.1⟩
 | _=>exact False.elim ty
def tBM0 (K:PySem.W.Frag) (T:String) (r:V→List V→Hp→VK→Prop) (to:TE):TE:=fun σ H Q=>to σ H fun x H1=>tyV K T x H1∧r x [] H1 Q
def tBM (K:PySem.W.Frag) (T:String) (r:V→List V→Hp→VK→Prop) (to:TE) (t:TA):TE:=fun σ H Q=>to σ H fun x H1=>tyV K T x H1∧t σ H1 fun xs H2=>r x xs H2 Q
variable {o e:Expr} {es:List Expr} {to:TE} {t:TA} {name:Str} {apos cpos:Pos} {T id:String} {r:V→List V→Hp→VK→Prop}
theorem pe_bm0 (pa : PlainAttrs T) (slot : Slot T name id) (hty : typeOf (.builtin id) = pure (.type "method_descriptor")) (hm : MtR X id r) (ho : PE X o to)
  (hbase:attributeBase o name X.env (eval o X.env) = eval o X.env:=by rfl) (hline:(apos.endLine == cpos.line) = true:=by rfl):PE X (.Call (.Attribute o name apos) [] [] cpos) (tBM0 X.K T r to):=by
 intro pins s σ H Q I h
 refine wpAny_Call_method0_late hbase hline (thn (ho pins s σ H _ I h) fun v s1 ⟨x,H1,I1,r1,ty,q1⟩=>?_)
 obtain ⟨h1,h2⟩:=tyV_is I1 r1 ty
 exact ⟨T,id,pa,slot,hty,h1,h2,Calls.callWith_builtin rfl (PySem.evalArgs_none (hm pins s1 σ H1 x [] v [] Q I1 r1 .nil q1))⟩
theorem pe_bm (pa : PlainAttrs T) (slot : Slot T name id) (hty : typeOf (.builtin id) = pure (.type "method_descriptor")) (hm : MtR X id r) (ho : PE X o to) (ha : PA X (e :: es) t)
  (hbase:attributeBase o name X.env (eval o X.env) = eval o X.env:=by rfl)
  (hfew:((backTo cpos (starEach (e :: es) X.env)).all (fun x=>!x.1) && (backToKw cpos (keywordEach [] X.env)).all (fun x=>x.1.isSome)
   && decide ((e :: es).length + ([]:List Keyword).length + (if ([]:List Keyword).isEmpty then 0 else 1) < 30)) = true:=by rfl)
  (hline:(apos.endLine == cpos.line) = true:=by rfl) (hs:starEach (e :: es) X.env = (false,eval e X.env) :: starEach es X.env:=by rfl) (hplain:(backTo cpos (starEach es X.env)).any (·.1) = false:=by rfl) :
  PE X (.Call (.Attribute o name apos) (e :: es) [] cpos) (tBM X.K T r to t):=by
 intro pins s σ H Q I h
 refine wpAny_Call_method_late hbase hfew hline rfl (thn (ho pins s σ H _ I h) fun v s1 ⟨x,H1,I1,r1,ty,q1⟩=>?_)
 obtain ⟨h1,h2⟩:=tyV_is I1 r1 ty
 refine ⟨T,id,pa,slot,hty,h1,h2,?_⟩
 have hA:=ha cpos pins s1 σ H1 _ I1 q1
 rw [hs] at hA ⊢
 refine Calls.callWith_builtin (by show (false || (backTo cpos (starEach es X.env)).any (·.1)) = false; rw [hplain] <;> rfl) (Calls.evalArgs_plain ?_)
 exact thn hA fun us s2 ⟨vs,H2,I2,r2,q2⟩=>hm pins s2 σ H2 x vs v us Q I2 r1 r2 q2
end
end L2
namespace L2
open PySem PySem.Spec PyProof.Rows
def MtM (X:Cx) (id:String) (r:V→List V→Hp→VK→Prop):Prop :=
 ∀ (pins:List (Addr × Obj)) (s:Shared) (σ:St) (H:Hp) (x:V) (xs:List V) (v:Value) (us:List Value) (Q:VK),Inv X pins σ H s→RelV x v→Vals xs us→r x xs H Q →
  wpAny (model X.prog X.w) X.A (call (.builtin id) (v :: us)) (EP X pins σ Q) X.xe s
theorem Vals.one:∀ {x:V} {us:List Value},Vals [x] us→∃ u,us = [u]∧RelV x u
 | _,_,.cons r .nil=>⟨_,rfl,r⟩
theorem Vals.zero:∀ {us:List Value},Vals [] us→us = []
 | _,.nil=>rfl
theorem Vals.dropLast {xs:List V} {us:List Value} (h:Vals xs us):Vals xs.dropLast us.dropLast:=by
 induction h with
 | nil=>exact .nil
 | cons r t ih =>
  cases t with
  | nil=>exact .nil
  | cons q t'=>exact .cons r ih
theorem Vals.eraseIdx:∀ {xs:List V} {us:List Value} (i:Nat),Vals xs us→Vals (xs.eraseIdx i) (us.eraseIdx i)
 | _,_,_,.nil=>.nil
 | _,_,0,.cons _ t=>t
 | _,_,i + 1,.cons r t=>.cons r (Vals.eraseIdx i t)
theorem Vals.rep {xs:List V} {us:List Value} (h:Vals xs us):∀ k:Nat,Vals (List.replicate k xs).flatten (List.replicate k us).flatten
 | 0=>.nil
 | k + 1=>by
  rw [List.replicate_succ,List.replicate_succ,List.flatten_cons,List.flatten_cons]
  exact Vals.append h (Vals.rep h k)
theorem erase_last {α:Type} (l:List α):l.eraseIdx (l.length - 1) = l.dropLast:=by
 induction l with
 | nil=>rfl
 | cons a r ih =>
  cases r with
  | nil=>rfl
  | cons b r =>
   have e:(a :: b :: r).length - 1 = ((b :: r).length - 1) + 1:=by
    have h1:(a :: b :: r).length = r.length + 2:=rfl
    have h2:(b :: r).length = r.length + 1:=rfl
    omega
   rw [e,List.eraseIdx_cons_succ,ih]
   all_goals rfl
theorem foldl_rep (its : List Value) : ∀ (k : Nat) (acc : List Value),
  List.foldl (fun x1 x2=>x1 ++ x2) acc.toArray (List.replicate k its.toArray) = (acc ++ (List.replicate k its).flatten).toArray
 | 0,acc=>by simp
 | k + 1,acc=>by
  have e:acc.toArray ++ its.toArray = (acc ++ its).toArray:=by simp
  have e2:(acc ++ its) ++ (List.replicate k its).flatten = acc ++ (List.replicate (k + 1) its).flatten:=by
   rw [List.replicate_succ,List.flatten_cons,List.append_assoc]
  rw [← e2,← foldl_rep its k (acc ++ its),← e,List.replicate_succ,List.foldl_cons]
section
variable {X:Cx} {pins:List (Addr × Obj)} {σ:St} {H:Hp} {s:Shared} {l b:Addr} {xs ys zs:List V}
theorem Inv.lset {its its' : List Value} {n : Nat} {f : Array Value → Array Value} {t' : Nat} (I : Inv X pins σ H s) (hH : H l = some (.lst xs))
  (e:s.heap.get? l = some { cls:=.type "list",data:=.seq its.toArray n }) (hf:f its.toArray = its'.toArray) (hv:Vals ys its') (hz:ys.length ≤ sizeLine) :
  Inv X pins σ (upd H l (.lst ys)) { s with heap:=s.heap.update l (Obj.mapSeq f),toks:=t' }:=by
 have q:=PySem.IsL.update e f
 rw [hf] at q
 refine I.write (x:=l) (e:=l) (by rw [hH]; exact trivial) (.inl rfl) (fun b' u hb hu=>(Heap.get?_update_other s.heap (Obj.mapSeq f) (Ne.symm hb)).trans hu) ⟨_,q⟩ ?_
 exact ⟨hz,its',_,hv,q⟩
theorem Inv.lnew {its : List Value} {t' : Nat} (I : Inv X pins σ H s) (hv : Vals ys its) (hz : ys.length ≤ sizeLine) :
  Inv X pins σ (upd H s.heap.objs.size (.lst ys)) { s with heap:=s.heap.push { cls:=.type "list",data:=.seq its.toArray },toks:=t' } :=
 I.laid (fun _ _ q=>Heap.get?_push_of_some _ q) (Nat.le_refl _) ⟨hz,its,0,hv,Heap.get?_push_size _ rfl⟩
theorem Inv.fresh (I:Inv X pins σ H s):H s.heap.objs.size = none:=I.hok.fresh (Nat.le_refl _)
theorem Inv.lstM (I:Inv X pins σ H s) (hH:H l = some (.lst xs)):xs.length ≤ sizeLine∧∃ (its:List Value) (n:Nat),Vals xs its∧xs.length = its.length∧s.heap.get? l = some { cls:=.type "list",data:=.seq its.toArray n }:=by
 obtain ⟨z,its,n,r,e⟩:=I.hok l _ hH
 exact ⟨z,its,n,r,r.length,e⟩
theorem notLongL {n:Nat} (h:n ≤ sizeLine):Builtin.List.listTooLong n = false:=by
 unfold Builtin.List.listTooLong
 exact decide_eq_false (by omega)
end
section
variable {X:Cx}
def rAppend:V→List V→Hp→VK→Prop:=fun x vs H Q=>∃ l xs y,x = .ref l∧vs = [y]∧H l = some (.lst xs)∧xs.length < sizeLine∧Q .non (upd H l (.lst (xs ++ [y])))
theorem mt_append:MtM X "list.append" rAppend:=by
 intro pins s σ H x vs v us Q I rx rv h
 obtain ⟨l,xs,y,rfl,rfl,hH,hz,q⟩:=h
 cases rx
 obtain ⟨u,rfl,ru⟩:=rv.one
 obtain ⟨z,its,n,r,hl,e⟩:=I.lstM hH
 refine call_meets F.slot_list_append ⟨_,e,rfl⟩ F.entry_list_append (F.args_list_append_2 _ _) (PySem.list_append l its.toArray n u (by rw [List.size_toArray]; omega)) ⟨e,?_⟩
 refine ⟨.non,_,I.lset (its':=its ++ [u]) hH e (by simp) (r.append (.cons ru .nil)) ?_,rfl,q⟩
 rw [List.length_append,List.length_singleton]
 omega
def rExtend:V→List V→Hp→VK→Prop:=fun x vs H Q=>∃ l b xs zs,x = .ref l∧vs = [.ref b]∧H l = some (.lst xs)∧H b = some (.lst zs)∧xs.length + zs.length ≤ sizeLine∧Q .non (upd H l (.lst (xs ++ zs)))
theorem mt_extend:MtM X "list.extend" rExtend:=by
 intro pins s σ H x vs v us Q I rx rv h
 obtain ⟨l,b,xs,zs,rfl,rfl,hH,hB,hz,q⟩:=h
 cases rx
 obtain ⟨u,rfl,ru⟩:=rv.one
 cases ru
 obtain ⟨z,its,n,r,hl,e⟩:=I.lstM hH
 obtain ⟨z2,its2,n2,r2,hl2,e2⟩:=I.lstM hB
 have hsz:its.toArray.size + its2.toArray.size ≤ sizeLine:=by rw [List.size_toArray,List.size_toArray]; omega
 have hlong:¬ (!its.toArray.isEmpty && Builtin.List.listTooLong (its.toArray.size + its2.toArray.size)) = true:=by
  rw [notLongL hsz,Bool.and_false]
  exact Bool.false_ne_true
 refine call_meets F.slot_list_extend ⟨_,e,rfl⟩ F.entry_list_extend (F.args_list_extend_2 _ _)
  (AutoSeq1.list_extend_list_list_0 l its.toArray n b its2.toArray n2 hlong (by rw [List.size_toArray]; omega) (by omega)) ⟨e,e2,?_⟩
 refine ⟨.non,_,I.lset (its':=its ++ its2) hH e (by simp) (r.append r2) ?_,rfl,q⟩
 rw [List.length_append]
 omega
def rPop:V→List V→Hp→VK→Prop:=fun x vs H Q=>∃ l xs y,x = .ref l∧vs = []∧H l = some (.lst xs)∧xs[xs.length - 1]? = some y∧Q y (upd H l (.lst xs.dropLast))
theorem mt_pop:MtM X "list.pop" rPop:=by
 intro pins s σ H x vs v us Q I rx rv h
 obtain ⟨l,xs,y,rfl,rfl,hH,hy,q⟩:=h
 cases rx
 have hus:=rv.zero
 subst hus
 obtain ⟨z,its,n,r,hl,e⟩:=I.lstM hH
 obtain ⟨u,hu,ru⟩:=r.get hy
 have hy':its.toArray[its.toArray.size - 1]? = some u:=by
  show its.toArray[its.length - 1]? = some u
  rw [← Array.getElem?_toList,← hl]
  exact hu
 refine call_meets F.slot_list_pop ⟨_,e,rfl⟩ F.entry_list_pop (F.args_list_pop_1 _) (MeetsSeq.list_pop_last l its.toArray n u hy' (by rw [List.size_toArray]; omega)) ⟨e,?_⟩
 refine ⟨y,_,I.lset (its':=its.dropLast) hH e ?_ r.dropLast ?_,ru,q⟩
 ·show its.toArray.eraseIdxIfInBounds (its.toArray.size - 1) = its.dropLast.toArray
  rw [List.size_toArray,List.eraseIdxIfInBounds_toArray,erase_last]
 ·rw [List.length_dropLast]
  omega
def rClear:V→List V→Hp→VK→Prop:=fun x vs H Q=>∃ l xs,x = .ref l∧vs = []∧H l = some (.lst xs)∧Q .non (upd H l (.lst []))
theorem mt_clear:MtM X "list.clear" rClear:=by
 intro pins s σ H x vs v us Q I rx rv h
 obtain ⟨l,xs,rfl,rfl,hH,q⟩:=h
 cases rx
 have hus:=rv.zero
 subst hus
 obtain ⟨z,its,n,r,hl,e⟩:=I.lstM hH
 refine call_meets F.slot_list_clear ⟨_,e,rfl⟩ F.entry_list_clear (F.args_list_clear_1 _) (AutoSeq1.list_clear_list_0 l its.toArray n (by rw [List.size_toArray]; omega)) ⟨e,?_⟩
 exact ⟨.non,_,I.lset (its':=[]) (ys:=[]) hH e rfl .nil (Nat.zero_le _),rfl,q⟩
def rCat:R2:=fun x y H Q=>∃ l b xs zs,x = .ref l∧y = .ref b∧H l = some (.lst xs)∧H b = some (.lst zs)∧xs.length + zs.length ≤ sizeLine∧∀ p,H p = none→Q (.ref p) (upd H p (.lst (xs ++ zs)))
theorem op_cat:OpR X (binaryOp .Add) rCat:=by
 intro pins s σ H x y v u Q I rx ry h
 obtain ⟨l,b,xs,zs,rfl,rfl,hH,hB,hz,q⟩:=h
 cases rx
 cases ry
 obtain ⟨z,its,n,r,hl,e⟩:=I.lstM hH
 obtain ⟨z2,its2,n2,r2,hl2,e2⟩:=I.lstM hB
 refine PySem.P.add_list e e2 ?_ (by rw [List.size_toArray,List.size_toArray]; omega)
 have ea:its.toArray ++ its2.toArray = (its ++ its2).toArray:=by simp
 rw [ea]
 exact ⟨.ref _,_,I.lnew (t':=s.toks) (r.append r2) (by rw [List.length_append]; omega),rfl,q _ I.fresh⟩
def rRep:R2:=fun x y H Q=>∃ l k xs,x = .ref l∧y = .int k∧H l = some (.lst xs)∧-(2 ^ 63) ≤ k∧k < 2 ^ 63∧xs.length * k.toNat ≤ sizeLine ∧
 ∀ p,H p = none→Q (.ref p) (upd H p (.lst (List.replicate k.toNat xs).flatten))
theorem len_rep {α:Type} (xs:List α) (k:Nat):(List.replicate k xs).flatten.length = k * xs.length:=by
 induction k with
 | zero=>simp
 | succ k ih=>rw [List.replicate_succ,List.flatten_cons,List.length_append,ih,Nat.succ_mul,Nat.add_comm]
theorem op_rep:OpR X (binaryOp .Mult) rRep:=by
 intro pins s σ H x y v u Q I rx ry h
 obtain ⟨l,k,xs,rfl,rfl,hH,h1,h2,hz,q⟩:=h
 cases rx
 obtain ⟨t,rfl⟩:=ry
 obtain ⟨z,its,n,r,hl,e⟩:=I.lstM hH
 have hlen:its.toArray.size * k.toNat ≤ sizeLine:=by rw [List.size_toArray,← hl]; exact hz
 have hcap:¬ its.toArray.size * k.toNat > (2 ^ 63 - 1) / 8:=by
  have:(sizeLine:Nat) ≤ (2 ^ 63 - 1) / 8:=by decide
  omega
 have hfit:¬ (!Builtin.List.listFitsIndex k) = true:=by
  rw [fitsIndex_both h1 h2]
  exact Bool.false_ne_true
 have hlong:¬ Builtin.List.listTooLong (its.toArray.size * k.toNat) = true:=by
  rw [notLongL hlen]
  exact Bool.false_ne_true
 have hnew:List.foldl (fun x1 x2=>x1 ++ x2) #[] (List.replicate (if its.toArray.isEmpty = true then 0 else k.toNat) its.toArray) = (List.replicate k.toNat its).flatten.toArray:=by
  have f0:∀ m:Nat,List.foldl (fun x1 x2=>x1 ++ x2) #[] (List.replicate m its.toArray) = (List.replicate m its).flatten.toArray:=fun m=>by
   have:=foldl_rep its m []
   rw [List.nil_append] at this
   exact this
  rw [f0]
  cases its with
  | nil=>simp
  | cons a r'=>rw [if_neg (by simp)]
 refine wpAny_binaryOp_repeat_ref (T:="list") (U:="int") (by decide) ⟨_,e,rfl⟩ (fun s'=>typeIs_int s' k t) noFill_list_mul F.fills_int_mul F.slot_int_rmul repeat_list F.slot_int_index.lookup
  (call_meets F.slot_int_rmul (typeIs_int s k t) F.entry_int_rmul (F.args_int_rmul_2 _ _) (int___rmul___int_list k t l its.toArray n)
   ⟨e,rfl,⟨_,e,rfl⟩,call_meets F.slot_list_mul ⟨_,e,rfl⟩ F.entry_list_mul (F.args_list_mul_2 _ _) (AutoListH.list___mul___list_int_3 l its.toArray n k t hfit hcap hlong) ⟨e,?_⟩⟩)
 rw [hnew]
 exact ⟨.ref _,_,I.lnew (t':=s.toks) (r.rep k.toNat) (by rw [len_rep,Nat.mul_comm]; exact hz),rfl,q _ I.fresh⟩
end
section
variable {prog:Program} {w:World} {A:Around} {E:Value→Shared→Prop} {s:Shared}
end
section
variable {X:Cx}
end
end L2
namespace L2
open PySem PySem.Spec PyProof.Rows
section
variable {κ:Type} [DecidableEq κ]
def valV (kvs:List (κ × V)) (k:κ):Option V:=(kvs.find? fun kv=>decide (kv.1 = k)).map (·.2)
def putK (kvs:List (κ × V)) (k:κ) (v:V):List (κ × V) :=
 if (kvs.any fun kv=>decide (kv.1 = k)) = true then kvs.map (fun kv=>if kv.1 = k then (kv.1,v) else kv) else kvs ++ [(k,v)]
theorem valV_pos {p:κ × V} {r:List (κ × V)} {k:κ} (e:p.1 = k):valV (p :: r) k = some p.2:=by simp [valV,List.find?_cons,e]
theorem valV_neg {p:κ × V} {r:List (κ × V)} {k:κ} (e:¬ p.1 = k):valV (p :: r) k = valV r k:=by simp [valV,List.find?_cons,e]
theorem valV_any (k:κ):∀ kvs:List (κ × V),(kvs.any fun kv=>decide (kv.1 = k)) = (valV kvs k).isSome
 | []=>rfl
 | p :: r=>by
  rw [List.any_cons]
  by_cases e:p.1 = k
  ·simp only [valV_pos e,decide_eq_true e,Bool.true_or,Option.isSome_some]
  ·rw [valV_neg e,decide_eq_false e,Bool.false_or]; exact valV_any k r
theorem length_putK (kvs:List (κ × V)) (k:κ) (v:V):(putK kvs k v).length ≤ kvs.length + 1:=by
 unfold putK
 split
 ·rw [List.length_map]; omega
 ·rw [List.length_append,List.length_cons,List.length_nil]; omega
theorem RelO.isSome_eq {o:Option V} {u:Option Value} (r:RelO o u):o.isSome = u.isSome:=by
 cases o with
 | none=>cases u with
  | none=>rfl
  | some _=>exact (show False from r).elim
 | some _=>cases u with
  | none=>exact (show False from r).elim
  | some _=>rfl
theorem RelO.getD {o:Option V} {u:Option Value} {d:V} {d':Value} (r:RelO o u) (rd:RelV d d'):RelV (o.getD d) (u.getD d'):=by
 cases o with
 | none=>cases u with
  | none=>exact rd
  | some _=>exact (show False from r).elim
 | some _=>cases u with
  | none=>exact (show False from r).elim
  | some _=>exact r
theorem KV.val {kvs:List (κ × V)} {vs:List (κ × Value)} (r:KV kvs vs) (k:κ):RelO (valV kvs k) (valueAt vs k):=by
 unfold KV at r
 induction r with
 | nil=>exact True.intro
 | @cons p q ps qs h t ih =>
  obtain ⟨h1,h2⟩:=h
  by_cases e:p.1 = k
  ·have e':q.1 = k:=h1.symm.trans e
   have b:valueAt (q :: qs) k = some q.2:=by simp [valueAt,List.find?_cons,e']
   rw [valV_pos e,b]; exact h2
  ·have e':¬ q.1 = k:=fun z=>e (h1.trans z)
   have b:valueAt (q :: qs) k = valueAt qs k:=by simp [valueAt,List.find?_cons,e']
   rw [valV_neg e,b]; exact ih
theorem KV.any {kvs:List (κ × V)} {vs:List (κ × Value)} (r:KV kvs vs) (k:κ):(kvs.any fun kv=>decide (kv.1 = k)) = vs.any fun kv=>decide (kv.1 = k):=by
 unfold KV at r
 induction r with
 | nil=>rfl
 | cons h t ih=>rw [List.any_cons,List.any_cons,ih,h.1]
theorem KV.repl {kvs : List (κ × V)} {vs : List (κ × Value)} (r : KV kvs vs) (k : κ) {y : V} {u : Value} (ry : RelV y u) :
  KV (kvs.map fun kv=>if kv.1 = k then (kv.1,y) else kv) (vs.map fun kv=>if kv.1 = k then (kv.1,u) else kv):=by
 unfold KV at r ⊢
 induction r with
 | nil=>exact .nil
 | @cons p q ps qs h t ih =>
  rw [List.map_cons,List.map_cons]
  refine .cons ?_ ih
  obtain ⟨h1,h2⟩:=h
  by_cases e:p.1 = k
  ·rw [if_pos e,if_pos (h1.symm.trans e)]; exact ⟨h1,ry⟩
  ·rw [if_neg e,if_neg (fun z=>e (h1.trans z))]; exact ⟨h1,h2⟩
theorem KV.put {kvs:List (κ × V)} {vs:List (κ × Value)} (r:KV kvs vs) (k:κ) {y:V} {u:Value} (ry:RelV y u):KV (putK kvs k y) (stored vs k u):=by
 unfold putK stored
 rw [r.any k]
 by_cases e:(vs.any fun kv=>decide (kv.1 = k)) = true
 ·rw [if_pos e,if_pos e]; exact r.repl k ry
 ·rw [if_neg e,if_neg e]; exact Paired.snoc r ⟨rfl,ry⟩
theorem KV.length {kvs:List (κ × V)} {vs:List (κ × Value)} (r:KV kvs vs):kvs.length = vs.length:=Paired.length r
end
theorem kV_is {P:Program} {w:World} {k:Key} {u:Value} (r:RelV (kV k) u):(mixKind P w).is k u = true:=by
 cases k with
 | inl i=>obtain ⟨t,e⟩:=(show ∃ t,u = Value.int i t from r); subst e; exact mixKind_int P w i t
 | inr x=>obtain ⟨t,e⟩:=(show ∃ t,u = Value.str x t from r); subst e; exact mixKind_str P w x t
theorem items_are {P:Program} {w:World}:∀ {ks:List Key} {us:List Value},Vals (ks.map kV) us→ItemsAre (mixKind P w) ks us
 | [],_,r=>by rw [List.map_nil] at r; cases r; exact .nil
 | k :: ks,_,r=>by
  rw [List.map_cons] at r
  cases r with
  | cons h t=>exact .cons (kV_is h) (items_are t)
abbrev KT (H:Hp):List (List Key × V)→List (List Key × Addr × Value)→Prop:=Paired fun p q=>p.1 = q.1∧H q.2.1 = some (.tup (p.1.map kV))∧RelV p.2 q.2.2
theorem KT.val {H:Hp} {kvs:List (List Key × V)} {xs:List (List Key × Addr × Value)} (r:KT H kvs xs) (k:List Key):RelO (valV kvs k) ((atKey xs k).map (·.2)):=by
 induction r with
 | nil=>exact True.intro
 | @cons p q ps qs h t ih =>
  obtain ⟨h1,_,h2⟩:=h
  by_cases e:p.1 = k
  ·have e':q.1 = k:=h1.symm.trans e
   have b:atKey (q :: qs) k = some q.2:=by simp [atKey,List.find?_cons,e']
   rw [valV_pos e,b]; exact h2
  ·have e':¬ q.1 = k:=fun z=>e (h1.trans z)
   have b:atKey (q :: qs) k = atKey qs k:=by simp [atKey,List.find?_cons,e']
   rw [valV_neg e,b]; exact ih
theorem KT.repl {H : Hp} {kvs : List (List Key × V)} {xs : List (List Key × Addr × Value)} (r : KT H kvs xs) (k : List Key) {y : V} {u : Value} (ry : RelV y u) :
  KT H (kvs.map fun kv=>if kv.1 = k then (kv.1,y) else kv) (xs.map (putAt k u)):=by
 induction r with
 | nil=>exact .nil
 | @cons p q ps qs h t ih =>
  rw [List.map_cons,List.map_cons]
  refine .cons ?_ ih
  obtain ⟨h1,h2,h3⟩:=h
  unfold putAt
  by_cases e:p.1 = k
  ·rw [if_pos e,if_pos (h1.symm.trans e)]; exact ⟨h1,h2,ry⟩
  ·rw [if_neg e,if_neg (fun z=>e (h1.trans z))]; exact ⟨h1,h2,h3⟩
theorem KT.put {H : Hp} {kvs : List (List Key × V)} {xs : List (List Key × Addr × Value)} (r : KT H kvs xs) (k : List Key) {b : Addr} {y : V} {u : Value} (hb : H b = some (.tup (k.map kV))) (ry : RelV y u) :
  KT H (putK kvs k y) (storedH xs k b u):=by
 have e:(kvs.any fun kv=>decide (kv.1 = k)) = (atKey xs k).isSome:=by
  rw [valV_any,(r.val k).isSome_eq,Option.isSome_map]
 unfold putK storedH
 rw [e]
 by_cases q:(atKey xs k).isSome = true
 ·rw [if_pos q,if_pos q]; exact r.repl k ry
 ·rw [if_neg q,if_neg q]; exact Paired.snoc r ⟨rfl,hb,ry⟩
theorem KT.keeps {H H':Hp} {kvs:List (List Key × V)} {xs:List (List Key × Addr × Value)} (r:KT H kvs xs) (ht:∀ b ys,H b = some (.tup ys)→H' b = some (.tup ys)):KT H' kvs xs :=
 Paired.mapP r fun _ _ z=>⟨z.1,ht _ _ z.2.1,z.2.2⟩
section
variable {P:Program} {w:World} {H:Hp} {h:Heap} {a:Addr}
theorem rd_of {u:HO} (ok:HOk P w H h) (e:Rd H a u):ObjOk P w H h a u:=e.ok ok
theorem dk_rd {kvs:List (Key × V)} (ok:HOk P w H h) (e:Rd H a (.dK kvs)):kvs.length ≤ sizeLine∧(a == sysModules) = false∧∃ vs,KV kvs vs∧h.DictOf (mixKind P w) a vs :=
 show ObjOk P w H h a (.dK kvs) from rd_of ok e
theorem dk_of {kvs:List (Key × V)} (ok:HOk P w H h) (e:H a = some (.dK kvs)):kvs.length ≤ sizeLine∧(a == sysModules) = false∧∃ vs,KV kvs vs∧h.DictOf (mixKind P w) a vs:=dk_rd ok (.inl e)
theorem key_of {ks:List Key} (ok:HOk P w H h) (e:H a = some (.tup (ks.map kV))):(tupleKind (mixKind P w)).is h ks a:=by
 obtain ⟨_,its,r,o,h1,h2,n,h3⟩:=(show ObjOk P w H h a (.tup (ks.map kV)) from ok a _ e)
 exact ⟨o,its.toArray,n,h1,h2,h3,by simpa using items_are r⟩
theorem dt_rd {kvs : List (List Key × V)} (ok : HOk P w H h) (e : Rd H a (.dT kvs)) : kvs.length ≤ sizeLine ∧ (a == sysModules) = false ∧
  ∃ xs,KT H kvs xs∧h.DictOfH (tupleKind (mixKind P w)) a xs:=by
 obtain ⟨z,y,xs,r,o,es,ep,h1,h2,h3,h4,h5⟩:=(show ObjOk P w H h a (.dT kvs) from rd_of ok e)
 refine ⟨z,y,xs,r,o,es,ep,h1,h2,h3,h4,fun x hx=>?_,h5⟩
 have all:∀ {l:List (List Key × V)} {m:List (List Key × Addr × Value)},KT H l m→∀ x ∈ m,(tupleKind (mixKind P w)).is h x.1 x.2.1:=by
  intro l m q
  induction q with
  | nil=>intro x hx; exact nomatch hx
  | @cons p q ps qs hq t ih =>
   intro x hx
   rcases List.mem_cons.mp hx with e | hx
   ·subst e
    exact key_of ok (by rw [← hq.1]; exact hq.2.1)
   ·exact ih x hx
 exact all r x hx
theorem dt_of {kvs : List (List Key × V)} (ok : HOk P w H h) (e : H a = some (.dT kvs)) : kvs.length ≤ sizeLine ∧ (a == sysModules) = false ∧
  ∃ xs,KT H kvs xs∧h.DictOfH (tupleKind (mixKind P w)) a xs:=dt_rd ok (.inl e)
end
def DGet (H:Hp) (a:Addr) (y:V) (r:Option V):Prop :=
 (∃ kvs k,Rd H a (.dK kvs)∧y = kV k∧r = valV kvs k)∨∃ kvs k b,Rd H a (.dT kvs)∧y = .ref b∧H b = some (.tup (k.map kV))∧r = valV kvs k
def DPut (H:Hp) (a:Addr) (y v:V) (H':Hp):Prop :=
 (∃ kvs k,H a = some (.dK kvs)∧y = kV k∧kvs.length < sizeLine∧H' = upd H a (.dK (putK kvs k v))) ∨
 ∃ kvs k b,H a = some (.dT kvs)∧y = .ref b∧H b = some (.tup (k.map kV))∧kvs.length < sizeLine∧H' = upd H a (.dT (putK kvs k v))
theorem DGet.k {H:Hp} {a:Addr} {kvs:List (Key × V)} {k:Key} (e:H a = some (.dK kvs)):DGet H a (kV k) (valV kvs k):=.inl ⟨kvs,k,.inl e,rfl,rfl⟩
theorem DPut.k {H:Hp} {a:Addr} {kvs:List (Key × V)} {k:Key} {v:V} (e:H a = some (.dK kvs)) (hl:kvs.length < sizeLine):DPut H a (kV k) v (upd H a (.dK (putK kvs k v))):=.inl ⟨kvs,k,e,rfl,hl,rfl⟩
section
variable {X:Cx} {pins:List (Addr × Obj)} {σ:St} {H:Hp} {s:Shared} {a:Addr} {y v:V} {u r:Value} {o:Option V} {A:Around} {E:Value→Shared→Prop}
theorem Inv.big (I:Inv X pins σ H s):sysModules < s.heap.objs.size:=by
 have h:mainGlobals < s.heap.objs.size:=(I.mod.glob.keeps I.bk).lt
 exact Nat.lt_trans (by decide) h
theorem d_getItem {Q : Value → Shared → Prop} (hu : A.units + 1 < cLine) (I : Inv X pins σ H s) (g : DGet H a y (some v)) (ry : RelV y u) (h : ∀ w' s', Inv X pins σ H s' → RelV v w' → Q w' s') :
  wpAny (model X.prog X.w) A (getItem (.ref a) u) Q E s:=by
 rcases g with ⟨kvs,k,e,ey,l⟩ | ⟨kvs,k,b,e,ey,eb,l⟩
 ·subst ey
  obtain ⟨z,hd,vs,rel,dd⟩:=dk_rd I.hok e
  obtain ⟨w',hw,rw'⟩:=RelO.some_of (v:=v) (o:=valueAt vs k) (by rw [l]; exact rel.val k)
  exact wpAny_getItem_of (kV_is ry) dd.mapOf hw (h w' _ (I.tok _) rw')
 ·subst ey
  cases (show u = Value.ref b from ry)
  obtain ⟨z,hd,xs,rel,dd⟩:=dt_rd I.hok e
  obtain ⟨w',hw,rw'⟩:=RelO.some_of (v:=v) (o:=(atKey xs k).map (·.2)) (by rw [l]; exact rel.val k)
  obtain ⟨p,hp,hp2⟩:=Option.map_eq_some_iff.mp hw
  refine wpAny_getItem_heap (tupleKind_room_in1 hu) (key_of I.hok eb) dd hp ?_
  rw [hp2]
  exact h w' _ (I.tok _) rw'
theorem d_in {Q : Value → Shared → Prop} (hu : A.units + 1 < cLine) (I : Inv X pins σ H s) (g : DGet H a y o) (ry : RelV y u) (h : ∀ s', Inv X pins σ H s' → Q (.bool o.isSome) s') :
  wpAny (model X.prog X.w) A (compareOp .In u (.ref a)) Q E s:=by
 rcases g with ⟨kvs,k,e,ey,l⟩ | ⟨kvs,k,b,e,ey,eb,l⟩
 ·subst ey
  obtain ⟨z,hd,vs,rel,dd⟩:=dk_rd I.hok e
  refine wpAny_in_of (kV_is ry) hd dd.mapOf ?_
  rw [← (rel.val k).isSome_eq,← l]
  exact h _ (I.tok _)
 ·subst ey
  cases (show u = Value.ref b from ry)
  obtain ⟨z,hd,xs,rel,dd⟩:=dt_rd I.hok e
  refine wpAny_in_heap (tupleKind_room_in1 hu) (key_of I.hok eb) hd dd ?_
  have q:=(rel.val k).isSome_eq
  rw [Option.isSome_map] at q
  rw [← q,← l]
  exact h _ (I.tok _)
theorem d_notIn {Q : Value → Shared → Prop} (hu : A.units + 1 < cLine) (I : Inv X pins σ H s) (g : DGet H a y o) (ry : RelV y u) (h : ∀ s', Inv X pins σ H s' → Q (.bool (!o.isSome)) s') :
  wpAny (model X.prog X.w) A (compareOp .NotIn u (.ref a)) Q E s:=by
 rcases g with ⟨kvs,k,e,ey,l⟩ | ⟨kvs,k,b,e,ey,eb,l⟩
 ·subst ey
  obtain ⟨z,hd,vs,rel,dd⟩:=dk_rd I.hok e
  refine wpAny_notIn_of (kV_is ry) hd dd.mapOf ?_
  rw [← (rel.val k).isSome_eq,← l]
  exact h _ (I.tok _)
 ·subst ey
  cases (show u = Value.ref b from ry)
  obtain ⟨z,hd,xs,rel,dd⟩:=dt_rd I.hok e
  refine wpAny_notIn_heap (tupleKind_room_in1 hu) (key_of I.hok eb) hd dd ?_
  have q:=(rel.val k).isSome_eq
  rw [Option.isSome_map] at q
  rw [← q,← l]
  exact h _ (I.tok _)
theorem d_write {h' : Heap} {t' : Nat} {ob : HO} (I : Inv X pins σ H s) (mu : Mut (H a)) (hs : Heap.SameBut a s.heap h') (he : ∃ q, h'.get? a = some q) (new : ObjOk X.prog X.w (upd H a ob) h' a ob) :
  Inv X pins σ (upd H a ob) { s with heap:=h',toks:=t' } :=
 I.write (x:=a) (e:=a) mu (.inl rfl) (fun b q hb z=>(hs.2 b hb).trans z) he new
theorem dk_new {P : Program} {w : World} {H' : Hp} {h' : Heap} {kvs : List (Key × V)} {vs : List (Key × Value)} (z : kvs.length ≤ sizeLine) (hd : (a == sysModules) = false) (rel : KV kvs vs) (dd : h'.DictOf (mixKind P w) a vs) :
  ObjOk P w H' h' a (.dK kvs):=⟨z,hd,vs,rel,dd⟩
theorem d_setItem {H' : Hp} {Q : Unit → Shared → Prop} (hu : A.units + 1 < cLine) (I : Inv X pins σ H s) (g : DPut H a y v H') (ry : RelV y u) (rv : RelV v r) (h : ∀ s', Inv X pins σ H' s' → Q () s') :
  wpAny (model X.prog X.w) A (setItem (.ref a) u r) Q E s:=by
 rcases g with ⟨kvs,k,e,ey,l,eH⟩ | ⟨kvs,k,b,e,ey,eb,l,eH⟩
 ·subst ey eH
  obtain ⟨z,hd,vs,rel,dd⟩:=dk_of I.hok e
  have hz:vs.length ≤ sizeLine:=by rw [← rel.length]; exact z
  have hl:(putK kvs k v).length ≤ sizeLine:=by have:=length_putK kvs k v; omega
  refine wpAny_setItem_pairs (hsz:=hz) (kV_is ry) dd fun h' dd' hs=>h _ ?_
  have he:∃ q,h'.get? a = some q:=let ⟨q,_,_,hq,_⟩:=dd'; ⟨q,hq⟩
  exact d_write I (by rw [e]; exact True.intro) hs he (dk_new hl hd (rel.put k rv) dd')
 ·subst ey eH
  cases (show u = Value.ref b from ry)
  obtain ⟨z,hd,xs,rel,dd⟩:=dt_of I.hok e
  have hz:xs.length ≤ sizeLine:=by rw [← Paired.length rel]; exact z
  have hl:(putK kvs k v).length ≤ sizeLine:=by have:=length_putK kvs k v; omega
  refine wpAny_setItem_heap (hsz:=hz) (tupleKind_room_in1 hu) (key_of I.hok eb) dd fun h' dd' hs=>h _ ?_
  obtain ⟨q,es,ep,hq,h2,h3,h4,_,h5⟩:=dd'
  refine d_write I (by rw [e]; exact True.intro) hs ⟨q,hq⟩ ⟨hl,hd,_,(rel.put k eb rv).keeps fun c ys ec=>?_,q,es,ep,hq,h2,h3,h4,h5⟩
  rw [upd_ne (ne_of ec e (fun z=>nomatch z))]
  exact ec
end
section
variable {X:Cx} {pins:List (Addr × Obj)} {σ:St} {H:Hp} {s:Shared} {a:Addr} {kvs:List (Key × V)} {k:Key} {u:Value} {A:Around} {E:Value→Shared→Prop}
theorem d_len {Q:Value→Shared→Prop} (I:Inv X pins σ H s) (e:Rd H a (.dK kvs)) (h:∀ t s',Inv X pins σ H s'→Q (.int kvs.length t) s'):wpAny (model X.prog X.w) A (call (.builtin "len") [.ref a]) Q E s:=by
 obtain ⟨z,hd,vs,rel,dd⟩:=dk_rd I.hok e
 refine call_len_dict hd dd (by rw [← rel.length]; rw [sizeLine_eq] at z; omega) ?_
 rw [← rel.length]
 exact h _ _ (I.tok _)
end
section
variable {X:Cx} {o i e value:Expr} {pos pos' tpos:Pos} {td ty tv:TE}
end
theorem dk_empty {P:Program} {w:World} {H:Hp} (h:Heap) (hb:sysModules < h.objs.size):ObjOk P w H (h.push { cls:=.type "dict",data:=.dict #[] }) h.objs.size (.dK []) :=
 ⟨Nat.zero_le _,beq_eq_false_iff_ne.mpr (Ne.symm (Nat.ne_of_lt hb)),[],.nil,Heap.DictOf.new h⟩
def tDNewK:TE:=fun _ H Q=>∀ p,H p = none→Q (.ref p) (upd H p (.dK []))
section
variable {X:Cx} {pos:Pos}
theorem pe_dnewK:PE X (.Dict [] [] pos) tDNewK:=fun pins s σ H Q I h =>
 wpAny_Dict_empty ⟨.ref s.heap.objs.size,_,I.laid (a:=s.heap.objs.size) (o:=.dK []) (t':=s.toks) (fun _ _ q=>Heap.get?_push_of_some _ q) (Nat.le_refl _) (dk_empty s.heap I.big),rfl,h _ (I.hok.fresh (Nat.le_refl _))⟩
end
structure M1 (X:Cx) (o:Expr) (m:Str) (apos:Pos) (e:Expr) (cpos:Pos):Prop where
 base:attributeBase o m X.env (eval o X.env) = eval o X.env
 few:((backTo cpos (starEach [e] X.env)).all (fun x=>!x.1) && (backToKw cpos (keywordEach [] X.env)).all (fun x=>x.1.isSome)
  && decide (([e]:List Expr).length + ([]:List Keyword).length + (if ([]:List Keyword).isEmpty then 0 else 1) < 30)) = true
 line:(apos.endLine == cpos.line) = true
 trees:backTo cpos (starEach [e] X.env) = [(false,eval e X.env)]
structure M2 (X:Cx) (o:Expr) (m:Str) (apos:Pos) (e f:Expr) (cpos:Pos):Prop where
 base:attributeBase o m X.env (eval o X.env) = eval o X.env
 few:((backTo cpos (starEach [e,f] X.env)).all (fun x=>!x.1) && (backToKw cpos (keywordEach [] X.env)).all (fun x=>x.1.isSome)
  && decide (([e,f]:List Expr).length + ([]:List Keyword).length + (if ([]:List Keyword).isEmpty then 0 else 1) < 30)) = true
 line:(apos.endLine == cpos.line) = true
 trees:backTo cpos (starEach [e,f] X.env) = [(false,eval e X.env),(false,eval f X.env)]
def IsD (H:Hp) (a:Addr):Prop:=(∃ kvs,Rd H a (.dK kvs))∨∃ kvs,Rd H a (.dT kvs)
section
variable {X:Cx} {pins:List (Addr × Obj)} {σ:St} {H:Hp} {s:Shared} {a:Addr} {y d:V} {u r:Value} {o:Option V} {A:Around} {E:Value→Shared→Prop}
end
section
variable {X:Cx} {o e f:Expr} {apos cpos:Pos} {td ty tx:TE}
end
section
variable {X:Cx} {pins:List (Addr × Obj)} {σ:St} {H:Hp} {s:Shared} {a:Addr} {kvs:List (Key × V)} {A:Around} {E:Value→Shared→Prop}
end
section
variable {X:Cx} {pins:List (Addr × Obj)} {σ:St} {H:Hp} {s:Shared} {a:Addr} {y:V} {u:Value} {A:Around} {E:Value→Shared→Prop}
end
end L2
namespace Att
open PySem PySem.W PySem.Calls PyProof.Rows
theorem ints_of_wellAll {P:Params} {h:Heap}:∀ (ns:List Int) (vs:List Value),WellAll P h vs (ns.map WData.int)→IntsAre vs ns:=by
 intro ns
 induction ns with
 | nil =>
  intro vs w
  rw [List.map_nil] at w
  cases w
  exact .nil
 | cons n ns ih =>
  intro vs w
  rw [List.map_cons] at w
  cases w with
  | cons a b =>
   cases a
   exact .cons _ _ (ih _ b)
theorem script_of {l : OpenLaw} {n : Nat} (hn : l.most = some n) {P : Params} {h : Heap} {args : List WData} {vals : List Value}
  (hpre:l.row.toRowW.claim.pre args = true) (hwl:WellAll P h vals args) :
  ∃ a vs ns,vals = [Value.ref a]∧args = [WData.list (ns.map WData.int)]∧h.get? a = some { cls:=.type "list",data:=.seq vs.toArray }∧IntsAre vs ns∧ns.length ≤ n:=by
 have hsh:WShape.hasAll [] args [.list .int] = true:=(pre_splitW hpre).1
 have hc:l.pre.holds [] { args:=args } = true:=(pre_splitW hpre).2
 obtain ⟨d,r,rfl,h1,h2⟩:=hasAllW_cons hsh
 obtain rfl:=hasAllW_nil h2
 obtain ⟨xs,rfl,h3⟩:=hasW_list h1
 obtain ⟨ns,rfl⟩:=items_int h3
 have hlen:ns.length ≤ n:=by
  unfold OpenLaw.pre at hc
  have h4:(WTm.not (.lt (.lit (.int (n:Int))) (.len (.arg 0)))).holds [] { args:=[.list (ns.map .int)] } = true:=by
   have h4:=(holds_andW hc).1
   rw [hn] at h4
   exact h4
  have h5:=condW_of h4 (w_not (w_lt w_lit (w_len_list (w_arg rfl))))
  rw [List.length_map] at h5
  refine Nat.le_of_not_lt fun q=>?_
  have q':(n:Int) < ((ns.length:Nat):Int):=by omega
  first
   | (rw [decide_eq_true q'] at h5; exact absurd h5 (by decide))
   | (simp at h5; omega)
 cases hwl with
 | cons w1 w2 =>
  cases w2
  cases w1 with
  | list ho hall=>exact ⟨_,_,ns,rfl,rfl,ho,ints_of_wellAll ns _ hall,hlen⟩
theorem post_true (l:OpenLaw) (args:List WData):l.row.toRowW.claim.post args (.bool true) args = true :=
 postW_of (r:=l.row.toRowW) (X:=(true == true))
  (show WShape.has [] (.bool true) .bool = true by first | rfl | decide | simp [WShape.has,WShape.arms,WShape.armsAll])
  (show (WTm.eq .res (.lit (.bool true))).value [] { args:=args,res:=some (.bool true),after:=args } = some (.bool (true == true)) from w_eq_bool (w_res rfl) w_lit) rfl
theorem attach_call {l : OpenLaw} {n : Nat} {q : Program} {loose : List Str} {XP : (Str → Option Value) → Heap → Prop} {YP : World → Heap → Prop} {d : DefRec}
  (hn:l.most = some n) (hdf:d.params.defaults = [])
  (call:∀ (w:World) (s₀ s₁:Shared) (mg mb:Str→Option Value) (fa:Addr) (o:Obj) (pm cd doc:Value) (a:Addr) (vs:List Value) (ns:List Int),
   Ground q loose [] XP w s₀ mg mb s₁.heap→YP w s₁.heap →
   s₁.heap.get? fa = some o→o.data = .func (docDef d.name d.params d.body d.scope pm cd doc)→s₁.heap.CodeRec cd d.name→mg d.name = some (.ref fa) →
   s₁.heap.get? a = some { cls:=.type "list",data:=.seq vs.toArray }→IntsAre vs ns→ns.length ≤ n→s₁.gens = #[] →
   codeAny (model l.prog w) callerA (.call (.ref fa) ⟨[.ref a],[]⟩) (fun r s'=>r = .ok (.ret (.bool true))∧OldK s₁.heap s'.heap∧s'.os = s₁.os∧AllBare s'.gens) s₁) :
  WalkO q loose XP YP l.row.toRowW d [] (fun f vs=>PySem.call f vs):=by
 intro w s₀ s₁ mg mb G Y fa o pm cd doc dV kV ho hd hcd hD hmg hg args vals as hpre hlay hrd hwl hlo
 obtain rfl:dV = .none:=Dflts.none hD hdf
 obtain rfl:kV = .none:=Dflts.noKw hD
 obtain ⟨a,vs,ns,rfl,rfl,hobj,hints,hlen⟩:=script_of hn hpre hwl
 refine enter_call (codeAny_mono (call w s₀ s₁ mg mb fa o pm cd doc a vs ns G Y ho (fd_plain hd) hcd hmg hobj hints hlen hg) fun r s' hq=>?_)
 obtain ⟨rfl,h2,h3,h4⟩:=hq
 exact ⟨.inl ⟨.bool true,.bool true,[],rfl,fun _=>rfl,.bool true,post_true l _,fun _=>⟨List.Pairwise.nil,fun _ hm=>(nomatch hm)⟩⟩,h2,h3,h4⟩
section
variable {prog:Program} {w:World} {A:Around} {E:Value→Shared→Prop} {s:Shared} {K:Frag}
end
end Att
namespace L2
open PySem PySem.Spec PyProof.Rows
theorem vals_ints:∀ {vs:List Value} {ns:List Int},IntsAre vs ns→Vals (ns.map V.int) vs
 | _,_,.nil=>.nil
 | _,_,.cons n t h=>.cons ⟨t,rfl⟩ (vals_ints h)
def Only (H:Hp):Prop:=∀ b,H b = none∨∃ o xs,H b = some (.frz o (.lst xs))
theorem law_call {P : Program} {w : World} {K : PySem.W.Frag} {mg mb : Str → Option Value} {CX : CXT} {k : Nat} {fa a : Addr} {fd : FuncData} {x : Str} {sp : Sp} {s₁ : Shared} {vs : List Value} {ns : List Int}
  (KX:K.In s₁.heap) (hns:s₁.heap.Ns mainGlobals mg) (hb:s₁.heap.Ns builtinsNs mb) (hbb:∀ x:Str,x ≠ "__name__"→mb x = bootBuiltins x) (hlim:s₁.heap.NoLimit) (hg:s₁.gens = #[])
  (ha:s₁.heap.get? a = some { cls:=.type "list",data:=.seq vs.toArray }) (hi:IntsAre vs ns) (hl:ns.length ≤ sizeLine) (hr:Room k callerA)
  (F:∀ base:Heap,K.In base→base.Ns mainGlobals mg→FnOk P w K mg base CX k fa fd [x] sp) (hbind:∀ (s:Shared) (u:Value),BindsTo s fd ⟨[u],[]⟩ [(x,u)])
  (hsp:∀ H:Hp,Only H→SqL K H a (ns.map V.int)→sp [.ref a] H (fun v _=>v = .bl true) fun _ _ _=>False)
  (hCX:∀ H e s',CX [] H s₁ (fun _ _ _=>False) e s'→False) :
  codeAny (model P w) callerA (.call (.ref fa) ⟨[.ref a],[]⟩) (fun r s'=>r = .ok (.ret (.bool true))∧OldK s₁.heap s'.heap∧s'.os = s₁.os∧AllBare s'.gens) s₁:=by
 have rv:=vals_ints hi
 have lenV:=hi.length
 have core : ∀ H : Hp, Only H → SqL K H a (ns.map V.int) → HOk P w H s₁.heap → (∀ b, H b ≠ none → b = a) → (H a ≠ none → K.lookup a = none) →
   codeAny (model P w) callerA (.call (.ref fa) ⟨[.ref a],[]⟩) (fun r s'=>r = .ok (.ret (.bool true))∧OldK s₁.heap s'.heap∧s'.os = s₁.os∧AllBare s'.gens) s₁:=by
  intro H hO hS hok hA hK
  have base_of:∀ {b:Addr} {o:Obj},s₁.heap.get? b = some o→H b = none→(hidT s₁.heap H).get? b = some o:=fun e n=>hidT_get e n
  have noA:∀ {b:Addr} {o:Obj} {es:Array DictEntry} {ep:Nat},s₁.heap.get? b = some o→o.data = .dict es ep→H b = none:=fun {b o es ep} e d=>by
   cases q:H b with
   | none=>rfl
   | some u =>
    have e':b = a:=hA b (by rw [q]; simp)
    subst e'
    rw [ha] at e; cases e
    have d':Data.seq vs.toArray _ = Data.dict es ep:=d
    cases d'
  have nsK:∀ {b:Addr} {m:Str→Option Value},s₁.heap.Ns b m→(hidT s₁.heap H).Ns b m:=fun {b m} ⟨o,es,ep,e,d,r⟩=>⟨o,es,ep,base_of e (noA e d),d,r⟩
  have hKb:K.In (hidT s₁.heap H):=fun b o e=>base_of (KX b o e) (by
   cases q:H b with
   | none=>rfl
   | some u =>
    have e':b = a:=hA b (by rw [q]; simp)
    subst e'
    rw [hK (by rw [q]; simp)] at e; cases e)
  have hM:Mod K mg (hidT s₁.heap H):=⟨hKb,nsK hns,⟨mb,nsK hb,hbb⟩,let ⟨mc,h1,h2⟩:=hlim; ⟨mc,nsK h1,h2⟩⟩
  have e0:Env0 P w K mg (hidT s₁.heap H) callerA [] s₁ H:=⟨rfl,hM,fun b o e=>of_hidT e,Nat.le_of_eq (hidT_size _ _),trivial,fun b hb=>absurd (show b ∈ ([]:List Addr) from hb) (by simp),hok,.of_eq hg⟩
  refine codeAny_mono ((F _ hKb (nsK hns)).run callerA [] s₁ H ⟨[.ref a],[]⟩ [.ref a] [.ref a] _ _ hr e0 (hbind s₁ (.ref a)) (.cons rfl .nil) (hsp H hO hS)) fun r s' h=>?_
  cases r with
  | error e=>exact (hCX H e s' h).elim
  | ok fl =>
   cases fl with
   | next=>exact False.elim h
   | brk=>exact False.elim h
   | cont=>exact False.elim h
   | ret u =>
    obtain ⟨v,H',os,bare,un,hok',r',q⟩:=h
    have q':v = .bl true:=q
    subst q'
    obtain rfl:u = Value.bool true:=r'
    refine ⟨rfl,OldK.of_keep fun b o e=>?_,os,bare⟩
    cases q:H b with
    | none=>exact un.keep b o e q (by intro z; exact absurd (show b ∈ ([]:List Addr) from z) (by simp)) (by simp)
    | some u =>
     rcases hO b with z | ⟨ob,xs,z⟩
     ·rw [q] at z; cases z
     ·have z2:=un.frzs b ob _ z
      obtain ⟨e1,_⟩:=hok b _ z
      obtain ⟨e2,_⟩:=hok' b _ z2
      rw [e] at e1; cases e1
      exact e2
 cases hk:K.lookup a with
 | some o =>
  have e:=KX a o hk
  rw [ha] at e
  cases e
  refine core (fun _=>none) (fun _=>.inl rfl) (.inr ⟨_,vs.toArray,_,hk,rfl,rfl,rfl,by rw [List.size_toArray,lenV]; exact hl,by simpa using rv⟩) (fun b u z=>by have z':(none:Option HO) = some u:=z; cases z') (fun b z=>absurd rfl z) fun z=>absurd rfl z
 | none =>
  refine core (fun b=>if b = a then some (.frz { cls:=.type "list",data:=.seq vs.toArray } (.lst (ns.map V.int))) else none) (fun b=>?_) (.inl (.inr ⟨{ cls:=.type "list",data:=.seq vs.toArray },if_pos rfl⟩)) (fun b u z=>?_) (fun b z=>?_) fun _=>hk
  ·by_cases hb:b = a
   ·exact .inr ⟨_,_,if_pos hb⟩
   ·exact .inl (if_neg hb)
  ·by_cases hb:b = a
   ·have z':=(if_pos hb).symm.trans z
    cases z'
    subst hb
    exact ⟨ha,by rw [List.length_map]; exact hl,vs,_,rv,ha⟩
   ·have z':=(if_neg hb).symm.trans z
    cases z'
  ·by_cases hb:b = a
   ·exact hb
   ·exact absurd (if_neg hb) z
end L2
namespace L2
open PySem PySem.Spec PyProof.Rows
abbrev KOf {K:PySem.W.Frag} {h:Heap} (_:K.In h):PySem.W.Frag:=K
theorem walk_of {l : PySem.W.OpenLaw} {n k : Nat} {q : Program} {loose : List Str} {XP : (Str → Option Value) → Heap → Prop} {YP : World → Heap → Prop} {d : DefRec} {K : Params → PySem.W.Frag} {CX : World → CXT} {sp : World → Sp} {x : Str}
  (hn:l.most = some n) (hn2:n ≤ sizeLine) (hdf:d.params.defaults = []) (hr:Room k callerA)
  (hY:∀ (w:World) (h:Heap),YP w h→(K w.params).In h)
  (F:∀ (w:World) (mg:Str→Option Value) (fa:Addr) (h:Heap),(K w.params).In h→h.Ns mainGlobals mg→mg d.name = some (.ref fa) →
   ∃ fd:FuncData,(∀ (s:Shared) (u:Value),BindsTo s fd ⟨[u],[]⟩ [(x,u)]) ∧
    ∀ base:Heap,(K w.params).In base→base.Ns mainGlobals mg→FnOk l.prog w (K w.params) mg base (CX w) k fa fd [x] (sp w))
  (hsp:∀ (w:World) (H:Hp) (a:Addr) (ns:List Int),ns.length ≤ n→Only H→SqL (K w.params) H a (ns.map V.int)→sp w [.ref a] H (fun v _=>v = .bl true) fun _ _ _=>False)
  (hCX:∀ (w:World) (H:Hp) (s:Shared) (e:Value) (s':Shared),CX w [] H s (fun _ _ _=>False) e s'→False) :
  PySem.W.WalkO q loose XP YP l.row.toRowW d [] (fun f vs=>PySem.call f vs):=by
 refine Att.attach_call hn hdf fun w s₀ s₁ mg mb fa o pm cd doc a vs ns G Y ho hd hcd hmg hobj hints hlen hg=>?_
 have KX:=hY w _ Y
 obtain ⟨fd,hb,hF⟩:=F w mg fa _ KX G.T.g hmg
 exact law_call KX G.T.g G.T.b G.T.builtins G.T.nolimit hg hobj hints (Nat.le_trans hlen hn2) hr hF hb (fun H hO hS=>hsp w H a ns hlen hO hS) fun H e s'=>hCX w H s₁ e s'
theorem walk_ofK {l : PySem.W.OpenLaw} {n k : Nat} {q : Program} {loose : List Str} {XP : (Str → Option Value) → Heap → Prop} {YP : World → Heap → Prop} {d : DefRec} {K : Params → PySem.W.Frag} {CX : CXT} {sp : PySem.W.Frag → Sp} {x : Str}
  (hn:l.most = some n) (hn2:n ≤ sizeLine) (hdf:d.params.defaults = []) (hr:Room k callerA)
  (hY:∀ (w:World) (h:Heap),YP w h→(K w.params).In h)
  (F:∀ (w:World) (mg:Str→Option Value) (fa:Addr) (h:Heap),(K w.params).In h→h.Ns mainGlobals mg→mg d.name = some (.ref fa) →
   ∃ fd:FuncData,(∀ (s:Shared) (u:Value),BindsTo s fd ⟨[u],[]⟩ [(x,u)]) ∧
    ∀ base:Heap,(K w.params).In base→base.Ns mainGlobals mg→FnOk l.prog w (K w.params) mg base CX k fa fd [x] (sp (K w.params)))
  (hsp:∀ (K:PySem.W.Frag) (H:Hp) (a:Addr) (ns:List Int),ns.length ≤ n→Only H→SqL K H a (ns.map V.int)→sp K [.ref a] H (fun v _=>v = .bl true) fun _ _ _=>False)
  (hCX:∀ (H:Hp) (s:Shared) (e:Value) (s':Shared),CX [] H s (fun _ _ _=>False) e s'→False) :
  PySem.W.WalkO q loose XP YP l.row.toRowW d [] (fun f vs=>PySem.call f vs) :=
 walk_of (K:=K) (CX:=fun _=>CX) (sp:=fun w=>sp (K w.params)) hn hn2 hdf hr hY F (fun w H a ns h1 h2 h3=>hsp (K w.params) H a ns h1 h2 h3) fun _ H s e s'=>hCX H s e s'
end L2
namespace L2
open PySem PySem.Spec PyProof.Rows
def defArgs (s:Stmt):Arguments:=match s with
 | .FunctionDef _ a _ _ _ _ _ _ _ _=>a
 | _=>{ posonlyargs:=[],args:=[],vararg:=none,kwonlyargs:=[],kw_defaults:=[],kwarg:=none,defaults:=[] }
def defBody (s:Stmt):List Stmt:=match s with
 | .FunctionDef _ _ b _ _ _ _ _ _ _=>b
 | _=>[]
def defScope (s:Stmt):Scope:=match s with
 | .FunctionDef _ _ _ _ _ _ sc _ _ _=>sc
 | _=>{ kind:=.function,names:=[],isGenerator:=false,isCoroutine:=false }
abbrev CX0:CXT:=fun _ _ _ _ _ _=>False
abbrev E0:XK:=fun _ _ _=>False
theorem pass0 {X:Cx}:Passes CX0 X E0:=fun _ _ _ _ _ _ _ h=>h.elim
structure Fun (K:PySem.W.Frag) (x qual:Str) (st:Stmt) (f:Addr) (fd:FuncData):Prop where
 ex:∃ (oc:Value) (od:Option Addr) (kV doc pm:Value) (an:Option Addr) (cdv ct:Value) (osl:Array (Option Value)),
  fd = PySem.W.fnOf x qual (defArgs st) (defBody st) (defScope st) .none kV doc pm an cdv ct∧K.lookup f = some ⟨oc,od,.func fd,osl⟩∧PySem.W.codeIn K cdv qual = true
 kp:PySem.W.keepIn K (.ref f) = true
section
variable {P:Program} {w:World} {K:PySem.W.Frag} {mg:Str→Option Value} {base:Heap}
theorem Fun.ok {x qual : Str} {st : Stmt} {f : Addr} {fd : FuncData} {N ps : List Str} {k : Nat} {sp : Sp} (F : Fun K x qual st f fd) (S : FnScope N ps (defScope st)) (len : ∀ vs H Q E, sp vs H Q E → vs.length = ps.length)
  (hbody:∀ (cdv:Value) (A:Around) (outer:List Env) (s:Shared) (H:Hp) (vs:List V) (Q:VK) (E:XK),Room k (A.deeper (envOfC qual (defScope st) s.heap.objs.size f cdv))→sp vs H Q E →
   ∃ t,PSs (cxOf CX0 P w K mg base N qual (defScope st) f cdv A outer s H E).nox (defBody st) t∧t { nx:=fun _ H'=>Q .non H',rt:=Q } (start N vs) H):FnOk P w K mg base CX0 (k + 1) f fd ps sp:=by
 obtain ⟨oc,od,kV,doc,pm,an,cdv,ct,osl,rfl,lk,hcd⟩:=F.ex
 refine fn_of lk hcd S len fun A outer s H vs Q E hr hsp=>?_
 obtain ⟨t,h,q⟩:=hbody cdv A outer s H vs Q E hr hsp
 exact ⟨t,h.nox,q⟩
theorem Fun.binds {x qual : Str} {st : Stmt} {f : Addr} {fd : FuncData} {ps : List Str} (F : Fun K x qual st f fd)
  (h:∀ (kV doc pm:Value) (an:Option Addr) (cdv ct:Value) (us:List Value),us.length = ps.length→bindArgs (PySem.W.fnOf x qual (defArgs st) (defBody st) (defScope st) .none kV doc pm an cdv ct) ⟨us,[]⟩ = pure (ps.zip us)):Binds K fd ps []:=by
 obtain ⟨oc,od,kV,doc,pm,an,cdv,ct,osl,rfl,lk,hcd⟩:=F.ex
 exact .all (h kV doc pm an cdv ct)
theorem fun_mk {x qual : Str} {st : Stmt} {f : Addr} {oc : Value} {od an : Option Addr} {osl : Array (Option Value)} {kV doc pm cdv ct : Value} (l : K.lookup f = some ⟨oc, od, .func (PySem.W.fnOf x qual (defArgs st) (defBody st) (defScope st) .none kV doc pm an cdv ct), osl⟩)
  (c:PySem.W.codeIn K cdv qual = true) (k:PySem.W.keepIn K (.ref f) = true):Fun K x qual st f (PySem.W.fnOf x qual (defArgs st) (defBody st) (defScope st) .none kV doc pm an cdv ct):=⟨⟨oc,od,kV,doc,pm,an,cdv,ct,osl,rfl,l,c⟩,k⟩
end
section
variable {X:Cx}
theorem pv (i : Nat) {x : Str} {pos : Pos} (hN : X.N[i]? = some x := by rfl) (hv : Vis X.env.scope x := by first | exact Or.inl rfl | exact Or.inr (Or.inl rfl) | exact Or.inr (Or.inr rfl)) (hd : (x == ("__debug__" : Str)) = false := by decide)
  (hcd:(x == ("__classdict__":Str)) = false:=by decide):PE X (.Name x pos) (tVar i):=pe_var hN hv hd hcd
theorem call_lenD:CallR X (.builtin "len") (fun xs H Q=>∃ a kvs,xs = [V.ref a]∧H a = some (.dK kvs)∧Q (.int kvs.length) H):=by
 intro pins s σ H xs us Q I r h
 obtain ⟨a,kvs,rfl,ha,q⟩:=h
 obtain ⟨u,rfl,ru⟩:=vals1 r
 cases ru
 exact d_len I (.inl ha) fun t s' I'=>⟨.int kvs.length,H,I',⟨t,rfl⟩,q⟩
end
theorem ite2 {c A B:Prop} [Decidable c] (h1:c→A) (h2:¬ c→B):if c then A else B:=by
 by_cases h:c
 ·rw [if_pos h]
  exact h1 h
 ·rw [if_neg h]
  exact h2 h
def Same (H H':Hp):Prop:=∀ b o,H b = some o→H' b = some o
theorem Same.refl (H:Hp):Same H H:=fun _ _ h=>h
theorem Same.trans {H H1 H2:Hp} (a:Same H H1) (b:Same H1 H2):Same H H2:=fun c o h=>b c o (a c o h)
theorem Same.free {H H':Hp} (e:Same H H') {l:Addr} (h:H' l = Option.none):H l = Option.none:=by
 cases q:H l with
 | none=>rfl
 | some o =>
  rw [e l o q] at h
  cases h
theorem Same.seq {K:PySem.W.Frag} {H H':Hp} {a:Addr} {xs:List V} (e:Same H H') (h:SqL K H a xs):SqL K H' a xs:=by
 rcases h with (h | ⟨o,h⟩) | h
 ·exact .inl (.inl (e _ _ h))
 ·exact .inl (.inr ⟨o,e _ _ h⟩)
 ·exact .inr h
section
variable {κ:Type} [DecidableEq κ]
end
end L2
set_option maxHeartbeats 4000000
namespace L2
open PySem PySem.Spec PyProof.Rows
def closOf (env:Env):List (Str × NameKind)→List (Str × Addr)→List (Str × Addr)
 | [],acc=>acc
 | (n, k) :: r, acc => if k == .free then (match env.cells.lookup n with
   | some c=>closOf env r ((n,c) :: acc)
   | none=>closOf env r acc) else closOf env r acc
theorem closOf_ok {env : Env} : ∀ {names : List (Str × NameKind)} {acc : List (Str × Addr)}, (∀ n c, acc.lookup n = some c → env.cells.lookup n = some c) →
  ∀ n c,(closOf env names acc).lookup n = some c→env.cells.lookup n = some c
 | [],acc,h,n,c,e=>h n c e
 | (x,k) :: r,acc,h,n,c,e=>by
  unfold closOf at e
  split at e
  ·split at e
   ·rename_i cx hx
    refine closOf_ok (fun y d q=>?_) n c e
    rw [List.lookup_cons] at q
    cases hb:y == x with
    | true=>rw [hb] at q; cases q; rw [beq_iff_eq.mp hb]; exact hx
    | false=>rw [hb] at q; exact h y d q
   ·exact closOf_ok h n c e
  ·exact closOf_ok h n c e
theorem closOf_acc {env:Env}:∀ {names:List (Str × NameKind)} {acc:List (Str × Addr)} {n:Str},(acc.lookup n).isSome = true→((closOf env names acc).lookup n).isSome = true
 | [],_,_,h=>h
 | (x,k) :: r,acc,n,h=>by
  unfold closOf
  split
  ·split
   ·refine closOf_acc ?_
    rw [List.lookup_cons]
    cases n == x with
    | true=>rfl
    | false=>exact h
   ·exact closOf_acc h
  ·exact closOf_acc h
theorem closOf_has {env:Env}:∀ {names:List (Str × NameKind)} {acc:List (Str × Addr)} {n:Str} {c:Addr},(n,NameKind.free) ∈ names→env.cells.lookup n = some c→((closOf env names acc).lookup n).isSome = true
 | [],_,_,_,h,_=>nomatch h
 | (x,k) :: r,acc,n,c,h,e=>by
  rcases List.mem_cons.mp h with q | q
  ·cases q
   unfold closOf
   rw [if_pos (by rfl),e]
   refine closOf_acc ?_
   rw [List.lookup_cons,beq_self_eq_true]
   rfl
  ·unfold closOf
   split
   ·split
    ·exact closOf_has q e
    ·exact closOf_has q e
   ·exact closOf_has q e
theorem closureFor_of {scope:Scope} {env:Env} (h:∀ y ∈ scope.names,y.2 = .free→∃ c,env.cells.lookup y.1 = some c):closureFor scope env = pure (closOf env scope.names []):=by
 simp only [closureFor]
 have go : ∀ (names : List (Str × NameKind)) (acc : List (Str × Addr)), (∀ y ∈ names, y.2 = .free → ∃ c, env.cells.lookup y.1 = some c) →
   (forIn names acc (fun x cs=>if (x.2 == NameKind.free) = true then (do let a ← cellOf env x.1; pure (ForInStep.yield ((x.1,a) :: cs))) else pure (ForInStep.yield cs)):Sem (List (Str × Addr))) = pure (closOf env names acc):=by
  intro names
  induction names with
  | nil=>intro acc _; rfl
  | cons p r ih =>
   intro acc hh
   obtain ⟨n,k⟩:=p
   rw [List.forIn_cons]
   unfold closOf
   by_cases hk:(k == NameKind.free) = true
   ·obtain ⟨c,hc⟩:=hh (n,k) List.mem_cons_self (by simpa using hk)
    have hc':env.cells.lookup n = some c:=hc
    rw [if_pos hk,if_pos hk,hc']
    have e:cellOf env n = pure c:=by unfold cellOf; rw [hc']
    simp only [e,pure_bind]
    exact ih _ fun y hy=>hh y (List.mem_cons_of_mem _ hy)
   ·rw [if_neg hk,if_neg hk]
    simp only [pure_bind]
    exact ih _ fun y hy=>hh y (List.mem_cons_of_mem _ hy)
 have:=go scope.names [] h
 simpa using this
theorem lookup_relabel {env : Env} : ∀ {names : List (Str × NameKind)} {x : Str},
  (names.map fun (n,k)=>if (k == NameKind.free && env.scope.kind == .function && env.kindOf n == some .cell) then (n,NameKind.cell) else (n,k)).lookup x =
   (names.lookup x).map fun k=>if (k == NameKind.free && env.scope.kind == .function && env.kindOf x == some .cell) then NameKind.cell else k
 | [],_=>rfl
 | (n,k) :: r,x=>by
  have ih:=@lookup_relabel env r x
  rw [List.map_cons]
  show List.lookup x ((if (k == NameKind.free && env.scope.kind == .function && env.kindOf n == some .cell) = true then (n,NameKind.cell) else (n,k)) :: _) = _
  cases hx:x == n with
  | true =>
   have e:x = n:=beq_iff_eq.mp hx
   subst e
   by_cases hc:(k == NameKind.free && env.scope.kind == .function && env.kindOf x == some .cell) = true
   ·rw [if_pos hc,List.lookup_cons,List.lookup_cons,hx]
    simp only [Option.map_some,hc,if_true]
   ·rw [if_neg hc,List.lookup_cons,List.lookup_cons,hx]
    simp only [Option.map_some]
    rw [if_neg hc]
  | false =>
   by_cases hc:(k == NameKind.free && env.scope.kind == .function && env.kindOf n == some .cell) = true
   ·rw [if_pos hc,List.lookup_cons,List.lookup_cons,hx]; exact ih
   ·rw [if_neg hc,List.lookup_cons,List.lookup_cons,hx]; exact ih
theorem comp_loop {prog : Program} {w : World} {A : Around} {R : Result → Shared → Prop} {s : Shared} {elt target iter : Expr} {ifs : List Expr} {scope : Scope} {pos : Pos} {it acc : Value} {env : Env} (I : Nat → Shared → Prop)
  (turn:∀ n s,I n s→wpAny (model prog w) A (pyNext it) (fun r s₁=>match r with
   | none=>R (.ok .next) s₁
   | some v => wpAny (model prog w) A (letOwnedTupleGo target it v) (fun _ s₁' => wpAny (model prog w) A (assign target env v) (fun _ s₂ =>
     wpAny (model prog w) A (forIn ifs true fun c r=>if r = true then do let ok ← isTrue c env (eval c env); pure (ForInStep.yield ok) else pure (ForInStep.yield r)) (fun ok s₃ =>
      if ok = true then wpAny (model prog w) A (eval elt env) (fun x s₄ =>
       wpAny (model prog w) A (call (.builtin "list.append") [acc,x]) (fun _ s₅=>∃ m,m < n∧I m s₅) (notedBy (model prog w) A env fun e s'=>R (.error e) s') s₄) (notedBy (model prog w) A env fun e s'=>R (.error e) s') s₃
      else ∃ m,m < n∧I m s₃) (notedBy (model prog w) A env fun e s'=>R (.error e) s') s₂) (notedBy (model prog w) A env fun e s'=>R (.error e) s') s₁') (notedBy (model prog w) A env fun e s'=>R (.error e) s') s₁) (notedBy (model prog w) A env fun e s'=>R (.error e) s') s)
  (n:Nat) (h:I n s) :
  codeAny (model prog w) A (.compLoop (.ListComp elt [⟨target,iter,ifs,0⟩] scope pos) 0 it acc env) R s:=by
 refine codeAny_loop rfl I (fun n s hI=>?_) n h
 show wpAny _ A ((compTurn (.ListComp elt [⟨target,iter,ifs,0⟩] scope pos) 0 it acc env).onRaise (fun x=>do noteFrame x env; theTreesLotGoes x)) _ _ s
 refine wpAny_noted ?_
 rw [compTurn_list]
 refine wpAny_bind (wpAny_standAt (wpAny_bind (wpAny_mono (turn n s hI) (fun r s₁ h₁=>?_) fun _ _ h'=>h')))
 cases r with
 | none=>exact wpAny_pure h₁
 | some v =>
  refine wpAny_bind (wpAny_mono h₁ (fun _ s₁' h₁'=>?_) fun _ _ h'=>h')
  refine wpAny_bind (wpAny_mono h₁' (fun _ s₂ h₂=>wpAny_bind (wpAny_mono h₂ (fun ok s₃ h₃=>?_) fun _ _ h'=>h')) fun _ _ h'=>h')
  cases ok with
  | false=>exact wpAny_pure ⟨rfl,h₃⟩
  | true =>
   exact wpAny_bind (wpAny_bind (wpAny_mono h₃ (fun x s₄ h₄=>wpAny_bind (wpAny_mono h₄ (fun _ s₅ h₅=>wpAny_pure (wpAny_pure ⟨rfl,h₅⟩)) fun _ _ h'=>h')) fun _ _ h'=>h'))
def capt (cap:List (Option Nat)) (σ:St):St:=cap.map fun o=>o.bind fun i=>(σ[i]?).join
def cxComp (X:Cx) (N:List Str) (scope:Scope) (C:Addr) (s:Shared) (H:Hp) (ex:List Addr):Cx where
 prog:=X.prog
 w:=X.w
 K:=X.K
 mg:=X.mg
 base:=X.base
 A:=X.A
 N:=N
 s₀:=s
 H₀:=H
 env:=compEnvC scope (closOf X.env scope.names []) C X.env
 outer:=X.stack
 stack:=X.stack
 ex:=ex
 fn:=fun _=>false
 calm:=X.calm
 pn:=[]
 xe:=fun _ _=>False
structure CompScope (X:Cx) (N:List Str) (cap:List (Option Nat)) (scope:Scope):Prop where
 kind:scope.kind = .function
 nocell:∀ y ∈ scope.names,y.2 ≠ .cell
 loc:∀ y ∈ scope.names,y.2 = .local→scope.names.lookup y.1 = some .local
 fre:∀ y ∈ scope.names,y.2 = .free→X.env.scope.names.lookup y.1 = some .cell∨X.env.scope.names.lookup y.1 = some .free
 nd:N.Nodup
 len:cap.length = N.length
 cap:∀ (j i:Nat),cap[j]? = some (some i)→∃ y,N[j]? = some y∧X.N[i]? = some y∧scope.names.lookup y = some .free
def compChk (outer:List (Str × NameKind)) (N0 N:List Str) (cap:List (Option Nat)) (names:List (Str × NameKind)):Bool :=
 names.all (fun y=>y.2 != .cell && (y.2 != .local || names.lookup y.1 == some .local) && (y.2 != .free || outer.lookup y.1 == some .cell || outer.lookup y.1 == some .free)) &&
 decide N.Nodup && cap.length == N.length &&
 (List.range cap.length).all fun j=>match cap[j]? with
  | some (some i)=>(match N[j]? with
   | some y=>N0[i]? == some y && names.lookup y == some .free
   | none=>false)
  | _=>true
theorem CompScope.of {X:Cx} {N:List Str} {cap:List (Option Nat)} {scope:Scope} (hk:scope.kind = .function) (h:compChk X.env.scope.names X.N N cap scope.names = true):CompScope X N cap scope:=by
 unfold compChk at h
 simp only [Bool.and_eq_true,List.all_eq_true,decide_eq_true_eq,beq_iff_eq] at h
 obtain ⟨⟨⟨h1,h2⟩,h3⟩,h4⟩:=h
 refine ⟨hk,fun y hy e=>?_,fun y hy e=>?_,fun y hy e=>?_,h2,h3,fun j i e=>?_⟩
 ·have:=(h1 y hy).1.1
  rw [e] at this
  exact absurd this (by decide)
 ·have:=(h1 y hy).1.2
  rw [e] at this
  simpa using this
 ·have:=(h1 y hy).2
  rw [e] at this
  simpa using this
 ·have hj:j < cap.length:=(List.getElem?_eq_some_iff.mp e).1
  have:=h4 j (List.mem_range.mpr hj)
  rw [e] at this
  dsimp only at this
  cases q:N[j]? with
  | none=>rw [q] at this; exact absurd this Bool.false_ne_true
  | some y =>
   rw [q] at this
   simp only [Bool.and_eq_true,beq_iff_eq] at this
   exact ⟨y,rfl,this.1,this.2⟩
theorem getElem?_capt {cap:List (Option Nat)} {σ:St} {j:Nat} {v:V} (h:(capt cap σ)[j]? = some (some v)):∃ i,cap[j]? = some (some i)∧σ[i]? = some (some v):=by
 unfold capt at h
 rw [List.getElem?_map] at h
 cases e:cap[j]? with
 | none=>rw [e] at h; cases h
 | some o =>
  rw [e] at h
  cases o with
  | none=>simp at h
  | some i =>
   refine ⟨i,rfl,?_⟩
   simp only [Option.map_some,Option.bind_some,Option.some.injEq] at h
   cases q:σ[i]? with
   | none=>rw [q] at h; simp at h
   | some z=>rw [q] at h; simp at h; rw [h]
theorem inv_comp {X : Cx} {pins : List (Addr × Obj)} {σ : St} {H : Hp} {s : Shared} {N : List Str} {cap : List (Option Nat)} {scope : Scope} {ex : List Addr} {h₁ : Heap} {tk : Nat} {C : Addr} (S : CompScope X N cap scope) (I : Inv X pins σ H s) (hC : s.heap.objs.size ≤ C)
  (hns:h₁.Ns C (fun _=>none)) (hk:∀ b o,s.heap.get? b = some o→h₁.get? b = some o) (hex:∀ b ∈ ex,b < s.heap.objs.size∧FpOk X pins H b) :
  Inv (cxComp X N scope C s H ex) [] (capt cap σ) H { s with heap:=h₁,toks:=tk }:=by
 have hcl:∀ n c,(closOf X.env scope.names []).lookup n = some c→X.env.cells.lookup n = some c:=closOf_ok (fun n c e=>by simp at e)
 have cne:∀ x c,(closOf X.env scope.names []).lookup x = some c→c < s.heap.objs.size:=fun x c e=>by
  obtain ⟨v,q⟩:=I.cell x c (hcl x c e)
  exact q.lt
 have nob:∀ b o,X.base.get? b = some o→b ∉ ex:=fun b o e hb=>by
  obtain ⟨hlt,f0,f1,f2,f3,f4,f5⟩:=hex b hb
  rcases f3 with z | z
  ·exact I.ok.noex b o e z
  ·exact absurd (Nat.lt_of_lt_of_le (Heap.lt_size e) (Nat.le_trans I.ok.bsz z)) (Nat.lt_irrefl _)
 refine ⟨⟨I.ok.mod,?_,I.ok.glob,I.ok.blt,hC,fun x y c h1 h2=>I.ok.inj x y c (hcl x c h1) (hcl y c h2),fun x hx=>?_,fun x c hf _=>?_,I.ok.hd,I.ok.frames,.inl rfl,fun b hb=>?_,fun b o e=>I.bs b o e,Nat.le_trans I.ok.bsz I.sz,nob,fun b hb=>?_,I.stack,I.stkFree⟩,
  rfl,I.bare,Un.kept hk,⟨_,hns,fun j y v h1 h2 h3=>?_⟩,fun x c e=>?_,I.hok.fresh hC,fun x c e=>?_,fun p hp=>absurd (show p ∈ ([]:List (Addr × Obj)) from hp) (by simp),I.hok.kept hk,?_⟩
 ·exact S.kind
 ·have hx:(relabel scope X.env).names.lookup x = some .cell∨(relabel scope X.env).names.lookup x = some .free:=hx
  unfold relabel at hx
  simp only [lookup_relabel] at hx
  cases q:scope.names.lookup x with
  | none=>rw [q] at hx; simp at hx
  | some k =>
   have hm:=PySem.mem_of_lookup q
   have hkf:k = .free:=by
    rw [q] at hx
    simp only [Option.map_some,Option.some.injEq] at hx
    by_cases z:(k == NameKind.free && X.env.scope.kind == .function && X.env.kindOf x == some .cell) = true
    ·have : (k == NameKind.free) = true := by
      rw [Bool.and_eq_true,Bool.and_eq_true] at z
      exact z.1.1
     exact beq_iff_eq.mp this
    ·rw [if_neg z] at hx
     rcases hx with hx | hx
     ·exact absurd hx (S.nocell _ hm)
     ·exact hx
   subst hkf
   obtain ⟨c,hc⟩:=I.ok.has x (S.fre _ hm rfl)
   exact Option.isSome_iff_exists.mp (closOf_has hm hc)
 ·exact absurd (show false = true from hf) Bool.false_ne_true
 ·obtain ⟨hlt,_⟩:=hex b hb
  refine ⟨Nat.ne_of_lt (Nat.lt_of_lt_of_le hlt hC),fun x c e z=>?_⟩
  exact (hex b hb).2.2.2.2.2.1 x c (hcl x c e) z
 ·intro hb2
  rcases List.mem_cons.mp (I.stkSub b hb2) with e | e
  ·exact (hex b hb).2.2.1 e
  ·exact (hex b hb).2.2.2.1 e
 ·obtain ⟨i,e1,e2⟩:=getElem?_capt h2
  obtain ⟨y',e3,e4,e5⟩:=S.cap j i e1
  rw [show N[j]? = some y from h1] at e3
  cases e3
  obtain ⟨m,_,hl⟩:=I.loc
  have hm:=PySem.mem_of_lookup e5
  have hv:Vis X.env.scope y:=by
   rcases S.fre _ hm rfl with z | z
   ·exact .inr (.inl z)
   ·exact .inr (.inr z)
  obtain ⟨u,r,l⟩:=hl i y v e4 e2 hv
  refine ⟨u,r,.inr ⟨?_,?_⟩⟩
  ·show (relabel scope X.env).names.lookup y = some .cell∨(relabel scope X.env).names.lookup y = some .free
   unfold relabel
   simp only [lookup_relabel,e5,Option.map_some,Option.some.injEq]
   split
   ·exact .inl rfl
   ·exact .inr rfl
  ·rcases l with ⟨hk2,_⟩ | ⟨_,c,hc,hcell⟩
   ·rcases S.fre _ hm rfl with z | z
    ·rw [show X.env.kindOf y = some .cell from z] at hk2; cases hk2
    ·rw [show X.env.kindOf y = some .free from z] at hk2; cases hk2
   ·refine ⟨c,?_,hcell.keeps hk⟩
    obtain ⟨c',hc'⟩:=Option.isSome_iff_exists.mp (closOf_has (acc:=[]) hm hc)
    have:=hcl y c' hc'
    rw [hc] at this
    cases this
    exact hc'
 ·obtain ⟨v,q⟩:=I.cell x c (hcl x c e)
  exact ⟨v,q.keeps hk⟩
 ·exact I.freeC x c (hcl x c e)
 ·show (capt cap σ).length = N.length
  unfold capt
  rw [List.length_map]
  exact S.len
def Gath (J:It) (cap:List (Option Nat)) (g:TG) (tc:TT) (te:TE) (Q:Addr→Hp→Prop) (σ:St) (H:Hp):Prop :=
 ∃ W:Nat→Nat→List V→St→Hp→Prop,(∃ m,W 0 m [] (capt cap σ) H)∧∀ i m ys σ' H',W i m ys σ' H' →
  (J.stop i H'∧ys.length ≤ sizeLine∧∀ D,H' D = none→Q D (upd H' D (.lst ys)))∨(J.go i H'∧ys.length < sizeLine∧∃ N:List V→St→Hp→Prop,(∀ ys2 σ2 H2,N ys2 σ2 H2→∃ m',m' < m∧W (i + 1) m' ys2 σ2 H2) ∧
   ∀ x H2,J.yld i H' x H2→g x σ' H2 fun σ3 H3=>tc σ3 H3 fun b H4=>if b = true then te σ3 H4 fun y H5=>N (ys ++ [y]) σ3 H5 else N ys σ3 H4)
def tComp (cap:List (Option Nat)) (wi:TI) (g:TG) (tc:TT) (te:TE) (Q:Addr→Hp→Prop):St→Hp→Prop:=fun σ H=>wi σ H fun J H1=>Gath J cap g tc te Q σ H1
def tTrue:TT:=fun _ H Q=>Q true H
def PTs (X:Cx) (ifs:List Expr) (t:TT):Prop :=
 ∀ (pins:List (Addr × Obj)) (s:Shared) (σ:St) (H:Hp) (Q:Bool→Hp→Prop),Inv X pins σ H s→t σ H Q →
  wpAny (model X.prog X.w) X.A (forIn ifs true fun c r=>if r = true then do let ok ← isTrue c X.env (eval c X.env); pure (ForInStep.yield ok) else pure (ForInStep.yield r)) (TP X pins σ Q) X.xe s
theorem pts_nil {X:Cx}:PTs X [] tTrue:=fun pins s σ H Q I h=>wpAny_tests_nil ⟨H,I,h⟩
theorem pts_one {X:Cx} {c:Expr} {t:TT} (h:PT X c t):PTs X [c] t:=fun pins s σ H Q I hw=>wpAny_tests_one (h pins s σ H Q I hw)
theorem HOk.add {P:Program} {w:World} {H:Hp} {h:Heap} {a:Addr} {o:HO} (x:HOk P w H h) (hn:H a = none) (new:ObjOk P w (upd H a o) h a o):HOk P w (upd H a o) h:=fun b u e=>by
 by_cases hb:b = a
 ·subst hb; rw [upd_same] at e; cases e; exact new
 ·rw [upd_ne hb] at e
  exact (x b u e).stay (fun c v _ q=>q) (fun c q=>by rw [upd_ne (ne_of_none q hn)]; exact q) fun c xs q=>by rw [upd_ne (ne_of_none q hn)]; exact q
theorem Un.add {fs ex:List Addr} {H H1:Hp} {h h1:Heap} {a:Addr} {o:HO} (u:Un fs ex H H1 h h1) (ha:h.objs.size ≤ a) (hn:H1 a = none):Un fs ex H (upd H1 a o) h h1 where
 keep:=u.keep
 slot:=u.slot
 free:=fun b ob q n hx=>by rw [upd_ne (Nat.ne_of_lt (Nat.lt_of_lt_of_le (Heap.lt_size q) ha))]; exact u.free b ob q n hx
 there:=u.there
 tups:=fun b xs q=>by
  have q':=u.tups b xs q
  rw [upd_ne (ne_of_none q' hn)]; exact q'
 frzs:=fun b ob xs q=>by
  have q':=u.frzs b ob xs q
  rw [upd_ne (ne_of_none q' hn)]; exact q'
 tbls:=fun b ps q=>by
  obtain ⟨m,q'⟩:=u.tbls b ps q
  exact ⟨m,by rw [upd_ne (ne_of_none q' hn)]; exact q'⟩
abbrev lobj (its:List Value) (k:Nat):Obj:={ cls:=.type "list",data:=.seq its.toArray k }
theorem comp_block {X : Cx} {pins : List (Addr × Obj)} {σ : St} {H : Hp} {s : Shared} {N : List Str} {cap : List (Option Nat)} {scope : Scope} {elt target iter : Expr} {ifs : List Expr} {pos : Pos} {g : TG} {tc : TT} {te : TE} {J : It} {fp : List Addr} {it : Addr} {tn : Nat → Heap → Prop}
  {Q:Addr→Hp→Prop} {RR:Value→Addr→Result→Shared→Prop} {E:Value→Shared→Prop} (hc:X.calm = true) (S:CompScope X N cap scope) (I:Inv X pins σ H s) (T:Turn X.prog X.w X.K target J fp it tn) (st:tn 0 s.heap) (fo:∀ b ∈ fp,FpOk X pins H b)
  (hg:∀ C s₀ H₀,PG (cxComp X N scope C s₀ H₀ fp) target g) (ht:∀ C s₀ H₀,PTs (cxComp X N scope C s₀ H₀ fp) ifs tc) (he:∀ C s₀ H₀,PE (cxComp X N scope C s₀ H₀ fp) elt te)
  (h:Gath J cap g tc te Q σ H)
  (hRR:∀ D C s' H',Inv X pins σ H' s'→Q D H'→(∃ m,s'.heap.Ns C m)→H' C = none→X.s₀.heap.objs.size ≤ C→C ≠ X.env.locals→(∀ x c,X.env.cells.lookup x = some c→c ≠ C)→(∀ p ∈ X.pn ++ pins,p.1 ≠ C)→RR (.ref D) C (.ok .next) s') :
  wpAny (model X.prog X.w) X.A (newList []) (fun acc s₃=>wpAny (model X.prog X.w) X.A (newFunctionEnv scope X.env.globals (closOf X.env scope.names []) [] X.env.qual none .none (some X.env)) (fun cenv s₄ =>
   codeAny (model X.prog X.w) X.A (.compStart (.ListComp elt [⟨target,iter,ifs,0⟩] scope pos) 0 (.ref it) acc { cenv with scope:=relabel scope X.env }) (RR acc cenv.locals) s₄) E s₃) E s:=by
 have hfr:∀ a,s.heap.objs.size ≤ a→H a = none:=fun a ha=>I.hok.fresh ha
 obtain ⟨W,⟨m0,w0⟩,turn⟩:=h
 have fol:∀ b ∈ fp,b < s.heap.objs.size:=fun b hb=>by
  obtain ⟨o,ho,_⟩:=T.obj 0 _ st b hb
  exact Heap.lt_size ho
 have clt:∀ x c,X.env.cells.lookup x = some c→c < s.heap.objs.size:=fun x c e=>by
  obtain ⟨v,q⟩:=I.cell x c e
  exact q.lt
 refine wpAny_newObj_type (wpAny_newFunctionEnv S.nocell (by intro y hy; simp at hy) (fun h₁ hns₁ hsb₁=>?_) S.kind)
 dsimp only at hns₁ hsb₁ ⊢
 generalize hD:s.heap.objs.size = D at *
 generalize hH3:s.heap.push { cls:=.type "list",data:=.seq ([]:List Value).toArray } = H3 at *
 have hC:H3.objs.size = D + 1:=by rw [← hH3,Heap.size_push,hD]
 have keep3:∀ b o,s.heap.get? b = some o→H3.get? b = some o:=fun b o e=>by rw [← hH3]; exact Heap.get?_push_of_some _ e
 have keep4:∀ b o,H3.get? b = some o→h₁.get? b = some o:=fun b o e=>hsb₁.extBut b o (Nat.ne_of_lt (Heap.lt_size e)) (Heap.get?_push_of_some _ e)
 have D4:h₁.get? D = some (lobj [] 0):=keep4 _ _ (by rw [← hH3,← hD]; exact Heap.get?_push_size _ rfl)
 generalize hCC:H3.objs.size = C at *
 have hDC:D < C:=by omega
 have hDC':D ≤ C:=Nat.le_of_lt hDC
 have hL:X.env.locals < D:=by rw [← hD]; exact I.lt
 have I4:Inv (cxComp X N scope C s H fp) [] (capt cap σ) H { s with heap:=h₁,toks:=s.toks + ([]:List (Str × Value)).length } :=
  inv_comp S I (by omega) hns₁ (fun b o e=>keep4 b o (keep3 b o e)) fun b hb=>⟨by rw [hD]; exact fol b hb,fo b hb⟩
 have fp4:∀ {H':Hp} {ob:Obj},(∀ b ∈ fp,H' b = none)→∀ b ∈ fp,FpOk (cxComp X N scope C s H fp) [(D,ob)] H' b:=fun {H' ob} hn b hb=>by
  obtain ⟨f0,f1,f2,f3,f4,f5⟩:=fo b hb
  have hlt:=fol b hb
  refine ⟨hn b hb,?_,fun z=>?_,.inl hb,fun x c e=>f4 x c (closOf_ok (fun n c e=>by simp at e) x c e),fun p hp=>?_⟩
  ·exact Nat.ne_of_lt (Nat.lt_of_lt_of_le hlt hDC')
  ·rcases List.mem_cons.mp (I.stkSub b z) with e | e
   ·exact f1 e
   ·exact f2 e
  ·have hp':p ∈ [(D,ob)]:=hp
   rw [List.mem_singleton.mp hp']
   exact Nat.ne_of_gt hlt
 have st4:tn 0 h₁:=T.keep _ _ _ st fun b hb o e=>keep4 b o (keep3 b o e)
 have nfs:D ∉ (cxComp X N scope C s H fp).fs:=fun z=>by
  rcases List.mem_cons.mp (I.stkSub D z) with e | e
  ·exact Nat.ne_of_gt hL e
  ·exact I.nofs (Nat.le_of_eq hD) e
 have pinD:∀ {σ':St} {H':Hp} {s':Shared} {ob:Obj},Inv (cxComp X N scope C s H fp) [] σ' H' s'→H' D = none→s'.heap.get? D = some ob→(∀ v,ob.data ≠ .cell v)→Inv (cxComp X N scope C s H fp) [(D,ob)] σ' H' s':=fun {σ' H' s' ob} J hn e nc =>
  J.pins_of fun p hp=>by
   rw [List.mem_singleton.mp hp]
   exact ⟨e,hn,Nat.ne_of_lt hDC,nfs,nc⟩
 have loop : ∀ s₄ : Shared, s₄ = { s with heap := h₁, toks := s.toks + ([] : List (Str × Value)).length } →
   codeAny (model X.prog X.w) X.A (.compLoop (.ListComp elt [⟨target,iter,ifs,0⟩] scope pos) 0 (.ref it) (.ref D) (compEnvC scope (closOf X.env scope.names []) C X.env)) (RR (.ref D) C) s₄:=by
  rintro s₄ rfl
  refine comp_loop (fun n s'=>∃ i ys its k σ' H',Inv (cxComp X N scope C s H fp) [(D,lobj its k)] σ' H' s'∧Vals ys its∧tn i s'.heap∧(∀ b ∈ fp,H' b = none)∧W i n ys σ' H') ?_ m0
   ⟨0,[],[],0,_,_,pinD I4 (hfr D (Nat.le_refl _)) D4 (fun v z=>by cases z),.nil,st4,fun b hb=>(fo b hb).1,w0⟩
  rintro n s5 ⟨i,ys,its,k,σ5,H5,I5,rv5,st5,fr5,w5⟩
  have hpin:=I5.pin (D,lobj its k) (List.mem_append_right _ List.mem_cons_self)
  rcases turn i n ys σ5 H5 w5 with ⟨stop,hz,q⟩ | ⟨go,hz,NN,hNN,step⟩
  ·refine thn (T.done (cxComp X N scope C s H fp) rfl rfl rfl hc i _ s5 σ5 H5 _ I5 (fp4 fr5) st5 stop) fun r s6 ⟨hr,I6⟩=>?_
   subst hr
   have p6:=I6.pin (D,lobj its k) (List.mem_append_right _ List.mem_cons_self)
   have I7:Inv X pins σ (upd H5 D (.lst ys)) s6:=I.call' (ch:=fp) I6.os (I6.base.add (Nat.le_of_eq hD) p6.2.1) (I6.hok.add p6.2.1 ⟨hz,its,k,rv5,p6.1⟩) I6.bare fun b hb=>by
    obtain ⟨f0,f1,f2,f3,f4,f5⟩:=fo b hb
    exact ⟨f3,f1,f4,f5⟩
   obtain ⟨m6,hn6,_⟩:=I6.loc
   refine hRR _ C s6 _ I7 (q D p6.2.1) ⟨m6,hn6⟩ ?_ ?_ ?_ ?_ ?_
   ·rw [upd_ne (Nat.ne_of_gt hDC)]; exact I6.free
   ·exact Nat.le_trans (by rw [← hD]; exact I.sz) hDC'
   ·exact Nat.ne_of_gt (Nat.lt_of_lt_of_le hL hDC')
   ·intro x c e z
    exact Nat.ne_of_lt (Nat.lt_of_lt_of_le (clt x c e) hDC') z
   ·intro p hp z
    have h6:=Heap.lt_size (I.pin p hp).1
    rw [hD] at h6
    exact Nat.ne_of_lt (Nat.lt_of_lt_of_le h6 hDC') z
  ·refine thn (T.item (cxComp X N scope C s H fp) rfl rfl rfl hc i _ s5 σ5 H5 _ I5 (fp4 fr5) st5 go) fun r s6 ⟨u,hr,h6⟩=>?_
   subst hr
   refine thn h6 fun _ s7 ⟨x,H7,I7,r7,y7,st7,fr7⟩=>?_
   have I7':=I7.pinned (fp4 fr7) (T.obj _ _ st7)
   have kept:∀ {σ8:St} {H8:Hp} {s8:Shared},Inv (cxComp X N scope C s H fp) ([(D,lobj its k)] ++ pinsAt fp s7.heap) σ8 H8 s8→tn (i + 1) s8.heap∧∀ b ∈ fp,H8 b = none:=fun {σ8 H8 s8} I8 =>
    ⟨T.keep _ _ _ st7 fun b hb o e=>(I8.pin (b,o) (List.mem_append_right _ (List.mem_append_right _ (mem_pinsAt hb e)))).1,fun b hb=>by
     obtain ⟨o,e,d⟩:=T.obj _ _ st7 b hb
     exact (I8.pin (b,o) (List.mem_append_right _ (List.mem_append_right _ (mem_pinsAt hb e)))).2.1⟩
   refine wpAny_mono (hg C s H _ s7 σ5 H7 x u _ I7' r7 (step x H7 y7)) (fun _ s8 ⟨σ8,H8,I8,q8⟩=>?_) fun _ _ f=>f.elim
   refine wpAny_mono (ht C s H _ s8 σ8 H8 _ I8 q8) (fun ok s9 ⟨H9,I9,q9⟩=>?_) fun _ _ f=>f.elim
   cases ok with
   | false =>
    rw [if_neg Bool.false_ne_true] at q9 ⊢
    obtain ⟨m',hm,w9⟩:=hNN _ _ _ q9
    exact ⟨m',hm,i + 1,ys,its,k,σ8,H9,I9.unpinned,rv5,(kept I9).1,(kept I9).2,w9⟩
   | true =>
    rw [if_pos rfl] at q9 ⊢
    refine wpAny_mono (he C s H _ s9 σ8 H9 _ I9 q9) (fun y s10 ⟨yv,H10,I10,r10,n10⟩=>?_) fun _ _ f=>f.elim
    obtain ⟨m',hm,w10⟩:=hNN _ _ _ n10
    obtain ⟨k10,f10⟩:=kept I10
    have p10:=I10.pin (D,lobj its k) (List.mem_append_right _ (List.mem_append_left _ List.mem_cons_self))
    have hlen:=rv5.length
    refine wpAny_list_append_plain (hsz:=by rw [List.size_toArray]; omega) (show s10.heap.PlainList D its.toArray from ⟨k,p10.1⟩) fun h11 hl11 hsb11=>?_
    obtain ⟨k11,e11⟩:=hl11
    have J0:Inv (cxComp X N scope C s H fp) [] σ8 H10 s10:=I10.pins_of fun p hp=>nomatch hp
    have J1:Inv (cxComp X N scope C s H fp) [] σ8 H10 { s10 with heap:=h11 }:=J0.turned (t':=s10.toks) (fun b o hb e=>hsb11.extBut b o hb e) p10.2.1 (Nat.ne_of_lt hDC) (.inr (Nat.le_of_eq hD)) (fun x c e z=>Nat.ne_of_lt (clt x c (closOf_ok (fun n c e=>by simp at e) x c e)) z) fun p hp=>nomatch (show p ∈ ([]:List (Addr × Obj)) from hp)
    have e12:h11.get? D = some (lobj (its ++ [y]) k11):=by rw [e11]; simp [lobj]
    refine ⟨m',hm,i + 1,ys ++ [yv],its ++ [y],k11,σ8,H10,pinD J1 p10.2.1 e12 (fun v z=>by cases z),rv5.append (.cons r10 .nil),?_,f10,w10⟩
    exact T.keep _ _ _ k10 fun b hb o e=>hsb11.extBut b o (Nat.ne_of_lt (fol b hb)) e
 refine codeAny_compStart_list (loop _ ?_) (T.self X.A 0 _ _ _ ?_ (loop _ ?_))
 ·rfl
 ·exact st4
 ·rfl
theorem pe_comp {X : Cx} {N : List Str} {cap : List (Option Nat)} {scope : Scope} {elt target iter : Expr} {ifs : List Expr} {pos : Pos} {wi : TI} {g : TG} {tc : TT} {te : TE} (hc : X.calm = true) (S : CompScope X N cap scope) (hi : PI X target iter wi)
  (hg:∀ C s₀ H₀ ex,PG (cxComp X N scope C s₀ H₀ ex) target g) (ht:∀ C s₀ H₀ ex,PTs (cxComp X N scope C s₀ H₀ ex) ifs tc) (he:∀ C s₀ H₀ ex,PE (cxComp X N scope C s₀ H₀ ex) elt te)
  (hs:∀ x,foldedSetIterable iter X.env x = pure x:=by intro _; rfl) :
  PE X (.ListComp elt [⟨target,iter,ifs,0⟩] scope pos) (fun σ H Q=>tComp cap wi g tc te (fun D H'=>Q (.ref D) H') σ H):=by
 intro pins s σ H Q I h
 have hclos:closureFor scope X.env = pure (closOf X.env scope.names []):=closureFor_of fun y hy hf=>I.ok.has y.1 (S.fre y hy hf)
 rw [eval_ListComp]
 refine wpAny_comprehension_free (use:=none) rfl hs hclos S.kind S.loc (thn (hi pins s σ H _ I h) fun xv s1 h1=>thn h1 fun itv s2 h2=>?_)
 obtain ⟨it,fp,tn,J,H2,e,I2,T,st2,f2,q2⟩:=h2
 subst e
 refine comp_block (RR:=fun acc C=>compPost (model X.prog X.w) X.A X.xe none (EP X pins σ Q) acc C) hc S I2 T st2 f2 (fun C s₀ H₀=>hg C s₀ H₀ fp) (fun C s₀ H₀=>ht C s₀ H₀ fp) (fun C s₀ H₀=>he C s₀ H₀ fp) q2 ?_
 intro D C s' H' I' q ⟨m,hn⟩ hf hsz hL hcell hpin
 refine ⟨m,hn,fun h' hsb=>⟨.ref D,H',?_,rfl,q⟩⟩
 exact I'.turned (t':=s'.toks) (fun b o hb e=>hsb.extBut b o hb e) hf hL (.inr hsz) hcell hpin
theorem ps_comp {X : Cx} {N : List Str} {cap : List (Option Nat)} {scope : Scope} {elt target iter : Expr} {ifs : List Expr} {pos pos' spos : Pos} {wi : TI} {g : TG} {tc : TT} {te : TE} {i : Nat} {x : Str} (hc : X.calm = true) (S : CompScope X N cap scope) (hi : PI X target iter wi)
  (hg:∀ C s₀ H₀ ex,PG (cxComp X N scope C s₀ H₀ ex) target g) (ht:∀ C s₀ H₀ ex,PTs (cxComp X N scope C s₀ H₀ ex) ifs tc) (he:∀ C s₀ H₀ ex,PE (cxComp X N scope C s₀ H₀ ex) elt te)
  (hN:X.N.Nodup) (hix:X.N[i]? = some x) (hx:X.env.scope.names.lookup x = some .local) (hsw:swapsWith (.ListComp elt [⟨target,iter,ifs,0⟩] scope pos) (some (.Name x pos')) spos.line X.env = pure true:=by rfl)
  (hs:∀ x,foldedSetIterable iter X.env x = pure x:=by intro _; rfl) :
  PS X (.Assign [.Name x pos'] (.ListComp elt [⟨target,iter,ifs,0⟩] scope pos) spos) (fun D σ H=>tComp cap wi g tc te (fun d H'=>D.nx (σ.set i (some (.ref d))) H') σ H):=by
 intro pins s σ H D I h
 have hclos:closureFor scope X.env = pure (closOf X.env scope.names []):=closureFor_of fun y hy hf=>I.ok.has y.1 (S.fre y hy hf)
 rw [exec_Assign_Name_used _ _ _ _ hsw]
 refine wpAny_bind (wpAny_standAt (wpAny_bind ?_))
 show wpAny _ X.A (do let _ ← comprehension (.ListComp elt [⟨target,iter,ifs,0⟩] scope pos) scope X.env _ (newList []) false (eval iter X.env) (some (assign (.Name x pos') X.env))) _ _ s
 refine wpAny_bind (wpAny_mono (wpAny_comprehension_free (use:=some (assign (.Name x pos') X.env)) (Q:=fun _ s'=>SP X pins D .next s') rfl hs hclos S.kind S.loc
  (thn (hi pins s σ H _ I h) fun xv s1 h1=>thn h1 fun itv s2 h2=>?_)) (fun _ s' hq=>wpAny_pure (wpAny_pure hq)) fun _ _ e=>e)
 obtain ⟨it,fp,tn,J,H2,e,I2,T,st2,f2,q2⟩:=h2
 subst e
 refine comp_block (RR:=fun acc C=>compPost (model X.prog X.w) X.A X.xe (some (assign (.Name x pos') X.env)) (fun _ s'=>SP X pins D .next s') acc C) hc S I2 T st2 f2 (fun C s₀ H₀=>hg C s₀ H₀ fp) (fun C s₀ H₀=>ht C s₀ H₀ fp) (fun C s₀ H₀=>he C s₀ H₀ fp) q2 ?_
 intro d C s' H' I' q ⟨m,hn⟩ hf hsz hL hcell hpin
 show wpAny _ X.A (assign (.Name x pos') X.env (.ref d)) _ _ s'
 refine wpAny_assign_Name (store_ok2 I' hN hix (.inl hx) (show RelV (.ref d) (.ref d) from rfl) (fun s'' I'' ⟨a,hsb,ha⟩=>?_) (.inr hx))
 have hCa:C ≠ a:=by
  rcases ha with z | z
  ·rw [z]; exact hL
  ·exact fun w=>hcell x a z w.symm
 refine ⟨m,hn.sameBut hsb hCa,fun h' hsb'=>⟨_,H',?_,q⟩⟩
 exact I''.turned (t':=s''.toks) (fun b o hb e=>hsb'.extBut b o hb e) hf hL (.inr hsz) hcell hpin
end L2
namespace L2
open PySem PySem.Spec PyProof.Rows
def Its (x:Str):It:=⟨fun i _=>i < x.cps.size,fun i H v H'=>H' = H∧∃ c,x.cps[i]? = some c∧v = .str ⟨#[c]⟩,fun i _=>i = x.cps.size⟩
theorem turn_str {P : Program} {w : World} {K : PySem.W.Frag} {tg : Expr} (ty : String) (it : Addr) (x : Str) (t : Tok)
  (hw:∀ A':Around,A'.handled = none→Walks P w A' it [it] [it] x.cps.size (SignAt x) (fun i h=>h.IsStrIter it ty x t i))
  (hself:∀ (A:Around) (i:Nat) (s:Shared) (Q:Value→Shared→Prop) (E:Value→Shared→Prop),s.heap.IsStrIter it ty x t i→Q (.ref it) s→wpAny (model P w) A (pyIter (.ref it)) Q E s)
  (hn:["enumerate","zip","dict_itemiterator","dict_reverseitemiterator","odict_iterator","itertools.zip_longest","itertools.pairwise"].contains ty = false) :
  Turn P w K tg (Its x) [it] it (fun i h=>h.IsStrIter it ty x t i) where
 mem:=by simp
 obj:=fun i h st b hb=>by
  have e:b = it:=by simpa using hb
  subst e
  obtain ⟨o,e,c,d⟩:=st
  exact ⟨o,e,fun v z=>by rw [d] at z; cases z⟩
 keep:=fun i h h' st k=>let ⟨o,e,r⟩:=st; ⟨o,k it (by simp) o e,r⟩
 item:=by
  intro X hP hw' hK hc i pins s σ H E I hf st hg
  subst hP hw' hK
  obtain ⟨f0,f1,f2,f3,f4,f5⟩:=hf it (by simp)
  refine (hw X.A (I.ok.hd hc)).item i s _ _ hg st fun v h' tk hv st' kk=>?_
  obtain ⟨c,u,hc',rfl⟩:=hv
  have I1:Inv X pins σ H { s with heap:=h',toks:=tk }:=I.turned (fun b o hb e=>kk b o (by simpa using hb) e) f0 f1 f3 f4 f5
  obtain ⟨o,e,cc,d⟩:=id st'
  exact ⟨_,rfl,go_of (s:={ s with heap:=h',toks:=tk }) e cc d hn ⟨.str ⟨#[c]⟩,H,I1,⟨u,rfl⟩,⟨rfl,c,hc',rfl⟩,st',fun b hb=>(hf b hb).1⟩⟩
 done:=by
  intro X hP hw' hK hc i pins s σ H E I hf st hg
  subst hP hw' hK
  obtain ⟨f0,f1,f2,f3,f4,f5⟩:=hf it (by simp)
  have hg':i = x.cps.size:=hg
  subst hg'
  exact (hw X.A (I.ok.hd hc)).done s _ _ st fun h' tk kk=>⟨rfl,I.turned (fun b o hb e=>kk b o (by simpa using hb) e) f0 f1 f3 f4 f5⟩
 self:=hself
section
variable {X:Cx}
theorem op_le_str:OpR X (compareOp .LtE) (fun x y H Q=>∃ i j,x = .str i∧y = .str j∧Q (.bl (!decide (j.cps.toList < i.cps.toList))) H):=by
 intro pins s σ H x y v u Q I r1 r2 h
 obtain ⟨i,j,rfl,rfl,q⟩:=h
 obtain ⟨t,rfl⟩:=r1
 obtain ⟨t',rfl⟩:=r2
 exact PySem.P.le_str ⟨.bl _,H,I,rfl,q⟩
theorem op_mul_str:OpR X (binaryOp .Mult) (fun x y H Q=>∃ z n,x = .str z∧y = .int n∧MulOk z n∧Q (.str (Txt.mul z n)) H):=by
 intro pins s σ H x y v u Q I r1 r2 h
 obtain ⟨z,n,rfl,rfl,ok,q⟩:=h
 obtain ⟨t,rfl⟩:=r1
 obtain ⟨t',rfl⟩:=r2
 exact SB.mul ok fun t' k=>⟨.str _,H,I.tok k,⟨t',rfl⟩,q⟩
theorem strs_vals:∀ (l:List (Str × Tok)),Vals (l.map fun p=>V.str p.1) (strValues l)
 | []=>.nil
 | (x,t) :: l=>.cons ⟨t,rfl⟩ (strs_vals l)
def rSplit:V→List V→Hp→VK→Prop:=fun x vs H Q=>∃ z y,x = .str z∧vs = [.str y]∧y.length ≠ 0∧z.length < sizeLine∧(Txt.split z y).length ≤ sizeLine∧∀ l,H l = none→Q (.ref l) (upd H l (.lst ((Txt.split z y).map V.str)))
theorem split_laid {pins : List (Addr × Obj)} {σ : St} {H : Hp} {s : Shared} {l : List (Str × Tok)} {ts : List Str} {tk : Nat} {Q : VK} (I : Inv X pins σ H s) (e : l.map (·.1) = ts) (hz : ts.length ≤ sizeLine) (q : ∀ l, H l = none → Q (.ref l) (upd H l (.lst (ts.map V.str)))) :
  EP X pins σ Q (.ref s.heap.objs.size) { s with heap:=s.heap.push { cls:=.type "list",data:=.seq (strValues l).toArray },toks:=tk }:=by
 subst e
 refine ⟨.ref s.heap.objs.size,_,I.laid (o:=.lst ((l.map (·.1)).map V.str)) (fun b ob q=>Heap.get?_push_of_some _ q) (Nat.le_refl _) ?_,rfl,q _ (I.hok.fresh (Nat.le_refl _))⟩
 refine ⟨by rw [List.length_map]; exact hz,strValues l,0,?_,Heap.get?_push_size _ rfl⟩
 have:=strs_vals l
 rw [List.map_map]
 exact this
open Builtin Builtin.Str in
theorem mt_split:MtR X "str.split" rSplit:=by
 intro pins s σ H x xs v us Q I rx rs h
 obtain ⟨z,y,rfl,rfl,hy0,hz,hl,q⟩:=h
 obtain ⟨t,rfl⟩:=rx
 obtain ⟨uu,rfl,ru⟩:=vals1 rs
 obtain ⟨u,rfl⟩:=ru
 have hy:(y.length == 0) = false:=by simpa using hy0
 have hz':z.length ≤ sizeLine:=Nat.le_of_lt hz
 unfold Txt.split at hl q
 cases h1:(decide (z.length < y.length) || decide (strKind z < strKind y))
 ·rw [h1] at hl q
  simp only [Bool.false_eq_true,if_false] at hl q
  cases hf:(occurrences z y 0 z.length (z.length + 1)).isEmpty
  ·rw [hf] at hl q
   simp only [Bool.false_eq_true,if_false] at hl q
   refine call_meets F.slot_str_split (typeIs_str _ _ _) F.entry_str_split (F.args_str_split_2 _ _) (meets_str_split_sep z y t u h1 hy hf hz' hl) ?_
   show wants _ _ _ { s with toks:=_,heap:=s.heap.push { cls:=.type "list",data:=.seq (strsFrom s.toks (partsBetween z (occurrences z y 0 z.length (z.length + 1)) y.length)).toArray } }
   rw [strsFrom_eq]
   exact split_laid (l:=numbered s.toks _) I (numbered_texts _ _) hl q
  ·rw [hf] at hl q
   simp only [if_true] at hl q
   exact call_meets F.slot_str_split (typeIs_str _ _ _) F.entry_str_split (F.args_str_split_2 _ _) (meets_str_split_not_found z y t u h1 hy hf)
    (split_laid (l:=[(z,t)]) (tk:=s.toks) I rfl hl q)
 ·rw [h1] at hl q
  simp only [if_true] at hl q
  exact call_meets F.slot_str_split (typeIs_str _ _ _) F.entry_str_split (F.args_str_split_2 _ _) (meets_str_split_cannot_occur z y t u h1)
   (split_laid (l:=[(z,t)]) (tk:=s.toks) I rfl hl q)
def rSlS:V→Option Int→Option Int→Hp→VK→Prop:=fun x lo hi H Q=>∃ z,x = .str z∧z.length ≤ sizeLine∧Q (.str (Txt.slice z lo hi)) H
theorem sl_str:SlR X rSlS:=by
 intro pins s σ H x v vl vu lo hi sl Q I rx hs pl pu h
 obtain ⟨z,rfl,hz,q⟩:=h
 obtain ⟨t,rfl⟩:=rx
 refine ⟨"str",_,F.slot_str_getitem.lookup,typeIs_str _ _ _,?_⟩
 have fin:∀ t' k,EP X pins σ Q (.str (Txt.slice z lo hi) t') { s with toks:=k }:=fun t' k=>⟨.str _,H,I.tok k,⟨t',rfl⟩,q⟩
 cases pl with
 | none =>
  cases pu with
  | none=>exact wpAny_getItem_str_slice (l:=none) (u:=none) (st:=none) hs rfl (post_val_or_str ⟨Nat.le_trans (Txt.slice_le z _ _) hz,fin⟩)
  | int j uj=>exact wpAny_getItem_str_slice (l:=none) (u:=some (j,uj)) (st:=none) hs rfl (post_val_or_str ⟨Nat.le_trans (Txt.slice_le z _ _) hz,fin⟩)
 | int i ui =>
  cases pu with
  | none=>exact wpAny_getItem_str_slice (l:=some (i,ui)) (u:=none) (st:=none) hs rfl (post_val_or_str ⟨Nat.le_trans (Txt.slice_le z _ _) hz,fin⟩)
  | int j uj=>exact wpAny_getItem_str_slice (l:=some (i,ui)) (u:=some (j,uj)) (st:=none) hs rfl (post_val_or_str ⟨Nat.le_trans (Txt.slice_le z _ _) hz,fin⟩)
end
mutual
inductive DatV (K:PySem.W.Frag) (H:Hp):V→PyData→Prop
 | none:DatV K H .non .none
 | bool (b:Bool):DatV K H (.bl b) (.bool b)
 | int (i:Int):DatV K H (.int i) (.int i)
 | str (x:Str):DatV K H (.str x) (.str x)
 | list {a:Addr} {xs:List V} {ds:List PyData}:SqL K H a xs→DatVs K H xs ds→DatV K H (.ref a) (.list ds)
 | tuple {a:Addr} {xs:List V} {ds:List PyData}:SqT K H a xs→DatVs K H xs ds→DatV K H (.ref a) (.tuple ds)
inductive DatVs (K:PySem.W.Frag) (H:Hp):List V→List PyData→Prop
 | nil:DatVs K H [] []
 | cons {x:V} {xs:List V} {d:PyData} {ds:List PyData}:DatV K H x d→DatVs K H xs ds→DatVs K H (x :: xs) (d :: ds)
end
theorem Same.seqT {K:PySem.W.Frag} {H H':Hp} {a:Addr} {xs:List V} (e:Same H H') (h:SqT K H a xs):SqT K H' a xs:=by
 rcases h with (h | ⟨o,h⟩) | h
 ·exact .inl (.inl (e _ _ h))
 ·exact .inl (.inr ⟨o,e _ _ h⟩)
 ·exact .inr h
mutual
theorem DatV.same {K:PySem.W.Frag} {H H':Hp} (e:Same H H'):∀ {x:V} {d:PyData},DatV K H x d→DatV K H' x d
 | _,_,.none=>.none
 | _,_,.bool b=>.bool b
 | _,_,.int i=>.int i
 | _,_,.str x=>.str x
 | _,_,.list h hs=>.list (e.seq h) (DatVs.same e hs)
 | _,_,.tuple h hs=>.tuple (e.seqT h) (DatVs.same e hs)
theorem DatVs.same {K:PySem.W.Frag} {H H':Hp} (e:Same H H'):∀ {xs:List V} {ds:List PyData},DatVs K H xs ds→DatVs K H' xs ds
 | _,_,.nil=>.nil
 | _,_,.cons h hs=>.cons (DatV.same e h) (DatVs.same e hs)
end
mutual
theorem DatV.reads {X:Cx} {pins:List (Addr × Obj)} {σ:St} {H:Hp} {s:Shared} (I:Inv X pins σ H s):∀ {x:V} {d:PyData} {u:Value},DatV X.K H x d→RelV x u→∃ as,Reads s.heap u d as
 | _,_,_,.none,r=>by cases r; exact ⟨_,.none⟩
 | _,_,_,.bool b,r=>by cases r; exact ⟨_,.bool b⟩
 | _,_,_,.int i,r=>by obtain ⟨t,rfl⟩:=r; exact ⟨_,.int i t⟩
 | _,_,_,.str x,r=>by obtain ⟨t,rfl⟩:=r; exact ⟨_,.str x t⟩
 | _,_,_,.list h hs,r=>by
  cases r
  obtain ⟨its,rv,⟨o,n,h1,h2,h3,h4⟩,hz⟩:=I.list h
  obtain ⟨as,ra⟩:=DatVs.reads I hs rv
  exact ⟨_,.list h1 h2 h4 ra⟩
 | _,_,_,.tuple h hs,r=>by
  cases r
  obtain ⟨its,rv,⟨o,h1,h2,n,h4⟩,hz⟩:=I.tuple h
  obtain ⟨as,ra⟩:=DatVs.reads I hs rv
  exact ⟨_,.tuple h1 h2 h4 ra⟩
theorem DatVs.reads {X:Cx} {pins:List (Addr × Obj)} {σ:St} {H:Hp} {s:Shared} (I:Inv X pins σ H s):∀ {xs:List V} {ds:List PyData} {us:List Value},DatVs X.K H xs ds→Vals xs us→∃ as,ReadsAll s.heap us ds as
 | _,_,_,.nil,r=>by cases r; exact ⟨_,.nil⟩
 | _,_,_,.cons h hs,r=>by
  cases r with
  | cons r1 r2 =>
   obtain ⟨as,ra⟩:=DatV.reads I h r1
   obtain ⟨bs,rb⟩:=DatVs.reads I hs r2
   exact ⟨_,.cons ra rb⟩
end
theorem DatVs.length {K:PySem.W.Frag} {H:Hp}:∀ {xs:List V} {ds:List PyData},DatVs K H xs ds→xs.length = ds.length
 | _,_,.nil=>rfl
 | _,_,.cons _ hs=>by rw [List.length_cons,List.length_cons,DatVs.length hs]
theorem DatVs.get {K:PySem.W.Frag} {H:Hp}:∀ {xs:List V} {ds:List PyData} {i:Nat} {x:V},DatVs K H xs ds→xs[i]? = some x→∃ d,ds[i]? = some d∧DatV K H x d
 | _,_,_,_,.nil,e=>by simp at e
 | _,_,0,_,.cons h _,e=>by simp at e; subst e; exact ⟨_,rfl,h⟩
 | _,_,i + 1,x,.cons _ hs,e=>by
  obtain ⟨d,h1,h2⟩:=DatVs.get (i:=i) (x:=x) hs (by simpa using e)
  exact ⟨d,by simpa using h1,h2⟩
theorem DatVs.snoc {K:PySem.W.Frag} {H:Hp} {x:V} {d:PyData} (h:DatV K H x d):∀ {xs:List V} {ds:List PyData},DatVs K H xs ds→DatVs K H (xs ++ [x]) (ds ++ [d])
 | _,_,.nil=>.cons h .nil
 | _,_,.cons h' hs=>.cons h' (DatVs.snoc h hs)
def rEqD (K:PySem.W.Frag):R2:=fun x y H Q=>∃ da db,DatV K H x da∧DatV K H y db∧da.canLay0 = true∧db.canLay0 = true∧min da.depth db.depth ≤ 60∧Q (.bl (PyData.eqv da db)) H
def rNeD (K:PySem.W.Frag):R2:=fun x y H Q=>∃ da db,DatV K H x da∧DatV K H y db∧da.canLay0 = true∧db.canLay0 = true∧min da.depth db.depth ≤ 60∧Q (.bl (!PyData.eqv da db)) H
theorem op_eqD {X:Cx} (hu:X.A.units + 64 < cLine):OpR X (compareOp .Eq) (rEqD X.K):=by
 intro pins s σ H x y v u Q I rx ry h
 obtain ⟨da,db,h1,h2,l1,l2,hd,q⟩:=h
 obtain ⟨as,ra⟩:=h1.reads I rx
 obtain ⟨bs,rb⟩:=h2.reads I ry
 exact SeqAt.compareEq_reads ra rb l1 l2 (by omega) ⟨.bl _,H,I,rfl,q⟩
theorem op_neD {X:Cx} (hu:X.A.units + 64 < cLine):OpR X (compareOp .NotEq) (rNeD X.K):=by
 intro pins s σ H x y v u Q I rx ry h
 obtain ⟨da,db,h1,h2,l1,l2,hd,q⟩:=h
 obtain ⟨as,ra⟩:=h1.reads I rx
 obtain ⟨bs,rb⟩:=h2.reads I ry
 exact SeqAt.compareNe_reads ra rb l1 l2 (by omega) ⟨.bl _,H,I,rfl,q⟩
end L2
namespace L2
open PySem PySem.Spec PyProof.Rows
structure KTab (K:PySem.W.Frag) (w:World) (a:Addr) (kvs:List (Str × V)):Prop where
 ex:∃ es n,K.lookup a = some ⟨.type "dict",none,.dict es n,#[]⟩∧PySem.W.KeysLit w.params es.toList∧Paired (fun (p:Str × V) (e:DictEntry)=>(∃ t,e.key = .str p.1 t)∧RelV p.2 e.val) kvs es.toList
 lo:(a == sysModules) = false
theorem findBy_rel {kvs:List (Str × V)} {es:List DictEntry} (r:Paired (fun (p:Str × V) (e:DictEntry)=>(∃ t,e.key = .str p.1 t)∧RelV p.2 e.val) kvs es) (x:Str):RelO (kvs.lookup x) (findBy Value.isStrOf es.toArray x):=by
 unfold findBy
 rw [List.find?_toArray]
 induction r with
 | nil=>exact True.intro
 | @cons p e ps qs h t ih =>
  obtain ⟨⟨tk,hk⟩,hv⟩:=h
  rw [List.lookup_cons,List.find?_cons,hk]
  by_cases q:x = p.1
  ·subst q
   simp only [beq_self_eq_true]
   have:Value.isStrOf p.1 (.str p.1 tk) = true:=by simp [Value.isStrOf]
   rw [this]
   exact hv
  ·have h1:(x == p.1) = false:=by simpa using q
   have h2:Value.isStrOf x (.str p.1 tk) = false:=by
    simp only [Value.isStrOf]
    simpa using fun z=>q z.symm
   rw [h1,h2]
   exact ih
theorem KTab.map {X : Cx} {pins : List (Addr × Obj)} {σ : St} {H : Hp} {s : Shared} {a : Addr} {kvs : List (Str × V)} (T : KTab X.K X.w a kvs) (I : Inv X pins σ H s) :
  ∃ f:Str→Option Value,s.heap.MapOf (strKind X.prog X.w) a f∧∀ x,RelO (kvs.lookup x) (f x):=by
 obtain ⟨es,n,hl,hk,r⟩:=T.ex
 refine ⟨_,PySem.W.mapOf_K (prog:=X.prog) I.kIn hl hk,fun x=>?_⟩
 have:=findBy_rel r x
 simpa using this
section
variable {X:Cx} {o e f:Expr} {apos cpos pos:Pos} {td ty tx:TE}
theorem MapOf.dict {h:Heap} {P:Program} {w:World} {a:Addr} {f:Str→Option Value} (m:h.MapOf (strKind P w) a f):∀ b,Value.ref a = .ref b→∃ ob,h.get? b = some ob∧ob.dict = none:=fun b q=>by
 cases q
 obtain ⟨ob,_,_,h1,h2,_⟩:=m
 exact ⟨ob,h1,h2.2.1⟩
def rIxK (K:PySem.W.Frag) (w:World):R2:=fun x y H Q=>∃ a kvs k v,x = .ref a∧y = .str k∧KTab K w a kvs∧kvs.lookup k = some v∧Q v H
theorem ix_ktab:IxR X (rIxK X.K X.w):=by
 intro value slice pins s σ H x y v u Q I rx ry h hs
 obtain ⟨a,kvs,k,z,rfl,rfl,T,hl,q⟩:=h
 cases rx
 obtain ⟨t,rfl⟩:=ry
 obtain ⟨f2,m2,r2⟩:=T.map I
 obtain ⟨w',hw,rw'⟩:=RelO.some_of (v:=z) (o:=f2 k) (by rw [← hl]; exact r2 k)
 exact tail_any m2.typeIs slot_dict_getitem.lookup (wpAny_getItem_of (strKind_is X.prog X.w k t) m2 hw ⟨z,H,I.tok _,rw',q⟩) hs
end
end L2
namespace L2
open PySem PySem.Spec PyProof.Rows
section
variable {X:Cx} {a b c e o:Expr} {ta tb tc te:TE} {pos p:Pos}
def mVar (i:Nat):TE:=fun σ H Q=>match σ[i]? with
 | some (some v)=>Q v H
 | _=>False
theorem mVar_eq (i:Nat):mVar i = tVar i:=by
 funext σ H Q
 refine propext ⟨fun h=>?_,fun ⟨v,e,h⟩=>?_⟩
 ·unfold mVar at h
  split at h
  ·exact ⟨_,‹_›,h⟩
  ·exact h.elim
 ·unfold mVar
  rw [e]
  exact h
theorem pn (i : Nat) {x : Str} {pos : Pos} (hN : X.N[i]? = some x := by rfl) (hv : Vis X.env.scope x := by first | exact Or.inl rfl | exact Or.inr (Or.inl rfl) | exact Or.inr (Or.inr rfl)) (hd : (x == ("__debug__" : Str)) = false := by decide)
  (hcd:(x == ("__classdict__":Str)) = false:=by decide):PE X (.Name x pos) (mVar i):=by
 rw [mVar_eq]
 exact pe_var hN hv hd hcd
def mTest (t:TE):TT:=fun σ H Q=>t σ H fun x H'=>match x with
 | .bl k=>Q k H'
 | _=>False
theorem mTest_eq (t:TE):mTest t = tTest t:=by
 funext σ H Q
 unfold mTest tTest
 congr 1
 funext x H'
 refine propext ⟨fun h=>?_,fun ⟨k,e,h⟩=>?_⟩
 ·split at h
  ·exact ⟨_,rfl,h⟩
  ·exact h.elim
 ·subst e
  exact h
theorem mTest_eqB (t:TE):mTest t = tB t:=by rw [mTest_eq]; rfl
theorem pt_cmpM {op:CmpOp} {r:R2} (ho:OpR X (compareOp op) r) (ha:PE X a ta) (hb:PE X b tb) (hm:behindInMarks op b = false:=by first | exact nomark _ | rfl):PT X (.Compare a [op] [b] pos) (mTest (tOp r ta tb)):=by
 rw [mTest_eq]
 exact pt_cmpR ho ha hb hm
theorem pt_chainM {op op' : CmpOp} {r r' : R2} (ho : OpR X (compareOp op) r) (ho' : OpR X (compareOp op') r') (ha : PE X a ta) (hb : PE X b tb) (hc : PE X c tc)
  (hm:lastMarks [op,op'] [b,c] = false:=by with_unfolding_all rfl):PT X (.Compare a [op,op'] [b,c] pos) (mTest (tChain r r' ta tb tc)):=by
 rw [mTest_eq]
 exact pt_chain ho ho' ha hb hc hm
theorem pt_valM {e:Expr} {t:TE} (h:PE X e t) (he:∀ whole,isTrue e X.env whole = (do let v ← whole; standAt e.pos; holding [v] (truthy v)):=by intro _; rfl):PT X e (mTest t):=by
 rw [mTest_eqB]
 exact pt_val h he
def mTruth (K:PySem.W.Frag) (t:TE):TT:=fun σ H Q=>t σ H fun x H'=>∃ k,TruV K x H' k∧Q k H'
def mOrV (ta tb:TE):TE:=fun σ H Q=>ta σ H fun x H1=>match x with
 | .bl c=>if c = true then Q (.bl true) H1 else tb σ H1 Q
 | _=>False
theorem mOrV_eq (ta tb:TE):mOrV ta tb = tOrV ta tb:=by
 funext σ H Q
 unfold mOrV tOrV
 congr 1
 funext x H'
 refine propext ⟨fun h=>?_,fun ⟨k,e,h⟩=>?_⟩
 ·split at h
  ·exact ⟨_,rfl,h⟩
  ·exact h.elim
 ·subst e; exact h
theorem pe_orM {rest:List Expr} (ha:PE X a ta) (hb:PE X (.BoolOp .Or (b :: rest) pos) tb):PE X (.BoolOp .Or (a :: b :: rest) pos) (mOrV ta tb):=by rw [mOrV_eq]; exact pe_or ha hb
def mChain (r r':R2) (ta tb tc:TE):TE:=fun σ H Q=>ta σ H fun x H1=>tb σ H1 fun y H2=>r x y H2 fun z H3=>match z with
 | .bl k=>if k = true then tc σ H3 fun w' H4=>r' y w' H4 Q else Q (.bl false) H3
 | _=>False
theorem mChain_eq (r r':R2) (ta tb tc:TE):mChain r r' ta tb tc = tChain r r' ta tb tc:=by
 funext σ H Q
 unfold mChain tChain
 congr 1
 funext x H1
 congr 1
 funext y H2
 congr 1
 funext z H3
 refine propext ⟨fun h=>?_,fun ⟨k,e,h⟩=>?_⟩
 ·split at h
  ·exact ⟨_,rfl,h⟩
  ·exact h.elim
 ·subst e; exact h
def gAdd (K:PySem.W.Frag):R2:=fun x y H Q=>match x,y with
 | .int i,.int j=>Q (.int (i + j)) H
 | .str i,.str j=>i.length + j.length ≤ sizeLine∧Q (.str (i ++ j)) H
 | .ref l, .ref b => (∃ xs zs, H l = some (.lst xs) ∧ H b = some (.lst zs) ∧ xs.length + zs.length ≤ sizeLine ∧ ∀ p, H p = none → Q (.ref p) (upd H p (.lst (xs ++ zs)))) ∨
   ∃ xs ys,SqT K H l xs∧SqT K H b ys∧xs ≠ []∧xs.length + ys.length ≤ sizeLine∧(ys = []→Q (.ref l) H)∧(ys ≠ []→∀ p,H p = none→Q (.ref p) (upd H p (.tup (xs ++ ys))))
 | _,_=>False
theorem og_add {K:PySem.W.Frag} (hK:X.K = K:=by rfl):OpR X (binaryOp .Add) (gAdd K):=by
 subst hK
 intro pins s σ H x y v u Q I rx ry h
 unfold gAdd at h
 split at h
 ·exact op_add pins s σ H _ _ v u Q I rx ry ⟨_,_,rfl,rfl,h⟩
 ·exact op_add_str pins s σ H _ _ v u Q I rx ry ⟨_,_,rfl,rfl,h.1,h.2⟩
 ·rcases h with ⟨xs,zs,h1,h2,h3,h4⟩ | ⟨xs,ys,h1,h2,h3,h4,h5,h6⟩
  ·exact op_cat pins s σ H _ _ v u Q I rx ry ⟨_,_,xs,zs,rfl,rfl,h1,h2,h3,h4⟩
  ·exact op_catT pins s σ H _ _ v u Q I rx ry ⟨_,_,xs,ys,rfl,rfl,h1,h2,h3,h4,h5,h6⟩
 ·exact h.elim
def gMinus:R2:=fun x y H Q=>match x,y with
 | .int i,.int j=>Q (.int (i - j)) H
 | _,_=>False
theorem og_sub:OpR X (binaryOp .Sub) gMinus:=by
 intro pins s σ H x y v u Q I rx ry h
 unfold gMinus at h
 split at h
 ·exact op_sub pins s σ H _ _ v u Q I rx ry ⟨_,_,rfl,rfl,h⟩
 ·exact h.elim
def gMul:R2:=fun x y H Q=>match x,y with
 | .int i,.int j=>CMul i j∧Q (.int (i * j)) H
 | .str z,.int n=>MulOk z n∧Q (.str (Txt.mul z n)) H
 | .ref l,.int k=>∃ xs,H l = some (.lst xs)∧-(2 ^ 63) ≤ k∧k < 2 ^ 63∧xs.length * k.toNat ≤ sizeLine∧∀ p,H p = none→Q (.ref p) (upd H p (.lst (List.replicate k.toNat xs).flatten))
 | _,_=>False
theorem og_mul:OpR X (binaryOp .Mult) gMul:=by
 intro pins s σ H x y v u Q I rx ry h
 unfold gMul at h
 split at h
 ·exact op_mul pins s σ H _ _ v u Q I rx ry ⟨_,_,rfl,rfl,h.1,h.2⟩
 ·exact op_mul_str pins s σ H _ _ v u Q I rx ry ⟨_,_,rfl,rfl,h.1,h.2⟩
 ·obtain ⟨xs,h1,h2,h3,h4,h5⟩:=h
  exact op_rep pins s σ H _ _ v u Q I rx ry ⟨_,_,xs,rfl,rfl,h1,h2,h3,h4,h5⟩
 ·exact h.elim
def gDiv:R2:=fun x y H Q=>match x,y with
 | .int i,.int j=>CDiv i j∧Q (.int (i / j)) H
 | _,_=>False
theorem og_div:OpR X (binaryOp .FloorDiv) gDiv:=by
 intro pins s σ H x y v u Q I rx ry h
 unfold gDiv at h
 split at h
 ·exact op_fdiv pins s σ H _ _ v u Q I rx ry ⟨_,_,rfl,rfl,h.1,h.2⟩
 ·exact h.elim
def gMod:R2:=fun x y H Q=>match x,y with
 | .int i,.int j=>0 < j∧Q (.int (i % j)) H
 | _,_=>False
theorem og_mod:OpR X (binaryOp .Mod) gMod:=by
 intro pins s σ H x y v u Q I rx ry h
 unfold gMod at h
 split at h
 ·exact op_mod pins s σ H _ _ v u Q I rx ry ⟨_,_,rfl,rfl,h.1,h.2⟩
 ·exact h.elim
def gEq (K:PySem.W.Frag) (neg:Bool):R2:=fun x y H Q=>match x,y with
 | .int i,.int j=>Q (.bl (neg ^^ decide (i = j))) H
 | .str i,.str j=>Q (.bl (neg ^^ decide (i = j))) H
 | .bl i,.bl j=>Q (.bl (neg ^^ decide (i = j))) H
 | .ref i,.ref j=>∃ da db,DatV K H (.ref i) da∧DatV K H (.ref j) db∧da.canLay0 = true∧db.canLay0 = true∧min da.depth db.depth ≤ 60∧Q (.bl (neg ^^ PyData.eqv da db)) H
 | _,_=>False
theorem og_eq (hu:X.A.units + 64 < cLine) {K:PySem.W.Frag} (hK:X.K = K:=by rfl):OpR X (compareOp .Eq) (gEq K false):=by
 subst hK
 intro pins s σ H x y v u Q I rx ry h
 unfold gEq at h
 split at h
 ·refine op_eq pins s σ H _ _ v u Q I rx ry ⟨rfl,?_⟩
  simpa using h
 ·refine op_eq pins s σ H _ _ v u Q I rx ry ⟨rfl,?_⟩
  simpa using h
 ·refine op_eq pins s σ H _ _ v u Q I rx ry ⟨rfl,?_⟩
  simpa using h
 ·obtain ⟨da,db,h1,h2,h3,h4,h5,h6⟩:=h
  exact op_eqD hu pins s σ H _ _ v u Q I rx ry ⟨da,db,h1,h2,h3,h4,h5,by simpa using h6⟩
 ·exact h.elim
theorem og_ne (hu:X.A.units + 64 < cLine) {K:PySem.W.Frag} (hK:X.K = K:=by rfl):OpR X (compareOp .NotEq) (gEq K true):=by
 subst hK
 intro pins s σ H x y v u Q I rx ry h
 unfold gEq at h
 split at h
 ·refine op_ne pins s σ H _ _ v u Q I rx ry ⟨rfl,?_⟩
  simpa using h
 ·refine op_ne pins s σ H _ _ v u Q I rx ry ⟨rfl,?_⟩
  simpa using h
 ·refine op_ne pins s σ H _ _ v u Q I rx ry ⟨rfl,?_⟩
  simpa using h
 ·obtain ⟨da,db,h1,h2,h3,h4,h5,h6⟩:=h
  exact op_neD hu pins s σ H _ _ v u Q I rx ry ⟨da,db,h1,h2,h3,h4,h5,by simpa using h6⟩
 ·exact h.elim
def gLt:R2:=fun x y H Q=>match x,y with
 | .int i,.int j=>Q (.bl (decide (i < j))) H
 | .str i,.str j=>Q (.bl (decide (i.cps.toList < j.cps.toList))) H
 | _,_=>False
theorem og_lt:OpR X (compareOp .Lt) gLt:=by
 intro pins s σ H x y v u Q I rx ry h
 unfold gLt at h
 split at h
 ·exact op_lt pins s σ H _ _ v u Q I rx ry ⟨_,_,rfl,rfl,h⟩
 ·exact op_lt_str pins s σ H _ _ v u Q I rx ry ⟨_,_,rfl,rfl,h⟩
 ·exact h.elim
def gLe:R2:=fun x y H Q=>match x,y with
 | .int i,.int j=>Q (.bl (decide (i ≤ j))) H
 | .str i,.str j=>Q (.bl (!decide (j.cps.toList < i.cps.toList))) H
 | _,_=>False
theorem og_le:OpR X (compareOp .LtE) gLe:=by
 intro pins s σ H x y v u Q I rx ry h
 unfold gLe at h
 split at h
 ·exact op_le pins s σ H _ _ v u Q I rx ry ⟨_,_,rfl,rfl,h⟩
 ·exact op_le_str pins s σ H _ _ v u Q I rx ry ⟨_,_,rfl,rfl,h⟩
 ·exact h.elim
def gGt:R2:=fun x y H Q=>match x,y with
 | .int i,.int j=>Q (.bl (decide (j < i))) H
 | _,_=>False
theorem og_gt:OpR X (compareOp .Gt) gGt:=by
 intro pins s σ H x y v u Q I rx ry h
 unfold gGt at h
 split at h
 ·exact op_gt pins s σ H _ _ v u Q I rx ry ⟨_,_,rfl,rfl,h⟩
 ·exact h.elim
def gIn (K:PySem.W.Frag) (neg:Bool):R2:=fun x y H Q=>match y with
 | .str j=>(match x with
  | .str i=>Q (.bl (neg ^^ !(Builtin.Str.occurrences j i 0 j.length 1).isEmpty)) H
  | _=>False)
 | .ref p=>∃ xs,(SqL K H p xs∨SqT K H p xs)∧flatV x = true∧xs.all flatV = true∧Q (.bl (neg ^^ inV x xs)) H
 | _=>False
theorem og_in {K:PySem.W.Frag} (hK:X.K = K:=by rfl):OpR X (compareOp .In) (gIn K false):=by
 subst hK
 intro pins s σ H x y v u Q I rx ry h
 unfold gIn at h
 split at h
 ·split at h
  ·refine op_in_str pins s σ H _ _ v u Q I rx ry ⟨_,_,rfl,rfl,?_⟩
   simpa using h
  ·exact h.elim
 ·obtain ⟨xs,h1,h2,h3,h4⟩:=h
  exact op_in_seq pins s σ H _ _ v u Q I rx ry ⟨_,xs,rfl,h1,h2,h3,by simpa using h4⟩
 ·exact h.elim
theorem og_notin {K:PySem.W.Frag} (hK:X.K = K:=by rfl):OpR X (compareOp .NotIn) (gIn K true):=by
 subst hK
 intro pins s σ H x y v u Q I rx ry h
 unfold gIn at h
 split at h
 ·split at h
  ·refine op_notin_str pins s σ H _ _ v u Q I rx ry ⟨_,_,rfl,rfl,?_⟩
   simpa using h
  ·exact h.elim
 ·obtain ⟨xs,h1,h2,h3,h4⟩:=h
  exact op_notIn_seq pins s σ H _ _ v u Q I rx ry ⟨_,xs,rfl,h1,h2,h3,by simpa using h4⟩
 ·exact h.elim
def gIs (neg:Bool):R2:=fun x y H Q=>match y with
 | .non=>(match x with
  | .non=>Q (.bl (neg ^^ true)) H
  | _=>Q (.bl (neg ^^ false)) H)
 | _=>False
theorem og_is:OpR X (compareOp .Is) (gIs false):=by
 intro pins s σ H x y v u Q I rx ry h
 unfold gIs at h
 split at h
 ·refine op_isN pins s σ H _ _ v u Q I rx ry ⟨rfl,?_⟩
  split at h
  ·exact h
  ·rename_i hn
   have e:decide (x = V.non) = false:=decide_eq_false hn
   rw [e]
   exact h
 ·exact h.elim
theorem og_isnot:OpR X (compareOp .IsNot) (gIs true):=by
 intro pins s σ H x y v u Q I rx ry h
 unfold gIs at h
 split at h
 ·refine op_notN pins s σ H _ _ v u Q I rx ry ⟨rfl,?_⟩
  split at h
  ·exact h
  ·rename_i hn
   have e:decide (x = V.non) = false:=decide_eq_false hn
   rw [e]
   exact h
 ·exact h.elim
def gIx (K:PySem.W.Frag) (w:World):R2:=fun x y H Q=>match x,y with
 | .ref q,.int i=>(∃ xs v,SqL K H q xs∧atI xs i = some v∧Q v H)∨∃ xs v,SqT K H q xs∧atI xs i = some v∧Q v H
 | .str z,.int i=>z.length ≤ sizeLine∧∃ c,atI z.cps.toList i = some c∧Q (.str ⟨#[c]⟩) H
 | .ref q,.str k=>(∃ kvs v,KTab K w q kvs∧kvs.lookup k = some v∧Q v H)∨∃ (kvs:List (Key × V)) (v:V),H q = some (.dK kvs)∧valV kvs (Sum.inr k) = some v∧Q v H
 | _,_=>False
theorem og_ix (hu:X.A.units + 64 < cLine) {K:PySem.W.Frag} {w:World} (hK:X.K = K:=by rfl) (hw:X.w = w:=by rfl):IxR X (gIx K w):=by
 subst hK
 subst hw
 intro value slice pins s σ H x y v u Q I rx ry h hs
 unfold gIx at h
 split at h
 ·rcases h with ⟨xs,z,h1,h2,h3⟩ | ⟨xs,z,h1,h2,h3⟩
  ·exact ix_list value slice pins s σ H _ _ v u Q I rx ry ⟨_,xs,_,z,rfl,rfl,h1,h2,h3⟩ hs
  ·exact ix_tup value slice pins s σ H _ _ v u Q I rx ry ⟨_,xs,_,z,rfl,rfl,h1,h2,h3⟩ hs
 ·obtain ⟨hz,c,h1,h2⟩:=h
  exact ix_str value slice pins s σ H _ _ v u Q I rx ry ⟨_,_,c,rfl,rfl,hz,h1,h2⟩ hs
 ·rcases h with ⟨kvs,z,h1,h2,h3⟩ | ⟨kvs,z,h1,h2,h3⟩
  ·exact ix_ktab value slice pins s σ H _ _ v u Q I rx ry ⟨_,kvs,_,z,rfl,rfl,h1,h2,h3⟩ hs
  ·cases rx
   have hd:=dk_of I.hok h1
   obtain ⟨_,_,vs,_,dd⟩:=hd
   exact tail_any dd.typeIs slot_dict_getitem.lookup (d_getItem (y:=kV (Sum.inr _)) (v:=z) (by omega) I (.inl ⟨kvs,_,.inl h1,rfl,h2.symm⟩) ry fun w' s' I' rw'=>⟨z,H,I',rw',h3⟩) hs
 ·exact h.elim
def mPart (t:TE):TO:=fun σ H Q=>t σ H fun x H1=>match x with
 | .int i=>Q (some i) H1
 | _=>False
theorem mPart_eq (t:TE):mPart t = tPart t:=by
 funext σ H Q
 unfold mPart tPart
 congr 1
 funext x H'
 refine propext ⟨fun h=>?_,fun ⟨k,e,h⟩=>?_⟩
 ·split at h
  ·exact ⟨_,rfl,h⟩
  ·exact h.elim
 ·subst e; exact h
theorem po_someM (h:PE X e te):PO X (some e) (mPart te):=by rw [mPart_eq]; exact po_some h
def gLen (K:PySem.W.Frag):List V→Hp→VK→Prop:=fun xs H Q=>match xs with
 | [.str y]=>y.length ≤ sizeLine∧Q (.int y.length) H
 | [.ref p]=>∃ ys,(SqL K H p ys∨SqT K H p ys)∧Q (.int ys.length) H
 | _=>False
theorem cg_len {K:PySem.W.Frag} (hK:X.K = K:=by rfl):CallR X (.builtin "len") (gLen K):=by
 subst hK
 intro pins s σ H xs us Q I r h
 unfold gLen at h
 split at h
 ·exact call_len_str pins s σ H _ us Q I r ⟨_,rfl,h.1,h.2⟩
 ·obtain ⟨ys,h1,h2⟩:=h
  exact call_len_seq pins s σ H _ us Q I r ⟨_,ys,rfl,h1,h2⟩
 ·exact h.elim
def gList (K:PySem.W.Frag):List V→Hp→VK→Prop:=fun xs H Q=>match xs with
 | [.ref p]=>∃ ys,(SqL K H p ys∨SqT K H p ys)∧∀ l,H l = none→Q (.ref l) (upd H l (.lst ys))
 | _=>False
theorem cg_list {K:PySem.W.Frag} (hK:X.K = K:=by rfl):CallR X (.type "list") (gList K):=by
 subst hK
 intro pins s σ H xs us Q I r h
 unfold gList at h
 split at h
 ·obtain ⟨ys,h1,h2⟩:=h
  exact call_list_of pins s σ H _ us Q I r ⟨_,ys,rfl,h1,h2⟩
 ·exact h.elim
def gAppend:V→List V→Hp→VK→Prop:=fun x vs H Q=>match x,vs with
 | .ref l,[y]=>∃ xs,H l = some (.lst xs)∧xs.length < sizeLine∧Q .non (upd H l (.lst (xs ++ [y])))
 | _,_=>False
theorem mg_append:MtR X "list.append" gAppend:=by
 intro pins s σ H x xs v us Q I rx rs h
 unfold gAppend at h
 split at h
 ·obtain ⟨ys,h1,h2,h3⟩:=h
  exact mt_append pins s σ H _ _ v us Q I rx rs ⟨_,ys,_,rfl,rfl,h1,h2,h3⟩
 ·exact h.elim
end
end L2
namespace L2
open PySem PySem.Spec PyProof.Rows
section
variable {X:Cx} {tg:Expr}
def iAny (K:PySem.W.Frag) (tl:TE):TI:=fun σ H R=>tl σ H fun x H1=>match x with
 | .str z=>R (Its z) H1
 | .ref a=>((∃ xs,SqL K H1 a xs)∧R (Itl K a) H1)∨((∃ xs,SqT K H1 a xs)∧R (Itt K a) H1)
 | _=>False
theorem pi_any {l:Expr} {tl:TE} (hl:PE X l tl) {K:PySem.W.Frag} (hK:X.K = K:=by rfl):PI X tg l (iAny K tl):=by
 subst hK
 intro pins s σ H R I h
 refine thn (hl pins s σ H _ I h) fun v s1 ⟨x,H1,I1,r1,q1⟩=>?_
 dsimp only at q1
 split at q1
 ·rename_i z
  obtain ⟨t,rfl⟩:=r1
  have fin:∀ b ∈ [s1.heap.objs.size],FpOk X pins H1 b:=fun b hb=>by
   have e:b = s1.heap.objs.size:=by simpa using hb
   subst e
   exact I1.fpOk (Nat.le_refl _) (I1.hok.fresh (Nat.le_refl _))
  cases ha:z.cps.all (· < 128)
  ·refine wpAny_pyIter_wide ha ?_
   exact ⟨s1.heap.objs.size,[s1.heap.objs.size],_,_,H1,rfl,I1.kept (t':=s1.toks) fun b o e=>Heap.get?_push_of_some _ e,
    turn_str "str_iterator" _ z t (fun A' hA=>Walks.strWide hA _ z t) (fun A i s Q E st h=>wpAny_pyIter_striter_wide st h) (by decide),⟨_,Heap.get?_push_size _ rfl,rfl,rfl⟩,fin,q1⟩
  ·refine wpAny_pyIter_ascii ha ?_
   exact ⟨s1.heap.objs.size,[s1.heap.objs.size],_,_,H1,rfl,I1.kept (t':=s1.toks) fun b o e=>Heap.get?_push_of_some _ e,
    turn_str "str_ascii_iterator" _ z t (fun A' hA=>Walks.strAscii hA _ z t) (fun A i s Q E st h=>wpAny_pyIter_striter_ascii st h) (by decide),⟨_,Heap.get?_push_size _ rfl,rfl,rfl⟩,fin,q1⟩
 ·rename_i a
  cases r1
  have fin:∀ b ∈ [s1.heap.objs.size],FpOk X pins H1 b:=fun b hb=>by
   have e:b = s1.heap.objs.size:=by simpa using hb
   subst e
   exact I1.fpOk (Nat.le_refl _) (I1.hok.fresh (Nat.le_refl _))
  rcases q1 with ⟨⟨xs,hq⟩,q⟩ | ⟨⟨xs,hq⟩,q⟩
  ·obtain ⟨its,rv,p,hz⟩:=I1.list hq
   refine wpAny_pyIter_list p.isList ?_
   exact ⟨s1.heap.objs.size,[s1.heap.objs.size],_,_,H1,rfl,I1.kept (t':=s1.toks) fun b o e=>Heap.get?_push_of_some _ e,turn_list a _,⟨_,Heap.get?_push_size _ rfl,rfl,rfl⟩,fin,q⟩
  ·obtain ⟨its,rv,p,hz⟩:=I1.tuple hq
   refine wpAny_pyIter_tuple (show s1.heap.IsTuple a its.toArray from p) ?_
   exact ⟨s1.heap.objs.size,[s1.heap.objs.size],_,_,H1,rfl,I1.kept (t':=s1.toks) fun b o e=>Heap.get?_push_of_some _ e,turn_tuple a _,⟨_,Heap.get?_push_size _ rfl,rfl,rfl⟩,fin,q⟩
 ·exact q1.elim
def mRng1 (ta:TA):TI:=fun σ H R=>ta σ H fun vs H1=>match vs with
 | [.int j]=>-(2 ^ 62) ≤ j∧j < 2 ^ 62∧R (Itr 0 j.toNat) H1
 | _=>False
theorem mRng1_eq (ta:TA):mRng1 ta = iRng1 ta:=by
 funext σ H R
 unfold mRng1 iRng1
 congr 1
 funext vs H'
 refine propext ⟨fun h=>?_,fun ⟨k,e,h⟩=>?_⟩
 ·split at h
  ·exact ⟨_,rfl,h⟩
  ·exact h.elim
 ·subst e; exact h
theorem pi_rng1 {a:Expr} {ta:TA} {p pos:Pos} (hg:Gl X "range") (hm:X.mg "range" = none) (ha:PA X [a] ta) (hs:starEach [a] X.env = [(false,eval a X.env)]:=by rfl):PI X tg (.Call (.Name "range" p) [a] [] pos) (mRng1 ta):=by
 rw [mRng1_eq]; exact pi_range1 hg hm ha hs
def noStar:Expr→Bool
 | .Starred ..=>false
 | _=>true
def noStars:List Expr→Bool
 | []=>true
 | e :: r=>noStar e && noStars r
theorem starEach_cons {e:Expr} {es:List Expr} {env:Env} (h:noStar e = true):starEach (e :: es) env = (false,eval e env) :: starEach es env:=by
 cases e <;> first | rfl | exact absurd h Bool.false_ne_true
theorem stars_none:∀ {es:List Expr} {env:Env},noStars es = true→∀ x ∈ starEach es env,x.1 = false
 | [],env,_,x,hx=>by
  have:starEach [] env = []:=rfl
  rw [this] at hx
  exact nomatch hx
 | e :: r,env,h,x,hx=>by
  have h':noStar e = true∧noStars r = true:=by simpa [noStars] using h
  rw [starEach_cons h'.1] at hx
  rcases List.mem_cons.mp hx with q | q
  ·rw [q]
  ·exact stars_none h'.2 x q
theorem back_any {es:List Expr} {env:Env} {pos:Pos} (h:noStars es = true):(backTo pos (starEach es env)).any (·.1) = false:=by
 rw [List.any_eq_false]
 intro x hx
 unfold backTo at hx
 obtain ⟨y,hy,e⟩:=List.mem_map.mp hx
 have:=stars_none h y hy
 obtain ⟨b,t⟩:=y
 dsimp only at e this
 rw [← e,this]
 exact Bool.false_ne_true
theorem back_all {es:List Expr} {env:Env} {pos:Pos} (h:noStars es = true):(backTo pos (starEach es env)).all (fun x=>!x.1) = true:=by
 rw [List.all_eq_true]
 intro x hx
 unfold backTo at hx
 obtain ⟨y,hy,e⟩:=List.mem_map.mp hx
 have:=stars_none h y hy
 obtain ⟨b,t⟩:=y
 dsimp only at e this
 rw [← e,this]
 rfl
def notSuper:Expr→Bool
 | .Call (.Name _ _) [] [] _=>false
 | _=>true
theorem base_of {o:Expr} {attr:Str} {env:Env} {whole:Sem Value} (h:notSuper o = true):attributeBase o attr env whole = whole:=by
 unfold attributeBase
 split
 ·exact absurd h Bool.false_ne_true
 ·rfl
theorem pa_consM {es:List Expr} {t:TA} (ha:PE X e te) (hr:PA X es t) (h:noStar e = true:=by rfl):PA X (e :: es) (tCons te t):=pa_cons ha hr (starEach_cons h)
theorem pe_callBM {x : Str} {id : String} {r : List V → Hp → VK → Prop} {es : List Expr} {t : TA} {p pos : Pos} (hc : CallR X (.builtin id) r) (hg : Gl X x) (hm : X.mg x = none) (hv : bootBuiltins x = some (.builtin id)) (ha : PA X (e :: es) t) (hn : x ≠ "__name__" := by decide) (hdb : (x == ("__debug__" : Str)) = false := by decide)
  (h:noStars (e :: es) = true:=by rfl):PE X (.Call (.Name x p) (e :: es) [] pos) (tCB r t):=by
 have h':noStar e = true∧noStars es = true:=by simpa [noStars] using h
 exact pe_callB hc hg hm hv ha hn hdb (starEach_cons h'.1) (back_any h'.2)
theorem pe_callTyM {x : Str} {T : String} {r : List V → Hp → VK → Prop} {es : List Expr} {t : TA} {p pos : Pos} (hc : CallR X (.type T) r) (hg : Gl X x) (hm : X.mg x = none) (hv : bootBuiltins x = some (.type T)) (ha : PA X (e :: es) t) (hn : x ≠ "__name__" := by decide) (hdb : (x == ("__debug__" : Str)) = false := by decide)
  (h:noStars (e :: es) = true:=by rfl):PE X (.Call (.Name x p) (e :: es) [] pos) (tCB r t):=by
 have h':noStar e = true∧noStars es = true:=by simpa [noStars] using h
 exact pe_callTy hc hg hm hv ha hn hdb (starEach_cons h'.1) (back_any h'.2)
theorem pe_bmK {K : PySem.W.Frag} {o e : Expr} {es : List Expr} {to : TE} {t : TA} {name : Str} {apos cpos : Pos} {T id : String} {r : V → List V → Hp → VK → Prop} (pa : PlainAttrs T) (slot : Slot T name id) (hty : typeOf (.builtin id) = pure (.type "method_descriptor")) (hm : MtR X id r) (ho : PE X o to) (ha : PA X (e :: es) t) (hK : X.K = K := by rfl)
  (hsup:notSuper o = true:=by rfl) (h:noStars (e :: es) = true:=by rfl) (h30:(e :: es).length < 30:=by decide) (hline:(apos.endLine == cpos.line) = true:=by rfl) :
  PE X (.Call (.Attribute o name apos) (e :: es) [] cpos) (tBM K T r to t):=by
 subst hK
 have h':noStar e = true∧noStars es = true:=by simpa [noStars] using h
 refine pe_bm pa slot hty hm ho ha (base_of hsup) ?_ hline (starEach_cons h'.1) (back_any h'.2)
 rw [back_all h]
 have e0:keywordEach [] X.env = []:=rfl
 rw [e0]
 simpa [backToKw] using h30
theorem pe_bm0K {K : PySem.W.Frag} {o : Expr} {to : TE} {name : Str} {apos cpos : Pos} {T id : String} {r : V → List V → Hp → VK → Prop} (pa : PlainAttrs T) (slot : Slot T name id) (hty : typeOf (.builtin id) = pure (.type "method_descriptor")) (hm : MtR X id r) (ho : PE X o to) (hK : X.K = K := by rfl)
  (hsup:notSuper o = true:=by rfl) (hline:(apos.endLine == cpos.line) = true:=by rfl):PE X (.Call (.Attribute o name apos) [] [] cpos) (tBM0 K T r to):=by
 subst hK
 exact pe_bm0 pa slot hty hm ho (base_of hsup) hline
theorem pg_tupK {K : PySem.W.Frag} {es : List Expr} {k : Nat} {t : TGs} {n : Nat} {pos : Pos} (hc : X.calm = true) (h : PGs X es t) (hK : X.K = K := by rfl)
  (hn:(assignEach es X.env).length = n:=by rfl) (hst:(assignEach es X.env).findIdx? (·.1) = none:=by rfl):PG X (.Tuple es k pos) (gTup K n t):=by
 subst hK
 exact pg_tup hc h hn hst
structure Def (P:Program) (w:World) (K:PySem.W.Frag) (mg:Str→Option Value) (base:Heap) (k:Nat) (x:Str) (ps:List Str) (sp:Sp):Prop where
 ex:∃ f fd,mg x = some (.ref f)∧PySem.W.keepIn K (.ref f) = true∧(∃ oc od osl,K.lookup f = some ⟨oc,od,.func fd,osl⟩)∧Binds K fd ps []∧FnOk P w K mg base CX0 k f fd ps sp
theorem pe_def {k : Nat} {x : Str} {ps : List Str} {sp : Sp} {e : Expr} {es : List Expr} {t : TA} {p pos : Pos} (D : Def X.prog X.w X.K X.mg X.base k x ps sp) (hr : Room k X.A) (hg : Gl X x) (ha : PA X (e :: es) t) (hdb : (x == ("__debug__" : Str)) = false := by decide)
  (hst:noStars (e :: es) = true:=by rfl) (hx:Passes CX0 X E0:=by exact pass0) :
  PE X (.Call (.Name x p) (e :: es) [] pos) (fun σ H Q=>t σ H fun vs H1=>sp vs H1 Q E0):=by
 obtain ⟨f,fd,mgf,kp,_,b,G⟩:=D.ex
 have h':noStar e = true∧noStars es = true:=by simpa [noStars] using hst
 have he:=starEach_cons (es:=es) (env:=X.env) h'.1
 have hpl:=back_any (env:=X.env) (pos:=pos) h'.2
 have h:=pe_call (X:=X) (dvs:=[]) (E:=E0) (p:=p) (pos:=pos) G hr hg mgf kp b .nil hx ha hdb he hpl
 intro pins s σ H Q I hq
 refine h pins s σ H Q I ?_
 show t σ H fun vs H1=>sp (vs ++ []) H1 Q E0
 have e1:(fun (vs:List V) H1=>sp (vs ++ []) H1 Q E0) = fun vs H1=>sp vs H1 Q E0:=by funext vs H1; rw [List.append_nil]
 rw [e1]
 exact hq
end
theorem Fun.lk {K:PySem.W.Frag} {x qual:Str} {st:Stmt} {f:Addr} {fd:FuncData} (F:Fun K x qual st f fd):∃ oc od osl,K.lookup f = some ⟨oc,od,.func fd,osl⟩:=by
 obtain ⟨oc,od,kV,doc,pm,an,cdv,ct,osl,_,lk,_⟩:=F.ex
 exact ⟨oc,od,osl,lk⟩
structure Raw (K:PySem.W.Frag) (mg:Str→Option Value) (x:Str) (st:Stmt) (ps:List Str):Prop where
 ex:∃ f fd,mg x = some (.ref f)∧Fun K x x st f fd∧∀ (us:List Value),us.length = ps.length→bindArgs fd ⟨us,[]⟩ = pure (ps.zip us)
theorem Raw.mk' {K : PySem.W.Frag} {mg : Str → Option Value} {h : Heap} {x : Str} {st : Stmt} {ps : List Str} {f : Addr} {oc : Value} {od an : Option Addr} {osl : Array (Option Value)} {kV doc pm cdv ct : Value} (X : K.In h) (G : h.Ns mainGlobals mg)
  (a:PySem.W.nsIn K mainGlobals x = some (some (.ref f))) (l:K.lookup f = some ⟨oc,od,.func (PySem.W.fnOf x x (defArgs st) (defBody st) (defScope st) .none kV doc pm an cdv ct),osl⟩)
  (c:PySem.W.codeIn K cdv x = true) (k:PySem.W.keepIn K (.ref f) = true)
  (hb:∀ (us:List Value),us.length = ps.length→bindArgs (PySem.W.fnOf x x (defArgs st) (defBody st) (defScope st) .none kV doc pm an cdv ct) ⟨us,[]⟩ = pure (ps.zip us)):Raw K mg x st ps :=
 ⟨⟨f,_,PySem.W.mg_of X G a,fun_mk l c k,hb⟩⟩
theorem Raw.def {P : Program} {w : World} {K : PySem.W.Frag} {mg : Str → Option Value} {base : Heap} {x : Str} {st : Stmt} {N ps : List Str} {k : Nat} {sp : Sp} (R : Raw K mg x st ps) (S : FnScope N ps (defScope st)) (len : ∀ vs H Q E, sp vs H Q E → vs.length = ps.length)
  (hbody:∀ (f:Addr) (cdv:Value) (A:Around) (outer:List Env) (s:Shared) (H:Hp) (vs:List V) (Q:VK) (E:XK),Room k (A.deeper (envOfC x (defScope st) s.heap.objs.size f cdv))→sp vs H Q E →
   ∃ t,PSs (cxOf CX0 P w K mg base N x (defScope st) f cdv A outer s H E).nox (defBody st) t∧t { nx:=fun _ H'=>Q .non H',rt:=Q } (start N vs) H):Def P w K mg base (k + 1) x ps sp:=by
 obtain ⟨f,fd,h1,F,b⟩:=R.ex
 exact ⟨f,fd,h1,F.kp,F.lk,.all b,F.ok S len (fun cdv=>hbody f cdv)⟩
theorem Def.at {P : Program} {w : World} {K : PySem.W.Frag} {mg : Str → Option Value} {base : Heap} {k : Nat} {x : Str} {ps : List Str} {sp : Sp} {f : Addr} {fd : FuncData} (D : Def P w K mg base k x ps sp) (h : mg x = some (.ref f))
  (l:∃ oc od osl,K.lookup f = some ⟨oc,od,.func fd,osl⟩):FnOk P w K mg base CX0 k f fd ps sp:=by
 obtain ⟨f',fd',h',_,⟨oc',od',osl',l'⟩,_,F⟩:=D.ex
 obtain ⟨oc,od,osl,l⟩:=l
 cases h.symm.trans h'
 have e:=l.symm.trans l'
 simp only [Option.some.injEq,Obj.mk.injEq,Data.func.injEq] at e
 rw [e.2.2.1]
 exact F
section
variable {K:PySem.W.Frag} {w:World} {mg:Str→Option Value} {h:Heap} {x:Str}
theorem int_mk {i:Int} {t:Tok} (X:K.In h) (G:h.Ns mainGlobals mg) (a:PySem.W.nsIn K mainGlobals x = some (some (.int i t))):∃ t,mg x = some (.int i t):=⟨_,PySem.W.mg_of X G a⟩
theorem tup_mk {b : Addr} {od : Option Addr} {its : Array Value} {n : Nat} {osl : Array (Option Value)} {xs : List V} (X : K.In h) (G : h.Ns mainGlobals mg) (a : PySem.W.nsIn K mainGlobals x = some (some (.ref b))) (l : K.lookup b = some ⟨.type "tuple", od, .seq its n, osl⟩)
  (z:its.size ≤ sizeLine) (v:Vals xs its.toList):∃ t,mg x = some (.ref t)∧∀ H,SqT K H t xs :=
 ⟨_,PySem.W.mg_of X G a,fun H=>.inr ⟨_,its,n,l,rfl,rfl,z,v⟩⟩
end
end L2
namespace L2
open PySem PySem.Spec PyProof.Rows
theorem same_upd {H H':Hp} {p:Addr} {o:HO} (e:Same H H') (h:H p = none):Same H (upd H' p o):=fun b u q=>by
 rw [upd_ne (ne_of_none q h)]
 exact e b u q
theorem same_new {H:Hp} {p:Addr} {o:HO} (h:H p = none):Same H (upd H p o):=same_upd (Same.refl H) h
section
variable {cap:List (Option Nat)} {g:TG} {tc:TT} {te:TE} {Q:Addr→Hp→Prop} {σ:St} {H:Hp}
theorem gath_of {J : It} {n : Nat} {item : Nat → V → Prop} (Pv : Nat → List V → St → Hp → Prop) (hn : n ≤ 1000000) (h0 : Pv 0 [] (capt cap σ) H) (hlen : ∀ i ys σ' H', Pv i ys σ' H' → ys.length ≤ i)
  (hgo:∀ i ys σ' H',i < n→Pv i ys σ' H'→J.go i H') (hyld:∀ i ys σ' H' x H2,i < n→Pv i ys σ' H'→J.yld i H' x H2→item i x∧H2 = H') (hstop:∀ ys σ' H',Pv n ys σ' H'→J.stop n H')
  (hs:∀ i x ys σ' H',i < n→item i x→Pv i ys σ' H'→g x σ' H' fun σ3 H3=>tc σ3 H3 fun b H4=>if b = true then te σ3 H4 fun y H5=>Pv (i + 1) (ys ++ [y]) σ3 H5 else Pv (i + 1) ys σ3 H4)
  (hd:∀ ys σ' H',Pv n ys σ' H'→∀ D,H' D = none→Q D (upd H' D (.lst ys))):Gath J cap g tc te Q σ H:=by
 have big:(1000000:Nat) < sizeLine:=by rw [sizeLine_eq]; decide
 refine ⟨fun i m ys σ' H'=>m = n - i∧i ≤ n∧Pv i ys σ' H',⟨n,by simp,Nat.zero_le _,h0⟩,?_⟩
 rintro i m ys σ' H' ⟨rfl,hi,p⟩
 have hl:=hlen i ys σ' H' p
 by_cases hlt:i < n
 ·refine .inr ⟨hgo i ys σ' H' hlt p,by omega,Pv (i + 1),fun ys2 σ2 H2 p'=>⟨n - (i + 1),by omega,rfl,hlt,p'⟩,fun x H2 y=>?_⟩
  obtain ⟨h1,h2⟩:=hyld i ys σ' H' x H2 hlt p y
  subst h2
  exact hs i x ys σ' _ hlt h1 p
 ·have e:i = n:=by omega
  subst e
  exact .inl ⟨hstop ys σ' H' p,by omega,hd ys σ' H' p⟩
theorem gath_range {lo : Int} {n : Nat} (Pv : Nat → List V → St → Hp → Prop) (hn : n ≤ 1000000) (h0 : Pv 0 [] (capt cap σ) H) (hlen : ∀ i ys σ' H', Pv i ys σ' H' → ys.length ≤ i)
  (hs:∀ i ys σ' H',i < n→Pv i ys σ' H'→g (.int (lo + i)) σ' H' fun σ3 H3=>tc σ3 H3 fun b H4=>if b = true then te σ3 H4 fun y H5=>Pv (i + 1) (ys ++ [y]) σ3 H5 else Pv (i + 1) ys σ3 H4)
  (hd:∀ ys σ' H',Pv n ys σ' H'→∀ D,H' D = none→Q D (upd H' D (.lst ys))):Gath (Itr lo n) cap g tc te Q σ H :=
 gath_of (item:=fun i x=>x = .int (lo + i)) Pv hn h0 hlen (fun i ys σ' H' hi _=>hi) (fun i ys σ' H' x H2 _ _ y=>⟨y.2,y.1⟩) (fun _ _ _ _=>Nat.le_refl n) (fun i x ys σ' H' hi e p=>by subst e; exact hs i ys σ' H' hi p) hd
theorem gath_list {K : PySem.W.Frag} {a : Addr} {xs : List V} (Pv : Nat → List V → St → Hp → Prop) (hn : xs.length ≤ 1000000) (h0 : Pv 0 [] (capt cap σ) H) (hlen : ∀ i ys σ' H', Pv i ys σ' H' → ys.length ≤ i)
  (hl:∀ i ys σ' H',Pv i ys σ' H'→SqL K H' a xs)
  (hs:∀ i x ys σ' H',xs[i]? = some x→Pv i ys σ' H'→g x σ' H' fun σ3 H3=>tc σ3 H3 fun b H4=>if b = true then te σ3 H4 fun y H5=>Pv (i + 1) (ys ++ [y]) σ3 H5 else Pv (i + 1) ys σ3 H4)
  (hd:∀ ys σ' H',Pv xs.length ys σ' H'→∀ D,H' D = none→Q D (upd H' D (.lst ys))):Gath (Itl K a) cap g tc te Q σ H :=
 gath_of (item:=fun i x=>xs[i]? = some x) Pv hn h0 hlen (fun i ys σ' H' hi p=>⟨xs,xs[i],hl i ys σ' H' p,by simp [hi]⟩) (fun i ys σ' H' x H2 _ p y=>⟨y.2 xs (hl i ys σ' H' p),y.1⟩)
  (fun ys σ' H' p=>⟨xs,hl _ ys σ' H' p,Nat.le_refl _⟩) (fun i x ys σ' H' hi e p=>hs i x ys σ' H' e p) hd
end
end L2
namespace L2
open PySem PySem.Spec PyProof.Rows
@[irreducible] def Irr (p:Prop):Prop:=p
theorem Irr.mk {p:Prop} (h:p):Irr p:=by unfold Irr; exact h
theorem Irr.out {p:Prop} (h:Irr p):p:=by unfold Irr at h; exact h
abbrev JE (X:Cx) (e:Expr) (t:TE):Prop:=Irr (PE X e t)
abbrev JT (X:Cx) (e:Expr) (t:TT):Prop:=Irr (PT X e t)
abbrev JW (X:Cx) (e:Expr) (t:TT):Prop:=Irr (PW X e t)
abbrev JA (X:Cx) (es:List Expr) (t:TA):Prop:=Irr (PA X es t)
abbrev JO (X:Cx) (e:Option Expr) (t:TO):Prop:=Irr (PO X e t)
abbrev JS (X:Cx) (st:Stmt) (t:TS):Prop:=Irr (PS X st t)
abbrev JSs (X:Cx) (st:List Stmt) (t:TS):Prop:=Irr (PSs X st t)
abbrev JG (X:Cx) (e:Expr) (t:TG):Prop:=Irr (PG X e t)
abbrev JGs (X:Cx) (e:List Expr) (t:TGs):Prop:=Irr (PGs X e t)
abbrev JI (X:Cx) (tg it:Expr) (t:TI):Prop:=Irr (PI X tg it t)
section
variable {X:Cx} {a b c e f k o v tg it:Expr} {es:List Expr} {ta tb tc te td ty tx tk tv:TE} {tA tB':TT} {t:TA} {u u':TS} {pos pos' p p2 apos cpos spos:Pos} {st:Stmt} {sts sts':List Stmt} {K:PySem.W.Frag} {w:World}
theorem o_add (hK:X.K = K:=by rfl):Irr (OpR X (binaryOp .Add) (gAdd K)):=.mk (og_add hK)
theorem o_sub:Irr (OpR X (binaryOp .Sub) gMinus):=.mk og_sub
theorem o_mul:Irr (OpR X (binaryOp .Mult) gMul):=.mk og_mul
theorem o_div:Irr (OpR X (binaryOp .FloorDiv) gDiv):=.mk og_div
theorem o_mod:Irr (OpR X (binaryOp .Mod) gMod):=.mk og_mod
theorem o_ne (hu:X.A.units + 64 < cLine) (hK:X.K = K:=by rfl):Irr (OpR X (compareOp .NotEq) (gEq K true)):=.mk (og_ne hu hK)
theorem o_lt:Irr (OpR X (compareOp .Lt) gLt):=.mk og_lt
theorem o_le:Irr (OpR X (compareOp .LtE) gLe):=.mk og_le
theorem o_gt:Irr (OpR X (compareOp .Gt) gGt):=.mk og_gt
theorem o_is:Irr (OpR X (compareOp .Is) (gIs false)):=.mk og_is
theorem o_isnot:Irr (OpR X (compareOp .IsNot) (gIs true)):=.mk og_isnot
theorem o_ix (hu:X.A.units + 64 < cLine) (hK:X.K = K:=by rfl) (hw:X.w = w:=by rfl):Irr (IxR X (gIx K w)):=.mk (og_ix hu hK hw)
theorem c_len (hK:X.K = K:=by rfl):Irr (CallR X (.builtin "len") (gLen K)):=.mk (cg_len hK)
theorem c_list (hK:X.K = K:=by rfl):Irr (CallR X (.type "list") (gList K)):=.mk (cg_list hK)
theorem m_append:Irr (MtR X "list.append" gAppend):=.mk mg_append
theorem jn (i : Nat) {x : Str} (hN : X.N[i]? = some x := by rfl) (hv : Vis X.env.scope x := by first | exact Or.inl rfl | exact Or.inr (Or.inl rfl) | exact Or.inr (Or.inr rfl)) (hd : (x == ("__debug__" : Str)) = false := by decide)
  (hcd:(x == ("__classdict__":Str)) = false:=by decide):JE X (.Name x pos) (mVar i):=.mk (pn i hN hv hd hcd)
theorem j_int {i:Int} {j:Nat}:JE X (.Constant (.int i) j pos) (tC (.int i)):=.mk pe_int
theorem j_bl {b:Bool} {j:Nat}:JE X (.Constant (.bool b) j pos) (tC (.bl b)):=.mk pe_bl
theorem j_non {j:Nat}:JE X (.Constant .none j pos) (tC .non):=.mk pe_non
theorem j_str {x:Str} {j:Nat}:JE X (.Constant (.str x) j pos) (tC (.str x)):=.mk pe_str
theorem j_glob {x:Str} {v:V} {u:Value} (hg:Gl X x) (hm:X.mg x = some u) (r:RelV v u) (hd:(x == ("__debug__":Str)) = false:=by decide):JE X (.Name x pos) (tC v):=.mk (pe_glob hg hm r hd)
theorem j_bltn {x:Str} {v:V} {u:Value} (hg:Gl X x) (hm:X.mg x = none) (hv:bootBuiltins x = some u) (r:RelV v u) (hn:x ≠ "__name__":=by decide) (hd:(x == ("__debug__":Str)) = false:=by decide):JE X (.Name x pos) (tC v):=.mk (pe_bltn hg hm hv r hn hd)
theorem j_op {op:Operator} {r:R2} (ho:Irr (OpR X (binaryOp op) r)) (ha:JE X a ta) (hb:JE X b tb):JE X (.BinOp a op b pos) (tOp r ta tb):=.mk (pe_op ho.out ha.out hb.out)
theorem j_cmp {op:CmpOp} {r:R2} (ho:Irr (OpR X (compareOp op) r)) (ha:JE X a ta) (hb:JE X b tb) (hm:behindInMarks op b = false:=by first | exact nomark _ | rfl):JE X (.Compare a [op] [b] pos) (tOp r ta tb):=.mk (pe_cmpR ho.out ha.out hb.out hm)
theorem j_or (ha:JE X a ta) (hb:JE X (.BoolOp .Or (b :: es) pos) tb):JE X (.BoolOp .Or (a :: b :: es) pos) (mOrV ta tb):=.mk (pe_orM ha.out hb.out)
theorem j_one {op:BoolOp} (h:JE X a ta):JE X (.BoolOp op [a] pos) ta:=.mk (pe_one h.out)
theorem j_ife (hc:JT X c tA) (ha:JE X a ta) (hb:JE X b tb):JE X (.IfExp c a b pos) (tIf tA ta tb):=.mk (pe_ifExp hc.out ha.out hb.out)
theorem ja_nil:JA X [] tNil:=.mk pa_nil
theorem ja_cons (ha:JE X e te) (hr:JA X es t) (h:noStar e = true:=by rfl):JA X (e :: es) (tCons te t):=.mk (pa_consM ha.out hr.out h)
theorem j_tup {x1:Nat} (h:JA X es t):JE X (.Tuple es x1 pos) (tTup t):=.mk (pe_tup h.out)
theorem j_lst (h:JA X es t):JE X (.List es pos) (tLst t):=.mk (pe_lst h.out)
theorem jo_none:JO X none tNoPart:=.mk po_none
theorem jo_some (h:JE X e te):JO X (some e) (mPart te):=.mk (po_someM h.out)
theorem j_slice {r:V→Option Int→Option Int→Hp→VK→Prop} {lo hi:Option Expr} {tl th:TO} (hr:Irr (SlR X r)) (he:JE X e te) (hl:JO X lo tl) (hu:JO X hi th):JE X (.Subscript e (.Slice lo hi none p2) pos) (tSl r te tl th):=.mk (pe_slice hr.out he.out hl.out hu.out)
theorem j_ix {r:R2} (hr:Irr (IxR X r)) (ha:JE X a ta) (hb:JE X b tb) (hs:PlainIx b:=by exact fun _ _=>rfl):JE X (.Subscript a b pos) (tOp r ta tb):=.mk (pe_ix hr.out ha.out hb.out hs)
theorem j_def {k : Nat} {x : Str} {ps : List Str} {sp : Sp} (D : Def X.prog X.w X.K X.mg X.base k x ps sp) (hr : Room k X.A) (hg : Gl X x) (ha : JA X (e :: es) t) (hdb : (x == ("__debug__" : Str)) = false := by decide)
  (hst:noStars (e :: es) = true:=by rfl):JE X (.Call (.Name x p) (e :: es) [] pos) (fun σ H Q=>t σ H fun vs H1=>sp vs H1 Q E0):=.mk (pe_def D hr hg ha.out hdb hst)
theorem j_callB {x : Str} {id : String} {r : List V → Hp → VK → Prop} (hc : Irr (CallR X (.builtin id) r)) (hg : Gl X x) (hm : X.mg x = none) (hv : bootBuiltins x = some (.builtin id)) (ha : JA X (e :: es) t) (hn : x ≠ "__name__" := by decide) (hdb : (x == ("__debug__" : Str)) = false := by decide)
  (h:noStars (e :: es) = true:=by rfl):JE X (.Call (.Name x p) (e :: es) [] pos) (tCB r t):=.mk (pe_callBM hc.out hg hm hv ha.out hn hdb h)
theorem j_callTy {x : Str} {T : String} {r : List V → Hp → VK → Prop} (hc : Irr (CallR X (.type T) r)) (hg : Gl X x) (hm : X.mg x = none) (hv : bootBuiltins x = some (.type T)) (ha : JA X (e :: es) t) (hn : x ≠ "__name__" := by decide) (hdb : (x == ("__debug__" : Str)) = false := by decide)
  (h:noStars (e :: es) = true:=by rfl):JE X (.Call (.Name x p) (e :: es) [] pos) (tCB r t):=.mk (pe_callTyM hc.out hg hm hv ha.out hn hdb h)
theorem j_bm {name : Str} {T id : String} {r : V → List V → Hp → VK → Prop} {to : TE} (pa : PlainAttrs T) (slot : Slot T name id) (hty : typeOf (.builtin id) = pure (.type "method_descriptor")) (hm : Irr (MtR X id r)) (ho : JE X o to) (ha : JA X (e :: es) t) (hK : X.K = K := by rfl)
  (hsup:notSuper o = true:=by rfl) (h:noStars (e :: es) = true:=by rfl) (h30:(e :: es).length < 30:=by decide) (hline:(apos.endLine == cpos.line) = true:=by rfl) :
  JE X (.Call (.Attribute o name apos) (e :: es) [] cpos) (tBM K T r to t):=.mk (pe_bmK pa slot hty hm.out ho.out ha.out hK hsup h h30 hline)
theorem j_bm0 {name : Str} {T id : String} {r : V → List V → Hp → VK → Prop} {to : TE} (pa : PlainAttrs T) (slot : Slot T name id) (hty : typeOf (.builtin id) = pure (.type "method_descriptor")) (hm : Irr (MtR X id r)) (ho : JE X o to) (hK : X.K = K := by rfl)
  (hsup:notSuper o = true:=by rfl) (hline:(apos.endLine == cpos.line) = true:=by rfl):JE X (.Call (.Attribute o name apos) [] [] cpos) (tBM0 K T r to):=.mk (pe_bm0K pa slot hty hm.out ho.out hK hsup hline)
theorem jt_cmp {op:CmpOp} {r:R2} (ho:Irr (OpR X (compareOp op) r)) (ha:JE X a ta) (hb:JE X b tb) (hm:behindInMarks op b = false:=by first | exact nomark _ | rfl):JT X (.Compare a [op] [b] pos) (mTest (tOp r ta tb)):=.mk (pt_cmpM ho.out ha.out hb.out hm)
theorem jt_chain {op op' : CmpOp} {r r' : R2} (ho : Irr (OpR X (compareOp op) r)) (ho' : Irr (OpR X (compareOp op') r')) (ha : JE X a ta) (hb : JE X b tb) (hc : JE X c tc)
  (hm:lastMarks [op,op'] [b,c] = false:=by with_unfolding_all rfl):JT X (.Compare a [op,op'] [b,c] pos) (mTest (mChain r r' ta tb tc)):=.mk (by rw [mChain_eq]; exact pt_chainM ho.out ho'.out ha.out hb.out hc.out hm)
theorem jt_val (h:JE X e te) (he:∀ whole,isTrue e X.env whole = (do let v ← whole; standAt e.pos; holding [v] (truthy v)):=by intro _; rfl):JT X e (mTest te):=.mk (pt_valM h.out he)
theorem jt_not (ha:JT X a tA):JT X (.UnaryOp .Not a pos) (tNot tA):=.mk (pt_not ha.out)
theorem jw_and1 (ha:JT X a tA):JW X (.BoolOp .And [a] pos) tA:=.mk (pw_and1 ha.out)
theorem jw_or1 (ha:JT X a tA):JW X (.BoolOp .Or [a] pos) tA:=.mk (pw_or1 ha.out)
theorem jw_and (ha:JT X a tA) (hb:JW X (.BoolOp .And (b :: es) pos) tB'):JW X (.BoolOp .And (a :: b :: es) pos) (tAnd tA tB'):=.mk (pw_and ha.out hb.out)
theorem jw_or (ha:JT X a tA) (hb:JW X (.BoolOp .Or (b :: es) pos) tB'):JW X (.BoolOp .Or (a :: b :: es) pos) (tOr tA tB'):=.mk (pw_or ha.out hb.out)
theorem jw_t (h:JW X e tA):JT X e tA:=.mk h.out.pt
theorem ji_any (h:JE X e te) (hK:X.K = K:=by rfl):JI X tg e (iAny K te):=.mk (pi_any h.out hK)
theorem ji_rng1 (hg:Gl X "range") (hm:X.mg "range" = none) (ha:JA X [a] t) (h:noStar a = true:=by rfl):JI X tg (.Call (.Name "range" p) [a] [] pos) (mRng1 t):=.mk (pi_rng1 hg hm ha.out (starEach_cons h))
theorem jg_name {i:Nat} {x:Str} (hN:X.N.Nodup) (hi:X.N[i]? = some x) (hx:Loc X.env.scope x) (hf:X.fn x = true∨X.env.scope.names.lookup x = some .local:=by first | exact .inl rfl | exact .inr rfl | assumption):JG X (.Name x pos) (gName i):=.mk (pg_name hN hi hx hf)
theorem jgs_nil:JGs X [] gNil:=.mk pgs_nil
theorem jgs_cons {g:TG} {gs:TGs} (h1:JG X e g) (h2:JGs X es gs) (hs:(assignEach (e :: es) X.env).map (·.2) = assign e X.env :: (assignEach es X.env).map (·.2):=by rfl):JGs X (e :: es) (gCons g gs):=.mk (pgs_cons h1.out h2.out hs)
theorem jg_tup {k:Nat} {gs:TGs} {n:Nat} (hc:X.calm = true) (h:JGs X es gs) (hK:X.K = K:=by rfl) (hn:(assignEach es X.env).length = n:=by rfl) (hst:(assignEach es X.env).findIdx? (·.1) = none:=by rfl):JG X (.Tuple es k pos) (gTup K n gs):=.mk (pg_tupK hc h.out hK hn hst)
abbrev JTs (X:Cx) (ifs:List Expr) (t:TT):Prop:=Irr (PTs X ifs t)
theorem jts_nil:JTs X [] tTrue:=.mk pts_nil
theorem jts_one (h:JT X c tA):JTs X [c] tA:=.mk (pts_one h.out)
theorem j_comp {N : List Str} {cap : List (Option Nat)} {scope : Scope} {ifs : List Expr} {wi : TI} {g : TG} (hc : X.calm = true) (S : CompScope X N cap scope) (hi : JI X tg it wi)
  (hg:∀ C s₀ H₀ ex,JG (cxComp X N scope C s₀ H₀ ex) tg g) (ht:∀ C s₀ H₀ ex,JTs (cxComp X N scope C s₀ H₀ ex) ifs tA) (he:∀ C s₀ H₀ ex,JE (cxComp X N scope C s₀ H₀ ex) e te)
  (hs:∀ x,foldedSetIterable it X.env x = pure x:=by intro _; rfl) :
  JE X (.ListComp e [⟨tg,it,ifs,0⟩] scope pos) (fun σ H Q=>tComp cap wi g tA te (fun D H'=>Q (.ref D) H') σ H) :=
 .mk (pe_comp hc S hi.out (fun C s₀ H₀ ex=>(hg C s₀ H₀ ex).out) (fun C s₀ H₀ ex=>(ht C s₀ H₀ ex).out) (fun C s₀ H₀ ex=>(he C s₀ H₀ ex).out) hs)
theorem js_comp {N : List Str} {cap : List (Option Nat)} {scope : Scope} {ifs : List Expr} {wi : TI} {g : TG} {i : Nat} {x : Str} (hc : X.calm = true) (S : CompScope X N cap scope) (hi : JI X tg it wi)
  (hg:∀ C s₀ H₀ ex,JG (cxComp X N scope C s₀ H₀ ex) tg g) (ht:∀ C s₀ H₀ ex,JTs (cxComp X N scope C s₀ H₀ ex) ifs tA) (he:∀ C s₀ H₀ ex,JE (cxComp X N scope C s₀ H₀ ex) e te)
  (hN:X.N.Nodup) (hix:X.N[i]? = some x) (hx:X.env.scope.names.lookup x = some .local) (hsw:swapsWith (.ListComp e [⟨tg,it,ifs,0⟩] scope pos) (some (.Name x pos')) spos.line X.env = pure true:=by rfl)
  (hs:∀ x,foldedSetIterable it X.env x = pure x:=by intro _; rfl) :
  JS X (.Assign [.Name x pos'] (.ListComp e [⟨tg,it,ifs,0⟩] scope pos) spos) (fun D σ H=>tComp cap wi g tA te (fun d H'=>D.nx (σ.set i (some (.ref d))) H') σ H) :=
 .mk (ps_comp hc S hi.out (fun C s₀ H₀ ex=>(hg C s₀ H₀ ex).out) (fun C s₀ H₀ ex=>(ht C s₀ H₀ ex).out) (fun C s₀ H₀ ex=>(he C s₀ H₀ ex).out) hN hix hx hsw hs)
theorem jss_nil:JSs X [] tNext:=.mk pss_nil
theorem jss_cons (h1:JS X st u) (h2:JSs X sts u'):JSs X (st :: sts) (tSeq u u'):=.mk (pss_cons h1.out h2.out)
theorem jss_one (h1:JS X st u):JSs X [st] u:=.mk (pss_one h1.out)
theorem js_set {i : Nat} {x : Str} (hN : X.N.Nodup) (hi : X.N[i]? = some x) (hx : Loc X.env.scope x) (he : JE X e te) (hs : swapsWith e (some (.Name x pos')) pos.line X.env = pure false := by rfl) (hf : X.fn x = true ∨ X.env.scope.names.lookup x = some .local := by first | exact .inl rfl | exact .inr rfl | assumption) :
  JS X (.Assign [.Name x pos'] e pos) (tAsg te (gName i)):=.mk (ps_set hN hi hx he.out hs hf)
theorem js_if (hc:JT X c tA) (ha:JSs X sts u) (hb:JSs X sts' u'):JS X (.If c sts sts' pos) (tIfS tA u u'):=.mk (ps_if hc.out ha.out hb.out)
theorem js_ret (he:JE X e te):JS X (.Return (some e) pos) (tRet te):=.mk (ps_ret he.out)
theorem js_expr (he:JE X e te) (hs:swapsWith e none pos.line X.env = pure false:=by rfl):JS X (.Expr e pos) (tDrop te):=.mk (ps_expr he.out hs)
theorem js_while (hp:PassesOwn (model X.prog X.w) X.A X.env X.xe) (hc:JT X c tA) (hb:JSs X sts u):JS X (.While c sts [] pos) (tWhile tA u):=.mk (ps_while hp hc.out hb.out)
theorem js_for {wi : TI} {g : TG} (hp : PassesOwn (model X.prog X.w) X.A X.env X.xe) (hc : X.calm = true) (hi : JI X tg it wi) (hg : JG X tg g) (hb : JSs X sts u)
  (hs:∀ x,foldedSetIterable it X.env x = pure x:=by intro _; rfl):JS X (.For tg it sts [] pos) (tFor wi g u):=.mk (ps_for hp hc hi.out hg.out hb.out hs)
end
theorem Raw.defJ {P : Program} {w : World} {K : PySem.W.Frag} {mg : Str → Option Value} {base : Heap} {x : Str} {st : Stmt} {N ps : List Str} {k : Nat} {sp : Sp} (R : Raw K mg x st ps) (S : FnScope N ps (defScope st)) (len : ∀ vs H Q E, sp vs H Q E → vs.length = ps.length)
  (hbody:∀ (f:Addr) (cdv:Value) (A:Around) (outer:List Env) (s:Shared) (H:Hp) (vs:List V) (Q:VK) (E:XK),Room k (A.deeper (envOfC x (defScope st) s.heap.objs.size f cdv))→sp vs H Q E →
   ∃ t,JSs (cxOf CX0 P w K mg base N x (defScope st) f cdv A outer s H E).nox (defBody st) t∧t { nx:=fun _ H'=>Q .non H',rt:=Q } (start N vs) H):Def P w K mg base (k + 1) x ps sp :=
 R.def S len fun f cdv A outer s H vs Q E hr h=>let ⟨t,h1,h2⟩:=hbody f cdv A outer s H vs Q E hr h; ⟨t,h1.out,h2⟩
end L2
namespace L2
open PySem PySem.Spec PyProof.Rows
inductive TyD (K:PySem.W.Frag) (H:Hp):V→String→Prop where
 | non:TyD K H .non "NoneType"
 | bl (x:Bool):TyD K H (.bl x) "bool"
 | int (i:Int):TyD K H (.int i) "int"
 | str (x:Str):TyD K H (.str x) "str"
 | list {a:Addr} {xs:List V} (e:SqL K H a xs):TyD K H (.ref a) "list"
 | tuple {a:Addr} {xs:List V} (e:SqT K H a xs):TyD K H (.ref a) "tuple"
theorem isinst_okD {X : Cx} {pins : List (Addr × Obj)} {σ : St} {H : Hp} {s : Shared} {A : Around} {E : Value → Shared → Prop} {Q : Value → Shared → Prop} {c : Value} {b : Bool} {x : V} {u : Value} {t : String} (I : Inv X pins σ H s) (rx : RelV x u) (ty : TyD X.K H x t) (e : PySem.W.kitOne X.K (.type t) c = some b) (h : ∀ tk, Q (.bool b) { s with toks := tk }) :
  wpAny (model X.prog X.w) A (call (.builtin "isinstance") [u,c]) Q E s:=by
 cases ty with
 | non=>exact isinst_ok I rx .non e h
 | bl y=>exact isinst_ok I rx (.bl y) e h
 | int i=>exact isinst_ok I rx (.int i) e h
 | str y=>exact isinst_ok I rx (.str y) e h
 | @list a xs ea =>
  cases (show u = Value.ref a from rx)
  obtain ⟨its,rv,⟨o,n,h1,h2,h3,h4⟩,hz⟩:=I.list ea
  exact PySem.W.kia_one PySem.W.kitx_list I.kIn ⟨o,h1,h2⟩ e (fun z=>nomatch z) h
 | @tuple a xs ea =>
  cases (show u = Value.ref a from rx)
  obtain ⟨its,rv,⟨o,h1,h2,n,h4⟩,hz⟩:=I.tuple ea
  exact PySem.W.kia_one PySem.W.kitx_tuple I.kIn ⟨o,h1,h2⟩ e (fun z=>nomatch z) h
def gIsi (K:PySem.W.Frag):List V→Hp→VK→Prop:=fun xs H Q=>match xs with
 | [x,.ty Tn]=>∃ ty b,TyD K H x ty∧PySem.W.kitOne K (.type ty) (.type Tn) = some b∧Q (.bl b) H
 | _=>False
theorem c_isiD {X:Cx} {K:PySem.W.Frag} (hK:X.K = K:=by rfl):Irr (CallR X (.builtin "isinstance") (gIsi K)):=by
 refine .mk ?_
 subst hK
 intro pins s σ H xs us Q I r h
 unfold gIsi at h
 split at h
 ·obtain ⟨ty,b,h1,h2,q⟩:=h
  obtain ⟨u,w',rfl,r1,r2⟩:=vals2 r
  cases r2
  exact isinst_okD I r1 h1 h2 fun tk=>⟨.bl b,H,I.tok tk,rfl,q⟩
 ·exact h.elim
end L2
namespace L2
open PySem PySem.Spec PyProof.Rows
abbrev anyHO:HO:=.ext fun _=>True
def Kn (H:Hp) (a:Addr) (o:Obj):Prop:=H a = some (.frz o anyHO)
theorem Kn.get {P:Program} {w:World} {H:Hp} {h:Heap} {a:Addr} {o:Obj} (k:Kn H a o) (x:HOk P w H h):h.get? a = some o:=(x a _ k).1
theorem ok_any {P:Program} {w:World} {H:Hp} {h:Heap} {a:Addr} {o:Obj} (e:h.get? a = some o):ObjOk P w H h a (.frz o anyHO):=⟨e,True.intro,⟨o,e⟩,fun _ _ _ _=>True.intro⟩
section
variable {P:Program} {w:World} {H H':Hp} {h h':Heap} {cs fs:List Addr}
end
structure CloScope (ps ls fr:List Str) (sc:Scope):Prop where
 kind:sc.kind = .function
 co:sc.isCoroutine = false
 gen:sc.isGenerator = false
 nd:(ps ++ ls ++ fr).Nodup
 par:∀ x ∈ ps,sc.names.lookup x = some .local
 nocell:∀ y ∈ sc.names,y.2 ≠ .cell
 fre:∀ x ∈ fr,sc.names.lookup x = some .free
 all:∀ y ∈ sc.names,y.2 = .free→y.1 ∈ fr
structure Made (H:Hp) (f:Addr) (name qual:Str) (st:Stmt) (cl:List (Str × Addr)):Prop where
 ex:∃ (doc pm:Value) (c':Addr) (ctv:Value) (oc:Obj) (vs:Array Value) (t:Tok),Kn H f (PySem.W.fnMade name qual (defArgs st) (defBody st) (defScope st) cl doc pm c' ctv)∧Kn H c' oc∧oc.data = .fields vs∧vs[1]? = some (.str qual t)
structure CloAt (H:Hp) (f:Addr) (name qual:Str) (st:Stmt) (fr:List Str) (cs:List Addr) (ws:List V):Prop where
 ex:∃ cl,Made H f name qual st cl∧(∀ x c,cl.lookup x = some c→∃ j:Nat,fr[j]? = some x∧cs[j]? = some c)∧∀ (j:Nat) x,fr[j]? = some x→∃ c,cl.lookup x = some c∧cs[j]? = some c
 cells:∀ (j:Nat) x,ws[j]? = some x→∃ c o u,cs[j]? = some c∧Kn H c o∧o.data = .cell (some u)∧RelV x u
 l1:cs.length = fr.length
 l2:ws.length = fr.length
 nd:cs.Nodup
end L2
namespace L2
open PySem PySem.Spec PyProof.Rows
structure FnV (P:Program) (w:World) (K:PySem.W.Frag) (mg:Str→Option Value) (base:Heap) (k:Nat) (f:Addr) (sp:Sp):Prop where
 fn:∀ vs H Q E,sp vs H Q E→∃ oc od fd sl,Kn H f ⟨oc,od,.func fd,sl⟩
 run:∀ (A:Around) (outer:List Env) (s:Shared) (H:Hp) (us:List Value) (vs:List V) (Q:VK) (E:XK),Room k A→Env0 P w K mg base A outer s H→Vals vs us→sp vs H Q E →
  codeAny (model P w) A (.call (.ref f) ⟨us,[]⟩) (CR CX0 outer P w H s Q E) s
section
variable {X:Cx} {e:Expr} {es:List Expr} {t:TA} {p pos:Pos}
end
structure TabOk (H:Hp) (Pt:Addr) (qs:List (Pos × Str)):Prop where
 ex:∃ l:List (Pos × Addr),H Pt = some (.tbl (triples l).toArray)∧∀ q ∈ l,∃ qual oc vs t,(q.1,qual) ∈ qs∧Kn H q.2 oc∧oc.data = .fields vs∧vs[1]? = some (.str qual t)
section
variable {X:Cx}
end
end L2
namespace L2
open PySem PySem.Spec PyProof.Rows
structure Froz (env:Env) (N:List Str) (σ:St) (fr:List Str) (cs:List Addr) (os:List Obj):Prop where
 l1:cs.length = fr.length
 l2:os.length = fr.length
 at_:∀ (j:Nat) x,fr[j]? = some x→∃ (c:Addr) (o:Obj) (i:Nat) (v:V) (u:Value),cs[j]? = some c∧os[j]? = some o∧env.cells.lookup x = some c∧N[i]? = some x∧σ[i]? = some (some v)∧o.data = .cell (some u)∧RelV v u
 nd:cs.Nodup
section
variable {X:Cx} {e:Expr} {es:List Expr} {t:TA} {p pos:Pos}
end
structure Only2 (ts:List (Addr × Addr)) (H:Hp):Prop where
 tabs:∀ q ∈ ts,H q.2 = some (.tbl #[])
 rest:∀ b,H b = none∨(∃ q ∈ ts,q.2 = b)∨∃ o xs,H b = some (.frz o (.lst xs))
end L2
namespace L2
open PySem PySem.Spec PyProof.Rows
section
variable {X:Cx} {e a:Expr} {es:List Expr} {t:TA} {ta te:TE} {p pos:Pos} {K:PySem.W.Frag}
def dist (ns:List Int):List Int:=ns.foldl step_dedup []
theorem firstMet_dist (ns:List Int) (n:Nat) (hn:n = ns.length):firstMet (fun i=>ns.getD i 0) n = dist ns:=by
 unfold firstMet dist
 subst hn
 congr 1
 refine List.ext_getElem (by simp) fun i h1 h2=>?_
 simp [List.getD,h2]
theorem ints_vals:∀ {vs:List Value} {ns:List Int},Vals (ns.map V.int) vs→IntsAre vs ns
 | [],[],_=>.nil
 | [],n :: r,h=>by cases h
 | v :: vs,[],h=>by cases h
 | v :: vs,n :: r,h=>by
  cases h with
  | cons a b =>
   obtain ⟨t,rfl⟩:=a
   exact .cons n t (ints_vals b)
end
structure FunC (K:PySem.W.Frag) (x:Str) (st:Stmt) (f:Addr) (fd:FuncData) (c:Addr):Prop where
 ex:∃ (oc:Value) (od:Option Addr) (kV doc pm:Value) (an:Option Addr) (ct:Value) (osl:Array (Option Value)),
  fd = PySem.W.fnOf x x (defArgs st) (defBody st) (defScope st) .none kV doc pm an (.ref c) ct∧K.lookup f = some ⟨oc,od,.func fd,osl⟩∧PySem.W.codeIn K (.ref c) x = true
 kp:PySem.W.keepIn K (.ref f) = true
structure RawC (K:PySem.W.Frag) (mg:Str→Option Value) (x:Str) (st:Stmt) (ps:List Str) (c Pt:Addr):Prop where
 ex:∃ f fd,mg x = some (.ref f)∧FunC K x st f fd c∧∀ (us:List Value),us.length = ps.length→bindArgs fd ⟨us,[]⟩ = pure (ps.zip us)
 hd:PySem.W.codeHdIn K c Pt = true
end L2
namespace L2
open PySem
end L2
namespace L2
open PySem PySem.Spec PyProof.Rows
section
variable {X:Cx} {e k:Expr} {es:List Expr} {t:TA} {te tk:TE} {p pos p2:Pos} {K:PySem.W.Frag}
end
end L2
namespace L2
open PySem PySem.Spec PyProof.Rows
theorem Inv.turnedL {X : Cx} {pins : List (Addr × Obj)} {σ : List (Option V)} {H : Hp} {s : Shared} {h' : Heap} {t' : Nat} {fp : List Addr} (I : Inv X pins σ H s) (k : ∀ b o, b ∉ fp → s.heap.get? b = some o → h'.get? b = some o)
  (hf:∀ b ∈ fp,FpOk X pins H b):Inv X pins σ H { s with heap:=h',toks:=t' }:=by
 have nit:∀ b u,H b = some u→b ∉ fp:=fun b u e z=>by rw [(hf b z).1] at e; cases e
 refine I.step (g':=s.gens) (d':=s.drawn) (ch:=fp) (fun b hb=>?_) (fun b o _ _ hc e _=>k b o hc e) (fun b o _ _ hc e _=>⟨o.slots,k b o hc e⟩) (fun _ _ _ _ n=>n)
  (fun b o hc e=>⟨o,k b o hc e⟩) (fun _ _ e=>e) (fun _ _ _ e=>e) (fun b ps e=>⟨#[],by rw [e]; simp⟩) (fun m hm=>?_) (fun b u e=>?_) I.bare
 ·obtain ⟨_,f1,_,f3,f4,f5⟩:=hf b hb
  exact ⟨f3,f1,f4,f5⟩
 ·obtain ⟨o,es,ep,ho,r⟩:=hm
  exact ⟨o,es,ep,k _ o (fun z=>(hf _ z).2.1 rfl) ho,r⟩
 ·refine (I.hok b u e).stay (fun c v hc q=>k c v ?_ q) (fun _ q=>q) fun _ _ q=>q
  rcases hc with z | z
  ·rw [z]; exact nit b u e
  ·exact nit c _ z
section
variable {prog:Program} {w:World} {A:Around} {E:Value→Shared→Prop} {s:Shared}
theorem nextOf_tup_item {it l : Addr} {i : Nat} {items} {x : Value} {Q : Value → Shared → Prop} (hit : s.heap.IsTupleIter it l i)
  (hl:s.heap.IsTuple l items) (hx:items[i]? = some x)
  (hQ:∀ h',h'.IsTupleIter it l (i + 1)→Heap.SameBut it s.heap h'→Q x { s with heap:=h' }) :
  wpAny (model prog w) A (Builtin.SmallTypes.nextOf (.ref it)) Q E s:=by
 obtain ⟨o,ho,hc,hd⟩:=id hit
 obtain ⟨ol,hol,_,nl,hdl⟩:=hl
 unfold Builtin.SmallTypes.nextOf
 refine wpAny_bind (wpAny_callSpecial?_slot (name:=Str.ofString "__next__") hit.typeIs F.slot_tuple_iterator_next
  (wpAny_call_entry F.slot_tuple_iterator_next hit.typeIs F.entry_tuple_iterator_next ?_ (F.args_tuple_iterator_next_1 _)))
 show wpAny _ _ (field (.ref it) 0 >>= _) _ _ s
 refine wpAny_bind (wpAny_field ho hd (x:=.ref l) rfl ?_)
 show wpAny _ _ (if (Value.ref l == Value.none) = true then _ else _) _ _ s
 rw [if_neg (show ¬ ((Value.ref l == Value.none) = true) from Bool.false_ne_true)]
 show wpAny _ _ (field (.ref it) 1 >>= _) _ _ s
 refine wpAny_bind (wpAny_field ho hd (x:=.int i 0) rfl ?_)
 show wpAny _ _ (seqItems? (.ref l) >>= _) _ _ s
 refine wpAny_bind (wpAny_seqItems hol hdl ?_)
 simp only [Int.toNat_natCast,hx]
 refine wpAny_bind (wpAny_setField ho hd (by simp) (wpAny_pure ⟨x,rfl,wpAny_pure (hQ _ ?_ (Heap.SameBut.update ..))⟩))
 exact ⟨_,Heap.get?_update_self _ ho (Obj.isFreed_of_fields (Obj.data_mapFields hd _)),(Obj.cls_mapFields ..).trans hc,by
  rw [Obj.data_mapFields hd]; simp [rawInt]⟩
theorem nextOf_tup_end {it l : Addr} {i : Nat} {items} {Q : Value → Shared → Prop} (hh : A.handled = none)
  (hit:s.heap.IsTupleIter it l i) (hl:s.heap.IsTuple l items) (hx:items[i]? = none)
  (hE:∀ h' e,Heap.ExtBut it s.heap h'→(∃ o,h'.get? e = some o∧o.cls = .type "StopIteration")→E (.ref e) { s with heap:=h' }) :
  wpAny (model prog w) A (Builtin.SmallTypes.nextOf (.ref it)) Q E s:=by
 obtain ⟨o,ho,hc,hd⟩:=id hit
 obtain ⟨ol,hol,_,nl,hdl⟩:=hl
 unfold Builtin.SmallTypes.nextOf
 refine wpAny_bind (wpAny_callSpecial?_slot (name:=Str.ofString "__next__") hit.typeIs F.slot_tuple_iterator_next
  (wpAny_call_entry F.slot_tuple_iterator_next hit.typeIs F.entry_tuple_iterator_next ?_ (F.args_tuple_iterator_next_1 _)))
 show wpAny _ _ (field (.ref it) 0 >>= _) _ _ s
 refine wpAny_bind (wpAny_field ho hd (x:=.ref l) rfl ?_)
 show wpAny _ _ (if (Value.ref l == Value.none) = true then _ else _) _ _ s
 rw [if_neg (show ¬ ((Value.ref l == Value.none) = true) from Bool.false_ne_true)]
 show wpAny _ _ (field (.ref it) 1 >>= _) _ _ s
 refine wpAny_bind (wpAny_field ho hd (x:=.int i 0) rfl ?_)
 show wpAny _ _ (seqItems? (.ref l) >>= _) _ _ s
 refine wpAny_bind (wpAny_seqItems hol hdl ?_)
 simp only [Int.toNat_natCast,hx]
 refine wpAny_bind (wpAny_rule (wpAny_bind (wpAny_setField ho hd (by simp) ?_)))
 show wpAny _ _ (newExc (.type "StopIteration") [] >>= _) _ _ _
 refine wpAny_bind ?_
 simp only [newExc,newTuple]
 refine wpAny_bind (wpAny_newObj_type ?_ (by size_fits))
 refine wpAny_bind (m:=firstArgMember _ _) (wpAny_of_eq (a:=Value.none) (by first | rfl | (simp only [firstArgMember]; rfl)) ?_)
 refine wpAny_newObj_type ?_ (by size_fits)
 simp only [raiseNew]
 refine wpAny_bind (wpAny_handled ?_)
 first | rw [show A.in1.handled = none from hh] | rw [hh]
 refine wpAny_bind (wpAny_pure (wpAny_throw ?_))
 exact hE _ _ (((Heap.SameBut.update ..).extBut.push _).push _) ⟨_,Heap.get?_push_size _ rfl,rfl⟩
def ItAt (t:Bool) (h:Heap) (it a:Addr) (k:Nat):Prop:=match t with
 | true=>h.IsTupleIter it a k
 | false=>h.IsListIter it a k
def SrcAt (t:Bool) (h:Heap) (a:Addr) (xs:Array Value):Prop:=match t with
 | true=>h.IsTuple a xs
 | false=>h.IsList a xs
def itCls (t:Bool):String:=match t with
 | true=>"tuple_iterator"
 | false=>"list_iterator"
theorem ItAt.at {t:Bool} {h h':Heap} {it a:Addr} {k:Nat} (x:ItAt t h it a k) (e:∀ o,h.get? it = some o→h'.get? it = some o):ItAt t h' it a k:=by
 cases t with
 | true=>obtain ⟨o,ho,r⟩:=x; exact ⟨o,e o ho,r⟩
 | false=>obtain ⟨o,ho,r⟩:=x; exact ⟨o,e o ho,r⟩
theorem ItAt.obj {t:Bool} {h:Heap} {it a:Addr} {k:Nat} (x:ItAt t h it a k):∃ o,h.get? it = some o∧∀ v,o.data ≠ .cell v:=by
 cases t with
 | true=>obtain ⟨o,ho,_,d⟩:=x; exact ⟨o,ho,fun v z=>by rw [d] at z; cases z⟩
 | false=>obtain ⟨o,ho,_,d⟩:=x; exact ⟨o,ho,fun v z=>by rw [d] at z; cases z⟩
theorem SrcAt.at {t:Bool} {h h':Heap} {a:Addr} {xs:Array Value} (x:SrcAt t h a xs) (e:∀ o,h.get? a = some o→h'.get? a = some o):SrcAt t h' a xs:=by
 cases t with
 | true=>obtain ⟨o,ho,r⟩:=x; exact ⟨o,e o ho,r⟩
 | false=>obtain ⟨o,ho,r⟩:=x; exact ⟨o,e o ho,r⟩
theorem SrcAt.lt {t:Bool} {h:Heap} {a:Addr} {xs:Array Value} (x:SrcAt t h a xs):a < h.objs.size:=by
 cases t with
 | true=>obtain ⟨o,ho,_⟩:=x; exact Heap.lt_size ho
 | false=>obtain ⟨o,ho,_⟩:=x; exact Heap.lt_size ho
theorem nextOf_item {t : Bool} {it a : Addr} {k : Nat} {xs : Array Value} {x : Value} {Q : Value → Shared → Prop} (hit : ItAt t s.heap it a k) (hs : SrcAt t s.heap a xs) (hx : xs[k]? = some x)
  (hQ:∀ h',ItAt t h' it a (k + 1)→Heap.SameBut it s.heap h'→Q x { s with heap:=h' }):wpAny (model prog w) A (Builtin.SmallTypes.nextOf (.ref it)) Q E s:=by
 cases t with
 | true=>exact nextOf_tup_item hit hs hx hQ
 | false=>exact wpAny_nextOf_list_item hit hs hx hQ
theorem nextOf_end {t : Bool} {it a : Addr} {k : Nat} {xs : Array Value} {Q : Value → Shared → Prop} (hh : A.handled = none) (hit : ItAt t s.heap it a k) (hs : SrcAt t s.heap a xs) (hx : xs[k]? = none)
  (hE:∀ h' e,Heap.ExtBut it s.heap h'→(∃ o,h'.get? e = some o∧o.cls = .type "StopIteration")→E (.ref e) { s with heap:=h' }):wpAny (model prog w) A (Builtin.SmallTypes.nextOf (.ref it)) Q E s:=by
 cases t with
 | true=>exact nextOf_tup_end hh hit hs hx hE
 | false=>exact wpAny_nextOf_list_end hh hit hs hx hE
theorem pyIter_src {t : Bool} {a : Addr} {xs : Array Value} {Q : Value → Shared → Prop} (hs : SrcAt t s.heap a xs)
  (hQ:Q (.ref s.heap.objs.size) { s with heap:=s.heap.push { cls:=.type (itCls t),data:=.fields #[.ref a,.int 0 0] } }):wpAny (model prog w) A (pyIter (.ref a)) Q E s:=by
 cases t with
 | true=>exact wpAny_pyIter_tuple hs hQ
 | false=>exact wpAny_pyIter_list hs hQ
theorem ItAt.new {t:Bool} {h:Heap} {it a:Addr} (e:h.get? it = some { cls:=.type (itCls t),data:=.fields #[.ref a,.int 0 0] }):ItAt t h it a 0:=by
 cases t with
 | true=>exact ⟨_,e,rfl,rfl⟩
 | false=>exact ⟨_,e,rfl,rfl⟩
theorem zipN_item {t1 t2 : Bool} {z TI TO i1 i2 l1 l2 : Addr} {k1 k2 : Nat} {xs ys : Array Value} {x y a b : Value} {Q : Option Value → Shared → Prop} (D : ZipApart z TI TO i1 i2 l1 l2)
  (hz:IsZip s.heap z TI TO .none) (hTI:IsPair s.heap TI (.ref i1) (.ref i2)) (hTO:IsPair s.heap TO a b)
  (h1:ItAt t1 s.heap i1 l1 k1) (h2:ItAt t2 s.heap i2 l2 k2) (hl1:SrcAt t1 s.heap l1 xs) (hl2:SrcAt t2 s.heap l2 ys) (hx:xs[k1]? = some x) (hy:ys[k2]? = some y)
  (hQ:∀ h',IsZip h' z TI TO (rawInt s.heap.objs.size)→IsPair h' TO x y→ItAt t1 h' i1 l1 (k1 + 1)→ItAt t2 h' i2 l2 (k2 + 1)→IsPair h' s.heap.objs.size x y→h'.objs.size = s.heap.objs.size + 1 →
   (∀ c o,c ≠ z→c ≠ TO→c ≠ i1→c ≠ i2→s.heap.get? c = some o→h'.get? c = some o)→Q (some (.ref s.heap.objs.size)) { s with heap:=h' }) :
  wpAny (model prog w) A (pyNext (.ref z)) Q E s:=by
 have hT:s.TypeIs (.ref z) "zip":=⟨_,hz,rfl⟩
 unfold pyNext
 refine wpAny_bind (wpAny_attempt (wpAny_callSpecial?_slot (name:=Str.ofString "__next__") hT F.slot_zip_next
  (wpAny_call_entry F.slot_zip_next hT F.entry_zip_next ?_ (F.args_zip_next_1 _))))
 show wpAny _ _ (field (.ref z) 2 >>= _) _ _ _
 refine wpAny_bind (wpAny_field hz rfl (x:=.bool false) rfl ?_)
 show wpAny _ _ (field (.ref z) 3 >>= _) _ _ _
 refine wpAny_bind (wpAny_field hz rfl (x:=.ref TI) rfl ?_)
 refine wpAny_bind (wpAny_seqItems hTI rfl ?_)
 show wpAny _ _ (Builtin.SmallTypes.ownedTupleIsFree (.ref z) >>= _) _ _ _
 refine wpAny_bind ?_
 unfold Builtin.SmallTypes.ownedTupleIsFree
 refine wpAny_bind (wpAny_field hz rfl (x:=.none) rfl (wpAny_pure ?_))
 simp only [if_true]
 refine wpAny_bind (wpAny_rule ?_)
 refine wpAny_bind (wpAny_field hz rfl (x:=.ref TO) rfl ?_)
 refine wpAny_bind (wpAny_setField_rec hz (by simp) fun h₁ hz₁ hs₁=>?_)
 replace hz₁:IsZip h₁ z TI TO .ellipsis:=hz₁
 refine wpAny_bind ?_
 simp only [List.zipIdx_cons,List.zipIdx_nil,List.forIn_cons,List.forIn_nil]
 refine wpAny_bind (wpAny_bind (wpAny_onRaise ?_))
 show wpAny _ _ (Builtin.SmallTypes.nextOf (.ref i1) >>= _) _ _ _
 refine wpAny_bind (nextOf_item (h1.at fun o e=>hs₁.extBut _ _ D.i1z e) (hl1.at fun o e=>hs₁.extBut _ _ D.l1z e) hx fun h₂ h1₂ hs₂=>wpAny_pure ?_)
 have hTO₂:IsPair h₂ TO a b:=hs₂.extBut _ _ D.TOi1 (hs₁.extBut _ _ D.TOz hTO)
 refine wpAny_bind (wpAny_seqItems hTO₂ rfl ?_)
 refine wpAny_bind (wpAny_updateSeq_pair hTO₂ fun h₃ hTO₃ hs₃=>?_)
 replace hTO₃:IsPair h₃ TO x b:=hTO₃
 refine wpAny_bind (wpAny_letGo (wpAny_pure ?_))
 refine wpAny_bind (wpAny_bind (wpAny_onRaise ?_))
 show wpAny _ _ (Builtin.SmallTypes.nextOf (.ref i2) >>= _) _ _ _
 refine wpAny_bind (nextOf_item (h2.at fun o e=>hs₃.extBut _ _ D.TOi2.symm (hs₂.extBut _ _ D.i12.symm (hs₁.extBut _ _ D.i2z e)))
  (hl2.at fun o e=>hs₃.extBut _ _ D.l2TO (hs₂.extBut _ _ D.l2i1 (hs₁.extBut _ _ D.l2z e))) hy fun h₄ h2₄ hs₄=>wpAny_pure ?_)
 have hTO₄:IsPair h₄ TO x b:=hs₄.extBut _ _ D.TOi2 hTO₃
 refine wpAny_bind (wpAny_seqItems hTO₄ rfl ?_)
 refine wpAny_bind (wpAny_updateSeq_pair hTO₄ fun h₅ hTO₅ hs₅=>?_)
 replace hTO₅:IsPair h₅ TO x y:=hTO₅
 refine wpAny_bind (wpAny_letGo (wpAny_pure (wpAny_pure ?_)))
 refine wpAny_bind (wpAny_seqItems hTO₅ rfl ?_)
 refine wpAny_bind (wpAny_newTuple ?_)
 have hsz:h₅.objs.size = s.heap.objs.size:=by rw [hs₅.1,hs₄.1,hs₃.1,hs₂.1,hs₁.1]
 have hz₅:IsZip h₅ z TI TO .ellipsis:=hs₅.extBut _ _ D.TOz.symm (hs₄.extBut _ _ D.i2z.symm (hs₃.extBut _ _ D.TOz.symm (hs₂.extBut _ _ D.i1z.symm hz₁)))
 have hk₅:∀ c o,c ≠ z→c ≠ TO→c ≠ i1→c ≠ i2→s.heap.get? c = some o→h₅.get? c = some o:=fun c o c1 c2 c3 c4 e =>
  hs₅.extBut _ _ c2 (hs₄.extBut _ _ c4 (hs₃.extBut _ _ c2 (hs₂.extBut _ _ c3 (hs₁.extBut _ _ c1 e))))
 have h1₅:ItAt t1 h₅ i1 l1 (k1 + 1):=h1₂.at fun o e=>hs₅.extBut _ _ D.TOi1.symm (hs₄.extBut _ _ D.i12 (hs₃.extBut _ _ D.TOi1.symm e))
 have h2₅:ItAt t2 h₅ i2 l2 (k2 + 1):=h2₄.at fun o e=>hs₅.extBut _ _ D.TOi2.symm e
 have hzlt:z < h₅.objs.size:=Heap.lt_size hz₅
 show wpAny _ _ (Builtin.SmallTypes.ownedTupleHandOut (.ref z) (.ref h₅.objs.size) >>= _) _ _ _
 refine wpAny_bind ?_
 unfold Builtin.SmallTypes.ownedTupleHandOut
 have hz₆:IsZip (h₅.push { cls:=.type "tuple",data:=.seq #[x,y] }) z TI TO .ellipsis:=Heap.get?_push_of_some _ hz₅
 refine wpAny_bind (wpAny_setField_rec hz₆ (by simp) fun h₇ hz₇ hs₇=>?_)
 replace hz₇:IsZip h₇ z TI TO (rawInt h₅.objs.size):=hz₇
 refine wpAny_setField_rec hz₇ (by simp) fun h₈ hz₈ hs₈=>?_
 replace hz₈:IsZip h₈ z TI TO (rawInt h₅.objs.size):=hz₈
 have up:∀ c o,c ≠ z→h₅.get? c = some o→h₈.get? c = some o:=fun c o c1 e=>hs₈.extBut _ _ c1 (hs₇.extBut _ _ c1 (Heap.get?_push_of_some _ e))
 have hT₈:IsPair h₈ h₅.objs.size x y:=hs₈.extBut _ _ (Nat.ne_of_gt hzlt) (hs₇.extBut _ _ (Nat.ne_of_gt hzlt) (Heap.get?_push_size _ rfl))
 have hz8:h₈.objs.size = h₅.objs.size + 1:=by rw [hs₈.1,hs₇.1,Heap.size_push]
 rw [hsz] at hz₈ hT₈ hz8
 refine wpAny_pure ⟨_,rfl,?_⟩
 refine wpAny_pure ?_
 show Q (some (.ref h₅.objs.size)) _
 rw [hsz]
 exact hQ h₈ hz₈ (up _ _ D.TOz hTO₅) (h1₅.at fun o e=>up _ o D.i1z e) (h2₅.at fun o e=>up _ o D.i2z e) hT₈ hz8 fun c o c1 c2 c3 c4 e=>up c o c1 (hk₅ c o c1 c2 c3 c4 e)
theorem zipN_end {t1 t2 : Bool} {z TI TO i1 i2 l1 l2 : Addr} {k1 k2 : Nat} {xs ys : Array Value} {a b : Value} {Q : Option Value → Shared → Prop} (hh : A.handled = none) (D : ZipApart z TI TO i1 i2 l1 l2)
  (hz:IsZip s.heap z TI TO .none) (hTI:IsPair s.heap TI (.ref i1) (.ref i2)) (hTO:IsPair s.heap TO a b)
  (h1:ItAt t1 s.heap i1 l1 k1) (h2:ItAt t2 s.heap i2 l2 k2) (hl1:SrcAt t1 s.heap l1 xs) (hl2:SrcAt t2 s.heap l2 ys) (hend:xs[k1]? = none∨ys[k2]? = none)
  (hQ:∀ h',(∀ c o,c ≠ z→c ≠ TO→c ≠ i1→c ≠ i2→s.heap.get? c = some o→h'.get? c = some o)→Q none { s with heap:=h' }):wpAny (model prog w) A (pyNext (.ref z)) Q E s:=by
 have hT:s.TypeIs (.ref z) "zip":=⟨_,hz,rfl⟩
 have hE : ∀ h' e, (∀ c o, c ≠ z → c ≠ TO → c ≠ i1 → c ≠ i2 → s.heap.get? c = some o → h'.get? c = some o) → (∃ o, h'.get? e = some o ∧ o.cls = .type "StopIteration") →
   wpAny (model prog w) A (do if (← isInstance (.ref e) (.type "StopIteration")) then pure none else throw (.ref e)) Q E { s with heap:=h' }:=fun h' e hk he=>by
  obtain ⟨o,ho,hc⟩:=he
  exact wpAny_bind (wpAny_isInstance (T:="StopIteration") (b:=true) ⟨o,ho,hc⟩ isSubtype_stop (wpAny_pure (hQ _ hk)))
 unfold pyNext
 refine wpAny_bind (wpAny_attempt (wpAny_callSpecial?_slot (name:=Str.ofString "__next__") hT F.slot_zip_next
  (wpAny_call_entry F.slot_zip_next hT F.entry_zip_next ?_ (F.args_zip_next_1 _))))
 show wpAny _ _ (field (.ref z) 2 >>= _) _ _ _
 refine wpAny_bind (wpAny_field hz rfl (x:=.bool false) rfl ?_)
 show wpAny _ _ (field (.ref z) 3 >>= _) _ _ _
 refine wpAny_bind (wpAny_field hz rfl (x:=.ref TI) rfl ?_)
 refine wpAny_bind (wpAny_seqItems hTI rfl ?_)
 show wpAny _ _ (Builtin.SmallTypes.ownedTupleIsFree (.ref z) >>= _) _ _ _
 refine wpAny_bind ?_
 unfold Builtin.SmallTypes.ownedTupleIsFree
 refine wpAny_bind (wpAny_field hz rfl (x:=.none) rfl (wpAny_pure ?_))
 simp only [if_true]
 refine wpAny_bind (wpAny_rule ?_)
 refine wpAny_bind (wpAny_field hz rfl (x:=.ref TO) rfl ?_)
 refine wpAny_bind (wpAny_setField_rec hz (by simp) fun h₁ hz₁ hs₁=>?_)
 replace hz₁:IsZip h₁ z TI TO .ellipsis:=hz₁
 refine wpAny_bind ?_
 simp only [List.zipIdx_cons,List.zipIdx_nil,List.forIn_cons,List.forIn_nil]
 refine wpAny_bind (wpAny_bind (wpAny_onRaise ?_))
 show wpAny _ _ (Builtin.SmallTypes.nextOf (.ref i1) >>= _) _ _ _
 cases hx:xs[k1]? with
 | none =>
  refine wpAny_bind (nextOf_end hh (h1.at fun o e=>hs₁.extBut _ _ D.i1z e) (hl1.at fun o e=>hs₁.extBut _ _ D.l1z e) hx fun h₂ e hs₂ he=>?_)
  obtain ⟨oe,hoe,hce⟩:=he
  have hz₂:IsZip h₂ z TI TO .ellipsis:=hs₂ _ _ D.i1z.symm hz₁
  have hez:e ≠ z:=fun x=>by subst x; rw [hz₂] at hoe; cases hoe; simp at hce
  refine wpAny_setField_rec hz₂ (by simp) fun h₃ _ hs₃=>hE h₃ e (fun c o c1 _ c3 _ x=>hs₃.extBut _ _ c1 (hs₂ _ _ c3 (hs₁.extBut _ _ c1 x))) ⟨oe,hs₃.extBut _ _ hez hoe,hce⟩
 | some x =>
  have hy:ys[k2]? = none:=by rcases hend with h | h; rw [hx] at h; cases h; exact h
  refine wpAny_bind (nextOf_item (h1.at fun o e=>hs₁.extBut _ _ D.i1z e) (hl1.at fun o e=>hs₁.extBut _ _ D.l1z e) hx fun h₂ h1₂ hs₂=>wpAny_pure ?_)
  have hTO₂:IsPair h₂ TO a b:=hs₂.extBut _ _ D.TOi1 (hs₁.extBut _ _ D.TOz hTO)
  refine wpAny_bind (wpAny_seqItems hTO₂ rfl ?_)
  refine wpAny_bind (wpAny_updateSeq_pair hTO₂ fun h₃ hTO₃ hs₃=>?_)
  refine wpAny_bind (wpAny_letGo (wpAny_pure ?_))
  refine wpAny_bind (wpAny_bind (wpAny_onRaise ?_))
  show wpAny _ _ (Builtin.SmallTypes.nextOf (.ref i2) >>= _) _ _ _
  refine wpAny_bind (nextOf_end hh (h2.at fun o e=>hs₃.extBut _ _ D.TOi2.symm (hs₂.extBut _ _ D.i12.symm (hs₁.extBut _ _ D.i2z e)))
   (hl2.at fun o e=>hs₃.extBut _ _ D.l2TO (hs₂.extBut _ _ D.l2i1 (hs₁.extBut _ _ D.l2z e))) hy fun h₄ e hs₄ he=>?_)
  obtain ⟨oe,hoe,hce⟩:=he
  have hz₄:IsZip h₄ z TI TO .ellipsis:=hs₄ _ _ D.i2z.symm (hs₃.extBut _ _ D.TOz.symm (hs₂.extBut _ _ D.i1z.symm hz₁))
  have hez:e ≠ z:=fun x=>by subst x; rw [hz₄] at hoe; cases hoe; simp at hce
  refine wpAny_setField_rec hz₄ (by simp) fun h₅ _ hs₅=>hE h₅ e (fun c o c1 c2 c3 c4 x=>hs₅.extBut _ _ c1 (hs₄ _ _ c4 (hs₃.extBut _ _ c2 (hs₂.extBut _ _ c3 (hs₁.extBut _ _ c1 x))))) ⟨oe,hs₅.extBut _ _ hez hoe,hce⟩
end
def zipI (t1:Bool) (h:Heap) (l1:Addr):Heap:=h.push { cls:=.type (itCls t1),data:=.fields #[.ref l1,.int 0 0] }
def zipJ (t1 t2:Bool) (h:Heap) (l1 l2:Addr):Heap:=(zipI t1 h l1).push { cls:=.type (itCls t2),data:=.fields #[.ref l2,.int 0 0] }
def zipK (t1 t2:Bool) (h:Heap) (l1 l2:Addr):Heap:=(zipJ t1 t2 h l1 l2).push { cls:=.type "tuple",data:=.seq #[.ref h.objs.size,.ref (zipI t1 h l1).objs.size] }
def zipL (t1 t2:Bool) (h:Heap) (l1 l2:Addr):Heap:=(zipK t1 t2 h l1 l2).push { cls:=.type "tuple",data:=.seq #[.none,.none] }
def zipM (t1 t2:Bool) (h:Heap) (l1 l2:Addr):Heap:=(zipL t1 t2 h l1 l2).push { cls:=.type "zip",data:=.fields #[.none,.bool false,.bool false,.ref (zipJ t1 t2 h l1 l2).objs.size,.ref (zipK t1 t2 h l1 l2).objs.size] }
theorem meets_zip (t1 t2 : Bool) (l1 l2 : Addr) (xs ys : Array Value) :
  Meets (Builtin.«zip.__new__» ⟨[.type "zip",.ref l1,.ref l2],[]⟩) (fun _ R s=>SrcAt t1 s.heap l1 xs∧SrcAt t2 s.heap l2 ys ∧
   R (.ok (.ret (.ref (zipL t1 t2 s.heap l1 l2).objs.size))) { s with heap:=zipM t1 t2 s.heap l1 l2 }) :=
 .of_wp fun prog w A R s h=>by
  obtain ⟨hp,g,d,tk,os⟩:=s; obtain ⟨hl1,hl2,h⟩:=h
  have hsub:=sub_zip
  have hL1:SrcAt t1 (Shared.heap ⟨hp,g,d,tk,os⟩) l1 xs:=hl1
  have hL2:SrcAt t2 (Shared.heap ⟨hp.push { cls:=.type (itCls t1),data:=.fields #[.ref l1,.int 0 0] },g,d,tk,os⟩) l2 ys:=hl2.at fun o e=>Heap.get?_push_of_some _ e
  wp_walk using pyIter_src hL1,pyIter_src hL2
  exact ⟨_,rfl,h⟩
end L2
namespace L2
open PySem PySem.Spec PyProof.Rows
section
variable {prog:Program} {w:World} {A:Around} {E:Value→Shared→Prop} {s:Shared}
theorem call_zip {t1 t2 : Bool} {l1 l2 : Addr} {xs ys : Array Value} {Q : Value → Shared → Prop} (hl1 : SrcAt t1 s.heap l1 xs) (hl2 : SrcAt t2 s.heap l2 ys)
  (h:∀ h',IsZip h' (s.heap.objs.size + 4) (s.heap.objs.size + 2) (s.heap.objs.size + 3) .none→IsPair h' (s.heap.objs.size + 2) (.ref s.heap.objs.size) (.ref (s.heap.objs.size + 1)) →
   IsPair h' (s.heap.objs.size + 3) .none .none→ItAt t1 h' s.heap.objs.size l1 0→ItAt t2 h' (s.heap.objs.size + 1) l2 0 →
   (∀ c o,s.heap.get? c = some o→h'.get? c = some o)→Q (.ref (s.heap.objs.size + 4)) { s with heap:=h' }) :
  wpAny (model prog w) A (call (.type "zip") [.ref l1,.ref l2]) Q E s:=by
 refine callType_new F.called_zip (by decide) (F.typeCall_zip_2 _ _) (F.newCall_zip_2 _ _) (fun obj=>F.args_object_init_3 obj _ _) F.entry_zip_new
  (meets_zip t1 t2 l1 l2 xs ys) ⟨hl1,hl2,?_⟩
 have z1:(zipI t1 s.heap l1).objs.size = s.heap.objs.size + 1:=Heap.size_push ..
 have z2:(zipJ t1 t2 s.heap l1 l2).objs.size = s.heap.objs.size + 2:=by rw [zipJ,Heap.size_push,z1]
 have z3:(zipK t1 t2 s.heap l1 l2).objs.size = s.heap.objs.size + 3:=by rw [zipK,Heap.size_push,z2]
 have z4:(zipL t1 t2 s.heap l1 l2).objs.size = s.heap.objs.size + 4:=by rw [zipL,Heap.size_push,z3]
 have g5:(zipM t1 t2 s.heap l1 l2).get? (zipL t1 t2 s.heap l1 l2).objs.size = some _:=Heap.get?_push_size _ rfl
 have g4:(zipM t1 t2 s.heap l1 l2).get? (zipK t1 t2 s.heap l1 l2).objs.size = some _:=Heap.get?_push_of_some _ (Heap.get?_push_size _ rfl)
 have g3:(zipM t1 t2 s.heap l1 l2).get? (zipJ t1 t2 s.heap l1 l2).objs.size = some _:=Heap.get?_push_of_some _ (Heap.get?_push_of_some _ (Heap.get?_push_size _ rfl))
 have g2:(zipM t1 t2 s.heap l1 l2).get? (zipI t1 s.heap l1).objs.size = some _:=Heap.get?_push_of_some _ (Heap.get?_push_of_some _ (Heap.get?_push_of_some _ (Heap.get?_push_size _ rfl)))
 have g1:(zipM t1 t2 s.heap l1 l2).get? s.heap.objs.size = some _:=Heap.get?_push_of_some _ (Heap.get?_push_of_some _ (Heap.get?_push_of_some _ (Heap.get?_push_of_some _ (Heap.get?_push_size _ rfl))))
 show _∧_
 rw [z2,z3,z4] at g5
 rw [z1,z2] at g3
 rw [z3] at g4
 rw [z1] at g2
 rw [z4]
 exact ⟨⟨_,g5,rfl⟩,h _ g5 g3 g4 (ItAt.new g1) (ItAt.new g2) fun c o x =>
  Heap.get?_push_of_some _ (Heap.get?_push_of_some _ (Heap.get?_push_of_some _ (Heap.get?_push_of_some _ (Heap.get?_push_of_some _ x))))⟩
end
def SqA (t:Bool) (K:PySem.W.Frag) (H:Hp) (a:Addr) (xs:List V):Prop:=match t with
 | true=>SqT K H a xs
 | false=>SqL K H a xs
theorem Inv.src {X:Cx} {pins:List (Addr × Obj)} {σ:List (Option V)} {H:Hp} {s:Shared} {t:Bool} {a:Addr} {xs:List V} (I:Inv X pins σ H s) (h:SqA t X.K H a xs):∃ its:List Value,Vals xs its∧SrcAt t s.heap a its.toArray:=by
 cases t with
 | true=>obtain ⟨its,rv,p,_⟩:=I.tuple h; exact ⟨its,rv,p⟩
 | false=>obtain ⟨its,rv,p,_⟩:=I.list h; exact ⟨its,rv,p.isList⟩
theorem Inv.src_inj {X:Cx} {pins:List (Addr × Obj)} {σ:List (Option V)} {H:Hp} {s:Shared} {t:Bool} {a:Addr} {xs ys:List V} (I:Inv X pins σ H s) (h:SqA t X.K H a xs) (h':SqA t X.K H a ys):xs = ys:=by
 cases t with
 | true=>exact I.tuple_inj h h'
 | false=>exact I.list_inj h h'
def Itz (K:PySem.W.Frag) (t1 t2:Bool) (a b:Addr):It :=
 ⟨fun i H=>∃ xs x ys y,SqA t1 K H a xs∧xs[i]? = some x∧SqA t2 K H b ys∧ys[i]? = some y,
  fun i H v H'=>∃ T x y,(∀ xs,SqA t1 K H a xs→xs[i]? = some x)∧(∀ ys,SqA t2 K H b ys→ys[i]? = some y)∧H T = none∧v = .ref T∧H' = upd H T (.tup [x,y]),
  fun i H=>∃ xs ys,SqA t1 K H a xs∧SqA t2 K H b ys∧(xs.length ≤ i∨ys.length ≤ i)⟩
theorem turn_zip {P : Program} {w : World} {K : PySem.W.Frag} {elts : List Expr} {x1} {pos : Pos} {t1 t2 : Bool} {a b z TI TO i1 i2 : Addr} (D : ZipApart z TI TO i1 i2 a b) :
  Turn P w K (.Tuple elts x1 pos) (Itz K t1 t2 a b) [z,TI,TO,i1,i2] z (fun i h=>IsZip h z TI TO .none∧IsPair h TI (.ref i1) (.ref i2)∧(∃ u v,IsPair h TO u v)∧ItAt t1 h i1 a i∧ItAt t2 h i2 b i) where
 mem:=by simp
 obj:=by
  rintro i h ⟨hz,hTI,⟨u,v,hTO⟩,h1,h2⟩ c hc
  simp only [List.mem_cons,List.not_mem_nil,or_false] at hc
  rcases hc with rfl | rfl | rfl | rfl | rfl
  ·exact ⟨_,hz,fun v z=>by cases z⟩
  ·exact ⟨_,hTI,fun v z=>by cases z⟩
  ·exact ⟨_,hTO,fun v z=>by cases z⟩
  ·exact h1.obj
  ·exact h2.obj
 keep:=by
  rintro i h h' ⟨hz,hTI,⟨u,v,hTO⟩,h1,h2⟩ k
  exact ⟨k z (by simp) _ hz,k TI (by simp) _ hTI,⟨u,v,k TO (by simp) _ hTO⟩,h1.at fun o e=>k i1 (by simp) o e,h2.at fun o e=>k i2 (by simp) o e⟩
 item:=by
  rintro X hP hw hK hc i pins s σ H E I hf ⟨hz,hTI,⟨u,v,hTO⟩,h1,h2⟩ ⟨xs,x,ys,y,q1,hx,q2,hy⟩
  subst hP hw hK
  obtain ⟨its1,rv1,p1⟩:=I.src q1
  obtain ⟨its2,rv2,p2⟩:=I.src q2
  obtain ⟨ux,hux,rx⟩:=rv1.get hx
  obtain ⟨uy,huy,ry⟩:=rv2.get hy
  refine zipN_item D hz hTI hTO h1 h2 p1 p2 (x:=ux) (y:=uy) (by simpa using hux) (by simpa using huy) fun h' a1 a2 a3 a4 a5 a6 a7=>?_
  have hT:H s.heap.objs.size = none:=I.hok.fresh (Nat.le_refl _)
  have I1:Inv X pins σ (upd H s.heap.objs.size (.tup [x,y])) { s with heap:=s.heap.push { cls:=.type "tuple",data:=.seq [ux,uy].toArray } } :=
   I.laid (t':=s.toks) (fun b o e=>Heap.get?_push_of_some _ e) (Nat.le_refl _) (show ObjOk X.prog X.w _ _ _ (.tup [x,y]) from ⟨by show 2 ≤ sizeLine; decide,[ux,uy],.cons rx (.cons ry .nil),IsTup.new _ _⟩)
  have hlt:∀ c ∈ [z,TI,TO,i1,i2],c < s.heap.objs.size:=by
   intro c hc
   simp only [List.mem_cons,List.not_mem_nil,or_false] at hc
   rcases hc with rfl | rfl | rfl | rfl | rfl
   ·exact Heap.lt_size hz
   ·exact Heap.lt_size hTI
   ·exact Heap.lt_size hTO
   ·obtain ⟨o,e,_⟩:=h1.obj; exact Heap.lt_size e
   ·obtain ⟨o,e,_⟩:=h2.obj; exact Heap.lt_size e
  have hf':∀ c ∈ [z,TI,TO,i1,i2],FpOk X pins (upd H s.heap.objs.size (.tup [x,y])) c:=fun c hc=>by
   obtain ⟨f0,fr⟩:=hf c hc
   exact ⟨by rw [upd_ne (Nat.ne_of_lt (hlt c hc))]; exact f0,fr⟩
  have kept:∀ c o,c ∉ [z,TI,TO,i1,i2]→(s.heap.push { cls:=.type "tuple",data:=.seq [ux,uy].toArray }).get? c = some o→h'.get? c = some o:=by
   intro c o hc e
   have hc':c ≠ z∧c ≠ TI∧c ≠ TO∧c ≠ i1∧c ≠ i2:=by simpa using hc
   by_cases hn:c = s.heap.objs.size
   ·subst hn
    have e0:(s.heap.push { cls:=.type "tuple",data:=.seq [ux,uy].toArray }).get? s.heap.objs.size = some { cls:=.type "tuple",data:=.seq [ux,uy].toArray }:=Heap.get?_push_size _ rfl
    rw [e0] at e
    cases e
    exact a5
   ·have e1 : s.heap.get? c = some o := by
     rw [Heap.get?_push_ne _ _ _ hn] at e
     exact e
    exact a7 c o hc'.1 hc'.2.2.1 hc'.2.2.2.1 hc'.2.2.2.2 e1
  have I2:Inv X pins σ (upd H s.heap.objs.size (.tup [x,y])) { s with heap:=h' }:=I1.turnedL (t':=s.toks) kept hf'
  refine ⟨_,rfl,?_⟩
  refine wpAny_letOwnedTupleGo_zip a1 fun h2' hz2 hs2=>?_
  have I3:Inv X pins σ (upd H s.heap.objs.size (.tup [x,y])) { s with heap:=h2' }:=Inv.turnedL (s:={ s with heap:=h' }) (h':=h2') (t':=s.toks) (fp:=[z,TI,TO,i1,i2]) I2 (fun c o hc e=>hs2.extBut _ _ (fun q=>hc (by simp [q])) e) hf'
  refine ⟨.ref s.heap.objs.size,_,I3,rfl,⟨_,x,y,fun zs hq=>by rw [I.src_inj hq q1]; exact hx,fun zs hq=>by rw [I.src_inj hq q2]; exact hy,hT,rfl,rfl⟩,?_,fun c hc=>(hf' c hc).1⟩
  exact ⟨hz2,hs2.extBut _ _ D.TIz (a7 _ _ D.TIz D.TITO D.TIi1 D.TIi2 hTI),⟨_,_,hs2.extBut _ _ D.TOz a2⟩,a3.at fun o e=>hs2.extBut _ _ D.i1z e,a4.at fun o e=>hs2.extBut _ _ D.i2z e⟩
 done:=by
  rintro X hP hw hK hc i pins s σ H E I hf ⟨hz,hTI,⟨u,v,hTO⟩,h1,h2⟩ ⟨xs,ys,q1,q2,hend⟩
  subst hP hw hK
  obtain ⟨its1,rv1,p1⟩:=I.src q1
  obtain ⟨its2,rv2,p2⟩:=I.src q2
  have l1:=rv1.length
  have l2:=rv2.length
  refine zipN_end (I.ok.hd hc) D hz hTI hTO h1 h2 p1 p2 (by simp; omega) fun h' hk=>⟨rfl,I.turnedL (t':=s.toks) (fp:=[z,TI,TO,i1,i2]) (fun c o hc e=>?_) hf⟩
  have hc':c ≠ z∧c ≠ TI∧c ≠ TO∧c ≠ i1∧c ≠ i2:=by simpa using hc
  exact hk c o hc'.1 hc'.2.2.1 hc'.2.2.2.1 hc'.2.2.2.2 e
 self:=fun _ _ _ _ _ st h=>wpAny_pyIter_zip st.1 h
section
variable {X:Cx} {K:PySem.W.Frag}
def iZip (K:PySem.W.Frag) (ta:TA):TI:=fun σ H R=>ta σ H fun vs H1=>match vs with
 | [.ref a,.ref b]=>∃ t1 t2,(∃ xs,SqA t1 K H1 a xs)∧(∃ ys,SqA t2 K H1 b ys)∧R (Itz K t1 t2 a b) H1
 | _=>False
theorem pi_zip {a b : Expr} {ta : TA} {p pos : Pos} {elts : List Expr} {x1} {pos' : Pos} (hg : Gl X "zip") (hm : X.mg "zip" = none) (ha : PA X [a, b] ta) (hK : X.K = K := by rfl) (hs : starEach [a, b] X.env = [(false, eval a X.env), (false, eval b X.env)] := by rfl) (hs2 : starEach [b] X.env = [(false, eval b X.env)] := by rfl) :
  PI X (.Tuple elts x1 pos') (.Call (.Name "zip" p) [a,b] [] pos) (iZip K ta):=by
 subst hK
 intro pins s σ H R I h
 refine Call_ (ld_blt I hg hm boot_zip (PyProof.Rows.callWith_type1 (thn (ha pos pins s σ H _ I h) fun us s1 ⟨vs,H1,I1,r1,q1⟩=>?_) (by rw [hs,hs2]) (by rw [hs2]; rfl)))
 dsimp only at q1
 split at q1
 ·obtain ⟨u,u',rfl,r,r'⟩:=vals2 r1
  cases r
  cases r'
  obtain ⟨t1,t2,⟨xs,hx⟩,⟨ys,hy⟩,q⟩:=q1
  obtain ⟨its1,rv1,p1⟩:=I1.src hx
  obtain ⟨its2,rv2,p2⟩:=I1.src hy
  refine call_zip p1 p2 fun h' hz hTI hTO h1 h2 hk=>?_
  refine wpAny_pyIter_zip hz ?_
  refine ⟨_,[s1.heap.objs.size + 4,s1.heap.objs.size + 2,s1.heap.objs.size + 3,s1.heap.objs.size,s1.heap.objs.size + 1],_,_,H1,rfl,I1.kept (t':=s1.toks) hk,turn_zip (zipApart_new p1.lt p2.lt),⟨hz,hTI,⟨_,_,hTO⟩,h1,h2⟩,fun c hc=>?_,q⟩
  have hge:s1.heap.objs.size ≤ c:=by
   simp only [List.mem_cons,List.not_mem_nil,or_false] at hc
   rcases hc with rfl | rfl | rfl | rfl | rfl
   ·exact Nat.le_add_right _ 4
   ·exact Nat.le_add_right _ 2
   ·exact Nat.le_add_right _ 3
   ·exact Nat.le_refl _
   ·exact Nat.le_add_right _ 1
  exact I1.fpOk hge (I1.hok.fresh hge)
 ·exact q1.elim
theorem ji_zip {a b : Expr} {ta : TA} {p pos : Pos} {elts : List Expr} {x1} {pos' : Pos} (hg : Gl X "zip") (hm : X.mg "zip" = none) (ha : JA X [a, b] ta) (hK : X.K = K := by rfl) (h1 : noStar a = true := by rfl) (h2 : noStar b = true := by rfl) :
  JI X (.Tuple elts x1 pos') (.Call (.Name "zip" p) [a,b] [] pos) (iZip K ta):=.mk (pi_zip hg hm ha.out hK (by rw [starEach_cons h1,starEach_cons h2]; rfl) (by rw [starEach_cons h2]; rfl))
end
theorem for_zip {K : PySem.W.Frag} {t1 t2 : Bool} {a b : Addr} {xs ys : List V} {g : TG} {tb : TS} {D : Ends} {σ : St} {H : Hp} (Pv : Nat → St → Hp → Prop) (h0 : Pv 0 σ H) (hle : xs.length = ys.length)
  (hl:∀ i σ H,i ≤ xs.length→Pv i σ H→SqA t1 K H a xs∧SqA t2 K H b ys)
  (hs:∀ i x y σ H,xs[i]? = some x→ys[i]? = some y→Pv i σ H→∀ T,H T = none→g (.ref T) σ (upd H T (.tup [x,y])) fun σ2 H2=>tb { D with nx:=Pv (i + 1),ct:=Pv (i + 1),bk:=D.nx } σ2 H2) (hd:∀ σ H,Pv xs.length σ H→D.nx σ H) :
  ∃ W:Nat→Nat→St→Hp→Prop,(∃ m,W 0 m σ H)∧∀ i m σ H,W i m σ H →
   ((Itz K t1 t2 a b).stop i H∧D.nx σ H)∨((Itz K t1 t2 a b).go i H∧∃ N:St→Hp→Prop,(∀ σ' H',N σ' H'→∃ m',m' < m∧W (i + 1) m' σ' H')∧∀ x H',(Itz K t1 t2 a b).yld i H x H'→g x σ H' fun σ2 H2=>tb { D with nx:=N,ct:=N,bk:=D.nx } σ2 H2):=by
 refine ⟨fun i m σ H=>m = xs.length - i∧i ≤ xs.length∧Pv i σ H,⟨xs.length,by simp,Nat.zero_le _,h0⟩,?_⟩
 rintro i m σ H ⟨rfl,hi,p⟩
 obtain ⟨q1,q2⟩:=hl i σ H hi p
 by_cases hlt:i < xs.length
 ·have hlt2:i < ys.length:=by omega
  refine .inr ⟨⟨xs,xs[i],ys,ys[i],q1,by simp [hlt],q2,by simp [hlt2]⟩,Pv (i + 1),fun σ' H' p'=>⟨xs.length - (i + 1),by omega,rfl,hlt,p'⟩,fun v H' y=>?_⟩
  obtain ⟨T,x,y,e1,e2,hT,rfl,rfl⟩:=y
  exact hs i x y σ H (e1 xs q1) (e2 ys q2) p T hT
 ·have e:i = xs.length:=by omega
  subst e
  exact .inl ⟨⟨xs,ys,q1,q2,.inl (Nat.le_refl _)⟩,hd σ H p⟩
end L2
namespace L2
open PySem PySem.Spec PyProof.Rows
def FlyG (B:Heap) (l:List Env) (e:Addr) (cls a0:Value) (h:Heap):Prop:=B.StaysIn h∧B.get? e = none∧h.FunFrames B l∧∃ fl,h.TracedAtW B e cls a0 fl
theorem FlyG.of {B h:Heap} {l:List Env} {e:Addr} {cls a0:Value} (x:Heap.FlyingW B l e cls a0 h):FlyG B l e cls a0 h:=⟨x.1,x.2.1,x.2.2.1,_,x.2.2.2.at⟩
section
variable {M:Model} {A:Around} {E:Value→Shared→Prop} {s:Shared} {B:Heap} {env:Env} {outer:List Env} {L e:Addr} {cls a0:Value} {Q:Unit→Shared→Prop}
theorem note_any (hfr : A.frames = some (env :: outer)) (hf : env.frame = some L) (x : FlyG B (env :: outer) e cls a0 s.heap)
  (hQ:∀ h',Heap.HeldW B (env :: outer) e cls a0 L h'→s.heap.UpToSlots h'→Q () { s with heap:=h' }):wpAny M A (noteFrame (.ref e) env) Q E s:=by
 obtain ⟨st,hn,hl,fl,ht⟩:=x
 by_cases hfl:fl = rawInt L
 ·subst hfl
  exact wpAny_noteFrame_againW hf ht (hQ s.heap ⟨st,hn,hl,ht⟩ (.refl _))
 ·obtain ⟨oe,vs,T,oT,ts,he,⟨hcls,h0⟩,hd,h1,hnT,hTe,hT,hdT,h3⟩:=ht
  subst hcls
  unfold noteFrame
  simp only [hf]
  refine wpAny_bind (wpAny_field he hd h1 ?_)
  rw [if_pos (show (Value.ref T != Value.none) = true from by simp)]
  refine wpAny_bind (wpAny_field hT hdT h3 ?_)
  rw [if_neg (show ¬ ((fl == rawInt L) = true) from fun z=>hfl (beq_iff_eq.mp z))]
  refine wpAny_bind (wpAny_setField hT hdT (Array.getElem?_eq_some_iff.mp h3).1 ?_)
  have other:∀ b,b ≠ T→(s.heap.update T (Obj.mapFields (·.setIfInBounds 3 Value.none))).get? b = s.heap.get? b:=fun b hb=>Heap.get?_update_other _ _ (Ne.symm hb)
  have noRecord:∀ b o,s.heap.get? b = some o→(∀ vs,o.data ≠ .fields vs)→b ≠ T:=fun b o hb hnf q=>by
   rw [q,hT] at hb; injection hb with hb; subst hb; exact hnf ts hdT
  refine wpAny_entryW hfr (hl.of_keeps fun b o hb hnf=>⟨o,(other b (noRecord b o hb hnf)).trans hb,rfl⟩) hf ((other e (Ne.symm hTe)).trans he)
   (fun b o hbo=>(other b fun q=>by rw [q,hnT] at hbo; cases hbo).trans (st b o hbo)) hn hd (Array.getElem?_eq_some_iff.mp h1).1 h0
   fun h' ⟨x1,x2,x3,x4⟩=>hQ h' ⟨x1,hn,x2,x3⟩ fun b o hb hnf=>x4 b o ((other b (noRecord b o hb hnf)).trans hb) hnf
theorem leaving_any (hfr : A.frames = some (env :: outer)) (hf : env.frame = some L) (x : FlyG B (env :: outer) e cls a0 s.heap)
  (hQ:∀ h',Heap.FlyingW B outer e cls a0 h'→s.heap.UpToSlots h'→Q () { s with heap:=h' }):wpAny M A (leaving env (.ref e)) Q E s:=by
 unfold leaving
 refine wpAny_bind (note_any hfr hf x fun h1 hh us1=>?_)
 refine wpAny_landsW (s:={ s with heap:=h1 }) hh fun h2 fl us2=>?_
 obtain ⟨k1,k2,⟨_,_,k3⟩,k4⟩:=fl
 exact hQ h2 ⟨k1,k2,k3,k4⟩ (us1.trans us2)
end
def FlyAt (P:Program) (w:World) (stack:List Env) (fs ex:List Addr) (H₀:Hp) (h₀:Heap) (os:OsState) (E:XK) (e:Value) (s':Shared):Prop :=
 ∃ (a:Addr) (B:Heap) (cls a0:Value) (H':Hp),e = .ref a∧s'.os = os∧AllBare s'.gens∧FlyG B stack a cls a0 s'.heap∧HOk P w H' B∧Un fs ex H₀ H' h₀ s'.heap ∧
 (∀ b o,h₀.get? b = some o→b ∉ fs→b ∉ ex→(∃ o',B.get? b = some o')∧(H₀ b = none→B.get? b = some o))∧E cls none H'
def CX1 (P:Program) (w:World):CXT:=fun outer H s E e s'=>FlyAt P w outer (frs outer) [] H s.heap s.os E e s'
def FlyX (X:Cx) (E:XK) (e:Value) (s':Shared):Prop:=FlyAt X.prog X.w X.stack X.fs X.ex X.H₀ X.s₀.heap X.s₀.os E e s'
def Exits (X:Cx) (E:XK):Prop:=X.Ok→∀ e s',FlyX X E e s'→X.xe e s'
section
variable {X:Cx} {E:XK} {pins:List (Addr × Obj)} {σ:List (Option V)} {H H':Hp} {s:Shared} {h'' B:Heap}
theorem Inv.nostk (I:Inv X pins σ H s) {b:Addr} {o:Obj} (e:X.s₀.heap.get? b = some o) (hb:b ∉ X.fs):b ∉ frs X.stack:=fun z=>by
 rcases List.mem_cons.mp (I.stkSub b z) with q | q
 ·exact absurd (Nat.lt_of_lt_of_le (Heap.lt_size e) I.ok.above) (by rw [q]; exact Nat.lt_irrefl _)
 ·exact hb q
theorem fly_core {fp : List Addr} {h' : Heap} (I : Inv X pins σ H s) (hfp : ∀ b ∈ fp, b ∈ X.ex ∨ X.s₀.heap.objs.size ≤ b) (un : Un (frs X.stack) fp H H' s.heap h')
  (kb:∀ b o,s.heap.get? b = some o→b ∉ frs X.stack→b ∉ fp→(∃ o',B.get? b = some o')∧(H b = none→B.get? b = some o)) (st:B.StaysIn h') :
  Un X.fs X.ex X.H₀ H' X.s₀.heap h'∧∀ b o,X.s₀.heap.get? b = some o→b ∉ X.fs→b ∉ X.ex→(∃ o',B.get? b = some o')∧(X.H₀ b = none→B.get? b = some o):=by
 have nofp:∀ b o,X.s₀.heap.get? b = some o→b ∉ X.ex→b ∉ fp:=fun b o e hx z=>by
  rcases hfp b z with q | q
  ·exact hx q
  ·exact absurd (Nat.lt_of_lt_of_le (Heap.lt_size e) q) (Nat.lt_irrefl _)
 have kb':∀ b o,X.s₀.heap.get? b = some o→b ∉ X.fs→b ∉ X.ex→(∃ o',B.get? b = some o')∧(X.H₀ b = none→B.get? b = some o):=fun b o e hb hx=>by
  obtain ⟨o1,e1⟩:=I.base.there b o e hx
  refine ⟨(kb b o1 e1 (I.nostk e hb) (nofp b o e hx)).1,fun n=>?_⟩
  exact (kb b o (I.base.keep b o e n hb hx) (I.nostk e hb) (nofp b o e hx)).2 (I.base.free b o e n hx)
 have inS:∀ b,b ∈ X.fs→b ∈ frs X.stack:=fun b hb=>by
  rcases I.ok.stk with q | ⟨q,hf⟩
  ·rw [q]; exact hb
  ·rw [q]; unfold frs; rw [List.filterMap_cons,hf]; exact List.mem_cons_of_mem _ hb
 refine ⟨⟨fun b o e n hb hx=>st b o ((kb' b o e hb hx).2 n),fun b o e n hb hx=>?_,fun b o e n hx=>?_,fun b o e hx=>?_,fun b xs e=>un.tups b xs (I.base.tups b xs e),fun b o u e=>un.frzs b o u (I.base.frzs b o u e),fun b ps e=>?_⟩,kb'⟩
 ·obtain ⟨sl1,e1⟩:=I.base.slot b o e n hb hx
  obtain ⟨sl2,e2⟩:=un.slot b _ e1 (I.base.free b o e n hx) (inS b hb) (nofp b o e hx)
  exact ⟨sl2,e2⟩
 ·obtain ⟨o1,e1⟩:=I.base.there b o e hx
  exact un.free b o1 e1 (I.base.free b o e n hx) (nofp b o e hx)
 ·obtain ⟨o1,e1⟩:=I.base.there b o e hx
  exact un.there b o1 e1 (nofp b o e hx)
 ·obtain ⟨m1,e1⟩:=I.base.tbls b ps e
  obtain ⟨m2,e2⟩:=un.tbls b _ e1
  exact ⟨m1 ++ m2,by rw [e2,Array.append_assoc]⟩
theorem fly_back {fp:List Addr} (I:Inv X pins σ H s) (hfp:∀ b ∈ fp,b ∈ X.ex∨X.s₀.heap.objs.size ≤ b) {e:Value} {s':Shared} (h:FlyAt X.prog X.w X.stack (frs X.stack) fp H s.heap s.os E e s'):FlyX X E e s':=by
 obtain ⟨a,B,cls,a0,H',rfl,os,bare,fl,hok,un,kb,hE⟩:=h
 obtain ⟨un',kb'⟩:=fly_core I hfp un kb fl.1
 exact ⟨a,B,cls,a0,H',rfl,os.trans I.os,bare,fl,hok,un',kb',hE⟩
theorem Exits.passes (h:Exits X E):Passes (CX1 X.prog X.w) X E:=fun pins σ H s e s' I q=>h I.ok e s' (fly_back (fp:=[]) I (fun _ z=>nomatch z) q)
end
section
variable {P:Program} {w:World} {K:PySem.W.Frag} {mg:Str→Option Value} {base:Heap} {N:List Str} {qual:Str} {scope:Scope} {f:Addr} {cd:Value} {A:Around} {outer:List Env} {s₀:Shared} {H₀:Hp} {E:XK}
 {pins:List (Addr × Obj)} {σ:List (Option V)} {H H':Hp} {s:Shared} {h' h'' B:Heap}
theorem frs_cons {env:Env} {l:List Env} {L:Addr} (h:env.frame = some L):frs (env :: l) = L :: frs l:=by unfold frs; rw [List.filterMap_cons,h]
theorem un_left {fs ex : List Addr} {H₀ H' : Hp} {h₀ h1 h2 : Heap} (un : Un fs ex H₀ H' h₀ h1) (kb : ∀ b o, h₀.get? b = some o → b ∉ fs → b ∉ ex → (∃ o', B.get? b = some o') ∧ (H₀ b = none → B.get? b = some o)) (st : B.StaysIn h2) (us : ∀ b ∈ fs, ∀ o, h1.get? b = some o → (∀ vs, o.data ≠ .fields vs) → ∃ sl, h2.get? b = some { o with slots := sl })
  (nf:∀ b ∈ fs,∃ o,h₀.get? b = some o∧∀ vs,o.data ≠ .fields vs) (hfree:∀ b ∈ fs,H₀ b = none):Un fs ex H₀ H' h₀ h2:=by
 have slot:∀ b o,h₀.get? b = some o→H₀ b = none→b ∈ fs→b ∉ ex→∃ sl,h2.get? b = some { o with slots:=sl }:=fun b o e n hb hx=>by
  obtain ⟨sl,e1⟩:=un.slot b o e n hb hx
  obtain ⟨o',e',d'⟩:=nf b hb
  rw [e] at e'; cases e'
  obtain ⟨sl2,e2⟩:=us b hb _ e1 d'
  exact ⟨sl2,e2⟩
 refine ⟨fun b o e n hb hx=>st b o ((kb b o e hb hx).2 n),slot,un.free,fun b o e hx=>?_,un.tups,un.frzs,un.tbls⟩
 by_cases hb:b ∈ fs
 ·obtain ⟨sl,e1⟩:=slot b o e (hfree b hb) hb hx
  exact ⟨_,e1⟩
 ·obtain ⟨o',e'⟩:=(kb b o e hb hx).1
  exact ⟨o',st b o' e'⟩
theorem exits_fn:Exits (cxOf (CX1 P w) P w K mg base N qual scope f cd A outer s₀ H₀ E) E:=by
 intro ok e s' h
 obtain ⟨a,B,cls,a0,H',rfl,os,bare,fl,hok,un,kb,hE⟩:=h
 show wpAny (model P w) (A.deeper (envOfC qual scope s₀.heap.objs.size f cd)) (leaving (envOfC qual scope s₀.heap.objs.size f cd) (.ref a)) (fun _ s''=>CX1 P w outer H₀ s₀ E (.ref a) s'') (fun e' s''=>CX1 P w outer H₀ s₀ E e' s'') s'
 refine leaving_any (L:=s₀.heap.objs.size) ok.frames rfl fl fun h'' fl' us=>?_
 exact ⟨a,B,cls,a0,H',rfl,os,bare,.of fl',hok,un_left un kb fl'.1 (fun b _=>us b) (fun b hb=>(ok.funs.mem hb).2) ok.frf,kb,hE⟩
theorem pass1:Passes (CX1 P w) (cxOf (CX1 P w) P w K mg base N qual scope f cd A outer s₀ H₀ E) E:=exits_fn.passes
theorem leave_made {e : Addr} {cls : Value} {args : List Value} (I : Inv (cxOf (CX1 P w) P w K mg base N qual scope f cd A outer s₀ H₀ E) pins σ H s) (hx : Heap.MadeExcOf s.heap h' e cls args) (hE : E cls none H) :
  (cxOf (CX1 P w) P w K mg base N qual scope f cd A outer s₀ H₀ E).xe (.ref e) { s with heap:=h' }:=by
 show wpAny (model P w) (A.deeper (envOfC qual scope s₀.heap.objs.size f cd)) (leaving (envOfC qual scope s₀.heap.objs.size f cd) (.ref e)) (fun _ s''=>CX1 P w outer H₀ s₀ E (.ref e) s'') (fun e' s''=>CX1 P w outer H₀ s₀ E e' s'') { s with heap:=h' }
 have hin:∀ env ∈ (envOfC qual scope s₀.heap.objs.size f cd :: outer),∀ b,env.frame = some b→b ∈ frs (envOfC qual scope s₀.heap.objs.size f cd :: outer):=fun env he b hb=>List.mem_filterMap.mpr ⟨env,he,hb⟩
 refine wpAny_leaves_madeW (base:=PySem.W.hideAll s.heap (frs (envOfC qual scope s₀.heap.objs.size f cd :: outer))) (h:=s.heap) (L:=s₀.heap.objs.size) I.ok.frames rfl (fun b o q=>PySem.W.of_hideAll _ q) (PySem.W.funFrames_hide I.stack hin) hx fun h'' t fl tup hbt us=>?_
 have hidden:∀ b o,s.heap.get? b = some o→b ∉ frs (envOfC qual scope s₀.heap.objs.size f cd :: outer)→(PySem.W.hideAll s.heap (frs (envOfC qual scope s₀.heap.objs.size f cd :: outer))).get? b = some o:=fun b o q hb=>PySem.W.hideAll_get _ q hb
 have noex:∀ b:Addr,b ∉ (cxOf (CX1 P w) P w K mg base N qual scope f cd A outer s₀ H₀ E).ex:=fun b z=>nomatch (show b ∈ ([]:List Addr) from z)
 have kb:∀ b o,s₀.heap.get? b = some o→b ∉ frs outer→b ∉ ([]:List Addr)→(∃ o',(PySem.W.hideAll s.heap (frs (envOfC qual scope s₀.heap.objs.size f cd :: outer))).get? b = some o')∧(H₀ b = none→(PySem.W.hideAll s.heap (frs (envOfC qual scope s₀.heap.objs.size f cd :: outer))).get? b = some o):=fun b o q hb _=>by
  obtain ⟨o1,e1⟩:=I.base.there b o q (noex b)
  exact ⟨⟨o1,hidden b o1 e1 (I.nostk q hb)⟩,fun n=>hidden b o (I.base.keep b o q n hb (noex b)) (I.nostk q hb)⟩
 have un:Un (frs outer) [] H₀ H s₀.heap h'':=un_left (I.base) kb fl.1 (fun b _=>((Heap.UpToSlots.of_keeps hx.keeps).trans us) b) (fun b hb=>(I.ok.funs.mem hb).2) I.ok.frf
 refine ⟨e,_,cls,_,H,rfl,I.os,I.bare,.of fl,fun b u q=>?_,un,kb,hE⟩
 refine (I.hok b u q).stay (fun c v hc z=>hidden c v z fun m=>?_) (fun _ z=>z) fun _ _ z=>z
 have hn:H c = none:=I.stkFree c m
 rcases hc with rfl | hc
 ·rw [q] at hn; cases hn
 ·rw [hc] at hn; cases hn
end
end L2
namespace L2
open PySem PySem.Spec PyProof.Rows
abbrev bmVE:List Value:=[.type "ValueError",.type "Exception",.type "BaseException",.type "object"]
theorem exc_of_in {K : PySem.W.Frag} {h : Heap} {C : Addr} {bmB : List Value} {newId : String} (X : K.In h) (q : PySem.W.excIn K C bmB newId = true) :
  ∃ bm N nm q bs hdct sn sub ab col dd k0 k1 k2 k3 k5 mN,h.get? C = some (excClassObj nm q C N bs bm hdct sn sub ab col dd k0 k1 k2 k3 k5 newId)∧h.Ns N mN∧mN "__init__" = none∧OwnTail h bmB bm:=by
 unfold PySem.W.excIn at q
 split at q
 ·rename_i dd cd sl ho
  split at q
  ·rename_i C' bm k0 k1 k2 k3 n k5 hm hs
   simp only [Bool.and_eq_true,beq_iff_eq,Bool.not_eq_true'] at q
   obtain ⟨⟨⟨⟨⟨rfl,rfl⟩,hdel⟩,ht⟩,hok⟩,hni⟩:=q
   obtain ⟨nm,bs,mro,ns,qn,hd,sn,sub,ab,col,del⟩:=cd
   dsimp only at hm hdel hok hni
   subst hm hdel
   have hsl:sl = #[k0,k1,k2,k3,some (.builtin n),k5]:=by
    obtain ⟨l⟩:=sl
    simp only at hs
    rw [hs]
   subst hsl
   exact ⟨bm,ns,nm,qn,bs,hd,sn,sub,ab,col,dd,k0,k1,k2,k3,k5,_,X _ _ ho,.of_isNs (PySem.W.isNs_of_in X hok),PySem.W.nsMap_none_of_in X hok hni,PySem.W.tail_of_in X ht⟩
  ·cases q
 ·cases q
def PF (X:Cx) (e:Expr) (c:St→Hp→Prop):Prop:=∀ (pins:List (Addr × Obj)) (s:Shared) (σ:St) (H:Hp),Inv X pins σ H s→c σ H →
 wpAny (model X.prog X.w) X.A (eval e X.env) (fun v s'=>∃ y t,v = .str y t∧y.length ≤ 1100000∧Inv X pins σ H s') X.xe s
def PFs (X:Cx) (es:List Expr) (c:St→Hp→Prop):Prop:=∀ (pins:List (Addr × Obj)) (s:Shared) (σ:St) (H:Hp) (acc:Str) (n:Nat),Inv X pins σ H s→c σ H→acc.length ≤ n * 1100000→n + es.length ≤ 12 →
 Joins (model X.prog X.w) X.A X.xe (evalEach es X.env) acc (fun out s'=>out.length ≤ sizeLine∧Inv X pins σ H s') s
section
variable {X:Cx} {e:Expr} {es:List Expr} {te:TE} {c c':St→Hp→Prop} {pos:Pos}
theorem size12 {n:Nat} (h:n ≤ 12 * 1100000):n ≤ sizeLine:=by rw [sizeLine_eq]; omega
theorem pf_str {x:Str} {k:Nat} (h:x.length ≤ 1100000:=by decide):PF X (.Constant (.str x) k pos) (fun _ _=>True):=fun pins s σ H I _ =>
 Calls.Constant_str (show ∃ y t,Value.str x s.toks = .str y t∧y.length ≤ 1100000∧Inv X pins σ H { s with toks:=s.toks + 1 } from ⟨x,_,rfl,h,I.tok _⟩)
theorem pf_repr (he:PE X e te):PF X (.FormattedValue e 114 none pos) (fun σ H=>te σ H fun v H1=>H1 = H∧∃ x,v = .str x∧x.length ≤ 100000∧∀ c ∈ x.cps.toList,c < 16 ^ 8):=by
 intro pins s σ H I h
 refine wpAny_FormattedValue_repr (thn (he pins s σ H _ I h) fun u s1 ⟨v,H1,I1,r1,e1,x,ex,hl,hc⟩=>?_)
 subst e1 ex
 obtain ⟨t,rfl⟩:=r1
 have hr:=StrLaws.reprText_len x hc
 have hz:=size12 (Nat.le_trans hr (show 10 * x.length + 2 ≤ 12 * 1100000 by omega))
 refine wpAny_pyReprObj_str ?_ hz
 refine wpAny_formatField_str ⟨_,_,rfl,by omega,I1.tok _⟩ ⟨_,_,rfl,by omega,?_⟩ hz
 exact (I1.tok (s1.toks + 1)).tok _
theorem pf_plain (he:PE X e te):PF X (.FormattedValue e (-1) none pos) (fun σ H=>te σ H fun v H1=>H1 = H∧((∃ x,v = .str x∧x.length ≤ 100000)∨∃ a,v = .int a∧a.natAbs.log2 < 1920∧(Str.ofString (toString a)).length ≤ 1100000)):=by
 intro pins s σ H I h
 refine wpAny_FormattedValue_plain (thn (he pins s σ H _ I h) fun u s1 ⟨v,H1,I1,r1,e1,q⟩=>?_)
 subst e1
 rcases q with ⟨x,ex,hl⟩ | ⟨a,ea,hl,hs⟩
 ·subst ex
  obtain ⟨t,rfl⟩:=r1
  exact wpAny_formatField_str ⟨_,_,rfl,by omega,I1⟩ ⟨_,_,rfl,by omega,I1.tok _⟩ (size12 (by omega))
 ·subst ea
  obtain ⟨t,rfl⟩:=r1
  exact wpAny_formatField_int hl ⟨_,_,rfl,hs,I1.tok _⟩
theorem pfs_nil:PFs X [] (fun _ _=>True):=fun pins s σ H acc n I _ hl hn=>by
 have h2:n ≤ 12:=by simpa using hn
 exact ⟨size12 (Nat.le_trans hl (Nat.mul_le_mul_right 1100000 h2)),I⟩
theorem pfs_cons (h1:PF X e c) (h2:PFs X es c') (he:evalEach (e :: es) X.env = eval e X.env :: evalEach es X.env:=by rfl):PFs X (e :: es) (fun σ H=>c σ H∧c' σ H):=by
 intro pins s σ H acc n I hc hl hn
 rw [he]
 have hn':n + 1 + es.length ≤ 12:=by rw [List.length_cons] at hn; omega
 refine thn (h1 pins s σ H I hc.1) fun v s1 ⟨y,t,ev,hy,I1⟩=>⟨y,t,ev,?_,?_⟩
 ·rw [strLen_append]
  exact size12 (by omega)
 ·refine h2 pins s1 σ H (acc ++ y) (n + 1) I1 hc.2 ?_ hn'
  rw [strLen_append]; omega
def tFs (c:St→Hp→Prop):TE:=fun σ H Q=>c σ H∧∀ z:Str,z.length ≤ sizeLine→Q (.str z) H
theorem joins_mono {M:Model} {A:Around} {E:Value→Shared→Prop} {Q Q':Str→Shared→Prop} (hQ:∀ z s,Q z s→Q' z s):∀ (l:List (Sem Value)) (acc:Str) (s:Shared),Joins M A E l acc Q s→Joins M A E l acc Q' s
 | [],acc,s,h=>hQ _ _ h
 | x :: r,acc,s,h=>thn h fun v s1 ⟨y,t,ev,hz,hr⟩=>⟨y,t,ev,hz,joins_mono hQ r _ s1 hr⟩
theorem pe_fs {e1 e2:Expr} (h:PFs X (e1 :: e2 :: es) c) (hn:(e1 :: e2 :: es).length ≤ 12:=by decide):PE X (.JoinedStr (e1 :: e2 :: es) pos) (tFs c):=by
 intro pins s σ H Q I hq
 refine wpAny_JoinedStr (joins_mono (fun z s' ⟨hz,I'⟩=>⟨hz,?_⟩) _ _ _ (h pins s σ H Str.empty 0 I hq.1 (by decide) (by omega)))
 exact ⟨.str z,H,I'.tok _,⟨_,rfl⟩,hq.2 z hz⟩
end
end L2
namespace L2
open PySem PySem.Spec PyProof.Rows
def tRaise (C:Addr) (E:XK) (t:TA):TS:=fun D σ H=>t σ H fun vs H1=>vs.length ≤ sizeLine∧E (.ref C) none H1
section
variable {P:Program} {w:World} {K:PySem.W.Frag} {mg:Str→Option Value} {base:Heap} {N:List Str} {qual:Str} {scope:Scope} {f:Addr} {cd:Value} {A:Around} {outer:List Env} {s₀:Shared} {H₀:Hp} {E:XK}
theorem ps_raise {x : Str} {C : Addr} {e : Expr} {es : List Expr} {t : TA} {np cpos pos : Pos} (hg : Gl (cxOf (CX1 P w) P w K mg base N qual scope f cd A outer s₀ H₀ E) x) (hm : mg x = some (.ref C)) (hq : PySem.W.excIn K C bmVE "ValueError.__new__" = true)
  (ha:PA (cxOf (CX1 P w) P w K mg base N qual scope f cd A outer s₀ H₀ E) (e :: es) t) (hst:noStars (e :: es) = true:=by rfl) (hd:(x == ("__debug__":Str)) = false:=by decide) :
  PS (cxOf (CX1 P w) P w K mg base N qual scope f cd A outer s₀ H₀ E) (.Raise (some (.Call (.Name x np) (e :: es) [] cpos)) none pos) (tRaise C E t):=by
 intro pins s σ H D I h
 have h':noStar e = true∧noStars es = true:=by simpa [noStars] using hst
 have he:=starEach_cons (es:=es) (env:=(cxOf (CX1 P w) P w K mg base N qual scope f cd A outer s₀ H₀ E).env) h'.1
 have hpl:=back_any (env:=(cxOf (CX1 P w) P w K mg base N qual scope f cd A outer s₀ H₀ E).env) (pos:=cpos) hst
 obtain ⟨bm,N',nm,q,bs,hdct,sn,sub,ab,col,dd,k0,k1,k2,k3,k5,mN,hC,hN,hni,T⟩:=exc_of_in (h:=base) I.ok.mod.kin hq
 refine wpAny_Raise_call_subU (C:=C) (nm:=nm) (q:=q) (N:=N') (bs:=bs) (bm:=bm) (hdct:=hdct) (sn:=sn) (sub:=sub) (ab:=ab) (col:=col) (dd:=dd) (k0:=k0) (k1:=k1) (k2:=k2) (k3:=k3) (k5:=k5)
  F.excBase_ValueError (by decide +kernel) F.excBase_ValueError (mN:=mN) (T.hasType F.excBase_ValueError.hasBase) (I.ok.hd rfl) hpl hni (ld_glob I hg hm ⟨rfl,?_⟩ hd)
 have h0:=ha cpos pins s σ H _ I h
 rw [he] at h0 ⊢
 refine Calls.evalArgs_plain (wpAny_mono h0 (fun us s2 h2=>?_) fun _ _ y=>y)
 obtain ⟨vs,H2,I2,r2,hl,hE⟩:=h2
 have hlen:=r2.length
 exact ⟨rfl,by show us.length ≤ sizeLine; omega,I2.bk _ _ hC,hN.keeps I2.bk,T.keeps I2.bk,fun h3 e3 hm3=>leave_made I2 hm3 hE⟩
theorem js_raise {x : Str} {C : Addr} {e : Expr} {es : List Expr} {t : TA} {np cpos pos : Pos} (hg : Gl (cxOf (CX1 P w) P w K mg base N qual scope f cd A outer s₀ H₀ E) x) (hm : mg x = some (.ref C)) (hq : PySem.W.excIn K C bmVE "ValueError.__new__" = true)
  (ha:JA (cxOf (CX1 P w) P w K mg base N qual scope f cd A outer s₀ H₀ E) (e :: es) t) (hst:noStars (e :: es) = true:=by rfl) (hd:(x == ("__debug__":Str)) = false:=by decide) :
  JS (cxOf (CX1 P w) P w K mg base N qual scope f cd A outer s₀ H₀ E) (.Raise (some (.Call (.Name x np) (e :: es) [] cpos)) none pos) (tRaise C E t):=.mk (ps_raise hg hm hq ha.out hst hd)
theorem passes_loop:PassesOwn (model P w) (cxOf (CX1 P w) P w K mg base N qual scope f cd A outer s₀ H₀ E).A (cxOf (CX1 P w) P w K mg base N qual scope f cd A outer s₀ H₀ E).env (cxOf (CX1 P w) P w K mg base N qual scope f cd A outer s₀ H₀ E).xe:=PassesOwn.leaving
end
abbrev JF (X:Cx) (e:Expr) (c:St→Hp→Prop):Prop:=Irr (PF X e c)
abbrev JFs (X:Cx) (es:List Expr) (c:St→Hp→Prop):Prop:=Irr (PFs X es c)
section
variable {X:Cx} {e e1 e2:Expr} {es:List Expr} {te:TE} {c c':St→Hp→Prop} {pos:Pos}
def cRepr (te:TE):St→Hp→Prop:=fun σ H=>te σ H fun v H1=>H1 = H∧∃ x,v = .str x∧x.length ≤ 100000∧∀ c ∈ x.cps.toList,c < 16 ^ 8
def cPlain (te:TE):St→Hp→Prop:=fun σ H=>te σ H fun v H1=>H1 = H∧((∃ x,v = .str x∧x.length ≤ 100000)∨∃ a,v = .int a∧a.natAbs.log2 < 1920∧(Str.ofString (toString a)).length ≤ 1100000)
def cTrue:St→Hp→Prop:=fun _ _=>True
def cAnd (c c':St→Hp→Prop):St→Hp→Prop:=fun σ H=>c σ H∧c' σ H
theorem jf_str {x:Str} {k:Nat} (h:x.length ≤ 1100000:=by decide):JF X (.Constant (.str x) k pos) cTrue:=.mk (pf_str h)
theorem jf_repr (he:JE X e te):JF X (.FormattedValue e 114 none pos) (cRepr te):=.mk (pf_repr he.out)
theorem jf_plain (he:JE X e te):JF X (.FormattedValue e (-1) none pos) (cPlain te):=.mk (pf_plain he.out)
theorem jfs_nil:JFs X [] cTrue:=.mk pfs_nil
theorem jfs_cons (h1:JF X e c) (h2:JFs X es c') (he:evalEach (e :: es) X.env = eval e X.env :: evalEach es X.env:=by rfl):JFs X (e :: es) (cAnd c c'):=.mk (pfs_cons h1.out h2.out he)
theorem j_fs (h:JFs X (e1 :: e2 :: es) c) (hn:(e1 :: e2 :: es).length ≤ 12:=by decide):JE X (.JoinedStr (e1 :: e2 :: es) pos) (tFs c):=.mk (pe_fs h.out hn)
end
structure DefX (P:Program) (w:World) (K:PySem.W.Frag) (mg:Str→Option Value) (base:Heap) (k:Nat) (x:Str) (ps:List Str) (sp:Sp):Prop where
 ex:∃ f fd,mg x = some (.ref f)∧PySem.W.keepIn K (.ref f) = true∧(∃ oc od osl,K.lookup f = some ⟨oc,od,.func fd,osl⟩)∧Binds K fd ps []∧FnOk P w K mg base (CX1 P w) k f fd ps sp
section
variable {X:Cx} {k:Nat} {x:Str} {ps:List Str} {sp:Sp} {e:Expr} {es:List Expr} {t:TA} {p pos:Pos} {E:XK}
theorem pe_defX (D : DefX X.prog X.w X.K X.mg X.base k x ps sp) (hr : Room k X.A) (hg : Gl X x) (ha : PA X (e :: es) t) (hx : Passes (CX1 X.prog X.w) X E) (hdb : (x == ("__debug__" : Str)) = false := by decide)
  (hst:noStars (e :: es) = true:=by rfl):PE X (.Call (.Name x p) (e :: es) [] pos) (fun σ H Q=>t σ H fun vs H1=>sp vs H1 Q E):=by
 obtain ⟨f,fd,mgf,kp,_,b,G⟩:=D.ex
 have h':noStar e = true∧noStars es = true:=by simpa [noStars] using hst
 have he:=starEach_cons (es:=es) (env:=X.env) h'.1
 have hpl:=back_any (env:=X.env) (pos:=pos) h'.2
 have h:=pe_call (X:=X) (dvs:=[]) (E:=E) (p:=p) (pos:=pos) G hr hg mgf kp b .nil hx ha hdb he hpl
 intro pins s σ H Q I hq
 refine h pins s σ H Q I ?_
 show t σ H fun vs H1=>sp (vs ++ []) H1 Q E
 have e1:(fun (vs:List V) H1=>sp (vs ++ []) H1 Q E) = fun vs H1=>sp vs H1 Q E:=by funext vs H1; rw [List.append_nil]
 rw [e1]
 exact hq
theorem j_defX (D : DefX X.prog X.w X.K X.mg X.base k x ps sp) (hr : Room k X.A) (hg : Gl X x) (ha : JA X (e :: es) t) (hx : Passes (CX1 X.prog X.w) X E) (hdb : (x == ("__debug__" : Str)) = false := by decide)
  (hst:noStars (e :: es) = true:=by rfl):JE X (.Call (.Name x p) (e :: es) [] pos) (fun σ H Q=>t σ H fun vs H1=>sp vs H1 Q E):=.mk (pe_defX D hr hg ha.out hx hdb hst)
end
theorem Raw.defX {P : Program} {w : World} {K : PySem.W.Frag} {mg : Str → Option Value} {base : Heap} {x : Str} {st : Stmt} {N ps : List Str} {k : Nat} {sp : Sp} (R : Raw K mg x st ps) (S : FnScope N ps (defScope st)) (len : ∀ vs H Q E, sp vs H Q E → vs.length = ps.length)
  (hbody:∀ (f:Addr) (cdv:Value) (A:Around) (outer:List Env) (s:Shared) (H:Hp) (vs:List V) (Q:VK) (E:XK),Room k (A.deeper (envOfC x (defScope st) s.heap.objs.size f cdv))→sp vs H Q E →
   ∃ t,JSs (cxOf (CX1 P w) P w K mg base N x (defScope st) f cdv A outer s H E) (defBody st) t∧t { nx:=fun _ H'=>Q .non H',rt:=Q } (start N vs) H):DefX P w K mg base (k + 1) x ps sp:=by
 obtain ⟨f,fd,h1,F,b⟩:=R.ex
 refine ⟨f,fd,h1,F.kp,F.lk,.all b,?_⟩
 obtain ⟨oc,od,kV,doc,pm,an,cdv,ct,osl,rfl,lk,hcd⟩:=F.ex
 refine fn_of lk hcd S len fun A outer s H vs Q E hr hsp=>?_
 obtain ⟨t,h,q⟩:=hbody f cdv A outer s H vs Q E hr hsp
 exact ⟨t,h.out,q⟩
end L2
namespace L2
open PySem PySem.Spec PyProof.Rows
def FlyC (P:Program) (w:World) (stack:List Env) (ex:List Addr) (H₀:Hp) (h₀:Heap) (os:OsState) (E:XK) (C:Addr) (e:Value) (s':Shared):Prop :=
 ∃ (a:Addr) (B:Heap) (cls a0:Value) (H':Hp),e = .ref a∧s'.os = os∧AllBare s'.gens∧FlyG B stack a cls a0 s'.heap∧HOk P w H' B∧Un (frs stack) ex H₀ H' h₀ s'.heap ∧
 (∀ b o,h₀.get? b = some o→b ∉ frs stack→b ∉ ex→(∃ o',B.get? b = some o')∧(H₀ b = none→B.get? b = some o))∧E cls none H'∧(∃ m,B.Ns C m)∧H' C = none
def cxCompX (X:Cx) (N:List Str) (scope:Scope) (C:Addr) (s:Shared) (H:Hp) (ex:List Addr) (E:XK):Cx :=
 { cxComp X N scope C s H ex with xe:=FlyC X.prog X.w X.stack ex H s.heap s.os E C }
theorem inv_compX {X : Cx} {pins : List (Addr × Obj)} {σ : St} {H : Hp} {s : Shared} {N : List Str} {cap : List (Option Nat)} {scope : Scope} {ex : List Addr} {h₁ : Heap} {tk : Nat} {C : Addr} {E : XK} (S : CompScope X N cap scope) (I : Inv X pins σ H s) (hC : s.heap.objs.size ≤ C)
  (hns:h₁.Ns C (fun _=>none)) (hk:∀ b o,s.heap.get? b = some o→h₁.get? b = some o) (hex:∀ b ∈ ex,b < s.heap.objs.size∧FpOk X pins H b) :
  Inv (cxCompX X N scope C s H ex E) [] (capt cap σ) H { s with heap:=h₁,toks:=tk }:=(inv_comp S I hC hns hk hex).wish _
theorem passes_comp {X:Cx} {N:List Str} {scope:Scope} {C:Addr} {s:Shared} {H:Hp} {ex:List Addr} {E:XK}:Passes (CX1 X.prog X.w) (cxCompX X N scope C s H ex E) E:=by
 intro pins σ H1 s1 e s' I q
 obtain ⟨a,B,cls,a0,H',rfl,os,bare,fl,hok,un,kb,hE⟩:=q
 obtain ⟨un',kb'⟩:=fly_core (fp:=[]) I (fun _ z=>nomatch z) un kb fl.1
 obtain ⟨m,⟨o,es,ep,ho,r⟩,_⟩:=I.loc
 have hC:C ∉ frs X.stack:=fun z=>by
  obtain ⟨_,o',e',_⟩:=I.ok.funs.mem z
  exact absurd (Nat.lt_of_lt_of_le (Heap.lt_size e') I.ok.above) (Nat.lt_irrefl _)
 have hB:B.get? C = some o:=(kb C o ho hC (by simp)).2 I.free
 exact ⟨a,B,cls,a0,H',rfl,os.trans I.os,bare,fl,hok,un',kb',hE,⟨m,o,es,ep,hB,r⟩,un.free C o ho I.free (by simp)⟩
theorem comp_blockX {X : Cx} {EX : XK} {pins : List (Addr × Obj)} {σ : St} {H : Hp} {s : Shared} {N : List Str} {cap : List (Option Nat)} {scope : Scope} {elt target iter : Expr} {ifs : List Expr} {pos : Pos} {g : TG} {tc : TT} {te : TE} {J : It} {fp : List Addr} {it : Addr} {tn : Nat → Heap → Prop}
  {Q:Addr→Hp→Prop} {RR:Value→Addr→Result→Shared→Prop} {E:Value→Shared→Prop} (hc:X.calm = true) (S:CompScope X N cap scope) (I:Inv X pins σ H s) (T:Turn X.prog X.w X.K target J fp it tn) (st:tn 0 s.heap) (fo:∀ b ∈ fp,FpOk X pins H b)
  (hg:∀ C s₀ H₀,PG (cxCompX X N scope C s₀ H₀ fp EX) target g) (ht:∀ C s₀ H₀,PTs (cxCompX X N scope C s₀ H₀ fp EX) ifs tc) (he:∀ C s₀ H₀,PE (cxCompX X N scope C s₀ H₀ fp EX) elt te)
  (h:Gath J cap g tc te Q σ H)
  (hER:∀ D C,s.heap.objs.size ≤ C→X.env.locals ≠ C→∀ e s',FlyC X.prog X.w X.stack fp H s.heap s.os EX C e s'→notedBy (model X.prog X.w) X.A (compEnvC scope (closOf X.env scope.names []) C X.env) (fun e' s''=>RR (.ref D) C (.error e') s'') e s')
  (hRR:∀ D C s' H',Inv X pins σ H' s'→Q D H'→(∃ m,s'.heap.Ns C m)→H' C = none→X.s₀.heap.objs.size ≤ C→C ≠ X.env.locals→(∀ x c,X.env.cells.lookup x = some c→c ≠ C)→(∀ p ∈ X.pn ++ pins,p.1 ≠ C)→RR (.ref D) C (.ok .next) s') :
  wpAny (model X.prog X.w) X.A (newList []) (fun acc s₃=>wpAny (model X.prog X.w) X.A (newFunctionEnv scope X.env.globals (closOf X.env scope.names []) [] X.env.qual none .none (some X.env)) (fun cenv s₄ =>
   codeAny (model X.prog X.w) X.A (.compStart (.ListComp elt [⟨target,iter,ifs,0⟩] scope pos) 0 (.ref it) acc { cenv with scope:=relabel scope X.env }) (RR acc cenv.locals) s₄) E s₃) E s:=by
 have hfr:∀ a,s.heap.objs.size ≤ a→H a = none:=fun a ha=>I.hok.fresh ha
 obtain ⟨W,⟨m0,w0⟩,turn⟩:=h
 have fol:∀ b ∈ fp,b < s.heap.objs.size:=fun b hb=>by
  obtain ⟨o,ho,_⟩:=T.obj 0 _ st b hb
  exact Heap.lt_size ho
 have clt:∀ x c,X.env.cells.lookup x = some c→c < s.heap.objs.size:=fun x c e=>by
  obtain ⟨v,q⟩:=I.cell x c e
  exact q.lt
 refine wpAny_newObj_type (wpAny_newFunctionEnv S.nocell (by intro y hy; simp at hy) (fun h₁ hns₁ hsb₁=>?_) S.kind)
 dsimp only at hns₁ hsb₁ ⊢
 generalize hD:s.heap.objs.size = D at *
 generalize hH3:s.heap.push { cls:=.type "list",data:=.seq ([]:List Value).toArray } = H3 at *
 have hC:H3.objs.size = D + 1:=by rw [← hH3,Heap.size_push,hD]
 have keep3:∀ b o,s.heap.get? b = some o→H3.get? b = some o:=fun b o e=>by rw [← hH3]; exact Heap.get?_push_of_some _ e
 have keep4:∀ b o,H3.get? b = some o→h₁.get? b = some o:=fun b o e=>hsb₁.extBut b o (Nat.ne_of_lt (Heap.lt_size e)) (Heap.get?_push_of_some _ e)
 have D4:h₁.get? D = some (lobj [] 0):=keep4 _ _ (by rw [← hH3,← hD]; exact Heap.get?_push_size _ rfl)
 generalize hCC:H3.objs.size = C at *
 have hDC:D < C:=by omega
 have hDC':D ≤ C:=Nat.le_of_lt hDC
 have hL:X.env.locals < D:=by rw [← hD]; exact I.lt
 have I4:Inv (cxCompX X N scope C s H fp EX) [] (capt cap σ) H { s with heap:=h₁,toks:=s.toks + ([]:List (Str × Value)).length } :=
  inv_compX S I (by omega) hns₁ (fun b o e=>keep4 b o (keep3 b o e)) fun b hb=>⟨by rw [hD]; exact fol b hb,fo b hb⟩
 have fp4:∀ {H':Hp} {ob:Obj},(∀ b ∈ fp,H' b = none)→∀ b ∈ fp,FpOk (cxCompX X N scope C s H fp EX) [(D,ob)] H' b:=fun {H' ob} hn b hb=>by
  obtain ⟨f0,f1,f2,f3,f4,f5⟩:=fo b hb
  have hlt:=fol b hb
  refine ⟨hn b hb,?_,fun z=>?_,.inl hb,fun x c e=>f4 x c (closOf_ok (fun n c e=>by simp at e) x c e),fun p hp=>?_⟩
  ·exact Nat.ne_of_lt (Nat.lt_of_lt_of_le hlt hDC')
  ·rcases List.mem_cons.mp (I.stkSub b z) with e | e
   ·exact f1 e
   ·exact f2 e
  ·have hp':p ∈ [(D,ob)]:=hp
   rw [List.mem_singleton.mp hp']
   exact Nat.ne_of_gt hlt
 have st4:tn 0 h₁:=T.keep _ _ _ st fun b hb o e=>keep4 b o (keep3 b o e)
 have nfs:D ∉ (cxCompX X N scope C s H fp EX).fs:=fun z=>by
  rcases List.mem_cons.mp (I.stkSub D z) with e | e
  ·exact Nat.ne_of_gt hL e
  ·exact I.nofs (Nat.le_of_eq hD) e
 have pinD:∀ {σ':St} {H':Hp} {s':Shared} {ob:Obj},Inv (cxCompX X N scope C s H fp EX) [] σ' H' s'→H' D = none→s'.heap.get? D = some ob→(∀ v,ob.data ≠ .cell v)→Inv (cxCompX X N scope C s H fp EX) [(D,ob)] σ' H' s':=fun {σ' H' s' ob} J hn e nc =>
  J.pins_of fun p hp=>by
   rw [List.mem_singleton.mp hp]
   exact ⟨e,hn,Nat.ne_of_lt hDC,nfs,nc⟩
 have loop : ∀ s₄ : Shared, s₄ = { s with heap := h₁, toks := s.toks + ([] : List (Str × Value)).length } →
   codeAny (model X.prog X.w) X.A (.compLoop (.ListComp elt [⟨target,iter,ifs,0⟩] scope pos) 0 (.ref it) (.ref D) (compEnvC scope (closOf X.env scope.names []) C X.env)) (RR (.ref D) C) s₄:=by
  rintro s₄ rfl
  refine comp_loop (fun n s'=>∃ i ys its k σ' H',Inv (cxCompX X N scope C s H fp EX) [(D,lobj its k)] σ' H' s'∧Vals ys its∧tn i s'.heap∧(∀ b ∈ fp,H' b = none)∧W i n ys σ' H') ?_ m0
   ⟨0,[],[],0,_,_,pinD I4 (hfr D (Nat.le_refl _)) D4 (fun v z=>by cases z),.nil,st4,fun b hb=>(fo b hb).1,w0⟩
  rintro n s5 ⟨i,ys,its,k,σ5,H5,I5,rv5,st5,fr5,w5⟩
  have hpin:=I5.pin (D,lobj its k) (List.mem_append_right _ List.mem_cons_self)
  rcases turn i n ys σ5 H5 w5 with ⟨stop,hz,q⟩ | ⟨go,hz,NN,hNN,step⟩
  ·refine thn (T.done (cxCompX X N scope C s H fp EX) rfl rfl rfl hc i _ s5 σ5 H5 _ I5 (fp4 fr5) st5 stop) fun r s6 ⟨hr,I6⟩=>?_
   subst hr
   have p6:=I6.pin (D,lobj its k) (List.mem_append_right _ List.mem_cons_self)
   have I7:Inv X pins σ (upd H5 D (.lst ys)) s6:=I.call' (ch:=fp) I6.os (I6.base.add (Nat.le_of_eq hD) p6.2.1) (I6.hok.add p6.2.1 ⟨hz,its,k,rv5,p6.1⟩) I6.bare fun b hb=>by
    obtain ⟨f0,f1,f2,f3,f4,f5⟩:=fo b hb
    exact ⟨f3,f1,f4,f5⟩
   obtain ⟨m6,hn6,_⟩:=I6.loc
   refine hRR _ C s6 _ I7 (q D p6.2.1) ⟨m6,hn6⟩ ?_ ?_ ?_ ?_ ?_
   ·rw [upd_ne (Nat.ne_of_gt hDC)]; exact I6.free
   ·exact Nat.le_trans (by rw [← hD]; exact I.sz) hDC'
   ·exact Nat.ne_of_gt (Nat.lt_of_lt_of_le hL hDC')
   ·intro x c e z
    exact Nat.ne_of_lt (Nat.lt_of_lt_of_le (clt x c e) hDC') z
   ·intro p hp z
    have h6:=Heap.lt_size (I.pin p hp).1
    rw [hD] at h6
    exact Nat.ne_of_lt (Nat.lt_of_lt_of_le h6 hDC') z
  ·refine thn (T.item (cxCompX X N scope C s H fp EX) rfl rfl rfl hc i _ s5 σ5 H5 _ I5 (fp4 fr5) st5 go) fun r s6 ⟨u,hr,h6⟩=>?_
   subst hr
   refine thn h6 fun _ s7 ⟨x,H7,I7,r7,y7,st7,fr7⟩=>?_
   have I7':=I7.pinned (fp4 fr7) (T.obj _ _ st7)
   have kept:∀ {σ8:St} {H8:Hp} {s8:Shared},Inv (cxCompX X N scope C s H fp EX) ([(D,lobj its k)] ++ pinsAt fp s7.heap) σ8 H8 s8→tn (i + 1) s8.heap∧∀ b ∈ fp,H8 b = none:=fun {σ8 H8 s8} I8 =>
    ⟨T.keep _ _ _ st7 fun b hb o e=>(I8.pin (b,o) (List.mem_append_right _ (List.mem_append_right _ (mem_pinsAt hb e)))).1,fun b hb=>by
     obtain ⟨o,e,d⟩:=T.obj _ _ st7 b hb
     exact (I8.pin (b,o) (List.mem_append_right _ (List.mem_append_right _ (mem_pinsAt hb e)))).2.1⟩
   refine wpAny_mono (hg C s H _ s7 σ5 H7 x u _ I7' r7 (step x H7 y7)) (fun _ s8 ⟨σ8,H8,I8,q8⟩=>?_) fun e' s'' f=>hER D C hDC' (Nat.ne_of_lt (Nat.lt_of_lt_of_le hL hDC')) e' s'' f
   refine wpAny_mono (ht C s H _ s8 σ8 H8 _ I8 q8) (fun ok s9 ⟨H9,I9,q9⟩=>?_) fun e' s'' f=>hER D C hDC' (Nat.ne_of_lt (Nat.lt_of_lt_of_le hL hDC')) e' s'' f
   cases ok with
   | false =>
    rw [if_neg Bool.false_ne_true] at q9 ⊢
    obtain ⟨m',hm,w9⟩:=hNN _ _ _ q9
    exact ⟨m',hm,i + 1,ys,its,k,σ8,H9,I9.unpinned,rv5,(kept I9).1,(kept I9).2,w9⟩
   | true =>
    rw [if_pos rfl] at q9 ⊢
    refine wpAny_mono (he C s H _ s9 σ8 H9 _ I9 q9) (fun y s10 ⟨yv,H10,I10,r10,n10⟩=>?_) fun e' s'' f=>hER D C hDC' (Nat.ne_of_lt (Nat.lt_of_lt_of_le hL hDC')) e' s'' f
    obtain ⟨m',hm,w10⟩:=hNN _ _ _ n10
    obtain ⟨k10,f10⟩:=kept I10
    have p10:=I10.pin (D,lobj its k) (List.mem_append_right _ (List.mem_append_left _ List.mem_cons_self))
    have hlen:=rv5.length
    refine wpAny_list_append_plain (hsz:=by rw [List.size_toArray]; omega) (show s10.heap.PlainList D its.toArray from ⟨k,p10.1⟩) fun h11 hl11 hsb11=>?_
    obtain ⟨k11,e11⟩:=hl11
    have J0:Inv (cxCompX X N scope C s H fp EX) [] σ8 H10 s10:=I10.pins_of fun p hp=>nomatch hp
    have J1:Inv (cxCompX X N scope C s H fp EX) [] σ8 H10 { s10 with heap:=h11 }:=J0.turned (t':=s10.toks) (fun b o hb e=>hsb11.extBut b o hb e) p10.2.1 (Nat.ne_of_lt hDC) (.inr (Nat.le_of_eq hD)) (fun x c e z=>Nat.ne_of_lt (clt x c (closOf_ok (fun n c e=>by simp at e) x c e)) z) fun p hp=>nomatch (show p ∈ ([]:List (Addr × Obj)) from hp)
    have e12:h11.get? D = some (lobj (its ++ [y]) k11):=by rw [e11]; simp [lobj]
    refine ⟨m',hm,i + 1,ys ++ [yv],its ++ [y],k11,σ8,H10,pinD J1 p10.2.1 e12 (fun v z=>by cases z),rv5.append (.cons r10 .nil),?_,f10,w10⟩
    exact T.keep _ _ _ k10 fun b hb o e=>hsb11.extBut b o (Nat.ne_of_lt (fol b hb)) e
 refine codeAny_compStart_list (loop _ ?_) (T.self X.A 0 _ _ _ ?_ (loop _ ?_))
 ·rfl
 ·exact st4
 ·rfl
end L2
namespace L2
open PySem PySem.Spec PyProof.Rows
theorem funFrames_to {B B' h h':Heap} (hB:∀ L,B.get? L = none→B'.get? L = none):∀ {l:List Env},h.FunFrames B l→(∀ L ∈ frs l,∀ o,h.get? L = some o→(∀ vs,o.data ≠ .fields vs)→∃ o',h'.get? L = some o'∧o'.data = o.data)→h'.FunFrames B' l
 | [],_,_=>trivial
 | env :: r,⟨hk,⟨L,o,hf,hn,ho,hd⟩,hr⟩,k=>by
  obtain ⟨o',e',d'⟩:=k L (by rw [frs_cons hf]; exact List.mem_cons_self) o ho hd
  refine ⟨hk,⟨L,o',hf,hB L hn,e',fun vs z=>hd vs (d' ▸ z)⟩,funFrames_to hB hr fun L' hL'=>k L' ?_⟩
  rw [frs_cons hf]; exact List.mem_cons_of_mem _ hL'
section
variable {X:Cx} {E:XK} {pins:List (Addr × Obj)} {σ:List (Option V)} {H:Hp} {s:Shared}
theorem comp_exit {scope : Scope} {cl : List (Str × Addr)} {use : Option (Value → Sem Unit)} {Q : Value → Shared → Prop} {D C : Addr} {fp : List Addr} (hX : Exits X E) (I : Inv X pins σ H s) (hst : X.stack = X.env :: X.outer) (hfr : X.env.frame = some X.env.locals)
  (fo:∀ b ∈ fp,b ∈ X.ex∨X.s₀.heap.objs.size ≤ b) (hC:s.heap.objs.size ≤ C) (e:Value) (s':Shared) (h:FlyC X.prog X.w X.stack fp H s.heap s.os E C e s') :
  notedBy (model X.prog X.w) X.A (compEnvC scope cl C X.env) (fun e' s''=>compPost (model X.prog X.w) X.A X.xe use Q (.ref D) C (.error e') s'') e s':=by
 obtain ⟨a,B,cls,a0,H',rfl,os,bare,fl,hok,un,kb,hE,⟨m,hns⟩,hHC⟩:=h
 obtain ⟨oC,es,ep,hBC,rC⟩:=id hns
 show wpAny (model X.prog X.w) X.A (noteFrame (.ref a) X.env) _ _ s'
 refine note_any (outer:=X.outer) (L:=X.env.locals) (by rw [← hst]; exact I.ok.frames) hfr (by rw [← hst]; exact fl) fun h1 held us1=>?_
 obtain ⟨st1,hn1,fr1,tr1⟩:=held
 have flt:∀ L ∈ frs X.stack,L ≠ C:=fun L hL z=>by
  obtain ⟨_,o',e',_⟩:=I.stack.mem hL
  rw [z] at e'
  exact absurd (Nat.lt_of_lt_of_le (Heap.lt_size e') hC) (Nat.lt_irrefl _)
 refine ⟨m,⟨oC,es,ep,st1 C oC hBC,rC⟩,fun h2 hsb cenv hloc=>?_⟩
 obtain ⟨oe,vs,T,oT,ts,he,hcls,hd,hv1,hnT,hTe,hT,hdT,hv3⟩:=tr1
 have haC:a ≠ C:=fun z=>by rw [z,hBC] at hn1; cases hn1
 have hTC:T ≠ C:=fun z=>by rw [z,hBC] at hnT; cases hnT
 have he2:h2.get? a = some oe:=hsb.extBut _ _ haC he
 have hT2:h2.get? T = some oT:=hsb.extBut _ _ hTC hT
 unfold PySem.passOn
 refine wpAny_bind (wpAny_field (s:={ s' with heap:=h2 }) he2 hd hv1 ?_)
 rw [if_neg (show ¬ ((Value.ref T == Value.none) = true) from Bool.false_ne_true)]
 refine wpAny_bind ?_
 unfold setFlight
 refine wpAny_bind (wpAny_field (s:={ s' with heap:=h2 }) he2 hd hv1 ?_)
 rw [if_pos (show (Value.ref T != Value.none) = true from by simp)]
 refine wpAny_setField (s:={ s' with heap:=h2 }) hT2 hdT (Array.getElem?_eq_some_iff.mp hv3).1 (wpAny_throw ?_)
 generalize (cenv.frame.elim Value.none fun f=>rawInt f) = fl3
 have other:∀ b,b ≠ T→(h2.update T (Obj.mapFields (·.setIfInBounds 3 fl3))).get? b = h2.get? b:=fun b hb=>Heap.get?_update_other _ _ (Ne.symm hb)
 have hT3:(h2.update T (Obj.mapFields (·.setIfInBounds 3 fl3))).get? T = some (oT.mapFields (·.setIfInBounds 3 fl3)):=Heap.get?_update_self _ hT2 (Obj.isFreed_of_fields (Obj.data_mapFields hdT _))
 generalize h2.update T (Obj.mapFields (·.setIfInBounds 3 fl3)) = h3 at other hT3 ⊢
 have hide:∀ b o,B.get? b = some o→b ≠ C→(PySem.W.hideAll B [C]).get? b = some o:=fun b o q hb=>PySem.W.hideAll_get _ q (by simpa using hb)
 have unhide:∀ b,B.get? b = none→(PySem.W.hideAll B [C]).get? b = none:=fun b q=>by
  cases z:(PySem.W.hideAll B [C]).get? b with
  | none=>rfl
  | some o=>rw [PySem.W.of_hideAll _ z] at q; cases q
 have h13:∀ b o,b ≠ C→b ≠ T→h1.get? b = some o→h3.get? b = some o:=fun b o hb hb' q=>(other b hb').trans (hsb.extBut b o hb q)
 have st3:(PySem.W.hideAll B [C]).StaysIn h3:=fun b o q=>by
  have q':=PySem.W.of_hideAll _ q
  have hb:b ≠ C:=fun z=>by rw [z,PySem.W.hideAll_none _ (by simp)] at q; cases q
  exact h13 b o hb (fun z=>by rw [z,hnT] at q'; cases q') (st1 b o q')
 have frT:∀ L ∈ frs X.stack,∀ o,h1.get? L = some o→(∀ vs,o.data ≠ .fields vs)→h3.get? L = some o:=fun L hL o q hd'=>h13 L o (flt L hL) (fun z=>by
  rw [z,hT] at q; cases q; exact hd' ts hdT) q
 have fr3:h3.FunFrames (PySem.W.hideAll B [C]) X.stack:=funFrames_to unhide (by rw [hst]; exact fr1) fun L hL o q hd'=>⟨o,frT L hL o q hd',rfl⟩
 have fl3':FlyG (PySem.W.hideAll B [C]) X.stack a cls a0 h3:=⟨st3,unhide a hn1,fr3,fl3,oe,vs,T,_,_,(other a (Ne.symm hTe)).trans he2,hcls,hd,hv1,unhide T hnT,hTe,hT3,Obj.data_mapFields hdT _,by simp [(Array.getElem?_eq_some_iff.mp hv3).1]⟩
 have kb3:∀ b o,s.heap.get? b = some o→b ∉ frs X.stack→b ∉ fp→(∃ o',(PySem.W.hideAll B [C]).get? b = some o')∧(H b = none→(PySem.W.hideAll B [C]).get? b = some o):=fun b o q hb hx=>by
  have hbC:b ≠ C:=Nat.ne_of_lt (Nat.lt_of_lt_of_le (Heap.lt_size q) hC)
  obtain ⟨⟨o',e'⟩,k2⟩:=kb b o q hb hx
  exact ⟨⟨o',hide b o' e' hbC⟩,fun n=>hide b o (k2 n) hbC⟩
 have un3:Un (frs X.stack) fp H H' s.heap h3:=un_left un kb3 st3 (fun b hb o q hd'=>by
  obtain ⟨sl,q1⟩:=us1 b o q hd'
  exact ⟨sl,frT b hb _ q1 hd'⟩) (fun b hb=>(I.stack.mem hb).2) I.stkFree
 have hok3:HOk X.prog X.w H' (PySem.W.hideAll B [C]):=fun b u q=>(hok b u q).stay (fun c v hc z=>hide c v z fun y=>by
  rcases hc with rfl | hc
  ·rw [y,hHC] at q; cases q
  ·rw [y,hHC] at hc; cases hc) (fun _ z=>z) fun _ _ z=>z
 exact hX I.ok _ _ (fly_back I fo ⟨a,_,cls,a0,H',rfl,os,bare,fl3',hok3,un3,kb3,hE⟩)
end
section
variable {X:Cx} {E:XK} {N:List Str} {cap:List (Option Nat)} {scope:Scope} {elt target iter:Expr} {ifs:List Expr} {pos pos' spos:Pos} {wi:TI} {g:TG} {tc:TT} {te:TE}
end
end L2
namespace L2
open PySem PySem.Spec PyProof.Rows
section
variable {X:Cx} {E:XK} {N:List Str} {cap:List (Option Nat)} {scope:Scope} {elt target iter:Expr} {ifs:List Expr} {pos pos' spos:Pos} {wi:TI} {g:TG} {tc:TT} {te:TE}
end
end L2
namespace L2
open PySem PySem.Spec PyProof.Rows
section
variable {M:Model} {A:Around} {E:Value→Shared→Prop}
variable {nm q:Str} {C N:Addr} {bs bm:List Value} {hdct:Bool} {sn:List Str} {sub:List Value} {ab:Bool} {col:Option Bool} {dd:Option Addr} {k0 k1 k2 k3 k5:Option Value} {newId:String}
variable {nm' q':Str} {G N':Addr} {bs' bm':List Value} {hdct':Bool} {sn':List Str} {sub':List Value} {ab':Bool} {col':Option Bool} {dd':Option Addr} {k0' k1' k2' k3' k5':Option Value} {newId':String}
end
section
variable {X:Cx} {pins:List (Addr × Obj)} {σ:List (Option V)} {H:Hp} {s:Shared}
end
end L2
namespace L2
open PySem PySem.Spec PyProof.Rows
structure ExcK (K:PySem.W.Frag) (C:Addr):Prop where
 exc:PySem.W.excIn K C bmVE "ValueError.__new__" = true
 f1:PySem.W.findIn K (.ref C) "__getattribute__" = some (some (.builtin "BaseException.__getattribute__"))
 f2:PySem.W.findIn K (.ref C) "__getattr__" = some none
 f3:PySem.W.findIn K (.ref C) "__class__" = some (some (.builtin "object.__class__"))
 obj:PySem.W.mroIn K C (.type "object") = some true
section
variable {X:Cx} {k:Nat} {x G n:Str} {ps:List Str} {sp:Sp} {e:Expr} {es:List Expr} {t:TA} {p gp cpos epos hpos pos:Pos} {CG:Addr} {newId:String} {i:Nat} {b₀:Stmt} {suite:List Stmt} {ts:Addr→Addr→TS}
end
end L2
namespace PySem.W
open PySem PySem.Calls PyProof.Rows Builtin Builtin.ObjectAttr Builtin.Getset_descriptor
end PySem.W
namespace L2
open PySem PySem.Spec PyProof.Rows PySem.W
structure InstE (h:Heap) (a:Addr) (o:Obj) (C:Addr):Prop where
 at_:h.get? a = some o
 cls:o.cls = .ref C
section
variable {prog:Program} {w:World} {A:Around} {E:Value→Shared→Prop} {h:Heap} {g:Array GenState} {d:Drawn} {t:Nat} {os:OsState} {a:Addr} {o:Obj} {K:Frag}
 {nm q:Str} {C N:Addr} {bs bm:List Value} {hdct:Bool} {sn:List Str} {sub:List Value} {ab:Bool} {col:Option Bool} {dd:Option Addr} {k0 k1 k2 k3 k5:Option Value} {newId:String}
end
end L2
namespace L2
open PySem PySem.Spec PyProof.Rows
def lamArgs (e:Expr):Arguments:=match e with
 | .Lambda a _ _ _=>a
 | _=>{ posonlyargs:=[],args:=[],vararg:=none,kwonlyargs:=[],kw_defaults:=[],kwarg:=none,defaults:=[] }
def lamBody (e:Expr):Expr:=match e with
 | .Lambda _ b _ _=>b
 | _=>e
def lamScope (e:Expr):Scope:=match e with
 | .Lambda _ _ sc _=>sc
 | _=>{ kind:=.function,names:=[],isGenerator:=false,isCoroutine:=false }
structure MadeL (H:Hp) (f:Addr) (qual:Str) (le:Expr) (cl:List (Str × Addr)):Prop where
 ex:∃ (pm:Value) (c':Addr) (ctv:Value) (oc:Obj) (vs:Array Value) (t:Tok),Kn H f (PySem.W.kla_obj "<lambda>" qual (lamArgs le) (lamBody le) (lamScope le) cl pm c' ctv)∧Kn H c' oc∧oc.data = .fields vs∧vs[1]? = some (.str qual t)
structure CloAtL (H:Hp) (f:Addr) (qual:Str) (le:Expr) (fr:List Str) (cs:List Addr) (ws:List V):Prop where
 ex:∃ cl,MadeL H f qual le cl∧(∀ x c,cl.lookup x = some c→∃ j:Nat,fr[j]? = some x∧cs[j]? = some c)∧∀ (j:Nat) x,fr[j]? = some x→∃ c,cl.lookup x = some c∧cs[j]? = some c
 cells:∀ (j:Nat) x,ws[j]? = some x→∃ c o u,cs[j]? = some c∧Kn H c o∧o.data = .cell (some u)∧RelV x u
 l1:cs.length = fr.length
 l2:ws.length = fr.length
 nd:cs.Nodup
theorem CloAtL.fn {H:Hp} {f:Addr} {qual:Str} {le:Expr} {fr:List Str} {cs:List Addr} {ws:List V} (C:CloAtL H f qual le fr cs ws):∃ oc od fd sl,Kn H f ⟨oc,od,.func fd,sl⟩:=by
 obtain ⟨cl,⟨pm,c',ctv,oc,vs,t,h1,_⟩,_⟩:=C.ex
 exact ⟨_,_,_,_,h1⟩
section
variable {X:Cx}
end
end L2
namespace L2
open PySem PySem.Spec PyProof.Rows
section
variable {X:Cx} {pos:Pos} {K:PySem.W.Frag}
def gSlA (K:PySem.W.Frag):V→Option Int→Option Int→Hp→VK→Prop:=fun x lo hi H Q=>match x with
 | .str z=>z.length ≤ sizeLine∧Q (.str (Txt.slice z lo hi)) H
 | .ref a=>(∃ xs,SqL K H a xs∧∀ p,H p = none→Q (.ref p) (upd H p (.lst (cutV xs lo hi))))∨∃ xs,SqT K H a xs∧¬ (HT.sIx xs.length 0 lo = 0∧HT.sIx xs.length xs.length hi = xs.length)∧∀ p,H p = none→Q (.ref p) (upd H p (.tup (cutV xs lo hi)))
 | _=>False
theorem o_slA (hK:X.K = K:=by rfl):Irr (SlR X (gSlA K)):=by
 refine .mk ?_
 subst hK
 intro pins s σ H x v vl vu lo hi sl Q I rx hs pl pu h
 unfold gSlA at h
 split at h
 ·exact sl_str pins s σ H _ v vl vu lo hi sl Q I rx hs pl pu ⟨_,rfl,h.1,h.2⟩
 ·rcases h with ⟨xs,h1,h2⟩ | ⟨xs,h1,h2,h3⟩
  ·exact sl_list pins s σ H _ v vl vu lo hi sl Q I rx hs pl pu ⟨_,xs,rfl,h1,h2⟩
  ·exact sl_tup pins s σ H _ v vl vu lo hi sl Q I rx hs pl pu ⟨_,xs,rfl,h1,h2,h3⟩
 ·exact h.elim
theorem j_gint {x:Str} {v:Int} (hg:Gl X x) (hm:∃ t,X.mg x = some (.int v t)) (hd:(x == ("__debug__":Str)) = false:=by decide):JE X (.Name x pos) (tC (.int v)):=by
 obtain ⟨t,h⟩:=hm
 exact j_glob hg h ⟨_,rfl⟩ hd
end
end L2
namespace L2
open PySem PySem.Spec PyProof.Rows
section
variable {X:Cx} {a b c e f i o k v value:Expr} {ta tb te td ty tv tx:TE} {K:PySem.W.Frag} {w:World} {pos pos' p2 apos cpos:Pos}
def gInA (K:PySem.W.Frag) (neg:Bool):R2:=fun x y H Q=>match y with
 | .str j=>(match x with
  | .str i=>Q (.bl (neg ^^ !(Builtin.Str.occurrences j i 0 j.length 1).isEmpty)) H
  | _=>False)
 | .ref p=>(∃ xs,(SqL K H p xs∨SqT K H p xs)∧flatV x = true∧xs.all flatV = true∧Q (.bl (neg ^^ inV x xs)) H)∨∃ o,DGet H p x o∧Q (.bl (neg ^^ o.isSome)) H
 | _=>False
theorem o_inA (hu:X.A.units + 64 < cLine) (hK:X.K = K:=by rfl):Irr (OpR X (compareOp .In) (gInA K false)):=by
 refine .mk ?_
 subst hK
 intro pins s σ H x y v u Q I rx ry h
 cases y with
 | str j=>exact og_in rfl pins s σ H x (.str j) v u Q I rx ry h
 | ref p =>
  rcases h with h | ⟨ov,g,q⟩
  ·exact og_in rfl pins s σ H x (.ref p) v u Q I rx ry h
  ·obtain rfl:u = Value.ref p:=ry
   exact d_in (by omega) I g rx fun s3 I3=>⟨.bl ov.isSome,H,I3,rfl,by simpa using q⟩
 | _=>exact False.elim h
theorem o_notinA (hu:X.A.units + 64 < cLine) (hK:X.K = K:=by rfl):Irr (OpR X (compareOp .NotIn) (gInA K true)):=by
 refine .mk ?_
 subst hK
 intro pins s σ H x y v u Q I rx ry h
 cases y with
 | str j=>exact og_notin rfl pins s σ H x (.str j) v u Q I rx ry h
 | ref p =>
  rcases h with h | ⟨ov,g,q⟩
  ·exact og_notin rfl pins s σ H x (.ref p) v u Q I rx ry h
  ·obtain rfl:u = Value.ref p:=ry
   exact d_notIn (by omega) I g rx fun s3 I3=>⟨.bl (!ov.isSome),H,I3,rfl,by simpa using q⟩
 | _=>exact False.elim h
def mDPut (td ty tv:TE):TS:=fun D σ H=>tv σ H fun v H1=>td σ H1 fun x H2=>match x with
 | .ref a=>ty σ H2 fun y H3=>∃ H4,DPut H3 a y v H4∧D.nx σ H4
 | _=>False
theorem js_dput (hu:X.A.units + 64 < cLine) (ho:JE X o td) (hi:JE X i ty) (hv:JE X value tv) (hs:swapsWith value (some (.Subscript o i pos')) pos.line X.env = pure false:=by rfl):JS X (.Assign [.Subscript o i pos'] value pos) (mDPut td ty tv):=by
 refine .mk ?_
 intro pins s σ H D I h
 refine wpAny_Assign_Subscript (thn (hv.out pins s σ H _ I h) fun r s1 ⟨v,H1,I1,rv,q1⟩=>thn (ho.out pins s1 σ H1 _ I1 q1) fun u s2 ⟨x,H2,I2,rx,q2⟩=>?_) hs
 dsimp only at q2
 split at q2
 ·rename_i a
  obtain rfl:u = Value.ref a:=rx
  refine thn (hi.out pins s2 σ H2 _ I2 q2) fun iv s3 ⟨y,H3,I3,ry,H4,g,q3⟩=>?_
  exact d_setItem (by omega) I3 g ry rv fun s4 I4=>⟨σ,H4,I4,q3⟩
 ·exact q2.elim
theorem j_dnewK:JE X (.Dict [] [] pos) tDNewK:=.mk pe_dnewK
theorem IsD.tk {H:Hp} {a:Addr} {kvs:List (List Key × V)} (e:H a = some (.dT kvs)):IsD H a:=.inr ⟨kvs,.inl e⟩
def gInt:List V→Hp→VK→Prop:=fun xs H Q=>match xs with
 | [.int i]=>Q (.int i) H
 | [.bl b]=>Q (.int (if b then 1 else 0)) H
 | _=>False
theorem c_int:Irr (CallR X (.type "int") gInt):=by
 refine .mk ?_
 intro pins s σ H xs us Q I r h
 unfold gInt at h
 split at h
 ·exact call_int1 pins s σ H _ us Q I r (.inl ⟨_,rfl,h⟩)
 ·exact call_int1 pins s σ H _ us Q I r (.inr ⟨_,rfl,h⟩)
 ·exact h.elim
def gTuple (K:PySem.W.Frag):List V→Hp→VK→Prop:=fun xs H Q=>match xs with
 | [.ref p]=>∃ ys,(SqL K H p ys∧∀ l,H l = none→Q (.ref l) (upd H l (.tup ys)))∨(SqT K H p ys∧Q (.ref p) H)
 | _=>False
theorem c_tuple (hK:X.K = K:=by rfl):Irr (CallR X (.type "tuple") (gTuple K)):=by
 refine .mk ?_
 subst hK
 intro pins s σ H xs us Q I r h
 unfold gTuple at h
 split at h
 ·obtain ⟨ys,h⟩:=h
  exact call_tuple_of pins s σ H _ us Q I r ⟨_,ys,rfl,h⟩
 ·exact h.elim
end
end L2
namespace L2
open PySem PySem.Spec PyProof.Rows
section
variable {X:Cx} {K:PySem.W.Frag}
def gPop:V→List V→Hp→VK→Prop:=fun x vs H Q=>match x,vs with
 | .ref l,[]=>∃ xs y,H l = some (.lst xs)∧xs[xs.length - 1]? = some y∧Q y (upd H l (.lst xs.dropLast))
 | _,_=>False
theorem m_pop:Irr (MtR X "list.pop" gPop):=by
 refine .mk ?_
 intro pins s σ H x xs v us Q I rx rs h
 unfold gPop at h
 split at h
 ·obtain ⟨xs,y,h1,h2,h3⟩:=h
  exact mt_pop pins s σ H _ _ v us Q I rx rs ⟨_,xs,y,rfl,rfl,h1,h2,h3⟩
 ·exact h.elim
end
end L2
namespace L2
open PySem PySem.Spec PyProof.Rows
def Ite (K:PySem.W.Frag) (a:Addr):It :=
 ⟨fun i H=>∃ xs x,SqL K H a xs∧xs[i]? = some x,
  fun i H v H'=>∃ T x,(∀ xs,SqL K H a xs→xs[i]? = some x)∧H T = none∧v = .ref T∧H' = upd H T (.tup [.int (i:Nat),x]),
  fun i H=>∃ xs,SqL K H a xs∧xs.length ≤ i⟩
theorem turn_enum {P : Program} {w : World} {K : PySem.W.Frag} {elts : List Expr} {x1} {pos : Pos} {a e it : Addr} (hne : e ≠ it) :
  Turn P w K (.Tuple elts x1 pos) (Ite K a) [e,it] e (fun i h=>(∃ old,IsEnum h e it (i:Nat) old)∧h.IsListIter it a i) where
 mem:=by simp
 obj:=by
  rintro i h ⟨⟨old,he⟩,hi⟩ c hc
  simp only [List.mem_cons,List.not_mem_nil,or_false] at hc
  rcases hc with rfl | rfl
  ·exact ⟨_,he,fun v z=>by cases z⟩
  ·obtain ⟨o,ho,_,d⟩:=hi
   exact ⟨o,ho,fun v z=>by rw [d] at z; cases z⟩
 keep:=by
  rintro i h h' ⟨⟨old,he⟩,hi⟩ k
  refine ⟨⟨old,k e (by simp) _ he⟩,?_⟩
  obtain ⟨o,ho,r⟩:=hi
  exact ⟨o,k it (by simp) _ ho,r⟩
 item:=by
  rintro X hP hw hK hc i pins s σ H E I hf ⟨⟨old,he⟩,hi⟩ ⟨xs,x,q1,hx⟩
  subst hP hw hK
  obtain ⟨its,rv,p1,_⟩:=I.list q1
  obtain ⟨ux,hux,rx⟩:=rv.get hx
  refine wpAny_pyNext_enum_item he hi p1.isList (x:=ux) (by simpa using hux) hne fun h' a1 a2 a3 a4 a5=>?_
  have hT:H s.heap.objs.size = none:=I.hok.fresh (Nat.le_refl _)
  have I1:Inv X pins σ (upd H s.heap.objs.size (.tup [.int (i:Nat),x])) { s with heap:=s.heap.push { cls:=.type "tuple",data:=.seq [.int (i:Nat) s.toks,ux].toArray },toks:=s.toks + 1 } :=
   I.laid (t':=s.toks + 1) (fun b o q=>Heap.get?_push_of_some _ q) (Nat.le_refl _) (show ObjOk X.prog X.w _ _ _ (.tup [.int (i:Nat),x]) from ⟨by show 2 ≤ sizeLine; decide,[.int (i:Nat) s.toks,ux],.cons ⟨_,rfl⟩ (.cons rx .nil),IsTup.new _ _⟩)
  have hlt:∀ c ∈ [e,it],c < s.heap.objs.size:=by
   intro c hc
   simp only [List.mem_cons,List.not_mem_nil,or_false] at hc
   rcases hc with rfl | rfl
   ·exact Heap.lt_size he
   ·obtain ⟨o,ho,_⟩:=hi; exact Heap.lt_size ho
  have hf':∀ c ∈ [e,it],FpOk X pins (upd H s.heap.objs.size (.tup [.int (i:Nat),x])) c:=fun c hc=>by
   obtain ⟨f0,fr⟩:=hf c hc
   exact ⟨by rw [upd_ne (Nat.ne_of_lt (hlt c hc))]; exact f0,fr⟩
  have kept:∀ c o,c ∉ [e,it]→(s.heap.push { cls:=.type "tuple",data:=.seq [.int (i:Nat) s.toks,ux].toArray }).get? c = some o→h'.get? c = some o:=by
   intro c o hc q
   have hc':c ≠ e∧c ≠ it:=by simpa using hc
   by_cases hn:c = s.heap.objs.size
   ·subst hn
    have e0:(s.heap.push { cls:=.type "tuple",data:=.seq [.int (i:Nat) s.toks,ux].toArray }).get? s.heap.objs.size = some { cls:=.type "tuple",data:=.seq [.int (i:Nat) s.toks,ux].toArray }:=Heap.get?_push_size _ rfl
    rw [e0] at q
    cases q
    exact a3
   ·rw [Heap.get?_push_ne _ _ _ hn] at q
    exact a5 c o hc'.1 hc'.2 q
  have I2:Inv X pins σ (upd H s.heap.objs.size (.tup [.int (i:Nat),x])) { s with heap:=h',toks:=s.toks + 1 }:=I1.turnedL (t':=s.toks + 1) kept hf'
  refine ⟨_,rfl,?_⟩
  refine wpAny_letOwnedTupleGo_enum a1 fun h2' he2 hs2=>?_
  have I3:Inv X pins σ (upd H s.heap.objs.size (.tup [.int (i:Nat),x])) { s with heap:=h2',toks:=s.toks + 1 }:=Inv.turnedL (s:={ s with heap:=h',toks:=s.toks + 1 }) (h':=h2') (t':=s.toks + 1) (fp:=[e,it]) I2 (fun c o hc q=>hs2.extBut _ _ (fun z=>hc (by simp [z])) q) hf'
  refine ⟨.ref s.heap.objs.size,_,I3,rfl,⟨_,x,fun zs hq=>by rw [I.list_inj hq q1]; exact hx,hT,rfl,rfl⟩,⟨⟨_,he2⟩,?_⟩,fun c hc=>(hf' c hc).1⟩
  obtain ⟨o,ho,r⟩:=a2
  exact ⟨o,hs2.extBut _ _ hne.symm ho,r⟩
 done:=by
  rintro X hP hw hK hc i pins s σ H E I hf ⟨⟨old,he⟩,hi⟩ ⟨xs,q1,hend⟩
  subst hP hw hK
  obtain ⟨its,rv,p1,_⟩:=I.list q1
  have l1:=rv.length
  refine wpAny_pyNext_enum_end (I.ok.hd hc) he hi p1.isList (by simp; omega) fun h' hk=>⟨rfl,I.turnedL (t':=s.toks) (fp:=[e,it]) (fun c o hc q=>?_) hf⟩
  have hc':c ≠ e∧c ≠ it:=by simpa using hc
  exact hk c o hc'.2 q
 self:=fun _ _ _ _ _ st h=>by
  obtain ⟨⟨old,he⟩,_⟩:=st
  exact wpAny_pyIter_enum he h
section
variable {X:Cx} {K:PySem.W.Frag}
def iEnum (K:PySem.W.Frag) (ta:TA):TI:=fun σ H R=>ta σ H fun vs H1=>match vs with
 | [.ref a]=>(∃ xs,SqL K H1 a xs)∧R (Ite K a) H1
 | _=>False
theorem pi_enum {a : Expr} {ta : TA} {p pos : Pos} {elts : List Expr} {x1} {pos' : Pos} (hg : Gl X "enumerate") (hm : X.mg "enumerate" = none) (ha : PA X [a] ta) (hK : X.K = K := by rfl) (hs : starEach [a] X.env = [(false, eval a X.env)] := by rfl) :
  PI X (.Tuple elts x1 pos') (.Call (.Name "enumerate" p) [a] [] pos) (iEnum K ta):=by
 subst hK
 intro pins s σ H R I h
 refine Call_ (ld_blt I hg hm boot_enumerate (PyProof.Rows.callWith_type1 (thn (ha pos pins s σ H _ I h) fun us s1 ⟨vs,H1,I1,r1,q1⟩=>?_) (by rw [hs]; rfl) rfl))
 dsimp only at q1
 split at q1
 ·obtain ⟨u,rfl,r⟩:=vals1 r1
  cases r
  obtain ⟨⟨xs,hx⟩,q⟩:=q1
  obtain ⟨its,rv,p1,_⟩:=I1.list hx
  refine call_enumerate_list p1.isList fun h' he hi hz hk=>?_
  refine wpAny_pyIter_enum he ?_
  refine ⟨_,[s1.heap.objs.size + 1,s1.heap.objs.size],_,_,H1,rfl,I1.kept (t':=s1.toks) hk,turn_enum (Nat.succ_ne_self _),⟨⟨_,he⟩,hi⟩,fun c hc=>?_,q⟩
  have hge:s1.heap.objs.size ≤ c:=by
   simp only [List.mem_cons,List.not_mem_nil,or_false] at hc
   rcases hc with rfl | rfl
   ·exact Nat.le_succ _
   ·exact Nat.le_refl _
  exact I1.fpOk hge (I1.hok.fresh hge)
 ·exact q1.elim
theorem ji_enum {a : Expr} {ta : TA} {p pos : Pos} {elts : List Expr} {x1} {pos' : Pos} (hg : Gl X "enumerate") (hm : X.mg "enumerate" = none) (ha : JA X [a] ta) (hK : X.K = K := by rfl) (h1 : noStar a = true := by rfl) :
  JI X (.Tuple elts x1 pos') (.Call (.Name "enumerate" p) [a] [] pos) (iEnum K ta):=.mk (pi_enum hg hm ha.out hK (by rw [starEach_cons h1]; rfl))
def gClear:V→List V→Hp→VK→Prop:=fun x vs H Q=>match x,vs with
 | .ref l,[]=>∃ xs,H l = some (.lst xs)∧Q .non (upd H l (.lst []))
 | _,_=>False
theorem m_clear:Irr (MtR X "list.clear" gClear):=by
 refine .mk ?_
 intro pins s σ H x xs v us Q I rx rs h
 unfold gClear at h
 split at h
 ·obtain ⟨xs,h1,h2⟩:=h
  exact mt_clear pins s σ H _ _ v us Q I rx rs ⟨_,xs,rfl,rfl,h1,h2⟩
 ·exact h.elim
end
theorem for_enum {K : PySem.W.Frag} {a : Addr} {xs : List V} {g : TG} {tb : TS} {D : Ends} {σ : St} {H : Hp} (Pv : Nat → St → Hp → Prop) (h0 : Pv 0 σ H)
  (hl:∀ i σ H,i ≤ xs.length→Pv i σ H→SqL K H a xs)
  (hs:∀ i x σ H,xs[i]? = some x→Pv i σ H→∀ T,H T = none→g (.ref T) σ (upd H T (.tup [.int (i:Nat),x])) fun σ2 H2=>tb { D with nx:=Pv (i + 1),ct:=Pv (i + 1),bk:=D.nx } σ2 H2) (hd:∀ σ H,Pv xs.length σ H→D.nx σ H) :
  ∃ W:Nat→Nat→St→Hp→Prop,(∃ m,W 0 m σ H)∧∀ i m σ H,W i m σ H →
   ((Ite K a).stop i H∧D.nx σ H)∨((Ite K a).go i H∧∃ N:St→Hp→Prop,(∀ σ' H',N σ' H'→∃ m',m' < m∧W (i + 1) m' σ' H')∧∀ x H',(Ite K a).yld i H x H'→g x σ H' fun σ2 H2=>tb { D with nx:=N,ct:=N,bk:=D.nx } σ2 H2):=by
 refine ⟨fun i m σ H=>m = xs.length - i∧i ≤ xs.length∧Pv i σ H,⟨xs.length,by simp,Nat.zero_le _,h0⟩,?_⟩
 rintro i m σ H ⟨rfl,hi,p⟩
 have q1:=hl i σ H hi p
 by_cases hlt:i < xs.length
 ·refine .inr ⟨⟨xs,xs[i],q1,by simp [hlt]⟩,Pv (i + 1),fun σ' H' p'=>⟨xs.length - (i + 1),by omega,rfl,hlt,p'⟩,fun v H' y=>?_⟩
  obtain ⟨T,x,e1,hT,rfl,rfl⟩:=y
  exact hs i x σ H (e1 xs q1) p T hT
 ·have e:i = xs.length:=by omega
  subst e
  exact .inl ⟨⟨xs,q1,Nat.le_refl _⟩,hd σ H p⟩
end L2
namespace L2
open PySem PySem.Spec PyProof.Rows
namespace FX
end FX
section
variable {prog:Program} {w:World} {A:Around} {E:Value→Shared→Prop} {s:Shared}
end
section
variable {X:Cx} {K:PySem.W.Frag}
def gEqA (K:PySem.W.Frag) (neg:Bool):R2:=fun x y H Q=>match x,y with
 | .non,.str j=>PyData.strOk j = true∧Q (.bl neg) H
 | .str j,.non=>PyData.strOk j = true∧Q (.bl neg) H
 | .non,.non=>Q (.bl (!neg)) H
 | .non,.int _=>Q (.bl neg) H
 | .int _,.non=>Q (.bl neg) H
 | x,y=>gEq K neg x y H Q
theorem o_eqA (hu:X.A.units + 64 < cLine) (hK:X.K = K:=by rfl):Irr (OpR X (compareOp .Eq) (gEqA K false)):=by
 refine .mk ?_
 subst hK
 intro pins s σ H x y v u Q I rx ry h
 have gen:∀ da db,DatV X.K H x da→DatV X.K H y db→da.canLay0 = true→db.canLay0 = true→min da.depth db.depth ≤ 60→Q (.bl (PyData.eqv da db)) H→_:=fun da db h1 h2 h3 h4 h5 h6=>op_eqD hu pins s σ H x y v u Q I rx ry ⟨da,db,h1,h2,h3,h4,h5,by simpa using h6⟩
 unfold gEqA at h
 split at h
 ·exact gen .none (.str _) .none (.str _) (by simp only [PyData.canLay0]) (by simp only [PyData.canLay0]; exact h.1) (by simp only [PyData.depth]; omega) (by simpa [PyData.eqv] using h.2)
 ·exact gen (.str _) .none (.str _) .none (by simp only [PyData.canLay0]; exact h.1) (by simp only [PyData.canLay0]) (by simp only [PyData.depth]; omega) (by simpa [PyData.eqv] using h.2)
 ·exact gen .none .none .none .none (by simp only [PyData.canLay0]) (by simp only [PyData.canLay0]) (by simp only [PyData.depth]; omega) (by simpa [PyData.eqv] using h)
 ·exact gen .none (.int _) .none (.int _) (by simp only [PyData.canLay0]) (by simp only [PyData.canLay0]) (by simp only [PyData.depth]; omega) (by simpa [PyData.eqv] using h)
 ·exact gen (.int _) .none (.int _) .none (by simp only [PyData.canLay0]) (by simp only [PyData.canLay0]) (by simp only [PyData.depth]; omega) (by simpa [PyData.eqv] using h)
 ·exact og_eq hu rfl pins s σ H _ _ v u Q I rx ry h
end
end L2
namespace L2
open PySem PySem.Spec PyProof.Rows
section
variable {X:Cx}
end
end L2
namespace L2
open PySem PySem.Spec PyProof.Rows
section
variable {X:Cx} {K:PySem.W.Frag}
end
end L2
namespace L2
open PySem PySem.Spec PyProof.Rows
section
variable {X:Cx} {K:PySem.W.Frag}
def bls (bs:List Bool):List V:=bs.map V.bl
def gAll (K:PySem.W.Frag):List V→Hp→VK→Prop:=fun xs H Q=>match xs with
 | [.ref a]=>∃ bs:List Bool,SqL K H a (bls bs)∧Q (.bl (bs.all id)) H
 | _=>False
def gAny (K:PySem.W.Frag):List V→Hp→VK→Prop:=fun xs H Q=>match xs with
 | [.ref a]=>∃ bs:List Bool,SqL K H a (bls bs)∧Q (.bl (bs.any id)) H
 | _=>False
theorem bls_at:∀ {bs:List Bool} {its:List Value} {i:Nat} {v:Value},Vals (bls bs) its→its[i]? = some v→v = .bool (bs.getD i false)
 | [],_,i,v,h,e=>by cases h; simp at e
 | b :: r,_,0,v,h,e=>by
  cases h with
  | cons a t=>simp at e; subst e; exact a
 | b :: r,_,i + 1,v,h,e=>by
  cases h with
  | cons a t =>
   simp at e
   have:=bls_at (bs:=r) t e
   simpa using this
theorem range_bs (bs:List Bool):(List.range bs.length).map (fun i=>bs.getD i false) = bs:=by
 refine List.ext_getElem (by simp) fun i h1 h2=>?_
 simp [List.getD,h2]
theorem all_bs (bs:List Bool):(List.range bs.length).all (fun i=>bs.getD i false) = bs.all id:=by
 have h:=List.all_map (f:=fun i=>bs.getD i false) (p:=id) (l:=List.range bs.length)
 rw [range_bs] at h
 exact h.symm
theorem any_bs (bs:List Bool):(List.range bs.length).any (fun i=>bs.getD i false) = bs.any id:=by
 have h:=List.any_map (f:=fun i=>bs.getD i false) (p:=id) (l:=List.range bs.length)
 rw [range_bs] at h
 exact h.symm
theorem c_all (hc:X.calm = true) (hK:X.K = K:=by rfl):Irr (CallR X (.builtin "all") (gAll K)):=by
 refine .mk ?_
 subst hK
 intro pins s σ H xs us Q I r h
 unfold gAll at h
 split at h
 ·rename_i la
  obtain ⟨bs,hS,q⟩:=h
  obtain ⟨u,rfl,rx⟩:=vals1 r
  cases rx
  obtain ⟨its,rv,pl,_⟩:=I.list hS
  have hlen:its.length = bs.length:=by have:=rv.length; unfold bls at this; rw [List.length_map] at this; exact this.symm
  have hll:la < s.heap.objs.size:=by obtain ⟨o,n,e,_⟩:=pl; exact Heap.lt_size e
  refine call_all_walk (wpAny_pyIter_list pl.isList ?_)
  refine ⟨_,_,_,_,_,_,fun i=>bs.getD i false,rfl,Walks.list (A:=X.A.in1) (I.ok.hd hc) s.heap.objs.size la (Nat.ne_of_lt hll) its.toArray,⟨⟨_,Heap.get?_push_size _ rfl,rfl,rfl⟩,pl.isList.push _⟩,fun i v s2 Q2 E2 hv hq=>?_,fun h' tk hk=>?_⟩
  ·have e:=bls_at (i:=i) (v:=v) rv (by simpa using hv)
   rw [e]
   exact wpAny_truthy_bool hq
  ·refine ⟨.bl (bs.all id),H,I.kept (t':=tk) (fun b o e=>hk b o (fun m=>?_) (Heap.get?_push_of_some _ e)),?_,q⟩
   ·rw [List.mem_singleton.mp m] at e; exact absurd (Heap.lt_size e) (Nat.lt_irrefl _)
   ·show Value.bool _ = Value.bool _
    rw [List.size_toArray,hlen,all_bs]
 ·exact h.elim
theorem c_any (hc:X.calm = true) (hK:X.K = K:=by rfl):Irr (CallR X (.builtin "any") (gAny K)):=by
 refine .mk ?_
 subst hK
 intro pins s σ H xs us Q I r h
 unfold gAny at h
 split at h
 ·rename_i la
  obtain ⟨bs,hS,q⟩:=h
  obtain ⟨u,rfl,rx⟩:=vals1 r
  cases rx
  obtain ⟨its,rv,pl,_⟩:=I.list hS
  have hlen:its.length = bs.length:=by have:=rv.length; unfold bls at this; rw [List.length_map] at this; exact this.symm
  have hll:la < s.heap.objs.size:=by obtain ⟨o,n,e,_⟩:=pl; exact Heap.lt_size e
  refine call_any_walk (wpAny_pyIter_list pl.isList ?_)
  refine ⟨_,_,_,_,_,_,fun i=>bs.getD i false,rfl,Walks.list (A:=X.A.in1) (I.ok.hd hc) s.heap.objs.size la (Nat.ne_of_lt hll) its.toArray,⟨⟨_,Heap.get?_push_size _ rfl,rfl,rfl⟩,pl.isList.push _⟩,fun i v s2 Q2 E2 hv hq=>?_,fun h' tk hk=>?_⟩
  ·have e:=bls_at (i:=i) (v:=v) rv (by simpa using hv)
   rw [e]
   exact wpAny_truthy_bool hq
  ·refine ⟨.bl (bs.any id),H,I.kept (t':=tk) (fun b o e=>hk b o (fun m=>?_) (Heap.get?_push_of_some _ e)),?_,q⟩
   ·rw [List.mem_singleton.mp m] at e; exact absurd (Heap.lt_size e) (Nat.lt_irrefl _)
   ·show Value.bool _ = Value.bool _
    rw [List.size_toArray,hlen,any_bs]
 ·exact h.elim
end
section
variable {X:Cx} {p pos:Pos}
end
section
variable {cap:List (Option Nat)} {g:TG} {tc:TT} {te:TE} {Q:Addr→Hp→Prop} {σ:St} {H:Hp} {K:PySem.W.Frag}
end
end L2
namespace L2
open PySem PySem.Spec PyProof.Rows
section
variable {X:Cx} {K:PySem.W.Frag} {e:Expr} {te:TE}
theorem jt_tru (h:JE X e te) (hK:X.K = K:=by rfl) (he:∀ whole,isTrue e X.env whole = (do let v ← whole; standAt e.pos; holding [v] (truthy v)):=by intro _; rfl):JT X e (mTruth K te):=by
 refine .mk ?_
 subst hK
 exact pt_truth h.out he
end
end L2
namespace Rg
open PySem
abbrev Rise (a:Array Nat):Prop:=a.toList.Pairwise (· < ·)
theorem rise_lt {a:Array Nat} (h:Rise a) {i j x y:Nat} (hi:a[i]? = some x) (hj:a[j]? = some y) (hij:i < j):x < y:=by
 have hi':a.toList[i]? = some x:=by simpa using hi
 have hj':a.toList[j]? = some y:=by simpa using hj
 obtain ⟨h1,e1⟩:=List.getElem?_eq_some_iff.mp hi'
 obtain ⟨h2,e2⟩:=List.getElem?_eq_some_iff.mp hj'
 have:=List.pairwise_iff_getElem.mp h i j h1 h2 hij
 rw [e1,e2] at this
 exact this
theorem below_go {a : Array Nat} (h : Rise a) (j : Nat) : ∀ (fuel lo hi : Nat), lo ≤ hi → hi ≤ a.size → hi - lo ≤ fuel → (∀ i x, i < lo → a[i]? = some x → x < j) → (∀ i x, hi ≤ i → a[i]? = some x → j ≤ x) →
  SetTable.below.go a j fuel lo hi ≤ a.size∧(∀ i x,i < SetTable.below.go a j fuel lo hi→a[i]? = some x→x < j)∧(∀ i x,SetTable.below.go a j fuel lo hi ≤ i→a[i]? = some x→j ≤ x)
 | 0,lo,hi,h1,h2,h3,hl,hh=>by
  have e:lo = hi:=by omega
  subst e
  exact ⟨h2,hl,hh⟩
 | fuel + 1,lo,hi,h1,h2,h3,hl,hh=>by
  unfold SetTable.below.go
  by_cases hlt:lo < hi
  ·rw [if_pos hlt]
   have hm:(lo + hi) / 2 < a.size:=by omega
   have em:a[(lo + hi) / 2]? = some a[(lo + hi) / 2]:=Array.getElem?_eq_getElem hm
   have eg:a.getD ((lo + hi) / 2) j = a[(lo + hi) / 2]:=by simp [Array.getD,hm]
   dsimp only
   rw [eg]
   by_cases hc:a[(lo + hi) / 2] < j
   ·rw [if_pos hc]
    refine below_go h j fuel _ hi (by omega) h2 (by omega) (fun i x hi' ei=>?_) hh
    by_cases z:i = (lo + hi) / 2
    ·subst z; rw [em] at ei; rw [← Option.some.inj ei]; exact hc
    ·exact Nat.lt_trans (rise_lt h ei em (by omega)) hc
   ·rw [if_neg hc]
    refine below_go h j fuel lo _ (by omega) (by omega) (by omega) hl (fun i x hi' ei=>?_)
    by_cases z:i = (lo + hi) / 2
    ·subst z; rw [em] at ei; rw [← Option.some.inj ei]; omega
    ·have:=rise_lt h em ei (by omega); omega
  ·rw [if_neg hlt]
   have e:lo = hi:=by omega
   subst e
   exact ⟨h2,hl,hh⟩
theorem below_ok {a:Array Nat} (h:Rise a) (j:Nat):SetTable.below a j ≤ a.size∧(∀ i x,i < SetTable.below a j→a[i]? = some x→x < j)∧(∀ i x,SetTable.below a j ≤ i→a[i]? = some x→j ≤ x) :=
 below_go h j a.size 0 a.size (Nat.zero_le _) (Nat.le_refl _) (by omega) (fun i x hi=>by omega) (fun i x hi e=>by rw [Array.getElem?_eq_none hi] at e; cases e)
theorem below_zero {a:Array Nat} (h:Rise a):SetTable.below a 0 = 0:=by
 obtain ⟨h1,h2,_⟩:=below_ok h 0
 rcases Nat.eq_zero_or_pos (SetTable.below a 0) with z | z
 ·exact z
 ·have hs:0 < a.size:=by omega
  exact absurd (h2 0 _ z (Array.getElem?_eq_getElem hs)) (by omega)
theorem below_next {a:Array Nat} (h:Rise a) {i x:Nat} (e:a[i]? = some x):SetTable.below a (x + 1) = i + 1:=by
 obtain ⟨h1,h2,h3⟩:=below_ok h (x + 1)
 have hi:i < a.size:=by
  rcases Nat.lt_or_ge i a.size with z | z
  ·exact z
  ·rw [Array.getElem?_eq_none z] at e; cases e
 have l1:¬ SetTable.below a (x + 1) ≤ i:=fun z=>by have:=h3 i x z e; omega
 have l2:¬ i + 1 < SetTable.below a (x + 1):=fun z=>by
  have hs:i + 1 < a.size:=by omega
  have e1:=Array.getElem?_eq_getElem hs
  have:=h2 (i + 1) _ z e1
  have:=rise_lt h e e1 (by omega)
  omega
 omega
theorem rise_insert {a:Array Nat} (h:Rise a) {j:Nat} (hn:a[SetTable.below a j]? ≠ some j):Rise (SetTable.insertAt a (SetTable.below a j) j):=by
 obtain ⟨h1,h2,h3⟩:=below_ok h j
 generalize SetTable.below a j = p at hn h1 h2 h3
 show (SetTable.insertAt a p j).toList.Pairwise (· < ·)
 rw [SetTable.toList_insertAt]
 refine List.pairwise_append.mpr ⟨h.sublist (List.take_sublist _ _),List.pairwise_cons.mpr ⟨fun y hy=>?_,h.sublist (List.drop_sublist _ _)⟩,fun x hx y hy=>?_⟩
 ·obtain ⟨k,hk⟩:=List.mem_iff_getElem?.mp hy
  rw [List.getElem?_drop] at hk
  have ek:a[p + k]? = some y:=by simpa using hk
  have hge:=h3 (p + k) y (by omega) ek
  rcases Nat.eq_or_lt_of_le hge with z | z
  ·exfalso
   subst z
   by_cases hk0:k = 0
   ·subst hk0; exact hn ek
   ·have hps : p < a.size := by
     rcases Nat.lt_or_ge p a.size with z | z
     ·exact z
     ·rw [Array.getElem?_eq_none (by omega)] at ek; cases ek
    have ep:=Array.getElem?_eq_getElem hps
    have l1:=h3 p _ (Nat.le_refl _) ep
    have l2:=rise_lt h ep ek (by omega)
    omega
  ·exact z
 ·have hxj : x < j := by
   obtain ⟨k,hk⟩:=List.mem_iff_getElem?.mp hx
   rw [List.getElem?_take] at hk
   split at hk
   ·rename_i hkp
    exact h2 k x hkp (by simpa using hk)
   ·cases hk
  rcases List.mem_cons.mp hy with rfl | hy
  ·exact hxj
  ·obtain ⟨k,hk⟩:=List.mem_iff_getElem?.mp hy
   rw [List.getElem?_drop] at hk
   have:=h3 (p + k) y (by omega) (by simpa using hk)
   omega
structure TabOk (B:Bool) (t:SetTable):Prop where
 led:B = false→t.led = true
 ris:Rise t.place
 dum:t.dummies = #[]
theorem TabOk.fresh (B:Bool):TabOk B (.fresh 0 0 (!B)):=⟨fun h=>by rw [h]; rfl,by show ([]:List Nat).Pairwise _; exact .nil,rfl⟩
theorem TabOk.plain {B:Bool} {t:SetTable} (h:TabOk B t):TabOk B { t with plain:=false }:=⟨h.led,h.ris,h.dum⟩
theorem rise_range (n:Nat):Rise (Array.range n):=by
 show (Array.range n).toList.Pairwise _
 rw [Array.toList_range]
 exact List.pairwise_lt_range
theorem TabOk.standIn {B:Bool} {t:SetTable} (h:TabOk B t) (n:Nat):TabOk B (t.standIn n):=⟨h.led,rise_range n,rfl⟩
theorem no_dummy {t:SetTable} (hd:t.dummies = #[]) (j:Nat):SetTable.has t.dummies j = false:=by
 rw [hd]; unfold SetTable.has; simp
theorem probe_free {t:SetTable} (hd:t.dummies = #[]) {h:Int}:∀ (fuel:Nat) (p:SetTable.Probe) (j:Nat) (d:Option Nat),p.dummy = none→SetTable.probe.go t (fun _=>h + 1) h fuel p = some (.empty j d)→d = none∧t.place[SetTable.below t.place j]? ≠ some j
 | 0,p,j,d,hp,e=>by unfold SetTable.probe.go at e; cases e
 | fuel + 1,p,j,d,hp,e=>by
  have adv:(t.advance p).dummy = none:=by
   unfold SetTable.advance
   split
   ·exact hp
   ·exact hp
  unfold SetTable.probe.go at e
  cases es:t.slot p.j with
  | empty =>
   rw [es] at e
   have e':=Option.some.inj e
   injection e' with e1 e2
   subst e1
   refine ⟨by rw [← e2]; exact hp,fun z=>?_⟩
   unfold SetTable.slot at es
   simp [z] at es
  | dummy =>
   unfold SetTable.slot at es
   simp only [no_dummy hd] at es
   split at es <;> simp at es
  | live i =>
   rw [es] at e
   have hne:((h + 1:Int) == h) = false:=by simp; omega
   simp only [hne] at e
   exact probe_free hd fuel _ j d adv (by simpa using e)
theorem TabOk.put {B:Bool} {t:SetTable} (h:TabOk B t) {j:Nat} (hn:t.place[SetTable.below t.place j]? ≠ some j):TabOk B (t.put j).1:=by
 refine ⟨h.led,rise_insert h.ris hn,?_⟩
 show (if SetTable.has t.dummies j then _ else t.dummies) = #[]
 rw [if_neg (by rw [no_dummy h.dum]; decide)]
 exact h.dum
theorem TabOk.layNew {B:Bool} {t:SetTable} (h:TabOk B t) (es:Array (Int × Value)) (k:Int) (x:Value):TabOk B (layNew t es k x).2.1:=by
 unfold PySem.layNew
 cases e:t.freeSlot k with
 | none=>exact h.standIn _
 | some r =>
  obtain ⟨slot,wd⟩:=r
  have hn:t.place[SetTable.below t.place slot]? ≠ some slot:=by
   unfold SetTable.freeSlot at e
   cases ep:t.probe (fun _=>k + 1) k (t.probeStart k) with
   | none=>rw [ep] at e; cases e
   | some m =>
    rw [ep] at e
    cases m with
    | candidate a b c=>cases e
    | empty j d =>
     obtain ⟨h1,h2⟩:=probe_free h.dum _ _ j d rfl ep
     subst h1
     have e':=Option.some.inj e
     injection e' with e1 e2
     rw [← e1]
     exact h2
  have hp:=h.put hn
  dsimp only
  unfold SetTable.orStandIn
  split
  ·exact hp
  ·exact hp.standIn _
theorem TabOk.relaid {B:Bool} {t t':SetTable} (h:TabOk B t) {hs:Array Int} {n:Nat} {o:Array Nat} (e:t.relaid hs n = some (t',o)):TabOk B t':=by
 unfold SetTable.relaid SetTable.laid at e
 cases eo:SetTable.layClean (SetTable.sizeAbove n - 1) hs with
 | none=>rw [eo] at e; cases e
 | some ow =>
  rw [eo] at e
  have e':=congrArg Prod.fst (Option.some.inj e)
  dsimp only at e'
  rw [← e']
  refine ⟨h.led,?_,rfl⟩
  show (((List.range (SetTable.sizeAbove n - 1 + 1)).filterMap fun j=>(ow.getD j none).map (j,·)).map (·.1)).toArray.toList.Pairwise (· < ·)
  rw [List.toList_toArray]
  refine List.pairwise_map.mpr (List.Pairwise.filterMap (S:=fun (a b:Nat × Nat)=>a.1 < b.1) _ (fun a a' haa b hb b' hb'=>?_) List.pairwise_lt_range)
  cases ea:ow.getD a none with
  | none=>rw [ea] at hb; simp at hb
  | some u =>
   cases ea':ow.getD a' none with
   | none=>rw [ea'] at hb'; simp at hb'
   | some u' =>
    rw [ea] at hb
    rw [ea'] at hb'
    simp at hb hb'
    rw [← hb,← hb']
    exact haa
theorem TabOk.relayAll {B:Bool} {t:SetTable} (h:TabOk B t) (es:Array (Int × Value)) (n:Nat):TabOk B (relayAll t es n).2.1:=by
 unfold PySem.relayAll
 cases e:t.relaid (es.map (·.1)) n with
 | none=>exact h.standIn _
 | some r =>
  obtain ⟨t',o⟩:=r
  dsimp only
  split
  ·exact h.relaid e
  ·exact h.standIn _
end Rg
namespace L2
open PySem PySem.Spec PyProof.Rows Rg
def zk:Value→Int
 | .int n _=>n
 | _=>0
def zks (es:Array (Int × Value)):List Int:=es.toList.map fun e=>zk e.2
section
variable {prog:Program} {w:World} {A:Around} {E:Value→Shared→Prop} {s:Shared}
def ZObj (prog:Program) (w:World) (o:Obj) (σ:List Int):Prop :=
 o.ExactSet∧∃ es ep t,o.data = .set es ep t∧ElemsOf (intKind prog w) es.toList∧(zks es).Perm σ∧t.fits es.size = true∧Rg.TabOk (w.params.followText "set-order") t
theorem elem_int {e:Int × Value} {l:List (Int × Value)} (h:ElemsOf (intKind prog w) l) (he:e ∈ l):∃ tk,e.2 = .int (zk e.2) tk:=by
 obtain ⟨⟨k,hk,_⟩,_⟩:=h e he
 obtain ⟨tk,z⟩:=Value.isInt_shape hk
 exact ⟨tk,by rw [z]; rfl⟩
theorem elem_is {e:Int × Value} {l:List (Int × Value)} (h:ElemsOf (intKind prog w) l) (he:e ∈ l) (v:Int):(intKind prog w).is v e.2 = decide (zk e.2 = v):=by
 obtain ⟨tk,z⟩:=elem_int h he
 have hk:=intKind_is prog w (zk e.2) tk
 rw [← z] at hk
 rw [KeyKind.is_eq_decide hk v]
 exact decide_eq_decide.mpr ⟨Eq.symm,Eq.symm⟩
theorem z_any {es:Array (Int × Value)} {σ:List Int} (hp:(zks es).Perm σ) (v:Int):σ.any (· == v) = true ↔ v ∈ zks es:=by
 rw [List.any_eq_true]
 constructor
 ·rintro ⟨x,hx,e⟩
  rw [← beq_iff_eq.mp e]
  exact hp.mem_iff.mpr hx
 ·intro m
  exact ⟨v,hp.mem_iff.mp m,beq_self_eq_true v⟩
theorem z_len {es:Array (Int × Value)} {σ:List Int} (hp:(zks es).Perm σ):es.size = σ.length:=by
 have:=hp.length_eq
 unfold zks at this
 rw [List.length_map,Array.length_toList] at this
 exact this
theorem z_stored {h : Heap} {a : Addr} {o : Obj} {es es' : Array (Int × Value)} {ep : Nat} {t t' : SetTable} (gO : h.get? a = some o) (gD : o.data = .set es ep t) :
  (h.update a (Obj.putSet es' t')).get? a = some { o with data:=.set es' (ep + 1) t' }:=by
 have z:=Heap.get?_update_self (Obj.putSet es' t') gO (by rw [putSet_of es' t' gD]; rfl)
 rwa [putSet_of es' t' gD] at z
theorem z_tail {g : Bool → Sem Unit} (hg : ∀ (b : Bool) (s₁ : Shared) (Q' : Unit → Shared → Prop), Q' () s₁ → wpAny (model prog w) A (g b) Q' E s₁)
  {a:Addr} {o:Obj} {es es1:Array (Int × Value)} {ep:Nat} {t t2:SetTable} (gO:s.heap.get? a = some o) (gX:o.ExactSet) (gD:o.data = .set es ep t) {σ:List Int}
  (gE:ElemsOf (intKind prog w) es1.toList) (gP:(zks es1).Perm σ) (gB:es1.size < scanBound) (gF:t2.fits es1.size = true) (gT:Rg.TabOk (w.params.followText "set-order") t2) {wd:Bool} {R:Option Bool→Shared→Prop}
  (q:∀ h' o',Heap.SameBut a s.heap h'→h'.get? a = some o'→ZObj prog w o' σ→R (some true) { s with heap:=h' }) :
  wpAny (model prog w) A (do
   storeSet a es1 t2
   if (!wd && t2.tooFull) = true then do
    g (relayAll t2 es1 (SetTable.grown es1.size)).2.2
    storeSet a (relayAll t2 es1 (SetTable.grown es1.size)).1 (relayAll t2 es1 (SetTable.grown es1.size)).2.1
    pure (some true)
   else pure (some true)) R E s:=by
 have g1:=z_stored (es':=es1) (t':=t2) gO gD
 have sb:=Heap.SameBut.update s.heap a (Obj.putSet es1 t2)
 refine wpAny_bind (wpAny_storeSet_of gO gD ?_ (fits_of_scanBound gB))
 split
 ·have rp:=relayAll_perm t2 es1 (SetTable.grown es1.size)
  have rf:=relayAll_fits t2 es1 (SetTable.grown es1.size)
  have rt:=gT.relayAll es1 (SetTable.grown es1.size)
  obtain ⟨⟨es2,t3,gv⟩,hR⟩:∃ r,relayAll t2 es1 (SetTable.grown es1.size) = r:=⟨_,rfl⟩
  rw [hR] at rp rf rt ⊢
  dsimp only at rp rf rt ⊢
  have hz:es2.size < scanBound:=by
   have:=rp.length_eq
   rw [Array.length_toList,Array.length_toList] at this
   omega
  refine wpAny_bind (hg _ _ _ (wpAny_bind (wpAny_storeSet_of g1 rfl (wpAny_pure ?_) (fits_of_scanBound hz))))
  exact q _ _ (sb.trans (Heap.SameBut.update _ a _)) (z_stored g1 rfl) ⟨gX,es2,_,t3,rfl,gE.perm rp,(rp.map _).trans gP,rf,rt⟩
 ·exact wpAny_pure (q _ _ sb g1 ⟨gX,es1,_,t2,rfl,gE,gP,gF,gT⟩)
theorem z_add {a : Addr} {o : Obj} {σ : List Int} {v : Int} {tk : Tok} {Q : Bool → Shared → Prop} (gO : s.heap.get? a = some o) (gZ : ZObj prog w o σ) (room : σ.length + 1 < scanBound)
  (q:∀ b h' o',Heap.SameBut a s.heap h'→h'.get? a = some o'→ZObj prog w o' (step_dedup σ v)→Q b { s with heap:=h' }) :
  wpAny (model prog w) A (setAddHashed a (.int v tk) ((intKind prog w).hash v)) Q E s:=by
 obtain ⟨gX,es,ep,t,gD,gE,gP,gF,gT⟩:=gZ
 have gB:es.size + 1 < scanBound:=by rw [z_len gP]; exact room
 have key:=intKind_is prog w v tk
 have scn:(Value.int v tk).scannable = true:=rfl
 unfold setAddHashed setAddHashedIn
 refine wpAny_holding (wpAny_bind (wpAny_setState_of gO gD gF ?_))
 dsimp only
 rw [byScan_of scn (show es.size < scanBound by omega) gE,if_pos rfl]
 unfold setAddByScan
 refine wpAny_bind (wpAny_bind (wpAny_rule (wpAny_bind (wpAny_setScan_of key gO gD gF gE ?_))))
 cases fi:List.findIdx? (fun e=>(intKind prog w).is v e.2) es.toList with
 | some j =>
  dsimp only
  obtain ⟨hj,pj,_⟩:=List.findIdx?_eq_some_iff_getElem.mp fi
  have mem:=List.getElem_mem hj
  rw [elem_is gE mem] at pj
  have m:v ∈ zks es:=List.mem_map.mpr ⟨_,mem,of_decide_eq_true pj⟩
  refine wpAny_pure (wpAny_pure (q _ s.heap o (Heap.SameBut.refl a s.heap) gO ?_))
  unfold step_dedup
  rw [if_pos ((z_any gP v).mpr m)]
  exact ⟨gX,es,ep,t,gD,gE,gP,gF,gT⟩
 | none =>
  dsimp only
  have nm:¬ σ.any (· == v) = true:=fun z=>by
   obtain ⟨e,he,ee⟩:=List.mem_map.mp ((z_any gP v).mp z)
   have:=List.findIdx?_eq_none_iff.mp fi e he
   rw [elem_is gE he,decide_eq_true ee] at this
   cases this
  have lp:=layNew_perm t es ((intKind prog w).hash v) (.int v tk)
  have lf:=layNew_fits t es ((intKind prog w).hash v) (.int v tk)
  have lt:=gT.layNew es ((intKind prog w).hash v) (.int v tk)
  obtain ⟨⟨es1,t1,wd,gv⟩,hL⟩:∃ r,layNew t es ((intKind prog w).hash v) (.int v tk) = r:=⟨_,rfl⟩
  rw [hL] at lp lf lt ⊢
  dsimp only at lp lf lt ⊢
  rw [Array.toList_push] at lp
  have e1:ElemsOf (intKind prog w) es1.toList:=(gE.push key scn).perm lp
  have p1:(zks es1).Perm (step_dedup σ v):=by
   unfold step_dedup
   rw [if_neg nm]
   have:=lp.map fun e=>zk e.2
   rw [List.map_append] at this
   exact this.trans (gP.append_right _)
  have b1:es1.size < scanBound:=by
   have:=lp.length_eq
   rw [Array.length_toList,List.length_append,Array.length_toList,List.length_singleton] at this
   omega
  have gw:∀ (b:Bool) (s₁:Shared) (Q':Unit→Shared→Prop),Q' () s₁→wpAny (model prog w) A (match b with | true=>rule "set.scan.the-table-gave-way" | false=>pure ()) Q' E s₁:=fun b s₁ Q' z=>by
   cases b
   ·exact wpAny_pure z
   ·exact wpAny_rule z
  refine wpAny_bind (gw _ _ _ ?_)
  split
  ·rw [hashByValue_scannable 8 scn]
   refine wpAny_bind (wpAny_pure ?_)
   refine z_tail gw gO gX gD e1 p1 b1 lf lt ?_
   intro h' o' sb' g' z'
   exact wpAny_pure (q _ h' o' sb' g' z')
  ·refine wpAny_bind (wpAny_pure ?_)
   refine z_tail gw gO gX gD e1 p1 b1 lf lt ?_
   intro h' o' sb' g' z'
   exact wpAny_pure (q _ h' o' sb' g' z')
end
end L2
namespace L2
open PySem PySem.Spec PyProof.Rows
section
variable {prog:Program} {w:World} {A:Around} {R:Result→Shared→Prop} {I:Addr} {fp wr:List Addr} {G:Array GenState→Array GenState→Prop} {n:Nat} {P:Nat→Value→Prop} {St:Nat→Shared→Prop}
theorem z_loop (W : WalksS prog w A.in1 I fp wr G n P St) (z : Addr) (nz : z ∉ fp) (f : Nat → Int) (hf : ∀ i v, P i v → ∃ t, v = .int (f i) t) (nb : n + 1 < scanBound) :
  ∀ (k i:Nat) (s:Shared) (o:Obj),n - i = k→i ≤ n→St i s→s.heap.get? z = some o→ZObj prog w o (firstMet f i) →
   (∀ s' o',Moved (z :: wr) G s s'→s'.heap.get? z = some o'→ZObj prog w o' (firstMet f n)→R (.ok (.ret .none)) s')→codeAny (model prog w) A (.builtin "set.update.loop" ⟨[.ref z,.ref I],[]⟩) R s:=by
 have nw:z ∉ wr:=fun m=>nz (W.sub _ m)
 have mw:∀ b ∈ wr,b ∈ z :: wr:=fun b m=>List.mem_cons_of_mem _ m
 intro k
 induction k with
 | zero =>
  intro i s o ek le st gO gZ out
  obtain rfl:i = n:=by omega
  refine codeAny_builtin F.entry_set_update_loop ?_
  rw [Around.under_plainId F.plain_set_update_loop _]
  refine wpAny_bind (m:=pyNext (.ref I)) (W.done s _ _ st fun s' mv=>?_)
  exact wpAny_pure (out s' o (mv.mono mw) (mv.heap z _ nw gO) gZ)
 | succ k ih =>
  intro i s o ek le st gO gZ out
  have lt:i < n:=by omega
  refine codeAny_builtin F.entry_set_update_loop ?_
  rw [Around.under_plainId F.plain_set_update_loop _]
  refine wpAny_bind (m:=pyNext (.ref I)) (W.item i s _ _ lt st fun v s' pv st' mv=>?_)
  obtain ⟨t,rfl⟩:=hf i v pv
  have gO':=mv.heap z _ nw gO
  refine wpAny_bind (m:=holding [Value.int (f i) t] (setAdd z (.int (f i) t))) (wpAny_holding ?_)
  unfold setAdd
  refine wpAny_holding (wpAny_bind ((intKind prog w).pyHash (k:=f i) (intKind_is _ _ _ _) ?_))
  have fl:=firstMet_length_le f i
  refine z_add (s:={ s' with toks:=s'.toks + 1 }) (tk:=t) gO' gZ (by omega) fun b h' o' sb g' z'=>?_
  rw [← firstMet_succ] at z'
  refine wpAny_pure ⟨plainId_quiet F.plain_set_update_loop _,ih (i + 1) _ o' (by omega) lt (W.frame _ s' _ _ st' (Nat.le_succ _) fun c hc u e=>?_) g' z' fun s'' o'' mv' g'' z''=>?_⟩
  ·rw [sb.2 c (fun e':c = z=>nz (by rw [← e']; exact hc))]
   exact e
  ·refine out s'' o'' (Moved.trans W.gtrans ((mv.mono mw).then_heap (Nat.le_succ _) fun c u hc e=>?_) mv') g'' z''
   rw [sb.2 c (fun e':c = z=>hc (by rw [e']; exact List.mem_cons_self))]
   exact e
end
section
variable {prog:Program} {w:World} {A:Around} {E:Value→Shared→Prop} {s:Shared}
abbrev zNew (w:World):Obj:={ cls:=.type "set",dict:=none,data:=.set #[] 0 (.fresh 0 0 (!w.params.followText "set-order")) }
theorem zNew_ok (prog:Program) (w:World):ZObj prog w (zNew w) [] :=
 ⟨⟨rfl,rfl,rfl⟩,#[],0,_,rfl,(fun e m=>by simp at m),List.Perm.refl _,rfl,Rg.TabOk.fresh _⟩
theorem z_new (v : Value) {Q₁ : Value → Shared → Prop} (q : Q₁ (.ref s.heap.objs.size) { s with heap := s.heap.push (zNew w) }) :
  codeAny (model prog w) A (.call (.builtin "set.__new__") ⟨[.type "set",v],[]⟩) (wants Q₁ E) s:=by
 have nc:=F.newCall_set_1 v
 refine codeAny_of_tree (wpAny_bind (m:=checkBuiltinCall "set.__new__" ⟨[.type "set",v],[]⟩) (wpAny_of_eq nc ?_))
 refine wpAny_pure ⟨plainId_quiet F.plain_set_new _,codeAny_builtin F.entry_set_new ?_⟩
 rw [Around.under_plainId F.plain_set_new _]
 unfold Builtin.«set.__new__» Builtin.Frozenset.newClass
 have sub:=sub_set_self
 obtain ⟨p1,p2,p3,p4,p5⟩:=s
 dsimp only
 wp_walk
 refine wpAny_askSetting (wpAny_pure ?_)
 simp only [newObj]
 exact wpAny_bind (wpAny_alloc (wpAny_pure (wpAny_pure q)))
theorem z_call {l : Addr} {items : Array Value} {ns : List Int} {Q : Value → Shared → Prop} (un : A.handled = none) (gL : s.heap.IsList l items) (gI : IntsAre items.toList ns) (nb : items.size + 1 < scanBound)
  (q:∀ (h':Heap) (tk:Nat) (o:Obj),h'.get? s.heap.objs.size = some o→ZObj prog w o (firstMet (fun i=>ns.getD i 0) items.size)→(∀ b u,b < s.heap.objs.size→s.heap.get? b = some u→h'.get? b = some u) →
   Q (.ref s.heap.objs.size) { s with heap:=h',toks:=tk }):wpAny (model prog w) A (call (.type "set") [.ref l]) Q E s:=by
 obtain ⟨c,tl,mro⟩:=F.called_set.mro
 have made:=F.called_set.made
 have sub:=F.called_set.sub
 have c1:=F.called_set.notType
 have c2:=F.called_set.canCreate
 have c3:=F.typeCall_set_1 (.ref l)
 refine wpAny_call (codeAny_of_tree (show wpAny _ _ (callAny (.type "set") _) _ _ _ from wpAny_pure ⟨Code.quiet_builtin _ (by decide +kernel),codeAny_builtin F.entry_type_call ?_⟩))
 rw [Around.under_plain (weight_type_call_type "set" [.ref l] []) rfl]
 repeat (any_goals (first | assumption | wp_step))
 refine codeAny_mono (z_new (.ref l) (E:=E) (Q₁:=fun x s₁=>x = .ref s.heap.objs.size∧s₁ = { s with heap:=s.heap.push (zNew w) }) ⟨rfl,rfl⟩) fun r s₁ hr=>?_
 cases r with
 | error e=>exact hr
 | ok fl =>
  cases fl with
  | ret x =>
   obtain ⟨rfl,rfl⟩:=hr
   have g0:(s.heap.push (zNew w)).get? s.heap.objs.size = some (zNew w):=Heap.get?_push_size _ rfl
   have tS:Shared.TypeIs { s with heap:=s.heap.push (zNew w) } (.ref s.heap.objs.size) "set":=⟨_,g0,rfl⟩
   have li:=F.called_set.init.lookup
   have bi:=F.called_set.init.bind (.ref s.heap.objs.size)
   repeat (any_goals (first | assumption | wp_step))
   refine codeAny_mono (codeAny_call_builtin (R := wants (fun r s₂ => r = .none ∧ ∃ h' tk o, s₂ = { s with heap := h', toks := tk } ∧ h'.get? s.heap.objs.size = some o ∧ ZObj prog w o (firstMet (fun i => ns.getD i 0) items.size) ∧
     (∀ b u,b < s.heap.objs.size→s.heap.get? b = some u→h'.get? b = some u)) E) F.called_set.init.plain F.entry_set_init (check_set_init_1 tS ?_)) fun r₂ s₂ hr₂=>?_
   ·obtain ⟨ol,gl,cl,nl,dl⟩:=gL
    obtain ⟨o1,o2,o3,o4⟩:=ol
    simp only at cl dl
    subst cl
    subst dl
    have gl':(s.heap.push (zNew w)).get? l = some { cls:=.type "list",dict:=o2,data:=.seq items nl,slots:=o4 }:=Heap.get?_push_of_some _ gl
    have y1:=F.sub_list_set
    have y2:=F.sub_list_frozenset
    have y3:(Value.type "list" == Value.type "dict") = false:=by decide
    have gL1:(s.heap.push (zNew w)).IsList l items:=⟨_,gl',rfl,nl,rfl⟩
    unfold Builtin.«set.__init__» noKeywords Builtin.Frozenset.updateFrom
    generalize eP:pyIter = PI
    wp_walk
    subst eP
    refine wpAny_pyIter_list gL1 (wpAny_bind (wpAny_runValue ?_))
    have ls:l < s.heap.objs.size:=Heap.lt_size gl
    have un3:A.in1.in1.in1.handled = none:=by simp [un]
    have sz1:(s.heap.push (zNew w)).objs.size = s.heap.objs.size + 1:=Heap.size_push _ _
    have nI:l ≠ (s.heap.push (zNew w)).objs.size:=by rw [sz1]; exact Nat.ne_of_lt (Nat.lt_succ_of_lt ls)
    have nz:s.heap.objs.size ∉ [(s.heap.push (zNew w)).objs.size,l]:=by
     rw [sz1]
     simp only [List.mem_cons,List.not_mem_nil,or_false,not_or]
     exact ⟨Nat.ne_of_lt (Nat.lt_succ_self _),Nat.ne_of_gt ls⟩
    have hv:∀ (i:Nat) (v:Value),items[i]? = some v→∃ t,v = .int ((fun i=>ns.getD i 0) i) t:=fun i v e=>IntsAre.int_at gI i v (by rw [Array.getElem?_toList]; exact e)
    refine z_loop ((Walks.list un3 _ l nI items).toS) s.heap.objs.size nz (fun i=>ns.getD i 0) hv nb (items.size - 0) 0 _ (zNew w) (by omega) (Nat.zero_le _) ⟨⟨_,Heap.get?_push_size _ rfl,rfl,rfl⟩,(gL1.push _)⟩ (Heap.get?_push_of_some _ g0) (zNew_ok prog w) ?_
    intro s' o' mv g' z'
    obtain ⟨h',g1,d1,tk',os'⟩:=s'
    obtain rfl:g1 = s.gens:=mv.gens
    obtain rfl:d1 = s.drawn:=mv.drawn
    obtain rfl:os' = s.os:=mv.os
    refine wpAny_pure (show wpAny _ _ (ret Value.none) _ _ _ from wpAny_pure ⟨rfl,h',tk',o',rfl,g',z',fun b u lb e=>?_⟩)
    refine mv.heap b u ?_ (Heap.get?_push_of_some _ (Heap.get?_push_of_some _ e))
    simp only [List.mem_cons,List.not_mem_nil,or_false,not_or]
    exact ⟨Nat.ne_of_lt lb,by rw [sz1]; exact Nat.ne_of_lt (Nat.lt_succ_of_lt lb)⟩
   ·cases r₂ with
    | error e=>exact hr₂
    | ok fl₂ =>
     cases fl₂ with
     | ret r =>
      obtain ⟨rfl,h',tk,o,rfl,g',z',k'⟩:=hr₂
      repeat (any_goals (first | assumption | wp_step))
      exact q h' tk o g' z' k'
     | _=>exact hr₂.elim
  | _=>exact hr.elim
end
end L2
namespace L2
open PySem PySem.Spec PyProof.Rows Rg
theorem erase_perm {α:Type} {l:List α} {i:Nat} (h:i < l.length):(l[i] :: l.eraseIdx i).Perm l:=by
 rw [List.eraseIdx_eq_take_drop_succ]
 have e:l = l.take i ++ l[i] :: l.drop (i + 1):=by rw [← List.drop_eq_getElem_cons h,List.take_append_drop]
 have p:=(List.perm_middle (a:=l[i]) (l₁:=l.take i) (l₂:=l.drop (i + 1))).symm
 rw [← e] at p
 exact p
theorem pick_go {α:Type} (f:Nat→Nat):∀ (fuel k:Nat) (left:List α) (out:Array α),left.length = fuel→(pickOrder.go f fuel k left out).toList.Perm (out.toList ++ left)
 | 0,k,left,out,h=>by
  have:left = []:=List.length_eq_zero_iff.mp h
  subst this
  unfold pickOrder.go
  simp
 | fuel + 1,k,left,out,h=>by
  have lt:f k % left.length < left.length:=Nat.mod_lt _ (by omega)
  have e:=List.getElem?_eq_getElem lt
  unfold pickOrder.go
  rw [e]
  dsimp only
  refine (pick_go f fuel (k + 1) _ _ (by rw [List.length_eraseIdx_of_lt lt]; omega)).trans ?_
  rw [Array.toList_push,List.append_assoc]
  refine List.Perm.append_left _ ?_
  exact erase_perm lt
theorem pick_perm {α:Type} (f:Nat→Nat) (xs:Array α):(pickOrder f xs).toList.Perm xs.toList:=by
 have:=pick_go f xs.size 0 xs.toList #[] (by simp)
 simpa [pickOrder] using this
section
variable {M:Model} {A:Around} {E:Value→Shared→Prop} {s:Shared}
theorem w_choose {src:Source} {n:Nat} {Q:Nat→Shared→Prop} (hn:n ≠ 0) (h:∀ i d,i < n→Q i { s with drawn:=d }):wpAny M A (choose src n) Q E s:=fun Γ p _=>by
 unfold choose
 rw [Sem.wp_choose]
 refine ⟨hn,?_⟩
 rw [Sem.wp_pure]
 exact h _ _ (Nat.mod_lt _ (Nat.pos_of_ne_zero hn))
theorem w_draw {α:Type}:∀ (n:Nat) (xs:List α) {s:Shared} {Q:List α→Shared→Prop},xs.length = n→(∀ ys d,ys.Perm xs→Q ys { s with drawn:=d })→wpAny M A (drawOrder n xs) Q E s
 | 0,xs,s,Q,h,q=>by
  have:xs = []:=List.length_eq_zero_iff.mp h
  subst this
  unfold drawOrder
  exact wpAny_pure (q [] s.drawn (List.Perm.refl _))
 | n + 1,[],s,Q,h,q=>by simp at h
 | n + 1,x :: r,s,Q,h,q=>by
  unfold drawOrder
  refine wpAny_bind (w_choose (by simp) fun i d hi=>?_)
  have e:=List.getElem?_eq_getElem hi
  rw [e]
  dsimp only
  refine wpAny_bind (w_draw n _ (by rw [List.length_eraseIdx_of_lt hi]; simpa using h) fun ys d' hp=>wpAny_pure ?_)
  exact q _ d' ((hp.cons _).trans (erase_perm hi))
end
theorem slot_sit_next:Slot "set_iterator" "__next__" "set_iterator.__next__" :=
 .of (owner:="set_iterator") (n:="__next__") (by rw [typeLookup_type,builtinLookup_eq_fast]; kernel_rfl) (by decide +kernel) (by decide +kernel) (by decide +kernel) (by first | exact .inl (by decide +kernel) | exact .inr (by decide +kernel)) (by rw [isSubtype_type]; kernel_rfl)
theorem entry_sit_next:entryFor table "set_iterator.__next__" = some Builtin.«set_iterator.__next__»:=entryFor_of_tree (by kernel_rfl)
theorem args_sit_next (a:Value):argsOk "set_iterator.__next__" ⟨[a],[]⟩:=by unfold argsOk; kernel_rfl
theorem slot_sit_iter:Slot "set_iterator" "__iter__" "set_iterator.__iter__" :=
 .of (owner:="set_iterator") (n:="__iter__") (by rw [typeLookup_type,builtinLookup_eq_fast]; kernel_rfl) (by decide +kernel) (by decide +kernel) (by decide +kernel) (by first | exact .inl (by decide +kernel) | exact .inr (by decide +kernel)) (by rw [isSubtype_type]; kernel_rfl)
theorem entry_sit_iter:entryFor table "set_iterator.__iter__" = some Builtin.«dict_keyiterator.__iter__»:=entryFor_alias (id':="dict_keyiterator.__iter__") (by kernel_rfl) rfl (by decide +kernel) (by kernel_rfl)
theorem args_sit_iter (a:Value):argsOk "set_iterator.__iter__" ⟨[a],[]⟩:=by unfold argsOk; kernel_rfl
theorem entry_set_iter':entryFor table "set.__iter__" = some Builtin.«frozenset.__iter__»:=entryFor_alias (id':="frozenset.__iter__") (by kernel_rfl) rfl (by decide +kernel) (by kernel_rfl)
end L2
namespace L2
open PySem PySem.Spec PyProof.Rows Rg
abbrev sitObj (fst:Value) (i n ep:Nat) (z:Addr):Obj:={ cls:=.type "set_iterator",dict:=none,data:=.fields #[fst,.int (i:Nat) 0,.ref z,.int (n:Nat) 0,.int (ep:Nat) 0],slots:=#[] }
section
variable {prog:Program} {w:World} {A:Around} {E:Value→Shared→Prop} {s:Shared}
structure Ord (w:World) (h:Heap) (z:Addr) (es:Array (Int × Value)) (ep:Nat) (t:SetTable) (vals:List Value) (fst:Value) (i:Nat):Prop where
 way:(w.params.followText "set-order" = true∧fst = .int 0 0∧vals = (pickOrder (w.params.setOrder z ep) es).toList.map (·.2)) ∨
  (w.params.followText "set-order" = false∧(!t.plain && decide (es.size > 1)) = true∧∃ (T:Addr) (ps:List Nat),fst = .ref T∧(∃ c,h.get? T = some { cls:=.type "tuple",dict:=none,data:=.seq (ps.map fun (k:Nat)=>rawInt k).toArray c,slots:=#[] })∧ps.length = es.size∧(∀ k ∈ ps,k < es.size)∧vals = ps.map fun k=>(es.getD k default).2) ∨
  (w.params.followText "set-order" = false∧(!t.plain && decide (es.size > 1)) = false∧∃ slot:Nat,fst = .int (slot:Nat) 0∧SetTable.below t.place slot = i∧vals = es.toList.map (·.2))
theorem w_next {z : Addr} {o : Obj} {es : Array (Int × Value)} {ep : Nat} {t : SetTable} {vals : List Value} {slot i : Nat} {v : Value} {Q : Option (Value × Nat) → Shared → Prop} (gO : s.heap.get? z = some o) (gD : o.data = .set es ep t) (gF : t.fits es.size = true) (gT : Rg.TabOk (w.params.followText "set-order") t)
  (gW:Ord w s.heap z es ep t vals (.int (slot:Nat) 0) i) (hv:vals[i]? = some v) (q:∀ slot':Nat,(∀ h,Ord w h z es ep t vals (.int (slot':Nat) 0) (i + 1))→Q (some (v,slot')) s) :
  wpAny (model prog w) A (setNext z slot i ep) Q E s:=by
 unfold setNext
 refine wpAny_bind (wpAny_setState_of gO gD gF ?_)
 dsimp only
 refine wpAny_bind (m:=setsByText) (wpAny_bind (wpAny_askSetting (wpAny_pure ?_)))
 rcases gW.way with ⟨hB,hf,hvals⟩ | ⟨_,_,T,ps,hf,_⟩ | ⟨hB,hdr,slot',hf,hbl,hvals⟩
 ·show wpAny _ _ (if w.params.followText "set-order" = true then _ else _) _ _ s
  rw [if_pos hB]
  simp only [bne_self_eq_false,Bool.false_eq_true,↓reduceIte]
  unfold setWalk
  refine wpAny_bind (wpAny_bind (wpAny_setState_of gO gD gF ?_))
  dsimp only
  refine wpAny_bind (m:=setsByText) (wpAny_bind (wpAny_askSetting (wpAny_pure ?_)))
  show wpAny _ _ (if w.params.followText "set-order" = true then _ else _) _ _ s
  rw [if_pos hB]
  refine wpAny_bind (wpAny_askSetting (wpAny_pure ?_))
  refine wpAny_pure ?_
  have e:((pickOrder (w.params.setOrder z ep) es)[i]?).map (fun e=>(e.2,slot)) = some (v,slot):=by
   rw [hvals,List.getElem?_map] at hv
   have h2:(pickOrder (w.params.setOrder z ep) es).toList[i]? = (pickOrder (w.params.setOrder z ep) es)[i]?:=by simp
   rw [h2] at hv
   cases ee:(pickOrder (w.params.setOrder z ep) es)[i]? with
   | none=>rw [ee] at hv; cases hv
   | some x=>rw [ee] at hv; have hv':x.2 = v:=Option.some.inj hv; rw [← hv']; rfl
  have e0:slot = 0:=by injection hf with h1 _; omega
  subst e0
  have qq:=q 0 fun h=>⟨.inl ⟨hB,rfl,hvals⟩⟩
  rw [← e] at qq
  exact qq
 ·cases hf
 ·show wpAny _ _ (if w.params.followText "set-order" = true then _ else _) _ _ s
  rw [if_neg (by rw [hB]; exact Bool.false_ne_true)]
  show wpAny _ _ (if (!t.plain && decide (es.size > 1)) = true then _ else _) _ _ s
  rw [if_neg (by rw [hdr]; exact Bool.false_ne_true)]
  have hled:t.led = true:=gT.led hB
  have hi:i < es.size:=by
   have:=(List.getElem?_eq_some_iff.mp hv).1
   rw [hvals,List.length_map,Array.length_toList] at this
   exact this
  have hpl:t.place.size = es.size:=by
   have:=gF
   unfold SetTable.fits at this
   simp at this
   exact this.1
  have e0:slot = slot':=by injection hf with h1 _; omega
  subst e0
  have hx:es[i]? = some es[i]:=Array.getElem?_eq_getElem hi
  have hj:t.place[i]? = some t.place[i]:=Array.getElem?_eq_getElem (by omega)
  have hvx:v = es[i].2:=by
   rw [hvals,List.getElem?_map] at hv
   have h2:es.toList[i]? = es[i]?:=by simp
   rw [h2,hx] at hv
   exact (Option.some.inj hv).symm
  refine wpAny_bind (m:=if (!t.led && !es.isEmpty) = true then unsupported "set:maker-not-led" else pure ()) ?_
  rw [if_neg (by rw [hled]; simp)]
  refine wpAny_pure ?_
  rw [hbl,hx,hj]
  subst hvx
  exact wpAny_pure (q (t.place[i] + 1) fun h=>⟨.inr (.inr ⟨hB,hdr,_,rfl,below_next gT.ris hj,hvals⟩)⟩)
theorem w_stop {z : Addr} {o : Obj} {es : Array (Int × Value)} {ep : Nat} {t : SetTable} {vals : List Value} {slot : Nat} {Q : Option (Value × Nat) → Shared → Prop} (gO : s.heap.get? z = some o) (gD : o.data = .set es ep t) (gF : t.fits es.size = true) (gT : Rg.TabOk (w.params.followText "set-order") t)
  (gW:Ord w s.heap z es ep t vals (.int (slot:Nat) 0) es.size) (q:Q none s):wpAny (model prog w) A (setNext z slot es.size ep) Q E s:=by
 unfold setNext
 refine wpAny_bind (wpAny_setState_of gO gD gF ?_)
 dsimp only
 refine wpAny_bind (m:=setsByText) (wpAny_bind (wpAny_askSetting (wpAny_pure ?_)))
 rcases gW.way with ⟨hB,hf,hvals⟩ | ⟨_,_,T,ps,hf,_⟩ | ⟨hB,hdr,slot',hf,hbl,hvals⟩
 ·show wpAny _ _ (if w.params.followText "set-order" = true then _ else _) _ _ s
  rw [if_pos hB]
  simp only [bne_self_eq_false,Bool.false_eq_true,↓reduceIte]
  unfold setWalk
  refine wpAny_bind (wpAny_bind (wpAny_setState_of gO gD gF ?_))
  dsimp only
  refine wpAny_bind (m:=setsByText) (wpAny_bind (wpAny_askSetting (wpAny_pure ?_)))
  show wpAny _ _ (if w.params.followText "set-order" = true then _ else _) _ _ s
  rw [if_pos hB]
  refine wpAny_bind (wpAny_askSetting (wpAny_pure (wpAny_pure ?_)))
  have hz:(pickOrder (w.params.setOrder z ep) es).size = es.size:=by
   have:=(pick_perm (w.params.setOrder z ep) es).length_eq
   simpa using this
  have e:((pickOrder (w.params.setOrder z ep) es)[es.size]?).map (fun e=>(e.2,slot)) = none:=by rw [Array.getElem?_eq_none (by omega)]; rfl
  rw [← e] at q
  exact q
 ·cases hf
 ·show wpAny _ _ (if w.params.followText "set-order" = true then _ else _) _ _ s
  rw [if_neg (by rw [hB]; exact Bool.false_ne_true)]
  show wpAny _ _ (if (!t.plain && decide (es.size > 1)) = true then _ else _) _ _ s
  rw [if_neg (by rw [hdr]; exact Bool.false_ne_true)]
  have e0:slot = slot':=by injection hf with h1 _; omega
  subst e0
  refine wpAny_bind (m:=if (!t.led && !es.isEmpty) = true then unsupported "set:maker-not-led" else pure ()) ?_
  rw [if_neg (by rw [gT.led hB]; simp)]
  refine wpAny_pure ?_
  rw [hbl,Array.getElem?_eq_none (Nat.le_refl es.size)]
  exact wpAny_pure q
theorem sit_put {h : Heap} {I z : Addr} {fst : Value} {i n ep : Nat} {k : Nat} {x : Value} (g : h.get? I = some (sitObj fst i n ep z)) :
  (h.update I (Obj.mapFields (·.setIfInBounds k x))).get? I = some { cls:=.type "set_iterator",dict:=none,data:=.fields (#[fst,.int (i:Nat) 0,.ref z,.int (n:Nat) 0,.int (ep:Nat) 0].setIfInBounds k x),slots:=#[] } :=
 Heap.get?_update_self _ g rfl
theorem w_item {I z : Addr} {o : Obj} {es : Array (Int × Value)} {ep : Nat} {t : SetTable} {vals : List Value} {fst : Value} {i : Nat} {v : Value} {Q : Option Value → Shared → Prop} (gI : s.heap.get? I = some (sitObj fst i es.size ep z)) (gO : s.heap.get? z = some o) (gD : o.data = .set es ep t) (gF : t.fits es.size = true) (gT : Rg.TabOk (w.params.followText "set-order") t)
  (gW:Ord w s.heap z es ep t vals fst i) (hv:vals[i]? = some v) (q:∀ h' fst',h'.get? I = some (sitObj fst' (i + 1) es.size ep z)→Heap.SameBut I s.heap h'→Ord w h' z es ep t vals fst' (i + 1)→(∀ a,fst' = .ref a→fst = .ref a)→Q (some v) { s with heap:=h' }) :
  wpAny (model prog w) A (pyNext (.ref I)) Q E s:=by
 have tI:s.TypeIs (.ref I) "set_iterator":=⟨_,gI,rfl⟩
 unfold pyNext
 refine wpAny_bind (wpAny_attempt (wpAny_callSpecial?_slot (name:=Str.ofString "__next__") tI slot_sit_next (wpAny_call_entry slot_sit_next tI entry_sit_next ?_ (args_sit_next _))))
 unfold Builtin.«set_iterator.__next__» slotArgs
 simp only [List.isEmpty_nil,Bool.not_true,Bool.false_eq_true,↓reduceIte,bind_assoc,List.length_nil,bne_self_eq_false]
 refine wpAny_bind (wpAny_pure ?_)
 refine wpAny_bind (wpAny_fieldsOf gI rfl ?_)
 dsimp only
 refine wpAny_bind (wpAny_setEntries_of gO gD gF ?_)
 simp only [bne_self_eq_false,Bool.false_eq_true,↓reduceIte]
 have gW0:=gW
 rcases gW.way with ⟨hB,hf,hvals⟩ | ⟨hB,hdr,T,ps,hf,⟨c,hTo⟩,hpl,hpb,hvals⟩ | ⟨hB,hdr,slot,hf,hbl,hvals⟩
 ·subst hf
  refine wpAny_bind (w_next (slot:=0) gO gD gF gT gW0 hv fun slot' ord=>?_)
  refine wpAny_bind (wpAny_setField gI rfl (by simp) ?_)
  have g1:(s.heap.update I (Obj.mapFields (·.setIfInBounds 0 (rawInt slot')))).get? I = some (sitObj (.int (slot':Nat) 0) i es.size ep z):=by rw [sit_put gI]; rfl
  refine wpAny_bind (wpAny_setField g1 rfl (by simp) (wpAny_pure ⟨v,rfl,wpAny_pure (q _ (.int (slot':Nat) 0) ?_ ((Heap.SameBut.update ..).trans (Heap.SameBut.update ..)) (ord _) (fun a ha=>by cases ha))⟩))
  rw [sit_put g1]; rfl
 ·subst hf
  refine wpAny_bind (wpAny_seqItems hTo rfl ?_)
  have hk:∃ k,ps[i]? = some k∧v = (es.getD k default).2:=by
   rw [hvals,List.getElem?_map] at hv
   cases ek:ps[i]? with
   | none=>rw [ek] at hv; cases hv
   | some k=>rw [ek] at hv; exact ⟨k,rfl,(Option.some.inj hv).symm⟩
  obtain ⟨k,ek,ev⟩:=hk
  have e1:((ps.map fun (k:Nat)=>rawInt k).toArray)[((i:Nat):Int).toNat]? = some (.int (k:Nat) 0):=by
   rw [Int.toNat_natCast,List.getElem?_toArray,List.getElem?_map,ek]; rfl
  dsimp only
  rw [e1]
  dsimp only
  have hk:=hpb k (List.mem_of_getElem? ek)
  obtain ⟨x,hx⟩:∃ x,es[k]? = some x:=⟨_,Array.getElem?_eq_getElem hk⟩
  have ev':v = x.2:=by rw [ev,Array.getD_eq_getD_getElem?,hx]; rfl
  unfold setNextDrawn
  refine wpAny_bind (wpAny_bind (wpAny_setState_of gO gD gF ?_))
  simp only [Int.toNat_natCast,bne_self_eq_false,Bool.false_eq_true,↓reduceIte]
  rw [hx]
  refine wpAny_pure ?_
  rw [← ev']
  refine wpAny_bind (wpAny_setField gI rfl (by simp) (wpAny_pure ⟨v,rfl,wpAny_pure (q _ (.ref T) ?_ (Heap.SameBut.update ..) ⟨.inr (.inl ⟨hB,hdr,T,ps,rfl,⟨c,?_⟩,hpl,hpb,hvals⟩)⟩ (fun a ha=>ha))⟩))
  ·rw [sit_put gI]; rfl
  ·have nT:T ≠ I:=fun e=>by rw [e,gI] at hTo; exact absurd (congrArg Obj.cls (Option.some.inj hTo)) (show ¬ Value.type "set_iterator" = Value.type "tuple" by decide)
   rw [(Heap.SameBut.update s.heap I _).2 T nT]
   exact hTo
 ·subst hf
  refine wpAny_bind (w_next (slot:=slot) gO gD gF gT gW0 hv fun slot' ord=>?_)
  refine wpAny_bind (wpAny_setField gI rfl (by simp) ?_)
  have g1:(s.heap.update I (Obj.mapFields (·.setIfInBounds 0 (rawInt slot')))).get? I = some (sitObj (.int (slot':Nat) 0) i es.size ep z):=by rw [sit_put gI]; rfl
  refine wpAny_bind (wpAny_setField g1 rfl (by simp) (wpAny_pure ⟨v,rfl,wpAny_pure (q _ (.int (slot':Nat) 0) ?_ ((Heap.SameBut.update ..).trans (Heap.SameBut.update ..)) (ord _) (fun a ha=>by cases ha))⟩))
  rw [sit_put g1]; rfl
theorem stop_wp {A : Around} {Q : Option Value → Shared → Prop} {s₁ : Shared} (un : A.handled = none) (q : ∀ h', (∀ b o, s₁.heap.get? b = some o → h'.get? b = some o) → Q none { s₁ with heap := h' }) :
  wpAny (model prog w) A.in1 (do let e ← newExc (.type "StopIteration") []; raiseNew e) (fun fin s'=>∃ v,fin = Fin.done (Flow.ret v)∧wpAny (model prog w) A (pure (some v)) Q E s')
   (fun e s'=>wpAny (model prog w) A (do let b ← isInstance e (.type "StopIteration"); if b = true then pure none else throw e) Q E s') s₁:=by
 refine wpAny_bind ?_
 simp only [newExc,newTuple]
 refine wpAny_bind (wpAny_newObj_type ?_ (by size_fits))
 refine wpAny_bind (m:=firstArgMember _ _) (wpAny_of_eq (a:=Value.none) (by first | rfl | (simp only [firstArgMember]; rfl)) ?_)
 refine wpAny_newObj_type ?_ (by size_fits)
 simp only [raiseNew]
 refine wpAny_bind (wpAny_handled ?_)
 rw [show A.in1.handled = none from un]
 refine wpAny_bind (wpAny_pure (wpAny_throw ?_))
 refine wpAny_bind (wpAny_isInstance (T:="StopIteration") (b:=true) ⟨_,Heap.get?_push_size _ rfl,rfl⟩ isSubtype_stop ?_)
 exact wpAny_pure (q _ fun b o e=>Heap.get?_push_of_some _ (Heap.get?_push_of_some _ e))
theorem w_done {I z : Addr} {o : Obj} {es : Array (Int × Value)} {ep : Nat} {t : SetTable} {vals : List Value} {fst : Value} {Q : Option Value → Shared → Prop} (un : A.handled = none) (gI : s.heap.get? I = some (sitObj fst es.size es.size ep z)) (gO : s.heap.get? z = some o) (gD : o.data = .set es ep t) (gF : t.fits es.size = true) (gT : Rg.TabOk (w.params.followText "set-order") t)
  (gW:Ord w s.heap z es ep t vals fst es.size) (q:∀ h',Heap.ExtBut I s.heap h'→Q none { s with heap:=h' }):wpAny (model prog w) A (pyNext (.ref I)) Q E s:=by
 have tI:s.TypeIs (.ref I) "set_iterator":=⟨_,gI,rfl⟩
 unfold pyNext
 refine wpAny_bind (wpAny_attempt (wpAny_callSpecial?_slot (name:=Str.ofString "__next__") tI slot_sit_next (wpAny_call_entry slot_sit_next tI entry_sit_next ?_ (args_sit_next _))))
 unfold Builtin.«set_iterator.__next__» slotArgs
 simp only [List.isEmpty_nil,Bool.not_true,Bool.false_eq_true,↓reduceIte,bind_assoc,List.length_nil,bne_self_eq_false]
 refine wpAny_bind (wpAny_pure ?_)
 refine wpAny_bind (wpAny_fieldsOf gI rfl ?_)
 dsimp only
 refine wpAny_bind (wpAny_setEntries_of gO gD gF ?_)
 simp only [bne_self_eq_false,Bool.false_eq_true,↓reduceIte]
 have gW0:=gW
 rcases gW.way with ⟨hB,hf,hvals⟩ | ⟨hB,hdr,T,ps,hf,⟨c,hTo⟩,hpl,hpb,hvals⟩ | ⟨hB,hdr,slot,hf,hbl,hvals⟩
 ·subst hf
  refine wpAny_bind (w_stop (slot:=0) gO gD gF gT gW0 ?_)
  refine wpAny_bind (wpAny_setField gI rfl (by simp) ?_)
  exact stop_wp un fun h' k=>q h' fun b o nb e=>k b o (by rw [(Heap.SameBut.update s.heap I _).2 b nb]; exact e)
 ·subst hf
  refine wpAny_bind (wpAny_seqItems hTo rfl ?_)
  have e1:((ps.map fun (k:Nat)=>rawInt k).toArray)[((es.size:Nat):Int).toNat]? = none:=by
   rw [Int.toNat_natCast]
   exact Array.getElem?_eq_none (by simp [hpl])
  dsimp only
  rw [e1]
  dsimp only
  have g1:(s.heap.update I (Obj.mapFields (·.setIfInBounds 0 (rawInt 0)))).get? I = some (sitObj (.int (0:Nat) 0) es.size es.size ep z):=by rw [sit_put gI]; rfl
  refine wpAny_bind (wpAny_setField gI rfl (by simp) ?_)
  refine wpAny_bind (wpAny_setField g1 rfl (by simp) ?_)
  exact stop_wp un fun h' k=>q h' fun b o nb e=>k b o (by rw [(Heap.SameBut.update _ I _).2 b nb,(Heap.SameBut.update s.heap I _).2 b nb]; exact e)
 ·subst hf
  refine wpAny_bind (w_stop (slot:=slot) gO gD gF gT gW0 ?_)
  refine wpAny_bind (wpAny_setField gI rfl (by simp) ?_)
  exact stop_wp un fun h' k=>q h' fun b o nb e=>k b o (by rw [(Heap.SameBut.update s.heap I _).2 b nb]; exact e)
end
end L2
namespace L2
open PySem PySem.Spec PyProof.Rows Rg
section
variable {prog:Program} {w:World} {A:Around} {E:Value→Shared→Prop} {s:Shared}
theorem w_iter {z : Addr} {o : Obj} {es : Array (Int × Value)} {ep : Nat} {t : SetTable} {Q : Value → Shared → Prop} (gX : o.ExactSet) (gO : s.heap.get? z = some o) (gD : o.data = .set es ep t) (gF : t.fits es.size = true) (gT : Rg.TabOk (w.params.followText "set-order") t) (gB : es.size < scanBound)
  (q:∀ h' d fst vals I,vals.Perm (es.toList.map (·.2))→(∀ b u,s.heap.get? b = some u→h'.get? b = some u)→s.heap.objs.size ≤ I→h'.get? I = some (sitObj fst 0 es.size ep z)→Ord w h' z es ep t vals fst 0→Q (.ref I) { s with heap:=h',drawn:=d }) :
  wpAny (model prog w) A (pyIter (.ref z)) Q E s:=by
 have tZ:s.TypeIs (.ref z) "set":=⟨o,gO,gX.1⟩
 refine wpAny_pyIter_slot tZ F.slot_set_iter (wpAny_call_entry F.slot_set_iter tZ entry_set_iter' ?_ (F.args_set_iter_1 _))
 unfold Builtin.«frozenset.__iter__» Builtin.Frozenset.slot0 slotArgs
 simp only [List.isEmpty_nil,Bool.not_true,Bool.false_eq_true,↓reduceIte,bind_assoc,List.length_nil,bne_self_eq_false]
 unfold Builtin.Frozenset.addrOf Builtin.Frozenset.sizeOf
 refine wpAny_bind (wpAny_pure ?_)
 try dsimp only
 refine wpAny_bind (wpAny_pure ?_)
 refine wpAny_bind (wpAny_bind (wpAny_setEntries_of gO gD gF (wpAny_pure ?_)))
 unfold setDrawn
 refine wpAny_bind (wpAny_bind (wpAny_setState_of gO gD gF ?_))
 dsimp only
 refine wpAny_bind (m:=setsByText) (wpAny_bind (wpAny_askSetting (wpAny_pure (wpAny_pure ?_))))
 show wpAny _ _ (if (!w.params.followText "set-order" && (!t.plain && decide (es.size > 1))) = true then _ else _) _ _ s
 have big:(1000000:Nat) < sizeLine:=by rw [sizeLine_eq]; decide
 have sb:scanBound = 4096:=rfl
 have hpl:t.place.size = es.size:=by
  have z:=gF
  unfold SetTable.fits at z
  simp at z
  exact z.1
 cases hB:w.params.followText "set-order" with
 | true =>
  rw [if_neg (by simp)]
  refine wpAny_bind (wpAny_pure ?_)
  refine wpAny_bind (wpAny_setEpoch_of gO gD gF ?_)
  refine wpAny_bind (wpAny_newObj_type ?_ (by size_fits))
  refine wpAny_pure ⟨_,rfl,"set_iterator",_,⟨_,Heap.get?_push_size _ rfl,rfl⟩,slot_sit_next.lookup,?_⟩
  exact q _ s.drawn (.int 0 0) _ _ ((pick_perm (w.params.setOrder z ep) es).map _) (fun b u e=>Heap.get?_push_of_some _ e) (Nat.le_refl _) (Heap.get?_push_size _ rfl) ⟨.inl ⟨hB,rfl,rfl⟩⟩
 | false =>
  cases hdr:(!t.plain && decide (es.size > 1)) with
  | false =>
   rw [if_neg (by simp)]
   refine wpAny_bind (wpAny_pure ?_)
   refine wpAny_bind (wpAny_setEpoch_of gO gD gF ?_)
   refine wpAny_bind (wpAny_newObj_type ?_ (by size_fits))
   refine wpAny_pure ⟨_,rfl,"set_iterator",_,⟨_,Heap.get?_push_size _ rfl,rfl⟩,slot_sit_next.lookup,?_⟩
   exact q _ s.drawn (.int 0 0) _ _ (List.Perm.refl _) (fun b u e=>Heap.get?_push_of_some _ e) (Nat.le_refl _) (Heap.get?_push_size _ rfl) ⟨.inr (.inr ⟨hB,hdr,0,rfl,below_zero gT.ris,rfl⟩)⟩
  | true =>
   rw [if_pos (by simp)]
   refine wpAny_bind (w_draw es.size (List.range es.size) (by simp) fun ys d hp=>?_)
   have yl:ys.length = es.size:=by have:=hp.length_eq; simpa using this
   refine wpAny_bind (wpAny_newObj_type ?_ (by show _ ≤ sizeLine; simp [yl]; omega))
   refine wpAny_bind (wpAny_setEpoch_of (Heap.get?_push_of_some _ gO) gD gF ?_)
   refine wpAny_bind (wpAny_newObj_type ?_ (by size_fits))
   refine wpAny_pure ⟨_,rfl,"set_iterator",_,⟨_,Heap.get?_push_size _ rfl,rfl⟩,slot_sit_next.lookup,?_⟩
   refine q _ d (.ref s.heap.objs.size) (ys.map fun k=>(es.getD k default).2) _ ?_ (fun b u e=>Heap.get?_push_of_some _ (Heap.get?_push_of_some _ e)) (by show _ ≤ (s.heap.push _).objs.size; rw [Heap.size_push]; exact Nat.le_succ _) (Heap.get?_push_size _ rfl)
    ⟨.inr (.inl ⟨hB,hdr,s.heap.objs.size,ys,rfl,⟨_,Heap.get?_push_of_some _ (Heap.get?_push_size _ rfl)⟩,yl,fun k hk=>List.mem_range.mp (hp.mem_iff.mp hk),rfl⟩)⟩
   refine (hp.map _).trans ?_
   have e:(List.range es.size).map (fun k=>(es.getD k default).2) = es.toList.map (·.2):=by
    refine List.ext_getElem (by simp) fun i h1 h2=>?_
    simp at h1
    simp [Array.getD,h1]
   rw [e]
theorem w_walks (un : A.handled = none) {I z : Addr} {o : Obj} {es : Array (Int × Value)} {ep : Nat} {t : SetTable} {vals : List Value} (gD : o.data = .set es ep t) (gF : t.fits es.size = true) (gT : Rg.TabOk (w.params.followText "set-order") t) (hl : vals.length = es.size) (nz : z ≠ I) (T : Addr) (nT : T ≠ I) :
  Walks prog w A I [I,z,T] [I] es.size (fun i v=>vals[i]? = some v) (fun i h=>h.get? z = some o∧∃ fst,h.get? I = some (sitObj fst i es.size ep z)∧Ord w h z es ep t vals fst i∧∀ a,fst = .ref a→a = T) where
 sub:=fun b hb=>by simp at hb; simp [hb]
 frame:=fun i h h' st hk=>by
  obtain ⟨gO,fst,gI,gW,hT⟩:=st
  refine ⟨hk z (by simp) _ gO,fst,hk I (by simp) _ gI,⟨?_⟩,hT⟩
  rcases gW.way with x | ⟨hB,hdr,a,ps,hf,⟨c,e⟩,rest⟩ | x
  ·exact .inl x
  ·exact .inr (.inl ⟨hB,hdr,a,ps,hf,⟨c,hk a (by rw [hT a hf]; simp) _ e⟩,rest⟩)
  ·exact .inr (.inr x)
 item:=fun i s Q E hi st q=>by
  obtain ⟨gO,fst,gI,gW,hT⟩:=st
  have hv:vals[i]? = some vals[i]:=List.getElem?_eq_getElem (by omega)
  refine w_item gI gO gD gF gT gW hv fun h' fst' g' sb ord same=>?_
  refine q _ h' s.toks hv ⟨by rw [sb.2 z nz]; exact gO,fst',g',ord,fun a ha=>hT a (same a ha)⟩ fun b u nb e=>by rw [sb.2 b (by simpa using nb)]; exact e
 done:=fun s Q E st q=>by
  obtain ⟨gO,fst,gI,gW,hT⟩:=st
  exact w_done un gI gO gD gF gT gW fun h' x=>q h' s.toks fun b u nb e=>x b u (by simpa using nb) e
 self:=fun i s Q E st q=>by
  obtain ⟨gO,fst,gI,gW,hT⟩:=st
  have tI:s.TypeIs (.ref I) "set_iterator":=⟨_,gI,rfl⟩
  refine wpAny_pyIter_slot tI slot_sit_iter (wpAny_call_entry slot_sit_iter tI entry_sit_iter ?_ (args_sit_iter _))
  show wpAny _ _ (ret (.ref I)) _ _ s
  exact wpAny_pure ⟨_,rfl,"set_iterator",_,tI,slot_sit_next.lookup,q⟩
end
end L2
namespace L2
open PySem PySem.Spec PyProof.Rows Rg
theorem look_set_len:typeLookup (.type "set") "__len__" = pure (some (.builtin "set.__len__")):=by rw [typeLookup_type,builtinLookup_eq_fast]; kernel_rfl
section
variable {prog:Program} {w:World} {A:Around} {E:Value→Shared→Prop} {s:Shared}
theorem w_collect (un : A.handled = none) {z : Addr} {o : Obj} {es : Array (Int × Value)} {ep : Nat} {t : SetTable} {Q : List Value → Shared → Prop} (gX : o.ExactSet) (gO : s.heap.get? z = some o) (gD : o.data = .set es ep t) (gF : t.fits es.size = true) (gT : Rg.TabOk (w.params.followText "set-order") t) (gB : es.size < scanBound)
  (q:∀ h' d tk vals,vals.Perm (es.toList.map (·.2))→s.heap.objs.size < h'.objs.size→(∀ b u,s.heap.get? b = some u→h'.get? b = some u)→Q vals { s with heap:=h',drawn:=d,toks:=tk }):wpAny (model prog w) A (collect (.ref z)) Q E s:=by
 unfold collect
 refine wpAny_bind (wpAny_runValue (codeAny_builtin F.entry_proto_collect ?_))
 rw [Around.under_plainId F.plain_proto_collect _]
 refine wpAny_bind (m:=newList []) (wpAny_newObj_type ?_)
 refine wpAny_pure ⟨plainId_quiet F.plain_list_iadd _,codeAny_builtin F.entry_list_iadd ?_⟩
 rw [Around.under_plainId F.plain_list_iadd _]
 have zl:z < s.heap.objs.size:=Heap.lt_size gO
 obtain ⟨H1,e1⟩:∃ H1,s.heap.push { cls:=.type "list",data:=.seq ([]:List Value).toArray } = H1:=⟨_,rfl⟩
 rw [e1]
 have k1:∀ b u,s.heap.get? b = some u→H1.get? b = some u:=fun b u e=>by rw [← e1]; exact Heap.get?_push_of_some _ e
 have gL1:H1.get? s.heap.objs.size = some (seqObj "list" #[] 0):=by rw [← e1]; exact Heap.get?_push_size _ rfl
 have tZ:Shared.TypeIs { s with heap:=H1 } (.ref z) "set":=⟨o,k1 _ _ gO,gX.1⟩
 show wpAny _ A.in1 (Builtin.List.listExtendWith (.ref s.heap.objs.size) (.ref z) (.ref s.heap.objs.size)) _ _ _
 unfold Builtin.List.listExtendWith
 refine wpAny_bind (wpAny_typeOf tZ ?_)
 have x1:Builtin.List.listSameRef (.ref s.heap.objs.size) (.ref z) = false:=by
  have:s.heap.objs.size ≠ z:=Nat.ne_of_gt zl
  simp [Builtin.List.listSameRef,this]
 rw [if_neg (by rw [x1]; decide)]
 refine wpAny_bind (w_iter gX (k1 _ _ gO) gD gF gT gB fun h2 d fst vals I hp k2 hI gI gW=>?_)
 refine wpAny_bind (wpAny_holding ?_)
 unfold Builtin.List.listLengthHint
 have tZ2:Shared.TypeIs { s with heap:=h2,drawn:=d } (.ref z) "set":=⟨o,k2 _ _ (k1 _ _ gO),gX.1⟩
 refine wpAny_bind (wpAny_specialOf tZ2 look_set_len ?_)
 wp_delta
 refine wpAny_bind (wpAny_isInstance (T:="set") (b:=true) tZ2 (by rw [isSubtype_type]; kernel_rfl) ?_)
 refine wpAny_bind (m:=typeOf (.ref z)) (wpAny_typeOf tZ2 ?_)
 refine wpAny_pure ?_
 rw [if_pos (by decide)]
 have gL2:=k2 _ _ gL1
 have big:(1000000:Nat) < sizeLine:=by rw [sizeLine_eq]; decide
 have sb:scanBound = 4096:=rfl
 have hs1:H1.objs.size = s.heap.objs.size + 1:=by rw [← e1]; exact Heap.size_push _ _
 have nLI:s.heap.objs.size ≠ I:=Nat.ne_of_lt (Nat.lt_of_lt_of_le (by show _ < H1.objs.size; rw [hs1]; exact Nat.lt_succ_self _) hI)
 have nLz:s.heap.objs.size ≠ z:=Nat.ne_of_gt zl
 have nzI:z ≠ I:=fun e=>nLI (by
  have h1:z < H1.objs.size:=Heap.lt_size (k1 _ _ gO)
  rw [e] at h1
  exact absurd h1 (Nat.not_lt.mpr hI))
 obtain ⟨T,hT,nTI,nTL⟩:∃ T,(∀ a,fst = .ref a→a = T)∧T ≠ I∧T ≠ s.heap.objs.size:=by
  rcases gW.way with ⟨_,hf,_⟩ | ⟨_,_,a,ps,hf,⟨c,e⟩,_⟩ | ⟨_,_,sl,hf,_⟩
  ·exact ⟨z,(fun a ha=>by rw [hf] at ha; cases ha),nzI,nLz.symm⟩
  ·refine ⟨a,(fun b hb=>by rw [hf] at hb; injection hb with h; exact h.symm),fun x=>?_,fun x=>?_⟩
   ·rw [x,gI] at e; exact absurd (congrArg Obj.cls (Option.some.inj e)) (show ¬ Value.type "set_iterator" = Value.type "tuple" by decide)
   ·rw [x,gL2] at e; exact absurd (congrArg Obj.cls (Option.some.inj e)) (show ¬ Value.type "list" = Value.type "tuple" by decide)
  ·exact ⟨z,(fun a ha=>by rw [hf] at ha; cases ha),nzI,nLz.symm⟩
 refine wpAny_bind (wpAny_rule ?_)
 unfold Builtin.List.listTouch
 refine wpAny_bind (wpAny_bind (listUpdate_at gL2 rfl ?_))
 have gL3:=get?_update_seq gL2 (·.push .none)
 refine listUpdate_at gL3 rfl ?_
 have gL4:=get?_update_seq gL3 (·.pop)
 have kk:∀ b,b ≠ s.heap.objs.size→((h2.update s.heap.objs.size (Obj.mapSeq (·.push .none))).update s.heap.objs.size (Obj.mapSeq (·.pop))).get? b = h2.get? b:=fun b nb=>by
  rw [(Heap.SameBut.update _ _ _).2 b nb,(Heap.SameBut.update _ _ _).2 b nb]
 obtain ⟨H4,e4⟩:∃ H4,(h2.update s.heap.objs.size (Obj.mapSeq (·.push .none))).update s.heap.objs.size (Obj.mapSeq (·.pop)) = H4:=⟨_,rfl⟩
 rw [e4] at gL4 kk
 rw [e4]
 have vl:vals.length = es.size:=by have:=hp.length_eq; simpa using this
 have un2:A.in1.handled = none:=by simp [un]
 have st:H4.get? z = some o∧∃ fst,H4.get? I = some (sitObj fst 0 es.size ep z)∧Ord w H4 z es ep t vals fst 0∧∀ a,fst = .ref a→a = T:=by
  refine ⟨by rw [kk z nLz.symm]; exact k2 _ _ (k1 _ _ gO),fst,by rw [kk I nLI.symm]; exact gI,⟨?_⟩,hT⟩
  rcases gW.way with x | ⟨hB,hdr,a,ps,hf,⟨c,e⟩,rest⟩ | x
  ·exact .inl x
  ·exact .inr (.inl ⟨hB,hdr,a,ps,hf,⟨c,by rw [hT a hf] at e ⊢; rw [kk T nTL]; exact e⟩,rest⟩)
  ·exact .inr (.inr x)
 have nf:s.heap.objs.size ∉ [I,z,T]:=by
  simp only [List.mem_cons,List.not_mem_nil,or_false,not_or]
  exact ⟨nLI,nLz,nTL.symm⟩
 refine wpAny_pure ⟨plainId_quiet F.plain_extend_loop _,codeAny_extend_loopS (w_walks (vals:=vals) un2 gD gF gT vl nzI T nTI).toS (by omega) _ nf _ es.size 0 _ #[] _ rfl (Nat.zero_le _) st gL4 (ItemsOf.nil _) fun s' acc c' mv gA it=>?_⟩
 refine wpAny_bind (wpAny_load gA (wpAny_pure ?_))
 have ea:acc.toList = vals:=by
  refine List.ext_getElem? fun j=>?_
  rcases Nat.lt_or_ge j es.size with lt | ge
  ·have lt':j < acc.size:=by rw [it.1]; exact lt
   have e:acc[j]? = some acc[j]:=Array.getElem?_eq_getElem lt'
   rw [it.2 j _ e,← e]
   simp
  ·rw [List.getElem?_eq_none (by simp [it.1]; exact ge),List.getElem?_eq_none (by omega)]
 obtain ⟨h5,g5,d5,tk5,os5⟩:=s'
 obtain rfl:g5 = s.gens:=mv.gens
 obtain rfl:d5 = d:=mv.drawn
 obtain rfl:os5 = s.os:=mv.os
 show Q acc.toList _
 rw [ea]
 refine q h5 _ tk5 vals hp (Heap.lt_size gA) fun b u e=>mv.heap b u ?_ ?_
 ·have lb:b < s.heap.objs.size:=Heap.lt_size e
  simp only [List.mem_cons,List.not_mem_nil,or_false,not_or]
  exact ⟨Nat.ne_of_lt lb,Nat.ne_of_lt (Nat.lt_of_lt_of_le (by show _ < H1.objs.size; rw [hs1]; exact Nat.lt_succ_of_lt lb) hI)⟩
 ·show H4.get? b = some u
  rw [kk b (Nat.ne_of_lt (Heap.lt_size e))]
  exact k2 _ _ (k1 _ _ e)
end
end L2
namespace L2
open PySem PySem.Spec PyProof.Rows Rg
section
variable {prog:Program} {w:World} {A:Around} {E:Value→Shared→Prop} {s:Shared}
theorem z_rest {vals : List Value} {ns : List Int} {Q : Value → Shared → Prop} (hI : IntsAre vals ns) (vl : vals.length < 64)
  (q:∀ (out:Array Value) (ns':List Int),IntsAre out.toList ns'→ns'.Perm ns→ns'.Pairwise (· ≤ ·)→Q (.ref s.heap.objs.size) { s with heap:=sortedHeap (s.heap.push (seqObj "list" vals.toArray 0)) s.heap.objs.size vals out }) :
  wpAny (model prog w) A (do
   let l ← newList vals
   let _ ← holding [l] (call (.builtin "list.sort") [l] [])
   ret l) (fun fin s'=>∃ v,fin = Fin.done (Flow.ret v)∧Q v s') E s:=by
 refine wpAny_bind (wpAny_newList ?_)
 have g1:(s.heap.push (seqObj "list" vals.toArray 0)).get? s.heap.objs.size = some (seqObj "list" vals.toArray 0):=Heap.get?_push_size _ rfl
 show wpAny _ _ _ _ _ { s with heap:=s.heap.push (seqObj "list" vals.toArray 0) }
 refine wpAny_bind (wpAny_holding (wpAny_call_entry slot_list_sort ⟨_,g1,rfl⟩ entry_list_sort (list_sort_tree g1 hI vl fun out ns' a1 a2 a3=>⟨_,rfl,?_⟩) (args_list_sort _)))
 exact wpAny_pure ⟨_,rfl,q out ns' a1 a2 a3⟩
end
theorem ints_of:∀ {l:List Value},(∀ v ∈ l,∃ tk,v = .int (zk v) tk)→IntsAre l (l.map zk)
 | [],_=>.nil
 | v :: r,h=>by
  obtain ⟨tk,e⟩:=h v List.mem_cons_self
  have ih:=ints_of fun x hx=>h x (List.mem_cons_of_mem _ hx)
  rw [List.map_cons,e]
  exact .cons _ tk ih
section
variable {prog:Program} {w:World} {A:Around} {E:Value→Shared→Prop} {s:Shared}
theorem z_sorted (un : A.handled = none) {z : Addr} {o : Obj} {σ : List Int} {Q : Value → Shared → Prop} (gO : s.heap.get? z = some o) (gZ : ZObj prog w o σ) (h64 : σ.length < 64)
  (q:∀ (h1:Heap) (d:Drawn) (tk:Nat) (vals:List Value) (out:Array Value) (ns:List Int),s.heap.objs.size < h1.objs.size→(∀ b u,s.heap.get? b = some u→h1.get? b = some u)→IntsAre out.toList ns→ns.Perm σ→ns.Pairwise (· ≤ ·)→Q (.ref h1.objs.size) { s with heap:=sortedHeap (h1.push (seqObj "list" (vals.toArray) 0)) h1.objs.size vals out,drawn:=d,toks:=tk }) :
  wpAny (model prog w) A (call (.builtin "sorted") [.ref z]) Q E s:=by
 obtain ⟨gX,es,ep,t,gD,gE,gP,gF,gT⟩:=gZ
 have hz:=z_len gP
 have gB:es.size < scanBound:=by rw [hz]; exact Nat.lt_trans h64 (by decide)
 have un1:A.in1.handled = none:=un
 refine Calls.call_function_entry kind_sorted plain_sorted entry_sorted (args_sorted1 _) ?_
 unfold Builtin.«sorted»
 refine wpAny_bind (m:=checkCount "sorted" 1 1 _) (wpAny_pure ?_)
 refine wpAny_bind (m:=collect (.ref z)) (w_collect un1 gX gO gD gF gT gB fun h1 d tk vals hp lt1 k1=>?_)
 have hI:IntsAre vals (vals.map zk):=ints_of fun v hv=>by
  obtain ⟨e,he,rfl⟩:=List.mem_map.mp (hp.mem_iff.mp hv)
  exact elem_int gE he
 have hpz:(vals.map zk).Perm σ:=by
  have:=hp.map zk
  rw [List.map_map] at this
  exact this.trans gP
 have vl:vals.length < 64:=by
  have h1:=hp.length_eq
  rw [List.length_map] at h1
  have h2:es.toList.length = es.size:=Array.length_toList
  rw [h1,h2,hz]
  exact h64
 exact z_rest (s:={ s with heap:=h1,drawn:=d,toks:=tk }) hI vl fun out ns' a1 a2 a3=>q h1 d tk vals out ns' lt1 k1 a1 (a2.trans hpz) a3
end
end L2
namespace L2
open PySem PySem.Spec PyProof.Rows Rg
section
variable {X:Cx} {K:PySem.W.Frag} {P:Program} {w:World}
def gSetZ (P:Program) (w:World) (K:PySem.W.Frag):List V→Hp→VK→Prop:=fun xs H Q=>match xs with
 | [.ref a]=>∃ ns:List Int,SqL K H a (ns.map V.int)∧ns.length + 1 < 4096∧∀ p o,H p = none→ZObj P w o (dist ns)→Q (.ref p) (upd H p (.frz o anyHO))
 | _=>False
theorem c_setZ (hc:X.calm = true) (hK:X.K = K:=by rfl) (hP:X.prog = P:=by rfl) (hw:X.w = w:=by rfl):Irr (CallR X (.type "set") (gSetZ P w K)):=by
 refine .mk ?_
 subst hK
 subst hP
 subst hw
 intro pins s σ H xs us Q I r h
 unfold gSetZ at h
 split at h
 ·obtain ⟨ns,hS,hl,q⟩:=h
  obtain ⟨u,rfl,rx⟩:=vals1 r
  cases rx
  obtain ⟨its,rv,pl,hz⟩:=I.list hS
  have hlen:its.length = ns.length:=by have:=rv.length; rw [List.length_map] at this; exact this.symm
  have hsz:its.toArray.size = ns.length:=by rw [List.size_toArray]; exact hlen
  refine z_call (items:=its.toArray) (ns:=ns) (I.ok.hd hc) pl.isList (by simpa using ints_vals rv) (by rw [hsz]; exact hl) fun h' tk o g z k=>?_
  rw [firstMet_dist ns _ hsz] at z
  exact ⟨.ref _,_,I.laid (t':=tk) (fun b o e=>k b o (Heap.lt_size e) e) (Nat.le_refl _) (ok_any g),rfl,q _ o (I.hok.fresh (Nat.le_refl _)) z⟩
 ·exact h.elim
def gSortZ (P:Program) (w:World):List V→Hp→VK→Prop:=fun xs H Q=>match xs with
 | [.ref a]=>∃ o τ,Kn H a o∧ZObj P w o τ∧τ.length < 64∧∀ p (ns:List Int),H p = none→ns.Perm τ→ns.Pairwise (· ≤ ·)→Q (.ref p) (upd H p (.lst (ns.map V.int)))
 | _=>False
theorem ints_rel:∀ {vs:List Value} {ns:List Int},IntsAre vs ns→Vals (ns.map V.int) vs
 | _,_,.nil=>.nil
 | _,_,.cons n t h=>.cons ⟨t,rfl⟩ (ints_rel h)
theorem Inv.drew {pins:List (Addr × Obj)} {σ:St} {H:Hp} {s:Shared} (I:Inv X pins σ H s) (d:Drawn):Inv X pins σ H { s with drawn:=d } :=
 ⟨I.ok,I.os,I.bare,I.base,I.loc,I.cell,I.free,I.freeC,I.pin,I.hok,I.len⟩
theorem c_sortZ (hc:X.calm = true) (hP:X.prog = P:=by rfl) (hw:X.w = w:=by rfl):Irr (CallR X (.builtin "sorted") (gSortZ P w)):=by
 refine .mk ?_
 subst hP
 subst hw
 intro pins s σ H xs us Q I r h
 unfold gSortZ at h
 split at h
 ·obtain ⟨o,τ,hk,hz,hl,q⟩:=h
  obtain ⟨u,rfl,rx⟩:=vals1 r
  cases rx
  refine z_sorted (I.ok.hd hc) (hk.get I.hok) hz hl fun h1 d tk vals out ns lt k1 hI hp hs=>?_
  have g1:(h1.push (seqObj "list" vals.toArray 0)).get? h1.objs.size = some (seqObj "list" vals.toArray 0):=Heap.get?_push_size _ rfl
  obtain ⟨e,g2⟩:=sortedHeap_at (out:=out) g1
  have kept:∀ b u,s.heap.get? b = some u→(sortedHeap (h1.push (seqObj "list" vals.toArray 0)) h1.objs.size vals out).get? b = some u:=fun b u hb=>by
   have lb:b < h1.objs.size:=Heap.lt_size (k1 b u hb)
   rw [sortedHeap_old (Nat.ne_of_lt lb) (by rw [size_push']; exact Nat.lt_succ_of_lt lb)]
   exact Heap.get?_push_of_some _ (k1 b u hb)
  have big:(1000000:Nat) < sizeLine:=by rw [sizeLine_eq]; decide
  have nl:ns.length = τ.length:=hp.length_eq
  have new:ObjOk X.prog X.w (upd H h1.objs.size (.lst (ns.map V.int))) (sortedHeap (h1.push (seqObj "list" vals.toArray 0)) h1.objs.size vals out) h1.objs.size (.lst (ns.map V.int)):=⟨by rw [List.length_map]; omega,out.toList,e,ints_rel hI,g2⟩
  exact ⟨.ref _,_,(I.drew d).laid (t':=tk) kept (Nat.le_of_lt lt) new,rfl,q _ ns (I.hok.fresh (Nat.le_of_lt lt)) hp hs⟩
 ·exact h.elim
end
end L2
namespace L2
open PySem PySem.Spec PyProof.Rows Rg
theorem step_mem (σ:List Int) (v x:Int):x ∈ step_dedup σ v ↔ x ∈ σ∨x = v:=by
 unfold step_dedup
 by_cases h:σ.any (· == v) = true
 ·rw [if_pos h]
  obtain ⟨y,hy,e⟩:=List.any_eq_true.mp h
  have e':y = v:=beq_iff_eq.mp e
  subst e'
  exact ⟨.inl,fun z=>z.elim id fun e=>by rw [e]; exact hy⟩
 ·rw [if_neg h,List.mem_append,List.mem_singleton]
theorem dist_mem1 (ns:List Int) (x:Int):x ∈ dist ns ↔ x ∈ ns:=by
 have key:∀ (l acc:List Int),x ∈ l.foldl step_dedup acc ↔ x ∈ acc∨x ∈ l:=by
  intro l
  induction l with
  | nil=>intro acc; simp
  | cons y r ih =>
   intro acc
   rw [List.foldl_cons,ih,step_mem,List.mem_cons,or_assoc]
 have:=key ns []
 unfold dist
 simpa using this
structure Srt (ns rs:List Int):Prop where
 pm:ns.Perm (dist rs)
 st:ns.Pairwise (· ≤ ·)
theorem Srt.mem {ns rs:List Int} (h:Srt ns rs) (x:Int):x ∈ ns ↔ x ∈ rs:=(h.pm.mem_iff).trans (dist_mem1 rs x)
theorem Srt.nil {ns rs:List Int} (h:Srt ns rs):ns = [] ↔ rs = []:=by
 constructor
 ·intro e
  refine List.eq_nil_iff_forall_not_mem.mpr fun x hx=>?_
  have:=(h.mem x).mpr hx
  rw [e] at this
  cases this
 ·intro e
  refine List.eq_nil_iff_forall_not_mem.mpr fun x hx=>?_
  have:=(h.mem x).mp hx
  rw [e] at this
  cases this
theorem Srt.least {ns rs r:List Int} {m:Int} (h:Srt ns rs) (e:ns = m :: r):m ∈ rs∧∀ x ∈ rs,m ≤ x:=by
 refine ⟨(h.mem m).mp (by rw [e]; exact List.mem_cons_self),fun x hx=>?_⟩
 have hx':=(h.mem x).mpr hx
 have st:=h.st
 rw [e] at hx' st
 rcases List.mem_cons.mp hx' with z | z
 ·rw [z]; exact Int.le_refl _
 ·exact (List.pairwise_cons.mp st).1 x z
theorem Srt.none {ns rs:List Int} (h:Srt ns rs) (k:Int):ns.filter (fun x=>decide (k < x)) = [] ↔ ∀ x ∈ rs,x ≤ k:=by
 rw [List.filter_eq_nil_iff]
 constructor
 ·intro q x hx
  have:=q x ((h.mem x).mpr hx)
  rw [decide_eq_true_eq] at this
  omega
 ·intro q x hx
  have:=q x ((h.mem x).mp hx)
  rw [decide_eq_true_eq]
  omega
theorem Srt.above {ns rs r:List Int} {m k:Int} (h:Srt ns rs) (e:ns.filter (fun x=>decide (k < x)) = m :: r):m ∈ rs∧k < m∧∀ x ∈ rs,k < x→m ≤ x:=by
 have hm:m ∈ ns.filter (fun x=>decide (k < x)):=by rw [e]; exact List.mem_cons_self
 obtain ⟨h1,h2⟩:=List.mem_filter.mp hm
 refine ⟨(h.mem m).mp h1,of_decide_eq_true h2,fun x hx hk=>?_⟩
 have hx':x ∈ ns.filter (fun x=>decide (k < x)):=List.mem_filter.mpr ⟨(h.mem x).mpr hx,decide_eq_true hk⟩
 have st:=h.st.sublist (List.filter_sublist (p:=fun x=>decide (k < x)))
 rw [e] at hx' st
 rcases List.mem_cons.mp hx' with z | z
 ·rw [z]; exact Int.le_refl _
 ·exact (List.pairwise_cons.mp st).1 x z
end L2
namespace L2
open PySem PySem.Spec PyProof.Rows
section
variable {prog:Program} {w:World} {A:Around} {E:Value→Shared→Prop} {s:Shared}
end
section
variable {prog:Program} {w:World} {A:Around} {R:Result→Shared→Prop} {I:Addr} {fp wr:List Addr} {n:Nat} {V1:Nat→Value→Prop} {St:Nat→Heap→Prop}
end
section
variable {prog:Program} {w:World} {A:Around} {E:Value→Shared→Prop} {s:Shared}
end
section
variable {X:Cx} {K:PySem.W.Frag} {p pos kpos:Pos} {e ed:Expr} {te td:TE}
end
end L2
namespace L2
open PySem PySem.Spec PyProof.Rows PySem.W
section
variable {X:Cx} {pins:List (Addr × Obj)} {σ:List (Option V)} {H:Hp} {s:Shared}
end
section
variable {X:Cx} {k:Nat} {x G n:Str} {ps:List Str} {sp:Sp} {e:Expr} {es:List Expr} {t:TA} {p gp cpos epos hpos pos:Pos} {CG:Addr} {newId:String} {i:Nat} {b₀:Stmt} {suite:List Stmt} {ts:Addr→Addr→TS}
end
end L2
namespace L2
open PySem PySem.Spec PyProof.Rows PySem.W
abbrev TX:=(St→Hp→Prop)→(St→XK)→St→Hp→Prop
section
variable {X:Cx} {k:Nat} {x G n:Str} {ps:List Str} {sp:Sp} {e c:Expr} {es:List Expr} {t:TA} {p gp cpos epos hpos pos:Pos} {CG:Addr} {newId:String} {i:Nat} {b₀:Stmt} {suite b1 b2 body:List Stmt} {ts:Addr→Addr→TS} {tx t1 t2:TX} {tc:TT}
end
section
variable {X:Cx} {k:Nat} {x G n:Str} {ps:List Str} {sp:Sp} {e c:Expr} {es:List Expr} {t:TA} {p gp cpos epos hpos pos:Pos} {CG:Addr} {i:Nat} {b₀:Stmt} {suite b1 b2 body:List Stmt} {ts:Addr→Addr→TS} {tx t1 t2:TX} {tc:TT}
end
end L2
namespace L2
open PySem PySem.Spec PyProof.Rows
section
variable {X:Cx} {K:PySem.W.Frag} {e:Expr} {te:TE} {pos:Pos}
def cReprD (K:PySem.W.Frag) (te:TE):St→Hp→Prop:=fun σ H=>te σ H fun v H1=>H1 = H∧∃ a d,v = .ref a∧DatV K H v d∧d.showable = true∧d.hasDict = false∧d.depth ≤ 60∧d.shown.length ≤ 1100000
theorem jf_reprD (hg:X.A.guards = some []) (hu:X.A.units + 64 < cLine) (he:JE X e te) (hK:X.K = K:=by rfl):JF X (.FormattedValue e 114 none pos) (cReprD K te):=by
 subst hK
 refine .mk ?_
 intro pins s σ H I h
 refine wpAny_FormattedValue_repr (thn (he.out pins s σ H _ I h) fun u s1 ⟨v,H1,I1,r1,e1,a,d,ev,hd,hs,hn,hp,hl⟩=>?_)
 subst e1 ev
 obtain ⟨as,ra⟩:=hd.reads I1 r1
 cases r1
 have hz:=size12 (Nat.le_trans hl (show 1100000 ≤ 12 * 1100000 by omega))
 refine pyReprObj_of_reads ra hs (fun z=>by rw [hn] at z; cases z) hg (by omega) (fun _ _ e=>e) (fun h' t tk hk=>?_) hz
 refine wpAny_formatField_str ⟨_,_,rfl,hl,I1.kept hk⟩ ⟨_,_,rfl,hl,?_⟩ hz
 exact (I1.kept (t':=tk) hk).tok _
end
end L2
namespace L2
open PySem PySem.Spec PyProof.Rows
section
variable {X:Cx} {K:PySem.W.Frag}
end
end L2
namespace L2
open PySem PySem.Spec PyProof.Rows
theorem piled_le:∀ (ts:List Str) (B:Nat),(∀ t ∈ ts,t.length ≤ B)→piled ts ≤ ts.length * (B + 2)
 | [],B,_=>by simp [piled]
 | t :: r,B,h=>by
  have ih:=piled_le r B fun x hx=>h x (List.mem_cons_of_mem _ hx)
  have h1:=h t List.mem_cons_self
  rw [piled_cons,List.length_cons,Nat.add_mul,Nat.one_mul]
  omega
theorem tupT_le {ts:List Str} {B:Nat} (h:∀ t ∈ ts,t.length ≤ B):(tupleText ts).length ≤ ts.length * (B + 2) + 3:=by
 unfold tupleText
 rw [strLen_append,strLen_append]
 have h2:(Str.join ", " ts).length ≤ ts.length * (B + 2):=by
  cases ts with
  | nil=>exact Nat.le_trans (show (Str.join ", " []).length ≤ 0 by decide) (Nat.zero_le _)
  | cons t r =>
   have h1:=piled_le (t :: r) B h
   have:=join_length_add (t :: r) (List.cons_ne_nil _ _)
   omega
 have h3:(("(":Str)).length = 1:=by decide
 have h4:((if ts.length == 1 then ",)" else ")":String):Str).length ≤ 2:=by
  by_cases e:(ts.length == 1) = true
  ·rw [if_pos e]; decide
  ·rw [if_neg e]; decide
 omega
end L2
namespace L2
open PySem PySem.Spec PyProof.Rows
section
variable {cap:List (Option Nat)} {g:TG} {tc:TT} {te:TE} {Q:Addr→Hp→Prop} {σ:St} {H:Hp}
theorem gath_tup {K : PySem.W.Frag} {a : Addr} {xs : List V} (Pv : Nat → List V → St → Hp → Prop) (hn : xs.length ≤ 1000000) (h0 : Pv 0 [] (capt cap σ) H) (hlen : ∀ i ys σ' H', Pv i ys σ' H' → ys.length ≤ i)
  (hl:∀ i ys σ' H',Pv i ys σ' H'→SqT K H' a xs)
  (hs:∀ i x ys σ' H',xs[i]? = some x→Pv i ys σ' H'→g x σ' H' fun σ3 H3=>tc σ3 H3 fun b H4=>if b = true then te σ3 H4 fun y H5=>Pv (i + 1) (ys ++ [y]) σ3 H5 else Pv (i + 1) ys σ3 H4)
  (hd:∀ ys σ' H',Pv xs.length ys σ' H'→∀ D,H' D = none→Q D (upd H' D (.lst ys))):Gath (Itt K a) cap g tc te Q σ H :=
 gath_of (J:=Itt K a) (item:=fun i x=>xs[i]? = some x) Pv hn h0 hlen (fun i ys σ' H' hi p=>⟨xs,xs[i],hl i ys σ' H' p,by simp [hi]⟩) (fun i ys σ' H' x H2 _ p y=>⟨y.2 xs (hl i ys σ' H' p),y.1⟩)
  (fun ys σ' H' p=>⟨xs,hl _ ys σ' H' p,Nat.le_refl _⟩) (fun i x ys σ' H' hi e p=>hs i x ys σ' H' e p) hd
end
end L2
namespace L2
open PySem PySem.Spec PyProof.Rows
theorem ext_tup (l : Addr) (items : Array Value) (n : Nat) (b : Addr) (dd : Option Addr) (sl : Array (Option Value)) (items2 : Array Value) (n2 : Nat) (hs0 : ¬(!items.isEmpty && Builtin.List.listTooLong (items.size + items2.size)) = true) (hs1 : items.size ≤ sizeLine) (hs2 : items.size + items2.size ≤ sizeLine + 1) :
  Meets (Builtin.«list.extend» ⟨[.ref l,.ref b],[]⟩) (fun _ R s=>s.heap.get? l = some { cls:=.type "list",dict:=none,data:=.seq items n,slots:=#[] }∧s.heap.get? b = some { cls:=.type "tuple",dict:=dd,data:=.seq items2 n2,slots:=sl }∧R (.ok (.ret Value.none)) { s with heap:=s.heap.update l (Obj.mapSeq fun x=>x ++ items2),toks:=s.toks }) :=
 .of_wp fun prog w A R s h=>by
  obtain ⟨hp,g,d,tk,os⟩:=s; obtain ⟨hl,hb,h⟩:=h; have f1:=AutoSeq1.idx_int; have f2:=AutoSeq1.sub_tuple_tuple; have f3:=AutoSeq1.sub_list_list; have f4:=AutoSeq1.sub_tuple_list; have f5:=AutoSeq1.sub_list_tuple;
  have hz':(items ++ items2).size ≤ sizeLine + 1:=by rw [Array.size_append]; exact hs2
  wp_walk using (wpAny_updateSeq hl rfl (hz:=hs1) (_hz':=hz')),AutoSeq1.wpAny_loadPart' hl,AutoSeq1.wpAny_loadPart' hb; exact ⟨_,rfl,h⟩
section
variable {X:Cx} {K:PySem.W.Frag}
def gExtendA (K:PySem.W.Frag):V→List V→Hp→VK→Prop:=fun x vs H Q=>match x,vs with
 | .ref l,[.ref b]=>∃ xs zs,H l = some (.lst xs)∧(H b = some (.lst zs)∨SqT K H b zs)∧xs.length + zs.length ≤ sizeLine∧Q .non (upd H l (.lst (xs ++ zs)))
 | _,_=>False
theorem m_extendA (hK:X.K = K:=by rfl):Irr (MtR X "list.extend" (gExtendA K)):=by
 refine .mk ?_
 subst hK
 intro pins s σ H x xs v us Q I rx rs h
 unfold gExtendA at h
 split at h
 ·obtain ⟨xs,zs,h1,h2,h3,h4⟩:=h
  rcases h2 with h2 | h2
  ·exact mt_extend pins s σ H _ _ v us Q I rx rs ⟨_,_,xs,zs,rfl,rfl,h1,h2,h3,h4⟩
  ·cases rx
   obtain ⟨u,rfl,ru⟩:=rs.one
   cases ru
   obtain ⟨z,its,n,r,hl,e⟩:=I.lstM h1
   obtain ⟨its2,r2,⟨ob,e2,c2,n2,d2⟩,hz2⟩:=I.tuple h2
   obtain ⟨oc,od,oda,os⟩:=ob
   simp only at c2 d2
   subst c2 d2
   have hl2:=r2.length
   have hsz:its.toArray.size + its2.toArray.size ≤ sizeLine:=by rw [List.size_toArray,List.size_toArray]; omega
   have hlong:¬ (!its.toArray.isEmpty && Builtin.List.listTooLong (its.toArray.size + its2.toArray.size)) = true:=by
    rw [notLongL hsz,Bool.and_false]
    exact Bool.false_ne_true
   refine call_meets F.slot_list_extend ⟨_,e,rfl⟩ F.entry_list_extend (F.args_list_extend_2 _ _)
    (ext_tup _ its.toArray n _ od os its2.toArray n2 hlong (by rw [List.size_toArray]; omega) (by omega)) ⟨e,e2,?_⟩
   refine ⟨.non,_,I.lset (its':=its ++ its2) h1 e (by simp) (r.append r2) ?_,rfl,h4⟩
   rw [List.length_append]
   omega
 ·exact h.elim
def gInsert:V→List V→Hp→VK→Prop:=fun x vs H Q=>match x,vs with
 | .ref l,[.int i,y]=>∃ xs,H l = some (.lst xs)∧0 ≤ i∧i ≤ xs.length∧xs.length < 100000∧Q .non (upd H l (.lst (xs.take i.toNat ++ y :: xs.drop i.toNat)))
 | _,_=>False
theorem m_insert:Irr (MtR X "list.insert" gInsert):=by
 refine .mk ?_
 intro pins s σ H x xs v us Q I rx rs h
 unfold gInsert at h
 split at h
 ·rename_i l i y
  obtain ⟨xs,h1,h0,hi,hlt,q⟩:=h
  cases rx
  obtain ⟨u1,u2,rfl,r1,r2⟩:=vals2 rs
  obtain ⟨t,rfl⟩:=r1
  obtain ⟨z,its,n,r,hl,e⟩:=I.lstM h1
  have hb:(100000:Nat) < sizeLine:=by rw [sizeLine_eq]; decide
  refine call_meets F.slot_list_insert ⟨_,e,rfl⟩ F.entry_list_insert (F.args_list_insert_3 _ _ _)
   (AutoListH.list_insert_list_int_val_1 l its.toArray n i t u2 ?_ (by rw [List.size_toArray]; omega)) ⟨e,?_⟩
  ·unfold Builtin.List.listFitsIndex
   simp
   rw [sizeLine_eq] at hb
   omega
  ·refine ⟨.non,_,I.lset (its':=its.take i.toNat ++ u2 :: its.drop i.toNat) h1 e ?_ ((r.take _).append (.cons r2 (r.drop _))) ?_,rfl,q⟩
   ·have ek : (if i < 0 then (i + ((its.toArray.size : Nat) : Int)).toNat else min i.toNat its.toArray.size) = i.toNat := by
     rw [if_neg (by omega),List.size_toArray,Nat.min_eq_left (by omega)]
    show (its.toArray.extract 0 (if i < 0 then (i + ((its.toArray.size:Nat):Int)).toNat else min i.toNat its.toArray.size)).push u2 ++ its.toArray.extract (if i < 0 then (i + ((its.toArray.size:Nat):Int)).toNat else min i.toNat its.toArray.size) = _
    rw [ek]
    apply Array.ext'
    simp
    exact List.take_of_length_le (by rw [List.length_drop]; exact Nat.le_refl _)
   ·rw [List.length_append,List.length_cons,List.length_take,List.length_drop]
    omega
 ·exact h.elim
def pD (p:Str × Int):PyData:=.tuple [.str p.1,.int p.2]
def pV (p:Str × Int):List V:=[.str p.1,.int p.2]
theorem pD_inv {H:Hp} {x:V} {p:Str × Int} (h:DatV K H x (pD p)):∃ a,x = .ref a∧SqT K H a (pV p):=by
 unfold pD at h
 cases h with
 | tuple hS hd =>
  cases hd with
  | cons h1 hd=>cases h1; cases hd with
   | cons h2 hd=>cases h2; cases hd; exact ⟨_,rfl,hS⟩
theorem pD_lay {p:Str × Int} (h:PyData.strOk p.1 = true):(pD p).canLay0 = true:=by unfold pD; simp only [PyData.canLay0,PyData.canLayAll0,h,Bool.and_self]
theorem pD_eqv (t u:Str × Int):PyData.eqv (pD t) (pD u) = decide (t = u):=by
 unfold pD
 rw [PyData.eqv,PyData.eqvAll,PyData.eqvAll,PyData.eqvAll]
 obtain ⟨a,b⟩:=t
 obtain ⟨c,d⟩:=u
 unfold PyData.eqv
 by_cases h1:a = c
 ·by_cases h2:b = d
  ·simp [h1,h2]
  ·simp [h1,h2]
 ·simp [h1]
def gInP (K:PySem.W.Frag) (neg:Bool):R2:=fun x y H Q=>match y with
 | .ref p=>(∃ (xs:List V) (ps:List (Str × Int)) (t:Str × Int),SqL K H p xs∧DatVs K H xs (ps.map pD)∧DatV K H x (pD t)∧(∀ q ∈ t :: ps,PyData.strOk q.1 = true)∧Q (.bl (neg ^^ decide (t ∈ ps))) H)∨gInA K neg x y H Q
 | y=>gInA K neg x y H Q
open Classical in
theorem inP_gen {pins : List (Addr × Obj)} {s : Shared} {σ : St} {H : Hp} {x : V} {v : Value} {p : Addr} {xs : List V} {ps : List (Str × Int)} {t : Str × Int} (hu : X.A.units + 64 < cLine) (I : Inv X pins σ H s) (rx : RelV x v) (hS : SqL X.K H p xs) (hD : DatVs X.K H xs (ps.map pD)) (hx : DatV X.K H x (pD t)) (ok : ∀ q ∈ t :: ps, PyData.strOk q.1 = true) :
  ∃ (items:Array Value) (e:Value→Bool),s.heap.IsList p items∧(∀ y,y ∈ items→SeqAt.EqAt X.A.in1 s y v (e y))∧items.any e = decide (t ∈ ps):=by
 obtain ⟨its,rv,pl,_⟩:=I.list hS
 refine ⟨its.toArray,fun y=>decide (∃ (a:Addr),y = .ref a∧SqT X.K H a (pV t)),pl.isList,fun y hy=>?_,?_⟩
 ·obtain ⟨i,hi,e⟩:=List.mem_iff_getElem.mp (show y ∈ its by simpa using hy)
  have hil:i < xs.length:=by have:=rv.length; omega
  have hxi:xs[i]? = some xs[i]:=List.getElem?_eq_getElem hil
  obtain ⟨d,hd,hdx⟩:=hD.get hxi
  rw [List.getElem?_map] at hd
  cases ep:ps[i]? with
  | none=>rw [ep] at hd; cases hd
  | some q =>
   rw [ep] at hd
   have ed:d = pD q:=(Option.some.inj hd).symm
   subst ed
   obtain ⟨u,hu2,ru⟩:=rv.get hxi
   rw [List.getElem?_eq_getElem hi,e] at hu2
   cases hu2
   obtain ⟨as,ra⟩:=hdx.reads I ru
   obtain ⟨bs,rb⟩:=hx.reads I rx
   obtain ⟨a,ea,hT⟩:=pD_inv hdx
   have key:=SeqAt.eqAt_reads (pD q) (pD t) X.A.in1 s _ _ as bs ra rb (pD_lay (ok q (List.mem_cons_of_mem _ (List.mem_of_getElem? ep)))) (pD_lay (ok t List.mem_cons_self)) (by
    have:min (pD q).depth (pD t).depth ≤ 10:=by unfold pD; simp only [PyData.depth,PyData.depthAll]; omega
    have:X.A.in1.units = X.A.units + 1:=rfl
    omega)
   have e2:PyData.eqv (pD q) (pD t) = decide (∃ (a:Addr),y = .ref a∧SqT X.K H a (pV t)):=by
    rw [pD_eqv]
    rw [ea] at ru
    obtain rfl:y = Value.ref a:=ru
    by_cases z:q = t
    ·rw [decide_eq_true z,decide_eq_true]
     exact ⟨a,rfl,by rw [← z]; exact hT⟩
    ·rw [decide_eq_false z,decide_eq_false]
     rintro ⟨b,eb,hb⟩
     cases eb
     have:=I.tuple_inj hT hb
     unfold pV at this
     injection this with h1 h2
     injection h2 with h2 _
     injection h1 with h1
     injection h2 with h2
     exact z (Prod.ext h1 h2)
   show SeqAt.EqAt _ _ _ _ (decide (∃ (a:Addr),y = .ref a∧SqT X.K H a (pV t)))
   rw [← e2]
   exact key
 ·rw [Bool.eq_iff_iff,Array.any_eq_true',decide_eq_true_eq]
  constructor
  ·rintro ⟨y,hy,he⟩
   obtain ⟨i,hi,e⟩:=List.mem_iff_getElem.mp (show y ∈ its by simpa using hy)
   have he:=of_decide_eq_true he
   obtain ⟨a,ea,hT⟩:=he
   have hil:i < xs.length:=by have:=rv.length; omega
   have hxi:xs[i]? = some xs[i]:=List.getElem?_eq_getElem hil
   obtain ⟨d,hd,hdx⟩:=hD.get hxi
   rw [List.getElem?_map] at hd
   cases ep:ps[i]? with
   | none=>rw [ep] at hd; cases hd
   | some q =>
    rw [ep] at hd
    have ed:d = pD q:=(Option.some.inj hd).symm
    subst ed
    obtain ⟨u,hu2,ru⟩:=rv.get hxi
    rw [List.getElem?_eq_getElem hi,e] at hu2
    cases hu2
    obtain ⟨b,eb,hb⟩:=pD_inv hdx
    rw [eb] at ru
    have eab:y = Value.ref b:=ru
    rw [eab] at ea
    cases ea
    have:=I.tuple_inj hT hb
    unfold pV at this
    injection this with h1 h2
    injection h2 with h2 _
    injection h1 with h1
    injection h2 with h2
    rw [show t = q from Prod.ext h1 h2]
    exact List.mem_of_getElem? ep
  ·intro hm
   obtain ⟨i,hi,e⟩:=List.mem_iff_getElem.mp hm
   have hxl:xs.length = ps.length:=by have:=hD.length; rw [List.length_map] at this; exact this
   have hxi:xs[i]? = some (xs[i]'(by omega)):=List.getElem?_eq_getElem (by omega)
   obtain ⟨d,hd,hdx⟩:=hD.get hxi
   rw [List.getElem?_map,List.getElem?_eq_getElem hi,e] at hd
   have ed:d = pD t:=(Option.some.inj hd).symm
   subst ed
   obtain ⟨u,hu2,ru⟩:=rv.get hxi
   obtain ⟨b,eb,hb⟩:=pD_inv hdx
   rw [eb] at ru
   have eab:u = Value.ref b:=ru
   exact ⟨u,by simpa using List.mem_of_getElem? hu2,decide_eq_true ⟨b,eab,hb⟩⟩
theorem o_inP (hu:X.A.units + 64 < cLine) (hK:X.K = K:=by rfl):Irr (OpR X (compareOp .In) (gInP K false)):=by
 refine .mk ?_
 subst hK
 intro pins s σ H x y v u Q I rx ry h
 unfold gInP at h
 split at h
 ·rename_i p
  rcases h with ⟨xs,ps,t,h1,h2,h3,h4,q⟩ | h
  ·obtain rfl:u = Value.ref p:=ry
   obtain ⟨items,e,a1,a2,a3⟩:=inP_gen hu I rx h1 h2 h3 h4
   refine SeqAt.in_listAt e a1 a2 ?_
   rw [a3]
   exact ⟨.bl _,H,I,rfl,by simpa using q⟩
  ·exact (o_inA hu rfl).out pins s σ H x (.ref p) v u Q I rx ry h
 ·exact (o_inA hu rfl).out pins s σ H x _ v u Q I rx ry h
theorem o_notinP (hu:X.A.units + 64 < cLine) (hK:X.K = K:=by rfl):Irr (OpR X (compareOp .NotIn) (gInP K true)):=by
 refine .mk ?_
 subst hK
 intro pins s σ H x y v u Q I rx ry h
 unfold gInP at h
 split at h
 ·rename_i p
  rcases h with ⟨xs,ps,t,h1,h2,h3,h4,q⟩ | h
  ·obtain rfl:u = Value.ref p:=ry
   obtain ⟨items,e,a1,a2,a3⟩:=inP_gen hu I rx h1 h2 h3 h4
   refine SeqAt.notIn_listAt e a1 a2 ?_
   rw [a3]
   exact ⟨.bl _,H,I,rfl,by simpa using q⟩
  ·exact (o_notinA hu rfl).out pins s σ H x (.ref p) v u Q I rx ry h
 ·exact (o_notinA hu rfl).out pins s σ H x _ v u Q I rx ry h
end
end L2
namespace L2
open PySem PySem.Spec PyProof.Rows
def pK (p:Str × Int):List Key:=[.inr p.1,.inl p.2]
theorem pK_inj {p q:Str × Int} (h:pK p = pK q):p = q:=by
 unfold pK at h
 injection h with h1 h2
 injection h2 with h2 _
 injection h1 with h1
 injection h2 with h2
 exact Prod.ext h1 h2
def PObj (P:Program) (w:World) (a:Addr) (ps:List ((Str × Int) × Addr)):HO :=
 .ext fun h=>∃ o es ep,h.get? a = some o∧o.ExactDict∧o.data = .dict es ep∧es.toList = (ps.map fun p=>(pK p.1,p.2,Value.bool true)).map (entryOfKey (tupleKind (mixKind P w)))
def PAt (P:Program) (w:World) (K:PySem.W.Frag) (H:Hp) (a:Addr) (ps:List ((Str × Int) × Addr)):Prop :=
 H a = some (PObj P w a ps)∧(ps.map (·.1)).Nodup∧(a == sysModules) = false∧ps.length ≤ 100000∧∀ p ∈ ps,SqT K H p.2 (pV p.1)
section
variable {X:Cx} {pins:List (Addr × Obj)} {σ:St} {H:Hp} {s:Shared} {a b:Addr} {ps:List ((Str × Int) × Addr)} {p:Str × Int}
theorem pkey_of (I:Inv X pins σ H s) (h:SqT X.K H b (pV p)):(tupleKind (mixKind X.prog X.w)).is s.heap (pK p) b:=by
 obtain ⟨its,r,⟨o,h1,h2,n,h3⟩,_⟩:=I.tuple h
 exact ⟨o,its.toArray,n,h1,h2,h3,by simpa using items_are (ks:=pK p) r⟩
theorem pdict_of (I:Inv X pins σ H s) (h:PAt X.prog X.w X.K H a ps):s.heap.DictOfH (tupleKind (mixKind X.prog X.w)) a (ps.map fun p=>(pK p.1,p.2,Value.bool true)):=by
 obtain ⟨h1,h2,h3,h4,h5⟩:=h
 obtain ⟨⟨o,es,ep,g1,g2,g3,g4⟩,_⟩:=(show ObjOk X.prog X.w H s.heap a (PObj X.prog X.w a ps) from I.hok a _ h1)
 refine ⟨o,es,ep,g1,g2,g3,g4,fun x hx=>?_,?_⟩
 ·obtain ⟨y,hy,rfl⟩:=List.mem_map.mp hx
  exact pkey_of I (h5 y hy)
 ·rw [List.map_map]
  have:(ps.map ((fun x:List Key × Addr × Value=>x.1) ∘ fun p=>(pK p.1,p.2,Value.bool true))) = (ps.map (·.1)).map pK:=by rw [List.map_map]; rfl
  rw [this]
  exact List.pairwise_map.mpr (h2.imp fun h e=>h (pK_inj e))
theorem pat_key (ps:List ((Str × Int) × Addr)) (p:Str × Int):(atKey (ps.map fun p=>(pK p.1,p.2,Value.bool true)) (pK p)).isSome = decide (p ∈ ps.map (·.1)):=by
 unfold atKey
 rw [Option.isSome_map,Bool.eq_iff_iff,decide_eq_true_eq,List.find?_isSome]
 constructor
 ·rintro ⟨x,hx,e⟩
  obtain ⟨y,hy,rfl⟩:=List.mem_map.mp hx
  have:=pK_inj (of_decide_eq_true e)
  exact List.mem_map.mpr ⟨y,hy,this⟩
 ·intro h
  obtain ⟨y,hy,e⟩:=List.mem_map.mp h
  exact ⟨_,List.mem_map.mpr ⟨y,hy,rfl⟩,decide_eq_true (by rw [e])⟩
theorem p_laid (h' : Heap) (o : Obj) (es : Array DictEntry) (ep : Nat) (g1 : h'.get? a = some o) (g2 : o.ExactDict) (g3 : o.data = .dict es ep) (H' : Hp)
  (g4:es.toList = (ps.map fun p=>(pK p.1,p.2,Value.bool true)).map (entryOfKey (tupleKind (mixKind X.prog X.w)))):ObjOk X.prog X.w H' h' a (PObj X.prog X.w a ps) :=
 ⟨⟨o,es,ep,g1,g2,g3,g4⟩,⟨o,g1⟩,fun h1 h2 ⟨o,es,ep,g1,g2⟩ k=>⟨o,es,ep,k o g1,g2⟩⟩
end
section
variable {X:Cx} {K:PySem.W.Frag} {P:Program} {w:World}
def tDNewP (P:Program) (w:World):TE:=fun _ H Q=>∀ p,H p = none→(p == sysModules) = false→Q (.ref p) (upd H p (PObj P w p []))
theorem j_dnewP {pos:Pos} (hP:X.prog = P:=by rfl) (hw:X.w = w:=by rfl):JE X (.Dict [] [] pos) (tDNewP P w):=by
 refine .mk ?_
 subst hP hw
 exact fun pins s σ H Q I h=>wpAny_Dict_empty ⟨.ref s.heap.objs.size,_,I.laid (a:=s.heap.objs.size) (o:=PObj X.prog X.w s.heap.objs.size []) (t':=s.toks) (fun _ _ q=>Heap.get?_push_of_some _ q) (Nat.le_refl _)
  (p_laid _ _ #[] 0 (Heap.get?_push_size _ rfl) ⟨rfl,rfl,rfl⟩ rfl _ rfl),rfl,h _ (I.hok.fresh (Nat.le_refl _)) (beq_eq_false_iff_ne.mpr (Ne.symm (Nat.ne_of_lt I.big)))⟩
def gInM (P:Program) (w:World) (K:PySem.W.Frag) (neg:Bool):R2:=fun x y H Q=>match x,y with
 | .ref b,.ref a=>(∃ ps p,PAt P w K H a ps∧SqT K H b (pV p)∧Q (.bl (neg ^^ decide (p ∈ ps.map (·.1)))) H)∨gInP K neg x y H Q
 | x,y=>gInP K neg x y H Q
theorem o_inM (hu:X.A.units + 64 < cLine) (hK:X.K = K:=by rfl) (hP:X.prog = P:=by rfl) (hw:X.w = w:=by rfl):Irr (OpR X (compareOp .In) (gInM P w K false)):=by
 refine .mk ?_
 subst hK hP hw
 intro pins s σ H x y v u Q I rx ry h
 unfold gInM at h
 split at h
 ·rename_i b a
  rcases h with ⟨ps,p,h1,h2,q⟩ | h
  ·obtain rfl:v = Value.ref b:=rx
   obtain rfl:u = Value.ref a:=ry
   refine wpAny_in_heap (tupleKind_room_in1 (by omega)) (pkey_of I h2) h1.2.2.1 (pdict_of I h1) ?_
   rw [pat_key]
   exact ⟨.bl _,H,I.tok _,rfl,by simpa using q⟩
  ·exact (o_inP hu rfl).out pins s σ H _ _ v u Q I rx ry h
 ·exact (o_inP hu rfl).out pins s σ H _ _ v u Q I rx ry h
theorem o_notinM (hu:X.A.units + 64 < cLine) (hK:X.K = K:=by rfl) (hP:X.prog = P:=by rfl) (hw:X.w = w:=by rfl):Irr (OpR X (compareOp .NotIn) (gInM P w K true)):=by
 refine .mk ?_
 subst hK hP hw
 intro pins s σ H x y v u Q I rx ry h
 unfold gInM at h
 split at h
 ·rename_i b a
  rcases h with ⟨ps,p,h1,h2,q⟩ | h
  ·obtain rfl:v = Value.ref b:=rx
   obtain rfl:u = Value.ref a:=ry
   refine wpAny_notIn_heap (tupleKind_room_in1 (by omega)) (pkey_of I h2) h1.2.2.1 (pdict_of I h1) ?_
   rw [pat_key]
   exact ⟨.bl _,H,I.tok _,rfl,by simpa using q⟩
  ·exact (o_notinP hu rfl).out pins s σ H _ _ v u Q I rx ry h
 ·exact (o_notinP hu rfl).out pins s σ H _ _ v u Q I rx ry h
def mPPut (P:Program) (w:World) (K:PySem.W.Frag) (td ty tv:TE):TS:=fun D σ H=>tv σ H fun v H1=>td σ H1 fun x H2=>ty σ H2 fun y H3=>match v,x,y with
 | .bl true,.ref a,.ref b=>∃ ps p,PAt P w K H3 a ps∧SqT K H3 b (pV p)∧p ∉ ps.map (·.1)∧D.nx σ (upd H3 a (PObj P w a (ps ++ [(p,b)])))
 | _,_,_=>False
theorem js_pput {o i value : Expr} {pos pos' : Pos} {td ty tv : TE} (hu : X.A.units + 64 < cLine) (ho : JE X o td) (hi : JE X i ty) (hv : JE X value tv) (hK : X.K = K := by rfl) (hP : X.prog = P := by rfl) (hw : X.w = w := by rfl) (hs : swapsWith value (some (.Subscript o i pos')) pos.line X.env = pure false := by rfl) :
  JS X (.Assign [.Subscript o i pos'] value pos) (mPPut P w K td ty tv):=by
 refine .mk ?_
 subst hK hP hw
 intro pins s σ H D I h
 refine wpAny_Assign_Subscript (thn (hv.out pins s σ H _ I h) fun r s1 ⟨v,H1,I1,rv,q1⟩=>thn (ho.out pins s1 σ H1 _ I1 q1) fun u s2 ⟨x,H2,I2,rx,q2⟩=>thn (hi.out pins s2 σ H2 _ I2 q2) fun iv s3 ⟨y,H3,I3,ry,q3⟩=>?_) hs
 dsimp only at q3
 split at q3
 ·obtain ⟨ps,p,h1,h2,h3,q⟩:=q3
  have rx':=rx
  have ry':=ry
  simp only [RelV] at rx' ry'
  subst rx' ry'
  have er:r = Value.bool true:=rv
  subst er
  have hl:=h1.2.2.2.1
  have hb:(100000:Nat) < sizeLine:=by rw [sizeLine_eq]; decide
  refine wpAny_setItem_heap (hsz:=by rw [List.length_map]; omega) (tupleKind_room_in1 (by omega)) (pkey_of I3 h2) (pdict_of I3 h1) fun h' dd' hs=>?_
  have hn:atKey (ps.map fun p=>(pK p.1,p.2,Value.bool true)) (pK p) = none:=by
   have:=pat_key ps p
   rw [decide_eq_false h3] at this
   cases e:atKey (ps.map fun p=>(pK p.1,p.2,Value.bool true)) (pK p) with
   | none=>rfl
   | some z=>rw [e] at this; cases this
  rw [storedH_new hn] at dd'
  obtain ⟨o,es,ep,g1,g2,g3,g4,_⟩:=dd'
  refine ⟨σ,_,d_write I3 (by rw [h1.1]; exact True.intro) hs ⟨o,g1⟩ (p_laid h' o es ep g1 g2 g3 _ ?_),q⟩
  rw [g4,List.map_append (l₁:=ps),List.map_append,List.map_append]
  rfl
 ·exact q3.elim
end
theorem PAt.put {P:Program} {w:World} {K:PySem.W.Frag} {H:Hp} {a b:Addr} {ps:List ((Str × Int) × Addr)} {p:Str × Int} (h:PAt P w K H a ps) (hb:SqT K H b (pV p)) (hn:p ∉ ps.map (·.1)) (hl:ps.length < 100000):PAt P w K (upd H a (PObj P w a (ps ++ [(p,b)]))) a (ps ++ [(p,b)]):=by
 obtain ⟨h1,h2,h3,h4,h5⟩:=h
 have keep:∀ c q,SqT K H c (pV q)→SqT K (upd H a (PObj P w a (ps ++ [(p,b)]))) c (pV q):=fun c q hq=>by
  have ne:∀ {u:HO},H c = some u→(∀ φ,u ≠ .ext φ)→c ≠ a:=fun {u} e n z=>by
   rw [z,h1] at e
   exact n _ (Option.some.inj e).symm
  rcases hq with (hq | ⟨o',hq⟩) | hq
  ·exact .inl (.inl (by rw [upd_ne (ne hq fun l z=>nomatch z)]; exact hq))
  ·exact .inl (.inr ⟨o',by rw [upd_ne (ne hq fun l z=>nomatch z)]; exact hq⟩)
  ·exact .inr hq
 refine ⟨upd_same,?_,h3,by rw [List.length_append,List.length_singleton]; omega,fun q hq=>?_⟩
 ·rw [List.map_append,List.nodup_append]
  refine ⟨h2,by simp,fun x hx y hy=>?_⟩
  simp only [List.map_cons,List.map_nil,List.mem_singleton] at hy
  subst hy
  exact fun e=>hn (e ▸ hx)
 ·rcases List.mem_append.mp hq with z | z
  ·exact keep _ _ (h5 q z)
  ·rw [List.mem_singleton.mp z]; exact keep _ _ hb
theorem PAt.same {P:Program} {w:World} {K:PySem.W.Frag} {H H':Hp} {a:Addr} {ps:List ((Str × Int) × Addr)} (h:PAt P w K H a ps) (s:Same H H'):PAt P w K H' a ps:=⟨s _ _ h.1,h.2.1,h.2.2.1,h.2.2.2.1,fun p hp=>s.seqT (h.2.2.2.2 p hp)⟩
end L2
namespace L2
open PySem PySem.Spec PyProof.Rows
theorem vals_of:∀ {xs:List V} {us:List Value},xs.length = us.length→(∀ (i:Nat) (x:V) (u:Value),xs[i]? = some x→us[i]? = some u→RelV x u)→Vals xs us
 | [],[],_,_=>.nil
 | x :: xs,u :: us,hl,h=>.cons (h 0 x u rfl rfl) (vals_of (Nat.succ.inj hl) fun i y v a b=>h (i + 1) y v a b)
 | [],_ :: _,hl,_=>nomatch hl
 | _ :: _,[],hl,_=>nomatch hl
theorem kv_get {κ:Type}:∀ {kvs:List (κ × V)} {vs:List (κ × Value)} {i:Nat} {p:κ × V},KV kvs vs→kvs[i]? = some p→∃ q,vs[i]? = some q∧p.1 = q.1
 | _,_,_,_,.nil,e=>by simp at e
 | _,_,0,_,.cons r _,e=>by simp at e; subst e; exact ⟨_,rfl,r.1⟩
 | _,_,i + 1,p,.cons _ t,e=>by
  obtain ⟨q,h1,h2⟩:=kv_get (i:=i) (p:=p) t (by simpa using e)
  exact ⟨q,by simpa using h1,h2⟩
section
variable {X:Cx} {K:PySem.W.Frag}
def gListD:List V→Hp→VK→Prop:=fun xs H Q=>match xs with
 | [.ref a]=>∃ kvs:List (Str × V),H a = some (.dK (kvs.map fun kv=>(.inr kv.1,kv.2)))∧kvs.length ≤ 100000∧∀ p,H p = none→Q (.ref p) (upd H p (.lst (kvs.map fun kv=>V.str kv.1)))
 | _=>False
theorem c_listD (hc:X.calm = true):Irr (CallR X (.type "list") gListD):=by
 refine .mk ?_
 intro pins s σ H xs us Q I r h
 unfold gListD at h
 split at h
 ·rename_i a
  obtain ⟨kvs,h1,hl,q⟩:=h
  obtain ⟨u,rfl,rx⟩:=vals1 r
  cases rx
  obtain ⟨z,hd,vs,rel,o,es,ep,dd⟩:=dk_of I.hok h1
  have hvl:vs.length = kvs.length:=by rw [← rel.length,List.length_map]
  have hb:(100000:Nat) < sizeLine:=by rw [sizeLine_eq]; decide
  refine PySem.W.kdl_call (PySem.W.kdl_dict (knd:=mixKind X.prog X.w) (kvs:=vs) (ep:=ep) hd) (I.ok.hd hc) ⟨o,es,dd⟩ (by omega) fun h' tk acc c' hk hS hacc=>?_
  refine ⟨.ref _,_,I.laid (t':=tk) hk (Nat.le_refl _) (show ObjOk X.prog X.w _ h' _ (.lst _) from ⟨by rw [List.length_map]; omega,acc.toList,c',?_,by simpa using hS⟩),rfl,q _ (I.hok.fresh (Nat.le_refl _))⟩
  refine vals_of (by rw [List.length_map,← hvl,Array.length_toList]; exact hacc.1.symm) fun i x u hx hu=>?_
  rw [List.getElem?_map] at hx
  cases ek:kvs[i]? with
  | none=>rw [ek] at hx; cases hx
  | some kv =>
   rw [ek] at hx
   have ex:x = V.str kv.1:=(Option.some.inj hx).symm
   subst ex
   obtain ⟨k,y,hv,hi⟩:=hacc.2 i u (by rw [← Array.getElem?_toList]; exact hu)
   obtain ⟨q,hq,eq⟩:=kv_get (i:=i) (p:=(.inr kv.1,kv.2)) rel (by rw [List.getElem?_map,ek]; rfl)
   rw [hv] at hq
   cases hq
   have eq:(Sum.inr kv.1:Key) = k:=eq
   subst eq
   have:=(mixKind X.prog X.w).strs (.inr kv.1) kv.1 0 u (mixKind_str X.prog X.w kv.1 0)
   rw [hi] at this
   cases u with
   | str z t =>
    have e2:z = kv.1:=by simpa [Value.isStr] using this.symm
    exact ⟨t,by rw [e2]⟩
   | _=>simp [Value.isStr] at this
 ·exact h.elim
end
end L2
namespace L2
open PySem PySem.Spec PyProof.Rows
theorem draws_tup {prog : Program} {w : World} {A : Around} (hh : A.handled = none) (it l : Addr) (hne : l ≠ it) (items : Array Value) :
  Draws prog w A it [it,l] items.size (fun i v=>items[i]? = some v) (fun i h=>h.IsTupleIter it l i∧h.IsTuple l items) where
 live:=fun _ _ st=>let ⟨o,ho,_⟩:=st.1; ⟨o,ho⟩
 frame:=fun _ _ _ st hk=>⟨let ⟨o,ho,r⟩:=st.1; ⟨o,hk it (by simp) o ho,r⟩,let ⟨o,ho,r⟩:=st.2; ⟨o,hk l (by simp) o ho,r⟩⟩
 item:=fun i s Q E hi st hQ=>by
  refine nextOf_tup_item st.1 st.2 (x:=items[i]) (by simp [hi]) fun h' hit' hs'=>?_
  exact hQ _ h' s.toks (by simp [hi]) ⟨hit',let ⟨o,ho,r⟩:=st.2; ⟨o,hs'.extBut _ _ hne ho,r⟩⟩ hs'
 done:=fun s Q E st hE=>nextOf_tup_end hh st.1 st.2 (by simp) hE
theorem meets_enum_tup (l : Addr) (items : Array Value) (n : Nat) (dct : Option Addr) (sl : Array (Option Value)) :
  Meets (Builtin.«enumerate.__new__» ⟨[.type "enumerate",.ref l],[]⟩) (fun _ R s=>s.heap.get? l = some { cls:=.type "tuple",dict:=dct,data:=.seq items n,slots:=sl } ∧
   R (.ok (.ret (.ref (s.heap.push { cls:=.type "tuple_iterator",data:=.fields #[.ref l,.int 0 0] }).objs.size)))
    { s with heap:=(s.heap.push { cls:=.type "tuple_iterator",data:=.fields #[.ref l,.int 0 0] }).push { cls:=.type "enumerate",data:=.fields #[.none,.bool false,.ref s.heap.objs.size,rawInt 0,.none,.none] } }) :=
 .of_wp fun prog w A R s h=>by
  obtain ⟨hp,g,d,tk,os⟩:=s; obtain ⟨hl,h⟩:=h
  have hsub:=sub_enumerate
  have hL:Heap.IsTuple (Shared.heap ⟨hp,g,d,tk,os⟩) l items:=⟨_,hl,rfl,n,rfl⟩
  wp_walk using AutoSeq1.wpAny_loadPart' hl
  refine wpAny_stack_any fun st=>wpAny_pure ?_
  split
  ·rename_i c _ _ _ _ _
   cases (c == Value.type "enumerate")
   ·wp_walk using AutoSeq1.wpAny_loadPart' hl,wpAny_pyIter_tuple hL
    exact ⟨_,rfl,h⟩
   ·wp_walk using AutoSeq1.wpAny_loadPart' hl,wpAny_pyIter_tuple hL
    exact ⟨_,rfl,h⟩
  ·wp_walk using AutoSeq1.wpAny_loadPart' hl,wpAny_pyIter_tuple hL
   exact ⟨_,rfl,h⟩
theorem call_enumerate_tup {prog : Program} {w : World} {A : Around} {E : Value → Shared → Prop} {s : Shared} {l : Addr} {items : Array Value} {Q : Value → Shared → Prop} (hL : s.heap.IsTuple l items)
  (h:∀ h',IsEnum h' (s.heap.objs.size + 1) s.heap.objs.size 0 .none→h'.IsTupleIter s.heap.objs.size l 0→h'.objs.size = s.heap.objs.size + 2 →
   (∀ b o,s.heap.get? b = some o→h'.get? b = some o)→Q (.ref (s.heap.objs.size + 1)) { s with heap:=h' }) :
  wpAny (model prog w) A (call (.type "enumerate") [.ref l]) Q E s:=by
 obtain ⟨⟨c,dct,dt,sl⟩,hl,hc,n,hd⟩:=hL
 replace hc:c = .type "tuple":=hc
 replace hd:dt = .seq items n:=hd
 subst hc hd
 refine callType_new F.called_enumerate (by decide) (F.typeCall_enumerate_1 _) (F.newCall_enumerate_1 _) (fun obj=>F.args_object_init_2 obj _) F.entry_enumerate_new
  (meets_enum_tup l items n dct sl) ⟨hl,?_⟩
 have hz:(s.heap.push { cls:=.type "tuple_iterator",data:=.fields #[.ref l,.int 0 0] }).objs.size = s.heap.objs.size + 1:=Heap.size_push ..
 show _∧_
 rw [hz]
 have he : IsEnum ((s.heap.push { cls := .type "tuple_iterator", data := .fields #[.ref l, .int 0 0] }).push
   { cls:=.type "enumerate",data:=.fields #[.none,.bool false,.ref s.heap.objs.size,rawInt 0,.none,.none] }) (s.heap.objs.size + 1) s.heap.objs.size 0 .none:=by
  have:=Heap.get?_push_size (s.heap.push { cls:=.type "tuple_iterator",data:=.fields #[.ref l,.int 0 0] })
   (o:={ cls:=.type "enumerate",data:=.fields #[.none,.bool false,.ref s.heap.objs.size,rawInt 0,.none,.none] }) rfl
  rw [hz] at this
  exact this
 exact ⟨⟨_,he,rfl⟩,h _ he ⟨_,Heap.get?_push_of_some _ (Heap.get?_push_size _ rfl),rfl,rfl⟩ (by rw [Heap.size_push,hz]) fun b o e=>Heap.get?_push_of_some _ (Heap.get?_push_of_some _ e)⟩
def Iet (K:PySem.W.Frag) (a:Addr):It :=
 ⟨fun i H=>∃ xs x,SqT K H a xs∧xs[i]? = some x,
  fun i H v H'=>∃ T x,(∀ xs,SqT K H a xs→xs[i]? = some x)∧H T = none∧v = .ref T∧H' = upd H T (.tup [.int (i:Nat),x]),
  fun i H=>∃ xs,SqT K H a xs∧xs.length = i⟩
theorem turn_enumT {P : Program} {w : World} {K : PySem.W.Frag} {elts : List Expr} {x1} {pos : Pos} {a e it : Addr} (hne : e ≠ it) :
  Turn P w K (.Tuple elts x1 pos) (Iet K a) [e,it] e (fun i h=>(∃ old,IsEnum h e it (i:Nat) old)∧h.IsTupleIter it a i) where
 mem:=by simp
 obj:=by
  rintro i h ⟨⟨old,he⟩,hi⟩ c hc
  simp only [List.mem_cons,List.not_mem_nil,or_false] at hc
  rcases hc with rfl | rfl
  ·exact ⟨_,he,fun v z=>by cases z⟩
  ·obtain ⟨o,ho,_,d⟩:=hi
   exact ⟨o,ho,fun v z=>by rw [d] at z; cases z⟩
 keep:=by
  rintro i h h' ⟨⟨old,he⟩,hi⟩ k
  refine ⟨⟨old,k e (by simp) _ he⟩,?_⟩
  obtain ⟨o,ho,r⟩:=hi
  exact ⟨o,k it (by simp) _ ho,r⟩
 item:=by
  rintro X hP hw hK hc i pins s σ H E I hf ⟨⟨old,he⟩,hi⟩ ⟨xs,x,q1,hx⟩
  subst hP hw hK
  obtain ⟨its,rv,p1,_⟩:=I.tuple q1
  obtain ⟨ux,hux,rx⟩:=rv.get hx
  have hal:a < s.heap.objs.size:=by obtain ⟨o,e0,_⟩:=(show s.heap.IsTuple a its.toArray from p1); exact Heap.lt_size e0
  have hai:a ≠ it:=fun z=>by
   obtain ⟨o,e0,c0,_⟩:=(show s.heap.IsTuple a its.toArray from p1)
   obtain ⟨o2,e2,c2,_⟩:=hi
   rw [z,e2] at e0
   cases e0
   rw [c0] at c2
   exact absurd c2 (by decide)
  have hae:e ∉ [it,a]:=fun z=>by
   rcases List.mem_cons.mp z with z | z
   ·exact hne z
   ·rw [List.mem_singleton.mp z] at he
    obtain ⟨o,e0,c0,_⟩:=(show s.heap.IsTuple a its.toArray from p1)
    rw [he] at e0
    cases e0
    exact absurd (show Value.type "enumerate" = Value.type "tuple" from c0) (by decide)
  refine wpAny_pyNext_enum_itemD (draws_tup (A:=X.A.in1) (I.ok.hd hc) it a hai its.toArray) he ⟨hi,p1⟩ (by have:=rv.length; have:=(List.getElem?_eq_some_iff.mp hx).1; simp; omega) hne hae fun ux2 h' tk hP a1 a2 a3 a4 a5=>?_
  have eux:ux = ux2:=by
   have h9:its.toArray[i]? = some ux:=by simpa using hux
   rw [h9] at hP
   exact Option.some.inj hP
  subst eux
  have hT:H s.heap.objs.size = none:=I.hok.fresh (Nat.le_refl _)
  have I1:Inv X pins σ (upd H s.heap.objs.size (.tup [.int (i:Nat),x])) { s with heap:=s.heap.push { cls:=.type "tuple",data:=.seq [.int (i:Nat) tk,ux].toArray },toks:=tk + 1 } :=
   I.laid (t':=tk + 1) (fun b o q=>Heap.get?_push_of_some _ q) (Nat.le_refl _) (show ObjOk X.prog X.w _ _ _ (.tup [.int (i:Nat),x]) from ⟨by show 2 ≤ sizeLine; decide,[.int (i:Nat) tk,ux],.cons ⟨_,rfl⟩ (.cons rx .nil),IsTup.new _ _⟩)
  have hlt:∀ c ∈ [e,it],c < s.heap.objs.size:=by
   intro c hc
   simp only [List.mem_cons,List.not_mem_nil,or_false] at hc
   rcases hc with rfl | rfl
   ·exact Heap.lt_size he
   ·obtain ⟨o,ho,_⟩:=hi; exact Heap.lt_size ho
  have hf':∀ c ∈ [e,it],FpOk X pins (upd H s.heap.objs.size (.tup [.int (i:Nat),x])) c:=fun c hc=>by
   obtain ⟨f0,fr⟩:=hf c hc
   exact ⟨by rw [upd_ne (Nat.ne_of_lt (hlt c hc))]; exact f0,fr⟩
  have kept:∀ c o,c ∉ [e,it]→(s.heap.push { cls:=.type "tuple",data:=.seq [.int (i:Nat) tk,ux].toArray }).get? c = some o→h'.get? c = some o:=by
   intro c o hc q
   have hc':c ≠ e∧c ≠ it:=by simpa using hc
   by_cases hn:c = s.heap.objs.size
   ·subst hn
    have e0:(s.heap.push { cls:=.type "tuple",data:=.seq [.int (i:Nat) tk,ux].toArray }).get? s.heap.objs.size = some { cls:=.type "tuple",data:=.seq [.int (i:Nat) tk,ux].toArray }:=Heap.get?_push_size _ rfl
    rw [e0] at q
    cases q
    exact a3
   ·rw [Heap.get?_push_ne _ _ _ hn] at q
    exact a5 c o hc'.1 hc'.2 q
  have I2:Inv X pins σ (upd H s.heap.objs.size (.tup [.int (i:Nat),x])) { s with heap:=h',toks:=tk + 1 }:=I1.turnedL (t':=tk + 1) kept hf'
  refine ⟨_,rfl,?_⟩
  refine wpAny_letOwnedTupleGo_enum a1 fun h2' he2 hs2=>?_
  have I3:Inv X pins σ (upd H s.heap.objs.size (.tup [.int (i:Nat),x])) { s with heap:=h2',toks:=tk + 1 }:=Inv.turnedL (s:={ s with heap:=h',toks:=tk + 1 }) (h':=h2') (t':=tk + 1) (fp:=[e,it]) I2 (fun c o hc q=>hs2.extBut _ _ (fun z=>hc (by simp [z])) q) hf'
  refine ⟨.ref s.heap.objs.size,_,I3,rfl,⟨_,x,fun zs hq=>by rw [I.tuple_inj hq q1]; exact hx,hT,rfl,rfl⟩,⟨⟨_,he2⟩,?_⟩,fun c hc=>(hf' c hc).1⟩
  obtain ⟨o,ho,r⟩:=a2.1
  exact ⟨o,hs2.extBut _ _ hne.symm ho,r⟩
 done:=by
  rintro X hP hw hK hc i pins s σ H E I hf ⟨⟨old,he⟩,hi⟩ ⟨xs,q1,hend⟩
  subst hP hw hK
  obtain ⟨its,rv,p1,_⟩:=I.tuple q1
  have l1:=rv.length
  have hai:a ≠ it:=fun z=>by
   obtain ⟨o,e0,c0,_⟩:=(show s.heap.IsTuple a its.toArray from p1)
   obtain ⟨o2,e2,c2,_⟩:=hi
   rw [z,e2] at e0
   cases e0
   rw [c0] at c2
   exact absurd c2 (by decide)
  refine wpAny_pyNext_enum_endD (draws_tup (A:=X.A.in1) (I.ok.hd hc) it a hai its.toArray) he (by rw [List.size_toArray,← l1,hend]; exact ⟨hi,p1⟩) fun h' hk=>⟨rfl,I.turnedL (t':=s.toks) (fp:=[e,it]) (fun c o hc q=>?_) hf⟩
  have hc':c ≠ e∧c ≠ it:=by simpa using hc
  exact hk c o hc'.2 q
 self:=fun _ _ _ _ _ st h=>by
  obtain ⟨⟨old,he⟩,_⟩:=st
  exact wpAny_pyIter_enum he h
section
variable {X:Cx} {K:PySem.W.Frag}
def iEnumT (K:PySem.W.Frag) (ta:TA):TI:=fun σ H R=>ta σ H fun vs H1=>match vs with
 | [.ref a]=>(∃ xs,SqT K H1 a xs)∧R (Iet K a) H1
 | _=>False
theorem pi_enumT {a : Expr} {ta : TA} {p pos : Pos} {elts : List Expr} {x1} {pos' : Pos} (hg : Gl X "enumerate") (hm : X.mg "enumerate" = none) (ha : PA X [a] ta) (hK : X.K = K := by rfl) (hs : starEach [a] X.env = [(false, eval a X.env)] := by rfl) :
  PI X (.Tuple elts x1 pos') (.Call (.Name "enumerate" p) [a] [] pos) (iEnumT K ta):=by
 subst hK
 intro pins s σ H R I h
 refine Call_ (ld_blt I hg hm boot_enumerate (PyProof.Rows.callWith_type1 (thn (ha pos pins s σ H _ I h) fun us s1 ⟨vs,H1,I1,r1,q1⟩=>?_) (by rw [hs]; rfl) rfl))
 dsimp only at q1
 split at q1
 ·obtain ⟨u,rfl,r⟩:=vals1 r1
  cases r
  obtain ⟨⟨xs,hx⟩,q⟩:=q1
  obtain ⟨its,rv,p1,_⟩:=I1.tuple hx
  refine call_enumerate_tup (show s1.heap.IsTuple _ its.toArray from p1) fun h' he hi hz hk=>?_
  refine wpAny_pyIter_enum he ?_
  refine ⟨_,[s1.heap.objs.size + 1,s1.heap.objs.size],_,_,H1,rfl,I1.kept (t':=s1.toks) hk,turn_enumT (Nat.succ_ne_self _),⟨⟨_,he⟩,hi⟩,fun c hc=>?_,q⟩
  have hge:s1.heap.objs.size ≤ c:=by
   simp only [List.mem_cons,List.not_mem_nil,or_false] at hc
   rcases hc with rfl | rfl
   ·exact Nat.le_succ _
   ·exact Nat.le_refl _
  exact I1.fpOk hge (I1.hok.fresh hge)
 ·exact q1.elim
theorem ji_enumT {a : Expr} {ta : TA} {p pos : Pos} {elts : List Expr} {x1} {pos' : Pos} (hg : Gl X "enumerate") (hm : X.mg "enumerate" = none) (ha : JA X [a] ta) (hK : X.K = K := by rfl) (h1 : noStar a = true := by rfl) :
  JI X (.Tuple elts x1 pos') (.Call (.Name "enumerate" p) [a] [] pos) (iEnumT K ta):=.mk (pi_enumT hg hm ha.out hK (by rw [starEach_cons h1]; rfl))
end
theorem for_enumT {K : PySem.W.Frag} {a : Addr} {xs : List V} {g : TG} {tb : TS} {D : Ends} {σ : St} {H : Hp} (Pv : Nat → St → Hp → Prop) (h0 : Pv 0 σ H)
  (hl:∀ i σ H,i ≤ xs.length→Pv i σ H→SqT K H a xs)
  (hs:∀ i x σ H,xs[i]? = some x→Pv i σ H→∀ T,H T = none→g (.ref T) σ (upd H T (.tup [.int (i:Nat),x])) fun σ2 H2=>tb { D with nx:=Pv (i + 1),ct:=Pv (i + 1),bk:=D.nx } σ2 H2) (hd:∀ σ H,Pv xs.length σ H→D.nx σ H) :
  ∃ W:Nat→Nat→St→Hp→Prop,(∃ m,W 0 m σ H)∧∀ i m σ H,W i m σ H →
   ((Iet K a).stop i H∧D.nx σ H)∨((Iet K a).go i H∧∃ N:St→Hp→Prop,(∀ σ' H',N σ' H'→∃ m',m' < m∧W (i + 1) m' σ' H')∧∀ x H',(Iet K a).yld i H x H'→g x σ H' fun σ2 H2=>tb { D with nx:=N,ct:=N,bk:=D.nx } σ2 H2):=by
 refine ⟨fun i m σ H=>m = xs.length - i∧i ≤ xs.length∧Pv i σ H,⟨xs.length,by simp,Nat.zero_le _,h0⟩,?_⟩
 rintro i m σ H ⟨rfl,hi,p⟩
 have q1:=hl i σ H hi p
 by_cases hlt:i < xs.length
 ·refine .inr ⟨⟨xs,xs[i],q1,by simp [hlt]⟩,Pv (i + 1),fun σ' H' p'=>⟨xs.length - (i + 1),by omega,rfl,hlt,p'⟩,fun v H' y=>?_⟩
  obtain ⟨T,x,e1,hT,rfl,rfl⟩:=y
  exact hs i x σ H (e1 xs q1) p T hT
 ·have e:i = xs.length:=by omega
  subst e
  exact .inl ⟨⟨xs,q1,rfl⟩,hd σ H p⟩
end L2
namespace L2
open PySem PySem.Spec PyProof.Rows
section
variable {X:Cx} {E:XK} {N:List Str} {cap:List (Option Nat)} {scope:Scope} {elt target iter:Expr} {ifs:List Expr} {pos pos' spos:Pos} {wi:TI} {g:TG} {tc:TT} {te:TE} {i:Nat} {x:Str}
theorem ps_compX (hX : Exits X E) (hst : X.stack = X.env :: X.outer) (hfr : X.env.frame = some X.env.locals) (hc : X.calm = true) (S : CompScope X N cap scope) (hi : PI X target iter wi)
  (hg:∀ C s₀ H₀ ex,PG (cxCompX X N scope C s₀ H₀ ex E) target g) (ht:∀ C s₀ H₀ ex,PTs (cxCompX X N scope C s₀ H₀ ex E) ifs tc) (he:∀ C s₀ H₀ ex,PE (cxCompX X N scope C s₀ H₀ ex E) elt te)
  (hN:X.N.Nodup) (hix:X.N[i]? = some x) (hx:X.env.scope.names.lookup x = some .local) (hsw:swapsWith (.ListComp elt [⟨target,iter,ifs,0⟩] scope pos) (some (.Name x pos')) spos.line X.env = pure true:=by rfl)
  (hs:∀ x,foldedSetIterable iter X.env x = pure x:=by intro _; rfl) :
  PS X (.Assign [.Name x pos'] (.ListComp elt [⟨target,iter,ifs,0⟩] scope pos) spos) (fun D σ H=>tComp cap wi g tc te (fun d H'=>D.nx (σ.set i (some (.ref d))) H') σ H):=by
 intro pins s σ H D I h
 have hclos:closureFor scope X.env = pure (closOf X.env scope.names []):=closureFor_of fun y hy hf=>I.ok.has y.1 (S.fre y hy hf)
 rw [exec_Assign_Name_used _ _ _ _ hsw]
 refine wpAny_bind (wpAny_standAt (wpAny_bind ?_))
 show wpAny _ X.A (do let _ ← comprehension (.ListComp elt [⟨target,iter,ifs,0⟩] scope pos) scope X.env _ (newList []) false (eval iter X.env) (some (assign (.Name x pos') X.env))) _ _ s
 refine wpAny_bind (wpAny_mono (wpAny_comprehension_free (use:=some (assign (.Name x pos') X.env)) (Q:=fun _ s'=>SP X pins D .next s') rfl hs hclos S.kind S.loc
  (thn (hi pins s σ H _ I h) fun xv s1 h1=>thn h1 fun itv s2 h2=>?_)) (fun _ s' hq=>wpAny_pure (wpAny_pure hq)) fun _ _ e=>e)
 obtain ⟨it,fp,tn,J,H2,e,I2,T,st2,f2,q2⟩:=h2
 subst e
 refine comp_blockX (EX:=E) (RR:=fun acc C=>compPost (model X.prog X.w) X.A X.xe (some (assign (.Name x pos') X.env)) (fun _ s'=>SP X pins D .next s') acc C) hc S I2 T st2 f2 (fun C s₀ H₀=>hg C s₀ H₀ fp) (fun C s₀ H₀=>ht C s₀ H₀ fp) (fun C s₀ H₀=>he C s₀ H₀ fp) q2
  (fun D C hC _ e s' hf=>comp_exit hX I2 hst hfr (fun b hb=>(f2 b hb).2.2.2.1) hC e s' hf) ?_
 intro d C s' H' I' q ⟨m,hn⟩ hf hsz hL hcell hpin
 show wpAny _ X.A (assign (.Name x pos') X.env (.ref d)) _ _ s'
 refine wpAny_assign_Name (store_ok2 I' hN hix (.inl hx) (show RelV (.ref d) (.ref d) from rfl) (fun s'' I'' ⟨a,hsb,ha⟩=>?_) (.inr hx))
 have hCa:C ≠ a:=by
  rcases ha with z | z
  ·rw [z]; exact hL
  ·exact fun w=>hcell x a z w.symm
 refine ⟨m,hn.sameBut hsb hCa,fun h' hsb'=>⟨_,H',?_,q⟩⟩
 exact I''.turned (t':=s''.toks) (fun b o hb e=>hsb'.extBut b o hb e) hf hL (.inr hsz) hcell hpin
theorem js_compX (hX : Exits X E) (hst : X.stack = X.env :: X.outer) (hfr : X.env.frame = some X.env.locals) (hc : X.calm = true) (S : CompScope X N cap scope) (hi : JI X target iter wi)
  (hg:∀ C s₀ H₀ ex,JG (cxCompX X N scope C s₀ H₀ ex E) target g) (ht:∀ C s₀ H₀ ex,JTs (cxCompX X N scope C s₀ H₀ ex E) ifs tc) (he:∀ C s₀ H₀ ex,JE (cxCompX X N scope C s₀ H₀ ex E) elt te)
  (hN:X.N.Nodup) (hix:X.N[i]? = some x) (hx:X.env.scope.names.lookup x = some .local) (hsw:swapsWith (.ListComp elt [⟨target,iter,ifs,0⟩] scope pos) (some (.Name x pos')) spos.line X.env = pure true:=by rfl)
  (hs:∀ x,foldedSetIterable iter X.env x = pure x:=by intro _; rfl) :
  JS X (.Assign [.Name x pos'] (.ListComp elt [⟨target,iter,ifs,0⟩] scope pos) spos) (fun D σ H=>tComp cap wi g tc te (fun d H'=>D.nx (σ.set i (some (.ref d))) H') σ H) :=
 .mk (ps_compX hX hst hfr hc S hi.out (fun C s₀ H₀ ex=>(hg C s₀ H₀ ex).out) (fun C s₀ H₀ ex=>(ht C s₀ H₀ ex).out) (fun C s₀ H₀ ex=>(he C s₀ H₀ ex).out) hN hix hx hsw hs)
end
end L2
namespace L2
open PySem PySem.Spec PyProof.Rows
abbrev GK:=Key ⊕ List Key
def vkIs (P:Program) (w:World) (h:Heap):GK→Value→Prop
 | .inl k,v=>keyIs k v = true
 | .inr ks,v=>∃ a,v = .ref a∧IsTupleKey (mixKind P w) h ks a
def gHash (P:Program) (w:World):GK→Int
 | .inl k=>(mixKind P w).hash k
 | .inr ks=>tupleKeyHash (mixKind P w) ks
def gDraws:GK→Nat
 | .inl _=>1
 | .inr ks=>ks.length + 1
section
variable {P:Program} {w:World} {h h':Heap} {x y:GK} {u v:Value} {A:Around} {E:Value→Shared→Prop} {s:Shared}
theorem keyIs_ref {k:Key} {a:Addr} (hk:keyIs k (.ref a) = true):False:=by
 rcases keyIs_shape hk with ⟨_,_,_,e⟩ | ⟨_,_,_,e⟩ <;> exact nomatch e
theorem vk_inj (hx:vkIs P w h x v) (hy:vkIs P w h y v):x = y:=by
 cases x with
 | inl k =>
  cases y with
  | inl l=>exact congrArg Sum.inl ((mixKind P w).inj v k l hx hy)
  | inr l=>obtain ⟨a,rfl,_⟩:=hy; exact (keyIs_ref hx).elim
 | inr k =>
  obtain ⟨a,rfl,ha⟩:=hx
  cases y with
  | inl l=>exact (keyIs_ref hy).elim
  | inr l =>
   obtain ⟨b,e,hb⟩:=hy
   cases e
   exact congrArg Sum.inr (ha.inj hb)
theorem vk_keeps {d:Addr} {o:Obj} {es ep} (hx:vkIs P w h x v) (ho:h.get? d = some o) (hd:o.data = .dict es ep) (hs:Heap.SameBut d h h'):vkIs P w h' x v:=by
 cases x with
 | inl k=>exact hx
 | inr k=>obtain ⟨a,rfl,ha⟩:=hx; exact ⟨a,rfl,ha.keeps ho hd hs⟩
theorem vk_pyHash {Q:Int→Shared→Prop} (hu:A.units < cLine) (hx:vkIs P w s.heap x v) (q:Q (gHash P w x) { s with toks:=s.toks + gDraws x }):wpAny (model P w) A (pyHash v) Q E s:=by
 cases x with
 | inl k=>exact (mixKind P w).pyHash hx q
 | inr k=>obtain ⟨a,rfl,ha⟩:=hx; exact wpAny_pyHash_tuple hu ha q
theorem tk_tuple {ks:List Key} {a:Addr} (h':IsTupleKey (mixKind P w) h ks a):∃ items,h.IsTuple a items:=by
 obtain ⟨o,items,n,h1,h2,h3,_⟩:=h'
 exact ⟨items,o,h1,h2,n,h3⟩
theorem vk_eqBool {Q:Bool→Shared→Prop} (hu:A.units < cLine) (hx:vkIs P w s.heap x u) (hy:vkIs P w s.heap y v) (q:Q (decide (x = y)) s):wpAny (model P w) A (eqBool u v) Q E s:=by
 cases x with
 | inl k =>
  cases y with
  | inl l =>
   refine (mixKind P w).eqBool hx hy ?_
   rwa [show decide ((Sum.inl k:GK) = Sum.inl l) = decide (k = l) from decide_eq_decide.mpr ⟨Sum.inl.inj,congrArg _⟩] at q
  | inr l =>
   rw [show decide ((Sum.inl k:GK) = Sum.inr l) = false from decide_eq_false (fun z=>nomatch z)] at q
   obtain ⟨a,rfl,ha⟩:=hy
   obtain ⟨its,ht⟩:=tk_tuple ha
   rcases keyIs_shape hx with ⟨i,t,rfl,rfl⟩ | ⟨i,t,rfl,rfl⟩
   ·exact SeqAt.EqAt.int_tuple i t ht hu _ _ _ _ q
   ·exact SeqAt.EqAt.str_tuple i t ht hu _ _ _ _ q
 | inr k =>
  obtain ⟨a,rfl,ha⟩:=hx
  cases y with
  | inl l =>
   rw [show decide ((Sum.inr k:GK) = Sum.inl l) = false from decide_eq_false (fun z=>nomatch z)] at q
   obtain ⟨its,ht⟩:=tk_tuple ha
   rcases keyIs_shape hy with ⟨i,t,rfl,rfl⟩ | ⟨i,t,rfl,rfl⟩
   ·exact SeqAt.EqAt.tuple_int i t ht hu _ _ _ _ q
   ·exact SeqAt.EqAt.tuple_str i t ht hu _ _ _ _ q
  | inr l =>
   obtain ⟨b,rfl,hb⟩:=hy
   refine wpAny_eqBool_tuple hu ha hb ?_
   rwa [show decide ((Sum.inr k:GK) = Sum.inr l) = decide (k = l) from decide_eq_decide.mpr ⟨Sum.inr.inj,congrArg _⟩] at q
theorem vk_quiet {Q:Bool→Shared→Prop} (hx:vkIs P w s.heap x v) (q:Q true s):wpAny (model P w) A (eqIsQuiet 8 v) Q E s:=by
 cases x with
 | inl k=>rw [eqIsQuiet_byValue 8 ((mixKind P w).byValue k v hx)]; exact wpAny_pure q
 | inr k=>obtain ⟨a,rfl,ha⟩:=hx; exact wpAny_eqIsQuiet_tuple ha q
theorem g_tells {stored:List Value} {Q:Bool→Shared→Prop} (hkey:vkIs P w s.heap x v) (hst:∀ u ∈ stored,∃ y,vkIs P w s.heap y u) (q:Q false s):wpAny (model P w) A (tableMayTell v stored) Q E s:=by
 unfold tableMayTell
 split
 ·exact wpAny_pure q
 ·refine wpAny_bind (vk_quiet hkey ?_)
  simp only [Bool.not_true,Bool.false_eq_true,if_false]
  refine wpAny_bind ?_
  refine wpAny_forIn_list _ (fun rest r s'=>s' = s∧r = (none,())∧∀ v ∈ rest,∃ y,vkIs P w s.heap y v) _ ?_ ?_ _ _ ⟨rfl,rfl,hst⟩
  ·rintro x rest r s' ⟨rfl,rfl,hr⟩
   obtain ⟨y,hb⟩:=hr x List.mem_cons_self
   refine wpAny_bind (vk_quiet hb ?_)
   simp only [Bool.not_true,Bool.false_eq_true,if_false]
   exact wpAny_pure ⟨rfl,rfl,fun v hv=>hr v (List.mem_cons_of_mem _ hv)⟩
  ·rintro r s' ⟨rfl,rfl,_⟩
   exact wpAny_pure q
end
abbrev GP:=List (GK × Value × Value)
def gEnt (P:Program) (w:World) (x:GK × Value × Value):DictEntry:=⟨gHash P w x.1,x.2.1,x.2.2⟩
def GDict (P:Program) (w:World) (h:Heap) (d:Addr) (xs:GP) (ep:Nat):Prop :=
 ∃ o es,h.get? d = some o∧o.ExactDict∧o.data = .dict es ep∧es.toList = xs.map (gEnt P w)∧(∀ x ∈ xs,vkIs P w h x.1 x.2.1)∧(xs.map (·.1)).Nodup
def gAt (xs:GP) (k:GK):Option Value:=(xs.find? fun x=>decide (x.1 = k)).map (·.2.2)
section
variable {P:Program} {w:World} {A:Around} {E:Value→Shared→Prop} {s:Shared} {d:Addr} {xs:GP} {ep:Nat} {k:GK} {key v:Value}
theorem GDict.typeIs (hm:GDict P w s.heap d xs ep):s.TypeIs (.ref d) "dict":=let ⟨o,_,ho,hc,_⟩:=hm; ⟨o,ho,hc.1⟩
theorem g_idx (hn:(xs.map (·.1)).Nodup) {i j:Nat} {p q:Value × Value} (hi:xs[i]? = some (k,p)) (hj:xs[j]? = some (k,q)):i = j:=by
 have hi':(xs.map (·.1))[i]? = some k:=by rw [List.getElem?_map,hi]; rfl
 have hj':(xs.map (·.1))[j]? = some k:=by rw [List.getElem?_map,hj]; rfl
 exact (List.getElem?_inj (List.getElem?_eq_some_iff.mp hi').1 hn).mp (hi'.trans hj'.symm)
theorem g_find {o : Obj} {es} {Q : Option Nat → Shared → Prop} (hu : A.units < cLine) (hkey : vkIs P w s.heap k key) (ho : s.heap.get? d = some o) (hd : o.data = .dict es ep) (he : es.toList = xs.map (gEnt P w))
  (his:∀ x ∈ xs,vkIs P w s.heap x.1 x.2.1) (hn:(xs.map (·.1)).Nodup) (hnone:(∀ (j:Nat) p,xs[j]? ≠ some (k,p))→Q none s) (hsome:∀ (j:Nat) p,xs[j]? = some (k,p)→Q (some j) s) :
  wpAny (model P w) A (dictFind d key (gHash P w k)) Q E s:=by
 have hsz:es.size = xs.length:=by rw [← Array.length_toList,he,List.length_map]
 have eat:∀ j:Nat,es[j]? = (xs[j]?).map (gEnt P w):=fun j=>by rw [← Array.getElem?_toList,he,List.getElem?_map]
 have haskey:∀ (j:Nat) p,xs[j]? = some (k,p)→((es[j]?.map (·.hash)) == some (gHash P w k)) = true:=by
  intro j p hj
  rw [eat j,hj]
  simp [gEnt]
 have hmem:∀ e ∈ es,∃ x ∈ xs,e = gEnt P w x:=by
  intro e hin
  have:e ∈ xs.map (gEnt P w):=he ▸ Array.mem_toList_iff.mpr hin
  obtain ⟨x,hx,rfl⟩:=List.mem_map.mp this
  exact ⟨x,hx,rfl⟩
 have hany:¬ (es.any fun e=>e.key == key && e.hash != gHash P w k) = true:=by
  rw [← Array.any_toList,List.any_eq_true]
  rintro ⟨e,hin,hc⟩
  obtain ⟨x,hx,rfl⟩:=hmem e (Array.mem_toList_iff.mp hin)
  simp only [gEnt,Bool.and_eq_true,beq_iff_eq,bne_iff_ne,ne_eq] at hc
  obtain ⟨hxa,hne⟩:=hc
  have:=his x hx
  rw [hxa] at this
  exact hne (by rw [vk_inj this hkey])
 have hst:∀ v ∈ (placesWithHash es.size (fun i=>es[i]?.map (·.hash)) (gHash P w k)).filterMap (fun i=>es[i]?.map (·.key)),∃ y,vkIs P w s.heap y v:=by
  intro v hv
  obtain ⟨i,_,hi⟩:=List.mem_filterMap.mp hv
  cases hei:es[i]? with
  | none=>rw [hei] at hi; cases hi
  | some e =>
   rw [hei] at hi
   obtain rfl:e.key = v:=by simpa using hi
   obtain ⟨x,hx,rfl⟩:=hmem e (Array.mem_of_getElem? hei)
   exact ⟨x.1,his x hx⟩
 have nokey:(∀ j,j < es.size→((es[j]?.map (·.hash)) == some (gHash P w k)) = false∨∀ p,xs[j]? ≠ some (k,p))→∀ (j:Nat) p,xs[j]? ≠ some (k,p):=fun h j p hj=>by
  have hjl:j < es.size:=by rw [hsz]; exact (List.getElem?_eq_some_iff.mp hj).1
  rcases h j hjl with z | z
  ·rw [haskey j p hj] at z; cases z
  ·exact z p hj
 have plain:wpAny (model P w) A (dictWalkPlain d key (gHash P w k) es (placesWithHash es.size (fun i=>es[i]?.map (·.hash)) (gHash P w k))) Q E s:=by
  refine wpAny_bind ?_
  refine wpAny_forIn_list _
   (fun rest b s'=>s' = s∧b = (none,())∧∃ i,rest = (List.range' i (es.size - i)).filter (fun i=>(es[i]?.map (·.hash)) == some (gHash P w k))∧i ≤ es.size∧∀ j p,j < i→xs[j]? ≠ some (k,p)) _ ?_ ?_ _ _
   ⟨rfl,rfl,0,by rw [placesWithHash,List.range_eq_range',Nat.sub_zero],Nat.zero_le _,fun _ _ h=>absurd h (Nat.not_lt_zero _)⟩
  ·rintro x rest b s' ⟨rfl,rfl,i,hr,hi,hno⟩
   obtain ⟨hix,hxn,hpx,hskip,hrest⟩:=filter_range'_cons _ _ _ _ _ hr.symm
   have hlt:x < es.size:=by omega
   obtain ⟨⟨k',b,v'⟩,hkv⟩:∃ y,xs[x]? = some y:=⟨xs[x]'(by rw [← hsz]; exact hlt),List.getElem?_eq_getElem _⟩
   have hib:vkIs P w s'.heap k' b:=his _ (List.mem_of_getElem? hkv)
   have hex:es[x]? = some ⟨gHash P w k',b,v'⟩:=by rw [eat x,hkv]; rfl
   have hnext:¬ k' = k→∃ i,rest = (List.range' i (es.size - i)).filter (fun i=>(es[i]?.map (·.hash)) == some (gHash P w k))∧i ≤ es.size∧∀ j p,j < i→xs[j]? ≠ some (k,p):=fun hne =>
    ⟨x + 1,by rw [hrest]; congr 2; omega,hlt,fun j p hji hj=>by
     rcases Nat.lt_or_ge j i with h | h
     ·exact hno j p h hj
     ·rcases Nat.lt_or_ge j x with h' | h'
      ·have:=hskip j h h'
       rw [haskey j p hj] at this
       cases this
      ·have:j = x:=by omega
       subst this
       rw [hkv] at hj
       injection hj with hj
       injection hj with hj
       exact hne hj⟩
   rw [hex]
   dsimp only
   by_cases hh:(gHash P w k' == gHash P w k) = true
   ·rw [if_pos hh]
    refine wpAny_bind (wpAny_dictEpoch ho hd (wpAny_bind (vk_eqBool (x:=k') (y:=k) hu hib hkey (wpAny_bind (wpAny_dictEpoch ho hd ?_)))))
    show wpAny _ _ (if (ep != ep) = true then _ else _) _ E _
    rw [if_neg (by simp)]
    by_cases hkk:k' = k
    ·rw [decide_eq_true hkk]
     subst hkk
     exact wpAny_bind (wpAny_rule (wpAny_pure (wpAny_pure (hsome x _ hkv))))
    ·rw [decide_eq_false hkk]
     exact wpAny_bind (wpAny_rule (wpAny_pure ⟨rfl,rfl,hnext hkk⟩))
   ·rw [if_neg hh]
    refine wpAny_pure ⟨rfl,rfl,hnext ?_⟩
    intro hkk
    rw [hkk] at hh; simp at hh
  ·rintro b s' ⟨rfl,rfl,i,hr,hi,hno⟩
   have hall:∀ j,i ≤ j→j < es.size→((es[j]?.map (·.hash)) == some (gHash P w k)) = false:=by
    intro j h1 h2
    have:=List.filter_eq_nil_iff.mp hr.symm j (List.mem_range'_1.mpr ⟨h1,by omega⟩)
    simpa using this
   refine wpAny_pure (hnone (nokey fun j hj=>?_))
   rcases Nat.lt_or_ge j i with h | h
   ·exact .inr fun p=>hno j p h
   ·exact .inl (hall j h hj)
 unfold dictFind
 try with_reducible refine wpAny_holding ?_
 refine wpAny_bind (wpAny_dictEntries ho hd ?_)
 have shape:(∃ i t,key = .int i t)∨(∃ x t,key = .str x t∧k = .inl (.inr x))∨∃ a,key = .ref a:=by
  cases k with
  | inl k => rcases keyIs_shape hkey with ⟨i, t, rfl, e⟩ | ⟨i, t, rfl, e⟩
             · exact .inl ⟨i,t,e⟩
             · exact .inr (.inl ⟨i,t,e,rfl⟩)
  | inr k=>obtain ⟨a,e,_⟩:=hkey; exact .inr (.inr ⟨a,e⟩)
 rcases shape with ⟨ki,kt,rfl⟩ | ⟨kx,kt,rfl,ek⟩ | ⟨ka,rfl⟩ <;> dsimp only
 case' inr.inl =>
  by_cases hstrs:(es.all fun e=>isExactStrKey e.key) = true
  case' neg=>rw [if_neg hstrs]
  case pos =>
   rw [if_pos hstrs]
   subst ek
   have hf1:∀ (j:Nat) (e:DictEntry),es[j]? = some e→e.key.isStr kx = true→∃ p,xs[j]? = some (Sum.inl (Sum.inr kx),p):=fun j e hej hes=>by
    rw [eat j] at hej
    obtain ⟨⟨k',b,v'⟩,hkv,rfl⟩:=Option.map_eq_some_iff.mp hej
    have hib:vkIs P w s.heap k' b:=his _ (List.mem_of_getElem? hkv)
    have hb:keyIs (.inr kx) b = true:=by
     have:=(mixKind P w).strs (.inr kx) kx 0 b (keyIs_str kx 0)
     exact this.trans hes
    have ek:k' = Sum.inl (Sum.inr kx):=vk_inj hib (show vkIs P w s.heap (Sum.inl (Sum.inr kx)) b from hb)
    rw [ek] at hkv
    exact ⟨_,hkv⟩
   unfold foundByValue
   cases hf:es.findIdx? (fun e=>e.key.isStr kx) with
   | none =>
    refine wpAny_pure (hnone fun j p hj=>?_)
    have hlt:j < es.size:=by rw [hsz]; exact (List.getElem?_eq_some_iff.mp hj).1
    have:=Array.findIdx?_eq_none_iff.mp hf es[j] (Array.getElem_mem hlt)
    have h2:es[j]? = some es[j]:=Array.getElem?_eq_getElem hlt
    rw [eat j,hj] at h2
    have e3:es[j].key = p.1:=by rw [← Option.some.inj h2]; rfl
    have hib:vkIs P w s.heap (Sum.inl (Sum.inr kx)) p.1:=his _ (List.mem_of_getElem? hj)
    rw [e3,← (mixKind P w).strs (.inr kx) kx 0 p.1 (keyIs_str kx 0),show (mixKind P w).is (.inr kx) p.1 = true from hib] at this
    cases this
   | some i =>
    obtain ⟨hlt,hi,_⟩:=Array.findIdx?_eq_some_iff_getElem.mp hf
    have hei:es[i]? = some es[i]:=Array.getElem?_eq_getElem hlt
    obtain ⟨p,hp⟩:=hf1 i _ hei hi
    have hib:vkIs P w s.heap (Sum.inl (Sum.inr kx)) p.1:=his _ (List.mem_of_getElem? hp)
    have e3:es[i].key = p.1:=by
     rw [eat i,hp] at hei
     rw [← Option.some.inj hei]; rfl
    simp only [Array.getElem?_eq_getElem hlt]
    rw [e3]
    refine wpAny_bind (wpAny_dictEpoch ho hd (wpAny_bind (vk_eqBool hu hib hkey (wpAny_bind (wpAny_dictEpoch ho hd ?_)))))
    show wpAny _ _ (if (ep != ep) = true then _ else _) _ E _
    rw [if_neg (by simp),decide_eq_true rfl]
    exact wpAny_bind (wpAny_rule (wpAny_pure (hsome i p hp)))
 all_goals refine wpAny_ite_split (fun hall=>?_) (fun hall=>?_)
 all_goals first | exact plain | skip
 case' inr.inr=>refine wpAny_ite_split (fun h=>absurd h hany) (fun _=>?_)
 all_goals refine wpAny_ite_split (fun _=>wpAny_bind (wpAny_pure ?_)) (fun _=>wpAny_bind (g_tells hkey hst ?_))
 all_goals
  rw [if_neg (by simp)]
  refine wpAny_bind ?_
  refine wpAny_forIn_list _
   (fun rest b s2=>s2 = s∧∃ i hit,b = (none,hit)∧rest = (List.range' i (es.size - i)).filter (fun i=>(es[i]?.map (·.hash)) == some (gHash P w k))∧i ≤ es.size ∧
    ((hit = none∧∀ j p,j < i→xs[j]? ≠ some (k,p))∨∃ j p,hit = some j∧j < i∧xs[j]? = some (k,p))) _ ?_ ?_ _ _
   ⟨rfl,0,none,rfl,by rw [placesWithHash,List.range_eq_range',Nat.sub_zero],Nat.zero_le _,.inl ⟨rfl,fun _ _ h=>absurd h (Nat.not_lt_zero _)⟩⟩
  ·rintro x rest b s' ⟨rfl,i,hit,rfl,hr,hi,hH⟩
   obtain ⟨hix,hxn,hpx,hskip,hrest⟩:=filter_range'_cons _ _ _ _ _ hr.symm
   have hlt:x < es.size:=by omega
   have hrest':rest = (List.range' (x + 1) (es.size - (x + 1))).filter (fun i=>(es[i]?.map (·.hash)) == some (gHash P w k)):=by rw [hrest]; congr 2; omega
   obtain ⟨⟨k',b,v'⟩,hkv⟩:∃ y,xs[x]? = some y:=⟨xs[x]'(by rw [← hsz]; exact hlt),List.getElem?_eq_getElem _⟩
   have hib:vkIs P w s'.heap k' b:=his _ (List.mem_of_getElem? hkv)
   have hex:es[x]? = some ⟨gHash P w k',b,v'⟩:=by rw [eat x,hkv]; rfl
   have hHx:(hit = none∧∀ j p,j < x→xs[j]? ≠ some (k,p))∨∃ j p,hit = some j∧j < x∧xs[j]? = some (k,p):=by
    rcases hH with ⟨h0,hno⟩ | ⟨j,p,h1,hji,hj⟩
    ·refine .inl ⟨h0,fun j p hjx hj=>?_⟩
     rcases Nat.lt_or_ge j i with h | h
     ·exact hno j p h hj
     ·have:=hskip j h hjx
      rw [haskey j p hj] at this
      exact absurd this (by decide)
    ·exact .inr ⟨j,p,h1,by omega,hj⟩
   have hstay:¬ k' = k→((hit = none∧∀ j p,j < x + 1→xs[j]? ≠ some (k,p))∨∃ j p,hit = some j∧j < x + 1∧xs[j]? = some (k,p)):=by
    intro hne
    rcases hHx with ⟨h0,hno⟩ | ⟨j,p,h1,hjx,hj⟩
    ·refine .inl ⟨h0,fun j p hjx hj=>?_⟩
     rcases Nat.lt_or_ge j x with h | h
     ·exact hno j p h hj
     ·have hjx':j = x:=by omega
      subst hjx'
      rw [hkv] at hj
      injection hj with hj
      injection hj with hj
      exact hne hj
    ·exact .inr ⟨j,p,h1,by omega,hj⟩
   rw [hex]
   dsimp only
   by_cases hh:(gHash P w k' == gHash P w k) = true
   ·rw [if_pos hh]
    refine wpAny_bind (wpAny_dictEpoch ho hd (wpAny_bind (vk_eqBool (x:=k') (y:=k) hu hib hkey (wpAny_bind (wpAny_dictEpoch ho hd ?_)))))
    show wpAny _ _ (if (ep != ep) = true then _ else _) _ E _
    rw [if_neg (by simp)]
    by_cases hkk:k' = k
    ·rw [decide_eq_true hkk]
     rw [hkk] at hkv
     rcases hHx with ⟨rfl,_⟩ | ⟨j,p,_,hjx,hj⟩
     ·rw [if_pos rfl]
      simp only [Option.isSome_none,Bool.false_eq_true,if_false]
      refine wpAny_bind (wpAny_rule (wpAny_ite_split (fun _=>wpAny_pure (wpAny_pure (hsome x _ hkv))) (fun _=>wpAny_pure ⟨rfl,x + 1,some x,rfl,hrest',hlt,.inr ⟨x,_,rfl,Nat.lt_succ_self x,hkv⟩⟩)))
     ·exact absurd (g_idx hn hj hkv) (by omega)
    ·rw [decide_eq_false hkk]
     simp only [Bool.false_eq_true,if_false]
     refine wpAny_bind (wpAny_rule ?_)
     first | rw [if_neg (by simp)] | skip
     exact wpAny_pure ⟨rfl,x + 1,hit,rfl,hrest',hlt,hstay hkk⟩
   ·rw [if_neg hh]
    refine wpAny_pure ⟨rfl,x + 1,hit,rfl,hrest',hlt,hstay ?_⟩
    intro hkk
    rw [hkk] at hh; simp at hh
  ·rintro b s' ⟨rfl,i,hit,rfl,hr,hi,hH⟩
   have hall:∀ j,i ≤ j→j < es.size→((es[j]?.map (·.hash)) == some (gHash P w k)) = false:=by
    intro j h1 h2
    have:=List.filter_eq_nil_iff.mp hr.symm j (List.mem_range'_1.mpr ⟨h1,by omega⟩)
    simpa using this
   rcases hH with ⟨rfl,hno⟩ | ⟨j,p,rfl,_,hj⟩
   ·refine wpAny_pure (hnone (nokey fun j hj=>?_))
    rcases Nat.lt_or_ge j i with h | h
    ·exact .inr fun p=>hno j p h
    ·exact .inl (hall j h hj)
   ·exact wpAny_pure (hsome j p hj)
theorem gAt_of_get:∀ {xs:GP} (_:(xs.map (·.1)).Nodup) {i:Nat} {p:Value × Value},xs[i]? = some (k,p)→gAt xs k = some p.2
 | [],_,_,_,hx=>by simp at hx
 | x :: r,hn,0,p,hx=>by
  simp only [List.getElem?_cons_zero,Option.some.injEq] at hx
  subst hx; simp [gAt]
 | x :: r,hn,i + 1,p,hx=>by
  rw [List.map_cons,List.nodup_cons] at hn
  simp only [List.getElem?_cons_succ] at hx
  have hmem:k ∈ r.map (·.1):=List.mem_map.mpr ⟨(k,p),List.mem_of_getElem? hx,rfl⟩
  have hne:¬ x.1 = k:=fun e=>hn.1 (e ▸ hmem)
  have:=gAt_of_get hn.2 hx
  simpa [gAt,List.find?_cons,hne] using this
theorem gAt_none (h:∀ (j:Nat) p,xs[j]? ≠ some (k,p)):gAt xs k = none:=by
 have:(xs.find? fun x=>decide (x.1 = k)) = none:=by
  rw [List.find?_eq_none]
  intro x hx hk
  obtain ⟨j,hj⟩:=List.mem_iff_getElem?.mp hx
  have hk':x.1 = k:=of_decide_eq_true hk
  exact h j x.2 (by rw [hj,← hk'])
 simp [gAt,this]
theorem g_get {Q:Option Value→Shared→Prop} (hu:A.units < cLine) (hkey:vkIs P w s.heap k key) (hm:GDict P w s.heap d xs ep) (q:Q (gAt xs k) { s with toks:=s.toks + gDraws k }):wpAny (model P w) A (dictGet d key) Q E s:=by
 obtain ⟨o,es,ho,_,hd,he,his,hn⟩:=hm
 unfold dictGet
 try with_reducible refine wpAny_holding ?_
 refine wpAny_bind (vk_pyHash hu hkey (wpAny_bind (g_find (s:={ s with toks:=s.toks + gDraws k }) hu hkey ho hd he his hn ?_ ?_)))
 ·intro hno
  rw [gAt_none hno] at q
  exact wpAny_pure q
 ·intro j p hj
  rw [gAt_of_get hn hj] at q
  refine wpAny_bind (wpAny_dictEntries (s:={ s with toks:=s.toks + gDraws k }) ho hd ?_)
  rw [← Array.getElem?_toList,he,List.getElem?_map,hj]
  exact wpAny_pure q
def gPut (xs:GP) (k:GK) (key v:Value):GP:=if (gAt xs k).isSome = true then xs.map fun x=>if x.1 = k then (x.1,x.2.1,v) else x else xs ++ [(k,key,v)]
theorem gput_keys (xs:GP) (k:GK) (v:Value):(xs.map fun x=>if x.1 = k then (x.1,x.2.1,v) else x).map (·.1) = xs.map (·.1):=by
 rw [List.map_map]
 refine List.map_congr_left fun x _=>?_
 show (if x.1 = k then (x.1,x.2.1,v) else x).1 = x.1
 split <;> rfl
theorem gput_mod (v:Value):∀ {xs:GP} {j:Nat} {p:Value × Value},(xs.map (·.1)).Nodup→xs[j]? = some (k,p)→(xs.map (gEnt P w)).modify j (fun e=>{ e with val:=v }) = (xs.map fun x=>if x.1 = k then (x.1,x.2.1,v) else x).map (gEnt P w)
 | [],_,_,_,hj=>by simp at hj
 | x :: r,0,p,hn,hj=>by
  rw [List.map_cons,List.nodup_cons] at hn
  simp only [List.getElem?_cons_zero,Option.some.injEq] at hj
  subst hj
  have er:(r.map fun x=>if x.1 = k then (x.1,x.2.1,v) else x) = r:=by
   conv=>rhs; rw [← List.map_id r]
   refine List.map_congr_left fun x hx=>?_
   rw [if_neg fun e:x.1 = k=>hn.1 (e ▸ List.mem_map.mpr ⟨x,hx,rfl⟩)]
   rfl
  rw [List.map_cons,List.map_cons,er,if_pos rfl]
  rfl
 | x :: r,j + 1,p,hn,hj=>by
  rw [List.map_cons,List.nodup_cons] at hn
  simp only [List.getElem?_cons_succ] at hj
  have hmem:k ∈ r.map (·.1):=List.mem_map.mpr ⟨(k,p),List.mem_of_getElem? hj,rfl⟩
  have ih:=gput_mod v hn.2 hj
  rw [List.map_cons,List.map_cons,List.map_cons,if_neg fun e:x.1 = k=>hn.1 (e ▸ hmem),← ih]
  rfl
theorem g_set {Q : Unit → Shared → Prop} (hu : A.units < cLine) (hkey : vkIs P w s.heap k key) (hm : GDict P w s.heap d xs ep) (hsz : xs.length ≤ sizeLine)
  (hQ:∀ h' ep',((gAt xs k).isSome = true→ep' = ep)→GDict P w h' d (gPut xs k key v) ep'→Heap.SameBut d s.heap h'→Q () { s with heap:=h',toks:=s.toks + gDraws k }):wpAny (model P w) A (dictSet d key v) Q E s:=by
 obtain ⟨o,es,ho,hc,hd,he,his,hn⟩:=hm
 have hes:es.size = xs.length:=by rw [← Array.length_toList,he,List.length_map]
 unfold dictSet
 try with_reducible refine wpAny_holding ?_
 refine wpAny_bind (vk_pyHash hu hkey ?_)
 unfold dictSetHashed
 try with_reducible refine wpAny_holding ?_
 refine wpAny_bind (g_find (s:={ s with toks:=s.toks + gDraws k }) hu hkey ho hd he his hn ?_ ?_)
 ·intro hno
  have hnot:k ∉ xs.map (·.1):=fun hm=>by
   obtain ⟨x,hx,e⟩:=List.mem_map.mp hm
   obtain ⟨j,hj⟩:=List.mem_iff_getElem?.mp hx
   exact hno j x.2 (by rw [hj,← e])
  have ep1:gPut xs k key v = xs ++ [(k,key,v)]:=by unfold gPut; rw [if_neg (by rw [gAt_none hno]; exact Bool.false_ne_true)]
  rw [ep1] at hQ
  refine wpAny_bind (wpAny_rule (wpAny_updateDictKeys (hz:=by omega) (s:={ s with toks:=s.toks + gDraws k }) ho hd (hQ _ (ep + 1) (fun z=>by rw [gAt_none hno] at z; cases z) ⟨_,_,Heap.get?_update_self _ ho (Obj.isFreed_of_dict (Obj.data_mapDictKeys hd _)),
   hc.mapDictKeys _,Obj.data_mapDictKeys hd _,?_,?_,?_⟩ (Heap.SameBut.update ..))))
  ·simp [he,gEnt]
  ·intro x hx
   rcases List.mem_append.mp hx with hx | hx
   ·exact vk_keeps (his x hx) ho hd (Heap.SameBut.update ..)
   ·simp only [List.mem_singleton] at hx
    subst hx
    exact vk_keeps hkey ho hd (Heap.SameBut.update ..)
  ·rw [List.map_append,List.nodup_append]
   refine ⟨hn,by simp,?_⟩
   intro x hx y hy
   simp only [List.map_cons,List.map_nil,List.mem_singleton] at hy
   subst hy
   exact fun e=>hnot (e ▸ hx)
 ·intro j p hj
  have ep1:gPut xs k key v = xs.map fun x=>if x.1 = k then (x.1,x.2.1,v) else x:=by unfold gPut; rw [if_pos (by rw [gAt_of_get hn hj]; rfl)]
  rw [ep1] at hQ
  refine wpAny_bind (wpAny_rule (wpAny_bind (wpAny_updateDict (s:={ s with toks:=s.toks + gDraws k }) ho hd (wpAny_point (hQ _ ep (fun _=>rfl) ⟨_,_,Heap.get?_update_self _ ho (Obj.isFreed_of_dict (Obj.data_mapDict hd _)),
   hc.mapDict _,Obj.data_mapDict hd _,?_,?_,?_⟩ (Heap.SameBut.update ..))))))
  ·have:=gput_mod (P:=P) (w:=w) v hn hj
   rw [← he] at this
   obtain ⟨l⟩:=es
   simpa using this
  ·intro x hx
   obtain ⟨y,hy,rfl⟩:=List.mem_map.mp hx
   split <;> exact vk_keeps (his y hy) ho hd (Heap.SameBut.update ..)
  ·rw [gput_keys]; exact hn
theorem g_in {Q : Value → Shared → Prop} (hu : A.in1.units < cLine) (hkey : vkIs P w s.heap k key) (hd : (d == sysModules) = false) (hm : GDict P w s.heap d xs ep)
  (h:Q (.bool (gAt xs k).isSome) { s with toks:=s.toks + gDraws k }):wpAny (model P w) A (compareOp .In key (.ref d)) Q E s:=by
 show wpAny _ _ (do return .bool (← contains (.ref d) key)) Q E s
 refine wpAny_bind ?_
 unfold contains
 try with_reducible refine wpAny_holding ?_
 refine wpAny_bind (wpAny_specialOf hm.typeIs slot_dict_contains.lookup ?_)
 show wpAny _ _ (if (some (Value.builtin "dict.__contains__") == some Value.none) = true then _ else _) _ E s
 rw [if_neg (by rw [beq_builtin_none]; exact Bool.false_ne_true)]
 refine wpAny_bind (wpAny_callSpecialUnlessNone?_slot (name:=Str.ofString "__contains__") hm.typeIs slot_dict_contains
  (wpAny_call_entry slot_dict_contains hm.typeIs entry_dict_contains ?_ (args_dict_contains _ _)))
 show wpAny _ _ (dictGet d key >>= _) _ _ s
 refine wpAny_bind (g_get hu hkey hm ?_)
 cases hf:gAt xs k with
 | some p =>
  rw [hf] at h
  show wpAny _ _ (ret (.bool true)) _ _ _
  exact wpAny_pure ⟨_,rfl,wpAny_truthy_bool (wpAny_pure h)⟩
 | none =>
  rw [hf] at h
  show wpAny _ _ (Builtin.Dict.pendingKey? d key >>= _) _ _ _
  exact wpAny_bind (wpAny_pendingKey_other hd (wpAny_pure ⟨_,rfl,wpAny_truthy_bool (wpAny_pure h)⟩))
theorem g_item {p : Value} {Q : Value → Shared → Prop} (hu : A.in1.units < cLine) (hkey : vkIs P w s.heap k key) (hm : GDict P w s.heap d xs ep) (hp : gAt xs k = some p)
  (h:Q p { s with toks:=s.toks + gDraws k }):wpAny (model P w) A (getItem (.ref d) key) Q E s:=by
 unfold getItem
 try with_reducible refine wpAny_holding ?_
 refine wpAny_bind (wpAny_sequenceKey hm.typeIs (by decide) ?_)
 refine wpAny_bind (wpAny_callSpecial?_slot (name:=Str.ofString "__getitem__") hm.typeIs slot_dict_getitem
  (wpAny_call_entry slot_dict_getitem hm.typeIs entry_dict_getitem ?_ (args_dict_getitem _ _)))
 show wpAny _ _ (dictGet d key >>= _) _ _ s
 refine wpAny_bind (g_get hu hkey hm ?_)
 rw [hp]
 exact wpAny_pure ⟨p,rfl,wpAny_pure h⟩
theorem g_setItem {Q : Unit → Shared → Prop} (hu : A.in1.units < cLine) (hkey : vkIs P w s.heap k key) (hm : GDict P w s.heap d xs ep) (hsz : xs.length ≤ sizeLine)
  (hQ:∀ h' ep',((gAt xs k).isSome = true→ep' = ep)→GDict P w h' d (gPut xs k key v) ep'→Heap.SameBut d s.heap h'→Q () { s with heap:=h',toks:=s.toks + gDraws k }):wpAny (model P w) A (setItem (.ref d) key v) Q E s:=by
 unfold setItem
 try with_reducible refine wpAny_holding ?_
 refine wpAny_bind (wpAny_sequenceKey hm.typeIs (by decide) ?_)
 refine wpAny_bind (wpAny_callSpecial?_slot (name:=Str.ofString "__setitem__") hm.typeIs slot_dict_setitem
  (wpAny_call_entry slot_dict_setitem hm.typeIs entry_dict_setitem ?_ (args_dict_setitem _ _ _)))
 show wpAny _ _ (Builtin.Dict.notOrdered "__setitem__" ⟨[.ref d,key,v],[]⟩ >>= _) _ _ s
 refine wpAny_bind (wpAny_notOrdered_dict hm.typeIs ?_)
 show wpAny _ _ (dictSet d key v >>= _) _ _ s
 exact wpAny_bind (g_set hu hkey hm hsz fun h' ep' e' hm' hs'=>wpAny_pure ⟨.none,rfl,wpAny_pure (hQ h' ep' e' hm' hs')⟩)
theorem meets_gget1 (hd : (d == sysModules) = false) : MeetsIn P w (Builtin.«dict.get» ⟨[.ref d, key], []⟩) (fun A R s => A.in1.units < cLine ∧ ∃ k xs ep, vkIs P w s.heap k key ∧ GDict P w s.heap d xs ep ∧
   R (.ok (.ret ((gAt xs k).getD .none))) { s with toks:=s.toks + gDraws k }) :=
 .of_wp fun A R s ⟨hu,k,xs,ep,hkey,hm,h⟩=>by
  show wpAny _ _ (dictGet d key >>= _) _ _ s
  refine wpAny_bind (g_get hu hkey hm ?_)
  cases hf:gAt xs k with
  | some v =>
   rw [hf] at h
   exact wpAny_pure ⟨v,rfl,h⟩
  | none =>
   rw [hf] at h
   show wpAny _ _ (Builtin.Dict.missed d key >>= _) _ _ _
   exact wpAny_bind (wpAny_missed_other hd (wpAny_pure ⟨.none,rfl,h⟩))
end
end L2
namespace L2
open PySem PySem.Spec PyProof.Rows
def KeyV (K:PySem.W.Frag) (H:Hp):GK→V→Prop
 | .inl k,v=>v = kV k
 | .inr ks,v=>∃ b,v = .ref b∧SqT K H b (ks.map kV)
abbrev GV:=List (GK × V × V)
def GRel (p:GK × V × V) (x:GK × Value × Value):Prop:=p.1 = x.1∧RelV p.2.1 x.2.1∧RelV p.2.2 x.2.2
def GObj (P:Program) (w:World) (a:Addr) (kvs:GV) (ep:Nat):HO :=
 .ext fun h=>∃ o es xs,h.get? a = some o∧o.ExactDict∧o.data = .dict es ep∧es.toList = xs.map (gEnt P w)∧Paired GRel kvs xs
def GAt (P:Program) (w:World) (K:PySem.W.Frag) (H:Hp) (a:Addr) (kvs:GV) (ep:Nat):Prop :=
 H a = some (GObj P w a kvs ep)∧(kvs.map (·.1)).Nodup∧(a == sysModules) = false∧kvs.length ≤ 100000∧∀ p ∈ kvs,KeyV K H p.1 p.2.1
def gVal (kvs:GV) (k:GK):Option V:=(kvs.find? fun x=>decide (x.1 = k)).map (·.2.2)
def gPutV (kvs:GV) (k:GK) (y v:V):GV:=if (gVal kvs k).isSome = true then kvs.map fun x=>if x.1 = k then (x.1,x.2.1,v) else x else kvs ++ [(k,y,v)]
section
variable {X:Cx} {pins:List (Addr × Obj)} {σ:St} {H:Hp} {s:Shared} {a b:Addr} {kvs:GV} {xs:GP} {k:GK} {ep:Nat}
theorem keyV_of {y:V} {u:Value} (I:Inv X pins σ H s) (h:KeyV X.K H k y) (r:RelV y u):vkIs X.prog X.w s.heap k u:=by
 cases k with
 | inl k =>
  obtain rfl:y = kV k:=h
  cases k with
  | inl i=>obtain ⟨t,rfl⟩:=r; exact keyIs_int i t
  | inr x=>obtain ⟨t,rfl⟩:=r; exact keyIs_str x t
 | inr ks =>
  obtain ⟨b,rfl,hb⟩:=h
  obtain rfl:u = Value.ref b:=r
  obtain ⟨its,r,⟨o,h1,h2,n,h3⟩,_⟩:=I.tuple hb
  exact ⟨b,rfl,o,its.toArray,n,h1,h2,h3,by simpa using items_are (ks:=ks) r⟩
theorem grel_get:∀ {kvs:GV} {xs:GP},Paired GRel kvs xs→∀ x ∈ xs,∃ p ∈ kvs,GRel p x
 | _,_,.nil,x,hx=>by cases hx
 | _,_,.cons r t,x,hx=>by
  rcases List.mem_cons.mp hx with rfl | hx
  ·exact ⟨_,List.mem_cons_self,r⟩
  ·obtain ⟨p,hp,h⟩:=grel_get t x hx; exact ⟨p,List.mem_cons_of_mem _ hp,h⟩
theorem grel_keys:∀ {kvs:GV} {xs:GP},Paired GRel kvs xs→xs.map (·.1) = kvs.map (·.1)
 | _,_,.nil=>rfl
 | _,_,.cons r t=>by rw [List.map_cons,List.map_cons,grel_keys t,r.1]
theorem grel_val:∀ {kvs:GV} {xs:GP},Paired GRel kvs xs→∀ k,(gVal kvs k = none∧gAt xs k = none)∨∃ v u,gVal kvs k = some v∧gAt xs k = some u∧RelV v u
 | _,_,.nil,k=>.inl ⟨rfl,rfl⟩
 | _,_,.cons (a:=p) (b:=x) r t,k=>by
  unfold gVal gAt
  rw [List.find?_cons,List.find?_cons,← r.1]
  by_cases e:p.1 = k
  ·rw [decide_eq_true e]
   exact .inr ⟨_,_,rfl,rfl,r.2.2⟩
  ·rw [decide_eq_false e]
   exact grel_val t k
theorem grel_some {kvs:GV} {xs:GP} (r:Paired GRel kvs xs) (k:GK):(gAt xs k).isSome = (gVal kvs k).isSome:=by
 rcases grel_val r k with ⟨e1,e2⟩ | ⟨v0,u0,e1,e2,_⟩ <;> rw [e1,e2] <;> rfl
theorem grel_app:∀ {kvs:GV} {xs:GP} {p x},Paired GRel kvs xs→GRel p x→Paired GRel (kvs ++ [p]) (xs ++ [x])
 | _,_,_,_,.nil,r=>.cons r .nil
 | _,_,_,_,.cons r t,r2=>.cons r (grel_app t r2)
theorem grel_map {v:V} {u:Value} (hv:RelV v u):∀ {kvs:GV} {xs:GP},Paired GRel kvs xs→Paired GRel (kvs.map fun x=>if x.1 = k then (x.1,x.2.1,v) else x) (xs.map fun x=>if x.1 = k then (x.1,x.2.1,u) else x)
 | _,_,.nil=>.nil
 | _,_,.cons (a:=p) (b:=x) r t=>by
  rw [List.map_cons,List.map_cons]
  refine .cons ?_ (grel_map hv t)
  rw [← r.1]
  by_cases e:p.1 = k
  ·rw [if_pos e,if_pos e]; exact ⟨rfl,r.2.1,hv⟩
  ·rw [if_neg e,if_neg e]; exact r
theorem grel_put {y v:V} {iv u:Value} (r:Paired GRel kvs xs) (hy:RelV y iv) (hv:RelV v u):Paired GRel (gPutV kvs k y v) (gPut xs k iv u):=by
 unfold gPutV gPut
 rcases grel_val r k with ⟨e1,e2⟩ | ⟨v0,u0,e1,e2,_⟩
 ·rw [e1,e2,if_neg (by decide),if_neg (by decide)]; exact grel_app r ⟨rfl,hy,hv⟩
 ·rw [e1,e2]; exact grel_map hv r
theorem gdict_of (I:Inv X pins σ H s) (h:GAt X.prog X.w X.K H a kvs ep):∃ xs,GDict X.prog X.w s.heap a xs ep∧Paired GRel kvs xs:=by
 obtain ⟨h1,h2,h3,h4,h5⟩:=h
 obtain ⟨⟨o,es,xs,g1,g2,g3,g4,g5⟩,_⟩:=(show ObjOk X.prog X.w H s.heap a (GObj X.prog X.w a kvs ep) from I.hok a _ h1)
 refine ⟨xs,⟨o,es,g1,g2,g3,g4,fun x hx=>?_,by rw [grel_keys g5]; exact h2⟩,g5⟩
 obtain ⟨p,hp,r1,r2,_⟩:=grel_get g5 x hx
 rw [← r1]
 exact keyV_of I (h5 p hp) r2
theorem g_laid (h':Heap) (xs:GP) (r:Paired GRel kvs xs) (g:GDict X.prog X.w h' a xs ep) (H':Hp):ObjOk X.prog X.w H' h' a (GObj X.prog X.w a kvs ep):=by
 obtain ⟨o,es,g1,g2,g3,g4,_⟩:=g
 exact ⟨⟨o,es,xs,g1,g2,g3,g4,r⟩,⟨o,g1⟩,fun h1 h2 ⟨o,es,xs,g1,g2⟩ k=>⟨o,es,xs,k o g1,g2⟩⟩
end
section
variable {X:Cx} {K:PySem.W.Frag} {P:Program} {w:World}
def tDNewG (P:Program) (w:World):TE:=fun _ H Q=>∀ p,H p = none→(p == sysModules) = false→Q (.ref p) (upd H p (GObj P w p [] 0))
theorem j_dnewG {pos:Pos} (hP:X.prog = P:=by rfl) (hw:X.w = w:=by rfl):JE X (.Dict [] [] pos) (tDNewG P w):=by
 refine .mk ?_
 subst hP hw
 exact fun pins s σ H Q I h=>wpAny_Dict_empty ⟨.ref s.heap.objs.size,_,I.laid (a:=s.heap.objs.size) (o:=GObj X.prog X.w s.heap.objs.size [] 0) (t':=s.toks) (fun _ _ q=>Heap.get?_push_of_some _ q) (Nat.le_refl _)
  (g_laid _ [] .nil ⟨_,#[],Heap.get?_push_size _ rfl,⟨rfl,rfl,rfl⟩,rfl,rfl,(fun _ hx=>by cases hx),List.nodup_nil⟩ _),rfl,h _ (I.hok.fresh (Nat.le_refl _)) (beq_eq_false_iff_ne.mpr (Ne.symm (Nat.ne_of_lt I.big)))⟩
def gInG (P:Program) (w:World) (K:PySem.W.Frag) (neg:Bool):R2:=fun x y H Q=>(∃ a kvs ep k,y = .ref a∧GAt P w K H a kvs ep∧KeyV K H k x∧Q (.bl (neg ^^ (gVal kvs k).isSome)) H)∨gInM P w K neg x y H Q
theorem o_inG (hu:X.A.units + 64 < cLine) (hK:X.K = K:=by rfl) (hP:X.prog = P:=by rfl) (hw:X.w = w:=by rfl):Irr (OpR X (compareOp .In) (gInG P w K false)):=by
 refine .mk ?_
 subst hK hP hw
 intro pins s σ H x y v u Q I rx ry h
 rcases h with ⟨a,kvs,ep,k,rfl,h1,h2,q⟩ | h
 ·obtain rfl:u = Value.ref a:=ry
  obtain ⟨xs,g,r⟩:=gdict_of I h1
  refine g_in (show X.A.units + 1 < cLine by omega) (keyV_of I h2 rx) h1.2.2.1 g ?_
  rw [grel_some r]
  exact ⟨.bl _,H,I.tok _,rfl,by simpa using q⟩
 ·exact (o_inM hu rfl rfl rfl).out pins s σ H _ _ v u Q I rx ry h
theorem g_notin {A : Around} {E : Value → Shared → Prop} {s : Shared} {d : Addr} {xs : GP} {ep : Nat} {k : GK} {key : Value} {Q : Value → Shared → Prop} (hu : A.in1.units < cLine) (hkey : vkIs P w s.heap k key) (hd : (d == sysModules) = false) (hm : GDict P w s.heap d xs ep)
  (h:Q (.bool (!(gAt xs k).isSome)) { s with toks:=s.toks + gDraws k }):wpAny (model P w) A (compareOp .NotIn key (.ref d)) Q E s:=by
 show wpAny _ _ (do return .bool (!(← contains (.ref d) key))) Q E s
 refine wpAny_bind ?_
 unfold contains
 try with_reducible refine wpAny_holding ?_
 refine wpAny_bind (wpAny_specialOf hm.typeIs slot_dict_contains.lookup ?_)
 show wpAny _ _ (if (some (Value.builtin "dict.__contains__") == some Value.none) = true then _ else _) _ E s
 rw [if_neg (by rw [beq_builtin_none]; exact Bool.false_ne_true)]
 refine wpAny_bind (wpAny_callSpecialUnlessNone?_slot (name:=Str.ofString "__contains__") hm.typeIs slot_dict_contains
  (wpAny_call_entry slot_dict_contains hm.typeIs entry_dict_contains ?_ (args_dict_contains _ _)))
 show wpAny _ _ (dictGet d key >>= _) _ _ s
 refine wpAny_bind (g_get hu hkey hm ?_)
 cases hf:gAt xs k with
 | some p =>
  rw [hf] at h
  show wpAny _ _ (ret (.bool true)) _ _ _
  exact wpAny_pure ⟨_,rfl,wpAny_truthy_bool (wpAny_pure h)⟩
 | none =>
  rw [hf] at h
  show wpAny _ _ (Builtin.Dict.pendingKey? d key >>= _) _ _ _
  exact wpAny_bind (wpAny_pendingKey_other hd (wpAny_pure ⟨_,rfl,wpAny_truthy_bool (wpAny_pure h)⟩))
theorem o_notinG (hu:X.A.units + 64 < cLine) (hK:X.K = K:=by rfl) (hP:X.prog = P:=by rfl) (hw:X.w = w:=by rfl):Irr (OpR X (compareOp .NotIn) (gInG P w K true)):=by
 refine .mk ?_
 subst hK hP hw
 intro pins s σ H x y v u Q I rx ry h
 rcases h with ⟨a,kvs,ep,k,rfl,h1,h2,q⟩ | h
 ·obtain rfl:u = Value.ref a:=ry
  obtain ⟨xs,g,r⟩:=gdict_of I h1
  refine g_notin (show X.A.units + 1 < cLine by omega) (keyV_of I h2 rx) h1.2.2.1 g ?_
  rw [grel_some r]
  exact ⟨.bl _,H,I.tok _,rfl,by simpa using q⟩
 ·exact (o_notinM hu rfl rfl rfl).out pins s σ H _ _ v u Q I rx ry h
def gIxG (P:Program) (w:World) (K:PySem.W.Frag):R2:=fun x y H Q=>(∃ a kvs ep k v,x = .ref a∧GAt P w K H a kvs ep∧KeyV K H k y∧gVal kvs k = some v∧Q v H)∨gIx K w x y H Q
theorem o_ixG (hu:X.A.units + 64 < cLine) (hK:X.K = K:=by rfl) (hP:X.prog = P:=by rfl) (hw:X.w = w:=by rfl):Irr (IxR X (gIxG P w K)):=by
 refine .mk ?_
 subst hK hP hw
 intro value slice pins s σ H x y v u Q I rx ry h hs
 rcases h with ⟨a,kvs,ep,k,z,rfl,h1,h2,h3,q⟩ | h
 ·obtain rfl:v = Value.ref a:=rx
  obtain ⟨xs,g,r⟩:=gdict_of I h1
  rcases grel_val r k with ⟨e1,_⟩ | ⟨z',p,e1,e2,rv⟩
  ·rw [e1] at h3; cases h3
  ·rw [e1] at h3
   cases h3
   exact tail_any g.typeIs slot_dict_getitem.lookup (g_item (show X.A.units + 1 < cLine by omega) (keyV_of I h2 ry) g e2 ⟨z,H,I.tok _,rv,q⟩) hs
 ·exact (o_ix hu rfl rfl).out value slice pins s σ H _ _ v u Q I rx ry h hs
def mGPut (P:Program) (w:World) (K:PySem.W.Frag) (td ty tv:TE):TS:=fun D σ H=>tv σ H fun v H1=>td σ H1 fun x H2=>ty σ H2 fun y H3=>match x with
 | .ref a=>∃ kvs ep k,GAt P w K H3 a kvs ep∧KeyV K H3 k y∧∀ ep',((gVal kvs k).isSome = true→ep' = ep)→D.nx σ (upd H3 a (GObj P w a (gPutV kvs k y v) ep'))
 | _=>False
theorem js_gput {o i value : Expr} {pos pos' : Pos} {td ty tv : TE} (hu : X.A.units + 64 < cLine) (ho : JE X o td) (hi : JE X i ty) (hv : JE X value tv) (hK : X.K = K := by rfl) (hP : X.prog = P := by rfl) (hw : X.w = w := by rfl) (hs : swapsWith value (some (.Subscript o i pos')) pos.line X.env = pure false := by rfl) :
  JS X (.Assign [.Subscript o i pos'] value pos) (mGPut P w K td ty tv):=by
 refine .mk ?_
 subst hK hP hw
 intro pins s σ H D I h
 refine wpAny_Assign_Subscript (thn (hv.out pins s σ H _ I h) fun r s1 ⟨v,H1,I1,rv,q1⟩=>thn (ho.out pins s1 σ H1 _ I1 q1) fun u s2 ⟨x,H2,I2,rx,q2⟩=>thn (hi.out pins s2 σ H2 _ I2 q2) fun iv s3 ⟨y,H3,I3,ry,q3⟩=>?_) hs
 dsimp only at q3
 cases x with
 | ref a =>
  obtain ⟨kvs,ep,k,h1,h2,q⟩:=q3
  obtain rfl:u = Value.ref a:=rx
  obtain ⟨xs,g,rl⟩:=gdict_of I3 h1
  have hl:=h1.2.2.2.1
  have hb:(100000:Nat) < sizeLine:=by rw [sizeLine_eq]; decide
  refine g_setItem (show X.A.units + 1 < cLine by omega) (keyV_of I3 h2 ry) g (by rw [← rl.length]; omega) fun h' ep' he' dd' hs=>?_
  obtain ⟨o',_,ho',_⟩:=id dd'
  exact ⟨σ,_,d_write I3 (by rw [h1.1]; exact True.intro) hs ⟨o',ho'⟩ (g_laid h' _ (grel_put rl ry rv) dd' _),q ep' fun z=>he' (by rw [grel_some rl]; exact z)⟩
 | _=>exact q3.elim
def gGetG (P:Program) (w:World) (K:PySem.W.Frag):V→List V→Hp→VK→Prop:=fun x vs H Q=>match x,vs with
 | .ref a,[y]=>∃ kvs ep k,GAt P w K H a kvs ep∧KeyV K H k y∧Q ((gVal kvs k).getD .non) H
 | _,_=>False
theorem m_getG (hu:X.A.units + 64 < cLine) (hK:X.K = K:=by rfl) (hP:X.prog = P:=by rfl) (hw:X.w = w:=by rfl):Irr (MtR X "dict.get" (gGetG P w K)):=by
 refine .mk ?_
 subst hK hP hw
 intro pins s σ H x xs v us Q I rx rs h
 unfold gGetG at h
 split at h
 ·rename_i a y
  obtain ⟨kvs,ep,k,h1,h2,q⟩:=h
  obtain rfl:v = Value.ref a:=rx
  obtain ⟨u,rfl,ry⟩:=vals1 rs
  obtain ⟨xs,g,rl⟩:=gdict_of I h1
  refine call_meetsIn PySem.F.slot_dict_get g.typeIs PySem.F.entry_dict_get (PySem.F.args_dict_get_2 _ _) (meets_gget1 h1.2.2.1) ⟨show X.A.units + 1 < cLine by omega,k,xs,ep,keyV_of I h2 ry,g,?_⟩
  rcases grel_val rl k with ⟨e1,e2⟩ | ⟨z',p,e1,e2,rv⟩
  ·rw [e1] at q
   rw [e2]
   exact ⟨.non,H,I.tok _,rfl,q⟩
  ·rw [e1] at q
   rw [e2]
   exact ⟨z',H,I.tok _,rv,q⟩
 ·exact h.elim
theorem meets_gclear {d : Addr} : MeetsIn P w (Builtin.«dict.clear» ⟨[.ref d], []⟩) (fun _ R s => ∃ xs ep, GDict P w s.heap d xs ep ∧ xs.length ≤ sizeLine ∧
   ∀ h',GDict P w h' d [] (ep + 1)→Heap.SameBut d s.heap h'→R (.ok (.ret .none)) { s with heap:=h' }) :=
 .of_wp fun A R s ⟨xs,ep,hm,hsz,h⟩=>by
  obtain ⟨o,es,ho,hc,hdat,he,hp,hn⟩:=id hm
  have hes:es.size ≤ sizeLine:=by rw [← Array.length_toList,he,List.length_map]; exact hsz
  unfold Builtin.«dict.clear»
  refine wpAny_bind ?_
  unfold Builtin.Dict.noArgs
  refine wpAny_bind (wpAny_notOrdered_dict hm.typeIs ?_)
  show wpAny _ _ (pure d) _ _ s
  refine wpAny_pure ?_
  refine wpAny_bind (wpAny_dictEntries ho hdat ?_)
  refine wpAny_bind ?_
  unfold bearsInstanceDictMark
  refine wpAny_bind (wpAny_load ho (wpAny_pure ?_))
  refine wpAny_bind (wpAny_updateDictKeys (hz:=hes) ho hdat ?_)
  have hnew:GDict P w (s.heap.update d (Obj.mapDictKeys fun _=>#[])) d [] (ep + 1) :=
   ⟨_,_,Heap.get?_update_self _ ho (Obj.isFreed_of_dict (Obj.data_mapDictKeys hdat _)),hc.mapDictKeys _,Obj.data_mapDictKeys hdat _,rfl,fun _ he=>by simp at he,List.nodup_nil⟩
  split
  ·exact wpAny_bind (wpAny_letGo (wpAny_pure ⟨.none,rfl,h _ hnew (Heap.SameBut.update ..)⟩))
  ·exact wpAny_bind (wpAny_pure (wpAny_pure ⟨.none,rfl,h _ hnew (Heap.SameBut.update ..)⟩))
def gClearG (P:Program) (w:World) (K:PySem.W.Frag):V→List V→Hp→VK→Prop:=fun x vs H Q=>match x,vs with
 | .ref a,[]=>∃ kvs ep,GAt P w K H a kvs ep∧Q .non (upd H a (GObj P w a [] (ep + 1)))
 | _,_=>False
theorem m_clearG (hK:X.K = K:=by rfl) (hP:X.prog = P:=by rfl) (hw:X.w = w:=by rfl):Irr (MtR X "dict.clear" (gClearG P w K)):=by
 refine .mk ?_
 subst hK hP hw
 intro pins s σ H x xs v us Q I rx rs h
 unfold gClearG at h
 split at h
 ·rename_i a
  obtain ⟨kvs,ep,h1,q⟩:=h
  obtain rfl:v = Value.ref a:=rx
  cases rs
  obtain ⟨xs,g,rl⟩:=gdict_of I h1
  have hl:=h1.2.2.2.1
  have hb:(100000:Nat) < sizeLine:=by rw [sizeLine_eq]; decide
  refine call_meetsIn PySem.F.slot_dict_clear g.typeIs PySem.F.entry_dict_clear (PySem.F.args_dict_clear_1 _) meets_gclear ⟨xs,ep,g,by rw [← rl.length]; omega,fun h' g' hs=>?_⟩
  obtain ⟨o',_,ho',_⟩:=id g'
  exact ⟨.non,_,d_write I (by rw [h1.1]; exact True.intro) hs ⟨o',ho'⟩ (g_laid h' _ .nil g' _),rfl,q⟩
 ·exact h.elim
end
end L2
namespace L2
open PySem PySem.Spec PyProof.Rows
section
variable {P:Program} {w:World} {A:Around} {E:Value→Shared→Prop} {s:Shared} {d it:Addr} {xs:GP} {ep i:Nat}
theorem GDict.size {h:Heap} (hm:GDict P w h d xs ep):∃ o es,h.get? d = some o∧o.data = .dict es ep∧es.size = xs.length∧∀ j:Nat,es[j]? = (xs[j]?).map (gEnt P w):=by
 obtain ⟨o,es,ho,_,hd,he,_⟩:=hm
 exact ⟨o,es,ho,hd,by rw [← Array.length_toList,he,List.length_map],fun j=>by rw [← Array.getElem?_toList,he,List.getElem?_map]⟩
theorem g_iter {Q : Value → Shared → Prop} (hd : (d == sysModules) = false) (hm : GDict P w s.heap d xs ep)
  (hQ:Q (.ref s.heap.objs.size) { s with heap:=s.heap.push { cls:=.type "dict_keyiterator",data:=.fields #[.ref d,.int 0 0,.int xs.length 0,.int ep 0] } }) :
  wpAny (model P w) A (pyIter (.ref d)) Q E s:=by
 obtain ⟨o,es,ho,hdat,hsz,_⟩:=hm.size
 have hT:s.TypeIs (.ref d) "dict":=hm.typeIs
 refine wpAny_pyIter_slot hT F.slot_dict_iter (wpAny_call_entry F.slot_dict_iter hT F.entry_dict_iter ?_ (F.args_dict_iter_1 _))
 unfold Builtin.«dict.__iter__»
 refine wpAny_bind ?_
 unfold Builtin.Dict.dictSlotNone
 refine wpAny_bind (wpAny_notOrdered_dict hT ?_)
 show wpAny _ _ (pure (Value.ref d)) _ _ s
 refine wpAny_pure ?_
 show wpAny _ _ (Builtin.Dict.showsAll d >>= _) _ _ s
 unfold Builtin.Dict.showsAll
 rw [if_neg (by rw [hd]; exact Bool.false_ne_true)]
 refine wpAny_bind (wpAny_pure ?_)
 refine wpAny_bind (wpAny_dictEntries ho hdat ?_)
 refine wpAny_bind (wpAny_dictEpoch ho hdat ?_)
 refine wpAny_bind (wpAny_newObj_type (wpAny_pure ⟨_,rfl,"dict_keyiterator",_,⟨_,Heap.get?_push_size _ rfl,rfl⟩,F.slot_dict_keyiterator_next.lookup,?_⟩))
 simpa [rawInt,hsz] using hQ
theorem g_next {x : GK × Value × Value} {Q : Option Value → Shared → Prop} (hit : s.heap.IsKeyIter it d i xs.length ep) (hm : GDict P w s.heap d xs ep) (hx : xs[i]? = some x)
  (hQ:∀ h',h'.IsKeyIter it d (i + 1) xs.length ep→Heap.SameBut it s.heap h'→Q (some x.2.1) { s with heap:=h' }):wpAny (model P w) A (pyNext (.ref it)) Q E s:=by
 obtain ⟨o,ho,hc,hd⟩:=id hit
 obtain ⟨od,es,hod,hdd,hsz,hat⟩:=hm.size
 unfold pyNext
 refine wpAny_bind (wpAny_attempt (wpAny_callSpecial?_slot (name:=Str.ofString "__next__") hit.typeIs F.slot_dict_keyiterator_next
  (wpAny_call_entry F.slot_dict_keyiterator_next hit.typeIs F.entry_dict_keyiterator_next ?_ (F.args_dict_keyiterator_next_1 _))))
 refine wpAny_bind (wpAny_pure ?_)
 refine wpAny_bind ?_
 refine wpAny_bind ?_
 first | refine wpAny_bind (wpAny_typeNameOfWhole_keyiter hit.typeIs (wpAny_pure ?_)) | refine wpAny_bind (wpAny_typeNameOf_keyiter hit.typeIs (wpAny_pure ?_))
 refine wpAny_bind (wpAny_fieldsOf ho hd ?_)
 have hown:Builtin.Dict_items.ownsTuple "dict_keyiterator" = false:=by decide
 simp only [hown,Bool.false_eq_true,if_false]
 show wpAny _ _ (if (Value.ref d == Value.none) = true then _ else _) _ _ s
 rw [if_neg (show ¬ ((Value.ref d == Value.none) = true) from Bool.false_ne_true)]
 refine wpAny_bind (wpAny_pure ?_)
 refine wpAny_bind (wpAny_dictEntries hod hdd ?_)
 rw [if_neg (by rw [hsz]; simp)]
 refine wpAny_bind (wpAny_pure ?_)
 refine wpAny_bind (wpAny_dictEpoch hod hdd ?_)
 rw [if_neg (by simp)]
 refine wpAny_pure ?_
 have hex:es[i]? = some (gEnt P w x):=by rw [hat i,hx]; rfl
 simp only [show ¬ ((i:Int) < 0) from by omega,if_false,Int.toNat_natCast,hex]
 refine wpAny_bind ?_
 first | refine wpAny_bind (wpAny_typeNameOfWhole_keyiter hit.typeIs (wpAny_pure ?_)) | refine wpAny_bind (wpAny_typeNameOf_keyiter hit.typeIs (wpAny_pure ?_))
 refine wpAny_bind (wpAny_isOneOf_keyiter hit.typeIs ?_)
 show wpAny _ _ (setField (.ref it) 1 (rawInt ((i:Int) + 1)) >>= _) _ _ s
 refine wpAny_bind (wpAny_setField ho hd (by simp) ?_)
 have hit':(s.heap.update it (Obj.mapFields (·.setIfInBounds 1 (rawInt ((i:Int) + 1))))).IsKeyIter it d (i + 1) xs.length ep :=
  ⟨_,Heap.get?_update_self _ ho (Obj.isFreed_of_fields (Obj.data_mapFields hd _)),(Obj.cls_mapFields ..).trans hc,by rw [Obj.data_mapFields hd]; simp [rawInt]⟩
 refine wpAny_bind (wpAny_holding ?_)
 refine wpAny_bind (wpAny_isOneOf_keyiter (s:={ s with heap:=s.heap.update it (Obj.mapFields (·.setIfInBounds 1 (rawInt ((i:Int) + 1)))) }) hit'.typeIs ?_)
 show wpAny _ _ (pure x.2.1) _ _ _
 exact wpAny_pure (wpAny_pure ⟨_,rfl,wpAny_pure (hQ _ hit' (Heap.SameBut.update ..))⟩)
theorem g_end {Q : Option Value → Shared → Prop} (hh : A.handled = none) (hit : s.heap.IsKeyIter it d i xs.length ep) (hm : GDict P w s.heap d xs ep) (hx : xs.length ≤ i)
  (hQ:∀ h',Heap.ExtBut it s.heap h'→Q none { s with heap:=h' }):wpAny (model P w) A (pyNext (.ref it)) Q E s:=by
 obtain ⟨o,ho,hc,hd⟩:=id hit
 obtain ⟨od,es,hod,hdd,hsz,hat⟩:=hm.size
 unfold pyNext
 refine wpAny_bind (wpAny_attempt (wpAny_callSpecial?_slot (name:=Str.ofString "__next__") hit.typeIs F.slot_dict_keyiterator_next
  (wpAny_call_entry F.slot_dict_keyiterator_next hit.typeIs F.entry_dict_keyiterator_next ?_ (F.args_dict_keyiterator_next_1 _))))
 refine wpAny_bind (wpAny_pure ?_)
 refine wpAny_bind ?_
 refine wpAny_bind ?_
 first | refine wpAny_bind (wpAny_typeNameOfWhole_keyiter hit.typeIs (wpAny_pure ?_)) | refine wpAny_bind (wpAny_typeNameOf_keyiter hit.typeIs (wpAny_pure ?_))
 refine wpAny_bind (wpAny_fieldsOf ho hd ?_)
 have hown:Builtin.Dict_items.ownsTuple "dict_keyiterator" = false:=by decide
 simp only [hown,Bool.false_eq_true,if_false]
 show wpAny _ _ (if (Value.ref d == Value.none) = true then _ else _) _ _ s
 rw [if_neg (show ¬ ((Value.ref d == Value.none) = true) from Bool.false_ne_true)]
 refine wpAny_bind (wpAny_pure ?_)
 refine wpAny_bind (wpAny_dictEntries hod hdd ?_)
 rw [if_neg (by rw [hsz]; simp)]
 refine wpAny_bind (wpAny_pure ?_)
 refine wpAny_bind (wpAny_dictEpoch hod hdd ?_)
 rw [if_neg (by simp)]
 refine wpAny_pure ?_
 have hge:es.size ≤ i:=by rw [hsz]; exact hx
 simp only [show ¬ ((i:Int) < 0) from by omega,if_false,Int.toNat_natCast,Array.getElem?_eq_none hge]
 refine wpAny_bind ?_
 first | refine wpAny_bind (wpAny_typeNameOfWhole_keyiter hit.typeIs (wpAny_pure ?_)) | refine wpAny_bind (wpAny_typeNameOf_keyiter hit.typeIs (wpAny_pure ?_))
 show wpAny _ _ (setField (.ref it) 0 .none >>= _) _ _ s
 refine wpAny_bind (wpAny_setField ho hd (by simp) ?_)
 show wpAny _ _ (newExc (.type "StopIteration") [] >>= _) _ _ _
 refine wpAny_bind ?_
 simp only [newExc,newTuple]
 refine wpAny_bind (wpAny_newObj_type ?_ (by size_fits))
 refine wpAny_bind (m:=firstArgMember _ _) (wpAny_of_eq (a:=Value.none) (by first | rfl | (simp only [firstArgMember]; rfl)) ?_)
 refine wpAny_newObj_type ?_ (by size_fits)
 simp only [raiseNew]
 refine wpAny_bind (wpAny_handled ?_)
 rw [show A.in1.handled = none from hh]
 refine wpAny_bind (wpAny_pure (wpAny_throw ?_))
 refine wpAny_bind (wpAny_isInstance (T:="StopIteration") (b:=true) ⟨_,Heap.get?_push_size _ rfl,rfl⟩ isSubtype_stop ?_)
 exact wpAny_pure (hQ _ (((Heap.SameBut.update ..).extBut.push _).push _))
end
def Itg (P:Program) (w:World) (K:PySem.W.Frag) (a:Addr) (ks:List V) (ep:Nat):It :=
 ⟨fun i H=>(∃ kvs,GAt P w K H a kvs ep∧kvs.map (·.2.1) = ks)∧i < ks.length,fun i H x H'=>H' = H∧ks[i]? = some x,fun i H=>(∃ kvs,GAt P w K H a kvs ep∧kvs.map (·.2.1) = ks)∧ks.length ≤ i⟩
theorem grel_at:∀ {kvs:GV} {xs:GP} {i:Nat} {x:V},Paired GRel kvs xs→(kvs.map (·.2.1))[i]? = some x→∃ p,xs[i]? = some p∧RelV x p.2.1
 | _,_,_,_,.nil,e=>by simp at e
 | _,_,0,_,.cons r _,e=>by simp at e; subst e; exact ⟨_,rfl,r.2.1⟩
 | _,_,i + 1,x,.cons _ t,e=>by
  obtain ⟨p,h1,h2⟩:=grel_at (i:=i) (x:=x) t (by simpa using e)
  exact ⟨p,by simpa using h1,h2⟩
theorem turn_keys {P:Program} {w:World} {K:PySem.W.Frag} {tg:Expr} (a it:Addr) (ks:List V) (ep:Nat):Turn P w K tg (Itg P w K a ks ep) [it] it (fun i h=>h.IsKeyIter it a i ks.length ep) where
 mem:=by simp
 obj:=fun i h st b hb=>by
  have e:b = it:=by simpa using hb
  subst e
  obtain ⟨o,e,c,d⟩:=st
  exact ⟨o,e,fun v z=>by rw [d] at z; cases z⟩
 keep:=fun i h h' st k=>by
  obtain ⟨o,e,r⟩:=st
  exact ⟨o,k it (by simp) o e,r⟩
 item:=by
  intro X hP hw hK hc i pins s σ H E I hf st hg
  subst hP hw hK
  obtain ⟨⟨kvs,hq,ek⟩,hi⟩:=hg
  obtain ⟨xs,g,rl⟩:=gdict_of I hq
  have hn:xs.length = ks.length:=by rw [← rl.length,← ek,List.length_map]
  have hx:ks[i]? = some ks[i]:=List.getElem?_eq_getElem hi
  obtain ⟨p,hp,rp⟩:=grel_at (x:=ks[i]) rl (by rw [ek]; exact hx)
  obtain ⟨f0,f1,f2,f3,f4,f5⟩:=hf it (by simp)
  rw [← hn] at st
  refine g_next st g hp fun h' st' sb=>?_
  have I1:Inv X pins σ H { s with heap:=h' }:=I.turned (t':=s.toks) (fun b o hb e=>(sb.2 b hb).trans e) f0 f1 f3 f4 f5
  obtain ⟨o,e,c,d⟩:=id st'
  exact ⟨p.2.1,rfl,go_of (s:={ s with heap:=h' }) e c d (by decide) ⟨ks[i],H,I1,rp,⟨rfl,hx⟩,by rw [← hn]; exact st',fun b hb=>(hf b hb).1⟩⟩
 done:=by
  intro X hP hw hK hc i pins s σ H E I hf st hg
  subst hP hw hK
  obtain ⟨⟨kvs,hq,ek⟩,hi⟩:=hg
  obtain ⟨xs,g,rl⟩:=gdict_of I hq
  have hn:xs.length = ks.length:=by rw [← rl.length,← ek,List.length_map]
  obtain ⟨f0,f1,f2,f3,f4,f5⟩:=hf it (by simp)
  rw [← hn] at st
  exact g_end (I.ok.hd hc) st g (by omega) fun h' eb=>⟨rfl,I.turned (t':=s.toks) (fun b o hb e=>eb b o hb e) f0 f1 f3 f4 f5⟩
 self:=fun _ _ _ _ _ st h=>wpAny_pyIter_keyiter st h
section
variable {X:Cx} {K:PySem.W.Frag} {P:Program} {w:World} {tg:Expr}
def iKeys (P:Program) (w:World) (K:PySem.W.Frag) (tl:TE):TI:=fun σ H R=>tl σ H fun x H1=>match x with
 | .ref a=>∃ kvs ep,GAt P w K H1 a kvs ep∧R (Itg P w K a (kvs.map (·.2.1)) ep) H1
 | _=>False
theorem pi_keys {l:Expr} {tl:TE} (hl:PE X l tl) (hK:X.K = K:=by rfl) (hP:X.prog = P:=by rfl) (hw:X.w = w:=by rfl):PI X tg l (iKeys P w K tl):=by
 subst hK hP hw
 intro pins s σ H R I h
 refine thn (hl pins s σ H _ I h) fun v s1 ⟨x,H1,I1,r1,q1⟩=>?_
 dsimp only at q1
 cases x with
 | ref a =>
  obtain ⟨kvs,ep,g0,q⟩:=q1
  obtain rfl:v = Value.ref a:=r1
  obtain ⟨xs,g,rl⟩:=gdict_of I1 g0
  refine g_iter g0.2.2.1 g ?_
  refine ⟨s1.heap.objs.size,[s1.heap.objs.size],_,_,H1,rfl,I1.kept (t':=s1.toks) fun b o e=>Heap.get?_push_of_some _ e,turn_keys a _ _ ep,⟨_,Heap.get?_push_size _ rfl,rfl,by rw [List.length_map,rl.length]; rfl⟩,fun b hb=>?_,q⟩
  have e:b = s1.heap.objs.size:=by simpa using hb
  subst e
  exact I1.fpOk (Nat.le_refl _) (I1.hok.fresh (Nat.le_refl _))
 | _=>exact q1.elim
theorem ji_keys {l:Expr} {tl:TE} (hl:JE X l tl) (hK:X.K = K:=by rfl) (hP:X.prog = P:=by rfl) (hw:X.w = w:=by rfl):JI X tg l (iKeys P w K tl):=.mk (pi_keys hl.out hK hP hw)
end
theorem for_keys {P : Program} {w : World} {K : PySem.W.Frag} {a : Addr} {ks : List V} {ep : Nat} {g : TG} {tb : TS} {D : Ends} {σ : St} {H : Hp} (Pv : Nat → St → Hp → Prop) (h0 : Pv 0 σ H)
  (hl:∀ i σ H,i ≤ ks.length→Pv i σ H→∃ kvs,GAt P w K H a kvs ep∧kvs.map (·.2.1) = ks)
  (hs:∀ i x σ H,ks[i]? = some x→Pv i σ H→g x σ H fun σ2 H2=>tb { D with nx:=Pv (i + 1),ct:=Pv (i + 1),bk:=D.nx } σ2 H2) (hd:∀ σ H,Pv ks.length σ H→D.nx σ H) :
  ∃ W:Nat→Nat→St→Hp→Prop,(∃ m,W 0 m σ H)∧∀ i m σ H,W i m σ H →
   ((Itg P w K a ks ep).stop i H∧D.nx σ H)∨((Itg P w K a ks ep).go i H∧∃ N:St→Hp→Prop,(∀ σ' H',N σ' H'→∃ m',m' < m∧W (i + 1) m' σ' H')∧∀ x H',(Itg P w K a ks ep).yld i H x H'→g x σ H' fun σ2 H2=>tb { D with nx:=N,ct:=N,bk:=D.nx } σ2 H2):=by
 refine ⟨fun i m σ H=>m = ks.length - i∧i ≤ ks.length∧Pv i σ H,⟨ks.length,by simp,Nat.zero_le _,h0⟩,?_⟩
 rintro i m σ H ⟨rfl,hi,p⟩
 have q1:=hl i σ H hi p
 by_cases hlt:i < ks.length
 ·refine .inr ⟨⟨q1,hlt⟩,Pv (i + 1),fun σ' H' p'=>⟨ks.length - (i + 1),by omega,rfl,hlt,p'⟩,fun v H' y=>?_⟩
  obtain ⟨rfl,e⟩:=y
  exact hs i v σ H' e p
 ·have e:i = ks.length:=by omega
  subst e
  exact .inl ⟨⟨q1,Nat.le_refl _⟩,hd σ H p⟩
section
variable {X:Cx} {K:PySem.W.Frag} {P:Program} {w:World}
theorem meets_glen {d:Addr} (hd:(d == sysModules) = false):MeetsIn P w (Builtin.«dict.__len__» ⟨[.ref d],[]⟩) (fun _ R s=>∃ xs ep,GDict P w s.heap d xs ep∧R (.ok (.ret (.int xs.length s.toks))) { s with toks:=s.toks + 1 }) :=
 .of_wp fun A R s ⟨xs,ep,hm,h⟩=>by
  obtain ⟨o,es,ho,hdat,hsz,_⟩:=hm.size
  show wpAny _ _ (dictSize d >>= _) _ _ s
  unfold dictSize
  refine wpAny_bind (wpAny_bind (wpAny_dictEntries ho hdat (wpAny_pure ?_)))
  show wpAny _ _ (Builtin.Dict.pendingCount d >>= _) _ _ s
  refine wpAny_bind (wpAny_pendingCount_other hd ?_)
  refine wpAny_ret_mkInt ?_
  rw [Nat.add_zero,hsz]; exact h
end
end L2
namespace L2
open PySem PySem.Spec PyProof.Rows Rg
def metS (val:Nat→Str) (i:Nat):List Str:=((List.range i).map val).foldl step_dedup []
theorem metS_succ (val:Nat→Str) (i:Nat):metS val (i + 1) = step_dedup (metS val i) (val i):=by
 unfold metS; rw [List.range_succ,List.map_append,List.foldl_append]; rfl
theorem metS_len (val:Nat→Str):∀ i,(metS val i).length ≤ i
 | 0=>Nat.le_refl _
 | i + 1=>by
  have:=metS_len val i
  rw [metS_succ]
  unfold step_dedup
  split
  ·omega
  ·rw [List.length_append,List.length_singleton]; omega
def distS (ns:List Str):List Str:=ns.foldl step_dedup []
theorem metS_dist (ns:List Str) (n:Nat) (h:n = ns.length):metS (fun i=>ns.getD i "") n = distS ns:=by
 unfold metS distS
 congr 1
 subst h
 refine List.ext_getElem (by simp) fun i h1 h2=>?_
 rw [List.getElem_map,List.getElem_range,List.getD,List.getElem?_eq_getElem h2]
 rfl
theorem strs_are:∀ {ns:List Str} {us:List Value},Vals (ns.map V.str) us→StrsAre us ns
 | [],_,.nil=>.nil
 | n :: r,_,.cons ⟨t,e⟩ h=>by subst e; exact .cons n t (strs_are h)
theorem StrsAre.str_at:∀ {vs:List Value} {ss:List Str},StrsAre vs ss→∀ (i:Nat) (v:Value),vs[i]? = some v→∃ t,v = .str (ss.getD i "") t
 | _,_,.nil,i,v,h=>by simp at h
 | _,_,.cons x t h,0,v,e=>by simp at e; subst e; exact ⟨t,rfl⟩
 | _,_,.cons x t h,i + 1,v,e=>by
  obtain ⟨t',e'⟩:=StrsAre.str_at h i v (by simpa using e)
  exact ⟨t',by rw [e']; rfl⟩
def yk:Value→Str
 | .str n _=>n
 | _=>""
def yks (es:Array (Int × Value)):List Str:=es.toList.map fun e=>yk e.2
section
variable {prog:Program} {w:World} {A:Around} {E:Value→Shared→Prop} {s:Shared}
def YObj (prog:Program) (w:World) (o:Obj) (σ:List Str):Prop :=
 o.ExactSet∧∃ es ep t,o.data = .set es ep t∧ElemsOf (PySem.strKind prog w) es.toList∧(yks es).Perm σ∧t.fits es.size = true∧Rg.TabOk (w.params.followText "set-order") t
theorem elem_str {e:Int × Value} {l:List (Int × Value)} (h:ElemsOf (PySem.strKind prog w) l) (he:e ∈ l):∃ tk,e.2 = .str (yk e.2) tk:=by
 obtain ⟨⟨k,hk,_⟩,_⟩:=h e he
 obtain ⟨tk,z⟩:=Value.isStrOf_shape hk
 exact ⟨tk,by rw [z]; rfl⟩
theorem elemS_is {e:Int × Value} {l:List (Int × Value)} (h:ElemsOf (PySem.strKind prog w) l) (he:e ∈ l) (v:Str):(PySem.strKind prog w).is v e.2 = decide (yk e.2 = v):=by
 obtain ⟨tk,z⟩:=elem_str h he
 have hk:=PySem.strKind_is prog w (yk e.2) tk
 rw [← z] at hk
 rw [KeyKind.is_eq_decide hk v]
 exact decide_eq_decide.mpr ⟨Eq.symm,Eq.symm⟩
theorem y_any {es:Array (Int × Value)} {σ:List Str} (hp:(yks es).Perm σ) (v:Str):σ.any (· == v) = true ↔ v ∈ yks es:=by
 rw [List.any_eq_true]
 constructor
 ·rintro ⟨x,hx,e⟩
  rw [← beq_iff_eq.mp e]
  exact hp.mem_iff.mpr hx
 ·intro m
  exact ⟨v,hp.mem_iff.mp m,beq_self_eq_true v⟩
theorem y_len {es:Array (Int × Value)} {σ:List Str} (hp:(yks es).Perm σ):es.size = σ.length:=by
 have:=hp.length_eq
 unfold yks at this
 rw [List.length_map,Array.length_toList] at this
 exact this
theorem y_tail {g : Bool → Sem Unit} (hg : ∀ (b : Bool) (s₁ : Shared) (Q' : Unit → Shared → Prop), Q' () s₁ → wpAny (model prog w) A (g b) Q' E s₁)
  {a:Addr} {o:Obj} {es es1:Array (Int × Value)} {ep:Nat} {t t2:SetTable} (gO:s.heap.get? a = some o) (gX:o.ExactSet) (gD:o.data = .set es ep t) {σ:List Str}
  (gE:ElemsOf (PySem.strKind prog w) es1.toList) (gP:(yks es1).Perm σ) (gB:es1.size < scanBound) (gF:t2.fits es1.size = true) (gT:Rg.TabOk (w.params.followText "set-order") t2) {wd:Bool} {R:Option Bool→Shared→Prop}
  (q:∀ h' o',Heap.SameBut a s.heap h'→h'.get? a = some o'→YObj prog w o' σ→R (some true) { s with heap:=h' }) :
  wpAny (model prog w) A (do
   storeSet a es1 t2
   if (!wd && t2.tooFull) = true then do
    g (relayAll t2 es1 (SetTable.grown es1.size)).2.2
    storeSet a (relayAll t2 es1 (SetTable.grown es1.size)).1 (relayAll t2 es1 (SetTable.grown es1.size)).2.1
    pure (some true)
   else pure (some true)) R E s:=by
 have g1:=z_stored (es':=es1) (t':=t2) gO gD
 have sb:=Heap.SameBut.update s.heap a (Obj.putSet es1 t2)
 refine wpAny_bind (wpAny_storeSet_of gO gD ?_ (fits_of_scanBound gB))
 split
 ·have rp:=relayAll_perm t2 es1 (SetTable.grown es1.size)
  have rf:=relayAll_fits t2 es1 (SetTable.grown es1.size)
  have rt:=gT.relayAll es1 (SetTable.grown es1.size)
  obtain ⟨⟨es2,t3,gv⟩,hR⟩:∃ r,relayAll t2 es1 (SetTable.grown es1.size) = r:=⟨_,rfl⟩
  rw [hR] at rp rf rt ⊢
  dsimp only at rp rf rt ⊢
  have hz:es2.size < scanBound:=by
   have:=rp.length_eq
   rw [Array.length_toList,Array.length_toList] at this
   omega
  refine wpAny_bind (hg _ _ _ (wpAny_bind (wpAny_storeSet_of g1 rfl (wpAny_pure ?_) (fits_of_scanBound hz))))
  exact q _ _ (sb.trans (Heap.SameBut.update _ a _)) (z_stored g1 rfl) ⟨gX,es2,_,t3,rfl,gE.perm rp,(rp.map _).trans gP,rf,rt⟩
 ·exact wpAny_pure (q _ _ sb g1 ⟨gX,es1,_,t2,rfl,gE,gP,gF,gT⟩)
theorem y_add {a : Addr} {o : Obj} {σ : List Str} {v : Str} {tk : Tok} {Q : Bool → Shared → Prop} (gO : s.heap.get? a = some o) (gZ : YObj prog w o σ) (room : σ.length + 1 < scanBound)
  (q:∀ b h' o',Heap.SameBut a s.heap h'→h'.get? a = some o'→YObj prog w o' (step_dedup σ v)→Q b { s with heap:=h' }) :
  wpAny (model prog w) A (setAddHashed a (.str v tk) ((PySem.strKind prog w).hash v)) Q E s:=by
 obtain ⟨gX,es,ep,t,gD,gE,gP,gF,gT⟩:=gZ
 have gB:es.size + 1 < scanBound:=by rw [y_len gP]; exact room
 have key:=PySem.strKind_is prog w v tk
 have scn:(Value.str v tk).scannable = true:=rfl
 unfold setAddHashed setAddHashedIn
 refine wpAny_holding (wpAny_bind (wpAny_setState_of gO gD gF ?_))
 dsimp only
 rw [byScan_of scn (show es.size < scanBound by omega) gE,if_pos rfl]
 unfold setAddByScan
 refine wpAny_bind (wpAny_bind (wpAny_rule (wpAny_bind (wpAny_setScan_of key gO gD gF gE ?_))))
 cases fi:List.findIdx? (fun e=>(PySem.strKind prog w).is v e.2) es.toList with
 | some j =>
  dsimp only
  obtain ⟨hj,pj,_⟩:=List.findIdx?_eq_some_iff_getElem.mp fi
  have mem:=List.getElem_mem hj
  rw [elemS_is gE mem] at pj
  have m:v ∈ yks es:=List.mem_map.mpr ⟨_,mem,of_decide_eq_true pj⟩
  refine wpAny_pure (wpAny_pure (q _ s.heap o (Heap.SameBut.refl a s.heap) gO ?_))
  unfold step_dedup
  rw [if_pos ((y_any gP v).mpr m)]
  exact ⟨gX,es,ep,t,gD,gE,gP,gF,gT⟩
 | none =>
  dsimp only
  have nm:¬ σ.any (· == v) = true:=fun z=>by
   obtain ⟨e,he,ee⟩:=List.mem_map.mp ((y_any gP v).mp z)
   have:=List.findIdx?_eq_none_iff.mp fi e he
   rw [elemS_is gE he,decide_eq_true ee] at this
   cases this
  have lp:=layNew_perm t es ((PySem.strKind prog w).hash v) (.str v tk)
  have lf:=layNew_fits t es ((PySem.strKind prog w).hash v) (.str v tk)
  have lt:=gT.layNew es ((PySem.strKind prog w).hash v) (.str v tk)
  obtain ⟨⟨es1,t1,wd,gv⟩,hL⟩:∃ r,layNew t es ((PySem.strKind prog w).hash v) (.str v tk) = r:=⟨_,rfl⟩
  rw [hL] at lp lf lt ⊢
  dsimp only at lp lf lt ⊢
  rw [Array.toList_push] at lp
  have e1:ElemsOf (PySem.strKind prog w) es1.toList:=(gE.push key scn).perm lp
  have p1:(yks es1).Perm (step_dedup σ v):=by
   unfold step_dedup
   rw [if_neg nm]
   have:=lp.map fun e=>yk e.2
   rw [List.map_append] at this
   exact this.trans (gP.append_right _)
  have b1:es1.size < scanBound:=by
   have:=lp.length_eq
   rw [Array.length_toList,List.length_append,Array.length_toList,List.length_singleton] at this
   omega
  have gw:∀ (b:Bool) (s₁:Shared) (Q':Unit→Shared→Prop),Q' () s₁→wpAny (model prog w) A (match b with | true=>rule "set.scan.the-table-gave-way" | false=>pure ()) Q' E s₁:=fun b s₁ Q' z=>by
   cases b
   ·exact wpAny_pure z
   ·exact wpAny_rule z
  have lf2:(if plainKind (Value.str v tk) = true then t1 else { t1 with plain:=false }).fits es1.size = true:=by split <;> exact lf
  have lt2:Rg.TabOk (w.params.followText "set-order") (if plainKind (Value.str v tk) = true then t1 else { t1 with plain:=false }):=by
   split
   ·exact lt
   ·exact lt.plain
  refine wpAny_bind (gw _ _ _ ?_)
  split
  ·rw [hashByValue_scannable 8 scn]
   refine wpAny_bind (wpAny_pure ?_)
   refine y_tail gw gO gX gD e1 p1 b1 lf2 lt2 ?_
   intro h' o' sb' g' z'
   exact wpAny_pure (q _ h' o' sb' g' z')
  ·refine wpAny_bind (wpAny_pure ?_)
   refine y_tail gw gO gX gD e1 p1 b1 lf lt ?_
   intro h' o' sb' g' z'
   exact wpAny_pure (q _ h' o' sb' g' z')
end
section
variable {prog:Program} {w:World} {A:Around} {R:Result→Shared→Prop} {I:Addr} {fp wr:List Addr} {G:Array GenState→Array GenState→Prop} {n:Nat} {P:Nat→Value→Prop} {St:Nat→Shared→Prop}
theorem y_loop (W : WalksS prog w A.in1 I fp wr G n P St) (z : Addr) (nz : z ∉ fp) (f : Nat → Str) (hf : ∀ i v, P i v → ∃ t, v = .str (f i) t) (nb : n + 1 < scanBound) :
  ∀ (k i:Nat) (s:Shared) (o:Obj),n - i = k→i ≤ n→St i s→s.heap.get? z = some o→YObj prog w o (metS f i) →
   (∀ s' o',Moved (z :: wr) G s s'→s'.heap.get? z = some o'→YObj prog w o' (metS f n)→R (.ok (.ret .none)) s')→codeAny (model prog w) A (.builtin "set.update.loop" ⟨[.ref z,.ref I],[]⟩) R s:=by
 have nw:z ∉ wr:=fun m=>nz (W.sub _ m)
 have mw:∀ b ∈ wr,b ∈ z :: wr:=fun b m=>List.mem_cons_of_mem _ m
 intro k
 induction k with
 | zero =>
  intro i s o ek le st gO gZ out
  obtain rfl:i = n:=by omega
  refine codeAny_builtin F.entry_set_update_loop ?_
  rw [Around.under_plainId F.plain_set_update_loop _]
  refine wpAny_bind (m:=pyNext (.ref I)) (W.done s _ _ st fun s' mv=>?_)
  exact wpAny_pure (out s' o (mv.mono mw) (mv.heap z _ nw gO) gZ)
 | succ k ih =>
  intro i s o ek le st gO gZ out
  have lt:i < n:=by omega
  refine codeAny_builtin F.entry_set_update_loop ?_
  rw [Around.under_plainId F.plain_set_update_loop _]
  refine wpAny_bind (m:=pyNext (.ref I)) (W.item i s _ _ lt st fun v s' pv st' mv=>?_)
  obtain ⟨t,rfl⟩:=hf i v pv
  have gO':=mv.heap z _ nw gO
  refine wpAny_bind (m:=holding [Value.str (f i) t] (setAdd z (.str (f i) t))) (wpAny_holding ?_)
  unfold setAdd
  refine wpAny_holding (wpAny_bind ((PySem.strKind prog w).pyHash (k:=f i) (PySem.strKind_is _ _ _ _) ?_))
  have fl:=metS_len f i
  refine y_add (s:={ s' with toks:=s'.toks + 1 }) (tk:=t) gO' gZ (by omega) fun b h' o' sb g' z'=>?_
  rw [← metS_succ] at z'
  refine wpAny_pure ⟨plainId_quiet F.plain_set_update_loop _,ih (i + 1) _ o' (by omega) lt (W.frame _ s' _ _ st' (Nat.le_succ _) fun c hc u e=>?_) g' z' fun s'' o'' mv' g'' z''=>?_⟩
  ·rw [sb.2 c (fun e':c = z=>nz (by rw [← e']; exact hc))]
   exact e
  ·refine out s'' o'' (Moved.trans W.gtrans ((mv.mono mw).then_heap (Nat.le_succ _) fun c u hc e=>?_) mv') g'' z''
   rw [sb.2 c (fun e':c = z=>hc (by rw [e']; exact List.mem_cons_self))]
   exact e
end
section
variable {prog:Program} {w:World} {A:Around} {E:Value→Shared→Prop} {s:Shared}
theorem yNew_ok (prog:Program) (w:World):YObj prog w (zNew w) [] :=
 ⟨⟨rfl,rfl,rfl⟩,#[],0,_,rfl,(fun e m=>by simp at m),List.Perm.refl _,rfl,Rg.TabOk.fresh _⟩
theorem y_call {l : Addr} {items : Array Value} {ns : List Str} {Q : Value → Shared → Prop} (un : A.handled = none) (gL : s.heap.IsList l items) (gI : StrsAre items.toList ns) (nb : items.size + 1 < scanBound)
  (q:∀ (h':Heap) (tk:Nat) (o:Obj),h'.get? s.heap.objs.size = some o→YObj prog w o (metS (fun i=>ns.getD i "") items.size)→(∀ b u,b < s.heap.objs.size→s.heap.get? b = some u→h'.get? b = some u) →
   Q (.ref s.heap.objs.size) { s with heap:=h',toks:=tk }):wpAny (model prog w) A (call (.type "set") [.ref l]) Q E s:=by
 obtain ⟨c,tl,mro⟩:=F.called_set.mro
 have made:=F.called_set.made
 have sub:=F.called_set.sub
 have c1:=F.called_set.notType
 have c2:=F.called_set.canCreate
 have c3:=F.typeCall_set_1 (.ref l)
 refine wpAny_call (codeAny_of_tree (show wpAny _ _ (callAny (.type "set") _) _ _ _ from wpAny_pure ⟨Code.quiet_builtin _ (by decide +kernel),codeAny_builtin F.entry_type_call ?_⟩))
 rw [Around.under_plain (weight_type_call_type "set" [.ref l] []) rfl]
 repeat (any_goals (first | assumption | wp_step))
 refine codeAny_mono (z_new (.ref l) (E:=E) (Q₁:=fun x s₁=>x = .ref s.heap.objs.size∧s₁ = { s with heap:=s.heap.push (zNew w) }) ⟨rfl,rfl⟩) fun r s₁ hr=>?_
 cases r with
 | error e=>exact hr
 | ok fl =>
  cases fl with
  | ret x =>
   obtain ⟨rfl,rfl⟩:=hr
   have g0:(s.heap.push (zNew w)).get? s.heap.objs.size = some (zNew w):=Heap.get?_push_size _ rfl
   have tS:Shared.TypeIs { s with heap:=s.heap.push (zNew w) } (.ref s.heap.objs.size) "set":=⟨_,g0,rfl⟩
   have li:=F.called_set.init.lookup
   have bi:=F.called_set.init.bind (.ref s.heap.objs.size)
   repeat (any_goals (first | assumption | wp_step))
   refine codeAny_mono (codeAny_call_builtin (R := wants (fun r s₂ => r = .none ∧ ∃ h' tk o, s₂ = { s with heap := h', toks := tk } ∧ h'.get? s.heap.objs.size = some o ∧ YObj prog w o (metS (fun i => ns.getD i "") items.size) ∧
     (∀ b u,b < s.heap.objs.size→s.heap.get? b = some u→h'.get? b = some u)) E) F.called_set.init.plain F.entry_set_init (check_set_init_1 tS ?_)) fun r₂ s₂ hr₂=>?_
   ·obtain ⟨ol,gl,cl,nl,dl⟩:=gL
    obtain ⟨o1,o2,o3,o4⟩:=ol
    simp only at cl dl
    subst cl
    subst dl
    have gl':(s.heap.push (zNew w)).get? l = some { cls:=.type "list",dict:=o2,data:=.seq items nl,slots:=o4 }:=Heap.get?_push_of_some _ gl
    have y1:=F.sub_list_set
    have y2:=F.sub_list_frozenset
    have y3:(Value.type "list" == Value.type "dict") = false:=by decide
    have gL1:(s.heap.push (zNew w)).IsList l items:=⟨_,gl',rfl,nl,rfl⟩
    unfold Builtin.«set.__init__» noKeywords Builtin.Frozenset.updateFrom
    generalize eP:pyIter = PI
    wp_walk
    subst eP
    refine wpAny_pyIter_list gL1 (wpAny_bind (wpAny_runValue ?_))
    have ls:l < s.heap.objs.size:=Heap.lt_size gl
    have un3:A.in1.in1.in1.handled = none:=by simp [un]
    have sz1:(s.heap.push (zNew w)).objs.size = s.heap.objs.size + 1:=Heap.size_push _ _
    have nI:l ≠ (s.heap.push (zNew w)).objs.size:=by rw [sz1]; exact Nat.ne_of_lt (Nat.lt_succ_of_lt ls)
    have nz:s.heap.objs.size ∉ [(s.heap.push (zNew w)).objs.size,l]:=by
     rw [sz1]
     simp only [List.mem_cons,List.not_mem_nil,or_false,not_or]
     exact ⟨Nat.ne_of_lt (Nat.lt_succ_self _),Nat.ne_of_gt ls⟩
    have hv:∀ (i:Nat) (v:Value),items[i]? = some v→∃ t,v = .str ((fun i=>ns.getD i "") i) t:=fun i v e=>StrsAre.str_at gI i v (by rw [Array.getElem?_toList]; exact e)
    refine y_loop ((Walks.list un3 _ l nI items).toS) s.heap.objs.size nz (fun i=>ns.getD i "") hv nb (items.size - 0) 0 _ (zNew w) (by omega) (Nat.zero_le _) ⟨⟨_,Heap.get?_push_size _ rfl,rfl,rfl⟩,(gL1.push _)⟩ (Heap.get?_push_of_some _ g0) (yNew_ok prog w) ?_
    intro s' o' mv g' z'
    obtain ⟨h',g1,d1,tk',os'⟩:=s'
    obtain rfl:g1 = s.gens:=mv.gens
    obtain rfl:d1 = s.drawn:=mv.drawn
    obtain rfl:os' = s.os:=mv.os
    refine wpAny_pure (show wpAny _ _ (ret Value.none) _ _ _ from wpAny_pure ⟨rfl,h',tk',o',rfl,g',z',fun b u lb e=>?_⟩)
    refine mv.heap b u ?_ (Heap.get?_push_of_some _ (Heap.get?_push_of_some _ e))
    simp only [List.mem_cons,List.not_mem_nil,or_false,not_or]
    exact ⟨Nat.ne_of_lt lb,by rw [sz1]; exact Nat.ne_of_lt (Nat.lt_succ_of_lt lb)⟩
   ·cases r₂ with
    | error e=>exact hr₂
    | ok fl₂ =>
     cases fl₂ with
     | ret r =>
      obtain ⟨rfl,h',tk,o,rfl,g',z',k'⟩:=hr₂
      repeat (any_goals (first | assumption | wp_step))
      exact q h' tk o g' z' k'
     | _=>exact hr₂.elim
  | _=>exact hr.elim
end
section
variable {prog:Program} {w:World} {A:Around} {E:Value→Shared→Prop} {s:Shared}
theorem y_rest {vals : List Value} {ns : List Str} {Q : Value → Shared → Prop} (hI : StrsAre vals ns) (vl : vals.length < 64)
  (q:∀ (out:Array Value) (ns':List Str),StrsAre out.toList ns'→ns'.Perm ns→sortedS ns' = true→Q (.ref s.heap.objs.size) { s with heap:=sortedHeap (s.heap.push (seqObj "list" vals.toArray 0)) s.heap.objs.size vals out }) :
  wpAny (model prog w) A (do
   let l ← newList vals
   let _ ← holding [l] (call (.builtin "list.sort") [l] [])
   ret l) (fun fin s'=>∃ v,fin = Fin.done (Flow.ret v)∧Q v s') E s:=by
 refine wpAny_bind (wpAny_newList ?_)
 have g1:(s.heap.push (seqObj "list" vals.toArray 0)).get? s.heap.objs.size = some (seqObj "list" vals.toArray 0):=Heap.get?_push_size _ rfl
 show wpAny _ _ _ _ _ { s with heap:=s.heap.push (seqObj "list" vals.toArray 0) }
 refine wpAny_bind (wpAny_holding (wpAny_call_entry slot_list_sort ⟨_,g1,rfl⟩ entry_list_sort (list_sort_treeK strKind_oneLt g1 hI.keysOf (fun v₁ v₂ rest e=>keyKind_strs (by rw [← e]; exact hI)) vl fun st' a1 a2=>⟨_,rfl,?_⟩) (args_list_sort _)))
 obtain ⟨ss',b1,b2,b3⟩:=sorted_out_str hI a1 a2
 exact wpAny_pure ⟨_,rfl,q _ ss' b1 b2 b3⟩
end
theorem strs_of:∀ {l:List Value},(∀ v ∈ l,∃ tk,v = .str (yk v) tk)→StrsAre l (l.map yk)
 | [],_=>.nil
 | v :: r,h=>by
  obtain ⟨tk,e⟩:=h v List.mem_cons_self
  have ih:=strs_of fun x hx=>h x (List.mem_cons_of_mem _ hx)
  rw [List.map_cons,e]
  exact .cons _ tk ih
section
variable {prog:Program} {w:World} {A:Around} {E:Value→Shared→Prop} {s:Shared}
theorem y_sorted (un : A.handled = none) {z : Addr} {o : Obj} {σ : List Str} {Q : Value → Shared → Prop} (gO : s.heap.get? z = some o) (gZ : YObj prog w o σ) (h64 : σ.length < 64)
  (q:∀ (h1:Heap) (d:Drawn) (tk:Nat) (vals:List Value) (out:Array Value) (ns:List Str),s.heap.objs.size < h1.objs.size→(∀ b u,s.heap.get? b = some u→h1.get? b = some u)→StrsAre out.toList ns→ns.Perm σ→sortedS ns = true→Q (.ref h1.objs.size) { s with heap:=sortedHeap (h1.push (seqObj "list" (vals.toArray) 0)) h1.objs.size vals out,drawn:=d,toks:=tk }) :
  wpAny (model prog w) A (call (.builtin "sorted") [.ref z]) Q E s:=by
 obtain ⟨gX,es,ep,t,gD,gE,gP,gF,gT⟩:=gZ
 have hz:=y_len gP
 have gB:es.size < scanBound:=by rw [hz]; exact Nat.lt_trans h64 (by decide)
 have un1:A.in1.handled = none:=un
 refine Calls.call_function_entry kind_sorted plain_sorted entry_sorted (args_sorted1 _) ?_
 unfold Builtin.«sorted»
 refine wpAny_bind (m:=checkCount "sorted" 1 1 _) (wpAny_pure ?_)
 refine wpAny_bind (m:=collect (.ref z)) (w_collect un1 gX gO gD gF gT gB fun h1 d tk vals hp lt1 k1=>?_)
 have hI:StrsAre vals (vals.map yk):=strs_of fun v hv=>by
  obtain ⟨e,he,rfl⟩:=List.mem_map.mp (hp.mem_iff.mp hv)
  exact elem_str gE he
 have hpz:(vals.map yk).Perm σ:=by
  have:=hp.map yk
  rw [List.map_map] at this
  exact this.trans gP
 have vl:vals.length < 64:=by
  have h1:=hp.length_eq
  rw [List.length_map] at h1
  have h2:es.toList.length = es.size:=Array.length_toList
  rw [h1,h2,hz]
  exact h64
 exact y_rest (s:={ s with heap:=h1,drawn:=d,toks:=tk }) hI vl fun out ns' a1 a2 a3=>q h1 d tk vals out ns' lt1 k1 a1 (a2.trans hpz) a3
end
section
variable {X:Cx} {K:PySem.W.Frag} {P:Program} {w:World}
def gSetY (P:Program) (w:World) (K:PySem.W.Frag):List V→Hp→VK→Prop:=fun xs H Q=>match xs with
 | [.ref a]=>∃ ns:List Str,SqL K H a (ns.map V.str)∧ns.length + 1 < 4096∧∀ p o,H p = none→YObj P w o (distS ns)→Q (.ref p) (upd H p (.frz o anyHO))
 | _=>False
theorem c_setY (hc:X.calm = true) (hK:X.K = K:=by rfl) (hP:X.prog = P:=by rfl) (hw:X.w = w:=by rfl):Irr (CallR X (.type "set") (gSetY P w K)):=by
 refine .mk ?_
 subst hK
 subst hP
 subst hw
 intro pins s σ H xs us Q I r h
 unfold gSetY at h
 split at h
 ·obtain ⟨ns,hS,hl,q⟩:=h
  obtain ⟨u,rfl,rx⟩:=vals1 r
  cases rx
  obtain ⟨its,rv,pl,hz⟩:=I.list hS
  have hlen:its.length = ns.length:=by have:=rv.length; rw [List.length_map] at this; exact this.symm
  have hsz:its.toArray.size = ns.length:=by rw [List.size_toArray]; exact hlen
  refine y_call (items:=its.toArray) (ns:=ns) (I.ok.hd hc) pl.isList (by simpa using strs_are rv) (by rw [hsz]; exact hl) fun h' tk o g z k=>?_
  rw [metS_dist ns _ hsz] at z
  exact ⟨.ref _,_,I.laid (t':=tk) (fun b o e=>k b o (Heap.lt_size e) e) (Nat.le_refl _) (ok_any g),rfl,q _ o (I.hok.fresh (Nat.le_refl _)) z⟩
 ·exact h.elim
def gSortY (P:Program) (w:World):List V→Hp→VK→Prop:=fun xs H Q=>match xs with
 | [.ref a]=>∃ o τ,Kn H a o∧YObj P w o τ∧τ.length < 64∧∀ p (ns:List Str),H p = none→ns.Perm τ→sortedS ns = true→Q (.ref p) (upd H p (.lst (ns.map V.str)))
 | _=>False
theorem strs_rel:∀ {vs:List Value} {ns:List Str},StrsAre vs ns→Vals (ns.map V.str) vs
 | _,_,.nil=>.nil
 | _,_,.cons n t h=>.cons ⟨t,rfl⟩ (strs_rel h)
theorem c_sortY (hc:X.calm = true) (hP:X.prog = P:=by rfl) (hw:X.w = w:=by rfl):Irr (CallR X (.builtin "sorted") (gSortY P w)):=by
 refine .mk ?_
 subst hP
 subst hw
 intro pins s σ H xs us Q I r h
 unfold gSortY at h
 split at h
 ·obtain ⟨o,τ,hk,hz,hl,q⟩:=h
  obtain ⟨u,rfl,rx⟩:=vals1 r
  cases rx
  refine y_sorted (I.ok.hd hc) (hk.get I.hok) hz hl fun h1 d tk vals out ns lt k1 hI hp hs=>?_
  have g1:(h1.push (seqObj "list" vals.toArray 0)).get? h1.objs.size = some (seqObj "list" vals.toArray 0):=Heap.get?_push_size _ rfl
  obtain ⟨e,g2⟩:=sortedHeap_at (out:=out) g1
  have kept:∀ b u,s.heap.get? b = some u→(sortedHeap (h1.push (seqObj "list" vals.toArray 0)) h1.objs.size vals out).get? b = some u:=fun b u hb=>by
   have lb:b < h1.objs.size:=Heap.lt_size (k1 b u hb)
   rw [sortedHeap_old (Nat.ne_of_lt lb) (by rw [size_push']; exact Nat.lt_succ_of_lt lb)]
   exact Heap.get?_push_of_some _ (k1 b u hb)
  have big:(1000000:Nat) < sizeLine:=by rw [sizeLine_eq]; decide
  have nl:ns.length = τ.length:=hp.length_eq
  have new:ObjOk X.prog X.w (upd H h1.objs.size (.lst (ns.map V.str))) (sortedHeap (h1.push (seqObj "list" vals.toArray 0)) h1.objs.size vals out) h1.objs.size (.lst (ns.map V.str)):=⟨by rw [List.length_map]; omega,out.toList,e,strs_rel hI,g2⟩
  exact ⟨.ref _,_,(I.drew d).laid (t':=tk) kept (Nat.le_of_lt lt) new,rfl,q _ ns (I.hok.fresh (Nat.le_of_lt lt)) hp hs⟩
 ·exact h.elim
end
end L2
namespace L2
open PySem PySem.Spec PyProof.Rows Rg
theorem strs_get:∀ {vs:List Value} {ss:List Str},vs.length = ss.length→(∀ (i:Nat) (v:Value) (x:Str),vs[i]? = some v→ss[i]? = some x→∃ t,v = .str x t)→StrsAre vs ss
 | [],[],_,_=>.nil
 | v :: vs,x :: ss,hl,h=>by
  obtain ⟨t,e⟩:=h 0 v x rfl rfl
  subst e
  exact .cons x t (strs_get (Nat.succ.inj hl) fun i v x a b=>h (i + 1) v x a b)
 | [],_ :: _,hl,_=>nomatch hl
 | _ :: _,[],hl,_=>nomatch hl
section
variable {prog:Program} {w:World} {A:Around} {E:Value→Shared→Prop} {s:Shared} {T:String} {r d:Addr} {n:Nat} {P:Nat→Value→Prop} {OK:Heap→Prop}
theorem d_collect (K : PySem.W.KdlSrc prog w T r d n P OK) (un : A.handled = none) (hok : OK s.heap) (hn : n ≤ sizeLine) {Q : List Value → Shared → Prop}
  (q:∀ h' tk (acc:Array Value),ItemsOf P acc n→s.heap.objs.size < h'.objs.size→(∀ b u,s.heap.get? b = some u→h'.get? b = some u)→Q acc.toList { s with heap:=h',toks:=tk }):wpAny (model prog w) A (collect (.ref r)) Q E s:=by
 unfold collect
 refine wpAny_bind (wpAny_runValue (codeAny_builtin F.entry_proto_collect ?_))
 rw [Around.under_plainId F.plain_proto_collect _]
 refine wpAny_bind (m:=newList []) (wpAny_newObj_type ?_)
 refine wpAny_pure ⟨plainId_quiet F.plain_list_iadd _,codeAny_builtin F.entry_list_iadd ?_⟩
 rw [Around.under_plainId F.plain_list_iadd _]
 have hlt:=K.there _ hok
 obtain ⟨H1,e1⟩:∃ H1,s.heap.push { cls:=.type "list",data:=.seq ([]:List Value).toArray } = H1:=⟨_,rfl⟩
 rw [e1]
 have k1:∀ b u,s.heap.get? b = some u→H1.get? b = some u:=fun b u e=>by rw [← e1]; exact Heap.get?_push_of_some _ e
 have gL1:H1.get? s.heap.objs.size = some { cls:=.type "list",data:=.seq #[] 0 }:=by rw [← e1]; exact Heap.get?_push_size _ rfl
 show wpAny _ A.in1 (Builtin.List.listExtendWith (.ref s.heap.objs.size) (.ref r) (.ref s.heap.objs.size)) _ _ _
 have fin : ∀ (s' : Shared), (∃ h' tk acc' c', s' = { s with heap := h', toks := tk } ∧ (∀ b o, b ≠ s.heap.objs.size → H1.get? b = some o → h'.get? b = some o) ∧ h'.get? s.heap.objs.size = some { cls := .type "list", dict := none, data := .seq acc' c', slots := #[] } ∧ ItemsOf P acc' n) →
   wpAny (model prog w) A (do let o ← load s.heap.objs.size; match o.data with | Data.seq xs _=>pure xs.toList | _=>unsupported "internal:collect") Q E s':=fun s' h=>by
  obtain ⟨h',tk,acc',c',rfl,hk,hS,hacc⟩:=h
  refine wpAny_bind (wpAny_load hS (wpAny_pure ?_))
  exact q h' tk acc' hacc (Heap.lt_size hS) fun b u e=>hk b u (Nat.ne_of_lt (Heap.lt_size e)) (k1 b u e)
 refine wpAny_mono (PySem.W.kdl_extend (R:=fun r' s'=>r' = .ok (.ret (.ref s.heap.objs.size))∧∃ h' tk acc' c',s' = { s with heap:=h',toks:=tk }∧(∀ b o,b ≠ s.heap.objs.size→H1.get? b = some o→h'.get? b = some o)∧h'.get? s.heap.objs.size = some { cls:=.type "list",dict:=none,data:=.seq acc' c',slots:=#[] }∧ItemsOf P acc' n)
  (s:={ s with heap:=H1 }) K un (K.keep _ _ hok fun b _ o e=>k1 b o e) s.heap.objs.size (Nat.ne_of_gt hlt.1) (Nat.ne_of_gt hlt.2) (.ref s.heap.objs.size) 0 gL1 (fun h' tk acc' c' hk hS hacc=>⟨rfl,h',tk,acc',c',rfl,hk,hS,hacc⟩) hn) (fun f s' h=>?_) (fun e s' h=>?_)
 ·cases f with
  | done f =>
   obtain ⟨e,h⟩:=h
   cases e
   exact fin s' h
  | again c' =>
   refine ⟨h.1,codeAny_mono h.2 fun r2 s2 h2=>?_⟩
   obtain ⟨e,h⟩:=h2
   subst e
   exact fin s2 h
 ·cases h.1
theorem d_sorted (un : A.handled = none) {kvs : List (Key × Value)} {ep : Nat} {ks : List Str} {Q : Value → Shared → Prop} (lo : (d == sysModules) = false) (hD : s.heap.DictAt (mixKind prog w) d kvs ep) (hk : kvs.map (·.1) = ks.map Sum.inr) (h64 : ks.length < 64)
  (q:∀ (h1:Heap) (tk:Nat) (vals:List Value) (out:Array Value) (ns:List Str),s.heap.objs.size < h1.objs.size→(∀ b u,s.heap.get? b = some u→h1.get? b = some u)→StrsAre out.toList ns→ns.Perm ks→sortedS ns = true→Q (.ref h1.objs.size) { s with heap:=sortedHeap (h1.push (seqObj "list" (vals.toArray) 0)) h1.objs.size vals out,toks:=tk }) :
  wpAny (model prog w) A (call (.builtin "sorted") [.ref d]) Q E s:=by
 have un1:A.in1.handled = none:=un
 have hb:(1000000:Nat) < sizeLine:=by rw [sizeLine_eq]; decide
 have hl:kvs.length = ks.length:=by have:=congrArg List.length hk; rw [List.length_map,List.length_map] at this; exact this
 refine Calls.call_function_entry kind_sorted plain_sorted entry_sorted (args_sorted1 _) ?_
 unfold Builtin.«sorted»
 refine wpAny_bind (m:=checkCount "sorted" 1 1 _) (wpAny_pure ?_)
 refine wpAny_bind (m:=collect (.ref d)) (d_collect (PySem.W.kdl_dict (knd:=mixKind prog w) (kvs:=kvs) (ep:=ep) lo) un1 hD (by omega) fun h1 tk acc it lt1 k1=>?_)
 have hsz:acc.toList.length = ks.length:=by rw [Array.length_toList,it.1,hl]
 have hI:StrsAre acc.toList ks:=strs_get hsz fun i v x hv hx=>by
  obtain ⟨k,y,e1,e2⟩:=it.2 i v (by rw [← Array.getElem?_toList]; exact hv)
  have e3:(kvs.map (·.1))[i]? = some k:=by rw [List.getElem?_map,e1]; rfl
  rw [hk,List.getElem?_map,hx] at e3
  have e4:(Sum.inr x:Key) = k:=Option.some.inj e3
  subst e4
  rcases keyIs_shape (k:=.inr x) e2 with ⟨_,_,z,_⟩ | ⟨y,t,z,e⟩
  ·cases z
  ·cases z; exact ⟨t,e⟩
 exact y_rest (s:={ s with heap:=h1,toks:=tk }) hI (by omega) fun out ns' a1 a2 a3=>q h1 tk acc.toList out ns' lt1 k1 a1 a2 a3
end
section
variable {X:Cx} {K:PySem.W.Frag} {P:Program} {w:World}
def gSortD:List V→Hp→VK→Prop:=fun xs H Q=>match xs with
 | [.ref a]=>∃ kvs:List (Str × V),H a = some (.dK (kvs.map fun kv=>(.inr kv.1,kv.2)))∧kvs.length < 64∧∀ p (ns:List Str),H p = none→ns.Perm (kvs.map (·.1))→sortedS ns = true→Q (.ref p) (upd H p (.lst (ns.map V.str)))
 | _=>False
theorem kv_keys {κ:Type}:∀ {kvs:List (κ × V)} {vs:List (κ × Value)},KV kvs vs→vs.map (·.1) = kvs.map (·.1)
 | _,_,.nil=>rfl
 | _,_,.cons r t=>by rw [List.map_cons,List.map_cons,kv_keys t,r.1]
theorem c_sortD (hc:X.calm = true):Irr (CallR X (.builtin "sorted") gSortD):=by
 refine .mk ?_
 intro pins s σ H xs us Q I r h
 unfold gSortD at h
 split at h
 ·rename_i a
  obtain ⟨kvs,h1,hl,q⟩:=h
  obtain ⟨u,rfl,rx⟩:=vals1 r
  cases rx
  obtain ⟨z,hd,vs,rel,o,es,ep,dd⟩:=dk_of I.hok h1
  refine d_sorted (ks:=kvs.map (·.1)) (I.ok.hd hc) hd ⟨o,es,dd⟩ (by rw [kv_keys rel,List.map_map,List.map_map]; rfl) (by rw [List.length_map]; exact hl) fun h1 tk vals out ns lt k1 hI hp hs=>?_
  have g1:(h1.push (seqObj "list" vals.toArray 0)).get? h1.objs.size = some (seqObj "list" vals.toArray 0):=Heap.get?_push_size _ rfl
  obtain ⟨e,g2⟩:=sortedHeap_at (out:=out) g1
  have kept:∀ b u,s.heap.get? b = some u→(sortedHeap (h1.push (seqObj "list" vals.toArray 0)) h1.objs.size vals out).get? b = some u:=fun b u hb=>by
   have lb:b < h1.objs.size:=Heap.lt_size (k1 b u hb)
   rw [sortedHeap_old (Nat.ne_of_lt lb) (by rw [size_push']; exact Nat.lt_succ_of_lt lb)]
   exact Heap.get?_push_of_some _ (k1 b u hb)
  have big:(1000000:Nat) < sizeLine:=by rw [sizeLine_eq]; decide
  have nl:ns.length = kvs.length:=by have:=hp.length_eq; rw [List.length_map] at this; exact this
  have new:ObjOk X.prog X.w (upd H h1.objs.size (.lst (ns.map V.str))) (sortedHeap (h1.push (seqObj "list" vals.toArray 0)) h1.objs.size vals out) h1.objs.size (.lst (ns.map V.str)):=⟨by rw [List.length_map]; omega,out.toList,e,strs_rel hI,g2⟩
  exact ⟨.ref _,_,I.laid (t':=tk) kept (Nat.le_of_lt lt) new,rfl,q _ ns (I.hok.fresh (Nat.le_of_lt lt)) hp hs⟩
 ·exact h.elim
def gLenG (P:Program) (w:World) (K:PySem.W.Frag):List V→Hp→VK→Prop:=fun xs H Q=>(∃ a kvs ep,xs = [.ref a]∧GAt P w K H a kvs ep∧Q (.int kvs.length) H)∨(∃ a kvs,xs = [V.ref a]∧H a = some (.dK kvs)∧Q (.int kvs.length) H)∨gLen K xs H Q
theorem call_glen {A : Around} {E : Value → Shared → Prop} {s : Shared} {d : Addr} {xs : GP} {ep : Nat} {Q : Value → Shared → Prop} (hd : (d == sysModules) = false) (hm : GDict P w s.heap d xs ep) (hfit : (xs.length : Int) < 2 ^ 63)
  (h:Q (.int xs.length (s.toks + 1)) { s with toks:=s.toks + 1 + 1 }):wpAny (model P w) A (call (.builtin "len") [.ref d]) Q E s:=by
 refine Calls.call_function_entry kind_len plain_len entry_len (args_len1 _) ?_
 unfold Builtin.«len»
 refine wpAny_bind (m:=oneArg "len" _) (wpAny_pure ?_)
 refine wpAny_bind (m:=callSpecial? (.ref d) (Str.ofString "__len__")) (wpAny_callSpecial?_slot (name:=Str.ofString "__len__") hm.typeIs F.slot_dict_len
  (call_meetsIn F.slot_dict_len hm.typeIs F.entry_dict_len (F.args_dict_len_1 _) (meets_glen hd) ⟨xs,ep,hm,?_⟩))
 show wpAny _ _ _ _ _ { s with toks:=s.toks + 1 }
 refine wpAny_bind (wpAny_holding (wpAny_pure ?_))
 refine wpAny_bind (wpAny_letGo ?_)
 show wpAny _ _ (if ((xs.length:Nat):Int) < 0 then _ else _) _ _ _
 rw [if_neg (by omega)]
 show wpAny _ _ (if ((xs.length:Nat):Int) ≥ 2 ^ 63 then _ else _) _ _ _
 rw [if_neg (by omega)]
 exact wpAny_bind (wpAny_mkInt (wpAny_pure ⟨_,rfl,h⟩))
theorem c_lenG (hK:X.K = K:=by rfl) (hP:X.prog = P:=by rfl) (hw:X.w = w:=by rfl):Irr (CallR X (.builtin "len") (gLenG P w K)):=by
 refine .mk ?_
 subst hK hP hw
 intro pins s σ H xs us Q I r h
 rcases h with ⟨a,kvs,ep,rfl,g0,q⟩ | ⟨a,kvs,rfl,g0,q⟩ | h
 ·obtain ⟨u,rfl,rx⟩:=vals1 r
  cases rx
  obtain ⟨xs,g,rl⟩:=gdict_of I g0
  have hl:=g0.2.2.2.1
  refine call_glen g0.2.2.1 g (by rw [← rl.length]; omega) ?_
  exact ⟨.int kvs.length,H,I.tok _,⟨_,by rw [rl.length]⟩,q⟩
 ·exact call_lenD pins s σ H _ us Q I r ⟨a,kvs,rfl,g0,q⟩
 ·exact (c_len rfl).out pins s σ H _ us Q I r h
def gIsiG (P:Program) (w:World) (K:PySem.W.Frag):List V→Hp→VK→Prop:=fun xs H Q=>(∃ a kvs ep Tn b,xs = [.ref a,.ty Tn]∧GAt P w K H a kvs ep∧PySem.W.kitOne K (.type "dict") (.type Tn) = some b∧Q (.bl b) H)∨gIsi K xs H Q
end
end L2
namespace L2
open PySem PySem.Spec PyProof.Rows
section
variable {X:Cx} {K:PySem.W.Frag} {P:Program} {w:World}
theorem c_isiG (hK:X.K = K:=by rfl) (hP:X.prog = P:=by rfl) (hw:X.w = w:=by rfl):Irr (CallR X (.builtin "isinstance") (gIsiG P w K)):=by
 refine .mk ?_
 subst hK hP hw
 intro pins s σ H xs us Q I r h
 rcases h with ⟨a,kvs,ep,Tn,b,rfl,g0,e,q⟩ | h
 ·obtain ⟨u,w',rfl,r1,r2⟩:=vals2 r
  cases r2
  obtain rfl:u = Value.ref a:=r1
  obtain ⟨xs,g,rl⟩:=gdict_of I g0
  exact PySem.W.kia_one PySem.W.kitx_dict I.kIn g.typeIs e (fun z=>nomatch z) fun tk=>⟨.bl b,H,I.tok tk,rfl,q⟩
 ·exact (c_isiD rfl).out pins s σ H _ us Q I r h
end
section
variable {P:Program} {w:World} {K:PySem.W.Frag} {H H':Hp} {a b:Addr} {kvs:GV} {ep:Nat} {k:GK} {y v:V}
def KeepsT (K:PySem.W.Frag) (H H':Hp):Prop:=∀ b xs,SqT K H b xs→SqT K H' b xs
theorem KeyV.keeps (s:KeepsT K H H') (h:KeyV K H k y):KeyV K H' k y:=by
 cases k with
 | inl k=>exact h
 | inr ks=>obtain ⟨b,e,hb⟩:=h; exact ⟨b,e,s b _ hb⟩
theorem Same.keepsT (s:Same H H'):KeepsT K H H':=fun b xs h=>s.seqT h
theorem GAt.same (h:GAt P w K H a kvs ep) (s:Same H H'):GAt P w K H' a kvs ep:=⟨s _ _ h.1,h.2.1,h.2.2.1,h.2.2.2.1,fun p hp=>(h.2.2.2.2 p hp).keeps s.keepsT⟩
theorem keepsT_upd {o o':HO} (hb:H b = some o) (nt:(∀ xs,o ≠ .tup xs)∧∀ x u,o ≠ .frz x u):KeepsT K H (upd H b o'):=fun c xs h=>by
 have ne:∀ {u:HO},H c = some u→(u ≠ o)→c ≠ b:=fun {u} e n z=>by
  rw [z,hb] at e
  exact n (Option.some.inj e).symm
 rcases h with (h | ⟨x,h⟩) | h
 ·exact .inl (.inl (by rw [upd_ne (ne h fun z=>nt.1 _ z.symm)]; exact h))
 ·exact .inl (.inr ⟨x,by rw [upd_ne (ne h fun z=>nt.2 _ _ z.symm)]; exact h⟩)
 ·exact .inr h
theorem keepsT_ext {φ:Heap→Prop} {o':HO} (hb:H b = some (.ext φ)):KeepsT K H (upd H b o'):=keepsT_upd hb ⟨(fun xs z=>nomatch z),fun x u z=>nomatch z⟩
theorem keepsT_lst {xs:List V} {o':HO} (hb:H b = some (.lst xs)):KeepsT K H (upd H b o'):=keepsT_upd hb ⟨(fun xs z=>nomatch z),fun x u z=>nomatch z⟩
theorem keepsT_dK {xs:List (Key × V)} {o':HO} (hb:H b = some (.dK xs)):KeepsT K H (upd H b o'):=keepsT_upd hb ⟨(fun xs z=>nomatch z),fun x u z=>nomatch z⟩
theorem GAt.keeps (h:GAt P w K H a kvs ep) (s:KeepsT K H H') (e:H' a = H a):GAt P w K H' a kvs ep:=⟨by rw [e]; exact h.1,h.2.1,h.2.2.1,h.2.2.2.1,fun p hp=>(h.2.2.2.2 p hp).keeps s⟩
theorem gput_keysV (kvs:GV) (k:GK) (y v:V):(gPutV kvs k y v).map (·.1) = if (gVal kvs k).isSome = true then kvs.map (·.1) else kvs.map (·.1) ++ [k]:=by
 unfold gPutV
 split
 ·rw [List.map_map]
  refine List.map_congr_left fun x _=>?_
  show (if x.1 = k then (x.1,x.2.1,v) else x).1 = x.1
  split <;> rfl
 ·rw [List.map_append]; rfl
theorem gval_mem:∀ {kvs:GV},(gVal kvs k).isSome = true ↔ k ∈ kvs.map (·.1)
 | []=>by simp [gVal]
 | x :: r=>by
  have ih:=gval_mem (kvs:=r)
  unfold gVal at ih ⊢
  rw [List.find?_cons,List.map_cons,List.mem_cons]
  by_cases e:x.1 = k
  ·rw [decide_eq_true e]; simp [e]
  ·rw [decide_eq_false e]
   constructor
   ·exact fun h=>.inr (ih.mp h)
   ·rintro (h | h)
    ·exact absurd h.symm e
    ·exact ih.mpr h
theorem gput_len (kvs:GV) (k:GK) (y v:V):(gPutV kvs k y v).length ≤ kvs.length + 1:=by
 unfold gPutV
 split
 ·rw [List.length_map]; omega
 ·rw [List.length_append,List.length_singleton]; exact Nat.le_refl _
theorem GAt.put (h:GAt P w K H a kvs ep) (hk:KeyV K H k y) (hl:kvs.length < 100000) (ep':Nat):GAt P w K (upd H a (GObj P w a (gPutV kvs k y v) ep')) a (gPutV kvs k y v) ep':=by
 have kp:KeepsT K H (upd H a (GObj P w a (gPutV kvs k y v) ep')):=keepsT_ext h.1
 refine ⟨upd_same,?_,h.2.2.1,by have:=gput_len kvs k y v; omega,fun p hp=>?_⟩
 ·rw [gput_keysV]
  split
  ·exact h.2.1
  ·rename_i hn
   rw [List.nodup_append]
   refine ⟨h.2.1,by simp,fun x hx z hz=>?_⟩
   rw [List.mem_singleton.mp hz]
   exact fun e=>hn (gval_mem.mpr (e ▸ hx))
 ·unfold gPutV at hp
  split at hp
  ·obtain ⟨x,hx,rfl⟩:=List.mem_map.mp hp
   have:=(h.2.2.2.2 x hx).keeps kp
   split <;> exact this
  ·rcases List.mem_append.mp hp with z | z
   ·exact (h.2.2.2.2 p z).keeps kp
   ·rw [List.mem_singleton.mp z]; exact hk.keeps kp
theorem GAt.new {p:Addr} (hs:(p == sysModules) = false):GAt P w K (upd H p (GObj P w p [] ep)) p [] ep:=⟨upd_same,List.nodup_nil,hs,Nat.zero_le _,fun _ hp=>by cases hp⟩
end
end L2
namespace L2
open PySem PySem.Spec PyProof.Rows
section
variable {X:Cx} {K:PySem.W.Frag} {P:Program} {w:World} {o e:Expr} {apos cpos:Pos} {td ty:TE}
theorem gat_type {pins : List (Addr × Obj)} {σ : St} {H : Hp} {s : Shared} {a : Addr} {kvs : GV} {ep : Nat} (I : Inv X pins σ H s) (g : GAt X.prog X.w X.K H a kvs ep) :
  s.TypeIs (.ref a) "dict"∧∀ b,Value.ref a = .ref b→∃ ob,s.heap.get? b = some ob∧ob.dict = none:=by
 obtain ⟨xs,⟨o,es,h1,h2,_⟩,_⟩:=gdict_of I g
 exact ⟨⟨o,h1,h2.1⟩,fun b e=>by cases e; exact ⟨o,h1,h2.2.1⟩⟩
def mGGet (P:Program) (w:World) (K:PySem.W.Frag) (td ty:TE):TE:=fun σ H Q=>td σ H fun x H1=>match x with
 | .ref a=>(∃ kvs ep,GAt P w K H1 a kvs ep)∧ty σ H1 fun y H2=>gGetG P w K (.ref a) [y] H2 Q
 | _=>False
theorem j_gget (hu : X.A.units + 64 < cLine) (ho : JE X o td) (he : JE X e ty) (m : M1 X o "get" apos e cpos := by exact ⟨rfl, rfl, rfl, rfl⟩) (hK : X.K = K := by rfl) (hP : X.prog = P := by rfl) (hw : X.w = w := by rfl) :
  JE X (.Call (.Attribute o "get" apos) [e] [] cpos) (mGGet P w K td ty):=by
 refine .mk ?_
 subst hK hP hw
 intro pins s σ H Q I h
 refine wpAny_Call_method m.base m.few m.line PySem.F.plainAttrs_dict PySem.F.slot_dict_get PySem.F.type_dict_get (thn (ho.out pins s σ H _ I h) fun u s1 ⟨x,H1,I1,rx,q1⟩=>?_)
 dsimp only at q1
 cases x with
 | ref a =>
  obtain ⟨⟨kvs,ep,g⟩,q1⟩:=q1
  obtain rfl:u = Value.ref a:=rx
  obtain ⟨t1,t2⟩:=gat_type I1 g
  refine ⟨t1,t2,?_⟩
  rw [m.trees]
  exact Calls.callWith_builtin rfl (Calls.evalArgs_plain (Calls.spliced_cons (thn (he.out pins s1 σ H1 _ I1 q1) fun iv s2 ⟨y,H2,I2,ry,q2⟩=>Calls.spliced_nil ((m_getG hu rfl rfl rfl).out pins s2 σ H2 (.ref a) [y] _ [iv] Q I2 rfl (.cons ry .nil) q2))))
 | _=>exact q1.elim
def mGClear (P:Program) (w:World) (K:PySem.W.Frag) (td:TE):TE:=fun σ H Q=>td σ H fun x H1=>gClearG P w K x [] H1 Q
theorem j_gclear (ho : JE X o td) (hbase : attributeBase o "clear" X.env (eval o X.env) = eval o X.env := by rfl) (hline : (apos.endLine == cpos.line) = true := by rfl) (hK : X.K = K := by rfl) (hP : X.prog = P := by rfl) (hw : X.w = w := by rfl) :
  JE X (.Call (.Attribute o "clear" apos) [] [] cpos) (mGClear P w K td):=by
 refine .mk ?_
 subst hK hP hw
 intro pins s σ H Q I h
 refine wpAny_Call_method0_late hbase hline (thn (ho.out pins s σ H _ I h) fun v s1 ⟨x,H1,I1,r1,q1⟩=>?_)
 cases x with
 | ref a =>
  obtain ⟨kvs,ep,g,q⟩:=id q1
  obtain rfl:v = Value.ref a:=r1
  obtain ⟨t1,t2⟩:=gat_type I1 g
  exact ⟨"dict","dict.clear",PySem.F.plainAttrs_dict,PySem.F.slot_dict_clear,PySem.F.type_dict_clear,t1,t2,Calls.callWith_builtin rfl (PySem.evalArgs_none ((m_clearG rfl rfl rfl).out pins s1 σ H1 (.ref a) [] _ [] Q I1 rfl .nil q1))⟩
 | _=>exact q1.elim
end
end L2
namespace Rg
def wr (c:Nat):Prop:=32 ≤ c∧c ≤ 126∧c ≠ 37
end Rg
namespace Rg
open PySem PySem.Builtin PySem.Builtin.Str
abbrev S (l:List Nat):Str:=⟨l.toArray⟩
theorem S_inj {a b:List Nat} (h:S a = S b):a = b:=by
 have:(S a).cps.toList = (S b).cps.toList:=by rw [h]
 simpa using this
theorem S_of (x:Str):x = S x.cps.toList:=by cases x; simp [S]
theorem S_app (a b:List Nat):S a ++ S b = S (a ++ b):=Str.ext' (by rw [Str.cps_append]; simp)
theorem S_len (a:List Nat):(S a).length = a.length:=by simp [Str.length]
end Rg
namespace Rg
open PySem PySem.Spec PyProof.Rows L2
def low (l:List Nat):Prop:=∀ c ∈ l,c < 0x110000
theorem strOkL {l:List Nat} (h:low l):PyData.strOk (S l) = true:=by
 unfold PyData.strOk
 simp
 intro c hc
 have:=h c hc
 omega
theorem tx_dat {K:PySem.W.Frag} {H:Hp}:∀ ks:List (List Nat),DatVs K H (ks.map fun k=>V.str (S k)) (ks.map fun k=>PyData.str (S k))
 | []=>.nil
 | k :: r=>.cons (.str _) (tx_dat r)
theorem tx_lay:∀ {ks:List (List Nat)},(∀ k ∈ ks,low k)→PyData.canLayAll0 (ks.map fun k=>PyData.str (S k)) = true
 | [],_=>by simp only [List.map_nil,PyData.canLayAll0]
 | k :: r,h=>by
  rw [List.map_cons]
  simp only [PyData.canLayAll0,PyData.canLay0,strOkL (h k List.mem_cons_self),tx_lay fun x hx=>h x (List.mem_cons_of_mem _ hx),Bool.and_self]
theorem tx_deep:∀ ks:List (List Nat),PyData.depthAll (ks.map fun k=>PyData.str (S k)) ≤ 2
 | []=>by simp only [List.map_nil,PyData.depthAll]; omega
 | k :: r=>by
  have ih:=tx_deep r
  rw [List.map_cons]
  simp only [PyData.depthAll,PyData.depth]
  omega
theorem eqS_iff {l m:List Nat}:decide ((S l:Str) = S m) = (l == m):=by
 by_cases h:l = m
 ·rw [h,decide_eq_true rfl]; simp
 ·rw [decide_eq_false fun z=>h (S_inj z)]
  exact (Bool.eq_false_iff.mpr fun z=>h (beq_iff_eq.mp z)).symm
theorem tx_eqv:∀ (ks ms:List (List Nat)),PyData.eqvAll (ks.map fun k=>PyData.str (S k)) (ms.map fun k=>PyData.str (S k)) = (ks == ms)
 | [],[]=>by simp [PyData.eqvAll]
 | [],m :: r=>by simp [PyData.eqvAll]
 | k :: r,[]=>by simp [PyData.eqvAll]
 | k :: r,m :: r'=>by
  have h:PyData.eqv (.str (S k)) (.str (S m)) = (k == m):=by
   rw [← eqS_iff]
   unfold PyData.eqv
   by_cases e:(S k:Str) = S m
   ·simp [e]
   ·simp [e]
  rw [List.map_cons,List.map_cons,PyData.eqvAll,h,tx_eqv r r']
  rfl
end Rg
--@RAISES but law
namespace K30
open PySem PySem.Spec PyProof.Rows L2 Rg
def top (i:Nat):Stmt:=PySem.Challenge.pw_regrowth_k30_first_kinds.main.body.getD i (.Pass ⟨0,0,0,0⟩)
structure Txt (K:PySem.W.Frag) (w:World) (mg:Str→Option Value) (tT:Addr):Prop where
 n_set:mg "set" = none
 n_sorted:mg "sorted" = none
 n_len:mg "len" = none
 n_list:mg "list" = none
 n_tuple:mg "tuple" = none
 n_int:mg "int" = none
 n_str:mg "str" = none
 n_bool:mg "bool" = none
 n_min:mg "min" = none
 n_all:mg "all" = none
 n_zip:mg "zip" = none
 n_range:mg "range" = none
 n_enumerate:mg "enumerate" = none
 n_isinstance:mg "isinstance" = none
 n_dict:mg "dict" = none
 g_NO_RULE:∃ t,mg "NO_RULE" = some (.int (-1) t)
 g_TOP:mg "TOP" = some (.ref tT)
 k_TOP:∀ H,SqT K H tT [.str "",.int 0]
section
variable {P:Program} {w:World} {K:PySem.W.Frag} {mg:Str→Option Value} {base:Heap} {C tS tN tT:Addr}
structure Rl where
 sort:List Nat
 rank:Int
 side:Str
 ps:List (List Nat)
def Rl.dat (q:Rl):PyData:=.tuple [.str (S q.sort),.int q.rank,.str q.side,.tuple (q.ps.map fun l=>.str (S l))]
theorem dat_strs_inv {H:Hp}:∀ {xs:List V} (ls:List (List Nat)),DatVs K H xs (ls.map fun l=>PyData.str (S l))→xs = ls.map fun l=>V.str (S l)
 | _,[],h=>by cases h; rfl
 | _,l :: r,h=>by
  cases h with
  | cons h1 ht=>cases h1; rw [dat_strs_inv r ht]; rfl
theorem dat_rl {H:Hp} {x:V} {q:Rl} (h:DatV K H x q.dat):∃ t tp,x = .ref t∧SqT K H t [.str (S q.sort),.int q.rank,.str q.side,.ref tp]∧SqT K H tp (q.ps.map fun l=>V.str (S l)):=by
 unfold Rl.dat at h
 cases h with
 | tuple hS hd =>
  cases hd with
  | cons h1 hd=>cases h1; cases hd with
   | cons h2 hd=>cases h2; cases hd with
    | cons h3 hd=>cases h3; cases hd with
     | cons h4 hd=>cases hd; cases h4 with
      | tuple hS2 hd2 =>
       rw [dat_strs_inv _ hd2] at hS2
       exact ⟨_,_,rfl,hS,hS2⟩
def ranksR (rs:List Rl) (s:List Nat):List Int:=(rs.filter fun q=>q.sort == s).map Rl.rank
def spRanks (K:PySem.W.Frag):Sp:=fun vs H Q _=>∃ (a:Addr) (rl:List V) (rs:List Rl) (l:List Nat),vs = [.ref a,.str (S l)]∧SqL K H a rl∧DatVs K H rl (rs.map Rl.dat)∧rs.length ≤ 60 ∧
 ∀ H' p (ns:List Int),Same H H'→H' p = some (.lst (ns.map V.int))→ns.Perm (dist (ranksR rs l))→ns.Pairwise (· ≤ ·)→Q (.ref p) H'
theorem dist_len (ns:List Int):(dist ns).length ≤ ns.length:=by
 have h:∀ (l acc:List Int),(l.foldl step_dedup acc).length ≤ acc.length + l.length:=by
  intro l
  induction l with
  | nil=>intro acc; simp
  | cons x r ih =>
   intro acc
   refine Nat.le_trans (ih _) ?_
   have:(step_dedup acc x).length ≤ acc.length + 1:=by unfold step_dedup; split <;> simp
   simp only [List.length_cons]
   omega
 have:=h ns []
 unfold dist
 simpa using this
structure TxR (mg:Str→Option Value):Prop where
 n_set:mg "set" = none
 n_sorted:mg "sorted" = none
abbrev st_ranks_of:Stmt:=top 14
theorem sc_ranks_of:FnScope ["rules","sort"] ["rules","sort"] (defScope st_ranks_of):=⟨rfl,rfl,rfl,by decide +kernel,rfl,by decide +kernel,by decide +kernel⟩
theorem def_ranks (R:Raw K mg "ranks_of" st_ranks_of ["rules","sort"]) (T:TxR mg):Def P w K mg base 1 "ranks_of" ["rules","sort"] (spRanks K):=by
 refine R.defJ sc_ranks_of (fun vs H Q E h=>?_) (fun f cdv A outer s H vs Q E hr h=>?_)
 ·obtain ⟨a,rl,rs,l,rfl,_⟩:=h
  rfl
 ·obtain ⟨a,rl,rs,l,rfl,hS,hD,hl,q⟩:=h
  have sc:=sc_ranks_of
  have hu:=hr.units
  have hrl:rl.length = rs.length:=by have:=hD.length; rw [List.length_map] at this; exact this
  refine ⟨_,(jss_one (js_ret (j_callB (c_sortZ rfl (P:=P) (w:=w)) rfl T.n_sorted boot_sorted (ja_cons (j_callTy (c_setZ rfl (K:=K) (P:=P) (w:=w)) rfl T.n_set boot_set (ja_cons (j_comp (N:=["rule","sort"]) (cap:=[none,some 1]) rfl (CompScope.of rfl (by rfl)) (ji_any (K:=K) (jn 0)) (fun _ _ _ _=>(jg_name (i:=0) (show List.Nodup [("rule":Str),("sort":Str)] by decide +kernel) rfl (Or.inl rfl))) (fun _ _ _ _=>(jts_one (jt_cmp (o_eqA hu (K:=K)) (j_ix (o_ix hu (K:=K) (w:=w)) (jn 0) j_int) (jn 1)))) (fun _ _ _ _=>(j_ix (o_ix hu (K:=K) (w:=w)) (jn 0) j_int))) ja_nil)) ja_nil)))),?_⟩
  refine .inl ⟨⟨_,hS⟩,?_⟩
  refine gath_list (xs:=rl) (fun i ys σ' H'=>H' = H∧ys = (ranksR (rs.take i) l).map V.int∧∃ v,σ' = [v,some (.str (S l))]) (by omega) ⟨rfl,rfl,none,rfl⟩
   (fun i ys σ' H' h=>by rw [h.2.1,List.length_map]; unfold ranksR; rw [List.length_map]; exact Nat.le_trans (List.length_filter_le _ _) (by rw [List.length_take]; omega)) (fun i ys σ' H' h=>by rw [h.1]; exact hS) ?_ ?_
  ·rintro i x ys σ' H' hi ⟨rfl,rfl,v,rfl⟩
   obtain ⟨dd,hdd,hx⟩:=hD.get hi
   rw [List.getElem?_map] at hdd
   cases ee:rs[i]? with
   | none=>rw [ee] at hdd; cases hdd
   | some g =>
    rw [ee] at hdd
    have ed:dd = g.dat:=(Option.some.inj hdd).symm
    subst ed
    obtain ⟨t,tp,rfl,hT,_⟩:=dat_rl hx
    have et:rs.take (i + 1) = rs.take i ++ [g]:=by rw [List.take_add_one,ee]; rfl
    refine .inr ⟨_,.str (S g.sort),hT,atI_nat (j:=0) rfl,?_⟩
    show if (false ^^ decide ((S g.sort:Str) = S l)) = true then _ else _
    rw [Bool.false_xor,eqS_iff]
    refine ite2 (fun h=>?_) (fun h=>?_)
    ·refine .inr ⟨_,.int g.rank,hT,atI_nat (j:=1) rfl,rfl,?_,_,rfl⟩
     unfold ranksR
     rw [et,List.filter_append,List.filter_cons_of_pos (p:=fun (q:Rl)=>q.sort == l) h,List.filter_nil,List.map_append,List.map_append]
     rfl
    ·refine ⟨rfl,?_,_,rfl⟩
     unfold ranksR
     rw [et,List.filter_append,List.filter_cons_of_neg (p:=fun (q:Rl)=>q.sort == l) h,List.filter_nil,List.append_nil]
  ·rintro ys σ' H' ⟨rfl,rfl,v,rfl⟩ D hD2
   rw [hrl,List.take_length]
   have hrk:(ranksR rs l).length ≤ 60:=by unfold ranksR; rw [List.length_map]; exact Nat.le_trans (List.length_filter_le _ _) hl
   have s1:Same H' (upd H' D (.lst ((ranksR rs l).map V.int))):=same_new hD2
   have h1:upd H' D (.lst ((ranksR rs l).map V.int)) D = some (.lst ((ranksR rs l).map V.int)):=upd_same
   generalize upd H' D (.lst ((ranksR rs l).map V.int)) = H1 at s1 h1 ⊢
   refine ⟨_,SqL.of h1,by omega,fun p2 o hp2 hz=>?_⟩
   have dl:=dist_len (ranksR rs l)
   refine ⟨o,_,upd_same,hz,by omega,fun p3 ns hp3 hpm hsr=>?_⟩
   exact q _ p3 ns ((s1.trans (same_new hp2)).trans (same_new hp3)) upd_same hpm hsr
def spAbove (K:PySem.W.Frag) (C:Addr):Sp:=fun vs H Q E=>∃ (a:Addr) (ns:List Int) (k:Int),vs = [.ref a,.int k]∧SqL K H a (ns.map V.int)∧ns.length ≤ 60∧0 ≤ k∧k ≤ 99 ∧
 (ns.filter (fun x=>decide (k < x)) = []→∀ H',Same H H'→E (.ref C) none H')∧∀ m r,ns.filter (fun x=>decide (k < x)) = m :: r→∀ H',Same H H'→Q (.int m) H'
theorem small_all:∀ k:Fin 100,((k.val:Int)).natAbs.log2 < 1920∧(Str.ofString (toString (k.val:Int))).length ≤ 1100000:=by decide +kernel
theorem small_txt {k:Int} (h0:0 ≤ k) (h9:k ≤ 99):k.natAbs.log2 < 1920∧(Str.ofString (toString k)).length ≤ 1100000:=by
 have:=small_all ⟨k.toNat,by omega⟩
 have e:((k.toNat:Nat):Int) = k:=Int.toNat_of_nonneg h0
 simp only [e] at this
 exact this
abbrev st_rank_above:Stmt:=top 16
theorem sc_rank_above:FnScope ["ranks","rank","above"] ["ranks","rank"] (defScope st_rank_above):=⟨rfl,rfl,rfl,by decide +kernel,rfl,by decide +kernel,by decide +kernel⟩
structure TxF (K:PySem.W.Frag) (mg:Str→Option Value) (C:Addr):Prop where
 c_NoFloor:mg "NoFloor" = some (.ref C)
 x_NoFloor:PySem.W.excIn K C bmVE "ValueError.__new__" = true
theorem def_above (R:Raw K mg "rank_above" st_rank_above ["ranks","rank"]) (T:TxF K mg C):DefX P w K mg base 1 "rank_above" ["ranks","rank"] (spAbove K C):=by
 refine R.defX sc_rank_above (fun vs H Q E h=>?_) (fun f cdv A outer s H vs Q E hr h=>?_)
 ·obtain ⟨a,ns,k,rfl,_⟩:=h
  rfl
 ·obtain ⟨a,ns,k,rfl,hS,hl,h0,h9,qE,q⟩:=h
  have sc:=sc_rank_above
  have hu:=hr.units
  refine ⟨_,(jss_cons (js_comp (i:=2) (N:=["other","rank"]) (cap:=[none,some 1]) rfl (CompScope.of rfl (by rfl)) (ji_any (K:=K) (jn 0)) (fun _ _ _ _=>(jg_name (i:=0) (show List.Nodup [("other":Str),("rank":Str)] by decide +kernel) rfl (Or.inl rfl))) (fun _ _ _ _=>(jts_one (jt_cmp o_gt (jn 0) (jn 1)))) (fun _ _ _ _=>(jn 0)) sc.nd rfl rfl)
  (jss_cons (js_if (jt_not (jt_tru (K:=K) (jn 2)))
  (jss_one (js_raise rfl T.c_NoFloor T.x_NoFloor (ja_cons (j_fs (jfs_cons jf_str (jfs_cons (jf_plain (jn 1)) jfs_nil))) ja_nil)))
  jss_nil)
  (jss_one (js_ret (j_ix (o_ix hu (K:=K) (w:=w)) (jn 2) j_int))))),?_⟩
  refine .inl ⟨⟨_,hS⟩,?_⟩
  refine gath_list (xs:=ns.map V.int) (fun i ys σ' H'=>H' = H∧ys = ((ns.take i).filter (fun x=>decide (k < x))).map V.int∧∃ v,σ' = [v,some (.int k)]) (by rw [List.length_map]; omega) ⟨rfl,rfl,none,rfl⟩
   (fun i ys σ' H' h=>by rw [h.2.1,List.length_map]; exact Nat.le_trans (List.length_filter_le _ _) (by rw [List.length_take]; omega)) (fun i ys σ' H' h=>by rw [h.1]; exact hS) ?_ ?_
  ·rintro i x ys σ' H' hi ⟨rfl,rfl,v,rfl⟩
   rw [List.getElem?_map] at hi
   cases ee:ns[i]? with
   | none=>rw [ee] at hi; cases hi
   | some g =>
    rw [ee] at hi
    have ex:x = V.int g:=(Option.some.inj hi).symm
    subst ex
    have et:ns.take (i + 1) = ns.take i ++ [g]:=by rw [List.take_add_one,ee]; rfl
    show if decide (g > k) = true then _ else _
    refine ite2 (fun h=>?_) (fun h=>?_)
    ·refine ⟨rfl,?_,_,rfl⟩
     rw [et,List.filter_append,List.filter_cons_of_pos (p:=fun (x:Int)=>decide (k < x)) h,List.filter_nil,List.map_append]
     rfl
    ·refine ⟨rfl,?_,_,rfl⟩
     rw [et,List.filter_append,List.filter_cons_of_neg (p:=fun (x:Int)=>decide (k < x)) h,List.filter_nil,List.append_nil]
  ·rintro ys σ' H' ⟨rfl,rfl,v,rfl⟩ D hD2
   rw [List.length_map,List.take_length]
   have s1:Same H' (upd H' D (.lst ((ns.filter (fun x=>decide (k < x))).map V.int))):=same_new hD2
   have h1:upd H' D (.lst ((ns.filter (fun x=>decide (k < x))).map V.int)) D = some (.lst ((ns.filter (fun x=>decide (k < x))).map V.int)):=upd_same
   generalize upd H' D (.lst ((ns.filter (fun x=>decide (k < x))).map V.int)) = H1 at s1 h1 ⊢
   cases ef:ns.filter (fun x=>decide (k < x)) with
   | nil =>
    rw [ef] at h1
    refine ⟨false,.inl ⟨_,SqL.of h1,rfl⟩,⟨⟨trivial,⟨rfl,.inr ⟨k,rfl,(small_txt h0 h9).1,(small_txt h0 h9).2⟩⟩,trivial⟩,fun y _=>⟨(show 1 ≤ sizeLine by decide),qE ef _ s1⟩⟩⟩
   | cons m r =>
    rw [ef] at h1
    refine ⟨true,.inl ⟨_,SqL.of h1,rfl⟩,?_⟩
    exact .inl ⟨_,.int m,SqL.of h1,atI_nat (j:=0) rfl,q m r ef _ s1⟩
def lowR (q:Rl) (j:Nat) (p:List Nat):Int :=
 if p = q.sort then (if j = 0 then q.rank + (if q.side = "left" then 0 else 1) else if j + 1 = q.ps.length then q.rank + (if q.side = "right" then 0 else 1) else 0) else 0
def fitR (rs:List Rl) (q:Rl) (j:Nat) (p:List Nat):List Int:=(ranksR rs p).filter fun x=>decide (lowR q j p ≤ x)
theorem rank_in {rs:List Rl} {q:Rl} (h:q ∈ rs):q.rank ∈ ranksR rs q.sort:=List.mem_map.mpr ⟨q,List.mem_filter.mpr ⟨h,by simp⟩,rfl⟩
def spFloor (K:PySem.W.Frag) (C:Addr):Sp:=fun vs H Q E=>∃ (a:Addr) (rl:List V) (rs:List Rl) (n j:Nat) (q:Rl) (p:List Nat),vs = [.ref a,.int (n:Nat),.int (j:Nat)]∧SqL K H a rl∧DatVs K H rl (rs.map Rl.dat)∧rs.length ≤ 60 ∧
 rs[n]? = some q∧q.ps[j]? = some p∧(∀ x ∈ rs,0 ≤ x.rank∧x.rank ≤ 99) ∧
 (ranksR rs p = []→∀ H',Same H H'→Q .non H')∧(ranksR rs p ≠ []→fitR rs q j p = []→∀ H',Same H H'→E (.ref C) none H')∧∀ m ∈ fitR rs q j p,(∀ x ∈ fitR rs q j p,m ≤ x)→∀ H',Same H H'→Q (.int m) H'
abbrev st_floor_of:Stmt:=top 15
theorem sc_floor_of:FnScope ["rules","number","place","sort","rank","side","parts","ranks"] ["rules","number","place"] (defScope st_floor_of):=⟨rfl,rfl,rfl,by decide +kernel,rfl,by decide +kernel,by decide +kernel⟩
theorem def_floor (R : Raw K mg "floor_of" st_floor_of ["rules", "number", "place"]) (T : Txt K w mg tT) (D_ranks_of : Def P w K mg base 1 "ranks_of" ["rules", "sort"] (spRanks K)) (D_rank_above : DefX P w K mg base 1 "rank_above" ["ranks", "rank"] (spAbove K C)) :
  DefX P w K mg base 2 "floor_of" ["rules","number","place"] (spFloor K C):=by
 refine R.defX sc_floor_of (fun vs H Q E h=>?_) (fun f cdv A outer s H vs Q E hr h=>?_)
 ·obtain ⟨a,rl,rs,n,j,q,p,rfl,_⟩:=h
  rfl
 ·obtain ⟨a,rl,rs,n,j,q,p,rfl,hS,hD,hl,hq,hp,hrk,qN,qE,qI⟩:=h
  have sc:=sc_floor_of
  have hu:=hr.units
  have hrl:rl.length = rs.length:=by have:=hD.length; rw [List.length_map] at this; exact this
  have hnl:n < rs.length:=(List.getElem?_eq_some_iff.mp hq).1
  have hjl:j < q.ps.length:=(List.getElem?_eq_some_iff.mp hp).1
  have hn:rl[n]? = some (rl[n]'(by omega)):=List.getElem?_eq_getElem (by omega)
  obtain ⟨dd,hdd,hx⟩:=hD.get hn
  rw [List.getElem?_map,hq] at hdd
  have ed:dd = q.dat:=(Option.some.inj hdd).symm
  subst ed
  obtain ⟨t,tp,ex,hT,hTp⟩:=dat_rl hx
  rw [ex] at hn
  have hpj:(q.ps.map fun l=>V.str (S l))[j]? = some (V.str (S p)):=by rw [List.getElem?_map,hp]; rfl
  have mq:q ∈ rs:=List.mem_of_getElem? hq
  have hq0:=hrk q mq
  have hit : ∀ (ns : List Int), Srt ns (ranksR rs p) → ∀ H', Same H H' →
    (lowR q j p = 0→∀ m r,ns = m :: r→Q (.int m) H')∧(lowR q j p = q.rank→p = q.sort→Q (.int q.rank) H') ∧
    (lowR q j p = q.rank + 1→ns ≠ []→(ns.filter (fun x=>decide (q.rank < x)) = []→E (.ref C) none H')∧∀ m r,ns.filter (fun x=>decide (q.rank < x)) = m :: r→Q (.int m) H'):=fun ns hs H' s'=>by
   refine ⟨fun e m r en=>?_,fun e ep=>?_,fun e hne=>⟨fun ef=>?_,fun m r ef=>?_⟩⟩
   ·obtain ⟨h1,h2⟩:=hs.least en
    have ef:fitR rs q j p = ranksR rs p:=by
     unfold fitR
     rw [e,List.filter_eq_self]
     intro x hx
     obtain ⟨g,hg,rfl⟩:=List.mem_map.mp hx
     exact decide_eq_true (hrk g (List.mem_filter.mp hg).1).1
    exact qI m (by rw [ef]; exact h1) (by rw [ef]; exact h2) H' s'
   ·refine qI q.rank (List.mem_filter.mpr ⟨by rw [ep]; exact rank_in mq,decide_eq_true (by omega)⟩) (fun x hx=>?_) H' s'
    have:=of_decide_eq_true (List.mem_filter.mp hx).2
    omega
   ·refine qE (fun z=>hne (hs.nil.mpr z)) ?_ H' s'
    have h2:=(hs.none q.rank).mp ef
    unfold fitR
    rw [List.filter_eq_nil_iff]
    intro x hx
    have:=h2 x hx
    rw [decide_eq_true_eq]
    omega
   ·obtain ⟨h1,h2,h3⟩:=hs.above ef
    refine qI m (List.mem_filter.mpr ⟨h1,decide_eq_true (by omega)⟩) (fun x hx=>?_) H' s'
    obtain ⟨x1,x2⟩:=List.mem_filter.mp hx
    have:=of_decide_eq_true x2
    exact h3 x x1 (by omega)
  refine ⟨_,(jss_cons (js_set (i:=3) sc.nd rfl (Or.inl rfl) (j_ix (o_ix hu (K:=K) (w:=w)) (j_ix (o_ix hu (K:=K) (w:=w)) (jn 0) (jn 1)) j_int))
  (jss_cons (js_set (i:=4) sc.nd rfl (Or.inl rfl) (j_ix (o_ix hu (K:=K) (w:=w)) (j_ix (o_ix hu (K:=K) (w:=w)) (jn 0) (jn 1)) j_int))
  (jss_cons (js_set (i:=5) sc.nd rfl (Or.inl rfl) (j_ix (o_ix hu (K:=K) (w:=w)) (j_ix (o_ix hu (K:=K) (w:=w)) (jn 0) (jn 1)) j_int))
  (jss_cons (js_set (i:=6) sc.nd rfl (Or.inl rfl) (j_ix (o_ix hu (K:=K) (w:=w)) (j_ix (o_ix hu (K:=K) (w:=w)) (jn 0) (jn 1)) j_int))
  (jss_cons (js_set (i:=7) sc.nd rfl (Or.inl rfl) (j_def D_ranks_of (hr.mono (by decide)) rfl (ja_cons (jn 0) (ja_cons (j_ix (o_ix hu (K:=K) (w:=w)) (jn 6) (jn 2)) ja_nil))))
  (jss_cons (js_if (jt_not (jt_tru (K:=K) (jn 7)))
  (jss_one (js_ret j_non))
  jss_nil)
  (jss_cons (js_if (jw_t (jw_and (jt_cmp (o_eqA hu (K:=K)) (j_ix (o_ix hu (K:=K) (w:=w)) (jn 6) (jn 2)) (jn 3)) (jw_and1 (jt_cmp (o_eqA hu (K:=K)) (jn 2) j_int))))
  (jss_one (js_ret (j_ife (jt_cmp (o_eqA hu (K:=K)) (jn 5) j_str) (jn 4) (j_defX D_rank_above (hr.mono (by decide)) rfl (ja_cons (jn 7) (ja_cons (jn 4) ja_nil)) pass1))))
  jss_nil)
  (jss_cons (js_if (jw_t (jw_and (jt_cmp (o_eqA hu (K:=K)) (j_ix (o_ix hu (K:=K) (w:=w)) (jn 6) (jn 2)) (jn 3)) (jw_and1 (jt_cmp (o_eqA hu (K:=K)) (jn 2) (j_op o_sub (j_callB (c_len (K:=K)) rfl T.n_len PySem.boot_len (ja_cons (jn 6) ja_nil)) j_int)))))
  (jss_one (js_ret (j_ife (jt_cmp (o_eqA hu (K:=K)) (jn 5) j_str) (jn 4) (j_defX D_rank_above (hr.mono (by decide)) rfl (ja_cons (jn 7) (ja_cons (jn 4) ja_nil)) pass1))))
  jss_nil)
  (jss_one (js_ret (j_ix (o_ix hu (K:=K) (w:=w)) (jn 7) j_int))))))))))),?_⟩
  refine .inl ⟨_,.ref t,hS,atI_nat hn,.inr ⟨_,.str (S q.sort),hT,atI_nat (j:=0) rfl,?_⟩⟩
  refine .inl ⟨_,.ref t,hS,atI_nat hn,.inr ⟨_,.int q.rank,hT,atI_nat (j:=1) rfl,?_⟩⟩
  refine .inl ⟨_,.ref t,hS,atI_nat hn,.inr ⟨_,.str q.side,hT,atI_nat (j:=2) rfl,?_⟩⟩
  refine .inl ⟨_,.ref t,hS,atI_nat hn,.inr ⟨_,.ref tp,hT,atI_nat (j:=3) rfl,?_⟩⟩
  refine .inr ⟨_,.str (S p),hTp,atI_nat hpj,⟨a,rl,rs,p,rfl,hS,hD,hl,fun H1 pp ns s1 h1 hpm hsr=>?_⟩⟩
  have hit1:=hit ns ⟨hpm,hsr⟩ H1 s1
  have hTp1:=s1.seqT hTp
  have nl:ns.length ≤ 60:=by
   have h2:=dist_len (ranksR rs p)
   have h3:(ranksR rs p).length ≤ rs.length:=by unfold ranksR; rw [List.length_map]; exact List.length_filter_le _ _
   have:=hpm.length_eq
   omega
  cases en:ns with
  | nil =>
   rw [en] at h1
   refine ⟨false,.inl ⟨_,SqL.of h1,rfl⟩,?_⟩
   exact qN ((Srt.nil ⟨hpm,hsr⟩).mp en) H1 s1
  | cons m0 r0 =>
   have hne:ns ≠ []:=by rw [en]; exact List.cons_ne_nil _ _
   refine ⟨true,.inl ⟨_,SqL.of h1,by rw [en]; rfl⟩,?_⟩
   have abv:lowR q j p = q.rank + 1→spAbove K C [.ref pp,.int q.rank] H1 Q E:=fun e =>
    ⟨pp,ns,q.rank,rfl,SqL.of h1,nl,hq0.1,hq0.2,fun ef H2 s2=>((hit ns ⟨hpm,hsr⟩ H2 (s1.trans s2)).2.2 e hne).1 ef,fun m r ef H2 s2=>((hit ns ⟨hpm,hsr⟩ H2 (s1.trans s2)).2.2 e hne).2 m r ef⟩
   refine .inr ⟨_,.str (S p),hTp1,atI_nat hpj,?_⟩
   show if (false ^^ decide ((S p:Str) = S q.sort)) = true then _ else _
   rw [Bool.false_xor]
   refine ite2 (fun hps=>?_) (fun hps=>?_)
   ·have eps:p = q.sort:=S_inj (of_decide_eq_true hps)
    show if (false ^^ decide (((j:Nat):Int) = 0)) = true then _ else _
    rw [Bool.false_xor]
    refine ite2 (fun hj0=>?_) (fun hj0=>?_)
    ·have ej:j = 0:=by have:=of_decide_eq_true hj0; omega
     show if (false ^^ decide (q.side = Str.ofString "left")) = true then _ else _
     rw [Bool.false_xor]
     refine ite2 (fun hs=>?_) (fun hs=>?_)
     ·refine hit1.2.1 ?_ eps
      unfold lowR
      rw [if_pos eps,if_pos ej,if_pos (of_decide_eq_true hs),Int.add_zero]
     ·refine abv ?_
      unfold lowR
      rw [if_pos eps,if_pos ej,if_neg (fun z=>hs (decide_eq_true z))]
    ·have ej:¬ j = 0:=fun z=>hj0 (decide_eq_true (by omega))
     refine .inr ⟨_,.str (S p),hTp1,atI_nat hpj,?_⟩
     show if (false ^^ decide ((S p:Str) = S q.sort)) = true then _ else _
     rw [Bool.false_xor,if_pos hps]
     refine ⟨_,.inr hTp1,?_⟩
     show if (false ^^ decide (((j:Nat):Int) = (((q.ps.map fun l=>V.str (S l)).length:Nat):Int) - 1)) = true then _ else _
     rw [Bool.false_xor,List.length_map]
     refine ite2 (fun hj1=>?_) (fun hj1=>?_)
     ·have ej1:j + 1 = q.ps.length:=by have:=of_decide_eq_true hj1; omega
      show if (false ^^ decide (q.side = Str.ofString "right")) = true then _ else _
      rw [Bool.false_xor]
      refine ite2 (fun hs=>?_) (fun hs=>?_)
      ·refine hit1.2.1 ?_ eps
       unfold lowR
       rw [if_pos eps,if_neg ej,if_pos ej1,if_pos (of_decide_eq_true hs),Int.add_zero]
      ·refine abv ?_
       unfold lowR
       rw [if_pos eps,if_neg ej,if_pos ej1,if_neg (fun z=>hs (decide_eq_true z))]
     ·have ej1:¬ j + 1 = q.ps.length:=fun z=>hj1 (decide_eq_true (by omega))
      refine .inl ⟨_,.int m0,SqL.of h1,atI_nat (j:=0) (by rw [en]; rfl),hit1.1 ?_ m0 r0 en⟩
      unfold lowR
      rw [if_pos eps,if_neg ej,if_neg ej1]
   ·have eps:¬ p = q.sort:=fun z=>hps (decide_eq_true (by rw [z]))
    refine .inr ⟨_,.str (S p),hTp1,atI_nat hpj,?_⟩
    show if (false ^^ decide ((S p:Str) = S q.sort)) = true then _ else _
    rw [Bool.false_xor,if_neg hps]
    refine .inl ⟨_,.int m0,SqL.of h1,atI_nat (j:=0) (by rw [en]; rfl),hit1.1 ?_ m0 r0 en⟩
    unfold lowR
    rw [if_neg eps]
end
end K30
--@RAISES but law
namespace K30
open PySem PySem.Spec PyProof.Rows L2 Rg
section
variable {P:Program} {w:World} {K:PySem.W.Frag} {mg:Str→Option Value} {base:Heap} {C tS tN tT:Addr}
structure TxN (K:PySem.W.Frag) (mg:Str→Option Value) (tS tN C:Addr):Prop where
 n_len:mg "len" = none
 n_any:mg "any" = none
 g_MOST_RULES:∃ t,mg "MOST_RULES" = some (.int 24 t)
 g_MOST_RANK:∃ t,mg "MOST_RANK" = some (.int 99 t)
 g_MOST_PARTS:∃ t,mg "MOST_PARTS" = some (.int 8 t)
 g_SIDES:mg "SIDES" = some (.ref tS)
 g_NO_NAMES:mg "NO_NAMES" = some (.ref tN)
 k_SIDES:∀ H,SqT K H tS [.str "left",.str "right",.str "none"]
 k_NO:∀ H,SqT K H tN [.str "",.str "end",.str "stray"]
 c_NoRule:mg "NoRule" = some (.ref C)
 x_NoRule:PySem.W.excIn K C bmVE "ValueError.__new__" = true
def sideB (x:Str):Bool:=inV (.str x) [.str "left",.str "right",.str "none"]
def noB (l:List Nat):Bool:=inV (.str (S l)) [.str "",.str "end",.str "stray"]
def okB (q:Rl):Bool:=decide (0 ≤ q.rank) && decide (q.rank ≤ 99) && sideB q.side && decide (1 ≤ q.ps.length) && decide (q.ps.length ≤ 8) && !(noB q.sort || q.ps.any noB) && !(q.ps == [q.sort])
structure Fine (q:Rl):Prop where
 rk:q.rank.natAbs.log2 < 1920
 ls:low q.sort
 zs:q.sort.length ≤ 100
 sd:PyData.strOk q.side = true
 zd:q.side.length ≤ 100
 lp:∀ k ∈ q.ps,low k∧k.length ≤ 100
 zp:q.ps.length ≤ 100
theorem lowc {l:List Nat} (h:low l):∀ c ∈ (S l).cps.toList,c < 16 ^ 8:=fun c hc=>by
 have:=h c (by simpa using hc)
 omega
theorem sidec {x:Str} (h:PyData.strOk x = true):∀ c ∈ x.cps.toList,c < 16 ^ 8:=fun c hc=>by
 unfold PyData.strOk at h
 rw [Array.all_eq_true_iff_forall_mem] at h
 have:=of_decide_eq_true (h c (by simpa using hc))
 omega
theorem shown_txt:∀ (ks:List (List Nat)),PyData.shownAll (ks.map fun k=>PyData.str (S k)) = ks.map fun k=>reprText (S k)
 | []=>by simp [PyData.shownAll]
 | k :: r=>by rw [List.map_cons,PyData.shownAll,shown_txt r,PyData.shown]; rfl
theorem show_txt:∀ (ks:List (List Nat)),PyData.showableAll (ks.map fun k=>PyData.str (S k)) = true
 | []=>by simp [PyData.showableAll]
 | k :: r=>by rw [List.map_cons,PyData.showableAll,show_txt r,PyData.showable]; rfl
theorem nodict_txt:∀ (ks:List (List Nat)),PyData.hasDictAll (ks.map fun k=>PyData.str (S k)) = false
 | []=>by simp [PyData.hasDictAll]
 | k :: r=>by rw [List.map_cons,PyData.hasDictAll,nodict_txt r,PyData.hasDict]; rfl
theorem parts_shown {q:Rl} (f:Fine q):(PyData.tuple (q.ps.map fun k=>PyData.str (S k))).shown.length ≤ 1100000:=by
 rw [PyData.shown,shown_txt]
 refine Nat.le_trans (tupT_le (B:=1002) fun t ht=>?_) ?_
 ·obtain ⟨k,hk,rfl⟩:=List.mem_map.mp ht
  obtain ⟨h1,h2⟩:=f.lp k hk
  have h3:=StrLaws.reprText_len (S k) (lowc h1)
  have h4:(S k).length = k.length:=S_len k
  exact Nat.le_trans h3 (by omega)
 ·rw [List.length_map]
  have:=f.zp
  omega
def spCk (K:PySem.W.Frag) (C:Addr):Sp:=fun vs H Q E=>∃ (q:Rl) (tp:Addr),vs = [.str (S q.sort),.int q.rank,.str q.side,.ref tp]∧SqT K H tp (q.ps.map fun l=>V.str (S l))∧Fine q ∧
 (okB q = true→∀ H',Same H H'→Q .non H')∧(okB q = false→∀ H',Same H H'→E (.ref C) none H')
theorem okB_iff (q:Rl):okB q = true ↔ 0 ≤ q.rank∧q.rank ≤ 99∧sideB q.side = true∧1 ≤ q.ps.length∧q.ps.length ≤ 8∧noB q.sort = false∧q.ps.any noB = false∧q.ps ≠ [q.sort]:=by
 unfold okB
 simp only [Bool.and_eq_true,decide_eq_true_eq,Bool.not_eq_true',Bool.or_eq_false_iff,beq_eq_false_iff_ne,ne_eq,and_assoc]
theorem bls_map {α:Type} (g:α→Bool) (l:List α):(l.map g).any id = l.any g:=by induction l with
 | nil=>rfl
 | cons x r ih=>rw [List.map_cons,List.any_cons,List.any_cons,ih]; rfl
abbrev st_check_rule:Stmt:=top 13
theorem sc_check_rule:FnScope ["sort","rank","side","parts"] ["sort","rank","side","parts"] (defScope st_check_rule):=⟨rfl,rfl,rfl,by decide +kernel,rfl,by decide +kernel,by decide +kernel⟩
theorem def_ck (R:Raw K mg "check_rule" st_check_rule ["sort","rank","side","parts"]) (T:TxN K mg tS tN C):DefX P w K mg base 1 "check_rule" ["sort","rank","side","parts"] (spCk K C):=by
 refine R.defX sc_check_rule (fun vs H Q E h=>?_) (fun f cdv A outer s H vs Q E hr h=>?_)
 ·obtain ⟨q,tp,rfl,_⟩:=h
  rfl
 ·obtain ⟨q,tp,rfl,hT,fn,qO,qX⟩:=h
  have sc:=sc_check_rule
  have hu:=hr.units
  have hb:(1000000:Nat) < sizeLine:=by rw [sizeLine_eq]; decide
  have zp:=fn.zp
  have pl:=fun (x:Bool)=>x
  have rkT:q.rank.natAbs.log2 < 1920∧(Str.ofString (toString q.rank)).length ≤ 1100000:=⟨fn.rk,Nat.le_trans (int_text_len_1921 fn.rk) (by decide)⟩
  have dT:DatV K H (.ref tp) (.tuple (q.ps.map fun k=>PyData.str (S k))):=.tuple hT (tx_dat q.ps)
  have dp:=tx_deep q.ps
  have rp:∀ H1,Same H H1→∃ a d,V.ref tp = V.ref a∧DatV K H1 (.ref tp) d∧d.showable = true∧d.hasDict = false∧d.depth ≤ 60∧d.shown.length ≤ 1100000:=fun H1 s1 =>
   ⟨tp,_,rfl,dT.same s1,by rw [PyData.showable]; exact show_txt _,by rw [PyData.hasDict]; exact nodict_txt _,by simp only [PyData.depth]; omega,parts_shown fn⟩
  have rs:∃ x,V.str (S q.sort) = V.str x∧x.length ≤ 100000∧∀ c ∈ x.cps.toList,c < 16 ^ 8:=⟨_,rfl,by rw [S_len]; have:=fn.zs; omega,lowc fn.ls⟩
  have bad:okB q = false→∀ H1,Same H H1→(1 ≤ sizeLine∧E (.ref C) none H1):=fun z H1 s1=>⟨by omega,qX z H1 s1⟩
  refine ⟨_,(jss_cons (js_if (jt_not (jt_chain o_le o_le j_int (jn 1) (j_gint rfl T.g_MOST_RANK)))
  (jss_one (js_raise rfl T.c_NoRule T.x_NoRule (ja_cons (j_fs (jfs_cons jf_str (jfs_cons (jf_plain (j_gint rfl T.g_MOST_RANK)) (jfs_cons jf_str (jfs_cons (jf_plain (jn 1)) jfs_nil))))) ja_nil)))
  jss_nil)
  (jss_cons (js_if (jt_cmp (o_notinA hu (K:=K)) (jn 2) (j_glob (v:=.ref _) rfl T.g_SIDES rfl))
  (jss_one (js_raise rfl T.c_NoRule T.x_NoRule (ja_cons (j_fs (jfs_cons jf_str (jfs_cons (jf_repr (jn 2)) jfs_nil))) ja_nil)))
  jss_nil)
  (jss_cons (js_if (jt_not (jt_chain o_le o_le j_int (j_callB (c_len (K:=K)) rfl T.n_len PySem.boot_len (ja_cons (jn 3) ja_nil)) (j_gint rfl T.g_MOST_PARTS)))
  (jss_one (js_raise rfl T.c_NoRule T.x_NoRule (ja_cons (j_fs (jfs_cons jf_str (jfs_cons (jf_plain (j_gint rfl T.g_MOST_PARTS)) (jfs_cons jf_str (jfs_cons (jf_reprD (K:=K) hr.gd hu (jn 3)) jfs_nil))))) ja_nil)))
  jss_nil)
  (jss_cons (js_if (jw_t (jw_or (jt_cmp (o_inA hu (K:=K)) (jn 0) (j_glob (v:=.ref _) rfl T.g_NO_NAMES rfl)) (jw_or1 (jt_val (j_callB (c_any rfl (K:=K)) rfl T.n_any boot_any (ja_cons (j_comp (N:=["part"]) (cap:=[none]) rfl (CompScope.of rfl (by rfl)) (ji_any (K:=K) (jn 3)) (fun _ _ _ _=>(jg_name (i:=0) (show List.Nodup [("part":Str)] by decide +kernel) rfl (Or.inl rfl))) (fun _ _ _ _=>jts_nil) (fun _ _ _ _=>(j_cmp (o_inA hu (K:=K)) (jn 0) (j_glob (v:=.ref _) rfl T.g_NO_NAMES rfl)))) ja_nil))))))
  (jss_one (js_raise rfl T.c_NoRule T.x_NoRule (ja_cons (j_fs (jfs_cons jf_str (jfs_cons (jf_repr (jn 0)) (jfs_cons jf_str (jfs_cons (jf_reprD (K:=K) hr.gd hu (jn 3)) jfs_nil))))) ja_nil)))
  jss_nil)
  (jss_one (js_if (jt_cmp (o_eqA hu (K:=K)) (jn 3) (j_tup (ja_cons (jn 0) ja_nil)))
  (jss_one (js_raise rfl T.c_NoRule T.x_NoRule (ja_cons (j_fs (jfs_cons jf_str (jfs_cons (jf_repr (jn 0)) jfs_nil))) ja_nil)))
  jss_nil)))))),?_⟩
  have rk99:(toString (99:Int)).length ≤ 1100000:=by decide
  have no1:¬ (0 ≤ q.rank∧q.rank ≤ 99)→tRaise C E (tCons (tFs (cAnd cTrue (cAnd (cPlain (tC (V.int 99))) (cAnd cTrue (cAnd (cPlain (mVar 1)) cTrue))))) tNil) { nx:=fun _ H'=>Q .non H',rt:=Q } [some (.str (S q.sort)),some (.int q.rank),some (.str q.side),some (.ref tp)] H:=fun z =>
   ⟨⟨trivial,⟨rfl,.inr ⟨99,rfl,by decide,by decide +kernel⟩⟩,trivial,⟨rfl,.inr ⟨q.rank,rfl,rkT.1,rkT.2⟩⟩,trivial⟩,fun y _=>bad (Bool.eq_false_iff.mpr fun y=>z ⟨((okB_iff q).mp y).1,((okB_iff q).mp y).2.1⟩) H (Same.refl _)⟩
  show if decide ((0:Int) ≤ q.rank) = true then _ else _
  refine ite2 (fun h0=>?_) (fun h0=>no1 fun z=>h0 (decide_eq_true z.1))
  show if (!decide (q.rank ≤ (99:Int))) = true then _ else _
  refine ite2 (fun h1=>no1 fun z=>?_) (fun h1=>?_)
  ·rw [decide_eq_true z.2] at h1; cases h1
  refine .inl ⟨_,.inr (T.k_SIDES H),rfl,rfl,?_⟩
  show if (true ^^ sideB q.side) = true then _ else _
  refine ite2 (fun h2=>?_) (fun hsd=>?_)
  ·refine ⟨⟨trivial,⟨rfl,⟨_,rfl,by have:=fn.zd; omega,sidec fn.sd⟩⟩,trivial⟩,fun y _=>bad (Bool.eq_false_iff.mpr fun y=>?_) H (Same.refl _)⟩
   rw [((okB_iff q).mp y).2.2.1] at h2; cases h2
  refine ⟨_,.inr hT,?_⟩
  have no3:¬ (1 ≤ q.ps.length∧q.ps.length ≤ 8)→tRaise C E (tCons (tFs (cAnd cTrue (cAnd (cPlain (tC (V.int 8))) (cAnd cTrue (cAnd (cReprD K (mVar 3)) cTrue))))) tNil) { nx:=fun _ H'=>Q .non H',rt:=Q } [some (.str (S q.sort)),some (.int q.rank),some (.str q.side),some (.ref tp)] H:=fun z =>
   ⟨⟨trivial,⟨rfl,.inr ⟨8,rfl,by decide,by decide +kernel⟩⟩,trivial,⟨rfl,rp H (Same.refl _)⟩,trivial⟩,fun y _=>bad (Bool.eq_false_iff.mpr fun y=>z ⟨((okB_iff q).mp y).2.2.2.1,((okB_iff q).mp y).2.2.2.2.1⟩) H (Same.refl _)⟩
  show if decide ((1:Int) ≤ (((q.ps.map fun l=>V.str (S l)).length:Nat):Int)) = true then _ else _
  rw [List.length_map]
  refine ite2 (fun h3=>?_) (fun h3=>no3 fun z=>h3 (decide_eq_true (by omega)))
  show if (!decide (((q.ps.length:Nat):Int) ≤ (8:Int))) = true then _ else _
  refine ite2 (fun h4=>no3 fun z=>?_) (fun h4=>?_)
  ·rw [decide_eq_true (by omega)] at h4; cases h4
  have no5:∀ H1,Same H H1→(noB q.sort = true∨q.ps.any noB = true)→tRaise C E (tCons (tFs (cAnd cTrue (cAnd (cRepr (mVar 0)) (cAnd cTrue (cAnd (cReprD K (mVar 3)) cTrue))))) tNil) { nx:=fun _ H'=>Q .non H',rt:=Q } [some (.str (S q.sort)),some (.int q.rank),some (.str q.side),some (.ref tp)] H1:=fun H1 s1 z =>
   ⟨⟨trivial,⟨rfl,rs⟩,trivial,⟨rfl,rp H1 s1⟩,trivial⟩,fun y _=>bad (Bool.eq_false_iff.mpr fun y=>by
    have y1:=((okB_iff q).mp y).2.2.2.2.2
    rcases z with z | z
    ·rw [y1.1] at z; cases z
    ·rw [y1.2.1] at z; cases z) H1 s1⟩
  refine .inl ⟨_,.inr (T.k_NO H),rfl,rfl,?_⟩
  show if (false ^^ noB q.sort) = true then _ else _
  rw [Bool.false_xor]
  refine ite2 (fun h5=>no5 H (Same.refl _) (.inl h5)) (fun h5=>?_)
  refine .inr ⟨⟨_,hT⟩,?_⟩
  refine gath_tup (xs:=q.ps.map fun l=>V.str (S l)) (fun i ys σ' H'=>H' = H∧ys = bls ((q.ps.take i).map noB)∧∃ v,σ' = [v]) (by rw [List.length_map]; omega) ⟨rfl,rfl,none,rfl⟩
   (fun i ys σ' H' h=>by rw [h.2.1]; simp [bls]; omega) (fun i ys σ' H' h=>by rw [h.1]; exact hT) ?_ ?_
  ·rintro i x ys σ' H' hi ⟨rfl,rfl,v,rfl⟩
   rw [List.getElem?_map] at hi
   cases ee:q.ps[i]? with
   | none=>rw [ee] at hi; cases hi
   | some g =>
    rw [ee] at hi
    have ex:x = V.str (S g):=(Option.some.inj hi).symm
    subst ex
    have et:q.ps.take (i + 1) = q.ps.take i ++ [g]:=by rw [List.take_add_one,ee]; rfl
    refine .inl ⟨_,.inr (T.k_NO _),rfl,rfl,rfl,?_,_,rfl⟩
    rw [et,List.map_append]
    show bls ((q.ps.take i).map noB) ++ [V.bl (false ^^ noB g)] = _
    rw [Bool.false_xor]
    unfold bls
    rw [List.map_append]
    rfl
  ·rintro ys σ' H' ⟨rfl,rfl,v,rfl⟩ D hD
   rw [List.length_map,List.take_length]
   refine ⟨q.ps.map noB,SqL.of upd_same,?_⟩
   have s1:Same H' (upd H' D (.lst (bls (q.ps.map noB)))):=same_new hD
   generalize upd H' D (.lst (bls (q.ps.map noB))) = H1 at s1 ⊢
   rw [bls_map]
   refine ite2 (fun h6=>no5 H1 s1 (.inr h6)) (fun h6=>?_)
   refine ⟨(show 1 ≤ sizeLine by decide),fun p hp=>?_⟩
   have s2:Same H1 (upd H1 p (.tup [V.str (S q.sort)])):=same_new hp
   have h2:SqT K (upd H1 p (.tup [V.str (S q.sort)])) p [V.str (S q.sort)]:=SqT.of upd_same
   generalize upd H1 p (.tup [V.str (S q.sort)]) = H2 at s2 h2 ⊢
   have lay1:=tx_lay (ks:=q.ps) (fun k hk=>(fn.lp k hk).1)
   have lay2:=tx_lay (ks:=[q.sort]) (fun k hk=>by rw [List.mem_singleton.mp hk]; exact fn.ls)
   refine ⟨.tuple (q.ps.map fun k=>PyData.str (S k)),.tuple ([q.sort].map fun k=>PyData.str (S k)),.tuple ((s1.trans s2).seqT hT) (tx_dat q.ps),.tuple h2 (tx_dat [q.sort]),by simp only [PyData.canLay0]; exact lay1,by simp only [PyData.canLay0]; exact lay2,by simp only [PyData.depth]; omega,?_⟩
   show if (false ^^ PyData.eqv _ _) = true then _ else _
   rw [Bool.false_xor,PyData.eqv,tx_eqv]
   refine ite2 (fun h7=>?_) (fun h7=>?_)
   ·exact ⟨⟨trivial,⟨rfl,rs⟩,trivial⟩,fun y _=>bad (Bool.eq_false_iff.mpr fun y=>((okB_iff q).mp y).2.2.2.2.2.2.2 (beq_iff_eq.mp h7)) H2 (s1.trans s2)⟩
   ·refine qO ((okB_iff q).mpr ⟨of_decide_eq_true h0,?_,?_,?_,?_,Bool.eq_false_iff.mpr h5,Bool.eq_false_iff.mpr h6,fun z=>h7 (beq_iff_eq.mpr z)⟩) H2 (s1.trans s2)
    ·by_cases z:q.rank ≤ 99
     ·exact z
     ·exact absurd (by rw [decide_eq_false z]; rfl) h1
    ·cases e:sideB q.side with
     | true=>rfl
     | false=>exact absurd (by rw [e]; rfl) hsd
    ·have:=of_decide_eq_true h3; omega
    ·by_cases z:((q.ps.length:Nat):Int) ≤ 8
     ·omega
     ·exact absurd (by rw [decide_eq_false z]; rfl) h4
def rulesB (rs:List Rl):Bool:=decide (1 ≤ rs.length) && decide (rs.length ≤ 24) && rs.all okB
def spCks (K:PySem.W.Frag) (C:Addr):Sp:=fun vs H Q E=>∃ (a:Addr) (rl:List V) (rs:List Rl),vs = [.ref a]∧SqL K H a rl∧DatVs K H rl (rs.map Rl.dat)∧rs.length ≤ 60∧(∀ q ∈ rs,Fine q) ∧
 (rulesB rs = true→∀ H',Same H H'→Q .non H')∧(rulesB rs = false→∀ H',Same H H'→E (.ref C) none H')
theorem rulesB_iff (rs:List Rl):rulesB rs = true ↔ 1 ≤ rs.length∧rs.length ≤ 24∧∀ q ∈ rs,okB q = true:=by
 unfold rulesB
 simp only [Bool.and_eq_true,decide_eq_true_eq,List.all_eq_true,and_assoc]
theorem small33:∀ k:Fin 61,((k.val:Int)).natAbs.log2 < 1920∧(Str.ofString (toString (k.val:Int))).length ≤ 1100000:=by decide +kernel
abbrev st_check_rules:Stmt:=top 12
theorem sc_check_rules:FnScope ["rules","many","sort","rank","side","parts"] ["rules"] (defScope st_check_rules):=⟨rfl,rfl,rfl,by decide +kernel,rfl,by decide +kernel,by decide +kernel⟩
theorem def_cks (R:Raw K mg "check_rules" st_check_rules ["rules"]) (T:TxN K mg tS tN C) (D_check_rule:DefX P w K mg base 1 "check_rule" ["sort","rank","side","parts"] (spCk K C)):DefX P w K mg base 2 "check_rules" ["rules"] (spCks K C):=by
 refine R.defX sc_check_rules (fun vs H Q E h=>?_) (fun f cdv A outer s H vs Q E hr h=>?_)
 ·obtain ⟨a,rl,rs,rfl,_⟩:=h
  rfl
 ·obtain ⟨a,rl,rs,rfl,hS,hD,hl,fn,qO,qX⟩:=h
  have sc:=sc_check_rules
  have hu:=hr.units
  have hb:(1000000:Nat) < sizeLine:=by rw [sizeLine_eq]; decide
  have hrl:rl.length = rs.length:=by have:=hD.length; rw [List.length_map] at this; exact this
  have sm:=small33 ⟨rs.length,by omega⟩
  refine ⟨_,(jss_cons (js_set (i:=1) sc.nd rfl (Or.inl rfl) (j_callB (c_len (K:=K)) rfl T.n_len PySem.boot_len (ja_cons (jn 0) ja_nil)))
  (jss_cons (js_if (jt_not (jt_chain o_le o_le j_int (jn 1) (j_gint rfl T.g_MOST_RULES)))
  (jss_one (js_raise rfl T.c_NoRule T.x_NoRule (ja_cons (j_fs (jfs_cons jf_str (jfs_cons (jf_plain (j_gint rfl T.g_MOST_RULES)) (jfs_cons jf_str (jfs_cons (jf_plain (jn 1)) jfs_nil))))) ja_nil)))
  jss_nil)
  (jss_one (js_for passes_loop rfl (ji_any (K:=K) (jn 0)) (jg_tup (K:=K) (n:=4) rfl (jgs_cons (jg_name (i:=2) sc.nd rfl (Or.inl rfl)) (jgs_cons (jg_name (i:=3) sc.nd rfl (Or.inl rfl)) (jgs_cons (jg_name (i:=4) sc.nd rfl (Or.inl rfl)) (jgs_cons (jg_name (i:=5) sc.nd rfl (Or.inl rfl)) jgs_nil)))))
  (jss_one (js_expr (j_defX D_check_rule (hr.mono (by decide)) rfl (ja_cons (jn 2) (ja_cons (jn 3) (ja_cons (jn 4) (ja_cons (jn 5) ja_nil)))) pass1))))))),?_⟩
  refine ⟨_,.inl hS,?_⟩
  have no1:¬ (1 ≤ rs.length∧rs.length ≤ 24)→tRaise C E (tCons (tFs (cAnd cTrue (cAnd (cPlain (tC (V.int 24))) (cAnd cTrue (cAnd (cPlain (mVar 1)) cTrue))))) tNil) { nx:=fun _ H'=>Q .non H',rt:=Q } [some (.ref a),some (.int (rl.length:Nat)),none,none,none,none] H:=fun z =>
   ⟨⟨trivial,⟨rfl,.inr ⟨24,rfl,by decide,by decide +kernel⟩⟩,trivial,⟨rfl,.inr ⟨(rl.length:Nat),rfl,by rw [hrl]; exact sm.1,by rw [hrl]; exact sm.2⟩⟩,trivial⟩,fun y _=>⟨(show 1 ≤ sizeLine by decide),qX (Bool.eq_false_iff.mpr fun y=>z ⟨((rulesB_iff rs).mp y).1,((rulesB_iff rs).mp y).2.1⟩) H (Same.refl _)⟩⟩
  show if decide ((1:Int) ≤ ((rl.length:Nat):Int)) = true then _ else _
  refine ite2 (fun h0=>?_) (fun h0=>no1 fun z=>h0 (decide_eq_true (by omega)))
  show if (!decide (((rl.length:Nat):Int) ≤ (24:Int))) = true then _ else _
  refine ite2 (fun h1=>no1 fun z=>?_) (fun h1=>?_)
  ·rw [decide_eq_true (by omega)] at h1; cases h1
  have h1':rs.length ≤ 24:=by
   by_cases z:((rl.length:Nat):Int) ≤ 24
   ·omega
   ·exact absurd (by rw [decide_eq_false z]; rfl) h1
  have h0':1 ≤ rs.length:=by have:=of_decide_eq_true h0; omega
  refine .inl ⟨⟨_,hS⟩,for_list (K:=K) (a:=a) (xs:=rl) (fun i σ H'=>Same H H'∧(∀ q ∈ rs.take i,okB q = true)∧∃ v2 v3 v4 v5:Option V,σ = [some (.ref a),some (.int (rl.length:Nat)),v2,v3,v4,v5]) ⟨Same.refl _,(fun q hq=>by simp at hq),none,none,none,none,rfl⟩ (fun i σ H' _ h=>h.1.seq hS) ?_ ?_⟩
  ·rintro i x σ H' hi ⟨s1,hok,v2,v3,v4,v5,rfl⟩
   obtain ⟨dd,hdd,hx⟩:=hD.get hi
   rw [List.getElem?_map] at hdd
   cases ee:rs[i]? with
   | none=>rw [ee] at hdd; cases hdd
   | some g =>
    rw [ee] at hdd
    have ed:dd = g.dat:=(Option.some.inj hdd).symm
    subst ed
    obtain ⟨t,tp,rfl,hT,hTp⟩:=dat_rl hx
    have et:rs.take (i + 1) = rs.take i ++ [g]:=by rw [List.take_add_one,ee]; rfl
    have hg:=List.mem_of_getElem? ee
    refine ⟨t,_,rfl,s1.seqT hT,rfl,_,_,rfl,_,_,rfl,_,_,rfl,_,_,rfl,rfl,?_⟩
    refine ⟨g,tp,rfl,s1.seqT hTp,fn g hg,fun e H2 s2=>?_,fun e H2 s2=>?_⟩
    ·refine ⟨s1.trans s2,fun q hq=>?_,_,_,_,_,rfl⟩
     rw [et] at hq
     rcases List.mem_append.mp hq with z | z
     ·exact hok q z
     ·rw [List.mem_singleton.mp z]; exact e
    ·refine qX (Bool.eq_false_iff.mpr fun y=>?_) H2 (s1.trans s2)
     rw [((rulesB_iff rs).mp y).2.2 g hg] at e; cases e
  ·rintro σ H' ⟨s1,hok,v2,v3,v4,v5,rfl⟩
   rw [hrl,List.take_length] at hok
   exact qO ((rulesB_iff rs).mpr ⟨h0',h1',hok⟩) H' s1
end
end K30
--@RAISES but law
namespace K30
open PySem PySem.Spec PyProof.Rows L2 Rg
section
variable {P:Program} {w:World} {K:PySem.W.Frag} {mg:Str→Option Value} {base:Heap} {C tS tN tT:Addr}
abbrev Th:=List Nat × Int
def thP (t:Th):Str × Int:=(S t.1,t.2)
theorem thP_inj {t u:Th} (h:thP t = thP u):t = u:=by
 obtain ⟨a,b⟩:=t
 obtain ⟨c,d⟩:=u
 unfold thP at h
 injection h with h1 h2
 exact Prod.ext (S_inj h1) h2
def minL:List Int→Int
 | []=>-1
 | x :: r=>r.foldl min x
theorem foldl_min:∀ (r:List Int) (x:Int),(r.foldl min x = x∨r.foldl min x ∈ r)∧r.foldl min x ≤ x∧∀ y ∈ r,r.foldl min x ≤ y
 | [],x=>⟨.inl rfl,Int.le_refl _,fun y h=>nomatch h⟩
 | z :: r,x=>by
  obtain ⟨h1,h2,h3⟩:=foldl_min r (min x z)
  rw [List.foldl_cons]
  refine ⟨?_,by omega,fun y hy=>?_⟩
  ·rcases h1 with h | h
   ·rw [h]
    by_cases hxz:x ≤ z
    ·exact .inl (by omega)
    ·exact .inr (List.mem_cons.mpr (.inl (by omega)))
   ·exact .inr (List.mem_cons_of_mem _ h)
  ·rcases List.mem_cons.mp hy with e | e
   ·omega
   ·exact h3 y e
theorem minL_mem {l:List Int} (h:l ≠ []):minL l ∈ l∧∀ x ∈ l,minL l ≤ x:=by
 cases l with
 | nil=>exact absurd rfl h
 | cons x r =>
  obtain ⟨h1,h2,h3⟩:=foldl_min r x
  show r.foldl min x ∈ x :: r∧_
  refine ⟨?_,fun y hy=>?_⟩
  ·rcases h1 with e | e
   ·rw [e]; exact List.mem_cons_self
   ·exact List.mem_cons_of_mem _ e
  ·show r.foldl min x ≤ y
   rcases List.mem_cons.mp hy with e | e
   ·rw [e]; exact h2
   ·exact h3 y e
theorem minL_of {l:List Int} {m:Int} (h:m ∈ l) (h2:∀ x ∈ l,m ≤ x):m = minL l:=by
 obtain ⟨a,b⟩:=minL_mem (l:=l) (fun z=>by rw [z] at h; cases h)
 have:=b m h
 have:=h2 _ a
 omega
abbrev Sy:=List Nat × Option Int
def syD (s:Sy):PyData:=match s.2 with
 | none=>.str (S s.1)
 | some r=>pD (S s.1,r)
def symP (rs:List Rl) (q:Rl) (j:Nat):Sy:=(q.ps.getD j [],if ranksR rs (q.ps.getD j []) = [] then none else some (minL (fitR rs q j (q.ps.getD j []))))
def symsP (rs:List Rl) (q:Rl):List Sy:=(List.range q.ps.length).map (symP rs q)
theorem symsP_len (rs:List Rl) (q:Rl):(symsP rs q).length = q.ps.length:=by unfold symsP; simp
def badP (rs:List Rl) (q:Rl) (j:Nat):Bool:=decide (ranksR rs (q.ps.getD j []) ≠ []) && decide (fitR rs q j (q.ps.getD j []) = [])
def badQ (rs:List Rl) (q:Rl):Bool:=(List.range q.ps.length).any (badP rs q)
theorem sy_dat {H:Hp} {x:V} {s:Sy} (h:DatV K H x (syD s)):(s.2 = none∧x = .str (S s.1))∨∃ r a,s.2 = some r∧x = .ref a∧SqT K H a (pV (S s.1,r)):=by
 obtain ⟨l,o⟩:=s
 cases o with
 | none=>cases h; exact .inl ⟨rfl,rfl⟩
 | some r=>obtain ⟨a,e,hT⟩:=pD_inv (show DatV K H x (pD (S l,r)) from h); exact .inr ⟨r,a,rfl,e,hT⟩
theorem dat_sy {H:Hp} {a:Addr} {l:List Nat} {r:Int} (h:SqT K H a (pV (S l,r))):DatV K H (.ref a) (syD (l,some r)):=.tuple h (.cons (.str _) (.cons (.int _) .nil))
inductive NoL:PyData→Prop
 | int (i:Int):NoL (.int i)
 | str (x:Str):NoL (.str x)
 | tuple {ds:List PyData}:(∀ d ∈ ds,NoL d)→NoL (.tuple ds)
def WrAt (H:Hp) (b:Addr):Prop:=(∃ l,H b = some (.lst l))∨(∃ φ,H b = some (.ext φ))∨∃ k,H b = some (.dK k)
theorem sqT_wr {H:Hp} {b:Addr} {o:HO} (hb:WrAt H b) {a:Addr} {xs:List V} (h:SqT K H a xs):SqT K (upd H b o) a xs:=by
 have ne:∀ {u:HO},H a = some u→(∀ l,u ≠ .lst l)→(∀ φ,u ≠ .ext φ)→(∀ k,u ≠ .dK k)→a ≠ b:=fun {u} e n1 n2 n3 z=>by
  rcases hb with ⟨l,e2⟩ | ⟨l,e2⟩ | ⟨l,e2⟩ <;> rw [z,e2] at e
  ·exact n1 l (Option.some.inj e).symm
  ·exact n2 l (Option.some.inj e).symm
  ·exact n3 l (Option.some.inj e).symm
 rcases h with (h | ⟨o',h⟩) | h
 ·exact .inl (.inl (by rw [upd_ne (ne h (fun l z=>nomatch z) (fun l z=>nomatch z) fun l z=>nomatch z)]; exact h))
 ·exact .inl (.inr ⟨o',by rw [upd_ne (ne h (fun l z=>nomatch z) (fun l z=>nomatch z) fun l z=>nomatch z)]; exact h⟩)
 ·exact .inr h
mutual
theorem dat_wr {H:Hp} {b:Addr} {o:HO} (hb:WrAt H b):∀ {x:V} {d:PyData},NoL d→DatV K H x d→DatV K (upd H b o) x d
 | _,_,.int _,.int _=>.int _
 | _,_,.str _,.str _=>.str _
 | _,_,.tuple n,.tuple hS hd=>.tuple (sqT_wr hb hS) (dats_wr hb n hd)
theorem dats_wr {H:Hp} {b:Addr} {o:HO} (hb:WrAt H b):∀ {xs:List V} {ds:List PyData},(∀ d ∈ ds,NoL d)→DatVs K H xs ds→DatVs K (upd H b o) xs ds
 | _,_,_,.nil=>.nil
 | _,_,n,.cons h ht=>.cons (dat_wr hb (n _ List.mem_cons_self) h) (dats_wr hb (fun d hd=>n d (List.mem_cons_of_mem _ hd)) ht)
end
theorem pD_noL (p:Str × Int):NoL (pD p):=.tuple fun d hd=>by
 rcases List.mem_cons.mp hd with e | e
 ·rw [e]; exact .str _
 ·rw [List.mem_singleton.mp e]; exact .int _
theorem sy_noL (s:Sy):NoL (syD s):=by
 obtain ⟨l,o⟩:=s
 cases o with
 | none=>exact .str _
 | some r=>exact pD_noL _
def spSym (K:PySem.W.Frag) (C:Addr):Sp:=fun vs H Q E=>∃ (a:Addr) (rl:List V) (rs:List Rl) (n:Nat) (q:Rl),vs = [.ref a,.int (n:Nat)]∧SqL K H a rl∧DatVs K H rl (rs.map Rl.dat)∧rs.length ≤ 60∧rs[n]? = some q∧(∀ x ∈ rs,0 ≤ x.rank∧x.rank ≤ 99)∧q.ps.length ≤ 100 ∧
 (badQ rs q = true→∀ H',Same H H'→E (.ref C) none H')∧(badQ rs q = false→∀ H' t,Same H H'→DatV K H' (.ref t) (.tuple ((symsP rs q).map syD))→Q (.ref t) H')
abbrev st_symbols_of:Stmt:=top 21
theorem sc_symbols_of:FnScope ["rules","number","symbols","place","part","floor"] ["rules","number"] (defScope st_symbols_of):=⟨rfl,rfl,rfl,by decide +kernel,rfl,by decide +kernel,by decide +kernel⟩
theorem def_sym (R:Raw K mg "symbols_of" st_symbols_of ["rules","number"]) (T:Txt K w mg tT) (D_floor_of:DefX P w K mg base 2 "floor_of" ["rules","number","place"] (spFloor K C)):DefX P w K mg base 3 "symbols_of" ["rules","number"] (spSym K C):=by
 refine R.defX sc_symbols_of (fun vs H Q E h=>?_) (fun f cdv A outer s H vs Q E hr h=>?_)
 ·obtain ⟨a,rl,rs,n,q,rfl,_⟩:=h
  rfl
 ·obtain ⟨a,rl,rs,n,q,rfl,hS,hD,hl,hq,hrk,hp8,qE,qI⟩:=h
  have sc:=sc_symbols_of
  have hu:=hr.units
  have hb:(1000000:Nat) < sizeLine:=by rw [sizeLine_eq]; decide
  have hrl:rl.length = rs.length:=by have:=hD.length; rw [List.length_map] at this; exact this
  have hnl:n < rs.length:=(List.getElem?_eq_some_iff.mp hq).1
  have hn:rl[n]? = some (rl[n]'(by omega)):=List.getElem?_eq_getElem (by omega)
  obtain ⟨dd,hdd,hx⟩:=hD.get hn
  rw [List.getElem?_map,hq] at hdd
  have ed:dd = q.dat:=(Option.some.inj hdd).symm
  subst ed
  obtain ⟨t,tp,ex,hT,hTp⟩:=dat_rl hx
  rw [ex] at hn
  refine ⟨_,(jss_cons (js_set (i:=2) sc.nd rfl (Or.inl rfl) (j_lst ja_nil))
  (jss_cons (js_for passes_loop rfl (ji_enumT (K:=K) rfl T.n_enumerate (ja_cons (j_ix (o_ix hu (K:=K) (w:=w)) (j_ix (o_ix hu (K:=K) (w:=w)) (jn 0) (jn 1)) j_int) ja_nil)) (jg_tup (K:=K) (n:=2) rfl (jgs_cons (jg_name (i:=3) sc.nd rfl (Or.inl rfl)) (jgs_cons (jg_name (i:=4) sc.nd rfl (Or.inl rfl)) jgs_nil)))
  (jss_cons (js_set (i:=5) sc.nd rfl (Or.inl rfl) (j_defX D_floor_of (hr.mono (by decide)) rfl (ja_cons (jn 0) (ja_cons (jn 1) (ja_cons (jn 3) ja_nil))) pass1))
  (jss_one (js_expr (j_bm (K:=K) PySem.F.plainAttrs_list PySem.F.slot_list_append PySem.F.type_list_append m_append (jn 2) (ja_cons (j_ife (jt_cmp o_is (jn 5) j_non) (jn 4) (j_tup (ja_cons (jn 4) (ja_cons (jn 5) ja_nil)))) ja_nil))))))
  (jss_one (js_ret (j_callTy (c_tuple (K:=K)) rfl T.n_tuple boot_tuple (ja_cons (jn 2) ja_nil)))))),?_⟩
  refine ⟨(show 0 ≤ sizeLine by decide),fun b hb0=>?_⟩
  have s1:Same H (upd H b (.lst [])):=same_new hb0
  have h1:upd H b (.lst []) b = some (.lst []):=upd_same
  generalize upd H b (.lst []) = H1 at s1 h1 ⊢
  refine .inl ⟨_,.ref t,s1.seq hS,atI_nat hn,.inr ⟨_,.ref tp,s1.seqT hT,atI_nat (j:=3) rfl,⟨⟨_,s1.seqT hTp⟩,?_⟩⟩⟩
  refine for_enumT (xs:=q.ps.map fun l=>V.str (S l)) (fun i σ H'=>∃ (v3 v4 v5:Option V) (ys:List V),Same H H'∧H' b = some (.lst ys)∧DatVs K H' ys (((symsP rs q).take i).map syD)∧(∀ j,j < i→badP rs q j = false)∧σ = [some (.ref a),some (.int (n:Nat)),some (.ref b),v3,v4,v5])
   ⟨none,none,none,[],s1,h1,.nil,(fun j hj=>absurd hj (Nat.not_lt_zero _)),rfl⟩ (fun i σ H' _ h=>by obtain ⟨_,_,_,_,s2,_⟩:=h; exact s2.seqT hTp) ?_ ?_
  ·rintro i x σ H' hx ⟨v3,v4,v5,ys,s2,hb2,hd2,hbad,rfl⟩ T0 hT0
   have hil:i < q.ps.length:=by have:=(List.getElem?_eq_some_iff.mp hx).1; rw [List.length_map] at this; exact this
   have hp:q.ps[i]? = some (q.ps.getD i []):=by rw [List.getD,List.getElem?_eq_getElem hil]; rfl
   rw [List.getElem?_map,hp] at hx
   have ex:=Option.some.inj hx
   subst ex
   have s3:Same H' (upd H' T0 (.tup [.int (i:Nat),V.str (S (q.ps.getD i []))])):=same_new hT0
   refine ⟨T0,_,rfl,SqT.of upd_same,rfl,_,_,rfl,_,_,rfl,rfl,?_⟩
   generalize upd H' T0 (.tup [.int (i:Nat),V.str (S (q.ps.getD i []))]) = H3 at s3 ⊢
   have s23:=s2.trans s3
   have hyl:ys.length = i:=by have:=hd2.length; rw [List.length_map,List.length_take,symsP_len] at this; omega
   have et:(symsP rs q).take (i + 1) = (symsP rs q).take i ++ [symP rs q i]:=by
    rw [List.take_add_one]
    unfold symsP
    rw [List.getElem?_map,List.getElem?_range hil]
    rfl
   have nx:badP rs q i = false→∀ j,j < i + 1→badP rs q j = false:=fun z j hj=>by
    by_cases e:j = i
    ·rw [e]; exact z
    ·exact hbad j (by omega)
   have es:symP rs q i = (q.ps.getD i [],if ranksR rs (q.ps.getD i []) = [] then none else some (minL (fitR rs q i (q.ps.getD i [])))):=rfl
   have eb:badP rs q i = (decide (ranksR rs (q.ps.getD i []) ≠ []) && decide (fitR rs q i (q.ps.getD i []) = [])):=rfl
   have qE2:badP rs q i = true→∀ H',Same H H'→E (.ref C) none H':=fun z=>qE (List.any_eq_true.mpr ⟨i,List.mem_range.mpr hil,z⟩)
   generalize q.ps.getD i [] = p at hp es eb ⊢
   refine ⟨a,rl,rs,n,i,q,p,rfl,s23.seq hS,hD.same s23,hl,hq,hp,hrk,fun e H4 s4=>?_,fun e1 e2 H4 s4=>?_,fun m hm hle H4 s4=>?_⟩
   ·have hb4:=(s3.trans s4) _ _ hb2
    refine ⟨.inl ⟨rfl,_,SqL.of hb4⟩,ys,hb4,by omega,?_⟩
    refine ⟨_,_,_,_,fun x u e=>?_,upd_same,?_,nx (by rw [eb,decide_eq_false (by simpa using e)]; rfl),rfl⟩
    ·rw [upd_ne fun z=>by rw [z,hb0] at e; cases e]; exact (s23.trans s4) x u e
    ·rw [et,List.map_append]
     refine DatVs.snoc ?_ (dats_wr (.inl ⟨_,hb4⟩) (fun d hd=>by obtain ⟨z,_,rfl⟩:=List.mem_map.mp hd; exact sy_noL z) (hd2.same (s3.trans s4)))
     rw [es,if_pos e]
     exact .str _
   ·exact qE2 (by rw [eb,decide_eq_true e1,decide_eq_true e2]; rfl) H4 (s23.trans s4)
   ·have hb4:=(s3.trans s4) _ _ hb2
    have hne:fitR rs q i p ≠ []:=fun z=>by rw [z] at hm; cases hm
    have hr:ranksR rs p ≠ []:=fun z=>hne (by unfold fitR; rw [z]; rfl)
    have em:m = minL (fitR rs q i p):=minL_of hm hle
    refine ⟨.inl ⟨rfl,_,SqL.of hb4⟩,⟨(show 2 ≤ sizeLine by decide),fun p5 hp5=>?_⟩⟩
    have s5:Same H4 (upd H4 p5 (.tup (pV (S p,m)))):=same_new hp5
    have h5:SqT K (upd H4 p5 (.tup (pV (S p,m)))) p5 (pV (S p,m)):=SqT.of upd_same
    have g5:upd H4 p5 (.tup [V.str (S p),V.int m]) = upd H4 p5 (.tup (pV (S p,m))):=rfl
    rw [g5]
    generalize upd H4 p5 (.tup (pV (S p,m))) = H5 at s5 h5 ⊢
    have hb5:=s5 _ _ hb4
    refine ⟨ys,hb5,by omega,?_⟩
    refine ⟨_,_,_,_,fun x u e=>?_,upd_same,?_,nx (by rw [eb,decide_eq_false hne,Bool.and_false]),rfl⟩
    ·rw [upd_ne fun z=>by rw [z,hb0] at e; cases e]; exact ((s23.trans s4).trans s5) x u e
    ·rw [et,List.map_append]
     refine DatVs.snoc ?_ (dats_wr (.inl ⟨_,hb5⟩) (fun d hd=>by obtain ⟨z,_,rfl⟩:=List.mem_map.mp hd; exact sy_noL z) (hd2.same ((s3.trans s4).trans s5)))
     rw [es,if_neg hr,← em]
     exact dat_sy (sqT_wr (.inl ⟨_,hb5⟩) h5)
  ·rintro σ H' ⟨v3,v4,v5,ys,s2,hb2,hd2,hbad,rfl⟩
   rw [List.length_map] at hd2 hbad
   rw [List.take_of_length_le (by rw [symsP_len]; exact Nat.le_refl _)] at hd2
   have hyl:ys.length = q.ps.length:=by have:=hd2.length; rw [List.length_map,symsP_len] at this; exact this
   refine ⟨_,.inl ⟨SqL.of hb2,fun t1 ht1=>?_⟩⟩
   refine qI ?_ _ t1 (s2.trans (same_new ht1)) (.tuple (SqT.of upd_same) (hd2.same (same_new ht1)))
   unfold badQ
   rw [Bool.eq_false_iff,Ne,List.any_eq_true]
   rintro ⟨j,hj,z⟩
   rw [hbad j (List.mem_range.mp hj)] at z
   cases z
end
end K30
--@RAISES but law
namespace K30
open PySem PySem.Spec PyProof.Rows L2 Rg
section
variable {P:Program} {w:World} {K:PySem.W.Frag} {mg:Str→Option Value} {base:Heap} {C tS tN tT:Addr}
def addS (acc:List (List Nat)) (l:List Nat):List (List Nat):=if l ∈ acc then acc else acc ++ [l]
def sortsF (rs:List Rl):List (List Nat):=rs.foldl (fun acc q=>addS acc q.sort) []
theorem sortsF_snoc (rs:List Rl) (q:Rl):sortsF (rs ++ [q]) = addS (sortsF rs) q.sort:=by unfold sortsF; rw [List.foldl_append]; rfl
theorem addS_len (acc:List (List Nat)) (l:List Nat):(addS acc l).length ≤ acc.length + 1:=by unfold addS; split <;> simp
theorem sorts_len:∀ (rs:List Rl) (acc:List (List Nat)),(rs.foldl (fun acc q=>addS acc q.sort) acc).length ≤ acc.length + rs.length
 | [],acc=>by simp
 | q :: r,acc=>by
  have:=sorts_len r (addS acc q.sort)
  have:=addS_len acc q.sort
  rw [List.foldl_cons,List.length_cons]
  omega
def trV (acc:List (List Nat)):List (Key × V):=acc.map fun l=>(.inr (S l),.bl true)
theorem trV_any (acc:List (List Nat)) (l:List Nat):((trV acc).any fun kv=>decide (kv.1 = .inr (S l))) = decide (l ∈ acc):=by
 rw [Bool.eq_iff_iff,List.any_eq_true,decide_eq_true_eq]
 constructor
 ·rintro ⟨x,hx,e⟩
  obtain ⟨y,hy,rfl⟩:=List.mem_map.mp hx
  have e:=of_decide_eq_true e
  have e2:y = l:=S_inj (Sum.inr.inj e)
  rw [← e2]; exact hy
 ·intro h
  exact ⟨_,List.mem_map.mpr ⟨l,h,rfl⟩,decide_eq_true rfl⟩
theorem trV_put (acc:List (List Nat)) (l:List Nat):putK (trV acc) (.inr (S l)) (.bl true) = trV (addS acc l):=by
 unfold putK addS
 rw [trV_any]
 by_cases h:l ∈ acc
 ·rw [decide_eq_true h,if_pos rfl,if_pos h]
  unfold trV
  rw [List.map_map]
  refine List.map_congr_left fun x _=>?_
  show (if (Sum.inr (S x):Key) = .inr (S l) then (.inr (S x),V.bl true) else (.inr (S x),V.bl true)) = ((.inr (S x):Key),V.bl true)
  split <;> rfl
 ·rw [decide_eq_false h,if_neg (by decide),if_neg h]
  unfold trV
  rw [List.map_append]
  rfl
theorem trV_val (acc:List (List Nat)) (l:List Nat):(valV (trV acc) (.inr (S l))).isSome = decide (l ∈ acc):=by
 unfold valV
 rw [Option.isSome_map,← trV_any,Bool.eq_iff_iff,List.find?_isSome,List.any_eq_true]
def spSorts (K:PySem.W.Frag):Sp:=fun vs H Q _=>∃ (a:Addr) (rl:List V) (rs:List Rl),vs = [.ref a]∧SqL K H a rl∧DatVs K H rl (rs.map Rl.dat)∧rs.length ≤ 60 ∧
 ∀ (H':Hp) (p:Addr),Same H H'→H' p = some (.lst ((sortsF rs).map fun l=>V.str (S l)))→Q (.ref p) H'
abbrev st_sorts_of:Stmt:=top 22
theorem sc_sorts_of:FnScope ["rules","sorts","rule"] ["rules"] (defScope st_sorts_of):=⟨rfl,rfl,rfl,by decide +kernel,rfl,by decide +kernel,by decide +kernel⟩
theorem def_sorts (R:Raw K mg "sorts_of" st_sorts_of ["rules"]) (T:Txt K w mg tT):Def P w K mg base 1 "sorts_of" ["rules"] (spSorts K):=by
 refine R.defJ sc_sorts_of (fun vs H Q E h=>?_) (fun f cdv A outer s H vs Q E hr h=>?_)
 ·obtain ⟨a,rl,rs,rfl,_⟩:=h
  rfl
 ·obtain ⟨a,rl,rs,rfl,hS,hD,hl,q⟩:=h
  have sc:=sc_sorts_of
  have hu:=hr.units
  have hrl:rl.length = rs.length:=by have:=hD.length; rw [List.length_map] at this; exact this
  refine ⟨_,(jss_cons (js_set (i:=1) sc.nd rfl (Or.inl rfl) j_dnewK)
  (jss_cons (js_for PassesOwn.never rfl (ji_any (K:=K) (jn 0)) (jg_name (i:=2) sc.nd rfl (Or.inl rfl))
  (jss_one (js_dput hu (jn 1) (j_ix (o_ix hu (K:=K) (w:=w)) (jn 2) j_int) j_bl)))
  (jss_one (js_ret (j_callTy (c_listD rfl) rfl T.n_list boot_list (ja_cons (jn 1) ja_nil)))))),?_⟩
  intro b hb0
  have s1:Same H (upd H b (.dK [])):=same_new hb0
  have h1:upd H b (.dK []) b = some (.dK (trV [])):=upd_same
  generalize upd H b (.dK []) = H1 at s1 h1 ⊢
  refine .inl ⟨⟨_,s1.seq hS⟩,?_⟩
  refine for_list (xs:=rl) (fun i σ H'=>∃ v,Same H H'∧H' b = some (.dK (trV (sortsF (rs.take i))))∧σ = [some (.ref a),some (.ref b),v]) ⟨none,s1,h1,rfl⟩ (fun i σ H' _ h=>by obtain ⟨v,s2,_⟩:=h; exact s2.seq hS) ?_ ?_
  ·rintro i x σ H' hi ⟨v,s2,hb2,rfl⟩
   obtain ⟨dd,hdd,hx⟩:=hD.get hi
   rw [List.getElem?_map] at hdd
   cases ee:rs[i]? with
   | none=>rw [ee] at hdd; cases hdd
   | some g =>
    rw [ee] at hdd
    have ed:dd = g.dat:=(Option.some.inj hdd).symm
    subst ed
    obtain ⟨t,tp,rfl,hT,_⟩:=dat_rl hx
    have et:rs.take (i + 1) = rs.take i ++ [g]:=by rw [List.take_add_one,ee]; rfl
    have hsl:(sortsF (rs.take i)).length ≤ 60:=by have:=sorts_len (rs.take i) []; rw [List.length_take] at this; unfold sortsF; simp at this ⊢; omega
    have hbg:(1000000:Nat) < sizeLine:=by rw [sizeLine_eq]; decide
    refine .inr ⟨_,.str (S g.sort),s2.seqT hT,atI_nat (j:=0) rfl,⟨_,DPut.k (k:=.inr (S g.sort)) hb2 (by unfold trV; rw [List.length_map]; omega),?_⟩⟩
    refine ⟨_,fun x u e=>?_,?_,rfl⟩
    ·rw [upd_ne fun z=>by rw [z,hb0] at e; cases e]; exact s2 x u e
    ·rw [upd_same,trV_put,et,sortsF_snoc]
  ·rintro σ H' ⟨v,s2,hb2,rfl⟩
   rw [hrl,List.take_length] at hb2
   have hsl:(sortsF rs).length ≤ 60:=by have:=sorts_len rs []; unfold sortsF; simp at this ⊢; omega
   refine ⟨(sortsF rs).map fun l=>(S l,.bl true),?_,by rw [List.length_map]; omega,fun p hp=>?_⟩
   ·rw [List.map_map]
    exact hb2
   ·rw [List.map_map]
    exact q _ p (s2.trans (same_new hp)) upd_same
end
end K30
--@RAISES but law
namespace K30
open PySem PySem.Spec PyProof.Rows L2 Rg
section
variable {P:Program} {w:World} {K:PySem.W.Frag} {mg:Str→Option Value} {base:Heap} {C tS tN tT:Addr}
structure PR where
 sym:Th
 ps:List Sy
 no:Int
def PR.dat (r:PR):PyData:=.tuple [pD (thP r.sym),.tuple (r.ps.map syD),.int r.no]
theorem pr_noL (r:PR):NoL r.dat:=.tuple fun d hd=>by
 rcases List.mem_cons.mp hd with e | hd
 ·rw [e]; exact pD_noL _
 ·rcases List.mem_cons.mp hd with e | hd
  ·rw [e]
   exact .tuple fun d hd=>by obtain ⟨z,_,rfl⟩:=List.mem_map.mp hd; exact sy_noL z
  ·rw [List.mem_singleton.mp hd]; exact .int _
theorem prs_noL (rs:List PR):∀ d ∈ rs.map PR.dat,NoL d:=fun d hd=>by obtain ⟨z,_,rfl⟩:=List.mem_map.mp hd; exact pr_noL z
theorem dat_pr {H:Hp} {x:V} {r:PR} (h:DatV K H x r.dat):∃ t ts tp ys,x = .ref t∧SqT K H t [.ref ts,.ref tp,.int r.no]∧SqT K H ts (pV (thP r.sym))∧SqT K H tp ys∧DatVs K H ys (r.ps.map syD):=by
 unfold PR.dat at h
 cases h with
 | tuple hS hd =>
  cases hd with
  | cons h1 hd=>cases hd with
   | cons h2 hd=>cases hd with
    | cons h3 hd =>
     cases hd
     cases h3
     obtain ⟨ts,rfl,hts⟩:=pD_inv h1
     cases h2 with
     | tuple hS2 hd2=>exact ⟨_,ts,_,_,rfl,hS,hts,hS2,hd2⟩
def srtI (l:List Int):List Int:=(dist l).mergeSort fun a b=>decide (a ≤ b)
theorem srt_eq {ns l:List Int} (h1:ns.Perm (dist l)) (h2:ns.Pairwise (· ≤ ·)):ns = srtI l:=by
 have h3:(srtI l).Pairwise (· ≤ ·):=by
  have:=List.pairwise_mergeSort (le:=fun (a b:Int)=>decide (a ≤ b)) (fun a b c x y=>decide_eq_true (Int.le_trans (of_decide_eq_true x) (of_decide_eq_true y))) (fun a b=>by
   rcases Int.le_total a b with z | z
   ·rw [decide_eq_true z]; rfl
   ·rw [decide_eq_true z,Bool.or_true]) (dist l)
  exact this.imp fun h=>of_decide_eq_true h
 exact List.Perm.eq_of_pairwise (fun a b _ _ x y=>Int.le_antisymm x y) h2 h3 (h1.trans (List.mergeSort_perm _ _).symm)
def rowA (rs:List Rl) (s:List Nat) (r:Int) (n:Nat):List PR:=match rs[n]? with
 | some q=>if q.sort = s∧q.rank = r then [⟨(s,r),symsP rs q,(n:Nat)⟩] else []
 | none=>[]
def rowsU (rs:List Rl) (s:List Nat) (r:Int) (i:Nat):List PR:=(List.range i).flatMap (rowA rs s r)
theorem rowsU_succ (rs:List Rl) (s:List Nat) (r:Int) (i:Nat):rowsU rs s r (i + 1) = rowsU rs s r i ++ rowA rs s r i:=by
 unfold rowsU
 rw [List.range_succ,List.flatMap_append]
 simp
def upR (s:List Nat) (ns:List Int) (k:Nat):List PR:=match ns[k + 1]? with
 | some r2=>[⟨(s,ns.getD k 0),[(s,some r2)],-1⟩]
 | none=>[]
def blkU (rs:List Rl) (s:List Nat) (ns:List Int) (i:Nat):List PR:=(List.range i).flatMap fun k=>rowsU rs s (ns.getD k 0) rs.length ++ upR s ns k
theorem blkU_succ (rs:List Rl) (s:List Nat) (ns:List Int) (i:Nat):blkU rs s ns (i + 1) = blkU rs s ns i ++ (rowsU rs s (ns.getD i 0) rs.length ++ upR s ns i):=by
 unfold blkU
 rw [List.range_succ,List.flatMap_append]
 simp
def blkF (rs:List Rl) (s:List Nat):List PR:=blkU rs s (srtI (ranksR rs s)) (srtI (ranksR rs s)).length
theorem rowA_len (rs:List Rl) (s:List Nat) (r:Int) (n:Nat):(rowA rs s r n).length ≤ 1:=by
 unfold rowA
 split
 ·split <;> simp
 ·simp
theorem upR_len (s:List Nat) (ns:List Int) (k:Nat):(upR s ns k).length ≤ 1:=by
 unfold upR
 split <;> simp
theorem rowsU_len (rs:List Rl) (s:List Nat) (r:Int):∀ i,(rowsU rs s r i).length ≤ i
 | 0=>by simp [rowsU]
 | i + 1=>by
  have:=rowsU_len rs s r i
  have:=rowA_len rs s r i
  rw [rowsU_succ,List.length_append]
  omega
theorem blkU_len (rs:List Rl) (s:List Nat) (ns:List Int):∀ i,(blkU rs s ns i).length ≤ i * (rs.length + 1)
 | 0=>by simp [blkU]
 | i + 1=>by
  have h1:=blkU_len rs s ns i
  have h2:=rowsU_len rs s (ns.getD i 0) rs.length
  have h3:=upR_len s ns i
  rw [blkU_succ,List.length_append,List.length_append,Nat.succ_mul]
  omega
def PRH (K:PySem.W.Frag) (H0 H:Hp) (b:Addr) (rs:List PR):Prop:=Same H0 H∧∃ xs,H b = some (.lst xs)∧DatVs K H xs (rs.map PR.dat)
theorem PRH.grow {H0 H H':Hp} {b:Addr} {rs:List PR} (h:PRH K H0 H b rs) (s:Same H H'):PRH K H0 H' b rs:=by
 obtain ⟨s1,xs,h1,h2⟩:=h
 exact ⟨s1.trans s,xs,s _ _ h1,h2.same s⟩
theorem PRH.add {H0 H:Hp} {b t:Addr} {rs:List PR} {r:PR} {xs:List V} (s:Same H0 H) (hb:H b = some (.lst xs)) (hd:DatVs K H xs (rs.map PR.dat)) (h0:H0 b = none) (hr:DatV K H (.ref t) r.dat):PRH K H0 (upd H b (.lst (xs ++ [.ref t]))) b (rs ++ [r]):=by
 refine ⟨fun x u e=>?_,_,upd_same,dats_wr (.inl ⟨_,hb⟩) (prs_noL _) ?_⟩
 ·rw [upd_ne fun z=>by rw [z,h0] at e; cases e]; exact s x u e
 ·rw [List.map_append]
  exact DatVs.snoc hr hd
def spPos (K:PySem.W.Frag):Sp:=fun vs H Q _=>∃ (a pa:Addr) (rl pl:List V) (rs:List Rl) (s:List Nat),vs = [.ref a,.ref pa,.str (S s)]∧SqL K H a rl∧DatVs K H rl (rs.map Rl.dat)∧rs.length ≤ 60∧SqL K H pa pl∧DatVs K H pl (rs.map fun q=>.tuple ((symsP rs q).map syD))∧ranksR rs s ≠ [] ∧
 ∀ (H':Hp) (p:Addr) (xs:List V),Same H H'→H' p = some (.lst xs)→DatVs K H' xs ((blkF rs s).map PR.dat)→Q (.ref p) H'
abbrev st_plain_of_sort:Stmt:=top 23
theorem sc_plain_of_sort:FnScope ["rules","parts","sort","plain","ranks","rank","above","number","rule"] ["rules","parts","sort"] (defScope st_plain_of_sort):=⟨rfl,rfl,rfl,by decide +kernel,rfl,by decide +kernel,by decide +kernel⟩
theorem def_pos (R:Raw K mg "plain_of_sort" st_plain_of_sort ["rules","parts","sort"]) (T:Txt K w mg tT) (D_ranks_of:Def P w K mg base 1 "ranks_of" ["rules","sort"] (spRanks K)):Def P w K mg base 2 "plain_of_sort" ["rules","parts","sort"] (spPos K):=by
 refine R.defJ sc_plain_of_sort (fun vs H Q E h=>?_) (fun f cdv A outer s H vs Q E hr h=>?_)
 ·obtain ⟨a,pa,rl,pl,rs,s,rfl,_⟩:=h
  rfl
 ·obtain ⟨a,pa,rl,pl,rs,so,rfl,hS,hD,hl,hPa,hPd,hne,q⟩:=h
  have sc:=sc_plain_of_sort
  have hu:=hr.units
  have hbg:(1000000:Nat) < sizeLine:=by rw [sizeLine_eq]; decide
  have hrl:rl.length = rs.length:=by have:=hD.length; rw [List.length_map] at this; exact this
  refine ⟨_,(jss_cons (js_set (i:=3) sc.nd rfl (Or.inl rfl) (j_lst ja_nil))
  (jss_cons (js_set (i:=4) sc.nd rfl (Or.inl rfl) (j_def D_ranks_of (hr.mono (by decide)) rfl (ja_cons (jn 0) (ja_cons (jn 2) ja_nil))))
  (jss_cons (js_for PassesOwn.never rfl (ji_zip (K:=K) rfl T.n_zip (ja_cons (jn 4) (ja_cons (j_op (o_add (K:=K)) (j_slice (o_slA (K:=K)) (jn 4) (jo_some j_int) jo_none) (j_lst (ja_cons j_non ja_nil))) ja_nil))) (jg_tup (K:=K) (n:=2) rfl (jgs_cons (jg_name (i:=5) sc.nd rfl (Or.inl rfl)) (jgs_cons (jg_name (i:=6) sc.nd rfl (Or.inl rfl)) jgs_nil)))
  (jss_cons (js_for PassesOwn.never rfl (ji_enum (K:=K) rfl T.n_enumerate (ja_cons (jn 0) ja_nil)) (jg_tup (K:=K) (n:=2) rfl (jgs_cons (jg_name (i:=7) sc.nd rfl (Or.inl rfl)) (jgs_cons (jg_name (i:=8) sc.nd rfl (Or.inl rfl)) jgs_nil)))
  (jss_one (js_if (jw_t (jw_and (jt_cmp (o_eqA hu (K:=K)) (j_ix (o_ix hu (K:=K) (w:=w)) (jn 8) j_int) (jn 2)) (jw_and1 (jt_cmp (o_eqA hu (K:=K)) (j_ix (o_ix hu (K:=K) (w:=w)) (jn 8) j_int) (jn 5)))))
  (jss_one (js_expr (j_bm (K:=K) PySem.F.plainAttrs_list PySem.F.slot_list_append PySem.F.type_list_append m_append (jn 3) (ja_cons (j_tup (ja_cons (j_tup (ja_cons (jn 2) (ja_cons (jn 5) ja_nil))) (ja_cons (j_ix (o_ix hu (K:=K) (w:=w)) (jn 1) (jn 7)) (ja_cons (jn 7) ja_nil)))) ja_nil))))
  jss_nil)))
  (jss_one (js_if (jt_cmp o_isnot (jn 6) j_non)
  (jss_one (js_expr (j_bm (K:=K) PySem.F.plainAttrs_list PySem.F.slot_list_append PySem.F.type_list_append m_append (jn 3) (ja_cons (j_tup (ja_cons (j_tup (ja_cons (jn 2) (ja_cons (jn 5) ja_nil))) (ja_cons (j_tup (ja_cons (j_tup (ja_cons (jn 2) (ja_cons (jn 6) ja_nil))) ja_nil)) (ja_cons (j_gint rfl T.g_NO_RULE) ja_nil)))) ja_nil))))
  jss_nil))))
  (jss_one (js_ret (jn 3)))))),?_⟩
  refine ⟨(show 0 ≤ sizeLine by decide),fun b hb0=>?_⟩
  have g1:PRH K H (upd H b (.lst [])) b []:=⟨same_new hb0,[],upd_same,.nil⟩
  generalize upd H b (.lst []) = H1 at g1 ⊢
  refine ⟨a,rl,rs,so,rfl,g1.1.seq hS,hD.same g1.1,hl,fun H2 pr ns s2 hpr hpm hsr=>?_⟩
  have ens:=srt_eq hpm hsr
  have nl:ns.length ≤ 60:=by
   have h2:=dist_len (ranksR rs so)
   have h3:(ranksR rs so).length ≤ rs.length:=by unfold ranksR; rw [List.length_map]; exact List.length_filter_le _ _
   have:=hpm.length_eq
   omega
  have g2:=g1.grow s2
  clear g1
  refine .inl ⟨_,SqL.of hpr,fun p3 hp3=>?_⟩
  have ec:cutV (ns.map V.int) (some 1) none = (ns.drop 1).map V.int:=by
   unfold cutV
   rw [show (1:Int) = ((1:Nat):Int) from rfl,HT.sIx_nat,HT.sIx_none,List.take_of_length_le (by rw [List.length_drop]; exact Nat.le_refl _),List.length_map,List.map_drop]
   by_cases h:1 ≤ ns.length
   ·rw [Nat.min_eq_left h]
   ·have:ns = []:=List.length_eq_zero_iff.mp (by omega)
    rw [this]; rfl
  rw [ec]
  have s3:Same H2 (upd H2 p3 (.lst ((ns.drop 1).map V.int))):=same_new hp3
  have h3:upd H2 p3 (.lst ((ns.drop 1).map V.int)) p3 = some (.lst ((ns.drop 1).map V.int)):=upd_same
  generalize upd H2 p3 (.lst ((ns.drop 1).map V.int)) = H3 at s3 h3 ⊢
  refine ⟨(show 1 ≤ sizeLine by decide),fun p4 hp4=>?_⟩
  have s4:Same H3 (upd H3 p4 (.lst [V.non])):=same_new hp4
  have h4:upd H3 p4 (.lst [V.non]) p4 = some (.lst [V.non]):=upd_same
  generalize upd H3 p4 (.lst [V.non]) = H4 at s4 h4 ⊢
  refine .inl ⟨_,_,s4 _ _ h3,h4,by rw [List.length_map,List.length_drop]; show _ + 1 ≤ _; omega,fun p5 hp5=>?_⟩
  have s5:Same H4 (upd H4 p5 (.lst ((ns.drop 1).map V.int ++ [V.non]))):=same_new hp5
  have h5':(upd H4 p5 (.lst ((ns.drop 1).map V.int ++ [V.non]))) p5 = some (.lst ((ns.drop 1).map V.int ++ [V.non])):=upd_same
  generalize upd H4 p5 (.lst ((ns.drop 1).map V.int ++ [V.non])) = H5 at s5 h5' ⊢
  have h5:SqL K H5 p5 ((ns.drop 1).map V.int ++ [V.non]):=SqL.of h5'
  have s25:=(s3.trans s4).trans s5
  have hpr5:SqL K H5 pr (ns.map V.int):=SqL.of (s25 _ _ hpr)
  have g5:=g2.grow s25
  have hn1:1 ≤ ns.length:=by
   have h1:ns ≠ []:=fun z=>hne ((Srt.nil ⟨hpm,hsr⟩).mp z)
   exact List.length_pos_iff.mpr h1
  have hprb:pr ≠ b:=fun z=>by
   obtain ⟨_,xs,hx,hdx⟩:=g2
   rw [z,hx] at hpr
   have e:xs = ns.map V.int:=by injection hpr with hpr; injection hpr
   have:xs = []:=by cases hdx; rfl
   rw [this] at e
   have:=congrArg List.length e
   simp at this
   omega
  have hp5b:p5 ≠ b:=fun z=>by
   obtain ⟨_,xs,hx,_⟩:=(g2.grow (s3.trans s4))
   rw [z,hx] at hp5
   cases hp5
  refine ⟨false,false,⟨_,hpr5⟩,⟨_,h5⟩,?_⟩
  have hpl:pl.length = rs.length:=by have:=hPd.length; rw [List.length_map] at this; exact this
  refine for_zip (K:=K) (xs:=ns.map V.int) (ys:=(ns.drop 1).map V.int ++ [V.non]) (t1:=false) (t2:=false) (fun i σ H'=>∃ (v5 v6 v7 v8:Option V),H' pr = some (.lst (ns.map V.int))∧H' p5 = some (.lst ((ns.drop 1).map V.int ++ [V.non]))∧PRH K H H' b (blkU rs so ns i)∧σ = [some (.ref a),some (.ref pa),some (.str (S so)),some (.ref b),some (.ref pr),v5,v6,v7,v8])
   ⟨none,none,none,none,s25 _ _ hpr,h5',g5,rfl⟩ (by rw [List.length_append,List.length_map,List.length_map,List.length_drop,List.length_singleton]; omega) (fun i σ H' _ h=>by obtain ⟨_,_,_,_,e1,e2,_⟩:=h; exact ⟨SqL.of e1,SqL.of e2⟩) ?_ ?_
  ·rintro i x y σ H' hx hy ⟨v5,v6,v7,v8,e1,e2,g6,rfl⟩ T0 hT0
   have hil:i < ns.length:=by have:=(List.getElem?_eq_some_iff.mp hx).1; rw [List.length_map] at this; exact this
   rw [List.getElem?_map,List.getElem?_eq_getElem hil] at hx
   have ex:x = V.int (ns.getD i 0):=by rw [List.getD,List.getElem?_eq_getElem hil]; exact (Option.some.inj hx).symm
   subst ex
   have ey:y = (match ns[i + 1]? with | some r2=>V.int r2 | none=>V.non):=by
    by_cases h:i + 1 < ns.length
    ·rw [List.getElem?_append_left (by rw [List.length_map,List.length_drop]; omega),List.getElem?_map,List.getElem?_drop,Nat.add_comm 1 i,List.getElem?_eq_getElem h] at hy
     rw [List.getElem?_eq_getElem h]
     exact (Option.some.inj hy).symm
    ·rw [List.getElem?_append_right (by rw [List.length_map,List.length_drop]; omega),List.length_map,List.length_drop,show i - (ns.length - 1) = 0 by omega] at hy
     rw [List.getElem?_eq_none (by omega)]
     exact (Option.some.inj hy).symm
   have s7:Same H' (upd H' T0 (.tup [V.int (ns.getD i 0),y])):=same_new hT0
   refine ⟨T0,_,rfl,SqT.of upd_same,rfl,_,_,rfl,_,_,rfl,rfl,?_⟩
   generalize upd H' T0 (.tup [V.int (ns.getD i 0),y]) = H7 at s7 ⊢
   have g7:=g6.grow s7
   have e1:=s7 _ _ e1
   have e2:=s7 _ _ e2
   have eu:upR so ns i = (match ns[i + 1]? with | some r2=>[⟨(so,ns.getD i 0),[(so,some r2)],-1⟩] | none=>[]):=rfl
   obtain ⟨r,er0⟩:∃ r,r = ns.getD i 0:=⟨_,rfl⟩
   rw [← er0] at eu ⊢
   have hbl:=blkU_len rs so ns i
   have hbl2:(blkU rs so ns i).length ≤ 4000:=Nat.le_trans hbl (Nat.le_trans (Nat.mul_le_mul (show i ≤ 60 by omega) (show rs.length + 1 ≤ 61 by omega)) (by decide))
   refine ⟨⟨_,g7.1.seq hS⟩,?_⟩
   refine for_enum (K:=K) (xs:=rl) (fun n σ H'=>∃ (v7 v8:Option V),H' pr = some (.lst (ns.map V.int))∧H' p5 = some (.lst ((ns.drop 1).map V.int ++ [V.non]))∧PRH K H H' b (blkU rs so ns i ++ rowsU rs so r n)∧σ = [some (.ref a),some (.ref pa),some (.str (S so)),some (.ref b),some (.ref pr),some (.int r),some y,v7,v8])
    ⟨v7,v8,e1,e2,by rw [show rowsU rs so r 0 = [] from rfl,List.append_nil]; exact g7,rfl⟩ (fun n σ H' _ h=>by obtain ⟨_,_,_,_,g8,_⟩:=h; exact g8.1.seq hS) ?_ ?_
   ·rintro n x σ H8 hx ⟨v7,v8,f1,f2,g8,rfl⟩ T1 hT1
    obtain ⟨dd,hdd,hxd⟩:=hD.get hx
    rw [List.getElem?_map] at hdd
    cases ee:rs[n]? with
    | none=>rw [ee] at hdd; cases hdd
    | some g =>
     rw [ee] at hdd
     have ed:dd = g.dat:=(Option.some.inj hdd).symm
     subst ed
     obtain ⟨t,tp,rfl,hT,_⟩:=dat_rl hxd
     have s9:Same H8 (upd H8 T1 (.tup [.int (n:Nat),.ref t])):=same_new hT1
     refine ⟨T1,_,rfl,SqT.of upd_same,rfl,_,_,rfl,_,_,rfl,rfl,?_⟩
     generalize upd H8 T1 (.tup [.int (n:Nat),.ref t]) = H9 at s9 ⊢
     have g9:=g8.grow s9
     have f1:=s9 _ _ f1
     have f2:=s9 _ _ f2
     obtain ⟨t9,xs,hb9,hd9⟩:=id g9
     have hnl:n < rs.length:=(List.getElem?_eq_some_iff.mp ee).1
     have hxl:xs.length = (blkU rs so ns i ++ rowsU rs so r n).length:=by have:=hd9.length; rw [List.length_map] at this; exact this
     have hru:=rowsU_len rs so r n
     rw [List.length_append] at hxl
     have er:rowA rs so r n = if g.sort = so∧g.rank = r then [⟨(so,r),symsP rs g,(n:Nat)⟩] else []:=by unfold rowA; rw [ee]
     have no:¬ (g.sort = so∧g.rank = r)→PRH K H H9 b (blkU rs so ns i ++ rowsU rs so r (n + 1)):=fun z=>by rw [rowsU_succ,er,if_neg z,List.append_nil]; exact g9
     refine .inr ⟨_,.str (S g.sort),t9.seqT hT,atI_nat (j:=0) rfl,?_⟩
     show if (false ^^ decide ((S g.sort:Str) = S so)) = true then _ else _
     rw [Bool.false_xor,eqS_iff]
     refine ite2 (fun h=>?_) (fun h=>?_)
     ·refine .inr ⟨_,.int g.rank,t9.seqT hT,atI_nat (j:=1) rfl,?_⟩
      show if (false ^^ decide (g.rank = r)) = true then _ else _
      rw [Bool.false_xor]
      refine ite2 (fun h2=>?_) (fun h2=>?_)
      ·have hp1:pl[n]? = some (pl[n]'(by omega)):=List.getElem?_eq_getElem (by omega)
       obtain ⟨dd,hdd,hpd⟩:=hPd.get hp1
       rw [List.getElem?_map,ee] at hdd
       have ed:dd = .tuple ((symsP rs g).map syD):=(Option.some.inj hdd).symm
       subst ed
       refine ⟨.inl ⟨rfl,_,SqL.of hb9⟩,⟨(show 2 ≤ sizeLine by decide),fun p6 hp6=>?_⟩⟩
       have z6:Same H9 (upd H9 p6 (.tup (pV (thP (so,r))))):=same_new hp6
       have k6:SqT K (upd H9 p6 (.tup (pV (thP (so,r))))) p6 (pV (thP (so,r))):=SqT.of upd_same
       have q6:upd H9 p6 (.tup [V.str (S so),V.int r]) = upd H9 p6 (.tup (pV (thP (so,r)))):=rfl
       rw [q6]
       generalize upd H9 p6 (.tup (pV (thP (so,r)))) = H10 at z6 k6 ⊢
       have t10:=t9.trans z6
       refine .inl ⟨_,pl[n]'(by omega),t10.seq hPa,atI_nat hp1,⟨(show 3 ≤ sizeLine by decide),fun p7 hp7=>?_⟩⟩
       have z7:Same H10 (upd H10 p7 (.tup [.ref p6,pl[n]'(by omega),.int (n:Nat)])):=same_new hp7
       have hr7:DatV K (upd H10 p7 (.tup [.ref p6,pl[n]'(by omega),.int (n:Nat)])) (.ref p7) (PR.dat ⟨(so,r),symsP rs g,(n:Nat)⟩) :=
        .tuple (SqT.of upd_same) (.cons (.tuple (z7.seqT k6) (.cons (.str _) (.cons (.int _) .nil))) (.cons (hpd.same (t10.trans z7)) (.cons (.int _) .nil)))
       generalize upd H10 p7 (.tup [.ref p6,pl[n]'(by omega),.int (n:Nat)]) = H11 at z7 hr7 ⊢
       have z911:=z6.trans z7
       refine ⟨xs,z911 _ _ hb9,by omega,?_⟩
       refine ⟨_,_,by rw [upd_ne hprb]; exact z911 _ _ f1,by rw [upd_ne hp5b]; exact z911 _ _ f2,?_,rfl⟩
       rw [rowsU_succ,er,if_pos ⟨beq_iff_eq.mp h,of_decide_eq_true h2⟩,← List.append_assoc]
       exact PRH.add (t9.trans z911) (z911 _ _ hb9) (hd9.same z911) hb0 hr7
      ·exact ⟨_,_,f1,f2,no (fun z=>h2 (decide_eq_true z.2)),rfl⟩
     ·exact ⟨_,_,f1,f2,no (fun z=>h (beq_iff_eq.mpr z.1)),rfl⟩
   ·rintro σ H8 ⟨v7,v8,f1,f2,g8,rfl⟩
    rw [hrl] at g8
    have eb:blkU rs so ns (i + 1) = blkU rs so ns i ++ rowsU rs so r rs.length ++ upR so ns i:=by rw [blkU_succ,← er0,List.append_assoc]
    obtain ⟨t9,xs,hb9,hd9⟩:=id g8
    have hxl:xs.length = (blkU rs so ns i ++ rowsU rs so r rs.length).length:=by have:=hd9.length; rw [List.length_map] at this; exact this
    have hru:=rowsU_len rs so r rs.length
    rw [List.length_append] at hxl
    cases en:ns[i + 1]? with
    | none =>
     rw [en] at ey eu
     subst ey
     refine ⟨_,_,_,_,f1,f2,?_,rfl⟩
     rw [eb,eu,List.append_nil]
     exact g8
    | some r2 =>
     rw [en] at ey eu
     subst ey
     refine ⟨.inl ⟨rfl,_,SqL.of hb9⟩,⟨(show 2 ≤ sizeLine by decide),fun p6 hp6=>⟨(show 2 ≤ sizeLine by decide),fun p7 hp7=>⟨(show 1 ≤ sizeLine by decide),fun p8 hp8=>⟨(show 3 ≤ sizeLine by decide),fun p9 hp9=>?_⟩⟩⟩⟩⟩
     dsimp only at hp7 hp8 hp9 ⊢
     have z6:Same H8 (upd H8 p6 (.tup [V.str (S so),V.int r])):=same_new hp6
     have k6:SqT K (upd H8 p6 (.tup [V.str (S so),V.int r])) p6 [V.str (S so),V.int r]:=SqT.of upd_same
     generalize upd H8 p6 (.tup [V.str (S so),V.int r]) = H9 at z6 k6 hp7 hp8 hp9 ⊢
     have z7:Same H9 (upd H9 p7 (.tup [V.str (S so),V.int r2])):=same_new hp7
     have k7:SqT K (upd H9 p7 (.tup [V.str (S so),V.int r2])) p7 [V.str (S so),V.int r2]:=SqT.of upd_same
     generalize upd H9 p7 (.tup [V.str (S so),V.int r2]) = H10 at z7 k7 hp8 hp9 ⊢
     have z8:Same H10 (upd H10 p8 (.tup [.ref p7])):=same_new hp8
     have k8:SqT K (upd H10 p8 (.tup [.ref p7])) p8 [.ref p7]:=SqT.of upd_same
     generalize upd H10 p8 (.tup [.ref p7]) = H11 at z8 k8 hp9 ⊢
     have z9:Same H11 (upd H11 p9 (.tup [.ref p6,.ref p8,.int (-1)])):=same_new hp9
     have k9:SqT K (upd H11 p9 (.tup [.ref p6,.ref p8,.int (-1)])) p9 [.ref p6,.ref p8,.int (-1)]:=SqT.of upd_same
     generalize upd H11 p9 (.tup [.ref p6,.ref p8,.int (-1)]) = H12 at z9 k9 ⊢
     have z89:=z8.trans z9
     have z69:=(z6.trans z7).trans z89
     have hr9:DatV K H12 (.ref p9) (PR.dat ⟨(so,r),[(so,some r2)],-1⟩) :=
      .tuple k9 (.cons (.tuple ((z7.trans z89).seqT k6) (.cons (.str _) (.cons (.int _) .nil))) (.cons (.tuple (z9.seqT k8) (.cons (.tuple (z89.seqT k7) (.cons (.str _) (.cons (.int _) .nil))) .nil)) (.cons (.int _) .nil)))
     refine ⟨xs,z69 _ _ hb9,by omega,?_⟩
     refine ⟨_,_,_,_,by rw [upd_ne hprb]; exact z69 _ _ f1,by rw [upd_ne hp5b]; exact z69 _ _ f2,?_,rfl⟩
     rw [eb,eu]
     exact PRH.add (t9.trans z69) (z69 _ _ hb9) (hd9.same z69) hb0 hr9
  ·rintro σ H' ⟨v5,v6,v7,v8,e1,e2,⟨s6,xs,hx,hdx⟩,rfl⟩
   rw [List.length_map] at hdx
   refine q H' b xs s6 hx ?_
   unfold blkF
   rw [← ens]
   exact hdx
end
end K30
--@RAISES but law
namespace K30
open PySem PySem.Spec PyProof.Rows L2 Rg
section
variable {P:Program} {w:World} {K:PySem.W.Frag} {mg:Str→Option Value} {base:Heap} {C tS tN tT:Addr}
inductive Der (rows:List PR):Th→Prop
 | mk (r:PR):r ∈ rows→(∀ s ∈ r.ps,∀ k,s.2 = some k→Der rows (s.1,k))→Der rows r.sym
def inF (F:List Th) (s:Sy):Bool:=match s.2 with
 | none=>true
 | some k=>decide ((s.1,k) ∈ F)
theorem inF_iff {F:List Th} {s:Sy}:inF F s = true ↔ ∀ k,s.2 = some k→(s.1,k) ∈ F:=by
 unfold inF
 obtain ⟨l,o⟩:=s
 cases o with
 | none=>simp
 | some k=>simp
def ClF (rows:List PR) (F:List Th):Prop:=∀ r ∈ rows,r.ps.all (inF F) = true→r.sym ∈ F
theorem der_in {rows:List PR} {F:List Th} (h:ClF rows F) {t:Th} (d:Der rows t):t ∈ F:=by
 induction d with
 | mk r hr _ ih=>exact h r hr (List.all_eq_true.mpr fun s hs=>inF_iff.mpr fun k hk=>ih s hs k hk)
def cntF (rows:List PR) (F:List Th):Nat:=(rows.filter fun r=>decide (r.sym ∉ F)).length
theorem cnt_le {α:Type} {p p':α→Bool} (h:∀ x,p' x = true→p x = true):∀ l:List α,(l.filter p').length ≤ (l.filter p).length
 | []=>by simp
 | x :: r=>by
  have ih:=cnt_le h r
  rw [List.filter_cons,List.filter_cons]
  by_cases h1:p' x = true
  ·rw [if_pos h1,if_pos (h x h1)]; simp; exact ih
  ·rw [if_neg h1]
   split
   ·simp; omega
   ·exact ih
theorem cnt_lt {α:Type} {p p':α→Bool} (h:∀ x,p' x = true→p x = true) {a:α} (ha:p a = true) (ha':p' a = false):∀ l:List α,a ∈ l→(l.filter p').length < (l.filter p).length
 | x :: r,hm=>by
  have ih:=cnt_le h r
  rw [List.filter_cons,List.filter_cons]
  rcases List.mem_cons.mp hm with e | e
  ·subst e
   rw [if_pos ha,if_neg (by rw [ha']; decide)]
   simp
   omega
  ·have ih2:=cnt_lt h ha ha' r e
   by_cases h1:p' x = true
   ·rw [if_pos h1,if_pos (h x h1)]; simp; exact ih2
   ·rw [if_neg h1]
    split
    ·simp; omega
    ·exact ih2
theorem cntF_add {rows:List PR} {F:List Th} {r:PR} (hr:r ∈ rows) (hn:r.sym ∉ F):cntF rows (F ++ [r.sym]) < cntF rows F:=by
 unfold cntF
 refine cnt_lt (a:=r) (fun x hx=>?_) (decide_eq_true hn) (decide_eq_false (by simp)) rows hr
 have:=of_decide_eq_true hx
 exact decide_eq_true fun z=>this (List.mem_append.mpr (.inl z))
structure PROk (r:PR):Prop where
 l1:low r.sym.1
 z1:r.sym.1.length ≤ 100
 r0:0 ≤ r.sym.2
 r9:r.sym.2 ≤ 99
theorem mem_thP {F:List Th} {t:Th}:thP t ∈ F.map thP ↔ t ∈ F:=by
 constructor
 ·intro h
  obtain ⟨y,hy,e⟩:=List.mem_map.mp h
  rw [← thP_inj e]; exact hy
 ·intro h; exact List.mem_map.mpr ⟨t,h,rfl⟩
def FrAt (P:Program) (w:World) (K:PySem.W.Frag) (H:Hp) (d:Addr) (F:List Th):Prop:=∃ ps,PAt P w K H d ps∧ps.map (·.1) = F.map thP
theorem FrAt.same {H H':Hp} {d:Addr} {F:List Th} (h:FrAt P w K H d F) (s:Same H H'):FrAt P w K H' d F:=by
 obtain ⟨ps,h1,h2⟩:=h
 exact ⟨ps,h1.same s,h2⟩
theorem small2:∀ k:Fin 100,(Str.ofString (toString (k.val:Int))).length ≤ 1002:=by decide +kernel
theorem pD_shown {t:Th} (h1:low t.1) (h2:t.1.length ≤ 100) (h3:0 ≤ t.2) (h4:t.2 ≤ 99):(pD (thP t)).shown.length ≤ 1100000:=by
 unfold pD thP
 rw [PyData.shown,PyData.shownAll,PyData.shownAll,PyData.shownAll,PyData.shown,PyData.shown]
 refine Nat.le_trans (tupT_le (B:=1002) fun z hz=>?_) (show 2 * (1002 + 2) + 3 ≤ 1100000 by decide)
 rcases List.mem_cons.mp hz with e | hz
 ·rw [e]
  have h3:=StrLaws.reprText_len (S t.1) (lowc h1)
  have h4:(S t.1).length = t.1.length:=S_len t.1
  exact Nat.le_trans h3 (by omega)
 ·rw [List.mem_singleton.mp hz]
  have:=small2 ⟨t.2.toNat,by omega⟩
  have e:((t.2.toNat:Nat):Int) = t.2:=Int.toNat_of_nonneg h3
  simp only [e] at this
  exact this
structure TxB (K:PySem.W.Frag) (mg:Str→Option Value) (C:Addr):Prop where
 c_Barren:mg "Barren" = some (.ref C)
 x_Barren:PySem.W.excIn K C bmVE "ValueError.__new__" = true
 n_all:mg "all" = none
 n_isinstance:mg "isinstance" = none
 n_str:mg "str" = none
def spFr (K:PySem.W.Frag) (C:Addr):Sp:=fun vs H Q E=>∃ (a:Addr) (xs:List V) (rows:List PR),vs = [.ref a]∧SqL K H a xs∧DatVs K H xs (rows.map PR.dat)∧rows.length ≤ 50000∧(∀ r ∈ rows,PROk r)∧(∀ r ∈ rows,r.ps.length ≤ 100) ∧
 ((∀ r ∈ rows,Der rows r.sym)→∀ H',Same H H'→Q .non H')∧((∃ r ∈ rows,¬ Der rows r.sym)→∀ H',Same H H'→E (.ref C) none H')
abbrev st_check_fruitful:Stmt:=top 24
theorem sc_check_fruitful:FnScope ["plain","fruitful","grown","symbol","parts","rule"] ["plain"] (defScope st_check_fruitful):=⟨rfl,rfl,rfl,by decide +kernel,rfl,by decide +kernel,by decide +kernel⟩
theorem def_fr (R:Raw K mg "check_fruitful" st_check_fruitful ["plain"]) (T:TxB K mg C):DefX P w K mg base 1 "check_fruitful" ["plain"] (spFr K C):=by
 refine R.defX sc_check_fruitful (fun vs H Q E h=>?_) (fun f cdv A outer s H vs Q E hr h=>?_)
 ·obtain ⟨a,xs,rows,rfl,_⟩:=h
  rfl
 ·obtain ⟨a,xs,rows,rfl,hS,hD,hl,hok,hps,qI,qE⟩:=h
  have sc:=sc_check_fruitful
  have hu:=hr.units
  have hxl:xs.length = rows.length:=by have:=hD.length; rw [List.length_map] at this; exact this
  have row:∀ (i:Nat) (x:V),xs[i]? = some x→∃ r t ts tp ys,rows[i]? = some r∧x = .ref t∧SqT K H t [.ref ts,.ref tp,.int r.no]∧SqT K H ts (pV (thP r.sym))∧SqT K H tp ys∧DatVs K H ys (r.ps.map syD):=fun i x hx=>by
   obtain ⟨dd,hdd,hxd⟩:=hD.get hx
   rw [List.getElem?_map] at hdd
   cases ee:rows[i]? with
   | none=>rw [ee] at hdd; cases hdd
   | some r =>
    rw [ee] at hdd
    have ed:dd = r.dat:=(Option.some.inj hdd).symm
    subst ed
    obtain ⟨t,ts,tp,ys,e,h1,h2,h3,h4⟩:=dat_pr hxd
    exact ⟨r,t,ts,tp,ys,rfl,e,h1,h2,h3,h4⟩
  refine ⟨_,(jss_cons (js_set (i:=1) sc.nd rfl (Or.inr rfl) (j_dnewP (P:=P) (w:=w)))
  (jss_cons (js_set (i:=2) sc.nd rfl (Or.inl rfl) j_bl)
  (jss_cons (js_while passes_loop (jt_tru (K:=K) (jn 2))
  (jss_cons (js_set (i:=2) sc.nd rfl (Or.inl rfl) j_bl)
  (jss_one (js_for passes_loop rfl (ji_any (K:=K) (jn 0)) (jg_tup (K:=K) (n:=3) rfl (jgs_cons (jg_name (i:=3) sc.nd rfl (Or.inl rfl)) (jgs_cons (jg_name (i:=4) sc.nd rfl (Or.inl rfl)) (jgs_cons (jg_name (i:=5) sc.nd rfl (Or.inl rfl)) jgs_nil))))
  (jss_one (js_if (jw_t (jw_and (jt_cmp (o_notinM hu (K:=K) (P:=P) (w:=w)) (jn 3) (jn 1)) (jw_and1 (jt_val (j_callB (c_all rfl (K:=K)) rfl T.n_all boot_all (ja_cons (j_comp (N:=["part","fruitful"]) (cap:=[none,some 1]) rfl (CompScope.of rfl (by rfl)) (ji_any (K:=K) (jn 4)) (fun _ _ _ _=>(jg_name (i:=0) (show List.Nodup [("part":Str),("fruitful":Str)] by decide +kernel) rfl (Or.inl rfl))) (fun _ _ _ _=>jts_nil) (fun _ _ _ _=>(j_or (j_callB (c_isiD (K:=K)) rfl T.n_isinstance boot_isinstance (ja_cons (jn 0) (ja_cons (j_bltn (v:=.ty "str") rfl T.n_str boot_str rfl) ja_nil))) (j_one (j_cmp (o_inM hu (K:=K) (P:=P) (w:=w)) (jn 0) (jn 1)))))) ja_nil))))))
  (jss_cons (js_pput (K:=K) (P:=P) (w:=w) hu (jn 1) (jn 3) j_bl)
  (jss_one (js_set (i:=2) sc.nd rfl (Or.inl rfl) j_bl)))
  jss_nil))))))
  (jss_one (js_for passes_loop rfl (ji_any (K:=K) (jn 0)) (jg_tup (K:=K) (n:=3) rfl (jgs_cons (jg_name (i:=3) sc.nd rfl (Or.inl rfl)) (jgs_cons (jg_name (i:=4) sc.nd rfl (Or.inl rfl)) (jgs_cons (jg_name (i:=5) sc.nd rfl (Or.inl rfl)) jgs_nil))))
  (jss_one (js_if (jt_cmp (o_notinM hu (K:=K) (P:=P) (w:=w)) (jn 3) (jn 1))
  (jss_one (js_raise rfl T.c_Barren T.x_Barren (ja_cons (j_fs (jfs_cons jf_str (jfs_cons (jf_reprD (K:=K) hr.gd hu (jn 3)) jfs_nil))) ja_nil)))
  jss_nil))))))),?_⟩
  intro d hd0 hsm
  have s1:Same H (upd H d (PObj P w d [])):=same_new hd0
  have f1:FrAt P w K (upd H d (PObj P w d [])) d []:=⟨[],⟨upd_same,by simp,hsm,Nat.zero_le _,fun p hp=>nomatch hp⟩,rfl⟩
  generalize upd H d (PObj P w d []) = H1 at s1 f1 ⊢
  refine ⟨fun m σ H'=>∃ (F:List Th) (g:Bool) (v3 v4 v5:Option V),Same H H'∧FrAt P w K H' d F∧F.Nodup∧F.length ≤ rows.length∧(∀ t ∈ F,Der rows t)∧(g = true→m = cntF rows F + 1)∧(g = false→m = 0∧ClF rows F)∧F.length + cntF rows F ≤ rows.length∧σ = [some (.ref a),some (.ref d),some (.bl g),v3,v4,v5],⟨cntF rows [] + 1,[],true,none,none,none,s1,f1,List.nodup_nil,Nat.zero_le _,(fun t ht=>nomatch ht),(fun _=>rfl),(fun z=>nomatch z),by unfold cntF; simp; exact List.length_filter_le _ _,rfl⟩,?_⟩
  rintro m σ H2 ⟨F,g,v3,v4,v5,s2,f2,nd,fl,fd,m1,m2,fc,rfl⟩
  refine ⟨g,rfl,?_⟩
  show if g = true then _ else _
  refine ite2 (fun hg=>?_) (fun hg=>?_)
  ·refine ⟨_,fun σ' H' h=>h,?_⟩
   refine .inl ⟨⟨_,s2.seq hS⟩,?_⟩
   refine for_list (xs:=xs) (fun i σ H'=>∃ (F':List Th) (g':Bool) (v3 v4 v5:Option V),Same H H'∧FrAt P w K H' d F'∧F'.Nodup∧(∀ t ∈ F',Der rows t)∧F'.length + cntF rows F' ≤ rows.length∧(g' = true→cntF rows F' < cntF rows F)∧(g' = false→F' = F∧∀ (j:Nat) (r:PR),j < i→rows[j]? = some r→r.ps.all (inF F) = true→r.sym ∈ F)∧cntF rows F' ≤ cntF rows F∧σ = [some (.ref a),some (.ref d),some (.bl g'),v3,v4,v5])
    ⟨F,false,v3,v4,v5,s2,f2,nd,fd,fc,(fun z=>nomatch z),(fun _=>⟨rfl,fun j r hj=>absurd hj (Nat.not_lt_zero _)⟩),Nat.le_refl _,rfl⟩ (fun i σ H' _ h=>by obtain ⟨_,_,_,_,_,s3,_⟩:=h; exact s3.seq hS) ?_ ?_
   ·rintro i x σ H3 hx ⟨F',g',v3,v4,v5,s3,f3,nd3,fd3,fc3,g1,g2,g3,rfl⟩
    obtain ⟨r,t,ts,tp,ys,hri,rfl,hT,hts,htp,hys⟩:=row i x hx
    have mr:r ∈ rows:=List.mem_of_getElem? hri
    refine ⟨t,_,rfl,s3.seqT hT,rfl,_,_,rfl,_,_,rfl,_,_,rfl,rfl,?_⟩
    obtain ⟨ps,hP,eps⟩:=id f3
    have ein:∀ u:Th,decide (thP u ∈ ps.map (·.1)) = decide (u ∈ F'):=fun u=>by
     rw [eps,Bool.eq_iff_iff,decide_eq_true_eq,decide_eq_true_eq]
     exact mem_thP
    refine .inl ⟨ps,thP r.sym,hP,s3.seqT hts,?_⟩
    show if (true ^^ decide (thP r.sym ∈ ps.map (·.1))) = true then _ else _
    rw [ein]
    have stay:(r.ps.all (inF F') = true→r.sym ∈ F')→∀ H4,Same H3 H4→∃ (F':List Th) (g'':Bool) (w3 w4 w5:Option V),Same H H4∧FrAt P w K H4 d F'∧F'.Nodup∧(∀ t ∈ F',Der rows t)∧F'.length + cntF rows F' ≤ rows.length∧(g'' = true→cntF rows F' < cntF rows F)∧(g'' = false→F' = F∧∀ (j:Nat) (r:PR),j < i + 1→rows[j]? = some r→r.ps.all (inF F) = true→r.sym ∈ F)∧cntF rows F' ≤ cntF rows F∧[some (.ref a),some (.ref d),some (.bl g'),some (.ref ts),some (.ref tp),some (.int r.no)] = [some (.ref a),some (.ref d),some (.bl g''),w3,w4,w5]:=fun h H4 s4 =>
     ⟨F',g',_,_,_,s3.trans s4,f3.same s4,nd3,fd3,fc3,g1,fun z=>by
      obtain ⟨e,g9⟩:=g2 z
      refine ⟨e,fun j r' hj hr' ha=>?_⟩
      by_cases hji:j = i
      ·rw [hji,hri] at hr'
       have er:=Option.some.inj hr'
       subst er
       rw [← e] at ha ⊢
       exact h ha
      ·exact g9 j r' (by omega) hr' ha,g3,rfl⟩
    refine ite2 (fun h=>?_) (fun h=>?_)
    ·have hnot:r.sym ∉ F':=fun z=>by rw [decide_eq_true z] at h; exact absurd h (by decide)
     have hyl:ys.length = r.ps.length:=by have:=hys.length; rw [List.length_map] at this; exact this
     refine .inr ⟨⟨_,s3.seqT htp⟩,?_⟩
     refine gath_tup (K:=K) (xs:=ys) (fun j zs σ' H'=>H' = H3∧zs = ((r.ps.take j).map (inF F')).map V.bl∧∃ v,σ' = [v,some (.ref d)]) (by have:=hps r mr; omega) ⟨rfl,rfl,none,rfl⟩
      (fun j zs σ' H' h=>by rw [h.2.1,List.length_map,List.length_map,List.length_take]; omega) (fun j zs σ' H' h=>by rw [h.1]; exact s3.seqT htp) ?_ ?_
     ·rintro j y zs σ' H' hy ⟨rfl,rfl,v,rfl⟩
      obtain ⟨dd,hdd,hyd⟩:=hys.get hy
      rw [List.getElem?_map] at hdd
      cases es:r.ps[j]? with
      | none=>rw [es] at hdd; cases hdd
      | some sy =>
       rw [es] at hdd
       have ed:dd = syD sy:=(Option.some.inj hdd).symm
       subst ed
       have et:r.ps.take (j + 1) = r.ps.take j ++ [sy]:=by rw [List.take_add_one,es]; rfl
       have fin:∀ bb,bb = inF F' sy→((r.ps.take j).map (inF F')).map V.bl ++ [V.bl bb] = ((r.ps.take (j + 1)).map (inF F')).map V.bl:=fun bb e=>by rw [et,List.map_append,List.map_append,e]; rfl
       rcases sy_dat hyd with ⟨e1,rfl⟩ | ⟨k,b,e1,rfl,hb⟩
       ·refine ⟨"str",true,.str _,rfl,?_⟩
        exact ⟨rfl,fin true (by unfold inF; rw [e1]),_,rfl⟩
       ·refine ⟨"tuple",false,.tuple (s3.seqT hb),rfl,?_⟩
        refine .inl ⟨ps,(S sy.1,k),hP,s3.seqT hb,?_⟩
        refine ⟨rfl,fin _ ?_,_,rfl⟩
        have:=ein (sy.1,k)
        unfold inF
        rw [e1,Bool.false_xor]
        exact this
     ·rintro zs σ' H' ⟨rfl,rfl,v,rfl⟩ D hD2
      rw [hyl,List.take_length]
      have s4:Same H' (upd H' D (.lst ((r.ps.map (inF F')).map V.bl))):=same_new hD2
      have h4:SqL K (upd H' D (.lst ((r.ps.map (inF F')).map V.bl))) D (bls (r.ps.map (inF F'))):=SqL.of upd_same
      generalize upd H' D (.lst ((r.ps.map (inF F')).map V.bl)) = H4 at s4 h4 ⊢
      refine ⟨_,h4,?_⟩
      have eall:(r.ps.map (inF F')).all id = r.ps.all (inF F'):=by rw [List.all_map]; rfl
      rw [eall]
      show if r.ps.all (inF F') = true then _ else _
      refine ite2 (fun ha=>?_) (fun ha=>?_)
      ·have hP4:=hP.same s4
       have hts4:=(s3.trans s4).seqT hts
       have hnp:thP r.sym ∉ ps.map (·.1):=by rw [eps]; exact fun z=>hnot (mem_thP.mp z)
       have hpl:ps.length = F'.length:=by have:=congrArg List.length eps; simpa using this
       refine ⟨ps,thP r.sym,hP4,hts4,hnp,?_⟩
       have hcl:=cntF_add mr hnot
       refine ⟨F' ++ [r.sym],true,_,_,_,fun x u e=>?_,⟨_,PAt.put hP4 hts4 hnp (by omega),?_⟩,?_,fun u hu=>?_,?_,(fun _=>by omega),(fun z=>nomatch z),by omega,rfl⟩
       ·rw [upd_ne fun z=>by rw [z,hd0] at e; cases e]; exact (s3.trans s4) x u e
       ·rw [List.map_append,eps,List.map_append]; rfl
       ·rw [List.nodup_append]
        refine ⟨nd3,by simp,fun x hx y hy=>?_⟩
        rw [List.mem_singleton.mp hy]
        exact fun e=>hnot (e ▸ hx)
       ·rcases List.mem_append.mp hu with z | z
        ·exact fd3 u z
        ·rw [List.mem_singleton.mp z]
         exact .mk r mr fun sy hsy k hk=>fd3 _ (inF_iff.mp (List.all_eq_true.mp ha sy hsy) k hk)
       ·rw [List.length_append,List.length_singleton]; omega
      ·exact stay (fun z=>absurd z ha) H4 s4
    ·have hin : r.sym ∈ F' := by
      by_cases z:r.sym ∈ F'
      ·exact z
      ·rw [decide_eq_false z] at h; exact absurd rfl h
     exact stay (fun _=>hin) H3 (Same.refl _)
   ·rintro σ H3 ⟨F',g',v3,v4,v5,s3,f3,nd3,fd3,fc3,g1,g2,g3,rfl⟩
    have em:=m1 hg
    cases hg':g' with
    | true =>
     have:=g1 hg'
     exact ⟨cntF rows F' + 1,by omega,F',true,_,_,_,s3,f3,nd3,by omega,fd3,(fun _=>rfl),(fun z=>nomatch z),fc3,rfl⟩
    | false =>
     obtain ⟨e,g9⟩:=g2 hg'
     subst e
     refine ⟨0,by omega,F',false,_,_,_,s3,f3,nd3,by omega,fd3,(fun z=>nomatch z),(fun _=>⟨rfl,fun r hr ha=>?_⟩),fc3,rfl⟩
     obtain ⟨j,hj,e⟩:=List.mem_iff_getElem.mp hr
     exact g9 j r (by omega) (by rw [List.getElem?_eq_getElem hj,e]) ha
  ·have hg:g = false:=Bool.eq_false_iff.mpr hg
   obtain ⟨_,cl⟩:=m2 hg
   refine .inl ⟨⟨_,s2.seq hS⟩,?_⟩
   refine for_list (xs:=xs) (fun i σ H'=>∃ (v3 v4 v5:Option V),Same H H'∧FrAt P w K H' d F∧(∀ (j:Nat) (r:PR),j < i→rows[j]? = some r→r.sym ∈ F)∧σ = [some (.ref a),some (.ref d),some (.bl g),v3,v4,v5])
    ⟨v3,v4,v5,s2,f2,(fun j r hj=>absurd hj (Nat.not_lt_zero _)),rfl⟩ (fun i σ H' _ h=>by obtain ⟨_,_,_,s3,_⟩:=h; exact s3.seq hS) ?_ ?_
   ·rintro i x σ H3 hx ⟨v3,v4,v5,s3,f3,hin,rfl⟩
    obtain ⟨r,t,ts,tp,ys,hri,rfl,hT,hts,htp,hys⟩:=row i x hx
    have mr:r ∈ rows:=List.mem_of_getElem? hri
    refine ⟨t,_,rfl,s3.seqT hT,rfl,_,_,rfl,_,_,rfl,_,_,rfl,rfl,?_⟩
    obtain ⟨ps,hP,eps⟩:=id f3
    refine .inl ⟨ps,thP r.sym,hP,s3.seqT hts,?_⟩
    have ein:decide (thP r.sym ∈ ps.map (·.1)) = decide (r.sym ∈ F):=by
     rw [eps,Bool.eq_iff_iff,decide_eq_true_eq,decide_eq_true_eq]
     exact mem_thP
    show if (true ^^ decide (thP r.sym ∈ ps.map (·.1))) = true then _ else _
    rw [ein]
    refine ite2 (fun h=>?_) (fun h=>?_)
    ·have hnot:r.sym ∉ F:=fun z=>by rw [decide_eq_true z] at h; exact absurd h (by decide)
     have ok:=hok r mr
     refine ⟨⟨trivial,⟨rfl,ts,pD (thP r.sym),rfl,.tuple (s3.seqT hts) (.cons (.str _) (.cons (.int _) .nil)),by unfold pD; simp [PyData.showable,PyData.showableAll]; exact (small_txt ok.r0 ok.r9).1,by unfold pD; simp [PyData.hasDict,PyData.hasDictAll],by unfold pD; simp only [PyData.depth,PyData.depthAll]; omega,pD_shown ok.l1 ok.z1 ok.r0 ok.r9⟩,trivial⟩,fun y _=>⟨(show 1 ≤ sizeLine by decide),qE ⟨r,mr,fun z=>hnot (der_in cl z)⟩ _ s3⟩⟩
    ·have hin2 : r.sym ∈ F := by
      by_cases z:r.sym ∈ F
      ·exact z
      ·rw [decide_eq_false z] at h; exact absurd rfl h
     refine ⟨_,_,_,s3,f3,fun j r' hj hr'=>?_,rfl⟩
     by_cases hji:j = i
     ·rw [hji,hri] at hr'
      have er:=Option.some.inj hr'
      subst er
      exact hin2
     ·exact hin j r' (by omega) hr'
   ·rintro σ H3 ⟨v3,v4,v5,s3,f3,hin,rfl⟩
    refine qI (fun r hr=>?_) H3 s3
    obtain ⟨j,hj,e⟩:=List.mem_iff_getElem.mp hr
    exact fd _ (hin j r (by omega) (by rw [List.getElem?_eq_getElem hj,e]))
end
end K30
--@RAISES but law
namespace K30
open PySem PySem.Spec PyProof.Rows L2 Rg
section
variable {P:Program} {w:World} {K:PySem.W.Frag} {mg:Str→Option Value} {base:Heap} {C tS tN tT:Addr}
inductive Rch (rs:List Rl):List Nat→Prop
 | first {q:Rl}:rs[0]? = some q→Rch rs q.sort
 | step {q:Rl} {p:List Nat}:q ∈ rs→Rch rs q.sort→p ∈ q.ps→Rch rs p
def psOf (rs:List Rl) (s:List Nat):List (List Nat):=(rs.filter fun q=>q.sort == s).flatMap Rl.ps
def left (rs:List Rl) (F:List (List Nat)):Nat:=((rs.filter fun q=>decide (q.sort ∉ F)).map fun q=>q.ps.length).sum
theorem left_add {F:List (List Nat)} {s:List Nat} (h:s ∉ F):∀ rs:List Rl,left rs (F ++ [s]) + (psOf rs s).length = left rs F
 | []=>rfl
 | q :: r=>by
  have ih:=left_add h r
  unfold left psOf at ih ⊢
  rw [List.filter_cons,List.filter_cons,List.filter_cons]
  by_cases e:q.sort = s
  ·rw [if_neg (show ¬ decide (q.sort ∉ F ++ [s]) = true by simp [e]),if_pos (show (q.sort == s) = true by simp [e]),if_pos (show decide (q.sort ∉ F) = true by rw [e]; exact decide_eq_true h)]
   simp
   simp at ih
   omega
  ·rw [if_neg (show ¬ (q.sort == s) = true by simp [e])]
   by_cases e2:q.sort ∈ F
   ·rw [if_neg (show ¬ decide (q.sort ∉ F ++ [s]) = true by simp [e2]),if_neg (show ¬ decide (q.sort ∉ F) = true by simp [e2])]
    exact ih
   ·rw [if_pos (show decide (q.sort ∉ F ++ [s]) = true by simp [e2,e]),if_pos (show decide (q.sort ∉ F) = true by simp [e2])]
    simp
    simp at ih
    omega
theorem psOf_snoc (rs:List Rl) (g:Rl) (s:List Nat):psOf (rs ++ [g]) s = psOf rs s ++ (if g.sort = s then g.ps else []):=by
 unfold psOf
 rw [List.filter_append,List.flatMap_append]
 congr 1
 by_cases e:g.sort = s
 ·rw [if_pos e,List.filter_cons_of_pos (by simp [e])]; simp
 ·rw [if_neg e,List.filter_cons_of_neg (by simp [e])]; rfl
theorem mem_psOf {rs:List Rl} {s p:List Nat}:p ∈ psOf rs s ↔ ∃ q ∈ rs,q.sort = s∧p ∈ q.ps:=by
 unfold psOf
 rw [List.mem_flatMap]
 constructor
 ·rintro ⟨q,hq,hp⟩
  obtain ⟨h1,h2⟩:=List.mem_filter.mp hq
  exact ⟨q,h1,by simpa using h2,hp⟩
 ·rintro ⟨q,h1,h2,h3⟩
  exact ⟨q,List.mem_filter.mpr ⟨h1,by simpa using h2⟩,h3⟩
structure RcI (rs:List Rl) (m:Nat) (F W:List (List Nat)):Prop where
 em:m = W.length + left rs F
 all:∀ x ∈ F ++ W,Rch rs x
 fst:∀ q,rs[0]? = some q→q.sort ∈ F∨q.sort ∈ W
 cl:∀ q ∈ rs,q.sort ∈ F→∀ p ∈ q.ps,p ∈ F∨p ∈ W
 lw:∀ x ∈ W,low x
 le:m ≤ 1 + left rs []
theorem RcI.old {rs:List Rl} {m:Nat} {F W:List (List Nat)} {s:List Nat} (I:RcI rs m F (W ++ [s])) (h:s ∈ F):∃ m',m' < m∧RcI rs m' F W:=by
 have em:=I.em
 have le:=I.le
 rw [List.length_append,List.length_singleton] at em
 have mv:∀ x,x ∈ F∨x ∈ W ++ [s]→x ∈ F∨x ∈ W:=fun x hx=>by
  rcases hx with z | z
  ·exact .inl z
  ·rcases List.mem_append.mp z with z | z
   ·exact .inr z
   ·rw [List.mem_singleton.mp z]; exact .inl h
 refine ⟨W.length + left rs F,by omega,rfl,fun x hx=>I.all x ?_,fun q hq=>mv _ (I.fst q hq),fun q hq hs p hp=>mv _ (I.cl q hq hs p hp),fun x hx=>I.lw x (List.mem_append.mpr (.inl hx)),by omega⟩
 rcases List.mem_append.mp hx with z | z
 ·exact List.mem_append.mpr (.inl z)
 ·exact List.mem_append.mpr (.inr (List.mem_append.mpr (.inl z)))
theorem RcI.new {rs:List Rl} {m:Nat} {F W:List (List Nat)} {s:List Nat} (I:RcI rs m F (W ++ [s])) (h:s ∉ F) (hlw:∀ q ∈ rs,∀ p ∈ q.ps,low p):∃ m',m' < m∧RcI rs m' (F ++ [s]) (W ++ psOf rs s):=by
 have em:=I.em
 have le:=I.le
 have la:=left_add h rs
 rw [List.length_append,List.length_singleton] at em
 have mv:∀ x,x ∈ F∨x ∈ W ++ [s]→x ∈ F ++ [s]∨x ∈ W ++ psOf rs s:=fun x hx=>by
  rcases hx with z | z
  ·exact .inl (List.mem_append.mpr (.inl z))
  ·rcases List.mem_append.mp z with z | z
   ·exact .inr (List.mem_append.mpr (.inl z))
   ·exact .inl (List.mem_append.mpr (.inr z))
 have rs1:Rch rs s:=I.all s (List.mem_append.mpr (.inr (List.mem_append.mpr (.inr List.mem_cons_self))))
 refine ⟨(W ++ psOf rs s).length + left rs (F ++ [s]),by rw [List.length_append]; omega,rfl,fun x hx=>?_,fun q hq=>mv _ (I.fst q hq),fun q hq hs p hp=>?_,fun x hx=>?_,by rw [List.length_append]; omega⟩
 ·rcases List.mem_append.mp hx with z | z
  ·rcases List.mem_append.mp z with z | z
   ·exact I.all x (List.mem_append.mpr (.inl z))
   ·rw [List.mem_singleton.mp z]; exact rs1
  ·rcases List.mem_append.mp z with z | z
   ·exact I.all x (List.mem_append.mpr (.inr (List.mem_append.mpr (.inl z))))
   ·obtain ⟨q,h1,h2,h3⟩:=mem_psOf.mp z
    exact .step h1 (by rw [h2]; exact rs1) h3
 ·rcases List.mem_append.mp hs with z | z
  ·exact mv _ (I.cl q hq z p hp)
  ·exact .inr (List.mem_append.mpr (.inr (mem_psOf.mpr ⟨q,hq,List.mem_singleton.mp z,hp⟩)))
 ·rcases List.mem_append.mp hx with z | z
  ·exact I.lw x (List.mem_append.mpr (.inl z))
  ·obtain ⟨q,h1,_,h3⟩:=mem_psOf.mp z
   exact hlw q h1 x h3
theorem RcI.done {rs:List Rl} {m:Nat} {F:List (List Nat)} (I:RcI rs m F []) {x:List Nat} (h:Rch rs x):x ∈ F:=by
 induction h with
 | first hq =>
  rcases I.fst _ hq with z | z
  ·exact z
  ·cases z
 | step hq _ hp ih =>
  rcases I.cl _ hq ih _ hp with z | z
  ·exact z
  ·cases z
structure TxI (K:PySem.W.Frag) (mg:Str→Option Value) (C:Addr):Prop where
 c_Idle:mg "Idle" = some (.ref C)
 x_Idle:PySem.W.excIn K C bmVE "ValueError.__new__" = true
def spRc (K:PySem.W.Frag) (C:Addr):Sp:=fun vs H Q E=>∃ (a:Addr) (rl:List V) (rs:List Rl),vs = [.ref a]∧SqL K H a rl∧DatVs K H rl (rs.map Rl.dat)∧1 ≤ rs.length∧rs.length ≤ 60∧(∀ q ∈ rs,low q.sort∧q.sort.length ≤ 100∧q.ps.length ≤ 100∧∀ p ∈ q.ps,low p) ∧
 ((∀ q ∈ rs,Rch rs q.sort)→∀ H',Same H H'→Q .non H')∧((∃ q ∈ rs,¬ Rch rs q.sort)→∀ H',Same H H'→E (.ref C) none H')
theorem left_le:∀ {rs:List Rl},(∀ q ∈ rs,q.ps.length ≤ 100)→left rs [] ≤ 100 * rs.length
 | [],_=>Nat.le_refl _
 | q :: r,h=>by
  have ih:=left_le (rs:=r) fun x hx=>h x (List.mem_cons_of_mem _ hx)
  have h1:=h q List.mem_cons_self
  unfold left at ih ⊢
  rw [List.filter_cons_of_pos (by simp)]
  simp at ih ⊢
  omega
abbrev st_check_reached:Stmt:=top 25
theorem sc_check_reached:FnScope ["rules","reached","waiting","sort","rule"] ["rules"] (defScope st_check_reached):=⟨rfl,rfl,rfl,by decide +kernel,rfl,by decide +kernel,by decide +kernel⟩
theorem def_rc (R:Raw K mg "check_reached" st_check_reached ["rules"]) (T:TxI K mg C):DefX P w K mg base 1 "check_reached" ["rules"] (spRc K C):=by
 refine R.defX sc_check_reached (fun vs H Q E h=>?_) (fun f cdv A outer s H vs Q E hr h=>?_)
 ·obtain ⟨a,rl,rs,rfl,_⟩:=h
  rfl
 ·obtain ⟨a,rl,rs,rfl,hS,hD,hl1,hl,hlw,qI,qE⟩:=h
  have sc:=sc_check_reached
  have hu:=hr.units
  have hbg:(1000000:Nat) < sizeLine:=by rw [sizeLine_eq]; decide
  have hrl:rl.length = rs.length:=by have:=hD.length; rw [List.length_map] at this; exact this
  have rul:∀ (n:Nat) (x:V),rl[n]? = some x→∃ (q:Rl) (t tp:Addr),rs[n]? = some q∧x = .ref t∧SqT K H t [.str (S q.sort),.int q.rank,.str q.side,.ref tp]∧SqT K H tp (q.ps.map fun l=>V.str (S l)):=fun n x hx=>by
   obtain ⟨dd,hdd,hxd⟩:=hD.get hx
   rw [List.getElem?_map] at hdd
   cases ee:rs[n]? with
   | none=>rw [ee] at hdd; cases hdd
   | some g =>
    rw [ee] at hdd
    have ed:dd = g.dat:=(Option.some.inj hdd).symm
    subst ed
    obtain ⟨t,tp,e,hT,hTp⟩:=dat_rl hxd
    exact ⟨g,t,tp,rfl,e,hT,hTp⟩
  have hn0:rl[0]? = some (rl[0]'(by omega)):=List.getElem?_eq_getElem (by omega)
  obtain ⟨q0,t0,tp0,hq0,ex0,hT0,_⟩:=rul 0 _ hn0
  rw [ex0] at hn0
  have lq0:=hlw q0 (List.mem_of_getElem? hq0)
  have hll:=left_le fun q hq=>(hlw q hq).2.2.1
  refine ⟨_,(jss_cons (js_set (i:=1) sc.nd rfl (Or.inl rfl) j_dnewK)
  (jss_cons (js_set (i:=2) sc.nd rfl (Or.inl rfl) (j_lst (ja_cons (j_ix (o_ix hu (K:=K) (w:=w)) (j_ix (o_ix hu (K:=K) (w:=w)) (jn 0) j_int) j_int) ja_nil)))
  (jss_cons (js_while passes_loop (jt_tru (K:=K) (jn 2))
  (jss_cons (js_set (i:=3) sc.nd rfl (Or.inl rfl) (j_bm0 (K:=K) PySem.F.plainAttrs_list PySem.F.slot_list_pop PySem.F.type_list_pop m_pop (jn 2)))
  (jss_one (js_if (jt_cmp (o_notinM hu (K:=K) (P:=P) (w:=w)) (jn 3) (jn 1))
  (jss_cons (js_dput hu (jn 1) (jn 3) j_bl)
  (jss_one (js_for passes_loop rfl (ji_any (K:=K) (jn 0)) (jg_name (i:=4) sc.nd rfl (Or.inl rfl))
  (jss_one (js_if (jt_cmp (o_eqA hu (K:=K)) (j_ix (o_ix hu (K:=K) (w:=w)) (jn 4) j_int) (jn 3))
  (jss_one (js_expr (j_bm (K:=K) PySem.F.plainAttrs_list PySem.F.slot_list_extend PySem.F.type_list_extend (m_extendA (K:=K)) (jn 2) (ja_cons (j_ix (o_ix hu (K:=K) (w:=w)) (jn 4) j_int) ja_nil))))
  jss_nil)))))
  jss_nil))))
  (jss_one (js_for passes_loop rfl (ji_any (K:=K) (jn 0)) (jg_name (i:=4) sc.nd rfl (Or.inl rfl))
  (jss_one (js_if (jt_cmp (o_notinM hu (K:=K) (P:=P) (w:=w)) (j_ix (o_ix hu (K:=K) (w:=w)) (jn 4) j_int) (jn 1))
  (jss_cons (js_set (i:=3) sc.nd rfl (Or.inl rfl) (j_ix (o_ix hu (K:=K) (w:=w)) (jn 4) j_int))
  (jss_one (js_raise rfl T.c_Idle T.x_Idle (ja_cons (j_fs (jfs_cons jf_str (jfs_cons (jf_repr (jn 3)) jfs_nil))) ja_nil))))
  jss_nil))))))),?_⟩
  intro d hd0
  have s1:Same H (upd H d (.dK [])):=same_new hd0
  have h1:upd H d (.dK []) d = some (.dK (trV [])):=upd_same
  generalize upd H d (.dK []) = H1 at s1 h1 ⊢
  refine .inl ⟨_,.ref t0,s1.seq hS,atI_nat hn0,.inr ⟨_,.str (S q0.sort),s1.seqT hT0,atI_nat (j:=0) rfl,⟨(show 1 ≤ sizeLine by decide),fun wa hw0=>?_⟩⟩⟩
  have s2:Same H1 (upd H1 wa (.lst [V.str (S q0.sort)])):=same_new hw0
  have h2:upd H1 wa (.lst [V.str (S q0.sort)]) wa = some (.lst ([q0.sort].map fun l=>V.str (S l))):=upd_same
  generalize upd H1 wa (.lst [V.str (S q0.sort)]) = H2 at s2 h2 ⊢
  have hw00:H wa = none:=s1.free hw0
  have hdw:d ≠ wa:=fun z=>by rw [z,hw0] at h1; cases h1
  refine ⟨fun m σ H'=>∃ (F W:List (List Nat)) (v3 v4:Option V),Same H H'∧H' d = some (.dK (trV F))∧H' wa = some (.lst (W.map fun l=>V.str (S l)))∧RcI rs m F W∧F.length ≤ 100000 - m∧σ = [some (.ref a),some (.ref d),some (.ref wa),v3,v4],⟨1 + left rs [],[],[q0.sort],none,none,s1.trans s2,s2 _ _ h1,h2,⟨rfl,fun x hx=>by rw [List.mem_singleton.mp hx]; exact .first hq0,fun q hq=>by rw [hq0] at hq; cases hq; exact .inr List.mem_cons_self,(fun q hq hs=>nomatch hs),fun x hx=>by rw [List.mem_singleton.mp hx]; exact lq0.1,Nat.le_refl _⟩,Nat.zero_le _,rfl⟩,?_⟩
  rintro m σ H3 ⟨F,W,v3,v4,s3,hd3,hw3,I,fl,rfl⟩
  have ile:=I.le
  have iem:=I.em
  refine ⟨!(W.map fun l=>V.str (S l)).isEmpty,.inl ⟨_,SqL.of hw3,rfl⟩,?_⟩
  show if (!(W.map fun l=>V.str (S l)).isEmpty) = true then _ else _
  refine ite2 (fun hne=>?_) (fun hne=>?_)
  ·refine ⟨_,fun σ' H' h=>h,?_⟩
   have hne:W ≠ []:=fun z=>by rw [z] at hne; exact absurd hne (by decide)
   obtain ⟨W0,x,rfl⟩:∃ W0 x,W = W0 ++ [x]:=⟨W.dropLast,W.getLast hne,(List.dropLast_concat_getLast hne).symm⟩
   have hlx:low x:=I.lw x (List.mem_append.mpr (.inr List.mem_cons_self))
   rw [List.length_append,List.length_singleton] at iem
   have eW:((W0 ++ [x]).map fun l=>V.str (S l)) = (W0.map fun l=>V.str (S l)) ++ [V.str (S x)]:=by rw [List.map_append]; rfl
   rw [eW] at hw3
   refine ⟨.inl ⟨rfl,_,SqL.of hw3⟩,_,V.str (S x),hw3,by rw [List.length_append,List.length_singleton,Nat.add_sub_cancel,List.getElem?_append_right (Nat.le_refl _),Nat.sub_self]; rfl,?_⟩
   rw [List.dropLast_concat]
   have s4:Same H (upd H3 wa (.lst (W0.map fun l=>V.str (S l)))):=fun b u e=>by
    rw [upd_ne fun z=>by rw [z,hw00] at e; cases e]; exact s3 b u e
   have hw4:upd H3 wa (.lst (W0.map fun l=>V.str (S l))) wa = some (.lst (W0.map fun l=>V.str (S l))):=upd_same
   have hd4:upd H3 wa (.lst (W0.map fun l=>V.str (S l))) d = some (.dK (trV F)):=by rw [upd_ne hdw]; exact hd3
   generalize upd H3 wa (.lst (W0.map fun l=>V.str (S l))) = H4 at s4 hw4 hd4 ⊢
   refine .inr (.inr ⟨_,DGet.k (k:=.inr (S x)) hd4,?_⟩)
   show if (true ^^ (valV (trV F) (.inr (S x))).isSome) = true then _ else _
   rw [trV_val]
   refine ite2 (fun h=>?_) (fun h=>?_)
   ·have hnot:x ∉ F:=fun z=>by rw [decide_eq_true z] at h; exact absurd h (by decide)
    obtain ⟨m',hm,I'⟩:=I.new hnot fun q hq=>(hlw q hq).2.2.2
    have ile':=I'.le
    refine ⟨_,DPut.k (k:=.inr (S x)) hd4 (by unfold trV; rw [List.length_map]; omega),?_⟩
    rw [trV_put,show addS F x = F ++ [x] from if_neg hnot]
    have s5:Same H (upd H4 d (.dK (trV (F ++ [x])))):=fun b u e=>by
     rw [upd_ne fun z=>by rw [z,hd0] at e; cases e]; exact s4 b u e
    have hd5:upd H4 d (.dK (trV (F ++ [x]))) d = some (.dK (trV (F ++ [x]))):=upd_same
    have hw5:upd H4 d (.dK (trV (F ++ [x]))) wa = some (.lst (W0.map fun l=>V.str (S l))):=by rw [upd_ne (Ne.symm hdw)]; exact hw4
    generalize upd H4 d (.dK (trV (F ++ [x]))) = H5 at s5 hd5 hw5 ⊢
    refine .inl ⟨⟨_,s5.seq hS⟩,?_⟩
    refine for_list (xs:=rl) (fun i σ H'=>∃ (v4:Option V),Same H H'∧H' d = some (.dK (trV (F ++ [x])))∧H' wa = some (.lst ((W0 ++ psOf (rs.take i) x).map fun l=>V.str (S l)))∧σ = [some (.ref a),some (.ref d),some (.ref wa),some (.str (S x)),v4])
     ⟨v4,s5,hd5,by rw [show psOf (rs.take 0) x = [] from rfl,List.append_nil]; exact hw5,rfl⟩ (fun i σ H' _ h=>by obtain ⟨_,s6,_⟩:=h; exact s6.seq hS) ?_ ?_
    ·rintro i y σ H6 hy ⟨v4,s6,hd6,hw6,rfl⟩
     obtain ⟨g,t,tp,hgi,rfl,hT,hTp⟩:=rul i y hy
     have et:rs.take (i + 1) = rs.take i ++ [g]:=by rw [List.take_add_one,hgi]; rfl
     have mg1:g ∈ rs:=List.mem_of_getElem? hgi
     have hpl:(psOf (rs.take i) x).length ≤ (psOf rs x).length:=by
      have e:rs = rs.take i ++ rs.drop i:=(List.take_append_drop _ _).symm
      have:psOf rs x = psOf (rs.take i) x ++ psOf (rs.drop i) x:=by
       conv=>lhs; rw [e]
       unfold psOf
       rw [List.filter_append,List.flatMap_append]
      rw [this,List.length_append]
      omega
     have hI':=I'.em
     rw [List.length_append] at hI'
     refine .inr ⟨_,.str (S g.sort),s6.seqT hT,atI_nat (j:=0) rfl,?_⟩
     show if (false ^^ decide ((S g.sort:Str) = S x)) = true then _ else _
     rw [Bool.false_xor,eqS_iff]
     refine ite2 (fun h=>?_) (fun h=>?_)
     ·refine ⟨.inl ⟨rfl,_,SqL.of hw6⟩,.inr ⟨_,.ref tp,s6.seqT hT,atI_nat (j:=3) rfl,?_⟩⟩
      have hg8:=(hlw g mg1).2.2.1
      refine ⟨_,_,hw6,.inr (s6.seqT hTp),by rw [List.length_map,List.length_map,List.length_append]; omega,?_⟩
      refine ⟨_,fun b u e=>?_,?_,?_,rfl⟩
      ·rw [upd_ne fun z=>by rw [z,hw00] at e; cases e]; exact s6 b u e
      ·rw [upd_ne hdw]; exact hd6
      ·rw [upd_same,et,psOf_snoc,if_pos (beq_iff_eq.mp h),← List.append_assoc,List.map_append (l₁:=W0 ++ psOf (rs.take i) x)]
     ·refine ⟨_,s6,hd6,?_,rfl⟩
      rw [et,psOf_snoc,if_neg (fun z=>h (beq_iff_eq.mpr z)),List.append_nil]
      exact hw6
    ·rintro σ H6 ⟨v4,s6,hd6,hw6,rfl⟩
     rw [hrl,List.take_length] at hw6
     exact ⟨m',hm,F ++ [x],W0 ++ psOf rs x,_,_,s6,hd6,hw6,I',by rw [List.length_append,List.length_singleton]; omega,rfl⟩
   ·have hin : x ∈ F := by
     by_cases z:x ∈ F
     ·exact z
     ·rw [decide_eq_false z] at h; exact absurd rfl h
    obtain ⟨m',hm,I'⟩:=I.old hin
    exact ⟨m',hm,F,W0,_,_,s4,hd4,hw4,I',by omega,rfl⟩
  ·have eW : W = [] := by
    cases W with
    | nil=>rfl
    | cons _ _=>exact absurd rfl hne
   subst eW
   refine .inl ⟨⟨_,s3.seq hS⟩,?_⟩
   refine for_list (xs:=rl) (fun i σ H'=>∃ (v3 v4:Option V),H' = H3∧(∀ (j:Nat) (q:Rl),j < i→rs[j]? = some q→q.sort ∈ F)∧σ = [some (.ref a),some (.ref d),some (.ref wa),v3,v4])
    ⟨v3,v4,rfl,(fun j r hj=>absurd hj (Nat.not_lt_zero _)),rfl⟩ (fun i σ H' _ h=>by obtain ⟨_,_,rfl,_⟩:=h; exact s3.seq hS) ?_ ?_
   ·rintro i y σ H6 hy ⟨v3,v4,rfl,hin,rfl⟩
    obtain ⟨g,t,tp,hgi,rfl,hT,hTp⟩:=rul i y hy
    have mg1:g ∈ rs:=List.mem_of_getElem? hgi
    refine .inr ⟨_,.str (S g.sort),s3.seqT hT,atI_nat (j:=0) rfl,.inr (.inr ⟨_,DGet.k (k:=.inr (S g.sort)) hd3,?_⟩)⟩
    show if (true ^^ (valV (trV F) (.inr (S g.sort))).isSome) = true then _ else _
    rw [trV_val]
    refine ite2 (fun h=>?_) (fun h=>?_)
    ·have hnot:g.sort ∉ F:=fun z=>by rw [decide_eq_true z] at h; exact absurd h (by decide)
     have lg:=hlw g mg1
     refine .inr ⟨_,.str (S g.sort),s3.seqT hT,atI_nat (j:=0) rfl,?_⟩
     refine ⟨⟨trivial,⟨rfl,_,rfl,by rw [S_len]; omega,lowc lg.1⟩,trivial⟩,fun y _=>⟨(show 1 ≤ sizeLine by decide),qE ⟨g,mg1,fun z=>hnot (I.done z)⟩ _ s3⟩⟩
    ·have hin2 : g.sort ∈ F := by
      by_cases z:g.sort ∈ F
      ·exact z
      ·rw [decide_eq_false z] at h; exact absurd rfl h
     refine ⟨_,_,rfl,fun j r' hj hr'=>?_,rfl⟩
     by_cases hji:j = i
     ·rw [hji,hgi] at hr'
      have er:=Option.some.inj hr'
      subst er
      exact hin2
     ·exact hin j r' (by omega) hr'
   ·rintro σ H6 ⟨v3,v4,rfl,hin,rfl⟩
    refine qI (fun q hq=>?_) H6 s3
    obtain ⟨j,hj,e⟩:=List.mem_iff_getElem.mp hq
    exact I.all _ (List.mem_append.mpr (.inl (hin j q (by omega) (by rw [List.getElem?_eq_getElem hj,e]))))
end
end K30
--@RAISES but law
namespace K30
open PySem PySem.Spec PyProof.Rows L2 Rg
section
variable {P:Program} {w:World} {K:PySem.W.Frag} {mg:Str→Option Value} {base:Heap} {C tS tN tT CF CB CI:Addr}
def topR (rs:List Rl):PR:=⟨([],0),[((rs.getD 0 ⟨[],0,"",[]⟩).sort,some ((srtI (ranksR rs (rs.getD 0 ⟨[],0,"",[]⟩).sort)).getD 0 0))],-1⟩
def plainF (rs:List Rl):List PR:=topR rs :: (sortsF rs).flatMap (blkF rs)
theorem mem_sorts:∀ (rs:List Rl) (acc:List (List Nat)) (s:List Nat),s ∈ rs.foldl (fun acc q=>addS acc q.sort) acc ↔ s ∈ acc∨∃ q ∈ rs,q.sort = s
 | [],acc,s=>by simp
 | q :: r,acc,s=>by
  rw [List.foldl_cons,mem_sorts r]
  have h:s ∈ addS acc q.sort ↔ s ∈ acc∨q.sort = s:=by
   unfold addS
   split
   ·rename_i h
    exact ⟨.inl,fun z=>z.elim id fun e=>e ▸ h⟩
   ·rw [List.mem_append,List.mem_singleton]
    exact ⟨fun z=>z.elim .inl fun e=>.inr e.symm,fun z=>z.elim .inl fun e=>.inr e.symm⟩
  rw [h]
  constructor
  ·rintro ((z | z) | ⟨x,hx,e⟩)
   ·exact .inl z
   ·exact .inr ⟨q,List.mem_cons_self,z⟩
   ·exact .inr ⟨x,List.mem_cons_of_mem _ hx,e⟩
  ·rintro (z | ⟨x,hx,e⟩)
   ·exact .inl (.inl z)
   ·rcases List.mem_cons.mp hx with z | z
    ·rw [z] at e; exact .inl (.inr e)
    ·exact .inr ⟨x,z,e⟩
theorem mem_sortsF {rs:List Rl} {s:List Nat}:s ∈ sortsF rs ↔ ∃ q ∈ rs,q.sort = s:=by
 unfold sortsF
 rw [mem_sorts]
 simp
theorem dvs_app {H:Hp}:∀ {xs ys:List V} {ds es:List PyData},DatVs K H xs ds→DatVs K H ys es→DatVs K H (xs ++ ys) (ds ++ es)
 | _,_,_,_,.nil,h=>h
 | _,_,_,_,.cons a b,h=>.cons a (dvs_app b h)
theorem mem_srtI {l:List Int} {x:Int}:x ∈ srtI l ↔ x ∈ l:=by
 unfold srtI
 rw [(List.mergeSort_perm _ _).mem_iff]
 exact dist_mem1 l x
theorem srtI_len (l:List Int):(srtI l).length ≤ l.length:=by
 unfold srtI
 rw [(List.mergeSort_perm _ _).length_eq]
 exact dist_len l
theorem ranks_len (rs:List Rl) (s:List Nat):(ranksR rs s).length ≤ rs.length:=by unfold ranksR; rw [List.length_map]; exact List.length_filter_le _ _
theorem rank_of {rs:List Rl} {s:List Nat} {r:Int} (h:r ∈ ranksR rs s):∃ q ∈ rs,q.sort = s∧q.rank = r:=by
 obtain ⟨q,hq,e⟩:=List.mem_map.mp h
 obtain ⟨h1,h2⟩:=List.mem_filter.mp hq
 exact ⟨q,h1,by simpa using h2,e⟩
theorem mem_blk {rs:List Rl} {s:List Nat} {r:PR} (h:r ∈ blkF rs s):(∃ (n:Nat) (q:Rl),rs[n]? = some q∧q.sort = s∧r = ⟨(q.sort,q.rank),symsP rs q,(n:Nat)⟩)∨∃ r1 r2,r1 ∈ ranksR rs s∧r2 ∈ ranksR rs s∧r = ⟨(s,r1),[(s,some r2)],-1⟩:=by
 unfold blkF blkU at h
 obtain ⟨k,hk,h⟩:=List.mem_flatMap.mp h
 have hk:=List.mem_range.mp hk
 have hk2:(srtI (ranksR rs s)).getD k 0 ∈ ranksR rs s:=by rw [List.getD,List.getElem?_eq_getElem hk]; exact mem_srtI.mp (List.getElem_mem _)
 rcases List.mem_append.mp h with h | h
 ·unfold rowsU at h
  obtain ⟨n,_,h⟩:=List.mem_flatMap.mp h
  unfold rowA at h
  split at h
  ·rename_i q hq
   split at h
   ·rename_i e
    rw [List.mem_singleton.mp h]
    exact .inl ⟨n,q,hq,e.1,by rw [e.1,e.2]⟩
   ·cases h
  ·cases h
 ·unfold upR at h
  split at h
  ·rename_i r2 hr2
   rw [List.mem_singleton.mp h]
   exact .inr ⟨_,r2,hk2,mem_srtI.mp (List.mem_of_getElem? hr2),rfl⟩
  ·cases h
theorem plain_ok {rs:List Rl} (hR:rulesB rs = true) (hF:∀ q ∈ rs,Fine q):∀ r ∈ plainF rs,PROk r∧r.ps.length ≤ 100:=fun r hr=>by
 obtain ⟨r1,r24,rok⟩:=(rulesB_iff rs).mp hR
 rcases List.mem_cons.mp hr with e | hr
 ·rw [e]
  exact ⟨⟨(fun c hc=>nomatch hc),Nat.zero_le _,Int.le_refl _,(show (0:Int) ≤ 99 by decide)⟩,(show 1 ≤ 100 by decide)⟩
 ·obtain ⟨s,hs,h⟩:=List.mem_flatMap.mp hr
  rcases mem_blk h with ⟨n,q,hq,_,e⟩ | ⟨a,b,ha,_,e⟩
  ·have mq:=List.mem_of_getElem? hq
   have o:=(okB_iff q).mp (rok q mq)
   have f:=hF q mq
   rw [e]
   exact ⟨⟨f.ls,f.zs,o.1,o.2.1⟩,by show (symsP rs q).length ≤ 100; rw [symsP_len]; exact f.zp⟩
  ·obtain ⟨q,mq,e1,e2⟩:=rank_of ha
   have o:=(okB_iff q).mp (rok q mq)
   have f:=hF q mq
   rw [e]
   exact ⟨⟨by show low s; rw [← e1]; exact f.ls,by show s.length ≤ 100; rw [← e1]; exact f.zs,by show 0 ≤ a; rw [← e2]; exact o.1,by show a ≤ 99; rw [← e2]; exact o.2.1⟩,(show 1 ≤ 100 by decide)⟩
theorem blkF_len {rs:List Rl} (h:rs.length ≤ 24) (s:List Nat):(blkF rs s).length ≤ 600:=by
 unfold blkF
 have h1:=blkU_len rs s (srtI (ranksR rs s)) (srtI (ranksR rs s)).length
 have h2:=srtI_len (ranksR rs s)
 have h3:=ranks_len rs s
 exact Nat.le_trans h1 (Nat.le_trans (Nat.mul_le_mul (show (srtI (ranksR rs s)).length ≤ 24 by omega) (show rs.length + 1 ≤ 25 by omega)) (by decide))
theorem flat_len {rs:List Rl} (h:rs.length ≤ 24):∀ l:List (List Nat),(l.flatMap (blkF rs)).length ≤ 600 * l.length
 | []=>by simp
 | s :: r=>by
  have:=flat_len h r
  have:=blkF_len h s
  rw [List.flatMap_cons,List.length_append,List.length_cons]
  omega
def spPl (K:PySem.W.Frag) (CF CB CI:Addr):Sp:=fun vs H Q E=>∃ (a:Addr) (rl:List V) (rs:List Rl),vs = [.ref a]∧SqL K H a rl∧DatVs K H rl (rs.map Rl.dat)∧rulesB rs = true∧(∀ q ∈ rs,Fine q) ∧
 ((∃ q ∈ rs,badQ rs q = true)→∀ H',Same H H'→E (.ref CF) none H') ∧
 ((∀ q ∈ rs,badQ rs q = false)→(∃ r ∈ plainF rs,¬ Der (plainF rs) r.sym)→∀ H',Same H H'→E (.ref CB) none H') ∧
 ((∀ q ∈ rs,badQ rs q = false)→(∀ r ∈ plainF rs,Der (plainF rs) r.sym)→(∃ q ∈ rs,¬ Rch rs q.sort)→∀ H',Same H H'→E (.ref CI) none H') ∧
 ((∀ q ∈ rs,badQ rs q = false)→(∀ r ∈ plainF rs,Der (plainF rs) r.sym)→(∀ q ∈ rs,Rch rs q.sort)→∀ (H':Hp) (p:Addr) (xs:List V),Same H H'→H' p = some (.lst xs)→DatVs K H' xs ((plainF rs).map PR.dat)→Q (.ref p) H')
abbrev st_plain_rules:Stmt:=top 20
theorem sc_plain_rules:FnScope ["rules","parts","first","plain","sort"] ["rules"] (defScope st_plain_rules):=⟨rfl,rfl,rfl,by decide +kernel,rfl,by decide +kernel,by decide +kernel⟩
theorem def_pl (R : Raw K mg "plain_rules" st_plain_rules ["rules"]) (T : Txt K w mg tT) (D_check_rules : DefX P w K mg base 2 "check_rules" ["rules"] (spCks K C)) (D_symbols_of : DefX P w K mg base 3 "symbols_of" ["rules", "number"] (spSym K CF)) (D_ranks_of : Def P w K mg base 1 "ranks_of" ["rules", "sort"] (spRanks K))
  (D_sorts_of:Def P w K mg base 1 "sorts_of" ["rules"] (spSorts K)) (D_plain_of_sort:Def P w K mg base 2 "plain_of_sort" ["rules","parts","sort"] (spPos K)) (D_check_fruitful:DefX P w K mg base 1 "check_fruitful" ["plain"] (spFr K CB)) (D_check_reached:DefX P w K mg base 1 "check_reached" ["rules"] (spRc K CI)) :
  DefX P w K mg base 4 "plain_rules" ["rules"] (spPl K CF CB CI):=by
 refine R.defX sc_plain_rules (fun vs H Q E h=>?_) (fun f cdv A outer s H vs Q E hr h=>?_)
 ·obtain ⟨a,rl,rs,rfl,_⟩:=h
  rfl
 ·obtain ⟨a,rl,rs,rfl,hS,hD,hR,hF,qF,qB,qI,qQ⟩:=h
  have sc:=sc_plain_rules
  have hu:=hr.units
  have hbg:(1000000:Nat) < sizeLine:=by rw [sizeLine_eq]; decide
  obtain ⟨r1,r24,rok⟩:=(rulesB_iff rs).mp hR
  have hrl:rl.length = rs.length:=by have:=hD.length; rw [List.length_map] at this; exact this
  refine ⟨_,(jss_cons (js_expr (j_defX D_check_rules (hr.mono (by decide)) rfl (ja_cons (jn 0) ja_nil) pass1))
  (jss_cons (js_compX (i:=1) exits_fn rfl rfl (N:=["number","rules"]) (cap:=[none,some 0]) rfl (CompScope.of rfl (by rfl)) (ji_rng1 rfl T.n_range (ja_cons (j_callB (c_len (K:=K)) rfl T.n_len PySem.boot_len (ja_cons (jn 0) ja_nil)) ja_nil)) (fun _ _ _ _=>(jg_name (i:=0) (show List.Nodup [("number":Str),("rules":Str)] by decide +kernel) rfl (Or.inl rfl))) (fun _ _ _ _=>jts_nil) (fun _ _ _ _=>(j_defX D_symbols_of (hr.mono (by decide)) rfl (ja_cons (jn 1) (ja_cons (jn 0) ja_nil)) passes_comp)) sc.nd rfl rfl)
  (jss_cons (js_set (i:=2) sc.nd rfl (Or.inl rfl) (j_ix (o_ix hu (K:=K) (w:=w)) (j_ix (o_ix hu (K:=K) (w:=w)) (jn 0) j_int) j_int))
  (jss_cons (js_set (i:=3) sc.nd rfl (Or.inl rfl) (j_lst (ja_cons (j_tup (ja_cons (j_glob (v:=.ref _) rfl T.g_TOP rfl) (ja_cons (j_tup (ja_cons (j_tup (ja_cons (jn 2) (ja_cons (j_ix (o_ix hu (K:=K) (w:=w)) (j_def D_ranks_of (hr.mono (by decide)) rfl (ja_cons (jn 0) (ja_cons (jn 2) ja_nil))) j_int) ja_nil))) ja_nil)) (ja_cons (j_gint rfl T.g_NO_RULE) ja_nil)))) ja_nil)))
  (jss_cons (js_for passes_loop rfl (ji_any (K:=K) (j_def D_sorts_of (hr.mono (by decide)) rfl (ja_cons (jn 0) ja_nil))) (jg_name (i:=4) sc.nd rfl (Or.inl rfl))
  (jss_one (js_expr (j_bm (K:=K) PySem.F.plainAttrs_list PySem.F.slot_list_extend PySem.F.type_list_extend (m_extendA (K:=K)) (jn 3) (ja_cons (j_def D_plain_of_sort (hr.mono (by decide)) rfl (ja_cons (jn 0) (ja_cons (jn 1) (ja_cons (jn 4) ja_nil)))) ja_nil)))))
  (jss_cons (js_expr (j_defX D_check_fruitful (hr.mono (by decide)) rfl (ja_cons (jn 3) ja_nil) pass1))
  (jss_cons (js_expr (j_defX D_check_reached (hr.mono (by decide)) rfl (ja_cons (jn 0) ja_nil) pass1))
  (jss_one (js_ret (jn 3)))))))))),?_⟩
  have hrk:∀ x ∈ rs,0 ≤ x.rank∧x.rank ≤ 99:=fun x hx=>⟨((okB_iff x).mp (rok x hx)).1,((okB_iff x).mp (rok x hx)).2.1⟩
  refine ⟨a,rl,rs,rfl,hS,hD,by omega,hF,fun _ H1 s1=>?_,fun z=>absurd z (by rw [hR]; decide)⟩
  refine ⟨_,.inl (s1.seq hS),?_⟩
  refine ⟨show -(2 ^ 62) ≤ ((rl.length:Nat):Int) by omega,show ((rl.length:Nat):Int) < 2 ^ 62 by omega,?_⟩
  refine gath_range (n:=((rl.length:Nat):Int).toNat) (fun i ys σ' H'=>Same H H'∧DatVs K H' ys ((rs.take i).map fun q=>.tuple ((symsP rs q).map syD))∧(∀ q ∈ rs.take i,badQ rs q = false)∧∃ v,σ' = [v,some (.ref a)]) (by omega) ⟨s1,.nil,(fun q hq=>nomatch hq),none,rfl⟩
   (fun i ys σ' H' h=>by have:=h.2.1.length; rw [List.length_map,List.length_take] at this; omega) ?_ ?_
  ·rintro i ys σ' H2 hi ⟨s2,hd2,hb2,v,rfl⟩
   have hil:i < rs.length:=by omega
   have hq:rs[i]? = some rs[i]:=List.getElem?_eq_getElem hil
   generalize rs[i] = q at hq
   have mq:=List.mem_of_getElem? hq
   have et:rs.take (i + 1) = rs.take i ++ [q]:=by rw [List.take_add_one,hq]; rfl
   rw [show (0:Int) + ((i:Nat):Int) = ((i:Nat):Int) from Int.zero_add _]
   refine ⟨a,rl,rs,i,q,rfl,s2.seq hS,hD.same s2,by omega,hq,hrk,(hF q mq).zp,fun z H3 s3=>qF ⟨q,mq,z⟩ H3 (s2.trans s3),fun z H3 t s3 hd=>⟨s2.trans s3,?_,fun q' hq'=>?_,_,rfl⟩⟩
   ·rw [et,List.map_append]
    exact DatVs.snoc hd (hd2.same s3)
   ·rw [et] at hq'
    rcases List.mem_append.mp hq' with y | y
    ·exact hb2 q' y
    ·rw [List.mem_singleton.mp y]; exact z
  ·rintro ys σ' H2 ⟨s2,hd2,hb2,v,rfl⟩ pa hpa
   rw [Int.toNat_natCast,hrl,List.take_length] at hd2 hb2
   have s3:Same H2 (upd H2 pa (.lst ys)):=same_new hpa
   have hP3:SqL K (upd H2 pa (.lst ys)) pa ys:=SqL.of upd_same
   generalize upd H2 pa (.lst ys) = H3 at s3 hP3 ⊢
   have sA:=s2.trans s3
   have hd3:=hd2.same s3
   clear hd2 s2 s3 s1
   have hn0:rl[0]? = some (rl[0]'(by omega)):=List.getElem?_eq_getElem (by omega)
   have hq0:rs[0]? = some (rs.getD 0 ⟨[],0,"",[]⟩):=by rw [List.getD,List.getElem?_eq_getElem (by omega)]; rfl
   obtain ⟨dd,hdd,hxd⟩:=hD.get hn0
   rw [List.getElem?_map,hq0] at hdd
   have etop:topR rs = ⟨([],0),[((rs.getD 0 ⟨[],0,"",[]⟩).sort,some ((srtI (ranksR rs (rs.getD 0 ⟨[],0,"",[]⟩).sort)).getD 0 0))],-1⟩:=rfl
   generalize rs.getD 0 ⟨[],0,"",[]⟩ = q0 at hq0 hdd etop
   have ed:dd = q0.dat:=(Option.some.inj hdd).symm
   subst ed
   have mq0:=List.mem_of_getElem? hq0
   obtain ⟨t0,tp0,ex0,hT0,_⟩:=dat_rl hxd
   rw [ex0] at hn0
   refine .inl ⟨_,.ref t0,sA.seq hS,atI_nat hn0,.inr ⟨_,.str (S q0.sort),sA.seqT hT0,atI_nat (j:=0) rfl,?_⟩⟩
   refine ⟨a,rl,rs,q0.sort,rfl,sA.seq hS,hD.same sA,by omega,fun H4 pr ns s4 hpr hpm hsr=>?_⟩
   have ens:=srt_eq hpm hsr
   have hn1:ns ≠ []:=fun z=>by
    have:=(Srt.nil ⟨hpm,hsr⟩).mp z
    have h9:=rank_in mq0
    rw [this] at h9
    cases h9
   have hns0:(ns.map V.int)[0]? = some (V.int (ns.getD 0 0)):=by
    cases ns with
    | nil=>exact absurd rfl hn1
    | cons x r=>rfl
   rw [← ens] at etop
   generalize ns.getD 0 0 = r0 at hns0 etop
   refine .inl ⟨_,.int r0,SqL.of hpr,atI_nat (j:=0) hns0,⟨(show 2 ≤ sizeLine by decide),fun p5 hp5=>⟨(show 1 ≤ sizeLine by decide),fun p6 hp6=>⟨(show 3 ≤ sizeLine by decide),fun p7 hp7=>⟨(show 1 ≤ sizeLine by decide),fun b hb0=>?_⟩⟩⟩⟩⟩
   dsimp only at hp6 hp7 hb0 ⊢
   have z5:Same H4 (upd H4 p5 (.tup [V.str (S q0.sort),V.int r0])):=same_new hp5
   have k5:SqT K (upd H4 p5 (.tup [V.str (S q0.sort),V.int r0])) p5 [V.str (S q0.sort),V.int r0]:=SqT.of upd_same
   generalize upd H4 p5 (.tup [V.str (S q0.sort),V.int r0]) = H5 at z5 k5 hp6 hp7 hb0 ⊢
   have z6:Same H5 (upd H5 p6 (.tup [.ref p5])):=same_new hp6
   have k6:SqT K (upd H5 p6 (.tup [.ref p5])) p6 [.ref p5]:=SqT.of upd_same
   generalize upd H5 p6 (.tup [.ref p5]) = H6 at z6 k6 hp7 hb0 ⊢
   have z7:Same H6 (upd H6 p7 (.tup [.ref tT,.ref p6,.int (-1)])):=same_new hp7
   have k7:SqT K (upd H6 p7 (.tup [.ref tT,.ref p6,.int (-1)])) p7 [.ref tT,.ref p6,.int (-1)]:=SqT.of upd_same
   generalize upd H6 p7 (.tup [.ref tT,.ref p6,.int (-1)]) = H7 at z7 k7 hb0 ⊢
   have sB:Same H3 H7:=(s4.trans z5).trans (z6.trans z7)
   have sC:=sA.trans sB
   have htop:DatV K H7 (.ref p7) (topR rs).dat:=by
    rw [etop]
    exact .tuple k7 (.cons (.tuple (T.k_TOP _) (.cons (.str _) (.cons (.int _) .nil))) (.cons (.tuple (z7.seqT k6) (.cons (.tuple ((z6.trans z7).seqT k5) (.cons (.str _) (.cons (.int _) .nil))) .nil)) (.cons (.int _) .nil)))
   have z8:Same H7 (upd H7 b (.lst [.ref p7])):=same_new hb0
   have g8:PRH K H7 (upd H7 b (.lst [.ref p7])) b [topR rs]:=⟨z8,_,upd_same,.cons (htop.same z8) .nil⟩
   generalize upd H7 b (.lst [.ref p7]) = H8 at z8 g8 ⊢
   have sD:=sC.trans z8
   refine ⟨a,rl,rs,rfl,sD.seq hS,hD.same sD,by omega,fun H9 ps s9 hps=>?_⟩
   have g9:=g8.grow s9
   have hsl:(sortsF rs).length ≤ 24:=by have:=sorts_len rs []; unfold sortsF; simp at this ⊢; omega
   have hpsb:ps ≠ b:=fun z=>by
    obtain ⟨_,xs,hx,hdx⟩:=g9
    rw [z,hx] at hps
    have e:xs = (sortsF rs).map fun l=>V.str (S l):=by injection hps with hps; injection hps
    rw [e] at hdx
    cases hh:sortsF rs with
    | nil=>rw [hh] at hdx; cases hdx
    | cons x r =>
     rw [hh] at hdx
     cases hdx with
     | cons h1 _ =>
      unfold PR.dat at h1
      cases h1
   refine .inl ⟨⟨_,SqL.of hps⟩,?_⟩
   refine for_list (xs:=(sortsF rs).map fun l=>V.str (S l)) (fun i σ H'=>∃ (v4:Option V),H' ps = some (.lst ((sortsF rs).map fun l=>V.str (S l)))∧PRH K H7 H' b (topR rs :: ((sortsF rs).take i).flatMap (blkF rs))∧σ = [some (.ref a),some (.ref pa),some (.str (S q0.sort)),some (.ref b),v4])
    ⟨none,hps,g9,rfl⟩ (fun i σ H' _ h=>by obtain ⟨_,e1,_⟩:=h; exact SqL.of e1) ?_ ?_
   ·rintro i x σ H10 hx ⟨v4,e1,g10,rfl⟩
    have hil:i < (sortsF rs).length:=by have:=(List.getElem?_eq_some_iff.mp hx).1; rw [List.length_map] at this; exact this
    rw [List.getElem?_map,List.getElem?_eq_getElem hil] at hx
    have mso:(sortsF rs)[i] ∈ sortsF rs:=List.getElem_mem _
    have et:(sortsF rs).take (i + 1) = (sortsF rs).take i ++ [(sortsF rs)[i]]:=by rw [List.take_add_one,List.getElem?_eq_getElem hil]; rfl
    generalize (sortsF rs)[i] = so at hx mso et
    have ex:x = V.str (S so):=(Option.some.inj hx).symm
    subst ex
    obtain ⟨q1,mq1,eq1⟩:=mem_sortsF.mp mso
    obtain ⟨s10,xs,hb10,hd10⟩:=id g10
    have hxl:xs.length = 1 + (((sortsF rs).take i).flatMap (blkF rs)).length:=by have:=hd10.length; rw [List.length_map,List.length_cons] at this; omega
    have hfl:=flat_len r24 ((sortsF rs).take i)
    rw [List.length_take] at hfl
    have sE:=sC.trans s10
    refine ⟨.inl ⟨rfl,_,SqL.of hb10⟩,?_⟩
    refine ⟨a,pa,rl,ys,rs,so,rfl,sE.seq hS,hD.same sE,by omega,(sB.trans s10).seq hP3,hd3.same (sB.trans s10),(fun z=>by have h9:=rank_in mq1; rw [eq1,z] at h9; cases h9),fun H11 p11 zs s11 hp11 hd11=>?_⟩
    have hzl:zs.length = (blkF rs so).length:=by have:=hd11.length; rw [List.length_map] at this; exact this
    have hbf:=blkF_len r24 so
    refine ⟨xs,zs,s11 _ _ hb10,.inl hp11,by omega,?_⟩
    refine ⟨_,by rw [upd_ne hpsb]; exact s11 _ _ e1,⟨fun x u e=>?_,_,upd_same,dats_wr (.inl ⟨_,s11 _ _ hb10⟩) (prs_noL _) ?_⟩,rfl⟩
    ·rw [upd_ne fun z=>by rw [z,hb0] at e; cases e]; exact (s10.trans s11) x u e
    ·rw [et,List.flatMap_append]
     have e9:([so].flatMap (blkF rs)) = blkF rs so:=by simp
     rw [e9,← List.cons_append,List.map_append]
     exact dvs_app (hd10.same s11) hd11
   ·rintro σ H10 ⟨v4,e1,⟨s10,xs,hb10,hd10⟩,rfl⟩
    rw [List.length_map,List.take_length] at hd10
    have hd10:DatVs K H10 xs ((plainF rs).map PR.dat):=hd10
    have hpl:(plainF rs).length ≤ 50000:=by
     have:=flat_len r24 (sortsF rs)
     unfold plainF
     rw [List.length_cons]
     omega
    have pok:=plain_ok hR hF
    have sE:=sC.trans s10
    refine ⟨b,xs,plainF rs,rfl,SqL.of hb10,hd10,hpl,fun r hr=>(pok r hr).1,fun r hr=>(pok r hr).2,fun hder H11 s11=>?_,fun hno H11 s11=>qB hb2 hno H11 (sE.trans s11)⟩
    have sF:=sE.trans s11
    refine ⟨a,rl,rs,rfl,sF.seq hS,hD.same sF,r1,by omega,fun q hq=>⟨(hF q hq).ls,(hF q hq).zs,(hF q hq).zp,fun p hp=>((hF q hq).lp p hp).1⟩,fun hrch H12 s12=>?_,fun hno H12 s12=>qI hb2 hder hno H12 (sF.trans s12)⟩
    exact qQ hb2 hder hrch H12 b xs (sF.trans s12) ((s11.trans s12) _ _ hb10) (hd10.same (s11.trans s12))
end
end K30
--@RAISES but law
namespace K30
open PySem PySem.Spec PyProof.Rows L2 Rg
section
variable {P:Program} {w:World} {K:PySem.W.Frag} {mg:Str→Option Value} {base:Heap} {C tS tN tT:Addr}
def spCell (K:PySem.W.Frag):Sp:=fun vs H Q _=>∃ (a:Addr) (ns:List Int) (k:Nat),vs = [.ref a,.int k]∧SqL K H a (ns.map V.int)∧Q (.int (ns.getD k 0)) H
abbrev st__law_cell_at:Stmt:=top 33
theorem sc__law_cell_at:FnScope ["_law_script","_law_k"] ["_law_script","_law_k"] (defScope st__law_cell_at):=⟨rfl,rfl,rfl,by decide +kernel,rfl,by decide +kernel,by decide +kernel⟩
theorem def_cell (R:Raw K mg "_law_cell_at" st__law_cell_at ["_law_script","_law_k"]) (T:Txt K w mg tT):Def P w K mg base 1 "_law_cell_at" ["_law_script","_law_k"] (spCell K):=by
 refine R.defJ sc__law_cell_at (fun vs H Q E h=>?_) (fun f cdv A outer s H vs Q E hr h=>?_)
 ·obtain ⟨a,ns,k,rfl,_⟩:=h
  rfl
 ·obtain ⟨a,ns,k,rfl,hS,q⟩:=h
  have sc:=sc__law_cell_at
  have hu:=hr.units
  refine ⟨_,(jss_cons (js_if (jt_cmp o_lt (jn 1) (j_callB (c_len (K:=K)) rfl T.n_len PySem.boot_len (ja_cons (jn 0) ja_nil)))
  (jss_one (js_ret (j_ix (o_ix hu (K:=K) (w:=w)) (jn 0) (jn 1))))
  jss_nil)
  (jss_one (js_ret j_int))),?_⟩
  refine ⟨_,.inl hS,?_⟩
  rw [List.length_map]
  show if decide ((k:Int) < (ns.length:Int)) = true then _ else _
  refine ite2 (fun h=>?_) (fun h=>?_)
  ·have hk : k < ns.length := by
    have:=of_decide_eq_true h
    omega
   refine .inl ⟨_,.int (ns.getD k 0),hS,atI_nat ?_,q⟩
   rw [List.getElem?_map,List.getElem?_eq_getElem hk]
   simp [List.getD,hk]
  ·have hk:¬ k < ns.length:=fun z=>h (decide_eq_true (by omega))
   have e:ns.getD k 0 = 0:=by simp [List.getD,List.getElem?_eq_none (by omega:ns.length ≤ k)]
   rw [e] at q
   exact q
abbrev lettersL:List Nat:=("abcdefghijklmnopqrstuvwxyzABCXYZ0189 .+-*/<=>()[]{}!?_|&~":Str).cps.toList
def ltF (x:Int):Nat:=lettersL.getD (x % 57).toNat 0
theorem lettersL_len:lettersL.length = 57:=by decide +kernel
theorem lt_at (x:Int):atI lettersL (x % 57) = some (ltF x):=by
 have h1:(x % 57).toNat < lettersL.length:=by rw [lettersL_len]; omega
 have e:(((x % 57).toNat:Nat):Int) = x % 57:=by omega
 have key:=atI_nat (xs:=lettersL) (List.getElem?_eq_getElem h1)
 rw [e] at key
 rw [key]
 unfold ltF
 rw [List.getD,List.getElem?_eq_getElem h1]
 rfl
theorem let_inj:∀ i,i < 57→∀ j,j < 57→lettersL.getD i 0 = lettersL.getD j 0→i = j:=by decide +kernel
theorem lt_inj {x y:Int} (h:ltF x = ltF y):x % 57 = y % 57:=by
 have:=let_inj (x % 57).toNat (by omega) (y % 57).toNat (by omega) h
 omega
def nmSz (c:Int):Nat:=(1 + c % 12).toNat
def nmAt (c:Int):Nat:=(c / 12 % (1 + c % 12)).toNat
theorem nm_sz (c:Int):((nmSz c:Nat):Int) = 1 + c % 12∧1 ≤ nmSz c∧nmSz c ≤ 12:=by unfold nmSz; omega
theorem nm_at (c:Int):((nmAt c:Nat):Int) = c / 12 % (1 + c % 12)∧nmAt c < nmSz c:=by
 have h0:=Int.emod_nonneg (c / 12) (show 1 + c % 12 ≠ 0 by omega)
 have h1:=Int.emod_lt_of_pos (c / 12) (show 0 < 1 + c % 12 by omega)
 unfold nmAt nmSz
 omega
def nmC (c:Int) (k j:Nat):Nat:=ltF (c / 144 + ((j:Int) * (j:Int) + (k:Int) * (if j = nmAt c then 1 else 0)))
def nameL (c:Int) (k:Nat):List Nat:=(List.range (nmSz c)).map (nmC c k)
theorem nameL_len (c:Int) (k:Nat):(nameL c k).length = nmSz c:=by unfold nameL; simp
theorem nameL_inj {c:Int} {k k':Nat} (hk:k < 57) (hk':k' < 57) (h:nameL c k = nameL c k'):k = k':=by
 have h1:=congrArg (fun l=>l[nmAt c]?) h
 unfold nameL at h1
 have hlt:=(nm_at c).2
 simp [hlt] at h1
 unfold nmC at h1
 simp only [if_pos] at h1
 have:=lt_inj h1
 omega
theorem nameL_low (c:Int) (k:Nat):low (nameL c k):=fun x hx=>by
 unfold nameL at hx
 obtain ⟨j,_,rfl⟩:=List.mem_map.mp hx
 unfold nmC ltF
 have h2:lettersL.all (fun c=>decide (c < 128)) = true:=by decide +kernel
 rw [List.getD]
 cases e:lettersL[((c / 144 + ((j:Int) * (j:Int) + (k:Int) * (if j = nmAt c then 1 else 0))) % 57).toNat]? with
 | none=>decide
 | some y =>
  have:=of_decide_eq_true (List.all_eq_true.mp h2 y (List.mem_of_getElem? e))
  show y < 0x110000
  omega
def spNames (K:PySem.W.Frag):Sp:=fun vs H Q _=>∃ (c:Int) (m:Nat),vs = [.int c,.int (m:Nat)]∧m ≤ 20∧∀ (H':Hp) (p:Addr),Same H H'→H p = none→H' p = some (.lst ((List.range m).map fun k=>V.str (S (nameL c k))))→Q (.ref p) H'
abbrev st__law_names:Stmt:=top 34
theorem sc__law_names:FnScope ["_law_cell","_law_many","_law_signs","_law_size","_law_at","_law_names_here","_law_k","_law_name","_law_j","_law_step"] ["_law_cell","_law_many"] (defScope st__law_names):=⟨rfl,rfl,rfl,by decide +kernel,rfl,by decide +kernel,by decide +kernel⟩
theorem def_names (R:Raw K mg "_law_names" st__law_names ["_law_cell","_law_many"]) (T:Txt K w mg tT):Def P w K mg base 1 "_law_names" ["_law_cell","_law_many"] (spNames K):=by
 refine R.defJ sc__law_names (fun vs H Q E h=>?_) (fun f cdv A outer s H vs Q E hr h=>?_)
 ·obtain ⟨c,m,rfl,_⟩:=h
  rfl
 ·obtain ⟨c,m,rfl,hm,q⟩:=h
  have sc:=sc__law_names
  have hu:=hr.units
  have hb:(1000000:Nat) < sizeLine:=by rw [sizeLine_eq]; decide
  refine ⟨_,(jss_cons (js_set (i:=2) sc.nd rfl (Or.inl rfl) j_str)
  (jss_cons (js_set (i:=3) sc.nd rfl (Or.inl rfl) (j_op (o_add (K:=K)) j_int (j_op o_mod (jn 0) j_int)))
  (jss_cons (js_set (i:=4) sc.nd rfl (Or.inl rfl) (j_op o_mod (j_op o_div (jn 0) j_int) (jn 3)))
  (jss_cons (js_set (i:=5) sc.nd rfl (Or.inl rfl) (j_lst ja_nil))
  (jss_cons (js_for PassesOwn.never rfl (ji_rng1 rfl T.n_range (ja_cons (jn 1) ja_nil)) (jg_name (i:=6) sc.nd rfl (Or.inl rfl))
  (jss_cons (js_set (i:=7) sc.nd rfl (Or.inl rfl) j_str)
  (jss_cons (js_for PassesOwn.never rfl (ji_rng1 rfl T.n_range (ja_cons (jn 3) ja_nil)) (jg_name (i:=8) sc.nd rfl (Or.inl rfl))
  (jss_cons (js_set (i:=9) sc.nd rfl (Or.inl rfl) (j_op (o_add (K:=K)) (j_op o_mul (jn 8) (jn 8)) (j_op o_mul (jn 6) (j_callTy c_int rfl T.n_int boot_int (ja_cons (j_cmp (o_eqA hu (K:=K)) (jn 8) (jn 4)) ja_nil)))))
  (jss_one (js_set (i:=7) sc.nd rfl (Or.inl rfl) (j_op (o_add (K:=K)) (jn 7) (j_ix (o_ix hu (K:=K) (w:=w)) (jn 2) (j_op o_mod (j_op (o_add (K:=K)) (j_op o_div (jn 0) j_int) (jn 9)) j_int)))))))
  (jss_one (js_expr (j_bm (K:=K) PySem.F.plainAttrs_list PySem.F.slot_list_append PySem.F.type_list_append m_append (jn 5) (ja_cons (jn 7) ja_nil)))))))
  (jss_one (js_ret (jn 5)))))))),?_⟩
  refine ⟨by decide,⟨by decide,by decide⟩,show (0:Int) < 1 + c % 12 by omega,?_⟩
  rw [← (nm_at c).1]
  refine ⟨(show 0 ≤ sizeLine by decide),fun p hp=>?_⟩
  have s1:Same H (upd H p (.lst [])):=same_new hp
  have h1:upd H p (.lst []) p = some (.lst []):=upd_same
  generalize upd H p (.lst []) = H1 at s1 h1 ⊢
  refine ⟨by omega,by omega,?_⟩
  refine for_range (n:=((m:Nat):Int).toNat) (fun i σ H'=>∃ (v5 v6 v7 v8:Option V),Same H H'∧H' p = some (.lst ((List.range i).map fun k=>V.str (S (nameL c k))))∧σ = [some (.int c),some (.int (m:Nat)),some (.str "abcdefghijklmnopqrstuvwxyzABCXYZ0189 .+-*/<=>()[]{}!?_|&~"),some (.int (1 + c % 12)),some (.int (nmAt c:Nat)),some (.ref p),v5,v6,v7,v8]) ⟨none,none,none,none,s1,h1,rfl⟩ ?_ ?_
  ·rintro i σ H' hi ⟨v5,v6,v7,v8,s2,hp2,rfl⟩
   have esz:=(nm_sz c).1
   have hsz:=(nm_sz c).2
   refine ⟨show -(2 ^ 62) ≤ 1 + c % 12 by omega,show 1 + c % 12 < 2 ^ 62 by omega,?_⟩
   refine for_range (n:=(1 + c % 12).toNat) (fun j σ H2=>H2 = H'∧∃ (v7 v8:Option V),σ = [some (.int c),some (.int (m:Nat)),some (.str "abcdefghijklmnopqrstuvwxyzABCXYZ0189 .+-*/<=>()[]{}!?_|&~"),some (.int (1 + c % 12)),some (.int (nmAt c:Nat)),some (.ref p),some (.int (i:Nat)),some (.str (S ((List.range j).map (nmC c i)))),v7,v8])
    ⟨rfl,v7,v8,by simp; rfl⟩ ?_ ?_
   ·rintro j σ H2 hj ⟨rfl,v7,v8,rfl⟩
    have hj7:j < 12:=by omega
    have put:∀ st:Int,st = (j:Int) * (j:Int) + (i:Int) * (if j = nmAt c then 1 else 0)→∃ o,atI lettersL ((c / 144 + st) % 57) = some o∧S ((List.range j).map (nmC c i)) ++ S [o] = S ((List.range (j + 1)).map (nmC c i)):=fun st e=>by
     refine ⟨ltF (c / 144 + st),lt_at _,?_⟩
     rw [S_app,List.range_succ,List.map_append]
     congr 2
     show [ltF (c / 144 + st)] = [nmC c i j]
     unfold nmC
     rw [e]
    have e0:(0:Int) + ((j:Nat):Int) = (j:Int):=Int.zero_add _
    rw [e0]
    have key:=put ((j:Int) * (j:Int) + (i:Int) * (if (false ^^ decide (((j:Nat):Int) = ((nmAt c:Nat):Int))) = true then 1 else 0)) (by
     rw [Bool.false_xor]
     by_cases hj:j = nmAt c
     ·rw [if_pos hj,if_pos (decide_eq_true (by omega))]
     ·rw [if_neg hj,if_neg (fun z=>hj (by have:=of_decide_eq_true z; omega))])
    obtain ⟨o,eo,es⟩:=key
    refine ⟨.inl ⟨by omega,by omega⟩,.inl ⟨by omega,by omega⟩,⟨by decide,by decide⟩,by decide,by decide +kernel,o,eo,by rw [S_len,S_len,List.length_map,List.length_range]; simp; omega,?_⟩
    rw [es]
    exact ⟨rfl,_,_,rfl⟩
   ·rintro σ H2 ⟨rfl,v7,v8,rfl⟩
    rw [show (1 + c % 12).toNat = nmSz c from rfl]
    refine ⟨.inl ⟨rfl,_,SqL.of hp2⟩,_,hp2,by rw [List.length_map,List.length_range]; omega,?_⟩
    refine ⟨_,_,_,_,fun b u e=>?_,?_,rfl⟩
    ·rw [upd_ne fun z=>by rw [z,hp] at e; cases e]; exact s2 b u e
    ·rw [upd_same,List.range_succ,List.map_append]
     rfl
  ·rintro σ H' ⟨v5,v6,v7,v8,s2,hp2,rfl⟩
   exact q H' p s2 hp (by simpa using hp2)
def mixF (c k:Int):Int:=(((c % 2147483647 * 48271 + 69621 * k + 11) % 2147483629) * ((c % 2147483647 * 48271 + 69621 * k + 11) % 2147483629) + k) % 2147483587
theorem mix_le (c k:Int):0 ≤ mixF c k∧mixF c k < 2147483587:=by unfold mixF; omega
def spMix:Sp:=fun vs H Q _=>∃ (c k:Int),vs = [.int c,.int k]∧0 ≤ k∧k ≤ 1000∧Q (.int (mixF c k)) H
abbrev st__law_mixed:Stmt:=top 35
theorem sc__law_mixed:FnScope ["_law_cell","_law_k","_law_number"] ["_law_cell","_law_k"] (defScope st__law_mixed):=⟨rfl,rfl,rfl,by decide +kernel,rfl,by decide +kernel,by decide +kernel⟩
theorem def_mix (R:Raw K mg "_law_mixed" st__law_mixed ["_law_cell","_law_k"]):Def P w K mg base 1 "_law_mixed" ["_law_cell","_law_k"] spMix:=by
 refine R.defJ sc__law_mixed (fun vs H Q E h=>?_) (fun f cdv A outer s H vs Q E hr h=>?_)
 ·obtain ⟨c,k,rfl,_⟩:=h
  rfl
 ·obtain ⟨c,k,rfl,h0,h1,q⟩:=h
  have sc:=sc__law_mixed
  have hu:=hr.units
  refine ⟨_,(jss_cons (js_set (i:=2) sc.nd rfl (Or.inl rfl) (j_op o_mod (j_op (o_add (K:=K)) (j_op (o_add (K:=K)) (j_op o_mul (j_op o_mod (jn 0) j_int) j_int) (j_op o_mul j_int (jn 1))) j_int) j_int))
  (jss_one (js_ret (j_op o_mod (j_op (o_add (K:=K)) (j_op o_mul (jn 2) (jn 2)) (jn 1)) j_int)))),?_⟩
  refine ⟨by decide,.inl ⟨by omega,by omega⟩,.inl ⟨by decide,by decide⟩,by decide,.inl ⟨by omega,by omega⟩,by decide,q⟩
end
end K30
--@RAISES but law
namespace K30
open PySem PySem.Spec PyProof.Rows L2 Rg
section
variable {P:Program} {w:World} {K:PySem.W.Frag} {mg:Str→Option Value} {base:Heap} {C tS tN tT:Addr}
def NmP (c0:Int) (l:List Nat):Prop:=∃ k,k < 9∧l = nameL c0 k
theorem nmP_low {c0:Int} {l:List Nat} (h:NmP c0 l):low l:=by obtain ⟨k,_,rfl⟩:=h; exact nameL_low _ _
def SdP (x:Str):Prop:=x = "left"∨x = "right"∨x = "none"
structure RlN (c0:Int) (q:Rl):Prop where
 so:∃ k,k < 3∧q.sort = nameL c0 k
 r0:0 ≤ q.rank
 r9:q.rank ≤ 99
 p1:1 ≤ q.ps.length
 p8:q.ps.length ≤ 8
 own:q.ps ≠ [q.sort]
 ps:∀ p ∈ q.ps,NmP c0 p
 sd:SdP q.side
 tp:q.rank ≤ 98∨(q.rank = 99∧∃ k,3 ≤ k∧k < 9∧q.ps = [nameL c0 k])
theorem ltF_idx (x:Int) {i:Nat} (hi:i < 57) (h:ltF x = lettersL.getD i 0):x % 57 = (i:Int):=by
 have:=let_inj (x % 57).toNat (by omega) i hi h
 omega
theorem nameL_at {c:Int} {k:Nat} {l:List Nat} (h:nameL c k = l) (j:Nat) (hj:j < l.length):l[j]? = some (nmC c k j):=by
 have e:l.length = nmSz c:=by rw [← h]; exact nameL_len c k
 rw [← h]
 unfold nameL
 rw [List.getElem?_map,List.getElem?_range (by omega)]
 rfl
theorem nmC_idx {c:Int} {k j i:Nat} (hi:i < 57) (h:lettersL.getD i 0 = nmC c k j):(c / 144 + ((j:Int) * (j:Int) + (if j = nmAt c then (k:Int) else 0))) % 57 = (i:Int):=by
 have:=ltF_idx _ hi h.symm
 by_cases e:j = nmAt c
 ·rw [if_pos e] at this ⊢
  rw [Int.mul_one] at this
  exact this
 ·rw [if_neg e] at this ⊢
  rw [Int.mul_zero] at this
  exact this
theorem name_end (c:Int) (k:Nat):nameL c k ≠ [101,110,100]:=fun h=>by
 have h0:=nmC_idx (i:=4) (by decide) (show lettersL.getD 4 0 = nmC c k 0 from (by decide +kernel:lettersL.getD 4 0 = 101).trans (Option.some.inj (nameL_at h 0 (by decide))))
 have h1:=nmC_idx (i:=13) (by decide) (show lettersL.getD 13 0 = nmC c k 1 from (by decide +kernel:lettersL.getD 13 0 = 110).trans (Option.some.inj (nameL_at h 1 (by decide))))
 have h2:=nmC_idx (i:=3) (by decide) (show lettersL.getD 3 0 = nmC c k 2 from (by decide +kernel:lettersL.getD 3 0 = 100).trans (Option.some.inj (nameL_at h 2 (by decide))))
 generalize c / 144 = b at h0 h1 h2
 generalize nmAt c = a at h0 h1 h2
 split at h0 <;> split at h1 <;> split at h2 <;> omega
theorem name_stray (c:Int) (k:Nat):nameL c k ≠ [115,116,114,97,121]:=fun h=>by
 have h0:=nmC_idx (i:=18) (by decide) (show lettersL.getD 18 0 = nmC c k 0 from (by decide +kernel:lettersL.getD 18 0 = 115).trans (Option.some.inj (nameL_at h 0 (by decide))))
 have h2:=nmC_idx (i:=17) (by decide) (show lettersL.getD 17 0 = nmC c k 2 from (by decide +kernel:lettersL.getD 17 0 = 114).trans (Option.some.inj (nameL_at h 2 (by decide))))
 have h3:=nmC_idx (i:=0) (by decide) (show lettersL.getD 0 0 = nmC c k 3 from (by decide +kernel:lettersL.getD 0 0 = 97).trans (Option.some.inj (nameL_at h 3 (by decide))))
 generalize c / 144 = b at h0 h2 h3
 generalize nmAt c = a at h0 h2 h3
 split at h0 <;> split at h2 <;> split at h3 <;> omega
theorem name_nil (c:Int) (k:Nat):nameL c k ≠ []:=fun h=>by
 have e:=nameL_len c k
 rw [h] at e
 have:=(nm_sz c).2
 simp at e
 omega
theorem name_noB (c:Int) (k:Nat):noB (nameL c k) = false:=by
 have e1:(S (nameL c k):Str) ≠ "":=fun z=>name_nil c k (S_inj (z.trans (S_of "")))
 have e2:(S (nameL c k):Str) ≠ "end":=fun z=>name_end c k (S_inj (z.trans (S_of "end")))
 have e3:(S (nameL c k):Str) ≠ "stray":=fun z=>name_stray c k (S_inj (z.trans (S_of "stray")))
 unfold noB inV
 simp only [List.any_cons,List.any_nil,Bool.or_eq_false_iff,and_true]
 exact ⟨decide_eq_false (Ne.symm e1),decide_eq_false (Ne.symm e2),decide_eq_false (Ne.symm e3)⟩
theorem RlN.fine {c0:Int} {q:Rl} (h:RlN c0 q):Fine q:=by
 have len:∀ k,(nameL c0 k).length ≤ 100:=fun k=>by rw [nameL_len]; have:=(nm_sz c0).2; omega
 obtain ⟨k,_,ek⟩:=h.so
 have hr0:=h.r0
 have hr9:=h.r9
 refine ⟨(small_txt hr0 hr9).1,by rw [ek]; exact nameL_low _ _,by rw [ek]; exact len _,?_,?_,fun p hp=>?_,by have:=h.p8; omega⟩
 ·rcases h.sd with e | e | e <;> rw [e] <;> decide +kernel
 ·rcases h.sd with e | e | e <;> rw [e] <;> decide +kernel
 ·obtain ⟨j,_,e⟩:=h.ps p hp
  rw [e]
  exact ⟨nameL_low _ _,len _⟩
theorem RlN.okB {c0:Int} {q:Rl} (h:RlN c0 q):okB q = true:=by
 obtain ⟨k,_,ek⟩:=h.so
 refine (okB_iff q).mpr ⟨h.r0,h.r9,?_,h.p1,h.p8,by rw [ek]; exact name_noB _ _,?_,h.own⟩
 ·rcases h.sd with e | e | e <;> rw [e] <;> decide +kernel
 ·rw [Bool.eq_false_iff,Ne,List.any_eq_true]
  rintro ⟨p,hp,z⟩
  obtain ⟨j,_,e⟩:=h.ps p hp
  rw [e,name_noB] at z
  cases z
theorem RlN.lay {c0:Int} {q:Rl} (h:RlN c0 q):q.dat.canLay0 = true:=by
 have f:=h.fine
 unfold Rl.dat
 simp only [PyData.canLay0,PyData.canLayAll0,strOkL f.ls,f.sd,tx_lay fun p hp=>(f.lp p hp).1,Bool.and_self]
def spRule (K:PySem.W.Frag):Sp:=fun vs H Q _=>∃ (c c0:Int) (l:Addr) (few:Bool),vs = [.int c,.ref l,.bl few]∧SqL K H l ((List.range 9).map fun k=>V.str (S (nameL c0 k))) ∧
 ∀ H' t (q:Rl),Same H H'→DatV K H' (.ref t) q.dat→RlN c0 q→Q (.ref t) H'
abbrev st__law_rule:Stmt:=top 36
theorem sc__law_rule:FnScope ["_law_cell","_law_names_here","_law_few","_law_sort","_law_number","_law_rank","_law_side","_law_many","_law_parts"] ["_law_cell","_law_names_here","_law_few"] (defScope st__law_rule):=⟨rfl,rfl,rfl,by decide +kernel,rfl,by decide +kernel,by decide +kernel⟩
theorem def_rule (R:Raw K mg "_law_rule" st__law_rule ["_law_cell","_law_names_here","_law_few"]) (T:Txt K w mg tT) (D__law_mixed:Def P w K mg base 1 "_law_mixed" ["_law_cell","_law_k"] spMix):Def P w K mg base 2 "_law_rule" ["_law_cell","_law_names_here","_law_few"] (spRule K):=by
 refine R.defJ sc__law_rule (fun vs H Q E h=>?_) (fun f cdv A outer s H vs Q E hr h=>?_)
 ·obtain ⟨c,c0,l,few,rfl,_⟩:=h
  rfl
 ·obtain ⟨c,c0,l,few,rfl,hS,q⟩:=h
  have sc:=sc__law_rule
  have hu:=hr.units
  have hb:(1000000:Nat) < sizeLine:=by rw [sizeLine_eq]; decide
  have hm:=mix_le c 1
  have nm:∀ i:Int,0 ≤ i→i < 9→((List.range 9).map fun k=>V.str (S (nameL c0 k)))[i.toNat]? = some (V.str (S (nameL c0 i.toNat))):=fun i h0 h1=>by
   rw [List.getElem?_map,List.getElem?_range (by omega)]; rfl
  have at9:∀ i:Int,0 ≤ i→i < 9→atI ((List.range 9).map fun k=>V.str (S (nameL c0 k))) i = some (V.str (S (nameL c0 i.toNat))):=fun i h0 h1=>by
   have:=atI_nat (nm i h0 h1)
   rw [Int.toNat_of_nonneg h0] at this
   exact this
  obtain ⟨u9, hP9, hq9⟩ : ∃ u, JSs (cxOf CX0 P w K mg base ["_law_cell", "_law_names_here", "_law_few", "_law_sort", "_law_number", "_law_rank", "_law_side", "_law_many", "_law_parts"] "_law_rule" (defScope st__law_rule) f cdv A outer s H E).nox ((defBody st__law_rule).drop 9) u ∧
    ∀ (H1:Hp) (rk:Int) (sd:Str) (vm:Option V) (pa:Addr) (ps:List (List Nat)),Same H H1→SqL K H1 pa (ps.map fun l=>V.str (S l))→RlN c0 ⟨nameL c0 (c % 3).toNat,rk,sd,ps⟩ →
     u { nx:=fun _ H'=>Q .non H',rt:=Q } [some (.int c),some (.ref l),some (.bl few),some (.str (S (nameL c0 (c % 3).toNat))),some (.int (mixF c 1)),some (.int rk),some (.str sd),vm,some (.ref pa)] H1:=by
   refine ⟨_,(jss_one (js_ret (j_tup (ja_cons (jn 3) (ja_cons (jn 5) (ja_cons (jn 6) (ja_cons (j_callTy (c_tuple (K:=K)) rfl T.n_tuple boot_tuple (ja_cons (jn 8) ja_nil)) ja_nil))))))),?_⟩
   intro H1 rk sd vm pa ps s1 hpa ok
   refine ⟨_,.inl ⟨hpa,fun t1 ht1=>⟨(show 4 ≤ sizeLine by decide),fun t2 ht2=>?_⟩⟩⟩
   have s2:Same H1 (upd H1 t1 (.tup (ps.map fun l=>V.str (S l)))):=same_new ht1
   have h1:SqT K (upd H1 t1 (.tup (ps.map fun l=>V.str (S l)))) t1 (ps.map fun l=>V.str (S l)):=SqT.of upd_same
   dsimp only at ht2 ⊢
   generalize upd H1 t1 (.tup (ps.map fun l=>V.str (S l))) = H2 at s2 h1 ht2 ⊢
   refine q _ t2 ⟨nameL c0 (c % 3).toNat,rk,sd,ps⟩ ((s1.trans s2).trans (same_new ht2)) ?_ ok
   exact .tuple (SqT.of upd_same) (.cons (.str _) (.cons (.int _) (.cons (.str _) (.cons (.tuple ((same_new ht2).seqT h1) (tx_dat ps)) .nil))))
  obtain ⟨u7, hP7, hq7⟩ : ∃ u, JSs (cxOf CX0 P w K mg base ["_law_cell", "_law_names_here", "_law_few", "_law_sort", "_law_number", "_law_rank", "_law_side", "_law_many", "_law_parts"] "_law_rule" (defScope st__law_rule) f cdv A outer s H E).nox ((defBody st__law_rule).drop 7) u ∧
    ∀ (H1:Hp) (rk:Int) (sd:Str) (mn:Int),Same H H1→0 ≤ rk→rk ≤ 98→1 ≤ mn→mn ≤ 8→SdP sd →
     u { nx:=fun _ H'=>Q .non H',rt:=Q } [some (.int c),some (.ref l),some (.bl few),some (.str (S (nameL c0 (c % 3).toNat))),some (.int (mixF c 1)),some (.int rk),some (.str sd),some (.int mn),none] H1:=by
   refine ⟨_,(jss_cons (js_comp (i:=8) (N:=["_law_k","_law_cell","_law_names_here"]) (cap:=[none,some 0,some 1]) rfl (CompScope.of rfl (by rfl)) (ji_rng1 rfl T.n_range (ja_cons (jn 7) ja_nil)) (fun _ _ _ _=>(jg_name (i:=0) (show List.Nodup [("_law_k":Str),("_law_cell":Str),("_law_names_here":Str)] by decide +kernel) rfl (Or.inl rfl))) (fun _ _ _ _=>jts_nil) (fun _ _ _ _=>(j_ix (o_ix hu (K:=K) (w:=w)) (jn 2) (j_op o_mod (j_def D__law_mixed (hr.mono (by decide)) rfl (ja_cons (jn 1) (ja_cons (j_op (o_add (K:=K)) j_int (jn 0)) ja_nil))) j_int))) sc.nd rfl rfl)
  (jss_cons (js_if (jt_cmp (o_eqA hu (K:=K)) (jn 8) (j_lst (ja_cons (jn 3) ja_nil)))
  (jss_one (js_set (i:=8) sc.nd rfl (Or.inl rfl) (j_lst (ja_cons (j_ix (o_ix hu (K:=K) (w:=w)) (jn 1) (j_op (o_add (K:=K)) j_int (j_op o_mod (jn 4) j_int))) ja_nil))))
  jss_nil)
  hP9)),?_⟩
   intro H1 rk sd mn s1 h0 h9 m1 m8 hsd
   have hS1:=s1.seq hS
   refine ⟨show -(2 ^ 62) ≤ mn by omega,show mn < 2 ^ 62 by omega,?_⟩
   refine gath_range (n:=mn.toNat) (fun i ys σ' H'=>H' = H1∧∃ (ks:List (List Nat)) (v:Option V),ks.length = i∧ys = ks.map (fun l=>V.str (S l))∧(∀ k ∈ ks,NmP c0 k)∧σ' = [v,some (.int c),some (.ref l)]) (by omega) ⟨rfl,[],none,rfl,rfl,(fun k hk=>by cases hk),rfl⟩
    (fun i ys σ' H' h=>by obtain ⟨_,ks,v,e1,e2,_⟩:=h; rw [e2,List.length_map]; omega) ?_ ?_
   ·rintro i ys σ' H' hi ⟨rfl,ks,v,hk,rfl,hlo,rfl⟩
    have hmx:=mix_le c (2 + (0 + (i:Nat):Int))
    refine ⟨c,2 + (0 + (i:Nat):Int),rfl,by omega,by omega,by decide,.inl ⟨_,_,hS1,at9 (mixF c (2 + (0 + (i:Nat):Int)) % 9) (by omega) (by omega),rfl,ks ++ [nameL c0 (mixF c (2 + (0 + (i:Nat):Int)) % 9).toNat],_,by rw [List.length_append,hk]; rfl,by rw [List.map_append]; rfl,fun k hk'=>?_,rfl⟩⟩
    rcases List.mem_append.mp hk' with z | z
    ·exact hlo k z
    ·rw [List.mem_singleton.mp z]; exact ⟨_,by omega,rfl⟩
   ·rintro ys σ' H' ⟨rfl,ks,v,hk,rfl,hlo,rfl⟩ D hD
    have s2:Same H' (upd H' D (.lst (ks.map fun l=>V.str (S l)))):=same_new hD
    have h1:SqL K (upd H' D (.lst (ks.map fun l=>V.str (S l)))) D (ks.map fun l=>V.str (S l)):=SqL.of upd_same
    generalize upd H' D (.lst (ks.map fun l=>V.str (S l))) = H2 at s2 h1 ⊢
    refine ⟨(show 1 ≤ sizeLine by decide),fun p hp=>?_⟩
    have s3:Same H2 (upd H2 p (.lst [V.str (S (nameL c0 (c % 3).toNat))])):=same_new hp
    have h2:SqL K (upd H2 p (.lst [V.str (S (nameL c0 (c % 3).toNat))])) p [V.str (S (nameL c0 (c % 3).toNat))]:=SqL.of upd_same
    generalize upd H2 p (.lst [V.str (S (nameL c0 (c % 3).toNat))]) = H3 at s3 h2 ⊢
    have lay1:=tx_lay fun k hk=>nmP_low (hlo k hk)
    have lay2:=tx_lay (ks:=[nameL c0 (c % 3).toNat]) (fun k hk=>by rw [List.mem_singleton.mp hk]; exact nameL_low _ _)
    have deep:=tx_deep ks
    refine ⟨.list (ks.map fun k=>PyData.str (S k)),.list ([nameL c0 (c % 3).toNat].map fun k=>PyData.str (S k)),.list (s3.seq h1) (tx_dat ks),.list h2 (tx_dat [nameL c0 (c % 3).toNat]),by simp only [PyData.canLay0]; exact lay1,by simp only [PyData.canLay0]; exact lay2,by simp only [PyData.depth]; omega,?_⟩
    show if (false ^^ PyData.eqv _ _) = true then _ else _
    rw [Bool.false_xor,PyData.eqv,tx_eqv]
    refine ite2 (fun h=>?_) (fun h=>?_)
    ·have hs3:=(s1.trans s2).trans s3
     have hm6:0 ≤ 3 + mixF c 1 % 6∧3 + mixF c 1 % 6 < 9:=by omega
     refine ⟨by decide,.inl ⟨_,_,hs3.seq hS,at9 (3 + mixF c 1 % 6) hm6.1 hm6.2,(show 1 ≤ sizeLine by decide),fun p2 hp2=>?_⟩⟩
     refine hq9 _ rk sd _ p2 [nameL c0 (3 + mixF c 1 % 6).toNat] (hs3.trans (same_new hp2)) (SqL.of upd_same) ⟨⟨_,by omega,rfl⟩,h0,(show rk ≤ 99 by omega),Nat.le_refl _,(show 1 ≤ 8 by decide),(fun z=>by have e:=nameL_inj (by omega) (by omega) (List.cons.inj z).1; omega),(fun k hk=>by rw [List.mem_singleton.mp hk]; exact ⟨_,by omega,rfl⟩),hsd,.inl h9⟩
    ·exact hq9 _ rk sd _ D ks ((s1.trans s2).trans s3) (s3.seq h1) ⟨⟨_,by omega,rfl⟩,h0,(show rk ≤ 99 by omega),(show 1 ≤ ks.length by omega),(show ks.length ≤ 8 by omega),(fun z=>h (beq_iff_eq.mpr z)),hlo,hsd,.inl h9⟩
  obtain ⟨u4, hP4, hq4⟩ : ∃ u, JSs (cxOf CX0 P w K mg base ["_law_cell", "_law_names_here", "_law_few", "_law_sort", "_law_number", "_law_rank", "_law_side", "_law_many", "_law_parts"] "_law_rule" (defScope st__law_rule) f cdv A outer s H E).nox ((defBody st__law_rule).drop 4) u ∧
    ∀ (rk:Int),0 ≤ rk→rk ≤ 98→u { nx:=fun _ H'=>Q .non H',rt:=Q } [some (.int c),some (.ref l),some (.bl few),some (.str (S (nameL c0 (c % 3).toNat))),some (.int (mixF c 1)),some (.int rk),none,none,none] H:=by
   refine ⟨_,(jss_cons (js_set (i:=6) sc.nd rfl (Or.inl rfl) (j_ix (o_ix hu (K:=K) (w:=w)) (j_lst (ja_cons j_str (ja_cons j_str (ja_cons j_str ja_nil)))) (j_op o_mod (j_op o_div (jn 4) j_int) j_int)))
  (jss_cons (js_set (i:=7) sc.nd rfl (Or.inl rfl) (j_op (o_add (K:=K)) j_int (j_op o_mod (j_op o_div (jn 4) j_int) j_int)))
  (jss_cons (js_if (jt_cmp (o_eqA hu (K:=K)) (j_op o_mod (j_op o_div (jn 4) j_int) j_int) j_int)
  (jss_one (js_set (i:=7) sc.nd rfl (Or.inl rfl) (j_op (o_add (K:=K)) j_int (j_op o_mod (j_op o_div (jn 4) j_int) j_int))))
  jss_nil)
  hP7))),?_⟩
   intro rk h0 h9
   refine ⟨(show 3 ≤ sizeLine by decide),fun p hp=>⟨⟨by decide,by decide⟩,by decide,?_⟩⟩
   have hx:∃ x,atI [V.str "left",V.str "right",V.str "none"] (mixF c 1 / 100 % 3) = some (V.str x)∧SdP x:=by
    have:mixF c 1 / 100 % 3 = 0∨mixF c 1 / 100 % 3 = 1∨mixF c 1 / 100 % 3 = 2:=by omega
    rcases this with z | z | z
    ·rw [z]; exact ⟨_,rfl,(.inl rfl)⟩
    ·rw [z]; exact ⟨_,rfl,(.inr (.inl rfl))⟩
    ·rw [z]; exact ⟨_,rfl,(.inr (.inr rfl))⟩
   obtain ⟨x,hx,hsd⟩:=hx
   refine .inl ⟨_,.str x,SqL.of upd_same,hx,?_⟩
   refine ⟨⟨by decide,by decide⟩,by decide,⟨by decide,by decide⟩,by decide,?_⟩
   show if (false ^^ decide (mixF c 1 / 1200 % 8 = 5)) = true then _ else _
   rw [Bool.false_xor]
   refine ite2 (fun h=>?_) (fun h=>?_)
   ·exact ⟨⟨by decide,by decide⟩,by decide,hq7 _ rk x (5 + mixF c 1 / 9600 % 4) (same_new hp) h0 h9 (by omega) (by omega) hsd⟩
   ·exact hq7 _ rk x (1 + mixF c 1 / 300 % 4) (same_new hp) h0 h9 (by omega) (by omega) hsd
  refine ⟨_,(jss_cons (js_set (i:=3) sc.nd rfl (Or.inl rfl) (j_ix (o_ix hu (K:=K) (w:=w)) (jn 1) (j_op o_mod (jn 0) j_int)))
  (jss_cons (js_set (i:=4) sc.nd rfl (Or.inl rfl) (j_def D__law_mixed (hr.mono (by decide)) rfl (ja_cons (jn 0) (ja_cons j_int ja_nil))))
  (jss_cons (js_set (i:=5) sc.nd rfl (Or.inl rfl) (j_op o_mod (jn 4) j_int))
  (jss_cons (js_if (jt_tru (K:=K) (jn 2))
  (jss_one (js_set (i:=5) sc.nd rfl (Or.inl rfl) (j_op o_mul (j_op o_mod (jn 4) j_int) j_int)))
  jss_nil)
  hP4)))),?_⟩
  refine ⟨by decide,.inl ⟨_,_,hS,at9 (c % 3) (by omega) (by omega),?_⟩⟩
  refine ⟨c,1,rfl,by decide,by decide,by decide,?_⟩
  refine ⟨few,rfl,?_⟩
  show if few = true then _ else _
  refine ite2 (fun h=>?_) (fun h=>?_)
  ·exact ⟨by decide,.inl ⟨by omega,by omega⟩,hq4 (mixF c 1 % 3 * 33) (by omega) (by omega)⟩
  ·exact hq4 (mixF c 1 % 99) (by omega) (by omega)
end
end K30
--@RAISES but law
namespace K30
open PySem PySem.Spec PyProof.Rows L2 Rg
section
variable {P:Program} {w:World} {K:PySem.W.Frag} {mg:Str→Option Value} {base:Heap} {C tS tN tT:Addr}
def addAll (ks ms:List (List Nat)):List (List Nat):=ms.foldl addS ks
theorem addAll_snoc (ks ms:List (List Nat)) (m:List Nat):addAll ks (ms ++ [m]) = addS (addAll ks ms) m:=by unfold addAll; rw [List.foldl_append]; rfl
theorem addS_mem {ks:List (List Nat)} {m x:List Nat}:x ∈ addS ks m ↔ x ∈ ks∨x = m:=by
 unfold addS
 split
 ·rename_i hm
  constructor
  ·exact .inl
  ·rintro (h | h)
   ·exact h
   ·rw [h]; exact hm
 ·rw [List.mem_append,List.mem_singleton]
theorem addS_nd {ks:List (List Nat)} (h:ks.Nodup) (m:List Nat):(addS ks m).Nodup:=by
 unfold addS
 split
 ·exact h
 ·rename_i hm
  rw [List.nodup_append]
  refine ⟨h,by simp,fun a ha b hb=>?_⟩
  rw [List.mem_singleton.mp hb]
  exact fun e=>hm (e ▸ ha)
theorem addS_le (ks:List (List Nat)) (m:List Nat):ks.length ≤ (addS ks m).length:=by
 unfold addS
 split
 ·exact Nat.le_refl _
 ·rw [List.length_append]; omega
theorem addAll_len:∀ (ms ks:List (List Nat)),(addAll ks ms).length ≤ ks.length + ms.length
 | [],ks=>Nat.le_refl _
 | m :: r,ks=>by
  have h1:=addAll_len r (addS ks m)
  have h2:=addS_len ks m
  show (addAll (addS ks m) r).length ≤ _
  rw [List.length_cons]
  omega
theorem addAll_mem {x:List Nat}:∀ {ms ks:List (List Nat)},x ∈ addAll ks ms ↔ x ∈ ks∨x ∈ ms
 | [],ks=>by show x ∈ ks ↔ _; simp
 | m :: r,ks=>by
  show x ∈ addAll (addS ks m) r ↔ _
  rw [addAll_mem,addS_mem,List.mem_cons,or_assoc]
theorem addAll_nd:∀ {ms ks:List (List Nat)},ks.Nodup→(addAll ks ms).Nodup
 | [],_,h=>h
 | m :: r,ks,h=>addAll_nd (ms:=r) (addS_nd h m)
theorem addAll_le:∀ (ms ks:List (List Nat)),ks.length ≤ (addAll ks ms).length
 | [],ks=>Nat.le_refl _
 | m :: r,ks=>Nat.le_trans (addS_le ks m) (addAll_le r (addS ks m))
theorem addS_eq {ks:List (List Nat)} {m:List Nat} (h:m ∈ ks):addS ks m = ks:=by unfold addS; rw [if_pos h]
theorem addAll_same:∀ {ms ks:List (List Nat)},(addAll ks ms).length ≤ ks.length→∀ x ∈ ms,x ∈ ks
 | [],_,_,x,hx=>by cases hx
 | m :: r,ks,h,x,hx=>by
  have h1:=addAll_le r (addS ks m)
  have h:(addAll (addS ks m) r).length ≤ ks.length:=h
  have hm:m ∈ ks:=by
   by_cases z:m ∈ ks
   ·exact z
   ·have:(addS ks m).length = ks.length + 1:=by unfold addS; rw [if_neg z,List.length_append]; rfl
    omega
  rw [addS_eq hm] at h
  rcases List.mem_cons.mp hx with e | e
  ·rw [e]; exact hm
  ·exact addAll_same h x e
theorem addAll_id:∀ {ms ks:List (List Nat)},(∀ x ∈ ms,x ∈ ks)→addAll ks ms = ks
 | [],_,_=>rfl
 | m :: r,ks,h=>by
  show addAll (addS ks m) r = ks
  rw [addS_eq (h m List.mem_cons_self)]
  exact addAll_id fun x hx=>h x (List.mem_cons_of_mem _ hx)
theorem trV_len (ks:List (List Nat)):(trV ks).length = ks.length:=by unfold trV; rw [List.length_map]
theorem upd_id {H:Hp} {a:Addr} {o:HO} (h:H a = some o):upd H a o = H:=funext fun x=>by
 by_cases e:x = a
 ·rw [e,upd_same,h]
 ·rw [upd_ne e]
theorem sqL_wr {H:Hp} {d m:Addr} {o:HO} {xs:List V} (hne:d ≠ m) (h:SqL K H m xs):SqL K (upd H d o) m xs:=by
 rcases h with (h | ⟨x,h⟩) | h
 ·exact .inl (.inl (by rw [upd_ne (Ne.symm hne)]; exact h))
 ·exact .inl (.inr ⟨x,by rw [upd_ne (Ne.symm hne)]; exact h⟩)
 ·exact .inr h
def spPut (K:PySem.W.Frag):Sp:=fun vs H Q _=>∃ (d m:Addr) (ks ms:List (List Nat)),vs = [.ref d,.ref m]∧H d = some (.dK (trV ks))∧SqL K H m (ms.map fun l=>V.str (S l))∧d ≠ m∧ks.length + ms.length ≤ 100000 ∧
 Q (.bl (decide (ks.length < (addAll ks ms).length))) (upd H d (.dK (trV (addAll ks ms))))
abbrev st_put_in:Stmt:=top 30
theorem sc_put_in:FnScope ["kinds","more","before","kind"] ["kinds","more"] (defScope st_put_in):=⟨rfl,rfl,rfl,by decide +kernel,rfl,by decide +kernel,by decide +kernel⟩
theorem def_put (R:Raw K mg "put_in" st_put_in ["kinds","more"]) (T:Txt K w mg tT):Def P w K mg base 1 "put_in" ["kinds","more"] (spPut K):=by
 refine R.defJ sc_put_in (fun vs H Q E h=>?_) (fun f cdv A outer s H vs Q E hr h=>?_)
 ·obtain ⟨d,m,ks,ms,rfl,_⟩:=h
  rfl
 ·obtain ⟨d,m,ks,ms,rfl,hd,hS,hne,hl,q⟩:=h
  have sc:=sc_put_in
  have hu:=hr.units
  have hbg:(1000000:Nat) < sizeLine:=by rw [sizeLine_eq]; decide
  refine ⟨_,(jss_cons (js_set (i:=2) sc.nd rfl (Or.inl rfl) (j_callB (c_lenG (K:=K) (P:=P) (w:=w)) rfl T.n_len PySem.boot_len (ja_cons (jn 0) ja_nil)))
  (jss_cons (js_for PassesOwn.never rfl (ji_any (K:=K) (jn 1)) (jg_name (i:=3) sc.nd rfl (Or.inl rfl))
  (jss_one (js_dput hu (jn 0) (jn 3) j_bl)))
  (jss_one (js_ret (j_cmp o_gt (j_callB (c_lenG (K:=K) (P:=P) (w:=w)) rfl T.n_len PySem.boot_len (ja_cons (jn 0) ja_nil)) (jn 2)))))),?_⟩
  refine .inr (.inl ⟨d,_,rfl,hd,?_⟩)
  rw [trV_len]
  refine .inl ⟨⟨_,hS⟩,?_⟩
  refine for_list (xs:=ms.map fun l=>V.str (S l)) (fun i σ H'=>∃ v,H' = upd H d (.dK (trV (addAll ks (ms.take i))))∧σ = [some (.ref d),some (.ref m),some (.int (ks.length:Nat)),v]) ⟨none,by rw [show addAll ks (ms.take 0) = ks from rfl,upd_id hd],rfl⟩ (fun i σ H' _ h=>by obtain ⟨v,rfl,_⟩:=h; exact sqL_wr hne hS) ?_ ?_
  ·rintro i x σ H' hi ⟨v,rfl,rfl⟩
   rw [List.getElem?_map] at hi
   cases em:ms[i]? with
   | none=>rw [em] at hi; cases hi
   | some l =>
    rw [em] at hi
    have ex:x = V.str (S l):=(Option.some.inj hi).symm
    subst ex
    have et:ms.take (i + 1) = ms.take i ++ [l]:=by rw [List.take_add_one,em]; rfl
    have hal:=addAll_len (ms.take i) ks
    rw [List.length_take] at hal
    refine ⟨_,DPut.k (k:=.inr (S l)) upd_same (by rw [trV_len]; omega),?_⟩
    exact ⟨_,by rw [upd_upd,trV_put,et,addAll_snoc],rfl⟩
  ·rintro σ H' ⟨v,rfl,rfl⟩
   rw [List.length_map,List.take_length]
   refine .inr (.inl ⟨d,_,rfl,upd_same,?_⟩)
   rw [trV_len]
   show Q (.bl (decide (((addAll ks ms).length:Int) > ((ks.length:Nat):Int)))) _
   rw [show decide (((addAll ks ms).length:Int) > ((ks.length:Nat):Int)) = decide (ks.length < (addAll ks ms).length) from decide_eq_decide.mpr (by omega)]
   exact q
end
end K30
--@RAISES but law
namespace K30
open PySem PySem.Spec PyProof.Rows L2 Rg
section
variable {P:Program} {w:World} {K:PySem.W.Frag} {mg:Str→Option Value} {base:Heap} {C tS tN tT:Addr}
def gk (t:Th):GK:=.inr (pK (thP t))
theorem gk_inj {t u:Th} (h:gk t = gk u):t = u:=thP_inj (pK_inj (Sum.inr.inj h))
theorem gk_key {H:Hp} {t:Th} {b:Addr} (h:SqT K H b (pV (thP t))):KeyV K H (gk t) (.ref b):=⟨b,rfl,h⟩
abbrev Ent:=Th × Addr × Addr
def ents (es:List Ent):GV:=es.map fun e=>(gk e.1,V.ref e.2.1,V.ref e.2.2)
structure FI (P:Program) (w:World) (K:PySem.W.Frag) (H0 H:Hp) (d:Addr) (es:List Ent) (kf:Th→List (List Nat)) (ep:Nat):Prop where
 g:GAt P w K H d (ents es) ep
 v:∀ e ∈ es,H e.2.2 = some (.dK (trV (kf e.1)))
 nd:(es.map (·.2.2)).Nodup
 dd:∀ e ∈ es,e.2.2 ≠ d∧H0 e.2.2 = none
 d0:H0 d = none
 s:Same H0 H
theorem FI.keys {H0 H:Hp} {d:Addr} {es:List Ent} {kf:Th→List (List Nat)} {ep:Nat} (h:FI P w K H0 H d es kf ep):(es.map (·.1)).Nodup:=by
 have:=h.g.2.1
 unfold ents at this
 rw [List.map_map] at this
 have e:(es.map ((fun x:GK × V × V=>x.1) ∘ fun e:Ent=>(gk e.1,V.ref e.2.1,V.ref e.2.2))) = (es.map (·.1)).map gk:=by rw [List.map_map]; rfl
 rw [e] at this
 exact (List.pairwise_map.mp this).imp fun h e=>h (congrArg gk e)
theorem FI.grow {H0 H H':Hp} {d:Addr} {es:List Ent} {kf:Th→List (List Nat)} {ep:Nat} (h:FI P w K H0 H d es kf ep) (s:Same H H'):FI P w K H0 H' d es kf ep :=
 ⟨h.g.same s,fun e he=>s _ _ (h.v e he),h.nd,h.dd,h.d0,h.s.trans s⟩
theorem ents_val:∀ {es:List Ent} {t:Th},(gVal (ents es) (gk t)).isSome = true ↔ t ∈ es.map (·.1):=fun {es t}=>by
 rw [gval_mem]
 unfold ents
 rw [List.map_map]
 constructor
 ·intro h
  obtain ⟨e,he,z⟩:=List.mem_map.mp h
  exact List.mem_map.mpr ⟨e,he,gk_inj z⟩
 ·intro h
  obtain ⟨e,he,z⟩:=List.mem_map.mp h
  exact List.mem_map.mpr ⟨e,he,by show gk e.1 = gk t; rw [z]⟩
theorem ents_at:∀ {es:List Ent} {t:Th},t ∈ es.map (·.1)→∃ e ∈ es,e.1 = t∧gVal (ents es) (gk t) = some (.ref e.2.2)
 | [],_,h=>by cases h
 | e :: r,t,h=>by
  unfold ents gVal
  rw [List.map_cons,List.find?_cons]
  by_cases z:e.1 = t
  ·rw [decide_eq_true (by show gk e.1 = gk t; rw [z])]
   exact ⟨e,List.mem_cons_self,z,rfl⟩
  ·rw [decide_eq_false (fun y=>z (gk_inj y))]
   have hr:t ∈ r.map (·.1):=by
    rcases List.mem_cons.mp h with y | y
    ·exact absurd y.symm z
    ·exact y
   obtain ⟨e',he',z',v'⟩:=ents_at (es:=r) hr
   exact ⟨e',List.mem_cons_of_mem _ he',z',v'⟩
theorem ents_txt (es:List Ent) (x:Str):gVal (ents es) (.inl (.inr x)) = none:=by
 unfold ents gVal
 rw [Option.map_eq_none_iff,List.find?_eq_none]
 intro y hy z
 obtain ⟨e,_,rfl⟩:=List.mem_map.mp hy
 have:gk e.1 = .inl (.inr x):=of_decide_eq_true z
 cases this
def putE (es:List Ent) (t:Th) (k c:Addr):List Ent:=if t ∈ es.map (·.1) then es.map fun e=>if e.1 = t then (e.1,e.2.1,c) else e else es ++ [(t,k,c)]
theorem ents_put (es:List Ent) (t:Th) (k c:Addr):gPutV (ents es) (gk t) (.ref k) (.ref c) = ents (putE es t k c):=by
 unfold gPutV putE
 by_cases h:t ∈ es.map (·.1)
 ·rw [if_pos h,if_pos (ents_val.mpr h)]
  unfold ents
  rw [List.map_map,List.map_map]
  refine List.map_congr_left fun e _=>?_
  show (if gk e.1 = gk t then _ else _) = (_:GK × V × V)
  by_cases z:e.1 = t
  ·rw [if_pos (congrArg gk z)]
   simp only [Function.comp,if_pos z]
  ·rw [if_neg (fun y=>z (gk_inj y))]
   simp only [Function.comp,if_neg z]
 ·rw [if_neg h,if_neg (fun z=>h (ents_val.mp z))]
  unfold ents
  rw [List.map_append]
  rfl
theorem putE_keys (es:List Ent) (t:Th) (k c:Addr):(putE es t k c).map (·.1) = if t ∈ es.map (·.1) then es.map (·.1) else es.map (·.1) ++ [t]:=by
 unfold putE
 split
 ·rw [List.map_map]
  refine List.map_congr_left fun e _=>?_
  show (if e.1 = t then (e.1,e.2.1,c) else e).1 = e.1
  split <;> rfl
 ·rw [List.map_append]; rfl
theorem putE_mem {es:List Ent} {t:Th} {k c:Addr} {e:Ent} (h:e ∈ putE es t k c):(e.1 = t∧e.2.2 = c)∨(e ∈ es∧e.1 ≠ t):=by
 unfold putE at h
 split at h
 ·obtain ⟨x,hx,rfl⟩:=List.mem_map.mp h
  by_cases z:x.1 = t
  ·rw [if_pos z]; exact .inl ⟨z,rfl⟩
  ·rw [if_neg z]; exact .inr ⟨hx,z⟩
 ·rename_i hn
  rcases List.mem_append.mp h with z | z
  ·exact .inr ⟨z,fun y=>hn (List.mem_map.mpr ⟨e,z,y⟩)⟩
  ·rw [List.mem_singleton.mp z]; exact .inl ⟨rfl,rfl⟩
theorem putE_nd {t:Th} {k c:Addr}:∀ {es:List Ent},(es.map (·.1)).Nodup→(es.map (·.2.2)).Nodup→(∀ e ∈ es,e.2.2 ≠ c)→((putE es t k c).map (·.2.2)).Nodup:=fun {es} hk hn hc=>by
 unfold putE
 split
 ·rw [List.map_map]
  rename_i ht
  clear ht
  induction es with
  | nil=>exact .nil
  | cons e r ih =>
   rw [List.map_cons,List.nodup_cons] at hk hn
   rw [List.map_cons,List.nodup_cons]
   refine ⟨fun z=>?_,ih hk.2 hn.2 fun x hx=>hc x (List.mem_cons_of_mem _ hx)⟩
   obtain ⟨x,hx,hxe⟩:=List.mem_map.mp z
   have hxe:(if x.1 = t then (x.1,x.2.1,c) else x).2.2 = (if e.1 = t then (e.1,e.2.1,c) else e).2.2:=hxe
   by_cases z1:x.1 = t <;> by_cases z2:e.1 = t
   ·exact hk.1 (List.mem_map.mpr ⟨x,hx,z1.trans z2.symm⟩)
   ·rw [if_pos z1,if_neg z2] at hxe; exact hc e List.mem_cons_self hxe.symm
   ·rw [if_neg z1,if_pos z2] at hxe; exact hc x (List.mem_cons_of_mem _ hx) hxe
   ·rw [if_neg z1,if_neg z2] at hxe; exact hn.1 (List.mem_map.mpr ⟨x,hx,hxe⟩)
 ·rw [List.map_append,List.nodup_append]
  refine ⟨hn,by simp,fun x hx y hy=>?_⟩
  obtain ⟨e,he,rfl⟩:=List.mem_map.mp hx
  rw [List.mem_singleton.mp hy]
  exact hc e he
def addT (acc:List Th) (t:Th):List Th:=if t ∈ acc then acc else acc ++ [t]
def symsF (rows:List PR):List Th:=rows.foldl (fun acc r=>addT acc r.sym) []
theorem symsF_snoc (rows:List PR) (r:PR):symsF (rows ++ [r]) = addT (symsF rows) r.sym:=by unfold symsF; rw [List.foldl_append]; rfl
theorem symsF_len (rows:List PR):∀ i,(symsF (rows.take i)).length ≤ i
 | 0=>Nat.le_refl _
 | i + 1=>by
  have ih:=symsF_len rows i
  rw [List.take_add_one]
  cases rows[i]? with
  | none=>rw [show (none:Option PR).toList = [] from rfl,List.append_nil]; omega
  | some r =>
   rw [show (some r).toList = [r] from rfl,symsF_snoc]
   unfold addT
   split
   ·omega
   ·rw [List.length_append,List.length_singleton]; omega
def spNy (P:Program) (w:World) (K:PySem.W.Frag):Sp:=fun vs H Q _=>∃ (a:Addr) (xs:List V) (rows:List PR),vs = [.ref a]∧SqL K H a xs∧DatVs K H xs (rows.map PR.dat)∧rows.length ≤ 50000 ∧
 ∀ H' d es ep,FI P w K H H' d es (fun _=>[]) ep→es.map (·.1) = symsF rows→Q (.ref d) H'
abbrev st_none_yet:Stmt:=top 28
theorem sc_none_yet:FnScope ["plain","kinds","symbol","parts","rule"] ["plain"] (defScope st_none_yet):=⟨rfl,rfl,rfl,by decide +kernel,rfl,by decide +kernel,by decide +kernel⟩
theorem def_ny (R:Raw K mg "none_yet" st_none_yet ["plain"]) (T:Txt K w mg tT):Def P w K mg base 1 "none_yet" ["plain"] (spNy P w K):=by
 refine R.defJ sc_none_yet (fun vs H Q E h=>?_) (fun f cdv A outer s H vs Q E hr h=>?_)
 ·obtain ⟨a,xs,rows,rfl,_⟩:=h
  rfl
 ·obtain ⟨a,xs,rows,rfl,hS,hD,hl,q⟩:=h
  have sc:=sc_none_yet
  have hu:=hr.units
  have hbg:(1000000:Nat) < sizeLine:=by rw [sizeLine_eq]; decide
  have hxl:xs.length = rows.length:=by have:=hD.length; rw [List.length_map] at this; exact this
  have row:∀ (i:Nat) (x:V),xs[i]? = some x→∃ r t ts tp ys,rows[i]? = some r∧x = .ref t∧SqT K H t [.ref ts,.ref tp,.int r.no]∧SqT K H ts (pV (thP r.sym))∧SqT K H tp ys∧DatVs K H ys (r.ps.map syD):=fun i x hx=>by
   obtain ⟨dd,hdd,hxd⟩:=hD.get hx
   rw [List.getElem?_map] at hdd
   cases ee:rows[i]? with
   | none=>rw [ee] at hdd; cases hdd
   | some r =>
    rw [ee] at hdd
    have ed:dd = r.dat:=(Option.some.inj hdd).symm
    subst ed
    obtain ⟨t,ts,tp,ys,e,h1,h2,h3,h4⟩:=dat_pr hxd
    subst e
    exact ⟨r,t,ts,tp,ys,rfl,rfl,h1,h2,h3,h4⟩
  refine ⟨_,(jss_cons (js_set (i:=1) sc.nd rfl (Or.inl rfl) (j_dnewG (P:=P) (w:=w)))
  (jss_cons (js_for PassesOwn.never rfl (ji_any (K:=K) (jn 0)) (jg_tup (K:=K) (n:=3) rfl (jgs_cons (jg_name (i:=2) sc.nd rfl (Or.inl rfl)) (jgs_cons (jg_name (i:=3) sc.nd rfl (Or.inl rfl)) (jgs_cons (jg_name (i:=4) sc.nd rfl (Or.inl rfl)) jgs_nil))))
  (jss_one (js_gput (K:=K) (P:=P) (w:=w) hu (jn 1) (jn 2) j_dnewK)))
  (jss_one (js_ret (jn 1))))),?_⟩
  intro d hd0 hds
  refine .inl ⟨⟨_,(same_new hd0).seq hS⟩,?_⟩
  refine for_list (xs:=xs) (fun i σ H'=>∃ (es:List Ent) (ep:Nat) (v2 v3 v4:Option V),FI P w K H H' d es (fun _=>[]) ep∧es.map (·.1) = symsF (rows.take i)∧σ = [some (.ref a),some (.ref d),v2,v3,v4])
   ⟨[],0,none,none,none,⟨GAt.new hds,(fun e he=>nomatch he),.nil,(fun e he=>nomatch he),hd0,same_new hd0⟩,rfl,rfl⟩ (fun i σ H' _ h=>by obtain ⟨_,_,_,_,_,fi,_⟩:=h; exact fi.s.seq hS) ?_ ?_
  ·rintro i x σ H2 hx ⟨es,ep,v2,v3,v4,fi,hes,rfl⟩
   obtain ⟨r,t,ts,tp,zs,hri,rfl,hT,hts,htp,hzs⟩:=row i x hx
   have hil:i < rows.length:=(List.getElem?_eq_some_iff.mp hri).1
   have et:rows.take (i + 1) = rows.take i ++ [r]:=by rw [List.take_add_one,hri]; rfl
   refine ⟨t,_,rfl,fi.s.seqT hT,rfl,_,_,rfl,_,_,rfl,_,_,rfl,rfl,?_⟩
   intro c hc0
   have s3:Same H2 (upd H2 c (.dK [])):=same_new hc0
   have fi3:=fi.grow s3
   have h3:upd H2 c (.dK []) c = some (.dK (trV [])):=upd_same
   have hcd:c ≠ d:=fun z=>by rw [z,fi.g.1] at hc0; cases hc0
   have hce:∀ e ∈ es,e.2.2 ≠ c:=fun e he z=>by have:=fi.v e he; rw [z,hc0] at this; cases this
   have hH0:H c = none:=by
    cases e:H c with
    | none=>rfl
    | some u=>have:=fi.s _ _ e; rw [hc0] at this; cases this
   generalize upd H2 c (.dK []) = H3 at s3 fi3 h3 ⊢
   have hkl:(ents es).length ≤ i:=by
    have:=symsF_len rows i
    rw [← hes,List.length_map] at this
    unfold ents
    rw [List.length_map]; exact this
   have hkey:=gk_key (fi3.s.seqT hts)
   refine ⟨ents es,ep,gk r.sym,fi3.g,hkey,fun ep' _=>?_⟩
   have hg':=fi3.g.put (v:=.ref c) hkey (by omega) ep'
   rw [ents_put] at hg' ⊢
   refine ⟨putE es r.sym ts c,ep',_,_,_,⟨hg',fun e he=>?_,putE_nd fi.keys fi.nd hce,fun e he=>?_,fi.d0,fun x u e=>?_⟩,?_,rfl⟩
   ·rcases putE_mem he with ⟨_,z⟩ | ⟨z,_⟩
    ·rw [z,upd_ne hcd]; exact h3
    ·rw [upd_ne (fi.dd e z).1]; exact fi3.v e z
   ·rcases putE_mem he with ⟨_,z⟩ | ⟨z,_⟩
    ·rw [z]; exact ⟨hcd,hH0⟩
    ·exact fi.dd e z
   ·rw [upd_ne fun z=>by rw [z,hd0] at e; cases e]; exact fi3.s x u e
   ·rw [putE_keys,hes,et,symsF_snoc]; rfl
  ·rintro σ H2 ⟨es,ep,v2,v3,v4,fi,hes,rfl⟩
   rw [hxl,List.take_length] at hes
   exact q H2 d es ep fi hes
end
end K30
--@RAISES but law
namespace K30
open PySem PySem.Spec PyProof.Rows L2 Rg
section
variable {P:Program} {w:World} {K:PySem.W.Frag} {mg:Str→Option Value} {base:Heap} {C tS tN tT:Addr}
def fstK (kf:Th→List (List Nat)) (s:Sy):List (List Nat):=match s.2 with
 | none=>[s.1]
 | some m=>kf (s.1,m)
def spFo (P:Program) (w:World) (K:PySem.W.Frag):Sp:=fun vs H Q _=>∃ (H0:Hp) (d:Addr) (es:List Ent) (kf:Th→List (List Nat)) (ep:Nat) (x:V) (s:Sy),vs = [.ref d,x]∧FI P w K H0 H d es kf ep∧DatV K H x (syD s)∧(∀ m,s.2 = some m→(s.1,m) ∈ es.map (·.1))∧(∀ t,(kf t).length ≤ 100000) ∧
 ∀ H' p,Same H H'→H p = none→H' p = some (.lst ((fstK kf s).map fun l=>V.str (S l)))→Q (.ref p) H'
abbrev st_firsts_of:Stmt:=top 29
theorem sc_firsts_of:FnScope ["firsts","part"] ["firsts","part"] (defScope st_firsts_of):=⟨rfl,rfl,rfl,by decide +kernel,rfl,by decide +kernel,by decide +kernel⟩
theorem def_fo (R:Raw K mg "firsts_of" st_firsts_of ["firsts","part"]) (T:Txt K w mg tT):Def P w K mg base 1 "firsts_of" ["firsts","part"] (spFo P w K):=by
 refine R.defJ sc_firsts_of (fun vs H Q E h=>?_) (fun f cdv A outer s H vs Q E hr h=>?_)
 ·obtain ⟨H0,d,es,kf,ep,x,s,rfl,_⟩:=h
  rfl
 ·obtain ⟨H0,d,es,kf,ep,x,sy,rfl,fi,hx,hin,hkl,q⟩:=h
  have sc:=sc_firsts_of
  have hu:=hr.units
  have hbg:(1000000:Nat) < sizeLine:=by rw [sizeLine_eq]; decide
  refine ⟨_,(jss_one (js_ret (j_ife (jt_cmp (o_inG hu (K:=K) (P:=P) (w:=w)) (jn 1) (jn 0)) (j_callTy (c_listD rfl) rfl T.n_list boot_list (ja_cons (j_ix (o_ixG hu (K:=K) (P:=P) (w:=w)) (jn 0) (jn 1)) ja_nil)) (j_lst (ja_cons (jn 1) ja_nil))))),?_⟩
  rcases sy_dat hx with ⟨e1,rfl⟩ | ⟨m,p,e1,rfl,hp⟩
  ·refine .inl ⟨d,ents es,ep,.inl (.inr (S sy.1)),rfl,fi.g,rfl,?_⟩
   rw [ents_txt]
   refine ⟨(show 1 ≤ sizeLine by decide),fun p hp=>?_⟩
   exact q _ p (same_new hp) hp (by rw [upd_same]; unfold fstK; rw [e1]; rfl)
  ·have ht:=hin m e1
   have hkey:KeyV K H (gk (sy.1,m)) (.ref p):=gk_key hp
   refine .inl ⟨d,ents es,ep,gk (sy.1,m),rfl,fi.g,hkey,?_⟩
   rw [ents_val.mpr ht]
   obtain ⟨e,he,ee,hv⟩:=ents_at ht
   refine .inl ⟨d,ents es,ep,gk (sy.1,m),.ref e.2.2,rfl,fi.g,hkey,hv,?_⟩
   have hd:=fi.v e he
   rw [ee] at hd
   refine ⟨(kf (sy.1,m)).map fun l=>(S l,.bl true),by rw [List.map_map]; exact hd,by rw [List.length_map]; exact hkl _,fun p' hp'=>?_⟩
   exact q _ p' (same_new hp') hp' (by rw [upd_same,List.map_map]; unfold fstK; rw [e1]; rfl)
theorem nd_at:∀ {es:List Ent},(es.map (·.1)).Nodup→∀ {e e':Ent},e ∈ es→e' ∈ es→e.1 = e'.1→e = e'
 | [],_,_,_,h,_,_=>by cases h
 | x :: r,hn,e,e',h,h',ee=>by
  rw [List.map_cons,List.nodup_cons] at hn
  rcases List.mem_cons.mp h with z | z <;> rcases List.mem_cons.mp h' with z' | z'
  ·rw [z,z']
  ·exact absurd (List.mem_map.mpr ⟨e',z',by rw [← ee,z]⟩) hn.1
  ·exact absurd (List.mem_map.mpr ⟨e,z,by rw [ee,z']⟩) hn.1
  ·exact nd_at hn.2 z z' ee
theorem nd_adr:∀ {es:List Ent},(es.map (·.2.2)).Nodup→∀ {e e':Ent},e ∈ es→e' ∈ es→e.2.2 = e'.2.2→e = e'
 | [],_,_,_,h,_,_=>by cases h
 | x :: r,hn,e,e',h,h',ee=>by
  rw [List.map_cons,List.nodup_cons] at hn
  rcases List.mem_cons.mp h with z | z <;> rcases List.mem_cons.mp h' with z' | z'
  ·rw [z,z']
  ·exact absurd (List.mem_map.mpr ⟨e',z',by rw [← ee,z]⟩) hn.1
  ·exact absurd (List.mem_map.mpr ⟨e,z,by rw [ee,z']⟩) hn.1
  ·exact nd_adr hn.2 z z' ee
theorem FI.put {H0 H : Hp} {d : Addr} {es : List Ent} {kf : Th → List (List Nat)} {ep : Nat} (h : FI P w K H0 H d es kf ep) {e : Ent} (he : e ∈ es) (ks : List (List Nat)) :
  FI P w K H0 (upd H e.2.2 (.dK (trV ks))) d es (fun u=>if u = e.1 then ks else kf u) ep:=by
 have hd:=h.v e he
 refine ⟨h.g.keeps (keepsT_dK hd) (upd_ne (Ne.symm (h.dd e he).1)),fun e' he'=>?_,h.nd,h.dd,h.d0,fun x u z=>?_⟩
 ·by_cases y:e'.1 = e.1
  ·have:=nd_at h.keys he' he y
   subst this
   rw [upd_same,if_pos rfl]
  ·rw [upd_ne fun z=>y (by rw [nd_adr h.nd he' he z]),if_neg y]
   exact h.v e' he'
 ·rw [upd_ne fun y=>by rw [y,(h.dd e he).2] at z; cases z]; exact h.s x u z
inductive FK (rows:List PR):Th→List Nat→Prop
 | word {r:PR} {l:List Nat}:r ∈ rows→r.ps[0]? = some (l,none)→FK rows r.sym l
 | step {r:PR} {s:List Nat} {m:Int} {l:List Nat}:r ∈ rows→r.ps[0]? = some (s,some m)→FK rows (s,m) l→FK rows r.sym l
theorem FK.least {rows:List PR} {kf:Th→List (List Nat)} (hc:∀ r ∈ rows,∀ s,r.ps[0]? = some s→∀ l ∈ fstK kf s,l ∈ kf r.sym) {t:Th} {l:List Nat} (h:FK rows t l):l ∈ kf t:=by
 induction h with
 | word hr hp=>exact hc _ hr _ hp _ (by unfold fstK; exact List.mem_singleton.mpr rfl)
 | step hr hp _ ih=>exact hc _ hr _ hp _ (by unfold fstK; exact ih)
theorem FK.of {rows:List PR} {kf:Th→List (List Nat)} (hk:∀ t l,l ∈ kf t→FK rows t l) {r:PR} (hr:r ∈ rows) {s:Sy} (hs:r.ps[0]? = some s) {l:List Nat} (h:l ∈ fstK kf s):FK rows r.sym l:=by
 obtain ⟨x,o⟩:=s
 cases o with
 | none=>rw [List.mem_singleton.mp h]; exact .word hr hs
 | some m=>exact .step hr hs (hk _ _ h)
end
end K30
--@RAISES but law
namespace K30
open PySem PySem.Spec PyProof.Rows L2 Rg
section
variable {P:Program} {w:World} {K:PySem.W.Frag} {mg:Str→Option Value} {base:Heap} {C tS tN tT:Addr}
structure TD (P:Program) (w:World) (K:PySem.W.Frag) (H0 H:Hp) (d:Addr) (es:List Ent) (ns:Th→List Str) (ep:Nat):Prop where
 g:GAt P w K H d (ents es) ep
 v:∀ e ∈ es,H e.2.2 = some (.lst ((ns e.1).map V.str))
 nd:(es.map (·.2.2)).Nodup
 dd:∀ e ∈ es,e.2.2 ≠ d∧H0 e.2.2 = none
 d0:H0 d = none
 s:Same H0 H
theorem TD.keys {H0 H:Hp} {d:Addr} {es:List Ent} {ns:Th→List Str} {ep:Nat} (h:TD P w K H0 H d es ns ep):(es.map (·.1)).Nodup:=by
 have:=h.g.2.1
 unfold ents at this
 rw [List.map_map] at this
 have e:(es.map ((fun x:GK × V × V=>x.1) ∘ fun e:Ent=>(gk e.1,V.ref e.2.1,V.ref e.2.2))) = (es.map (·.1)).map gk:=by rw [List.map_map]; rfl
 rw [e] at this
 exact (List.pairwise_map.mp this).imp fun h e=>h (congrArg gk e)
theorem TD.grow {H0 H H':Hp} {d:Addr} {es:List Ent} {ns:Th→List Str} {ep:Nat} (h:TD P w K H0 H d es ns ep) (s:Same H H'):TD P w K H0 H' d es ns ep :=
 ⟨h.g.same s,fun e he=>s _ _ (h.v e he),h.nd,h.dd,h.d0,h.s.trans s⟩
theorem TD.put {H0 H : Hp} {d : Addr} {es : List Ent} {ns : Th → List Str} {ep : Nat} (h : TD P w K H0 H d es ns ep) {t : Th} {k c : Addr} {n : List Str} (hk : SqT K H k (pV (thP t))) (hc : H c = some (.lst (n.map V.str))) (hc0 : H0 c = none) (hcd : c ≠ d) (hce : ∀ e ∈ es, e.2.2 ≠ c) (hl : es.length < 100000) (ep' : Nat) :
  TD P w K H0 (upd H d (GObj P w d (ents (putE es t k c)) ep')) d (putE es t k c) (fun u=>if u = t then n else ns u) ep':=by
 have hg':=h.g.put (v:=.ref c) (gk_key hk) (by unfold ents; rw [List.length_map]; exact hl) ep'
 rw [ents_put] at hg'
 refine ⟨hg',fun e he=>?_,putE_nd h.keys h.nd hce,fun e he=>?_,h.d0,fun x u e=>?_⟩
 ·rcases putE_mem he with ⟨z1,z⟩ | ⟨z,z1⟩
  ·rw [z,upd_ne hcd,z1,if_pos rfl]; exact hc
  ·rw [upd_ne (h.dd e z).1,if_neg z1]; exact h.v e z
 ·rcases putE_mem he with ⟨_,z⟩ | ⟨z,_⟩
  ·rw [z]; exact ⟨hcd,hc0⟩
  ·exact h.dd e z
 ·rw [upd_ne fun z=>by rw [z,h.d0] at e; cases e]; exact h.s x u e
def spSl (P:Program) (w:World) (K:PySem.W.Frag):Sp:=fun vs H Q _=>∃ (H0:Hp) (d:Addr) (es:List Ent) (kf:Th→List (List Nat)) (ep:Nat),vs = [.ref d]∧FI P w K H0 H d es kf ep∧es.length ≤ 50000∧(∀ t,(kf t).length < 64) ∧
 ∀ H' d' es' ns ep',TD P w K H H' d' es' ns ep'→es'.map (·.1) = es.map (·.1)→(∀ e ∈ es',(ns e.1).Perm ((kf e.1).map S)∧sortedS (ns e.1) = true)→Q (.ref d') H'
abbrev st_sorted_lists:Stmt:=top 31
theorem sc_sorted_lists:FnScope ["kinds","told","symbol"] ["kinds"] (defScope st_sorted_lists):=⟨rfl,rfl,rfl,by decide +kernel,rfl,by decide +kernel,by decide +kernel⟩
theorem def_sl (R:Raw K mg "sorted_lists" st_sorted_lists ["kinds"]) (T:Txt K w mg tT):Def P w K mg base 1 "sorted_lists" ["kinds"] (spSl P w K):=by
 refine R.defJ sc_sorted_lists (fun vs H Q E h=>?_) (fun f cdv A outer s H vs Q E hr h=>?_)
 ·obtain ⟨H0,d,es,kf,ep,rfl,_⟩:=h
  rfl
 ·obtain ⟨H0,d,es,kf,ep,rfl,fi,hl,hkl,q⟩:=h
  have sc:=sc_sorted_lists
  have hu:=hr.units
  have hbg:(1000000:Nat) < sizeLine:=by rw [sizeLine_eq]; decide
  refine ⟨_,(jss_cons (js_set (i:=1) sc.nd rfl (Or.inl rfl) (j_dnewG (P:=P) (w:=w)))
  (jss_cons (js_for PassesOwn.never rfl (ji_keys (K:=K) (P:=P) (w:=w) (jn 0)) (jg_name (i:=2) sc.nd rfl (Or.inl rfl))
  (jss_one (js_gput (K:=K) (P:=P) (w:=w) hu (jn 1) (jn 2) (j_callB (c_sortD rfl) rfl T.n_sorted boot_sorted (ja_cons (j_ix (o_ixG hu (K:=K) (P:=P) (w:=w)) (jn 0) (jn 2)) ja_nil)))))
  (jss_one (js_ret (jn 1))))),?_⟩
  intro d' hd0 hds
  have eks:(ents es).map (·.2.1) = es.map fun e=>V.ref e.2.1:=by unfold ents; rw [List.map_map]; rfl
  refine ⟨ents es,ep,(fi.grow (same_new hd0)).g,?_⟩
  rw [eks]
  refine for_keys (fun i σ H'=>∃ (es':List Ent) (ns:Th→List Str) (ep':Nat) (v2:Option V),TD P w K H H' d' es' ns ep'∧es'.map (·.1) = (es.take i).map (·.1)∧(∀ e ∈ es',(ns e.1).Perm ((kf e.1).map S)∧sortedS (ns e.1) = true)∧σ = [some (.ref d),some (.ref d'),v2])
   ⟨[],fun _=>[],0,none,⟨GAt.new hds,(fun e he=>nomatch he),.nil,(fun e he=>nomatch he),hd0,same_new hd0⟩,rfl,(fun e he=>nomatch he),rfl⟩ (fun i σ H' _ h=>by obtain ⟨_,_,_,_,td,_⟩:=h; exact ⟨ents es,(fi.grow td.s).g,eks⟩) ?_ ?_
  ·rintro i x σ H2 hx ⟨es',ns,ep',v2,td,hes,hns,rfl⟩
   rw [List.getElem?_map] at hx
   cases ei:es[i]? with
   | none=>rw [ei] at hx; cases hx
   | some e =>
    rw [ei] at hx
    have ex:x = V.ref e.2.1:=(Option.some.inj hx).symm
    subst ex
    have me:=List.mem_of_getElem? ei
    have hil:i < es.length:=(List.getElem?_eq_some_iff.mp ei).1
    have fi2:=fi.grow td.s
    have hkey:KeyV K H2 (gk e.1) (.ref e.2.1):=fi2.g.2.2.2.2 (gk e.1,.ref e.2.1,.ref e.2.2) (List.mem_map.mpr ⟨e,me,rfl⟩)
    have hsq:SqT K H2 e.2.1 (pV (thP e.1)):=by obtain ⟨b,eb,hb⟩:=hkey; cases eb; exact hb
    obtain ⟨e2,me2,ee2,hv2⟩:=ents_at (es:=es) (t:=e.1) (List.mem_map.mpr ⟨e,me,rfl⟩)
    have eq2:=nd_at fi.keys me2 me ee2
    rw [eq2] at hv2
    refine .inl ⟨d,ents es,ep,gk e.1,.ref e.2.2,rfl,fi2.g,hkey,hv2,?_⟩
    refine ⟨(kf e.1).map fun l=>(S l,.bl true),by rw [List.map_map]; exact fi2.v e me,by rw [List.length_map]; exact hkl _,fun c n hc0 hpm hsr=>?_⟩
    rw [List.map_map] at hpm
    have s3:Same H2 (upd H2 c (.lst (n.map V.str))):=same_new hc0
    have td3:=td.grow s3
    have h3:upd H2 c (.lst (n.map V.str)) c = some (.lst (n.map V.str)):=upd_same
    have hcd:c ≠ d':=fun z=>by rw [z,td.g.1] at hc0; cases hc0
    have hce:∀ e ∈ es',e.2.2 ≠ c:=fun e he z=>by have:=td.v e he; rw [z,hc0] at this; cases this
    have hH0:H c = none:=by
     cases e:H c with
     | none=>rfl
     | some u=>have:=td.s _ _ e; rw [hc0] at this; cases this
    generalize upd H2 c (.lst (n.map V.str)) = H3 at s3 td3 h3 ⊢
    have hel:es'.length = i:=by have:=congrArg List.length hes; rw [List.length_map,List.length_map,List.length_take] at this; omega
    refine ⟨ents es',ep',gk e.1,td3.g,gk_key (s3.seqT hsq),fun ep2 _=>?_⟩
    rw [ents_put]
    have hnot:e.1 ∉ es'.map (·.1):=fun z=>by
     rw [hes] at z
     have hn:=fi.keys
     have et:es.take (i + 1) = es.take i ++ [e]:=by rw [List.take_add_one,ei]; rfl
     have h4:(es.take (i + 1)).map (·.1) = (es.take i).map (·.1) ++ [e.1]:=by rw [et,List.map_append]; rfl
     have h5:((es.take (i + 1)).map (·.1)).Nodup:=by rw [List.map_take]; exact hn.sublist (List.take_sublist _ _)
     rw [h4,List.nodup_append] at h5
     exact h5.2.2 _ z _ (List.mem_singleton.mpr rfl) rfl
    refine ⟨putE es' e.1 e.2.1 c,_,ep2,_,td3.put (s3.seqT hsq) h3 hH0 hcd hce (by omega) ep2,?_,fun e' he'=>?_,rfl⟩
    ·rw [putE_keys,if_neg hnot,hes,List.take_add_one,ei,List.map_append]; rfl
    ·rcases putE_mem he' with ⟨z1,_⟩ | ⟨z,z1⟩
     ·rw [if_pos z1,z1]
      exact ⟨hpm,hsr⟩
     ·rw [if_neg z1]; exact hns e' z
  ·rintro σ H2 ⟨es',ns,ep',v2,td,hes,hns,rfl⟩
   rw [List.length_map,List.take_length] at hes
   exact q H2 d' es' ns ep' td hes hns
end
end K30
--@RAISES but law
namespace K30
open PySem PySem.Spec PyProof.Rows L2 Rg
section
variable {P:Program} {w:World} {K:PySem.W.Frag} {mg:Str→Option Value} {base:Heap} {C tS tN tT:Addr}
theorem sum_le {α:Type} {f g:α→Nat} (h:∀ t,f t ≤ g t):∀ S:List α,(S.map f).sum ≤ (S.map g).sum
 | []=>Nat.le_refl _
 | x :: r=>by
  have:=sum_le h r
  have:=h x
  rw [List.map_cons,List.map_cons,List.sum_cons,List.sum_cons]
  omega
theorem sum_lt {α:Type} {f g:α→Nat} (h:∀ t,f t ≤ g t) {t:α} (hlt:f t < g t):∀ {S:List α},t ∈ S→(S.map f).sum < (S.map g).sum
 | [],ht=>by cases ht
 | x :: r,ht=>by
  have h1:=sum_le h r
  have h2:=h x
  rw [List.map_cons,List.map_cons,List.sum_cons,List.sum_cons]
  rcases List.mem_cons.mp ht with e | e
  ·rw [e] at hlt; omega
  ·have:=sum_lt h hlt e; omega
theorem sum_bd {α:Type} {f:α→Nat} {B:Nat} (h:∀ t,f t ≤ B):∀ S:List α,(S.map f).sum ≤ S.length * B
 | []=>Nat.zero_le _
 | x :: r=>by
  have h1:=sum_bd h r
  have h2:=h x
  rw [List.map_cons,List.sum_cons,List.length_cons,Nat.add_mul]
  omega
theorem nd_le {α:Type} [DecidableEq α]:∀ {l U:List α},l.Nodup→(∀ x ∈ l,x ∈ U)→l.length ≤ U.length
 | [],_,_,_=>Nat.zero_le _
 | x :: r,U,hn,h=>by
  rw [List.nodup_cons] at hn
  have hx:=h x List.mem_cons_self
  have:=nd_le (U:=U.erase x) hn.2 fun y hy=>(List.mem_erase_of_ne fun e:y = x=>hn.1 (e ▸ hy)).mpr (h y (List.mem_cons_of_mem _ hy))
  rw [List.length_erase_of_mem hx] at this
  have:=List.length_pos_of_mem hx
  rw [List.length_cons]
  omega
theorem mem_syms:∀ (rows:List PR) (acc:List Th) (t:Th),t ∈ rows.foldl (fun acc r=>addT acc r.sym) acc ↔ t ∈ acc∨∃ r ∈ rows,r.sym = t
 | [],acc,t=>by simp
 | q :: r,acc,t=>by
  rw [List.foldl_cons,mem_syms r]
  have:t ∈ addT acc q.sym ↔ t ∈ acc∨q.sym = t:=by
   unfold addT
   split
   ·rename_i h
    constructor
    ·exact .inl
    ·rintro (z | z)
     ·exact z
     ·rw [← z]; exact h
   ·rw [List.mem_append,List.mem_singleton]
    constructor
    ·rintro (z | z)
     ·exact .inl z
     ·exact .inr z.symm
    ·rintro (z | z)
     ·exact .inl z
     ·exact .inr z.symm
  rw [this]
  constructor
  ·rintro ((z | z) | ⟨x,hx,z⟩)
   ·exact .inl z
   ·exact .inr ⟨q,List.mem_cons_self,z⟩
   ·exact .inr ⟨x,List.mem_cons_of_mem _ hx,z⟩
  ·rintro (z | ⟨x,hx,z⟩)
   ·exact .inl (.inl z)
   ·rcases List.mem_cons.mp hx with y | y
    ·rw [y] at z; exact .inl (.inr z)
    ·exact .inr ⟨x,y,z⟩
theorem mem_symsF {rows:List PR} {t:Th}:t ∈ symsF rows ↔ ∃ r ∈ rows,r.sym = t:=by unfold symsF; rw [mem_syms]; simp
theorem same_none {H0 H:Hp} (s:Same H0 H) {x:Addr} (h:H x = none):H0 x = none:=by
 cases e:H0 x with
 | none=>rfl
 | some u=>have:=s _ _ e; rw [h] at this; cases this
def spFk (P:Program) (w:World) (K:PySem.W.Frag):Sp:=fun vs H Q _=>∃ (a:Addr) (xs:List V) (rows:List PR) (U:List (List Nat)),vs = [.ref a]∧SqL K H a xs∧DatVs K H xs (rows.map PR.dat)∧rows.length ≤ 50000∧(∀ r ∈ rows,1 ≤ r.ps.length) ∧
 (∀ r ∈ rows,∀ s m,r.ps[0]? = some (s,some m)→(s,m) ∈ symsF rows)∧(∀ t l,FK rows t l→l ∈ U)∧U.length < 64 ∧
 ∀ H' d es ns ep,TD P w K H H' d es ns ep→es.map (·.1) = symsF rows→(∀ e ∈ es,sortedS (ns e.1) = true∧∃ ks:List (List Nat),ks.Nodup∧(ns e.1).Perm (ks.map S)∧∀ l,l ∈ ks ↔ FK rows e.1 l)→Q (.ref d) H'
abbrev st_first_kinds:Stmt:=top 27
theorem sc_first_kinds:FnScope ["plain","firsts","grown","symbol","parts","rule"] ["plain"] (defScope st_first_kinds):=⟨rfl,rfl,rfl,by decide +kernel,rfl,by decide +kernel,by decide +kernel⟩
theorem def_fk (R:Raw K mg "first_kinds" st_first_kinds ["plain"]) (T:Txt K w mg tT) (D_none_yet:Def P w K mg base 1 "none_yet" ["plain"] (spNy P w K)) (D_put_in:Def P w K mg base 1 "put_in" ["kinds","more"] (spPut K)) (D_firsts_of:Def P w K mg base 1 "firsts_of" ["firsts","part"] (spFo P w K)) (D_sorted_lists:Def P w K mg base 1 "sorted_lists" ["kinds"] (spSl P w K)):Def P w K mg base 2 "first_kinds" ["plain"] (spFk P w K):=by
 refine R.defJ sc_first_kinds (fun vs H Q E h=>?_) (fun f cdv A outer s H vs Q E hr h=>?_)
 ·obtain ⟨a,xs,rows,U,rfl,_⟩:=h
  rfl
 ·obtain ⟨a,xs,rows,U,rfl,hS,hD,hl,hps,hsy,hU,hU64,q⟩:=h
  have sc:=sc_first_kinds
  have hu:=hr.units
  have hbg:(1000000:Nat) < sizeLine:=by rw [sizeLine_eq]; decide
  have hxl:xs.length = rows.length:=by have:=hD.length; rw [List.length_map] at this; exact this
  have row:∀ (i:Nat) (x:V),xs[i]? = some x→∃ r t ts tp ys,rows[i]? = some r∧x = .ref t∧SqT K H t [.ref ts,.ref tp,.int r.no]∧SqT K H ts (pV (thP r.sym))∧SqT K H tp ys∧DatVs K H ys (r.ps.map syD):=fun i x hx=>by
   obtain ⟨dd,hdd,hxd⟩:=hD.get hx
   rw [List.getElem?_map] at hdd
   cases ee:rows[i]? with
   | none=>rw [ee] at hdd; cases hdd
   | some r =>
    rw [ee] at hdd
    have ed:dd = r.dat:=(Option.some.inj hdd).symm
    subst ed
    obtain ⟨t,ts,tp,ys,e,h1,h2,h3,h4⟩:=dat_pr hxd
    exact ⟨r,t,ts,tp,ys,rfl,e,h1,h2,h3,h4⟩
  refine ⟨_,(jss_cons (js_set (i:=1) sc.nd rfl (Or.inl rfl) (j_def D_none_yet (hr.mono (by decide)) rfl (ja_cons (jn 0) ja_nil)))
  (jss_cons (js_set (i:=2) sc.nd rfl (Or.inl rfl) j_bl)
  (jss_cons (js_while PassesOwn.never (jt_tru (K:=K) (jn 2))
  (jss_cons (js_set (i:=2) sc.nd rfl (Or.inl rfl) j_bl)
  (jss_one (js_for PassesOwn.never rfl (ji_any (K:=K) (jn 0)) (jg_tup (K:=K) (n:=3) rfl (jgs_cons (jg_name (i:=3) sc.nd rfl (Or.inl rfl)) (jgs_cons (jg_name (i:=4) sc.nd rfl (Or.inl rfl)) (jgs_cons (jg_name (i:=5) sc.nd rfl (Or.inl rfl)) jgs_nil))))
  (jss_one (js_set (i:=2) sc.nd rfl (Or.inl rfl) (j_or (j_def D_put_in (hr.mono (by decide)) rfl (ja_cons (j_ix (o_ixG hu (K:=K) (P:=P) (w:=w)) (jn 1) (jn 3)) (ja_cons (j_def D_firsts_of (hr.mono (by decide)) rfl (ja_cons (jn 1) (ja_cons (j_ix (o_ix hu (K:=K) (w:=w)) (jn 4) j_int) ja_nil))) ja_nil))) (j_one (jn 2)))))))))
  (jss_one (js_ret (j_def D_sorted_lists (hr.mono (by decide)) rfl (ja_cons (jn 1) ja_nil))))))),?_⟩
  refine ⟨a,xs,rows,rfl,hS,hD,hl,fun H1 d es ep fi hes=>?_⟩
  obtain ⟨N,eN⟩:∃ N,N = (symsF rows).length * U.length:=⟨_,rfl⟩
  have bd:∀ kf:Th→List (List Nat),((∀ t,(kf t).Nodup)∧∀ t l,l ∈ kf t→FK rows t l)→(∀ t,(kf t).length ≤ U.length)∧((symsF rows).map fun t=>(kf t).length).sum ≤ N:=fun kf g=>by
   have h1:∀ t,(kf t).length ≤ U.length:=fun t=>nd_le (g.1 t) fun x hx=>hU t x (g.2 t x hx)
   exact ⟨h1,by rw [eN]; exact sum_bd h1 _⟩
  refine ⟨fun m σ H'=>∃ (kf:Th→List (List Nat)) (g:Bool) (v3 v4 v5:Option V),FI P w K H H' d es kf ep∧((∀ t,(kf t).Nodup)∧∀ t l,l ∈ kf t→FK rows t l)∧(g = true→m = N - ((symsF rows).map fun t=>(kf t).length).sum + 1)∧(g = false→m = 0∧∀ r ∈ rows,∀ s,r.ps[0]? = some s→∀ l ∈ fstK kf s,l ∈ kf r.sym)∧σ = [some (.ref a),some (.ref d),some (.bl g),v3,v4,v5],
   ⟨_,fun _=>[],true,none,none,none,fi,⟨fun _=>.nil,fun t l h=>nomatch h⟩,fun _=>rfl,(fun z=>nomatch z),rfl⟩,?_⟩
  rintro m σ H2 ⟨kf,g,v3,v4,v5,fi2,gd,m1,m2,rfl⟩
  refine ⟨g,rfl,?_⟩
  show if g = true then _ else _
  refine ite2 (fun hg=>?_) (fun hg=>?_)
  ·refine ⟨_,fun σ' H' h=>h,?_⟩
   refine .inl ⟨⟨_,fi2.s.seq hS⟩,?_⟩
   refine for_list (xs:=xs) (fun i σ H'=>∃ (kf':Th→List (List Nat)) (g':Bool) (v3 v4 v5:Option V),FI P w K H H' d es kf' ep∧((∀ t,(kf' t).Nodup)∧∀ t l,l ∈ kf' t→FK rows t l)∧(g' = true→((symsF rows).map fun t=>(kf t).length).sum < ((symsF rows).map fun t=>(kf' t).length).sum)∧(g' = false→kf' = kf∧∀ (j:Nat) (r:PR) (s:Sy),j < i→rows[j]? = some r→r.ps[0]? = some s→∀ l ∈ fstK kf s,l ∈ kf r.sym)∧((symsF rows).map fun t=>(kf t).length).sum ≤ ((symsF rows).map fun t=>(kf' t).length).sum∧σ = [some (.ref a),some (.ref d),some (.bl g'),v3,v4,v5])
    ⟨kf,false,v3,v4,v5,fi2,gd,(fun z=>nomatch z),(fun _=>⟨rfl,fun j r s hj=>absurd hj (Nat.not_lt_zero _)⟩),Nat.le_refl _,rfl⟩ (fun i σ H' _ h=>by obtain ⟨_,_,_,_,_,fi3,_⟩:=h; exact fi3.s.seq hS) ?_ ?_
   ·rintro i x σ H3 hx ⟨kf',g',v3,v4,v5,fi3,gd3,g1,g2,g3,rfl⟩
    obtain ⟨r,t,ts,tp,ys,hri,rfl,hT,hts,htp,hys⟩:=row i x hx
    have mr:r ∈ rows:=List.mem_of_getElem? hri
    have hyl:ys.length = r.ps.length:=by have:=hys.length; rw [List.length_map] at this; exact this
    have hp1:=hps r mr
    refine ⟨t,_,rfl,fi3.s.seqT hT,rfl,_,_,rfl,_,_,rfl,_,_,rfl,rfl,?_⟩
    have hmem:r.sym ∈ es.map (·.1):=by rw [hes]; exact mem_symsF.mpr ⟨r,mr,rfl⟩
    obtain ⟨e,me,ee,hv⟩:=ents_at hmem
    refine .inl ⟨d,ents es,ep,gk r.sym,.ref e.2.2,rfl,fi3.g,gk_key (fi3.s.seqT hts),hv,?_⟩
    have hy0:ys[0]? = some (ys[0]'(by omega)):=List.getElem?_eq_getElem (by omega)
    generalize ys[0]'(by omega) = y at hy0
    obtain ⟨dd,hdd,hyd⟩:=hys.get hy0
    rw [List.getElem?_map] at hdd
    cases es0:r.ps[0]? with
    | none=>rw [es0] at hdd; cases hdd
    | some sy =>
     rw [es0] at hdd
     have ed:dd = syD sy:=(Option.some.inj hdd).symm
     subst ed
     have b3:=(bd kf' gd3).1
     refine .inr ⟨_,y,fi3.s.seqT htp,atI_nat hy0,?_⟩
     refine ⟨H,d,es,kf',ep,y,sy,rfl,fi3,hyd.same fi3.s,fun m hm=>?_,fun t=>by have:=b3 t; omega,fun H4 p s4 hp0 hp4=>?_⟩
     ·rw [hes]
      exact hsy r mr sy.1 m (by rw [es0,← hm])
     ·have fi4:=fi3.grow s4
      have hd4:=fi4.v e me
      rw [ee] at hd4
      have hfl:(fstK kf' sy).length ≤ 64:=by
       unfold fstK
       split
       ·exact (show 1 ≤ 64 by decide)
       ·have:=b3 (sy.1,‹Int›); omega
      refine ⟨e.2.2,p,kf' r.sym,fstK kf' sy,rfl,hd4,SqL.of hp4,(fun z=>by have:=fi3.v e me; rw [z,hp0] at this; cases this),by have:=b3 r.sym; omega,?_⟩
      have fi5:=fi4.put me (addAll (kf' r.sym) (fstK kf' sy))
      have gd5:(∀ t,((fun u=>if u = e.1 then addAll (kf' r.sym) (fstK kf' sy) else kf' u) t).Nodup)∧∀ t l,l ∈ (fun u=>if u = e.1 then addAll (kf' r.sym) (fstK kf' sy) else kf' u) t→FK rows t l:=by
       refine ⟨fun t=>?_,fun t l hl=>?_⟩
       ·dsimp only
        split
        ·exact addAll_nd (gd3.1 _)
        ·exact gd3.1 t
       ·dsimp only at hl
        split at hl
        ·rename_i z
         rw [z,ee]
         rcases addAll_mem.mp hl with y | y
         ·exact gd3.2 _ _ y
         ·exact FK.of gd3.2 mr es0 y
        ·exact gd3.2 t l hl
      by_cases hb:(kf' r.sym).length < (addAll (kf' r.sym) (fstK kf' sy)).length
      ·rw [decide_eq_true hb]
       have hle:∀ t,(kf' t).length ≤ ((fun u=>if u = e.1 then addAll (kf' r.sym) (fstK kf' sy) else kf' u) t).length:=fun t=>by
        dsimp only
        split
        ·rename_i z; rw [z,ee]; exact addAll_le _ _
        ·exact Nat.le_refl _
       have hlt:=sum_lt (f:=fun t=>(kf' t).length) (g:=fun t=>((fun u=>if u = e.1 then addAll (kf' r.sym) (fstK kf' sy) else kf' u) t).length) hle (t:=r.sym) (by dsimp only; rw [if_pos ee.symm]; exact hb) (mem_symsF.mpr ⟨r,mr,rfl⟩)
       exact ⟨_,true,_,_,_,fi5,gd5,fun _=>Nat.lt_of_le_of_lt g3 hlt,(fun z=>nomatch z),Nat.le_of_lt (Nat.lt_of_le_of_lt g3 hlt),rfl⟩
      ·rw [decide_eq_false hb]
       have hall:=addAll_same (Nat.le_of_not_lt hb)
       have eid:=addAll_id hall
       have ekf:(fun u=>if u = e.1 then addAll (kf' r.sym) (fstK kf' sy) else kf' u) = kf':=funext fun u=>by
        rw [eid]
        by_cases z:u = e.1
        ·rw [if_pos z,z,ee]
        ·rw [if_neg z]
       rw [ekf] at fi5
       refine ⟨kf',g',_,_,_,fi5,gd3,g1,fun z=>?_,g3,rfl⟩
       obtain ⟨e9,g9⟩:=g2 z
       refine ⟨e9,fun j r' s' hj hr' hs'=>?_⟩
       by_cases hji:j = i
       ·rw [hji,hri] at hr'
        have er:=Option.some.inj hr'
        subst er
        rw [es0] at hs'
        have e8:=Option.some.inj hs'
        subst e8
        rw [← e9]
        exact hall
       ·exact g9 j r' s' (by omega) hr' hs'
   ·rintro σ H3 ⟨kf',g',v3,v4,v5,fi3,gd3,g1,g2,g3,rfl⟩
    have b2:=(bd kf gd).2
    have b3:=(bd kf' gd3).2
    have em:=m1 hg
    cases g' with
    | true =>
     have:=g1 rfl
     exact ⟨_,by omega,kf',true,_,_,_,fi3,gd3,fun _=>rfl,(fun z=>nomatch z),rfl⟩
    | false =>
     obtain ⟨e9,g9⟩:=g2 rfl
     subst e9
     refine ⟨0,by omega,kf',false,_,_,_,fi3,gd3,(fun z=>nomatch z),fun _=>⟨rfl,fun r hr s hs=>?_⟩,rfl⟩
     obtain ⟨k,hk,ek⟩:=List.mem_iff_getElem.mp hr
     exact g9 k r s (by omega) (by rw [List.getElem?_eq_getElem hk,ek]) hs
  ·have hg0:g = false:=by cases g with | true=>exact absurd rfl hg | false=>rfl
   have hcl:=(m2 hg0).2
   have b3:=(bd kf gd).1
   have hel:es.length ≤ 50000:=by
    have h1:=symsF_len rows rows.length
    rw [List.take_length,← hes,List.length_map] at h1
    omega
   refine ⟨H,d,es,kf,ep,rfl,fi2,hel,fun t=>by have:=b3 t; omega,fun H3 d' es' ns ep' td hes' hns=>?_⟩
   refine q H3 d' es' ns ep' ?_ (hes'.trans hes) fun e he=>⟨(hns e he).2,kf e.1,gd.1 _,(hns e he).1,fun l=>⟨gd.2 _ _,FK.least hcl⟩⟩
   exact ⟨td.g,td.v,td.nd,fun e he=>⟨(td.dd e he).1,same_none fi2.s (td.dd e he).2⟩,same_none fi2.s td.d0,fi2.s.trans td.s⟩
end
end K30
namespace K30
open PySem PySem.Spec PyProof.Rows L2 Rg
theorem fit_sub {rs:List Rl} {q:Rl} {j:Nat} {p:List Nat} {x:Int} (h:x ∈ fitR rs q j p):x ∈ ranksR rs p:=(List.mem_filter.mp h).1
theorem mem_plain {rs:List Rl} {n:Nat} {q:Rl} (h:rs[n]? = some q):⟨(q.sort,q.rank),symsP rs q,(n:Nat)⟩ ∈ plainF rs:=by
 have mq:=List.mem_of_getElem? h
 refine List.mem_cons_of_mem _ (List.mem_flatMap.mpr ⟨q.sort,mem_sortsF.mpr ⟨q,mq,rfl⟩,?_⟩)
 have hr:q.rank ∈ srtI (ranksR rs q.sort):=mem_srtI.mpr (List.mem_map.mpr ⟨q,List.mem_filter.mpr ⟨mq,by simp⟩,rfl⟩)
 obtain ⟨k,hk,ek⟩:=List.mem_iff_getElem.mp hr
 unfold blkF blkU
 refine List.mem_flatMap.mpr ⟨k,List.mem_range.mpr hk,List.mem_append.mpr (.inl ?_)⟩
 unfold rowsU
 refine List.mem_flatMap.mpr ⟨n,List.mem_range.mpr (List.getElem?_eq_some_iff.mp h).1,?_⟩
 unfold rowA
 rw [h]
 have e2:(srtI (ranksR rs q.sort)).getD k 0 = q.rank:=by rw [List.getD,List.getElem?_eq_getElem hk]; exact ek
 show _ ∈ if q.sort = q.sort∧q.rank = (srtI (ranksR rs q.sort)).getD k 0 then _ else _
 rw [if_pos ⟨rfl,e2.symm⟩,e2]
 exact List.mem_singleton.mpr rfl
structure GR (c0:Int) (rs:List Rl):Prop where
 n1:1 ≤ rs.length
 n23:rs.length ≤ 23
 nm:∀ q ∈ rs,RlN c0 q
 top:∀ q ∈ rs,∃ q' ∈ rs,q'.sort = q.sort∧q'.rank = 99
 rch:∀ q ∈ rs,Rch rs q.sort
theorem GR.word {c0:Int} {rs:List Rl} (G:GR c0 rs) {k:Nat} (h3:3 ≤ k) (h9:k < 9):ranksR rs (nameL c0 k) = []:=by
 cases e:ranksR rs (nameL c0 k) with
 | nil=>rfl
 | cons x r =>
  have hx:x ∈ ranksR rs (nameL c0 k):=by rw [e]; exact List.mem_cons_self
  obtain ⟨q,hq,eq,_⟩:=rank_of hx
  obtain ⟨j,hj,ej⟩:=(G.nm q hq).so
  have:=nameL_inj (c:=c0) (by omega) (by omega) (ej.symm.trans eq)
  omega
theorem GR.has99 {c0:Int} {rs:List Rl} (G:GR c0 rs) {p:List Nat} (h:ranksR rs p ≠ []):(99:Int) ∈ ranksR rs p:=by
 cases e:ranksR rs p with
 | nil=>exact absurd e h
 | cons x r =>
  have hx:x ∈ ranksR rs p:=by rw [e]; exact List.mem_cons_self
  rw [← e]
  obtain ⟨q,hq,eq,_⟩:=rank_of hx
  obtain ⟨q',hq',es,er⟩:=G.top q hq
  exact List.mem_map.mpr ⟨q',List.mem_filter.mpr ⟨hq',by rw [es,eq]; simp⟩,er⟩
theorem GR.fine {c0:Int} {rs:List Rl} (G:GR c0 rs):∀ q ∈ rs,badQ rs q = false:=fun q hq=>by
 rw [Bool.eq_false_iff]
 intro z
 unfold badQ at z
 obtain ⟨j,hj,hb⟩:=List.any_eq_true.mp z
 have hj:=List.mem_range.mp hj
 unfold badP at hb
 rw [Bool.and_eq_true,decide_eq_true_eq,decide_eq_true_eq] at hb
 obtain ⟨h1,h2⟩:=hb
 rcases (G.nm q hq).tp with h | ⟨h,k,k3,k9,ek⟩
 ·have h99:=G.has99 h1
  have hlow:lowR q j (q.ps.getD j []) ≤ 99:=by
   have h0:=(G.nm q hq).r0
   unfold lowR
   repeat' split
   all_goals omega
  have:(99:Int) ∈ fitR rs q j (q.ps.getD j []):=by
   unfold fitR
   exact List.mem_filter.mpr ⟨h99,decide_eq_true hlow⟩
  rw [h2] at this
  cases this
 ·rw [ek] at hj h1
  have hj0:j = 0:=by have:j < 1:=hj; omega
  subst hj0
  exact h1 (G.word k3 k9)
theorem srt_pw (l:List Int):(srtI l).Pairwise (· ≤ ·):=by
 unfold srtI
 have:=List.pairwise_mergeSort (le:=fun a b:Int=>decide (a ≤ b)) (fun a b c h1 h2=>decide_eq_true (Int.le_trans (of_decide_eq_true h1) (of_decide_eq_true h2))) (fun a b=>by
  rcases Int.le_total a b with h | h
  ·rw [decide_eq_true h]; rfl
  ·rw [decide_eq_true h]; exact Bool.or_true _) (dist l)
 exact this.imp fun h=>of_decide_eq_true h
theorem GR.last {c0:Int} {rs:List Rl} (G:GR c0 rs) {s:List Nat} (h:ranksR rs s ≠ []) {k:Nat} (hk:k + 1 = (srtI (ranksR rs s)).length):(srtI (ranksR rs s)).getD k 0 = 99:=by
 have hkl:k < (srtI (ranksR rs s)).length:=by omega
 have h99:(99:Int) ∈ srtI (ranksR rs s):=mem_srtI.mpr (G.has99 h)
 obtain ⟨j,hj,ej⟩:=List.mem_iff_getElem.mp h99
 have e:(srtI (ranksR rs s)).getD k 0 = (srtI (ranksR rs s))[k]:=by rw [List.getD,List.getElem?_eq_getElem hkl]; rfl
 have hle:(99:Int) ≤ (srtI (ranksR rs s))[k]:=by
  by_cases z:j = k
  ·subst z; rw [ej]; exact Int.le_refl _
  ·have:=List.pairwise_iff_getElem.mp (srt_pw (ranksR rs s)) j k hj hkl (by omega)
   rw [ej] at this; exact this
 have hge:(srtI (ranksR rs s))[k] ≤ 99:=by
  obtain ⟨q,hq,_,er⟩:=rank_of (mem_srtI.mp (List.getElem_mem hkl))
  rw [← er]; exact (G.nm q hq).r9
 rw [e]; omega
theorem GR.der {c0:Int} {rs:List Rl} (G:GR c0 rs) {s:List Nat} (h:ranksR rs s ≠ []):∀ (n k:Nat),k + n + 1 = (srtI (ranksR rs s)).length→Der (plainF rs) (s,(srtI (ranksR rs s)).getD k 0)
 | 0,k,hk=>by
  rw [G.last h (by omega)]
  obtain ⟨q,hq,es,er⟩:=rank_of (G.has99 h)
  obtain ⟨n,hn,en⟩:=List.mem_iff_getElem.mp hq
  have hrow:=mem_plain (rs:=rs) (n:=n) (q:=q) (by rw [List.getElem?_eq_getElem hn,en])
  have:=Der.mk (rows:=plainF rs) _ hrow fun x hx m hm=>by
   rcases (G.nm q hq).tp with z | ⟨_,k,k3,k9,ek⟩
   ·rw [er] at z; exact absurd z (by decide)
   ·have hx:x ∈ symsP rs q:=hx
    unfold symsP at hx
    obtain ⟨j,hj,rfl⟩:=List.mem_map.mp hx
    have hj:=List.mem_range.mp hj
    rw [ek] at hj
    have hj0:j = 0:=by have:j < 1:=hj; omega
    subst hj0
    unfold symP at hm
    rw [ek] at hm
    have hm:(if ranksR rs (nameL c0 k) = [] then none else some (minL (fitR rs q 0 (nameL c0 k)))) = some m:=hm
    rw [if_pos (G.word k3 k9)] at hm
    cases hm
  rw [← es,← er]
  exact this
 | n + 1,k,hk=>by
  have ih:=GR.der G h n (k + 1) (by omega)
  have hk1:k + 1 < (srtI (ranksR rs s)).length:=by omega
  have e1:(srtI (ranksR rs s)).getD (k + 1) 0 = (srtI (ranksR rs s))[k + 1]:=by rw [List.getD,List.getElem?_eq_getElem hk1]; rfl
  rw [e1] at ih
  have hso:s ∈ sortsF rs:=by
   cases e:ranksR rs s with
   | nil=>exact absurd e h
   | cons x r =>
    obtain ⟨q,hq,es,_⟩:=rank_of (show x ∈ ranksR rs s by rw [e]; exact List.mem_cons_self)
    exact mem_sortsF.mpr ⟨q,hq,es⟩
  have hrow:(⟨(s,(srtI (ranksR rs s)).getD k 0),[(s,some (srtI (ranksR rs s))[k + 1])],-1⟩:PR) ∈ plainF rs:=by
   refine List.mem_cons_of_mem _ (List.mem_flatMap.mpr ⟨s,hso,?_⟩)
   unfold blkF blkU
   refine List.mem_flatMap.mpr ⟨k,List.mem_range.mpr (by omega),List.mem_append.mpr (.inr ?_)⟩
   unfold upR
   rw [List.getElem?_eq_getElem hk1]
   exact List.mem_singleton.mpr rfl
  exact Der.mk _ hrow fun x hx m hm=>by
   rw [List.mem_singleton.mp hx] at hm ⊢
   cases hm
   exact ih
theorem GR.derR {c0:Int} {rs:List Rl} (G:GR c0 rs) {s:List Nat} {r:Int} (h:r ∈ ranksR rs s):Der (plainF rs) (s,r):=by
 obtain ⟨k,hk,ek⟩:=List.mem_iff_getElem.mp (mem_srtI.mpr h)
 have:=G.der (s:=s) (fun z=>by rw [z] at h; cases h) ((srtI (ranksR rs s)).length - 1 - k) k (by omega)
 rw [List.getD,List.getElem?_eq_getElem hk] at this
 rw [← ek]
 exact this
theorem GR.first {c0:Int} {rs:List Rl} (G:GR c0 rs):(srtI (ranksR rs (rs.getD 0 ⟨[],0,"",[]⟩).sort)).getD 0 0 ∈ ranksR rs (rs.getD 0 ⟨[],0,"",[]⟩).sort:=by
 have h1:=G.n1
 have hm:rs.getD 0 ⟨[],0,"",[]⟩ ∈ rs:=by rw [List.getD,List.getElem?_eq_getElem (by omega)]; exact List.getElem_mem _
 generalize rs.getD 0 ⟨[],0,"",[]⟩ = q at hm
 have hr:=rank_in hm
 have hp:0 < (srtI (ranksR rs q.sort)).length:=List.length_pos_of_mem (mem_srtI.mpr hr)
 rw [List.getD,List.getElem?_eq_getElem hp]
 exact mem_srtI.mp (List.getElem_mem _)
theorem GR.derAll {c0:Int} {rs:List Rl} (G:GR c0 rs):∀ r ∈ plainF rs,Der (plainF rs) r.sym:=fun r hr=>by
 rcases List.mem_cons.mp hr with e | h
 ·refine Der.mk r hr fun x hx m hm=>?_
  rw [e] at hx
  rw [List.mem_singleton.mp hx] at hm ⊢
  have hm:=Option.some.inj hm
  rw [← hm]
  exact G.derR G.first
 ·obtain ⟨s,_,h⟩:=List.mem_flatMap.mp h
  rcases mem_blk h with ⟨n,q,hq,_,e⟩ | ⟨a,b,ha,_,e⟩
  ·rw [e]; exact G.derR (rank_in (List.mem_of_getElem? hq))
  ·rw [e]; exact G.derR ha
theorem GR.syms {c0:Int} {rs:List Rl} (G:GR c0 rs):∀ r ∈ plainF rs,∀ x ∈ r.ps,∀ m,x.2 = some m→(x.1,m) ∈ symsF (plainF rs):=by
 have key:∀ {s:List Nat} {m:Int},m ∈ ranksR rs s→(s,m) ∈ symsF (plainF rs):=fun {s m} h=>by
  obtain ⟨q,hq,es,er⟩:=rank_of h
  obtain ⟨n,hn,en⟩:=List.mem_iff_getElem.mp hq
  exact mem_symsF.mpr ⟨_,mem_plain (rs:=rs) (n:=n) (q:=q) (by rw [List.getElem?_eq_getElem hn,en]),by show (q.sort,q.rank) = (s,m); rw [es,er]⟩
 intro r hr x hx m hm
 rcases List.mem_cons.mp hr with e | h
 ·rw [e] at hx
  rw [List.mem_singleton.mp hx] at hm ⊢
  have hm:=Option.some.inj hm
  rw [← hm]
  exact key G.first
 ·obtain ⟨s,_,h⟩:=List.mem_flatMap.mp h
  rcases mem_blk h with ⟨n,q,hq,_,e⟩ | ⟨a,b,_,hb,e⟩
  ·rw [e] at hx
   have mq:=List.mem_of_getElem? hq
   have hx:x ∈ symsP rs q:=hx
   obtain ⟨j,hj,rfl⟩:=List.mem_map.mp hx
   unfold symP at hm ⊢
   dsimp only at hm ⊢
   split at hm
   ·cases hm
   ·rename_i hne
    have hm:=Option.some.inj hm
    rw [← hm]
    refine key (fit_sub (rs:=rs) (q:=q) (j:=j) (minL_mem fun z=>?_).1)
    have hg:=G.fine q mq
    unfold badQ at hg
    have:=List.any_eq_false.mp hg j hj
    exact this (by unfold badP; rw [decide_eq_true hne,decide_eq_true z]; rfl)
  ·rw [e] at hx
   rw [List.mem_singleton.mp hx] at hm ⊢
   have hm:=Option.some.inj hm
   rw [← hm]
   exact key hb
theorem GR.rules {c0:Int} {rs:List Rl} (G:GR c0 rs):rulesB rs = true:=(rulesB_iff rs).mpr ⟨G.n1,by have:=G.n23; omega,fun q hq=>(G.nm q hq).okB⟩
end K30
--@RAISES but law
namespace K30
open PySem PySem.Spec PyProof.Rows L2 Rg
section
variable {P:Program} {w:World} {K:PySem.W.Frag} {mg:Str→Option Value} {base:Heap} {C tS tN tT:Addr}
def ClR (rs:List Rl) (R:List (List Nat)):Prop:=∀ q ∈ rs,q.sort ∈ R→∀ p ∈ q.ps,p ∈ R
theorem rch_in {rs:List Rl} {R:List (List Nat)} (h:ClR rs R) (h0:∀ q,rs[0]? = some q→q.sort ∈ R) {x:List Nat} (d:Rch rs x):x ∈ R:=by
 induction d with
 | first hq=>exact h0 _ hq
 | step hq _ hp ih=>exact h _ hq ih _ hp
def nS (S3 R:List (List Nat)):Nat:=(S3.filter fun s=>decide (s ∈ R)).length
theorem nS_le (S3 R:List (List Nat)):nS S3 R ≤ S3.length:=List.length_filter_le _ _
theorem nS_lt {S3 R R':List (List Nat)} (h:∀ x ∈ R,x ∈ R') {s:List Nat} (hs:s ∈ S3) (h1:s ∈ R') (h2:s ∉ R):nS S3 R < nS S3 R' :=
 cnt_lt (fun x hx=>decide_eq_true (h x (of_decide_eq_true hx))) (decide_eq_true h1) (decide_eq_false h2) S3 hs
theorem turn_cl {rs:List Rl} {S3 R R':List (List Nat)} (hS:∀ q ∈ rs,q.sort ∈ S3) (h:∀ x ∈ R,x ∈ R') (hp:∀ q ∈ rs,q.sort ∈ R→∀ p ∈ q.ps,p ∈ R'):ClR rs R'∨nS S3 R < nS S3 R':=by
 by_cases z:∃ s ∈ S3,s ∈ R'∧s ∉ R
 ·obtain ⟨s,h1,h2,h3⟩:=z
  exact .inr (nS_lt h h1 h2 h3)
 ·refine .inl fun q hq hs p hpq=>hp q hq ?_ p hpq
  by_cases y:q.sort ∈ R
  ·exact y
  ·exact absurd ⟨q.sort,hS q hq,hs,y⟩ z
theorem cut220 (ns:List Int) {mo:Int} (h:mo = 20):∃ ms:List Int,cutV (ns.map V.int) (some 2) (some (2 + mo)) = ms.map V.int∧ms.length ≤ 20:=by
 obtain ⟨m,hm,e⟩:∃ m:Nat,m ≤ 22∧(2:Int) + mo = ((m:Nat):Int):=⟨(2 + mo).toNat,by omega,by omega⟩
 unfold cutV
 rw [show (2:Int) = ((2:Nat):Int) from rfl] at *
 rw [e,HT.sIx_nat,HT.sIx_nat,List.length_map]
 refine ⟨(ns.drop (min 2 ns.length)).take (min m ns.length - min 2 ns.length),by rw [List.map_take,List.map_drop],?_⟩
 rw [List.length_take]
 omega
theorem rl_noL (q:Rl):NoL q.dat:=by
 unfold Rl.dat
 refine .tuple fun d hd=>?_
 simp only [List.mem_cons,List.not_mem_nil,or_false] at hd
 rcases hd with rfl | rfl | rfl | rfl
 ·exact .str _
 ·exact .int _
 ·exact .str _
 ·refine .tuple fun d hd=>?_
  obtain ⟨z,_,rfl⟩:=List.mem_map.mp hd
  exact .str _
theorem rls_noL (rs:List Rl):∀ d ∈ rs.map Rl.dat,NoL d:=fun d hd=>by obtain ⟨z,_,rfl⟩:=List.mem_map.mp hd; exact rl_noL z
theorem dvs_take {H:Hp}:∀ {xs:List V} {ds:List PyData} (n:Nat),DatVs K H xs ds→DatVs K H (xs.take n) (ds.take n)
 | _,_,0,_=>.nil
 | _,_,_ + 1,.nil=>.nil
 | _,_,n + 1,.cons h t=>.cons h (dvs_take n t)
theorem dvs_drop {H:Hp}:∀ {xs:List V} {ds:List PyData} (n:Nat),DatVs K H xs ds→DatVs K H (xs.drop n) (ds.drop n)
 | _,_,0,h=>h
 | _,_,_ + 1,.nil=>.nil
 | _,_,n + 1,.cons _ t=>dvs_drop n t
theorem inV_strs (l:List Nat) (acc:List (List Nat)):inV (V.str (S l)) (acc.map fun k=>V.str (S k)) = decide (l ∈ acc):=by
 unfold inV
 rw [List.any_map,Bool.eq_iff_iff,List.any_eq_true,decide_eq_true_eq]
 constructor
 ·rintro ⟨x,hx,e⟩
  have e2:(S x:Str) = S l:=by
   have:((S x:Str) == S l) = true:=e
   exact beq_iff_eq.mp this
  rw [← S_inj e2]; exact hx
 ·intro h
  exact ⟨l,h,by show ((S l:Str) == S l) = true; simp⟩
theorem flat_tx (ks:List (List Nat)):(ks.map fun k=>V.str (S k)).all flatV = true:=by rw [List.all_map]; simp [flatV]
theorem rch_filter {rs:List Rl} {R:List (List Nat)} (hin:∀ x,Rch rs x→x ∈ R) {x:List Nat} (h:Rch rs x):Rch (rs.filter fun q=>decide (q.sort ∈ R)) x:=by
 induction h with
 | @first q hq =>
  refine .first ?_
  cases rs with
  | nil=>cases hq
  | cons y r =>
   have:y = q:=Option.some.inj hq
   subst this
   have hy:y.sort ∈ R:=hin _ (.first rfl)
   rw [List.filter_cons_of_pos (by simpa using hy)]
   rfl
 | @step q p hq hr hp ih=>exact .step (List.mem_filter.mpr ⟨hq,decide_eq_true (hin _ hr)⟩) ih hp
def spRs (K:PySem.W.Frag):Sp:=fun vs H Q _=>∃ (a:Addr) (ns:List Int),vs = [.ref a]∧SqL K H a (ns.map V.int)∧ns.length ≤ 63 ∧
 ∀ H' p rl rs,Same H H'→H' p = some (.lst rl)→DatVs K H' rl (rs.map Rl.dat)→GR (ns.getD 0 0) rs→Q (.ref p) H'
abbrev st__law_rules:Stmt:=top 37
theorem sc__law_rules:FnScope ["_law_script","_law_way","_law_names_here","_law_rules_here","_law_k","_law_at","_law_reached","_law_turn","_law_sort","_law_rank","_law_side","_law_parts"] ["_law_script"] (defScope st__law_rules):=⟨rfl,rfl,rfl,by decide +kernel,rfl,by decide +kernel,by decide +kernel⟩
theorem def_rs (R : Raw K mg "_law_rules" st__law_rules ["_law_script"]) (T : Txt K w mg tT) (D__law_cell_at : Def P w K mg base 1 "_law_cell_at" ["_law_script", "_law_k"] (spCell K)) (D__law_names : Def P w K mg base 1 "_law_names" ["_law_cell", "_law_many"] (spNames K)) (D__law_mixed : Def P w K mg base 1 "_law_mixed" ["_law_cell", "_law_k"] spMix)
  (D__law_rule:Def P w K mg base 2 "_law_rule" ["_law_cell","_law_names_here","_law_few"] (spRule K)):Def P w K mg base 3 "_law_rules" ["_law_script"] (spRs K):=by
 refine R.defJ sc__law_rules (fun vs H Q E h=>?_) (fun f cdv A outer s H vs Q E hr h=>?_)
 ·obtain ⟨a,ns,rfl,_⟩:=h
  rfl
 ·obtain ⟨a,ns,rfl,hS,hl,qq⟩:=h
  have sc:=sc__law_rules
  have hu:=hr.units
  have hbg:(1000000:Nat) < sizeLine:=by rw [sizeLine_eq]; decide
  refine ⟨_,(jss_cons (js_set (i:=1) sc.nd rfl (Or.inr rfl) (j_def D__law_cell_at (hr.mono (by decide)) rfl (ja_cons (jn 0) (ja_cons j_int ja_nil))))
  (jss_cons (js_set (i:=2) sc.nd rfl (Or.inr rfl) (j_def D__law_names (hr.mono (by decide)) rfl (ja_cons (j_def D__law_cell_at (hr.mono (by decide)) rfl (ja_cons (jn 0) (ja_cons j_int ja_nil))) (ja_cons j_int ja_nil))))
  (jss_cons (js_comp (i:=3) (N:=["_law_cell","_law_names_here","_law_way"]) (cap:=[none,some 2,some 1]) rfl (CompScope.of rfl (by rfl)) (ji_any (K:=K) (j_slice (o_slA (K:=K)) (jn 0) (jo_some j_int) (jo_some j_int))) (fun _ _ _ _=>(jg_name (i:=0) (show List.Nodup [("_law_cell":Str),("_law_names_here":Str),("_law_way":Str)] by decide +kernel) rfl (Or.inl rfl))) (fun _ _ _ _=>jts_nil) (fun _ _ _ _=>(j_def D__law_rule (hr.mono (by decide)) rfl (ja_cons (jn 0) (ja_cons (jn 1) (ja_cons (j_cmp (o_eqA hu (K:=K)) (j_op o_mod (jn 2) j_int) j_int) ja_nil))))) sc.nd rfl rfl)
  (jss_cons (js_for PassesOwn.never rfl (ji_rng1 rfl T.n_range (ja_cons j_int ja_nil)) (jg_name (i:=4) sc.nd rfl (Or.inl rfl))
  (jss_cons (js_set (i:=5) sc.nd rfl (Or.inl rfl) (j_op o_mod (j_def D__law_mixed (hr.mono (by decide)) rfl (ja_cons (jn 1) (ja_cons (j_op (o_add (K:=K)) j_int (jn 4)) ja_nil))) (j_op (o_add (K:=K)) (j_callB (c_len (K:=K)) rfl T.n_len PySem.boot_len (ja_cons (jn 3) ja_nil)) j_int)))
  (jss_one (js_expr (j_bm (K:=K) PySem.F.plainAttrs_list PySem.F.slot_list_insert PySem.F.type_list_insert m_insert (jn 3) (ja_cons (jn 5) (ja_cons (j_tup (ja_cons (j_ix (o_ix hu (K:=K) (w:=w)) (jn 2) (jn 4)) (ja_cons j_int (ja_cons j_str (ja_cons (j_tup (ja_cons (j_ix (o_ix hu (K:=K) (w:=w)) (jn 2) (j_op (o_add (K:=K)) j_int (j_op o_mod (j_def D__law_mixed (hr.mono (by decide)) rfl (ja_cons (jn 1) (ja_cons (j_op (o_add (K:=K)) j_int (jn 4)) ja_nil))) j_int))) ja_nil)) ja_nil))))) ja_nil)))))))
  (jss_cons (js_set (i:=6) sc.nd rfl (Or.inr rfl) (j_lst (ja_cons (j_ix (o_ix hu (K:=K) (w:=w)) (j_ix (o_ix hu (K:=K) (w:=w)) (jn 3) j_int) j_int) ja_nil)))
  (jss_cons (js_for PassesOwn.never rfl (ji_rng1 rfl T.n_range (ja_cons j_int ja_nil)) (jg_name (i:=7) sc.nd rfl (Or.inl rfl))
  (jss_one (js_for PassesOwn.never rfl (ji_any (K:=K) (jn 3)) (jg_tup (K:=K) (n:=4) rfl (jgs_cons (jg_name (i:=8) sc.nd rfl (Or.inl rfl)) (jgs_cons (jg_name (i:=9) sc.nd rfl (Or.inl rfl)) (jgs_cons (jg_name (i:=10) sc.nd rfl (Or.inl rfl)) (jgs_cons (jg_name (i:=11) sc.nd rfl (Or.inl rfl)) jgs_nil)))))
  (jss_one (js_if (jt_cmp (o_inM hu (K:=K) (P:=P) (w:=w)) (jn 8) (jn 6))
  (jss_one (js_expr (j_bm (K:=K) PySem.F.plainAttrs_list PySem.F.slot_list_extend PySem.F.type_list_extend (m_extendA (K:=K)) (jn 6) (ja_cons (j_comp (N:=["_law_part","_law_reached"]) (cap:=[none,some 6]) rfl (CompScope.of rfl (by rfl)) (ji_any (K:=K) (jn 11)) (fun _ _ _ _=>(jg_name (i:=0) (show List.Nodup [("_law_part":Str),("_law_reached":Str)] by decide +kernel) rfl (Or.inl rfl))) (fun _ _ _ _=>(jts_one (jt_cmp (o_notinM hu (K:=K) (P:=P) (w:=w)) (jn 0) (jn 1)))) (fun _ _ _ _=>(jn 0))) ja_nil))))
  jss_nil)))))
  (jss_one (js_ret (j_comp (N:=["_law_rule_here","_law_reached"]) (cap:=[none,some 6]) rfl (CompScope.of rfl (by rfl)) (ji_any (K:=K) (jn 3)) (fun _ _ _ _=>(jg_name (i:=0) (show List.Nodup [("_law_rule_here":Str),("_law_reached":Str)] by decide +kernel) rfl (Or.inl rfl))) (fun _ _ _ _=>(jts_one (jt_cmp (o_inM hu (K:=K) (P:=P) (w:=w)) (j_ix (o_ix hu (K:=K) (w:=w)) (jn 0) j_int) (jn 1)))) (fun _ _ _ _=>(jn 0))))))))))),?_⟩
  obtain ⟨wy,ewy⟩:∃ wy,wy = ns.getD 1 0:=⟨_,rfl⟩
  obtain ⟨c0,ec0⟩:∃ c0,c0 = ns.getD 0 0:=⟨_,rfl⟩
  rw [← ec0] at qq
  refine ⟨a,ns,1,rfl,hS,?_⟩
  rw [← ewy]
  refine ⟨a,ns,0,rfl,hS,?_⟩
  rw [← ec0]
  refine ⟨c0,9,rfl,by decide,fun H2 l s12 hl0 hl1=>?_⟩
  obtain ⟨ms,em,hml⟩:=cut220 ns (mo:=20) rfl
  refine .inl ⟨_,s12.seq hS,fun p3 hp3=>?_⟩
  rw [show (22:Int) = 2 + 20 from rfl,em]
  have s3:Same H2 (upd H2 p3 (.lst (ms.map V.int))):=same_new hp3
  have h3:SqL K (upd H2 p3 (.lst (ms.map V.int))) p3 (ms.map V.int):=SqL.of upd_same
  generalize upd H2 p3 (.lst (ms.map V.int)) = H3 at s3 h3 ⊢
  refine .inl ⟨⟨_,h3⟩,?_⟩
  have hN3:SqL K H3 l ((List.range 9).map fun k=>V.str (S (nameL c0 k))):=SqL.of (s3 _ _ hl1)
  refine gath_list (xs:=ms.map V.int) (fun i us σ' H'=>Same H3 H'∧(∃ rs:List Rl,DatVs K H' us (rs.map Rl.dat)∧(∀ q ∈ rs,RlN c0 q)∧rs.length = i)∧∃ v,σ' = [v,some (.ref l),some (.int wy)]) (by rw [List.length_map]; omega) ⟨Same.refl _,⟨[],.nil,(fun q hq=>nomatch hq),rfl⟩,none,rfl⟩
   (fun i us σ' H' h=>by obtain ⟨_,⟨ws,h1,_,h2⟩,_⟩:=h; have:=h1.length; rw [List.length_map] at this; omega) (fun i us σ' H' h=>h.1.seq h3) ?_ ?_
  ·rintro i x us σ' H' hx ⟨s4,⟨rs,hd4,hN4,hrs⟩,v,rfl⟩
   rw [List.getElem?_map] at hx
   obtain ⟨c,_,rfl⟩:=Option.map_eq_some_iff.mp hx
   refine ⟨by decide,?_⟩
   refine ⟨c,c0,l,_,rfl,s4.seq hN3,fun H5 t q5 s5 hd5 hN5=>?_⟩
   refine ⟨s4.trans s5,⟨rs ++ [q5],?_,fun q hq=>?_,by rw [List.length_append,hrs]; rfl⟩,_,rfl⟩
   ·rw [List.map_append]
    exact DatVs.snoc hd5 (hd4.same s5)
   ·rcases List.mem_append.mp hq with z | z
    ·exact hN4 q z
    ·rw [List.mem_singleton.mp z]; exact hN5
  ·rintro us σ' H' ⟨s4,⟨rs,hd4,hN4,hrs⟩,v,rfl⟩ b hb0
   rw [List.length_map] at hrs
   have s4b:Same H' (upd H' b (.lst us)):=same_new hb0
   have hb4:upd H' b (.lst us) b = some (.lst us):=upd_same
   have hd4b:=hd4.same s4b
   generalize upd H' b (.lst us) = H4 at s4b hb4 hd4b ⊢
   refine ⟨by decide,by decide,?_⟩
   refine for_range (n:=((3:Int)).toNat) (fun k σ H5=>∃ (v5 v6:Option V) (rl:List V) (rs:List Rl),Same H' H5∧H5 b = some (.lst rl)∧DatVs K H5 rl (rs.map Rl.dat)∧(∀ q ∈ rs,RlN c0 q)∧rs.length ≤ 20 + k∧(∀ j,j < k→∃ q ∈ rs,q.sort = nameL c0 j∧q.rank = 99)∧σ = [some (.ref a),some (.int wy),some (.ref l),some (.ref b),v5,v6,none,none,none,none,none,none])
    ⟨none,none,us,rs,s4b,hb4,hd4b,hN4,by omega,(fun j hj=>absurd hj (Nat.not_lt_zero _)),rfl⟩ ?_ ?_
   ·rintro k σ H5 hk ⟨v5,v6,rl,rs5,s5,hb5,hd5,hN5,hl5,h15,rfl⟩
    have hk3:k < 3:=hk
    rw [show (0:Int) + ((k:Nat):Int) = ((k:Nat):Int) from Int.zero_add _]
    have hrl:rl.length = rs5.length:=by have:=hd5.length; rw [List.length_map] at this; exact this
    have hl5l:=s5 _ _ (s4 _ _ (s3 _ _ hl1))
    refine ⟨wy,9 + ((k:Nat):Int),rfl,by omega,by omega,_,.inl (SqL.of hb5),?_⟩
    refine ⟨by omega,.inl ⟨rfl,_,SqL.of hb5⟩,?_⟩
    have hnm:∀ j:Nat,j < 9→atI ((List.range 9).map fun k=>V.str (S (nameL c0 k))) ((j:Nat):Int) = some (V.str (S (nameL c0 j))):=fun j hj=>atI_nat (by rw [List.getElem?_map,List.getElem?_range hj]; rfl)
    refine .inl ⟨_,.str (S (nameL c0 k)),SqL.of hl5l,hnm k (by omega),?_⟩
    refine ⟨wy,5 + ((k:Nat):Int),rfl,by omega,by omega,by decide,?_⟩
    obtain ⟨m6,hm6,em6⟩:∃ m6:Nat,m6 < 6∧(3:Int) + mixF wy (5 + ((k:Nat):Int)) % 6 = ((3 + m6:Nat):Int):=⟨(mixF wy (5 + ((k:Nat):Int)) % 6).toNat,by omega,by omega⟩
    refine .inl ⟨_,.str (S (nameL c0 (3 + m6))),SqL.of hl5l,by rw [em6]; exact hnm _ (by omega),?_⟩
    refine ⟨(show 1 ≤ sizeLine by decide),fun p6 hp6=>⟨(show 4 ≤ sizeLine by decide),fun p7 hp7=>?_⟩⟩
    dsimp only at hp7 ⊢
    have z6:Same H5 (upd H5 p6 (.tup [V.str (S (nameL c0 (3 + m6)))])):=same_new hp6
    have k6:SqT K (upd H5 p6 (.tup [V.str (S (nameL c0 (3 + m6)))])) p6 [V.str (S (nameL c0 (3 + m6)))]:=SqT.of upd_same
    generalize upd H5 p6 (.tup [V.str (S (nameL c0 (3 + m6)))]) = H6 at z6 k6 hp7 ⊢
    have z7:Same H6 (upd H6 p7 (.tup [V.str (S (nameL c0 k)),V.int 99,V.str "none",.ref p6])):=same_new hp7
    have k7:DatV K (upd H6 p7 (.tup [V.str (S (nameL c0 k)),V.int 99,V.str "none",.ref p6])) (.ref p7) (Rl.dat ⟨nameL c0 k,99,"none",[nameL c0 (3 + m6)]⟩) :=
     .tuple (SqT.of upd_same) (.cons (.str _) (.cons (.int _) (.cons (.str _) (.cons (.tuple (z7.seqT k6) (.cons (.str _) .nil)) .nil))))
    generalize upd H6 p7 (.tup [V.str (S (nameL c0 k)),V.int 99,V.str "none",.ref p6]) = H7 at z7 k7 ⊢
    have s57:=z6.trans z7
    have hb7:=s57 _ _ hb5
    obtain ⟨at_,hat_,eat⟩:∃ at_:Nat,at_ ≤ rl.length∧mixF wy (9 + ((k:Nat):Int)) % (((rl.length:Nat):Int) + 1) = ((at_:Nat):Int):=by
     have h1:=Int.emod_nonneg (mixF wy (9 + ((k:Nat):Int))) (show ((rl.length:Nat):Int) + 1 ≠ 0 by omega)
     have h2:=Int.emod_lt_of_pos (mixF wy (9 + ((k:Nat):Int))) (show 0 < ((rl.length:Nat):Int) + 1 by omega)
     exact ⟨(mixF wy (9 + ((k:Nat):Int)) % (((rl.length:Nat):Int) + 1)).toNat,by omega,by omega⟩
    rw [eat]
    refine ⟨rl,hb7,by omega,by omega,by omega,?_⟩
    rw [Int.toNat_natCast]
    have hdN:=hd5.same s57
    refine ⟨_,_,_,rs5.take at_ ++ (⟨nameL c0 k,99,"none",[nameL c0 (3 + m6)]⟩:Rl) :: rs5.drop at_,fun x u e=>?_,upd_same,dats_wr (.inl ⟨_,hb7⟩) (rls_noL _) ?_,fun q hq=>?_,?_,fun j hj=>?_,rfl⟩
    ·rw [upd_ne fun z=>by rw [z,hb0] at e; cases e]; exact s57 _ _ (s5 x u e)
    ·rw [List.map_append,List.map_cons,List.map_take,List.map_drop]
     exact dvs_app (dvs_take at_ hdN) (.cons k7 (dvs_drop at_ hdN))
    ·rcases List.mem_append.mp hq with z | z
     ·exact hN5 q (List.mem_of_mem_take z)
     ·rcases List.mem_cons.mp z with z | z
      ·rw [z]
       exact ⟨⟨k,hk3,rfl⟩,(show (0:Int) ≤ 99 by decide),Int.le_refl _,Nat.le_refl _,(show 1 ≤ 8 by decide),(fun z=>by have e:=nameL_inj (by omega) (by omega) (List.cons.inj z).1; omega),(fun p hp=>by rw [List.mem_singleton.mp hp]; exact ⟨_,by omega,rfl⟩),.inr (.inr rfl),.inr ⟨rfl,_,by omega,by omega,rfl⟩⟩
      ·exact hN5 q (List.mem_of_mem_drop z)
    ·rw [List.length_append,List.length_cons,List.length_take,List.length_drop]; omega
    ·by_cases z:j = k
     ·exact ⟨_,List.mem_append.mpr (.inr List.mem_cons_self),by rw [z],rfl⟩
     ·obtain ⟨q,hq,h9⟩:=h15 j (by omega)
      refine ⟨q,?_,h9⟩
      rw [← List.take_append_drop at_ rs5] at hq
      rcases List.mem_append.mp hq with y | y
      ·exact List.mem_append.mpr (.inl y)
      ·exact List.mem_append.mpr (.inr (List.mem_cons_of_mem _ y))
   ·rintro σ H5 ⟨u5,u6,rl,rs5,s5,hb5,hd5,hN5,hl5,h15,rfl⟩
    have hl5:rs5.length ≤ 20 + 3:=hl5
    have h15:∀ j,j < 3→∃ q ∈ rs5,q.sort = nameL c0 j∧q.rank = 99:=h15
    have hSb:SqL K H5 b rl:=SqL.of hb5
    have hrl:rl.length = rs5.length:=by have:=hd5.length; rw [List.length_map] at this; exact this
    have r1:1 ≤ rs5.length:=by obtain ⟨q,hq,_⟩:=h15 0 (by decide); exact List.length_pos_of_mem hq
    have r24:rs5.length ≤ 24:=by omega
    have hps:∀ q ∈ rs5,q.ps.length ≤ 100∧q.dat.canLay0 = true:=fun q hq=>⟨by have:=(hN5 q hq).p8; omega,(hN5 q hq).lay⟩
    obtain ⟨S3,hS3,hss⟩:∃ S3:List (List Nat),S3.length ≤ 3∧∀ q ∈ rs5,q.sort ∈ S3:=⟨[nameL c0 0,nameL c0 1,nameL c0 2],Nat.le_refl _,fun q hq=>by
     obtain ⟨k,hk,e⟩:=(hN5 q hq).so
     rw [e]
     have:k = 0∨k = 1∨k = 2:=by omega
     rcases this with rfl | rfl | rfl <;> simp⟩
    have rul:∀ (n:Nat) (x:V),rl[n]? = some x→∃ (q:Rl) (t tp:Addr),rs5[n]? = some q∧x = .ref t∧DatV K H5 (.ref t) q.dat∧SqT K H5 t [.str (S q.sort),.int q.rank,.str q.side,.ref tp]∧SqT K H5 tp (q.ps.map fun l=>V.str (S l)):=fun n x hx=>by
     obtain ⟨dd,hdd,hxd⟩:=hd5.get hx
     rw [List.getElem?_map] at hdd
     cases ee:rs5[n]? with
     | none=>rw [ee] at hdd; cases hdd
     | some g =>
      rw [ee] at hdd
      have ed:dd = g.dat:=(Option.some.inj hdd).symm
      subst ed
      obtain ⟨t,tp,e,hT,hTp⟩:=dat_rl hxd
      subst e
      exact ⟨g,t,tp,rfl,rfl,hxd,hT,hTp⟩
    have hn0:rl[0]? = some (rl[0]'(by omega)):=List.getElem?_eq_getElem (by omega)
    obtain ⟨q0,t0,tp0,hq0,ex0,_,hT0,_⟩:=rul 0 _ hn0
    rw [ex0] at hn0
    have mq0:=List.mem_of_getElem? hq0
    refine .inl ⟨_,.ref t0,hSb,atI_nat hn0,.inr ⟨_,.str (S q0.sort),hT0,atI_nat (j:=0) rfl,⟨(show 1 ≤ sizeLine by decide),fun rb hr0=>?_⟩⟩⟩
    have s1:Same H5 (upd H5 rb (.lst [V.str (S q0.sort)])):=same_new hr0
    have h1:upd H5 rb (.lst [V.str (S q0.sort)]) rb = some (.lst ([q0.sort].map fun l=>V.str (S l))):=upd_same
    generalize upd H5 rb (.lst [V.str (S q0.sort)]) = H1 at s1 h1 ⊢
    refine ⟨by decide,by decide,?_⟩
    refine for_range (n:=((3:Int)).toNat) (fun j σ H'=>∃ (R:List (List Nat)) (v2 v3 v4 v5 v6:Option V),Same H5 H'∧H' rb = some (.lst (R.map fun l=>V.str (S l)))∧(∀ x ∈ R,Rch rs5 x)∧q0.sort ∈ R∧R.length ≤ 1 + 2400 * j∧(ClR rs5 R∨j < nS S3 R)∧σ = [some (.ref a),some (.int wy),some (.ref l),some (.ref b),u5,u6,some (.ref rb),v2,v3,v4,v5,v6])
     ⟨[q0.sort],none,none,none,none,none,s1,h1,(fun x hx=>by rw [List.mem_singleton.mp hx]; exact .first hq0),List.mem_cons_self,Nat.le_refl _,.inr (List.length_pos_of_mem (List.mem_filter.mpr ⟨hss q0 mq0,decide_eq_true List.mem_cons_self⟩)),rfl⟩ ?_ ?_
    ·rintro j σ H2 hj ⟨R,v2,v3,v4,v5,v6,s2,hb2,hch,hfst,hRl,hcl,rfl⟩
     have hj3:j < 3:=hj
     refine .inl ⟨⟨_,s2.seq hSb⟩,?_⟩
     refine for_list (xs:=rl) (fun i σ H'=>∃ (R':List (List Nat)) (v2 v3 v4 v5 v6:Option V),Same H5 H'∧H' rb = some (.lst (R'.map fun l=>V.str (S l)))∧(∀ x ∈ R',Rch rs5 x)∧(∀ x ∈ R,x ∈ R')∧R'.length ≤ 1 + 2400 * j + 100 * i∧(∀ (k:Nat) (q:Rl),k < i→rs5[k]? = some q→q.sort ∈ R→∀ p ∈ q.ps,p ∈ R')∧(ClR rs5 R→∀ x ∈ R',x ∈ R)∧σ = [some (.ref a),some (.int wy),some (.ref l),some (.ref b),u5,u6,some (.ref rb),v2,v3,v4,v5,v6])
      ⟨R,_,v3,v4,v5,v6,s2,hb2,hch,(fun x hx=>hx),by omega,(fun k q hk=>absurd hk (Nat.not_lt_zero _)),(fun _ x hx=>hx),rfl⟩ (fun i σ H' _ h=>by obtain ⟨_,_,_,_,_,_,s3,_⟩:=h; exact s3.seq hSb) ?_ ?_
     ·rintro i x σ H3 hi ⟨R',v2,v3,v4,v5,v6,s3,hb3,hch3,hin3,hl3,hpr3,hcl3,rfl⟩
      have hil:i < rs5.length:=by have:=(List.getElem?_eq_some_iff.mp hi).1; omega
      obtain ⟨g,t,tp,hgi,rfl,_,hT,hTp⟩:=rul i x hi
      have mg1:=List.mem_of_getElem? hgi
      have hg8:=(hps g mg1).1
      refine ⟨t,_,rfl,s3.seqT hT,rfl,_,_,rfl,_,_,rfl,_,_,rfl,_,_,rfl,rfl,?_⟩
      refine .inr (.inl ⟨_,.inl (SqL.of hb3),rfl,flat_tx R',?_⟩)
      rw [inV_strs]
      show if (false ^^ decide (g.sort ∈ R')) = true then _ else _
      rw [Bool.false_xor]
      refine ite2 (fun h=>?_) (fun h=>?_)
      ·have hgin:=of_decide_eq_true h
       refine ⟨.inl ⟨rfl,_,SqL.of hb3⟩,.inr ⟨⟨_,s3.seqT hTp⟩,?_⟩⟩
       refine gath_tup (K:=K) (xs:=g.ps.map fun l=>V.str (S l)) (fun k us σ' H'=>H' = H3∧(∃ ws:List (List Nat),us = ws.map (fun l=>V.str (S l))∧(∀ p ∈ g.ps.take k,p ∈ R'∨p ∈ ws)∧(∀ p ∈ ws,p ∈ g.ps∧p ∉ R')∧ws.length ≤ k)∧∃ v,σ' = [v,some (.ref rb)]) (by rw [List.length_map]; omega) ⟨rfl,⟨[],rfl,(fun p hp=>nomatch hp),(fun p hp=>nomatch hp),Nat.le_refl _⟩,none,rfl⟩
        (fun k us σ' H' h=>by obtain ⟨_,⟨ws,h1,_,_,h2⟩,_⟩:=h; rw [h1,List.length_map]; exact h2) (fun k us σ' H' h=>by rw [h.1]; exact s3.seqT hTp) ?_ ?_
       ·rintro k y us σ' H' hy ⟨rfl,⟨ws,rfl,hw2,hw3,hw4⟩,v,rfl⟩
        rw [List.getElem?_map] at hy
        cases es:g.ps[k]? with
        | none=>rw [es] at hy; cases hy
        | some p =>
         rw [es] at hy
         have ey:y = V.str (S p):=(Option.some.inj hy).symm
         subst ey
         have et:g.ps.take (k + 1) = g.ps.take k ++ [p]:=by rw [List.take_add_one,es]; rfl
         refine .inr (.inl ⟨_,.inl (SqL.of hb3),rfl,flat_tx R',?_⟩)
         rw [inV_strs]
         show if (true ^^ decide (p ∈ R')) = true then _ else _
         refine ite2 (fun h=>?_) (fun h=>?_)
         ·have hnot:p ∉ R':=fun z=>by rw [decide_eq_true z] at h; exact absurd h (by decide)
          refine ⟨rfl,⟨ws ++ [p],by rw [List.map_append]; rfl,fun x hx=>?_,fun x hx=>?_,by rw [List.length_append,List.length_singleton]; omega⟩,_,rfl⟩
          ·rw [et] at hx
           rcases List.mem_append.mp hx with z | z
           ·exact (hw2 x z).imp id fun y=>List.mem_append.mpr (.inl y)
           ·exact .inr (List.mem_append.mpr (.inr z))
          ·rcases List.mem_append.mp hx with z | z
           ·exact hw3 x z
           ·rw [List.mem_singleton.mp z]; exact ⟨List.mem_of_getElem? es,hnot⟩
         ·have hin : p ∈ R' := by
           by_cases z:p ∈ R'
           ·exact z
           ·rw [decide_eq_false z] at h; exact absurd rfl h
          refine ⟨rfl,⟨ws,rfl,fun x hx=>?_,hw3,by omega⟩,_,rfl⟩
          rw [et] at hx
          rcases List.mem_append.mp hx with z | z
          ·exact hw2 x z
          ·rw [List.mem_singleton.mp z]; exact .inl hin
       ·rintro us σ' H' ⟨rfl,⟨ws,rfl,hw2,hw3,hw4⟩,v,rfl⟩ D hD2
        rw [List.length_map,List.take_length] at hw2
        rw [List.length_map] at hw4
        have s4:Same H' (upd H' D (.lst (ws.map fun l=>V.str (S l)))):=same_new hD2
        have h4:upd H' D (.lst (ws.map fun l=>V.str (S l))) D = some (.lst (ws.map fun l=>V.str (S l))):=upd_same
        generalize upd H' D (.lst (ws.map fun l=>V.str (S l))) = H4 at s4 h4 ⊢
        have hb4:=s4 _ _ hb3
        refine ⟨_,_,hb4,.inl h4,by rw [List.length_map,List.length_map]; omega,?_⟩
        refine ⟨R' ++ ws,_,_,_,_,_,fun x u e=>?_,by rw [upd_same,List.map_append],fun x hx=>?_,fun x hx=>List.mem_append.mpr (.inl (hin3 x hx)),by rw [List.length_append]; omega,fun k q' hk hq' hs p hp=>?_,fun cl x hx=>?_,rfl⟩
        ·rw [upd_ne fun z=>by rw [z,hr0] at e; cases e]; exact (s3.trans s4) x u e
        ·rcases List.mem_append.mp hx with z | z
         ·exact hch3 x z
         ·exact .step mg1 (hch3 _ hgin) (hw3 x z).1
        ·by_cases hki:k = i
         ·rw [hki,hgi] at hq'
          have er:=Option.some.inj hq'
          subst er
          exact List.mem_append.mpr (hw2 p hp)
         ·exact List.mem_append.mpr (.inl (hpr3 k q' (by omega) hq' hs p hp))
        ·rcases List.mem_append.mp hx with z | z
         ·exact hcl3 cl x z
         ·have:x ∈ R:=cl g mg1 (hcl3 cl _ hgin) x (hw3 x z).1
          exact this
      ·have hgn:g.sort ∉ R':=fun z=>h (decide_eq_true z)
       refine ⟨R',_,_,_,_,_,s3,hb3,hch3,hin3,by omega,fun k q' hk hq' hs p hp=>?_,hcl3,rfl⟩
       by_cases hki:k = i
       ·rw [hki,hgi] at hq'
        have er:=Option.some.inj hq'
        subst er
        exact absurd (hin3 _ hs) hgn
       ·exact hpr3 k q' (by omega) hq' hs p hp
     ·rintro σ H3 ⟨R',v2,v3,v4,v5,v6,s3,hb3,hch3,hin3,hl3,hpr3,hcl3,rfl⟩
      refine ⟨R',_,_,_,_,_,s3,hb3,hch3,hin3 _ hfst,by omega,?_,rfl⟩
      have hall:∀ q ∈ rs5,q.sort ∈ R→∀ p ∈ q.ps,p ∈ R':=fun q hq hs p hp=>by
       obtain ⟨k,hk,ek⟩:=List.mem_iff_getElem.mp hq
       exact hpr3 k q (by omega) (by rw [List.getElem?_eq_getElem hk,ek]) hs p hp
      rcases hcl with cl | lt
      ·exact .inl fun q hq hs p hp=>hin3 _ (cl q hq (hcl3 cl _ hs) p hp)
      ·rcases turn_cl hss hin3 hall with z | z
       ·exact .inl z
       ·exact .inr (by omega)
    ·rintro σ H2 ⟨R,v2,v3,v4,v5,v6,s2,hb2,hch,hfst,hRl,hcl,rfl⟩
     have hRl:R.length ≤ 1 + 2400 * 3:=hRl
     have cl:ClR rs5 R:=by
      rcases hcl with z | z
      ·exact z
      ·have:=nS_le S3 R
       have z:3 < nS S3 R:=z
       omega
     have mem:∀ x,Rch rs5 x→x ∈ R:=fun x hx=>rch_in cl (fun q hq=>by rw [hq0] at hq; cases hq; exact hfst) hx
     refine .inl ⟨⟨_,s2.seq hSb⟩,?_⟩
     refine gath_list (xs:=rl) (fun i us σ' H'=>H' = H2∧DatVs K H2 us (((rs5.take i).filter fun q=>decide (q.sort ∈ R)).map Rl.dat)∧∃ v,σ' = [v,some (.ref rb)]) (by omega) ⟨rfl,.nil,none,rfl⟩
      (fun i us σ' H' h=>by obtain ⟨_,h1,_⟩:=h; have:=h1.length; rw [List.length_map] at this; have h9:=List.length_filter_le (fun q:Rl=>decide (q.sort ∈ R)) (rs5.take i); rw [List.length_take] at h9; omega) (fun i us σ' H' h=>by rw [h.1]; exact s2.seq hSb) ?_ ?_
     ·rintro i x us σ' H' hx ⟨rfl,hw1,v,rfl⟩
      obtain ⟨g,t,tp,hgi,rfl,hgd,hT,hTp⟩:=rul i x hx
      have et:rs5.take (i + 1) = rs5.take i ++ [g]:=by rw [List.take_add_one,hgi]; rfl
      refine .inr ⟨_,.str (S g.sort),s2.seqT hT,atI_nat (j:=0) rfl,.inr (.inl ⟨_,.inl (SqL.of hb2),rfl,flat_tx R,?_⟩)⟩
      rw [inV_strs]
      show if (false ^^ decide (g.sort ∈ R)) = true then _ else _
      rw [Bool.false_xor]
      refine ite2 (fun h=>?_) (fun h=>?_)
      ·refine ⟨rfl,?_,_,rfl⟩
       rw [et,List.filter_append,List.filter_cons_of_pos (by exact h),List.filter_nil,List.map_append]
       exact DatVs.snoc (hgd.same s2) hw1
      ·refine ⟨rfl,?_,_,rfl⟩
       rw [et,List.filter_append,List.filter_cons_of_neg (by exact h),List.filter_nil,List.append_nil]
       exact hw1
     ·rintro us σ' H' ⟨rfl,hw1,v,rfl⟩ D hD2
      rw [hrl,List.take_length] at hw1
      have s9:=same_new (o:=.lst us) hD2
      refine qq _ D us (rs5.filter fun q=>decide (q.sort ∈ R)) ((((((s12.trans s3).trans s4).trans s5).trans s2).trans s9)) upd_same (hw1.same s9) ⟨?_,?_,fun q hq=>hN5 q (List.mem_filter.mp hq).1,fun q hq=>?_,fun q hq=>?_⟩
      ·exact List.length_pos_of_mem (List.mem_filter.mpr ⟨mq0,decide_eq_true hfst⟩)
      ·have:=List.length_filter_le (fun q:Rl=>decide (q.sort ∈ R)) rs5; omega
      ·obtain ⟨h1,h2⟩:=List.mem_filter.mp hq
       obtain ⟨k,hk,ek⟩:=(hN5 q h1).so
       obtain ⟨q',hq',e1,e2⟩:=h15 k hk
       have e3:q'.sort = q.sort:=e1.trans ek.symm
       exact ⟨q',List.mem_filter.mpr ⟨hq',by rw [e3]; exact h2⟩,e3,e2⟩
      ·obtain ⟨h1,h2⟩:=List.mem_filter.mp hq
       exact rch_filter mem (hch _ (of_decide_eq_true h2))
end
end K30
--@RAISES but law
namespace K30
open PySem PySem.Spec PyProof.Rows L2 Rg
section
variable {P:Program} {w:World} {K:PySem.W.Frag} {mg:Str→Option Value} {base:Heap} {C tS tN tT:Addr}
structure PRL (r:PR):Prop where
 l1:low r.sym.1
 lp:∀ s ∈ r.ps,low s.1
theorem sy_lay {s:Sy} (h:low s.1):(syD s).canLay0 = true:=by
 obtain ⟨l,o⟩:=s
 cases o with
 | none=>show (PyData.str (S l)).canLay0 = true; simp only [PyData.canLay0]; exact strOkL h
 | some r=>exact pD_lay (p:=(S l,r)) (strOkL h)
theorem sys_lay:∀ {l:List Sy},(∀ s ∈ l,low s.1)→PyData.canLayAll0 (l.map syD) = true
 | [],_=>by simp only [List.map_nil,PyData.canLayAll0]
 | s :: r,h=>by
  rw [List.map_cons]
  simp only [PyData.canLayAll0,sy_lay (h s List.mem_cons_self),sys_lay fun x hx=>h x (List.mem_cons_of_mem _ hx),Bool.and_self]
theorem pr_lay {r:PR} (h:PRL r):r.dat.canLay0 = true:=by
 unfold PR.dat
 have h1:=pD_lay (p:=thP r.sym) (strOkL h.l1)
 simp only [PyData.canLay0,PyData.canLayAll0,h1,sys_lay h.lp,Bool.and_self]
theorem prs_lay:∀ {l:List PR},(∀ r ∈ l,PRL r)→PyData.canLayAll0 (l.map PR.dat) = true
 | [],_=>by simp only [List.map_nil,PyData.canLayAll0]
 | s :: r,h=>by
  rw [List.map_cons]
  simp only [PyData.canLayAll0,pr_lay (h s List.mem_cons_self),prs_lay fun x hx=>h x (List.mem_cons_of_mem _ hx),Bool.and_self]
theorem th_pairs {F:List Th} (h:∀ t ∈ F,low t.1) {t:Th} (ht:low t.1):∀ q ∈ thP t :: F.map thP,PyData.strOk q.1 = true:=fun q hq=>by
 rcases List.mem_cons.mp hq with e | e
 ·rw [e]; exact strOkL ht
 ·obtain ⟨u,hu,rfl⟩:=List.mem_map.mp e
  exact strOkL (h u hu)
def fD (F:List Th):List PyData:=F.map fun t=>pD (thP t)
theorem fD_eq (F:List Th):fD F = (F.map thP).map pD:=by unfold fD; rw [List.map_map]; rfl
theorem fD_noL (F:List Th):∀ d ∈ fD F,NoL d:=fun d hd=>by obtain ⟨z,_,rfl⟩:=List.mem_map.mp hd; exact pD_noL _
theorem dec_thP (F:List Th) (t:Th):decide (thP t ∈ F.map thP) = decide (t ∈ F):=by
 rw [Bool.eq_iff_iff,decide_eq_true_eq,decide_eq_true_eq]
 exact mem_thP
theorem plain_low {rs:List Rl} (h1:1 ≤ rs.length) (hF:∀ q ∈ rs,Fine q):∀ r ∈ plainF rs,PRL r:=fun r hr=>by
 have so:∀ s ∈ sortsF rs,low s:=fun s hs=>by
  obtain ⟨q,hq,e⟩:=mem_sortsF.mp hs
  rw [← e]; exact (hF q hq).ls
 rcases List.mem_cons.mp hr with e | hr
 ·rw [e]
  refine ⟨(fun c hc=>nomatch hc),fun s hs=>?_⟩
  rw [List.mem_singleton.mp hs]
  refine (hF _ ?_).ls
  rw [List.getD,List.getElem?_eq_getElem (by omega)]
  exact List.getElem_mem _
 ·obtain ⟨s,hs,h⟩:=List.mem_flatMap.mp hr
  rcases mem_blk h with ⟨n,q,hq,_,e⟩ | ⟨a,b,ha,_,e⟩
  ·have f:=hF q (List.mem_of_getElem? hq)
   rw [e]
   refine ⟨f.ls,fun x hx=>?_⟩
   obtain ⟨j,hj,rfl⟩:=List.mem_map.mp hx
   have hj:=List.mem_range.mp hj
   show low (q.ps.getD j [])
   rw [List.getD,List.getElem?_eq_getElem hj]
   exact (f.lp _ (List.getElem_mem _)).1
  ·rw [e]
   refine ⟨so s hs,fun x hx=>?_⟩
   rw [List.mem_singleton.mp hx]
   exact so s hs
inductive Cor (rows:List PR) (t:Th):Th→Prop
 | refl:Cor rows t t
 | step {r:PR} {s:List Nat} {m:Int}:r ∈ rows→Cor rows t r.sym→r.ps[0]? = some (s,some m)→Cor rows t (s,m)
def ClC (rows:List PR) (F:List Th) (u:Th):Prop:=∀ r ∈ rows,r.sym = u→∀ s m,r.ps[0]? = some (s,some m)→(s,m) ∈ F
theorem cor_fk {rows:List PR} {t u:Th} (h:Cor rows t u) {l:List Nat}:FK rows u l→FK rows t l:=by
 induction h with
 | refl=>exact id
 | step hr _ hp ih=>exact fun z=>ih (.step hr hp z)
theorem fk_cor {rows:List PR} {F:List Th} (hc:∀ u ∈ F,ClC rows F u) {t:Th} {l:List Nat} (h:FK rows t l):t ∈ F→∃ r ∈ rows,r.sym ∈ F∧r.ps[0]? = some (l,none):=by
 induction h with
 | @word r l hr hp=>exact fun z=>⟨r,hr,z,hp⟩
 | @step r s m l hr hp _ ih=>exact fun z=>ih (hc _ z r hr rfl s m hp)
def spCo (K:PySem.W.Frag):Sp:=fun vs H Q _=>∃ (a b:Addr) (xs:List V) (rows:List PR) (t:Th),vs = [.ref a,.ref b]∧SqL K H a xs∧DatVs K H xs (rows.map PR.dat)∧rows.length ≤ 50000∧(∀ r ∈ rows,1 ≤ r.ps.length)∧(∀ r ∈ rows,PRL r)∧SqT K H b (pV (thP t))∧t ∈ symsF rows ∧
 (∀ r ∈ rows,∀ s m,r.ps[0]? = some (s,some m)→(s,m) ∈ symsF rows) ∧
 ∀ H' p ys F,Same H H'→H' p = some (.lst ys)→DatVs K H' ys (fD F)→(∀ u ∈ F,low u.1)→(∀ l,FK rows t l ↔ ∃ r ∈ rows,r.sym ∈ F∧r.ps[0]? = some (l,none))→Q (.ref p) H'
abbrev st__law_corners:Stmt:=top 38
theorem sc__law_corners:FnScope ["_law_plain","_law_symbol","_law_found","_law_at","_law_left","_law_parts","_law_rule_here"] ["_law_plain","_law_symbol"] (defScope st__law_corners):=⟨rfl,rfl,rfl,by decide +kernel,rfl,by decide +kernel,by decide +kernel⟩
theorem def_co (R:Raw K mg "_law_corners" st__law_corners ["_law_plain","_law_symbol"]) (T:Txt K w mg tT):Def P w K mg base 1 "_law_corners" ["_law_plain","_law_symbol"] (spCo K):=by
 refine R.defJ sc__law_corners (fun vs H Q E h=>?_) (fun f cdv A outer s H vs Q E hr h=>?_)
 ·obtain ⟨a,b,xs,rows,t,rfl,_⟩:=h
  rfl
 ·obtain ⟨a,b,xs,rows,t,rfl,hS,hD,hl,hps,hlw,hb,ht,hsy,q⟩:=h
  have sc:=sc__law_corners
  have hu:=hr.units
  have hbg:(1000000:Nat) < sizeLine:=by rw [sizeLine_eq]; decide
  have hxl:xs.length = rows.length:=by have:=hD.length; rw [List.length_map] at this; exact this
  have row:∀ (i:Nat) (x:V),xs[i]? = some x→∃ r t ts tp ys,rows[i]? = some r∧x = .ref t∧SqT K H t [.ref ts,.ref tp,.int r.no]∧SqT K H ts (pV (thP r.sym))∧SqT K H tp ys∧DatVs K H ys (r.ps.map syD):=fun i x hx=>by
   obtain ⟨dd,hdd,hxd⟩:=hD.get hx
   rw [List.getElem?_map] at hdd
   cases ee:rows[i]? with
   | none=>rw [ee] at hdd; cases hdd
   | some r =>
    rw [ee] at hdd
    have ed:dd = r.dat:=(Option.some.inj hdd).symm
    subst ed
    obtain ⟨t,ts,tp,ys,e,h1,h2,h3,h4⟩:=dat_pr hxd
    exact ⟨r,t,ts,tp,ys,rfl,e,h1,h2,h3,h4⟩
  refine ⟨_,(jss_cons (js_set (i:=2) sc.nd rfl (Or.inl rfl) (j_lst (ja_cons (jn 1) ja_nil)))
  (jss_cons (js_set (i:=3) sc.nd rfl (Or.inl rfl) j_int)
  (jss_cons (js_while PassesOwn.never (jt_cmp o_lt (jn 3) (j_callB (c_len (K:=K)) rfl T.n_len PySem.boot_len (ja_cons (jn 2) ja_nil)))
  (jss_cons (js_for PassesOwn.never rfl (ji_any (K:=K) (jn 0)) (jg_tup (K:=K) (n:=3) rfl (jgs_cons (jg_name (i:=4) sc.nd rfl (Or.inl rfl)) (jgs_cons (jg_name (i:=5) sc.nd rfl (Or.inl rfl)) (jgs_cons (jg_name (i:=6) sc.nd rfl (Or.inl rfl)) jgs_nil))))
  (jss_one (js_if (jw_t (jw_and (jt_cmp (o_eqA hu (K:=K)) (jn 4) (j_ix (o_ix hu (K:=K) (w:=w)) (jn 2) (jn 3))) (jw_and (jt_val (j_callB (c_isiD (K:=K)) rfl T.n_isinstance boot_isinstance (ja_cons (j_ix (o_ix hu (K:=K) (w:=w)) (jn 5) j_int) (ja_cons (j_bltn (v:=.ty "tuple") rfl T.n_tuple boot_tuple rfl) ja_nil)))) (jw_and1 (jt_cmp (o_notinM hu (K:=K) (P:=P) (w:=w)) (j_ix (o_ix hu (K:=K) (w:=w)) (jn 5) j_int) (jn 2))))))
  (jss_one (js_expr (j_bm (K:=K) PySem.F.plainAttrs_list PySem.F.slot_list_append PySem.F.type_list_append m_append (jn 2) (ja_cons (j_ix (o_ix hu (K:=K) (w:=w)) (jn 5) j_int) ja_nil))))
  jss_nil)))
  (jss_one (js_set (i:=3) sc.nd rfl (Or.inl rfl) (j_op (o_add (K:=K)) (jn 3) j_int)))))
  (jss_one (js_ret (jn 2)))))),?_⟩
  refine ⟨(show 1 ≤ sizeLine by decide),fun p hp0=>?_⟩
  have s1:Same H (upd H p (.lst [V.ref b])):=same_new hp0
  have h1:upd H p (.lst [V.ref b]) p = some (.lst [V.ref b]):=upd_same
  have hbl:low t.1:=by obtain ⟨r,hr,e⟩:=mem_symsF.mp ht; rw [← e]; exact (hlw r hr).l1
  have d1:DatVs K (upd H p (.lst [V.ref b])) [V.ref b] (fD [t]):=.cons (.tuple (s1.seqT hb) (.cons (.str _) (.cons (.int _) .nil))) .nil
  generalize upd H p (.lst [V.ref b]) = H1 at s1 h1 d1 ⊢
  obtain ⟨N,eN⟩:∃ N,N = (symsF rows).length:=⟨_,rfl⟩
  have hN:N ≤ 50000:=by have:=symsF_len rows rows.length; rw [List.take_length] at this; omega
  refine ⟨fun m σ H'=>∃ (F:List Th) (ys:List V) (at_:Nat) (v4 v5 v6:Option V),m = N - at_∧Same H H'∧H' p = some (.lst ys)∧DatVs K H' ys (fD F)∧F.Nodup∧(∀ u ∈ F,Cor rows t u∧u ∈ symsF rows∧low u.1)∧t ∈ F∧at_ ≤ F.length∧(∀ (k:Nat) (u:Th),k < at_→F[k]? = some u→ClC rows F u)∧σ = [some (.ref a),some (.ref b),some (.ref p),some (.int (at_:Nat)),v4,v5,v6],
   ⟨_,[t],[V.ref b],0,none,none,none,rfl,s1,h1,d1,by simp,(fun u hu=>by rw [List.mem_singleton.mp hu]; exact ⟨.refl,ht,hbl⟩),List.mem_cons_self,Nat.zero_le _,(fun k u hk=>absurd hk (Nat.not_lt_zero _)),rfl⟩,?_⟩
  rintro m σ H2 ⟨F,ys,at_,v4,v5,v6,rfl,s2,hp2,hd2,nd,hF,htF,hat,hcl,rfl⟩
  have hyl:ys.length = F.length:=by have:=hd2.length; unfold fD at this; rw [List.length_map] at this; exact this
  have hFN:F.length ≤ N:=by rw [eN]; exact nd_le nd fun u hu=>(hF u hu).2.1
  refine ⟨_,.inl (SqL.of hp2),?_⟩
  show if decide (((at_:Nat):Int) < ((ys.length:Nat):Int)) = true then _ else _
  refine ite2 (fun h=>?_) (fun h=>?_)
  ·have hlt:at_ < F.length:=by have:=of_decide_eq_true h; omega
   have hu0:F[at_]? = some F[at_]:=List.getElem?_eq_getElem hlt
   generalize F[at_] = u at hu0
   have mu:=List.mem_of_getElem? hu0
   refine ⟨_,fun σ' H' h=>h,?_⟩
   refine .inl ⟨⟨_,s2.seq hS⟩,?_⟩
   refine for_list (xs:=xs) (fun i σ H'=>∃ (F' G:List Th) (ys:List V) (v4 v5 v6:Option V),F' = F ++ G∧Same H H'∧H' p = some (.lst ys)∧DatVs K H' ys (fD F')∧F'.Nodup∧(∀ u ∈ F',Cor rows t u∧u ∈ symsF rows∧low u.1)∧(∀ (j:Nat) (r:PR),j < i→rows[j]? = some r→r.sym = u→∀ s m,r.ps[0]? = some (s,some m)→(s,m) ∈ F')∧σ = [some (.ref a),some (.ref b),some (.ref p),some (.int (at_:Nat)),v4,v5,v6])
    ⟨F,[],ys,v4,v5,v6,(List.append_nil _).symm,s2,hp2,hd2,nd,hF,(fun j r hj=>absurd hj (Nat.not_lt_zero _)),rfl⟩ (fun i σ H' _ h=>by obtain ⟨_,_,_,_,_,_,_,s3,_⟩:=h; exact s3.seq hS) ?_ ?_
   ·rintro i x σ H3 hx ⟨F',G,ys,v4,v5,v6,eF,s3,hp3,hd3,nd3,hF3,hc3,rfl⟩
    obtain ⟨r,t',ts,tp,zs,hri,rfl,hT,hts,htp,hzs⟩:=row i x hx
    have mr:r ∈ rows:=List.mem_of_getElem? hri
    have hzl:zs.length = r.ps.length:=by have:=hzs.length; rw [List.length_map] at this; exact this
    have hp1:=hps r mr
    have hyl3:ys.length = F'.length:=by have:=hd3.length; unfold fD at this; rw [List.length_map] at this; exact this
    have hFN3:F'.length ≤ N:=by rw [eN]; exact nd_le nd3 fun u hu=>(hF3 u hu).2.1
    refine ⟨t',_,rfl,s3.seqT hT,rfl,_,_,rfl,_,_,rfl,_,_,rfl,rfl,?_⟩
    have hu3:F'[at_]? = some u:=by rw [eF,List.getElem?_append_left hlt]; exact hu0
    have hl3:at_ < ys.length:=by have:=(List.getElem?_eq_some_iff.mp hu3).1; omega
    have hy3:ys[at_]? = some ys[at_]:=List.getElem?_eq_getElem hl3
    generalize ys[at_] = y at hy3
    obtain ⟨dd,hdd,hyd⟩:=hd3.get hy3
    unfold fD at hdd
    rw [List.getElem?_map,hu3] at hdd
    have ed:dd = pD (thP u):=(Option.some.inj hdd).symm
    subst ed
    obtain ⟨yr,eyr⟩:∃ yr,y = .ref yr:=by cases hyd; exact ⟨_,rfl⟩
    subst eyr
    have hsd:DatV K H3 (.ref ts) (pD (thP r.sym)):=.tuple (s3.seqT hts) (.cons (.str _) (.cons (.int _) .nil))
    refine .inl ⟨_,.ref yr,SqL.of hp3,atI_nat hy3,?_⟩
    have keep:¬ (r.sym = u∧∃ s m,r.ps[0]? = some (s,some m)∧(s,m) ∉ F')→∃ (F'' G:List Th) (ys:List V) (w4 w5 w6:Option V),F'' = F ++ G∧Same H H3∧H3 p = some (.lst ys)∧DatVs K H3 ys (fD F'')∧F''.Nodup∧(∀ u ∈ F'',Cor rows t u∧u ∈ symsF rows∧low u.1)∧(∀ (j:Nat) (r:PR),j < i + 1→rows[j]? = some r→r.sym = u→∀ s m,r.ps[0]? = some (s,some m)→(s,m) ∈ F'')∧[some (.ref a),some (.ref b),some (.ref p),some (.int (at_:Nat)),some (.ref ts),some (.ref tp),some (.int r.no)] = [some (.ref a),some (.ref b),some (.ref p),some (.int (at_:Nat)),w4,w5,w6]:=fun z =>
     ⟨F',G,ys,_,_,_,eF,s3,hp3,hd3,nd3,hF3,fun j r' hj hr' e s m hsm=>by
      by_cases hji:j = i
      ·rw [hji,hri] at hr'
       have er:=Option.some.inj hr'
       subst er
       by_cases y:(s,m) ∈ F'
       ·exact y
       ·exact absurd ⟨e,s,m,hsm,y⟩ z
      ·exact hc3 j r' (by omega) hr' e s m hsm,rfl⟩
    have lw:=hlw r mr
    refine ⟨_,_,hsd,hyd,pD_lay (p:=thP r.sym) (strOkL lw.l1),pD_lay (p:=thP u) (strOkL (hF u mu).2.2),by unfold pD; simp only [PyData.depth,PyData.depthAll]; omega,?_⟩
    show if (false ^^ PyData.eqv _ _) = true then _ else _
    rw [Bool.false_xor,pD_eqv]
    have hz0:zs[0]? = some (zs[0]'(by omega)):=List.getElem?_eq_getElem (by omega)
    generalize zs[0]'(by omega) = z0 at hz0
    obtain ⟨dd,hdd,hzd⟩:=hzs.get hz0
    rw [List.getElem?_map] at hdd
    cases es0:r.ps[0]? with
    | none=>rw [es0] at hdd; cases hdd
    | some sy =>
     rw [es0] at hdd
     have ed:dd = syD sy:=(Option.some.inj hdd).symm
     subst ed
     refine ite2 (fun h=>?_) (fun h=>?_)
     ·have eu:r.sym = u:=thP_inj (of_decide_eq_true h)
      refine .inr ⟨_,z0,s3.seqT htp,atI_nat hz0,?_⟩
      rcases sy_dat hzd with ⟨e1,rfl⟩ | ⟨m,pz,e1,rfl,hpz⟩
      ·refine ⟨"str",false,.str _,rfl,?_⟩
       exact keep fun ⟨_,s,m,hsm,_⟩=>by rw [es0] at hsm; have:=Option.some.inj hsm; rw [this] at e1; cases e1
      ·refine ⟨"tuple",true,.tuple (s3.seqT hpz),rfl,?_⟩
       have esy:sy = (sy.1,some m):=Prod.ext rfl e1
       have hly:low sy.1:=lw.lp sy (List.mem_of_getElem? es0)
       refine .inr ⟨_,.ref pz,s3.seqT htp,atI_nat hz0,.inr (.inl ⟨ys,F'.map thP,thP (sy.1,m),SqL.of hp3,by rw [← fD_eq]; exact hd3,.tuple (s3.seqT hpz) (.cons (.str _) (.cons (.int _) .nil)),th_pairs (fun u hu=>(hF3 u hu).2.2) hly,?_⟩)⟩
       rw [dec_thP]
       show if (true ^^ decide ((sy.1,m) ∈ F')) = true then _ else _
       refine ite2 (fun h2=>?_) (fun h2=>?_)
       ·have hnot:(sy.1,m) ∉ F':=fun z=>by rw [decide_eq_true z] at h2; exact absurd h2 (by decide)
        refine ⟨.inl ⟨rfl,_,SqL.of hp3⟩,.inr ⟨_,.ref pz,s3.seqT htp,atI_nat hz0,ys,hp3,by omega,?_⟩⟩
        refine ⟨F' ++ [(sy.1,m)],G ++ [(sy.1,m)],ys ++ [.ref pz],_,_,_,by rw [eF,List.append_assoc],fun x u e=>?_,upd_same,?_,?_,fun v hv=>?_,fun j r' hj hr' e s m' hsm=>?_,rfl⟩
        ·rw [upd_ne fun z=>by rw [z,hp0] at e; cases e]; exact s3 x u e
        ·refine dats_wr (.inl ⟨_,hp3⟩) (fD_noL _) ?_
         unfold fD
         rw [List.map_append]
         exact DatVs.snoc (.tuple (s3.seqT hpz) (.cons (.str _) (.cons (.int _) .nil))) hd3
        ·rw [List.nodup_append]
         refine ⟨nd3,by simp,fun x hx y hy=>?_⟩
         rw [List.mem_singleton.mp hy]
         exact fun e=>hnot (e ▸ hx)
        ·rcases List.mem_append.mp hv with z | z
         ·exact hF3 v z
         ·rw [List.mem_singleton.mp z]
          have hsm:r.ps[0]? = some (sy.1,some m):=by rw [es0,← esy]
          exact ⟨.step mr (by rw [eu]; exact (hF u mu).1) hsm,hsy r mr _ _ hsm,hly⟩
        ·by_cases hji:j = i
         ·rw [hji,hri] at hr'
          have er:=Option.some.inj hr'
          subst er
          rw [es0,esy] at hsm
          have:=Option.some.inj hsm
          rw [Prod.mk.injEq] at this
          rw [← this.1,← Option.some.inj this.2]
          exact List.mem_append.mpr (.inr (List.mem_singleton.mpr rfl))
         ·exact List.mem_append.mpr (.inl (hc3 j r' (by omega) hr' e s m' hsm))
       ·have hin : (sy.1, m) ∈ F' := by
         by_cases z:(sy.1,m) ∈ F'
         ·exact z
         ·rw [decide_eq_false z] at h2; exact absurd rfl h2
        exact keep fun ⟨_,s,m',hsm,hn⟩=>by
         rw [es0,esy] at hsm
         have:=Option.some.inj hsm
         rw [Prod.mk.injEq] at this
         rw [← this.1,← Option.some.inj this.2] at hn
         exact hn hin
     ·exact keep fun ⟨e,_⟩=>h (decide_eq_true (by rw [e]))
   ·rintro σ H3 ⟨F',G,ys,v4,v5,v6,eF,s3,hp3,hd3,nd3,hF3,hc3,rfl⟩
    have hsub:∀ v ∈ F,v ∈ F':=fun v hv=>by rw [eF]; exact List.mem_append.mpr (.inl hv)
    refine ⟨N - (at_ + 1),by omega,F',ys,at_ + 1,_,_,_,rfl,s3,hp3,hd3,nd3,hF3,hsub _ htF,by rw [eF,List.length_append]; omega,fun k v hk hv=>?_,by rfl⟩
    by_cases hka:k = at_
    ·rw [hka,eF,List.getElem?_append_left hlt,hu0] at hv
     have ev:=Option.some.inj hv
     subst ev
     intro r hr e s m hsm
     obtain ⟨j,hj,ej⟩:=List.mem_iff_getElem.mp hr
     exact hc3 j r (by omega) (by rw [List.getElem?_eq_getElem hj,ej]) e s m hsm
    ·rw [eF,List.getElem?_append_left (by omega)] at hv
     exact fun r hr e s m hsm=>hsub _ (hcl k v (by omega) hv r hr e s m hsm)
  ·have hge:at_ = F.length:=by have:¬ ((at_:Nat):Int) < ((ys.length:Nat):Int):=fun z=>h (decide_eq_true z); omega
   have hall:∀ u ∈ F,ClC rows F u:=fun u hu=>by
    obtain ⟨k,hk,ek⟩:=List.mem_iff_getElem.mp hu
    exact hcl k u (by omega) (by rw [List.getElem?_eq_getElem hk,ek])
   refine q H2 p ys F s2 hp2 hd2 (fun u hu=>(hF u hu).2.2) fun l=>⟨fun z=>fk_cor hall z htF,?_⟩
   rintro ⟨r,hr,hm,hp⟩
   exact cor_fk (hF _ hm).1 (.word hr hp)
end
end K30
--@RAISES but law
namespace K30
open PySem PySem.Spec PyProof.Rows L2 Rg
section
variable {P:Program} {w:World} {K:PySem.W.Frag} {mg:Str→Option Value} {base:Heap} {C tS tN tT:Addr}
theorem dist_S:∀ (ms acc:List (List Nat)),(ms.map S).foldl step_dedup (acc.map S) = (addAll acc ms).map S
 | [],_=>rfl
 | m :: r,acc=>by
  have e:step_dedup (acc.map S) (S m) = (addS acc m).map S:=by
   unfold step_dedup addS
   by_cases h:m ∈ acc
   ·rw [if_pos h,if_pos]
    rw [List.any_map,List.any_eq_true]
    exact ⟨m,h,by show ((S m:Str) == S m) = true; simp⟩
   ·rw [if_neg h,if_neg]
    ·rw [List.map_append]; rfl
    ·rw [List.any_map,List.any_eq_true]
     rintro ⟨x,hx,e⟩
     have e:((S x:Str) == S m) = true:=e
     rw [S_inj (beq_iff_eq.mp e)] at hx
     exact h hx
  rw [List.map_cons,List.foldl_cons,e]
  exact dist_S r (addS acc m)
def KsP (rows:List PR) (t:Th) (n:List Str):Prop:=sortedS n = true∧∃ ks:List (List Nat),ks.Nodup∧n.Perm (ks.map S)∧∀ l,l ∈ ks ↔ FK rows t l
def spDu (P:Program) (w:World) (K:PySem.W.Frag):Sp:=fun vs H Q _=>∃ (a:Addr) (xs:List V) (rows:List PR) (U:List (List Nat)),vs = [.ref a]∧SqL K H a xs∧DatVs K H xs (rows.map PR.dat)∧rows.length ≤ 4000∧(∀ r ∈ rows,1 ≤ r.ps.length)∧(∀ r ∈ rows,PRL r) ∧
 (∀ r ∈ rows,∀ s m,r.ps[0]? = some (s,some m)→(s,m) ∈ symsF rows)∧(∀ t l,FK rows t l→l ∈ U)∧U.length < 64 ∧
 ∀ H' d es ns ep,TD P w K H H' d es ns ep→es.map (·.1) = symsF rows→(∀ e ∈ es,KsP rows e.1 (ns e.1))→Q (.ref d) H'
abbrev st__law_due:Stmt:=top 39
theorem sc__law_due:FnScope ["_law_plain","_law_due_here","_law_left","_law_parts","_law_rule_here","_law_corners_here","_law_kinds"] ["_law_plain"] (defScope st__law_due):=⟨rfl,rfl,rfl,by decide +kernel,rfl,by decide +kernel,by decide +kernel⟩
theorem def_du (R:Raw K mg "_law_due" st__law_due ["_law_plain"]) (T:Txt K w mg tT) (D__law_corners:Def P w K mg base 1 "_law_corners" ["_law_plain","_law_symbol"] (spCo K)):Def P w K mg base 2 "_law_due" ["_law_plain"] (spDu P w K):=by
 refine R.defJ sc__law_due (fun vs H Q E h=>?_) (fun f cdv A outer s H vs Q E hr h=>?_)
 ·obtain ⟨a,xs,rows,U,rfl,_⟩:=h
  rfl
 ·obtain ⟨a,xs,rows,U,rfl,hS,hD,hl,hps,hlw,hsy,hU,hU64,q⟩:=h
  have sc:=sc__law_due
  have hu:=hr.units
  have hbg:(1000000:Nat) < sizeLine:=by rw [sizeLine_eq]; decide
  have hxl:xs.length = rows.length:=by have:=hD.length; rw [List.length_map] at this; exact this
  have row:∀ (i:Nat) (x:V),xs[i]? = some x→∃ r t ts tp ys,rows[i]? = some r∧x = .ref t∧SqT K H t [.ref ts,.ref tp,.int r.no]∧SqT K H ts (pV (thP r.sym))∧SqT K H tp ys∧DatVs K H ys (r.ps.map syD):=fun i x hx=>by
   obtain ⟨dd,hdd,hxd⟩:=hD.get hx
   rw [List.getElem?_map] at hdd
   cases ee:rows[i]? with
   | none=>rw [ee] at hdd; cases hdd
   | some r =>
    rw [ee] at hdd
    have ed:dd = r.dat:=(Option.some.inj hdd).symm
    subst ed
    obtain ⟨t,ts,tp,ys,e,h1,h2,h3,h4⟩:=dat_pr hxd
    exact ⟨r,t,ts,tp,ys,rfl,e,h1,h2,h3,h4⟩
  refine ⟨_,(jss_cons (js_set (i:=1) sc.nd rfl (Or.inl rfl) (j_dnewG (P:=P) (w:=w)))
  (jss_cons (js_for PassesOwn.never rfl (ji_any (K:=K) (jn 0)) (jg_tup (K:=K) (n:=3) rfl (jgs_cons (jg_name (i:=2) sc.nd rfl (Or.inl rfl)) (jgs_cons (jg_name (i:=3) sc.nd rfl (Or.inl rfl)) (jgs_cons (jg_name (i:=4) sc.nd rfl (Or.inl rfl)) jgs_nil))))
  (jss_one (js_if (jt_cmp (o_notinG hu (K:=K) (P:=P) (w:=w)) (jn 2) (jn 1))
  (jss_cons (js_set (i:=5) sc.nd rfl (Or.inr rfl) (j_def D__law_corners (hr.mono (by decide)) rfl (ja_cons (jn 0) (ja_cons (jn 2) ja_nil))))
  (jss_cons (js_comp (i:=6) (N:=["_law_row","_law_corners_here"]) (cap:=[none,some 5]) rfl (CompScope.of rfl (by rfl)) (ji_any (K:=K) (jn 0)) (fun _ _ _ _=>(jg_name (i:=0) (show List.Nodup [("_law_row":Str),("_law_corners_here":Str)] by decide +kernel) rfl (Or.inl rfl))) (fun _ _ _ _=>(jts_one (jt_cmp (o_inG hu (K:=K) (P:=P) (w:=w)) (j_ix (o_ix hu (K:=K) (w:=w)) (jn 0) j_int) (jn 1)))) (fun _ _ _ _=>(j_ix (o_ix hu (K:=K) (w:=w)) (j_ix (o_ix hu (K:=K) (w:=w)) (jn 0) j_int) j_int)) sc.nd rfl rfl)
  (jss_one (js_gput (K:=K) (P:=P) (w:=w) hu (jn 1) (jn 2) (j_callB (c_sortY rfl (P:=P) (w:=w)) rfl T.n_sorted boot_sorted (ja_cons (j_callTy (c_setY rfl (K:=K) (P:=P) (w:=w)) rfl T.n_set boot_set (ja_cons (j_comp (N:=["_law_kind"]) (cap:=[none]) rfl (CompScope.of rfl (by rfl)) (ji_any (K:=K) (jn 6)) (fun _ _ _ _=>(jg_name (i:=0) (show List.Nodup [("_law_kind":Str)] by decide +kernel) rfl (Or.inl rfl))) (fun _ _ _ _=>(jts_one (jt_val (j_callB (c_isiD (K:=K)) rfl T.n_isinstance boot_isinstance (ja_cons (jn 0) (ja_cons (j_bltn (v:=.ty "str") rfl T.n_str boot_str rfl) ja_nil)))))) (fun _ _ _ _=>(jn 0))) ja_nil)) ja_nil))))))
  jss_nil)))
  (jss_one (js_ret (jn 1))))),?_⟩
  intro d hd0 hds
  refine .inl ⟨⟨_,(same_new hd0).seq hS⟩,?_⟩
  refine for_list (xs:=xs) (fun i σ H'=>∃ (es:List Ent) (ns:Th→List Str) (ep:Nat) (v2 v3 v4 v5 v6:Option V),TD P w K H H' d es ns ep∧es.map (·.1) = symsF (rows.take i)∧(∀ e ∈ es,KsP rows e.1 (ns e.1))∧σ = [some (.ref a),some (.ref d),v2,v3,v4,v5,v6])
   ⟨[],fun _=>[],0,none,none,none,none,none,⟨GAt.new hds,(fun e he=>nomatch he),.nil,(fun e he=>nomatch he),hd0,same_new hd0⟩,rfl,(fun e he=>nomatch he),rfl⟩ (fun i σ H' _ h=>by obtain ⟨_,_,_,_,_,_,_,_,td,_⟩:=h; exact td.s.seq hS) ?_ ?_
  ·rintro i x σ H2 hx ⟨es,ns,ep,v2,v3,v4,v5,v6,td,hes,hns,rfl⟩
   obtain ⟨r,t',ts,tp,zs,hri,rfl,hT,hts,htp,hzs⟩:=row i x hx
   have mr:r ∈ rows:=List.mem_of_getElem? hri
   have hil:i < rows.length:=(List.getElem?_eq_some_iff.mp hri).1
   have et:rows.take (i + 1) = rows.take i ++ [r]:=by rw [List.take_add_one,hri]; rfl
   refine ⟨t',_,rfl,td.s.seqT hT,rfl,_,_,rfl,_,_,rfl,_,_,rfl,rfl,?_⟩
   have hkey:=gk_key (td.s.seqT hts)
   refine .inl ⟨d,ents es,ep,gk r.sym,rfl,td.g,hkey,?_⟩
   show if (true ^^ (gVal (ents es) (gk r.sym)).isSome) = true then _ else _
   refine ite2 (fun h=>?_) (fun h=>?_)
   ·have hnot:r.sym ∉ es.map (·.1):=fun z=>by rw [ents_val.mpr z] at h; exact absurd h (by decide)
    refine ⟨a,ts,xs,rows,r.sym,rfl,td.s.seq hS,hD.same td.s,by omega,hps,hlw,td.s.seqT hts,mem_symsF.mpr ⟨r,mr,rfl⟩,hsy,fun H3 pc yc F s3 hpc hdc hFl hFK=>?_⟩
    have td3:=td.grow s3
    have sH3:=td.s.trans s3
    refine .inl ⟨⟨_,sH3.seq hS⟩,?_⟩
    refine gath_list (xs:=xs) (fun j us σ' H'=>H' = H3∧(∃ ws:List Sy,DatVs K H3 us (ws.map syD)∧(∀ x,x ∈ ws ↔ ∃ k r,k < j∧rows[k]? = some r∧r.sym ∈ F∧r.ps[0]? = some x)∧ws.length ≤ j)∧∃ v,σ' = [v,some (.ref pc)]) (by omega) ⟨rfl,⟨[],.nil,(fun x=>⟨fun z=>(nomatch z),fun ⟨k,r,hk,_⟩=>absurd hk (Nat.not_lt_zero _)⟩),Nat.le_refl _⟩,none,rfl⟩
     (fun j us σ' H' h=>by obtain ⟨_,⟨ws,h1,_,h2⟩,_⟩:=h; have:=h1.length; rw [List.length_map] at this; omega) (fun j us σ' H' h=>by rw [h.1]; exact sH3.seq hS) ?_ ?_
    ·rintro j y us σ' H' hy ⟨rfl,⟨ws,hw1,hw2,hw3⟩,v,rfl⟩
     obtain ⟨rj,tj,tsj,tpj,zj,hrj,rfl,hTj,htsj,htpj,hzj⟩:=row j y hy
     have mrj:rj ∈ rows:=List.mem_of_getElem? hrj
     have hzl:zj.length = rj.ps.length:=by have:=hzj.length; rw [List.length_map] at this; exact this
     have hp1:=hps rj mrj
     refine .inr ⟨_,.ref tsj,sH3.seqT hTj,atI_nat (j:=0) rfl,.inr (.inr (.inl ⟨yc,F.map thP,thP rj.sym,SqL.of hpc,by rw [← fD_eq]; exact hdc,.tuple (sH3.seqT htsj) (.cons (.str _) (.cons (.int _) .nil)),th_pairs hFl (hlw rj mrj).l1,?_⟩))⟩
     rw [dec_thP]
     show if (false ^^ decide (rj.sym ∈ F)) = true then _ else _
     rw [Bool.false_xor]
     refine ite2 (fun h=>?_) (fun h=>?_)
     ·have hz0:zj[0]? = some (zj[0]'(by omega)):=List.getElem?_eq_getElem (by omega)
      generalize zj[0]'(by omega) = z0 at hz0
      obtain ⟨dd,hdd,hzd⟩:=hzj.get hz0
      rw [List.getElem?_map] at hdd
      cases es0:rj.ps[0]? with
      | none=>rw [es0] at hdd; cases hdd
      | some sy =>
       rw [es0] at hdd
       have ed:dd = syD sy:=(Option.some.inj hdd).symm
       subst ed
       refine .inr ⟨_,.ref tpj,sH3.seqT hTj,atI_nat (j:=1) rfl,.inr ⟨_,z0,sH3.seqT htpj,atI_nat hz0,rfl,⟨ws ++ [sy],?_,fun x=>?_,by rw [List.length_append,List.length_singleton]; omega⟩,_,rfl⟩⟩
       ·rw [List.map_append]
        exact DatVs.snoc (hzd.same sH3) hw1
       ·rw [List.mem_append,List.mem_singleton,hw2]
        constructor
        ·rintro (⟨k,r',h1,h2⟩ | e)
         ·exact ⟨k,r',by omega,h2⟩
         ·rw [e]; exact ⟨j,rj,by omega,hrj,of_decide_eq_true h,es0⟩
        ·rintro ⟨k,r',h1,h2,h3,h4⟩
         by_cases hkj:k = j
         ·rw [hkj,hrj] at h2
          have er:=Option.some.inj h2
          subst er
          rw [es0] at h4
          exact .inr (Option.some.inj h4).symm
         ·exact .inl ⟨k,r',by omega,h2,h3,h4⟩
     ·refine ⟨rfl,⟨ws,hw1,fun x=>?_,by omega⟩,_,rfl⟩
      rw [hw2]
      constructor
      ·rintro ⟨k,r',h1,h2⟩
       exact ⟨k,r',by omega,h2⟩
      ·rintro ⟨k,r',h1,h2,h3,h4⟩
       by_cases hkj:k = j
       ·rw [hkj,hrj] at h2
        have er:=Option.some.inj h2
        subst er
        exact absurd (decide_eq_true h3) h
       ·exact ⟨k,r',by omega,h2,h3,h4⟩
    ·rintro us σ' H' ⟨rfl,⟨ws,hw1,hw2,hw3⟩,v,rfl⟩ D6 hD6
     have s6:Same H' (upd H' D6 (.lst us)):=same_new hD6
     have h6:upd H' D6 (.lst us) D6 = some (.lst us):=upd_same
     have hw1:=hw1.same s6
     have td6:=td3.grow s6
     generalize upd H' D6 (.lst us) = H6 at s6 h6 hw1 td6 ⊢
     have hul:us.length = ws.length:=by have:=hw1.length; rw [List.length_map] at this; exact this
     refine .inl ⟨⟨_,SqL.of h6⟩,?_⟩
     refine gath_list (xs:=us) (fun j us' σ' H'=>H' = H6∧(∃ ms:List (List Nat),us' = ms.map (fun l=>V.str (S l))∧(∀ l,l ∈ ms ↔ ∃ k,k < j∧ws[k]? = some (l,none))∧ms.length ≤ j)∧∃ v,σ' = [v]) (by omega) ⟨rfl,⟨[],rfl,(fun x=>⟨fun z=>(nomatch z),fun ⟨k,hk,_⟩=>absurd hk (Nat.not_lt_zero _)⟩),Nat.le_refl _⟩,none,rfl⟩
      (fun j us σ' H' h=>by obtain ⟨_,⟨ms,h1,_,h2⟩,_⟩:=h; rw [h1,List.length_map]; exact h2) (fun j us σ' H' h=>by rw [h.1]; exact SqL.of h6) ?_ ?_
     ·rintro j y us' σ' H' hy ⟨rfl,⟨ms,rfl,hm2,hm3⟩,v,rfl⟩
      obtain ⟨dd,hdd,hyd⟩:=hw1.get hy
      rw [List.getElem?_map] at hdd
      cases ej:ws[j]? with
      | none=>rw [ej] at hdd; cases hdd
      | some sy =>
       rw [ej] at hdd
       have ed:dd = syD sy:=(Option.some.inj hdd).symm
       subst ed
       rcases sy_dat hyd with ⟨e1,rfl⟩ | ⟨m,pz,e1,rfl,hpz⟩
       ·refine ⟨"str",true,.str _,rfl,?_⟩
        refine ⟨rfl,⟨ms ++ [sy.1],by rw [List.map_append]; rfl,fun l=>?_,by rw [List.length_append,List.length_singleton]; omega⟩,_,rfl⟩
        rw [List.mem_append,List.mem_singleton,hm2]
        constructor
        ·rintro (⟨k,h1,h2⟩ | e)
         ·exact ⟨k,by omega,h2⟩
         ·rw [e]; exact ⟨j,by omega,by rw [ej,← e1]⟩
        ·rintro ⟨k,h1,h2⟩
         by_cases hkj:k = j
         ·rw [hkj,ej] at h2
          exact .inr (by rw [Option.some.inj h2])
         ·exact .inl ⟨k,by omega,h2⟩
       ·refine ⟨"tuple",false,.tuple hpz,rfl,?_⟩
        refine ⟨rfl,⟨ms,rfl,fun l=>?_,by omega⟩,_,rfl⟩
        rw [hm2]
        constructor
        ·rintro ⟨k,h1,h2⟩
         exact ⟨k,by omega,h2⟩
        ·rintro ⟨k,h1,h2⟩
         by_cases hkj:k = j
         ·rw [hkj,ej] at h2
          rw [Option.some.inj h2] at e1
          cases e1
         ·exact ⟨k,by omega,h2⟩
     ·rintro us' σ' H' ⟨rfl,⟨ms,rfl,hm2,hm3⟩,v,rfl⟩ D7 hD7
      have s7:Same H' (upd H' D7 (.lst (ms.map fun l=>V.str (S l)))):=same_new hD7
      have h7:upd H' D7 (.lst (ms.map fun l=>V.str (S l))) D7 = some (.lst (ms.map fun l=>V.str (S l))):=upd_same
      have td7:=td6.grow s7
      generalize upd H' D7 (.lst (ms.map fun l=>V.str (S l))) = H7 at s7 h7 td7 ⊢
      have hms:∀ l,l ∈ ms ↔ FK rows r.sym l:=fun l=>by
       rw [hm2,hFK]
       constructor
       ·rintro ⟨k,_,hk⟩
        obtain ⟨k',r',h1,h2,h3,h4⟩:=(hw2 _).mp (List.mem_of_getElem? hk)
        exact ⟨r',List.mem_of_getElem? h2,h3,h4⟩
       ·rintro ⟨r',h1,h2,h3⟩
        obtain ⟨k',hk',ek'⟩:=List.mem_iff_getElem.mp h1
        have hmw:=(hw2 (l,none)).mpr ⟨k',r',by omega,by rw [List.getElem?_eq_getElem hk',ek'],h2,h3⟩
        obtain ⟨k,hk,ek⟩:=List.mem_iff_getElem.mp hmw
        exact ⟨k,by omega,by rw [List.getElem?_eq_getElem hk,ek]⟩
      have eds:distS (ms.map S) = (addAll [] ms).map S:=dist_S ms []
      have ndk:(addAll [] ms).Nodup:=addAll_nd .nil
      have mk:∀ l,l ∈ addAll [] ms ↔ FK rows r.sym l:=fun l=>by rw [addAll_mem,← hms]; simp
      have hkl:(addAll [] ms).length < 64:=Nat.lt_of_le_of_lt (nd_le ndk fun l hl=>hU r.sym l ((mk l).mp hl)) hU64
      refine ⟨ms.map S,by rw [List.map_map]; exact SqL.of h7,by rw [List.length_map]; omega,fun p8 o8 hp8 hy8=>?_⟩
      have s8:Same H7 (upd H7 p8 (.frz o8 anyHO)):=same_new hp8
      have td8:=td7.grow s8
      have k8:Kn (upd H7 p8 (.frz o8 anyHO)) p8 o8:=upd_same
      generalize upd H7 p8 (.frz o8 anyHO) = H8 at s8 td8 k8 ⊢
      refine ⟨o8,distS (ms.map S),k8,hy8,by rw [eds,List.length_map]; exact hkl,fun c n hc0 hpm hsr=>?_⟩
      rw [eds] at hpm
      have s9:Same H8 (upd H8 c (.lst (n.map V.str))):=same_new hc0
      have td9:=td8.grow s9
      have h9:upd H8 c (.lst (n.map V.str)) c = some (.lst (n.map V.str)):=upd_same
      have hcd:c ≠ d:=fun z=>by rw [z,td8.g.1] at hc0; cases hc0
      have hce:∀ e ∈ es,e.2.2 ≠ c:=fun e he z=>by have:=td8.v e he; rw [z,hc0] at this; cases this
      have hH0:H c = none:=same_none td8.s hc0
      generalize upd H8 c (.lst (n.map V.str)) = H9 at s9 td9 h9 ⊢
      have hts9:SqT K H9 ts (pV (thP r.sym)):=td9.s.seqT hts
      have hel:es.length ≤ i:=by have:=symsF_len rows i; rw [← hes,List.length_map] at this; exact this
      refine ⟨ents es,ep,gk r.sym,td9.g,gk_key hts9,fun ep2 _=>?_⟩
      rw [ents_put]
      refine ⟨putE es r.sym ts c,_,ep2,_,_,_,_,_,td9.put hts9 h9 hH0 hcd hce (by omega) ep2,?_,fun e' he'=>?_,rfl⟩
      ·rw [putE_keys,hes,et,symsF_snoc]; rfl
      ·rcases putE_mem he' with ⟨z1,_⟩ | ⟨z,z1⟩
       ·rw [if_pos z1,z1]
        exact ⟨hsr,_,ndk,hpm,mk⟩
       ·rw [if_neg z1]; exact hns e' z
   ·have hin : r.sym ∈ es.map (·.1) := by
     by_cases z:r.sym ∈ es.map (·.1)
     ·exact z
     ·cases e:(gVal (ents es) (gk r.sym)).isSome with
      | true=>exact ents_val.mp e
      | false=>rw [e] at h; exact absurd rfl h
    refine ⟨es,ns,ep,_,_,_,_,_,td,?_,hns,rfl⟩
    rw [et,symsF_snoc,← hes]
    unfold addT
    rw [if_pos hin]
  ·rintro σ H2 ⟨es,ns,ep,v2,v3,v4,v5,v6,td,hes,hns,rfl⟩
   rw [hxl,List.take_length] at hes
   exact q H2 d es ns ep td hes hns
end
end K30
--@RAISES but law
namespace K30
open PySem PySem.Spec PyProof.Rows L2 Rg
section
variable {P:Program} {w:World} {K:PySem.W.Frag} {mg:Str→Option Value} {base:Heap} {C tS tN tT:Addr}
def leS (a b:Str):Prop:=a.cps.toList ≤ b.cps.toList
theorem rise_pw:∀ (p:Str) (l:List Str),risingS p l = true→(p :: l).Pairwise leS
 | p,[],_=>by simp
 | p,x :: r,h=>by
  unfold risingS at h
  rw [Bool.and_eq_true] at h
  have ih:=rise_pw x r h.2
  have h1:leS p x:=by
   have:=h.1
   rw [ltCps_eq,Bool.not_eq_true',decide_eq_false_iff_not] at this
   exact this
  rw [List.pairwise_cons]
  refine ⟨fun y hy=>?_,ih⟩
  rcases List.mem_cons.mp hy with e | e
  ·rw [e]; exact h1
  ·exact List.le_trans h1 ((List.pairwise_cons.mp ih).1 y e)
theorem sorted_pw:∀ {l:List Str},sortedS l = true→l.Pairwise leS
 | [],_=>.nil
 | x :: r,h=>rise_pw x r h
theorem str_ext {a b:Str} (h:a.cps.toList = b.cps.toList):a = b:=by
 obtain ⟨a⟩:=a
 obtain ⟨b⟩:=b
 have:a = b:=Array.toList_inj.mp h
 rw [this]
theorem ks_eq {rows:List PR} {t:Th} {a b:List Str} (h1:KsP rows t a) (h2:KsP rows t b):a = b:=by
 obtain ⟨sa,ka,na,pa,ma⟩:=h1
 obtain ⟨sb,kb,nb,pb,mb⟩:=h2
 have pk:ka.Perm kb:=(List.perm_ext_iff_of_nodup na nb).mpr fun l=>(ma l).trans (mb l).symm
 exact List.Perm.eq_of_pairwise (fun x y _ _ h1 h2=>str_ext (List.le_antisymm h1 h2)) (sorted_pw sa) (sorted_pw sb) ((pa.trans (pk.map S)).trans pb.symm)
def spAl (P:Program) (w:World) (K:PySem.W.Frag):Sp:=fun vs H Q _=>∃ (Ha Hb:Hp) (d e:Addr) (es fs:List Ent) (ns ms:Th→List Str) (ep eq:Nat),vs = [.ref d,.ref e]∧TD P w K Ha H d es ns ep∧TD P w K Hb H e fs ms eq∧es.map (·.1) = fs.map (·.1)∧(∀ x ∈ fs,ns x.1 = ms x.1)∧(∀ x ∈ fs,∀ y ∈ ms x.1,PyData.strOk y = true)∧Q (.bl true) H
theorem str_lay:∀ {ns:List Str},(∀ y ∈ ns,PyData.strOk y = true)→PyData.canLayAll0 (ns.map PyData.str) = true
 | [],_=>by simp only [List.map_nil,PyData.canLayAll0]
 | x :: r,h=>by
  rw [List.map_cons]
  simp only [PyData.canLayAll0,PyData.canLay0,h x List.mem_cons_self,str_lay fun y hy=>h y (List.mem_cons_of_mem _ hy),Bool.and_self]
theorem str_dat {H:Hp}:∀ ns:List Str,DatVs K H (ns.map V.str) (ns.map PyData.str)
 | []=>.nil
 | x :: r=>.cons (.str x) (str_dat r)
theorem str_deep:∀ ns:List Str,PyData.depthAll (ns.map PyData.str) ≤ 2
 | []=>by simp only [List.map_nil,PyData.depthAll]; omega
 | x :: r=>by
  have h2:=str_deep r
  rw [List.map_cons]
  simp only [PyData.depthAll,PyData.depth]
  omega
abbrev st__law_alike:Stmt:=top 40
theorem sc__law_alike:FnScope ["_law_found","_law_due_here","_law_symbol","_law_kinds"] ["_law_found","_law_due_here"] (defScope st__law_alike):=⟨rfl,rfl,rfl,by decide +kernel,rfl,by decide +kernel,by decide +kernel⟩
theorem def_al (R:Raw K mg "_law_alike" st__law_alike ["_law_found","_law_due_here"]) (T:Txt K w mg tT):Def P w K mg base 1 "_law_alike" ["_law_found","_law_due_here"] (spAl P w K):=by
 refine R.defJ sc__law_alike (fun vs H Q E h=>?_) (fun f cdv A outer s H vs Q E hr h=>?_)
 ·obtain ⟨Ha,Hb,d,e,es,fs,ns,ms,ep,eq,rfl,_⟩:=h
  rfl
 ·obtain ⟨Ha,Hb,d,e,es,fs,ns,ms,ep,eq,rfl,td,te,hke,hnm,hok,q⟩:=h
  have sc:=sc__law_alike
  have hu:=hr.units
  have hbg:(1000000:Nat) < sizeLine:=by rw [sizeLine_eq]; decide
  have hlen:es.length = fs.length:=by have:=congrArg List.length hke; rw [List.length_map,List.length_map] at this; exact this
  refine ⟨_,(jss_cons (js_if (jw_t (jw_or (jt_not (jt_val (j_callB (c_isiG (K:=K) (P:=P) (w:=w)) rfl T.n_isinstance boot_isinstance (ja_cons (jn 0) (ja_cons (j_bltn (v:=.ty "dict") rfl T.n_dict boot_dict rfl) ja_nil))))) (jw_or1 (jt_cmp (o_ne hu (K:=K)) (j_callB (c_lenG (K:=K) (P:=P) (w:=w)) rfl T.n_len PySem.boot_len (ja_cons (jn 0) ja_nil)) (j_callB (c_lenG (K:=K) (P:=P) (w:=w)) rfl T.n_len PySem.boot_len (ja_cons (jn 1) ja_nil))))))
  (jss_one (js_ret j_bl))
  jss_nil)
  (jss_cons (js_for PassesOwn.never rfl (ji_keys (K:=K) (P:=P) (w:=w) (jn 1)) (jg_name (i:=2) sc.nd rfl (Or.inl rfl))
  (jss_cons (js_set (i:=3) sc.nd rfl (Or.inl rfl) (j_gget (K:=K) (P:=P) (w:=w) hu (jn 0) (jn 2)))
  (jss_one (js_if (jw_t (jw_or (jt_not (jt_val (j_callB (c_isiD (K:=K)) rfl T.n_isinstance boot_isinstance (ja_cons (jn 3) (ja_cons (j_bltn (v:=.ty "list") rfl T.n_list boot_list rfl) ja_nil))))) (jw_or1 (jt_cmp (o_ne hu (K:=K)) (jn 3) (j_ix (o_ixG hu (K:=K) (P:=P) (w:=w)) (jn 1) (jn 2))))))
  (jss_one (js_ret j_bl))
  jss_nil))))
  (jss_one (js_ret j_bl)))),?_⟩
  refine .inl ⟨d,ents es,ep,"dict",true,rfl,td.g,rfl,?_⟩
  refine .inl ⟨d,ents es,ep,rfl,td.g,.inl ⟨e,ents fs,eq,rfl,te.g,?_⟩⟩
  show if (true ^^ decide (((ents es).length:Int) = ((ents fs).length:Int))) = true then _ else _
  rw [show (ents es).length = (ents fs).length by unfold ents; rw [List.length_map,List.length_map,hlen],decide_eq_true rfl]
  have eks:(ents fs).map (·.2.1) = fs.map fun e=>V.ref e.2.1:=by unfold ents; rw [List.map_map]; rfl
  refine ⟨ents fs,eq,te.g,?_⟩
  rw [eks]
  refine for_keys (fun i σ H'=>∃ (v2 v3:Option V),H' = H∧σ = [some (.ref d),some (.ref e),v2,v3]) ⟨none,none,rfl,rfl⟩ (fun i σ H' _ h=>by obtain ⟨_,_,rfl,_⟩:=h; exact ⟨ents fs,te.g,eks⟩) ?_ ?_
  ·rintro i x σ H2 hx ⟨v2,v3,rfl,rfl⟩
   rw [List.getElem?_map] at hx
   cases ei:fs[i]? with
   | none=>rw [ei] at hx; cases hx
   | some g =>
    rw [ei] at hx
    have ex:x = V.ref g.2.1:=(Option.some.inj hx).symm
    subst ex
    have mg1:=List.mem_of_getElem? ei
    have hkey:KeyV K H2 (gk g.1) (.ref g.2.1):=te.g.2.2.2.2 (gk g.1,.ref g.2.1,.ref g.2.2) (List.mem_map.mpr ⟨g,mg1,rfl⟩)
    obtain ⟨g1,mg2,eg1,hv1⟩:=ents_at (es:=es) (t:=g.1) (by rw [hke]; exact List.mem_map.mpr ⟨g,mg1,rfl⟩)
    obtain ⟨g2,mg3,eg2,hv2⟩:=ents_at (es:=fs) (t:=g.1) (List.mem_map.mpr ⟨g,mg1,rfl⟩)
    have l1:=td.v g1 mg2
    have l2:=te.v g2 mg3
    rw [eg1,hnm g mg1] at l1
    rw [eg2] at l2
    refine ⟨⟨ents es,ep,td.g⟩,ents es,ep,gk g.1,td.g,hkey,?_⟩
    rw [hv1]
    refine ⟨"list",true,.list (SqL.of l1),rfl,?_⟩
    refine .inl ⟨e,ents fs,eq,gk g.1,.ref g2.2.2,rfl,te.g,hkey,hv2,?_⟩
    have lay:(PyData.list ((ms g.1).map PyData.str)).canLay0 = true:=by simp only [PyData.canLay0]; exact str_lay (hok g mg1)
    have deep:(PyData.list ((ms g.1).map PyData.str)).depth ≤ 60:=by have:=str_deep (ms g.1); simp only [PyData.depth]; omega
    refine ⟨_,_,.list (SqL.of l1) (str_dat _),.list (SqL.of l2) (str_dat _),lay,lay,by omega,?_⟩
    rw [SeqAt.eqv_refl _ lay]
    exact ⟨_,_,rfl,rfl⟩
  ·rintro σ H2 ⟨v2,v3,rfl,rfl⟩
   exact q
end
end K30
--@RAISES but law
namespace K30
open PySem PySem.Spec PyProof.Rows L2 Rg
theorem DefX.toDef {P:Program} {w:World} {K:PySem.W.Frag} {mg:Str→Option Value} {base:Heap} {k:Nat} {x:Str} {ps:List Str} {sp:Sp} (D:DefX P w K mg base k x ps sp):Def P w K mg base k x ps (fun vs H Q _=>sp vs H Q E0):=by
 obtain ⟨f,fd,h1,h2,h3,h4,F⟩:=D.ex
 refine ⟨f,fd,h1,h2,h3,h4,⟨fun vs H Q E h=>F.len vs H Q E0 h,fun A outer s H args us vs Q E hr e0 hb hv h=>?_⟩⟩
 refine codeAny_mono (F.run A outer s H args us vs Q E0 hr e0 hb hv h) fun r s' hq=>?_
 cases r with
 | error e=>obtain ⟨_,_,_,_,_,_,_,_,_,_,_,_,hE⟩:=hq; exact hE.elim
 | ok fl=>cases fl <;> exact hq
section
variable {P:Program} {w:World} {K:PySem.W.Frag} {mg:Str→Option Value} {base:Heap} {CF CB CI CN tS tN tT:Addr}
theorem prl_deepD (p:Str × Int):(pD p).depth ≤ 4:=by
 unfold pD
 simp only [PyData.depth,PyData.depthAll]
 omega
theorem sy_deep (s:Sy):(syD s).depth ≤ 4:=by
 obtain ⟨l,o⟩:=s
 cases o with
 | none=>show (PyData.str (S l)).depth ≤ 4; simp only [PyData.depth]; omega
 | some r=>exact prl_deepD (S l,r)
theorem sys_deep:∀ l:List Sy,PyData.depthAll (l.map syD) ≤ 5
 | []=>by simp only [List.map_nil,PyData.depthAll]; omega
 | q :: r=>by
  have h1:=sy_deep q
  have h2:=sys_deep r
  rw [List.map_cons]
  simp only [PyData.depthAll]
  omega
theorem pr_deep (r:PR):r.dat.depth ≤ 8:=by
 unfold PR.dat
 have h1:=prl_deepD (thP r.sym)
 have h2:=sys_deep r.ps
 simp only [PyData.depth,PyData.depthAll]
 omega
theorem prs_deep:∀ rs:List PR,PyData.depthAll (rs.map PR.dat) ≤ 9
 | []=>by simp only [List.map_nil,PyData.depthAll]; omega
 | q :: r=>by
  have h1:=pr_deep q
  have h2:=prs_deep r
  rw [List.map_cons]
  simp only [PyData.depthAll]
  omega
theorem sorts_add:∀ (rs:List Rl) (acc:List (List Nat)),rs.foldl (fun acc q=>addS acc q.sort) acc = addAll acc (rs.map Rl.sort)
 | [],_=>rfl
 | q :: r,acc=>sorts_add r (addS acc q.sort)
theorem GR.sorts3 {c0:Int} {rs:List Rl} (G:GR c0 rs):(sortsF rs).length ≤ 3:=by
 have nd:(sortsF rs).Nodup:=by unfold sortsF; rw [sorts_add]; exact addAll_nd .nil
 refine nd_le (U:=[nameL c0 0,nameL c0 1,nameL c0 2]) nd fun x hx=>?_
 obtain ⟨q,hq,e⟩:=mem_sortsF.mp hx
 obtain ⟨k,hk,ek⟩:=(G.nm q hq).so
 rw [← e,ek]
 have:k = 0∨k = 1∨k = 2:=by omega
 rcases this with rfl | rfl | rfl <;> simp
theorem GR.rows {c0:Int} {rs:List Rl} (G:GR c0 rs):(plainF rs).length ≤ 4000:=by
 have h1:=flat_len (rs:=rs) (by have:=G.n23; omega) (sortsF rs)
 have h2:=G.sorts3
 unfold plainF
 rw [List.length_cons]
 omega
theorem GR.ps {c0:Int} {rs:List Rl} (G:GR c0 rs):∀ r ∈ plainF rs,1 ≤ r.ps.length:=fun r hr=>by
 rcases List.mem_cons.mp hr with e | hr
 ·rw [e]; exact Nat.le_refl 1
 ·obtain ⟨s,hs,h2⟩:=List.mem_flatMap.mp hr
  rcases mem_blk h2 with ⟨n,q,hq,_,e⟩ | ⟨a,b,ha,_,e⟩
  ·rw [e]
   show 1 ≤ (symsP rs q).length
   rw [symsP_len]
   exact (G.nm q (List.mem_of_getElem? hq)).p1
  ·rw [e]; exact Nat.le_refl 1
theorem GR.words {c0:Int} {rs:List Rl} (G:GR c0 rs) {t:Th} {l:List Nat} (h:FK (plainF rs) t l):l ∈ (List.range 9).map (nameL c0):=by
 induction h with
 | @word r l hr hp =>
  have hx:=List.mem_of_getElem? hp
  rcases List.mem_cons.mp hr with e | hr
  ·rw [e] at hx; rcases List.mem_cons.mp hx with z | z
   ·cases z
   ·cases z
  ·obtain ⟨s,hs,h2⟩:=List.mem_flatMap.mp hr
   rcases mem_blk h2 with ⟨n,q,hq,_,e⟩ | ⟨a,b,ha,_,e⟩
   ·rw [e] at hx
    have hx:(l,none) ∈ symsP rs q:=hx
    obtain ⟨j,hj,ej⟩:=List.mem_map.mp hx
    have hj:=List.mem_range.mp hj
    have el:q.ps.getD j [] = l:=congrArg Prod.fst ej
    obtain ⟨k,hk,ek⟩:=(G.nm q (List.mem_of_getElem? hq)).ps (q.ps.getD j []) (by rw [List.getD,List.getElem?_eq_getElem hj]; exact List.getElem_mem _)
    rw [← el,ek]
    exact List.mem_map.mpr ⟨k,List.mem_range.mpr hk,rfl⟩
   ·rw [e] at hx; rcases List.mem_cons.mp hx with z | z
    ·cases z
    ·cases z
 | step _ _ _ ih=>exact ih
theorem TD.clr {H0 H : Hp} {d : Addr} {es : List Ent} {ns : Th → List Str} {ep : Nat} (h : TD P w K H0 H d es ns ep) {e : Ent} (he : e ∈ es) :
  TD P w K H0 (upd H e.2.2 (.lst [])) d es (fun u=>if u = e.1 then [] else ns u) ep:=by
 have hd:=h.v e he
 refine ⟨h.g.keeps (keepsT_lst hd) (upd_ne (Ne.symm (h.dd e he).1)),fun e' he'=>?_,h.nd,h.dd,h.d0,fun x u z=>?_⟩
 ·by_cases y:e'.1 = e.1
  ·have:=nd_at h.keys he' he y
   subst this
   rw [upd_same,if_pos rfl]
   rfl
  ·rw [upd_ne fun z=>y (by rw [nd_adr h.nd he' he z]),if_neg y]
   exact h.v e' he'
 ·rw [upd_ne fun y=>by rw [y,(h.dd e he).2] at z; cases z]; exact h.s x u z
def spLaw (K:PySem.W.Frag):Sp:=fun vs H Q _=>∃ (a:Addr) (ns:List Int),vs = [.ref a]∧SqL K H a (ns.map V.int)∧ns.length ≤ 63∧∀ H',Q (.bl true) H'
abbrev st_law:Stmt:=top 41
theorem sc_law:FnScope ["_law_script","_law_plain","_law_kept","_law_due_here","_law_found","_law_symbol"] ["_law_script"] (defScope st_law):=⟨rfl,rfl,rfl,by decide +kernel,rfl,by decide +kernel,by decide +kernel⟩
theorem def_law (R:Raw K mg "law" st_law ["_law_script"]) (T:Txt K w mg tT) (D__law_rules:Def P w K mg base 3 "_law_rules" ["_law_script"] (spRs K)) (D_plain_rules:Def P w K mg base 4 "plain_rules" ["rules"] (fun vs H Q _=>spPl K CF CB CI vs H Q E0)) (D__law_due:Def P w K mg base 2 "_law_due" ["_law_plain"] (spDu P w K)) (D_first_kinds:Def P w K mg base 2 "first_kinds" ["plain"] (spFk P w K)) (D__law_alike:Def P w K mg base 1 "_law_alike" ["_law_found","_law_due_here"] (spAl P w K)):Def P w K mg base 5 "law" ["_law_script"] (spLaw K):=by
 refine R.defJ sc_law (fun vs H Q E h=>?_) (fun f cdv A outer s H vs Q E hr h=>?_)
 ·obtain ⟨a,ns,rfl,_⟩:=h
  rfl
 ·obtain ⟨a,ns,rfl,hS,hl,qq⟩:=h
  have sc:=sc_law
  have hu:=hr.units
  have hbg:(1000000:Nat) < sizeLine:=by rw [sizeLine_eq]; decide
  refine ⟨_,(jss_cons (js_set (i:=1) sc.nd rfl (Or.inl rfl) (j_def D_plain_rules (hr.mono (by decide)) rfl (ja_cons (j_def D__law_rules (hr.mono (by decide)) rfl (ja_cons (jn 0) ja_nil)) ja_nil)))
  (jss_cons (js_set (i:=2) sc.nd rfl (Or.inl rfl) (j_callTy (c_list (K:=K)) rfl T.n_list boot_list (ja_cons (jn 1) ja_nil)))
  (jss_cons (js_set (i:=3) sc.nd rfl (Or.inl rfl) (j_def D__law_due (hr.mono (by decide)) rfl (ja_cons (jn 2) ja_nil)))
  (jss_cons (js_set (i:=4) sc.nd rfl (Or.inl rfl) (j_def D_first_kinds (hr.mono (by decide)) rfl (ja_cons (jn 1) ja_nil)))
  (jss_cons (js_if (jw_t (jw_or (jt_not (jt_val (j_def D__law_alike (hr.mono (by decide)) rfl (ja_cons (jn 4) (ja_cons (jn 3) ja_nil))))) (jw_or1 (jt_cmp (o_ne hu (K:=K)) (jn 1) (jn 2)))))
  (jss_one (js_ret j_bl))
  jss_nil)
  (jss_cons (js_for PassesOwn.never rfl (ji_keys (K:=K) (P:=P) (w:=w) (jn 3)) (jg_name (i:=5) sc.nd rfl (Or.inl rfl))
  (jss_one (js_expr (j_bm0 (K:=K) PySem.F.plainAttrs_list PySem.F.slot_list_clear PySem.F.type_list_clear m_clear (j_ix (o_ixG hu (K:=K) (P:=P) (w:=w)) (jn 4) (jn 5))))))
  (jss_cons (js_expr (j_gclear (K:=K) (P:=P) (w:=w) (jn 4)))
  (jss_one (js_ret (j_def D__law_alike (hr.mono (by decide)) rfl (ja_cons (j_def D_first_kinds (hr.mono (by decide)) rfl (ja_cons (jn 1) ja_nil)) (ja_cons (jn 3) ja_nil)))))))))))),?_⟩
  refine ⟨a,ns,rfl,hS,hl,fun H1 b rl rs s1 hb1 hd1 G=>?_⟩
  obtain ⟨c0,ec0⟩:∃ c0,c0 = ns.getD 0 0:=⟨_,rfl⟩
  rw [← ec0] at G
  have hF:∀ q ∈ rs,Fine q:=fun q hq=>(G.nm q hq).fine
  refine ⟨b,rl,rs,rfl,SqL.of hb1,hd1,G.rules,hF,?_,?_,?_,fun _ _ _ H2 p xs s2 hp hd2=>?_⟩
  ·exact fun ⟨q,hq,e⟩=>by rw [G.fine q hq] at e; cases e
  ·exact fun _ ⟨r,hr,e⟩=>absurd (G.derAll r hr) e
  ·exact fun _ _ ⟨q,hq,e⟩=>absurd (G.rch q hq) e
  have hrows:=G.rows
  have hps:=G.ps
  have hlw:=plain_low G.n1 hF
  have hsy:∀ r ∈ plainF rs,∀ s m,r.ps[0]? = some (s,some m)→(s,m) ∈ symsF (plainF rs):=fun r hr s m h=>G.syms r hr (s,some m) (List.mem_of_getElem? h) m rfl
  have hU:∀ t l,FK (plainF rs) t l→l ∈ (List.range 9).map (nameL c0):=fun t l h=>G.words h
  have hU64:((List.range 9).map (nameL c0)).length < 64:=by rw [List.length_map,List.length_range]; decide
  have hlow:∀ l ∈ (List.range 9).map (nameL c0),low l:=fun l hl=>by obtain ⟨k,_,rfl⟩:=List.mem_map.mp hl; exact nameL_low _ _
  generalize (List.range 9).map (nameL c0) = U at hU hU64 hlow
  generalize plainF rs = rows at hd2 hrows hps hlw hsy hU
  have hstr:∀ {t:Th} {n:List Str},KsP rows t n→∀ y ∈ n,PyData.strOk y = true:=fun {t n} h y hy=>by
   obtain ⟨_,ks,_,pm,mk⟩:=h
   obtain ⟨l,hl,rfl⟩:=List.mem_map.mp (pm.mem_iff.mp hy)
   exact strOkL (hlow l (hU t l ((mk l).mp hl)))
  have lay:(PyData.list (rows.map PR.dat)).canLay0 = true:=by simp only [PyData.canLay0]; exact prs_lay hlw
  have deep:(PyData.list (rows.map PR.dat)).depth ≤ 60:=by have:=prs_deep rows; simp only [PyData.depth]; omega
  refine ⟨xs,.inl (SqL.of hp),fun c hc0=>?_⟩
  have s3:Same H2 (upd H2 c (.lst xs)):=same_new hc0
  have hc3:upd H2 c (.lst xs) c = some (.lst xs):=upd_same
  generalize upd H2 c (.lst xs) = H3 at s3 hc3 ⊢
  have hp3:=s3 _ _ hp
  have hd3:=hd2.same s3
  refine ⟨c,xs,rows,U,rfl,SqL.of hc3,hd3,hrows,hps,hlw,hsy,hU,hU64,fun H4 d es ns4 ep td hes hks=>?_⟩
  have s34:=td.s
  refine ⟨p,xs,rows,U,rfl,SqL.of (s34 _ _ hp3),hd3.same s34,by omega,hps,hsy,hU,hU64,fun H5 d5 es5 ns5 ep5 td5 hes5 hks5=>?_⟩
  have keq:es5.map (·.1) = es.map (·.1):=hes5.trans hes.symm
  have hkk:∀ {es':List Ent} {ns':Th→List Str},es'.map (·.1) = symsF rows→(∀ e ∈ es',KsP rows e.1 (ns' e.1))→∀ x ∈ es,ns' x.1 = ns4 x.1:=fun {es' ns'} h1 h2 x hx=>by
   have hm:x.1 ∈ es'.map (·.1):=by rw [h1,← hes]; exact List.mem_map.mpr ⟨x,hx,rfl⟩
   obtain ⟨e',he',ee⟩:=List.mem_map.mp hm
   have:=h2 e' he'
   rw [ee] at this
   exact ks_eq this (hks x hx)
  refine ⟨H4,H3,d5,d,es5,es,ns5,ns4,ep5,ep,rfl,td5,td.grow td5.s,keq,hkk hes5 hks5,fun x hx=>hstr (hks x hx),?_⟩
  have s45:=td5.s
  have s35:=s34.trans s45
  refine ⟨_,_,.list (SqL.of (s35 _ _ hp3)) (hd3.same s35),.list (SqL.of (s35 _ _ hc3)) (hd3.same s35),lay,lay,by omega,?_⟩
  rw [SeqAt.eqv_refl _ lay]
  have eks:(ents es).map (·.2.1) = es.map fun e=>V.ref e.2.1:=by unfold ents; rw [List.map_map]; rfl
  refine ⟨ents es,ep,(td.grow s45).g,?_⟩
  rw [eks]
  refine for_keys (fun i σ H'=>∃ (nX:Th→List Str) (v5:Option V),TD P w K H4 H' d5 es5 nX ep5∧σ = [some (.ref a),some (.ref p),some (.ref c),some (.ref d),some (.ref d5),v5]) ⟨ns5,none,td5,rfl⟩ (fun i σ H' _ h=>by obtain ⟨_,_,tx,_⟩:=h; exact ⟨ents es,(td.grow tx.s).g,eks⟩) ?_ ?_
  ·rintro i x σ H6 hx ⟨nX,v5,tx,rfl⟩
   rw [List.getElem?_map] at hx
   cases ei:es[i]? with
   | none=>rw [ei] at hx; cases hx
   | some g =>
    rw [ei] at hx
    have ex:x = V.ref g.2.1:=(Option.some.inj hx).symm
    subst ex
    have mg1:=List.mem_of_getElem? ei
    have hkey:KeyV K H6 (gk g.1) (.ref g.2.1):=(td.grow tx.s).g.2.2.2.2 (gk g.1,.ref g.2.1,.ref g.2.2) (List.mem_map.mpr ⟨g,mg1,rfl⟩)
    obtain ⟨g1,mg2,eg1,hv1⟩:=ents_at (es:=es5) (t:=g.1) (by rw [keq]; exact List.mem_map.mpr ⟨g,mg1,rfl⟩)
    refine .inl ⟨d5,ents es5,ep5,gk g.1,.ref g1.2.2,rfl,tx.g,hkey,hv1,?_⟩
    exact ⟨.inl ⟨rfl,_,SqL.of (tx.v g1 mg2)⟩,_,tx.v g1 mg2,_,_,tx.clr mg2,rfl⟩
  ·rintro σ H6 ⟨nX,v5,tx,rfl⟩
   refine ⟨ents es5,ep5,tx.g,?_⟩
   have s7:Same H4 (upd H6 d5 (GObj P w d5 [] (ep5 + 1))):=fun x u z=>by
    rw [upd_ne fun y=>by rw [y,tx.d0] at z; cases z]; exact tx.s x u z
   generalize upd H6 d5 (GObj P w d5 [] (ep5 + 1)) = H7 at s7 ⊢
   have s37:=s34.trans s7
   refine ⟨p,xs,rows,U,rfl,SqL.of (s37 _ _ hp3),hd3.same s37,by omega,hps,hsy,hU,hU64,fun H8 d8 es8 ns8 ep8 td8 hes8 hks8=>?_⟩
   exact ⟨H7,H3,d8,d,es8,es,ns8,ns4,ep8,ep,rfl,td8,td.grow (s7.trans td8.s),hes8.trans hes.symm,hkk hes8 hks8,fun x hx=>hstr (hks x hx),qq _⟩
theorem law_of (R0:Raw K mg "check_rules" st_check_rules ["rules"]) (R1:Raw K mg "check_rule" st_check_rule ["sort","rank","side","parts"]) (R2:Raw K mg "ranks_of" st_ranks_of ["rules","sort"]) (R3:Raw K mg "floor_of" st_floor_of ["rules","number","place"]) (R4:Raw K mg "rank_above" st_rank_above ["ranks","rank"]) (R5:Raw K mg "plain_rules" st_plain_rules ["rules"]) (R6:Raw K mg "symbols_of" st_symbols_of ["rules","number"]) (R7:Raw K mg "sorts_of" st_sorts_of ["rules"]) (R8:Raw K mg "plain_of_sort" st_plain_of_sort ["rules","parts","sort"]) (R9:Raw K mg "check_fruitful" st_check_fruitful ["plain"]) (R10:Raw K mg "check_reached" st_check_reached ["rules"]) (R11:Raw K mg "first_kinds" st_first_kinds ["plain"]) (R12:Raw K mg "none_yet" st_none_yet ["plain"]) (R13:Raw K mg "firsts_of" st_firsts_of ["firsts","part"]) (R14:Raw K mg "put_in" st_put_in ["kinds","more"]) (R15:Raw K mg "sorted_lists" st_sorted_lists ["kinds"]) (R16:Raw K mg "_law_cell_at" st__law_cell_at ["_law_script","_law_k"]) (R17:Raw K mg "_law_names" st__law_names ["_law_cell","_law_many"]) (R18:Raw K mg "_law_mixed" st__law_mixed ["_law_cell","_law_k"]) (R19:Raw K mg "_law_rule" st__law_rule ["_law_cell","_law_names_here","_law_few"]) (R20:Raw K mg "_law_rules" st__law_rules ["_law_script"]) (R21:Raw K mg "_law_corners" st__law_corners ["_law_plain","_law_symbol"]) (R22:Raw K mg "_law_due" st__law_due ["_law_plain"]) (R23:Raw K mg "_law_alike" st__law_alike ["_law_found","_law_due_here"]) (R24:Raw K mg "law" st_law ["_law_script"]) (T:Txt K w mg tT) (TR:TxR mg) (TN:TxN K mg tS tN CN) (TF:TxF K mg CF) (TB:TxB K mg CB) (TI:TxI K mg CI):Def P w K mg base 5 "law" ["_law_script"] (spLaw K) :=
 have Dr:Def P w K mg base 1 "ranks_of" ["rules","sort"] (spRanks K):=def_ranks R2 TR
 have Dx:DefX P w K mg base 4 "plain_rules" ["rules"] (spPl K CF CB CI):=def_pl R5 T (def_cks R0 TN (def_ck R1 TN)) (def_sym R6 T (def_floor R3 T Dr (def_above R4 TF))) Dr (def_sorts R7 T) (def_pos R8 T Dr) (def_fr R9 TB) (def_rc R10 TI)
 have Dm:Def P w K mg base 1 "_law_mixed" ["_law_cell","_law_k"] spMix:=def_mix R18
 def_law R24 T (def_rs R20 T (def_cell R16 T) (def_names R17 T) Dm (def_rule R19 T Dm)) (DefX.toDef Dx) (def_du R22 T (def_co R21 T)) (def_fk R11 T (def_ny R12 T) (def_put R14 T) (def_fo R13 T) (def_sl R15 T)) (def_al R23 T)
end
structure Cls (K:PySem.W.Frag) (mg:Str→Option Value) (CF CB CI CN:Addr):Prop where
 c_NoFloor:mg "NoFloor" = some (.ref CF)
 c_Barren:mg "Barren" = some (.ref CB)
 c_Idle:mg "Idle" = some (.ref CI)
 c_NoRule:mg "NoRule" = some (.ref CN)
 x_NoFloor:PySem.W.excIn K CF bmVE "ValueError.__new__" = true
 x_Barren:PySem.W.excIn K CB bmVE "ValueError.__new__" = true
 x_Idle:PySem.W.excIn K CI bmVE "ValueError.__new__" = true
 x_NoRule:PySem.W.excIn K CN bmVE "ValueError.__new__" = true
theorem cls_mk {K : PySem.W.Frag} {mg : Str → Option Value} {h : Heap} {CF CB CI CN : Addr} (X : K.In h) (G : h.Ns mainGlobals mg)
  (aF:PySem.W.nsIn K mainGlobals "NoFloor" = some (some (.ref CF))) (aB:PySem.W.nsIn K mainGlobals "Barren" = some (some (.ref CB))) (aI:PySem.W.nsIn K mainGlobals "Idle" = some (some (.ref CI))) (aN:PySem.W.nsIn K mainGlobals "NoRule" = some (some (.ref CN))) (z1F:PySem.W.excIn K CF bmVE "ValueError.__new__" = true) (z1B:PySem.W.excIn K CB bmVE "ValueError.__new__" = true) (z1I:PySem.W.excIn K CI bmVE "ValueError.__new__" = true) (z1N:PySem.W.excIn K CN bmVE "ValueError.__new__" = true):∃ CF CB CI CN,Cls K mg CF CB CI CN :=
 ⟨CF,CB,CI,CN,⟨PySem.W.mg_of X G aF,PySem.W.mg_of X G aB,PySem.W.mg_of X G aI,PySem.W.mg_of X G aN,z1F,z1B,z1I,z1N⟩⟩
end K30
open PySem PySem.W PyProof.Rows
def PySem.W.Fast.tw16104338967900332979:Nat:=0
def PySem.W.Fast.tw13364007682824528859:Nat:=0
def PySem.W.Fast.tw9240828043990461829:Nat:=0
def PySem.W.Fast.tw8108853965383261153:Nat:=0
def PySem.W.Fast.tw17887888657172619779:Nat:=0
def PySem.W.Fast.tw7272602516529730463:Nat:=0
def PySem.W.Fast.tw14239843941156185227:Nat:=0
def PySem.W.Fast.tw236104242591525443:Nat:=0
def PySem.W.Fast.tw14540457672292130858:Nat:=0
def PySem.W.Fast.tw8104756156984845397:Nat:=0
def PySem.W.Fast.tw8042774114023488541:Nat:=0
def PySem.W.Fast.tw17951083465566856725:Nat:=0
def PySem.W.Fast.tw10715379503216645602:Nat:=0
def PySem.W.Fast.tw2015220409695955454:Nat:=0
def PySem.W.Fast.tw711036192263314713:Nat:=0
def PySem.W.Fast.tw17428413205641888030:Nat:=0
def PySem.W.Fast.tw9238779240661998419:Nat:=0
def PySem.W.Fast.tw4997636473144758314:Nat:=0
def PySem.W.Fast.tw17091021984291756772:Nat:=0
def PySem.W.Fast.tw4045586456890454545:Nat:=0
def PySem.W.Fast.tw15135139201571640078:Nat:=0
def PySem.W.Fast.tw16298938582678180703:Nat:=0
def PySem.W.Fast.tw14775735880009776615:Nat:=0
def PySem.W.Fast.tw12960524858310874768:Nat:=0
def PySem.W.Fast.tw12440063413453282573:Nat:=0
def PySem.W.Fast.tw14263275539397083043:Nat:=0
def PySem.W.Fast.tw17078690851758874670:Nat:=0
def PySem.W.Fast.tw17935072508152961577:Nat:=0
def PySem.W.Fast.tw11250468729667883250:Nat:=0
def PySem.W.Fast.tw12543933133990606527:Nat:=0
def PySem.W.Fast.tw12515317787104161739:Nat:=0
def PySem.W.Fast.tw9104743387702428000:Nat:=0
def PySem.W.Fast.tw8501240021919260741:Nat:=0
def PySem.W.Fast.tw9548473943609416972:Nat:=0
def PySem.W.Fast.tw4127509956443916344:Nat:=0
def PySem.W.Fast.tw3758862701822526421:Nat:=0
def PySem.W.Fast.tw2346062920221290869:Nat:=0
def PySem.W.Fast.tw15345985223908765330:Nat:=0
def PySem.W.Fast.tw5173407465433520448:Nat:=0
def PySem.W.Fast.tw13215930633583346307:Nat:=0
def PySem.W.Fast.tw987182886326080130:Nat:=0
def PySem.W.Fast.tw2573036130702371608:Nat:=0
def PySem.W.Fast.tw10219049624019218452:Nat:=0
def PySem.W.Fast.tw4896534184551276912:Nat:=0
def PySem.W.Fast.tw16820355418642026815:Nat:=0
def PySem.W.Fast.tw15689419941516469558:Nat:=0
def PySem.W.Fast.tw17522205653150867437:Nat:=0
def PySem.W.Fast.tw1829163802334575292:Nat:=0
def PySem.W.Fast.tw15689662887526314010:Nat:=0
def PySem.W.Fast.tw15069428669828262808:Nat:=0
def PySem.W.Fast.tw18170903664440278339:Nat:=0
def PySem.W.Fast.tw2097703620578575656:Nat:=0
def PySem.W.Fast.tw5406162180203420727:Nat:=0
def PySem.W.Fast.tw2442962735076369697:Nat:=0
def PySem.W.Fast.tw9649720496562280035:Nat:=0
def PySem.W.Fast.tw17030390088928596976:Nat:=0
def PySem.W.Fast.tw6287178104836997806:Nat:=0
def PySem.W.Fast.tw14920128245099945699:Nat:=0
def PySem.W.Fast.tw15033683555231129965:Nat:=0
def PySem.W.Fast.tw20509626954690386:Nat:=0
def PySem.W.Fast.tw10222479136945793155:Nat:=0
def PySem.W.Fast.tw6208490769596658698:Nat:=0
def PySem.W.Fast.tw12789919840309964069:Nat:=0
def PySem.W.Fast.tw12742983400170574765:Nat:=0
def PySem.W.Fast.tw8881007132208086767:Nat:=0
def PySem.W.Fast.tw13358389190740101841:Nat:=0
def PySem.W.Fast.tw15851064123721509960:Nat:=0
def PySem.W.Fast.tw10781189081159496188:Nat:=0
def PySem.W.Fast.tw4146035231738541870:Nat:=0
def PySem.W.Fast.tw13167565956580516162:Nat:=0
def PySem.W.Fast.tw13450318980608641031:Nat:=0
def PySem.W.Fast.tw11855902524318766539:Nat:=0
def PySem.W.Fast.tw3861648052990181517:Nat:=0
def PySem.W.Fast.tw6968407613308708879:Nat:=0
def PySem.W.Fast.tw249437105384865914:Nat:=0
def PySem.W.Fast.tw10292971426967193215:Nat:=0
def PySem.W.Fast.tw6544962767033783080:Nat:=0
def PySem.W.Fast.tw17992043756273549372:Nat:=0
def PySem.W.Fast.tw14783007623830147113:Nat:=0
def PySem.W.Fast.tw3257968828842582389:Nat:=0
def PySem.W.Fast.tw6422514128617331326:Nat:=0
def PySem.W.Fast.tw6847126421873645025:Nat:=0
def PySem.W.Fast.tw8182618216599632584:Nat:=0
def PySem.W.Fast.tw7923951823485262926:Nat:=0
def PySem.W.Fast.tw8544593322885061678:Nat:=0
def PySem.W.Fast.tw17414653379723706655:Nat:=0
def PySem.W.Fast.tw13139684893779457341:Nat:=0
def PySem.W.Fast.tw15702985377922772670:Nat:=0
def PySem.W.Fast.tw6633269830286982686:Nat:=0
def PySem.W.Fast.tw10562684141440453102:Nat:=0
def PySem.W.Fast.tw8253935397971670120:Nat:=0
def PySem.W.Fast.tw15000723940718775467:Nat:=0
def PySem.W.Fast.tw16310375142215230115:Nat:=0
def PySem.W.Fast.tw7608174627269040673:Nat:=0
def PySem.W.Fast.tw17606278005507963082:Nat:=0
def PySem.W.Fast.tw17463770411279771902:Nat:=0
def PySem.W.Fast.tw3279960177801583254:Nat:=0
def PySem.W.Fast.tw10069250632899829347:Nat:=0
def PySem.W.Fast.tw14832973546426762990:Nat:=0
def PySem.W.Fast.tw13232073478495660793:Nat:=0
def PySem.W.Fast.tw6776436360639622869:Nat:=0
def PySem.W.Fast.tw14503877468479556837:Nat:=0
def PySem.W.Fast.tw13775804922283736891:Nat:=0
def PySem.W.Fast.tw132530507454224983:Nat:=0
def PySem.W.Fast.tw1812624235538727798:Nat:=0
def PySem.W.Fast.tw11025050320260574308:Nat:=0
def PySem.W.Fast.tw2631432143262766295:Nat:=0
def PySem.W.Fast.tw14919263307914708126:Nat:=0
def PySem.W.Fast.tw17258785332013499163:Nat:=0
def PySem.W.Fast.tw3926562591918215869:Nat:=0
def PySem.W.Fast.tw11256751641906576052:Nat:=0
def PySem.W.Fast.tw15642390422233261732:Nat:=0
def PySem.W.Fast.tw15194757850095175449:Nat:=0
def PySem.W.Fast.tw12661284311030944036:Nat:=0
def PySem.W.Fast.tw10974240709001372837:Nat:=0
def PySem.W.Fast.tw1042309498357347176:Nat:=0
def PySem.W.Fast.tw991577298083003638:Nat:=0
def PySem.W.Fast.tw16074267055288288657:Nat:=0
def PySem.W.Fast.tw5275968372143705904:Nat:=0
def PySem.W.Fast.tw9221461732873256941:Nat:=0
def PySem.W.Fast.tw4532287053543722073:Nat:=0
def PySem.W.Fast.tw2496783176967520580:Nat:=0
def PySem.W.Fast.tw13656970716875000699:Nat:=0
def PySem.W.Fast.tw14820558158299045278:Nat:=0
def PySem.W.Fast.tw10773055082624173348:Nat:=0
def PySem.W.Fast.tw9318917326744963906:Nat:=0
def PySem.W.Fast.tw15491115498002441560:Nat:=0
def PySem.W.Fast.tw1874822858426211847:Nat:=0
def PySem.W.Fast.tw11185224906402999409:Nat:=0
def PySem.W.Fast.tw9336633765097671602:Nat:=0
def PySem.W.Fast.tw13368241732407447942:Nat:=0
def PySem.W.Fast.tw17318484706054970935:Nat:=0
def PySem.W.Fast.tw15779067790162782589:Nat:=0
def PySem.W.Fast.tw18318878081491944422:Nat:=0
def PySem.W.Fast.tw2978424138935565976:Nat:=0
def PySem.W.Fast.tw8446443923055834083:Nat:=0
def PySem.W.Fast.tw2069163848551083044:Nat:=0
def PySem.W.Fast.tw18353305283260458262:Nat:=0
def PySem.W.Fast.tw299559729970691070:Nat:=0
def PySem.W.Fast.tw7360410915898444552:Nat:=0
def PySem.W.Fast.tw5695199139294499289:Nat:=0
def PySem.W.Fast.tw3019439468864269685:Nat:=0
def PySem.W.Fast.tw11101968381923641040:Nat:=0
def PySem.W.Fast.tw4989647234051696651:Nat:=0
def PySem.W.Fast.tw1512852673867568628:Nat:=0
def PySem.W.Fast.tw16700331161776100288:Nat:=0
def PySem.W.Fast.tw802356345759775029:Nat:=0
def PySem.W.Fast.tw17954663213864135249:Nat:=0
def PySem.W.Fast.tw18154580721285460951:Nat:=0
def PySem.W.Fast.tw6205865616898484066:Nat:=0
def PySem.W.Fast.tw8372105288631075521:Nat:=0
def PySem.W.Fast.tw16924852435899007601:Nat:=0
def PySem.W.Fast.tw3902858878412346081:Nat:=0
def PySem.W.Fast.tw7975834368953043521:Nat:=0
def PySem.W.Fast.tw1720680198265069030:Nat:=0
def PySem.W.Fast.tw5355065068658295408:Nat:=0
def PySem.W.Fast.tw849017882027685530:Nat:=0
def PySem.W.Fast.tw5312977816903589506:Nat:=0
def PySem.W.Fast.tw4432729158911928743:Nat:=0
def PySem.W.Fast.tw9852047022131317959:Nat:=0
def PySem.W.Fast.tw3753906576554280386:Nat:=0
def PySem.W.Fast.tw604224901844153156:Nat:=0
def PySem.W.Fast.tw7219778520146005764:Nat:=0
def PySem.W.Fast.tw17674454298647323908:Nat:=0
def PySem.W.Fast.tw17946267106716621953:Nat:=0
def PySem.W.Fast.tw11895093746119424493:Nat:=0
def PySem.W.Fast.tw15134939002153318796:Nat:=0
def PySem.W.Fast.tw7387323656751204451:Nat:=0
def PySem.W.Fast.tw1596502263125434826:Nat:=0
def PySem.W.Fast.tw10936253960622468925:Nat:=0
def PySem.W.Fast.tw15899391125974607225:Nat:=0
def PySem.W.Fast.tw4667962004214264971:Nat:=0
def PySem.W.Fast.tw289457249946164896:Nat:=0
def PySem.W.Fast.tw9936250429468255332:Nat:=0
def PySem.W.Fast.tw10033405344119770416:Nat:=0
def PySem.W.Fast.tw10326706257719813707:Nat:=0
def PySem.W.Fast.tw12979736138634015386:Nat:=0
def PySem.W.Fast.tw9433192179654662069:Nat:=0
def PySem.W.Fast.tw6564975502883959798:Nat:=0
def PySem.W.Fast.tw7445928260757448724:Nat:=0
def PySem.W.Fast.tw16933810619271407477:Nat:=0
def PySem.W.Fast.tw7287509886124324990:Nat:=0
def PySem.W.Fast.tw7278032420648884574:Nat:=0
def PySem.W.Fast.tw8402282912856509511:Nat:=0
def PySem.W.Fast.tw9144858414307626052:Nat:=0
def PySem.W.Fast.tw291144381032416532:Nat:=0
def PySem.W.Fast.tw2335697584983209345:Nat:=0
def PySem.W.Fast.tw1081288070286504048:Nat:=0
def PySem.W.Fast.tw560144089684528914:Nat:=0
def PySem.W.Fast.tw2641409634301169788:Nat:=0
def PySem.W.Fast.tw5748666905647717831:Nat:=0
def PySem.W.Fast.tw2263657700822481071:Nat:=0
def PySem.W.Fast.tw10121549366479147597:Nat:=0
def PySem.W.Fast.tw18313386871297115934:Nat:=0
def PySem.W.Fast.tw9351670158360540869:Nat:=0
def PySem.W.Fast.tw2535255300998703353:Nat:=0
def PySem.W.Fast.tw12856410781660440549:Nat:=0
def PySem.W.Fast.tw9610478653495690917:Nat:=0
def PySem.W.Fast.tw13088356686683353042:Nat:=0
def PySem.W.Fast.tw13617652058472741296:Nat:=0
def PySem.W.Fast.tw4192229057429615833:Nat:=0
def PySem.W.Fast.tw14601477430216552208:Nat:=0
def PySem.W.Fast.tw6237650839749523154:Nat:=0
def PySem.W.Fast.tw11151501861840739947:Nat:=0
def PySem.W.Fast.tw15753595741639843599:Nat:=0
def PySem.W.Fast.tw11133650178419113810:Nat:=0
def PySem.W.Fast.tw6885613532158628330:Nat:=0
def PySem.W.Fast.tw3374947073843899079:Nat:=0
def PySem.W.Fast.tw3235703634354169077:Nat:=0
def PySem.W.Fast.tw15854479857547894:Nat:=0
def PySem.W.Fast.tw17886628347625247817:Nat:=0
def PySem.W.Fast.tw2700932731255584541:Nat:=0
def PySem.W.Fast.tw7362223458637491448:Nat:=0
def PySem.W.Fast.tw14153248188241249065:Nat:=0
def PySem.W.Fast.tw15382151630099996594:Nat:=0
def PySem.W.Fast.tw5089902509215145491:Nat:=0
def PySem.W.Fast.tw7801782946368310758:Nat:=0
def PySem.W.Fast.tw17284676554368521662:Nat:=0
def PySem.W.Fast.tw12681952471113951523:Nat:=0
def PySem.W.Fast.tw6460988613495829849:Nat:=0
def PySem.W.Fast.tw2725053384300140712:Nat:=0
def PySem.W.Fast.tw3623687411060719496:Nat:=0
def PySem.W.Fast.tw1728867025610976318:Nat:=0
def PySem.W.Fast.tw2265856265441599487:Nat:=0
def PySem.W.Fast.tw4236103294687999525:Nat:=0
def PySem.W.Fast.tw6966687179420918209:Nat:=0
def PySem.W.Fast.tw15050529061022528035:Nat:=0
def PySem.W.Fast.tw18074929103613774804:Nat:=0
def PySem.W.Fast.tw13730220171779045555:Nat:=0
namespace L2
theorem ofLen0 {p:List Value→Prop} (h:Unit→p []):∀ us,us.length = 0→p us:=fun us e=>by rw [List.length_eq_zero_iff.mp e]; exact h ()
theorem ofLen1 {p:List Value→Prop} (h:∀ a,p [a]):∀ us,us.length = 1→p us:=fun us e=>by obtain ⟨a,rfl⟩:=List.length_eq_one_iff.mp e; exact h a
theorem ofLen2 {p:List Value→Prop} (h:∀ a b,p [a,b]):∀ us,us.length = 2→p us:=fun us e=>match us with
 | []=>by cases e
 | a :: r=>ofLen1 (p:=fun z=>p (a :: z)) (h a) r (Nat.succ.inj e)
theorem ofLen3 {p:List Value→Prop} (h:∀ a b c,p [a,b,c]):∀ us,us.length = 3→p us:=fun us e=>match us with
 | []=>by cases e
 | a :: r=>ofLen2 (p:=fun z=>p (a :: z)) (h a) r (Nat.succ.inj e)
theorem ofLen4 {p:List Value→Prop} (h:∀ a b c d,p [a,b,c,d]):∀ us,us.length = 4→p us:=fun us e=>match us with
 | []=>by cases e
 | a :: r=>ofLen3 (p:=fun z=>p (a :: z)) (h a) r (Nat.succ.inj e)
theorem ofLen5 {p:List Value→Prop} (h:∀ a b c d e,p [a,b,c,d,e]):∀ us,us.length = 5→p us:=fun us e=>match us with
 | []=>by cases e
 | a :: r=>ofLen4 (p:=fun z=>p (a :: z)) (h a) r (Nat.succ.inj e)
theorem ofLen6 {p:List Value→Prop} (h:∀ a b c d e f,p [a,b,c,d,e,f]):∀ us,us.length = 6→p us:=fun us e=>match us with
 | []=>by cases e
 | a :: r=>ofLen5 (p:=fun z=>p (a :: z)) (h a) r (Nat.succ.inj e)
theorem ofLen7 {p:List Value→Prop} (h:∀ a b c d e f g,p [a,b,c,d,e,f,g]):∀ us,us.length = 7→p us:=fun us e=>match us with
 | []=>by cases e
 | a :: r=>ofLen6 (p:=fun z=>p (a :: z)) (h a) r (Nat.succ.inj e)
theorem ofLen8 {p:List Value→Prop} (h:∀ a b c d e f g h,p [a,b,c,d,e,f,g,h]):∀ us,us.length = 8→p us:=fun us e=>match us with
 | []=>by cases e
 | a :: r=>ofLen7 (p:=fun z=>p (a :: z)) (h a) r (Nat.succ.inj e)
end L2
set_option maxRecDepth 100000 in
set_option maxHeartbeats 0 in
theorem PySem.Challenge.cw_regrowth_k30_first_kinds_holds : PySem.Challenge.rw_regrowth_k30_first_kinds.Holds := by
 w_on; o_law; k_head; (case hw=>w_witness2)
 k_fill
 refine L2.walk_ofK (l:=PySem.Challenge.rw_regrowth_k30_first_kinds) (n:=63) (k:=5) (x:="_law_script") (CX:=L2.CX0) (sp:=K30.spLaw) rfl (by decide) rfl ⟨rfl,by decide,by decide,rfl⟩ (fun w h Y=>PySem.W.kIn_of Y) ?F ?S ?C
 case F =>
  intro w mg fa h KX G hmg
  have R0:L2.Raw (L2.KOf KX) mg "check_rules" K30.st_check_rules ["rules"]:=by
   dsimp only [L2.KOf]
   refine' L2.Raw.mk' KX G ?a0 ?l0 ?c0 ?k0 ?b0
   (case a0=>k_is)
   (case l0=>k_is)
   (case c0=>k_is)
   (case k0=>k_is)
   exact L2.ofLen1 fun _=>rfl
  have R1:L2.Raw (L2.KOf KX) mg "check_rule" K30.st_check_rule ["sort","rank","side","parts"]:=by
   dsimp only [L2.KOf]
   refine' L2.Raw.mk' KX G ?a1 ?l1 ?c1 ?k1 ?b1
   (case a1=>k_is)
   (case l1=>k_is)
   (case c1=>k_is)
   (case k1=>k_is)
   exact L2.ofLen4 fun _ _ _ _=>rfl
  have R2:L2.Raw (L2.KOf KX) mg "ranks_of" K30.st_ranks_of ["rules","sort"]:=by
   dsimp only [L2.KOf]
   refine' L2.Raw.mk' KX G ?a2 ?l2 ?c2 ?k2 ?b2
   (case a2=>k_is)
   (case l2=>k_is)
   (case c2=>k_is)
   (case k2=>k_is)
   exact L2.ofLen2 fun _ _=>rfl
  have R3:L2.Raw (L2.KOf KX) mg "floor_of" K30.st_floor_of ["rules","number","place"]:=by
   dsimp only [L2.KOf]
   refine' L2.Raw.mk' KX G ?a3 ?l3 ?c3 ?k3 ?b3
   (case a3=>k_is)
   (case l3=>k_is)
   (case c3=>k_is)
   (case k3=>k_is)
   exact L2.ofLen3 fun _ _ _=>rfl
  have R4:L2.Raw (L2.KOf KX) mg "rank_above" K30.st_rank_above ["ranks","rank"]:=by
   dsimp only [L2.KOf]
   refine' L2.Raw.mk' KX G ?a4 ?l4 ?c4 ?k4 ?b4
   (case a4=>k_is)
   (case l4=>k_is)
   (case c4=>k_is)
   (case k4=>k_is)
   exact L2.ofLen2 fun _ _=>rfl
  have R5:L2.Raw (L2.KOf KX) mg "plain_rules" K30.st_plain_rules ["rules"]:=by
   dsimp only [L2.KOf]
   refine' L2.Raw.mk' KX G ?a5 ?l5 ?c5 ?k5 ?b5
   (case a5=>k_is)
   (case l5=>k_is)
   (case c5=>k_is)
   (case k5=>k_is)
   exact L2.ofLen1 fun _=>rfl
  have R6:L2.Raw (L2.KOf KX) mg "symbols_of" K30.st_symbols_of ["rules","number"]:=by
   dsimp only [L2.KOf]
   refine' L2.Raw.mk' KX G ?a6 ?l6 ?c6 ?k6 ?b6
   (case a6=>k_is)
   (case l6=>k_is)
   (case c6=>k_is)
   (case k6=>k_is)
   exact L2.ofLen2 fun _ _=>rfl
  have R7:L2.Raw (L2.KOf KX) mg "sorts_of" K30.st_sorts_of ["rules"]:=by
   dsimp only [L2.KOf]
   refine' L2.Raw.mk' KX G ?a7 ?l7 ?c7 ?k7 ?b7
   (case a7=>k_is)
   (case l7=>k_is)
   (case c7=>k_is)
   (case k7=>k_is)
   exact L2.ofLen1 fun _=>rfl
  have R8:L2.Raw (L2.KOf KX) mg "plain_of_sort" K30.st_plain_of_sort ["rules","parts","sort"]:=by
   dsimp only [L2.KOf]
   refine' L2.Raw.mk' KX G ?a8 ?l8 ?c8 ?k8 ?b8
   (case a8=>k_is)
   (case l8=>k_is)
   (case c8=>k_is)
   (case k8=>k_is)
   exact L2.ofLen3 fun _ _ _=>rfl
  have R9:L2.Raw (L2.KOf KX) mg "check_fruitful" K30.st_check_fruitful ["plain"]:=by
   dsimp only [L2.KOf]
   refine' L2.Raw.mk' KX G ?a9 ?l9 ?c9 ?k9 ?b9
   (case a9=>k_is)
   (case l9=>k_is)
   (case c9=>k_is)
   (case k9=>k_is)
   exact L2.ofLen1 fun _=>rfl
  have R10:L2.Raw (L2.KOf KX) mg "check_reached" K30.st_check_reached ["rules"]:=by
   dsimp only [L2.KOf]
   refine' L2.Raw.mk' KX G ?a10 ?l10 ?c10 ?k10 ?b10
   (case a10=>k_is)
   (case l10=>k_is)
   (case c10=>k_is)
   (case k10=>k_is)
   exact L2.ofLen1 fun _=>rfl
  have R11:L2.Raw (L2.KOf KX) mg "first_kinds" K30.st_first_kinds ["plain"]:=by
   dsimp only [L2.KOf]
   refine' L2.Raw.mk' KX G ?a11 ?l11 ?c11 ?k11 ?b11
   (case a11=>k_is)
   (case l11=>k_is)
   (case c11=>k_is)
   (case k11=>k_is)
   exact L2.ofLen1 fun _=>rfl
  have R12:L2.Raw (L2.KOf KX) mg "none_yet" K30.st_none_yet ["plain"]:=by
   dsimp only [L2.KOf]
   refine' L2.Raw.mk' KX G ?a12 ?l12 ?c12 ?k12 ?b12
   (case a12=>k_is)
   (case l12=>k_is)
   (case c12=>k_is)
   (case k12=>k_is)
   exact L2.ofLen1 fun _=>rfl
  have R13:L2.Raw (L2.KOf KX) mg "firsts_of" K30.st_firsts_of ["firsts","part"]:=by
   dsimp only [L2.KOf]
   refine' L2.Raw.mk' KX G ?a13 ?l13 ?c13 ?k13 ?b13
   (case a13=>k_is)
   (case l13=>k_is)
   (case c13=>k_is)
   (case k13=>k_is)
   exact L2.ofLen2 fun _ _=>rfl
  have R14:L2.Raw (L2.KOf KX) mg "put_in" K30.st_put_in ["kinds","more"]:=by
   dsimp only [L2.KOf]
   refine' L2.Raw.mk' KX G ?a14 ?l14 ?c14 ?k14 ?b14
   (case a14=>k_is)
   (case l14=>k_is)
   (case c14=>k_is)
   (case k14=>k_is)
   exact L2.ofLen2 fun _ _=>rfl
  have R15:L2.Raw (L2.KOf KX) mg "sorted_lists" K30.st_sorted_lists ["kinds"]:=by
   dsimp only [L2.KOf]
   refine' L2.Raw.mk' KX G ?a15 ?l15 ?c15 ?k15 ?b15
   (case a15=>k_is)
   (case l15=>k_is)
   (case c15=>k_is)
   (case k15=>k_is)
   exact L2.ofLen1 fun _=>rfl
  have R16:L2.Raw (L2.KOf KX) mg "_law_cell_at" K30.st__law_cell_at ["_law_script","_law_k"]:=by
   dsimp only [L2.KOf]
   refine' L2.Raw.mk' KX G ?a16 ?l16 ?c16 ?k16 ?b16
   (case a16=>k_is)
   (case l16=>k_is)
   (case c16=>k_is)
   (case k16=>k_is)
   exact L2.ofLen2 fun _ _=>rfl
  have R17:L2.Raw (L2.KOf KX) mg "_law_names" K30.st__law_names ["_law_cell","_law_many"]:=by
   dsimp only [L2.KOf]
   refine' L2.Raw.mk' KX G ?a17 ?l17 ?c17 ?k17 ?b17
   (case a17=>k_is)
   (case l17=>k_is)
   (case c17=>k_is)
   (case k17=>k_is)
   exact L2.ofLen2 fun _ _=>rfl
  have R18:L2.Raw (L2.KOf KX) mg "_law_mixed" K30.st__law_mixed ["_law_cell","_law_k"]:=by
   dsimp only [L2.KOf]
   refine' L2.Raw.mk' KX G ?a18 ?l18 ?c18 ?k18 ?b18
   (case a18=>k_is)
   (case l18=>k_is)
   (case c18=>k_is)
   (case k18=>k_is)
   exact L2.ofLen2 fun _ _=>rfl
  have R19:L2.Raw (L2.KOf KX) mg "_law_rule" K30.st__law_rule ["_law_cell","_law_names_here","_law_few"]:=by
   dsimp only [L2.KOf]
   refine' L2.Raw.mk' KX G ?a19 ?l19 ?c19 ?k19 ?b19
   (case a19=>k_is)
   (case l19=>k_is)
   (case c19=>k_is)
   (case k19=>k_is)
   exact L2.ofLen3 fun _ _ _=>rfl
  have R20:L2.Raw (L2.KOf KX) mg "_law_rules" K30.st__law_rules ["_law_script"]:=by
   dsimp only [L2.KOf]
   refine' L2.Raw.mk' KX G ?a20 ?l20 ?c20 ?k20 ?b20
   (case a20=>k_is)
   (case l20=>k_is)
   (case c20=>k_is)
   (case k20=>k_is)
   exact L2.ofLen1 fun _=>rfl
  have R21:L2.Raw (L2.KOf KX) mg "_law_corners" K30.st__law_corners ["_law_plain","_law_symbol"]:=by
   dsimp only [L2.KOf]
   refine' L2.Raw.mk' KX G ?a21 ?l21 ?c21 ?k21 ?b21
   (case a21=>k_is)
   (case l21=>k_is)
   (case c21=>k_is)
   (case k21=>k_is)
   exact L2.ofLen2 fun _ _=>rfl
  have R22:L2.Raw (L2.KOf KX) mg "_law_due" K30.st__law_due ["_law_plain"]:=by
   dsimp only [L2.KOf]
   refine' L2.Raw.mk' KX G ?a22 ?l22 ?c22 ?k22 ?b22
   (case a22=>k_is)
   (case l22=>k_is)
   (case c22=>k_is)
   (case k22=>k_is)
   exact L2.ofLen1 fun _=>rfl
  have R23:L2.Raw (L2.KOf KX) mg "_law_alike" K30.st__law_alike ["_law_found","_law_due_here"]:=by
   dsimp only [L2.KOf]
   refine' L2.Raw.mk' KX G ?a23 ?l23 ?c23 ?k23 ?b23
   (case a23=>k_is)
   (case l23=>k_is)
   (case c23=>k_is)
   (case k23=>k_is)
   exact L2.ofLen2 fun _ _=>rfl
  have R24:L2.Raw (L2.KOf KX) mg "law" K30.st_law ["_law_script"]:=by
   dsimp only [L2.KOf]
   refine' L2.Raw.mk' KX G ?a24 ?l24 ?c24 ?k24 ?b24
   (case a24=>k_is)
   (case l24=>k_is)
   (case c24=>k_is)
   (case k24=>k_is)
   exact L2.ofLen1 fun _=>rfl
  have n_all:mg "all" = none:=PySem.W.mg_none_of KX G (by k_is)
  have n_any:mg "any" = none:=PySem.W.mg_none_of KX G (by k_is)
  have n_bool:mg "bool" = none:=PySem.W.mg_none_of KX G (by k_is)
  have n_dict:mg "dict" = none:=PySem.W.mg_none_of KX G (by k_is)
  have n_enumerate:mg "enumerate" = none:=PySem.W.mg_none_of KX G (by k_is)
  have n_int:mg "int" = none:=PySem.W.mg_none_of KX G (by k_is)
  have n_isinstance:mg "isinstance" = none:=PySem.W.mg_none_of KX G (by k_is)
  have n_len:mg "len" = none:=PySem.W.mg_none_of KX G (by k_is)
  have n_list:mg "list" = none:=PySem.W.mg_none_of KX G (by k_is)
  have n_min:mg "min" = none:=PySem.W.mg_none_of KX G (by k_is)
  have n_range:mg "range" = none:=PySem.W.mg_none_of KX G (by k_is)
  have n_set:mg "set" = none:=PySem.W.mg_none_of KX G (by k_is)
  have n_sorted:mg "sorted" = none:=PySem.W.mg_none_of KX G (by k_is)
  have n_str:mg "str" = none:=PySem.W.mg_none_of KX G (by k_is)
  have n_tuple:mg "tuple" = none:=PySem.W.mg_none_of KX G (by k_is)
  have n_zip:mg "zip" = none:=PySem.W.mg_none_of KX G (by k_is)
  have g_NO_RULE:∃ t,mg "NO_RULE" = some (.int (-1) t):=by
   refine' L2.int_mk KX G ?aNO_RULE
   (case aNO_RULE=>k_is)
  have g_MOST_RULES:∃ t,mg "MOST_RULES" = some (.int 24 t):=by
   refine' L2.int_mk KX G ?aMOST_RULES
   (case aMOST_RULES=>k_is)
  have g_MOST_RANK:∃ t,mg "MOST_RANK" = some (.int 99 t):=by
   refine' L2.int_mk KX G ?aMOST_RANK
   (case aMOST_RANK=>k_is)
  have g_MOST_PARTS:∃ t,mg "MOST_PARTS" = some (.int 8 t):=by
   refine' L2.int_mk KX G ?aMOST_PARTS
   (case aMOST_PARTS=>k_is)
  have g_TOP:∃ t,mg "TOP" = some (.ref t)∧∀ H,L2.SqT (L2.KOf KX) H t [.str "",.int (0)]:=by
   dsimp only [L2.KOf]
   refine' L2.tup_mk KX G ?aTOP ?lTOP ?zTOP ?vTOP
   (case aTOP=>k_is)
   (case lTOP=>k_is)
   (case zTOP=>decide)
   (case vTOP=>exact .cons ⟨_,rfl⟩ (.cons ⟨_,rfl⟩ .nil))
  obtain ⟨a_TOP,g_TOP,k_TOP⟩:=g_TOP
  have g_SIDES:∃ t,mg "SIDES" = some (.ref t)∧∀ H,L2.SqT (L2.KOf KX) H t [.str "left",.str "right",.str "none"]:=by
   dsimp only [L2.KOf]
   refine' L2.tup_mk KX G ?aSIDES ?lSIDES ?zSIDES ?vSIDES
   (case aSIDES=>k_is)
   (case lSIDES=>k_is)
   (case zSIDES=>decide)
   (case vSIDES=>exact .cons ⟨_,rfl⟩ (.cons ⟨_,rfl⟩ (.cons ⟨_,rfl⟩ .nil)))
  obtain ⟨a_SIDES,g_SIDES,k_SIDES⟩:=g_SIDES
  have g_NO_NAMES:∃ t,mg "NO_NAMES" = some (.ref t)∧∀ H,L2.SqT (L2.KOf KX) H t [.str "",.str "end",.str "stray"]:=by
   dsimp only [L2.KOf]
   refine' L2.tup_mk KX G ?aNO_NAMES ?lNO_NAMES ?zNO_NAMES ?vNO_NAMES
   (case aNO_NAMES=>k_is)
   (case lNO_NAMES=>k_is)
   (case zNO_NAMES=>decide)
   (case vNO_NAMES=>exact .cons ⟨_,rfl⟩ (.cons ⟨_,rfl⟩ (.cons ⟨_,rfl⟩ .nil)))
  obtain ⟨a_NO_NAMES,g_NO_NAMES,k_NO_NAMES⟩:=g_NO_NAMES
  have T2:∃ CF CB CI CN,K30.Cls (L2.KOf KX) mg CF CB CI CN:=by
   dsimp only [L2.KOf]
   refine' K30.cls_mk KX G  ?aF ?aB ?aI ?aN ?z1F ?z1B ?z1I ?z1N
   (case aF=>k_is)
   (case aB=>k_is)
   (case aI=>k_is)
   (case aN=>k_is)
   (case z1F=>first | k_exc | rfl | decide)
   (case z1B=>first | k_exc | rfl | decide)
   (case z1I=>first | k_exc | rfl | decide)
   (case z1N=>first | k_exc | rfl | decide)
  obtain ⟨CF,CB,CI,CN,T2⟩:=T2
  have T:K30.Txt (L2.KOf KX) w mg a_TOP:=⟨n_set,n_sorted,n_len,n_list,n_tuple,n_int,n_str,n_bool,n_min,n_all,n_zip,n_range,n_enumerate,n_isinstance,n_dict,g_NO_RULE,g_TOP,k_TOP⟩
  have TR:K30.TxR mg:=⟨n_set,n_sorted⟩
  have TN:K30.TxN (L2.KOf KX) mg a_SIDES a_NO_NAMES CN:=⟨n_len,n_any,g_MOST_RULES,g_MOST_RANK,g_MOST_PARTS,g_SIDES,g_NO_NAMES,k_SIDES,k_NO_NAMES,T2.c_NoRule,T2.x_NoRule⟩
  have TF:K30.TxF (L2.KOf KX) mg CF:=⟨T2.c_NoFloor,T2.x_NoFloor⟩
  have TB:K30.TxB (L2.KOf KX) mg CB:=⟨T2.c_Barren,T2.x_Barren,n_all,n_isinstance,n_str⟩
  have TI:K30.TxI (L2.KOf KX) mg CI:=⟨T2.c_Idle,T2.x_Idle⟩
  obtain ⟨f,fd,hf,Fu,hb⟩:=R24.ex
  have e0:=hmg.symm.trans hf
  cases e0
  refine ⟨fd,fun s u=>?_,fun base kb nb=>(K30.law_of R0 R1 R2 R3 R4 R5 R6 R7 R8 R9 R10 R11 R12 R13 R14 R15 R16 R17 R18 R19 R20 R21 R22 R23 ⟨⟨_,fd,hf,Fu,hb⟩⟩ T TR TN TF TB TI).at hf Fu.lk⟩
  exact .of_eq (hb [u] rfl)
 case S=>exact fun K H a ns hl hO hS=>⟨a,ns,rfl,hS,hl,fun _=>rfl⟩
 case C=>exact fun _ _ _ _ z=>z
